import PyProof.Rows.All
import Wide.All
import OpenK.AllK
import Wide.FinOn
import Lean
import PyProof.EqAt
import PyProof.EqKinds
import PyProof.TupleCall
import PySem.Challenge.RW_evenwebs_k48_whole_webs_of_fields
import PyProof.P3In
import PyProof.EqLayable
import PyProof.SumAny
import PyProof.NoPylong
import PyProof.FitsBits
import PyProof.Rows.Range3
import PyProof.DictRoads
import PyProof.DictKinds
import PyProof.Rows.FactsT2
import KE.KRevIter
import PyProof.SetScanFacts
import PyProof.SetKind
import PyProof.Rows.SetFrom
import PyProof.Walks
import PyProof.DictValues
import PyProof.FactsAll.set_1
import PyProof.DictWalks
import KE.KDictSum
import PyProof.SetRoads
import PyProof.MeetsSeq2
import PyProof.WalksMore
import KE.KLam
set_option Elab.async false
set_option linter.all false
set_option maxHeartbeats 4000000
set_option maxRecDepth 100000
set_option bootstrap.genMatcherCode false
set_option genSizeOfSpec false
set_option genSizeOf false
noncomputable section
namespace L2
open PySem PySem.Spec PyProof.Rows
abbrev Key:=Sum Int Str
def keyIs:Key→Value→Bool
  | .inl k,v=>Value.isInt k v
  | .inr x,v=>Value.isStrOf x v
def keyH (w:World):Key→Int
  | .inl k=>hashInt k
  | .inr x=>hashStr w x
theorem qbh:∀ {k:Key} {v:Value},keyIs k v=true→(∃ i t,k=Sum.inl i∧v=Value.int i t)∨(∃ x t,k=Sum.inr x∧v=Value.str x t)
  | .inl i,v,h=>by
    obtain ⟨t,e⟩:=Value.isInt_shape (k:=i) (v:=v) h
    exact .inl ⟨i,t,rfl,e⟩
  | .inr x,v,h=>by
    obtain ⟨t,e⟩:=Value.isStrOf_shape (x:=x) (v:=v) h
    exact .inr ⟨x,t,rfl,e⟩
theorem key_ll (a b:Int):decide ((Sum.inl a:Key)=Sum.inl b)=(a == b):=by
  by_cases e:a=b
  · subst e; simp
  · have h:¬ (Sum.inl a:Key)=Sum.inl b:=fun q=>e (Sum.inl.inj q)
    rw [decide_eq_false h]
    exact (beq_eq_false_iff_ne.mpr e).symm
theorem key_rr (a b:Str):decide ((Sum.inr a:Key)=Sum.inr b)=decide (a=b):=by
  by_cases e:a=b
  · subst e; simp
  · have h:¬ (Sum.inr a:Key)=Sum.inr b:=fun q=>e (Sum.inr.inj q)
    rw [decide_eq_false h,decide_eq_false e]
theorem key_lr (a:Int) (b:Str):decide ((Sum.inl a:Key)=Sum.inr b)=false:=decide_eq_false (fun q=>nomatch q)
theorem key_rl (a:Str) (b:Int):decide ((Sum.inr a:Key)=Sum.inl b)=false:=decide_eq_false (fun q=>nomatch q)
def mixKind (prog:Program) (w:World):PySem.KeyKind prog w Key where
  is:=keyIs
  hash:=keyH w
  inj:=fun v a b ha hb=>by
    rcases qbh ha with ⟨i,t,rfl,rfl⟩ | ⟨x,t,rfl,rfl⟩
    · rcases qbh hb with ⟨j,u,rfl,e⟩ | ⟨y,u,rfl,e⟩
      · injection e with e1 _; rw [e1]
      · exact nomatch e
    · rcases qbh hb with ⟨j,u,rfl,e⟩ | ⟨y,u,rfl,e⟩
      · exact nomatch e
      · injection e with e1 _; rw [e1]
  byValue:=fun k v h=>by
    rcases qbh h with ⟨i,t,rfl,rfl⟩ | ⟨x,t,rfl,rfl⟩ <;> rfl
  pyHash:=fun hv h=>by
    rcases qbh hv with ⟨i,t,rfl,rfl⟩ | ⟨x,t,rfl,rfl⟩
    · exact wpAny_pyHash_int h
    · exact wpAny_pyHash_str h
  eqBool:=fun hu hv h=>by
    rcases qbh hu with ⟨i,t,rfl,rfl⟩ | ⟨x,t,rfl,rfl⟩
    · rcases qbh hv with ⟨j,u,rfl,rfl⟩ | ⟨y,u,rfl,rfl⟩
      · rw [key_ll] at h; exact wpAny_eqBool_int h
      · rw [key_lr] at h; exact SeqAt.EqAt.int_str i t y u _ _ _ _ h
    · rcases qbh hv with ⟨j,u,rfl,rfl⟩ | ⟨y,u,rfl,rfl⟩
      · rw [key_rl] at h; exact SeqAt.EqAt.str_int x t j u _ _ _ _ h
      · rw [key_rr] at h; exact wpAny_eqBool_str h
  «strs»:=fun k x t v h=>by
    rcases qbh h with ⟨i,u,rfl,e⟩ | ⟨y,u,rfl,e⟩
    · exact nomatch e
    · injection e with e1 _
      subst e1
      cases v <;> rfl
end L2
namespace L2
open PySem PySem.Spec PyProof.Rows
inductive V where
  | non | bl (b:Bool) | int (i:Int) | str (x:Str) | byt (b:Array UInt8) | flt (b:UInt64) | ref (a:Addr) | ty (n:String)
  deriving DecidableEq
def RelV:V→Value→Prop
  | .non,u=>u=Value.none
  | .bl b,u=>u=Value.bool b
  | .int i,u=>∃ t,u=Value.int i t
  | .str x,u=>∃ t,u=Value.str x t
  | .byt b,u=>∃ t,u=Value.bytes b t
  | .flt b,u=>∃ t,u=Value.float b t
  | .ref a,u=>u=Value.ref a
  | .ty n,u=>u=Value.type n
abbrev Vals:List V→List Value→Prop:=Paired RelV
theorem Vals.length {xs:List V} {us:List Value} (r:Vals xs us):xs.length=us.length:=Paired.length r
theorem Vals.get:∀ {xs:List V} {us:List Value} {i:Nat} {x:V},Vals xs us→xs[i]? = some x→∃ u,us[i]? = some u∧RelV x u
  | _,_,_,_,.nil,e=>by simp at e
  | _,_,0,_,.cons r _,e=>by simp at e; subst e; exact ⟨_,rfl,r⟩
  | _,_,i + 1,x,.cons _ t,e=>by
    obtain ⟨u,h1,h2⟩:=Vals.get (i:=i) (x:=x) t (by simpa using e)
    exact ⟨u,by simpa using h1,h2⟩
theorem Vals.set {x:V} {u:Value} (r:RelV x u):∀ {xs:List V} {us:List Value} (i:Nat),Vals xs us→Vals (xs.set i x) (us.set i u)
  | _,_,_,.nil=>.nil
  | _,_,0,.cons _ t=>.cons r t
  | _,_,i + 1,.cons q t=>.cons q (Vals.set r i t)
theorem Vals.append:∀ {xs ys:List V} {us ws:List Value},Vals xs us→Vals ys ws→Vals (xs ++ ys) (us ++ ws)
  | _,_,_,_,.nil,s=>s
  | _,_,_,_,.cons r t,s=>.cons r (Vals.append t s)
theorem Vals.take:∀ {xs:List V} {us:List Value} (n:Nat),Vals xs us→Vals (xs.take n) (us.take n)
  | _,_,0,_=>.nil
  | _,_,_ + 1,.nil=>.nil
  | _,_,n + 1,.cons r t=>.cons r (Vals.take n t)
theorem Vals.drop:∀ {xs:List V} {us:List Value} (n:Nat),Vals xs us→Vals (xs.drop n) (us.drop n)
  | _,_,0,r=>r
  | _,_,_ + 1,.nil=>.nil
  | _,_,n + 1,.cons _ t=>Vals.drop n t
def RelO:Option V→Option Value→Prop
  | some v,some u=>RelV v u
  | none,none=>True
  | _,_=>False
def KV {κ:Type}:List (κ×V)→List (κ×Value)→Prop:=Paired fun (p:κ×V) (q:κ×Value)=>p.1=q.1∧RelV p.2 q.2
def kV:Key→V
  | .inl i=>.int i
  | .inr x=>.str x
inductive HO where
  /-- a list -/
  | lst (xs:List V)
  /-- a tuple (never changes) -/
  | tup (xs:List V)
  /-- a dict whose keys are ints and texts; one whose keys are tuples of ints and texts (the empty one is both) -/
  | dK (kvs:List (Key×V)) | dT (kvs:List (List Key×V))
  /-- a set of ints: its members,its size -/
  | set (S:Int→Bool) (n:Nat)
  /-- an instance of the class at C,its dict at dx,its attributes -/
  | ins (C dx:Addr) (fs:List (Str×V))
  /-- the dict of the instance at x -/
  | own (x:Addr)
  /-- the dict of an exception -/
  | xd (fs:List (Str×V))
  /-- a bound method,f of x -/
  | met (f x:Addr)
  /-- a range object lo,lo + 1,.. below hi -/
  | rng (lo hi:Int)
  /-- a thing that is known to the object (the script; a dict while a loop walks it): read,never written while it is so -/
  | frz (o:Obj) (u:HO)
  /-- a code object's table -/
  | tbl (ps:Array Value)
  /-- any other thing,by what is true of its one object (a def of one's own: SetO a S n:=HO.ext fun h=>..) -/
  | ext (φ:Heap→Prop)
abbrev Hp:=Addr→Option HO
def upd (H:Hp) (a:Addr) (o:HO):Hp:=fun b=>if b=a then some o else H b
theorem qaM {H:Hp} {a:Addr} {o:HO}:upd H a o a=some o:=by unfold upd; rw [if_pos rfl]
theorem qah {H:Hp} {a b:Addr} {o:HO} (h:b≠a):upd H a o b=H b:=by unfold upd; rw [if_neg h]
theorem ne_of {H:Hp} {a b:Addr} {o u:HO} (h:H a=some o) (h':H b=some u) (d:o≠u):a≠b:=by
  intro e; subst e; rw [h] at h'; exact d (Option.some.inj h')
theorem qab {H:Hp} {a b:Addr} {o:HO} (h:H a=some o) (h':H b=none):a≠b:=by
  intro e; subst e; rw [h] at h'; cases h'
def TupN (h:Heap) (a:Addr) (items:Array Value):Prop:=∃ o,h.get? a=some o∧o.cls=.type "tuple"∧(∃ n,o.data=.seq items n)∧o.dict=none
theorem TupN.tup {h:Heap} {a:Addr} {items:Array Value}:TupN h a items→IsTup h a items:=fun ⟨o,e,c,d,_⟩=>⟨o,e,c,d⟩
theorem TupN.new (h:Heap) (items:Array Value):TupN (h.push { cls:=.type "tuple",data:=.seq items }) h.objs.size items:=⟨_,Heap.get?_push_size _ rfl,rfl,⟨_,rfl⟩,rfl⟩
section
variable (P:Program) (w:World)
def ObjOk (H:Hp) (h:Heap) (a:Addr):HO→Prop
  | .lst xs=>xs.length≤sizeLine∧∃ (its:List Value) (n:Nat),Vals xs its∧h.get? a=some { cls:=.type "list",data:=.seq its.toArray n }
  | .tup xs=>xs.length≤sizeLine∧∃ its:List Value,Vals xs its∧TupN h a its.toArray
  | .dK kvs=>kvs.length≤sizeLine∧(a == sysModules)=false∧∃ vs,KV kvs vs∧h.DictOf (mixKind P w) a vs
  | .dT kvs=>kvs.length≤sizeLine∧(a == sysModules)=false∧∃ xs:List (List Key×Addr×Value),
      Paired (fun (p:List Key×V) (q:List Key×Addr×Value)=>p.1=q.1∧H q.2.1=some (.tup (p.1.map kV))∧RelV p.2 q.2.2) kvs xs ∧
      ∃ o es ep,h.get? a=some o∧o.ExactDict∧o.data=.dict es ep∧es.toList=xs.map (entryOfKey (tupleKind (mixKind P w)))∧(xs.map (·.1)).Nodup
  | .set S n=>h.SetOf (intKind P w) a S n
  | .ins C dx fs=>H dx=some (.own a)∧fs.length≤1000∧dx≠a∧h.get? a=some (PySem.W.instObj C dx) ∧
      ∃ mA,h.Ns1 dx mA∧(∀ f,RelO (fs.lookup f) (mA f))∧PySem.Within mA (fs.map (·.1))
  | .own _=>∃ o,h.get? a=some o
  | .xd fs=>∃ mA,h.Ns1 a mA∧∀ f,RelO (fs.lookup f) (mA f)
  | .rng lo hi=>∃ t u v,h.get? a=some { cls:=.type "range",data:=.fields #[.int lo t,.int hi u,.int 1 v] }
  | .frz o u=>h.get? a=some o∧ObjOk H h a u
  | .tbl ps=>h.get? a=some { cls:=.none,data:=.fields ps }
  | .met f x=>h.get? a=some (PySem.W.methodObj (.ref f) (.ref x))
  | .ext φ=>φ h∧(∃ o,h.get? a=some o)∧∀ h1 h2:Heap,φ h1→(∀ o,h1.get? a=some o→h2.get? a=some o)→φ h2
def HOk (H:Hp) (h:Heap):Prop:=∀ a o,H a=some o→ObjOk P w H h a o
end
section
variable {P:Program} {w:World} {H H':Hp} {h h':Heap} {a:Addr} {o:HO}
theorem ObjOk.lt (x:ObjOk P w H h a o):a < h.objs.size:=by
  cases o with
  | lst xs=>obtain ⟨_,_,_,_,e⟩:=x; exact Heap.lt_size e
  | tup xs=>obtain ⟨_,_,_,p⟩:=x; exact p.tup.lt
  | dK kvs=>obtain ⟨_,_,_,_,o,_,_,e,_⟩:=x; exact Heap.lt_size e
  | dT kvs=>obtain ⟨_,_,_,_,o,_,_,e,_⟩:=x; exact Heap.lt_size e
  | set S n=>obtain ⟨o,_,_,_,e,_⟩:=x; exact Heap.lt_size e
  | ins C dx fs=>obtain ⟨_,_,_,e,_⟩:=x; exact Heap.lt_size e
  | own y=>obtain ⟨_,e⟩:=x; exact Heap.lt_size e
  | xd fs=>obtain ⟨_,⟨_,_,_,e,_⟩,_⟩:=x; exact Heap.lt_size e
  | rng lo hi=>obtain ⟨_,_,_,e⟩:=x; exact Heap.lt_size e
  | frz ob u=>obtain ⟨e,_⟩:=x; exact Heap.lt_size e
  | tbl ps=>exact Heap.lt_size (show h.get? a=some _ from x)
  | met f y=>exact Heap.lt_size (show h.get? a=some _ from x)
  | ext φ=>obtain ⟨_,⟨_,e⟩,_⟩:=x; exact Heap.lt_size e
theorem Paired.mapP {α β:Type} {F G:α→β→Prop}:∀ {l₁:List α} {l₂:List β},Paired F l₁ l₂→(∀ a b,F a b→G a b)→Paired G l₁ l₂
  | _,_,.nil,_=>.nil
  | _,_,.cons r t,f=>.cons (f _ _ r) (Paired.mapP t f)
theorem ObjOk.stay (x:ObjOk P w H h a o) (k:∀ b u,(b=a∨H b=some (.own a))→h.get? b=some u→h'.get? b=some u)
    (ho:∀ b,H b=some (.own a)→H' b=some (.own a)) (ht:∀ b xs,H b=some (.tup xs)→H' b=some (.tup xs)):ObjOk P w H' h' a o:=by
  induction o with
  | lst xs=>obtain ⟨z,its,n,r,e⟩:=x; exact ⟨z,its,n,r,k _ _ (.inl rfl) e⟩
  | tup xs=>obtain ⟨z,its,r,ob,e,c⟩:=x; exact ⟨z,its,r,ob,k _ _ (.inl rfl) e,c⟩
  | dK kvs=>obtain ⟨z,y,vs,r,ob,es,ep,e,c⟩:=x; exact ⟨z,y,vs,r,ob,es,ep,k _ _ (.inl rfl) e,c⟩
  | dT kvs =>
    obtain ⟨z,y,xs,r,ob,es,ep,e,c⟩:=x
    exact ⟨z,y,xs,Paired.mapP r fun p q z=>⟨z.1,ht _ _ z.2.1,z.2.2⟩,ob,es,ep,k _ _ (.inl rfl) e,c⟩
  | set S n=>obtain ⟨ob,es,ep,t,e,c⟩:=x; exact ⟨ob,es,ep,t,k _ _ (.inl rfl) e,c⟩
  | ins C dx fs =>
    obtain ⟨d,z,ne,e,mA,⟨od,es,ep,e2,c⟩,r⟩:=x
    exact ⟨ho _ d,z,ne,k _ _ (.inl rfl) e,mA,⟨od,es,ep,k _ _ (.inr d) e2,c⟩,r⟩
  | own y=>obtain ⟨ob,e⟩:=x; exact ⟨ob,k _ _ (.inl rfl) e⟩
  | xd fs=>obtain ⟨mA,⟨od,es,ep,e,c⟩,r⟩:=x; exact ⟨mA,⟨od,es,ep,k _ _ (.inl rfl) e,c⟩,r⟩
  | rng lo hi=>obtain ⟨t,u,v,e⟩:=x; exact ⟨t,u,v,k _ _ (.inl rfl) e⟩
  | frz ob u ih=>obtain ⟨e,q⟩:=x; exact ⟨k _ _ (.inl rfl) e,ih q⟩
  | tbl ps =>
    have e:h.get? a=some { cls:=.none,data:=.fields ps }:=x
    show h'.get? a=some { cls:=.none,data:=.fields ps }
    exact k a _ (.inl rfl) e
  | met f y =>
    have e:h.get? a=some (PySem.W.methodObj (.ref f) (.ref y)):=x
    show h'.get? a=some (PySem.W.methodObj (.ref f) (.ref y))
    exact k a _ (.inl rfl) e
  | ext φ=>obtain ⟨p,⟨o,e⟩,st⟩:=x; exact ⟨st _ _ p fun o q=>k _ _ (.inl rfl) q,⟨o,k _ _ (.inl rfl) e⟩,st⟩
theorem HOk.lt (x:HOk P w H h) (e:H a=some o):a < h.objs.size:=(x a o e).lt
theorem HOk.fresh (x:HOk P w H h) (e:h.objs.size≤a):H a=none:=by
  cases q:H a with
  | none=>rfl
  | some u=>exact absurd (Nat.lt_of_lt_of_le (x.lt q) e) (Nat.lt_irrefl _)
theorem HOk.kept (x:HOk P w H h) (k:∀ b u,h.get? b=some u→h'.get? b=some u):HOk P w H h':=fun a o e =>
  (x a o e).stay (fun b u _ q=>k b u q) (fun _ q=>q) fun _ _ q=>q
theorem HOk.laid (x:HOk P w H h) (k:∀ b u,h.get? b=some u→h'.get? b=some u) (hp:h.objs.size≤a) (new:ObjOk P w (upd H a o) h' a o):HOk P w (upd H a o) h':=fun b u e=>by
  have hn:=x.fresh hp
  by_cases hb:b=a
  · subst hb; rw [qaM] at e; cases e; exact new
  · rw [qah hb] at e
    exact (x b u e).stay (fun c v _ q=>k c v q) (fun c q=>by rw [qah (qab q hn)]; exact q) fun c xs q=>by rw [qah (qab q hn)]; exact q
end
def Rd (H:Hp) (a:Addr) (u:HO):Prop:=H a=some u∨∃ o,H a=some (.frz o u)
theorem Rd.ok {P:Program} {w:World} {H:Hp} {h:Heap} {a:Addr} {u:HO} (r:Rd H a u) (x:HOk P w H h):ObjOk P w H h a u:=by
  rcases r with r | ⟨o,r⟩
  · exact x a u r
  · obtain ⟨_,q⟩:=x a _ r
    exact q
def Mut:Option HO→Prop
  | some (.lst _)=>True
  | some (.dK _)=>True
  | some (.dT _)=>True
  | some (.set _ _)=>True
  | some (.ins _ _ _)=>True
  | some (.ext _)=>True
  | _=>False
section
variable {P:Program} {w:World} {H:Hp} {h h':Heap} {x e:Addr} {o':HO}
theorem HOk.write (ok:HOk P w H h) (mu:Mut (H x)) (he:e=x∨H e=some (.own x)) (k:∀ b u,b≠e→h.get? b=some u→h'.get? b=some u) (heo:∃ u,h'.get? e=some u)
    (new:ObjOk P w (upd H x o') h' x o'):HOk P w (upd H x o') h':=fun b u q=>by
  have nown:∀ c y,H c=some (.own y)→c≠x:=fun c y r z=>by subst z; rw [r] at mu; exact mu
  have ntup:∀ c xs,H c=some (.tup xs)→c≠x:=fun c xs r z=>by subst z; rw [r] at mu; exact mu
  by_cases hb:b=x
  · subst hb; rw [qaM] at q; cases q; exact new
  · rw [qah hb] at q
    by_cases hbe:b=e
    · have q':H b=some (.own x):=by
        rcases he with z | z
        · exact absurd (hbe.trans z) hb
        · rw [hbe]; exact z
      rw [q] at q'; cases q'
      obtain ⟨v,hv⟩:=heo
      exact ⟨v,by rw [hbe]; exact hv⟩
    · refine (ok b u q).stay (fun c v hc r=>k c v ?_ r) (fun c r=>by rw [qah (nown c b r)]; exact r) fun c xs r=>by rw [qah (ntup c xs r)]; exact r
      rcases hc with rfl | hc
      · exact hbe
      · rintro rfl
        rcases he with z | z
        · exact nown c b hc z
        · rw [hc] at z; cases z; exact hb rfl
end
structure Un (fs ex:List Addr) (H H':Hp) (h h':Heap):Prop where
  keep:∀ b o,h.get? b=some o→H b=none→b∉fs→b∉ex→h'.get? b=some o
  slot:∀ b o,h.get? b=some o→H b=none→b∈fs→b∉ex→∃ sl,h'.get? b=some { o with slots:=sl }
  free:∀ b o,h.get? b=some o→H b=none→b∉ex→H' b=none
  there:∀ b o,h.get? b=some o→b∉ex→∃ o',h'.get? b=some o'
  tups:∀ b xs,H b=some (.tup xs)→H' b=some (.tup xs)
  frzs:∀ b o u,H b=some (.frz o u)→H' b=some (.frz o u)
  tbls:∀ b ps,H b=some (.tbl ps)→∃ more,H' b=some (.tbl (ps ++ more))
section
variable {fs fs' ex ex':List Addr} {H H1 H2:Hp} {h h1 h2 h':Heap} {a x e:Addr} {o:HO}
theorem Un.any (u:Un fs ex H H1 h h1) {b:Addr} {ob:Obj} (q:h.get? b=some ob) (n:H b=none) (hx:b∉ex):∃ sl,h1.get? b=some { ob with slots:=sl }:=by
  by_cases hb:b∈fs
  · exact u.slot b ob q n hb hx
  · exact ⟨ob.slots,u.keep b ob q n hb hx⟩
theorem Un.kept (k:∀ b u,h.get? b=some u→h'.get? b=some u):Un fs ex H H h h' :=
  ⟨fun b ob q _ _ _=>k b ob q,fun b ob q _ _ _=>⟨ob.slots,k b ob q⟩,fun _ _ _ n _=>n,fun b ob q _=>⟨ob,k b ob q⟩,fun _ _ q=>q,fun _ _ _ q=>q,fun _ ps q=>⟨#[],by rw [q]; simp⟩⟩
theorem Un.refl:Un fs ex H H h h:=Un.kept fun _ _ q=>q
theorem Un.laid (k:∀ b u,h.get? b=some u→h'.get? b=some u) (hp:h.objs.size≤a) (hn:H a=none):Un fs ex H (upd H a o) h h' where
  keep:=fun b u q _ _ _=>k b u q
  slot:=fun b u q _ _ _=>⟨u.slots,k b u q⟩
  free:=fun b u q n _=>by rw [qah (Nat.ne_of_lt (Nat.lt_of_lt_of_le (Heap.lt_size q) hp))]; exact n
  there:=fun b u q _=>⟨u,k b u q⟩
  tups:=fun b xs q=>by rw [qah (qab q hn)]; exact q
  frzs:=fun b u xs q=>by rw [qah (qab q hn)]; exact q
  tbls:=fun b ps q=>⟨#[],by rw [qah (qab q hn),q]; simp⟩
theorem Un.write (mu:Mut (H x)) (he:e=x∨H e=some (.own x)) (k:∀ b u,b≠e→h.get? b=some u→h'.get? b=some u) (heo:∃ u,h'.get? e=some u):Un fs ex H (upd H x o) h h':=by
  have hx:∀ b,H b=none→b≠x:=fun b n z=>by subst z; rw [n] at mu; exact mu
  have hb:∀ b,H b=none→b≠e:=fun b n z=>by
    subst z
    rcases he with r | r
    · exact hx b n r
    · rw [n] at r; cases r
  have hm:∀ b u,H b=some u→¬ Mut (some u)→b≠x:=fun b u q nm z=>by subst z; rw [q] at mu; exact nm mu
  refine ⟨fun b u q n _ _=>k b u (hb b n) q,fun b u q n _ _=>⟨u.slots,k b u (hb b n) q⟩,fun b u q n _=>by rw [qah (hx b n)]; exact n,fun b u q _=>?_,
    fun b xs q=>by rw [qah (hm b _ q fun z=>z)]; exact q,fun b u xs q=>by rw [qah (hm b _ q fun z=>z)]; exact q,fun b ps q=>⟨#[],by rw [qah (hm b _ q fun z=>z),q]; simp⟩⟩
  by_cases hbe:b=e
  · subst hbe; exact heo
  · exact ⟨u,k b u hbe q⟩
end
def trk (h:Heap) (H:Hp):List Addr:=(List.range h.objs.size).filter fun a=>(H a).isSome
def hidT (h:Heap) (H:Hp):Heap:=PySem.W.hideAll h (trk h H)
theorem hidT_size (h:Heap) (H:Hp):(hidT h H).objs.size=h.objs.size:=PySem.W.hideAll_size _ _
theorem hidT_get {h:Heap} {H:Hp} {b:Addr} {o:Obj} (e:h.get? b=some o) (n:H b=none):(hidT h H).get? b=some o :=
  PySem.W.hideAll_get _ e fun hm=>by
    have q:(H b).isSome=true:=(List.mem_filter.mp hm).2
    rw [n] at q; simp at q
theorem of_hidT {h:Heap} {H:Hp} {b:Addr} {o:Obj} (e:(hidT h H).get? b=some o):h.get? b=some o∧H b=none:=by
  have e':h.get? b=some o:=PySem.W.of_hideAll (trk h H) e
  refine ⟨e',?_⟩
  cases q:H b with
  | none=>rfl
  | some x =>
    have hm:b∈trk h H:=List.mem_filter.mpr ⟨List.mem_range.mpr (Heap.lt_size e'),by simp [q]⟩
    have z:(hidT h H).get? b=none:=PySem.W.hideAll_none (trk h H) hm
    rw [z] at e; cases e
end L2
namespace L2
open PySem PySem.Spec PyProof.Rows
structure Mod (K:PySem.W.Frag) (mg:Str→Option Value) (base:Heap):Prop where
  kin:K.In base
  glob:base.Ns mainGlobals mg
  blt:∃ mb,base.Ns builtinsNs mb∧∀ x:Str,x≠"__name__"→mb x=bootBuiltins x
  nolimit:base.NoLimit
  bmod:∃ bm ob,mg "__builtins__"=some (.ref bm)∧bm≠builtinsNs∧base.get? bm=some ob∧ob.cls=.type "module"∧ob.dict=some builtinsNs∧ob.data=.plain
structure Cx where
  prog:Program
  w:World
  K:PySem.W.Frag
  mg:Str→Option Value
  base:Heap
  A:Around
  N:List Str
  s₀:Shared
  H₀:Hp
  env:Env
  outer:List Env
  stack:List Env
  ex:List Addr
  fn:Str→Bool
  calm:Bool
  pn:List (Addr×Obj)
  xe:Value→Shared→Prop
def frs (l:List Env):List Addr:=l.filterMap (·.frame)
abbrev Cx.fs (X:Cx):List Addr:=frs X.outer
def Vis (sc:Scope) (x:Str):Prop:=sc.names.lookup x=some .local∨sc.names.lookup x=some .cell∨sc.names.lookup x=some .free
def Loc (sc:Scope) (x:Str):Prop:=sc.names.lookup x=some .local∨sc.names.lookup x=some .cell
def Look (env:Env) (h:Heap) (m:Str→Option Value) (x:Str) (u:Value):Prop :=
  (env.kindOf x=some .local∧m x=some u)∨((env.kindOf x=some .cell∨env.kindOf x=some .free)∧∃ c,env.cells.lookup x=some c∧h.IsCell c (some u))
structure Cx.Ok (X:Cx):Prop where
  mod:Mod X.K X.mg X.base
  kind:X.env.scope.kind=.function
  glob:X.env.globals=mainGlobals
  blt:X.env.builtins=builtinsNs
  above:X.s₀.heap.objs.size≤X.env.locals
  inj:∀ x y c,X.env.cells.lookup x=some c→X.env.cells.lookup y=some c→x=y
  has:∀ x,(X.env.kindOf x=some .cell∨X.env.kindOf x=some .free)→∃ c,X.env.cells.lookup x=some c
  cab:∀ x c,X.fn x=true→X.env.cells.lookup x=some c→X.s₀.heap.objs.size≤c
  hd:X.calm=true→X.A.handled=none
  frames:X.A.frames=some X.stack
  stk:X.stack=X.outer∨(X.stack=X.env :: X.outer∧X.env.frame=some X.env.locals)
  exf:∀ b∈X.ex,b≠X.env.locals∧∀ x c,X.env.cells.lookup x=some c→c≠b
  bs:∀ b o,X.base.get? b=some o→X.s₀.heap.get? b=some o∧X.H₀ b=none
  bsz:X.base.objs.size≤X.s₀.heap.objs.size
  noex:∀ b o,X.base.get? b=some o→b∉X.ex
  exfs:∀ b∈X.ex,b∉X.fs
  funs:X.s₀.heap.FunFrames X.base X.outer
  frf:∀ b∈X.fs,X.H₀ b=none
structure Inv (X:Cx) (pins:List (Addr×Obj)) (σ:List (Option V)) (H:Hp) (s:Shared):Prop where
  ok:X.Ok
  os:s.os=X.s₀.os
  bare:AllBare s.gens
  base:Un X.fs X.ex X.H₀ H X.s₀.heap s.heap
  loc:∃ m,s.heap.Ns X.env.locals m∧∀ (i:Nat) (x:Str) (v:V),X.N[i]? = some x→σ[i]? = some (some v)→Vis X.env.scope x→∃ u,RelV v u∧Look X.env s.heap m x u
  cell:∀ x c,X.env.cells.lookup x=some c→∃ v,s.heap.IsCell c v
  free:H X.env.locals=none
  freeC:∀ x c,X.env.cells.lookup x=some c→H c=none
  pin:∀ p∈X.pn ++ pins,s.heap.get? p.1=some p.2∧H p.1=none∧p.1≠X.env.locals∧p.1∉X.fs∧∀ v,p.2.data≠.cell v
  hok:HOk X.prog X.w H s.heap
  len:σ.length=X.N.length
section
variable {X:Cx} {pins:List (Addr×Obj)} {σ:List (Option V)} {H H':Hp} {s:Shared} {h':Heap}
theorem Cx.Ok.nofr (ok:X.Ok) {b:Addr} {o:Obj} (e:X.base.get? b=some o):b∉X.fs:=fun hb=>by
  have:=(ok.funs.mem hb).1
  rw [e] at this; cases this
theorem Inv.bs (I:Inv X pins σ H s):∀ b o,X.base.get? b=some o→s.heap.get? b=some o∧H b=none:=fun b o e =>
  ⟨I.base.keep b o (I.ok.bs b o e).1 (I.ok.bs b o e).2 (I.ok.nofr e) (I.ok.noex b o e),I.base.free b o (I.ok.bs b o e).1 (I.ok.bs b o e).2 (I.ok.noex b o e)⟩
theorem Inv.bk (I:Inv X pins σ H s):∀ b o,X.base.get? b=some o→s.heap.get? b=some o:=fun b o e=>(I.bs b o e).1
theorem Inv.mod (I:Inv X pins σ H s):Mod X.K X.mg X.base:=I.ok.mod
theorem Inv.kIn (I:Inv X pins σ H s):X.K.In s.heap:=I.ok.mod.kin.keeps I.bk
theorem Inv.lt (I:Inv X pins σ H s):X.env.locals < s.heap.objs.size:=let ⟨_,hn,_⟩:=I.loc; hn.lt
theorem Inv.sz (I:Inv X pins σ H s):X.s₀.heap.objs.size≤s.heap.objs.size:=Nat.le_trans I.ok.above (Nat.le_of_lt I.lt)
theorem Inv.nofs (I:Inv X pins σ H s) {a:Addr} (h:s.heap.objs.size≤a):a∉X.fs:=fun hb=>by
  obtain ⟨_,o,ho,_⟩:=I.ok.funs.mem hb
  exact absurd (Nat.lt_of_lt_of_le (Heap.lt_size ho) (Nat.le_trans I.sz h)) (Nat.lt_irrefl _)
theorem Inv.cne (I:Inv X pins σ H s):∀ x c,X.env.cells.lookup x=some c→c≠X.env.locals:=fun x c e z=>by
  obtain ⟨v,o,ho,hd⟩:=I.cell x c e
  obtain ⟨m,⟨o',es,ep,ho',hd',_⟩,_⟩:=I.loc
  rw [z,ho'] at ho; cases ho; rw [hd'] at hd; cases hd
theorem Inv.funs (I:Inv X pins σ H s):s.heap.FunFrames X.base X.outer:=by
  have all:∀ (l:List Env),(∀ b∈frs l,b∈X.fs)→X.s₀.heap.FunFrames X.base l→s.heap.FunFrames X.base l:=by
    intro l
    induction l with
    | nil=>intro _ _; trivial
    | cons env r ih =>
      intro hs hl
      obtain ⟨hk,⟨L,o,hf,hn,ho,hd⟩,hr⟩:=hl
      have hL:L∈X.fs:=hs L (by unfold frs; rw [List.filterMap_cons,hf]; exact List.mem_cons_self)
      obtain ⟨sl,e⟩:=I.base.slot L o ho (I.ok.frf L hL) hL fun z=>I.ok.exfs L z hL
      exact ⟨hk,⟨L,_,hf,hn,e,hd⟩,ih (fun b hb=>hs b (by unfold frs; rw [List.filterMap_cons,hf]; exact List.mem_cons_of_mem _ hb)) hr⟩
  exact all X.outer (fun _ hb=>hb) I.ok.funs
theorem Inv.stack (I:Inv X pins σ H s):s.heap.FunFrames X.base X.stack:=by
  rcases I.ok.stk with e | ⟨e,hf⟩
  · rw [e]; exact I.funs
  · rw [e]
    obtain ⟨m,hn,_⟩:=I.loc
    refine .cons (by rw [I.ok.kind]; decide) hf hn ?_ I.funs
    exact Heap.get?_none_of_le (Nat.le_trans I.ok.bsz I.ok.above)
theorem Inv.stkSub (I:Inv X pins σ H s):∀ b∈frs X.stack,b∈X.env.locals :: X.fs:=fun b hb=>by
  rcases I.ok.stk with e | ⟨e,hf⟩
  · rw [e] at hb; exact List.mem_cons_of_mem _ hb
  · rw [e] at hb
    unfold frs at hb
    rw [List.filterMap_cons,hf] at hb
    exact hb
theorem Inv.stkFree (I:Inv X pins σ H s):∀ b∈frs X.stack,H b=none:=fun b hb=>by
  rcases List.mem_cons.mp (I.stkSub b hb) with e | hb
  · rw [e]; exact I.free
  · obtain ⟨_,o,ho,_⟩:=I.ok.funs.mem hb
    exact I.base.free b o ho (I.ok.frf b hb) fun z=>I.ok.exfs b z hb
theorem Inv.step {g':Array GenState} {t':Nat} {d':Drawn} {ch:List Addr} (I:Inv X pins σ H s)
    (hch:∀ b∈ch,(b∈X.ex∨X.s₀.heap.objs.size≤b)∧b≠X.env.locals∧(∀ x c,X.env.cells.lookup x=some c→c≠b)∧∀ p∈X.pn ++ pins,p.1≠b)
    (keep:∀ b o,b≠X.env.locals→b∉X.fs→b∉ch→s.heap.get? b=some o→H b=none→h'.get? b=some o)
    (slot:∀ b o,b≠X.env.locals→b∈X.fs→b∉ch→s.heap.get? b=some o→H b=none→∃ sl,h'.get? b=some { o with slots:=sl }) (free:∀ b o,b∉ch→s.heap.get? b=some o→H b=none→H' b=none)
    (there:∀ b o,b∉ch→s.heap.get? b=some o→∃ o',h'.get? b=some o')
    (tups:∀ b xs,H b=some (.tup xs)→H' b=some (.tup xs)) (frzs:∀ b o u,H b=some (.frz o u)→H' b=some (.frz o u)) (tbls:∀ b ps,H b=some (.tbl ps)→∃ more,H' b=some (.tbl (ps ++ more)))
    (ns:∀ m,s.heap.Ns X.env.locals m→h'.Ns X.env.locals m) (hok:HOk X.prog X.w H' h') (hg:AllBare g') :
    Inv X pins σ H' { s with heap:=h',gens:=g',drawn:=d',toks:=t' }:=by
  have neL:∀ b o,X.s₀.heap.get? b=some o→b≠X.env.locals:=fun b o e=>Nat.ne_of_lt (Nat.lt_of_lt_of_le (Heap.lt_size e) I.ok.above)
  have neC:∀ b o,X.s₀.heap.get? b=some o→b∉X.ex→b∉ch:=fun b o e hx hb=>by
    rcases (hch b hb).1 with z | z
    · exact hx z
    · exact absurd (Nat.lt_of_lt_of_le (Heap.lt_size e) z) (Nat.lt_irrefl _)
  have cellK:∀ x c,X.env.cells.lookup x=some c→∀ v,s.heap.IsCell c v→h'.IsCell c v:=fun x c e v ⟨o,ho,hd⟩=>by
    have nch:c∉ch:=fun z=>(hch c z).2.2.1 x c e rfl
    by_cases hc:c∈X.fs
    · obtain ⟨sl,q⟩:=slot c o (I.cne x c e) hc nch ho (I.freeC x c e)
      exact ⟨_,q,hd⟩
    · exact ⟨o,keep c o (I.cne x c e) hc nch ho (I.freeC x c e),hd⟩
  refine ⟨I.ok,I.os,hg,⟨fun b o e n hb hx=>?_,fun b o e n hb hx=>?_,fun b o e n hx=>?_,fun b o e hx=>?_,fun b xs e=>tups b xs (I.base.tups b xs e),fun b o xs e=>frzs b o xs (I.base.frzs b o xs e),fun b ps e=>?_⟩,?_,fun x c e=>?_,?_,fun x c e=>?_,fun p hp=>?_,hok,I.len⟩
  · exact keep b o (neL b o e) hb (neC b o e hx) (I.base.keep b o e n hb hx) (I.base.free b o e n hx)
  · obtain ⟨sl,e1⟩:=I.base.slot b o e n hb hx
    obtain ⟨sl',e2⟩:=slot b _ (neL b o e) hb (neC b o e hx) e1 (I.base.free b o e n hx)
    exact ⟨sl',e2⟩
  · obtain ⟨o',e1⟩:=I.base.there b o e hx
    exact free b o' (neC b o e hx) e1 (I.base.free b o e n hx)
  · obtain ⟨o',e1⟩:=I.base.there b o e hx
    exact there b o' (neC b o e hx) e1
  · obtain ⟨m1,e1⟩:=I.base.tbls b ps e
    obtain ⟨m2,e2⟩:=tbls b _ e1
    exact ⟨m1 ++ m2,by rw [e2,Array.append_assoc]⟩
  · obtain ⟨m,hn,hl⟩:=I.loc
    refine ⟨m,ns m hn,fun i x v e1 e2 e3=>?_⟩
    obtain ⟨u,r,l⟩:=hl i x v e1 e2 e3
    refine ⟨u,r,?_⟩
    rcases l with l | ⟨k,c,e,z⟩
    · exact .inl l
    · exact .inr ⟨k,c,e,cellK x c e _ z⟩
  · obtain ⟨v,z⟩:=I.cell x c e
    exact ⟨v,cellK x c e v z⟩
  · obtain ⟨m,⟨o,_,_,ho,_⟩,_⟩:=I.loc
    exact free _ o (fun z=>(hch _ z).2.1 rfl) ho I.free
  · obtain ⟨v,o,ho,hd⟩:=I.cell x c e
    exact free c o (fun z=>(hch c z).2.2.1 x c e rfl) ho (I.freeC x c e)
  · obtain ⟨e,n,ne,nf,d⟩:=I.pin p hp
    have nch:p.1∉ch:=fun z=>(hch p.1 z).2.2.2 p hp rfl
    exact ⟨keep p.1 p.2 ne nf nch e n,free p.1 p.2 nch e n,ne,nf,d⟩
theorem Inv.un {t':Nat} (I:Inv X pins σ H s) (u:Un X.fs [] H H' s.heap h') (hok:HOk X.prog X.w H' h'):Inv X pins σ H' { s with heap:=h',toks:=t' }:=by
  obtain ⟨m,⟨o,es,ep,ho,r⟩,_⟩:=id I.loc
  obtain ⟨sl,hL⟩:=u.any ho I.free (by simp)
  exact I.step (g':=s.gens) (d':=s.drawn) (ch:=[]) (fun _ z=>nomatch z) (fun b o _ hb _ e n=>u.keep b o e n hb (by simp)) (fun b o _ hb _ e n=>u.slot b o e n hb (by simp)) (fun b o _ e n=>u.free b o e n (by simp)) (fun b o _ e=>u.there b o e (by simp)) u.tups u.frzs u.tbls (fun m' hm=>by
    obtain ⟨o',es',ep',ho',r'⟩:=hm
    rw [ho] at ho'; cases ho'
    exact ⟨_,es',ep',hL,r'⟩) hok I.bare
theorem Inv.call {g':Array GenState} {t':Nat} {d':Drawn} {ch:List Addr} (I:Inv X pins σ H s) (u:Un (frs X.stack) ch H H' s.heap h') (hok:HOk X.prog X.w H' h') (hg:AllBare g')
    (hch:∀ b∈ch,(b∈X.ex∨X.s₀.heap.objs.size≤b)∧b≠X.env.locals∧(∀ x c,X.env.cells.lookup x=some c→c≠b)∧∀ p∈X.pn ++ pins,p.1≠b) :
    Inv X pins σ H' { s with heap:=h',gens:=g',drawn:=d',toks:=t' }:=by
  obtain ⟨m,⟨o,es,ep,ho,r⟩,_⟩:=id I.loc
  obtain ⟨sl,hL⟩:=u.any ho I.free fun z=>(hch _ z).2.1 rfl
  exact I.step (ch:=ch) hch (fun b o hL hb hc e n=>u.keep b o e n (fun z=>(List.mem_cons.mp (I.stkSub b z)).elim hL hb) hc) (fun b o _ _ hc e n=>u.any e n hc) (fun b o hc e n=>u.free b o e n hc) (fun b o hc e=>u.there b o e hc) u.tups u.frzs u.tbls (fun m' hm=>by
    obtain ⟨o',es',ep',ho',r'⟩:=hm
    rw [ho] at ho'; cases ho'
    exact ⟨_,es',ep',hL,r'⟩) hok hg
theorem Inv.turned {t':Nat} {it:Addr} (I:Inv X pins σ H s) (k:∀ b o,b≠it→s.heap.get? b=some o→h'.get? b=some o) (hn:H it=none) (hL:it≠X.env.locals)
    (h1:it∈X.ex∨X.s₀.heap.objs.size≤it) (h2:∀ x c,X.env.cells.lookup x=some c→c≠it) (h3:∀ p∈X.pn ++ pins,p.1≠it):Inv X pins σ H { s with heap:=h',toks:=t' }:=by
  have nit:∀ b u,H b=some u→b≠it:=fun b u e z=>by rw [z,hn] at e; cases e
  refine I.step (g':=s.gens) (d':=s.drawn) (ch:=[it]) (fun b hb=>?_) (fun b o _ _ hc e _=>k b o (fun z=>hc (by simp [z])) e) (fun b o _ _ hc e _=>⟨o.slots,k b o (fun z=>hc (by simp [z])) e⟩) (fun _ _ _ _ n=>n)
    (fun b o hc e=>⟨o,k b o (fun z=>hc (by simp [z])) e⟩) (fun _ _ e=>e) (fun _ _ _ e=>e) (fun b ps e=>⟨#[],by rw [e]; simp⟩) (fun m hm=>?_) (fun b u e=>?_) I.bare
  · have e:b=it:=by simpa using hb
    subst e
    exact ⟨h1,hL,h2,h3⟩
  · obtain ⟨o,es,ep,ho,r⟩:=hm
    exact ⟨o,es,ep,k _ o (Ne.symm hL) ho,r⟩
  · refine (I.hok b u e).stay (fun c v hc q=>k c v ?_ q) (fun _ q=>q) fun _ _ q=>q
    rcases hc with z | z
    · rw [z]; exact nit b u e
    · exact nit c _ z
theorem Inv.tok (I:Inv X pins σ H s) (t:Nat):Inv X pins σ H { s with toks:=t }:=I.un (h':=s.heap) (t':=t) Un.refl I.hok
theorem Inv.kept {t':Nat} (I:Inv X pins σ H s) (k:∀ b u,s.heap.get? b=some u→h'.get? b=some u):Inv X pins σ H { s with heap:=h',toks:=t' }:=I.un (Un.kept k) (I.hok.kept k)
theorem Inv.laid {a:Addr} {o:HO} {t':Nat} (I:Inv X pins σ H s) (k:∀ b u,s.heap.get? b=some u→h'.get? b=some u) (hp:s.heap.objs.size≤a) (new:ObjOk X.prog X.w (upd H a o) h' a o) :
    Inv X pins σ (upd H a o) { s with heap:=h',toks:=t' }:=I.un (Un.laid k hp (I.hok.fresh hp)) (I.hok.laid k hp new)
theorem Inv.write {x e:Addr} {o:HO} {t':Nat} (I:Inv X pins σ H s) (mu:Mut (H x)) (he:e=x∨H e=some (.own x)) (k:∀ b u,b≠e→s.heap.get? b=some u→h'.get? b=some u) (heo:∃ u,h'.get? e=some u)
    (new:ObjOk X.prog X.w (upd H x o) h' x o):Inv X pins σ (upd H x o) { s with heap:=h',toks:=t' }:=I.un (Un.write mu he k heo) (I.hok.write mu he k heo new)
theorem Inv.pins_of {pins':List (Addr×Obj)} (I:Inv X pins σ H s) (h:∀ p∈pins',s.heap.get? p.1=some p.2∧H p.1=none∧p.1≠X.env.locals∧p.1∉X.fs∧∀ v,p.2.data≠.cell v):Inv X pins' σ H s :=
  ⟨I.ok,I.os,I.bare,I.base,I.loc,I.cell,I.free,I.freeC,fun p hp=>(List.mem_append.mp hp).elim (fun z=>I.pin p (List.mem_append_left _ z)) (h p),I.hok,I.len⟩
theorem nodup_ix {N:List Str} (hN:N.Nodup) {i j:Nat} {x:Str} (a:N[i]? = some x) (b:N[j]? = some x):i=j:=by
  obtain ⟨h1,e1⟩:=List.getElem?_eq_some_iff.mp a
  obtain ⟨h2,e2⟩:=List.getElem?_eq_some_iff.mp b
  exact (List.getElem_inj hN).mp (e1.trans e2.symm)
theorem store_ok2 {M:Model} {A:Around} {E:Value→Shared→Prop} {i:Nat} {x:Str} {v:V} {u:Value} {Q:Unit→Shared→Prop} (I:Inv X pins σ H s) (hN:X.N.Nodup) (hi:X.N[i]? = some x) (hx:Loc X.env.scope x) (r:RelV v u)
    (h:∀ s',Inv X pins (σ.set i (some v)) H s'→(∃ a,Heap.SameBut a s.heap s'.heap∧(a=X.env.locals∨X.env.cells.lookup x=some a))→Q () s') (hf:X.fn x=true∨X.env.scope.names.lookup x=some .local:=by first | exact .inl rfl | exact .inr rfl | assumption):wpAny M A (storeName X.env x u) Q E s:=by
  obtain ⟨m,hn,hl⟩:=id I.loc
  have hcls:(X.env.scope.kind == .class || (X.env.scope.kind == .module && X.env.locals != X.env.globals))=false:=by rw [I.ok.kind]; rfl
  have hiσ:i < σ.length:=by rw [I.len]; exact (List.getElem?_eq_some_iff.mp hi).1
  have cne:=I.cne
  have tracked:∀ {a:Addr} {h':Heap},(∃ o,s.heap.get? a=some o∧H a=none)→Heap.SameBut a s.heap h'→HOk X.prog X.w H h':=fun {a h'} ha hs b ob e=>by
    obtain ⟨_,_,hfree⟩:=ha
    refine (I.hok b ob e).stay (fun c w' hc q=>(hs.2 c ?_).trans q) (fun _ q=>q) fun _ _ q=>q
    rintro rfl
    rcases hc with rfl | hc
    · rw [hfree] at e; cases e
    · rw [hfree] at hc; cases hc
  rcases hx with hk | hk
  · refine wpAny_storeName_local hk hn (fun h' hn' hs=>?_) hcls
    obtain ⟨oL,_,_,hoL,_⟩:=id hn
    refine h _ ⟨I.ok,I.os,I.bare,⟨fun b o e n hb hx=>?_,fun b o e n hb hx=>?_,I.base.free,fun b o e hx=>?_,I.base.tups,I.base.frzs,I.base.tbls⟩,⟨_,hn',fun j y v' e1 e2 e3=>?_⟩,fun y c e=>?_,I.free,I.freeC,fun p hp=>?_,tracked ⟨oL,hoL,I.free⟩ hs,by simpa using I.len⟩ ⟨_,hs,.inl rfl⟩
    · exact (hs.2 b (Nat.ne_of_lt (Nat.lt_of_lt_of_le (Heap.lt_size e) I.ok.above))).trans (I.base.keep b o e n hb hx)
    · obtain ⟨sl,e1⟩:=I.base.slot b o e n hb hx
      exact ⟨sl,(hs.2 b (Nat.ne_of_lt (Nat.lt_of_lt_of_le (Heap.lt_size e) I.ok.above))).trans e1⟩
    · obtain ⟨o',e1⟩:=I.base.there b o e hx
      exact ⟨o',(hs.2 b (Nat.ne_of_lt (Nat.lt_of_lt_of_le (Heap.lt_size e) I.ok.above))).trans e1⟩
    · by_cases hj:j=i
      · subst hj
        rw [hi] at e1; cases e1
        rw [List.getElem?_set_self hiσ] at e2
        cases e2
        exact ⟨u,r,.inl ⟨hk,by simp⟩⟩
      · rw [List.getElem?_set_ne (Ne.symm hj)] at e2
        obtain ⟨u',r',q⟩:=hl j y v' e1 e2 e3
        refine ⟨u',r',?_⟩
        rcases q with ⟨k,e⟩ | ⟨k,c,e,z⟩
        · refine .inl ⟨k,?_⟩
          have:y≠x:=fun e=>hj (nodup_ix hN e1 (e ▸ hi))
          simp [this,e]
        · exact .inr ⟨k,c,e,z.sameBut hs (cne y c e)⟩
    · obtain ⟨w',z⟩:=I.cell y c e
      exact ⟨w',z.sameBut hs (cne y c e)⟩
    · obtain ⟨e,n,ne,nf,d⟩:=I.pin p hp
      exact ⟨(hs.2 p.1 ne).trans e,n,ne,nf,d⟩
  · have hfn:X.fn x=true:=by
      rcases hf with z | z
      · exact z
      · rw [z] at hk; cases hk
    obtain ⟨c,hc⟩:=I.ok.has x (.inl hk)
    obtain ⟨w',z⟩:=I.cell x c hc
    refine wpAny_storeName_cell I.ok.kind hk hc z (fun h' hc' hs=>?_)
    obtain ⟨oc,hoc,hocd⟩:=id z
    refine h { s with heap:=h' } ⟨I.ok,I.os,I.bare,⟨fun b o e n hb hx=>?_,fun b o e n hb hx=>?_,I.base.free,fun b o e hx=>?_,I.base.tups,I.base.frzs,I.base.tbls⟩,⟨m,hn.sameBut hs (Ne.symm (cne x c hc)),fun j y v' e1 e2 e3=>?_⟩,fun y c' e=>?_,I.free,I.freeC,fun p hp=>?_,tracked ⟨oc,hoc,I.freeC x c hc⟩ hs,by simpa using I.len⟩ ⟨c,hs,.inr hc⟩
    · exact (hs.2 b (Nat.ne_of_lt (Nat.lt_of_lt_of_le (Heap.lt_size e) (I.ok.cab x c hfn hc)))).trans (I.base.keep b o e n hb hx)
    · obtain ⟨sl,e1⟩:=I.base.slot b o e n hb hx
      exact ⟨sl,(hs.2 b (Nat.ne_of_lt (Nat.lt_of_lt_of_le (Heap.lt_size e) (I.ok.cab x c hfn hc)))).trans e1⟩
    · obtain ⟨o',e1⟩:=I.base.there b o e hx
      exact ⟨o',(hs.2 b (Nat.ne_of_lt (Nat.lt_of_lt_of_le (Heap.lt_size e) (I.ok.cab x c hfn hc)))).trans e1⟩
    · by_cases hj:j=i
      · subst hj
        rw [hi] at e1; cases e1
        rw [List.getElem?_set_self hiσ] at e2
        cases e2
        exact ⟨u,r,.inr ⟨.inl hk,c,hc,hc'⟩⟩
      · rw [List.getElem?_set_ne (Ne.symm hj)] at e2
        obtain ⟨u',r',q⟩:=hl j y v' e1 e2 e3
        refine ⟨u',r',?_⟩
        rcases q with q | ⟨k,c',e,z'⟩
        · exact .inl q
        · refine .inr ⟨k,c',e,z'.sameBut hs ?_⟩
          rintro rfl
          exact hj (nodup_ix hN e1 (I.ok.inj _ _ _ e hc ▸ hi))
    · by_cases hcc:c'=c
      · subst hcc; exact ⟨_,hc'⟩
      · obtain ⟨w2,z2⟩:=I.cell y c' e
        exact ⟨w2,z2.sameBut hs hcc⟩
    · obtain ⟨e,n,ne,nf,d⟩:=I.pin p hp
      refine ⟨(hs.2 p.1 ?_).trans e,n,ne,nf,d⟩
      intro q
      rw [q,hoc] at e
      have q':oc=p.2:=Option.some.inj e
      exact d w' (by rw [← q']; exact hocd)
theorem store_ok {M:Model} {A:Around} {E:Value→Shared→Prop} {i:Nat} {x:Str} {v:V} {u:Value} {Q:Unit→Shared→Prop} (I:Inv X pins σ H s) (hN:X.N.Nodup) (hi:X.N[i]? = some x) (hx:Loc X.env.scope x) (r:RelV v u)
    (h:∀ s',Inv X pins (σ.set i (some v)) H s'→Q () s') (hf:X.fn x=true∨X.env.scope.names.lookup x=some .local:=by first | exact .inl rfl | exact .inr rfl | assumption):wpAny M A (storeName X.env x u) Q E s :=
  store_ok2 I hN hi hx r (fun s' I' _=>h s' I') hf
theorem Inv.call' {s':Shared} {ch:List Addr} (I:Inv X pins σ H s) (ho:s'.os=s.os) (u:Un (frs X.stack) ch H H' s.heap s'.heap) (hok:HOk X.prog X.w H' s'.heap) (hg:AllBare s'.gens)
    (hch:∀ b∈ch,(b∈X.ex∨X.s₀.heap.objs.size≤b)∧b≠X.env.locals∧(∀ x c,X.env.cells.lookup x=some c→c≠b)∧∀ p∈X.pn ++ pins,p.1≠b):Inv X pins σ H' s':=by
  obtain ⟨h',g',d',t',o'⟩:=s'
  have e:o'=s.os:=ho
  subst e
  exact I.call (g':=g') (t':=t') (d':=d') u hok hg hch
end
abbrev XK:=Value→Option Addr→Hp→Prop
abbrev St:=List (Option V)
abbrev VK:=V→Hp→Prop
abbrev TE:=St→Hp→VK→Prop
abbrev TT:=St→Hp→(Bool→Hp→Prop)→Prop
abbrev TA:=St→Hp→(List V→Hp→Prop)→Prop
structure Ends where
  nx:St→Hp→Prop
  rt:VK
  bk:St→Hp→Prop:=fun _ _=>False
  ct:St→Hp→Prop:=fun _ _=>False
abbrev TS:=Ends→St→Hp→Prop
def EP (X:Cx) (pins:List (Addr×Obj)) (σ:St) (Q:VK) (u:Value) (s':Shared):Prop:=∃ v H',Inv X pins σ H' s'∧RelV v u∧Q v H'
def TP (X:Cx) (pins:List (Addr×Obj)) (σ:St) (Q:Bool→Hp→Prop) (b:Bool) (s':Shared):Prop:=∃ H',Inv X pins σ H' s'∧Q b H'
def AP (X:Cx) (pins:List (Addr×Obj)) (σ:St) (Q:List V→Hp→Prop) (us:List Value) (s':Shared):Prop:=∃ vs H',Inv X pins σ H' s'∧Vals vs us∧Q vs H'
def SP (X:Cx) (pins:List (Addr×Obj)) (D:Ends) (f:Flow) (s':Shared):Prop :=
  match f with
  | .next=>∃ σ' H',Inv X pins σ' H' s'∧D.nx σ' H'
  | .brk=>∃ σ' H',Inv X pins σ' H' s'∧D.bk σ' H'
  | .cont=>∃ σ' H',Inv X pins σ' H' s'∧D.ct σ' H'
  | .ret u=>∃ v σ' H',Inv X pins σ' H' s'∧RelV v u∧D.rt v H'
def PE (X:Cx) (e:Expr) (t:TE):Prop :=
  ∀ (pins:List (Addr×Obj)) (s:Shared) (σ:St) (H:Hp) (Q:VK),Inv X pins σ H s→t σ H Q→wpAny (model X.prog X.w) X.A (eval e X.env) (EP X pins σ Q) X.xe s
def PT (X:Cx) (e:Expr) (t:TT):Prop :=
  ∀ (pins:List (Addr×Obj)) (s:Shared) (σ:St) (H:Hp) (Q:Bool→Hp→Prop),Inv X pins σ H s→t σ H Q→wpAny (model X.prog X.w) X.A (isTrue e X.env (eval e X.env)) (TP X pins σ Q) X.xe s
def PW (X:Cx) (e:Expr) (t:TT):Prop :=
  ∀ (whole:Sem Value) (pins:List (Addr×Obj)) (s:Shared) (σ:St) (H:Hp) (Q:Bool→Hp→Prop),Inv X pins σ H s→t σ H Q→wpAny (model X.prog X.w) X.A (isTrue e X.env whole) (TP X pins σ Q) X.xe s
theorem PW.pt {X:Cx} {e:Expr} {t:TT} (h:PW X e t):PT X e t:=h _
def PA (X:Cx) (es:List Expr) (t:TA):Prop :=
  ∀ (pos:Pos) (pins:List (Addr×Obj)) (s:Shared) (σ:St) (H:Hp) (Q:List V→Hp→Prop),Inv X pins σ H s→t σ H Q→wpAny (model X.prog X.w) X.A (spliced (backTo pos (starEach es X.env))) (AP X pins σ Q) X.xe s
def PS (X:Cx) (st:Stmt) (t:TS):Prop :=
  ∀ (pins:List (Addr×Obj)) (s:Shared) (σ:St) (H:Hp) (D:Ends),Inv X pins σ H s→t D σ H→wpAny (model X.prog X.w) X.A (exec st X.env) (SP X pins D) X.xe s
def PSs (X:Cx) (st:List Stmt) (t:TS):Prop :=
  ∀ (pins:List (Addr×Obj)) (s:Shared) (σ:St) (H:Hp) (D:Ends),Inv X pins σ H s→t D σ H→wpAny (model X.prog X.w) X.A (execs st X.env) (SP X pins D) X.xe s
theorem thn {α:Type} {t:Sem α} {Q Q':α→Shared→Prop} {M:Model} {A:Around} {E:Value→Shared→Prop} {s:Shared} (h:wpAny M A t Q E s) (hQ:∀ a s,Q a s→Q' a s):wpAny M A t Q' E s:=wpAny_mono h hQ fun _ _ x=>x
end L2
namespace L2
open PySem PySem.Spec PyProof.Rows
section
variable {X:Cx}
theorem bin {a b:Expr} {ta tb:TE} (ha:PE X a ta) (hb:PE X b tb) {pins:List (Addr×Obj)} {s:Shared} {σ:St} {H:Hp} {R:V→V→Hp→Prop} (I:Inv X pins σ H s) (h:ta σ H fun x H1=>tb σ H1 fun y H2=>R x y H2)
    {α:Type} {Q:α→Shared→Prop} {f:Value→Value→Sem α}
    (hf:∀ v u s2 x y H2,Inv X pins σ H2 s2→RelV x v→RelV y u→R x y H2→wpAny (model X.prog X.w) X.A (f v u) Q X.xe s2) :
    wpAny (model X.prog X.w) X.A (eval a X.env) (fun v s₁=>wpAny (model X.prog X.w) X.A (eval b X.env) (fun u s₂=>wpAny (model X.prog X.w) X.A (f v u) Q X.xe s₂) X.xe s₁) X.xe s:=by
  refine thn (ha pins s σ H _ I h) fun v s1 ⟨x,H1,I1,r1,q1⟩=>?_
  refine thn (hb pins s1 σ H1 _ I1 q1) fun u s2 ⟨y,H2,I2,r2,q2⟩=>?_
  exact hf v u s2 x y H2 I2 r1 r2 q2
def tVar (i:Nat):TE:=fun σ H Q=>∃ v,σ[i]? = some (some v)∧Q v H
def tC (v:V):TE:=fun _ H Q=>Q v H
theorem pe_var {i:Nat} {x:Str} {pos:Pos} (hN:X.N[i]? = some x) (hv:Vis X.env.scope x) (hd:(x == ("__debug__":Str))=false:=by decide) (hcd:(x == ("__classdict__":Str))=false:=by decide):PE X (.Name x pos) (tVar i):=by
  intro pins s σ H Q I h
  obtain ⟨v,e,h⟩:=h
  obtain ⟨m,hn,hl⟩:=I.loc
  obtain ⟨u,r,l⟩:=hl i x v hN e hv
  have fin:EP X pins σ Q u s:=⟨v,H,I,r,h⟩
  rcases l with ⟨hk,hm⟩ | ⟨hk,c,hc,hcell⟩
  · exact wpAny_Name (wpAny_loadName_local I.ok.kind hk hn hm fin) hd
  · rcases hk with hk | hk
    · exact wpAny_Name (wpAny_loadName_cell I.ok.kind hk hc hcell fin) hd
    · exact wpAny_Name (wpAny_loadName_free I.ok.kind hk hc hcell fin hcd) hd
theorem pe_int {i j pos}:PE X (.Constant (.int i) j pos) (tC (.int i)):=fun _ _ _ H _ I h=>wpAny_Constant_int ⟨.int i,H,I.tok _,⟨_,rfl⟩,h⟩
theorem pe_bl {b j pos}:PE X (.Constant (.bool b) j pos) (tC (.bl b)):=fun _ _ _ H _ I h=>Constant_bool ⟨.bl b,H,I,rfl,h⟩
theorem pe_non {j pos}:PE X (.Constant .none j pos) (tC .non):=fun _ _ _ H _ I h=>Constant_none ⟨.non,H,I,rfl,h⟩
theorem pe_str {x j pos}:PE X (.Constant (.str x) j pos) (tC (.str x)):=fun _ _ _ H _ I h=>Calls.Constant_str ⟨.str x,H,I.tok _,⟨_,rfl⟩,h⟩
def Gl (X:Cx) (x:Str):Prop:=X.env.kindOf x=some .globalImplicit
theorem ld_glob {E:Value→Shared→Prop} {pins:List (Addr×Obj)} {s:Shared} {σ:St} {H:Hp} {x:Str} {u:Value} {pos:Pos} {Q:Value→Shared→Prop} (I:Inv X pins σ H s) (hg:Gl X x) (hm:X.mg x=some u) (h:Q u s)
    (hd:(x == ("__debug__":Str))=false:=by decide):wpAny (model X.prog X.w) X.A (eval (.Name x pos) X.env) Q E s :=
  Calls.Name_function_global I.ok.kind hg (Calls.loadGlobal_global (by rw [I.ok.glob]; exact I.mod.glob.keeps I.bk) hm h) hd
theorem qe6 {E:Value→Shared→Prop} {pins:List (Addr×Obj)} {s:Shared} {σ:St} {H:Hp} {x:Str} {u:Value} {pos:Pos} {Q:Value→Shared→Prop} (I:Inv X pins σ H s) (hg:Gl X x) (hm:X.mg x=none) (hv:bootBuiltins x=some u) (h:Q u s)
    (hn:x≠"__name__":=by decide) (hd:(x == ("__debug__":Str))=false:=by decide):wpAny (model X.prog X.w) X.A (eval (.Name x pos) X.env) Q E s:=by
  obtain ⟨mb,h1,h2⟩:=I.mod.blt
  exact Calls.Name_function_global I.ok.kind hg (Calls.loadGlobal_builtin (by rw [I.ok.glob]; exact I.mod.glob.keeps I.bk) hm (by rw [I.ok.blt]; exact h1.keeps I.bk) ((h2 x hn).trans hv) h) hd
theorem pe_glob {x:Str} {v:V} {u:Value} {pos:Pos} (hg:Gl X x) (hm:X.mg x=some u) (r:RelV v u) (hd:(x == ("__debug__":Str))=false:=by decide):PE X (.Name x pos) (tC v) :=
  fun _ _ _ H _ I h=>ld_glob I hg hm ⟨v,H,I,r,h⟩ hd
theorem pe_bltn {x:Str} {v:V} {u:Value} {pos:Pos} (hg:Gl X x) (hm:X.mg x=none) (hv:bootBuiltins x=some u) (r:RelV v u) (hn:x≠"__name__":=by decide) (hd:(x == ("__debug__":Str))=false:=by decide):PE X (.Name x pos) (tC v) :=
  fun _ _ _ H _ I h=>qe6 I hg hm hv ⟨v,H,I,r,h⟩ hn hd
variable {a b:Expr} {ta tb:TE} {pos:Pos}
def PC (X:Cx) (op:CmpOp) (a b:Expr) (t:TE):Prop :=
  ∀ (pins:List (Addr×Obj)) (s:Shared) (σ:St) (H:Hp) (Q:VK),Inv X pins σ H s→t σ H Q →
    wpAny (model X.prog X.w) X.A (eval a X.env) (fun v s₁=>wpAny (model X.prog X.w) X.A (eval b X.env) (fun u s₂=>wpAny (model X.prog X.w) X.A (compareOp op v u) (EP X pins σ Q) X.xe s₂) X.xe s₁) X.xe s
def tB (t:TE):TT:=fun σ H Q=>t σ H fun x H1=>∃ c,x=.bl c∧Q c H1
theorem pt_cmp {op:CmpOp} {t:TE} (h:PC X op a b t) (h1:behindInMarks op b=false:=by first | exact nobehind _ (by decide) (by decide) | rfl):PT X (.Compare a [op] [b] pos) (tB t):=by
  intro pins s σ H Q I hw
  refine wpAny_isTrue_Compare1 (thn (h pins s σ H _ I hw) fun v s1 h1=>thn h1 fun u s2 h2=>thn h2 fun c s3 ⟨x,H1,I1,r1,q1⟩=>?_) h1
  obtain ⟨d,rfl,q⟩:=q1
  cases r1
  exact wpAny_truthy_bool ⟨H1,I1,q⟩
theorem pt_val {e:Expr} {t:TE} (h:PE X e t) (he:∀ whole,isTrue e X.env whole=(do let v ← whole; standAt e.pos; holding [v] (truthy v)):=by intro _; rfl):PT X e (tB t):=by
  intro pins s σ H Q I hw
  refine isTrue_plain (thn (h pins s σ H _ I hw) fun v s1 ⟨x,H1,I1,r1,q1⟩=>?_) (he _)
  obtain ⟨d,rfl,q⟩:=q1
  cases r1
  exact wpAny_truthy_bool ⟨H1,I1,q⟩
variable {tA tB':TT} {rest:List Expr}
def tAnd (t u:TT):TT:=fun σ H Q=>t σ H fun c H1=>if c=true then u σ H1 Q else Q false H1
def tOr (t u:TT):TT:=fun σ H Q=>t σ H fun c H1=>if c=true then Q true H1 else u σ H1 Q
def tNot (t:TT):TT:=fun σ H Q=>t σ H fun c H1=>Q (!c) H1
theorem pw_and1 (ha:PT X a tA):PW X (.BoolOp .And [a] pos) tA:=by
  intro wh pins s σ H Q I h
  refine isTrue_and (thn (ha pins s σ H Q I h) fun c s1 e=>?_)
  cases c with
  | true=>exact isTrue_and_nil e
  | false=>exact e
theorem pw_or1 (ha:PT X a tA):PW X (.BoolOp .Or [a] pos) tA:=by
  intro wh pins s σ H Q I h
  refine isTrue_or (thn (ha pins s σ H Q I h) fun c s1 e=>?_)
  cases c with
  | false=>exact isTrue_or_nil e
  | true=>exact e
theorem pw_and (ha:PT X a tA) (hb:PW X (.BoolOp .And (b :: rest) pos) tB'):PW X (.BoolOp .And (a :: b :: rest) pos) (tAnd tA tB'):=by
  intro wh pins s σ H Q I h
  refine isTrue_and (thn (ha pins s σ H _ I h) fun c s1 ⟨H1,I1,q1⟩=>?_)
  cases c with
  | true=>exact hb wh pins s1 σ H1 Q I1 q1
  | false=>exact ⟨H1,I1,q1⟩
theorem pw_or (ha:PT X a tA) (hb:PW X (.BoolOp .Or (b :: rest) pos) tB'):PW X (.BoolOp .Or (a :: b :: rest) pos) (tOr tA tB'):=by
  intro wh pins s σ H Q I h
  refine isTrue_or (thn (ha pins s σ H _ I h) fun c s1 ⟨H1,I1,q1⟩=>?_)
  cases c with
  | true=>exact ⟨H1,I1,q1⟩
  | false=>exact hb wh pins s1 σ H1 Q I1 q1
theorem pt_not (ha:PT X a tA):PT X (.UnaryOp .Not a pos) (tNot tA):=by
  intro pins s σ H Q I h
  exact isTrue_not (ha pins s σ H (fun c H1=>Q (!c) H1) I h)
def tAndV (ta tb:TE):TE:=fun σ H Q=>ta σ H fun x H1=>∃ c,x=.bl c∧if c=true then tb σ H1 Q else Q (.bl false) H1
def tNotV (ta:TE):TE:=fun σ H Q=>ta σ H fun x H1=>∃ c,x=.bl c∧Q (.bl (!c)) H1
theorem pe_one {op} {t:TE} (h:PE X a t):PE X (.BoolOp op [a] pos) t:=fun pins s σ H Q I hw=>BoolOp_one (h pins s σ H Q I hw)
theorem pe_and (ha:PE X a ta) (hb:PE X (.BoolOp .And (b :: rest) pos) tb):PE X (.BoolOp .And (a :: b :: rest) pos) (tAndV ta tb):=by
  intro pins s σ H Q I h
  refine BoolOp_and (thn (ha pins s σ H _ I h) fun v s1 ⟨x,H1,I1,r1,q1⟩=>?_)
  obtain ⟨c,rfl,q1⟩:=q1
  cases r1
  refine wpAny_truthy_bool ?_
  cases c with
  | true=>exact hb pins s1 σ H1 Q I1 q1
  | false=>exact ⟨.bl false,H1,I1,rfl,q1⟩
theorem pe_not (ha:PE X a ta):PE X (.UnaryOp .Not a pos) (tNotV ta):=by
  intro pins s σ H Q I h
  refine UnaryOp_ (thn (ha pins s σ H _ I h) fun v s1 ⟨x,H1,I1,r1,q1⟩=>?_)
  obtain ⟨c,rfl,q1⟩:=q1
  cases r1
  exact not_of (wpAny_truthy_bool ⟨.bl (!c),H1,I1,rfl,q1⟩)
def tIf (t:TT) (ta tb:TE):TE:=fun σ H Q=>t σ H fun c H1=>if c=true then ta σ H1 Q else tb σ H1 Q
theorem pe_ifExp {c:Expr} (hc:PT X c tA) (ha:PE X a ta) (hb:PE X b tb):PE X (.IfExp c a b pos) (tIf tA ta tb):=by
  intro pins s σ H Q I h
  refine wpAny_IfExp (thn (hc pins s σ H _ I h) fun d s1 ⟨H1,I1,q1⟩=>?_)
  cases d with
  | true=>exact ha pins s1 σ H1 Q I1 q1
  | false=>exact hb pins s1 σ H1 Q I1 q1
end
end L2
namespace L2
open PySem PySem.Spec PyProof.Rows
def SqL (K:PySem.W.Frag) (H:Hp) (a:Addr) (xs:List V):Prop :=
  Rd H a (.lst xs) ∨
    ∃ (o:Obj) (its:Array Value) (n:Nat),K.lookup a=some o∧o.cls=.type "list"∧o.dict=none∧o.data=.seq its n∧its.size≤sizeLine∧Vals xs its.toList
def SqT (K:PySem.W.Frag) (H:Hp) (a:Addr) (xs:List V):Prop :=
  Rd H a (.tup xs) ∨
    ∃ (o:Obj) (its:Array Value) (n:Nat),K.lookup a=some o∧o.cls=.type "tuple"∧o.data=.seq its n∧its.size≤sizeLine∧Vals xs its.toList
def absV:Value→Option V
  | .none=>some .non
  | .bool b=>some (.bl b)
  | .int i _=>some (.int i)
  | .str x _=>some (.str x)
  | .bytes b _=>some (.byt b)
  | .float b _=>some (.flt b)
  | .ref a=>some (.ref a)
  | .type n=>some (.ty n)
  | _=>none
theorem RelV.abs {x:V} {u:Value} (r:RelV x u):absV u=some x:=by
  cases x with
  | non=>cases r; rfl
  | bl _=>cases r; rfl
  | int _=>obtain ⟨t,rfl⟩:=r; rfl
  | str _=>obtain ⟨t,rfl⟩:=r; rfl
  | byt _=>obtain ⟨t,rfl⟩:=r; rfl
  | flt _=>obtain ⟨t,rfl⟩:=r; rfl
  | ref _=>cases r; rfl
  | ty _=>cases r; rfl
theorem RelV.inj {x y:V} {u:Value} (r:RelV x u) (q:RelV y u):x=y:=Option.some.inj (r.abs.symm.trans q.abs)
theorem Vals.inj:∀ {xs ys:List V} {us:List Value},Vals xs us→Vals ys us→xs=ys
  | _,_,_,.nil,.nil=>rfl
  | _,_,_,.cons r t,.cons r' t'=>by rw [r.inj r',Vals.inj t t']
section
variable {X:Cx} {pins:List (Addr×Obj)} {σ:St} {H:Hp} {s:Shared} {a:Addr} {xs ys:List V}
theorem SqL.of {K:PySem.W.Frag} (h:H a=some (.lst xs)):SqL K H a xs:=.inl (.inl h)
theorem SqT.of {K:PySem.W.Frag} (h:H a=some (.tup xs)):SqT K H a xs:=.inl (.inl h)
theorem Inv.list (I:Inv X pins σ H s) (h:SqL X.K H a xs):∃ its:List Value,Vals xs its∧PlainL s.heap a its.toArray∧xs.length≤sizeLine:=by
  rcases h with h | ⟨o,its,n,hk,hc,hd,hs,hz,r⟩
  · obtain ⟨z,its,n,r,e⟩:=h.ok I.hok
    exact ⟨its,r,⟨_,n,e,rfl,rfl,rfl⟩,z⟩
  · refine ⟨its.toList,r,⟨o,n,I.kIn a o hk,hc,hd,by simpa using hs⟩,?_⟩
    have e:=r.length
    simp only [Array.length_toList] at e
    omega
theorem Inv.tuple (I:Inv X pins σ H s) (h:SqT X.K H a xs):∃ its:List Value,Vals xs its∧IsTup s.heap a its.toArray∧xs.length≤sizeLine:=by
  rcases h with h | ⟨o,its,n,hk,hc,hs,hz,r⟩
  · obtain ⟨z,its,r,p⟩:=h.ok I.hok
    exact ⟨its,r,p.tup,z⟩
  · refine ⟨its.toList,r,⟨o,I.kIn a o hk,hc,n,by simpa using hs⟩,?_⟩
    have e:=r.length
    simp only [Array.length_toList] at e
    omega
theorem Inv.list_inj (I:Inv X pins σ H s) (h:SqL X.K H a xs) (h':SqL X.K H a ys):xs=ys:=by
  obtain ⟨its,r,⟨o,n,e,_,_,d⟩,_⟩:=I.list h
  obtain ⟨its',r',⟨o',n',e',_,_,d'⟩,_⟩:=I.list h'
  rw [e] at e'; cases e'
  rw [d] at d'
  injection d' with d1 _
  have:its=its':=by simpa using congrArg Array.toList d1
  subst this
  exact r.inj r'
theorem Inv.tuple_inj (I:Inv X pins σ H s) (h:SqT X.K H a xs) (h':SqT X.K H a ys):xs=ys:=by
  obtain ⟨its,r,⟨o,e,_,n,d⟩,_⟩:=I.tuple h
  obtain ⟨its',r',⟨o',e',_,n',d'⟩,_⟩:=I.tuple h'
  rw [e] at e'; cases e'
  rw [d] at d'
  injection d' with d1 _
  have:its=its':=by simpa using congrArg Array.toList d1
  subst this
  exact r.inj r'
end
abbrev Cx.wish (X:Cx) (E:Value→Shared→Prop):Cx:={ X with xe:=E }
abbrev Cx.nox (X:Cx):Cx:=X.wish fun _ _=>False
theorem Cx.Ok.wish {X:Cx} (ok:X.Ok) (E:Value→Shared→Prop):(X.wish E).Ok :=
  ⟨ok.mod,ok.kind,ok.glob,ok.blt,ok.above,ok.inj,ok.has,ok.cab,ok.hd,ok.frames,ok.stk,ok.exf,ok.bs,ok.bsz,ok.noex,ok.exfs,ok.funs,ok.frf⟩
theorem Cx.Ok.unwish {X:Cx} {E:Value→Shared→Prop} (ok:(X.wish E).Ok):X.Ok :=
  ⟨ok.mod,ok.kind,ok.glob,ok.blt,ok.above,ok.inj,ok.has,ok.cab,ok.hd,ok.frames,ok.stk,ok.exf,ok.bs,ok.bsz,ok.noex,ok.exfs,ok.funs,ok.frf⟩
section
variable {X:Cx} {pins:List (Addr×Obj)} {σ:St} {H:Hp} {s:Shared} {E:Value→Shared→Prop}
theorem Inv.wish (I:Inv X pins σ H s) (E:Value→Shared→Prop):Inv (X.wish E) pins σ H s:=⟨I.ok.wish E,I.os,I.bare,I.base,I.loc,I.cell,I.free,I.freeC,I.pin,I.hok,I.len⟩
theorem Inv.unwish (I:Inv (X.wish E) pins σ H s):Inv X pins σ H s:=⟨I.ok.unwish,I.os,I.bare,I.base,I.loc,I.cell,I.free,I.freeC,I.pin,I.hok,I.len⟩
theorem SP.unwish {D:Ends} {f:Flow} {s':Shared} (h:SP (X.wish E) pins D f s'):SP X pins D f s':=by
  cases f with
  | next=>obtain ⟨σ',H',I,q⟩:=h; exact ⟨σ',H',I.unwish,q⟩
  | brk=>obtain ⟨σ',H',I,q⟩:=h; exact ⟨σ',H',I.unwish,q⟩
  | cont=>obtain ⟨σ',H',I,q⟩:=h; exact ⟨σ',H',I.unwish,q⟩
  | ret u=>obtain ⟨v,σ',H',I,r,q⟩:=h; exact ⟨v,σ',H',I.unwish,r,q⟩
theorem PSs.nox {st:List Stmt} {t:TS} (h:PSs X.nox st t):PSs X st t:=fun pins s σ H D I hw =>
  wpAny_mono (h pins s σ H D (I.wish _) hw) (fun _ _ q=>q.unwish) fun _ _ z=>False.elim z
end
section
variable {X:Cx} {st:Stmt} {rest:List Stmt} {t u:TS} {e:Expr} {te:TE} {pos:Pos}
def tNext:TS:=fun D σ H=>D.nx σ H
def tSeq (t u:TS):TS:=fun D σ H=>t { D with nx:=u D } σ H
theorem pss_nil:PSs X [] tNext:=fun _ _ σ H _ I h=>wpAny_execs_nil ⟨σ,H,I,h⟩
theorem pss_cons (h1:PS X st t) (h2:PSs X rest u):PSs X (st :: rest) (tSeq t u):=by
  intro pins s σ H D I h
  refine wpAny_execs_cons (thn (h1 pins s σ H { D with nx:=u D } I h) fun f s1 q=>?_)
  cases f with
  | next =>
    obtain ⟨σ',H',I',q⟩:=q
    exact h2 pins s1 σ' H' D I' q
  | ret v=>exact q
  | brk=>exact q
  | cont=>exact q
theorem pss_one (h1:PS X st t):PSs X [st] t:=by
  intro pins s σ H D I h
  refine wpAny_execs_cons (thn (h1 pins s σ H D I h) fun f s1 q=>?_)
  cases f with
  | next=>exact wpAny_execs_nil q
  | ret v=>exact q
  | brk=>exact q
  | cont=>exact q
theorem Inv.quiet {pins:List (Addr×Obj)} {σ:St} {H:Hp} {s:Shared} (I:Inv X pins σ H s):interactive X.env=false:=by simp [interactive,I.ok.kind]
def tDrop (te:TE):TS:=fun D σ H=>te σ H fun _ H1=>D.nx σ H1
theorem ps_expr (he:PE X e te) (hs:swapsWith e none pos.line X.env=pure false:=by rfl):PS X (.Expr e pos) (tDrop te):=by
  intro pins s σ H D I h
  exact wpAny_Expr_any (thn (he pins s σ H _ I h) fun v s1 ⟨x,H1,I1,r1,q1⟩=>⟨σ,H1,I1,q1⟩) I.quiet hs
def tRet (te:TE):TS:=fun D σ H=>te σ H D.rt
theorem ps_ret (he:PE X e te):PS X (.Return (some e) pos) (tRet te):=by
  intro pins s σ H D I h
  exact wpAny_Return_some (thn (he pins s σ H _ I h) fun v s1 ⟨x,H1,I1,r1,q1⟩=>⟨x,σ,H1,I1,r1,q1⟩)
def tIfS (c:TT) (t u:TS):TS:=fun D σ H=>c σ H fun b H1=>if b=true then t D σ H1 else u D σ H1
theorem ps_if {c:Expr} {a b:List Stmt} {tc:TT} (hc:PT X c tc) (ha:PSs X a t) (hb:PSs X b u):PS X (.If c a b pos) (tIfS tc t u):=by
  intro pins s σ H D I h
  refine wpAny_If (thn (hc pins s σ H _ I h) fun d s1 ⟨H1,I1,q1⟩=>?_)
  cases d with
  | true=>exact ha pins s1 σ H1 D I1 q1
  | false=>exact hb pins s1 σ H1 D I1 q1
end
abbrev TG:=V→St→Hp→(St→Hp→Prop)→Prop
abbrev TGs:=List V→St→Hp→(St→Hp→Prop)→Prop
def PG (X:Cx) (target:Expr) (t:TG):Prop :=
  ∀ (pins:List (Addr×Obj)) (s:Shared) (σ:St) (H:Hp) (v:V) (u:Value) (Q:St→Hp→Prop),Inv X pins σ H s→RelV v u→t v σ H Q →
    wpAny (model X.prog X.w) X.A (assign target X.env u) (fun _ s'=>∃ σ' H',Inv X pins σ' H' s'∧Q σ' H') X.xe s
def PGs (X:Cx) (ts:List Expr) (t:TGs):Prop :=
  ∀ (pins:List (Addr×Obj)) (s:Shared) (σ:St) (H:Hp) (vs:List V) (us:List Value) (Q:St→Hp→Prop),Inv X pins σ H s→Vals vs us→t vs σ H Q →
    wpAny (model X.prog X.w) X.A (assignInOrder ((assignEach ts X.env).map (·.2)) us) (fun _ s'=>∃ σ' H',Inv X pins σ' H' s'∧Q σ' H') X.xe s
abbrev TSet:=V→V→V→Hp→(Hp→Prop)→Prop
def PSet (X:Cx) (t:TSet):Prop :=
  ∀ (pins:List (Addr×Obj)) (s:Shared) (σ:St) (H:Hp) (o i v:V) (ov iv u:Value) (Q:Hp→Prop),Inv X pins σ H s→RelV o ov→RelV i iv→RelV v u→t o i v H Q →
    wpAny (model X.prog X.w) X.A (setItem ov iv u) (fun _ s'=>∃ H',Inv X pins σ H' s'∧Q H') X.xe s
section
variable {X:Cx} {pos:Pos}
def gName (i:Nat):TG:=fun v σ H Q=>Q (σ.set i (some v)) H
theorem pg_name {i:Nat} {x:Str} (hN:X.N.Nodup) (hi:X.N[i]? = some x) (hx:Loc X.env.scope x) (hf:X.fn x=true∨X.env.scope.names.lookup x=some .local:=by first | exact .inl rfl | exact .inr rfl | assumption):PG X (.Name x pos) (gName i):=by
  intro pins s σ H v u Q I r h
  exact wpAny_assign_Name (store_ok I hN hi hx r (fun s' I'=>⟨_,H,I',h⟩) hf)
def gNil:TGs:=fun vs σ H Q=>vs=[]∧Q σ H
def gCons (t:TG) (u:TGs):TGs:=fun vs σ H Q=>∃ v r,vs=v :: r∧t v σ H fun σ' H'=>u r σ' H' Q
theorem pgs_nil:PGs X [] gNil:=by
  intro pins s σ H vs us Q I r h
  obtain ⟨e,h⟩:=h
  subst e
  cases r
  exact assignInOrder_nil ⟨σ,H,I,h⟩
theorem pgs_cons {e:Expr} {es:List Expr} {t:TG} {u:TGs} (h1:PG X e t) (h2:PGs X es u)
    (hs:(assignEach (e :: es) X.env).map (·.2)=assign e X.env :: (assignEach es X.env).map (·.2):=by rfl):PGs X (e :: es) (gCons t u):=by
  intro pins s σ H vs us Q I r h
  obtain ⟨v,vr,e1,h⟩:=h
  subst e1
  cases r with
  | cons r rr =>
    rw [hs]
    refine assignInOrder_cons (thn (h1 pins s σ H _ _ _ I r h) fun _ s1 ⟨σ1,H1,I1,q1⟩=>?_)
    exact h2 pins s1 σ1 H1 _ _ Q I1 rr q1
def gTup (K:PySem.W.Frag) (n:Nat) (t:TGs):TG:=fun v σ H Q=>∃ a xs,v=.ref a∧SqT K H a xs∧xs.length=n∧t xs σ H Q
theorem pg_tup {es:List Expr} {k:Nat} {t:TGs} {n:Nat} (hc:X.calm=true) (h:PGs X es t)
    (hn:(assignEach es X.env).length=n:=by rfl) (hst:(assignEach es X.env).findIdx? (·.1)=none:=by rfl):PG X (.Tuple es k pos) (gTup X.K n t):=by
  intro pins s σ H v u Q I r hw
  obtain ⟨a,xs,e1,hq,hl,hw⟩:=hw
  subst e1
  cases r
  obtain ⟨its,rv,ht,hz⟩:=I.tuple hq
  refine assign_Tuple_tuple (I.ok.hd hc) ht (by simp [hn,← hl,rv.length]) hst fun h' hx=>?_
  have I1:Inv X pins σ H { s with heap:=h' }:=I.kept (t':=s.toks) fun b o e=>hx b o (Nat.ne_of_lt (Heap.lt_size e)) e
  exact h pins _ σ H xs _ Q I1 (by simpa using rv) hw
def gSub (to ti:TE) (t:TSet):TG:=fun v σ H Q=>to σ H fun o H1=>ti σ H1 fun i H2=>t o i v H2 fun H3=>Q σ H3
theorem pg_sub {o i:Expr} {to ti:TE} {t:TSet} (ho:PE X o to) (hi:PE X i ti) (hs:PSet X t)
    (ha:∀ v,assign (.Subscript o i pos) X.env v=(do
      let ov ← holding [v] (eval o X.env)
      let iv ← holding [v,ov] (eval i X.env)
      standAt pos
      holding [v,ov,iv] (setItem ov iv v)
      release [v,ov,iv] []):=by intro _; rfl):PG X (.Subscript o i pos) (gSub to ti t):=by
  intro pins s σ H v u Q I r h
  rw [ha]
  refine wpAny_bind (wpAny_holding (thn (ho pins s σ H _ I h) fun ov s1 ⟨x,H1,I1,r1,q1⟩=>?_))
  refine wpAny_bind (wpAny_holding (thn (hi pins s1 σ H1 _ I1 q1) fun iv s2 ⟨y,H2,I2,r2,q2⟩=>?_))
  refine wpAny_bind (wpAny_standAt (wpAny_bind (wpAny_holding (thn (hs pins s2 σ H2 x y v ov iv u _ I2 r1 r2 r q2) fun _ s3 ⟨H3,I3,q3⟩=>?_))))
  exact wpAny_release ⟨σ,H3,I3,q3⟩
def tAsg (te:TE) (g:TG):TS:=fun D σ H=>te σ H fun x H1=>g x σ H1 D.nx
theorem ps_asg {tg e:Expr} {te:TE} {g:TG} (he:PE X e te) (hg:PG X tg g) (hs:swapsWithSole [tg] e pos.line X.env=pure false:=by rfl) (hw:swappedStores [tg] e X.env=pure none:=by rfl)
    (h1:(assignEach [tg] X.env).map (·.2)=[assign tg X.env]:=by rfl):PS X (.Assign [tg] e pos) (tAsg te g):=by
  intro pins s σ H D I h
  refine wpAny_Assign_stores (thn (he pins s σ H _ I h) fun v s1 ⟨x,H1,I1,r1,q1⟩=>?_) hs hw
  rw [h1]
  exact thn (hg pins s1 σ H1 x v _ I1 r1 q1) fun _ s2 q=>q
theorem ps_set {i:Nat} {x:Str} {e:Expr} {te:TE} {pos':Pos} (hN:X.N.Nodup) (hi:X.N[i]? = some x) (hx:Loc X.env.scope x) (he:PE X e te) (hs:swapsWith e (some (.Name x pos')) pos.line X.env=pure false:=by rfl) (hf:X.fn x=true∨X.env.scope.names.lookup x=some .local:=by first | exact .inl rfl | exact .inr rfl | assumption) :
    PS X (.Assign [.Name x pos'] e pos) (tAsg te (gName i)):=by
  intro pins s σ H D I h
  refine wpAny_Assign_Name (thn (he pins s σ H _ I h) fun v s1 ⟨y,H1,I1,r1,q1⟩=>?_) hs
  exact store_ok I1 hN hi hx r1 (fun s2 I2=>⟨_,H1,I2,q1⟩) hf
end
section
variable {X:Cx} {pos:Pos}
def tWhile (c:TT) (tb:TS):TS:=fun D σ H=>∃ W:Nat→St→Hp→Prop,(∃ m,W m σ H)∧∀ m σ H,W m σ H →
  c σ H fun b H1=>if b=true then ∃ N:St→Hp→Prop,(∀ σ' H',N σ' H'→∃ m',m' < m∧W m' σ' H')∧tb { D with nx:=N,ct:=N,bk:=D.nx } σ H1 else D.nx σ H1
theorem ps_while {c:Expr} {body:List Stmt} {tc:TT} {tb:TS} (hp:PassesOwn (model X.prog X.w) X.A X.env X.xe) (hc:PT X c tc) (hb:PSs X body tb):PS X (.While c body [] pos) (tWhile tc tb):=by
  intro pins s σ H D I h
  obtain ⟨W,⟨m0,w0⟩,turn⟩:=h
  refine wpAny_While (codeAny_whileLoop (fun n s'=>∃ σ' H',Inv X pins σ' H' s'∧W n σ' H') ?_ m0 ⟨σ,H,I,w0⟩)
  rintro n s1 ⟨σ1,H1,I1,w1⟩
  refine wpAny_passesOwn hp (thn (hc pins s1 σ1 H1 _ I1 (turn n σ1 H1 w1)) fun b s2 ⟨H2,I2,q2⟩=>?_)
  cases b with
  | true =>
    obtain ⟨N,hN,q2⟩:=q2
    rw [if_pos rfl]
    refine wpAny_passesOwn hp (thn (hb pins s2 σ1 H2 _ I2 q2) fun f s3 q3=>?_)
    cases f with
    | next =>
      obtain ⟨σ3,H3,I3,n3⟩:=q3
      obtain ⟨m',hm,w3⟩:=hN σ3 H3 n3
      exact ⟨m',hm,σ3,H3,I3,w3⟩
    | cont =>
      obtain ⟨σ3,H3,I3,n3⟩:=q3
      obtain ⟨m',hm,w3⟩:=hN σ3 H3 n3
      exact ⟨m',hm,σ3,H3,I3,w3⟩
    | brk=>exact q3
    | ret v=>exact q3
  | false =>
    rw [if_neg Bool.false_ne_true]
    exact wpAny_execs_nil ⟨σ1,H2,I2,q2⟩
end
structure It where
  go:Nat→Hp→Prop
  yld:Nat→Hp→V→Hp→Prop
  stop:Nat→Hp→Prop
def FpOk (X:Cx) (pins:List (Addr×Obj)) (H:Hp) (b:Addr):Prop :=
  H b=none∧b≠X.env.locals∧b∉X.fs∧(b∈X.ex∨X.s₀.heap.objs.size≤b)∧(∀ x c,X.env.cells.lookup x=some c→c≠b)∧∀ p∈X.pn ++ pins,p.1≠b
theorem Inv.fpOk {X:Cx} {pins:List (Addr×Obj)} {σ:St} {H H':Hp} {s:Shared} {b:Addr} (I:Inv X pins σ H s) (hb:s.heap.objs.size≤b) (hn:H' b=none):FpOk X pins H' b:=by
  refine ⟨hn,Nat.ne_of_gt (Nat.lt_of_lt_of_le I.lt hb),I.nofs hb,.inr (Nat.le_trans I.sz hb),fun x c e z=>?_,fun p hp z=>?_⟩
  · obtain ⟨v,q⟩:=I.cell x c e
    exact absurd (Nat.lt_of_lt_of_le q.lt (by rw [z]; exact hb)) (Nat.lt_irrefl _)
  · exact absurd (Nat.lt_of_lt_of_le (Heap.lt_size (I.pin p hp).1) (by rw [z]; exact hb)) (Nat.lt_irrefl _)
structure Turn (P:Program) (w:World) (K:PySem.W.Frag) (tg:Expr) (J:It) (fp:List Addr) (it:Addr) (tn:Nat→Heap→Prop):Prop where
  mem:it∈fp
  obj:∀ i h,tn i h→∀ b∈fp,∃ o,h.get? b=some o∧∀ v,o.data≠.cell v
  keep:∀ i h h',tn i h→(∀ b∈fp,∀ o,h.get? b=some o→h'.get? b=some o)→tn i h'
  item:∀ (X:Cx),X.prog=P→X.w=w→X.K=K→X.calm=true→∀ (i:Nat) (pins:List (Addr×Obj)) (s:Shared) (σ:St) (H:Hp) (E:Value→Shared→Prop),Inv X pins σ H s→(∀ b∈fp,FpOk X pins H b)→tn i s.heap→J.go i H →
    wpAny (model P w) X.A (pyNext (.ref it)) (fun r s1=>∃ u,r=some u ∧
      wpAny (model P w) X.A (letOwnedTupleGo tg (.ref it) u) (fun _ s2=>∃ x H',Inv X pins σ H' s2∧RelV x u∧J.yld i H x H'∧tn (i + 1) s2.heap∧∀ b∈fp,H' b=none) E s1) E s
  done:∀ (X:Cx),X.prog=P→X.w=w→X.K=K→X.calm=true→∀ (i:Nat) (pins:List (Addr×Obj)) (s:Shared) (σ:St) (H:Hp) (E:Value→Shared→Prop),Inv X pins σ H s→(∀ b∈fp,FpOk X pins H b)→tn i s.heap→J.stop i H →
    wpAny (model P w) X.A (pyNext (.ref it)) (fun r s1=>r=none∧Inv X pins σ H s1) E s
  self:∀ (A:Around) (i:Nat) (s:Shared) (Q:Value→Shared→Prop) (E:Value→Shared→Prop),tn i s.heap→Q (.ref it) s→wpAny (model P w) A (pyIter (.ref it)) Q E s
abbrev TI:=St→Hp→(It→Hp→Prop)→Prop
def PIE (X:Cx) (pins:List (Addr×Obj)) (σ:St) (tg:Expr) (R:It→Hp→Prop) (itv:Value) (s2:Shared):Prop :=
  ∃ (it:Addr) (fp:List Addr) (tn:Nat→Heap→Prop) (J:It) (H':Hp),itv=.ref it∧Inv X pins σ H' s2∧Turn X.prog X.w X.K tg J fp it tn∧tn 0 s2.heap∧(∀ b∈fp,FpOk X pins H' b)∧R J H'
def PI (X:Cx) (tg iter:Expr) (wi:TI):Prop :=
  ∀ (pins:List (Addr×Obj)) (s:Shared) (σ:St) (H:Hp) (R:It→Hp→Prop),Inv X pins σ H s→wi σ H R →
    wpAny (model X.prog X.w) X.A (eval iter X.env) (fun v s1=>wpAny (model X.prog X.w) X.A (pyIter v) (PIE X pins σ tg R) X.xe s1) X.xe s
theorem go_of {M:Model} {A:Around} {E:Value→Shared→Prop} {s:Shared} {tg:Expr} {it:Addr} {u:Value} {o:Obj} {n:String} {vs:Array Value} {Q:Unit→Shared→Prop} (ho:s.heap.get? it=some o) (hc:o.cls=.type n) (hd:o.data=.fields vs)
    (hn:["enumerate","zip","dict_itemiterator","dict_reverseitemiterator","odict_iterator","itertools.zip_longest","itertools.pairwise"].contains n=false) (hQ:Q () s):wpAny M A (letOwnedTupleGo tg (.ref it) u) Q E s:=by
  unfold letOwnedTupleGo
  cases tg <;> first
    | exact wpAny_pure hQ
    | (cases u <;> first
        | exact wpAny_pure hQ
        | (refine wpAny_bind (wpAny_load ho ?_)
           rw [hc,hd]
           show wpAny M A (if (["enumerate","zip","dict_itemiterator","dict_reverseitemiterator","odict_iterator","itertools.zip_longest","itertools.pairwise"].contains n && vs[0]? == some (rawInt _))=true then _ else _) Q E s
           rw [if_neg (by intro h; rw [hn,Bool.false_and] at h; cases h)]
           exact wpAny_pure hQ))
def Itl (K:PySem.W.Frag) (a:Addr):It :=
  ⟨fun i H=>∃ xs x,SqL K H a xs∧xs[i]? = some x,fun i H x H'=>H'=H∧∀ xs,SqL K H a xs→xs[i]? = some x,fun i H=>∃ xs,SqL K H a xs∧xs.length≤i⟩
def Itt (K:PySem.W.Frag) (a:Addr):It :=
  ⟨fun i H=>∃ xs x,SqT K H a xs∧xs[i]? = some x,fun i H x H'=>H'=H∧∀ xs,SqT K H a xs→xs[i]? = some x,fun i H=>∃ xs,SqT K H a xs∧xs.length≤i⟩
def Itr (lo:Int) (n:Nat):It:=⟨fun i _=>i < n,fun i H x H'=>H'=H∧x=.int (lo + i),fun i _=>n≤i⟩
theorem turn_list {P:Program} {w:World} {K:PySem.W.Frag} {tg:Expr} (a it:Addr):Turn P w K tg (Itl K a) [it] it (fun i h=>h.IsListIter it a i) where
  mem:=by simp
  obj:=fun i h st b hb=>by
    have e:b=it:=by simpa using hb
    subst e
    obtain ⟨o,e,c,d⟩:=st
    exact ⟨o,e,fun v z=>by rw [d] at z; cases z⟩
  keep:=fun i h h' st k=>st.at fun o e=>k it (by simp) o e
  item:=by
    intro X hP hw hK hc i pins s σ H E I hf st hg
    subst hP hw hK
    obtain ⟨xs,x,hq,hx⟩:=hg
    obtain ⟨its,rv,p,hz⟩:=I.list hq
    obtain ⟨u,hu,ru⟩:=rv.get hx
    obtain ⟨f0,f1,f2,f3,f4,f5⟩:=hf it (by simp)
    refine wpAny_pyNext_list_item st p.isList (x:=u) (by simpa using hu) fun h' st' sb=>?_
    have I1:Inv X pins σ H { s with heap:=h' }:=I.turned (t':=s.toks) (fun b o hb e=>(sb.2 b hb).trans e) f0 f1 f3 f4 f5
    obtain ⟨o,e,c,d⟩:=id st'
    exact ⟨u,rfl,go_of (s:={ s with heap:=h' }) e c d (by decide) ⟨x,H,I1,ru,⟨rfl,fun ys hy=>by rw [I.list_inj hy hq]; exact hx⟩,st',fun b hb=>(hf b hb).1⟩⟩
  done:=by
    intro X hP hw hK hc i pins s σ H E I hf st hg
    subst hP hw hK
    obtain ⟨xs,hq,hx⟩:=hg
    obtain ⟨its,rv,p,hz⟩:=I.list hq
    obtain ⟨f0,f1,f2,f3,f4,f5⟩:=hf it (by simp)
    have hl:=rv.length
    exact wpAny_pyNext_list_end (I.ok.hd hc) st p.isList (by simp; omega) fun h' eb=>⟨rfl,I.turned (t':=s.toks) (fun b o hb e=>eb b o hb e) f0 f1 f3 f4 f5⟩
  self:=fun _ _ _ _ _ st h=>wpAny_pyIter_listiter st h
theorem turn_tuple {P:Program} {w:World} {K:PySem.W.Frag} {tg:Expr} (a it:Addr):Turn P w K tg (Itt K a) [it] it (fun i h=>h.IsTupleIter it a i) where
  mem:=by simp
  obj:=fun i h st b hb=>by
    have e:b=it:=by simpa using hb
    subst e
    obtain ⟨o,e,c,d⟩:=st
    exact ⟨o,e,fun v z=>by rw [d] at z; cases z⟩
  keep:=fun i h h' st k=>st.at fun o e=>k it (by simp) o e
  item:=by
    intro X hP hw hK hc i pins s σ H E I hf st hg
    subst hP hw hK
    obtain ⟨xs,x,hq,hx⟩:=hg
    obtain ⟨its,rv,p,hz⟩:=I.tuple hq
    obtain ⟨u,hu,ru⟩:=rv.get hx
    obtain ⟨f0,f1,f2,f3,f4,f5⟩:=hf it (by simp)
    refine wpAny_pyNext_tuple_item st (show s.heap.IsTuple a its.toArray from p) (x:=u) (by simpa using hu) fun h' st' sb=>?_
    have I1:Inv X pins σ H { s with heap:=h' }:=I.turned (t':=s.toks) (fun b o hb e=>(sb.2 b hb).trans e) f0 f1 f3 f4 f5
    obtain ⟨o,e,c,d⟩:=id st'
    exact ⟨u,rfl,go_of (s:={ s with heap:=h' }) e c d (by decide) ⟨x,H,I1,ru,⟨rfl,fun ys hy=>by rw [I.tuple_inj hy hq]; exact hx⟩,st',fun b hb=>(hf b hb).1⟩⟩
  done:=by
    intro X hP hw hK hc i pins s σ H E I hf st hg
    subst hP hw hK
    obtain ⟨xs,hq,hx⟩:=hg
    obtain ⟨its,rv,p,hz⟩:=I.tuple hq
    obtain ⟨f0,f1,f2,f3,f4,f5⟩:=hf it (by simp)
    have hl:=rv.length
    exact wpAny_pyNext_tuple_end (I.ok.hd hc) st (show s.heap.IsTuple a its.toArray from p) (by simp; omega) fun h' eb=>⟨rfl,I.turned (t':=s.toks) (fun b o hb e=>eb b o hb e) f0 f1 f3 f4 f5⟩
  self:=fun _ _ _ _ _ st h=>wpAny_pyIter_tupleiter st h
theorem turn_range {P:Program} {w:World} {K:PySem.W.Frag} {tg:Expr} (it:Addr) (lo:Int) (n:Nat):Turn P w K tg (Itr lo n) [it] it (fun i h=>IsRangeIter h it (lo + (i:Nat) * 1) ((n:Int) - (i:Nat)) 1) where
  mem:=by simp
  obj:=fun i h st b hb=>by
    have e:b=it:=by simpa using hb
    subst e
    exact ⟨_,st,fun v z=>by
      have z':Data.fields _=Data.cell v:=z
      cases z'⟩
  keep:=fun i h h' st k=>k it (by simp) _ st
  item:=by
    intro X hP hw hK hc i pins s σ H E I hf st hg
    subst hP hw hK
    obtain ⟨f0,f1,f2,f3,f4,f5⟩:=hf it (by simp)
    have W:=Walks.range (prog:=X.prog) (w:=X.w) (I.ok.hd hc) it lo 1 n
    refine W.item i s _ _ hg st fun v h' tk hv st' kk=>?_
    obtain ⟨t,rfl⟩:=hv
    have I1:Inv X pins σ H { s with heap:=h',toks:=tk }:=I.turned (fun b o hb e=>kk b o (by simpa using hb) e) f0 f1 f3 f4 f5
    refine ⟨_,rfl,go_of (s:={ s with heap:=h',toks:=tk }) (n:="range_iterator") st' rfl rfl (by decide) ⟨.int (lo + i),H,I1,⟨t,?_⟩,⟨rfl,rfl⟩,st',fun b hb=>(hf b hb).1⟩⟩
    rw [Int.mul_one]
  done:=by
    intro X hP hw hK hc i pins s σ H E I hf st hg
    subst hP hw hK
    obtain ⟨f0,f1,f2,f3,f4,f5⟩:=hf it (by simp)
    exact wpAny_pyNext_range_end (I.ok.hd hc) st (by have:n≤i:=hg; omega) fun h' eb=>⟨rfl,I.turned (t':=s.toks) (fun b o hb e=>eb b o hb e) f0 f1 f3 f4 f5⟩
  self:=fun _ _ _ _ _ st h=>wpAny_pyIter_rangeiter st h
end L2
namespace L2
open PySem PySem.Spec PyProof.Rows
section
variable {X:Cx} {tg:Expr}
def iList (K:PySem.W.Frag) (tl:TE):TI:=fun σ H R=>tl σ H fun x H1=>∃ a,x=.ref a∧(∃ xs,SqL K H1 a xs)∧R (Itl K a) H1
def iTup (K:PySem.W.Frag) (tl:TE):TI:=fun σ H R=>tl σ H fun x H1=>∃ a,x=.ref a∧(∃ xs,SqT K H1 a xs)∧R (Itt K a) H1
theorem pi_list {l:Expr} {tl:TE} (hl:PE X l tl):PI X tg l (iList X.K tl):=by
  intro pins s σ H R I h
  refine thn (hl pins s σ H _ I h) fun v s1 ⟨x,H1,I1,r1,q1⟩=>?_
  obtain ⟨a,e,⟨xs,hq⟩,q⟩:=q1
  subst e
  cases r1
  obtain ⟨its,rv,p,hz⟩:=I1.list hq
  refine wpAny_pyIter_list p.isList ?_
  refine ⟨s1.heap.objs.size,[s1.heap.objs.size],_,_,H1,rfl,I1.kept (t':=s1.toks) fun b o e=>Heap.get?_push_of_some _ e,turn_list a _,⟨_,Heap.get?_push_size _ rfl,rfl,rfl⟩,fun b hb=>?_,q⟩
  have e:b=s1.heap.objs.size:=by simpa using hb
  subst e
  exact I1.fpOk (Nat.le_refl _) (I1.hok.fresh (Nat.le_refl _))
theorem pi_tup {l:Expr} {tl:TE} (hl:PE X l tl):PI X tg l (iTup X.K tl):=by
  intro pins s σ H R I h
  refine thn (hl pins s σ H _ I h) fun v s1 ⟨x,H1,I1,r1,q1⟩=>?_
  obtain ⟨a,e,⟨xs,hq⟩,q⟩:=q1
  subst e
  cases r1
  obtain ⟨its,rv,p,hz⟩:=I1.tuple hq
  refine wpAny_pyIter_tuple (show s1.heap.IsTuple a its.toArray from p) ?_
  refine ⟨s1.heap.objs.size,[s1.heap.objs.size],_,_,H1,rfl,I1.kept (t':=s1.toks) fun b o e=>Heap.get?_push_of_some _ e,turn_tuple a _,⟨_,Heap.get?_push_size _ rfl,rfl,rfl⟩,fun b hb=>?_,q⟩
  have e:b=s1.heap.objs.size:=by simpa using hb
  subst e
  exact I1.fpOk (Nat.le_refl _) (I1.hok.fresh (Nat.le_refl _))
theorem range_it {pins:List (Addr×Obj)} {σ:St} {H:Hp} {s:Shared} {R:It→Hp→Prop} {E:Value→Shared→Prop} {lo hi:Int} {t u v:Tok} {tk:Nat} (I:Inv X pins σ H s) (h1:-(2 ^ 62)≤lo) (h2:lo < 2 ^ 62) (h3:-(2 ^ 62)≤hi) (h4:hi < 2 ^ 62)
    (q:R (Itr lo (hi - lo).toNat) H):wpAny (model X.prog X.w) X.A (pyIter (.ref s.heap.objs.size)) (PIE X pins σ tg R) E { s with heap:=s.heap.push { cls:=.type "range",data:=.fields #[.int lo t,.int hi u,.int 1 v] },toks:=tk }:=by
  refine wpAny_pyIter_range (IsRange.new ..) (small_one h1 h2 h3 h4) ?_
  have I1:Inv X pins σ H { s with heap:=s.heap.push { cls:=.type "range",data:=.fields #[.int lo t,.int hi u,.int 1 v] },toks:=tk }:=I.kept fun b o e=>Heap.get?_push_of_some _ e
  refine ⟨(s.heap.push { cls:=.type "range",data:=.fields #[.int lo t,.int hi u,.int 1 v] }).objs.size,[(s.heap.push { cls:=.type "range",data:=.fields #[.int lo t,.int hi u,.int 1 v] }).objs.size],_,_,H,rfl,
    I1.kept (t':=tk) fun b o e=>Heap.get?_push_of_some _ e,turn_range _ lo (hi - lo).toNat,?_,fun b hb=>?_,q⟩
  · have e1:lo + ((0:Nat):Int) * 1=lo:=by simp
    have e2:(((hi - lo).toNat:Nat):Int) - ((0:Nat):Int)=Builtin.Range.rangeSize lo hi 1:=by rw [rangeSize_one]; split <;> omega
    show IsRangeIter _ _ (lo + ((0:Nat):Int) * 1) ((((hi - lo).toNat:Nat):Int) - ((0:Nat):Int)) 1
    rw [e1,e2]
    exact Heap.get?_push_size _ rfl
  · have e:b=(s.heap.push { cls:=.type "range",data:=.fields #[.int lo t,.int hi u,.int 1 v] }).objs.size:=by simpa using hb
    subst e
    exact I1.fpOk (Nat.le_refl _) (I1.hok.fresh (Nat.le_refl _))
def iRng1 (ta:TA):TI:=fun σ H R=>ta σ H fun vs H1=>∃ j:Int,vs=[.int j]∧-(2 ^ 62)≤j∧j < 2 ^ 62∧R (Itr 0 j.toNat) H1
def iRng2 (ta:TA):TI:=fun σ H R=>ta σ H fun vs H1=>∃ i j:Int,vs=[.int i,.int j]∧(-(2 ^ 62)≤i∧i < 2 ^ 62∧-(2 ^ 62)≤j∧j < 2 ^ 62)∧R (Itr i (j - i).toNat) H1
theorem pi_range1 {a:Expr} {ta:TA} {p pos:Pos} (hg:Gl X "range") (hm:X.mg "range"=none) (ha:PA X [a] ta) (hs:starEach [a] X.env=[(false,eval a X.env)]:=by rfl):PI X tg (.Call (.Name "range" p) [a] [] pos) (iRng1 ta):=by
  intro pins s σ H R I h
  refine Call_ (qe6 I hg hm boot_range (PyProof.Rows.callWith_type1 (thn (ha pos pins s σ H _ I h) fun us s1 ⟨vs,H1,I1,r1,q1⟩=>?_) hs rfl))
  obtain ⟨j,e,q1,q2,q⟩:=q1
  subst e
  cases r1 with
  | cons r rr =>
    cases rr
    obtain ⟨t,rfl⟩:=r
    exact call_range_1 (range_it I1 (by omega) (by omega) q1 q2 (by simpa using q))
theorem pi_range2 {a b:Expr} {ta:TA} {p pos:Pos} (hg:Gl X "range") (hm:X.mg "range"=none) (ha:PA X [a,b] ta) (hs:starEach [a,b] X.env=[(false,eval a X.env),(false,eval b X.env)]:=by rfl) (hs2:starEach [b] X.env=[(false,eval b X.env)]:=by rfl) :
    PI X tg (.Call (.Name "range" p) [a,b] [] pos) (iRng2 ta):=by
  intro pins s σ H R I h
  refine Call_ (qe6 I hg hm boot_range (PyProof.Rows.callWith_type1 (thn (ha pos pins s σ H _ I h) fun us s1 ⟨vs,H1,I1,r1,q1⟩=>?_) (by rw [hs,hs2]) (by rw [hs2]; rfl)))
  obtain ⟨i,j,e,⟨q1,q2,q3,q4⟩,q⟩:=q1
  subst e
  cases r1 with
  | cons r rr =>
    cases rr with
    | cons r' rr =>
      cases rr
      obtain ⟨t,rfl⟩:=r
      obtain ⟨t',rfl⟩:=r'
      exact call_range_2 (range_it I1 q1 q2 q3 q4 q)
def tFor (wi:TI) (g:TG) (tb:TS):TS:=fun D σ H=>wi σ H fun J H1=>∃ W:Nat→Nat→St→Hp→Prop,(∃ m,W 0 m σ H1)∧∀ i m σ H,W i m σ H →
  (J.stop i H∧D.nx σ H)∨(J.go i H∧∃ N:St→Hp→Prop,(∀ σ' H',N σ' H'→∃ m',m' < m∧W (i + 1) m' σ' H')∧∀ x H',J.yld i H x H'→g x σ H' fun σ2 H2=>tb { D with nx:=N,ct:=N,bk:=D.nx } σ2 H2)
def pinsAt (fp:List Addr) (h:Heap):List (Addr×Obj):=fp.filterMap fun b=>(h.get? b).map fun o=>(b,o)
theorem qdQ {fp:List Addr} {h:Heap} {b:Addr} {o:Obj} (hb:b∈fp) (e:h.get? b=some o):(b,o)∈pinsAt fp h:=List.mem_filterMap.mpr ⟨b,hb,by rw [e]; rfl⟩
theorem of_pinsAt {fp:List Addr} {h:Heap} {p:Addr×Obj} (hp:p∈pinsAt fp h):p.1∈fp∧h.get? p.1=some p.2:=by
  obtain ⟨b,hb,e⟩:=List.mem_filterMap.mp hp
  cases q:h.get? b with
  | none=>rw [q] at e; cases e
  | some o =>
    rw [q] at e
    have e':(b,o)=p:=Option.some.inj e
    subst e'
    exact ⟨hb,q⟩
theorem Inv.pinned {pins:List (Addr×Obj)} {σ:St} {H:Hp} {s:Shared} {fp:List Addr} (I:Inv X pins σ H s) (hf:∀ b∈fp,FpOk X pins H b) (ho:∀ b∈fp,∃ o,s.heap.get? b=some o∧∀ v,o.data≠.cell v):Inv X (pins ++ pinsAt fp s.heap) σ H s :=
  I.pins_of fun p hp=>(List.mem_append.mp hp).elim (fun z=>I.pin p (List.mem_append_right _ z)) fun z=>by
    obtain ⟨hb,e⟩:=of_pinsAt z
    obtain ⟨f0,f1,f2,_⟩:=hf p.1 hb
    obtain ⟨o,e',d⟩:=ho p.1 hb
    rw [e] at e'; cases e'
    exact ⟨e,f0,f1,f2,d⟩
theorem Inv.unpinned {pins pl:List (Addr×Obj)} {σ:St} {H:Hp} {s:Shared} (I:Inv X (pins ++ pl) σ H s):Inv X pins σ H s:=I.pins_of fun p hp=>I.pin p (List.mem_append_right _ (List.mem_append_left _ hp))
theorem ps_for {iter:Expr} {body:List Stmt} {wi:TI} {g:TG} {tb:TS} {pos:Pos} (hp:PassesOwn (model X.prog X.w) X.A X.env X.xe) (hc:X.calm=true) (hi:PI X tg iter wi) (hg:PG X tg g) (hb:PSs X body tb)
    (hs:∀ x,foldedSetIterable iter X.env x=pure x:=by intro _; rfl):PS X (.For tg iter body [] pos) (tFor wi g tb):=by
  intro pins s σ H D I h
  refine wpAny_For (thn (hi pins s σ H _ I h) fun v s1 h1=>thn h1 fun itv s2 h2=>?_) hs
  obtain ⟨it,fp,tn,J,H2,e,I2,T,st2,f2,W,⟨m0,w0⟩,turn⟩:=h2
  subst e
  -- what stays true of the iterator's objects through the loop
  have stat:∀ {H':Hp},(∀ b∈fp,H' b=none)→∀ b∈fp,FpOk X pins H' b:=fun hn b hb=>⟨hn b hb,(f2 b hb).2⟩
  refine codeAny_forLoop_any (fun n s'=>∃ i σ' H',Inv X pins σ' H' s'∧tn i s'.heap∧(∀ b∈fp,H' b=none)∧W i n σ' H') ?_ m0 ⟨0,σ,H2,I2,st2,fun b hb=>(f2 b hb).1,w0⟩
  rintro n s3 ⟨i,σ3,H3,I3,st3,fr3,w3⟩
  rcases turn i n σ3 H3 w3 with ⟨stop,qn⟩ | ⟨go,N,hN,step⟩
  · refine wpAny_passesOwn hp (thn (T.done X rfl rfl rfl hc i pins s3 σ3 H3 X.xe I3 (stat fr3) st3 stop) fun r s4 ⟨hr,I4⟩=>?_)
    subst hr
    exact wpAny_execs_nil ⟨σ3,H3,I4,qn⟩
  · refine wpAny_passesOwn hp (thn (T.item X rfl rfl rfl hc i pins s3 σ3 H3 X.xe I3 (stat fr3) st3 go) fun r s4 ⟨u,hr,h4⟩=>?_)
    subst hr
    refine wpAny_passesOwn hp (thn h4 fun _ s5 ⟨x,H5,I5,r5,y5,st5,fr5⟩=>?_)
    have I5':=I5.pinned (stat fr5) (T.obj _ _ st5)
    refine wpAny_passesOwn hp (thn (hg _ s5 σ3 H5 x u _ I5' r5 (step x H5 y5)) fun _ s6 ⟨σ6,H6,I6,q6⟩=>?_)
    refine wpAny_passesOwn hp (thn (hb _ s6 σ6 H6 _ I6 q6) fun f s7 q7=>?_)
    have again:∀ {σ7:St} {H7:Hp},Inv X (pins ++ pinsAt fp s5.heap) σ7 H7 s7→N σ7 H7→∃ m,m < n∧∃ i σ' H',Inv X pins σ' H' s7∧tn i s7.heap∧(∀ b∈fp,H' b=none)∧W i m σ' H':=fun {σ7 H7} I7 n7=>by
      obtain ⟨m',hm,w7⟩:=hN σ7 H7 n7
      refine ⟨m',hm,i + 1,σ7,H7,I7.unpinned,T.keep _ _ _ st5 fun b hb o e=>(I7.pin (b,o) (List.mem_append_right _ (List.mem_append_right _ (qdQ hb e)))).1,fun b hb=>?_,w7⟩
      obtain ⟨o,e,d⟩:=T.obj _ _ st5 b hb
      exact (I7.pin (b,o) (List.mem_append_right _ (List.mem_append_right _ (qdQ hb e)))).2.1
    cases f with
    | next=>obtain ⟨σ7,H7,I7,n7⟩:=q7; exact again I7 n7
    | cont=>obtain ⟨σ7,H7,I7,n7⟩:=q7; exact again I7 n7
    | brk=>obtain ⟨σ7,H7,I7,q7⟩:=q7; exact ⟨σ7,H7,I7.unpinned,q7⟩
    | ret v=>obtain ⟨x7,σ7,H7,I7,r7,q7⟩:=q7; exact ⟨x7,σ7,H7,I7.unpinned,r7,q7⟩
end
end L2
namespace L2
open PySem PySem.Spec PyProof.Rows
abbrev R2:=V→V→Hp→VK→Prop
def OpR (X:Cx) (f:Value→Value→Sem Value) (r:R2):Prop :=
  ∀ (pins:List (Addr×Obj)) (s:Shared) (σ:St) (H:Hp) (x y:V) (v u:Value) (Q:VK),Inv X pins σ H s→RelV x v→RelV y u→r x y H Q →
    wpAny (model X.prog X.w) X.A (f v u) (EP X pins σ Q) X.xe s
def UnR (X:Cx) (f:Value→Sem Value) (r:V→Hp→VK→Prop):Prop :=
  ∀ (pins:List (Addr×Obj)) (s:Shared) (σ:St) (H:Hp) (x:V) (v:Value) (Q:VK),Inv X pins σ H s→RelV x v→r x H Q →
    wpAny (model X.prog X.w) X.A (f v) (EP X pins σ Q) X.xe s
def qdK (X:Cx) (f:Value) (r:List V→Hp→VK→Prop):Prop :=
  ∀ (pins:List (Addr×Obj)) (s:Shared) (σ:St) (H:Hp) (xs:List V) (us:List Value) (Q:VK),Inv X pins σ H s→Vals xs us→r xs H Q →
    wpAny (model X.prog X.w) X.A (call f us) (EP X pins σ Q) X.xe s
def TruR (X:Cx) (r:V→Hp→(Bool→Hp→Prop)→Prop):Prop :=
  ∀ (pins:List (Addr×Obj)) (s:Shared) (σ:St) (H:Hp) (x:V) (v:Value) (Q:Bool→Hp→Prop),Inv X pins σ H s→RelV x v→r x H Q →
    wpAny (model X.prog X.w) X.A (truthy v) (TP X pins σ Q) X.xe s
def tOp (r:R2) (ta tb:TE):TE:=fun σ H Q=>ta σ H fun x H1=>tb σ H1 fun y H2=>r x y H2 Q
def tUn (r:V→Hp→VK→Prop) (ta:TE):TE:=fun σ H Q=>ta σ H fun x H1=>r x H1 Q
def rI (C:Int→Int→Prop) (g:Int→Int→V):R2:=fun x y H Q=>∃ i j,x=.int i∧y=.int j∧C i j∧Q (g i j) H
def rI0 (g:Int→Int→V):R2:=fun x y H Q=>∃ i j,x=.int i∧y=.int j∧Q (g i j) H
def rU (g:Int→V):V→Hp→VK→Prop:=fun x H Q=>∃ i,x=.int i∧Q (g i) H
section
variable {X:Cx} {a b c:Expr} {ta tb tc:TE} {pos:Pos}
theorem binT (ha:PE X a ta) (hb:PE X b tb) {pins:List (Addr×Obj)} {s:Shared} {σ:St} {H:Hp} {R:V→V→Hp→Prop} (I:Inv X pins σ H s)
    (h:ta σ H fun x H1=>tb σ H1 fun y H2=>R x y H2) {Q:Value→Shared→Prop} {f:Value→Value→Sem Value}
    (hf:∀ v u s2 x y H2,Inv X pins σ H2 s2→RelV x v→RelV y u→R x y H2→wpAny (model X.prog X.w) X.A (f v u) Q X.xe s2) :
    wpAny (model X.prog X.w) X.A (eval a X.env) (fun v s₁=>wpAny (model X.prog X.w) X.A (eval b X.env) (fun u s₂=>wpAny (model X.prog X.w) X.A (f v u) Q X.xe s₂) X.xe s₁) X.xe s:=by
  refine thn (ha pins s σ H _ I h) fun v s1 ⟨x,H1,I1,r1,q1⟩=>?_
  refine thn (hb pins s1 σ H1 _ I1 q1) fun u s2 ⟨y,H2,I2,r2,q2⟩=>?_
  exact hf v u s2 x y H2 I2 r1 r2 q2
theorem pe_op {op:Operator} {r:R2} (ho:OpR X (binaryOp op) r) (ha:PE X a ta) (hb:PE X b tb):PE X (.BinOp a op b pos) (tOp r ta tb):=by
  intro pins s σ H Q I h
  exact wpAny_BinOp (binT ha hb I h fun v u s2 x y H2 I2 rx ry q=>ho pins s2 σ H2 x y v u Q I2 rx ry q)
theorem pe_un {op:UnaryOp} {r:V→Hp→VK→Prop} (ho:UnR X (unaryOp op) r) (ha:PE X a ta):PE X (.UnaryOp op a pos) (tUn r ta):=by
  intro pins s σ H Q I h
  exact UnaryOp_ (thn (ha pins s σ H _ I h) fun v s1 ⟨x,H1,I1,r1,q1⟩=>ho pins s1 σ H1 x v Q I1 r1 q1)
theorem opI {f:Value→Value→Sem Value} {C:Int→Int→Prop} {g:Int→Int→Int}
    (rule:∀ (i j:Int) (t u:Tok) (s:Shared) (Q:Value→Shared→Prop) (E:Value→Shared→Prop),C i j→Q (.int (g i j) s.toks) { s with toks:=s.toks + 1 }→wpAny (model X.prog X.w) X.A (f (.int i t) (.int j u)) Q E s) :
    OpR X f (rI C fun i j=>.int (g i j)):=by
  intro pins s σ H x y v u Q I rx ry h
  obtain ⟨i,j,rfl,rfl,hc,q⟩:=h
  obtain ⟨t,rfl⟩:=rx
  obtain ⟨t',rfl⟩:=ry
  exact rule i j t t' s _ _ hc ⟨.int (g i j),H,I.tok _,⟨_,rfl⟩,q⟩
theorem opI0 {f:Value→Value→Sem Value} {g:Int→Int→Int}
    (rule:∀ (i j:Int) (t u:Tok) (s:Shared) (Q:Value→Shared→Prop) (E:Value→Shared→Prop),Q (.int (g i j) s.toks) { s with toks:=s.toks + 1 }→wpAny (model X.prog X.w) X.A (f (.int i t) (.int j u)) Q E s) :
    OpR X f (rI0 fun i j=>.int (g i j)):=by
  intro pins s σ H x y v u Q I rx ry h
  obtain ⟨i,j,rfl,rfl,q⟩:=h
  obtain ⟨t,rfl⟩:=rx
  obtain ⟨t',rfl⟩:=ry
  exact rule i j t t' s _ _ ⟨.int (g i j),H,I.tok _,⟨_,rfl⟩,q⟩
theorem opB0 {f:Value→Value→Sem Value} {g:Int→Int→Bool}
    (rule:∀ (i j:Int) (t u:Tok) (s:Shared) (Q:Value→Shared→Prop) (E:Value→Shared→Prop),Q (.bool (g i j)) s→wpAny (model X.prog X.w) X.A (f (.int i t) (.int j u)) Q E s) :
    OpR X f (rI0 fun i j=>.bl (g i j)):=by
  intro pins s σ H x y v u Q I rx ry h
  obtain ⟨i,j,rfl,rfl,q⟩:=h
  obtain ⟨t,rfl⟩:=rx
  obtain ⟨t',rfl⟩:=ry
  exact rule i j t t' s _ _ ⟨.bl (g i j),H,I,rfl,q⟩
def CDiv (i j:Int):Prop:=0 < j∧j < 1073741824
def CPow (i j:Int):Prop:=0≤j∧j≤1000000∧i.natAbs < 2 ^ 64
def CMul (i j:Int):Prop:=(-(2 ^ 64) < i∧i < 2 ^ 64)∨(-(2 ^ 64) < j∧j < 2 ^ 64)
theorem CMul.ok {i j:Int} (h:CMul i j):IntMulOk i j:=by
  rcases h with ⟨h1,h2⟩ | ⟨h1,h2⟩
  · exact .of_left (intBits_le_64 h1 h2)
  · exact .of_right (intBits_le_64 h1 h2)
theorem op_add:OpR X (binaryOp .Add) (rI0 fun i j=>.int (i + j)):=opI0 fun _ _ _ _ _ _ _ q=>add_int q
theorem op_sub:OpR X (binaryOp .Sub) (rI0 fun i j=>.int (i - j)):=opI0 fun _ _ _ _ _ _ _ q=>sub_int q
theorem op_mul:OpR X (binaryOp .Mult) (rI CMul fun i j=>.int (i * j)):=opI fun _ _ _ _ _ _ _ hc q=>mul_int q hc.ok
theorem op_fdiv:OpR X (binaryOp .FloorDiv) (rI CDiv fun i j=>.int (i / j)):=opI fun i j _ _ _ _ _ hc q=>by
  have h1:(0:Int) < j:=hc.1
  have h2:j < 1073741824:=hc.2
  exact floordiv_int (by omega) (by rw [Int.fdiv_eq_ediv_of_nonneg i (by omega)]; exact q) (.inl (PyProof.noPylong_small (by omega)))
theorem op_mod:OpR X (binaryOp .Mod) (rI (fun _ j=>0 < j) fun i j=>.int (i % j)):=opI fun i j _ _ _ _ _ hc q=>by
  have h1:(0:Int) < j:=hc
  exact mod_int' (by omega) (by rw [Int.fmod_eq_emod_of_nonneg i (by omega)]; exact q)
theorem op_pow:OpR X (binaryOp .Pow) (rI CPow fun i j=>.int (i ^ j.toNat)):=opI fun _ _ _ _ _ _ _ hc q=>pow_int_small hc.1 hc.2.1 hc.2.2 q
theorem unI {f:Value→Sem Value} {g:Int→Int}
    (rule:∀ (i:Int) (t:Tok) (s:Shared) (Q:Value→Shared→Prop) (E:Value→Shared→Prop),Q (.int (g i) s.toks) { s with toks:=s.toks + 1 }→wpAny (model X.prog X.w) X.A (f (.int i t)) Q E s) :
    UnR X f (rU fun i=>.int (g i)):=by
  intro pins s σ H x v Q I rx h
  obtain ⟨i,rfl,q⟩:=h
  obtain ⟨t,rfl⟩:=rx
  exact rule i t s _ _ ⟨.int (g i),H,I.tok _,⟨_,rfl⟩,q⟩
theorem un_neg:UnR X (unaryOp .USub) (rU fun i=>.int (-i)):=unI fun _ _ _ _ _ q=>neg_int q
end
def scal:V→V→Bool
  | .non,.non=>true | .non,.int _=>true | .int _,.non=>true | .non,.bl _=>true | .bl _,.non=>true | .non,.str _=>true | .str _,.non=>true
  | .int _,.int _=>true | .bl _,.bl _=>true | .str _,.str _=>true | .byt _,.byt _=>true
  | .int _,.str _=>true | .str _,.int _=>true | .bl _,.str _=>true | .str _,.bl _=>true
  | _,_=>false
def rEq:R2:=fun x y H Q=>scal x y=true∧Q (.bl (decide (x=y))) H
def rNe:R2:=fun x y H Q=>scal x y=true∧Q (.bl (!decide (x=y))) H
theorem dec_int {i j:Int}:decide (V.int i=V.int j)=(i == j):=by
  rw [Bool.eq_iff_iff]
  simp
theorem dec_bl {i j:Bool}:decide (V.bl i=V.bl j)=(i == j):=by
  rw [Bool.eq_iff_iff]
  simp
theorem dec_str {i j:Str}:decide (V.str i=V.str j)=(i == j):=by
  rw [Bool.eq_iff_iff]
  simp
theorem dec_byt {i j:Array UInt8}:decide (V.byt i=V.byt j)=(i.toList == j.toList):=by
  rw [Bool.eq_iff_iff]
  cases i
  cases j
  simp
section
variable {X:Cx} {a b c:Expr} {ta tb tc:TE} {pos:Pos}
theorem qaP {pins:List (Addr×Obj)} {σ:St} {H:Hp} {s:Shared} {Q:VK} {k k':Bool} (I:Inv X pins σ H s) (q:Q (.bl k) H) (e:k=k'):EP X pins σ Q (.bool k') s:=by
  subst e
  exact ⟨.bl k,H,I,rfl,q⟩
theorem op_eq:OpR X (compareOp .Eq) rEq:=by
  intro pins s σ H x y v u Q I rx ry h
  obtain ⟨hs,q⟩:=h
  cases x with
  | non =>
    cases rx
    cases y with
    | non=>cases ry; exact PySem.EqNone.eq_none_none (qaP I q (by simp))
    | bl j=>cases ry; exact PySem.EqNone.eq_none_bool (qaP I q (by simp))
    | int j=>obtain ⟨t',rfl⟩:=ry; exact PySem.EqNone.eq_none_int (qaP I q (by simp))
    | str j=>obtain ⟨t',rfl⟩:=ry; exact PySem.EqNone.eq_none_str (qaP I q (by simp))
    | _=>exact absurd (show false=true from hs) Bool.false_ne_true
  | bl i =>
    cases rx
    cases y with
    | non=>cases ry; exact PySem.EqNone.eq_bool_none (qaP I q (by simp))
    | bl j=>cases ry; exact eq_bool (qaP I q dec_bl)
    | str j=>obtain ⟨t',rfl⟩:=ry; exact PySem.EqMixed.eq_bool_str (qaP I q (by simp))
    | _=>exact absurd (show false=true from hs) Bool.false_ne_true
  | int i =>
    obtain ⟨t,rfl⟩:=rx
    cases y with
    | non=>cases ry; exact PySem.EqNone.eq_int_none (qaP I q (by simp))
    | int j=>obtain ⟨t',rfl⟩:=ry; exact eq_int (qaP I q dec_int)
    | str j=>obtain ⟨t',rfl⟩:=ry; exact PySem.EqMixed.eq_int_str (qaP I q (by simp))
    | _=>exact absurd (show false=true from hs) Bool.false_ne_true
  | str i =>
    obtain ⟨t,rfl⟩:=rx
    cases y with
    | non=>cases ry; exact PySem.EqNone.eq_str_none (qaP I q (by simp))
    | bl j=>cases ry; exact PySem.EqMixed.eq_str_bool (qaP I q (by simp))
    | int j=>obtain ⟨t',rfl⟩:=ry; exact PySem.EqMixed.eq_str_int (qaP I q (by simp))
    | str j=>obtain ⟨t',rfl⟩:=ry; exact eq_str (qaP I q dec_str)
    | _=>exact absurd (show false=true from hs) Bool.false_ne_true
  | byt i =>
    obtain ⟨t,rfl⟩:=rx
    cases y with
    | byt j=>obtain ⟨t',rfl⟩:=ry; exact PySem.W.eq_bytes (qaP I q dec_byt)
    | _=>exact absurd (show false=true from hs) Bool.false_ne_true
  | _=>cases y <;> exact absurd (show false=true from hs) Bool.false_ne_true
theorem op_ne:OpR X (compareOp .NotEq) rNe:=by
  intro pins s σ H x y v u Q I rx ry h
  obtain ⟨hs,q⟩:=h
  cases x with
  | non =>
    cases rx
    cases y with
    | non=>cases ry; exact PySem.EqNone.ne_none_none (qaP I q (by simp))
    | bl j=>cases ry; exact PySem.EqNone.ne_none_bool (qaP I q (by simp))
    | int j=>obtain ⟨t',rfl⟩:=ry; exact PySem.EqNone.ne_none_int (qaP I q (by simp))
    | str j=>obtain ⟨t',rfl⟩:=ry; exact PySem.EqNone.ne_none_str (qaP I q (by simp))
    | _=>exact absurd (show false=true from hs) Bool.false_ne_true
  | bl i =>
    cases rx
    cases y with
    | non=>cases ry; exact PySem.EqNone.ne_bool_none (qaP I q (by simp))
    | bl j=>cases ry; exact ne_bool (qaP I q (congrArg not dec_bl))
    | str j=>obtain ⟨t',rfl⟩:=ry; exact PySem.EqMixed.ne_bool_str (qaP I q (by simp))
    | _=>exact absurd (show false=true from hs) Bool.false_ne_true
  | int i =>
    obtain ⟨t,rfl⟩:=rx
    cases y with
    | non=>cases ry; exact PySem.EqNone.ne_int_none (qaP I q (by simp))
    | int j=>obtain ⟨t',rfl⟩:=ry; exact ne_int (qaP I q (congrArg not dec_int))
    | str j=>obtain ⟨t',rfl⟩:=ry; exact PySem.EqMixed.ne_int_str (qaP I q (by simp))
    | _=>exact absurd (show false=true from hs) Bool.false_ne_true
  | str i =>
    obtain ⟨t,rfl⟩:=rx
    cases y with
    | non=>cases ry; exact PySem.EqNone.ne_str_none (qaP I q (by simp))
    | bl j=>cases ry; exact PySem.EqMixed.ne_str_bool (qaP I q (by simp))
    | int j=>obtain ⟨t',rfl⟩:=ry; exact PySem.EqMixed.ne_str_int (qaP I q (by simp))
    | str j=>obtain ⟨t',rfl⟩:=ry; exact ne_str (qaP I q (congrArg not dec_str))
    | _=>exact absurd (show false=true from hs) Bool.false_ne_true
  | byt i =>
    obtain ⟨t,rfl⟩:=rx
    cases y with
    | byt j=>obtain ⟨t',rfl⟩:=ry; exact PySem.W.ne_bytes (qaP I q (congrArg not dec_byt))
    | _=>exact absurd (show false=true from hs) Bool.false_ne_true
  | _=>cases y <;> exact absurd (show false=true from hs) Bool.false_ne_true
theorem op_lt:OpR X (compareOp .Lt) (rI0 fun i j=>.bl (decide (i < j))):=opB0 fun _ _ _ _ _ _ _ q=>lt_int q
theorem op_le:OpR X (compareOp .LtE) (rI0 fun i j=>.bl (decide (i≤j))):=opB0 fun _ _ _ _ _ _ _ q=>le_int q
theorem op_gt:OpR X (compareOp .Gt) (rI0 fun i j=>.bl (decide (j < i))):=opB0 fun _ _ _ _ _ _ _ q=>gt_int q
theorem op_ge:OpR X (compareOp .GtE) (rI0 fun i j=>.bl (decide (j≤i))):=opB0 fun _ _ _ _ _ _ _ q=>ge_int q
theorem op_isN:OpR X (compareOp .Is) (fun x y H Q=>y=.non∧Q (.bl (decide (x=.non))) H):=by
  intro pins s σ H x y v u Q I rx ry h
  obtain ⟨rfl,q⟩:=h
  cases ry
  refine is_none_gen (qaP I q ?_)
  cases x <;> first
    | (cases rx; rfl)
    | (obtain ⟨t,rfl⟩:=rx; rfl)
theorem op_notN:OpR X (compareOp .IsNot) (fun x y H Q=>y=.non∧Q (.bl (!decide (x=.non))) H):=by
  intro pins s σ H x y v u Q I rx ry h
  obtain ⟨rfl,q⟩:=h
  cases ry
  refine isnot_none_gen (qaP I q ?_)
  cases x <;> first
    | (cases rx; rfl)
    | (obtain ⟨t,rfl⟩:=rx; rfl)
theorem nomark (b:Expr) {op:CmpOp} (h:op≠.In:=by decide) (h2:op≠.NotIn:=by decide):behindInMarks op b=false:=by
  have e1:(op == CmpOp.In)=false:=by cases op <;> first | rfl | exact absurd rfl h
  have e2:(op == CmpOp.NotIn)=false:=by cases op <;> first | rfl | exact absurd rfl h2
  cases b <;> simp [behindInMarks,e1,e2]
theorem pe_cmpR {op:CmpOp} {r:R2} (ho:OpR X (compareOp op) r) (ha:PE X a ta) (hb:PE X b tb) (hm:behindInMarks op b=false):PE X (.Compare a [op] [b] pos) (tOp r ta tb):=by
  intro pins s σ H Q I h
  exact wpAny_Compare1 (binT ha hb I h fun v u s2 x y H2 I2 rx ry q=>ho pins s2 σ H2 x y v u Q I2 rx ry q) hm
def tTest (t:TE):TT:=fun σ H Q=>t σ H fun x H'=>∃ k,x=.bl k∧Q k H'
theorem pt_cmpR {op:CmpOp} {r:R2} (ho:OpR X (compareOp op) r) (ha:PE X a ta) (hb:PE X b tb) (hm:behindInMarks op b=false):PT X (.Compare a [op] [b] pos) (tTest (tOp r ta tb)):=by
  intro pins s σ H Q I h
  refine wpAny_isTrue_Compare1 (thn (ha pins s σ H _ I h) fun v s1 ⟨x,H1,I1,r1,q1⟩=>thn (hb pins s1 σ H1 _ I1 q1) fun u s2 ⟨y,H2,I2,r2,q2⟩ =>
    thn (ho pins s2 σ H2 x y v u _ I2 r1 r2 q2) fun c s3 ⟨z,H3,I3,r3,k,e,q3⟩=>?_) hm
  subst e
  cases r3
  exact wpAny_truthy_bool ⟨H3,I3,q3⟩
def tChain (r r':R2) (ta tb tc:TE):TE:=fun σ H Q=>ta σ H fun x H1=>tb σ H1 fun y H2=>r x y H2 fun z H3=>∃ k,z=.bl k ∧
  (if k=true then tc σ H3 fun w' H4=>r' y w' H4 Q else Q (.bl false) H3)
theorem pe_chain {op op':CmpOp} {r r':R2} (ho:OpR X (compareOp op) r) (ho':OpR X (compareOp op') r') (ha:PE X a ta) (hb:PE X b tb) (hc:PE X c tc)
    (hm:lastMarks [op,op'] [b,c]=false:=by with_unfolding_all rfl):PE X (.Compare a [op,op'] [b,c] pos) (tChain r r' ta tb tc):=by
  intro pins s σ H Q I h
  refine Compare_chain (thn (ha pins s σ H _ I h) fun v s1 ⟨x,H1,I1,r1,q1⟩=>chain_link (thn (hb pins s1 σ H1 _ I1 q1) fun u s2 ⟨y,H2,I2,r2,q2⟩ =>
    thn (ho pins s2 σ H2 x y v u _ I2 r1 r2 q2) fun d s3 ⟨z,H3,I3,r3,k,e,q3⟩=>?_)) hm
  subst e
  cases r3
  refine wpAny_truthy_bool ?_
  cases k with
  | false=>exact ite_ff ⟨.bl false,H3,I3,rfl,q3⟩
  | true=>exact ite_tt (chain_last (thn (hc pins s3 σ H3 _ I3 q3) fun w' s4 ⟨z',H4,I4,r4,q4⟩=>ho' pins s4 σ H4 y z' u w' Q I4 r2 r4 q4))
def TruV (K:PySem.W.Frag) (x:V) (H:Hp) (k:Bool):Prop :=
  match x with
  | .non=>k=false
  | .bl b=>k=b
  | .int i=>k=(i != 0)
  | .str y=>y.length≤sizeLine∧k=((y.length:Int) != 0)
  | .byt y=>y.size≤sizeLine∧k=((y.size:Int) != 0)
  | .ref p=>(∃ xs,SqL K H p xs∧k = !xs.isEmpty)∨(∃ xs,SqT K H p xs∧k = !xs.isEmpty)∨∃ kvs,H p=some (.dK kvs)∧k = !kvs.isEmpty
  | _=>False
theorem isEmpty_kv {κ:Type} {kvs:List (κ×V)} {vs:List (κ×Value)} (r:KV kvs vs):(!vs.isEmpty) = !kvs.isEmpty:=by
  cases r <;> rfl
theorem qgc {xs:List V} {its:List Value} (r:Vals xs its):(!its.toArray.isEmpty) = !xs.isEmpty:=by
  cases r <;> simp
theorem qga:(sizeLine:Nat) < 2 ^ 63:=by rw [sizeLine_eq]; decide
theorem tru_ok:TruR X (fun x H Q=>∃ k,TruV X.K x H k∧Q k H):=by
  intro pins s σ H x v Q I rx h
  obtain ⟨k,e,q⟩:=h
  have hl:=qga
  have hs:sizeLine=16777216:=sizeLine_eq
  cases x with
  | non =>
    cases rx
    have e':k=false:=e
    subst e'
    exact truthy_none ⟨H,I,q⟩
  | bl b =>
    cases rx
    have e':k=b:=e
    subst e'
    exact wpAny_truthy_bool ⟨H,I,q⟩
  | int i =>
    obtain ⟨t,rfl⟩:=rx
    have e':k=(i != 0):=e
    subst e'
    exact PySem.P.truthy_int ⟨H,I,q⟩
  | str y =>
    obtain ⟨t,rfl⟩:=rx
    obtain ⟨hy,e'⟩:y.length≤sizeLine∧k=((y.length:Int) != 0):=e
    subst e'
    exact PySem.P.truthy_str (by omega) ⟨H,I.tok _,q⟩
  | byt y =>
    obtain ⟨t,rfl⟩:=rx
    obtain ⟨hy,e'⟩:y.size≤sizeLine∧k=((y.size:Int) != 0):=e
    subst e'
    exact PySem.W.truthy_bytes (by omega) ⟨H,I.tok _,q⟩
  | ref p =>
    cases rx
    have e':(∃ xs,SqL X.K H p xs∧k = !xs.isEmpty)∨(∃ xs,SqT X.K H p xs∧k = !xs.isEmpty)∨∃ kvs,H p=some (.dK kvs)∧k = !kvs.isEmpty:=e
    rcases e' with ⟨xs,hx,e'⟩ | ⟨xs,hx,e'⟩ | ⟨kvs,hx,e'⟩
    · subst e'
      obtain ⟨its,r,pl,hz⟩:=I.list hx
      have hlen:=r.length
      exact wpAny_truthy_list pl.isList (by simp only [List.size_toArray]; omega) ⟨H,I.tok _,by rw [qgc r]; exact q⟩
    · subst e'
      obtain ⟨its,r,pl,hz⟩:=I.tuple hx
      have hlen:=r.length
      exact truthy_tuple pl (by simp only [List.size_toArray]; omega) ⟨H,I.tok _,by rw [qgc r]; exact q⟩
    · subst e'
      obtain ⟨hz,hS,vs,r,m⟩:kvs.length≤sizeLine∧(p == sysModules)=false∧∃ vs,KV kvs vs∧s.heap.DictOf (mixKind X.prog X.w) p vs:=I.hok p _ hx
      have hlen:kvs.length=vs.length:=Paired.length r
      exact wpAny_truthy_dict hS m (by omega) ⟨H,I.tok _,by rw [isEmpty_kv r]; exact q⟩
  | _=>exact (show False from e).elim
theorem pt_truth (ha:PE X a ta) (he:∀ whole,isTrue a X.env whole=(do let v ← whole; standAt a.pos; holding [v] (truthy v))) :
    PT X a (fun σ H Q=>ta σ H fun x H'=>∃ k,TruV X.K x H' k∧Q k H'):=by
  intro pins s σ H Q I h
  exact isTrue_plain (thn (ha pins s σ H _ I h) fun v s1 ⟨x,H1,I1,r1,q1⟩=>tru_ok pins s1 σ H1 x v Q I1 r1 q1) (he _)
theorem op_add_str:OpR X (binaryOp .Add) (fun x y H Q=>∃ i j,x=.str i∧y=.str j∧i.length + j.length≤sizeLine∧Q (.str (i ++ j)) H):=by
  intro pins s σ H x y v u Q I rx ry h
  obtain ⟨i,j,rfl,rfl,hz,q⟩:=h
  obtain ⟨t,rfl⟩:=rx
  obtain ⟨t',rfl⟩:=ry
  exact add_str (fun t' tk=>⟨.str (i ++ j),H,I.tok _,⟨_,rfl⟩,q⟩) hz
theorem vals1 {x:V} {us:List Value} (r:Vals [x] us):∃ u,us=[u]∧RelV x u:=by
  cases r with
  | cons r1 r2=>cases r2; exact ⟨_,rfl,r1⟩
end
end L2
namespace L2
open PySem PySem.Spec PyProof.Rows
structure ObjM (h:Heap) (x dx C:Addr) (mA:Str→Option Value):Prop where
  obj:h.get? x=some (PySem.W.instObj C dx)
  ns:h.Ns1 dx mA
  ne:dx≠x
theorem lookIn_ns {h:Heap} {dx:Addr} {mA:Str→Option Value} (n:h.Ns1 dx mA):∃ od,h.get? dx=some od∧∀ name,PySem.W.lookIn name od=some (mA name):=by
  obtain ⟨o,es,ep,ho,hd,hk,_,hm⟩:=n
  refine ⟨o,ho,fun name=>?_⟩
  have e:=hm name
  unfold nsFind findBy at e
  rw [← Array.find?_toList] at e
  unfold PySem.W.lookIn
  rw [hd]
  dsimp only
  split
  · rename_i y q
    rw [q] at e
    exact congrArg some e
  · rename_i q
    rw [q] at e
    have a:es.toList.any (·.refKey)=false:=by
      rw [List.any_eq_false]
      intro y hy
      obtain ⟨z,t,hkey⟩:=hk y (Array.mem_toList_iff.mp hy)
      simp [DictEntry.refKey,hkey]
    have a':¬ es.toList.any (·.refKey)=true:=by rw [a]; exact Bool.false_ne_true
    rw [if_neg a']
    exact congrArg some e
theorem ObjM.look {h:Heap} {x dx C:Addr} {mA:Str→Option Value} (I:ObjM h x dx C mA):∃ od,PySem.W.InstAt h x (PySem.W.instObj C dx) C (some od)∧∀ name,PySem.W.lookIn name od=some (mA name) :=
  let ⟨od,ho,hl⟩:=lookIn_ns I.ns
  ⟨od,⟨I.obj,rfl,rfl,ho⟩,hl⟩
section
variable {prog:Program} {w:World} {A:Around} {E:Value→Shared→Prop} {s:Shared} {K:PySem.W.Frag} {x dx C f:Addr} {mA:Str→Option Value} {name:Str} {v:Value}
end
section
variable {P:Program} {w:World} {H H':Hp} {h h':Heap} {a C dx:Addr} {fs fs':List (Str×V)}
theorem ins_get (hok:HOk P w H h) (e:H a=some (.ins C dx fs)):∃ mA,ObjM h a dx C mA∧(∀ f,RelO (fs.lookup f) (mA f))∧PySem.Within mA (fs.map (·.1))∧fs.length≤1000∧H dx=some (.own a):=by
  obtain ⟨d,z,ne,ob,mA,n,r,q⟩:=(show ObjOk P w H h a (.ins C dx fs) from hok a _ e)
  exact ⟨mA,⟨ob,n,ne⟩,r,q,z,d⟩
end
structure Cls (K:PySem.W.Frag) (C:Addr):Prop where
  pg:PySem.W.plainGet K C Str.empty=true
  hd:PySem.W.hasDictIn K C=true
  po:PySem.W.plainOver K C=true
  sa:PySem.W.findIn K (.ref C) "__setattr__"=some (some (.builtin "object.__setattr__"))
theorem Cls.get {K:PySem.W.Frag} {C:Addr} (c:Cls K C) (f:Str):PySem.W.plainGet K C f=true:=c.pg
section
variable {X:Cx} {pins:List (Addr×Obj)} {σ:St} {H:Hp} {s:Shared} {a C dx:Addr} {fs:List (Str×V)} {f:Str} {v:V} {A:Around} {E:Value→Shared→Prop}
end
section
variable {X:Cx} {o e value:Expr} {f:Str} {pos pos' tpos:Pos} {ta tv:TE}
end
section
variable {X:Cx} {pins:List (Addr×Obj)} {σ:St} {H:Hp} {s:Shared} {A:Around} {E:Value→Shared→Prop} {Q:Value→Shared→Prop} {c:Value} {b:Bool}
inductive TyOf (K:PySem.W.Frag) (H:Hp):V→Value→Prop where
  | non:TyOf K H .non (.type "NoneType")
  | bl (x:Bool):TyOf K H (.bl x) (.type "bool")
  | int (i:Int):TyOf K H (.int i) (.type "int")
  | str (x:Str):TyOf K H (.str x) (.type "str")
  | flt (x:UInt64):TyOf K H (.flt x) (.type "float")
  | lst {a:Addr} {xs:List V} (e:H a=some (.lst xs)):TyOf K H (.ref a) (.type "list")
  | frz {a:Addr} {o:Obj} {xs:List V} (e:H a=some (.frz o (.lst xs))):TyOf K H (.ref a) (.type "list")
  | tup {a:Addr} {xs:List V} (e:H a=some (.tup xs)):TyOf K H (.ref a) (.type "tuple")
  | dK {a:Addr} {kvs:List (Key×V)} (e:H a=some (.dK kvs)):TyOf K H (.ref a) (.type "dict")
  | dT {a:Addr} {kvs:List (List Key×V)} (e:H a=some (.dT kvs)):TyOf K H (.ref a) (.type "dict")
  | ins {a C dx:Addr} {fs:List (Str×V)} (e:H a=some (.ins C dx fs)) (cl:Cls K C) (ha:PySem.W.findIn K (.ref C) "__class__"=some (some (.builtin "object.__class__")))
      (hn:PySem.W.specialIn K (.builtin "object.__class__") "__get__"=some (some (.builtin "getset_descriptor.__get__"))) (htk:PySem.W.takesIn K (.builtin "object.__class__")=some true)
      (hm:PySem.W.mroIn K C (.type "object")=some true):TyOf K H (.ref a) (.ref C)
theorem isinst_ok {x:V} {u t:Value} (I:Inv X pins σ H s) (rx:RelV x u) (ty:TyOf X.K H x t) (e:PySem.W.kitOne X.K t c=some b) (h:∀ tk,Q (.bool b) { s with toks:=tk }) :
    wpAny (model X.prog X.w) A (call (.builtin "isinstance") [u,c]) Q E s:=by
  cases ty with
  | non=>cases (show u=Value.none from rx); exact PySem.W.kia_one PySem.W.kitx_none I.kIn True.intro e (fun z=>nomatch z) h
  | bl y=>cases (show u=Value.bool y from rx); exact PySem.W.kia_one PySem.W.kitx_bool I.kIn True.intro e (fun z=>nomatch z) h
  | int i=>obtain ⟨t,q⟩:=(show ∃ t,u=Value.int i t from rx); cases q; exact PySem.W.kia_one PySem.W.kitx_int I.kIn True.intro e (fun z=>nomatch z) h
  | str y=>obtain ⟨t,q⟩:=(show ∃ t,u=Value.str y t from rx); cases q; exact PySem.W.kia_one PySem.W.kitx_str I.kIn True.intro e (fun z=>nomatch z) h
  | flt y=>obtain ⟨t,q⟩:=(show ∃ t,u=Value.float y t from rx); cases q; exact PySem.W.kia_one PySem.W.kitx_float I.kIn True.intro e (fun z=>nomatch z) h
  | @lst a xs ea =>
    cases (show u=Value.ref a from rx)
    obtain ⟨_,_,n,_,h1⟩:=(show ObjOk X.prog X.w H s.heap a (.lst xs) from I.hok a _ ea)
    exact PySem.W.kia_one PySem.W.kitx_list I.kIn ⟨_,h1,rfl⟩ e (fun z=>nomatch z) h
  | @frz a ob xs ea =>
    cases (show u=Value.ref a from rx)
    obtain ⟨_,_,_,n,_,h1⟩:=(show ObjOk X.prog X.w H s.heap a (.frz ob (.lst xs)) from I.hok a _ ea)
    exact PySem.W.kia_one PySem.W.kitx_list I.kIn ⟨_,h1,rfl⟩ e (fun z=>nomatch z) h
  | @tup a xs ea =>
    cases (show u=Value.ref a from rx)
    obtain ⟨_,_,_,p⟩:=(show ObjOk X.prog X.w H s.heap a (.tup xs) from I.hok a _ ea)
    obtain ⟨o,h1,h2,_⟩:=p
    exact PySem.W.kia_one PySem.W.kitx_tuple I.kIn ⟨o,h1,h2⟩ e (fun z=>nomatch z) h
  | @dK a kvs ea =>
    cases (show u=Value.ref a from rx)
    obtain ⟨_,_,vs,_,p⟩:=(show ObjOk X.prog X.w H s.heap a (.dK kvs) from I.hok a _ ea)
    obtain ⟨o,es,ep,h1,h2,_⟩:=p
    exact PySem.W.kia_one PySem.W.kitx_dict I.kIn ⟨o,h1,h2.1⟩ e (fun z=>nomatch z) h
  | @dT a kvs ea =>
    cases (show u=Value.ref a from rx)
    obtain ⟨_,_,xs,_,o,es,ep,h1,h2,_⟩:=(show ObjOk X.prog X.w H s.heap a (.dT kvs) from I.hok a _ ea)
    exact PySem.W.kia_one PySem.W.kitx_dict I.kIn ⟨o,h1,h2.1⟩ e (fun z=>nomatch z) h
  | @ins a C dx fs ea cl ha hn htk hm =>
    cases (show u=Value.ref a from rx)
    obtain ⟨mA,O,_⟩:=ins_get I.hok ea
    obtain ⟨od,J,_⟩:=O.look
    exact PySem.W.kia_one (PySem.W.kitx_own (cl.get _) cl.hd ha hn htk hm) I.kIn J e (fun z=>nomatch z) h
end
end L2
namespace L2
open PySem PySem.Spec PyProof.Rows
structure Room (k:Nat) (A:Around):Prop where
  hd:A.handled=none
  dp:A.depth + 3 * k + 5 < recursionLimit
  un:A.units + 16 * k + 200 < cLine
theorem Room.mono {j k:Nat} {A:Around} (r:Room k A) (h:j≤k):Room j A:=⟨r.hd,by have:=r.dp; omega,by have:=r.un; omega⟩
theorem Room.deeper {k:Nat} {A:Around} (r:Room (k + 1) A) (env:Env):Room k (A.deeper env) :=
  ⟨r.hd,by have:=r.dp; show A.depth + 1 + 3 * k + 5 < _; omega,by have:=r.un; show A.units + 3 + 16 * k + 200 < _; omega⟩
theorem Room.depth {k:Nat} {A:Around} (r:Room k A):A.depth < recursionLimit:=by have:=r.dp; omega
def tNil:TA:=fun _ H Q=>Q [] H
def tCons (ta:TE) (tr:TA):TA:=fun σ H Q=>ta σ H fun x H1=>tr σ H1 fun xs H2=>Q (x :: xs) H2
section
variable {X:Cx} {e:Expr} {es:List Expr} {te:TE} {t:TA} {pos:Pos}
theorem pa_nil:PA X [] tNil:=fun _ _ _ _ H Q I h=>Calls.spliced_nil ⟨[],H,I,.nil,h⟩
theorem qec (ha:PE X e te) (hr:PA X es t) (hs:starEach (e :: es) X.env=(false,eval e X.env) :: starEach es X.env:=by rfl):PA X (e :: es) (tCons te t):=by
  intro pos pins s σ H Q I h
  rw [hs]
  show wpAny _ _ (spliced ((false,eval e X.env) :: backTo pos (starEach es X.env))) _ _ s
  refine Calls.spliced_cons (thn (ha pins s σ H _ I h) fun u s1 ⟨x,H1,I1,r1,q1⟩=>?_)
  exact thn (hr pos pins s1 σ H1 _ I1 q1) fun us s2 ⟨xs,H2,I2,r2,q2⟩=>⟨x :: xs,H2,I2,.cons r1 r2,q2⟩
def tTup (t:TA):TE:=fun σ H Q=>t σ H fun xs H1=>xs.length≤sizeLine∧∀ p,H1 p=none→Q (.ref p) (upd H1 p (.tup xs))
def tLst (t:TA):TE:=fun σ H Q=>t σ H fun xs H1=>xs.length≤sizeLine∧∀ p,H1 p=none→Q (.ref p) (upd H1 p (.lst xs))
theorem pe_tup {x1} (h:PA X es t):PE X (.Tuple es x1 pos) (tTup t):=by
  intro pins s σ H Q I hq
  refine wpAny_Tuple_spliced (thn (h pos pins s σ H _ I hq) fun us s1 ⟨xs,H1,I1,r,z,q⟩=>⟨by rw [← r.length]; exact z,?_⟩)
  have hf:H1 s1.heap.objs.size=none:=I1.hok.fresh (Nat.le_refl _)
  refine ⟨.ref s1.heap.objs.size,upd H1 s1.heap.objs.size (.tup xs),I1.laid (t':=s1.toks) (fun b u e=>Heap.get?_push_of_some _ e) (Nat.le_refl _) ?_,rfl,q _ hf⟩
  exact ⟨z,us,r,⟨_,Heap.get?_push_size _ rfl,rfl,⟨_,rfl⟩,rfl⟩⟩
theorem pe_lst (h:PA X es t):PE X (.List es pos) (tLst t):=by
  intro pins s σ H Q I hq
  refine wpAny_List_spliced (thn (h pos pins s σ H _ I hq) fun us s1 ⟨xs,H1,I1,r,z,q⟩=>⟨by rw [← r.length]; exact z,?_⟩)
  have hf:H1 s1.heap.objs.size=none:=I1.hok.fresh (Nat.le_refl _)
  refine ⟨.ref s1.heap.objs.size,upd H1 s1.heap.objs.size (.lst xs),I1.laid (t':=s1.toks) (fun b u e=>Heap.get?_push_of_some _ e) (Nat.le_refl _) ?_,rfl,q _ hf⟩
  exact ⟨z,us,0,r,Heap.get?_push_size _ rfl⟩
end
abbrev Sp:=List V→Hp→VK→XK→Prop
abbrev CXT:=List Env→Hp→Shared→XK→Value→Shared→Prop
structure Env0 (P:Program) (w:World) (K:PySem.W.Frag) (mg:Str→Option Value) (base:Heap) (A:Around) (outer:List Env) (s:Shared) (H:Hp):Prop where
  frames:A.frames=some outer
  mod:Mod K mg base
  bs:∀ b o,base.get? b=some o→s.heap.get? b=some o∧H b=none
  bsz:base.objs.size≤s.heap.objs.size
  funs:s.heap.FunFrames base outer
  frf:∀ b∈frs outer,H b=none
  hok:HOk P w H s.heap
  bare:AllBare s.gens
def CE (outer:List Env) (P:Program) (w:World) (H:Hp) (s:Shared) (Q:VK) (u:Value) (s':Shared):Prop :=
  ∃ v H',s'.os=s.os∧AllBare s'.gens∧Un (frs outer) [] H H' s.heap s'.heap∧HOk P w H' s'.heap∧RelV v u∧Q v H'
def CR (CX:CXT) (outer:List Env) (P:Program) (w:World) (H:Hp) (s:Shared) (Q:VK) (E:XK) (r:Result) (s':Shared):Prop :=
  match r with
  | .ok (.ret u)=>CE outer P w H s Q u s'
  | .ok _=>False
  | .error e=>CX outer H s E e s'
structure FnOk (P:Program) (w:World) (K:PySem.W.Frag) (mg:Str→Option Value) (base:Heap) (CX:CXT) (k:Nat) (f:Addr) (fd:FuncData) (ps:List Str) (sp:Sp):Prop where
  len:∀ vs H Q E,sp vs H Q E→vs.length=ps.length
  run:∀ (A:Around) (outer:List Env) (s:Shared) (H:Hp) (args:Args) (us:List Value) (vs:List V) (Q:VK) (E:XK),Room k A→Env0 P w K mg base A outer s H→BindsTo s fd args (ps.zip us)→Vals vs us→sp vs H Q E →
    codeAny (model P w) A (.call (.ref f) args) (CR CX outer P w H s Q E) s
section
variable {X:Cx} {pins:List (Addr×Obj)} {σ:St} {H:Hp} {s s':Shared}
theorem Inv.env0 (I:Inv X pins σ H s):Env0 X.prog X.w X.K X.mg X.base X.A X.stack s H :=
  ⟨I.ok.frames,I.ok.mod,I.bs,Nat.le_trans I.ok.bsz I.sz,I.stack,I.stkFree,I.hok,I.bare⟩
theorem Inv.after {Q:VK} {u:Value} (I:Inv X pins σ H s) (h:CE X.stack X.prog X.w H s Q u s'):EP X pins σ Q u s':=by
  obtain ⟨v,H',os,bare,un,hok,r,q⟩:=h
  obtain ⟨hh,g,d,t,os'⟩:=s'
  obtain rfl:os'=s.os:=os
  exact ⟨v,H',I.call (h':=hh) (g':=g) (d':=d) (t':=t) (ch:=[]) un hok bare (fun b z=>absurd z (by simp)),r,q⟩
end
def tCall (sp:Sp) (dvs:List V) (E:XK) (t:TA):TE:=fun σ H Q=>t σ H fun vs H1=>sp (vs ++ dvs) H1 Q E
def Binds (K:PySem.W.Frag) (fd:FuncData) (ps:List Str) (ds:List Value):Prop :=
  ∀ (s:Shared) (us:List Value),K.In s.heap→(us ++ ds).length=ps.length→BindsTo s fd ⟨us,[]⟩ (ps.zip (us ++ ds))
theorem Binds.all {K:PySem.W.Frag} {fd:FuncData} {ps:List Str} (h:∀ us:List Value,us.length=ps.length→bindArgs fd ⟨us,[]⟩=pure (ps.zip us)):Binds K fd ps []:=fun s us _ hl=>by
  rw [List.append_nil] at hl ⊢
  exact .of_eq (h us hl)
def Passes (CX:CXT) (X:Cx) (E:XK):Prop:=∀ (pins:List (Addr×Obj)) (σ:St) (H:Hp) (s:Shared) (e:Value) (s':Shared),Inv X pins σ H s→CX X.stack H s E e s'→X.xe e s'
section
variable {X:Cx} {CX:CXT} {k:Nat} {f C:Addr} {fd:FuncData} {ps:List Str} {sp:Sp} {dvs:List V} {ds:List Value} {E:XK} {x m:Str} {p pos apos:Pos} {e o:Expr} {es:List Expr} {ta:TE} {t:TA}
theorem run_fn {pins:List (Addr×Obj)} {σ:St} {H:Hp} {s:Shared} {Q:VK} {us:List Value} {vs:List V} (F:FnOk X.prog X.w X.K X.mg X.base CX k f fd ps sp) (hr:Room k X.A) (hb:Binds X.K fd ps ds) (hd:Vals dvs ds) (hx:Passes CX X E)
    (I:Inv X pins σ H s) (r:Vals vs us) (h:sp (vs ++ dvs) H Q E):wpAny (model X.prog X.w) X.A (call (.ref f) us) (EP X pins σ Q) X.xe s:=by
  have r2:Vals (vs ++ dvs) (us ++ ds):=r.append hd
  have hl:(us ++ ds).length=ps.length:=by rw [← r2.length]; exact F.len _ _ _ _ h
  refine wpAny_call (codeAny_mono (F.run X.A X.stack s H ⟨us,[]⟩ (us ++ ds) (vs ++ dvs) Q E hr I.env0 (hb s us I.kIn hl) r2 h) fun r s' hq=>?_)
  cases r with
  | error e=>exact hx pins σ H s e s' I hq
  | ok fl =>
    cases fl with
    | ret u=>exact I.after hq
    | next=>exact False.elim hq
    | brk=>exact False.elim hq
    | cont=>exact False.elim hq
theorem pe_call (F:FnOk X.prog X.w X.K X.mg X.base CX k f fd ps sp) (hr:Room k X.A) (hg:Gl X x) (hm:X.mg x=some (.ref f)) (hk:PySem.W.keepIn X.K (.ref f)=true) (hb:Binds X.K fd ps ds) (hd:Vals dvs ds) (hx:Passes CX X E)
    (ha:PA X (e :: es) t) (hdb:(x == ("__debug__":Str))=false:=by decide) (he:starEach (e :: es) X.env=(false,eval e X.env) :: starEach es X.env:=by rfl) (hpl:(backTo pos (starEach es X.env)).any (·.1)=false:=by rfl) :
    PE X (.Call (.Name x p) (e :: es) [] pos) (tCall sp dvs E t):=by
  intro pins s σ H Q I h
  refine wpAny_Call_Name_kw (ld_glob I hg hm ?_ hdb)
  refine PySem.W.callWith_K (h₀:=X.base) I.ok.mod.kin hk (thn (ha pos pins s σ H _ I h) fun us s1 ⟨vs,H1,I1,r,q⟩=>⟨I1.kIn,?_⟩) he hpl
  exact run_fn F hr hb hd hx I1 r q
end
section
variable {X:Cx} {CX:CXT} {k:Nat} {f C:Addr} {fd:FuncData} {ps ks:List Str} {sp:Sp} {E:XK} {x m:Str} {p pos apos kpos:Pos} {e o:Expr} {es:List Expr} {kws:List Keyword} {te ta:TE} {t tk:TA} {nm:Option Str}
variable {g:List Value→List Value→List Value} {gV:List V→List V→List V}
end
structure qag (N P:List Str) (sc:Scope):Prop where
  kind:sc.kind=.function
  co:sc.isCoroutine=false
  gen:sc.isGenerator=false
  nd:N.Nodup
  pre:N.take P.length=P
  par:∀ x∈P,sc.names.lookup x=some .local∨sc.names.lookup x=some .cell
  nofree:∀ y∈sc.names,y.2≠.free
theorem bindL_out {kindOf:Str→Option NameKind} {x:Str}:∀ {binds:List (Str×Value)} {m:Str→Option Value},(∀ v,(x,v)∉binds)→bindL kindOf binds m x=m x
  | [],_,_=>rfl
  | (n,v) :: r,m,h=>by
    unfold bindL
    rw [bindL_out fun w hw=>h w (List.mem_cons_of_mem _ hw)]
    split
    · have:x≠n:=by rintro rfl; exact h v List.mem_cons_self
      simp [this]
    · rfl
theorem bindC_out {kindOf:Str→Option NameKind} {x:Str}:∀ {binds:List (Str×Value)} {m:Str→Option Value},(∀ v,(x,v)∉binds)→bindC kindOf binds m x=m x
  | [],_,_=>rfl
  | (n,v) :: r,m,h=>by
    unfold bindC
    rw [bindC_out fun w hw=>h w (List.mem_cons_of_mem _ hw)]
    split
    · rfl
    · have:x≠n:=by rintro rfl; exact h v List.mem_cons_self
      simp [this]
theorem bindL_get {kindOf:Str→Option NameKind} {x:Str} {v:Value}:∀ {P:List Str} {vs:List Value} {i:Nat} {m:Str→Option Value},P.Nodup→P[i]? = some x→vs[i]? = some v→kindOf x=some .local →
    bindL kindOf (P.zip vs) m x=some v
  | [],_,_,_,_,h,_,_=>by simp at h
  | _ :: _,[],_,_,_,_,h,_=>by simp at h
  | p :: P,w :: vs,0,m,nd,h1,h2,hk=>by
    simp at h1 h2; subst h1; subst h2
    show bindL kindOf ((p,w) :: P.zip vs) m p=_
    unfold bindL
    rw [bindL_out fun v hv=>(List.nodup_cons.mp nd).1 (List.of_mem_zip hv).1,if_pos hk]
    simp
  | p :: P,w :: vs,i + 1,m,nd,h1,h2,hk=>by
    show bindL kindOf ((p,w) :: P.zip vs) m x=_
    unfold bindL
    exact bindL_get (i:=i) (List.nodup_cons.mp nd).2 (by simpa using h1) (by simpa using h2) hk
theorem bindC_get {kindOf:Str→Option NameKind} {x:Str} {v:Value}:∀ {P:List Str} {vs:List Value} {i:Nat} {m:Str→Option Value},P.Nodup→P[i]? = some x→vs[i]? = some v→kindOf x≠some .local →
    bindC kindOf (P.zip vs) m x=some v
  | [],_,_,_,_,h,_,_=>by simp at h
  | _ :: _,[],_,_,_,_,h,_=>by simp at h
  | p :: P,w :: vs,0,m,nd,h1,h2,hk=>by
    simp at h1 h2; subst h1; subst h2
    show bindC kindOf ((p,w) :: P.zip vs) m p=_
    unfold bindC
    rw [bindC_out fun v hv=>(List.nodup_cons.mp nd).1 (List.of_mem_zip hv).1,if_neg hk]
    simp
  | p :: P,w :: vs,i + 1,m,nd,h1,h2,hk=>by
    show bindC kindOf ((p,w) :: P.zip vs) m x=_
    unfold bindC
    exact bindC_get (i:=i) (List.nodup_cons.mp nd).2 (by simpa using h1) (by simpa using h2) hk
def start (N:List Str) (vs:List V):St:=vs.map some ++ List.replicate (N.length - vs.length) none
def cxOf (CX:CXT) (P:Program) (w:World) (K:PySem.W.Frag) (mg:Str→Option Value) (base:Heap) (N:List Str) (qual:Str) (scope:Scope) (f:Addr) (cd:Value) (A:Around) (outer:List Env) (s:Shared) (H:Hp) (E:XK):Cx where
  prog:=P
  w:=w
  K:=K
  mg:=mg
  base:=base
  A:=A.deeper (envOfC qual scope s.heap.objs.size f cd)
  N:=N
  s₀:=s
  H₀:=H
  env:=envOfC qual scope s.heap.objs.size f cd
  outer:=outer
  stack:=envOfC qual scope s.heap.objs.size f cd :: outer
  ex:=[]
  calm:=true
  fn:=fun _=>true
  pn:=[]
  xe:=fun e s'=>wpAny (model P w) (A.deeper (envOfC qual scope s.heap.objs.size f cd)) (leaving (envOfC qual scope s.heap.objs.size f cd) e) (fun _ s''=>CX outer H s E e s'') (fun e' s''=>CX outer H s E e' s'') s'
theorem cell_has {sc:Scope} {n:Nat} {x:Str} (h:sc.names.lookup x=some .cell):∃ c,(cellsFrom n sc.names []).lookup x=some c:=by
  have q:=PySem.W.cellsFrom_some sc.names n [] (.inl h)
  exact Option.isSome_iff_exists.mp q
theorem inv_start {CX:CXT} {P:Program} {w:World} {K:PySem.W.Frag} {mg:Str→Option Value} {base:Heap} {N ps:List Str} {qual:Str} {scope:Scope} {f:Addr} {cd:Value} {A:Around} {outer:List Env} {s s1:Shared} {H:Hp} {E:XK} {us:List Value} {vs:List V}
    (S:qag N ps scope) (hd:A.handled=none) (e0:Env0 P w K mg base A outer s H) (hl:vs.length=ps.length) (r:Vals vs us)
    (x:InCallC s s.heap.objs.size (bindL (envOfC qual scope s.heap.objs.size f cd).kindOf (ps.zip us) fun _=>none) (cellsFrom (s.heap.objs.size + 1) scope.names []) (bindC (envOfC qual scope s.heap.objs.size f cd).kindOf (ps.zip us) fun _=>none) s1) :
    Inv (cxOf CX P w K mg base N qual scope f cd A outer s H E) [] (start N vs) H s1:=by
  have hpl:ps.length≤N.length:=by have:=congrArg List.length S.pre; rw [List.length_take] at this; omega
  obtain ⟨h1,tk,rfl,hk⟩:=x.done
  have noA:∀ b:Addr,b∉(cxOf CX P w K mg base N qual scope f cd A outer s H E).ex:=fun b z=>absurd (show b∈([]:List Addr) from z) (by simp)
  refine ⟨⟨e0.mod,S.kind,rfl,rfl,Nat.le_refl _,fun y z c h1 h2=>?_,fun y hy=>?_,fun y c _ h=>?_,fun _=>hd,Around.frames_deeper e0.frames,.inr ⟨rfl,rfl⟩,fun b z=>absurd z (noA b),e0.bs,e0.bsz,fun b _ _=>noA b,fun b z=>absurd z (noA b),e0.funs,e0.frf⟩,
    rfl,e0.bare,Un.kept hk,⟨_,x.toInCall.ns,fun i y v h1 h2 h3=>?_⟩,fun y c h=>⟨_,x.cell y c h⟩,e0.hok.fresh (Nat.le_refl _),fun y c h=>?_,fun p hp=>absurd (show p∈([]:List (Addr×Obj)) from hp) (by simp),e0.hok.kept hk,?_⟩
  · exact name_of_addr x.apart (PySem.mem_of_lookup h1) (PySem.mem_of_lookup h2)
  · have hy:scope.names.lookup y=some .cell∨scope.names.lookup y=some .free:=hy
    rcases hy with hy | hy
    · exact cell_has hy
    · exact absurd rfl (S.nofree _ (PySem.mem_of_lookup hy))
  · exact Nat.le_of_lt (x.above y c (PySem.mem_of_lookup h))
  · have hi:i < vs.length:=by
      unfold start at h2
      by_cases hi:i < vs.length
      · exact hi
      · rw [List.getElem?_append_right (by simpa using hi)] at h2
        rw [List.getElem?_replicate] at h2
        split at h2 <;> cases h2
    have ha:vs[i]? = some v:=by
      unfold start at h2
      rw [List.getElem?_append_left (by simpa using hi),List.getElem?_map] at h2
      cases e:vs[i]? with
      | none=>rw [e] at h2; cases h2
      | some a=>rw [e] at h2; cases h2; rfl
    obtain ⟨u,hu,rv⟩:=r.get ha
    have hp:ps[i]? = some y:=by
      rw [← S.pre,List.getElem?_take_of_lt (by omega)]; exact h1
    have ndP:ps.Nodup:=by rw [← S.pre]; exact S.nd.sublist (List.take_sublist _ _)
    refine ⟨u,rv,?_⟩
    rcases S.par y (List.mem_of_getElem? hp) with k | k
    · exact .inl ⟨k,bindL_get ndP hp hu k⟩
    · obtain ⟨c,e⟩:=cell_has (n:=s.heap.objs.size + 1) k
      refine .inr ⟨.inl k,c,e,?_⟩
      have q:=x.cell y c e
      rw [bindC_get ndP hp hu (by show scope.names.lookup y≠_; rw [k]; decide)] at q
      exact q
  · exact e0.hok.fresh (Nat.le_of_lt (x.above y c (PySem.mem_of_lookup h)))
  · unfold start
    show _=N.length
    rw [List.length_append,List.length_map,List.length_replicate]
    omega
theorem fn_of {CX:CXT} {P:Program} {w:World} {K:PySem.W.Frag} {mg:Str→Option Value} {base:Heap} {k:Nat} {f:Addr} {name qual:Str} {params:Arguments} {body:List Stmt} {scope:Scope} {dV kV doc pm cdv ct oc:Value} {an od:Option Addr}
    {osl:Array (Option Value)} {N ps:List Str} {sp:Sp} (lk:K.lookup f=some ⟨oc,od,.func (PySem.W.fnOf name qual params body scope dV kV doc pm an cdv ct),osl⟩) (hcd:PySem.W.codeIn K cdv qual=true) (S:qag N ps scope)
    (len:∀ vs H Q E,sp vs H Q E→vs.length=ps.length)
    (hbody:∀ (A:Around) (outer:List Env) (s:Shared) (H:Hp) (vs:List V) (Q:VK) (E:XK),Room k (A.deeper (envOfC qual scope s.heap.objs.size f cdv))→sp vs H Q E →
      ∃ t,PSs (cxOf CX P w K mg base N qual scope f cdv A outer s H E) body t∧t { nx:=fun _ H'=>Q .non H',rt:=Q } (start N vs) H) :
    FnOk P w K mg base CX (k + 1) f (PySem.W.fnOf name qual params body scope dV kV doc pm an cdv ct) ps sp:=by
  refine ⟨len,fun A outer s H args us vs Q E hr e0 hb r hsp=>?_⟩
  have hl:=len _ _ _ _ hsp
  have KX:K.In s.heap:=e0.mod.kin.keeps fun b o e=>(e0.bs b o e).1
  have lim:s.heap.NoLimit:=e0.mod.nolimit.keeps fun b o e=>(e0.bs b o e).1
  have hkind:∀ y∈ps.zip us,scope.names.lookup y.1=some .local∨(scope.names.lookup y.1=some .cell∧((cellsFrom (s.heap.objs.size + 1) scope.names []).lookup y.1).isSome=true):=fun ⟨n,v⟩ hy=>by
    rcases S.par n (List.of_mem_zip hy).1 with q | q
    · exact .inl q
    · exact .inr ⟨q,PySem.W.cellsFrom_some _ _ _ (.inl q)⟩
  refine codeAny_call_function hr.depth (KX _ _ lk) rfl S.co S.gen rfl (PySem.W.codeRec_of KX hcd) (hb _ _ _ _ ?_)
  refine wpAny_newFunctionEnv_cells S.kind hkind fun env he s1 x=>?_
  subst he
  refine ⟨lim.keeps x.toInCall.keep,codeAny_func ?_⟩
  obtain ⟨t,ht,hq⟩:=hbody A outer s H vs Q E (hr.deeper _) hsp
  have I:Inv (cxOf CX P w K mg base N qual scope f cdv A outer s H E) [] (start N vs) H s1:=inv_start S hr.hd e0 hl r x
  refine wpAny_mono (ht [] s1 (start N vs) H _ I hq) (fun fl s' hs=>?_) fun e s' hs=>hs
  have fin:∀ {σ':St} {H':Hp} {v:V} {u:Value},Inv (cxOf CX P w K mg base N qual scope f cdv A outer s H E) [] σ' H' s'→RelV v u→Q v H'→CE outer P w H s Q u s' :=
    fun {σ' H' v u} J rv q=>⟨v,H',J.os,J.bare,J.base,J.hok,rv,q⟩
  cases fl with
  | ret u =>
    obtain ⟨v,σ',H',J,rv,q⟩:=hs
    exact fin J rv q
  | next =>
    obtain ⟨σ',H',J,q⟩:=hs
    exact fin (v:=V.non) (u:=Value.none) J rfl q
  | brk =>
    obtain ⟨_,_,_,q⟩:=hs
    exact False.elim q
  | cont =>
    obtain ⟨_,_,_,q⟩:=hs
    exact False.elim q
end L2
namespace L2
open PySem PySem.Spec PyProof.Rows
section
variable {X:Cx} {x:Str} {p pos:Pos} {e:Expr} {es:List Expr} {t:TA} {id T:String} {r:List V→Hp→VK→Prop}
def tCB (r:List V→Hp→VK→Prop) (t:TA):TE:=fun σ H Q=>t σ H fun vs H1=>r vs H1 Q
theorem qgy (hc:qdK X (.builtin id) r) (hg:Gl X x) (hm:X.mg x=none) (hv:bootBuiltins x=some (.builtin id)) (ha:PA X (e :: es) t) (hn:x≠"__name__":=by decide) (hdb:(x == ("__debug__":Str))=false:=by decide)
    (he:starEach (e :: es) X.env=(false,eval e X.env) :: starEach es X.env:=by rfl) (hpl:(backTo pos (starEach es X.env)).any (·.1)=false:=by rfl):PE X (.Call (.Name x p) (e :: es) [] pos) (tCB r t):=by
  intro pins s σ H Q I h
  refine wpAny_Call_Name_kw (qe6 I hg hm hv ?_ hn hdb)
  exact PyProof.Rows.callWith_builtin1 (thn (ha pos pins s σ H _ I h) fun us s1 ⟨vs,H1,I1,r1,q1⟩=>hc pins s1 σ H1 vs us Q I1 r1 q1) he hpl
theorem qem (hc:qdK X (.type T) r) (hg:Gl X x) (hm:X.mg x=none) (hv:bootBuiltins x=some (.type T)) (ha:PA X (e :: es) t) (hn:x≠"__name__":=by decide) (hdb:(x == ("__debug__":Str))=false:=by decide)
    (he:starEach (e :: es) X.env=(false,eval e X.env) :: starEach es X.env:=by rfl) (hpl:(backTo pos (starEach es X.env)).any (·.1)=false:=by rfl):PE X (.Call (.Name x p) (e :: es) [] pos) (tCB r t):=by
  intro pins s σ H Q I h
  refine wpAny_Call_Name_kw (qe6 I hg hm hv ?_ hn hdb)
  exact PyProof.Rows.callWith_type1 (thn (ha pos pins s σ H _ I h) fun us s1 ⟨vs,H1,I1,r1,q1⟩=>hc pins s1 σ H1 vs us Q I1 r1 q1) he hpl
end
end L2
namespace HT
open PySem PyProof.Rows
section
open PySem.SeqAt
open PySem.AutoSeq1 (wpAny_loadPart')
open PySem.MeetsSeq PySem.MeetsSeq2 PySem.MeetsSeq3
end
section
variable {prog:Program} {w:World} {A:Around} {E:Value→Shared→Prop} {s:Shared}
theorem cat_tup {t b:Addr} {vs ws:List Value} {Q:Value→Shared→Prop} (ht:IsTup s.heap t vs.toArray) (hb:IsTup s.heap b ws.toArray) (hv:vs≠[])
    (h1:ws=[]→Q (.ref t) s) (h2:ws≠[]→Q (.ref s.heap.objs.size) { s with heap:=s.heap.push { cls:=.type "tuple",data:=.seq (vs ++ ws).toArray } })
    (hsz:vs.length + ws.length≤sizeLine):wpAny (model prog w) A (binaryOp .Add (.ref t) (.ref b)) Q E s:=by
  obtain ⟨⟨cls,dd,data,sl⟩,ho,hc,n,hd⟩:=id ht
  obtain ⟨⟨cls2,dd2,data2,sl2⟩,ho2,hc2,n2,hd2⟩:=id hb
  simp only at hc hd hc2 hd2
  subst hc hd hc2 hd2
  have e:vs.toArray ++ ws.toArray=(vs ++ ws).toArray:=by simp
  by_cases hw:ws=[]
  · exact concat_meets ⟨_,ho,rfl⟩ ⟨_,ho2,rfl⟩ noFill_tuple_add seq_tuple_add PySem.F.slot_tuple_add PySem.F.entry_tuple_add (PySem.F.args_tuple_add_2 _ _)
      (tuple_addW1 t b vs.toArray ws.toArray n n2 dd dd2 sl sl2 (by simpa using hv) (by simp [hw])) ⟨ho,ho2,h1 hw⟩
  · refine concat_meets ⟨_,ho,rfl⟩ ⟨_,ho2,rfl⟩ noFill_tuple_add seq_tuple_add PySem.F.slot_tuple_add PySem.F.entry_tuple_add (PySem.F.args_tuple_add_2 _ _)
      (tuple_addW2 t b vs.toArray ws.toArray n n2 dd dd2 sl sl2 (by simpa using hv) (by simpa using hw) (by rw [List.size_toArray,List.size_toArray]; exact hsz)) ⟨ho,ho2,?_⟩
    rw [e]
    exact h2 hw
def sIx (n d:Nat):Option Int→Nat
  | none=>d
  | some v=>if v < 0 then (v + (n:Int)).toNat else min v.toNat n
theorem sIx_nat (n d k:Nat):sIx n d (some (k:Int))=min k n:=by
  show (if (k:Int) < 0 then ((k:Int) + (n:Int)).toNat else min (k:Int).toNat n)=min k n
  rw [if_neg (by omega),Int.toNat_natCast]
end
end HT
namespace L2
open PySem PySem.Spec PyProof.Rows
abbrev TO:=St→Hp→(Option Int→Hp→Prop)→Prop
def PO (X:Cx) (e:Option Expr) (t:TO):Prop :=
  ∀ (pins:List (Addr×Obj)) (s:Shared) (σ:St) (H:Hp) (Q:Option Int→Hp→Prop),Inv X pins σ H s→t σ H Q →
    wpAny (model X.prog X.w) X.A (evalPart e X.env) (fun u s'=>∃ o H',Inv X pins σ H' s'∧IsPart u o∧Q o H') X.xe s
def tNoPart:TO:=fun _ H Q=>Q none H
def tPart (t:TE):TO:=fun σ H Q=>t σ H fun x H1=>∃ i,x=.int i∧Q (some i) H1
section
variable {X:Cx} {e:Expr} {te:TE} {lo hi:Option Expr} {tl th:TO} {pos p2:Pos}
theorem po_none:PO X none tNoPart:=by
  intro pins s σ H Q I h
  rw [evalPart_none]
  exact wpAny_pure ⟨none,H,I,.none,h⟩
theorem po_some (h:PE X e te):PO X (some e) (tPart te):=by
  intro pins s σ H Q I hw
  rw [evalPart_some]
  refine thn (h pins s σ H _ I hw) fun u s1 ⟨x,H1,I1,r1,q1⟩=>?_
  obtain ⟨i,rfl,q⟩:=q1
  obtain ⟨t,rfl⟩:=r1
  exact ⟨some i,H1,I1,.int i t,q⟩
def SlR (X:Cx) (r:V→Option Int→Option Int→Hp→VK→Prop):Prop :=
  ∀ (pins:List (Addr×Obj)) (s:Shared) (σ:St) (H:Hp) (x:V) (v vl vu:Value) (lo hi:Option Int) (sl:Addr) (Q:VK),Inv X pins σ H s→RelV x v→s.heap.IsSliceOf sl vl vu .none→IsPart vl lo→IsPart vu hi→r x lo hi H Q →
    ∃ T id,typeLookup (.type T) "__getitem__"=pure (some (.builtin id))∧s.TypeIs v T∧wpAny (model X.prog X.w) X.A (getItem v (.ref sl)) (EP X pins σ Q) X.xe s
def tSl (r:V→Option Int→Option Int→Hp→VK→Prop) (te:TE) (tl th:TO):TE:=fun σ H Q=>te σ H fun x H1=>tl σ H1 fun l H2=>th σ H2 fun u H3=>r x l u H3 Q
theorem pe_slice {r:V→Option Int→Option Int→Hp→VK→Prop} (hr:SlR X r) (he:PE X e te) (hl:PO X lo tl) (hu:PO X hi th):PE X (.Subscript e (.Slice lo hi none p2) pos) (tSl r te tl th):=by
  intro pins s σ H Q I h
  refine Subscript_ (thn (he pins s σ H _ I h) fun v s1 ⟨x,H1,I1,r1,q1⟩=>?_)
  refine wpAny_Slice (thn (hl pins s1 σ H1 _ I1 q1) fun vl s2 ⟨l,H2,I2,pl,q2⟩=>thn (hu pins s2 σ H2 _ I2 q2) fun vu s3 ⟨u,H3,I3,pu,q3⟩=>?_)
  rw [evalPart_none]
  refine wpAny_pure ?_
  have I4:Inv X pins σ H3 { s3 with heap:=s3.heap.push { cls:=.type "slice",data:=.fields #[vl,vu,.none] } }:=I3.kept (t':=s3.toks) fun b ob q=>Heap.get?_push_of_some _ q
  obtain ⟨T,id,hT,ht,hg⟩:=hr pins { s3 with heap:=s3.heap.push { cls:=.type "slice",data:=.fields #[vl,vu,.none] } } σ H3 x v vl vu l u s3.heap.objs.size Q I4 r1 (Heap.IsSliceOf.new ..) pl pu q3
  show wpAny (model X.prog X.w) X.A (subscriptTail e (.Slice lo hi none p2) v (.ref s3.heap.objs.size)) (EP X pins σ Q) X.xe { s3 with heap:=s3.heap.push { cls:=.type "slice",data:=.fields #[vl,vu,.none] } }
  exact tail_any (ops:=[.ref s3.heap.objs.size,v]) ht hT hg (by with_unfolding_all rfl)
def cutV (xs:List V) (lo hi:Option Int):List V:=(xs.drop (HT.sIx xs.length 0 lo)).take (HT.sIx xs.length xs.length hi - HT.sIx xs.length 0 lo)
theorem cutV_length (xs:List V) (lo hi:Option Int):(cutV xs lo hi).length≤xs.length:=by
  unfold cutV
  rw [List.length_take,List.length_drop]
  omega
def rCatT (K:PySem.W.Frag):R2:=fun x y H Q=>∃ a b xs ys,x=.ref a∧y=.ref b∧SqT K H a xs∧SqT K H b ys∧xs≠[]∧xs.length + ys.length≤sizeLine ∧
  (ys=[]→Q (.ref a) H)∧(ys≠[]→∀ p,H p=none→Q (.ref p) (upd H p (.tup (xs ++ ys))))
theorem Vals.nil_iff {xs:List V} {us:List Value} (r:Vals xs us):us=[]↔xs=[]:=by
  cases r with
  | nil=>simp
  | cons _ _=>simp
theorem op_catT:OpR X (binaryOp .Add) (rCatT X.K):=by
  intro pins s σ H x y v u Q I rx ry h
  obtain ⟨a,b,xs,ys,rfl,rfl,ha,hb,hx,hz,q1,q2⟩:=h
  cases rx
  cases ry
  obtain ⟨its,r1,p1,_⟩:=I.tuple ha
  obtain ⟨its2,r2,p2,_⟩:=I.tuple hb
  refine HT.cat_tup p1 p2 (fun z=>hx (r1.nil_iff.mp z)) (fun z=>⟨.ref a,H,I,rfl,q1 (r2.nil_iff.mp z)⟩) (fun z=>?_) (by rw [← r1.length,← r2.length]; exact hz)
  refine ⟨.ref s.heap.objs.size,_,I.laid (t':=s.toks) (o:=.tup (xs ++ ys)) (fun b ob q=>Heap.get?_push_of_some _ q) (Nat.le_refl _) ?_,rfl,q2 (fun w=>z (r2.nil_iff.mpr w)) _ (I.hok.fresh (Nat.le_refl _))⟩
  exact ⟨by rw [List.length_append]; exact hz,_,r1.append r2,TupN.new _ _⟩
end
end L2
namespace L2
open PySem PySem.Spec PyProof.Rows
def ixN (n:Nat) (i:Int):Option Nat:=if 0≤i then (if i < n then some i.toNat else none) else if -(n:Int)≤i then some (i + n).toNat else none
def atI {α:Type} (xs:List α) (i:Int):Option α:=(ixN xs.length i).bind fun j=>xs[j]?
theorem ixN_seq {n:Nat} {i:Int} {j:Nat} (h:ixN n i=some j):seqIndex? i n=some j∧j < n∧-(n:Int)≤i∧i < n:=by
  unfold ixN at h
  by_cases h0:0≤i
  · rw [if_pos h0] at h
    by_cases h1:i < n
    · rw [if_pos h1] at h
      have e:i.toNat=j:=Option.some.inj h
      exact ⟨by rw [seqIndex_of h0 h1,e],by omega,by omega,h1⟩
    · rw [if_neg h1] at h; cases h
  · rw [if_neg h0] at h
    by_cases h1:-(n:Int)≤i
    · rw [if_pos h1] at h
      have e:(i + n).toNat=j:=Option.some.inj h
      exact ⟨by rw [seqIndex_neg (by omega) h1,e],by omega,h1,by omega⟩
    · rw [if_neg h1] at h; cases h
theorem atI_get {α:Type} {xs:List α} {i:Int} {v:α} (h:atI xs i=some v):∃ j,seqIndex? i xs.length=some j∧xs[j]? = some v∧j < xs.length∧-(xs.length:Int)≤i∧i < xs.length:=by
  unfold atI at h
  cases e:ixN xs.length i with
  | none=>rw [e] at h; cases h
  | some j =>
    rw [e] at h
    obtain ⟨h1,h2,h3,h4⟩:=ixN_seq e
    exact ⟨j,h1,h,h2,h3,h4⟩
theorem qcu {α:Type} {xs:List α} {j:Nat} {v:α} (h:xs[j]? = some v):atI xs (j:Int)=some v:=by
  have hj:j < xs.length:=(List.getElem?_eq_some_iff.mp h).1
  have e:ixN xs.length (j:Int)=some j:=by
    unfold ixN
    rw [if_pos (by omega),if_pos (by omega)]; simp
  unfold atI; rw [e]; exact h
def PlainIx (b:Expr):Prop:=∀ o i,subscripted b false o i=operate [o,i] (getItem o i)
def IxR (X:Cx) (r:R2):Prop :=
  ∀ (value slice:Expr) (pins:List (Addr×Obj)) (s:Shared) (σ:St) (H:Hp) (x y:V) (v u:Value) (Q:VK),Inv X pins σ H s→RelV x v→RelV y u→r x y H Q →
    subscripted slice false v u=operate [v,u] (getItem v u)→wpAny (model X.prog X.w) X.A (subscriptTail value slice v u) (EP X pins σ Q) X.xe s
def MtR (X:Cx) (id:String) (r:V→List V→Hp→VK→Prop):Prop :=
  ∀ (pins:List (Addr×Obj)) (s:Shared) (σ:St) (H:Hp) (x:V) (xs:List V) (v:Value) (us:List Value) (Q:VK),Inv X pins σ H s→RelV x v→Vals xs us→r x xs H Q →
    wpAny (model X.prog X.w) X.A (call (.builtin id) (v :: us)) (EP X pins σ Q) X.xe s
section
variable {X:Cx} {a b:Expr} {ta tb:TE} {pos:Pos}
theorem pe_ix {r:R2} (hr:IxR X r) (ha:PE X a ta) (hb:PE X b tb) (hs:PlainIx b):PE X (.Subscript a b pos) (tOp r ta tb):=by
  intro pins s σ H Q I h
  exact Subscript_ (binT ha hb I h fun v u s2 x y H2 I2 rx ry q=>hr a b pins s2 σ H2 x y v u Q I2 rx ry q (hs _ _))
def rIxL (K:PySem.W.Frag):R2:=fun x y H Q=>∃ p xs i v,x=.ref p∧y=.int i∧SqL K H p xs∧atI xs i=some v∧Q v H
def rIxT (K:PySem.W.Frag):R2:=fun x y H Q=>∃ p xs i v,x=.ref p∧y=.int i∧SqT K H p xs∧atI xs i=some v∧Q v H
theorem ix_list:IxR X (rIxL X.K):=by
  intro value slice pins s σ H x y v u Q I rx ry h hs
  obtain ⟨p,xs,i,z,rfl,rfl,hq,he,q⟩:=h
  cases rx
  obtain ⟨t,rfl⟩:=ry
  obtain ⟨its,r,pl,hz⟩:=I.list hq
  obtain ⟨j,h1,h2,h3,h4,h5⟩:=atI_get he
  obtain ⟨w,ew,rw'⟩:=r.get h2
  have hl:=r.length
  have hn:=qga
  have fin:EP X pins σ Q w s:=⟨z,H,I,rw',q⟩
  by_cases h0:0≤i
  · have hj:i.toNat=j:=by
      rw [seqIndex_of h0 h5] at h1
      exact Option.some.inj h1
    exact item_listR pl.isList h0 (by omega) (by rw [hj]; simpa using ew) fin hs
  · have hj:(i + (its.toArray.size:Int)).toNat=j:=by
      rw [seqIndex_neg (by omega) h4] at h1
      rw [List.size_toArray,← hl]
      exact Option.some.inj h1
    exact subscriptTail_builtinR (x:=w) pl.isList.typeIs slot_list_getitem.lookup
      (wpAny_getItem_list_neg (Q:=fun r s'=>r=w∧EP X pins σ Q r s') pl.isList (by omega) (by rw [List.size_toArray] <;> omega) (by omega) (by rw [hj]; simpa using ew) ⟨rfl,fin⟩) hs
theorem ix_tup:IxR X (rIxT X.K):=by
  intro value slice pins s σ H x y v u Q I rx ry h hs
  obtain ⟨p,xs,i,z,rfl,rfl,hq,he,q⟩:=h
  cases rx
  obtain ⟨t,rfl⟩:=ry
  obtain ⟨its,r,pl,hz⟩:=I.tuple hq
  obtain ⟨j,h1,h2,h3,h4,h5⟩:=atI_get he
  obtain ⟨w,ew,rw'⟩:=r.get h2
  have hl:=r.length
  have hn:=qga
  have fin:EP X pins σ Q w s:=⟨z,H,I,rw',q⟩
  exact subscriptTail_builtinR (x:=w) pl.typeIs slot_tuple_getitem.lookup
    (getItem_tuple (j:=j) (Q:=fun r s'=>r=w∧EP X pins σ Q r s') pl (by omega) (by omega) (by rw [List.size_toArray,← hl]; exact h1) (by simpa using ew) ⟨rfl,fin⟩) hs
theorem mapSeq_set (its:List Value) (n j:Nat) (u:Value):Obj.mapSeq (·.setIfInBounds j u) { cls:=.type "list",data:=.seq its.toArray n }={ cls:=.type "list",data:=.seq (its.set j u).toArray n }:=by
  simp [Obj.mapSeq]
theorem Inv.lst {pins:List (Addr×Obj)} {σ:St} {H:Hp} {s:Shared} {p:Addr} {xs:List V} (I:Inv X pins σ H s) (h:H p=some (.lst xs)) :
    ∃ (its:List Value) (n:Nat),Vals xs its∧s.heap.get? p=some { cls:=.type "list",data:=.seq its.toArray n }∧xs.length≤sizeLine:=by
  obtain ⟨z,its,n,r,e⟩:=I.hok p _ h
  exact ⟨its,n,r,e,z⟩
theorem Inv.lstUpd {pins:List (Addr×Obj)} {σ:St} {H:Hp} {s:Shared} {p:Addr} {xs ys:List V} {its its':List Value} {n n':Nat} {f:Obj→Obj} (I:Inv X pins σ H s) (h:H p=some (.lst xs))
    (ho:s.heap.get? p=some { cls:=.type "list",data:=.seq its.toArray n }) (hf:f { cls:=.type "list",data:=.seq its.toArray n }={ cls:=.type "list",data:=.seq its'.toArray n' }) (r:Vals ys its') (hz:ys.length≤sizeLine) (t:Nat) :
    Inv X pins σ (upd H p (.lst ys)) { s with heap:=s.heap.update p f,toks:=t }:=by
  have e:(s.heap.update p f).get? p=some { cls:=.type "list",data:=.seq its'.toArray n' }:=by
    rw [Heap.get?_update_self f ho (by rw [hf] <;> rfl),hf]
  refine I.write (x:=p) (e:=p) (by rw [h]; trivial) (.inl rfl) (fun b u hb q=>(Heap.get?_update_other _ _ (Ne.symm hb)).trans q) ⟨_,e⟩ ?_
  exact ⟨hz,its',n',r,e⟩
def rSetL:V→V→V→Hp→(Hp→Prop)→Prop:=fun o i v H Q=>∃ p xs k j,o=.ref p∧i=.int k∧H p=some (.lst xs)∧ixN xs.length k=some j∧Q (upd H p (.lst (xs.set j v)))
theorem set_list:PSet X rSetL:=by
  intro pins s σ H o i v ov iv u Q I ro ri rv h
  obtain ⟨p,xs,k,j,rfl,rfl,hp,hj,q⟩:=h
  cases ro
  obtain ⟨t,rfl⟩:=ri
  obtain ⟨its,n,r,ho,hz⟩:=I.lst hp
  obtain ⟨h1,h2,h3,h4⟩:=ixN_seq hj
  have hl:=r.length
  have hn:=qga
  have I':Inv X pins σ (upd H p (.lst (xs.set j v))) { s with heap:=s.heap.update p (Obj.mapSeq (·.setIfInBounds j u)) } :=
    I.lstUpd hp ho (mapSeq_set its n j u) (r.set rv j) (by rw [List.length_set]; exact hz) s.toks
  by_cases h0:0≤k
  · have hk:k.toNat=j:=by
      rw [seqIndex_of h0 h4] at h1
      exact Option.some.inj h1
    exact PySem.W.ki_setAt ho h0 (by omega) (by rw [List.size_toArray,← hl]; exact h4) (by rw [hk]; exact ⟨_,I',q⟩)
  · have hk:(k + (its.toArray.size:Int)).toNat=j:=by
      rw [seqIndex_neg (by omega) h3] at h1
      rw [List.size_toArray,← hl]
      exact Option.some.inj h1
    exact PySem.W.ki_setBack ho (by omega) (by rw [List.size_toArray,← hl]; exact h3) (by omega) (by rw [hk]; exact ⟨_,I',q⟩)
theorem slice_bounds (lo hi:Option Int) (n:Nat):(sliceBounds lo hi none n).1=((HT.sIx n 0 lo:Nat):Int)∧(sliceBounds lo hi none n).2.1=((HT.sIx n n hi:Nat):Int)∧(sliceBounds lo hi none n).2.2=1:=by
  refine ⟨?_,?_,rfl⟩
  · cases lo with
    | none=>simp [sliceBounds,HT.sIx]
    | some i =>
      simp only [sliceBounds,HT.sIx,Option.getD_none,show (1:Int) > 0 by decide,if_true]
      by_cases h:i < 0
      · simp only [h,if_true] <;> omega
      · simp only [h,if_false] <;> omega
  · cases hi with
    | none=>simp [sliceBounds,HT.sIx]
    | some i =>
      simp only [sliceBounds,HT.sIx,Option.getD_none,show (1:Int) > 0 by decide,if_true]
      by_cases h:i < 0
      · simp only [h,if_true] <;> omega
      · simp only [h,if_false] <;> omega
theorem qgt (its:List Value) (lo hi:Option Int):slicePick its.toArray lo hi none=((its.drop (HT.sIx its.length 0 lo)).take (HT.sIx its.length its.length hi - HT.sIx its.length 0 lo)).toArray:=by
  obtain ⟨h1,h2,h3⟩:=slice_bounds lo hi its.toArray.size
  unfold slicePick
  rw [h1,h2,h3]
  simp only [sliceRange_one,pick_run,List.size_toArray] <;> rfl
def rSlL (K:PySem.W.Frag):V→Option Int→Option Int→Hp→VK→Prop:=fun x lo hi H Q=>∃ a xs,x=.ref a∧SqL K H a xs∧∀ p,H p=none→Q (.ref p) (upd H p (.lst (cutV xs lo hi)))
theorem sl_list:SlR X (rSlL X.K):=by
  intro pins s σ H x v vl vu lo hi sl Q I rx hs pl pu h
  obtain ⟨a,xs,rfl,hx,q⟩:=h
  cases rx
  obtain ⟨its,r,ht,hz⟩:=I.list hx
  have hlen:=r.length
  refine ⟨"list",_,slot_list_getitem.lookup,ht.isList.typeIs,?_⟩
  refine wpAny_getItem_list_slice ht.isList hs pl pu .none (by simp) ?_ (by rw [List.size_toArray] <;> omega)
  rw [qgt,← hlen]
  refine ⟨.ref s.heap.objs.size,_,I.laid (t':=s.toks) (o:=.lst (cutV xs lo hi)) (fun b ob q=>Heap.get?_push_of_some _ q) (Nat.le_refl _) ?_,rfl,q _ (I.hok.fresh (Nat.le_refl _))⟩
  exact ⟨Nat.le_trans (cutV_length xs lo hi) hz,_,0,(r.drop (HT.sIx xs.length 0 lo)).take (HT.sIx xs.length xs.length hi - HT.sIx xs.length 0 lo),Heap.get?_push_size _ rfl⟩
theorem call_len_seq:qdK X (.builtin "len") (fun xs H Q=>∃ p ys,xs=[.ref p]∧(SqL X.K H p ys∨SqT X.K H p ys)∧Q (.int ys.length) H):=by
  intro pins s σ H xs us Q I r h
  obtain ⟨p,ys,rfl,hq,q⟩:=h
  obtain ⟨u,rfl,rx⟩:=vals1 r
  cases rx
  have hn:=qga
  rcases hq with hq | hq
  · obtain ⟨its,r',pl,hz⟩:=I.list hq
    have hlen:=r'.length
    exact Calls.call_len_list pl.isList (by simp only [List.size_toArray] <;> omega) ⟨.int ys.length,H,I.tok _,⟨s.toks + 1,by rw [List.size_toArray,hlen]⟩,q⟩
  · obtain ⟨its,r',pl,hz⟩:=I.tuple hq
    have hlen:=r'.length
    exact len_tuple pl (by simp only [List.size_toArray] <;> omega) ⟨.int ys.length,H,I.tok _,⟨s.toks + 1,by rw [List.size_toArray,hlen]⟩,q⟩
theorem call_len_str:qdK X (.builtin "len") (fun xs H Q=>∃ z,xs=[.str z]∧z.length≤sizeLine∧Q (.int z.length) H):=by
  intro pins s σ H xs us Q I r h
  obtain ⟨z,rfl,hz,q⟩:=h
  obtain ⟨u,rfl,t,rfl⟩:=vals1 r
  have hn:=qga
  exact len_str (by omega) ⟨.int z.length,H,I.tok _,⟨_,rfl⟩,q⟩
theorem qgW:qdK X (.type "tuple") (fun xs H Q=>∃ p ys,xs=[.ref p]∧((SqL X.K H p ys∧∀ l,H l=none→Q (.ref l) (upd H l (.tup ys)))∨(SqT X.K H p ys∧Q (.ref p) H))):=by
  intro pins s σ H xs us Q I r h
  obtain ⟨p,ys,rfl,h⟩:=h
  obtain ⟨u,rfl,rx⟩:=vals1 r
  cases rx
  rcases h with ⟨hq,q⟩ | ⟨hq,q⟩
  · obtain ⟨its,r',pl,hz⟩:=I.list hq
    have hlen:=r'.length
    refine call_tuple_list pl.isList (fun h' kp=>?_) (by simp only [List.size_toArray] <;> omega)
    have I1:Inv X pins σ H { s with heap:=h' }:=I.kept (t':=s.toks) kp
    have I2:Inv X pins σ (upd H h'.objs.size (.tup ys)) { s with heap:=h'.push { cls:=.type "tuple",data:=.seq its.toArray } } :=
      I1.laid (t':=s.toks) (fun b o e=>Heap.get?_push_of_some _ e) (Nat.le_refl _) (show ObjOk X.prog X.w _ _ _ (.tup ys) from ⟨hz,its,r',TupN.new _ _⟩)
    exact ⟨.ref h'.objs.size,_,I2,rfl,q _ (I1.hok.fresh (Nat.le_refl _))⟩
  · obtain ⟨its,r',pl,hz⟩:=I.tuple hq
    exact call_tuple_same pl ⟨.ref p,H,I,rfl,q⟩
def tyV (K:PySem.W.Frag) (T:String) (x:V) (H:Hp):Prop:=match x with
  | .str _=>T="str"
  | .int _=>T="int"
  | .ref p=>(T="list"∧∃ xs,SqL K H p xs)∨(T="tuple"∧((∃ xs,H p=some (.tup xs))∨∃ o,K.lookup p=some o∧o.cls=.type "tuple"∧o.dict=none)) ∨
      (T="dict"∧((∃ kvs,H p=some (.dK kvs))∨∃ kvs,H p=some (.dT kvs)))∨(T="set"∧∃ S n,H p=some (.set S n))
  | _=>False
theorem tyV_is {pins:List (Addr×Obj)} {σ:St} {H:Hp} {s:Shared} {T:String} {x:V} {v:Value} (I:Inv X pins σ H s) (r:RelV x v) (ty:tyV X.K T x H) :
    s.TypeIs v T∧∀ a,v=.ref a→∃ ob,s.heap.get? a=some ob∧ob.dict=none:=by
  cases x with
  | str z =>
    obtain ⟨t,rfl⟩:=r
    cases (show T="str" from ty)
    exact ⟨typeIs_str s z t,fun _ e=>nomatch e⟩
  | int i =>
    obtain ⟨t,rfl⟩:=r
    cases (show T="int" from ty)
    exact ⟨typeIs_int s i t,fun _ e=>nomatch e⟩
  | ref p =>
    cases r
    rcases ty with ⟨rfl,xs,hq⟩ | ⟨rfl,⟨xs,hk⟩ | ⟨o,hk,hc,hd⟩⟩ | ⟨rfl,hk⟩ | ⟨rfl,S,n,hk⟩
    · obtain ⟨its,_,pl,_⟩:=I.list hq
      refine ⟨pl.isList.typeIs,fun a e=>?_⟩
      cases e
      obtain ⟨o,n,e,c,hd,_⟩:=pl
      exact ⟨o,e,hd⟩
    · obtain ⟨_,its,_,o,e,c,_,hd⟩:=(show ObjOk X.prog X.w H s.heap p (.tup xs) from I.hok p _ hk)
      refine ⟨⟨o,e,c⟩,fun a e2=>?_⟩
      cases e2
      exact ⟨o,e,hd⟩
    · refine ⟨⟨o,I.kIn p o hk,hc⟩,fun a e=>?_⟩
      cases e
      exact ⟨o,I.kIn _ o hk,hd⟩
    · have z:∃ o,s.heap.get? p=some o∧o.ExactDict:=by
        rcases hk with ⟨kvs,hk⟩ | ⟨kvs,hk⟩
        · obtain ⟨_,_,_,_,o,_,_,e,ex,_⟩:=I.hok p _ hk
          exact ⟨o,e,ex⟩
        · obtain ⟨_,_,_,_,o,_,_,e,ex,_⟩:=I.hok p _ hk
          exact ⟨o,e,ex⟩
      obtain ⟨o,e,ex⟩:=z
      refine ⟨⟨o,e,ex.1⟩,fun a e2=>?_⟩
      cases e2
      exact ⟨o,e,ex.2.1⟩
    · obtain ⟨o,_,_,_,e,ex,_⟩:=I.hok p _ hk
      refine ⟨⟨o,e,ex.1⟩,fun a e2=>?_⟩
      cases e2
      exact ⟨o,e,ex.2.1⟩
  | _=>exact False.elim ty
def tBM (K:PySem.W.Frag) (T:String) (r:V→List V→Hp→VK→Prop) (to:TE) (t:TA):TE:=fun σ H Q=>to σ H fun x H1=>tyV K T x H1∧t σ H1 fun xs H2=>r x xs H2 Q
variable {o e:Expr} {es:List Expr} {to:TE} {t:TA} {name:Str} {apos cpos:Pos} {T id:String} {r:V→List V→Hp→VK→Prop}
theorem pe_bm (pa:PlainAttrs T) (slot:Slot T name id) (hty:typeOf (.builtin id)=pure (.type "method_descriptor")) (hm:MtR X id r) (ho:PE X o to) (ha:PA X (e :: es) t)
    (hbase:attributeBase o name X.env (eval o X.env)=eval o X.env:=by rfl)
    (hfew:((backTo cpos (starEach (e :: es) X.env)).all (fun x=>!x.1) && (backToKw cpos (keywordEach [] X.env)).all (fun x=>x.1.isSome)
      && decide ((e :: es).length + ([]:List Keyword).length + (if ([]:List Keyword).isEmpty then 0 else 1) < 30))=true:=by rfl)
    (hline:(apos.endLine == cpos.line)=true:=by rfl) (hs:starEach (e :: es) X.env=(false,eval e X.env) :: starEach es X.env:=by rfl) (hplain:(backTo cpos (starEach es X.env)).any (·.1)=false:=by rfl) :
    PE X (.Call (.Attribute o name apos) (e :: es) [] cpos) (tBM X.K T r to t):=by
  intro pins s σ H Q I h
  refine wpAny_Call_method_late hbase hfew hline rfl (thn (ho pins s σ H _ I h) fun v s1 ⟨x,H1,I1,r1,ty,q1⟩=>?_)
  obtain ⟨h1,h2⟩:=tyV_is I1 r1 ty
  refine ⟨T,id,pa,slot,hty,h1,h2,?_⟩
  have hA:=ha cpos pins s1 σ H1 _ I1 q1
  rw [hs] at hA ⊢
  refine Calls.callWith_builtin (by show (false || (backTo cpos (starEach es X.env)).any (·.1))=false; rw [hplain] <;> rfl) (Calls.evalArgs_plain ?_)
  exact thn hA fun us s2 ⟨vs,H2,I2,r2,q2⟩=>hm pins s2 σ H2 x vs v us Q I2 r1 r2 q2
end
end L2
namespace L2
open PySem PySem.Spec PyProof.Rows
def MtM (X:Cx) (id:String) (r:V→List V→Hp→VK→Prop):Prop :=
  ∀ (pins:List (Addr×Obj)) (s:Shared) (σ:St) (H:Hp) (x:V) (xs:List V) (v:Value) (us:List Value) (Q:VK),Inv X pins σ H s→RelV x v→Vals xs us→r x xs H Q →
    wpAny (model X.prog X.w) X.A (call (.builtin id) (v :: us)) (EP X pins σ Q) X.xe s
theorem Vals.one:∀ {x:V} {us:List Value},Vals [x] us→∃ u,us=[u]∧RelV x u
  | _,_,.cons r .nil=>⟨_,rfl,r⟩
theorem Vals.two:∀ {x y:V} {us:List Value},Vals [x,y] us→∃ u v,us=[u,v]∧RelV x u∧RelV y v
  | _,_,_,.cons r (.cons q .nil)=>⟨_,_,rfl,r,q⟩
theorem Vals.rep {xs:List V} {us:List Value} (h:Vals xs us):∀ k:Nat,Vals (List.replicate k xs).flatten (List.replicate k us).flatten
  | 0=>.nil
  | k + 1=>by
    rw [List.replicate_succ,List.replicate_succ,List.flatten_cons,List.flatten_cons]
    exact Vals.append h (Vals.rep h k)
theorem foldl_rep (its:List Value):∀ (k:Nat) (acc:List Value),
    List.foldl (fun x1 x2=>x1 ++ x2) acc.toArray (List.replicate k its.toArray)=(acc ++ (List.replicate k its).flatten).toArray
  | 0,acc=>by simp
  | k + 1,acc=>by
    have e:acc.toArray ++ its.toArray=(acc ++ its).toArray:=by simp
    have e2:(acc ++ its) ++ (List.replicate k its).flatten=acc ++ (List.replicate (k + 1) its).flatten:=by
      rw [List.replicate_succ,List.flatten_cons,List.append_assoc]
    rw [← e2,← foldl_rep its k (acc ++ its),← e,List.replicate_succ,List.foldl_cons]
section
variable {X:Cx} {pins:List (Addr×Obj)} {σ:St} {H:Hp} {s:Shared} {l b:Addr} {xs ys zs:List V}
theorem Inv.lset {its its':List Value} {n:Nat} {f:Array Value→Array Value} {t':Nat} (I:Inv X pins σ H s) (hH:H l=some (.lst xs))
    (e:s.heap.get? l=some { cls:=.type "list",data:=.seq its.toArray n }) (hf:f its.toArray=its'.toArray) (hv:Vals ys its') (hz:ys.length≤sizeLine) :
    Inv X pins σ (upd H l (.lst ys)) { s with heap:=s.heap.update l (Obj.mapSeq f),toks:=t' }:=by
  have q:=PySem.IsL.update e f
  rw [hf] at q
  refine I.write (x:=l) (e:=l) (by rw [hH]; exact trivial) (.inl rfl) (fun b' u hb hu=>(Heap.get?_update_other s.heap (Obj.mapSeq f) (Ne.symm hb)).trans hu) ⟨_,q⟩ ?_
  exact ⟨hz,its',_,hv,q⟩
theorem Inv.lnew {its:List Value} {t':Nat} (I:Inv X pins σ H s) (hv:Vals ys its) (hz:ys.length≤sizeLine) :
    Inv X pins σ (upd H s.heap.objs.size (.lst ys)) { s with heap:=s.heap.push { cls:=.type "list",data:=.seq its.toArray },toks:=t' } :=
  I.laid (fun _ _ q=>Heap.get?_push_of_some _ q) (Nat.le_refl _) ⟨hz,its,0,hv,Heap.get?_push_size _ rfl⟩
theorem Inv.fresh (I:Inv X pins σ H s):H s.heap.objs.size=none:=I.hok.fresh (Nat.le_refl _)
theorem Inv.lstM (I:Inv X pins σ H s) (hH:H l=some (.lst xs)):xs.length≤sizeLine∧∃ (its:List Value) (n:Nat),Vals xs its∧xs.length=its.length∧s.heap.get? l=some { cls:=.type "list",data:=.seq its.toArray n }:=by
  obtain ⟨z,its,n,r,e⟩:=I.hok l _ hH
  exact ⟨z,its,n,r,r.length,e⟩
theorem notLongL {n:Nat} (h:n≤sizeLine):Builtin.List.listTooLong n=false:=by
  unfold Builtin.List.listTooLong
  exact decide_eq_false (by omega)
end
section
variable {X:Cx}
def rAppend:V→List V→Hp→VK→Prop:=fun x vs H Q=>∃ l xs y,x=.ref l∧vs=[y]∧H l=some (.lst xs)∧xs.length < sizeLine∧Q .non (upd H l (.lst (xs ++ [y])))
theorem mt_append:MtM X "list.append" rAppend:=by
  intro pins s σ H x vs v us Q I rx rv h
  obtain ⟨l,xs,y,rfl,rfl,hH,hz,q⟩:=h
  cases rx
  obtain ⟨u,rfl,ru⟩:=rv.one
  obtain ⟨z,its,n,r,hl,e⟩:=I.lstM hH
  refine call_meets F.slot_list_append ⟨_,e,rfl⟩ F.entry_list_append (F.args_list_append_2 _ _) (PySem.list_append l its.toArray n u (by rw [List.size_toArray]; omega)) ⟨e,?_⟩
  refine ⟨.non,_,I.lset (its':=its ++ [u]) hH e (by simp) (r.append (.cons ru .nil)) ?_,rfl,q⟩
  rw [List.length_append,List.length_singleton]
  omega
def rExtend:V→List V→Hp→VK→Prop:=fun x vs H Q=>∃ l b xs zs,x=.ref l∧vs=[.ref b]∧H l=some (.lst xs)∧H b=some (.lst zs)∧xs.length + zs.length≤sizeLine∧Q .non (upd H l (.lst (xs ++ zs)))
theorem mt_extend:MtM X "list.extend" rExtend:=by
  intro pins s σ H x vs v us Q I rx rv h
  obtain ⟨l,b,xs,zs,rfl,rfl,hH,hB,hz,q⟩:=h
  cases rx
  obtain ⟨u,rfl,ru⟩:=rv.one
  cases ru
  obtain ⟨z,its,n,r,hl,e⟩:=I.lstM hH
  obtain ⟨z2,its2,n2,r2,hl2,e2⟩:=I.lstM hB
  have hsz:its.toArray.size + its2.toArray.size≤sizeLine:=by rw [List.size_toArray,List.size_toArray]; omega
  have hlong:¬ (!its.toArray.isEmpty && Builtin.List.listTooLong (its.toArray.size + its2.toArray.size))=true:=by
    rw [notLongL hsz,Bool.and_false]
    exact Bool.false_ne_true
  refine call_meets F.slot_list_extend ⟨_,e,rfl⟩ F.entry_list_extend (F.args_list_extend_2 _ _)
    (AutoSeq1.list_extend_list_list_0 l its.toArray n b its2.toArray n2 hlong (by rw [List.size_toArray]; omega) (by omega)) ⟨e,e2,?_⟩
  refine ⟨.non,_,I.lset (its':=its ++ its2) hH e (by simp) (r.append r2) ?_,rfl,q⟩
  rw [List.length_append]
  omega
def rCat:R2:=fun x y H Q=>∃ l b xs zs,x=.ref l∧y=.ref b∧H l=some (.lst xs)∧H b=some (.lst zs)∧xs.length + zs.length≤sizeLine∧∀ p,H p=none→Q (.ref p) (upd H p (.lst (xs ++ zs)))
theorem op_cat:OpR X (binaryOp .Add) rCat:=by
  intro pins s σ H x y v u Q I rx ry h
  obtain ⟨l,b,xs,zs,rfl,rfl,hH,hB,hz,q⟩:=h
  cases rx
  cases ry
  obtain ⟨z,its,n,r,hl,e⟩:=I.lstM hH
  obtain ⟨z2,its2,n2,r2,hl2,e2⟩:=I.lstM hB
  refine PySem.P.add_list e e2 ?_ (by rw [List.size_toArray,List.size_toArray]; omega)
  have ea:its.toArray ++ its2.toArray=(its ++ its2).toArray:=by simp
  rw [ea]
  exact ⟨.ref _,_,I.lnew (t':=s.toks) (r.append r2) (by rw [List.length_append]; omega),rfl,q _ I.fresh⟩
def rRep:R2:=fun x y H Q=>∃ l k xs,x=.ref l∧y=.int k∧H l=some (.lst xs)∧-(2 ^ 63)≤k∧k < 2 ^ 63∧xs.length * k.toNat≤sizeLine ∧
  ∀ p,H p=none→Q (.ref p) (upd H p (.lst (List.replicate k.toNat xs).flatten))
theorem len_rep {α:Type} (xs:List α) (k:Nat):(List.replicate k xs).flatten.length=k * xs.length:=by
  induction k with
  | zero=>simp
  | succ k ih=>rw [List.replicate_succ,List.flatten_cons,List.length_append,ih,Nat.succ_mul,Nat.add_comm]
theorem op_rep:OpR X (binaryOp .Mult) rRep:=by
  intro pins s σ H x y v u Q I rx ry h
  obtain ⟨l,k,xs,rfl,rfl,hH,h1,h2,hz,q⟩:=h
  cases rx
  obtain ⟨t,rfl⟩:=ry
  obtain ⟨z,its,n,r,hl,e⟩:=I.lstM hH
  have hlen:its.toArray.size * k.toNat≤sizeLine:=by rw [List.size_toArray,← hl]; exact hz
  have hcap:¬ its.toArray.size * k.toNat > (2 ^ 63 - 1) / 8:=by
    have:(sizeLine:Nat)≤(2 ^ 63 - 1) / 8:=by decide
    omega
  have hfit:¬ (!Builtin.List.listFitsIndex k)=true:=by
    rw [fitsIndex_both h1 h2]
    exact Bool.false_ne_true
  have hlong:¬ Builtin.List.listTooLong (its.toArray.size * k.toNat)=true:=by
    rw [notLongL hlen]
    exact Bool.false_ne_true
  have hnew:List.foldl (fun x1 x2=>x1 ++ x2) #[] (List.replicate (if its.toArray.isEmpty=true then 0 else k.toNat) its.toArray)=(List.replicate k.toNat its).flatten.toArray:=by
    have f0:∀ m:Nat,List.foldl (fun x1 x2=>x1 ++ x2) #[] (List.replicate m its.toArray)=(List.replicate m its).flatten.toArray:=fun m=>by
      have:=foldl_rep its m []
      rw [List.nil_append] at this
      exact this
    rw [f0]
    cases its with
    | nil=>simp
    | cons a r'=>rw [if_neg (by simp)]
  refine wpAny_binaryOp_repeat_ref (T:="list") (U:="int") (by decide) ⟨_,e,rfl⟩ (fun s'=>typeIs_int s' k t) noFill_list_mul F.fills_int_mul F.slot_int_rmul repeat_list F.slot_int_index.lookup
    (call_meets F.slot_int_rmul (typeIs_int s k t) F.entry_int_rmul (F.args_int_rmul_2 _ _) (int___rmul___int_list k t l its.toArray n)
      ⟨e,rfl,⟨_,e,rfl⟩,call_meets F.slot_list_mul ⟨_,e,rfl⟩ F.entry_list_mul (F.args_list_mul_2 _ _) (AutoListH.list___mul___list_int_3 l its.toArray n k t hfit hcap hlong) ⟨e,?_⟩⟩)
  rw [hnew]
  exact ⟨.ref _,_,I.lnew (t':=s.toks) (r.rep k.toNat) (by rw [len_rep,Nat.mul_comm]; exact hz),rfl,q _ I.fresh⟩
end
section
variable {prog:Program} {w:World} {A:Around} {E:Value→Shared→Prop} {s:Shared}
set_option maxRecDepth 100000 in
end
section
variable {X:Cx}
end
end L2
namespace Att
open PySem PySem.W PySem.Calls PyProof.Rows
theorem qfK {P:Params} {h:Heap}:∀ (ns:List Int) (vs:List Value),WellAll P h vs (ns.map WData.int)→IntsAre vs ns:=by
  intro ns
  induction ns with
  | nil =>
    intro vs w
    rw [List.map_nil] at w
    cases w
    exact .nil
  | cons n ns ih =>
    intro vs w
    rw [List.map_cons] at w
    cases w with
    | cons a b =>
      cases a
      exact .cons _ _ (ih _ b)
theorem script_of {l:OpenLaw} {n:Nat} (hn:l.most=some n) {P:Params} {h:Heap} {args:List WData} {vals:List Value}
    (hpre:l.row.toRowW.claim.pre args=true) (hwl:WellAll P h vals args) :
    ∃ a vs ns,vals=[Value.ref a]∧args=[WData.list (ns.map WData.int)]∧h.get? a=some { cls:=.type "list",data:=.seq vs.toArray }∧IntsAre vs ns∧ns.length≤n:=by
  have hsh:WShape.hasAll [] args [.list .int]=true:=(pre_splitW hpre).1
  have hc:l.pre.holds [] { args:=args }=true:=(pre_splitW hpre).2
  obtain ⟨d,r,rfl,h1,h2⟩:=hasAllW_cons hsh
  obtain rfl:=hasAllW_nil h2
  obtain ⟨xs,rfl,h3⟩:=hasW_list h1
  obtain ⟨ns,rfl⟩:=items_int h3
  have hlen:ns.length≤n:=by
    unfold OpenLaw.pre at hc
    have h4:(WTm.not (.lt (.lit (.int (n:Int))) (.len (.arg 0)))).holds [] { args:=[.list (ns.map .int)] }=true:=by
      have h4:=(holds_andW hc).1
      rw [hn] at h4
      exact h4
    have h5:=condW_of h4 (w_not (w_lt w_lit (w_len_list (w_arg rfl))))
    rw [List.length_map] at h5
    refine Nat.le_of_not_lt fun q=>?_
    have q':(n:Int) < ((ns.length:Nat):Int):=by omega
    first
      | (rw [decide_eq_true q'] at h5; exact absurd h5 (by decide))
      | (simp at h5; omega)
  cases hwl with
  | cons w1 w2 =>
    cases w2
    cases w1 with
    | list ho hall=>exact ⟨_,_,ns,rfl,rfl,ho,qfK ns _ hall,hlen⟩
theorem post_true (l:OpenLaw) (args:List WData):l.row.toRowW.claim.post args (.bool true) args=true :=
  postW_of (r:=l.row.toRowW) (X:=(true == true))
    (show WShape.has [] (.bool true) .bool=true by first | rfl | decide | simp [WShape.has,WShape.arms,WShape.armsAll])
    (show (WTm.eq .res (.lit (.bool true))).value [] { args:=args,res:=some (.bool true),after:=args }=some (.bool (true == true)) from w_eq_bool (w_res rfl) w_lit) rfl
theorem attach_call {l:OpenLaw} {n:Nat} {q:Program} {loose:List Str} {XP:(Str→Option Value)→Heap→Prop} {YP:World→Heap→Prop} {d:DefRec}
    (hn:l.most=some n) (hdf:d.params.defaults=[])
    (call:∀ (w:World) (s₀ s₁:Shared) (mg mb:Str→Option Value) (fa:Addr) (o:Obj) (pm cd doc:Value) (a:Addr) (vs:List Value) (ns:List Int),
      Ground q loose [] XP w s₀ mg mb s₁.heap→YP w s₁.heap →
      s₁.heap.get? fa=some o→o.data=.func (docDef d.name d.params d.body d.scope pm cd doc)→s₁.heap.CodeRec cd d.name→mg d.name=some (.ref fa) →
      s₁.heap.get? a=some { cls:=.type "list",data:=.seq vs.toArray }→IntsAre vs ns→ns.length≤n→s₁.gens=#[] →
      codeAny (model l.prog w) callerA (.call (.ref fa) ⟨[.ref a],[]⟩) (fun r s'=>r=.ok (.ret (.bool true))∧OldK s₁.heap s'.heap∧s'.os=s₁.os∧AllBare s'.gens) s₁) :
    WalkO q loose XP YP l.row.toRowW d [] (fun f vs=>PySem.call f vs):=by
  intro w s₀ s₁ mg mb G Y fa o pm cd doc dV kV ho hd hcd hD hmg hg args vals as hpre hlay hrd hwl hlo
  obtain rfl:dV=.none:=Dflts.none hD hdf
  obtain rfl:kV=.none:=Dflts.noKw hD
  obtain ⟨a,vs,ns,rfl,rfl,hobj,hints,hlen⟩:=script_of hn hpre hwl
  refine enter_call (codeAny_mono (call w s₀ s₁ mg mb fa o pm cd doc a vs ns G Y ho (fd_plain hd) hcd hmg hobj hints hlen hg) fun r s' hq=>?_)
  obtain ⟨rfl,h2,h3,h4⟩:=hq
  exact ⟨.inl ⟨.bool true,.bool true,[],rfl,fun _=>rfl,.bool true,post_true l _,fun _=>⟨List.Pairwise.nil,fun _ hm=>(nomatch hm)⟩⟩,h2,h3,h4⟩
section
variable {prog:Program} {w:World} {A:Around} {E:Value→Shared→Prop} {s:Shared} {K:Frag}
end
end Att
namespace L2
open PySem PySem.Spec PyProof.Rows
theorem vals_ints:∀ {vs:List Value} {ns:List Int},IntsAre vs ns→Vals (ns.map V.int) vs
  | _,_,.nil=>.nil
  | _,_,.cons n t h=>.cons ⟨t,rfl⟩ (vals_ints h)
end L2
namespace L2
open PySem PySem.Spec PyProof.Rows
end L2
namespace L2
open PySem PySem.Spec PyProof.Rows
def qai (s:Stmt):Arguments:=match s with
  | .FunctionDef _ a _ _ _ _ _ _ _ _=>a
  | _=>{ posonlyargs:=[],args:=[],vararg:=none,kwonlyargs:=[],kw_defaults:=[],kwarg:=none,defaults:=[] }
def qad (s:Stmt):List Stmt:=match s with
  | .FunctionDef _ _ b _ _ _ _ _ _ _=>b
  | _=>[]
def qa5 (s:Stmt):Scope:=match s with
  | .FunctionDef _ _ _ _ _ _ sc _ _ _=>sc
  | _=>{ kind:=.function,names:=[],isGenerator:=false,isCoroutine:=false }
abbrev CX0:CXT:=fun _ _ _ _ _ _=>False
abbrev E0:XK:=fun _ _ _=>False
theorem pass0 {X:Cx}:Passes CX0 X E0:=fun _ _ _ _ _ _ _ h=>h.elim
structure Fun (K:PySem.W.Frag) (x qual:Str) (st:Stmt) (f:Addr) (fd:FuncData):Prop where
  ex:∃ (oc:Value) (od:Option Addr) (kV doc pm:Value) (an:Option Addr) (cdv ct:Value) (osl:Array (Option Value)),
    fd=PySem.W.fnOf x qual (qai st) (qad st) (qa5 st) .none kV doc pm an cdv ct∧K.lookup f=some ⟨oc,od,.func fd,osl⟩∧PySem.W.codeIn K cdv qual=true
  kp:PySem.W.keepIn K (.ref f)=true
section
variable {P:Program} {w:World} {K:PySem.W.Frag} {mg:Str→Option Value} {base:Heap}
theorem Fun.ok {x qual:Str} {st:Stmt} {f:Addr} {fd:FuncData} {N ps:List Str} {k:Nat} {sp:Sp} (F:Fun K x qual st f fd) (S:qag N ps (qa5 st)) (len:∀ vs H Q E,sp vs H Q E→vs.length=ps.length)
    (hbody:∀ (cdv:Value) (A:Around) (outer:List Env) (s:Shared) (H:Hp) (vs:List V) (Q:VK) (E:XK),Room k (A.deeper (envOfC qual (qa5 st) s.heap.objs.size f cdv))→sp vs H Q E →
      ∃ t,PSs (cxOf CX0 P w K mg base N qual (qa5 st) f cdv A outer s H E).nox (qad st) t∧t { nx:=fun _ H'=>Q .non H',rt:=Q } (start N vs) H):FnOk P w K mg base CX0 (k + 1) f fd ps sp:=by
  obtain ⟨oc,od,kV,doc,pm,an,cdv,ct,osl,rfl,lk,hcd⟩:=F.ex
  refine fn_of lk hcd S len fun A outer s H vs Q E hr hsp=>?_
  obtain ⟨t,h,q⟩:=hbody cdv A outer s H vs Q E hr hsp
  exact ⟨t,h.nox,q⟩
theorem Fun.binds {x qual:Str} {st:Stmt} {f:Addr} {fd:FuncData} {ps:List Str} (F:Fun K x qual st f fd)
    (h:∀ (kV doc pm:Value) (an:Option Addr) (cdv ct:Value) (us:List Value),us.length=ps.length→bindArgs (PySem.W.fnOf x qual (qai st) (qad st) (qa5 st) .none kV doc pm an cdv ct) ⟨us,[]⟩=pure (ps.zip us)):Binds K fd ps []:=by
  obtain ⟨oc,od,kV,doc,pm,an,cdv,ct,osl,rfl,lk,hcd⟩:=F.ex
  exact .all (h kV doc pm an cdv ct)
theorem qaE {x qual:Str} {st:Stmt} {f:Addr} {oc:Value} {od an:Option Addr} {osl:Array (Option Value)} {kV doc pm cdv ct:Value} (l:K.lookup f=some ⟨oc,od,.func (PySem.W.fnOf x qual (qai st) (qad st) (qa5 st) .none kV doc pm an cdv ct),osl⟩)
    (c:PySem.W.codeIn K cdv qual=true) (k:PySem.W.keepIn K (.ref f)=true):Fun K x qual st f (PySem.W.fnOf x qual (qai st) (qad st) (qa5 st) .none kV doc pm an cdv ct):=⟨⟨oc,od,kV,doc,pm,an,cdv,ct,osl,rfl,l,c⟩,k⟩
end
section
variable {X:Cx}
end
theorem iteF {A B:Prop} (h:B):if false=true then A else B:=by
  rw [if_neg Bool.false_ne_true]
  exact h
theorem iteT {A B:Prop} (h:A):if true=true then A else B:=by
  rw [if_pos rfl]
  exact h
end L2
namespace L2
open PySem PySem.Spec PyProof.Rows
def qbZ (X:Cx) (N':List Str) (scope:Scope) (cl:List (Str×Addr)) (C:Addr) (s₀:Shared) (H₀:Hp) (ex:List Addr) (pn:List (Addr×Obj)):Cx where
  prog:=X.prog
  w:=X.w
  K:=X.K
  mg:=X.mg
  base:=X.base
  A:=X.A
  N:=N'
  s₀:=s₀
  H₀:=H₀
  env:=compEnvC scope cl C X.env
  outer:=X.stack
  stack:=X.stack
  ex:=ex
  fn:=fun x=>scope.names.lookup x == some NameKind.cell
  calm:=X.calm
  pn:=pn
  xe:=fun _ _=>False
structure CompScope (X:Cx) (N':List Str) (pick:List (Option Nat)) (scope:Scope):Prop where
  kind:scope.kind=.function
  nd:N'.Nodup
  names:∀ x∈scope.names,x.2=.local→scope.names.lookup x.1=some .local
  uniq:(scope.names.map (·.1)).Nodup
  len:pick.length=N'.length
  got:∀ (i j:Nat) (x:Str),pick[i]? = some (some j)→N'[i]? = some x→scope.names.lookup x=some .free∧X.N[j]? = some x
  free:∀ x∈scope.names,x.2=.free→X.env.kindOf x.1=some .cell∨X.env.kindOf x.1=some .free
def qgs (pick:List (Option Nat)) (σ:St):St:=pick.map fun o=>o.bind fun j=>(σ[j]?).bind id
def PIfs (X:Cx) (ifs:List Expr) (t:TT):Prop :=
  ∀ (pins:List (Addr×Obj)) (s:Shared) (σ:St) (H:Hp) (Q:Bool→Hp→Prop),Inv X pins σ H s→t σ H Q →
    wpAny (model X.prog X.w) X.A (forIn ifs true fun c r=>if r=true then do let ok ← isTrue c X.env (eval c X.env); pure (ForInStep.yield ok) else pure (ForInStep.yield r)) (TP X pins σ Q) X.xe s
def tYes:TT:=fun _ H Q=>Q true H
theorem pifs_nil {X:Cx}:PIfs X [] tYes:=fun pins s σ H Q I h=>wpAny_tests_nil ⟨H,I,h⟩
theorem pifs_one {X:Cx} {c:Expr} {t:TT} (h:PT X c t):PIfs X [c] t:=fun pins s σ H Q I q=>wpAny_tests_one (h pins s σ H Q I q)
def CompW (J:It) (g:TG) (tt:TT) (te:TE) (Q:VK) (σ:St) (H:Hp):Prop:=∃ W:Nat→Nat→St→List V→Hp→Prop,(∃ m,W 0 m σ [] H) ∧
  ∀ i m σ' ys H,W i m σ' ys H→ys.length < sizeLine ∧
    ((J.stop i H∧∀ p,H p=none→Q (.ref p) (upd H p (.lst ys))) ∨
     (J.go i H∧∃ N:St→List V→Hp→Prop,(∀ σ2 zs H2,N σ2 zs H2→∃ m',m' < m∧W (i + 1) m' σ2 zs H2)∧∀ x H',J.yld i H x H'→g x σ' H' fun σ2 H2=>tt σ2 H2 fun b H3 =>
        if b=true then te σ2 H3 fun y H4=>N σ2 (ys ++ [y]) H4 else N σ2 ys H3))
def tComp (wi:TI) (pick:List (Option Nat)) (g:TG) (tt:TT) (te:TE):TE:=fun σ H Q=>wi σ H fun J H1=>CompW J g tt te Q (qgs pick σ) H1
def qbc (env:Env):List (Str×NameKind)→List (Str×Addr)→List (Str×Addr)
  | [],acc=>acc
  | (n,k) :: r,acc=>qbc env r (if (k == NameKind.free)=true then (n,(env.cells.lookup n).getD 0) :: acc else acc)
theorem qdV {env:Env}:∀ (names:List (Str×NameKind)) (acc:List (Str×Addr)),(∀ x∈names,x.2=.free→∃ c,env.cells.lookup x.1=some c) →
    (forIn names acc fun (x:Str×NameKind) cs=>(if (x.2 == NameKind.free)=true then do let a ← cellOf env x.1; pure (ForInStep.yield ((x.1,a) :: cs)) else pure (ForInStep.yield cs):Sem (ForInStep (List (Str×Addr)))))=pure (qbc env names acc)
  | [],acc,_=>rfl
  | (n,k) :: r,acc,h=>by
    rw [List.forIn_cons]
    by_cases hk:(k == NameKind.free)=true
    · obtain ⟨c,hc⟩:=h (n,k) List.mem_cons_self (by simpa using hk)
      have e1:cellOf env n=pure c:=by unfold cellOf; rw [show env.cells.lookup n=some c from hc]
      simp only [hk,if_true,e1,pure_bind]
      rw [qdV r _ fun x hx=>h x (List.mem_cons_of_mem _ hx)]
      show _=pure (qbc env r (if (k == NameKind.free)=true then _ else _))
      rw [if_pos hk,show env.cells.lookup n=some c from hc]
      rfl
    · simp only [hk,Bool.false_eq_true,if_false,pure_bind]
      rw [qdV r _ fun x hx=>h x (List.mem_cons_of_mem _ hx)]
      show _=pure (qbc env r (if (k == NameKind.free)=true then _ else _))
      rw [if_neg hk]
theorem qdJ {env:Env} {x:Str} {c:Addr}:∀ (names:List (Str×NameKind)) (acc:List (Str×Addr)),(qbc env names acc).lookup x=some c →
    ((x,NameKind.free)∈names∧c=(env.cells.lookup x).getD 0)∨acc.lookup x=some c
  | [],acc,h=>.inr h
  | (n,k) :: r,acc,h=>by
    unfold qbc at h
    rcases qdJ r _ h with ⟨a,b⟩ | q
    · exact .inl ⟨List.mem_cons_of_mem _ a,b⟩
    · by_cases hk:(k == NameKind.free)=true
      · rw [if_pos hk,List.lookup_cons] at q
        cases hx:x == n with
        | true =>
          rw [hx] at q
          have e1:x=n:=by simpa using hx
          have e2:k=.free:=by simpa using hk
          subst e1; subst e2
          exact .inl ⟨List.mem_cons_self,(Option.some.inj q).symm⟩
        | false=>rw [hx] at q; exact .inr q
      · rw [if_neg hk] at q; exact .inr q
theorem qee {env:Env} {x:Str}:∀ (names:List (Str×NameKind)) (acc:List (Str×Addr)),(acc.lookup x).isSome=true∨(x,NameKind.free)∈names→((qbc env names acc).lookup x).isSome=true
  | [],acc,h=>h.elim id fun z=>by cases z
  | (n,k) :: r,acc,h=>by
    unfold qbc
    refine qee r _ ?_
    by_cases hk:(k == NameKind.free)=true
    · rw [if_pos hk,List.lookup_cons]
      cases hx:x == n with
      | true=>exact .inl rfl
      | false =>
        refine h.imp id fun z=>?_
        rcases List.mem_cons.mp z with e | z
        · exact absurd (show (x == n)=true by cases e; simp) (by rw [hx]; simp)
        · exact z
    · rw [if_neg hk]
      refine h.imp id fun z=>?_
      rcases List.mem_cons.mp z with e | z
      · exact absurd (show (k == NameKind.free)=true by cases e; rfl) hk
      · exact z
theorem cf_from {x:Str} {c:Addr}:∀ (names:List (Str×NameKind)) (n:Nat) (acc:List (Str×Addr)),(cellsFrom n names acc).lookup x=some c→(n≤c∧(x,NameKind.cell)∈names)∨acc.lookup x=some c
  | [],_,_,h=>.inr h
  | (y,k) :: r,n,acc,h=>by
    unfold cellsFrom at h
    by_cases hk:(k == NameKind.cell)=true
    · rw [if_pos hk] at h
      rcases cf_from r _ _ h with ⟨a,b⟩ | q
      · exact .inl ⟨Nat.le_trans (Nat.le_succ _) a,List.mem_cons_of_mem _ b⟩
      · rw [List.lookup_cons] at q
        cases hx:x == y with
        | true =>
          rw [hx] at q
          have e1:x=y:=by simpa using hx
          have e2:k=.cell:=by simpa using hk
          subst e1; subst e2
          exact .inl ⟨Nat.le_of_eq (Option.some.inj q),List.mem_cons_self⟩
        | false=>rw [hx] at q; exact .inr q
    · rw [if_neg hk] at h
      rcases cf_from r _ _ h with ⟨a,b⟩ | q
      · exact .inl ⟨a,List.mem_cons_of_mem _ b⟩
      · exact .inr q
theorem cf_inj:∀ (names:List (Str×NameKind)) (n:Nat) (acc:List (Str×Addr)),(∀ x y c,acc.lookup x=some c→acc.lookup y=some c→x=y)→(∀ x c,acc.lookup x=some c→c < n) →
    ∀ x y c,(cellsFrom n names acc).lookup x=some c→(cellsFrom n names acc).lookup y=some c→x=y
  | [],_,_,hi,_,x,y,c,h1,h2=>hi x y c h1 h2
  | (z,k) :: r,n,acc,hi,hl,x,y,c,h1,h2=>by
    unfold cellsFrom at h1 h2
    by_cases hk:(k == NameKind.cell)=true
    · rw [if_pos hk] at h1 h2
      refine cf_inj r (n + 1) ((z,n) :: acc) (fun x y c e1 e2=>?_) (fun x c e=>?_) x y c h1 h2
      · rw [List.lookup_cons] at e1 e2
        cases hx:x == z with
        | true =>
          rw [hx] at e1
          cases hy:y == z with
          | true=>exact (by simpa using hx:x=z).trans (by simpa using hy:y=z).symm
          | false =>
            rw [hy] at e2
            have e3:n=c:=Option.some.inj e1
            exact absurd (e3 ▸ hl y c e2) (Nat.lt_irrefl _)
        | false =>
          rw [hx] at e1
          cases hy:y == z with
          | true =>
            rw [hy] at e2
            have e3:n=c:=Option.some.inj e2
            exact absurd (e3 ▸ hl x c e1) (Nat.lt_irrefl _)
          | false=>rw [hy] at e2; exact hi x y c e1 e2
      · rw [List.lookup_cons] at e
        cases hx:x == z with
        | true=>rw [hx] at e; have e3:n=c:=Option.some.inj e; exact e3 ▸ Nat.lt_succ_self n
        | false=>rw [hx] at e; exact Nat.lt_succ_of_lt (hl x c e)
    · rw [if_neg hk] at h1 h2
      exact cf_inj r n acc hi hl x y c h1 h2
theorem cf_cell {x:Str} {c:Addr}:∀ (names:List (Str×NameKind)) (h:Heap) (acc:List (Str×Addr)),(cellsFrom h.objs.size names acc).lookup x=some c→acc.lookup x=some c∨(h.objs.size≤c∧(pushCells h names).IsCell c none)
  | [],_,_,e=>.inl e
  | (y,k) :: r,h,acc,e=>by
    unfold cellsFrom at e
    unfold pushCells
    by_cases hk:(k == NameKind.cell)=true
    · rw [if_pos hk] at e ⊢
      have e':=e
      rw [show h.objs.size + 1=(h.push { cls:=.type "cell",data:=.cell none }).objs.size from (Heap.size_push ..).symm] at e'
      rcases cf_cell r _ _ e' with q | ⟨a,q⟩
      · rw [List.lookup_cons] at q
        cases hx:x == y with
        | true =>
          rw [hx] at q
          have e3:h.objs.size=c:=Option.some.inj q
          subst e3
          exact .inr ⟨Nat.le_refl _,_,pushCells_keeps _ _ _ _ (Heap.get?_push_size _ rfl),rfl⟩
        | false=>rw [hx] at q; exact .inl q
      · refine .inr ⟨?_,q⟩
        rw [Heap.size_push] at a
        omega
    · rw [if_neg hk] at e ⊢
      exact cf_cell r h acc e
theorem qfS {M:Model} {A:Around} {E:Value→Shared→Prop} {s:Shared} {scope:Scope} {globals:Addr} {cl:List (Str×Addr)} {qual:Str} {env:Env} {Q:Env→Shared→Prop}
    (hQ:∀ h',(∀ b o,s.heap.get? b=some o→h'.get? b=some o)→h'.Ns s.heap.objs.size (fun _=>none) →
      (∀ x c,(cellsFrom (s.heap.objs.size + 1) scope.names cl).lookup x=some c→cl.lookup x=some c∨(s.heap.objs.size < c∧h'.IsCell c none)) →
      Q { scope,locals:=s.heap.objs.size,globals,cells:=cellsFrom (s.heap.objs.size + 1) scope.names cl,qual,func:=none,code:=env.code,frame:=env.frame,builtins:=env.builtins } { s with heap:=h' }) :
    wpAny M A (newFunctionEnv scope globals cl [] qual none .none (some env)) Q E s:=by
  simp only [newFunctionEnv,Option.isSome_some,if_true]
  refine wpAny_bind (wpAny_alloc ?_)
  refine wpAny_bind (wpAny_layCells _ (fun name kind cells=>by cases hkc:kind == NameKind.cell <;> simp [hkc]) _ _ _ _ ?_)
  rw [show ({ s with heap:=s.heap.push { cls:=.type "dict",data:=.dict #[] } }:Shared).heap.objs.size=s.heap.objs.size + 1 from Heap.size_push ..]
  refine wpAny_bind (wpAny_pure (wpAny_pure ?_))
  refine hQ _ (fun b o e=>pushCells_keeps _ _ b o (Heap.get?_push_of_some _ e)) ((Heap.Ns.new s.heap (.type "dict")).keeps (pushCells_keeps _ _)) fun x c e=>?_
  have e':=e
  rw [show s.heap.objs.size + 1=(s.heap.push { cls:=.type "dict",data:=.dict #[] }).objs.size from (Heap.size_push ..).symm] at e'
  rcases cf_cell scope.names (s.heap.push { cls:=.type "dict",data:=.dict #[] }) cl e' with q | ⟨a,q⟩
  · exact .inl q
  · refine .inr ⟨?_,q⟩
    rw [Heap.size_push] at a
    omega
end L2
namespace L2
open PySem PySem.Spec PyProof.Rows
theorem qgw {env:Env} {x:Str} {k':NameKind}:∀ {names:List (Str×NameKind)},(names.map fun (n,k)=>if (k == NameKind.free && env.scope.kind == .function && env.kindOf n == some .cell) then (n,NameKind.cell) else (n,k)).lookup x=some k' →
  ∃ k,names.lookup x=some k∧(k'=k∨(k=.free∧k'=.cell))
 | [],h=>by cases h
 | (n,k) :: r,h=>by
  rw [List.map_cons] at h
  by_cases hc:(k == NameKind.free && env.scope.kind == .function && env.kindOf n == some .cell)=true
  ·have e:(match ((n,k):Str×NameKind) with | (n,k)=>if (k == NameKind.free && env.scope.kind == .function && env.kindOf n == some .cell) then (n,NameKind.cell) else (n,k))=(n,NameKind.cell):=if_pos hc
   rw [e,List.lookup_cons] at h
   rw [List.lookup_cons]
   cases hx:x == n with
   | true =>
    rw [hx] at h
    have hk:k=.free:=by
     simp only [Bool.and_eq_true] at hc
     simpa using hc.1.1
    exact ⟨k,rfl,.inr ⟨hk,(Option.some.inj h).symm⟩⟩
   | false=>rw [hx] at h; exact qgw h
  ·have e:(match ((n,k):Str×NameKind) with | (n,k)=>if (k == NameKind.free && env.scope.kind == .function && env.kindOf n == some .cell) then (n,NameKind.cell) else (n,k))=(n,k):=if_neg hc
   rw [e,List.lookup_cons] at h
   rw [List.lookup_cons]
   cases hx:x == n with
   | true=>rw [hx] at h; exact ⟨k,rfl,.inl (Option.some.inj h).symm⟩
   | false=>rw [hx] at h; exact qgw h
theorem rl_to {env:Env} {x:Str} {k:NameKind}:∀ {names:List (Str×NameKind)},names.lookup x=some k →
  ∃ k',(names.map fun (n,k)=>if (k == NameKind.free && env.scope.kind == .function && env.kindOf n == some .cell) then (n,NameKind.cell) else (n,k)).lookup x=some k'∧(k'=k∨(k=.free∧k'=.cell))
 | [],h=>by cases h
 | (n,j) :: r,h=>by
  rw [List.map_cons]
  rw [List.lookup_cons] at h
  by_cases hc:(j == NameKind.free && env.scope.kind == .function && env.kindOf n == some .cell)=true
  ·have e:(match ((n,j):Str×NameKind) with | (n,k)=>if (k == NameKind.free && env.scope.kind == .function && env.kindOf n == some .cell) then (n,NameKind.cell) else (n,k))=(n,NameKind.cell):=if_pos hc
   rw [e,List.lookup_cons]
   cases hx:x == n with
   | true =>
    rw [hx] at h
    have hk:j=.free:=by
     simp only [Bool.and_eq_true] at hc
     simpa using hc.1.1
    exact ⟨.cell,rfl,.inr ⟨(Option.some.inj h).symm.trans hk,rfl⟩⟩
   | false=>rw [hx] at h; exact rl_to h
  ·have e:(match ((n,j):Str×NameKind) with | (n,k)=>if (k == NameKind.free && env.scope.kind == .function && env.kindOf n == some .cell) then (n,NameKind.cell) else (n,k))=(n,j):=if_neg hc
   rw [e,List.lookup_cons]
   cases hx:x == n with
   | true=>rw [hx] at h; exact ⟨j,rfl,.inl (Option.some.inj h)⟩
   | false=>rw [hx] at h; exact rl_to h
theorem qdF {x:Str} {k:NameKind}:∀ {names:List (Str×NameKind)},(names.map (·.1)).Nodup→(x,k)∈names→names.lookup x=some k
 | [],_,h=>by cases h
 | (n,j) :: r,nd,h=>by
  have nd:(n :: r.map (·.1)).Nodup:=nd
  obtain ⟨n1,n2⟩:=List.nodup_cons.mp nd
  rw [List.lookup_cons]
  rcases List.mem_cons.mp h with e | h2
  ·cases e; simp
  ·have hx:(x == n)=false:=by
    have:x≠n:=by
     intro e
     exact n1 (List.mem_map.mpr ⟨(x,k),h2,e⟩)
    simpa using this
   rw [hx]; exact qdF n2 h2
theorem compLoop_gen {prog:Program} {w:World} {A:Around} {R:Result→Shared→Prop} {s:Shared} {elt target iter:Expr} {ifs:List Expr} {scope:Scope} {pos:Pos} {it acc:Value} {env:Env} (I:Nat→Shared→Prop)
  (turn:∀ n s,I n s→wpAny (model prog w) A (pyNext it) (fun r s₁=>match r with
   | none=>R (.ok .next) s₁
   | some v=>wpAny (model prog w) A (letOwnedTupleGo target it v) (fun _ s₁'=>wpAny (model prog w) A (assign target env v) (fun _ s₂ =>
     wpAny (model prog w) A (forIn ifs true fun c r=>if r=true then do let ok ← isTrue c env (eval c env); pure (ForInStep.yield ok) else pure (ForInStep.yield r)) (fun ok s₃ =>
      if ok=true then wpAny (model prog w) A (eval elt env) (fun x s₄ =>
       wpAny (model prog w) A (call (.builtin "list.append") [acc,x]) (fun _ s₅=>∃ m,m < n∧I m s₅) (fun _ _=>False) s₄) (fun _ _=>False) s₃
      else ∃ m,m < n∧I m s₃) (fun _ _=>False) s₂) (fun _ _=>False) s₁') (fun _ _=>False) s₁) (fun _ _=>False) s)
  (n:Nat) (h:I n s) :
  codeAny (model prog w) A (.compLoop (.ListComp elt [⟨target,iter,ifs,0⟩] scope pos) 0 it acc env) R s:=by
 refine codeAny_loop rfl I (fun n s hI=>?_) n h
 show wpAny _ A ((compTurn (.ListComp elt [⟨target,iter,ifs,0⟩] scope pos) 0 it acc env).onRaise (fun x=>do noteFrame x env; theTreesLotGoes x)) _ _ s
 refine wpAny_noted ?_
 rw [compTurn_list]
 refine wpAny_bind (wpAny_standAt (wpAny_bind (wpAny_mono (turn n s hI) (fun r s₁ h₁=>?_) fun _ _ h'=>h'.elim)))
 cases r with
 | none=>exact wpAny_pure h₁
 | some v =>
  refine wpAny_bind (wpAny_mono h₁ (fun _ s₁' h₁'=>?_) fun _ _ h'=>h'.elim)
  refine wpAny_bind (wpAny_mono h₁' (fun _ s₂ h₂=>wpAny_bind (wpAny_mono h₂ (fun ok s₃ h₃=>?_) fun _ _ h'=>h'.elim)) fun _ _ h'=>h'.elim)
  cases ok with
  | false=>exact wpAny_pure ⟨rfl,h₃⟩
  | true =>
   exact wpAny_bind (wpAny_bind (wpAny_mono h₃ (fun x s₄ h₄=>wpAny_bind (wpAny_mono h₄ (fun _ s₅ h₅=>wpAny_pure (wpAny_pure ⟨rfl,h₅⟩)) fun _ _ h'=>h'.elim)) fun _ _ h'=>h'.elim))
section
variable {X:Cx} {N':List Str} {pick:List (Option Nat)} {scope:Scope} {pins:List (Addr×Obj)} {σ:St} {H₂:Hp} {s₂:Shared} {tg:Expr} {J:It} {fp:List Addr} {it:Addr} {tn:Nat→Heap→Prop}
theorem clos_of (S:CompScope X N' pick scope) (I:Inv X pins σ H₂ s₂):closureFor scope X.env=pure (qbc X.env scope.names []):=by
 have e:=qdV (env:=X.env) scope.names [] fun x hx hk=>I.ok.has x.1 (S.free x hx hk)
 show ((forIn scope.names ([]:List (Str×Addr)) fun (x:Str×NameKind) cs=>(if (x.2 == NameKind.free)=true then do let a ← cellOf X.env x.1; pure (ForInStep.yield ((x.1,a) :: cs)) else pure (ForInStep.yield cs):Sem (ForInStep (List (Str×Addr))))) >>= fun cs=>pure cs)=_
 rw [e,pure_bind]
theorem cap_of (S:CompScope X N' pick scope) (I:Inv X pins σ H₂ s₂) {x:Str} {c:Addr} (h:(qbc X.env scope.names []).lookup x=some c):(x,NameKind.free)∈scope.names∧X.env.cells.lookup x=some c:=by
 rcases qdJ _ _ h with ⟨a,b⟩ | q
 ·refine ⟨a,?_⟩
  obtain ⟨c',hc⟩:=I.ok.has x (S.free _ a rfl)
  rw [hc] at b ⊢
  rw [b]; rfl
 ·cases q
theorem qeE (S:CompScope X N' pick scope) (I:Inv X pins σ H₂ s₂) {n:Nat} {x:Str} {c:Addr} (h:(cellsFrom n scope.names (qbc X.env scope.names [])).lookup x=some c) :
  (n≤c∧scope.names.lookup x=some .cell)∨(scope.names.lookup x=some .free∧X.env.cells.lookup x=some c):=by
 rcases cf_from _ _ _ h with ⟨a,b⟩ | q
 ·exact .inl ⟨a,qdF S.uniq b⟩
 ·obtain ⟨a,b⟩:=cap_of S I q
  exact .inr ⟨qdF S.uniq a,b⟩
theorem qgk (S:CompScope X N' pick scope) (I:Inv X pins σ H₂ s₂) {n:Nat} {x:Str} {c:Addr} (hx:scope.names.lookup x=some .free) (hc:X.env.cells.lookup x=some c) :
  (cellsFrom n scope.names (qbc X.env scope.names [])).lookup x=some c:=by
 have h1:((qbc X.env scope.names []).lookup x).isSome=true:=qee _ _ (.inr (PySem.mem_of_lookup hx))
 obtain ⟨c',h2⟩:=Option.isSome_iff_exists.mp (PySem.W.cellsFrom_some scope.names n _ (.inr h1))
 rcases qeE S I h2 with ⟨_,z⟩ | ⟨_,z⟩
 ·rw [hx] at z; cases z
 ·rw [hc] at z; cases z; exact h2
theorem frs_old (I:Inv X pins σ H₂ s₂) {b:Addr} (hb:b∈frs X.stack):b < s₂.heap.objs.size:=by
 rcases List.mem_cons.mp (I.stkSub b hb) with e | hb
 ·rw [e]; exact I.lt
 ·by_cases q:b < s₂.heap.objs.size
  ·exact q
  ·exact absurd hb (I.nofs (Nat.not_lt.mp q))
theorem comp_start (S:CompScope X N' pick scope) (I:Inv X pins σ H₂ s₂) (hf:∀ b∈fp,FpOk X pins H₂ b) (hfo:∀ b∈fp,b < s₂.heap.objs.size) {n:Nat} {C:Addr} {s₄:Shared} (hn:s₂.heap.objs.size≤n) (hC:s₂.heap.objs.size≤C) (hCn:C < n)
  (hos:s₄.os=s₂.os) (hge:s₄.gens=s₂.gens) (kp:∀ b o,s₂.heap.get? b=some o→s₄.heap.get? b=some o) (ns:s₄.heap.Ns C fun _=>none)
  (ce:∀ x c,(cellsFrom n scope.names (qbc X.env scope.names [])).lookup x=some c→(qbc X.env scope.names []).lookup x=some c∨(n≤c∧s₄.heap.IsCell c none)) :
  Inv (qbZ X N' scope (cellsFrom n scope.names (qbc X.env scope.names [])) C s₂ H₂ fp (X.pn ++ pins)) [] (qgs pick σ) H₂ s₄:=by
 have fr:∀ {a:Addr},s₂.heap.objs.size≤a→H₂ a=none:=fun h=>I.hok.fresh h
 have old:∀ {x:Str} {c:Addr},X.env.cells.lookup x=some c→c < s₂.heap.objs.size:=fun {x c} e=>let ⟨v,z⟩:=I.cell x c e; z.lt
 have pold:∀ p∈X.pn ++ pins,p.1 < s₂.heap.objs.size:=fun p hp=>Heap.lt_size (I.pin p hp).1
 refine ⟨⟨I.ok.mod,S.kind,I.ok.glob,I.ok.blt,hC,?inj,?has,?cab,I.ok.hd,I.ok.frames,.inl rfl,?exf,I.bs,Nat.le_trans I.ok.bsz I.sz,?noex,?exfs,I.stack,I.stkFree⟩,
  hos,by rw [hge]; exact I.bare,Un.kept kp,⟨_,ns,?loc⟩,?cell,fr hC,?freeC,?pin,I.hok.kept kp,?len⟩
 case inj =>
  refine cf_inj _ _ _ (fun x y c h1 h2=>?_) fun x c h=>?_
  ·exact I.ok.inj x y c (cap_of S I h1).2 (cap_of S I h2).2
  ·exact Nat.lt_of_lt_of_le (old (cap_of S I h).2) hn
 case has =>
  intro x hx
  have hx:(relabel scope X.env).names.lookup x=some .cell∨(relabel scope X.env).names.lookup x=some .free:=hx
  have go:∀ k,scope.names.lookup x=some k→k=.cell∨k=.free→∃ c,(cellsFrom n scope.names (qbc X.env scope.names [])).lookup x=some c:=fun k hk hq=>by
   rcases hq with rfl | rfl
   ·exact Option.isSome_iff_exists.mp (PySem.W.cellsFrom_some _ _ _ (.inl hk))
   ·obtain ⟨c,hc⟩:=I.ok.has x (S.free _ (PySem.mem_of_lookup hk) rfl)
    exact ⟨c,qgk S I hk hc⟩
  rcases hx with hx | hx
  ·obtain ⟨k,hk,e | ⟨e,_⟩⟩:=qgw hx
   ·exact go k hk (.inl e.symm)
   ·exact go k hk (.inr e)
  ·obtain ⟨k,hk,e | ⟨_,e⟩⟩:=qgw hx
   ·exact go k hk (.inr e.symm)
   ·cases e
 case cab =>
  intro x c hx hc
  have hx:scope.names.lookup x=some .cell:=by simpa [qbZ] using hx
  rcases qeE S I hc with ⟨a,_⟩ | ⟨a,_⟩
  ·exact Nat.le_trans hn a
  ·rw [hx] at a; cases a
 case exf =>
  intro b hb
  refine ⟨Nat.ne_of_lt (Nat.lt_of_lt_of_le (hfo b hb) hC),fun x c hc=>?_⟩
  rcases qeE S I hc with ⟨a,_⟩ | ⟨_,a⟩
  ·exact Nat.ne_of_gt (Nat.lt_of_lt_of_le (hfo b hb) (Nat.le_trans hn a))
  ·exact (hf b hb).2.2.2.2.1 x c a
 case noex =>
  intro b o e hb
  rcases (hf b hb).2.2.2.1 with z | z
  ·exact I.ok.noex b o e z
  ·exact absurd (Nat.lt_of_lt_of_le (Heap.lt_size e) (Nat.le_trans I.ok.bsz z)) (Nat.lt_irrefl _)
 case exfs =>
  intro b hb hs
  rcases List.mem_cons.mp (I.stkSub b hs) with e | e
  ·exact (hf b hb).2.1 e
  ·exact (hf b hb).2.2.1 e
 case loc =>
  intro i x v h1 h2 h3
  have h1:N'[i]? = some x:=h1
  have hp:∃ j,pick[i]? = some (some j)∧σ[j]? = some (some v):=by
   unfold qgs at h2
   rw [List.getElem?_map] at h2
   cases e:pick[i]? with
   | none=>rw [e] at h2; cases h2
   | some o =>
    rw [e] at h2
    cases o with
    | none=>cases h2
    | some j =>
     refine ⟨j,rfl,?_⟩
     have h2':(σ[j]?).bind id=some v:=Option.some.inj h2
     cases e2:σ[j]? with
     | none=>rw [e2] at h2'; cases h2'
     | some q=>rw [e2] at h2'; exact congrArg some h2'
  obtain ⟨j,hj,hv⟩:=hp
  obtain ⟨hfr,hN⟩:=S.got i j x hj h1
  have hk:=S.free _ (PySem.mem_of_lookup hfr) rfl
  obtain ⟨m,hm,hl⟩:=I.loc
  obtain ⟨u,ru,lk⟩:=hl j x v hN hv (.inr hk)
  refine ⟨u,ru,?_⟩
  rcases lk with ⟨z,_⟩ | ⟨_,c,hc,hcell⟩
  ·rcases hk with q | q <;> (rw [show X.env.kindOf x=_ from z] at q; cases q)
  ·refine .inr ⟨?_,c,qgk S I hfr hc,hcell.keeps kp⟩
   show (relabel scope X.env).names.lookup x=some .cell∨(relabel scope X.env).names.lookup x=some .free
   obtain ⟨k',hk',e | ⟨_,e⟩⟩:=rl_to (env:=X.env) hfr
   ·exact .inr (by rw [← e]; exact hk')
   ·exact .inl (by rw [← e]; exact hk')
 case cell =>
  intro x c hc
  rcases ce x c hc with z | ⟨_,z⟩
  ·obtain ⟨v,q⟩:=I.cell x c (cap_of S I z).2
   exact ⟨v,q.keeps kp⟩
  ·exact ⟨none,z⟩
 case freeC =>
  intro x c hc
  rcases qeE S I hc with ⟨a,_⟩ | ⟨_,a⟩
  ·exact fr (Nat.le_trans hn a)
  ·exact I.freeC x c a
 case pin =>
  intro p hp
  have hp:p∈X.pn ++ pins:=by simpa [qbZ] using hp
  obtain ⟨e,n0,ne,nf,d⟩:=I.pin p hp
  refine ⟨kp _ _ e,n0,Nat.ne_of_lt (Nat.lt_of_lt_of_le (pold p hp) hC),fun z=>?_,d⟩
  rcases List.mem_cons.mp (I.stkSub _ z) with e | e
  ·exact ne e
  ·exact nf e
 case len =>
  unfold qgs
  rw [List.length_map]
  exact S.len
end
end L2
namespace L2
open PySem PySem.Spec PyProof.Rows
section
variable {X:Cx} {N':List Str} {pick:List (Option Nat)} {scope:Scope} {pins:List (Addr×Obj)} {σ:St} {H₂:Hp} {s₂:Shared} {tg:Expr} {J:It} {fp:List Addr} {it:Addr} {tn:Nat→Heap→Prop}
  {elt iter:Expr} {ifs:List Expr} {pos:Pos} {g:TG} {tt:TT} {te:TE}
theorem qgj {E:Value→Shared→Prop} {RR:Value→Addr→Result→Shared→Prop} {Qv:V→Hp→Prop} (S:CompScope X N' pick scope) (hc:X.calm=true) (I₂:Inv X pins σ H₂ s₂) (T:Turn X.prog X.w X.K tg J fp it tn) (st:tn 0 s₂.heap) (hf:∀ b∈fp,FpOk X pins H₂ b)
    (hg:∀ cl C s₀ H₀ ex pn,PG (qbZ X N' scope cl C s₀ H₀ ex pn) tg g) (hi:∀ cl C s₀ H₀ ex pn,PIfs (qbZ X N' scope cl C s₀ H₀ ex pn) ifs tt) (he:∀ cl C s₀ H₀ ex pn,PE (qbZ X N' scope cl C s₀ H₀ ex pn) elt te)
    {W:Nat→Nat→St→List V→Hp→Prop} {m0:Nat} (h0:W 0 m0 (qgs pick σ) [] H₂)
    (turn:∀ i m σ' ys H,W i m σ' ys H→ys.length < sizeLine ∧
      ((J.stop i H∧∀ p,H p=none→Qv (.ref p) (upd H p (.lst ys))) ∨
       (J.go i H∧∃ N:St→List V→Hp→Prop,(∀ σ2 zs H2,N σ2 zs H2→∃ m',m' < m∧W (i + 1) m' σ2 zs H2)∧∀ x H',J.yld i H x H'→g x σ' H' fun σ2 H2=>tt σ2 H2 fun b H3 =>
          if b=true then te σ2 H3 fun y H4=>N σ2 (ys ++ [y]) H4 else N σ2 ys H3)))
    (fin:∀ (D C:Addr) (H':Hp) (s':Shared) (m:Str→Option Value),Inv X pins σ H' s'→FpOk X pins H' C→s'.heap.Ns C m→Qv (.ref D) H'→RR (.ref D) C (.ok .next) s') :
    wpAny (model X.prog X.w) X.A (newList []) (fun acc s₃=>wpAny (model X.prog X.w) X.A (newFunctionEnv scope X.env.globals (qbc X.env scope.names []) [] X.env.qual none .none (some X.env)) (fun cenv s₄ =>
      codeAny (model X.prog X.w) X.A (.compStart (.ListComp elt [⟨tg,iter,ifs,0⟩] scope pos) 0 (.ref it) acc { cenv with scope:=relabel scope X.env }) (RR acc cenv.locals) s₄) E s₃) E s₂:=by
  have hfo:∀ b∈fp,b < s₂.heap.objs.size:=fun b hb=>let ⟨o,e,_⟩:=T.obj 0 _ st b hb; Heap.lt_size e
  refine wpAny_newObj_type (qfS fun h₄ kp ns ce=>?_)
  generalize hH3:s₂.heap.push { cls:=.type "list",dict:=none,data:=.seq ([]:List Value).toArray }=H3 at kp ns ce ⊢
  have hC:H3.objs.size=s₂.heap.objs.size + 1:=by rw [← hH3,Heap.size_push]
  have kp2:∀ b o,s₂.heap.get? b=some o→h₄.get? b=some o:=fun b o e=>kp b o (hH3 ▸ Heap.get?_push_of_some _ e)
  have hD:h₄.get? s₂.heap.objs.size=some { cls:=.type "list",data:=.seq ([]:List Value).toArray }:=kp _ _ (hH3 ▸ Heap.get?_push_size _ rfl)
  have hCle:s₂.heap.objs.size≤H3.objs.size:=by rw [hC]; exact Nat.le_succ _
  have hDC:s₂.heap.objs.size≠H3.objs.size:=by rw [hC]; exact Nat.ne_of_lt (Nat.lt_succ_self _)
  -- names for the block
  generalize hcl:cellsFrom (H3.objs.size + 1) scope.names (qbc X.env scope.names [])=cl at ce
  have I₄:Inv (qbZ X N' scope cl H3.objs.size s₂ H₂ fp (X.pn ++ pins)) [] (qgs pick σ) H₂ { s₂ with heap:=h₄ }:=by
    subst hcl
    exact comp_start S I₂ hf hfo (n:=H3.objs.size + 1) (Nat.le_trans hCle (Nat.le_succ _)) hCle (Nat.lt_succ_self _) rfl rfl kp2 ns fun x c e=>ce x c e
  have hcells:∀ x c,cl.lookup x=some c→c≠s₂.heap.objs.size:=fun x c e=>by
    subst hcl
    rcases qeE S I₂ e with ⟨a,_⟩ | ⟨_,a⟩
    · refine Nat.ne_of_gt (Nat.lt_of_lt_of_le ?_ a)
      rw [hC]
      exact Nat.lt_succ_of_lt (Nat.lt_succ_self _)
    · obtain ⟨v,z⟩:=I₂.cell x c a
      exact Nat.ne_of_lt z.lt
  have hcellsC:∀ x c,X.env.cells.lookup x=some c→c≠H3.objs.size:=fun x c e=>by
    obtain ⟨v,z⟩:=I₂.cell x c e
    exact Nat.ne_of_lt (Nat.lt_of_lt_of_le z.lt hCle)
  generalize hX':qbZ X N' scope cl H3.objs.size s₂ H₂ fp (X.pn ++ pins)=X' at I₄
  have xprog:X'.prog=X.prog:=by subst hX'; rfl
  have xw:X'.w=X.w:=by subst hX'; rfl
  have xK:X'.K=X.K:=by subst hX'; rfl
  have xA:X'.A=X.A:=by subst hX'; rfl
  have xcalm:X'.calm=true:=by subst hX'; exact hc
  have xloc:X'.env.locals=H3.objs.size:=by subst hX'; rfl
  have xcells:X'.env.cells=cl:=by subst hX'; rfl
  have xenv:X'.env=compEnvC scope cl H3.objs.size X.env:=by subst hX'; rfl
  have xfs:X'.fs=frs X.stack:=by subst hX'; rfl
  have xex:X'.ex=fp:=by subst hX'; rfl
  have xs0:X'.s₀=s₂:=by subst hX'; rfl
  have xpn:X'.pn=X.pn ++ pins:=by subst hX'; rfl
  have xxe:X'.xe=fun _ _=>False:=by subst hX'; rfl
  have xH0:X'.H₀=H₂:=by subst hX'; rfl
  have hg':PG X' tg g:=by subst hX'; exact hg _ _ _ _ _ _
  have hi':PIfs X' ifs tt:=by subst hX'; exact hi _ _ _ _ _ _
  have he':PE X' elt te:=by subst hX'; exact he _ _ _ _ _ _
  -- the records of the iterator,within the block
  have stat:∀ {H':Hp} {pl:List (Addr×Obj)},(∀ b∈fp,H' b=none)→(∀ p∈pl,s₂.heap.objs.size≤p.1)→∀ b∈fp,FpOk X' pl H' b:=fun {H' pl} hn hp b hb=>by
    have hlt:=hfo b hb
    obtain ⟨_,f1,f2,f3,f4,f5⟩:=hf b hb
    refine ⟨hn b hb,by rw [xloc]; exact Nat.ne_of_lt (Nat.lt_of_lt_of_le hlt hCle),?_,.inl (by rw [xex]; exact hb),fun x c e=>?_,fun p hp'=>?_⟩
    · rw [xfs]
      intro z
      rcases List.mem_cons.mp (I₂.stkSub b z) with e | e
      · exact f1 e
      · exact f2 e
    · have:=I₄.ok.exf b (by rw [xex]; exact hb)
      exact this.2 x c e
    · rcases List.mem_append.mp hp' with z | z
      · rw [xpn] at z; exact f5 p z
      · exact Nat.ne_of_gt (Nat.lt_of_lt_of_le hlt (hp p z))
  -- the list's pin
  have pinD:∀ {H':Hp} {s':Shared} {σ':St} {o:Obj},Inv X' [] σ' H' s'→s'.heap.get? s₂.heap.objs.size=some o→H' s₂.heap.objs.size=none→(∀ v,o.data≠.cell v)→Inv X' [(s₂.heap.objs.size,o)] σ' H' s':=fun {H' s' σ' o} I e hn hnc =>
    I.pins_of fun p hp=>by
      obtain rfl:p=(s₂.heap.objs.size,o):=by simpa using hp
      refine ⟨e,hn,by rw [xloc]; exact hDC,?_,hnc⟩
      rw [xfs]
      intro z
      exact absurd (frs_old I₂ z) (Nat.lt_irrefl _)
  have HD0:H₂ s₂.heap.objs.size=none:=I₂.hok.fresh (Nat.le_refl _)
  -- the invariant
  let Iv:Nat→Shared→Prop:=fun n s'=>∃ (i:Nat) (σ':St) (ys:List V) (H':Hp) (its:List Value) (k:Nat),Inv X' [(s₂.heap.objs.size,{ cls:=.type "list",data:=.seq its.toArray k })] σ' H' s'∧Vals ys its∧tn i s'.heap∧(∀ b∈fp,H' b=none)∧W i n σ' ys H'
  have loop:codeAny (model X.prog X.w) X.A (.compLoop (.ListComp elt [⟨tg,iter,ifs,0⟩] scope pos) 0 (.ref it) (.ref s₂.heap.objs.size) X'.env) (RR (.ref s₂.heap.objs.size) H3.objs.size) { s₂ with heap:=h₄ }:=by
    refine compLoop_gen Iv ?_ m0 ⟨0,_,[],H₂,[],_,pinD I₄ hD HD0 (fun v q=>nomatch q),.nil,T.keep _ _ _ st fun b _ o e=>kp2 b o e,fun b hb=>(hf b hb).1,h0⟩
    rintro n s5 ⟨i,σ5,ys,H5,its,k,I5,rv,st5,fr5,w5⟩
    obtain ⟨hlen,tr⟩:=turn i n σ5 ys H5 w5
    have p5:∀ {o:Obj},∀ p∈[(s₂.heap.objs.size,o)],s₂.heap.objs.size≤p.1:=fun {o} p hp=>by
      obtain rfl:p=(s₂.heap.objs.size,o):=by simpa using hp
      exact Nat.le_refl _
    rw [← xA]
    rcases tr with ⟨stop,qf⟩ | ⟨go,N,hN,step⟩
    · have dn:=T.done X' xprog xw xK xcalm i _ s5 σ5 H5 (fun _ _=>False) I5 (stat fr5 p5) st5 stop
      rw [xA] at dn ⊢
      refine wpAny_mono dn (fun r s6 h6=>?_) fun _ _ z=>z
      obtain ⟨rfl,I6⟩:=h6
      show RR (.ref s₂.heap.objs.size) H3.objs.size (.ok .next) s6
      obtain ⟨eD,nD,_⟩:=I6.pin _ (List.mem_append_right _ List.mem_cons_self)
      have un0:Un (frs X.stack) fp H₂ H5 s₂.heap s6.heap:=by
        have:=I6.base
        rw [xfs,xex,xs0,xH0] at this
        exact this
      have lt:∀ {b:Addr} {o:Obj},s₂.heap.get? b=some o→b≠s₂.heap.objs.size:=fun e=>Nat.ne_of_lt (Heap.lt_size e)
      have un1:Un (frs X.stack) fp H₂ (upd H5 s₂.heap.objs.size (.lst ys)) s₂.heap s6.heap :=
        ⟨un0.keep,un0.slot,fun b o e n hx=>by rw [qah (lt e)]; exact un0.free b o e n hx,un0.there,fun b xs e=>by rw [qah (qab e HD0)]; exact un0.tups b xs e,
          fun b o u e=>by rw [qah (qab e HD0)]; exact un0.frzs b o u e,fun b ps e=>by rw [qah (qab e HD0)]; exact un0.tbls b ps e⟩
      have hok1:HOk X.prog X.w (upd H5 s₂.heap.objs.size (.lst ys)) s6.heap:=fun b u e=>by
        by_cases hb:b=s₂.heap.objs.size
        · subst hb
          rw [qaM] at e; cases e
          exact ⟨Nat.le_of_lt hlen,its,k,rv,eD⟩
        · rw [qah hb] at e
          have:=I6.hok b u e
          rw [xprog,xw] at this
          exact this.stay (fun _ _ _ q=>q) (fun c q=>by rw [qah (qab q nD)]; exact q) fun c xs q=>by rw [qah (qab q nD)]; exact q
      have I7:Inv X pins σ (upd H5 s₂.heap.objs.size (.lst ys)) s6:=by
        refine I₂.call' (ch:=fp) ?_ un1 hok1 I6.bare fun b hb=>?_
        · have:=I6.os; rw [xs0] at this; exact this
        · obtain ⟨_,f1,f2,f3,f4,f5⟩:=hf b hb
          exact ⟨f3,f1,f4,f5⟩
      obtain ⟨m6,n6,_⟩:=I6.loc
      rw [xloc] at n6
      have hC6:H5 H3.objs.size=none:=by have:=I6.free; rw [xloc] at this; exact this
      refine fin _ _ _ s6 m6 I7 ⟨by rw [qah (Ne.symm hDC)]; exact hC6,?_,?_,.inr (Nat.le_trans I₂.sz hCle),hcellsC,fun p hp=>?_⟩ n6 (qf _ nD)
      · exact Nat.ne_of_gt (Nat.lt_of_lt_of_le I₂.lt hCle)
      · intro z
        exact absurd z (I₂.nofs hCle)
      · exact Nat.ne_of_lt (Nat.lt_of_lt_of_le (Heap.lt_size (I₂.pin p hp).1) hCle)
    · have itm:=T.item X' xprog xw xK xcalm i _ s5 σ5 H5 (fun _ _=>False) I5 (stat fr5 p5) st5 go
      refine wpAny_mono itm (fun r s6 h6=>?_) fun _ _ z=>z
      obtain ⟨u,rfl,h6⟩:=h6
      refine wpAny_mono h6 (fun _ s7 h7=>?_) fun _ _ z=>z
      obtain ⟨x,H7,I7,rx,y7,st7,fr7⟩:=h7
      have I7':=I7.pinned (stat fr7 p5) (T.obj _ _ st7)
      have mp:∀ {α:Type} {t:Sem α} {Q:α→Shared→Prop} {s:Shared},wpAny (model X'.prog X'.w) X'.A t Q X'.xe s→wpAny (model X.prog X.w) X'.A t Q (fun _ _=>False) s:=fun {α t Q s} h=>by
        rw [xprog,xw,xxe] at h; exact h
      refine wpAny_mono (mp (hg' _ s7 σ5 H7 x u _ I7' rx (step x H7 y7))) (fun _ s8 h8=>?_) fun _ _ z=>z
      obtain ⟨σ8,H8,I8,q8⟩:=h8
      refine wpAny_mono (mp (hi' _ s8 σ8 H8 _ I8 q8)) (fun ok s9 h9=>?_) fun _ _ z=>z
      obtain ⟨H9,I9,q9⟩:=h9
      have keepT:∀ {σ':St} {H':Hp} {s':Shared},Inv X' ([(s₂.heap.objs.size,{ cls:=.type "list",data:=.seq its.toArray k })] ++ pinsAt fp s7.heap) σ' H' s'→tn (i + 1) s'.heap∧∀ b∈fp,H' b=none:=fun {σ' H' s'} I=>by
        refine ⟨T.keep _ _ _ st7 fun b hb o e=>(I.pin (b,o) (List.mem_append_right _ (List.mem_append_right _ (qdQ hb e)))).1,fun b hb=>?_⟩
        obtain ⟨o,e,d⟩:=T.obj _ _ st7 b hb
        exact (I.pin (b,o) (List.mem_append_right _ (List.mem_append_right _ (qdQ hb e)))).2.1
      cases ok with
      | false =>
        rw [if_neg Bool.false_ne_true] at q9 ⊢
        obtain ⟨m',hm,w9⟩:=hN _ _ _ q9
        obtain ⟨t9,f9⟩:=keepT I9
        exact ⟨m',hm,i + 1,σ8,ys,H9,its,k,I9.unpinned,rv,t9,f9,w9⟩
      | true =>
        rw [if_pos rfl] at q9 ⊢
        refine wpAny_mono (mp (he' _ s9 σ8 H9 _ I9 q9)) (fun v s10 h10=>?_) fun _ _ z=>z
        obtain ⟨y,H10,I10,ry,n10⟩:=h10
        obtain ⟨m',hm,w10⟩:=hN _ _ _ n10
        obtain ⟨t10,f10⟩:=keepT I10
        have I10':=I10.unpinned
        obtain ⟨eD,nD,neD,nfD,dD⟩:=I10'.pin _ (List.mem_append_right _ List.mem_cons_self)
        have hl:=rv.length
        refine call_meets F.slot_list_append ⟨_,eD,rfl⟩ F.entry_list_append (F.args_list_append_2 _ _) (PySem.list_append s₂.heap.objs.size its.toArray k v (by rw [List.size_toArray]; omega)) ⟨eD,?_⟩
        have q:=PySem.IsL.update eD (·.push v)
        have I11:Inv X' [] σ8 H10 { s10 with heap:=s10.heap.update s₂.heap.objs.size (Obj.mapSeq (·.push v)) }:=by
          refine (I10'.pins_of (pins':=[]) fun p hp=>by cases hp).turned (t':=s10.toks) (it:=s₂.heap.objs.size) (fun b o hb e=>(Heap.get?_update_other s10.heap (Obj.mapSeq (·.push v)) (Ne.symm hb)).trans e) nD neD (.inr (by rw [xs0]; exact Nat.le_refl _)) (fun x c hc=>hcells x c (by rw [← xcells]; exact hc)) fun p hp=>?_
          have hp:p∈X.pn ++ pins:=by rw [List.append_nil,xpn] at hp; exact hp
          exact Nat.ne_of_lt (Heap.lt_size (I₂.pin p hp).1)
        rw [show its.toArray.push v=(its ++ [v]).toArray by simp] at q
        refine ⟨m',hm,i + 1,σ8,ys ++ [y],H10,its ++ [v],_,pinD I11 q nD (fun v q=>nomatch q),rv.append (.cons ry .nil),?_,f10,w10⟩
        refine T.keep _ _ _ t10 fun b hb o e=>(Heap.get?_update_other s10.heap (Obj.mapSeq (·.push v)) ?_).trans e
        exact Nat.ne_of_gt (hfo b hb)
  have e4:({ scope:=relabel scope X.env,locals:=H3.objs.size,globals:=X.env.globals,cells:=cl,qual:=X.env.qual,func:=none,code:=X.env.code,frame:=X.env.frame,builtins:=X.env.builtins }:Env)=X'.env:=by rw [xenv]; rfl
  have st4:tn 0 h₄:=T.keep _ _ _ st fun b _ o e=>kp2 b o e
  have goal:codeAny (model X.prog X.w) X.A (.compStart (.ListComp elt [⟨tg,iter,ifs,0⟩] scope pos) 0 (.ref it) (.ref s₂.heap.objs.size) X'.env) (RR (.ref s₂.heap.objs.size) H3.objs.size) { s₂ with heap:=h₄ } :=
    codeAny_compStart_list loop (T.self _ 0 _ _ _ st4 loop)
  rw [← e4] at goal
  exact goal
theorem Inv.gone {H':Hp} {s':Shared} {h':Heap} {C:Addr} (I:Inv X pins σ H' s') (f:FpOk X pins H' C) (hs:Heap.SameBut C s'.heap h'):Inv X pins σ H' { s' with heap:=h' }:=by
  obtain ⟨f0,f1,f2,f3,f4,f5⟩:=f
  exact I.turned (t':=s'.toks) (fun b o hb e=>(hs.2 b hb).trans e) f0 f1 f3 f4 f5
theorem pe_comp {wi:TI} (S:CompScope X N' pick scope) (hc:X.calm=true) (hit:PI X tg iter wi)
    (hg:∀ cl C s₀ H₀ ex pn,PG (qbZ X N' scope cl C s₀ H₀ ex pn) tg g) (hi:∀ cl C s₀ H₀ ex pn,PIfs (qbZ X N' scope cl C s₀ H₀ ex pn) ifs tt) (he:∀ cl C s₀ H₀ ex pn,PE (qbZ X N' scope cl C s₀ H₀ ex pn) elt te)
    (hs:∀ x,foldedSetIterable iter X.env x=pure x:=by intro _; rfl) :
    PE X (.ListComp elt [⟨tg,iter,ifs,0⟩] scope pos) (tComp wi pick g tt te):=by
  intro pins s σ H Q I h
  rw [eval_ListComp]
  refine wpAny_comprehension_free (use:=none) rfl hs (clos_of S I) S.kind S.names (thn (hit pins s σ H _ I h) fun v s1 h1=>thn h1 fun itv s2 h2=>?_)
  obtain ⟨it,fp,tn,J,H2,rfl,I2,T,st2,f2,W,⟨m0,w0⟩,turn⟩:=h2
  refine qgj (RR:=fun acc C=>compPost (model X.prog X.w) X.A X.xe none (EP X pins σ Q) acc C) (Qv:=Q) S hc I2 T st2 f2 hg hi he w0 turn ?_
  intro D C H' s' m I' f' n' q'
  exact ⟨m,n',fun h' hs'=>⟨.ref D,H',I'.gone f' hs',rfl,q'⟩⟩
def tSetComp (i:Nat) (t:TE):TS:=fun D σ H=>t σ H fun v H1=>D.nx (σ.set i (some v)) H1
theorem ps_setComp {wi:TI} {i:Nat} {y:Str} {py spos:Pos} (hsw:swapsWith (.ListComp elt [⟨tg,iter,ifs,0⟩] scope pos) (some (.Name y py)) spos.line X.env=pure true) (hN:X.N.Nodup) (hy:X.N[i]? = some y) (hl:X.env.scope.names.lookup y=some .local)
    (S:CompScope X N' pick scope) (hc:X.calm=true) (hit:PI X tg iter wi)
    (hg:∀ cl C s₀ H₀ ex pn,PG (qbZ X N' scope cl C s₀ H₀ ex pn) tg g) (hi:∀ cl C s₀ H₀ ex pn,PIfs (qbZ X N' scope cl C s₀ H₀ ex pn) ifs tt) (he:∀ cl C s₀ H₀ ex pn,PE (qbZ X N' scope cl C s₀ H₀ ex pn) elt te)
    (hs:∀ x,foldedSetIterable iter X.env x=pure x:=by intro _; rfl) :
    PS X (.Assign [.Name y py] (.ListComp elt [⟨tg,iter,ifs,0⟩] scope pos) spos) (tSetComp i (tComp wi pick g tt te)):=by
  intro pins s σ H D I h
  rw [exec_Assign_Name_used _ _ _ _ hsw]
  refine wpAny_bind (wpAny_standAt (wpAny_bind ?_))
  show wpAny _ X.A (do let _ ← comprehension (.ListComp elt [⟨tg,iter,ifs,0⟩] scope pos) scope X.env _ (newList []) false (eval iter X.env) (some (assign (.Name y py) X.env))) _ _ s
  refine wpAny_bind (wpAny_mono (wpAny_comprehension_free (use:=some (assign (.Name y py) X.env)) (Q:=fun _ s'=>SP X pins D .next s') rfl hs (clos_of S I) S.kind S.names
    (thn (hit pins s σ H _ I h) fun v s1 h1=>thn h1 fun itv s2 h2=>?_)) (fun _ s' hq=>wpAny_pure (wpAny_pure hq)) fun _ _ e=>e)
  obtain ⟨it,fp,tn,J,H2,rfl,I2,T,st2,f2,W,⟨m0,w0⟩,turn⟩:=h2
  refine qgj (RR:=fun acc C=>compPost (model X.prog X.w) X.A X.xe (some (assign (.Name y py) X.env)) (fun _ s'=>SP X pins D .next s') acc C) (Qv:=fun v H1=>D.nx (σ.set i (some v)) H1) S hc I2 T st2 f2 hg hi he w0 turn ?_
  intro Da C H' s' m I' f' n' q'
  show wpAny _ X.A (assign (.Name y py) X.env (.ref Da)) _ _ _
  refine wpAny_assign_Name (store_ok2 I' hN hy (.inl hl) (v:=.ref Da) rfl (fun s'' I'' ⟨a,sb,ha⟩=>?_) (.inr hl))
  have hCa:C≠a:=by
    rcases ha with e | e
    · rw [e]; exact f'.2.1
    · exact Ne.symm (f'.2.2.2.2.1 _ _ e)
  exact ⟨m,n'.sameBut sb hCa,fun h' hs'=>⟨_,H',I''.gone f' hs',q'⟩⟩
end
def compB (XN:List Str) (xn:List (Str×NameKind)) (N':List Str) (pick:List (Option Nat)) (names:List (Str×NameKind)):Bool :=
  decide N'.Nodup && names.all (fun x=>decide (names.lookup x.1=some x.2)) && decide ((names.map (·.1)).Nodup) && (pick.length == N'.length) &&
  (pick.zip N').all (fun q=>match q.1 with | none=>true | some j=>decide (names.lookup q.2=some NameKind.free) && decide (XN[j]? = some q.2)) &&
  names.all (fun x=>decide (x.2≠NameKind.free) || (decide (xn.lookup x.1=some NameKind.cell) || decide (xn.lookup x.1=some NameKind.free)))
theorem CompScope.of {X:Cx} {N':List Str} {pick:List (Option Nat)} {scope:Scope} (hk:scope.kind=.function) (h:compB X.N X.env.scope.names N' pick scope.names=true):CompScope X N' pick scope:=by
  unfold compB at h
  simp only [Bool.and_eq_true,List.all_eq_true,decide_eq_true_eq,beq_iff_eq,Bool.or_eq_true] at h
  obtain ⟨⟨⟨⟨⟨h1,h2⟩,h3⟩,h4⟩,h5⟩,h6⟩:=h
  refine ⟨hk,h1,fun x hx e=>by rw [← e]; exact h2 x hx,h3,h4,fun i j x hp hN=>?_,fun x hx e=>?_⟩
  · have hm:(some j,x)∈pick.zip N':=by
      have:(pick.zip N')[i]? = some (some j,x):=by rw [List.getElem?_zip_eq_some]; exact ⟨hp,hN⟩
      exact List.mem_of_getElem? this
    exact h5 _ hm |> fun z=>by simpa using z
  · rcases h6 x hx with z | z | z
    · exact absurd e z
    · exact .inl z
    · exact .inr z
end L2
namespace PySem
open Sem (wp)
section
variable {prog:Program} {w:World} {A:Around} {E:Value→Shared→Prop} {s:Shared}
theorem qeN {it l:Addr} {i:Nat} {items:Array Value} {x:Value} {Q:Value→Shared→Prop} (hit:s.heap.IsTupleIter it l i)
  (hl:s.heap.IsTuple l items) (hx:items[i]? = some x)
  (hQ:∀ h',h'.IsTupleIter it l (i + 1)→Heap.SameBut it s.heap h'→Q x { s with heap:=h' }) :
  wpAny (model prog w) A (Builtin.SmallTypes.nextOf (.ref it)) Q E s:=by
 obtain ⟨o,ho,hc,hd⟩:=id hit
 obtain ⟨ol,hol,_,nl,hdl⟩:=hl
 unfold Builtin.SmallTypes.nextOf
 refine wpAny_bind (wpAny_callSpecial?_slot (name:=Str.ofString "__next__") hit.typeIs F.slot_tuple_iterator_next
  (wpAny_call_entry F.slot_tuple_iterator_next hit.typeIs F.entry_tuple_iterator_next ?_ (F.args_tuple_iterator_next_1 _)))
 show wpAny _ _ (field (.ref it) 0 >>= _) _ _ s
 refine wpAny_bind (wpAny_field ho hd (x:=.ref l) rfl ?_)
 show wpAny _ _ (if (Value.ref l == Value.none)=true then _ else _) _ _ s
 rw [if_neg (show ¬ ((Value.ref l == Value.none)=true) from Bool.false_ne_true)]
 show wpAny _ _ (field (.ref it) 1 >>= _) _ _ s
 refine wpAny_bind (wpAny_field ho hd (x:=.int i 0) rfl ?_)
 show wpAny _ _ (seqItems? (.ref l) >>= _) _ _ s
 refine wpAny_bind (wpAny_seqItems hol hdl ?_)
 simp only [Int.toNat_natCast,hx]
 refine wpAny_bind (wpAny_setField ho hd (by simp) (wpAny_pure ⟨x,rfl,wpAny_pure (hQ _ ?_ (Heap.SameBut.update ..))⟩))
 exact ⟨_,Heap.get?_update_self _ ho (Obj.isFreed_of_fields (Obj.data_mapFields hd _)),(Obj.cls_mapFields ..).trans hc,by
  rw [Obj.data_mapFields hd]; simp [rawInt]⟩
theorem qfe {it l:Addr} {i:Nat} {items:Array Value} {Q:Value→Shared→Prop} (hh:A.handled=none)
  (hit:s.heap.IsTupleIter it l i) (hl:s.heap.IsTuple l items) (hx:items[i]? = none)
  (hE:∀ h' e,Heap.ExtBut it s.heap h'→(∃ o,h'.get? e=some o∧o.cls=.type "StopIteration")→E (.ref e) { s with heap:=h' }) :
  wpAny (model prog w) A (Builtin.SmallTypes.nextOf (.ref it)) Q E s:=by
 obtain ⟨o,ho,hc,hd⟩:=id hit
 obtain ⟨ol,hol,_,nl,hdl⟩:=hl
 unfold Builtin.SmallTypes.nextOf
 refine wpAny_bind (wpAny_callSpecial?_slot (name:=Str.ofString "__next__") hit.typeIs F.slot_tuple_iterator_next
  (wpAny_call_entry F.slot_tuple_iterator_next hit.typeIs F.entry_tuple_iterator_next ?_ (F.args_tuple_iterator_next_1 _)))
 show wpAny _ _ (field (.ref it) 0 >>= _) _ _ s
 refine wpAny_bind (wpAny_field ho hd (x:=.ref l) rfl ?_)
 show wpAny _ _ (if (Value.ref l == Value.none)=true then _ else _) _ _ s
 rw [if_neg (show ¬ ((Value.ref l == Value.none)=true) from Bool.false_ne_true)]
 show wpAny _ _ (field (.ref it) 1 >>= _) _ _ s
 refine wpAny_bind (wpAny_field ho hd (x:=.int i 0) rfl ?_)
 show wpAny _ _ (seqItems? (.ref l) >>= _) _ _ s
 refine wpAny_bind (wpAny_seqItems hol hdl ?_)
 simp only [Int.toNat_natCast,hx]
 refine wpAny_bind (wpAny_rule (wpAny_bind (wpAny_setField ho hd (by simp) ?_)))
 show wpAny _ _ (newExc (.type "StopIteration") [] >>= _) _ _ _
 refine wpAny_bind ?_
 simp only [newExc,newTuple]
 refine wpAny_bind (wpAny_newObj_type ?_ (by size_fits))
 refine wpAny_bind (m:=firstArgMember _ _) (wpAny_of_eq (a:=Value.none) (by first | rfl | (simp only [firstArgMember]; rfl)) ?_)
 refine wpAny_newObj_type ?_ (by size_fits)
 simp only [raiseNew]
 refine wpAny_bind (wpAny_handled ?_)
 first | rw [show A.in1.handled=none from hh] | rw [hh]
 refine wpAny_bind (wpAny_pure (wpAny_throw ?_))
 exact hE _ _ (((Heap.SameBut.update ..).extBut.push _).push _) ⟨_,Heap.get?_push_size _ rfl,rfl⟩
theorem Draws.tuple {prog:Program} {w:World} {A:Around} (hh:A.handled=none) (it l:Addr) (hne:l≠it) (items:Array Value) :
  Draws prog w A it [it,l] items.size (fun i v=>items[i]? = some v) (fun i h=>h.IsTupleIter it l i∧h.IsTuple l items) where
 live:=fun _ _ st=>let ⟨o,ho,_⟩:=st.1; ⟨o,ho⟩
 frame:=fun _ _ _ st hk=>⟨st.1.at fun o e=>hk it (by simp) o e,let ⟨o,e,r⟩:=st.2; ⟨o,hk l (by simp) o e,r⟩⟩
 item:=fun i s Q E hi st hQ=>by
  refine qeN st.1 st.2 (x:=items[i]) (by simp [hi]) fun h' hit' hs'=>?_
  exact hQ _ h' s.toks (by simp [hi]) ⟨hit',let ⟨o,e,r⟩:=st.2; ⟨o,hs'.extBut _ _ hne e,r⟩⟩ hs'
 done:=fun s Q E st hE=>qfe hh st.1 st.2 (by simp) hE
structure ZA (z TI TO i1 i2:Addr) (f1 f2:List Addr):Prop where
 TIz:TI≠z
 TOz:TO≠z
 TITO:TI≠TO
 TIi1:TI≠i1
 TIi2:TI≠i2
 m1:i1∈f1
 m2:i2∈f2
 z1:z∉f1
 z2:z∉f2
 o1:TO∉f1
 o2:TO∉f2
 x1:i1∉f2
 x2:i2∉f1
theorem zipD_item {z TI TO i1 i2:Addr} {f1 f2:List Addr} {n1 n2 k:Nat} {P1 P2:Nat→Value→Prop} {S1 S2:Nat→Heap→Prop} {a b:Value} {Q:Value→Shared→Prop} (D:ZA z TI TO i1 i2 f1 f2) (D1:Draws prog w A i1 f1 n1 P1 S1) (D2:Draws prog w A i2 f2 n2 P2 S2)
  (hz:IsZip s.heap z TI TO .none) (hTI:IsPair s.heap TI (.ref i1) (.ref i2)) (hTO:IsPair s.heap TO a b)
  (h1:S1 k s.heap) (h2:S2 k s.heap) (hx:k < n1) (hy:k < n2)
  (hQ:∀ x y h' tk,P1 k x→P2 k y→IsZip h' z TI TO (rawInt s.heap.objs.size)→IsPair h' TO x y→S1 (k + 1) h'→S2 (k + 1) h'→IsPair h' s.heap.objs.size x y →
   (∀ c o,c≠z→c≠TO→c≠i1→c≠i2→s.heap.get? c=some o→h'.get? c=some o)→Q (.ref s.heap.objs.size) { s with heap:=h',toks:=tk }) :
  wpAny (model prog w) A (Builtin.«zip.__next__» ⟨[.ref z],[]⟩) (fun fin s'=>∃ v,fin=.done (.ret v)∧Q v s') E s:=by
 have nz1:i1≠z:=fun e=>D.z1 (e ▸ D.m1)
 have nz2:i2≠z:=fun e=>D.z2 (e ▸ D.m2)
 have no1:TO≠i1:=fun e=>D.o1 (e ▸ D.m1)
 have no2:TO≠i2:=fun e=>D.o2 (e ▸ D.m2)
 have n12:i1≠i2:=fun e=>D.x1 (e ▸ D.m2)
 show wpAny _ _ (field (.ref z) 2 >>= _) _ _ _
 refine wpAny_bind (wpAny_field hz rfl (x:=.bool false) rfl ?_)
 show wpAny _ _ (field (.ref z) 3 >>= _) _ _ _
 refine wpAny_bind (wpAny_field hz rfl (x:=.ref TI) rfl ?_)
 refine wpAny_bind (wpAny_seqItems hTI rfl ?_)
 show wpAny _ _ (Builtin.SmallTypes.ownedTupleIsFree (.ref z) >>= _) _ _ _
 refine wpAny_bind ?_
 unfold Builtin.SmallTypes.ownedTupleIsFree
 refine wpAny_bind (wpAny_field hz rfl (x:=.none) rfl (wpAny_pure ?_))
 simp only [if_true]
 refine wpAny_bind (wpAny_rule ?_)
 refine wpAny_bind (wpAny_field hz rfl (x:=.ref TO) rfl ?_)
 refine wpAny_bind (wpAny_setField_rec hz (by simp) fun h₁ hz₁ hs₁=>?_)
 replace hz₁:IsZip h₁ z TI TO .ellipsis:=hz₁
 refine wpAny_bind ?_
 simp only [List.zipIdx_cons,List.zipIdx_nil,List.forIn_cons,List.forIn_nil]
 refine wpAny_bind (wpAny_bind (wpAny_onRaise ?_))
 show wpAny _ _ (Builtin.SmallTypes.nextOf (.ref i1) >>= _) _ _ _
 refine wpAny_bind (D1.item k _ _ _ hx (D1.frame _ _ _ h1 fun c hc o e=>hs₁.extBut _ _ (fun q=>D.z1 (q ▸ hc)) e) fun x h₂ tk₂ px h1₂ hs₂=>wpAny_pure ?_)
 have hTO₂:IsPair h₂ TO a b:=hs₂.extBut _ _ no1 (hs₁.extBut _ _ D.TOz hTO)
 refine wpAny_bind (wpAny_seqItems hTO₂ rfl ?_)
 refine wpAny_bind (wpAny_updateSeq_pair hTO₂ fun h₃ hTO₃ hs₃=>?_)
 replace hTO₃:IsPair h₃ TO x b:=hTO₃
 refine wpAny_bind (wpAny_letGo (wpAny_pure ?_))
 refine wpAny_bind (wpAny_bind (wpAny_onRaise ?_))
 show wpAny _ _ (Builtin.SmallTypes.nextOf (.ref i2) >>= _) _ _ _
 refine wpAny_bind (D2.item k _ _ _ hy (D2.frame _ _ _ h2 fun c hc o e=>hs₃.extBut _ _ (fun q=>D.o2 (q ▸ hc)) (hs₂.extBut _ _ (fun q=>D.x1 (q ▸ hc)) (hs₁.extBut _ _ (fun q=>D.z2 (q ▸ hc)) e))) fun y h₄ tk₄ py h2₄ hs₄=>wpAny_pure ?_)
 have hTO₄:IsPair h₄ TO x b:=hs₄.extBut _ _ no2 hTO₃
 refine wpAny_bind (wpAny_seqItems hTO₄ rfl ?_)
 refine wpAny_bind (wpAny_updateSeq_pair hTO₄ fun h₅ hTO₅ hs₅=>?_)
 replace hTO₅:IsPair h₅ TO x y:=hTO₅
 refine wpAny_bind (wpAny_letGo (wpAny_pure (wpAny_pure ?_)))
 refine wpAny_bind (wpAny_seqItems hTO₅ rfl ?_)
 refine wpAny_bind (wpAny_newTuple ?_)
 have hsz:h₅.objs.size=s.heap.objs.size:=by rw [hs₅.1,hs₄.1,hs₃.1,hs₂.1,hs₁.1]
 have hz₅:IsZip h₅ z TI TO .ellipsis:=hs₅.extBut _ _ D.TOz.symm (hs₄.extBut _ _ nz2.symm (hs₃.extBut _ _ D.TOz.symm (hs₂.extBut _ _ nz1.symm hz₁)))
 have hk₅:∀ c o,c≠z→c≠TO→c≠i1→c≠i2→s.heap.get? c=some o→h₅.get? c=some o:=fun c o c1 c2 c3 c4 e =>
  hs₅.extBut _ _ c2 (hs₄.extBut _ _ c4 (hs₃.extBut _ _ c2 (hs₂.extBut _ _ c3 (hs₁.extBut _ _ c1 e))))
 have h1₅:S1 (k + 1) h₅:=D1.frame _ _ _ h1₂ fun c hc o e=>hs₅.extBut _ _ (fun q=>D.o1 (q ▸ hc)) (hs₄.extBut _ _ (fun q=>D.x2 (q ▸ hc)) (hs₃.extBut _ _ (fun q=>D.o1 (q ▸ hc)) e))
 have h2₅:S2 (k + 1) h₅:=D2.frame _ _ _ h2₄ fun c hc o e=>hs₅.extBut _ _ (fun q=>D.o2 (q ▸ hc)) e
 have hzlt:z < h₅.objs.size:=Heap.lt_size hz₅
 show wpAny _ _ (Builtin.SmallTypes.ownedTupleHandOut (.ref z) (.ref h₅.objs.size) >>= _) _ _ _
 refine wpAny_bind ?_
 unfold Builtin.SmallTypes.ownedTupleHandOut
 have hz₆:IsZip (h₅.push { cls:=.type "tuple",data:=.seq #[x,y] }) z TI TO .ellipsis:=Heap.get?_push_of_some _ hz₅
 refine wpAny_bind (wpAny_setField_rec hz₆ (by simp) fun h₇ hz₇ hs₇=>?_)
 replace hz₇:IsZip h₇ z TI TO (rawInt h₅.objs.size):=hz₇
 refine wpAny_setField_rec hz₇ (by simp) fun h₈ hz₈ hs₈=>?_
 replace hz₈:IsZip h₈ z TI TO (rawInt h₅.objs.size):=hz₈
 have up:∀ c o,c≠z→h₅.get? c=some o→h₈.get? c=some o:=fun c o c1 e=>hs₈.extBut _ _ c1 (hs₇.extBut _ _ c1 (Heap.get?_push_of_some _ e))
 have hT₈:IsPair h₈ h₅.objs.size x y:=hs₈.extBut _ _ (Nat.ne_of_gt hzlt) (hs₇.extBut _ _ (Nat.ne_of_gt hzlt) (Heap.get?_push_size _ rfl))
 rw [hsz] at hz₈ hT₈
 refine wpAny_pure ⟨_,rfl,?_⟩
 show Q (.ref h₅.objs.size) _
 rw [hsz]
 exact hQ x y h₈ _ px py hz₈ (up _ _ D.TOz hTO₅) (D1.frame _ _ _ h1₅ fun c hc o e=>up c o (fun q=>D.z1 (q ▸ hc)) e) (D2.frame _ _ _ h2₅ fun c hc o e=>up c o (fun q=>D.z2 (q ▸ hc)) e) hT₈ fun c o c1 c2 c3 c4 e=>up c o c1 (hk₅ c o c1 c2 c3 c4 e)
theorem zipD_end {z TI TO i1 i2:Addr} {f1 f2:List Addr} {n1 n2 k:Nat} {P1 P2:Nat→Value→Prop} {S1 S2:Nat→Heap→Prop} {a b:Value} {Q:Fin→Shared→Prop} (D:ZA z TI TO i1 i2 f1 f2) (D1:Draws prog w A i1 f1 n1 P1 S1) (D2:Draws prog w A i2 f2 n2 P2 S2)
  (hz:IsZip s.heap z TI TO .none) (hTI:IsPair s.heap TI (.ref i1) (.ref i2)) (hTO:IsPair s.heap TO a b)
  (h1:S1 k s.heap) (h2:S2 k s.heap) (hend:k=n1∨(k < n1∧k=n2))
  (hE:∀ h' tk e,(∀ c o,c≠z→c≠TO→c≠i1→c≠i2→s.heap.get? c=some o→h'.get? c=some o)→(∃ o,h'.get? e=some o∧o.cls=.type "StopIteration")→E (.ref e) { s with heap:=h',toks:=tk }) :
  wpAny (model prog w) A (Builtin.«zip.__next__» ⟨[.ref z],[]⟩) Q E s:=by
 have nz1:i1≠z:=fun e=>D.z1 (e ▸ D.m1)
 have nz2:i2≠z:=fun e=>D.z2 (e ▸ D.m2)
 have no1:TO≠i1:=fun e=>D.o1 (e ▸ D.m1)
 have no2:TO≠i2:=fun e=>D.o2 (e ▸ D.m2)
 show wpAny _ _ (field (.ref z) 2 >>= _) _ _ _
 refine wpAny_bind (wpAny_field hz rfl (x:=.bool false) rfl ?_)
 show wpAny _ _ (field (.ref z) 3 >>= _) _ _ _
 refine wpAny_bind (wpAny_field hz rfl (x:=.ref TI) rfl ?_)
 refine wpAny_bind (wpAny_seqItems hTI rfl ?_)
 show wpAny _ _ (Builtin.SmallTypes.ownedTupleIsFree (.ref z) >>= _) _ _ _
 refine wpAny_bind ?_
 unfold Builtin.SmallTypes.ownedTupleIsFree
 refine wpAny_bind (wpAny_field hz rfl (x:=.none) rfl (wpAny_pure ?_))
 simp only [if_true]
 refine wpAny_bind (wpAny_rule ?_)
 refine wpAny_bind (wpAny_field hz rfl (x:=.ref TO) rfl ?_)
 refine wpAny_bind (wpAny_setField_rec hz (by simp) fun h₁ hz₁ hs₁=>?_)
 replace hz₁:IsZip h₁ z TI TO .ellipsis:=hz₁
 refine wpAny_bind ?_
 simp only [List.zipIdx_cons,List.zipIdx_nil,List.forIn_cons,List.forIn_nil]
 refine wpAny_bind (wpAny_bind (wpAny_onRaise ?_))
 show wpAny _ _ (Builtin.SmallTypes.nextOf (.ref i1) >>= _) _ _ _
 have h1₁:S1 k h₁:=D1.frame _ _ _ h1 fun c hc o e=>hs₁.extBut _ _ (fun q=>D.z1 (q ▸ hc)) e
 rcases hend with rfl | ⟨hlt,rfl⟩
 ·refine wpAny_bind (D1.done _ _ _ h1₁ fun h₂ e hs₂ he=>?_)
  obtain ⟨oe,hoe,hce⟩:=he
  have hz₂:IsZip h₂ z TI TO .ellipsis:=hs₂ _ _ nz1.symm hz₁
  have hez:e≠z:=fun x=>by subst x; rw [hz₂] at hoe; cases hoe; simp at hce
  refine wpAny_setField_rec hz₂ (by simp) fun h₃ _ hs₃=>hE h₃ _ e (fun c o c1 _ c3 _ x=>hs₃.extBut _ _ c1 (hs₂ _ _ c3 (hs₁.extBut _ _ c1 x))) ⟨oe,hs₃.extBut _ _ hez hoe,hce⟩
 ·refine wpAny_bind (D1.item k _ _ _ hlt h1₁ fun x h₂ tk₂ px h1₂ hs₂=>wpAny_pure ?_)
  have hTO₂:IsPair h₂ TO a b:=hs₂.extBut _ _ no1 (hs₁.extBut _ _ D.TOz hTO)
  refine wpAny_bind (wpAny_seqItems hTO₂ rfl ?_)
  refine wpAny_bind (wpAny_updateSeq_pair hTO₂ fun h₃ hTO₃ hs₃=>?_)
  refine wpAny_bind (wpAny_letGo (wpAny_pure ?_))
  refine wpAny_bind (wpAny_bind (wpAny_onRaise ?_))
  show wpAny _ _ (Builtin.SmallTypes.nextOf (.ref i2) >>= _) _ _ _
  refine wpAny_bind (D2.done _ _ _ (D2.frame _ _ _ h2 fun c hc o e=>hs₃.extBut _ _ (fun q=>D.o2 (q ▸ hc)) (hs₂.extBut _ _ (fun q=>D.x1 (q ▸ hc)) (hs₁.extBut _ _ (fun q=>D.z2 (q ▸ hc)) e))) fun h₄ e hs₄ he=>?_)
  obtain ⟨oe,hoe,hce⟩:=he
  have hz₄:IsZip h₄ z TI TO .ellipsis:=hs₄ _ _ nz2.symm (hs₃.extBut _ _ D.TOz.symm (hs₂.extBut _ _ nz1.symm hz₁))
  have hez:e≠z:=fun x=>by subst x; rw [hz₄] at hoe; cases hoe; simp at hce
  refine wpAny_setField_rec hz₄ (by simp) fun h₅ _ hs₅=>hE h₅ _ e (fun c o c1 c2 c3 c4 x=>hs₅.extBut _ _ c1 (hs₄ _ _ c4 (hs₃.extBut _ _ c2 (hs₂.extBut _ _ c3 (hs₁.extBut _ _ c1 x))))) ⟨oe,hs₅.extBut _ _ hez hoe,hce⟩
theorem qfd {z TI TO i1 i2:Addr} {f1 f2:List Addr} {n1 n2 k:Nat} {P1 P2:Nat→Value→Prop} {S1 S2:Nat→Heap→Prop} {a b:Value} {Q:Option Value→Shared→Prop} (D:ZA z TI TO i1 i2 f1 f2) (D1:Draws prog w A.in1 i1 f1 n1 P1 S1) (D2:Draws prog w A.in1 i2 f2 n2 P2 S2)
  (hz:IsZip s.heap z TI TO .none) (hTI:IsPair s.heap TI (.ref i1) (.ref i2)) (hTO:IsPair s.heap TO a b)
  (h1:S1 k s.heap) (h2:S2 k s.heap) (hx:k < n1) (hy:k < n2)
  (hQ:∀ x y h' tk,P1 k x→P2 k y→IsZip h' z TI TO (rawInt s.heap.objs.size)→IsPair h' TO x y→S1 (k + 1) h'→S2 (k + 1) h'→IsPair h' s.heap.objs.size x y →
   (∀ c o,c≠z→c≠TO→c≠i1→c≠i2→s.heap.get? c=some o→h'.get? c=some o)→Q (some (.ref s.heap.objs.size)) { s with heap:=h',toks:=tk }) :
  wpAny (model prog w) A (pyNext (.ref z)) Q E s:=by
 have hT:s.TypeIs (.ref z) "zip":=⟨_,hz,rfl⟩
 unfold pyNext
 exact wpAny_bind (wpAny_attempt (wpAny_callSpecial?_slot (name:=Str.ofString "__next__") hT F.slot_zip_next
  (wpAny_call_entry F.slot_zip_next hT F.entry_zip_next
   (zipD_item D D1 D2 hz hTI hTO h1 h2 hx hy fun x y h' tk a0 b0 a1 a2 a3 a4 a5 a7=>wpAny_pure (hQ x y h' tk a0 b0 a1 a2 a3 a4 a5 a7)) (F.args_zip_next_1 _))))
theorem qfz {z TI TO i1 i2:Addr} {f1 f2:List Addr} {n1 n2 k:Nat} {P1 P2:Nat→Value→Prop} {S1 S2:Nat→Heap→Prop} {a b:Value} {Q:Option Value→Shared→Prop} (D:ZA z TI TO i1 i2 f1 f2) (D1:Draws prog w A.in1 i1 f1 n1 P1 S1) (D2:Draws prog w A.in1 i2 f2 n2 P2 S2)
  (hz:IsZip s.heap z TI TO .none) (hTI:IsPair s.heap TI (.ref i1) (.ref i2)) (hTO:IsPair s.heap TO a b)
  (h1:S1 k s.heap) (h2:S2 k s.heap) (hend:k=n1∨(k < n1∧k=n2))
  (hQ:∀ h' tk,(∀ c o,c≠z→c≠TO→c≠i1→c≠i2→s.heap.get? c=some o→h'.get? c=some o)→Q none { s with heap:=h',toks:=tk }):wpAny (model prog w) A (pyNext (.ref z)) Q E s:=by
 have hT:s.TypeIs (.ref z) "zip":=⟨_,hz,rfl⟩
 unfold pyNext
 refine wpAny_bind (wpAny_attempt (wpAny_callSpecial?_slot (name:=Str.ofString "__next__") hT F.slot_zip_next
  (wpAny_call_entry F.slot_zip_next hT F.entry_zip_next (zipD_end D D1 D2 hz hTI hTO h1 h2 hend fun h' tk e hk he=>?_) (F.args_zip_next_1 _))))
 obtain ⟨o,ho,hc⟩:=he
 refine wpAny_bind (wpAny_isInstance (T:="StopIteration") (b:=true) ⟨o,ho,hc⟩ isSubtype_stop ?_)
 exact wpAny_pure (hQ _ _ hk)
abbrev zipT1 (h:Heap) (l1:Addr):Heap:=h.push { cls:=.type "tuple_iterator",data:=.fields #[.ref l1,.int 0 0] }
abbrev zipT2 (h:Heap) (l1 l2:Addr):Heap:=(zipT1 h l1).push { cls:=.type "tuple_iterator",data:=.fields #[.ref l2,.int 0 0] }
abbrev zipT3 (h:Heap) (l1 l2:Addr):Heap:=(zipT2 h l1 l2).push { cls:=.type "tuple",data:=.seq #[.ref h.objs.size,.ref (zipT1 h l1).objs.size] }
abbrev zipT4 (h:Heap) (l1 l2:Addr):Heap:=(zipT3 h l1 l2).push { cls:=.type "tuple",data:=.seq #[.none,.none] }
abbrev zipT5 (h:Heap) (l1 l2:Addr):Heap:=(zipT4 h l1 l2).push { cls:=.type "zip",data:=.fields #[.none,.bool false,.bool false,.ref (zipT2 h l1 l2).objs.size,.ref (zipT3 h l1 l2).objs.size] }
theorem IsTuple_push {h:Heap} {a:Addr} {xs:Array Value} (x:h.IsTuple a xs) (o:Obj):(h.push o).IsTuple a xs:=let ⟨q,e,r⟩:=x; ⟨q,Heap.get?_push_of_some _ e,r⟩
theorem qfW (l1 l2:Addr) (xs ys:Array Value) :
  Meets (Builtin.«zip.__new__» ⟨[.type "zip",.ref l1,.ref l2],[]⟩) (fun _ R s=>s.heap.IsTuple l1 xs∧s.heap.IsTuple l2 ys ∧
   R (.ok (.ret (.ref (zipT4 s.heap l1 l2).objs.size))) { s with heap:=zipT5 s.heap l1 l2 }) :=
 .of_wp fun prog w A R s h=>by
  obtain ⟨hp,g,d,tk,os⟩:=s; obtain ⟨hl1,hl2,h⟩:=h
  have hsub:=sub_zip
  have hL1:Heap.IsTuple (Shared.heap ⟨hp,g,d,tk,os⟩) l1 xs:=hl1
  have hL2:Heap.IsTuple (Shared.heap ⟨hp.push { cls:=.type "tuple_iterator",data:=.fields #[.ref l1,.int 0 0] },g,d,tk,os⟩) l2 ys:=IsTuple_push hl2 _
  wp_walk using wpAny_pyIter_tuple hL1,wpAny_pyIter_tuple hL2
  exact ⟨_,rfl,h⟩
theorem call_zip_2T {l1 l2:Addr} {xs ys:Array Value} {Q:Value→Shared→Prop} (hl1:s.heap.IsTuple l1 xs) (hl2:s.heap.IsTuple l2 ys)
  (h:∀ h',IsZip h' (s.heap.objs.size + 4) (s.heap.objs.size + 2) (s.heap.objs.size + 3) .none→IsPair h' (s.heap.objs.size + 2) (.ref s.heap.objs.size) (.ref (s.heap.objs.size + 1)) →
   IsPair h' (s.heap.objs.size + 3) .none .none→h'.IsTupleIter s.heap.objs.size l1 0→h'.IsTupleIter (s.heap.objs.size + 1) l2 0 →
   (∀ c o,s.heap.get? c=some o→h'.get? c=some o)→Q (.ref (s.heap.objs.size + 4)) { s with heap:=h' }) :
  wpAny (model prog w) A (call (.type "zip") [.ref l1,.ref l2]) Q E s:=by
 refine callType_new F.called_zip (by decide) (F.typeCall_zip_2 _ _) (F.newCall_zip_2 _ _) (fun obj=>F.args_object_init_3 obj _ _) F.entry_zip_new
  (qfW l1 l2 xs ys) ⟨hl1,hl2,?_⟩
 have z1:(zipT1 s.heap l1).objs.size=s.heap.objs.size + 1:=Heap.size_push ..
 have z2:(zipT2 s.heap l1 l2).objs.size=s.heap.objs.size + 2:=by rw [Heap.size_push,z1]
 have z3:(zipT3 s.heap l1 l2).objs.size=s.heap.objs.size + 3:=by rw [Heap.size_push,z2]
 have z4:(zipT4 s.heap l1 l2).objs.size=s.heap.objs.size + 4:=by rw [Heap.size_push,z3]
 have g5:(zipT5 s.heap l1 l2).get? (zipT4 s.heap l1 l2).objs.size=some _:=Heap.get?_push_size _ rfl
 have g4:(zipT5 s.heap l1 l2).get? (zipT3 s.heap l1 l2).objs.size=some _:=Heap.get?_push_of_some _ (Heap.get?_push_size _ rfl)
 have g3:(zipT5 s.heap l1 l2).get? (zipT2 s.heap l1 l2).objs.size=some _:=Heap.get?_push_of_some _ (Heap.get?_push_of_some _ (Heap.get?_push_size _ rfl))
 have g2:(zipT5 s.heap l1 l2).get? (zipT1 s.heap l1).objs.size=some _:=Heap.get?_push_of_some _ (Heap.get?_push_of_some _ (Heap.get?_push_of_some _ (Heap.get?_push_size _ rfl)))
 have g1:(zipT5 s.heap l1 l2).get? s.heap.objs.size=some _:=Heap.get?_push_of_some _ (Heap.get?_push_of_some _ (Heap.get?_push_of_some _ (Heap.get?_push_of_some _ (Heap.get?_push_size _ rfl))))
 show _∧_
 rw [z2,z3,z4] at g5
 rw [z1,z2] at g3
 rw [z3] at g4
 rw [z1] at g2
 rw [z4]
 exact ⟨⟨_,g5,rfl⟩,h _ g5 g3 g4 ⟨_,g1,rfl,rfl⟩ ⟨_,g2,rfl,rfl⟩ fun c o x =>
  Heap.get?_push_of_some _ (Heap.get?_push_of_some _ (Heap.get?_push_of_some _ (Heap.get?_push_of_some _ (Heap.get?_push_of_some _ x))))⟩
open AutoSeq1 (wpAny_loadPart')
theorem qdZ (l:Addr) (items:Array Value) (n:Nat) (dct:Option Addr) (sl:Array (Option Value)) :
  Meets (Builtin.«enumerate.__new__» ⟨[.type "enumerate",.ref l],[]⟩) (fun _ R s=>s.heap.get? l=some { cls:=.type "tuple",dict:=dct,data:=.seq items n,slots:=sl } ∧
   R (.ok (.ret (.ref (s.heap.push { cls:=.type "tuple_iterator",data:=.fields #[.ref l,.int 0 0] }).objs.size)))
    { s with heap:=(s.heap.push { cls:=.type "tuple_iterator",data:=.fields #[.ref l,.int 0 0] }).push { cls:=.type "enumerate",data:=.fields #[.none,.bool false,.ref s.heap.objs.size,rawInt 0,.none,.none] } }) :=
 .of_wp fun prog w A R s h=>by
  obtain ⟨hp,g,d,tk,os⟩:=s; obtain ⟨hl,h⟩:=h
  have hsub:=sub_enumerate
  have hL:Heap.IsTuple (Shared.heap ⟨hp,g,d,tk,os⟩) l items:=⟨_,hl,rfl,n,rfl⟩
  wp_walk using wpAny_loadPart' hl
  refine wpAny_stack_any fun st=>wpAny_pure ?_
  split
  ·rename_i c _ _ _ _ _
   cases (c == Value.type "enumerate")
   ·wp_walk using wpAny_loadPart' hl,wpAny_pyIter_tuple hL
    exact ⟨_,rfl,h⟩
   ·wp_walk using wpAny_loadPart' hl,wpAny_pyIter_tuple hL
    exact ⟨_,rfl,h⟩
  ·wp_walk using wpAny_loadPart' hl,wpAny_pyIter_tuple hL
   exact ⟨_,rfl,h⟩
theorem qe1 {l:Addr} {items:Array Value} {Q:Value→Shared→Prop} (hL:s.heap.IsTuple l items)
  (h:∀ h',IsEnum h' (s.heap.objs.size + 1) s.heap.objs.size 0 .none→h'.IsTupleIter s.heap.objs.size l 0→h'.objs.size=s.heap.objs.size + 2 →
   (∀ b o,s.heap.get? b=some o→h'.get? b=some o)→Q (.ref (s.heap.objs.size + 1)) { s with heap:=h' }) :
  wpAny (model prog w) A (call (.type "enumerate") [.ref l]) Q E s:=by
 obtain ⟨⟨c,dct,dt,sl⟩,hl,hc,n,hd⟩:=hL
 replace hc:c=.type "tuple":=hc
 replace hd:dt=.seq items n:=hd
 subst hc hd
 refine callType_new F.called_enumerate (by decide) (F.typeCall_enumerate_1 _) (F.newCall_enumerate_1 _) (fun obj=>F.args_object_init_2 obj _) F.entry_enumerate_new
  (qdZ l items n dct sl) ⟨hl,?_⟩
 have hz:(s.heap.push { cls:=.type "tuple_iterator",data:=.fields #[.ref l,.int 0 0] }).objs.size=s.heap.objs.size + 1:=Heap.size_push ..
 show _∧_
 rw [hz]
 have he:IsEnum ((s.heap.push { cls:=.type "tuple_iterator",data:=.fields #[.ref l,.int 0 0] }).push
   { cls:=.type "enumerate",data:=.fields #[.none,.bool false,.ref s.heap.objs.size,rawInt 0,.none,.none] }) (s.heap.objs.size + 1) s.heap.objs.size 0 .none:=by
  have:=Heap.get?_push_size (s.heap.push { cls:=.type "tuple_iterator",data:=.fields #[.ref l,.int 0 0] })
   (o:={ cls:=.type "enumerate",data:=.fields #[.none,.bool false,.ref s.heap.objs.size,rawInt 0,.none,.none] }) rfl
  rw [hz] at this; exact this
 refine ⟨⟨_,he,rfl⟩,h _ he ⟨_,Heap.get?_push_of_some _ (Heap.get?_push_size _ rfl),rfl,rfl⟩ (by rw [Heap.size_push,hz]) fun b o x=>Heap.get?_push_of_some _ (Heap.get?_push_of_some _ x)⟩
end
end PySem
namespace L2
open PySem PySem.Spec PyProof.Rows
section
variable {X:Cx} {pins:List (Addr×Obj)} {σ:St} {H:Hp} {s:Shared} {K:PySem.W.Frag}
theorem fp_neT {a b:Addr} {xs:List V} (I:Inv X pins σ H s) (f:FpOk X pins H b) (q:SqT X.K H a xs):a≠b:=by
  rintro rfl
  rcases q with (q | ⟨o,q⟩) | ⟨o,its,n,q,_⟩
  · rw [f.1] at q; cases q
  · rw [f.1] at q; cases q
  · have e:=I.ok.mod.kin a o q
    rcases f.2.2.2.1 with z | z
    · exact I.ok.noex _ _ e z
    · exact absurd (Nat.lt_of_lt_of_le (Heap.lt_size e) (Nat.le_trans I.ok.bsz z)) (Nat.lt_irrefl _)
theorem fp_neL {a b:Addr} {xs:List V} (I:Inv X pins σ H s) (f:FpOk X pins H b) (q:SqL X.K H a xs):a≠b:=by
  rintro rfl
  rcases q with (q | ⟨o,q⟩) | ⟨o,its,n,q,_⟩
  · rw [f.1] at q; cases q
  · rw [f.1] at q; cases q
  · have e:=I.ok.mod.kin a o q
    rcases f.2.2.2.1 with z | z
    · exact I.ok.noex _ _ e z
    · exact absurd (Nat.lt_of_lt_of_le (Heap.lt_size e) (Nat.le_trans I.ok.bsz z)) (Nat.lt_irrefl _)
theorem Inv.turnedNew {h':Heap} {t':Nat} {ch:List Addr} {T:Addr} {vs:List V} {us:List Value} (I:Inv X pins σ H s) (hf:∀ b∈ch,FpOk X pins H b) (k:∀ b o,b∉ch→s.heap.get? b=some o→h'.get? b=some o)
    (hT:s.heap.objs.size≤T) (th:∀ b∈ch,∃ o,h'.get? b=some o) (rv:Vals vs us) (hz:vs.length≤sizeLine) (tup:TupN h' T us.toArray):Inv X pins σ (upd H T (.tup vs)) { s with heap:=h',toks:=t' }:=by
  have hn:H T=none:=I.hok.fresh hT
  have nch:∀ b u,H b=some u→b∉ch:=fun b u e z=>by rw [(hf b z).1] at e; cases e
  refine I.step (g':=s.gens) (d':=s.drawn) (ch:=ch) (fun b hb=>?_) (fun b o _ _ hc e _=>k b o hc e) (fun b o _ _ hc e _=>⟨o.slots,k b o hc e⟩) (fun b o _ e n=>?_)
    (fun b o hc e=>⟨o,k b o hc e⟩) (fun b xs e=>by rw [qah (qab e hn)]; exact e) (fun b o u e=>by rw [qah (qab e hn)]; exact e) (fun b ps e=>⟨#[],by rw [qah (qab e hn),e]; simp⟩) (fun m hm=>?_) (fun b u e=>?_) I.bare
  · obtain ⟨f0,f1,f2,f3,f4,f5⟩:=hf b hb
    exact ⟨f3,f1,f4,f5⟩
  · rw [qah (Nat.ne_of_lt (Nat.lt_of_lt_of_le (Heap.lt_size e) hT))]; exact n
  · obtain ⟨o,es,ep,ho,r⟩:=hm
    exact ⟨o,es,ep,k _ o (fun z=>(hf _ z).2.1 rfl) ho,r⟩
  · by_cases hb:b=T
    · subst hb
      rw [qaM] at e; cases e
      exact ⟨hz,us,rv,tup⟩
    · rw [qah hb] at e
      refine (I.hok b u e).stay (fun c v hc q=>k c v ?_ q) (fun c q=>by rw [qah (qab q hn)]; exact q) fun c xs q=>by rw [qah (qab q hn)]; exact q
      rcases hc with z | z
      · rw [z]; exact nch b u e
      · exact nch c _ z
theorem Inv.turnedMany {h':Heap} {t':Nat} {ch:List Addr} (I:Inv X pins σ H s) (hf:∀ b∈ch,FpOk X pins H b) (k:∀ b o,b∉ch→s.heap.get? b=some o→h'.get? b=some o):Inv X pins σ H { s with heap:=h',toks:=t' }:=by
  have nch:∀ b u,H b=some u→b∉ch:=fun b u e z=>by rw [(hf b z).1] at e; cases e
  refine I.step (g':=s.gens) (d':=s.drawn) (ch:=ch) (fun b hb=>?_) (fun b o _ _ hc e _=>k b o hc e) (fun b o _ _ hc e _=>⟨o.slots,k b o hc e⟩) (fun b o _ e n=>n)
    (fun b o hc e=>⟨o,k b o hc e⟩) (fun b xs e=>e) (fun b o u e=>e) (fun b ps e=>⟨#[],by rw [e]; simp⟩) (fun m hm=>?_) (fun b u e=>?_) I.bare
  · obtain ⟨f0,f1,f2,f3,f4,f5⟩:=hf b hb
    exact ⟨f3,f1,f4,f5⟩
  · obtain ⟨o,es,ep,ho,r⟩:=hm
    exact ⟨o,es,ep,k _ o (fun z=>(hf _ z).2.1 rfl) ho,r⟩
  · refine (I.hok b u e).stay (fun c v hc q=>k c v ?_ q) (fun c q=>q) fun c xs q=>q
    rcases hc with z | z
    · rw [z]; exact nch b u e
    · exact nch c _ z
end
structure SeqK (P:Program) (w:World) (K:PySem.W.Frag) (Sq:Hp→Addr→List V→Prop) (IsIt:Heap→Addr→Addr→Nat→Prop) (IsSeq:Heap→Addr→Array Value→Prop):Prop where
  get:∀ {X:Cx} {pins:List (Addr×Obj)} {σ:St} {H:Hp} {s:Shared} {a:Addr} {xs:List V},X.K=K→Inv X pins σ H s→Sq H a xs→∃ its:List Value,Vals xs its∧IsSeq s.heap a its.toArray∧xs.length≤sizeLine
  inj:∀ {X:Cx} {pins:List (Addr×Obj)} {σ:St} {H:Hp} {s:Shared} {a:Addr} {xs ys:List V},X.K=K→Inv X pins σ H s→Sq H a xs→Sq H a ys→xs=ys
  ne:∀ {X:Cx} {pins:List (Addr×Obj)} {σ:St} {H:Hp} {s:Shared} {a b:Addr} {xs:List V},X.K=K→Inv X pins σ H s→FpOk X pins H b→Sq H a xs→a≠b
  drw:∀ (A:Around) (it l:Addr) (items:Array Value),A.handled=none→l≠it→Draws P w A it [it,l] items.size (fun i v=>items[i]? = some v) (fun i h=>IsIt h it l i∧IsSeq h l items)
  obj:∀ {h:Heap} {it l:Addr} {i:Nat},IsIt h it l i→∃ o,h.get? it=some o∧∀ v,o.data≠.cell v
  at':∀ {h h':Heap} {it l:Addr} {i:Nat},IsIt h it l i→(∀ o,h.get? it=some o→h'.get? it=some o)→IsIt h' it l i
theorem seqK_tup {P:Program} {w:World} {K:PySem.W.Frag}:SeqK P w K (SqT K) (fun h it l i=>h.IsTupleIter it l i) (fun h a xs=>h.IsTuple a xs) where
  get:=fun e I q=>by subst e; obtain ⟨its,r,p,z⟩:=I.tuple q; exact ⟨its,r,p,z⟩
  inj:=fun e I q q'=>by subst e; exact I.tuple_inj q q'
  ne:=fun e I f q=>by subst e; exact fp_neT I f q
  drw:=fun A it l items hh hne=>Draws.tuple hh it l hne items
  obj:=fun st=>by obtain ⟨o,e,c,d⟩:=st; exact ⟨o,e,fun v z=>by rw [d] at z; cases z⟩
  at':=fun st k=>st.at k
theorem seqK_lst {P:Program} {w:World} {K:PySem.W.Frag}:SeqK P w K (SqL K) (fun h it l i=>h.IsListIter it l i) (fun h a xs=>h.IsList a xs) where
  get:=fun e I q=>by subst e; obtain ⟨its,r,p,z⟩:=I.list q; exact ⟨its,r,p.isList,z⟩
  inj:=fun e I q q'=>by subst e; exact I.list_inj q q'
  ne:=fun e I f q=>by subst e; exact fp_neL I f q
  drw:=fun A it l items hh hne=>Draws.list hh it l hne items
  obj:=fun st=>by obtain ⟨o,e,c,d⟩:=st; exact ⟨o,e,fun v z=>by rw [d] at z; cases z⟩
  at':=fun st k=>st.at k
def Itz (Sq:Hp→Addr→List V→Prop) (a1 a2:Addr):It :=
  ⟨fun i H=>∃ xs ys x y,Sq H a1 xs∧Sq H a2 ys∧xs[i]? = some x∧ys[i]? = some y,
   fun i H v H'=>∃ t x y,v=.ref t∧H t=none∧H'=upd H t (.tup [x,y])∧∀ xs ys,Sq H a1 xs→Sq H a2 ys→xs[i]? = some x∧ys[i]? = some y,
   fun i H=>∃ xs ys,Sq H a1 xs∧Sq H a2 ys∧(i=xs.length∨(i < xs.length∧i=ys.length))⟩
def Ite (Sq:Hp→Addr→List V→Prop) (a:Addr):It :=
  ⟨fun i H=>∃ xs x,Sq H a xs∧xs[i]? = some x,
   fun i H v H'=>∃ t x,v=.ref t∧H t=none∧H'=upd H t (.tup [.int i,x])∧∀ xs,Sq H a xs→xs[i]? = some x,
   fun i H=>∃ xs,Sq H a xs∧i=xs.length⟩
theorem qfh {xs:List V} {us:List Value} {i:Nat} {u:Value} (r:Vals xs us) (h:us.toArray[i]? = some u):∃ x,xs[i]? = some x∧RelV x u:=by
  have h':us[i]? = some u:=by simpa using h
  have hi:i < xs.length:=by rw [r.length]; exact (List.getElem?_eq_some_iff.mp h').1
  obtain ⟨u',e,q⟩:=r.get (i:=i) (x:=xs[i]) (List.getElem?_eq_getElem hi)
  rw [h'] at e; cases e
  exact ⟨xs[i],List.getElem?_eq_getElem hi,q⟩
theorem turn_zip {P:Program} {w:World} {K:PySem.W.Frag} {Sq:Hp→Addr→List V→Prop} {IsIt:Heap→Addr→Addr→Nat→Prop} {IsSeq:Heap→Addr→Array Value→Prop} (S:SeqK P w K Sq IsIt IsSeq) {es:List Expr} {k:Nat} {pt:Pos} (a1 a2 z TI TO i1 i2:Addr)
    (n1:TI≠z) (n2:TO≠z) (n3:TI≠TO) (n4:TI≠i1) (n5:TI≠i2) (n6:TO≠i1) (n7:TO≠i2) (n8:i1≠z) (n9:i2≠z) (n10:i1≠i2) :
    Turn P w K (.Tuple es k pt) (Itz Sq a1 a2) [z,TI,TO,i1,i2] z (fun i h=>IsZip h z TI TO .none∧IsPair h TI (.ref i1) (.ref i2)∧(∃ a b,IsPair h TO a b)∧IsIt h i1 a1 i∧IsIt h i2 a2 i) where
  mem:=by simp
  obj:=fun i h st b hb=>by
    obtain ⟨hz,hTI,⟨a,b',hTO⟩,h1,h2⟩:=st
    simp only [List.mem_cons,List.not_mem_nil,or_false] at hb
    rcases hb with rfl | rfl | rfl | rfl | rfl
    · exact ⟨_,hz,fun v q=>nomatch q⟩
    · exact ⟨_,hTI,fun v q=>nomatch q⟩
    · exact ⟨_,hTO,fun v q=>nomatch q⟩
    · exact S.obj h1
    · exact S.obj h2
  keep:=fun i h h' st kp=>by
    obtain ⟨hz,hTI,⟨a,b,hTO⟩,h1,h2⟩:=st
    exact ⟨kp _ (by simp) _ hz,kp _ (by simp) _ hTI,⟨a,b,kp _ (by simp) _ hTO⟩,S.at' h1 fun o e=>kp _ (by simp) o e,S.at' h2 fun o e=>kp _ (by simp) o e⟩
  item:=by
    intro X hP hw hK hc i pins s σ H E I hf st hg
    subst hP hw
    obtain ⟨xs,ys,x,y,q1,q2,hx,hy⟩:=hg
    obtain ⟨hz,hTI,⟨a,b,hTO⟩,h1,h2⟩:=st
    obtain ⟨us,r1,p1,l1⟩:=S.get hK I q1
    obtain ⟨vs,r2,p2,l2⟩:=S.get hK I q2
    have ne1:∀ {b:Addr},b∈[z,TI,TO,i1,i2]→a1≠b:=fun hb=>S.ne hK I (hf _ hb) q1
    have ne2:∀ {b:Addr},b∈[z,TI,TO,i1,i2]→a2≠b:=fun hb=>S.ne hK I (hf _ hb) q2
    have hx':i < us.toArray.size:=by have:=(List.getElem?_eq_some_iff.mp hx).1; have:=r1.length; simp; omega
    have hy':i < vs.toArray.size:=by have:=(List.getElem?_eq_some_iff.mp hy).1; have:=r2.length; simp; omega
    have D:ZA z TI TO i1 i2 [i1,a1] [i2,a2]:=⟨n1,n2,n3,n4,n5,by simp,by simp,by simp only [List.mem_cons,List.not_mem_nil,or_false,not_or]; exact ⟨n8.symm,(ne1 (by simp)).symm⟩,by simp only [List.mem_cons,List.not_mem_nil,or_false,not_or]; exact ⟨n9.symm,(ne2 (by simp)).symm⟩,
      by simp only [List.mem_cons,List.not_mem_nil,or_false,not_or]; exact ⟨n6,(ne1 (by simp)).symm⟩,by simp only [List.mem_cons,List.not_mem_nil,or_false,not_or]; exact ⟨n7,(ne2 (by simp)).symm⟩,
      by simp only [List.mem_cons,List.not_mem_nil,or_false,not_or]; exact ⟨n10,(ne2 (by simp)).symm⟩,by simp only [List.mem_cons,List.not_mem_nil,or_false,not_or]; exact ⟨n10.symm,(ne1 (by simp)).symm⟩⟩
    refine qfd D (S.drw X.A.in1 i1 a1 us.toArray (I.ok.hd hc) (ne1 (by simp))) (S.drw X.A.in1 i2 a2 vs.toArray (I.ok.hd hc) (ne2 (by simp))) hz hTI hTO ⟨h1,p1⟩ ⟨h2,p2⟩ hx' hy' fun u v h' tk pu pv hz' hTO' s1 s2 hT kp=>?_
    refine ⟨_,rfl,?_⟩
    refine wpAny_letOwnedTupleGo_zip (s:={ s with heap:=h',toks:=tk }) hz' fun h'' hz'' hs''=>?_
    obtain ⟨x',ex,rx⟩:=qfh r1 pu
    obtain ⟨y',ey,ry⟩:=qfh r2 pv
    have lt:∀ {c:Addr} {o:Obj},s.heap.get? c=some o→c≠s.heap.objs.size:=fun e=>Nat.ne_of_lt (Heap.lt_size e)
    have kp2:∀ c o,c∉[z,TO,i1,i2]→s.heap.get? c=some o→h''.get? c=some o:=fun c o hcn e=>by
      simp only [List.mem_cons,List.not_mem_nil,or_false,not_or] at hcn
      exact hs''.extBut _ _ hcn.1 (kp c o hcn.1 hcn.2.1 hcn.2.2.1 hcn.2.2.2 e)
    have hT2:TupN h'' s.heap.objs.size [u,v].toArray:=⟨_,hs''.extBut _ _ (lt hz).symm hT,rfl,⟨_,rfl⟩,rfl⟩
    have I2:Inv X pins σ (upd H s.heap.objs.size (.tup [x',y'])) { s with heap:=h'',toks:=tk }:=by
      refine I.turnedNew (ch:=[z,TO,i1,i2]) (us:=[u,v]) (fun b hb=>hf b ?_) kp2 (Nat.le_refl _) (fun b hb=>?_) (.cons rx (.cons ry .nil)) (by show 2≤sizeLine; decide) hT2
      · simp only [List.mem_cons,List.not_mem_nil,or_false] at hb ⊢
        rcases hb with rfl | rfl | rfl | rfl <;> simp
      · simp only [List.mem_cons,List.not_mem_nil,or_false] at hb
        rcases hb with rfl | rfl | rfl | rfl
        · exact ⟨_,hz''⟩
        · exact ⟨_,hs''.extBut _ _ n2 hTO'⟩
        · obtain ⟨o,e,_⟩:=S.obj s1.1; exact ⟨_,hs''.extBut _ _ n8 e⟩
        · obtain ⟨o,e,_⟩:=S.obj s2.1; exact ⟨_,hs''.extBut _ _ n9 e⟩
    refine ⟨.ref s.heap.objs.size,_,I2,rfl,⟨_,x',y',rfl,I.hok.fresh (Nat.le_refl _),rfl,fun xs' ys' w1 w2=>?_⟩,⟨hz'',?_,⟨_,_,hs''.extBut _ _ n2 hTO'⟩,S.at' s1.1 fun o e=>hs''.extBut _ _ n8 e,S.at' s2.1 fun o e=>hs''.extBut _ _ n9 e⟩,fun b hb=>?_⟩
    · rw [S.inj hK I w1 q1,S.inj hK I w2 q2]; exact ⟨ex,ey⟩
    · exact hs''.extBut _ _ n1 (kp _ _ n1 n3 n4 n5 hTI)
    · have hb':b≠s.heap.objs.size:=by
        simp only [List.mem_cons,List.not_mem_nil,or_false] at hb
        rcases hb with rfl | rfl | rfl | rfl | rfl
        · exact lt hz
        · exact lt hTI
        · exact lt hTO
        · obtain ⟨o,e,_⟩:=S.obj h1; exact lt e
        · obtain ⟨o,e,_⟩:=S.obj h2; exact lt e
      rw [qah hb']; exact (hf b hb).1
  done:=by
    intro X hP hw hK hc i pins s σ H E I hf st hg
    subst hP hw
    obtain ⟨xs,ys,q1,q2,hend⟩:=hg
    obtain ⟨hz,hTI,⟨a,b,hTO⟩,h1,h2⟩:=st
    obtain ⟨us,r1,p1,l1⟩:=S.get hK I q1
    obtain ⟨vs,r2,p2,l2⟩:=S.get hK I q2
    have ne1:∀ {b:Addr},b∈[z,TI,TO,i1,i2]→a1≠b:=fun hb=>S.ne hK I (hf _ hb) q1
    have ne2:∀ {b:Addr},b∈[z,TI,TO,i1,i2]→a2≠b:=fun hb=>S.ne hK I (hf _ hb) q2
    have D:ZA z TI TO i1 i2 [i1,a1] [i2,a2]:=⟨n1,n2,n3,n4,n5,by simp,by simp,by simp only [List.mem_cons,List.not_mem_nil,or_false,not_or]; exact ⟨n8.symm,(ne1 (by simp)).symm⟩,by simp only [List.mem_cons,List.not_mem_nil,or_false,not_or]; exact ⟨n9.symm,(ne2 (by simp)).symm⟩,
      by simp only [List.mem_cons,List.not_mem_nil,or_false,not_or]; exact ⟨n6,(ne1 (by simp)).symm⟩,by simp only [List.mem_cons,List.not_mem_nil,or_false,not_or]; exact ⟨n7,(ne2 (by simp)).symm⟩,
      by simp only [List.mem_cons,List.not_mem_nil,or_false,not_or]; exact ⟨n10,(ne2 (by simp)).symm⟩,by simp only [List.mem_cons,List.not_mem_nil,or_false,not_or]; exact ⟨n10.symm,(ne1 (by simp)).symm⟩⟩
    have e1:=r1.length
    have e2:=r2.length
    refine qfz D (S.drw X.A.in1 i1 a1 us.toArray (I.ok.hd hc) (ne1 (by simp))) (S.drw X.A.in1 i2 a2 vs.toArray (I.ok.hd hc) (ne2 (by simp))) hz hTI hTO (k:=i) ⟨h1,p1⟩ ⟨h2,p2⟩ (by simp only [List.size_toArray]; omega) fun h' tk kp=>?_
    refine ⟨rfl,I.turnedMany (ch:=[z,TO,i1,i2]) (fun b hb=>hf b ?_) fun c o hcn e=>?_⟩
    · simp only [List.mem_cons,List.not_mem_nil,or_false] at hb ⊢
      rcases hb with rfl | rfl | rfl | rfl <;> simp
    · simp only [List.mem_cons,List.not_mem_nil,or_false,not_or] at hcn
      exact kp c o hcn.1 hcn.2.1 hcn.2.2.1 hcn.2.2.2 e
  self:=fun A i s Q E st h=>wpAny_pyIter_zip st.1 h
theorem turn_enum {P:Program} {w:World} {K:PySem.W.Frag} {Sq:Hp→Addr→List V→Prop} {IsIt:Heap→Addr→Addr→Nat→Prop} {IsSeq:Heap→Addr→Array Value→Prop} (S:SeqK P w K Sq IsIt IsSeq) {es:List Expr} {k:Nat} {pt:Pos} (a e it:Addr) (n1:e≠it) :
    Turn P w K (.Tuple es k pt) (Ite Sq a) [e,it] e (fun i h=>(∃ old,IsEnum h e it i old)∧IsIt h it a i) where
  mem:=by simp
  obj:=fun i h st b hb=>by
    obtain ⟨⟨old,hz⟩,h1⟩:=st
    simp only [List.mem_cons,List.not_mem_nil,or_false] at hb
    rcases hb with rfl | rfl
    · exact ⟨_,hz,fun v q=>nomatch q⟩
    · exact S.obj h1
  keep:=fun i h h' st kp=>by
    obtain ⟨⟨old,hz⟩,h1⟩:=st
    exact ⟨⟨old,kp _ (by simp) _ hz⟩,S.at' h1 fun o e=>kp _ (by simp) o e⟩
  item:=by
    intro X hP hw hK hc i pins s σ H E I hf st hg
    subst hP hw
    obtain ⟨xs,x,q1,hx⟩:=hg
    obtain ⟨⟨old,hz⟩,h1⟩:=st
    obtain ⟨us,r1,p1,l1⟩:=S.get hK I q1
    have ne1:∀ {b:Addr},b∈[e,it]→a≠b:=fun hb=>S.ne hK I (hf _ hb) q1
    have hx':i < us.toArray.size:=by have:=(List.getElem?_eq_some_iff.mp hx).1; have:=r1.length; simp; omega
    have W:=WalksT.enumerateD (A:=X.A) (S.drw X.A.in1 it a us.toArray (I.ok.hd hc) (ne1 (by simp))) e n1 (by simp only [List.mem_cons,List.not_mem_nil,or_false,not_or]; exact ⟨n1,(ne1 (by simp)).symm⟩) (by simp)
    refine wpAny_pyNext_enum_itemD (S.drw X.A.in1 it a us.toArray (I.ok.hd hc) (ne1 (by simp))) hz ⟨h1,p1⟩ hx' n1 (by simp only [List.mem_cons,List.not_mem_nil,or_false,not_or]; exact ⟨n1,(ne1 (by simp)).symm⟩) fun u0 h' tk0 pu0 ho0 hs0 hT0 hsz0 hk0=>?_
    have hilt:it < s.heap.objs.size:=by obtain ⟨o,e3,_⟩:=S.obj h1; exact Heap.lt_size e3
    have hT:s.heap.objs.size≤s.heap.objs.size:=Nat.le_refl _
    have mid:(∃ x,IsEnumOut h' e it ((i:Int) + 1) x s.heap.objs.size)∧_∧s.heap.objs.size≠e∧s.heap.objs.size≠it:=⟨⟨_,ho0⟩,hs0,Nat.ne_of_gt (Heap.lt_size hz),Nat.ne_of_gt hilt⟩
    have kp:∀ b o,b∉[e,it]→s.heap.get? b=some o→h'.get? b=some o:=fun b o hb y=>hk0 b o (fun e'=>hb (by simp [e'])) (fun e'=>hb (by simp [e'])) y
    refine ⟨_,rfl,?_⟩
    refine W.go es k pt i s.heap.objs.size { s with heap:=h',toks:=tk0 + 1 } _ _ mid fun h'' st'' kp''=>?_
    obtain ⟨x',ex,rx⟩:=qfh r1 pu0
    have lt:∀ {c:Addr} {o:Obj},s.heap.get? c=some o→c≠s.heap.objs.size:=fun q=>Nat.ne_of_lt (Heap.lt_size q)
    have hT2:TupN h'' s.heap.objs.size [.int i tk0,u0].toArray:=⟨_,kp'' _ _ (W.apart _ _ _ mid) hT0,rfl,⟨_,rfl⟩,rfl⟩
    have I2:Inv X pins σ (upd H s.heap.objs.size (.tup [.int i,x'])) { s with heap:=h'',toks:=tk0 + 1 }:=by
      refine I.turnedNew (ch:=[e,it]) (us:=[.int i tk0,u0]) hf (fun c o hcn e1=>kp'' _ _ hcn (kp c o hcn e1)) hT (fun b hb=>?_) (.cons ⟨tk0,rfl⟩ (.cons rx .nil)) (by show 2≤sizeLine; decide) hT2
      simp only [List.mem_cons,List.not_mem_nil,or_false] at hb
      rcases hb with rfl | rfl
      · obtain ⟨⟨o2,e2⟩,_⟩:=st''; exact ⟨_,e2⟩
      · obtain ⟨_,e2,_⟩:=st''
        obtain ⟨o,e3,_⟩:=S.obj e2
        exact ⟨o,e3⟩
    refine ⟨.ref s.heap.objs.size,_,I2,rfl,⟨_,x',rfl,I.hok.fresh hT,rfl,fun xs' w1=>?_⟩,⟨?_,st''.2.1⟩,fun b hb=>?_⟩
    · rw [S.inj hK I w1 q1]; exact ex
    · obtain ⟨⟨o2,e2⟩,_⟩:=st''
      exact ⟨o2,by simpa using e2⟩
    · have hb':b≠s.heap.objs.size:=by
        simp only [List.mem_cons,List.not_mem_nil,or_false] at hb
        rcases hb with rfl | rfl
        · exact lt hz
        · obtain ⟨o,e3,_⟩:=S.obj h1; exact lt e3
      rw [qah hb']; exact (hf b hb).1
  done:=by
    intro X hP hw hK hc i pins s σ H E I hf st hg
    subst hP hw
    obtain ⟨xs,q1,hend⟩:=hg
    obtain ⟨⟨old,hz⟩,h1⟩:=st
    obtain ⟨us,r1,p1,l1⟩:=S.get hK I q1
    have ne1:∀ {b:Addr},b∈[e,it]→a≠b:=fun hb=>S.ne hK I (hf _ hb) q1
    have W:=WalksT.enumerateD (A:=X.A) (S.drw X.A.in1 it a us.toArray (I.ok.hd hc) (ne1 (by simp))) e n1 (by simp only [List.mem_cons,List.not_mem_nil,or_false,not_or]; exact ⟨n1,(ne1 (by simp)).symm⟩) (by simp)
    have ei:i=us.toArray.size:=by rw [List.size_toArray,← r1.length]; exact hend
    subst ei
    refine W.done s _ _ ⟨⟨old,hz⟩,h1,p1⟩ fun h' tk kp=>⟨rfl,I.turnedMany (ch:=[e,it]) hf kp⟩
  self:=fun A i s Q E st h=>by
    obtain ⟨⟨old,hz⟩,h1⟩:=st
    exact wpAny_pyIter_enum hz h
section
variable {X:Cx} {es':List Expr} {kt:Nat} {pt:Pos}
def iZip (Sq:Hp→Addr→List V→Prop) (ta:TA):TI:=fun σ H R=>ta σ H fun vs H1=>∃ a b,vs=[.ref a,.ref b]∧(∃ xs ys,Sq H1 a xs∧Sq H1 b ys)∧R (Itz Sq a b) H1
def iEnum (Sq:Hp→Addr→List V→Prop) (ta:TA):TI:=fun σ H R=>ta σ H fun vs H1=>∃ a,vs=[.ref a]∧(∃ xs,Sq H1 a xs)∧R (Ite Sq a) H1
theorem zip_fp {pins:List (Addr×Obj)} {σ:St} {H:Hp} {s:Shared} {n:Nat} (I:Inv X pins σ H s) (hn:s.heap.objs.size=n):∀ b∈[n + 4,n + 2,n + 3,n,n + 1],FpOk X pins H b:=fun b hb=>by
  have:s.heap.objs.size≤b:=by
    simp only [List.mem_cons,List.not_mem_nil,or_false] at hb
    rcases hb with rfl | rfl | rfl | rfl | rfl <;> rw [hn]
    · exact Nat.le_add_right _ _
    · exact Nat.le_add_right _ _
    · exact Nat.le_add_right _ _
    · exact Nat.le_refl _
    · exact Nat.le_add_right _ _
  exact I.fpOk this (I.hok.fresh this)
theorem pi_zipT {a b:Expr} {ta:TA} {p pos:Pos} (hg:Gl X "zip") (hm:X.mg "zip"=none) (ha:PA X [a,b] ta) (hs:starEach [a,b] X.env=[(false,eval a X.env),(false,eval b X.env)]:=by rfl) (hs2:starEach [b] X.env=[(false,eval b X.env)]:=by rfl) :
    PI X (.Tuple es' kt pt) (.Call (.Name "zip" p) [a,b] [] pos) (iZip (SqT X.K) ta):=by
  intro pins s σ H R I h
  refine Call_ (qe6 I hg hm boot_zip (PyProof.Rows.callWith_type1 (thn (ha pos pins s σ H _ I h) fun us s1 ⟨vs,H1,I1,r1,q1⟩=>?_) (by rw [hs,hs2]) (by rw [hs2]; rfl)))
  obtain ⟨a1,a2,e,⟨xs,ys,q1,q2⟩,q⟩:=q1
  subst e
  cases r1 with
  | cons r rr =>
    cases rr with
    | cons r' rr =>
      cases rr
      cases r
      cases r'
      obtain ⟨us,ru,pu,lu⟩:=I1.tuple q1
      obtain ⟨vs,rv,pv,lv⟩:=I1.tuple q2
      refine call_zip_2T pu pv fun h' hz hTI hTO t1 t2 kp=>wpAny_pyIter_zip hz ?_
      generalize hn:s1.heap.objs.size=n at hz hTI hTO t1 t2
      have ne:∀ {i j:Nat},i≠j→n + i≠n + j:=fun h e=>h (Nat.add_left_cancel e)
      have ne0:∀ {i:Nat},i≠0→n + i≠n:=fun h e=>h (Nat.add_left_cancel (e.trans (Nat.add_zero n).symm))
      refine ⟨n + 4,_,_,_,H1,rfl,I1.kept (t':=s1.toks) kp,turn_zip seqK_tup a1 a2 (n + 4) (n + 2) (n + 3) n (n + 1) (ne (by decide)) (ne (by decide)) (ne (by decide)) (ne0 (by decide)) (ne (by decide)) (ne0 (by decide)) (ne (by decide)) (ne0 (by decide)).symm (ne (by decide)) (ne0 (by decide)).symm,⟨hz,hTI,⟨_,_,hTO⟩,t1,t2⟩,zip_fp I1 hn,q⟩
theorem pi_zipL {a b:Expr} {ta:TA} {p pos:Pos} (hg:Gl X "zip") (hm:X.mg "zip"=none) (ha:PA X [a,b] ta) (hs:starEach [a,b] X.env=[(false,eval a X.env),(false,eval b X.env)]:=by rfl) (hs2:starEach [b] X.env=[(false,eval b X.env)]:=by rfl) :
    PI X (.Tuple es' kt pt) (.Call (.Name "zip" p) [a,b] [] pos) (iZip (SqL X.K) ta):=by
  intro pins s σ H R I h
  refine Call_ (qe6 I hg hm boot_zip (PyProof.Rows.callWith_type1 (thn (ha pos pins s σ H _ I h) fun us s1 ⟨vs,H1,I1,r1,q1⟩=>?_) (by rw [hs,hs2]) (by rw [hs2]; rfl)))
  obtain ⟨a1,a2,e,⟨xs,ys,q1,q2⟩,q⟩:=q1
  subst e
  cases r1 with
  | cons r rr =>
    cases rr with
    | cons r' rr =>
      cases rr
      cases r
      cases r'
      obtain ⟨us,ru,pu,lu⟩:=I1.list q1
      obtain ⟨vs,rv,pv,lv⟩:=I1.list q2
      refine call_zip_2 pu.isList pv.isList fun h' hz hTI hTO t1 t2 _ kp=>wpAny_pyIter_zip hz ?_
      generalize hn:s1.heap.objs.size=n at hz hTI hTO t1 t2
      have ne:∀ {i j:Nat},i≠j→n + i≠n + j:=fun h e=>h (Nat.add_left_cancel e)
      have ne0:∀ {i:Nat},i≠0→n + i≠n:=fun h e=>h (Nat.add_left_cancel (e.trans (Nat.add_zero n).symm))
      refine ⟨n + 4,_,_,_,H1,rfl,I1.kept (t':=s1.toks) kp,turn_zip seqK_lst a1 a2 (n + 4) (n + 2) (n + 3) n (n + 1) (ne (by decide)) (ne (by decide)) (ne (by decide)) (ne0 (by decide)) (ne (by decide)) (ne0 (by decide)) (ne (by decide)) (ne0 (by decide)).symm (ne (by decide)) (ne0 (by decide)).symm,⟨hz,hTI,⟨_,_,hTO⟩,t1,t2⟩,zip_fp I1 hn,q⟩
theorem pi_enumT {a:Expr} {ta:TA} {p pos:Pos} (hg:Gl X "enumerate") (hm:X.mg "enumerate"=none) (ha:PA X [a] ta) (hs:starEach [a] X.env=[(false,eval a X.env)]:=by rfl) :
    PI X (.Tuple es' kt pt) (.Call (.Name "enumerate" p) [a] [] pos) (iEnum (SqT X.K) ta):=by
  intro pins s σ H R I h
  refine Call_ (qe6 I hg hm boot_enumerate (PyProof.Rows.callWith_type1 (thn (ha pos pins s σ H _ I h) fun us s1 ⟨vs,H1,I1,r1,q1⟩=>?_) hs rfl))
  obtain ⟨a1,e,⟨xs,q1⟩,q⟩:=q1
  subst e
  cases r1 with
  | cons r rr =>
    cases rr
    cases r
    obtain ⟨us,ru,pu,lu⟩:=I1.tuple q1
    refine qe1 pu fun h' hz t1 _ kp=>wpAny_pyIter_enum hz ?_
    generalize hn:s1.heap.objs.size=n at hz t1
    refine ⟨n + 1,_,_,_,H1,rfl,I1.kept (t':=s1.toks) kp,turn_enum seqK_tup a1 (n + 1) n (Nat.ne_of_gt (Nat.lt_succ_self _)),⟨⟨_,hz⟩,t1⟩,fun b hb=>?_,q⟩
    refine zip_fp I1 hn b ?_
    simp only [List.mem_cons,List.not_mem_nil,or_false] at hb
    rcases hb with rfl | rfl <;> simp
end
end L2
namespace L2
open PySem PySem.Spec PyProof.Rows
section
variable {X:Cx}
theorem truth_bools {A:Around} {bs:List Bool} {its:List Value} (r:Vals (bs.map V.bl) its):TruthOf X.prog X.w A (fun i v=>its.toArray[i]? = some v) (fun i=>bs.getD i false):=by
 intro i v s Q E hP hQ
 obtain ⟨x,ex,rx⟩:=qfh r hP
 rw [List.getElem?_map] at ex
 cases e:bs[i]? with
 | none=>rw [e] at ex; cases ex
 | some b =>
  rw [e] at ex
  cases ex
  cases rx
  refine wpAny_truthy_bool ?_
  have:bs.getD i false=b:=by rw [List.getD_eq_getElem?_getD,e]; rfl
  have hQ:Q (bs.getD i false) s:=hQ
  rw [this] at hQ
  exact hQ
theorem range_all (bs:List Bool):((List.range bs.length).all fun i=>bs.getD i false)=bs.all id:=by
 rw [Bool.eq_iff_iff,List.all_eq_true,List.all_eq_true]
 constructor
 ·intro h b hb
  obtain ⟨i,hi,e⟩:=List.mem_iff_getElem.mp hb
  have:=h i (List.mem_range.mpr hi)
  rw [List.getD_eq_getElem?_getD,List.getElem?_eq_getElem hi] at this
  rw [← e]; exact this
 ·intro h i hi
  have hi:=List.mem_range.mp hi
  rw [List.getD_eq_getElem?_getD,List.getElem?_eq_getElem hi]
  exact h _ (List.getElem_mem hi)
theorem after_walk {pins:List (Addr×Obj)} {σ:St} {H:Hp} {s:Shared} {h':Heap} {tk:Nat} {o:Obj} (I:Inv X pins σ H s) (kp:∀ b q,b∉[s.heap.objs.size]→(s.heap.push o).get? b=some q→h'.get? b=some q):Inv X pins σ H { s with heap:=h',toks:=tk } :=
 I.kept fun b q e=>kp b q (by simp only [List.mem_cons,List.not_mem_nil,or_false]; exact Nat.ne_of_lt (Heap.lt_size e)) (Heap.get?_push_of_some _ e)
theorem call_allB (hc:X.calm=true):qdK X (.builtin "all") (fun xs H Q=>∃ (p:Addr) (bs:List Bool),xs=[.ref p]∧SqL X.K H p (bs.map V.bl)∧Q (.bl (bs.all id)) H):=by
 intro pins s σ H xs us Q I r h
 obtain ⟨p,bs,rfl,hp,q⟩:=h
 obtain ⟨u,rfl,ru⟩:=vals1 r
 cases ru
 obtain ⟨its,rv,pl,hz⟩:=I.list hp
 have hL:=pl.isList
 have hpn:p≠s.heap.objs.size:=by obtain ⟨o,e,_⟩:=hL; exact Nat.ne_of_lt (Heap.lt_size e)
 refine call_all_walk (wpAny_pyIter_list hL ⟨s.heap.objs.size,_,_,its.toArray.size,_,_,fun i=>bs.getD i false,rfl,Walks.list (A:=X.A.in1) (I.ok.hd hc) s.heap.objs.size p hpn its.toArray,⟨⟨_,Heap.get?_push_size _ rfl,rfl,rfl⟩,hL.push _⟩,truth_bools rv,fun h' tk kp=>?_⟩)
 have hl:=rv.length
 rw [List.length_map] at hl
 have I1:Inv X pins σ H { s with heap:=h',toks:=tk }:=after_walk I kp
 refine ⟨.bl (bs.all id),H,I1,?_,q⟩
 show Value.bool _=Value.bool _
 rw [List.size_toArray,← hl,range_all]
def tyName (H:Hp):V→String→Prop
 | .non,n=>n="NoneType"
 | .bl _,n=>n="bool"
 | .int _,n=>n="int"
 | .str _,n=>n="str"
 | .ref a,n=>(n="list"∧((∃ xs,H a=some (.lst xs))∨∃ o xs,H a=some (.frz o (.lst xs))))∨(n="tuple"∧∃ xs,H a=some (.tup xs))∨(n="dict"∧((∃ k,H a=some (.dK k))∨∃ k,H a=some (.dT k)))
 | _,_=>False
theorem tyOf_name {K:PySem.W.Frag} {H:Hp} {x:V} {n:String} (h:tyName H x n):TyOf K H x (.type n):=by
 cases x with
 | non=>cases (show n="NoneType" from h); exact .non
 | bl b=>cases (show n="bool" from h); exact .bl b
 | int b=>cases (show n="int" from h); exact .int b
 | str b=>cases (show n="str" from h); exact .str b
 | ref a =>
  rcases h with ⟨rfl,⟨xs,e⟩ | ⟨o,xs,e⟩⟩ | ⟨rfl,xs,e⟩ | ⟨rfl,⟨k,e⟩ | ⟨k,e⟩⟩
  ·exact .lst e
  ·exact .frz e
  ·exact .tup e
  ·exact .dK e
  ·exact .dT e
 | _=>exact False.elim h
def subT (n T:String):Bool:=n == T || (n == "bool" && T == "int")
def kitG (n T:String):Option Bool:=if (Value.type n == Value.type T)=true then some true else if PySem.W.kitMeta T=true then (fastBuiltinMro n).map (·.contains (Value.type T)) else none
theorem kit_sub {K:PySem.W.Frag} {n T:String} (hn:n∈["NoneType","bool","int","str","list","tuple","dict"]) (hT:T∈["bool","int","str","list","tuple","dict"]):PySem.W.kitOne K (.type n) (.type T)=some (subT n T):=by
 show kitG n T=some (subT n T)
 simp only [List.mem_cons,List.not_mem_nil,or_false] at hn hT
 rcases hn with rfl | rfl | rfl | rfl | rfl | rfl | rfl <;> rcases hT with rfl | rfl | rfl | rfl | rfl | rfl <;> decide +kernel
theorem tyName_mem {H:Hp} {x:V} {n:String} (h:tyName H x n):n∈["NoneType","bool","int","str","list","tuple","dict"]:=by
 cases x with
 | non=>cases (show n="NoneType" from h); simp
 | bl b=>cases (show n="bool" from h); simp
 | int b=>cases (show n="int" from h); simp
 | str b=>cases (show n="str" from h); simp
 | ref a=>rcases h with ⟨rfl,_⟩ | ⟨rfl,_⟩ | ⟨rfl,_⟩ <;> simp
 | _=>exact False.elim h
theorem call_isinst:qdK X (.builtin "isinstance") (fun xs H Q=>∃ x n T,xs=[x,.ty T]∧tyName H x n∧T∈["bool","int","str","list","tuple","dict"]∧Q (.bl (subT n T)) H):=by
 intro pins s σ H xs us Q I r h
 obtain ⟨x,n,T,rfl,hx,hT,q⟩:=h
 obtain ⟨u,v,rfl,ru,rv⟩:=Vals.two r
 cases (show v=Value.type T from rv)
 exact isinst_ok I ru (tyOf_name hx) (kit_sub (tyName_mem hx) hT) fun tk=>⟨.bl _,H,I.tok tk,rfl,q⟩
end
end L2
namespace L2
open PySem PySem.Spec PyProof.Rows
def excP (ea C:Addr):Heap→Prop:=fun h=>∃ o,h.get? ea=some o∧o.cls=.ref C
def dicP (a:Addr):Heap→Prop:=PySem.W.KitAt a "dict"
structure Def (K:PySem.W.Frag) (mg:Str→Option Value) (x:Str) (st:Stmt) (ps:List Str) (f:Addr) (fd:FuncData):Prop where
 fn:Fun K x x st f fd
 at':mg x=some (.ref f)
 bd:Binds K fd ps []
section
variable {X:Cx}
theorem pe_fn {x:Str} {st:Stmt} {ps:List Str} {f:Addr} {fd:FuncData} {k:Nat} {sp:Sp} {e:Expr} {es:List Expr} {t:TA} {p pos:Pos} (D:Def X.K X.mg x st ps f fd) (G:FnOk X.prog X.w X.K X.mg X.base CX0 k f fd ps sp) (hr:Room k X.A) (ha:PA X (e :: es) t) (hg:Gl X x:=by rfl)
  (hdb:(x == ("__debug__":Str))=false:=by decide) (he:starEach (e :: es) X.env=(false,eval e X.env) :: starEach es X.env:=by rfl) (hpl:(backTo pos (starEach es X.env)).any (·.1)=false:=by rfl) :
  PE X (.Call (.Name x p) (e :: es) [] pos) (tCall sp [] E0 t):=pe_call G hr hg D.at' D.fn.kp D.bd .nil pass0 ha hdb he hpl
theorem pe_ty {x:Str} {n:String} {pos:Pos} (hg:Gl X x) (hm:X.mg x=none) (hv:bootBuiltins x=some (.type n)) (hn:x≠"__name__":=by decide) (hd:(x == ("__debug__":Str))=false:=by decide):PE X (.Name x pos) (tC (.ty n)):=pe_bltn hg hm hv rfl hn hd
end
end L2
namespace L2
open PySem PySem.Spec PyProof.Rows
def qfJ:Expr→Bool
 | .Starred _ _=>true
 | _=>false
theorem qd6 {a:Expr} {es:List Expr} {env:Env} (h:qfJ a=false):starEach (a :: es) env=(false,eval a env) :: starEach es env:=by
 cases a <;> first | (cases h; done) | (simp only [starEach]; done)
def noStar (es:List Expr):Bool:=es.all fun a=>!qfJ a
theorem qc6 {es:List Expr} {env:Env} {pos:Pos} (h:noStar es=true):(backTo pos (starEach es env)).any (·.1)=false:=by
 induction es with
 | nil=>simp only [starEach]; rfl
 | cons a es ih =>
  have h:(!qfJ a && noStar es)=true:=h
  rw [Bool.and_eq_true] at h
  rw [qd6 (by simpa using h.1)]
  have:=ih h.2
  simpa [backTo] using this
theorem star1 {a:Expr} {env:Env} (h:qfJ a=false):starEach [a] env=[(false,eval a env)]:=by
 rw [qd6 h]; simp only [starEach]
theorem star2 {a b:Expr} {env:Env} (h:qfJ a=false) (g:qfJ b=false):starEach [a,b] env=[(false,eval a env),(false,eval b env)]:=by
 rw [qd6 h,star1 g]
theorem starFew {a:Expr} {env:Env} {pos:Pos} (h:qfJ a=false):((backTo pos (starEach [a] env)).all (fun x=>!x.1) && (backToKw pos (keywordEach [] env)).all (fun x=>x.1.isSome)
   && decide ([a].length + ([]:List Keyword).length + (if ([]:List Keyword).isEmpty then 0 else 1) < 30))=true:=by
 rw [star1 h]; simp [backTo,backToKw,keywordEach]
inductive D where
 | non | bl (b:Bool) | int (i:Int) | str (x:Str) | ty (n:String) | tup (l:List D) | lst (l:List D) | ref (k:Nat) | scr (l:List Int) | fn (x:Str) (n:Nat) | exc (x:Str) | dic | dct (ks:List (Int×Int)) | lam (k:Nat) (e:Expr) (ns:List Str) (l:List D)
inductive Cell where
 | lst (l:List D)
mutual
def qaS:D→Bool
 | .tup l=>qak l
 | .lst l=>qak l
 | .ref _=>false
 | .non=>true
 | .bl _=>true
 | .int _=>true
 | .str _=>true
 | .ty _=>true
 | .scr _=>true
 | .fn _ _=>true
 | .exc _=>true
 | .dic=>true
 | .dct _=>true
 | .lam _ _ _ _=>false
def qak:List D→Bool
 | []=>true
 | d :: l=>qaS d && qak l
end
mutual
def qcG:D→Bool
 | .tup l=>qbt l
 | .lst l=>qbt l
 | .lam _ _ _ _=>false
 | .ref _=>true
 | .non=>true
 | .bl _=>true
 | .int _=>true
 | .str _=>true
 | .ty _=>true
 | .scr _=>true
 | .fn _ _=>true
 | .exc _=>true
 | .dic=>true
 | .dct _=>true
def qbt:List D→Bool
 | []=>true
 | d :: l=>qcG d && qbt l
end
mutual
theorem qfo:∀ d:D,qaS d=true→qcG d=true
 | .tup l,h=>by unfold qaS at h; unfold qcG; exact qev l h
 | .lst l,h=>by unfold qaS at h; unfold qcG; exact qev l h
 | .lam _ _ _ _,h=>by unfold qaS at h; cases h
 | .ref _,h=>by unfold qaS at h; cases h
 | .non,_=>by unfold qcG; rfl
 | .bl _,_=>by unfold qcG; rfl
 | .int _,_=>by unfold qcG; rfl
 | .str _,_=>by unfold qcG; rfl
 | .ty _,_=>by unfold qcG; rfl
 | .scr _,_=>by unfold qcG; rfl
 | .fn _ _,_=>by unfold qcG; rfl
 | .exc _,_=>by unfold qcG; rfl
 | .dic,_=>by unfold qcG; rfl
 | .dct _,_=>by unfold qcG; rfl
theorem qev:∀ l:List D,qak l=true→qbt l=true
 | [],_=>by unfold qbt; rfl
 | d :: l,h=>by
  unfold qak at h
  rw [Bool.and_eq_true] at h
  unfold qbt
  rw [qfo d h.1,qev l h.2]
  rfl
end
theorem qcF:∀ {l m:List D},qak (l ++ m)=(qak l && qak m)
 | [],m=>by simp [qak]
 | d :: l,m=>by simp [qak,qcF (l:=l),Bool.and_assoc]
theorem qg7:∀ {l:List D} {i:Nat} {d:D},qak l=true→qaS d=true→qak (l.set i d)=true
 | [],i,d,h,g=>h
 | b :: l,0,d,h,g=>by simp_all [qak]
 | b :: l,i + 1,d,h,g=>by
  simp only [qak,Bool.and_eq_true] at h
  simp only [List.set_cons_succ,qak,Bool.and_eq_true]
  exact ⟨h.1,qg7 h.2 g⟩
theorem noRefs_iff:∀ {l:List D},qak l=true↔∀ d∈l,qaS d=true
 | []=>by simp [qak]
 | d :: l=>by simp [qak,noRefs_iff (l:=l)]
theorem qcm {l:List Int}:qak (l.map D.int)=true:=noRefs_iff.mpr fun d h=>by
 obtain ⟨i,_,rfl⟩:=List.mem_map.mp h
 rfl
inductive R (α:Type) where
 | ok (a:α) (c:List Cell)
 | bad
def R.bind {α β:Type} (r:R α) (f:α→List Cell→R β):R β:=match r with
 | .ok a c=>f a c
 | .bad=>.bad
@[simp] theorem R.bind_ok {α β:Type} {a:α} {c:List Cell} {f:α→List Cell→R β}:(R.ok a c).bind f=f a c:=rfl
@[simp] theorem R.bind_bad {α β:Type} {f:α→List Cell→R β}:(R.bad:R α).bind f=.bad:=rfl
def lamNames:List Str:=["greatest_among","web_of","other_web","turned_at","pairs_web","field_web","net_web"]
def lamQ (x:Str):Str:=x ++ ".<locals>." ++ "<lambda>"
def codeP (c:Addr) (q:Str):Heap→Prop:=fun h=>h.CodeRec (.ref c) q
def lamP (a:Addr) (o:Obj):Heap→Prop:=fun h=>h.get? a=some o
def LamObj (e:Expr) (o:Obj) (q:Str) (c:Addr) (cl:List (Str×Addr)):Prop:=match e with
 | .Lambda params body scope _=>∃ pm ctv,o=PySem.W.kla_obj "<lambda>" q params body scope cl pm c ctv
 | _=>False
def isTbl:HO→Bool
 | .tbl _=>true
 | _=>false
def CellsAt (H:Hp) (cl:List (Str×Addr)):List Str→List V→Prop
 | [],xs=>xs=[]
 | x :: ns,xs=>∃ v r c oc u,xs=v :: r∧cl.lookup x=some c∧H c=some (.frz oc (.own 0))∧oc.data=.cell (some u)∧RelV v u∧CellsAt H cl ns r
def ClOk (cl:List (Str×Addr)) (ns:List Str):Prop:=(∀ x y c,cl.lookup x=some c→cl.lookup y=some c→x=y)∧∀ x c,cl.lookup x=some c→x∈ns
def TabAt (H:Hp) (P:Addr) (q:Str):Prop:=∃ ps,H P=some (.tbl ps)∧TriplesOk ps.toList∧∀ pos cv,codeAmong pos ps.toList=some cv→∃ c,cv=.ref c∧H c=some (.ext (codeP c q))
def TabOk (K:PySem.W.Frag) (H:Hp):Prop:=∀ x∈lamNames,∀ c P,PySem.W.tabIn K x=some (c,P)→TabAt H P (lamQ x)
theorem CellsAt.mono {H H':Hp} {cl:List (Str×Addr)}:∀ {ns:List Str} {xs:List V},(∀ c o,H c=some (.frz o (.own 0))→H' c=some (.frz o (.own 0)))→CellsAt H cl ns xs→CellsAt H' cl ns xs
 | [],_,_,h=>h
 | x :: ns,xs,k,h=>by
  obtain ⟨v,r,c,oc,u,e,h0,h1,h2,h3,h4⟩:=h
  exact ⟨v,r,c,oc,u,e,h0,k _ _ h1,h2,h3,CellsAt.mono k h4⟩
theorem CellsAt.get {H:Hp} {cl:List (Str×Addr)}:∀ {ns:List Str} {xs:List V} {i:Nat} {x:Str},CellsAt H cl ns xs→ns[i]? = some x→∃ v c oc u,xs[i]? = some v∧cl.lookup x=some c∧H c=some (.frz oc (.own 0))∧oc.data=.cell (some u)∧RelV v u
 | [],_,_,_,_,e=>by cases e
 | _ :: ns,xs,0,_,h,e=>by
  obtain ⟨v,r,c,oc,u,rfl,h0,h1,h2,h3,h4⟩:=h
  cases e
  exact ⟨v,c,oc,u,rfl,h0,h1,h2,h3⟩
 | _ :: ns,xs,i + 1,x,h,e=>by
  obtain ⟨v,r,c,oc,u,rfl,h0,h1,h2,h3,h4⟩:=h
  exact CellsAt.get (i:=i) h4 e
theorem CellsAt.length {H:Hp} {cl:List (Str×Addr)}:∀ {ns:List Str} {xs:List V},CellsAt H cl ns xs→xs.length=ns.length
 | [],xs,h=>by cases (show xs=[] from h); rfl
 | _ :: ns,xs,h=>by
  obtain ⟨v,r,c,oc,u,rfl,h0,h1,h2,h3,h4⟩:=h
  simp [CellsAt.length h4]
theorem TabAt.mono {H H':Hp} {P:Addr} {q:Str} (h:TabAt H P q) (k1:∀ ps,H P=some (.tbl ps)→H' P=some (.tbl ps)) (k2:∀ c φ,H c=some (.ext φ)→H' c=some (.ext φ)):TabAt H' P q:=by
 obtain ⟨ps,h1,h2,h3⟩:=h
 exact ⟨ps,k1 ps h1,h2,fun pos cv e=>let ⟨c,e1,e2⟩:=h3 pos cv e; ⟨c,e1,k2 _ _ e2⟩⟩
theorem TabOk.mono {K:PySem.W.Frag} {H H':Hp} (h:TabOk K H) (k1:∀ P ps,H P=some (.tbl ps)→H' P=some (.tbl ps)) (k2:∀ c φ,H c=some (.ext φ)→H' c=some (.ext φ)):TabOk K H':=fun x hx c P e=>(h x hx c P e).mono (k1 P) k2
def SqP (K:PySem.W.Frag) (ρ:List Addr) (H:Hp) (a:Addr) (xs:List V):Prop:=(Rd H a (.lst xs)∧a∉ρ)∨SqL K (fun _=>none) a xs
mutual
def Rel (K:PySem.W.Frag) (ρ:List Addr) (H:Hp):D→V→Prop
 | .non,v=>v=.non
 | .bl b,v=>v=.bl b
 | .int i,v=>v=.int i
 | .str x,v=>v=.str x
 | .ty n,v=>v=.ty n
 | .tup l,v=>∃ a xs,v=.ref a∧H a=some (.tup xs)∧Rels K ρ H l xs
 | .lst l,v=>∃ a xs,v=.ref a∧(H a=some (.lst xs)∧a∉ρ)∧Rels K ρ H l xs
 | .ref k,v=>∃ a,v=.ref a∧ρ[k]? = some a
 | .scr l,v=>∃ a,v=.ref a∧SqP K ρ H a (l.map V.int)
 | .fn x n,v=>∃ a,v=.ref a∧PySem.W.nsIn K mainGlobals x=some (some (.ref a))
 | .dic,v=>∃ a,v=.ref a∧H a=some (.ext (dicP a))
 | .dct ks,v=>∃ a kvs,v=.ref a∧H a=some (.dT kvs)∧∀ p:Int×Int,((kvs.any fun kv=>decide (kv.1=[Sum.inl p.1,Sum.inl p.2]))=decide (p∈ks))
 | .exc x,v=>∃ a C,v=.ref a∧PySem.W.nsIn K mainGlobals x=some (some (.ref C))∧H a=some (.ext (excP a C))
 | .lam _ e ns l,v=>∃ a o q c cl xs,v=.ref a∧H a=some (.ext (lamP a o))∧LamObj e o q c cl∧H c=some (.ext (codeP c q))∧ClOk cl ns∧CellsAt H cl ns xs∧Rels K ρ H l xs
def Rels (K:PySem.W.Frag) (ρ:List Addr) (H:Hp):List D→List V→Prop
 | [],xs=>xs=[]
 | d :: l,xs=>∃ x r,xs=x :: r∧Rel K ρ H d x∧Rels K ρ H l r
end
theorem SqP.sql {K:PySem.W.Frag} {ρ:List Addr} {H:Hp} {a:Addr} {xs:List V} (h:SqP K ρ H a xs):SqL K H a xs:=by
 rcases h with ⟨h,_⟩ | (h | h)
 ·exact .inl h
 ·rcases h with h | ⟨o,h⟩ <;> cases h
 ·exact .inr h
def CellOk (K:PySem.W.Frag) (ρ:List Addr) (H:Hp) (a:Addr):Cell→Prop
 | .lst l=>qak l=true∧∃ xs,H a=some (.lst xs)∧Rels K ρ H l xs
structure Wd (K:PySem.W.Frag) (ρ:List Addr) (H:Hp) (c:List Cell):Prop where
 nd:ρ.Nodup
 len:ρ.length=c.length
 cel:∀ (k:Nat) (a:Addr) (cl:Cell),ρ[k]? = some a→c[k]? = some cl→CellOk K ρ H a cl
 tab:TabOk K H
structure Ext (ρ:List Addr) (H:Hp) (ρ':List Addr) (H':Hp):Prop where
 pre:∀ (k:Nat) (a:Addr),ρ[k]? = some a→ρ'[k]? = some a
 keep:∀ a o,H a=some o→a∉ρ→isTbl o=false→H' a=some o∧a∉ρ'
theorem Ext.refl {ρ:List Addr} {H:Hp}:Ext ρ H ρ H:=⟨fun _ _ h=>h,fun _ _ h n _=>⟨h,n⟩⟩
theorem Ext.trans {ρ ρ1 ρ2:List Addr} {H H1 H2:Hp} (x:Ext ρ H ρ1 H1) (y:Ext ρ1 H1 ρ2 H2):Ext ρ H ρ2 H2 :=
 ⟨fun k a h=>y.pre k a (x.pre k a h),fun a o h n t=>let ⟨h1,n1⟩:=x.keep a o h n t; y.keep a o h1 n1 t⟩
section
variable {K:PySem.W.Frag} {ρ ρ':List Addr} {H H':Hp} {c c':List Cell}
theorem Wd.at' (W:Wd K ρ H c) {a:Addr} (h:a∈ρ):∃ xs,H a=some (.lst xs):=by
 obtain ⟨k,hk,e⟩:=List.mem_iff_getElem.mp h
 have hc:k < c.length:=by rw [← W.len]; exact hk
 have q:=W.cel k a c[k] (by rw [List.getElem?_eq_getElem hk,e]) (List.getElem?_eq_getElem hc)
 cases hcl:c[k] with
 | lst l=>rw [hcl] at q; obtain ⟨_,xs,h,_⟩:=q; exact ⟨xs,h⟩
theorem Wd.noT (W:Wd K ρ H c) {a:Addr} {xs:List V} (h:H a=some (.tup xs)):a∉ρ:=fun m=>by
 obtain ⟨ys,e⟩:=W.at' m
 rw [e] at h; cases h
theorem Wd.nil (W:Wd K ρ H c) {a:Addr} (h:H a=none):a∉ρ:=fun m=>by
 obtain ⟨ys,e⟩:=W.at' m
 rw [e] at h; cases h
theorem qeh (W:Wd K ρ H c) (x:Ext ρ H ρ' H') {a:Addr} {xs:List V} (h:H a=some (.tup xs)):H' a=some (.tup xs):=(x.keep a _ h (W.noT h) rfl).1
theorem qgH (x:Ext ρ H ρ' H') {a:Addr} {xs:List V} (h:H a=some (.lst xs)∧a∉ρ):H' a=some (.lst xs)∧a∉ρ':=x.keep a _ h.1 h.2 rfl
theorem sqP_mono (x:Ext ρ H ρ' H') {a:Addr} {xs:List V} (h:SqP K ρ H a xs):SqP K ρ' H' a xs:=by
 rcases h with ⟨h,n⟩ | h
 ·rcases h with h | ⟨o,h⟩
  ·exact .inl ⟨.inl (x.keep a _ h n rfl).1,(x.keep a _ h n rfl).2⟩
  ·exact .inl ⟨.inr ⟨o,(x.keep a _ h n rfl).1⟩,(x.keep a _ h n rfl).2⟩
 ·exact .inr h
mutual
theorem Rel.mono (W:Wd K ρ H c) (x:Ext ρ H ρ' H'):∀ (d:D) (v:V),Rel K ρ H d v→Rel K ρ' H' d v
 | .non,v,h=>h
 | .bl b,v,h=>h
 | .int i,v,h=>h
 | .str y,v,h=>h
 | .ty n,v,h=>h
 | .tup l,v,h=>by
  obtain ⟨a,xs,e,s,r⟩:=h
  exact ⟨a,xs,e,qeh W x s,Rels.mono W x l xs r⟩
 | .lst l,v,h=>by
  obtain ⟨a,xs,e,s,r⟩:=h
  exact ⟨a,xs,e,qgH x s,Rels.mono W x l xs r⟩
 | .ref k,v,h=>by
  obtain ⟨a,e,s⟩:=h
  exact ⟨a,e,x.pre k a s⟩
 | .scr l,v,h=>by
  obtain ⟨a,e,s⟩:=h
  exact ⟨a,e,sqP_mono x s⟩
 | .fn a n,v,h=>h
 | .dic,v,h=>by
  obtain ⟨a,e,q⟩:=h
  exact ⟨a,e,(x.keep a _ q (fun m=>by obtain ⟨ys,z⟩:=W.at' m; rw [z] at q; cases q) rfl).1⟩
 | .dct ks,v,h=>by
  obtain ⟨a,kvs,e,q,z⟩:=h
  exact ⟨a,kvs,e,(x.keep a _ q (fun m=>by obtain ⟨ys,z⟩:=W.at' m; rw [z] at q; cases q) rfl).1,z⟩
 | .exc y,v,h=>by
  obtain ⟨a,C,e,n,q⟩:=h
  exact ⟨a,C,e,n,(x.keep a _ q (fun m=>by obtain ⟨ys,z⟩:=W.at' m; rw [z] at q; cases q) rfl).1⟩
 | .lam _ y ns l,v,h=>by
  obtain ⟨a,o,q,c,cl,xs,e,h1,h2,h3,h4,h5,h6⟩:=h
  have nr:∀ (b:Addr) (u:HO),H b=some u→(∀ ys,u≠.lst ys)→b∉ρ:=fun b u q n m=>by obtain ⟨ys,z⟩:=W.at' m; rw [z] at q; exact n ys (Option.some.inj q).symm
  exact ⟨a,o,q,c,cl,xs,e,(x.keep a _ h1 (nr a _ h1 fun _ z=>nomatch z) rfl).1,h2,(x.keep c _ h3 (nr c _ h3 fun _ z=>nomatch z) rfl).1,h4,h5.mono (fun b o z=>(x.keep b _ z (nr b _ z fun _ z=>nomatch z) rfl).1),Rels.mono W x l xs h6⟩
theorem Rels.mono (W:Wd K ρ H c) (x:Ext ρ H ρ' H'):∀ (l:List D) (xs:List V),Rels K ρ H l xs→Rels K ρ' H' l xs
 | [],xs,h=>h
 | d :: l,xs,h=>by
  obtain ⟨y,r,e,h1,h2⟩:=h
  exact ⟨y,r,e,Rel.mono W x d y h1,Rels.mono W x l r h2⟩
end
theorem Rels.length:∀ {l:List D} {xs:List V},Rels K ρ H l xs→xs.length=l.length
 | [],xs,h=>by cases (show xs=[] from h); rfl
 | d :: l,xs,h=>by
  obtain ⟨y,r,rfl,h1,h2⟩:=h
  simp only [List.length_cons,Rels.length h2]
theorem Rels.get:∀ {l:List D} {xs:List V} {i:Nat} {d:D},Rels K ρ H l xs→l[i]? = some d→∃ x,xs[i]? = some x∧Rel K ρ H d x
 | [],_,_,_,_,e=>by cases e
 | _ :: l,_,0,_,h,e=>by
  obtain ⟨y,r,rfl,h1,h2⟩:=h
  cases e
  exact ⟨y,rfl,h1⟩
 | _ :: l,_,i + 1,_,h,e=>by
  obtain ⟨y,r,rfl,h1,h2⟩:=h
  exact Rels.get (i:=i) h2 e
theorem Rels.append:∀ {l m:List D} {xs ys:List V},Rels K ρ H l xs→Rels K ρ H m ys→Rels K ρ H (l ++ m) (xs ++ ys)
 | [],m,xs,ys,h,g=>by cases (show xs=[] from h); exact g
 | d :: l,m,xs,ys,h,g=>by
  obtain ⟨y,r,rfl,h1,h2⟩:=h
  exact ⟨y,r ++ ys,rfl,h1,Rels.append h2 g⟩
theorem Rels.set:∀ {l:List D} {xs:List V} {d:D} {x:V} (i:Nat),Rels K ρ H l xs→Rel K ρ H d x→Rels K ρ H (l.set i d) (xs.set i x)
 | [],xs,d,x,i,h,g=>by cases (show xs=[] from h); exact rfl
 | b :: l,xs,d,x,0,h,g=>by
  obtain ⟨y,r,rfl,h1,h2⟩:=h
  exact ⟨x,r,rfl,g,h2⟩
 | b :: l,xs,d,x,i + 1,h,g=>by
  obtain ⟨y,r,rfl,h1,h2⟩:=h
  exact ⟨y,r.set i x,rfl,h1,Rels.set i h2 g⟩
theorem Rels.take:∀ {l:List D} {xs:List V} (n:Nat),Rels K ρ H l xs→Rels K ρ H (l.take n) (xs.take n)
 | l,xs,0,h=>by simp only [List.take_zero]; exact rfl
 | [],xs,n + 1,h=>by cases (show xs=[] from h); exact rfl
 | d :: l,xs,n + 1,h=>by
  obtain ⟨y,r,rfl,h1,h2⟩:=h
  exact ⟨y,r.take n,rfl,h1,Rels.take n h2⟩
theorem Rels.drop:∀ {l:List D} {xs:List V} (n:Nat),Rels K ρ H l xs→Rels K ρ H (l.drop n) (xs.drop n)
 | l,xs,0,h=>h
 | [],xs,n + 1,h=>by cases (show xs=[] from h); exact rfl
 | d :: l,xs,n + 1,h=>by
  obtain ⟨y,r,rfl,h1,h2⟩:=h
  exact Rels.drop n h2
theorem Rels.ints {l:List Int}:Rels K ρ H (l.map D.int) (l.map V.int):=by
 induction l with
 | nil=>exact rfl
 | cons a l ih=>exact ⟨_,_,rfl,rfl,ih⟩
theorem Rels.ints_inv:∀ {l:List Int} {xs:List V},Rels K ρ H (l.map D.int) xs→xs=l.map V.int
 | [],xs,h=>h
 | a :: l,xs,h=>by
  obtain ⟨y,r,rfl,h1,h2⟩:=h
  cases (show y=V.int a from h1)
  rw [Rels.ints_inv h2]; rfl
theorem Rels.bls_inv:∀ {l:List Bool} {xs:List V},Rels K ρ H (l.map D.bl) xs→xs=l.map V.bl
 | [],xs,h=>h
 | a :: l,xs,h=>by
  obtain ⟨y,r,rfl,h1,h2⟩:=h
  cases (show y=V.bl a from h1)
  rw [Rels.bls_inv h2]; rfl
theorem Ext.fresh {p:Addr} {o:HO} (W:Wd K ρ H c) (h:H p=none):Ext ρ H ρ (upd H p o) :=
 ⟨fun _ _ e=>e,fun a u e n _=>⟨by rw [qah (qab e h)]; exact e,n⟩⟩
theorem Wd.fresh {p:Addr} {o:HO} (W:Wd K ρ H c) (h:H p=none):Wd K ρ (upd H p o) c :=
 ⟨W.nd,W.len,fun k a cl e1 e2=>by
  have q:=W.cel k a cl e1 e2
  cases cl with
  | lst l =>
   obtain ⟨nr,xs,e,r⟩:=q
   exact ⟨nr,xs,by rw [qah (qab e h)]; exact e,Rels.mono W (Ext.fresh W h) l xs r⟩,
  W.tab.mono (fun P ps e=>by rw [qah (qab e h)]; exact e) (fun b φ e=>by rw [qah (qab e h)]; exact e)⟩
theorem Ext.cell {p:Addr} {o:HO} (W:Wd K ρ H c) (h:H p=none):Ext ρ H (ρ ++ [p]) (upd H p o) :=
 ⟨fun k a e=>by rw [List.getElem?_append_left (List.getElem?_eq_some_iff.mp e).1]; exact e,fun a u e n _=>⟨by rw [qah (qab e h)]; exact e,by
  rw [List.mem_append]
  rintro (z | z)
  ·exact n z
  ·exact qab e h (by simpa using z)⟩⟩
theorem Wd.cell {p:Addr} {l:List D} {xs:List V} (W:Wd K ρ H c) (h:H p=none) (nr:qak l=true) (r:Rels K ρ H l xs):Wd K (ρ ++ [p]) (upd H p (.lst xs)) (c ++ [.lst l]):=by
 have X:=Ext.cell (o:=.lst xs) W h
 refine ⟨?_,by simp [W.len],fun k a cl e1 e2=>?_,W.tab.mono (fun P ps e=>by rw [qah (qab e h)]; exact e) (fun b φ e=>by rw [qah (qab e h)]; exact e)⟩
 ·rw [List.nodup_append]
  refine ⟨W.nd,by simp,?_⟩
  intro a ha b hb
  rw [List.mem_singleton] at hb
  subst hb
  exact fun z=>W.nil h (z ▸ ha)
 ·by_cases hk:k < c.length
  ·rw [List.getElem?_append_left hk] at e2
   rw [List.getElem?_append_left (by rw [W.len]; exact hk)] at e1
   have q:=W.cel k a cl e1 e2
   cases cl with
   | lst l' =>
    obtain ⟨nr',ys,e,r'⟩:=q
    exact ⟨nr',ys,by rw [qah (qab e h)]; exact e,Rels.mono W X l' ys r'⟩
  ·have hk':k=c.length:=by
    have:=(List.getElem?_eq_some_iff.mp e2).1
    simp at this
    omega
   subst hk'
   rw [List.getElem?_append_right (Nat.le_refl _),Nat.sub_self] at e2
   rw [List.getElem?_append_right (by rw [W.len]; exact Nat.le_refl _),W.len,Nat.sub_self] at e1
   cases e1; cases e2
   exact ⟨nr,xs,qaM,Rels.mono W X l xs r⟩
theorem Ext.write {k:Nat} {p:Addr} {o:HO} (h:ρ[k]? = some p):Ext ρ H ρ (upd H p o) :=
 ⟨fun _ _ e=>e,fun a u e n _=>⟨by rw [qah (fun z=>n (by rw [z]; exact List.mem_of_getElem? h))]; exact e,n⟩⟩
theorem Wd.write {k:Nat} {p:Addr} {l:List D} {xs:List V} (W:Wd K ρ H c) (h:ρ[k]? = some p) (nr:qak l=true) (r:Rels K ρ H l xs):Wd K ρ (upd H p (.lst xs)) (c.set k (.lst l)):=by
 have X:=Ext.write (H:=H) (o:=.lst xs) h
 obtain ⟨ys,hy⟩:=W.at' (List.mem_of_getElem? h)
 refine ⟨W.nd,by simp [W.len],fun j a cl e1 e2=>?_,W.tab.mono (fun P ps e=>by rw [qah (ne_of e hy fun z=>nomatch z)]; exact e) (fun b φ e=>by rw [qah (ne_of e hy fun z=>nomatch z)]; exact e)⟩
 by_cases hj:j=k
 ·subst hj
  rw [h] at e1; cases e1
  have hl:j < c.length:=by rw [← W.len]; exact (List.getElem?_eq_some_iff.mp h).1
  rw [List.getElem?_set_self hl] at e2
  cases e2
  exact ⟨nr,xs,qaM,Rels.mono W X l xs r⟩
 ·rw [List.getElem?_set_ne (Ne.symm hj)] at e2
  have q:=W.cel j a cl e1 e2
  have hap:a≠p:=by
   intro e
   subst e
   have h1:=(List.getElem?_eq_some_iff.mp h)
   have h2:=(List.getElem?_eq_some_iff.mp e1)
   exact hj ((List.getElem_inj W.nd (h₀:=h2.1) (h₁:=h1.1)).mp (h2.2.trans h1.2.symm))
  cases cl with
  | lst l' =>
   obtain ⟨nr',ys,e,r'⟩:=q
   exact ⟨nr',ys,by rw [qah hap]; exact e,Rels.mono W X l' ys r'⟩
mutual
theorem Rel.low (h:∀ a,a∈ρ'→a∈ρ):∀ (d:D) (v:V),qaS d=true→Rel K ρ H d v→Rel K ρ' H d v
 | .non,v,_,r=>r
 | .bl b,v,_,r=>r
 | .int i,v,_,r=>r
 | .str y,v,_,r=>r
 | .ty n,v,_,r=>r
 | .tup l,v,n,r=>by
  obtain ⟨a,xs,e,s,r⟩:=r
  exact ⟨a,xs,e,s,Rels.low h l xs n r⟩
 | .lst l,v,n,r=>by
  obtain ⟨a,xs,e,s,r⟩:=r
  exact ⟨a,xs,e,⟨s.1,fun q=>s.2 (h a q)⟩,Rels.low h l xs n r⟩
 | .ref k,v,n,r=>by cases n
 | .scr l,v,n,r=>by
  obtain ⟨a,e,s⟩:=r
  refine ⟨a,e,?_⟩
  rcases s with ⟨s,z⟩ | s
  ·exact .inl ⟨s,fun q=>z (h a q)⟩
  ·exact .inr s
 | .fn a m,v,n,r=>r
 | .exc y,v,n,r=>r
 | .dic,v,n,r=>r
 | .dct _,v,n,r=>r
 | .lam _ _ _ _,v,n,r=>by cases n
theorem Rels.low (h:∀ a,a∈ρ'→a∈ρ):∀ (l:List D) (xs:List V),qak l=true→Rels K ρ H l xs→Rels K ρ' H l xs
 | [],xs,_,r=>r
 | d :: l,xs,n,r=>by
  obtain ⟨y,ys,e,h1,h2⟩:=r
  have n:(qaS d && qak l)=true:=n
  rw [Bool.and_eq_true] at n
  exact ⟨y,ys,e,Rel.low h d y n.1 h1,Rels.low h l ys n.2 h2⟩
end
theorem Wd.cut {n:Nat} (W:Wd K ρ H c) (hn:n≤c.length):Wd K (ρ.take n) H (c.take n):=by
 have sub:∀ a,a∈ρ.take n→a∈ρ:=fun a h=>List.mem_of_mem_take h
 refine ⟨W.nd.sublist (List.take_sublist _ _),by simp [W.len],fun k a cl e1 e2=>?_,W.tab⟩
 rw [List.getElem?_take] at e1 e2
 split at e1
 ·rename_i hk
  rw [if_pos hk] at e2
  have q:=W.cel k a cl e1 e2
  cases cl with
  | lst l =>
   obtain ⟨nr,xs,e,r⟩:=q
   exact ⟨nr,xs,e,Rels.low sub l xs nr r⟩
 ·cases e1
theorem Ext.cut {n:Nat} (x:Ext ρ H ρ' H') (hn:ρ.length≤n):Ext ρ H (ρ'.take n) H' :=
 ⟨fun k a e=>by rw [List.getElem?_take,if_pos (Nat.lt_of_lt_of_le (List.getElem?_eq_some_iff.mp e).1 hn)]; exact x.pre k a e,fun a o e z t=>let ⟨h1,h2⟩:=x.keep a o e z t; ⟨h1,fun q=>h2 (List.mem_of_mem_take q)⟩⟩
theorem Ext.len (W:Wd K ρ H c) (W':Wd K ρ' H' c') (x:Ext ρ H ρ' H'):c.length≤c'.length:=by
 rw [← W.len,← W'.len]
 by_cases h:ρ.length≤ρ'.length
 ·exact h
 ·exfalso
  have h':ρ'.length < ρ.length:=Nat.lt_of_not_le h
  have e:=x.pre ρ'.length ρ[ρ'.length] (List.getElem?_eq_getElem h')
  rw [List.getElem?_eq_none (Nat.le_refl _)] at e
  cases e
end
abbrev Ev:=List (Option D)
def post {α β:Type} (K:PySem.W.Frag) (Rl:List Addr→Hp→α→β→Prop) (r:R α) (ρ:List Addr) (H:Hp) (Q:β→Hp→Prop):Prop:=match r with
 | .ok a c=>∀ ρ' H' b,Wd K ρ' H' c→Ext ρ H ρ' H'→Rl ρ' H' a b→Q b H'
 | .bad=>False
structure REnv (K:PySem.W.Frag) (ρ:List Addr) (H:Hp) (e:Ev) (σ:St):Prop where
 get:∀ (i:Nat) (d:D),e[i]? = some (some d)→∃ v,σ[i]? = some (some v)∧Rel K ρ H d v
 len:e.length=σ.length
def tD {α β:Type} (K:PySem.W.Frag) (Rl:List Addr→Hp→α→β→Prop) (d:Ev→List Cell→R α):St→Hp→(β→Hp→Prop)→Prop :=
 fun σ H Q=>∃ ρ e c,Wd K ρ H c∧REnv K ρ H e σ∧post K Rl (d e c) ρ H Q
section
variable {α β γ δ:Type} {K:PySem.W.Frag} {ρ ρ':List Addr} {H H':Hp} {c:List Cell} {e:Ev} {σ:St} {Rl:List Addr→Hp→α→β→Prop} {Rm:List Addr→Hp→γ→δ→Prop}
theorem REnv.mono (V:REnv K ρ H e σ) (W:Wd K ρ H c) (x:Ext ρ H ρ' H'):REnv K ρ' H' e σ :=
 ⟨fun i d h=>let ⟨v,h1,h2⟩:=V.get i d h; ⟨v,h1,Rel.mono W x d v h2⟩,V.len⟩
theorem REnv.set (V:REnv K ρ H e σ) {d:D} {v:L2.V} (r:Rel K ρ H d v) (i:Nat):REnv K ρ H (e.set i (some d)) (σ.set i (some v)):=by
 refine ⟨fun j b h=>?_,by simp [V.len]⟩
 by_cases hj:j=i
 ·subst hj
  have hl:j < e.length:=by
   have:=(List.getElem?_eq_some_iff.mp h).1
   simpa using this
  rw [List.getElem?_set_self hl] at h
  cases h
  exact ⟨v,by rw [List.getElem?_set_self (by rw [← V.len]; exact hl)],r⟩
 ·rw [List.getElem?_set_ne (Ne.symm hj)] at h ⊢
  exact V.get j b h
theorem post.ext {r:R α} {Q:β→Hp→Prop} (p:post K Rl r ρ H Q) (x:Ext ρ H ρ' H'):post K Rl r ρ' H' Q:=by
 cases r with
 | ok a c=>exact fun ρ2 H2 b W y r=>p ρ2 H2 b W (x.trans y) r
 | bad=>exact p
theorem post.bind {r:R α} {f:α→List Cell→R γ} {Q:δ→Hp→Prop} {S:β→Hp→Prop} (p:post K Rm (r.bind f) ρ H Q)
  (h:∀ a c1 ρ' H' b,r=.ok a c1→Wd K ρ' H' c1→Ext ρ H ρ' H'→Rl ρ' H' a b→post K Rm (f a c1) ρ' H' Q→S b H'):post K Rl r ρ H S:=by
 cases r with
 | ok a c1=>exact fun ρ' H' b W x r=>h a c1 ρ' H' b rfl W x r (post.ext (r:=f a c1) p x)
 | bad=>exact p
theorem post.here {a:α} {b:β} {Q:β→Hp→Prop} (p:post K Rl (.ok a c) ρ H Q) (W:Wd K ρ H c) (r:Rl ρ H a b):Q b H:=p ρ H b W Ext.refl r
end
abbrev PEd (X:Cx) (e:Expr) (d:Ev→List Cell→R D):Prop:=PE X e (tD X.K (Rel X.K) d)
abbrev PTd (X:Cx) (e:Expr) (d:Ev→List Cell→R Bool):Prop:=PT X e (tD X.K (fun _ _ a b=>a=b) d)
abbrev PWd (X:Cx) (e:Expr) (d:Ev→List Cell→R Bool):Prop:=PW X e (tD X.K (fun _ _ a b=>a=b) d)
abbrev PAd (X:Cx) (es:List Expr) (d:Ev→List Cell→R (List D)):Prop:=PA X es (tD X.K (Rels X.K) d)
section
variable {X:Cx} {e:Expr} {es:List Expr} {st:Stmt} {sts:List Stmt}
theorem PE.imp {t t':TE} (h:PE X e t) (i:∀ σ H Q,t' σ H Q→t σ H Q):PE X e t':=fun pins s σ H Q I q=>h pins s σ H Q I (i _ _ _ q)
theorem PT.imp {t t':TT} (h:PT X e t) (i:∀ σ H Q,t' σ H Q→t σ H Q):PT X e t':=fun pins s σ H Q I q=>h pins s σ H Q I (i _ _ _ q)
theorem PW.imp {t t':TT} (h:PW X e t) (i:∀ σ H Q,t' σ H Q→t σ H Q):PW X e t':=fun wh pins s σ H Q I q=>h wh pins s σ H Q I (i _ _ _ q)
theorem PA.imp {t t':TA} (h:PA X es t) (i:∀ σ H Q,t' σ H Q→t σ H Q):PA X es t':=fun pos pins s σ H Q I q=>h pos pins s σ H Q I (i _ _ _ q)
theorem PS.imp {t t':TS} (h:PS X st t) (i:∀ D σ H,t' D σ H→t D σ H):PS X st t':=fun pins s σ H D I q=>h pins s σ H D I (i _ _ _ q)
theorem PSs.imp {t t':TS} (h:PSs X sts t) (i:∀ D σ H,t' D σ H→t D σ H):PSs X sts t':=fun pins s σ H D I q=>h pins s σ H D I (i _ _ _ q)
end
def dVar (i:Nat):Ev→List Cell→R D:=fun e c=>match e[i]? with
 | some (some d)=>.ok d c
 | _=>.bad
def dC (d:D):Ev→List Cell→R D:=fun _ c=>.ok d c
section
variable {X:Cx}
theorem qa2 (i:Nat) {x:Str} {pos:Pos} (hN:X.N[i]? = some x:=by rfl) (hv:Vis X.env.scope x:=by first | exact Or.inl rfl | exact Or.inr (Or.inl rfl) | exact Or.inr (Or.inr rfl)) (hd:(x == ("__debug__":Str))=false:=by decide)
  (hcd:(x == ("__classdict__":Str))=false:=by decide):PEd X (.Name x pos) (dVar i):=(pe_var hN hv hd hcd).imp fun σ H Q h=>by
 obtain ⟨ρ,e,c,W,V,p⟩:=h
 unfold dVar at p
 cases q:e[i]? with
 | none=>rw [q] at p; exact p.elim
 | some o =>
  rw [q] at p
  cases o with
  | none=>exact p.elim
  | some d =>
   obtain ⟨v,hv,r⟩:=V.get i d q
   exact ⟨v,hv,p.here W r⟩
theorem qdP {e:Expr} {v:V} {d:D} (h:PE X e (tC v)) (r:∀ ρ H,Rel X.K ρ H d v):PEd X e (dC d):=h.imp fun σ H Q h=>by
 obtain ⟨ρ,e,c,W,V,p⟩:=h
 exact post.here (r:=r ρ H) p W
theorem qa8 {i j pos}:PEd X (.Constant (.int i) j pos) (dC (.int i)):=qdP pe_int fun _ _=>rfl
theorem pd_bl {b j pos}:PEd X (.Constant (.bool b) j pos) (dC (.bl b)):=qdP pe_bl fun _ _=>rfl
theorem qfA {j pos}:PEd X (.Constant .none j pos) (dC .non):=qdP pe_non fun _ _=>rfl
theorem pd_str {x j pos}:PEd X (.Constant (.str x) j pos) (dC (.str x)):=qdP pe_str fun _ _=>rfl
theorem qeK {x:Str} {n:String} {pos:Pos} (hg:Gl X x) (hm:X.mg x=none) (hv:bootBuiltins x=some (.type n)) (hn:x≠"__name__":=by decide) (hd:(x == ("__debug__":Str))=false:=by decide):PEd X (.Name x pos) (dC (.ty n)):=qdP (pe_ty hg hm hv hn hd) fun _ _=>rfl
end
end L2
namespace L2
open PySem PySem.Spec PyProof.Rows
def dBin (f:D→D→List Cell→R D) (a b:Ev→List Cell→R D):Ev→List Cell→R D:=fun e c=>(a e c).bind fun x c=>(b e c).bind fun y c=>f x y c
def dUn (f:D→List Cell→R D) (a:Ev→List Cell→R D):Ev→List Cell→R D:=fun e c=>(a e c).bind fun x c=>f x c
def r2 (K:PySem.W.Frag) (f:D→D→List Cell→R D):R2:=fun v u H Q=>∃ ρ x y c,Wd K ρ H c∧Rel K ρ H x v∧Rel K ρ H y u∧post K (Rel K) (f x y c) ρ H Q
def r1 (K:PySem.W.Frag) (f:D→List Cell→R D):V→Hp→VK→Prop:=fun v H Q=>∃ ρ x c,Wd K ρ H c∧Rel K ρ H x v∧post K (Rel K) (f x c) ρ H Q
def rN (K:PySem.W.Frag) (f:List D→List Cell→R D):List V→Hp→VK→Prop:=fun vs H Q=>∃ ρ xs c,Wd K ρ H c∧Rels K ρ H xs vs∧post K (Rel K) (f xs c) ρ H Q
def dCB (f:List D→List Cell→R D) (a:Ev→List Cell→R (List D)):Ev→List Cell→R D:=fun e c=>(a e c).bind fun xs c=>f xs c
section
variable {X:Cx} {a b:Expr} {da db dd:Ev→List Cell→R D} {pos:Pos} {K:PySem.W.Frag} {σ:St} {H:Hp} {Q:VK} {f:D→D→List Cell→R D}
theorem t_bin (h:tD K (Rel K) (dBin f da db) σ H Q):tD K (Rel K) da σ H fun v H1=>tD K (Rel K) db σ H1 fun u H2=>r2 K f v u H2 Q:=by
 obtain ⟨ρ,e,c,W,V,p⟩:=h
 refine ⟨ρ,e,c,W,V,post.bind p fun x c1 ρ1 H1 v _ W1 X1 r1 p1=>⟨ρ1,e,c1,W1,V.mono W X1,post.bind p1 fun y c2 ρ2 H2 u _ W2 X2 r2 p2=>⟨ρ2,x,y,c2,W2,Rel.mono W1 X2 _ _ r1,r2,p2⟩⟩⟩
theorem t_un {g:D→List Cell→R D} (h:tD K (Rel K) (dUn g da) σ H Q):tD K (Rel K) da σ H fun v H1=>r1 K g v H1 Q:=by
 obtain ⟨ρ,e,c,W,V,p⟩:=h
 exact ⟨ρ,e,c,W,V,post.bind p fun x c1 ρ1 H1 v _ W1 X1 r1 p1=>⟨ρ1,x,c1,W1,r1,p1⟩⟩
theorem t_cb {g:List D→List Cell→R D} {ds:Ev→List Cell→R (List D)} (h:tD K (Rel K) (dCB g ds) σ H Q):tD K (Rels K) ds σ H fun vs H1=>rN K g vs H1 Q:=by
 obtain ⟨ρ,e,c,W,V,p⟩:=h
 exact ⟨ρ,e,c,W,V,post.bind p fun x c1 ρ1 H1 v _ W1 X1 r1 p1=>⟨ρ1,x,c1,W1,r1,p1⟩⟩
theorem qa9 {op:Operator} (ho:OpR X (binaryOp op) (r2 X.K f)) (ha:PEd X a da) (hb:PEd X b db):PEd X (.BinOp a op b pos) (dBin f da db):=(pe_op ho ha hb).imp fun σ H Q h=>t_bin h
theorem qeZ {op:CmpOp} (ho:OpR X (compareOp op) (r2 X.K f)) (ha:PEd X a da) (hb:PEd X b db) (hm:behindInMarks op b=false:=by first | exact nomark _ | rfl):PEd X (.Compare a [op] [b] pos) (dBin f da db):=(pe_cmpR ho ha hb hm).imp fun σ H Q h=>t_bin h
theorem pd_un {op:UnaryOp} {g:D→List Cell→R D} (ho:UnR X (unaryOp op) (r1 X.K g)) (ha:PEd X a da):PEd X (.UnaryOp op a pos) (dUn g da):=(pe_un ho ha).imp fun σ H Q h=>t_un h
theorem qbd (hr:IxR X (r2 X.K f)) (ha:PEd X a da) (hb:PEd X b db) (hs:PlainIx b:=by exact fun _ _=>rfl):PEd X (.Subscript a b pos) (dBin f da db):=(pe_ix hr ha hb hs).imp fun σ H Q h=>t_bin h
def dChain (f g:D→D→List Cell→R D) (a b d:Ev→List Cell→R D):Ev→List Cell→R D:=fun e c=>(a e c).bind fun x c=>(b e c).bind fun y c=>(f x y c).bind fun z c=>match z with
 | .bl true=>(d e c).bind fun u c=>g y u c
 | .bl false=>.ok (.bl false) c
 | _=>.bad
end
def dNil:Ev→List Cell→R (List D):=fun _ c=>.ok [] c
def qa0 (a:Ev→List Cell→R D) (r:Ev→List Cell→R (List D)):Ev→List Cell→R (List D):=fun e c=>(a e c).bind fun x c=>(r e c).bind fun xs c=>.ok (x :: xs) c
def dTup (a:Ev→List Cell→R (List D)):Ev→List Cell→R D:=fun e c=>(a e c).bind fun xs c=>if xs.length≤sizeLine then .ok (.tup xs) c else .bad
def dLst (a:Ev→List Cell→R (List D)):Ev→List Cell→R D:=fun e c=>(a e c).bind fun xs c=>if xs.length≤sizeLine then .ok (.lst xs) c else .bad
def qcC (a:Ev→List Cell→R (List D)):Ev→List Cell→R D:=fun e c=>(a e c).bind fun xs c=>if xs.length≤sizeLine∧qak xs=true then .ok (.ref c.length) (c ++ [.lst xs]) else .bad
section
variable {X:Cx} {a:Expr} {es:List Expr} {da:Ev→List Cell→R D} {ds:Ev→List Cell→R (List D)} {pos:Pos} {K:PySem.W.Frag} {ρ:List Addr} {H:Hp} {c:List Cell} {Q:VK} {xs:List D} {vs:List V}
theorem qa4:PAd X [] dNil:=pa_nil.imp fun σ H Q h=>by
 obtain ⟨ρ,e,c,W,V,p⟩:=h
 exact post.here (b:=[]) p W rfl
theorem qa1 (ha:PEd X a da) (hr:PAd X es ds) (hs:starEach (a :: es) X.env=(false,eval a X.env) :: starEach es X.env:=by exact qd6 rfl):PAd X (a :: es) (qa0 da ds):=(qec ha hr hs).imp fun σ H Q h=>by
 obtain ⟨ρ,e,c,W,V,p⟩:=h
 refine ⟨ρ,e,c,W,V,post.bind p fun x c1 ρ1 H1 v _ W1 X1 r1 p1=>⟨ρ1,e,c1,W1,V.mono W X1,post.bind p1 fun y c2 ρ2 H2 u _ W2 X2 r2 p2=>?_⟩⟩
 exact p2.here W2 ⟨v,u,rfl,Rel.mono W1 X2 _ _ r1,r2⟩
theorem new_tup (W:Wd K ρ H c) (r:Rels K ρ H xs vs) (p:post K (Rel K) (.ok (.tup xs) c) ρ H Q):∀ q,H q=none→Q (.ref q) (upd H q (.tup vs)):=fun q hq =>
 p ρ _ _ (W.fresh hq) (Ext.fresh W hq) ⟨q,vs,rfl,qaM,Rels.mono W (Ext.fresh W hq) _ _ r⟩
theorem qeO (W:Wd K ρ H c) (r:Rels K ρ H xs vs) (p:post K (Rel K) (.ok (.lst xs) c) ρ H Q):∀ q,H q=none→Q (.ref q) (upd H q (.lst vs)):=fun q hq =>
 p ρ _ _ (W.fresh hq) (Ext.fresh W hq) ⟨q,vs,rfl,⟨qaM,W.nil hq⟩,Rels.mono W (Ext.fresh W hq) _ _ r⟩
theorem new_cell (W:Wd K ρ H c) (nr:qak xs=true) (r:Rels K ρ H xs vs) (p:post K (Rel K) (.ok (.ref c.length) (c ++ [.lst xs])) ρ H Q):∀ q,H q=none→Q (.ref q) (upd H q (.lst vs)):=fun q hq =>
 p (ρ ++ [q]) _ _ (W.cell hq nr r) (Ext.cell W hq) ⟨q,rfl,by rw [List.getElem?_append_right (by rw [W.len]; exact Nat.le_refl _),W.len,Nat.sub_self]; rfl⟩
theorem qd7 {x1} (h:PAd X es ds):PEd X (.Tuple es x1 pos) (dTup ds):=(pe_tup h).imp fun σ H Q h=>by
 obtain ⟨ρ,e,c,W,V,p⟩:=h
 refine ⟨ρ,e,c,W,V,post.bind p fun x c1 ρ1 H1 v _ W1 X1 r1 p1=>?_⟩
 split at p1
 ·rename_i hl
  exact ⟨by rw [r1.length]; exact hl,new_tup W1 r1 p1⟩
 ·exact p1.elim
theorem qcW (h:PAd X es ds):PEd X (.List es pos) (dLst ds):=(pe_lst h).imp fun σ H Q h=>by
 obtain ⟨ρ,e,c,W,V,p⟩:=h
 refine ⟨ρ,e,c,W,V,post.bind p fun x c1 ρ1 H1 v _ W1 X1 r1 p1=>?_⟩
 split at p1
 ·rename_i hl
  exact ⟨by rw [r1.length]; exact hl,qeO W1 r1 p1⟩
 ·exact p1.elim
theorem qdb (h:PAd X es ds):PEd X (.List es pos) (qcC ds):=(pe_lst h).imp fun σ H Q h=>by
 obtain ⟨ρ,e,c,W,V,p⟩:=h
 refine ⟨ρ,e,c,W,V,post.bind p fun x c1 ρ1 H1 v _ W1 X1 r1 p1=>?_⟩
 split at p1
 ·rename_i hl
  exact ⟨by rw [r1.length]; exact hl.1,new_cell W1 hl.2 r1 p1⟩
 ·exact p1.elim
end
def addD:D→D→List Cell→R D:=fun x y c=>match x,y with
 | .int i,.int j=>.ok (.int (i + j)) c
 | .str a,.str b=>if a.length + b.length≤sizeLine then .ok (.str (a ++ b)) c else .bad
 | .tup l,.tup m=>if l.length≠0∧l.length + m.length≤sizeLine then .ok (.tup (l ++ m)) c else .bad
 | _,_=>.bad
def subD:D→D→List Cell→R D:=fun x y c=>match x,y with
 | .int i,.int j=>.ok (.int (i - j)) c
 | _,_=>.bad
def mulD:D→D→List Cell→R D:=fun x y c=>match x,y with
 | .int i,.int j=>if (-(2 ^ 64) < i∧i < 2 ^ 64)∨(-(2 ^ 64) < j∧j < 2 ^ 64) then .ok (.int (i * j)) c else .bad
 | _,_=>.bad
def divD:D→D→List Cell→R D:=fun x y c=>match x,y with
 | .int i,.int j=>if 0 < j∧j < 1073741824 then .ok (.int (i / j)) c else .bad
 | _,_=>.bad
def modD:D→D→List Cell→R D:=fun x y c=>match x,y with
 | .int i,.int j=>if 0 < j then .ok (.int (i % j)) c else .bad
 | _,_=>.bad
def powD:D→D→List Cell→R D:=fun x y c=>match x,y with
 | .int i,.int j=>if 0≤j∧j≤1000000∧i.natAbs < 2 ^ 64 then .ok (.int (i ^ j.toNat)) c else .bad
 | _,_=>.bad
def negD:D→List Cell→R D:=fun x c=>match x with
 | .int i=>.ok (.int (-i)) c
 | _=>.bad
def cmpD (p:Int→Int→Bool):D→D→List Cell→R D:=fun x y c=>match x,y with
 | .int i,.int j=>.ok (.bl (p i j)) c
 | _,_=>.bad
section
variable {X:Cx}
theorem qbG:OpR X (binaryOp .Add) (r2 X.K addD):=by
 intro pins s σ H v u vv uu Q I rv ru h
 obtain ⟨ρ,x,y,c,W,rx,ry,p⟩:=h
 unfold addD at p
 split at p
 ·cases rx; cases ry
  exact op_add pins s σ H _ _ vv uu Q I rv ru ⟨_,_,rfl,rfl,p.here W rfl⟩
 ·split at p
  ·rename_i hl
   cases rx; cases ry
   exact op_add_str pins s σ H _ _ vv uu Q I rv ru ⟨_,_,rfl,rfl,hl,p.here W rfl⟩
  ·exact p.elim
 ·split at p
  ·rename_i hl
   obtain ⟨a,xs,rfl,sa,ra⟩:=rx
   obtain ⟨b,ys,rfl,sb,rb⟩:=ry
   refine op_catT pins s σ H _ _ vv uu Q I rv ru ⟨a,b,xs,ys,rfl,rfl,SqT.of sa,SqT.of sb,fun z=>hl.1 ?_,by rw [ra.length,rb.length]; exact hl.2,fun z=>?_,fun _=>new_tup W (ra.append rb) p⟩
   ·rw [← ra.length,z]; rfl
   ·refine p.here W ⟨a,xs ++ ys,rfl,by rw [z,List.append_nil]; exact sa,ra.append rb⟩
  ·exact p.elim
 ·exact p.elim
theorem qc9:OpR X (binaryOp .Sub) (r2 X.K subD):=by
 intro pins s σ H v u vv uu Q I rv ru h
 obtain ⟨ρ,x,y,c,W,rx,ry,p⟩:=h
 unfold subD at p
 split at p
 ·cases rx; cases ry
  exact op_sub pins s σ H _ _ vv uu Q I rv ru ⟨_,_,rfl,rfl,p.here W rfl⟩
 ·exact p.elim
theorem qdj:OpR X (binaryOp .Mult) (r2 X.K mulD):=by
 intro pins s σ H v u vv uu Q I rv ru h
 obtain ⟨ρ,x,y,c,W,rx,ry,p⟩:=h
 unfold mulD at p
 split at p
 ·split at p
  ·rename_i hl
   cases rx; cases ry
   exact op_mul pins s σ H _ _ vv uu Q I rv ru ⟨_,_,rfl,rfl,hl,p.here W rfl⟩
  ·exact p.elim
 ·exact p.elim
theorem qf4:OpR X (binaryOp .FloorDiv) (r2 X.K divD):=by
 intro pins s σ H v u vv uu Q I rv ru h
 obtain ⟨ρ,x,y,c,W,rx,ry,p⟩:=h
 unfold divD at p
 split at p
 ·split at p
  ·rename_i hl
   cases rx; cases ry
   exact op_fdiv pins s σ H _ _ vv uu Q I rv ru ⟨_,_,rfl,rfl,hl,p.here W rfl⟩
  ·exact p.elim
 ·exact p.elim
theorem qdk:OpR X (binaryOp .Mod) (r2 X.K modD):=by
 intro pins s σ H v u vv uu Q I rv ru h
 obtain ⟨ρ,x,y,c,W,rx,ry,p⟩:=h
 unfold modD at p
 split at p
 ·split at p
  ·rename_i hl
   cases rx; cases ry
   exact op_mod pins s σ H _ _ vv uu Q I rv ru ⟨_,_,rfl,rfl,hl,p.here W rfl⟩
  ·exact p.elim
 ·exact p.elim
theorem od_pow:OpR X (binaryOp .Pow) (r2 X.K powD):=by
 intro pins s σ H v u vv uu Q I rv ru h
 obtain ⟨ρ,x,y,c,W,rx,ry,p⟩:=h
 unfold powD at p
 split at p
 ·split at p
  ·rename_i hl
   cases rx; cases ry
   exact op_pow pins s σ H _ _ vv uu Q I rv ru ⟨_,_,rfl,rfl,hl,p.here W rfl⟩
  ·exact p.elim
 ·exact p.elim
theorem ud_neg:UnR X (unaryOp .USub) (r1 X.K negD):=by
 intro pins s σ H v vv Q I rv h
 obtain ⟨ρ,x,c,W,rx,p⟩:=h
 unfold negD at p
 split at p
 ·cases rx
  exact un_neg pins s σ H _ vv Q I rv ⟨_,rfl,p.here W rfl⟩
 ·exact p.elim
theorem od_cmp {f:Value→Value→Sem Value} {q:Int→Int→Bool} (h:OpR X f (rI0 fun i j=>.bl (q i j))):OpR X f (r2 X.K (cmpD q)):=by
 intro pins s σ H v u vv uu Q I rv ru hh
 obtain ⟨ρ,x,y,c,W,rx,ry,p⟩:=hh
 unfold cmpD at p
 split at p
 ·cases rx; cases ry
  exact h pins s σ H _ _ vv uu Q I rv ru ⟨_,_,rfl,rfl,p.here W rfl⟩
 ·exact p.elim
abbrev ltD:=cmpD fun i j=>decide (i < j)
abbrev leD:=cmpD fun i j=>decide (i≤j)
abbrev gtD:=cmpD fun i j=>decide (j < i)
abbrev geD:=cmpD fun i j=>decide (j≤i)
theorem od_lt:OpR X (compareOp .Lt) (r2 X.K ltD):=od_cmp op_lt
theorem od_le:OpR X (compareOp .LtE) (r2 X.K leD):=od_cmp op_le
theorem od_gt:OpR X (compareOp .Gt) (r2 X.K gtD):=od_cmp op_gt
theorem od_ge:OpR X (compareOp .GtE) (r2 X.K geD):=od_cmp op_ge
end
def eqS:D→D→Option Bool
 | .non,.non=>some true | .non,.int _=>some false | .int _,.non=>some false | .non,.bl _=>some false | .bl _,.non=>some false | .non,.str _=>some false | .str _,.non=>some false
 | .int i,.int j=>some (decide (i=j)) | .bl a,.bl b=>some (decide (a=b)) | .str x,.str y=>some (decide (x=y))
 | .int _,.str _=>some false | .str _,.int _=>some false | .bl _,.str _=>some false | .str _,.bl _=>some false
 | _,_=>none
def eqD:D→D→List Cell→R D:=fun x y c=>match eqS x y with
 | some b=>.ok (.bl b) c
 | none=>.bad
def neD:D→D→List Cell→R D:=fun x y c=>match eqS x y with
 | some b=>.ok (.bl (!b)) c
 | none=>.bad
def isN:D→Bool
 | .non=>true
 | _=>false
def isD:D→D→List Cell→R D:=fun x y c=>match y with
 | .non=>.ok (.bl (isN x)) c
 | _=>.bad
def qe7:D→D→List Cell→R D:=fun x y c=>match y with
 | .non=>.ok (.bl (!isN x)) c
 | _=>.bad
section
variable {X:Cx} {K:PySem.W.Frag} {ρ:List Addr} {H:Hp} {c:List Cell}
theorem eqS_ok {x y:D} {v u:V} {b:Bool} (rx:Rel K ρ H x v) (ry:Rel K ρ H y u) (h:eqS x y=some b):scal v u=true∧decide (v=u)=b:=by
 cases x <;> cases y <;> first
  | (cases rx; cases ry; cases h; refine ⟨rfl,?_⟩; simp; done)
  | (cases h; done)
theorem od_eq:OpR X (compareOp .Eq) (r2 X.K eqD):=by
 intro pins s σ H v u vv uu Q I rv ru h
 obtain ⟨ρ,x,y,c,W,rx,ry,p⟩:=h
 unfold eqD at p
 split at p
 ·rename_i b hb
  obtain ⟨h1,h2⟩:=eqS_ok rx ry hb
  exact op_eq pins s σ H _ _ vv uu Q I rv ru ⟨h1,by rw [h2]; exact p.here W rfl⟩
 ·exact p.elim
theorem od_ne:OpR X (compareOp .NotEq) (r2 X.K neD):=by
 intro pins s σ H v u vv uu Q I rv ru h
 obtain ⟨ρ,x,y,c,W,rx,ry,p⟩:=h
 unfold neD at p
 split at p
 ·rename_i b hb
  obtain ⟨h1,h2⟩:=eqS_ok rx ry hb
  exact op_ne pins s σ H _ _ vv uu Q I rv ru ⟨h1,by rw [h2]; exact p.here W rfl⟩
 ·exact p.elim
theorem isN_ok {x:D} {v:V} (rx:Rel K ρ H x v):decide (v=.non)=isN x:=by
 cases x <;> first
  | (cases rx; rfl; done)
  | (cases rx; simp [isN]; done)
  | (obtain ⟨a,xs,rfl,_⟩:=rx; simp [isN]; done)
  | (obtain ⟨a,rfl,_⟩:=rx; simp [isN]; done)
  | (obtain ⟨a,o,q,c,cl,xs,rfl,_⟩:=rx; simp [isN]; done)
theorem od_is:OpR X (compareOp .Is) (r2 X.K isD):=by
 intro pins s σ H v u vv uu Q I rv ru h
 obtain ⟨ρ,x,y,c,W,rx,ry,p⟩:=h
 unfold isD at p
 split at p
 ·cases ry
  exact op_isN pins s σ H _ _ vv uu Q I rv ru ⟨rfl,by rw [isN_ok rx]; exact p.here W rfl⟩
 ·exact p.elim
theorem od_isnot:OpR X (compareOp .IsNot) (r2 X.K qe7):=by
 intro pins s σ H v u vv uu Q I rv ru h
 obtain ⟨ρ,x,y,c,W,rx,ry,p⟩:=h
 unfold qe7 at p
 split at p
 ·cases ry
  exact op_notN pins s σ H _ _ vv uu Q I rv ru ⟨rfl,by rw [isN_ok rx]; exact p.here W rfl⟩
 ·exact p.elim
theorem pd_chain {a b d:Expr} {da db dd:Ev→List Cell→R D} {pos:Pos} {op op':CmpOp} {f g:D→D→List Cell→R D} (ho:OpR X (compareOp op) (r2 X.K f)) (ho':OpR X (compareOp op') (r2 X.K g)) (ha:PEd X a da) (hb:PEd X b db) (hd:PEd X d dd)
  (h1:lastMarks [op,op'] [b,d]=false:=by with_unfolding_all rfl) :
  PEd X (.Compare a [op,op'] [b,d] pos) (dChain f g da db dd):=(pe_chain ho ho' ha hb hd h1).imp fun σ H Q h=>by
 obtain ⟨ρ,e,c,W,V,p⟩:=h
 refine ⟨ρ,e,c,W,V,post.bind p fun x c1 ρ1 H1 v _ W1 X1 r1 p1=>⟨ρ1,e,c1,W1,V.mono W X1,post.bind p1 fun y c2 ρ2 H2 u _ W2 X2 r2 p2=>⟨ρ2,x,y,c2,W2,Rel.mono W1 X2 _ _ r1,r2,post.bind p2 fun z c3 ρ3 H3 w _ W3 X3 r3 p3=>?_⟩⟩⟩
 have V3:=(V.mono W X1).mono W1 (X2.trans X3)
 cases z with
 | bl k =>
  cases r3
  refine ⟨k,rfl,?_⟩
  cases k with
  | true =>
   refine iteT ⟨ρ3,e,c3,W3,V3,post.bind p3 fun t c4 ρ4 H4 w4 _ W4 X4 r4 p4=>⟨ρ4,y,t,c4,W4,Rel.mono W2 (X3.trans X4) _ _ r2,r4,p4⟩⟩
  | false=>exact iteF (p3.here W3 rfl)
 | _=>exact p3.elim
end
def seqD (c:List Cell):D→Option (List D)
 | .tup l=>some l
 | .lst l=>some l
 | .scr l=>some (l.map D.int)
 | .ref k=>match c[k]? with
  | some (.lst l)=>some l
  | none=>none
 | _=>none
def ixD:D→D→List Cell→R D:=fun x y c=>match y with
 | .int i=>match seqD c x with
  | some l=>match atI l i with
   | some d=>.ok d c
   | none=>.bad
  | none=>.bad
 | _=>.bad
section
variable {X:Cx} {K:PySem.W.Frag} {ρ:List Addr} {H:Hp} {c:List Cell}
theorem seqD_ok {x:D} {v:V} {l:List D} (W:Wd K ρ H c) (rx:Rel K ρ H x v) (h:seqD c x=some l):∃ a xs,v=.ref a∧(SqL K H a xs∨SqT K H a xs)∧Rels K ρ H l xs:=by
 cases x with
 | tup m =>
  cases h
  obtain ⟨a,xs,e,s,r⟩:=rx
  exact ⟨a,xs,e,.inr (SqT.of s),r⟩
 | lst m =>
  cases h
  obtain ⟨a,xs,e,s,r⟩:=rx
  exact ⟨a,xs,e,.inl (SqL.of s.1),r⟩
 | scr m =>
  cases h
  obtain ⟨a,e,s⟩:=rx
  exact ⟨a,_,e,.inl s.sql,Rels.ints⟩
 | ref k =>
  obtain ⟨a,e,s⟩:=rx
  unfold seqD at h
  dsimp only at h
  cases hc:c[k]? with
  | none=>rw [hc] at h; cases h
  | some cl =>
   cases cl with
   | lst m =>
    rw [hc] at h; cases h
    obtain ⟨_,xs,hx,r⟩:=W.cel k a _ s hc
    exact ⟨a,xs,e,.inl (SqL.of hx),r⟩
 | _=>cases h
theorem atI_rel {l:List D} {xs:List V} {i:Int} {d:D} (r:Rels K ρ H l xs) (h:atI l i=some d):∃ v,atI xs i=some v∧Rel K ρ H d v:=by
 unfold atI at h ⊢
 rw [r.length]
 cases e:ixN l.length i with
 | none=>rw [e] at h; cases h
 | some j =>
  rw [e] at h
  exact r.get (i:=j) h
theorem qax:IxR X (r2 X.K ixD):=by
 intro value slice pins s σ H v u vv uu Q I rv ru h hs
 obtain ⟨ρ,x,y,c,W,rx,ry,p⟩:=h
 unfold ixD at p
 split at p
 ·split at p
  ·rename_i l hl
   split at p
   ·rename_i d hd
    cases ry
    obtain ⟨a,xs,rfl,sq,r⟩:=seqD_ok W rx hl
    obtain ⟨w,hw,rw'⟩:=atI_rel r hd
    rcases sq with sq | sq
    ·exact ix_list value slice pins s σ H _ _ vv uu Q I rv ru ⟨a,xs,_,w,rfl,rfl,sq,hw,p.here W rw'⟩ hs
    ·exact ix_tup value slice pins s σ H _ _ vv uu Q I rv ru ⟨a,xs,_,w,rfl,rfl,sq,hw,p.here W rw'⟩ hs
   ·exact p.elim
  ·exact p.elim
 ·exact p.elim
end
end L2
namespace L2
open PySem PySem.Spec PyProof.Rows
def truD (c:List Cell):D→Option Bool
 | .non=>some false
 | .bl b=>some b
 | .int i=>some (i != 0)
 | .tup l=>some (!l.isEmpty)
 | .lst l=>some (!l.isEmpty)
 | .ref k=>match c[k]? with
  | some (.lst l)=>some (!l.isEmpty)
  | none=>none
 | _=>none
def dTru (a:Ev→List Cell→R D):Ev→List Cell→R Bool:=fun e c=>(a e c).bind fun x c=>match truD c x with
 | some b=>.ok b c
 | none=>.bad
def dBl (a:Ev→List Cell→R D):Ev→List Cell→R Bool:=fun e c=>(a e c).bind fun x c=>match x with
 | .bl b=>.ok b c
 | _=>.bad
def dAndT (a b:Ev→List Cell→R Bool):Ev→List Cell→R Bool:=fun e c=>(a e c).bind fun x c=>if x=true then b e c else .ok false c
def dOrT (a b:Ev→List Cell→R Bool):Ev→List Cell→R Bool:=fun e c=>(a e c).bind fun x c=>if x=true then .ok true c else b e c
def dNotT (a:Ev→List Cell→R Bool):Ev→List Cell→R Bool:=fun e c=>(a e c).bind fun x c=>.ok (!x) c
def qfZ (a b:Ev→List Cell→R D):Ev→List Cell→R D:=fun e c=>(a e c).bind fun x c=>match x with
 | .bl k=>if k=true then b e c else .ok (.bl false) c
 | _=>.bad
def dOrV (a b:Ev→List Cell→R D):Ev→List Cell→R D:=fun e c=>(a e c).bind fun x c=>match x with
 | .bl k=>if k=true then .ok (.bl true) c else b e c
 | _=>.bad
def dNotV (a:Ev→List Cell→R D):Ev→List Cell→R D:=fun e c=>(a e c).bind fun x c=>match x with
 | .bl k=>.ok (.bl (!k)) c
 | _=>.bad
def dIfE (t:Ev→List Cell→R Bool) (a b:Ev→List Cell→R D):Ev→List Cell→R D:=fun e c=>(t e c).bind fun x c=>if x=true then a e c else b e c
section
variable {X:Cx} {a b c':Expr} {da db:Ev→List Cell→R D} {ta tb:Ev→List Cell→R Bool} {pos:Pos} {rest:List Expr}
theorem tru_rel {K:PySem.W.Frag} {ρ:List Addr} {H:Hp} {c:List Cell} {x:D} {v:V} {k:Bool} (W:Wd K ρ H c) (rx:Rel K ρ H x v) (h:truD c x=some k):TruV K v H k:=by
 have emp:∀ {l:List D} {xs:List V},Rels K ρ H l xs→l.isEmpty=xs.isEmpty:=fun {l xs} r=>by
  have:=r.length
  cases l <;> cases xs <;> simp_all
 cases x with
 | non=>cases rx; cases h; exact rfl
 | bl b=>cases rx; cases h; exact rfl
 | int i=>cases rx; cases h; exact rfl
 | tup l =>
  obtain ⟨a,xs,rfl,s,r⟩:=rx
  cases h
  exact .inr (.inl ⟨xs,SqT.of s,by rw [emp r]⟩)
 | lst l =>
  obtain ⟨a,xs,rfl,s,r⟩:=rx
  cases h
  exact .inl ⟨xs,SqL.of s.1,by rw [emp r]⟩
 | ref j =>
  obtain ⟨a,rfl,s⟩:=rx
  unfold truD at h
  dsimp only at h
  cases hc:c[j]? with
  | none=>rw [hc] at h; cases h
  | some cl =>
   cases cl with
   | lst m =>
    rw [hc] at h; cases h
    obtain ⟨_,xs,hx,r⟩:=W.cel j a _ s hc
    exact .inl ⟨xs,SqL.of hx,by rw [emp r]⟩
 | _=>cases h
theorem pd_tru (ha:PEd X a da) (he:∀ whole,isTrue a X.env whole=(do let v ← whole; standAt a.pos; holding [v] (truthy v)):=by intro _; rfl):PTd X a (dTru da):=(pt_truth ha he).imp fun σ H Q h=>by
 obtain ⟨ρ,e,c,W,V,p⟩:=h
 refine ⟨ρ,e,c,W,V,post.bind p fun x c1 ρ1 H1 v _ W1 X1 r1 p1=>?_⟩
 split at p1
 ·rename_i k hk
  exact ⟨k,tru_rel W1 r1 hk,p1.here W1 rfl⟩
 ·exact p1.elim
theorem blT (h:tD X.K (fun _ _ a b=>a=b) (dBl da) σ H Q):tD X.K (Rel X.K) da σ H fun x H'=>∃ k,x=.bl k∧Q k H':=by
 obtain ⟨ρ,e,c,W,V,p⟩:=h
 refine ⟨ρ,e,c,W,V,post.bind p fun x c1 ρ1 H1 v _ W1 X1 r1 p1=>?_⟩
 cases x with
 | bl k=>cases r1; exact ⟨k,rfl,p1.here W1 rfl⟩
 | _=>exact p1.elim
theorem qeb (ha:PEd X a da) (he:∀ whole,isTrue a X.env whole=(do let v ← whole; standAt a.pos; holding [v] (truthy v)):=by intro _; rfl):PTd X a (dBl da):=(pt_val ha he).imp fun σ H Q h=>blT h
theorem qb2 {op:CmpOp} {f:D→D→List Cell→R D} (ho:OpR X (compareOp op) (r2 X.K f)) (ha:PEd X a da) (hb:PEd X b db) (hm:behindInMarks op b=false:=by first | exact nomark _ | rfl):PTd X (.Compare a [op] [b] pos) (dBl (dBin f da db)) :=
 (pt_cmpR ho ha hb hm).imp fun σ H Q h=>t_bin (Q:=fun x H'=>∃ k,x=.bl k∧Q k H') (blT h)
theorem pd_and1 (ha:PTd X a ta):PWd X (.BoolOp .And [a] pos) ta:=pw_and1 ha
theorem pd_or1 (ha:PTd X a ta):PWd X (.BoolOp .Or [a] pos) ta:=pw_or1 ha
theorem pd_andT (ha:PTd X a ta) (hb:PWd X (.BoolOp .And (b :: rest) pos) tb):PWd X (.BoolOp .And (a :: b :: rest) pos) (dAndT ta tb):=(pw_and ha hb).imp fun σ H Q h=>by
 obtain ⟨ρ,e,c,W,V,p⟩:=h
 refine ⟨ρ,e,c,W,V,post.bind p fun x c1 ρ1 H1 v _ W1 X1 r1 p1=>?_⟩
 cases r1
 cases x with
 | true=>exact iteT ⟨ρ1,e,c1,W1,V.mono W X1,p1⟩
 | false=>exact iteF (post.here (a:=false) p1 W1 rfl)
theorem pd_orT (ha:PTd X a ta) (hb:PWd X (.BoolOp .Or (b :: rest) pos) tb):PWd X (.BoolOp .Or (a :: b :: rest) pos) (dOrT ta tb):=(pw_or ha hb).imp fun σ H Q h=>by
 obtain ⟨ρ,e,c,W,V,p⟩:=h
 refine ⟨ρ,e,c,W,V,post.bind p fun x c1 ρ1 H1 v _ W1 X1 r1 p1=>?_⟩
 cases r1
 cases x with
 | true=>exact iteT (post.here (a:=true) p1 W1 rfl)
 | false=>exact iteF ⟨ρ1,e,c1,W1,V.mono W X1,p1⟩
theorem pd_notT (ha:PTd X a ta):PTd X (.UnaryOp .Not a pos) (dNotT ta):=(pt_not ha).imp fun σ H Q h=>by
 obtain ⟨ρ,e,c,W,V,p⟩:=h
 refine ⟨ρ,e,c,W,V,post.bind p fun x c1 ρ1 H1 v _ W1 X1 r1 p1=>?_⟩
 cases r1
 exact p1.here W1 rfl
theorem qeY {op} (h:PEd X a da):PEd X (.BoolOp op [a] pos) da:=pe_one h
theorem qf0 (ha:PEd X a da) (hb:PEd X (.BoolOp .And (b :: rest) pos) db):PEd X (.BoolOp .And (a :: b :: rest) pos) (qfZ da db):=(pe_and ha hb).imp fun σ H Q h=>by
 obtain ⟨ρ,e,c,W,V,p⟩:=h
 refine ⟨ρ,e,c,W,V,post.bind p fun x c1 ρ1 H1 v _ W1 X1 r1 p1=>?_⟩
 cases x with
 | bl k =>
  cases r1
  refine ⟨k,rfl,?_⟩
  cases k with
  | true=>exact iteT ⟨ρ1,e,c1,W1,V.mono W X1,p1⟩
  | false=>exact iteF (post.here (a:=D.bl false) p1 W1 rfl)
 | _=>exact p1.elim
theorem pd_not (ha:PEd X a da):PEd X (.UnaryOp .Not a pos) (dNotV da):=(pe_not ha).imp fun σ H Q h=>by
 obtain ⟨ρ,e,c,W,V,p⟩:=h
 refine ⟨ρ,e,c,W,V,post.bind p fun x c1 ρ1 H1 v _ W1 X1 r1 p1=>?_⟩
 cases x with
 | bl k=>cases r1; exact ⟨k,rfl,p1.here W1 rfl⟩
 | _=>exact p1.elim
theorem pd_ifE (ht:PTd X c' ta) (ha:PEd X a da) (hb:PEd X b db):PEd X (.IfExp c' a b pos) (dIfE ta da db):=(pe_ifExp ht ha hb).imp fun σ H Q h=>by
 obtain ⟨ρ,e,c,W,V,p⟩:=h
 refine ⟨ρ,e,c,W,V,post.bind p fun x c1 ρ1 H1 v _ W1 X1 r1 p1=>?_⟩
 cases r1
 cases x with
 | true=>exact iteT ⟨ρ1,e,c1,W1,V.mono W X1,p1⟩
 | false=>exact iteF ⟨ρ1,e,c1,W1,V.mono W X1,p1⟩
end
inductive Fl where
 | nx (e:Ev) | rt (d:D) | bk (e:Ev) | ct (e:Ev)
abbrev LC:=List Cell
abbrev yD:=Ev→List Cell→R D
abbrev dF:=Ev→List Cell→R Fl
abbrev dB:=Ev→List Cell→R Bool
abbrev dS:=Ev→List Cell→R (List D)
inductive FV where
 | nx (σ:St) | rt (v:V) | bk (σ:St) | ct (σ:St)
def RelF (K:PySem.W.Frag) (ρ:List Addr) (H:Hp):Fl→FV→Prop
 | .nx e,f=>∃ σ,f=.nx σ∧REnv K ρ H e σ
 | .rt d,f=>∃ v,f=.rt v∧Rel K ρ H d v
 | .bk e,f=>∃ σ,f=.bk σ∧REnv K ρ H e σ
 | .ct e,f=>∃ σ,f=.ct σ∧REnv K ρ H e σ
def En (Z:Ends):FV→Hp→Prop
 | .nx σ,H=>Z.nx σ H
 | .rt v,H=>Z.rt v H
 | .bk σ,H=>Z.bk σ H
 | .ct σ,H=>Z.ct σ H
def tSD (K:PySem.W.Frag) (d:dF):TS:=fun Z σ H=>tD K (RelF K) d σ H (En Z)
abbrev PSd (X:Cx) (st:Stmt) (d:dF):Prop:=PS X st (tSD X.K d)
abbrev PSsd (X:Cx) (st:List Stmt) (d:dF):Prop:=PSs X st (tSD X.K d)
def qbI:dF:=fun e c=>.ok (.nx e) c
def sSeq (a b:dF):dF:=fun e c=>(a e c).bind fun f c=>match f with
 | .nx e=>b e c
 | f=>.ok f c
def sRet (a:yD):dF:=fun e c=>(a e c).bind fun x c=>.ok (.rt x) c
def qbJ (a:yD):dF:=fun e c=>(a e c).bind fun _ c=>.ok (.nx e) c
def sIf (t:dB) (a b:dF):dF:=fun e c=>(t e c).bind fun x c=>if x=true then a e c else b e c
def sSet (i:Nat) (a:yD):dF:=fun e c=>(a e c).bind fun x c=>.ok (.nx (e.set i (some x))) c
def sBad:dF:=fun _ _=>.bad
def sBreak:dF:=fun e c=>.ok (.bk e) c
def sCont:dF:=fun e c=>.ok (.ct e) c
section
variable {X:Cx} {st:Stmt} {rest:List Stmt} {t u:dF} {e:Expr} {da:yD} {pos:Pos}
theorem qcf:PSsd X [] qbI:=pss_nil.imp fun Z σ H h=>by
 obtain ⟨ρ,e,c,W,V,p⟩:=h
 exact p.here W ⟨σ,rfl,V⟩
theorem qa6 (h1:PSd X st t) (h2:PSsd X rest u):PSsd X (st :: rest) (sSeq t u):=(pss_cons h1 h2).imp fun Z σ H h=>by
 obtain ⟨ρ,e,c,W,V,p⟩:=h
 refine ⟨ρ,e,c,W,V,post.bind p fun f c1 ρ1 H1 b _ W1 X1 r1 p1=>?_⟩
 cases f with
 | nx e1=>obtain ⟨σ1,rfl,V1⟩:=r1; exact ⟨ρ1,e1,c1,W1,V1,p1⟩
 | rt d=>obtain ⟨v,rfl,V1⟩:=r1; exact post.here (Q:=En Z) (show post X.K (RelF X.K) (.ok (Fl.rt d) c1) ρ1 H1 (En Z) from p1) W1 ⟨_,rfl,V1⟩
 | bk e1=>obtain ⟨σ1,rfl,V1⟩:=r1; exact post.here (Q:=En Z) (show post X.K (RelF X.K) (.ok (Fl.bk e1) c1) ρ1 H1 (En Z) from p1) W1 ⟨_,rfl,V1⟩
 | ct e1=>obtain ⟨σ1,rfl,V1⟩:=r1; exact post.here (Q:=En Z) (show post X.K (RelF X.K) (.ok (Fl.ct e1) c1) ρ1 H1 (En Z) from p1) W1 ⟨_,rfl,V1⟩
theorem qaa (h1:PSd X st t):PSsd X [st] t:=pss_one h1
theorem qgu:PSd X st sBad:=fun _ _ _ _ _ _ h=>by
 obtain ⟨ρ,e,c,W,V,p⟩:=h
 exact p.elim
theorem qal (he:PEd X e da):PSd X (.Return (some e) pos) (sRet da):=(ps_ret he).imp fun Z σ H h=>by
 obtain ⟨ρ,e,c,W,V,p⟩:=h
 refine ⟨ρ,e,c,W,V,post.bind p fun x c1 ρ1 H1 v _ W1 X1 r1 p1=>p1.here W1 ⟨v,rfl,r1⟩⟩
theorem qc7 (he:PEd X e da) (hs:swapsWith e none pos.line X.env=pure false:=by rfl):PSd X (.Expr e pos) (qbJ da):=(ps_expr he hs).imp fun Z σ H h=>by
 obtain ⟨ρ,e,c,W,V,p⟩:=h
 refine ⟨ρ,e,c,W,V,post.bind p fun x c1 ρ1 H1 v _ W1 X1 r1 p1=>p1.here W1 ⟨σ,rfl,V.mono W X1⟩⟩
theorem qdx {c':Expr} {a b:List Stmt} {tc:dB} (hc:PTd X c' tc) (ha:PSsd X a t) (hb:PSsd X b u):PSd X (.If c' a b pos) (sIf tc t u):=(ps_if hc ha hb).imp fun Z σ H h=>by
 obtain ⟨ρ,e,c,W,V,p⟩:=h
 refine ⟨ρ,e,c,W,V,post.bind p fun x c1 ρ1 H1 v _ W1 X1 r1 p1=>?_⟩
 cases r1
 cases x with
 | true=>exact iteT ⟨ρ1,e,c1,W1,V.mono W X1,p1⟩
 | false=>exact iteF ⟨ρ1,e,c1,W1,V.mono W X1,p1⟩
theorem qaf {i:Nat} {x:Str} {pos':Pos} (he:PEd X e da) (hN:X.N.Nodup:=by decide +kernel) (hi:X.N[i]? = some x:=by rfl) (hx:Loc X.env.scope x:=by first | exact Or.inl rfl | exact Or.inr rfl) (hs:swapsWith e (some (.Name x pos')) pos.line X.env=pure false:=by rfl)
  (hf:X.fn x=true∨X.env.scope.names.lookup x=some .local:=by first | exact .inl rfl | exact .inr rfl):PSd X (.Assign [.Name x pos'] e pos) (sSet i da):=(ps_set hN hi hx he hs).imp fun Z σ H h=>by
 obtain ⟨ρ,e,c,W,V,p⟩:=h
 refine ⟨ρ,e,c,W,V,post.bind p fun x c1 ρ1 H1 v _ W1 X1 r1 p1=>p1.here W1 ⟨_,rfl,(V.mono W X1).set r1 i⟩⟩
end
abbrev Gd:=D→Ev→LC→R Ev
def tGD (K:PySem.W.Frag) (g:Gd):TG:=fun v σ H Q=>∃ ρ x e c,Wd K ρ H c∧REnv K ρ H e σ∧Rel K ρ H x v∧post K (fun ρ H e σ=>REnv K ρ H e σ) (g x e c) ρ H Q
def tGsD (K:PySem.W.Frag) (g:List D→Ev→LC→R Ev):TGs:=fun vs σ H Q=>∃ ρ xs e c,Wd K ρ H c∧REnv K ρ H e σ∧Rels K ρ H xs vs∧post K (fun ρ H e σ=>REnv K ρ H e σ) (g xs e c) ρ H Q
abbrev PGd (X:Cx) (e:Expr) (g:Gd):Prop:=PG X e (tGD X.K g)
abbrev PGsd (X:Cx) (es:List Expr) (g:List D→Ev→LC→R Ev):Prop:=PGs X es (tGsD X.K g)
def qa3 (i:Nat):Gd:=fun x e c=>.ok (e.set i (some x)) c
def qce:List D→Ev→LC→R Ev:=fun xs e c=>match xs with
 | []=>.ok e c
 | _=>.bad
def qaj (g:Gd) (r:List D→Ev→LC→R Ev):List D→Ev→LC→R Ev:=fun xs e c=>match xs with
 | x :: xs=>(g x e c).bind fun e c=>r xs e c
 | _=>.bad
def qca (n:Nat) (g:List D→Ev→LC→R Ev):Gd:=fun x e c=>match x with
 | .tup l=>if l.length=n then g l e c else .bad
 | _=>.bad
theorem PG.imp {X:Cx} {e:Expr} {t t':TG} (h:PG X e t) (i:∀ v σ H Q,t' v σ H Q→t v σ H Q):PG X e t':=fun pins s σ H x u Q I r q=>h pins s σ H x u Q I r (i _ _ _ _ q)
theorem PGs.imp {X:Cx} {es:List Expr} {t t':TGs} (h:PGs X es t) (i:∀ v σ H Q,t' v σ H Q→t v σ H Q):PGs X es t':=fun pins s σ H x u Q I r q=>h pins s σ H x u Q I r (i _ _ _ _ q)
section
variable {X:Cx} {pos:Pos}
theorem qac {i:Nat} {x:Str} (hN:X.N.Nodup:=by decide +kernel) (hi:X.N[i]? = some x:=by rfl) (hx:Loc X.env.scope x:=by first | exact Or.inl rfl | exact Or.inr rfl) (hf:X.fn x=true∨X.env.scope.names.lookup x=some .local:=by first | exact .inl rfl | exact .inr rfl):PGd X (.Name x pos) (qa3 i) :=
 (pg_name hN hi hx hf).imp fun v σ H Q h=>by
  obtain ⟨ρ,x,e,c,W,V,r,p⟩:=h
  exact p.here W (V.set r i)
theorem qdH:PGsd X [] qce:=pgs_nil.imp fun v σ H Q h=>by
 obtain ⟨ρ,xs,e,c,W,V,r,p⟩:=h
 cases xs with
 | nil=>exact ⟨r,p.here W V⟩
 | cons x xs=>exact p.elim
theorem qb5 {e:Expr} {es:List Expr} {g:Gd} {u:List D→Ev→LC→R Ev} (h1:PGd X e g) (h2:PGsd X es u) (hs:(assignEach (e :: es) X.env).map (·.2)=assign e X.env :: (assignEach es X.env).map (·.2):=by rfl):PGsd X (e :: es) (qaj g u) :=
 (pgs_cons h1 h2 hs).imp fun v σ H Q h=>by
  obtain ⟨ρ,xs,e,c,W,V,r,p⟩:=h
  cases xs with
  | nil=>exact p.elim
  | cons x xs =>
   obtain ⟨y,ys,rfl,rx,rs⟩:=r
   exact ⟨y,ys,rfl,ρ,x,e,c,W,V,rx,post.bind p fun e1 c1 ρ1 H1 σ1 _ W1 X1 V1 p1=>⟨ρ1,xs,e1,c1,W1,V1,Rels.mono W X1 _ _ rs,p1⟩⟩
theorem qf7 {es:List Expr} {k:Nat} {g:List D→Ev→LC→R Ev} {n:Nat} (h:PGsd X es g) (hc:X.calm=true:=by rfl) (hn:(assignEach es X.env).length=n:=by rfl) (hst:(assignEach es X.env).findIdx? (·.1)=none:=by rfl):PGd X (.Tuple es k pos) (qca n g) :=
 (pg_tup hc h hn hst).imp fun v σ H Q h=>by
  obtain ⟨ρ,x,e,c,W,V,r,p⟩:=h
  cases x with
  | tup l =>
   obtain ⟨a,xs,rfl,s,rs⟩:=r
   unfold qca at p
   dsimp only at p
   split at p
   ·rename_i hl
    exact ⟨a,xs,rfl,SqT.of s,rs.length.trans hl,ρ,l,e,c,W,V,rs,p⟩
   ·exact p.elim
  | _=>exact p.elim
def sAsg (a:yD) (g:Gd):dF:=fun e c=>(a e c).bind fun x c=>(g x e c).bind fun e c=>.ok (.nx e) c
theorem sd_asg {tg e:Expr} {da:yD} {g:Gd} (he:PEd X e da) (hg:PGd X tg g) (hs:swapsWithSole [tg] e pos.line X.env=pure false:=by rfl) (hw:swappedStores [tg] e X.env=pure none:=by rfl)
  (h1:(assignEach [tg] X.env).map (·.2)=[assign tg X.env]:=by rfl):PSd X (.Assign [tg] e pos) (sAsg da g):=(ps_asg he hg hs hw h1).imp fun Z σ H h=>by
 obtain ⟨ρ,e,c,W,V,p⟩:=h
 refine ⟨ρ,e,c,W,V,post.bind p fun x c1 ρ1 H1 v _ W1 X1 r1 p1=>⟨ρ1,x,e,c1,W1,V.mono W X1,r1,post.bind p1 fun e2 c2 ρ2 H2 σ2 _ W2 X2 V2 p2=>p2.here W2 ⟨σ2,rfl,V2⟩⟩⟩
def setD:D→D→D→LC→R Unit:=fun o i v c=>match o,i with
 | .ref k,.int i=>match c[k]? with
  | some (.lst l)=>match ixN l.length i with
   | some j=>if qaS v=true then .ok () (c.set k (.lst (l.set j v))) else .bad
   | none=>.bad
  | none=>.bad
 | _,_=>.bad
def qgP (o i:yD):Gd:=fun x e c=>(o e c).bind fun o c=>(i e c).bind fun i c=>(setD o i x c).bind fun _ c=>.ok e c
theorem gd_sub {o i:Expr} {dO di:yD} (ho:PEd X o dO) (hi:PEd X i di)
  (ha:∀ v,assign (.Subscript o i pos) X.env v=(do
   let ov ← holding [v] (eval o X.env)
   let iv ← holding [v,ov] (eval i X.env)
   standAt pos
   holding [v,ov,iv] (setItem ov iv v)
   release [v,ov,iv] []):=by intro _; rfl):PGd X (.Subscript o i pos) (qgP dO di):=(pg_sub ho hi set_list ha).imp fun v σ H Q h=>by
 obtain ⟨ρ,x,e,c,W,V,rx,p⟩:=h
 refine ⟨ρ,e,c,W,V,post.bind p fun o c1 ρ1 H1 ov _ W1 X1 r1 p1=>⟨ρ1,e,c1,W1,V.mono W X1,post.bind p1 fun i c2 ρ2 H2 iv _ W2 X2 r2 p2=>?_⟩⟩
 have V2:=(V.mono W X1).mono W1 X2
 have rx2:=Rel.mono W (X1.trans X2) _ _ rx
 have ro:=Rel.mono W1 X2 _ _ r1
 unfold setD at p2
 split at p2
 ·rename_i k i _ _
  split at p2
  ·rename_i l hl
   split at p2
   ·rename_i j hj
    split at p2
    ·rename_i hv
     obtain ⟨a,rfl,ha⟩:=ro
     cases r2
     obtain ⟨nr,ys,hy,rl⟩:=W2.cel k a _ ha hl
     refine ⟨a,ys,i,j,rfl,rfl,hy,by rw [rl.length]; exact hj,?_⟩
     exact p2 ρ2 _ σ (W2.write ha (qg7 nr hv) (rl.set j rx2)) (Ext.write ha) (V2.mono W2 (Ext.write ha))
    ·exact p2.elim
   ·exact p2.elim
  ·exact p2.elim
 ·exact p2.elim
end
end L2
namespace L2
open PySem PySem.Spec PyProof.Rows
structure Src where
 items:List D
 stays:LC→Prop
def JS (K:PySem.W.Frag) (ρ:List Addr) (H:Hp) (s:Src) (J:It):Prop :=
 ∀ ρ' H' c',Wd K ρ' H' c'→Ext ρ H ρ' H'→s.stays c'→∀ i:Nat,
  (∀ d,s.items[i]? = some d→J.go i H'∧∀ x H2,J.yld i H' x H2→Wd K ρ' H2 c'∧Ext ρ' H' ρ' H2∧Rel K ρ' H2 d x)∧(i=s.items.length→J.stop i H')
def tID (K:PySem.W.Frag) (d:Ev→LC→R Src):TI:=tD K (JS K) d
abbrev PId (X:Cx) (tg iter:Expr) (d:Ev→LC→R Src):Prop:=PI X tg iter (tID X.K d)
theorem PI.imp {X:Cx} {tg iter:Expr} {t t':TI} (h:PI X tg iter t) (i:∀ σ H Q,t' σ H Q→t σ H Q):PI X tg iter t':=fun pins s σ H Q I q=>h pins s σ H Q I (i _ _ _ q)
def dSeq (a:yD):Ev→LC→R Src:=fun e c=>(a e c).bind fun x c=>match x with
 | .lst l=>.ok ⟨l,fun _=>True⟩ c
 | .scr l=>.ok ⟨l.map D.int,fun _=>True⟩ c
 | .ref k=>match c[k]? with
  | some (.lst l)=>.ok ⟨l,fun c=>c[k]? = some (.lst l)⟩ c
  | none=>.bad
 | _=>.bad
def qeB (a:yD):Ev→LC→R Src:=fun e c=>(a e c).bind fun x c=>match x with
 | .tup l=>.ok ⟨l,fun _=>True⟩ c
 | _=>.bad
def rngD (lo hi:Int):List D:=(List.range (hi - lo).toNat).map fun (i:Nat)=>D.int (lo + (i:Int))
def qbe (a:dS):Ev→LC→R Src:=fun e c=>(a e c).bind fun xs c=>match xs with
 | [.int j]=>if -(2 ^ 62)≤j∧j < 2 ^ 62 then .ok ⟨rngD 0 j,fun _=>True⟩ c else .bad
 | _=>.bad
def qfg (a:dS):Ev→LC→R Src:=fun e c=>(a e c).bind fun xs c=>match xs with
 | [.int i,.int j]=>if -(2 ^ 62)≤i∧i < 2 ^ 62∧-(2 ^ 62)≤j∧j < 2 ^ 62 then .ok ⟨rngD i j,fun _=>True⟩ c else .bad
 | _=>.bad
def dZip (a:dS):Ev→LC→R Src:=fun e c=>(a e c).bind fun xs c=>match xs with
 | [.tup l,.tup m]=>.ok ⟨List.zipWith (fun x y=>.tup [x,y]) l m,fun _=>True⟩ c
 | _=>.bad
def qgV (a:dS):Ev→LC→R Src:=fun e c=>(a e c).bind fun xs c=>match xs with
 | [.tup l]=>.ok ⟨l.mapIdx fun i x=>.tup [.int i,x],fun _=>True⟩ c
 | _=>.bad
section
variable {X:Cx} {tg:Expr} {K:PySem.W.Frag} {ρ:List Addr} {H:Hp}
theorem js_list {l:List D} {a:Addr} {st:LC→Prop} (h:∀ ρ' H' c',Wd K ρ' H' c'→Ext ρ H ρ' H'→st c'→∃ xs,SqL K H' a xs∧Rels K ρ' H' l xs):JS K ρ H ⟨l,st⟩ (Itl K a):=by
 intro ρ' H' c' W E s i
 obtain ⟨xs,q,r⟩:=h ρ' H' c' W E s
 refine ⟨fun d hd=>?_,fun e=>⟨xs,q,by rw [r.length]; exact Nat.le_of_eq e.symm⟩⟩
 obtain ⟨x,hx,rx⟩:=r.get hd
 refine ⟨⟨xs,x,q,hx⟩,fun y H2 hy=>?_⟩
 obtain ⟨rfl,hy⟩:=hy
 have:=hy xs q
 rw [hx] at this; cases this
 exact ⟨W,Ext.refl,rx⟩
theorem js_tup {l:List D} {a:Addr} {st:LC→Prop} (h:∀ ρ' H' c',Wd K ρ' H' c'→Ext ρ H ρ' H'→st c'→∃ xs,SqT K H' a xs∧Rels K ρ' H' l xs):JS K ρ H ⟨l,st⟩ (Itt K a):=by
 intro ρ' H' c' W E s i
 obtain ⟨xs,q,r⟩:=h ρ' H' c' W E s
 refine ⟨fun d hd=>?_,fun e=>⟨xs,q,by rw [r.length]; exact Nat.le_of_eq e.symm⟩⟩
 obtain ⟨x,hx,rx⟩:=r.get hd
 refine ⟨⟨xs,x,q,hx⟩,fun y H2 hy=>?_⟩
 obtain ⟨rfl,hy⟩:=hy
 have:=hy xs q
 rw [hx] at this; cases this
 exact ⟨W,Ext.refl,rx⟩
theorem qfy {lo hi:Int} {i:Nat} {d:D} (h:(rngD lo hi)[i]? = some d):i < (hi - lo).toNat∧d=.int (lo + i):=by
 unfold rngD at h
 rw [List.getElem?_map] at h
 cases q:(List.range (hi - lo).toNat)[i]? with
 | none=>rw [q] at h; cases h
 | some j =>
  rw [q] at h
  have h1:=(List.getElem?_eq_some_iff.mp q)
  obtain ⟨h2,h3⟩:=h1
  rw [List.getElem_range] at h3
  subst h3
  cases h
  exact ⟨by simpa using h2,rfl⟩
theorem js_rng {lo hi:Int} {st:LC→Prop}:JS K ρ H ⟨rngD lo hi,st⟩ (Itr lo (hi - lo).toNat):=by
 intro ρ' H' c' W E s i
 refine ⟨fun d hd=>?_,fun e=>?_⟩
 ·obtain ⟨h1,rfl⟩:=qfy hd
  refine ⟨h1,fun x H2 hy=>?_⟩
  obtain ⟨rfl,rfl⟩:=hy
  exact ⟨W,Ext.refl,rfl⟩
 ·have:(rngD lo hi).length=(hi - lo).toNat:=by simp [rngD]
  show (hi - lo).toNat≤i
  rw [e]
  exact Nat.le_of_eq this.symm
theorem qdG {l:Expr} {dl:yD} (hl:PEd X l dl):PId X tg l (dSeq dl):=(pi_list hl).imp fun σ H Q h=>by
 obtain ⟨ρ,e,c,W,V,p⟩:=h
 refine ⟨ρ,e,c,W,V,post.bind p fun x c1 ρ1 H1 v _ W1 X1 r1 p1=>?_⟩
 cases x with
 | lst l =>
  obtain ⟨a,xs,rfl,s,rs⟩:=r1
  exact ⟨a,rfl,⟨xs,SqL.of s.1⟩,p1.here W1 (js_list fun ρ' H' c' W' E _=>⟨xs,SqL.of (qgH E s).1,Rels.mono W1 E _ _ rs⟩)⟩
 | scr l =>
  obtain ⟨a,rfl,s⟩:=r1
  exact ⟨a,rfl,⟨_,s.sql⟩,p1.here W1 (js_list fun ρ' H' c' W' E _=>⟨_,(sqP_mono E s).sql,Rels.ints⟩)⟩
 | ref k =>
  obtain ⟨a,rfl,ha⟩:=r1
  dsimp only at p1
  split at p1
  ·rename_i l hl
   obtain ⟨_,xs,hx,rs⟩:=W1.cel k a _ ha hl
   refine ⟨a,rfl,⟨xs,SqL.of hx⟩,p1.here W1 (js_list fun ρ' H' c' W' E st=>?_)⟩
   obtain ⟨_,ys,hy,rs'⟩:=W'.cel k a _ (E.pre k a ha) st
   exact ⟨ys,SqL.of hy,rs'⟩
  ·exact p1.elim
 | _=>exact p1.elim
theorem id_tup {l:Expr} {dl:yD} (hl:PEd X l dl):PId X tg l (qeB dl):=(pi_tup hl).imp fun σ H Q h=>by
 obtain ⟨ρ,e,c,W,V,p⟩:=h
 refine ⟨ρ,e,c,W,V,post.bind p fun x c1 ρ1 H1 v _ W1 X1 r1 p1=>?_⟩
 cases x with
 | tup l =>
  obtain ⟨a,xs,rfl,s,rs⟩:=r1
  exact ⟨a,rfl,⟨xs,SqT.of s⟩,p1.here W1 (js_tup fun ρ' H' c' W' E _=>⟨xs,SqT.of (qeh W1 E s),Rels.mono W1 E _ _ rs⟩)⟩
 | _=>exact p1.elim
theorem qb9 {a:Expr} {da:dS} {p pos:Pos} (ha:PAd X [a] da) (hm:X.mg "range"=none) (hg:Gl X "range":=by rfl) (hs:starEach [a] X.env=[(false,eval a X.env)]:=by exact star1 rfl):PId X tg (.Call (.Name "range" p) [a] [] pos) (qbe da) :=
 (pi_range1 hg hm ha hs).imp fun σ H Q h=>by
  obtain ⟨ρ,e,c,W,V,p⟩:=h
  refine ⟨ρ,e,c,W,V,post.bind p fun x c1 ρ1 H1 v _ W1 X1 r1 p1=>?_⟩
  split at p1
  ·rename_i j _
   split at p1
   ·rename_i hj
    obtain ⟨y,ys,rfl,ry,rs⟩:=r1
    cases ry; cases rs
    refine ⟨j,rfl,hj.1,hj.2,p1.here W1 ?_⟩
    have:=js_rng (K:=X.K) (ρ:=ρ1) (H:=H1) (lo:=0) (hi:=j) (st:=fun _=>True)
    rw [Int.sub_zero] at this
    exact this
   ·exact p1.elim
  ·exact p1.elim
theorem qgN {a b:Expr} {da:dS} {p pos:Pos} (ha:PAd X [a,b] da) (hm:X.mg "range"=none) (hg:Gl X "range":=by rfl) (hs:starEach [a,b] X.env=[(false,eval a X.env),(false,eval b X.env)]:=by exact star2 rfl rfl) (hs2:starEach [b] X.env=[(false,eval b X.env)]:=by exact star1 rfl):PId X tg (.Call (.Name "range" p) [a,b] [] pos) (qfg da) :=
 (pi_range2 hg hm ha hs hs2).imp fun σ H Q h=>by
  obtain ⟨ρ,e,c,W,V,p⟩:=h
  refine ⟨ρ,e,c,W,V,post.bind p fun x c1 ρ1 H1 v _ W1 X1 r1 p1=>?_⟩
  split at p1
  ·rename_i i j _
   split at p1
   ·rename_i hj
    obtain ⟨y,ys,rfl,ry,z,zs,rfl,rz,rs⟩:=r1
    cases ry; cases rz; cases rs
    exact ⟨i,j,rfl,hj,p1.here W1 js_rng⟩
   ·exact p1.elim
  ·exact p1.elim
theorem js_zip {l m:List D} {a b:Addr} {st:LC→Prop} (h:∀ ρ' H' c',Wd K ρ' H' c'→Ext ρ H ρ' H'→st c'→∃ xs ys,SqT K H' a xs∧SqT K H' b ys∧Rels K ρ' H' l xs∧Rels K ρ' H' m ys):JS K ρ H ⟨List.zipWith (fun x y=>.tup [x,y]) l m,st⟩ (Itz (SqT K) a b):=by
 intro ρ' H' c' W E s i
 obtain ⟨xs,ys,q1,q2,r1,r2⟩:=h ρ' H' c' W E s
 refine ⟨fun d hd=>?_,fun e=>⟨xs,ys,q1,q2,?_⟩⟩
 ·have hd:(List.zipWith (fun x y=>D.tup [x,y]) l m)[i]? = some d:=hd
  rw [List.getElem?_zipWith] at hd
  cases e1:l[i]? with
  | none=>rw [e1] at hd; cases hd
  | some x =>
   cases e2:m[i]? with
   | none=>rw [e1,e2] at hd; cases hd
   | some y =>
    rw [e1,e2] at hd
    cases hd
    obtain ⟨v,hv,rv⟩:=r1.get e1
    obtain ⟨u,hu,ru⟩:=r2.get e2
    refine ⟨⟨xs,ys,v,u,q1,q2,hv,hu⟩,fun z H2 hz=>?_⟩
    obtain ⟨t,v',u',rfl,ht,rfl,hz⟩:=hz
    obtain ⟨z1,z2⟩:=hz xs ys q1 q2
    rw [hv] at z1; rw [hu] at z2
    cases z1; cases z2
    exact ⟨W.fresh ht,Ext.fresh W ht,t,[v,u],rfl,qaM,v,[u],rfl,Rel.mono W (Ext.fresh W ht) _ _ rv,u,[],rfl,Rel.mono W (Ext.fresh W ht) _ _ ru,rfl⟩
 ·have e:i=(List.zipWith (fun x y=>D.tup [x,y]) l m).length:=e
  rw [List.length_zipWith] at e
  rw [r1.length,r2.length]
  omega
theorem js_enum {l:List D} {a:Addr} {st:LC→Prop} (h:∀ ρ' H' c',Wd K ρ' H' c'→Ext ρ H ρ' H'→st c'→∃ xs,SqT K H' a xs∧Rels K ρ' H' l xs):JS K ρ H ⟨l.mapIdx fun i x=>.tup [.int i,x],st⟩ (Ite (SqT K) a):=by
 intro ρ' H' c' W E s i
 obtain ⟨xs,q,r⟩:=h ρ' H' c' W E s
 refine ⟨fun d hd=>?_,fun e=>⟨xs,q,?_⟩⟩
 ·have hd:(l.mapIdx fun i x=>D.tup [.int i,x])[i]? = some d:=hd
  rw [List.getElem?_mapIdx] at hd
  cases e1:l[i]? with
  | none=>rw [e1] at hd; cases hd
  | some x =>
   rw [e1] at hd
   cases hd
   obtain ⟨v,hv,rv⟩:=r.get e1
   refine ⟨⟨xs,v,q,hv⟩,fun z H2 hz=>?_⟩
   obtain ⟨t,v',rfl,ht,rfl,hz⟩:=hz
   have z1:=hz xs q
   rw [hv] at z1
   cases z1
   exact ⟨W.fresh ht,Ext.fresh W ht,t,[.int i,v],rfl,qaM,.int i,[v],rfl,rfl,v,[],rfl,Rel.mono W (Ext.fresh W ht) _ _ rv,rfl⟩
 ·have e:i=(l.mapIdx fun i x=>D.tup [.int i,x]).length:=e
  rw [List.length_mapIdx] at e
  rw [r.length]; exact e
theorem id_enum {es:List Expr} {k:Nat} {pt:Pos} {a:Expr} {da:dS} {p pos:Pos} (ha:PAd X [a] da) (hm:X.mg "enumerate"=none) (hg:Gl X "enumerate":=by rfl) (hs:starEach [a] X.env=[(false,eval a X.env)]:=by exact star1 rfl) :
  PId X (.Tuple es k pt) (.Call (.Name "enumerate" p) [a] [] pos) (qgV da):=(pi_enumT hg hm ha hs).imp fun σ H Q h=>by
 obtain ⟨ρ,e,c,W,V,p⟩:=h
 refine ⟨ρ,e,c,W,V,post.bind p fun x c1 ρ1 H1 v _ W1 X1 r1 p1=>?_⟩
 split at p1
 ·obtain ⟨y,ys,rfl,ry,rs⟩:=r1
  cases rs
  obtain ⟨a1,xs,rfl,s1,t1⟩:=ry
  exact ⟨a1,rfl,⟨xs,SqT.of s1⟩,p1.here W1 (js_enum fun ρ' H' c' W' E _=>⟨xs,SqT.of (qeh W1 E s1),Rels.mono W1 E _ _ t1⟩)⟩
 ·exact p1.elim
open Classical in
def forD (st:LC→Prop) (g:Gd) (b:dF):List D→dF
 | [],e,c=>if st c then .ok (.nx e) c else .bad
 | x :: xs,e,c=>if st c then (g x e c).bind fun e c=>(b e c).bind fun f c=>match f with
   | .nx e=>forD st g b xs e c
   | .ct e=>forD st g b xs e c
   | .bk e=>.ok (.nx e) c
   | .rt d=>.ok (.rt d) c
  else .bad
def sFor (s:Ev→LC→R Src) (g:Gd) (b:dF):dF:=fun e c=>(s e c).bind fun s c=>forD s.stays g b s.items e c
theorem qbk {iter:Expr} {body:List Stmt} {ds:Ev→LC→R Src} {g:Gd} {db:dF} {pos:Pos} (hi:PId X tg iter ds) (hg:PGd X tg g) (hb:PSsd X body db) (hp:PassesOwn (model X.prog X.w) X.A X.env X.xe:=by exact PassesOwn.never) (hc:X.calm=true:=by rfl)
  (hs:∀ x,foldedSetIterable iter X.env x=pure x:=by intro _; rfl):PSd X (.For tg iter body [] pos) (sFor ds g db):=(ps_for hp hc hi hg hb hs).imp fun Z σ H h=>by
 obtain ⟨ρ,e,c,W,V,p⟩:=h
 refine ⟨ρ,e,c,W,V,post.bind p fun s c1 ρ1 H1 J _ W1 X1 j1 p1=>?_⟩
 refine ⟨fun i m σ H=>∃ ρ e c,Wd X.K ρ H c∧Ext ρ1 H1 ρ H∧REnv X.K ρ H e σ∧i≤s.items.length∧m=s.items.length - i∧post X.K (RelF X.K) (forD s.stays g db (s.items.drop i) e c) ρ H (En Z),
  ⟨_,ρ1,e,c1,W1,Ext.refl,V.mono W X1,Nat.zero_le _,rfl,p1⟩,?_⟩
 rintro i m σ2 H2 ⟨ρ2,e2,c2,W2,X2,V2,hi2,rfl,p2⟩
 by_cases hl:i < s.items.length
 ·rw [List.drop_eq_getElem_cons hl] at p2
  unfold forD at p2
  split at p2
  ·rename_i hst
   obtain ⟨go,yl⟩:=(j1 ρ2 H2 c2 W2 X2 hst i).1 _ (List.getElem?_eq_getElem hl)
   refine .inr ⟨go,fun σ' H'=>∃ ρ e c,Wd X.K ρ H' c∧Ext ρ1 H1 ρ H'∧REnv X.K ρ H' e σ'∧i + 1≤s.items.length∧post X.K (RelF X.K) (forD s.stays g db (s.items.drop (i + 1)) e c) ρ H' (En Z),?_,fun x H3 hy=>?_⟩
   ·rintro σ' H' ⟨ρ,e,c,w,x,v,l,q⟩
    exact ⟨s.items.length - (i + 1),by omega,ρ,e,c,w,x,v,l,rfl,q⟩
   ·obtain ⟨W3,X3,r3⟩:=yl x H3 hy
    refine ⟨ρ2,_,e2,c2,W3,V2.mono W2 X3,r3,post.bind (post.ext p2 X3) fun e4 c4 ρ4 H4 σ4 _ W4 X4 V4 p4=>?_⟩
    refine ⟨ρ4,e4,c4,W4,V4,post.bind p4 fun f c5 ρ5 H5 b _ W5 X5 r5 p5=>?_⟩
    have X15:=((X2.trans X3).trans X4).trans X5
    cases f with
    | nx e1=>obtain ⟨σ1,rfl,V1⟩:=r5; exact ⟨ρ5,e1,c5,W5,X15,V1,hl,p5⟩
    | ct e1=>obtain ⟨σ1,rfl,V1⟩:=r5; exact ⟨ρ5,e1,c5,W5,X15,V1,hl,p5⟩
    | bk e1=>obtain ⟨σ1,rfl,V1⟩:=r5; exact post.here (Q:=En Z) (show post X.K (RelF X.K) (.ok (Fl.nx e1) c5) ρ5 H5 (En Z) from p5) W5 ⟨_,rfl,V1⟩
    | rt d=>obtain ⟨v,rfl,V1⟩:=r5; exact post.here (Q:=En Z) (show post X.K (RelF X.K) (.ok (Fl.rt d) c5) ρ5 H5 (En Z) from p5) W5 ⟨_,rfl,V1⟩
  ·exact p2.elim
 ·obtain rfl:i=s.items.length:=by omega
  rw [List.drop_eq_nil_of_le (Nat.le_refl _)] at p2
  unfold forD at p2
  split at p2
  ·rename_i hst
   exact .inl ⟨(j1 ρ2 H2 c2 W2 X2 hst _).2 rfl,post.here (Q:=En Z) p2 W2 ⟨σ2,rfl,V2⟩⟩
  ·exact p2.elim
def qcD (t:dB) (b:dF):Nat→dF
 | 0,_,_=>.bad
 | n + 1,e,c=>(t e c).bind fun k c=>if k=true then (b e c).bind fun f c=>match f with
   | .nx e=>qcD t b n e c
   | .ct e=>qcD t b n e c
   | .bk e=>.ok (.nx e) c
   | .rt d=>.ok (.rt d) c
  else .ok (.nx e) c
theorem sd_while {n:Nat} {c':Expr} {body:List Stmt} {dt:dB} {db:dF} {pos:Pos} (ht:PTd X c' dt) (hb:PSsd X body db) (hp:PassesOwn (model X.prog X.w) X.A X.env X.xe:=by exact PassesOwn.never):PSd X (.While c' body [] pos) (qcD dt db n):=(ps_while hp ht hb).imp fun Z σ H h=>by
 obtain ⟨ρ,e,c,W,V,p⟩:=h
 refine ⟨fun m σ H=>∃ ρ e c,Wd X.K ρ H c∧REnv X.K ρ H e σ∧post X.K (RelF X.K) (qcD dt db m e c) ρ H (En Z),⟨n,ρ,e,c,W,V,p⟩,?_⟩
 rintro m σ2 H2 ⟨ρ2,e2,c2,W2,V2,p2⟩
 cases m with
 | zero=>exact p2.elim
 | succ m =>
  unfold qcD at p2
  refine ⟨ρ2,e2,c2,W2,V2,post.bind p2 fun k c3 ρ3 H3 b _ W3 X3 r3 p3=>?_⟩
  cases r3
  cases k with
  | true =>
   refine iteT ⟨fun σ H=>∃ ρ e c,Wd X.K ρ H c∧REnv X.K ρ H e σ∧post X.K (RelF X.K) (qcD dt db m e c) ρ H (En Z),fun σ' H' q=>⟨m,Nat.lt_succ_self _,q⟩,?_⟩
   refine ⟨ρ3,e2,c3,W3,V2.mono W2 X3,post.bind p3 fun f c5 ρ5 H5 b _ W5 X5 r5 p5=>?_⟩
   cases f with
   | nx e1=>obtain ⟨σ1,rfl,V1⟩:=r5; exact ⟨ρ5,e1,c5,W5,V1,p5⟩
   | ct e1=>obtain ⟨σ1,rfl,V1⟩:=r5; exact ⟨ρ5,e1,c5,W5,V1,p5⟩
   | bk e1=>obtain ⟨σ1,rfl,V1⟩:=r5; exact post.here (Q:=En Z) (show post X.K (RelF X.K) (.ok (Fl.nx e1) c5) ρ5 H5 (En Z) from p5) W5 ⟨_,rfl,V1⟩
   | rt d=>obtain ⟨v,rfl,V1⟩:=r5; exact post.here (Q:=En Z) (show post X.K (RelF X.K) (.ok (Fl.rt d) c5) ρ5 H5 (En Z) from p5) W5 ⟨_,rfl,V1⟩
  | false=>exact iteF (post.here (Q:=En Z) (show post X.K (RelF X.K) (.ok (Fl.nx e2) c3) ρ3 H3 (En Z) from p3) W3 ⟨_,rfl,V2.mono W2 X3⟩)
end
end L2
namespace L2
open PySem PySem.Spec PyProof.Rows
def qdq (pick:List (Option Nat)) (e:Ev):Ev:=pick.map fun o=>o.bind fun j=>(e[j]?).bind id
open Classical in
def qaI (st:LC→Prop) (g:Gd) (t:dB) (el:yD):List D→Ev→List D→LC→R (List D)
 | [],e,acc,c=>if st c then .ok acc c else .bad
 | x :: xs,e,acc,c=>if st c then (g x e c).bind fun e c=>(t e c).bind fun k c=>if k=true then (el e c).bind fun y c=>qaI st g t el xs e (acc ++ [y]) c else qaI st g t el xs e acc c else .bad
def qaN (s:Ev→LC→R Src) (pick:List (Option Nat)) (g:Gd) (t:dB) (el:yD):yD:=fun e c=>(s e c).bind fun s c =>
 if s.items.length < sizeLine then (qaI s.stays g t el s.items (qdq pick e) [] c).bind fun l c=>.ok (.lst l) c else .bad
def dYes:dB:=fun _ c=>.ok true c
abbrev PIfd (X:Cx) (ifs:List Expr) (t:dB):Prop:=PIfs X ifs (tD X.K (fun _ _ a b=>a=b) t)
section
variable {X:Cx} {N':List Str} {pick:List (Option Nat)} {scope:Scope} {tg elt iter:Expr} {ifs:List Expr} {pos:Pos} {ds:Ev→LC→R Src} {g:Gd} {dt:dB} {de:yD}
theorem qbf:PIfd X [] dYes:=fun pins s σ H Q I h=>by
 obtain ⟨ρ,e,c,W,V,p⟩:=h
 exact pifs_nil pins s σ H Q I (post.here (b:=true) p W rfl)
theorem qel {c':Expr} (h:PTd X c' dt):PIfd X [c'] dt:=pifs_one h
theorem REnv.picked {K:PySem.W.Frag} {ρ:List Addr} {H:Hp} {e:Ev} {σ:St} (V:REnv K ρ H e σ):REnv K ρ H (qdq pick e) (qgs pick σ):=by
 refine ⟨fun i d h=>?_,by simp [qdq,qgs]⟩
 unfold qdq at h
 unfold qgs
 rw [List.getElem?_map] at h ⊢
 cases q:pick[i]? with
 | none=>rw [q] at h; cases h
 | some o =>
  rw [q] at h
  cases o with
  | none=>cases h
  | some j =>
   have h':(e[j]?).bind id=some d:=Option.some.inj h
   cases q2:e[j]? with
   | none=>rw [q2] at h'; cases h'
   | some z =>
    rw [q2] at h'
    have h'':z=some d:=h'
    subst h''
    obtain ⟨v,hv,r⟩:=V.get j d q2
    exact ⟨v,by simp [hv],r⟩
theorem compW_of {K:PySem.W.Frag} {ρ1:List Addr} {H1:Hp} {c1:LC} {e:Ev} {σ:St} {s:Src} {J:It} {Q:VK} (W1:Wd K ρ1 H1 c1) (V1:REnv K ρ1 H1 e σ) (j1:JS K ρ1 H1 s J) (hn:s.items.length < sizeLine)
  (p1:post K (Rel K) ((qaI s.stays g dt de s.items e [] c1).bind fun l c=>.ok (.lst l) c) ρ1 H1 Q):CompW J (tGD K g) (tD K (fun _ _ a b=>a=b) dt) (tD K (Rel K) de) Q σ H1:=by
 refine ⟨fun i m σ ys H=>∃ ρ e acc c,Wd K ρ H c∧Ext ρ1 H1 ρ H∧REnv K ρ H e σ∧Rels K ρ H acc ys∧acc.length≤i∧i≤s.items.length∧m=s.items.length - i∧post K (Rel K) ((qaI s.stays g dt de (s.items.drop i) e acc c).bind fun l c=>.ok (.lst l) c) ρ H Q,
  ⟨_,ρ1,e,[],c1,W1,Ext.refl,V1,rfl,Nat.le_refl _,Nat.zero_le _,rfl,p1⟩,?_⟩
 rintro i m σ2 ys H2 ⟨ρ2,e2,acc,c2,W2,X2,V2,r2,ha,hi2,rfl,p2⟩
 refine ⟨by rw [r2.length]; omega,?_⟩
 by_cases hl:i < s.items.length
 ·rw [List.drop_eq_getElem_cons hl] at p2
  unfold qaI at p2
  split at p2
  ·rename_i hst
   obtain ⟨go,yl⟩:=(j1 ρ2 H2 c2 W2 X2 hst i).1 _ (List.getElem?_eq_getElem hl)
   refine .inr ⟨go,fun σ' ys' H'=>∃ ρ e acc c,Wd K ρ H' c∧Ext ρ1 H1 ρ H'∧REnv K ρ H' e σ'∧Rels K ρ H' acc ys'∧acc.length≤i + 1∧i + 1≤s.items.length∧post K (Rel K) ((qaI s.stays g dt de (s.items.drop (i + 1)) e acc c).bind fun l c=>.ok (.lst l) c) ρ H' Q,?_,fun x H3 hy=>?_⟩
   ·rintro σ' ys' H' ⟨ρ,e,acc,c,w,x,v,r,a,l,q⟩
    exact ⟨s.items.length - (i + 1),by omega,ρ,e,acc,c,w,x,v,r,a,l,rfl,q⟩
   ·obtain ⟨W3,X3,r3⟩:=yl x H3 hy
    have assoc:∀ {α β γ:Type} (r:R α) (f:α→LC→R β) (g:β→LC→R γ),(r.bind f).bind g=r.bind fun a c=>(f a c).bind g:=fun r f g=>by cases r <;> rfl
    rw [assoc] at p2
    refine ⟨ρ2,_,e2,c2,W3,V2.mono W2 X3,r3,post.bind (post.ext p2 X3) fun e4 c4 ρ4 H4 σ4 _ W4 X4 V4 p4=>?_⟩
    rw [assoc] at p4
    refine ⟨ρ4,e4,c4,W4,V4,post.bind p4 fun k c5 ρ5 H5 b _ W5 X5 r5 p5=>?_⟩
    cases r5
    have X15:=((X2.trans X3).trans X4).trans X5
    have r25:=Rels.mono W2 ((X3.trans X4).trans X5) _ _ r2
    cases k with
    | true =>
     refine iteT ?_
     rw [if_pos rfl,assoc] at p5
     refine ⟨ρ5,e4,c5,W5,V4.mono W4 X5,post.bind p5 fun y c6 ρ6 H6 v _ W6 X6 r6 p6=>?_⟩
     refine ⟨ρ6,e4,acc ++ [y],c6,W6,X15.trans X6,(V4.mono W4 X5).mono W5 X6,(Rels.mono W5 X6 _ _ r25).append ⟨v,[],rfl,r6,rfl⟩,by simp; exact ha,hl,p6⟩
    | false =>
     refine iteF ?_
     rw [if_neg Bool.false_ne_true] at p5
     exact ⟨ρ5,e4,acc,c5,W5,X15,V4.mono W4 X5,r25,Nat.le_succ_of_le ha,hl,p5⟩
  ·exact p2.elim
 ·obtain rfl:i=s.items.length:=by omega
  rw [List.drop_eq_nil_of_le (Nat.le_refl _)] at p2
  unfold qaI at p2
  split at p2
  ·rename_i hst
   exact .inl ⟨(j1 ρ2 H2 c2 W2 X2 hst _).2 rfl,qeO W2 r2 p2⟩
  ·exact p2.elim
theorem comp_T {σ:St} {H:Hp} {Q:VK} {K:PySem.W.Frag} (h:tD K (Rel K) (qaN ds pick g dt de) σ H Q):tComp (tID K ds) pick (tGD K g) (tD K (fun _ _ a b=>a=b) dt) (tD K (Rel K) de) σ H Q:=by
 obtain ⟨ρ,e,c,W,V,p⟩:=h
 refine ⟨ρ,e,c,W,V,post.bind p fun s c1 ρ1 H1 J _ W1 X1 j1 p1=>?_⟩
 split at p1
 ·rename_i hn
  exact compW_of W1 (V.mono W X1).picked j1 hn p1
 ·exact p1.elim
theorem qbq (S:CompScope X N' pick scope) (hit:PId X tg iter ds)
  (hg:∀ cl C s₀ H₀ ex pn,PGd (qbZ X N' scope cl C s₀ H₀ ex pn) tg g) (hi:∀ cl C s₀ H₀ ex pn,PIfd (qbZ X N' scope cl C s₀ H₀ ex pn) ifs dt) (he:∀ cl C s₀ H₀ ex pn,PEd (qbZ X N' scope cl C s₀ H₀ ex pn) elt de)
  (hc:X.calm=true:=by rfl) (hs:∀ x,foldedSetIterable iter X.env x=pure x:=by intro _; rfl) :
  PEd X (.ListComp elt [⟨tg,iter,ifs,0⟩] scope pos) (qaN ds pick g dt de):=(pe_comp S hc hit hg hi he hs).imp fun σ H Q h=>comp_T h
theorem qg0 {i:Nat} {y:Str} {py spos:Pos} (S:CompScope X N' pick scope) (hit:PId X tg iter ds)
  (hg:∀ cl C s₀ H₀ ex pn,PGd (qbZ X N' scope cl C s₀ H₀ ex pn) tg g) (hi:∀ cl C s₀ H₀ ex pn,PIfd (qbZ X N' scope cl C s₀ H₀ ex pn) ifs dt) (he:∀ cl C s₀ H₀ ex pn,PEd (qbZ X N' scope cl C s₀ H₀ ex pn) elt de)
  (hsw:swapsWith (.ListComp elt [⟨tg,iter,ifs,0⟩] scope pos) (some (.Name y py)) spos.line X.env=pure true:=by rfl) (hN:X.N.Nodup:=by decide +kernel) (hy:X.N[i]? = some y:=by rfl) (hl:X.env.scope.names.lookup y=some .local:=by rfl)
  (hc:X.calm=true:=by rfl) (hs:∀ x,foldedSetIterable iter X.env x=pure x:=by intro _; rfl) :
  PSd X (.Assign [.Name y py] (.ListComp elt [⟨tg,iter,ifs,0⟩] scope pos) spos) (sSet i (qaN ds pick g dt de)):=(ps_setComp (g:=tGD X.K g) (tt:=tD X.K (fun _ _ a b=>a=b) dt) (te:=tD X.K (Rel X.K) de) hsw hN hy hl S hc hit hg hi he hs).imp fun Z σ H h=>by
 refine comp_T (g:=g) (dt:=dt) (de:=de) ?_
 obtain ⟨ρ,e,c,W,V,p⟩:=h
 refine ⟨ρ,e,c,W,V,post.bind p fun x c1 ρ1 H1 v _ W1 X1 r1 p1=>p1.here W1 ⟨_,rfl,(V.mono W X1).set r1 i⟩⟩
end
def spD (K:PySem.W.Frag) (n:Nat) (m:List D→LC→R D):Sp:=fun vs H Q _=>∃ ρ xs c,Wd K ρ H c∧Rels K ρ H xs vs∧xs.length=n∧post K (Rel K) (m xs c) ρ H Q
def qa7 (n:Nat) (m:List D→LC→R D) (a:dS):yD:=fun e c=>(a e c).bind fun xs c=>if xs.length=n then m xs c else .bad
def qbs (n:Nat) (xs:List D):Ev:=xs.map some ++ List.replicate (n - xs.length) none
def qbx (own:Bool) (n:Nat) (v:D) (c:LC):R D:=match v with
 | .ref k=>match c[k]? with
  | some (.lst l)=>if n≤k then (if own=true then .ok (.ref n) (c.take n ++ [.lst l]) else .ok (.lst l) (c.take n)) else .bad
  | none=>.bad
 | v=>if qaS v=true then .ok v (c.take n) else .bad
def fnD (n:Nat) (own:Bool) (d:dF):List D→LC→R D:=fun xs c=>(d (qbs n xs) c).bind fun f c'=>match f with
 | .rt v=>qbx own c.length v c'
 | .nx _=>qbx own c.length .non c'
 | _=>.bad
section
variable {P:Program} {w:World} {K:PySem.W.Frag} {mg:Str→Option Value} {base:Heap}
theorem qgS {own:Bool} {ρ ρ1:List Addr} {H H1:Hp} {c c1:LC} {v:D} {x:V} {Q:VK} (W:Wd K ρ H c) (W1:Wd K ρ1 H1 c1) (X1:Ext ρ H ρ1 H1) (r:Rel K ρ1 H1 v x) (p:post K (Rel K) (qbx own c.length v c1) ρ H Q):Q x H1:=by
 have hn:=Ext.len W W1 X1
 have Wc:=W1.cut hn
 have Xc:=X1.cut (n:=c.length) (Nat.le_of_eq W.len)
 unfold qbx at p
 split at p
 ·rename_i k
  split at p
  ·rename_i l hl
   split at p
   ·rename_i hk
    obtain ⟨a,rfl,ha⟩:=r
    obtain ⟨nr,xs,hx,rl⟩:=W1.cel k a _ ha hl
    have na:a∉ρ1.take c.length:=by
     intro h
     obtain ⟨j,hj,e⟩:=List.mem_iff_getElem.mp h
     have hj2:j < c.length:=by simp at hj; omega
     rw [List.getElem_take] at e
     have hk1:=List.getElem?_eq_some_iff.mp ha
     have hjl:j < ρ1.length:=by simp at hj; omega
     have:=(List.getElem_inj W1.nd (h₀:=hjl) (h₁:=hk1.1)).mp (e.trans hk1.2.symm)
     omega
    have sub:∀ b,b∈ρ1.take c.length→b∈ρ1:=fun b h=>List.mem_of_mem_take h
    split at p
    ·have lr:(ρ1.take c.length).length=c.length:=by simp [W1.len]; omega
     refine p (ρ1.take c.length ++ [a]) H1 (.ref a) ?_ ?_ ⟨a,rfl,?_⟩
     ·refine ⟨?_,by simp [W1.len],fun j b cl e1 e2=>?_,W1.tab⟩
      ·rw [List.nodup_append]
       refine ⟨Wc.nd,by simp,?_⟩
       intro y hy z hz
       rw [List.mem_singleton] at hz
       subst hz
       exact fun q=>na (q ▸ hy)
      ·by_cases hj:j < c.length
       ·rw [List.getElem?_append_left (by rw [lr]; exact hj)] at e1
        rw [List.getElem?_append_left (by simp; omega)] at e2
        have q:=Wc.cel j b cl e1 e2
        cases cl with
        | lst l' =>
         obtain ⟨nr',ys,hy,r'⟩:=q
         refine ⟨nr',ys,hy,Rels.low (ρ:=ρ1) (fun z hz=>?_) l' ys nr' ?_⟩
         ·rcases List.mem_append.mp hz with hz | hz
          ·exact sub z hz
          ·rw [List.mem_singleton] at hz; subst hz; exact List.mem_of_getElem? ha
         ·have e1':ρ1[j]? = some b:=by rw [List.getElem?_take,if_pos hj] at e1; exact e1
          have e2':c1[j]? = some (.lst l'):=by rw [List.getElem?_take,if_pos hj] at e2; exact e2
          obtain ⟨_,zs,hz,rz⟩:=W1.cel j b _ e1' e2'
          rw [hy] at hz; cases hz
          exact rz
       ·have hj':j=c.length:=by
         have:=(List.getElem?_eq_some_iff.mp e1).1
         rw [List.length_append,lr] at this
         simp at this
         omega
        subst hj'
        rw [List.getElem?_append_right (by rw [lr]; exact Nat.le_refl _),lr,Nat.sub_self] at e1
        rw [List.getElem?_append_right (by simp; omega),show c.length - (List.take c.length c1).length=0 by simp; omega] at e2
        cases e1; cases e2
        refine ⟨nr,xs,hx,Rels.low (ρ:=ρ1) (fun z hz=>?_) l xs nr rl⟩
        rcases List.mem_append.mp hz with hz | hz
        ·exact sub z hz
        ·rw [List.mem_singleton] at hz; subst hz; exact List.mem_of_getElem? ha
     ·refine ⟨fun j b e=>?_,fun b o e z t=>?_⟩
      ·have q:=Xc.pre j b e
       rw [List.getElem?_append_left (List.getElem?_eq_some_iff.mp q).1]; exact q
      ·obtain ⟨h1,h2⟩:=X1.keep b o e z t
       refine ⟨h1,fun q=>h2 ?_⟩
       rcases List.mem_append.mp q with q | q
       ·exact sub b q
       ·rw [List.mem_singleton] at q; subst q; exact List.mem_of_getElem? ha
     ·rw [List.getElem?_append_right (by rw [lr]; exact Nat.le_refl _),lr,Nat.sub_self]; rfl
    ·exact p (ρ1.take c.length) H1 (.ref a) Wc Xc ⟨a,xs,rfl,⟨hx,na⟩,Rels.low sub l xs nr rl⟩
   ·exact p.elim
  ·exact p.elim
 ·split at p
  ·rename_i hv
   exact p _ H1 x Wc Xc (Rel.low (fun b h=>List.mem_of_mem_take h) _ _ hv r)
  ·exact p.elim
theorem REnv.start {ρ:List Addr} {H:Hp} {xs:List D} {vs:List V} {N:List Str} (r:Rels K ρ H xs vs):REnv K ρ H (qbs N.length xs) (start N vs):=by
 have hl:=r.length
 refine ⟨fun i d h=>?_,by simp [qbs,L2.start,hl]⟩
 unfold qbs at h
 unfold L2.start
 by_cases hi:i < xs.length
 ·rw [List.getElem?_append_left (by simpa using hi),List.getElem?_map] at h
  cases q:xs[i]? with
  | none=>rw [q] at h; cases h
  | some x =>
   rw [q] at h
   cases h
   obtain ⟨v,hv,rv⟩:=r.get q
   exact ⟨v,by rw [List.getElem?_append_left (by simp [hl]; exact hi),List.getElem?_map,hv]; rfl,rv⟩
 ·rw [List.getElem?_append_right (by simpa using Nat.le_of_not_lt hi)] at h
  have:=List.mem_of_getElem? h
  rw [List.mem_replicate] at this
  cases this.2
theorem qbr {x qual:Str} {st:Stmt} {f:Addr} {fd:FuncData} {N ps:List Str} {k n m:Nat} {own:Bool} {d:dF} (F:Fun K x qual st f fd) (S:qag N ps (qa5 st)) (hN:N.length=n) (hm:ps.length=m)
  (hb:∀ (cdv:Value) (A:Around) (outer:List Env) (s:Shared) (H:Hp) (E:XK),Room k (A.deeper (envOfC qual (qa5 st) s.heap.objs.size f cdv))→PSsd (cxOf CX0 P w K mg base N qual (qa5 st) f cdv A outer s H E).nox (qad st) d) :
  FnOk P w K mg base CX0 (k + 1) f fd ps (spD K m (fnD n own d)):=by
 subst hN; subst hm
 refine F.ok S (fun vs H Q E h=>?_) (fun cdv A outer s H vs Q E hr h=>⟨_,hb cdv A outer s H E hr,?_⟩)
 ·obtain ⟨ρ,xs,c,W,r,hl,p⟩:=h
  exact r.length.trans hl
 ·obtain ⟨ρ,xs,c,W,r,hl,p⟩:=h
  refine ⟨ρ,qbs N.length xs,c,W,REnv.start r,post.bind p fun fl c1 ρ1 H1 b _ W1 X1 r1 p1=>?_⟩
  cases fl with
  | nx e1 =>
   obtain ⟨σ1,rfl,V1⟩:=r1
   exact qgS (v:=.non) (x:=.non) (H1:=H1) W W1 X1 rfl (by
    unfold fnD at p; exact id (α:=post K (Rel K) (qbx own c.length .non c1) ρ H Q) (by
     rename_i he; rw [he] at p; exact p))
  | rt d =>
   obtain ⟨v,rfl,V1⟩:=r1
   exact qgS (v:=d) (x:=v) (H1:=H1) W W1 X1 V1 (by
    unfold fnD at p; rename_i he; rw [he] at p; exact p)
  | bk e1=>exact p1.elim
  | ct e1=>exact p1.elim
end
end L2
namespace L2
open PySem PySem.Spec PyProof.Rows
section
variable {X:Cx}
theorem qat {x:Str} {st:Stmt} {ps:List Str} {f:Addr} {fd:FuncData} {k n:Nat} {m:List D→LC→R D} {e:Expr} {es:List Expr} {da:dS} {p pos:Pos} (D:Def X.K X.mg x st ps f fd) (G:FnOk X.prog X.w X.K X.mg X.base CX0 k f fd ps (spD X.K n m)) (hr:Room k X.A) (ha:PAd X (e :: es) da) (hg:Gl X x:=by rfl)
  (hdb:(x == ("__debug__":Str))=false:=by decide) (he:starEach (e :: es) X.env=(false,eval e X.env) :: starEach es X.env:=by exact qd6 rfl) (hpl:(backTo pos (starEach es X.env)).any (·.1)=false:=by exact qc6 rfl) :
  PEd X (.Call (.Name x p) (e :: es) [] pos) (qa7 n m da):=(pe_fn D G hr ha hg hdb he hpl).imp fun σ H Q h=>by
 obtain ⟨ρ,e,c,W,V,q⟩:=h
 refine ⟨ρ,e,c,W,V,post.bind q fun xs c1 ρ1 H1 vs _ W1 X1 r1 p1=>?_⟩
 split at p1
 ·rename_i hl
  exact ⟨ρ1,xs,c1,W1,by rw [List.append_nil]; exact r1,hl,p1⟩
 ·exact p1.elim
theorem qae {id:String} {x:Str} {p pos:Pos} {e:Expr} {es:List Expr} {da:dS} {f:List D→LC→R D} (hc:qdK X (.builtin id) (rN X.K f)) (hm:X.mg x=none) (hv:bootBuiltins x=some (.builtin id)) (ha:PAd X (e :: es) da) (hg:Gl X x:=by rfl) (hn:x≠"__name__":=by decide) (hdb:(x == ("__debug__":Str))=false:=by decide)
  (he:starEach (e :: es) X.env=(false,eval e X.env) :: starEach es X.env:=by exact qd6 rfl) (hpl:(backTo pos (starEach es X.env)).any (·.1)=false:=by exact qc6 rfl):PEd X (.Call (.Name x p) (e :: es) [] pos) (dCB f da):=(qgy hc hg hm hv ha hn hdb he hpl).imp fun σ H Q h=>t_cb h
theorem qen {T:String} {x:Str} {p pos:Pos} {e:Expr} {es:List Expr} {da:dS} {f:List D→LC→R D} (hc:qdK X (.type T) (rN X.K f)) (hm:X.mg x=none) (hv:bootBuiltins x=some (.type T)) (ha:PAd X (e :: es) da) (hg:Gl X x:=by rfl) (hn:x≠"__name__":=by decide) (hdb:(x == ("__debug__":Str))=false:=by decide)
  (he:starEach (e :: es) X.env=(false,eval e X.env) :: starEach es X.env:=by exact qd6 rfl) (hpl:(backTo pos (starEach es X.env)).any (·.1)=false:=by exact qc6 rfl):PEd X (.Call (.Name x p) (e :: es) [] pos) (dCB f da):=(qem hc hg hm hv ha hn hdb he hpl).imp fun σ H Q h=>t_cb h
end
def lenD:List D→LC→R D:=fun xs c=>match xs with
 | [x]=>match seqD c x with
  | some l=>.ok (.int l.length) c
  | none=>match x with
   | .str z=>if z.length≤sizeLine then .ok (.int z.length) c else .bad
   | _=>.bad
 | _=>.bad
def tyD:D→Option String
 | .non=>some "NoneType"
 | .bl _=>some "bool"
 | .int _=>some "int"
 | .str _=>some "str"
 | .tup _=>some "tuple"
 | .lst _=>some "list"
 | .ref _=>some "list"
 | _=>none
def isiD:List D→LC→R D:=fun xs c=>match xs with
 | [.dic,.ty T]=>if T∈["bool","int","str","list","tuple","dict"] then .ok (.bl (subT "dict" T)) c else .bad
 | [x,.ty T]=>match tyD x with
  | some n=>if T∈["bool","int","str","list","tuple","dict"] then .ok (.bl (subT n T)) c else .bad
  | none=>.bad
 | _=>.bad
def blsD:List D→Option (List Bool)
 | []=>some []
 | .bl b :: l=>(blsD l).map (b :: ·)
 | _=>none
def qfX:List D→Option (List Int)
 | []=>some []
 | .int i :: l=>(qfX l).map (i :: ·)
 | _=>none
theorem blsD_map (l:List Bool):blsD (l.map D.bl)=some l:=by
 induction l with
 | nil=>rfl
 | cons a l ih=>simp [blsD,ih]
theorem qez (l:List Int):qfX (l.map D.int)=some l:=by
 induction l with
 | nil=>rfl
 | cons a l ih=>simp [qfX,ih]
theorem blsD_eq:∀ {l:List D} {bs:List Bool},blsD l=some bs→l=bs.map D.bl
 | [],bs,h=>by cases h; rfl
 | d :: l,bs,h=>by
  cases d with
  | bl b =>
   unfold blsD at h
   cases q:blsD l with
   | none=>rw [q] at h; cases h
   | some r=>rw [q] at h; cases h; rw [blsD_eq q]; rfl
  | _=>cases h
theorem intsD_eq:∀ {l:List D} {bs:List Int},qfX l=some bs→l=bs.map D.int
 | [],bs,h=>by cases h; rfl
 | d :: l,bs,h=>by
  cases d with
  | int b =>
   unfold qfX at h
   cases q:qfX l with
   | none=>rw [q] at h; cases h
   | some r=>rw [q] at h; cases h; rw [intsD_eq q]; rfl
  | _=>cases h
def quantD (f:List Bool→Bool):List D→LC→R D:=fun xs c=>match xs with
 | [.lst l]=>match blsD l with
  | some bs=>.ok (.bl (f bs)) c
  | none=>.bad
 | _=>.bad
def allD:=quantD fun bs=>bs.all id
def anyD:=quantD fun bs=>bs.any id
def max2D:List D→LC→R D:=fun xs c=>match xs with
 | [.int i,.int j]=>.ok (.int (if j > i then j else i)) c
 | _=>.bad
def min2D:List D→LC→R D:=fun xs c=>match xs with
 | [.int i,.int j]=>.ok (.int (if j < i then j else i)) c
 | _=>.bad
def absD:List D→LC→R D:=fun xs c=>match xs with
 | [.int i]=>.ok (.int (if i < 0 then -i else i)) c
 | _=>.bad
def minL:Int→List Int→Int
 | a,[]=>a
 | a,b :: l=>minL (if b < a then b else a) l
def min1D:List D→LC→R D:=fun xs c=>match xs with
 | [.tup l]=>match qfX l with
  | some (a :: r)=>.ok (.int (minL a r)) c
  | _=>.bad
 | _=>.bad
def qde:List D→LC→R D:=fun xs c=>match xs with
 | [x]=>match seqD c x with
  | some l=>.ok (.tup l) c
  | none=>.bad
 | _=>.bad
def listD:List D→LC→R D:=fun xs c=>match xs with
 | [x]=>match seqD c x with
  | some l=>.ok (.lst l) c
  | none=>.bad
 | _=>.bad
section
variable {X:Cx} {K:PySem.W.Frag} {ρ:List Addr} {H:Hp} {c:LC}
theorem qbK:qdK X (.builtin "len") (rN X.K lenD):=by
 intro pins s σ H vs us Q I rv h
 obtain ⟨ρ,xs,c,W,rx,p⟩:=h
 unfold lenD at p
 split at p
 ·rename_i x
  obtain ⟨v,r,rfl,hx,hr⟩:=rx
  cases hr
  split at p
  ·rename_i l hl
   obtain ⟨a,ys,rfl,sq,r⟩:=seqD_ok W hx hl
   exact call_len_seq pins s σ H _ us Q I rv ⟨a,ys,rfl,sq,by rw [r.length]; exact p.here W rfl⟩
  ·split at p
   ·split at p
    ·rename_i hz
     cases hx
     exact call_len_str pins s σ H _ us Q I rv ⟨_,rfl,hz,p.here W rfl⟩
    ·exact p.elim
   ·exact p.elim
 ·exact p.elim
theorem tyD_ok {x:D} {v:V} {n:String} (W:Wd K ρ H c) (rx:Rel K ρ H x v) (h:tyD x=some n):tyName H v n:=by
 cases x with
 | non=>cases rx; cases h; exact rfl
 | bl b=>cases rx; cases h; exact rfl
 | int b=>cases rx; cases h; exact rfl
 | str b=>cases rx; cases h; exact rfl
 | tup l=>obtain ⟨a,xs,rfl,s,r⟩:=rx; cases h; exact .inr (.inl ⟨rfl,xs,s⟩)
 | lst l=>obtain ⟨a,xs,rfl,s,r⟩:=rx; cases h; exact .inl ⟨rfl,.inl ⟨xs,s.1⟩⟩
 | ref k =>
  obtain ⟨a,rfl,s⟩:=rx
  cases h
  obtain ⟨xs,e⟩:=W.at' (List.mem_of_getElem? s)
  exact .inl ⟨rfl,.inl ⟨xs,e⟩⟩
 | _=>cases h
theorem qdm:qdK X (.builtin "isinstance") (rN X.K isiD):=by
 intro pins s σ H vs us Q I rv h
 obtain ⟨ρ,xs,c,W,rx,p⟩:=h
 unfold isiD at p
 split at p
 ·split at p
  ·rename_i hT
   obtain ⟨v,r,rfl,⟨a,rfl,hH⟩,u,r',rfl,hu,hr⟩:=rx
   cases hr
   cases hu
   obtain ⟨u1,u2,rfl,r1,r2⟩:=Vals.two rv
   cases r1; cases r2
   obtain ⟨hp,_,_⟩:=I.hok a _ hH
   exact PySem.W.kia_one PySem.W.kitx_dict I.kIn hp (kit_sub (n:="dict") (by simp) hT) (fun z=>nomatch z) fun tk=>⟨.bl _,H,I.tok _,rfl,p.here W rfl⟩
  ·exact p.elim
 ·split at p
  ·rename_i n hn
   split at p
   ·rename_i hT
    obtain ⟨v,r,rfl,hx,u,r',rfl,hu,hr⟩:=rx
    cases hr
    cases hu
    exact call_isinst pins s σ H _ us Q I rv ⟨v,n,_,rfl,tyD_ok W hx hn,hT,p.here W rfl⟩
   ·exact p.elim
  ·exact p.elim
 ·exact p.elim
theorem cd_all (hc:X.calm=true:=by rfl):qdK X (.builtin "all") (rN X.K allD):=by
 intro pins s σ H vs us Q I rv h
 obtain ⟨ρ,xs,c,W,rx,p⟩:=h
 unfold allD quantD at p
 split at p
 ·split at p
  ·rename_i bs hb
   obtain ⟨v,r,rfl,⟨a,ys,rfl,s1,r1⟩,hr⟩:=rx
   cases hr
   rw [blsD_eq hb] at r1
   cases r1.bls_inv
   exact call_allB hc pins s σ H _ us Q I rv ⟨a,bs,rfl,SqL.of s1.1,p.here W rfl⟩
  ·exact p.elim
 ·exact p.elim
theorem qfu:qdK X (.type "tuple") (rN X.K qde):=by
 intro pins s σ H vs us Q I rv h
 obtain ⟨ρ,xs,c,W,rx,p⟩:=h
 unfold qde at p
 split at p
 ·rename_i x
  obtain ⟨v,r,rfl,hx,hr⟩:=rx
  cases hr
  split at p
  ·rename_i l hl
   obtain ⟨a,ys,rfl,sq,r⟩:=seqD_ok W hx hl
   refine qgW pins s σ H _ us Q I rv ⟨a,ys,rfl,?_⟩
   rcases sq with sq | sq
   ·exact .inl ⟨sq,new_tup W r p⟩
   ·refine .inr ⟨sq,?_⟩
    cases x with
    | tup m=>cases hl; exact p.here W hx
    | lst m =>
     obtain ⟨b,zs,e,s1,_⟩:=hx
     cases e
     exfalso
     rcases sq with sq | ⟨o,its,n,hk,hcl,_⟩
     ·rcases sq with sq | ⟨o,sq⟩ <;> (rw [s1.1] at sq; cases sq)
     ·have:=I.bs a o (I.ok.mod.kin a o hk)
      rw [s1.1] at this
      cases this.2
    | scr m =>
     exfalso
     obtain ⟨b,e,s1⟩:=hx
     cases e
     obtain ⟨i1,_,pl,_⟩:=I.list s1.sql
     obtain ⟨i2,_,pt,_⟩:=I.tuple sq
     obtain ⟨o1,e1,c1,_⟩:=pl.isList
     obtain ⟨o2,e2,c2,_⟩:=pt
     rw [e1] at e2; cases e2
     rw [c1] at c2
     exact absurd c2 (by decide)
    | ref k =>
     exfalso
     obtain ⟨b,e,s1⟩:=hx
     cases e
     obtain ⟨zs,hz⟩:=W.at' (List.mem_of_getElem? s1)
     rcases sq with sq | ⟨o,its,n,hk,hcl,_⟩
     ·rcases sq with sq | ⟨o,sq⟩ <;> (rw [hz] at sq; cases sq)
     ·have:=I.bs a o (I.ok.mod.kin a o hk)
      rw [hz] at this
      cases this.2
    | _=>cases hl
  ·exact p.elim
 ·exact p.elim
end
def qbQ (o a:yD):yD:=fun e c=>(o e c).bind fun x c=>match x with
 | .ref k=>(a e c).bind fun y c=>match c[k]? with
  | some (.lst l)=>if l.length < sizeLine∧qaS y=true then .ok .non (c.set k (.lst (l ++ [y]))) else .bad
  | none=>.bad
 | _=>.bad
theorem qeo {X:Cx} {o e:Expr} {dO da:yD} {apos cpos:Pos} (ho:PEd X o dO) (ha:PEd X e da)
  (hbase:attributeBase o "append" X.env (eval o X.env)=eval o X.env:=by rfl)
  (hfew:((backTo cpos (starEach [e] X.env)).all (fun x=>!x.1) && (backToKw cpos (keywordEach [] X.env)).all (fun x=>x.1.isSome)
   && decide ([e].length + ([]:List Keyword).length + (if ([]:List Keyword).isEmpty then 0 else 1) < 30))=true:=by exact starFew rfl)
  (hline:(apos.endLine == cpos.line)=true:=by rfl) (hs:starEach [e] X.env=(false,eval e X.env) :: starEach [] X.env:=by exact qd6 rfl) (hplain:(backTo cpos (starEach [] X.env)).any (·.1)=false:=by exact qc6 rfl) :
  PEd X (.Call (.Attribute o "append" apos) [e] [] cpos) (qbQ dO da) :=
 (pe_bm PySem.F.plainAttrs_list PySem.F.slot_list_append PySem.F.type_list_append mt_append ho (qec ha pa_nil hs) hbase hfew hline hs hplain).imp fun σ H Q h=>by
  obtain ⟨ρ,e,c,W,V,p⟩:=h
  refine ⟨ρ,e,c,W,V,post.bind p fun x c1 ρ1 H1 v _ W1 X1 r1 p1=>?_⟩
  cases x with
  | ref k =>
   obtain ⟨a,rfl,ha⟩:=r1
   obtain ⟨xs,hx⟩:=W1.at' (List.mem_of_getElem? ha)
   refine ⟨.inl ⟨rfl,xs,SqL.of hx⟩,ρ1,e,c1,W1,V.mono W X1,post.bind p1 fun y c2 ρ2 H2 u _ W2 X2 r2 p2=>?_⟩
   split at p2
   ·rename_i l hl
    split at p2
    ·rename_i hh
     obtain ⟨nr,ys,hy,rl⟩:=W2.cel k a _ (X2.pre k a ha) hl
     refine ⟨a,ys,u,rfl,rfl,hy,by rw [rl.length]; exact hh.1,?_⟩
     refine p2 ρ2 _ .non (W2.write (X2.pre k a ha) (by rw [qcF,nr]; simp [qak,hh.2]) (rl.append ⟨u,[],rfl,r2,rfl⟩)) (Ext.write (X2.pre k a ha)) rfl
    ·exact p2.elim
   ·exact p2.elim
  | _=>exact p1.elim
end L2
namespace L2
open PySem PySem.Spec PyProof.Rows
def FnW (P:Program) (w:World) (K:PySem.W.Frag) (mg:Str→Option Value) (base:Heap) (A:Around) (n:Nat) (m:List D→LC→R D) (f:Addr):Prop :=
 ∃ k fd ps,FnOk P w K mg base CX0 k f fd ps (spD K n m)∧Room k A∧PySem.W.keepIn K (.ref f)=true∧Binds K fd ps []
abbrev FnV (X:Cx) (n:Nat) (m:List D→LC→R D) (f:Addr):Prop:=FnW X.prog X.w X.K X.mg X.base X.A n m f
def fnsD (xs:List Str):Ev→LC→R Src:=fun _ c=>.ok ⟨xs.mapIdx fun i x=>.fn x i,fun _=>True⟩ c
def dCallV (i n:Nat) (tbl:List (Str×(List D→LC→R D))) (a:dS):yD:=fun e c=>match e[i]? with
 | some (some (.fn x j))=>match tbl[j]? with
  | some (y,m)=>if x=y then (a e c).bind fun xs c=>if xs.length=n then m xs c else .bad else .bad
  | none=>.bad
 | _=>.bad
section
variable {X:Cx} {tg:Expr}
end
def eqE:D→D→LC→R D:=fun x y c=>match x,y with
 | .lst l,.lst []=>.ok (.bl l.isEmpty) c
 | _,_=>.bad
end L2
namespace L2
open PySem
section
variable (e:Ev) (c:LC) (a b d:yD) (ta tb:dB) (s t:dF) (l:dS) (g:Gd) (gs:List D→Ev→LC→R Ev)
@[simp] theorem qaU (i:Nat):dVar i e c=match e[i]? with | some (some d)=>.ok d c | _=>.bad:=rfl
@[simp] theorem x_c (d:D):dC d e c=.ok d c:=rfl
@[simp] theorem qdc (f:D→D→LC→R D):dBin f a b e c=(a e c).bind fun x c=>(b e c).bind fun y c=>f x y c:=rfl
@[simp] theorem x_un (f:D→LC→R D):dUn f a e c=(a e c).bind fun x c=>f x c:=rfl
@[simp] theorem x_cb (f:List D→LC→R D):dCB f l e c=(l e c).bind fun xs c=>f xs c:=rfl
@[simp] theorem x_chain (f g:D→D→LC→R D):dChain f g a b d e c=(a e c).bind fun x c=>(b e c).bind fun y c=>(f x y c).bind fun z c=>match z with
 | .bl true=>(d e c).bind fun u c=>g y u c
 | .bl false=>.ok (.bl false) c
 | _=>.bad:=rfl
@[simp] theorem qb0:dNil e c=.ok [] c:=rfl
@[simp] theorem qav:qa0 a l e c=(a e c).bind fun x c=>(l e c).bind fun xs c=>.ok (x :: xs) c:=rfl
@[simp] theorem x_tup:dTup l e c=(l e c).bind fun xs c=>if xs.length≤sizeLine then .ok (.tup xs) c else .bad:=rfl
@[simp] theorem x_lst:dLst l e c=(l e c).bind fun xs c=>if xs.length≤sizeLine then .ok (.lst xs) c else .bad:=rfl
@[simp] theorem x_lstM:qcC l e c=(l e c).bind fun xs c=>if xs.length≤sizeLine∧qak xs=true then .ok (.ref c.length) (c ++ [.lst xs]) else .bad:=rfl
@[simp] theorem x_bl:dBl a e c=(a e c).bind fun x c=>match x with | .bl b=>.ok b c | _=>.bad:=rfl
@[simp] theorem x_tru:dTru a e c=(a e c).bind fun x c=>match truD c x with | some b=>.ok b c | none=>.bad:=rfl
@[simp] theorem x_andT:dAndT ta tb e c=(ta e c).bind fun x c=>if x=true then tb e c else .ok false c:=rfl
@[simp] theorem x_orT:dOrT ta tb e c=(ta e c).bind fun x c=>if x=true then .ok true c else tb e c:=rfl
@[simp] theorem x_notT:dNotT ta e c=(ta e c).bind fun x c=>.ok (!x) c:=rfl
@[simp] theorem x_andV:qfZ a b e c=(a e c).bind fun x c=>match x with | .bl k=>if k=true then b e c else .ok (.bl false) c | _=>.bad:=rfl
@[simp] theorem x_orV:dOrV a b e c=(a e c).bind fun x c=>match x with | .bl k=>if k=true then .ok (.bl true) c else b e c | _=>.bad:=rfl
@[simp] theorem x_notV:dNotV a e c=(a e c).bind fun x c=>match x with | .bl k=>.ok (.bl (!k)) c | _=>.bad:=rfl
@[simp] theorem x_ifE:dIfE ta a b e c=(ta e c).bind fun x c=>if x=true then a e c else b e c:=rfl
@[simp] theorem qdt (n:Nat) (m:List D→LC→R D):qa7 n m l e c=(l e c).bind fun xs c=>if xs.length=n then m xs c else .bad:=rfl
@[simp] theorem x_next:qbI e c=.ok (.nx e) c:=rfl
@[simp] theorem x_bad:sBad e c=.bad:=rfl
@[simp] theorem x_break:sBreak e c=.ok (.bk e) c:=rfl
@[simp] theorem x_cont:sCont e c=.ok (.ct e) c:=rfl
@[simp] theorem qe9:sSeq s t e c=(s e c).bind fun f c=>match f with | .nx e=>t e c | f=>.ok f c:=rfl
@[simp] theorem qfw:sRet a e c=(a e c).bind fun x c=>.ok (.rt x) c:=rfl
@[simp] theorem qeT:qbJ a e c=(a e c).bind fun _ c=>.ok (.nx e) c:=rfl
@[simp] theorem x_if:sIf ta s t e c=(ta e c).bind fun x c=>if x=true then s e c else t e c:=rfl
@[simp] theorem qfv (i:Nat):sSet i a e c=(a e c).bind fun x c=>.ok (.nx (e.set i (some x))) c:=rfl
@[simp] theorem x_asg:sAsg a g e c=(a e c).bind fun x c=>(g x e c).bind fun e c=>.ok (.nx e) c:=rfl
@[simp] theorem qgp (i:Nat) (x:D):qa3 i x e c=.ok (e.set i (some x)) c:=rfl
@[simp] theorem x_gnil:qce [] e c=.ok e c:=rfl
@[simp] theorem x_gcons (x:D) (xs:List D):qaj g gs (x :: xs) e c=(g x e c).bind fun e c=>gs xs e c:=rfl
@[simp] theorem x_gtup (n:Nat) (xs:List D):qca n gs (.tup xs) e c=if xs.length=n then gs xs e c else .bad:=rfl
@[simp] theorem x_gsub (x:D):qgP a b x e c=(a e c).bind fun o c=>(b e c).bind fun i c=>(setD o i x c).bind fun _ c=>.ok e c:=rfl
@[simp] theorem qeF (sr:Ev→LC→R Src):sFor sr g s e c=(sr e c).bind fun q c=>forD q.stays g s q.items e c:=rfl
@[simp] theorem x_fn (n:Nat) (own:Bool) (xs:List D):fnD n own s xs c=(s (qbs n xs) c).bind fun f c'=>match f with
 | .rt v=>qbx own c.length v c'
 | .nx _=>qbx own c.length .non c'
 | _=>.bad:=rfl
@[simp] theorem x_start (n:Nat) (xs:List D):qbs n xs=xs.map some ++ List.replicate (n - xs.length) none:=rfl
@[simp] theorem qeg (sr:Ev→LC→R Src) (pick:List (Option Nat)):qaN sr pick g ta a e c=(sr e c).bind fun q c =>
 if q.items.length < sizeLine then (qaI q.stays g ta a q.items (qdq pick e) [] c).bind fun l c=>.ok (.lst l) c else .bad:=rfl
@[simp] theorem x_yes:dYes e c=.ok true c:=rfl
@[simp] theorem x_add (i j:Int):addD (.int i) (.int j) c=.ok (.int (i + j)) c:=rfl
@[simp] theorem x_addT (x y:List D):addD (.tup x) (.tup y) c=if x.length≠0∧x.length + y.length≤sizeLine then .ok (.tup (x ++ y)) c else .bad:=rfl
@[simp] theorem x_sub (i j:Int):subD (.int i) (.int j) c=.ok (.int (i - j)) c:=rfl
theorem x_mul (i j:Int):mulD (.int i) (.int j) c=if (-(2 ^ 64) < i∧i < 2 ^ 64)∨(-(2 ^ 64) < j∧j < 2 ^ 64) then .ok (.int (i * j)) c else .bad:=rfl
theorem x_div (i j:Int):divD (.int i) (.int j) c=if 0 < j∧j < 1073741824 then .ok (.int (i / j)) c else .bad:=rfl
theorem x_mod (i j:Int):modD (.int i) (.int j) c=if 0 < j then .ok (.int (i % j)) c else .bad:=rfl
theorem x_pow (i j:Int):powD (.int i) (.int j) c=if 0≤j∧j≤1000000∧i.natAbs < 2 ^ 64 then .ok (.int (i ^ j.toNat)) c else .bad:=rfl
@[simp] theorem x_neg (i:Int):negD (.int i) c=.ok (.int (-i)) c:=rfl
@[simp] theorem x_cmp (p:Int→Int→Bool) (i j:Int):cmpD p (.int i) (.int j) c=.ok (.bl (p i j)) c:=rfl
@[simp] theorem x_eqi (i j:Int):eqD (.int i) (.int j) c=.ok (.bl (decide (i=j))) c:=rfl
@[simp] theorem x_nei (i j:Int):neD (.int i) (.int j) c=.ok (.bl (!decide (i=j))) c:=rfl
@[simp] theorem x_eqb (i j:Bool):eqD (.bl i) (.bl j) c=.ok (.bl (decide (i=j))) c:=rfl
@[simp] theorem x_neb (i j:Bool):neD (.bl i) (.bl j) c=.ok (.bl (!decide (i=j))) c:=rfl
@[simp] theorem x_eqs (i j:Str):eqD (.str i) (.str j) c=.ok (.bl (decide (i=j))) c:=rfl
@[simp] theorem x_nes (i j:Str):neD (.str i) (.str j) c=.ok (.bl (!decide (i=j))) c:=rfl
@[simp] theorem x_is (x:D):isD x .non c=.ok (.bl (isN x)) c:=rfl
@[simp] theorem x_isnot (x:D):qe7 x .non c=.ok (.bl (!isN x)) c:=rfl
@[simp] theorem n_non:isN .non=true:=rfl
@[simp] theorem n_bl (b:Bool):isN (.bl b)=false:=rfl
@[simp] theorem n_int (b:Int):isN (.int b)=false:=rfl
@[simp] theorem n_str (b:Str):isN (.str b)=false:=rfl
@[simp] theorem n_tup (b:List D):isN (.tup b)=false:=rfl
@[simp] theorem n_lst (b:List D):isN (.lst b)=false:=rfl
@[simp] theorem x_ixT (xs:List D) (i:Int):ixD (.tup xs) (.int i) c=match atI xs i with | some d=>.ok d c | none=>.bad:=rfl
@[simp] theorem qgo (xs:List D) (i:Int):ixD (.lst xs) (.int i) c=match atI xs i with | some d=>.ok d c | none=>.bad:=rfl
@[simp] theorem x_lenT (xs:List D):lenD [.tup xs] c=.ok (.int xs.length) c:=rfl
@[simp] theorem x_lenL (xs:List D):lenD [.lst xs] c=.ok (.int xs.length) c:=rfl
@[simp] theorem x_lenS (xs:List Int):lenD [.scr xs] c=.ok (.int xs.length) c:=by
 show R.ok (D.int ((xs.map D.int).length:Nat)) c=_
 rw [List.length_map]
@[simp] theorem x_max2 (i j:Int):max2D [.int i,.int j] c=.ok (.int (if j > i then j else i)) c:=rfl
@[simp] theorem x_min2 (i j:Int):min2D [.int i,.int j] c=.ok (.int (if j < i then j else i)) c:=rfl
@[simp] theorem x_abs (i:Int):absD [.int i] c=.ok (.int (if i < 0 then -i else i)) c:=rfl
@[simp] theorem r_non:qaS .non=true:=rfl
@[simp] theorem r_bl (b:Bool):qaS (.bl b)=true:=rfl
@[simp] theorem r_int (b:Int):qaS (.int b)=true:=rfl
@[simp] theorem r_str (b:Str):qaS (.str b)=true:=rfl
@[simp] theorem r_tup (b:List D):qaS (.tup b)=qak b:=by simp [qaS]
@[simp] theorem r_lst (b:List D):qaS (.lst b)=qak b:=by simp [qaS]
@[simp] theorem r_nil:qak []=true:=by simp [qak]
@[simp] theorem r_cons (d:D) (b:List D):qak (d :: b)=(qaS d && qak b):=by simp [qak]
@[simp] theorem q_bl (own:Bool) (n:Nat) (b:Bool):qbx own n (.bl b) c=.ok (.bl b) (c.take n):=rfl
@[simp] theorem q_non (own:Bool) (n:Nat):qbx own n .non c=.ok .non (c.take n):=rfl
@[simp] theorem q_int (own:Bool) (n:Nat) (b:Int):qbx own n (.int b) c=.ok (.int b) (c.take n):=rfl
@[simp] theorem q_str (own:Bool) (n:Nat) (b:Str):qbx own n (.str b) c=.ok (.str b) (c.take n):=rfl
@[simp] theorem q_tup (own:Bool) (n:Nat) (b:List D):qbx own n (.tup b) c=if qak b=true then .ok (.tup b) (c.take n) else .bad:=by
 show (if qaS (.tup b)=true then R.ok (D.tup b) (c.take n) else R.bad)=_
 rw [r_tup]
@[simp] theorem q_lst (own:Bool) (n:Nat) (b:List D):qbx own n (.lst b) c=if qak b=true then .ok (.lst b) (c.take n) else .bad:=by
 show (if qaS (.lst b)=true then R.ok (D.lst b) (c.take n) else R.bad)=_
 rw [r_lst]
@[simp] theorem qef:qbe l e c=(l e c).bind fun xs c=>match xs with
 | [.int j]=>if -(2 ^ 62)≤j∧j < 2 ^ 62 then .ok ⟨rngD 0 j,fun _=>True⟩ c else .bad
 | _=>.bad:=rfl
@[simp] theorem x_rng2:qfg l e c=(l e c).bind fun xs c=>match xs with
 | [.int i,.int j]=>if -(2 ^ 62)≤i∧i < 2 ^ 62∧-(2 ^ 62)≤j∧j < 2 ^ 62 then .ok ⟨rngD i j,fun _=>True⟩ c else .bad
 | _=>.bad:=rfl
@[simp] theorem x_seqS:dSeq a e c=(a e c).bind fun x c=>match x with
 | .lst l=>.ok ⟨l,fun _=>True⟩ c
 | .scr l=>.ok ⟨l.map D.int,fun _=>True⟩ c
 | .ref k=>match c[k]? with
  | some (.lst l)=>.ok ⟨l,fun c=>c[k]? = some (.lst l)⟩ c
  | none=>.bad
 | _=>.bad:=rfl
@[simp] theorem x_seqT:qeB a e c=(a e c).bind fun x c=>match x with
 | .tup l=>.ok ⟨l,fun _=>True⟩ c
 | _=>.bad:=rfl
@[simp] theorem x_zip:dZip l e c=(l e c).bind fun xs c=>match xs with
 | [.tup l,.tup m]=>.ok ⟨List.zipWith (fun x y=>.tup [x,y]) l m,fun _=>True⟩ c
 | _=>.bad:=rfl
@[simp] theorem x_callV (i n:Nat) (tbl:List (Str×(List D→LC→R D))):dCallV i n tbl l e c=match e[i]? with
 | some (some (.fn x j))=>match tbl[j]? with
  | some (y,m)=>if x=y then (l e c).bind fun xs c=>if xs.length=n then m xs c else .bad else .bad
  | none=>.bad
 | _=>.bad:=rfl
end
section
variable (g:Gd) (s:dF) (t:dB) (a:yD) (e:Ev) (c:LC)
@[simp] theorem for_nil:forD (fun _=>True) g s [] e c=.ok (.nx e) c:=by simp [forD]
@[simp] theorem qbE (x:D) (xs:List D):forD (fun _=>True) g s (x :: xs) e c=(g x e c).bind fun e c=>(s e c).bind fun f c=>match f with
   | .nx e=>forD (fun _=>True) g s xs e c
   | .ct e=>forD (fun _=>True) g s xs e c
   | .bk e=>.ok (.nx e) c
   | .rt d=>.ok (.rt d) c:=by
 conv=>lhs; unfold forD
 exact if_pos trivial
@[simp] theorem comp_nil (acc:List D):qaI (fun _=>True) g t a [] e acc c=.ok acc c:=by simp [qaI]
@[simp] theorem qeD (x:D) (xs acc:List D):qaI (fun _=>True) g t a (x :: xs) e acc c=(g x e c).bind fun e c=>(t e c).bind fun k c=>if k=true then (a e c).bind fun y c=>qaI (fun _=>True) g t a xs e (acc ++ [y]) c else qaI (fun _=>True) g t a xs e acc c:=by
 conv=>lhs; unfold qaI
 exact if_pos trivial
end
@[simp] theorem gz {α:Type} (a:α) (l:List α):(a :: l)[0]? = some a:=rfl
@[simp] theorem gs {α:Type} (a:α) (l:List α) (n:Nat):(a :: l)[n + 1]? = l[n]?:=rfl
@[simp] theorem at0 {α:Type} (a:α) (l:List α):atI (a :: l) 0=some a:=by simp [atI,ixN]
@[simp] theorem at1 {α:Type} (a b:α) (l:List α):atI (a :: b :: l) 1=some b:=by
 unfold atI ixN
 rw [if_pos (by decide),if_pos (by simp; omega)]
 rfl
@[simp] theorem at2 {α:Type} (a b d:α) (l:List α):atI (a :: b :: d :: l) 2=some d:=by
 unfold atI ixN
 rw [if_pos (by decide),if_pos (by simp; omega)]
 rfl
@[simp] theorem at3 {α:Type} (a b d f:α) (l:List α):atI (a :: b :: d :: f :: l) 3=some f:=by
 unfold atI ixN
 rw [if_pos (by decide),if_pos (by simp; omega)]
 rfl
@[simp] theorem at4 {α:Type} (a b d f h:α) (l:List α):atI (a :: b :: d :: f :: h :: l) 4=some h:=by
 unfold atI ixN
 rw [if_pos (by decide),if_pos (by simp; omega)]
 rfl
theorem qam {n:Nat} (h:n≤1000):n≤sizeLine:=Nat.le_trans h (by decide)
@[simp] theorem sl0:(0:Nat)≤sizeLine:=Nat.zero_le _
@[simp] theorem sl1:(1:Nat)≤sizeLine:=by decide
@[simp] theorem sl2:(2:Nat)≤sizeLine:=by decide
@[simp] theorem sl3:(3:Nat)≤sizeLine:=by decide
@[simp] theorem sl4:(4:Nat)≤sizeLine:=by decide
@[simp] theorem sl5:(5:Nat)≤sizeLine:=by decide
@[simp] theorem sl6:(6:Nat)≤sizeLine:=by decide
@[simp] theorem st0:(0:Nat) < sizeLine:=by decide
@[simp] theorem st1:(1:Nat) < sizeLine:=by decide
@[simp] theorem st2:(2:Nat) < sizeLine:=by decide
@[simp] theorem st3:(3:Nat) < sizeLine:=by decide
@[simp] theorem st4:(4:Nat) < sizeLine:=by decide
@[simp] theorem st5:(5:Nat) < sizeLine:=by decide
@[simp] theorem i_int_int (i:Int) (c:LC):isiD [.int i,.ty "int"] c=.ok (.bl true) c:=rfl
@[simp] theorem i_int_bool (i:Int) (c:LC):isiD [.int i,.ty "bool"] c=.ok (.bl false) c:=rfl
@[simp] theorem i_int_str (i:Int) (c:LC):isiD [.int i,.ty "str"] c=.ok (.bl false) c:=rfl
@[simp] theorem i_int_tuple (i:Int) (c:LC):isiD [.int i,.ty "tuple"] c=.ok (.bl false) c:=rfl
@[simp] theorem i_int_list (i:Int) (c:LC):isiD [.int i,.ty "list"] c=.ok (.bl false) c:=rfl
@[simp] theorem i_bl_int (i:Bool) (c:LC):isiD [.bl i,.ty "int"] c=.ok (.bl true) c:=rfl
@[simp] theorem i_bl_bool (i:Bool) (c:LC):isiD [.bl i,.ty "bool"] c=.ok (.bl true) c:=rfl
@[simp] theorem i_bl_str (i:Bool) (c:LC):isiD [.bl i,.ty "str"] c=.ok (.bl false) c:=rfl
@[simp] theorem i_bl_tuple (i:Bool) (c:LC):isiD [.bl i,.ty "tuple"] c=.ok (.bl false) c:=rfl
@[simp] theorem i_bl_list (i:Bool) (c:LC):isiD [.bl i,.ty "list"] c=.ok (.bl false) c:=rfl
@[simp] theorem i_str_int (i:Str) (c:LC):isiD [.str i,.ty "int"] c=.ok (.bl false) c:=rfl
@[simp] theorem i_str_bool (i:Str) (c:LC):isiD [.str i,.ty "bool"] c=.ok (.bl false) c:=rfl
@[simp] theorem i_str_str (i:Str) (c:LC):isiD [.str i,.ty "str"] c=.ok (.bl true) c:=rfl
@[simp] theorem i_str_tuple (i:Str) (c:LC):isiD [.str i,.ty "tuple"] c=.ok (.bl false) c:=rfl
@[simp] theorem i_str_list (i:Str) (c:LC):isiD [.str i,.ty "list"] c=.ok (.bl false) c:=rfl
@[simp] theorem i_non_int (c:LC):isiD [.non,.ty "int"] c=.ok (.bl false) c:=rfl
@[simp] theorem i_non_bool (c:LC):isiD [.non,.ty "bool"] c=.ok (.bl false) c:=rfl
@[simp] theorem i_non_str (c:LC):isiD [.non,.ty "str"] c=.ok (.bl false) c:=rfl
@[simp] theorem i_non_tuple (c:LC):isiD [.non,.ty "tuple"] c=.ok (.bl false) c:=rfl
@[simp] theorem i_non_list (c:LC):isiD [.non,.ty "list"] c=.ok (.bl false) c:=rfl
@[simp] theorem i_tup_int (i:List D) (c:LC):isiD [.tup i,.ty "int"] c=.ok (.bl false) c:=rfl
@[simp] theorem i_tup_bool (i:List D) (c:LC):isiD [.tup i,.ty "bool"] c=.ok (.bl false) c:=rfl
@[simp] theorem i_tup_str (i:List D) (c:LC):isiD [.tup i,.ty "str"] c=.ok (.bl false) c:=rfl
@[simp] theorem i_tup_tuple (i:List D) (c:LC):isiD [.tup i,.ty "tuple"] c=.ok (.bl true) c:=rfl
@[simp] theorem i_tup_list (i:List D) (c:LC):isiD [.tup i,.ty "list"] c=.ok (.bl false) c:=rfl
@[simp] theorem i_lst_int (i:List D) (c:LC):isiD [.lst i,.ty "int"] c=.ok (.bl false) c:=rfl
@[simp] theorem i_lst_bool (i:List D) (c:LC):isiD [.lst i,.ty "bool"] c=.ok (.bl false) c:=rfl
@[simp] theorem i_lst_str (i:List D) (c:LC):isiD [.lst i,.ty "str"] c=.ok (.bl false) c:=rfl
@[simp] theorem i_lst_tuple (i:List D) (c:LC):isiD [.lst i,.ty "tuple"] c=.ok (.bl false) c:=rfl
@[simp] theorem i_lst_list (i:List D) (c:LC):isiD [.lst i,.ty "list"] c=.ok (.bl true) c:=rfl
section
variable (c:LC) {i j:Int}
theorem mul_l (h1:-18446744073709551616 < i) (h2:i < 18446744073709551616):mulD (.int i) (.int j) c=.ok (.int (i * j)) c:=by
 rw [x_mul,if_pos]; exact .inl ⟨by omega,by omega⟩
theorem mul_r (h1:-18446744073709551616 < j) (h2:j < 18446744073709551616):mulD (.int i) (.int j) c=.ok (.int (i * j)) c:=by
 rw [x_mul,if_pos]; exact .inr ⟨by omega,by omega⟩
theorem div_c (h1:0 < j) (h2:j < 1073741824):divD (.int i) (.int j) c=.ok (.int (i / j)) c:=by
 rw [x_div,if_pos ⟨h1,h2⟩]
theorem qfV (h1:0 < j):modD (.int i) (.int j) c=.ok (.int (i % j)) c:=by
 rw [x_mod,if_pos h1]
theorem pow_c (h1:0≤j) (h2:j≤1000000) (h3:i.natAbs < 18446744073709551616):powD (.int i) (.int j) c=.ok (.int (i ^ j.toNat)) c:=by
 rw [x_pow,if_pos ⟨h1,h2,h3⟩]
end
section
variable {g:Gd} {s:dF} {t:dB} {a:yD}
theorem qcc {c:LC} (inv:Ev→Prop) (F:D→Bool) (G:D→D):∀ (items:List D) (e:Ev) (acc:List D),inv e →
  (∀ x∈items,∀ e,inv e→∃ e',g x e c=.ok e' c∧inv e'∧t e' c=.ok (F x) c∧(F x=true→a e' c=.ok (G x) c)) →
  qaI (fun _=>True) g t a items e acc c=.ok (acc ++ (items.filter F).map G) c
 | [],e,acc,_,_=>by simp
 | x :: xs,e,acc,hi,h=>by
  obtain ⟨e',h1,h2,h3,h4⟩:=h x List.mem_cons_self e hi
  rw [qeD,h1,R.bind_ok,h3,R.bind_ok]
  cases hF:F x with
  | true =>
   rw [if_pos rfl,h4 hF,R.bind_ok,qcc inv F G xs e' _ h2 fun y hy=>h y (List.mem_cons_of_mem _ hy)]
   simp [hF]
  | false =>
   rw [if_neg Bool.false_ne_true,qcc inv F G xs e' _ h2 fun y hy=>h y (List.mem_cons_of_mem _ hy)]
   simp [hF]
theorem for_find {c:LC} (inv:Ev→Prop) (P:D→Option D):∀ (items:List D) (e:Ev),inv e →
  (∀ x∈items,∀ e,inv e→∃ e' e'',g x e c=.ok e' c∧inv e''∧s e' c=match P x with | none=>.ok (.nx e'') c | some v=>.ok (.rt v) c) →
  match items.findSome? P with | none=>∃ e',inv e'∧forD (fun _=>True) g s items e c=.ok (.nx e') c | some v=>forD (fun _=>True) g s items e c=.ok (.rt v) c
 | [],e,hi,_=>⟨e,hi,by simp⟩
 | x :: xs,e,hi,h=>by
  obtain ⟨e',e'',h1,h2,h3⟩:=h x List.mem_cons_self e hi
  have ih:=for_find inv P xs e'' h2 fun y hy=>h y (List.mem_cons_of_mem _ hy)
  rw [List.findSome?_cons,qbE,h1,R.bind_ok,h3]
  cases hP:P x with
  | some v=>simp
  | none=>simpa using ih
theorem for_any (inv:Ev→Prop):∀ (items:List D) (e:Ev) (c:LC),inv e →
  (∀ x∈items,∀ e c,inv e→∃ e' e'' c' c'',g x e c=.ok e' c'∧s e' c'=.ok (.nx e'') c''∧inv e'') →
  ∃ e' c',inv e'∧forD (fun _=>True) g s items e c=.ok (.nx e') c'
 | [],e,c,hi,_=>⟨e,c,hi,by simp⟩
 | x :: xs,e,c,hi,h=>by
  obtain ⟨e',e'',c',c'',h1,h2,h3⟩:=h x List.mem_cons_self e c hi
  obtain ⟨e3,c3,i3,h4⟩:=for_any inv xs e'' c'' h3 fun y hy=>h y (List.mem_cons_of_mem _ hy)
  exact ⟨e3,c3,i3,by rw [qbE,h1,R.bind_ok,h2]; exact h4⟩
theorem for_inv (inv:Ev→LC→Prop):∀ (items:List D) (e:Ev) (c:LC),inv e c →
  (∀ x∈items,∀ e c,inv e c→∃ e' e'' c' c'',g x e c=.ok e' c'∧s e' c'=.ok (.nx e'') c''∧inv e'' c'') →
  ∃ e' c',inv e' c'∧forD (fun _=>True) g s items e c=.ok (.nx e') c'
 | [],e,c,hi,_=>⟨e,c,hi,by simp⟩
 | x :: xs,e,c,hi,h=>by
  obtain ⟨e',e'',c',c'',h1,h2,h3⟩:=h x List.mem_cons_self e c hi
  obtain ⟨e3,c3,i3,h4⟩:=for_inv inv xs e'' c'' h3 fun y hy=>h y (List.mem_cons_of_mem _ hy)
  exact ⟨e3,c3,i3,by rw [qbE,h1,R.bind_ok,h2]; exact h4⟩
end
theorem qgG {lo hi:Int} {d:D} (h:d∈rngD lo hi):∃ i:Int,d=.int i∧lo≤i∧i < hi:=by
 unfold rngD at h
 obtain ⟨k,hk,rfl⟩:=List.mem_map.mp h
 have:=List.mem_range.mp hk
 exact ⟨lo + k,rfl,by omega,by omega⟩
theorem rng_mem {lo hi i:Int} (h1:lo≤i) (h2:i < hi):D.int i∈rngD lo hi:=by
 unfold rngD
 refine List.mem_map.mpr ⟨(i - lo).toNat,List.mem_range.mpr (by omega),?_⟩
 congr 1
 omega
theorem qbH {lo hi:Int}:(rngD lo hi).length=(hi - lo).toNat:=by simp [rngD]
end L2
namespace L2
open PySem PySem.Spec PyProof.Rows
def lstD (c:LC):D→Option (List D)
 | .lst l=>some l
 | .ref k=>match c[k]? with
  | some (.lst l)=>some l
  | none=>none
 | _=>none
def stayD (c:LC):D→LC→Prop
 | .ref k=>fun c'=>c'[k]? = c[k]?
 | _=>fun _=>True
def catD:D→D→LC→R D:=fun x y c=>match lstD c x,lstD c y with
 | some l,some m=>if l.length + m.length≤sizeLine then .ok (.lst (l ++ m)) c else .bad
 | _,_=>.bad
def cutD (xs:List D) (lo hi:Option Int):List D:=(xs.drop (HT.sIx xs.length 0 lo)).take (HT.sIx xs.length xs.length hi - HT.sIx xs.length 0 lo)
def dSl (a:yD) (lo hi:Ev→LC→R (Option Int)):yD:=fun e c=>(a e c).bind fun x c=>(lo e c).bind fun l c=>(hi e c).bind fun u c=>match lstD c x with
 | some xs=>.ok (.lst (cutD xs l u)) c
 | none=>.bad
def dNoP:Ev→LC→R (Option Int):=fun _ c=>.ok none c
def dPart (a:yD):Ev→LC→R (Option Int):=fun e c=>(a e c).bind fun x c=>match x with
 | .int i=>.ok (some i) c
 | _=>.bad
def qfY (a:dS):Ev→LC→R Src:=fun e c=>(a e c).bind fun xs c=>match xs with
 | [.tup l,.tup m]=>.ok ⟨List.zipWith (fun x y=>.tup [x,y]) l m,fun _=>True⟩ c
 | [x,y]=>match lstD c x,lstD c y with
  | some l,some m=>.ok ⟨List.zipWith (fun x y=>.tup [x,y]) l m,fun c'=>stayD c x c'∧stayD c y c'⟩ c
  | _,_=>.bad
 | _=>.bad
section
variable {X:Cx} {K:PySem.W.Frag} {ρ ρ':List Addr} {H H':Hp} {c c':LC}
theorem qdE {x:D} {v:V} {l:List D} (W:Wd K ρ H c) (rx:Rel K ρ H x v) (h:lstD c x=some l):∃ a xs,v=.ref a∧H a=some (.lst xs)∧Rels K ρ H l xs:=by
 cases x with
 | lst m =>
  cases h
  obtain ⟨a,xs,e,s,r⟩:=rx
  exact ⟨a,xs,e,s.1,r⟩
 | ref k =>
  obtain ⟨a,e,s⟩:=rx
  unfold lstD at h
  dsimp only at h
  cases hc:c[k]? with
  | none=>rw [hc] at h; cases h
  | some cl =>
   cases cl with
   | lst m =>
    rw [hc] at h; cases h
    obtain ⟨_,xs,hx,r⟩:=W.cel k a _ s hc
    exact ⟨a,xs,e,hx,r⟩
 | _=>cases h
theorem qg9 {x:D} {v:V} {l:List D} (W:Wd K ρ H c) (W':Wd K ρ' H' c') (E:Ext ρ H ρ' H') (rx:Rel K ρ H x v) (h:lstD c x=some l) (st:stayD c x c') {a:Addr} (e:v=.ref a):∃ xs,SqL K H' a xs∧Rels K ρ' H' l xs:=by
 have rx':=Rel.mono W E x v rx
 have h':lstD c' x=some l:=by
  cases x with
  | lst m=>exact h
  | ref k =>
   have st:c'[k]? = c[k]?:=st
   unfold lstD at h ⊢
   dsimp only at h ⊢
   rw [st]; exact h
  | _=>cases h
 obtain ⟨b,xs,e2,hx,r⟩:=qdE W' rx' h'
 rw [e] at e2; cases e2
 exact ⟨xs,SqL.of hx,r⟩
theorem od_cat:OpR X (binaryOp .Add) (r2 X.K catD):=by
 intro pins s σ H v u vv uu Q I rv ru h
 obtain ⟨ρ,x,y,c,W,rx,ry,p⟩:=h
 unfold catD at p
 split at p
 ·rename_i l m hl hm
  split at p
  ·rename_i hz
   obtain ⟨a,xs,rfl,ha,ra⟩:=qdE W rx hl
   obtain ⟨b,ys,rfl,hb,rb⟩:=qdE W ry hm
   exact op_cat pins s σ H _ _ vv uu Q I rv ru ⟨a,b,xs,ys,rfl,rfl,ha,hb,by rw [ra.length,rb.length]; exact hz,qeO W (ra.append rb) p⟩
  ·exact p.elim
 ·exact p.elim
abbrev POd (X:Cx) (e:Option Expr) (d:Ev→LC→R (Option Int)):Prop:=PO X e (tD X.K (fun _ _ a b=>a=b) d)
theorem PO.imp {e:Option Expr} {t t':TO} (h:PO X e t) (i:∀ σ H Q,t' σ H Q→t σ H Q):PO X e t':=fun pins s σ H Q I q=>h pins s σ H Q I (i _ _ _ q)
theorem pod_none:POd X none dNoP:=po_none.imp fun σ H Q h=>by
 obtain ⟨ρ,e,c,W,Vv,p⟩:=h
 exact p.here W rfl
theorem pod_some {e:Expr} {d:yD} (h:PEd X e d):POd X (some e) (dPart d):=(po_some h).imp fun σ H Q h=>by
 obtain ⟨ρ,e,c,W,Vv,p⟩:=h
 refine ⟨ρ,e,c,W,Vv,post.bind p fun x c1 ρ1 H1 v _ W1 X1 r1 p1=>?_⟩
 cases x with
 | int i=>cases r1; exact ⟨i,rfl,p1.here W1 rfl⟩
 | _=>exact p1.elim
theorem cut_rel {l:List D} {xs:List V} {lo hi:Option Int} (r:Rels K ρ H l xs):Rels K ρ H (cutD l lo hi) (cutV xs lo hi):=by
 unfold cutD cutV
 rw [r.length]
 exact (r.drop _).take _
theorem pd_sl {e:Expr} {lo hi:Option Expr} {p2 pos:Pos} {da:yD} {dl dh:Ev→LC→R (Option Int)} (he:PEd X e da) (hl:POd X lo dl) (hh:POd X hi dh):PEd X (.Subscript e (.Slice lo hi none p2) pos) (dSl da dl dh) :=
 (pe_slice sl_list he hl hh).imp fun σ H Q h=>by
  obtain ⟨ρ,e,c,W,Vv,p⟩:=h
  refine ⟨ρ,e,c,W,Vv,post.bind p fun x c1 ρ1 H1 v _ W1 X1 r1 p1=>⟨ρ1,e,c1,W1,Vv.mono W X1,post.bind p1 fun l c2 ρ2 H2 l' _ W2 X2 r2 p2=>⟨ρ2,e,c2,W2,(Vv.mono W X1).mono W1 X2,post.bind p2 fun u c3 ρ3 H3 u' _ W3 X3 r3 p3=>?_⟩⟩⟩
  cases r2; cases r3
  have rx:=Rel.mono W1 (X2.trans X3) _ _ r1
  split at p3
  ·rename_i xs hs
   obtain ⟨a,ys,rfl,ha,r⟩:=qdE W3 rx hs
   exact ⟨a,ys,rfl,SqL.of ha,qeO W3 (cut_rel r) p3⟩
  ·exact p3.elim
theorem PI.or {tg iter:Expr} {t t':TI} (h:PI X tg iter t) (h':PI X tg iter t'):PI X tg iter (fun σ H R=>t σ H R∨t' σ H R):=fun pins s σ H R I q=>q.elim (h pins s σ H R I) (h' pins s σ H R I)
theorem js_zipL {l m:List D} {a b:Addr} {st:LC→Prop} (h:∀ ρ' H' c',Wd K ρ' H' c'→Ext ρ H ρ' H'→st c'→∃ xs ys,SqL K H' a xs∧SqL K H' b ys∧Rels K ρ' H' l xs∧Rels K ρ' H' m ys):JS K ρ H ⟨List.zipWith (fun x y=>.tup [x,y]) l m,st⟩ (Itz (SqL K) a b):=by
 intro ρ' H' c' W E s i
 obtain ⟨xs,ys,q1,q2,r1,r2⟩:=h ρ' H' c' W E s
 refine ⟨fun d hd=>?_,fun e=>⟨xs,ys,q1,q2,?_⟩⟩
 ·have hd:(List.zipWith (fun x y=>D.tup [x,y]) l m)[i]? = some d:=hd
  rw [List.getElem?_zipWith] at hd
  cases e1:l[i]? with
  | none=>rw [e1] at hd; cases hd
  | some x =>
   cases e2:m[i]? with
   | none=>rw [e1,e2] at hd; cases hd
   | some y =>
    rw [e1,e2] at hd
    cases hd
    obtain ⟨v,hv,rv⟩:=r1.get e1
    obtain ⟨u,hu,ru⟩:=r2.get e2
    refine ⟨⟨xs,ys,v,u,q1,q2,hv,hu⟩,fun z H2 hz=>?_⟩
    obtain ⟨t,v',u',rfl,ht,rfl,hz⟩:=hz
    obtain ⟨z1,z2⟩:=hz xs ys q1 q2
    rw [hv] at z1; rw [hu] at z2
    cases z1; cases z2
    exact ⟨W.fresh ht,Ext.fresh W ht,t,[v,u],rfl,qaM,v,[u],rfl,Rel.mono W (Ext.fresh W ht) _ _ rv,u,[],rfl,Rel.mono W (Ext.fresh W ht) _ _ ru,rfl⟩
 ·have e:i=(List.zipWith (fun x y=>D.tup [x,y]) l m).length:=e
  rw [List.length_zipWith] at e
  rw [r1.length,r2.length]
  omega
theorem qgM {es:List Expr} {k:Nat} {pt:Pos} {a b:Expr} {da:dS} {p pos:Pos} (ha:PAd X [a,b] da) (hm:X.mg "zip"=none) (hg:Gl X "zip":=by rfl) (hs:starEach [a,b] X.env=[(false,eval a X.env),(false,eval b X.env)]:=by exact star2 rfl rfl) (hs2:starEach [b] X.env=[(false,eval b X.env)]:=by exact star1 rfl) :
  PId X (.Tuple es k pt) (.Call (.Name "zip" p) [a,b] [] pos) (qfY da):=((pi_zipT hg hm ha hs hs2).or (pi_zipL hg hm ha hs hs2)).imp fun σ H Q h=>by
 obtain ⟨ρ,e,c,W,Vv,p⟩:=h
 cases hd:da e c with
 | bad=>unfold qfY at p; rw [hd] at p; exact p.elim
 | ok xs c1 =>
  have p0:=p
  unfold qfY at p0
  rw [hd,R.bind_ok] at p0
  split at p0
  ·left
   refine ⟨ρ,e,c,W,Vv,?_⟩
   rw [hd]
   intro ρ1 H1 vs W1 X1 r1
   obtain ⟨y,ys,rfl,ry,z,zs,rfl,rz,rs⟩:=r1
   cases rs
   obtain ⟨a1,xs,rfl,s1,t1⟩:=ry
   obtain ⟨a2,ys,rfl,s2,t2⟩:=rz
   exact ⟨a1,a2,rfl,⟨xs,ys,SqT.of s1,SqT.of s2⟩,post.here (post.ext p0 X1) W1 (js_zip fun ρ' H' c' W' E _=>⟨xs,ys,SqT.of (qeh W1 E s1),SqT.of (qeh W1 E s2),Rels.mono W1 E _ _ t1,Rels.mono W1 E _ _ t2⟩)⟩
  ·rename_i x y _
   split at p0
   ·rename_i l m hl hm'
    right
    refine ⟨ρ,e,c,W,Vv,?_⟩
    rw [hd]
    intro ρ1 H1 vs W1 X1 r1
    obtain ⟨v,ys,rfl,ry,u,zs,rfl,rz,rs⟩:=r1
    cases rs
    obtain ⟨a1,xs,rfl,s1,t1⟩:=qdE W1 ry hl
    obtain ⟨a2,ys,rfl,s2,t2⟩:=qdE W1 rz hm'
    refine ⟨a1,a2,rfl,⟨xs,ys,SqL.of s1,SqL.of s2⟩,post.here (post.ext p0 X1) W1 (js_zipL fun ρ' H' c' W' E st=>?_)⟩
    obtain ⟨xs',q1,q2⟩:=qg9 W1 W' E ry hl st.1 rfl
    obtain ⟨ys',q3,q4⟩:=qg9 W1 W' E rz hm' st.2 rfl
    exact ⟨xs',ys',q1,q3,q2,q4⟩
   ·exact p0.elim
  ·exact p0.elim
end
section
variable (e:Ev) (c:LC) (a:yD) (lo hi:Ev→LC→R (Option Int)) (l:dS)
@[simp] theorem x_sl:dSl a lo hi e c=(a e c).bind fun x c=>(lo e c).bind fun l c=>(hi e c).bind fun u c=>match lstD c x with
 | some xs=>.ok (.lst (cutD xs l u)) c
 | none=>.bad:=rfl
@[simp] theorem x_nop:dNoP e c=.ok none c:=rfl
@[simp] theorem x_part:dPart a e c=(a e c).bind fun x c=>match x with
 | .int i=>.ok (some i) c
 | _=>.bad:=rfl
@[simp] theorem x_zip2:qfY l e c=(l e c).bind fun xs c=>match xs with
 | [.tup l,.tup m]=>.ok ⟨List.zipWith (fun x y=>.tup [x,y]) l m,fun _=>True⟩ c
 | [x,y]=>match lstD c x,lstD c y with
  | some l,some m=>.ok ⟨List.zipWith (fun x y=>.tup [x,y]) l m,fun c'=>stayD c x c'∧stayD c y c'⟩ c
  | _,_=>.bad
 | _=>.bad:=rfl
@[simp] theorem l_lst (x:List D):lstD c (.lst x)=some x:=rfl
end
section
variable {g:Gd} {s:dF} {t:dB} {a:yD}
theorem qeR {c:LC} (st:LC→Prop) (hst:st c) (inv:Ev→Prop) (F:D→Bool) (G:D→D):∀ (items:List D) (e:Ev) (acc:List D),inv e →
  (∀ x∈items,∀ e,inv e→∃ e',g x e c=.ok e' c∧inv e'∧t e' c=.ok (F x) c∧(F x=true→a e' c=.ok (G x) c)) →
  qaI st g t a items e acc c=.ok (acc ++ (items.filter F).map G) c
 | [],e,acc,_,_=>by
  unfold qaI
  rw [if_pos hst]; simp
 | x :: xs,e,acc,hi,h=>by
  obtain ⟨e',h1,h2,h3,h4⟩:=h x List.mem_cons_self e hi
  unfold qaI
  rw [if_pos hst,h1,R.bind_ok,h3,R.bind_ok]
  cases hF:F x with
  | true =>
   rw [if_pos rfl,h4 hF,R.bind_ok,qeR st hst inv F G xs e' _ h2 fun y hy=>h y (List.mem_cons_of_mem _ hy)]
   simp [hF]
  | false =>
   rw [if_neg Bool.false_ne_true,qeR st hst inv F G xs e' _ h2 fun y hy=>h y (List.mem_cons_of_mem _ hy)]
   simp [hF]
theorem qfR {dO da:yD} {e:Ev} {c:LC} {acc:List D} {y:D} (ho:dO e (c ++ [.lst acc])=.ok (.ref c.length) (c ++ [.lst acc])) (ha:da e (c ++ [.lst acc])=.ok y (c ++ [.lst acc])) (hy:qaS y=true) (hl:acc.length + 1≤1000000) :
  qbQ dO da e (c ++ [.lst acc])=.ok .non (c ++ [.lst (acc ++ [y])]):=by
 have h1:acc.length < sizeLine:=Nat.lt_of_lt_of_le (by omega:acc.length < 1000000) (by decide)
 unfold qbQ
 rw [ho,R.bind_ok]
 dsimp only
 rw [ha,R.bind_ok]
 have e1:(c ++ [Cell.lst acc])[c.length]? = some (.lst acc):=by simp
 have e2:(c ++ [Cell.lst acc]).set c.length (.lst (acc ++ [y]))=c ++ [.lst (acc ++ [y])]:=by simp
 rw [e1]
 dsimp only
 rw [if_pos ⟨h1,hy⟩,e2]
end
end L2
namespace L2
open PySem PySem.Spec PyProof.Rows
mutual
def datD:D→Option PyData
 | .non=>some .none
 | .bl b=>some (.bool b)
 | .int i=>some (.int i)
 | .str x=>if PyData.strOk x=true then some (.str x) else none
 | .tup l=>match qd3 l with
  | some r=>some (.tuple r)
  | none=>none
 | .lst l=>match qd3 l with
  | some r=>some (.list r)
  | none=>none
 | .ty _=>none
 | .ref _=>none
 | .scr _=>none
 | .fn _ _=>none
 | .exc _=>none
 | .dic=>none
 | .dct _=>none
 | .lam _ _ _ _=>none
def qd3:List D→Option (List PyData)
 | []=>some []
 | d :: l=>match datD d,qd3 l with
  | some a,some r=>some (a :: r)
  | _,_=>none
end
def datC (c:LC):D→Option PyData
 | .ref k=>match c[k]? with
  | some (.lst l)=>match qd3 l with
   | some r=>some (.list r)
   | none=>none
  | none=>none
 | d=>datD d
def eqvD:D→D→LC→R D:=fun x y c=>match datC c x,datC c y with
 | some p,some q=>if p.depth≤64∧q.depth≤64 then .ok (.bl (p.eqv q)) c else .bad
 | _,_=>.bad
def nevD:D→D→LC→R D:=fun x y c=>match datC c x,datC c y with
 | some p,some q=>if p.depth≤64∧q.depth≤64 then .ok (.bl (!p.eqv q)) c else .bad
 | _,_=>.bad
def inD:D→D→LC→R D:=fun x y c=>match datC c x,datC c y with
 | some p,some (.list ys)=>if p.depth≤62 then .ok (.bl (ys.any fun z=>z.eqv p)) c else .bad
 | some p,some (.tuple ys)=>if p.depth≤62 then .ok (.bl (ys.any fun z=>z.eqv p)) c else .bad
 | _,_=>.bad
def qdv:D→D→LC→R D:=fun x y c=>match datC c x,datC c y with
 | some p,some (.list ys)=>if p.depth≤62 then .ok (.bl (!ys.any fun z=>z.eqv p)) c else .bad
 | some p,some (.tuple ys)=>if p.depth≤62 then .ok (.bl (!ys.any fun z=>z.eqv p)) c else .bad
 | _,_=>.bad
section
variable {X:Cx} {pins:List (Addr×Obj)} {σ:St} {ρ:List Addr} {H:Hp} {s:Shared} {c:LC}
mutual
theorem qaX (I:Inv X pins σ H s):∀ (d:D) (v:V) (u:Value) (p:PyData),Rel X.K ρ H d v→RelV v u→datD d=some p→(∃ as,Reads s.heap u p as)∧p.canLay0=true
 | .non,v,u,p,r,ru,e=>by
  cases r; cases ru; cases e
  exact ⟨⟨_,.none⟩,by simp [PyData.canLay0]⟩
 | .bl b,v,u,p,r,ru,e=>by
  cases r; cases ru; cases e
  exact ⟨⟨_,.bool b⟩,by simp [PyData.canLay0]⟩
 | .int i,v,u,p,r,ru,e=>by
  cases r; obtain ⟨t,rfl⟩:=ru; cases e
  exact ⟨⟨_,.int i t⟩,by simp [PyData.canLay0]⟩
 | .str x,v,u,p,r,ru,e=>by
  cases r; obtain ⟨t,rfl⟩:=ru
  unfold datD at e
  split at e
  ·rename_i hx
   cases e
   exact ⟨⟨_,.str x t⟩,by simpa [PyData.canLay0] using hx⟩
  ·cases e
 | .tup l,v,u,p,r,ru,e=>by
  obtain ⟨a,xs,rfl,ha,rs⟩:=r
  cases ru
  unfold datD at e
  split at e
  ·rename_i q hq
   cases e
   obtain ⟨its,vs,⟨o,h1,h2,n,h3⟩,_⟩:=I.tuple (SqT.of ha)
   obtain ⟨⟨as,ra⟩,hc⟩:=qdO I l xs its q rs vs hq
   exact ⟨⟨_,.tuple h1 h2 h3 (by simpa using ra)⟩,by simpa [PyData.canLay0] using hc⟩
  ·cases e
 | .lst l,v,u,p,r,ru,e=>by
  obtain ⟨a,xs,rfl,ha,rs⟩:=r
  cases ru
  unfold datD at e
  split at e
  ·rename_i q hq
   cases e
   obtain ⟨its,vs,pl,_⟩:=I.list (SqL.of ha.1)
   obtain ⟨o,h1,h2,n,h3⟩:=pl.isList
   obtain ⟨⟨as,ra⟩,hc⟩:=qdO I l xs its q rs vs hq
   exact ⟨⟨_,.list h1 h2 h3 (by simpa using ra)⟩,by simpa [PyData.canLay0] using hc⟩
  ·cases e
 | .ty _,v,u,p,r,ru,e=>by simp [datD] at e
 | .ref _,v,u,p,r,ru,e=>by simp [datD] at e
 | .scr _,v,u,p,r,ru,e=>by simp [datD] at e
 | .fn _ _,v,u,p,r,ru,e=>by simp [datD] at e
 | .exc _,v,u,p,r,ru,e=>by simp [datD] at e
 | .dic,v,u,p,r,ru,e=>by simp [datD] at e
 | .dct _,v,u,p,r,ru,e=>by simp [datD] at e
 | .lam _ _ _ _,v,u,p,r,ru,e=>by simp [datD] at e
theorem qdO (I:Inv X pins σ H s):∀ (l:List D) (vs:List V) (us:List Value) (ps:List PyData),Rels X.K ρ H l vs→Vals vs us→qd3 l=some ps→(∃ as,ReadsAll s.heap us ps as)∧PyData.canLayAll0 ps=true
 | [],vs,us,ps,r,ru,e=>by
  cases r; cases ru; cases e
  exact ⟨⟨_,.nil⟩,by simp [PyData.canLayAll0]⟩
 | d :: l,vs,us,ps,r,ru,e=>by
  obtain ⟨x,xs,rfl,r1,r2⟩:=r
  cases ru with
  | cons q1 q2 =>
   unfold qd3 at e
   split at e
   ·rename_i a r e1 e2
    cases e
    obtain ⟨⟨as,ra⟩,ca⟩:=qaX I d x _ a r1 q1 e1
    obtain ⟨⟨bs,rb⟩,cb⟩:=qdO I l xs _ r r2 q2 e2
    exact ⟨⟨_,.cons ra rb⟩,by simp [PyData.canLayAll0,ca,cb]⟩
   ·cases e
end
theorem qbn (I:Inv X pins σ H s) (W:Wd X.K ρ H c) {d:D} {v:V} {u:Value} {p:PyData} (r:Rel X.K ρ H d v) (ru:RelV v u) (e:datC c d=some p):(∃ as,Reads s.heap u p as)∧p.canLay0=true:=by
 cases d with
 | ref k =>
  unfold datC at e
  dsimp only at e
  cases hc:c[k]? with
  | none=>rw [hc] at e; cases e
  | some cl =>
   cases cl with
   | lst l =>
    rw [hc] at e
    dsimp only at e
    split at e
    ·rename_i q hq
     cases e
     obtain ⟨a,rfl,s1⟩:=r
     cases ru
     obtain ⟨_,xs,hx,rs⟩:=W.cel k a _ s1 hc
     obtain ⟨its,vs,pl,_⟩:=I.list (SqL.of hx)
     obtain ⟨o,h1,h2,n,h3⟩:=pl.isList
     obtain ⟨⟨as,ra⟩,hc⟩:=qdO I l xs its q rs vs hq
     exact ⟨⟨_,.list h1 h2 h3 (by simpa using ra)⟩,by simpa [PyData.canLay0] using hc⟩
    ·cases e
 | non=>exact qaX I _ v u p r ru e
 | bl b=>exact qaX I _ v u p r ru e
 | int b=>exact qaX I _ v u p r ru e
 | str b=>exact qaX I _ v u p r ru e
 | tup b=>exact qaX I _ v u p r ru e
 | lst b=>exact qaX I _ v u p r ru e
 | ty b=>exact qaX I _ v u p r ru e
 | scr b=>exact qaX I _ v u p r ru e
 | fn b n=>exact qaX I _ v u p r ru e
 | exc b=>exact qaX I _ v u p r ru e
 | dct b=>exact qaX I _ v u p r ru e
 | dic=>exact qaX I _ v u p r ru e
 | lam k y ns l=>exact qaX I _ v u p r ru e
theorem od_nev (hu:X.A.units + 64 < cLine):OpR X (compareOp .NotEq) (r2 X.K nevD):=by
 intro pins s σ H v u vv uu Q I rv ru h
 obtain ⟨ρ,x,y,c,W,rx,ry,p⟩:=h
 unfold nevD at p
 split at p
 ·rename_i a b ha hb
  split at p
  ·rename_i hd
   obtain ⟨⟨as,ra⟩,ca⟩:=qbn I W rx rv ha
   obtain ⟨⟨bs,rb⟩,cb⟩:=qbn I W ry ru hb
   exact PySem.SeqAt.compareNe_shaped ra rb (by simp [PySem.SeqAt.shaped,ca,hd.1]) (by simp [PySem.SeqAt.shaped,cb,hd.2]) hu ⟨.bl _,H,I,rfl,p.here W rfl⟩
  ·exact p.elim
 ·exact p.elim
theorem qgL {A:Around} {p:PyData} {ys:List PyData} (hu:A.units + 64 < cLine) (hd:p.depth≤62):A.units + 1 + min (PyData.depthAll ys) p.depth < cLine:=by
 have:=Nat.min_le_right (PyData.depthAll ys) p.depth
 omega
theorem od_in (hu:X.A.units + 64 < cLine):OpR X (compareOp .In) (r2 X.K inD):=by
 intro pins s σ H v u vv uu Q I rv ru h
 obtain ⟨ρ,x,y,c,W,rx,ry,p⟩:=h
 unfold inD at p
 split at p
 ·rename_i a ys ha hb
  split at p
  ·rename_i hd
   obtain ⟨⟨as,ra⟩,ca⟩:=qbn I W rx rv ha
   obtain ⟨⟨bs,rb⟩,cb⟩:=qbn I W ry ru hb
   exact PySem.SeqAt.in_list_reads rb ra (by simpa [PyData.canLay0] using cb) ca (qgL hu hd) ⟨.bl _,H,I,rfl,p.here W rfl⟩
  ·exact p.elim
 ·rename_i a ys ha hb
  split at p
  ·rename_i hd
   obtain ⟨⟨as,ra⟩,ca⟩:=qbn I W rx rv ha
   obtain ⟨⟨bs,rb⟩,cb⟩:=qbn I W ry ru hb
   exact PySem.SeqAt.in_tuple_reads rb ra (by simpa [PyData.canLay0] using cb) ca (qgL hu hd) ⟨.bl _,H,I,rfl,p.here W rfl⟩
  ·exact p.elim
 ·exact p.elim
theorem od_notin (hu:X.A.units + 64 < cLine):OpR X (compareOp .NotIn) (r2 X.K qdv):=by
 intro pins s σ H v u vv uu Q I rv ru h
 obtain ⟨ρ,x,y,c,W,rx,ry,p⟩:=h
 unfold qdv at p
 split at p
 ·rename_i a ys ha hb
  split at p
  ·rename_i hd
   obtain ⟨⟨as,ra⟩,ca⟩:=qbn I W rx rv ha
   obtain ⟨⟨bs,rb⟩,cb⟩:=qbn I W ry ru hb
   exact PySem.SeqAt.notIn_list_reads rb ra (by simpa [PyData.canLay0] using cb) ca (qgL hu hd) ⟨.bl _,H,I,rfl,p.here W rfl⟩
  ·exact p.elim
 ·rename_i a ys ha hb
  split at p
  ·rename_i hd
   obtain ⟨⟨as,ra⟩,ca⟩:=qbn I W rx rv ha
   obtain ⟨⟨bs,rb⟩,cb⟩:=qbn I W ry ru hb
   exact PySem.SeqAt.notIn_tuple_reads rb ra (by simpa [PyData.canLay0] using cb) ca (qgL hu hd) ⟨.bl _,H,I,rfl,p.here W rfl⟩
  ·exact p.elim
 ·exact p.elim
end
theorem hu64 {A:Around} {k:Nat} (hr:Room k A):A.units + 64 < cLine:=by have:=hr.un; omega
section
variable (c:LC)
@[simp] theorem dat_non:datD .non=some .none:=by simp only [datD]
@[simp] theorem dat_bl (b:Bool):datD (.bl b)=some (.bool b):=by simp only [datD]
@[simp] theorem dat_int (i:Int):datD (.int i)=some (.int i):=by simp only [datD]
@[simp] theorem dats_nil:qd3 []=some []:=by simp only [qd3]
theorem dats_ints (l:List Int):qd3 (l.map D.int)=some (l.map PyData.int):=by
 induction l with
 | nil=>simp
 | cons a l ih=>simp [qd3,ih]
end
end L2
namespace L2
open PySem PySem.Spec PyProof.Rows
section
variable {X:Cx}
end
def sumD:List D→LC→R D:=fun xs c=>match xs with
 | [.lst l]=>match qfX l with
  | some is=>.ok (.int is.sum) c
  | none=>.bad
 | _=>.bad
def zip3D:List D→LC→R D:=fun xs c=>match xs with
 | [.tup [x0,x1,x2],.tup [y0,y1,y2],.tup [z0,z1,z2]]=>.ok (.lst [.tup [x0,y0,z0],.tup [x1,y1,z1],.tup [x2,y2,z2]]) c
 | _=>.bad
theorem vals3 {a b c:V} {us:List Value} (h:Vals [a,b,c] us):∃ u v w,us=[u,v,w]∧RelV a u∧RelV b v∧RelV c w:=by
 cases h with
 | cons h1 h =>
  cases h with
  | cons h2 h =>
   cases h with
   | cons h3 h=>cases h; exact ⟨_,_,_,rfl,h1,h2,h3⟩
theorem rels3 {K:PySem.W.Frag} {ρ:List Addr} {H:Hp} {a b c:D} {vs:List V} (h:Rels K ρ H [a,b,c] vs):∃ u v w,vs=[u,v,w]∧Rel K ρ H a u∧Rel K ρ H b v∧Rel K ρ H c w:=by
 obtain ⟨u,r,rfl,h1,v,r',rfl,h2,w,r'',rfl,h3,h4⟩:=h
 cases h4
 exact ⟨u,v,w,rfl,h1,h2,h3⟩
def mulB:D→D→LC→R D:=fun x y c=>match x,y with
 | .int i,.int j=>if ((-(2 ^ 64) < i∧i < 2 ^ 64)∨(-(2 ^ 64) < j∧j < 2 ^ 64))∨(i.natAbs < 2 ^ 2000∧j.natAbs < 2 ^ 2000) then .ok (.int (i * j)) c else .bad
 | _,_=>.bad
def divB:D→D→LC→R D:=fun x y c=>match x,y with
 | .int i,.int j=>if 0 < j∧j < 2 ^ 100 then .ok (.int (i / j)) c else .bad
 | _,_=>.bad
def shrD:D→D→LC→R D:=fun x y c=>match x,y with
 | .int i,.int j=>if 0≤j then .ok (.int (i / 2 ^ j.toNat)) c else .bad
 | _,_=>.bad
def andD:D→D→LC→R D:=fun x y c=>match x,y with
 | .int i,.int j=>.ok (.int (Builtin.bitAnd i j)) c
 | _,_=>.bad
section
variable {X:Cx}
end
section
variable (c:LC)
@[simp] theorem sum_ints (l:List Int):sumD [.lst (l.map D.int)] c=.ok (.int l.sum) c:=by
 unfold sumD
 simp [qez]
@[simp] theorem zip3_ok (x0 x1 x2 y0 y1 y2 z0 z1 z2:D):zip3D [.tup [x0,x1,x2],.tup [y0,y1,y2],.tup [z0,z1,z2]] c=.ok (.lst [.tup [x0,y0,z0],.tup [x1,y1,z1],.tup [x2,y2,z2]]) c:=rfl
end
end L2
namespace L2
open PySem PySem.Spec PyProof.Rows
def Itd (hi:Int) (n:Nat):It:=⟨fun i _=>i < n,fun i H x H'=>H'=H∧x=.int (hi - i),fun i _=>n≤i⟩
theorem turn_down {P:Program} {w:World} {K:PySem.W.Frag} {tg:Expr} (it:Addr) (hi:Int) (n:Nat):Turn P w K tg (Itd hi n) [it] it (fun i h=>IsRangeIter h it (hi + (i:Nat) * (-1)) ((n:Int) - (i:Nat)) (-1)) where
 mem:=by simp
 obj:=fun i h st b hb=>by
  have e:b=it:=by simpa using hb
  subst e
  exact ⟨_,st,fun v z=>by
   have z':Data.fields _=Data.cell v:=z
   cases z'⟩
 keep:=fun i h h' st k=>k it (by simp) _ st
 item:=by
  intro X hP hw hK hc i pins s σ H E I hf st hg
  subst hP hw hK
  obtain ⟨f0,f1,f2,f3,f4,f5⟩:=hf it (by simp)
  have W:=Walks.range (prog:=X.prog) (w:=X.w) (I.ok.hd hc) it hi (-1) n
  refine W.item i s _ _ hg st fun v h' tk hv st' kk=>?_
  obtain ⟨t,rfl⟩:=hv
  have I1:Inv X pins σ H { s with heap:=h',toks:=tk }:=I.turned (fun b o hb e=>kk b o (by simpa using hb) e) f0 f1 f3 f4 f5
  refine ⟨_,rfl,go_of (s:={ s with heap:=h',toks:=tk }) (n:="range_iterator") st' rfl rfl (by decide) ⟨.int (hi - i),H,I1,⟨t,?_⟩,⟨rfl,rfl⟩,st',fun b hb=>(hf b hb).1⟩⟩
  congr 1
  omega
 done:=by
  intro X hP hw hK hc i pins s σ H E I hf st hg
  subst hP hw hK
  obtain ⟨f0,f1,f2,f3,f4,f5⟩:=hf it (by simp)
  exact wpAny_pyNext_range_end (I.ok.hd hc) st (by have:n≤i:=hg; omega) fun h' eb=>⟨rfl,I.turned (t':=s.toks) (fun b o hb e=>eb b o hb e) f0 f1 f3 f4 f5⟩
 self:=fun _ _ _ _ _ st h=>wpAny_pyIter_rangeiter st h
theorem qe3 (a b:Int):Builtin.Range.rangeSize a b (-1)=if b < a then a - b else 0:=by
 unfold Builtin.Range.rangeSize
 rw [if_neg (by decide)]
 simp only [show (-(-1):Int)=1 by decide,Int.ediv_one]
 split <;> omega
theorem small_down {hi lo:Int} (h1:-(2 ^ 62)≤lo) (h2:lo < 2 ^ 62) (h3:-(2 ^ 62)≤hi) (h4:hi < 2 ^ 62):Builtin.Range.small hi lo (-1)=true:=by
 unfold Builtin.Range.small
 rw [qe3]
 simp only [Builtin.Range.rangeFitsLong,Bool.and_eq_true,Bool.or_eq_true,decide_eq_true_eq,beq_iff_eq,show ¬ ((-1:Int) > 0) by decide,if_false]
 split <;> omega
def dnD (hi lo:Int):List D:=(List.range (hi - lo).toNat).map fun (i:Nat)=>D.int (hi - (i:Int))
def dRng3 (a:dS):Ev→LC→R Src:=fun e c=>(a e c).bind fun xs c=>match xs with
 | [.int i,.int j,.int s]=>if s = -1∧-(2 ^ 62)≤i∧i < 2 ^ 62∧-(2 ^ 62)≤j∧j < 2 ^ 62 then .ok ⟨dnD i j,fun _=>True⟩ c else .bad
 | _=>.bad
section
variable {X:Cx} {tg:Expr} {K:PySem.W.Frag} {ρ:List Addr} {H:Hp}
theorem down_it {pins:List (Addr×Obj)} {σ:St} {H:Hp} {s:Shared} {R:It→Hp→Prop} {E:Value→Shared→Prop} {lo hi:Int} {t u v:Tok} {tk:Nat} (I:Inv X pins σ H s) (h1:-(2 ^ 62)≤lo) (h2:lo < 2 ^ 62) (h3:-(2 ^ 62)≤hi) (h4:hi < 2 ^ 62)
  (q:R (Itd hi (hi - lo).toNat) H):wpAny (model X.prog X.w) X.A (pyIter (.ref s.heap.objs.size)) (PIE X pins σ tg R) E { s with heap:=s.heap.push { cls:=.type "range",data:=.fields #[.int hi t,.int lo u,.int (-1) v] },toks:=tk }:=by
 refine wpAny_pyIter_range (IsRange.new ..) (small_down h1 h2 h3 h4) ?_
 have I1:Inv X pins σ H { s with heap:=s.heap.push { cls:=.type "range",data:=.fields #[.int hi t,.int lo u,.int (-1) v] },toks:=tk }:=I.kept fun b o e=>Heap.get?_push_of_some _ e
 refine ⟨(s.heap.push { cls:=.type "range",data:=.fields #[.int hi t,.int lo u,.int (-1) v] }).objs.size,[(s.heap.push { cls:=.type "range",data:=.fields #[.int hi t,.int lo u,.int (-1) v] }).objs.size],_,_,H,rfl,
  I1.kept (t':=tk) fun b o e=>Heap.get?_push_of_some _ e,turn_down _ hi (hi - lo).toNat,?_,fun b hb=>?_,q⟩
 ·have e1:hi + ((0:Nat):Int) * (-1)=hi:=by simp
  have e2:(((hi - lo).toNat:Nat):Int) - ((0:Nat):Int)=Builtin.Range.rangeSize hi lo (-1):=by rw [qe3]; split <;> omega
  show IsRangeIter _ _ (hi + ((0:Nat):Int) * (-1)) ((((hi - lo).toNat:Nat):Int) - ((0:Nat):Int)) (-1)
  rw [e1,e2]
  exact Heap.get?_push_size _ rfl
 ·have e:b=(s.heap.push { cls:=.type "range",data:=.fields #[.int hi t,.int lo u,.int (-1) v] }).objs.size:=by simpa using hb
  subst e
  exact I1.fpOk (Nat.le_refl _) (I1.hok.fresh (Nat.le_refl _))
theorem js_down {lo hi:Int} {st:LC→Prop}:JS K ρ H ⟨dnD hi lo,st⟩ (Itd hi (hi - lo).toNat):=by
 intro ρ' H' c' W E s i
 refine ⟨fun d hd=>?_,fun e=>?_⟩
 ·have hd:(dnD hi lo)[i]? = some d:=hd
  unfold dnD at hd
  rw [List.getElem?_map,Option.map_eq_some_iff] at hd
  obtain ⟨k,hk,rfl⟩:=hd
  obtain ⟨h1,h2⟩:=List.getElem?_eq_some_iff.mp hk
  rw [List.getElem_range] at h2
  subst h2
  have h1:i < (hi - lo).toNat:=by simpa using h1
  refine ⟨h1,fun x H2 hy=>?_⟩
  obtain ⟨rfl,rfl⟩:=hy
  exact ⟨W,Ext.refl,rfl⟩
 ·have:(dnD hi lo).length=(hi - lo).toNat:=by simp [dnD]
  show (hi - lo).toNat≤i
  rw [e]
  exact Nat.le_of_eq this.symm
def iRng3 (ta:TA):TI:=fun σ H R=>ta σ H fun vs H1=>∃ i j:Int,vs=[.int i,.int j,.int (-1)]∧(-(2 ^ 62)≤i∧i < 2 ^ 62∧-(2 ^ 62)≤j∧j < 2 ^ 62)∧R (Itd i (i - j).toNat) H1
theorem pi_range3 {a b c:Expr} {ta:TA} {p pos:Pos} (hg:Gl X "range") (hm:X.mg "range"=none) (ha:PA X [a,b,c] ta) (hs:starEach [a,b,c] X.env=(false,eval a X.env) :: starEach [b,c] X.env:=by exact qd6 rfl) (hs2:(backTo pos (starEach [b,c] X.env)).any (·.1)=false:=by exact qc6 rfl) :
  PI X tg (.Call (.Name "range" p) [a,b,c] [] pos) (iRng3 ta):=by
 intro pins s σ H R I h
 refine Call_ (qe6 I hg hm boot_range (PyProof.Rows.callWith_type1 (thn (ha pos pins s σ H _ I h) fun us s1 ⟨vs,H1,I1,r1,q1⟩=>?_) hs hs2))
 obtain ⟨i,j,e,⟨q1,q2,q3,q4⟩,q⟩:=q1
 subst e
 obtain ⟨u,v,w,rfl,⟨t1,rfl⟩,⟨t2,rfl⟩,⟨t3,rfl⟩⟩:=vals3 r1
 exact call_range_3 (by decide) (down_it I1 q3 q4 q1 q2 q) (.inl (PyProof.noPylong_small (by decide)))
theorem id_rng3 {a b c:Expr} {da:dS} {p pos:Pos} (ha:PAd X [a,b,c] da) (hm:X.mg "range"=none) (hg:Gl X "range":=by rfl) (hs:starEach [a,b,c] X.env=(false,eval a X.env) :: starEach [b,c] X.env:=by exact qd6 rfl) (hs2:(backTo pos (starEach [b,c] X.env)).any (·.1)=false:=by exact qc6 rfl):PId X tg (.Call (.Name "range" p) [a,b,c] [] pos) (dRng3 da) :=
 (pi_range3 hg hm ha hs hs2).imp fun σ H Q h=>by
  obtain ⟨ρ,e,c,W,V,p⟩:=h
  refine ⟨ρ,e,c,W,V,post.bind p fun x c1 ρ1 H1 v _ W1 X1 r1 p1=>?_⟩
  split at p1
  ·rename_i i j s _
   split at p1
   ·rename_i hj
    obtain ⟨rfl,hj⟩:=hj
    obtain ⟨u,v,w,rfl,ru,rv,rw'⟩:=rels3 r1
    cases ru; cases rv; cases rw'
    exact ⟨i,j,rfl,hj,p1.here W1 js_down⟩
   ·exact p1.elim
  ·exact p1.elim
end
section
variable (e:Ev) (c:LC) (l:dS)
@[simp] theorem x_rng3:dRng3 l e c=(l e c).bind fun xs c=>match xs with
 | [.int i,.int j,.int s]=>if s = -1∧-(2 ^ 62)≤i∧i < 2 ^ 62∧-(2 ^ 62)≤j∧j < 2 ^ 62 then .ok ⟨dnD i j,fun _=>True⟩ c else .bad
 | _=>.bad:=rfl
end
def lowD (m:Nat):D→Bool
 | .ref k=>decide (k < m)
 | d=>qaS d
def lowE (m:Nat) (e:Ev):Bool:=e.all fun o=>match o with
 | some d=>lowD m d
 | none=>true
def sFrz (o x:Nat) (a b:dF):dF:=fun e c=>(a e c).bind fun f c1=>match f with
 | .nx e1=>(b e1 c1).bind fun f c2=>match f with
  | .nx e2=>match e2[o]?,e2[x]? with
   | some (some (.ref k)),some (some (.ref m))=>match c2[k]?,c2[m]? with
    | some (.lst l),some (.lst y)=>if m=c.length∧c2.length=c.length + 1∧k < m∧l.length < sizeLine∧lowE m (e2.set x none)=true then .ok (.nx (e2.set x none)) ((c2.take m).set k (.lst (l ++ [.lst y]))) else .bad
    | _,_=>.bad
   | _,_=>.bad
  | _=>.bad
 | _=>.bad
section
variable (e:Ev) (c:LC)
@[simp] theorem x_frz (o x:Nat) (a b:dF):sFrz o x a b e c=(a e c).bind fun f c1=>match f with
 | .nx e1=>(b e1 c1).bind fun f c2=>match f with
  | .nx e2=>match e2[o]?,e2[x]? with
   | some (some (.ref k)),some (some (.ref m))=>match c2[k]?,c2[m]? with
    | some (.lst l),some (.lst y)=>if m=c.length∧c2.length=c.length + 1∧k < m∧l.length < sizeLine∧lowE m (e2.set x none)=true then .ok (.nx (e2.set x none)) ((c2.take m).set k (.lst (l ++ [.lst y]))) else .bad
    | _,_=>.bad
   | _,_=>.bad
  | _=>.bad
 | _=>.bad:=rfl
end
end L2
namespace L2
open PySem PySem.Spec PyProof.Rows
def tabF (t:List (Int×List Int)) (k:Int):Option (List Int):=match t with
 | []=>none
 | p :: r=>if k=p.1 then some p.2 else tabF r k
def intsIn:List Value→List Int→Bool
 | [],[]=>true
 | .int i _ :: vs,j :: l=>(i == j) && intsIn vs l
 | _,_=>false
def tupIn (K:PySem.W.Frag) (b:Addr) (l:List Int):Bool:=match K.lookup b with
 | some ⟨c,_,.seq its _,_⟩=>(c == .type "tuple") && intsIn its.toList l && decide (its.size≤sizeLine)
 | _=>false
def entIn (K:PySem.W.Frag) (e:DictEntry) (k:Int) (l:List Int):Bool:=match e with
 | ⟨h,.int i _,.ref b⟩=>(i == k) && (h == hashInt k) && tupIn K b l
 | _=>false
def qgi (K:PySem.W.Frag):List DictEntry→List (Int×List Int)→Bool
 | [],[]=>true
 | e :: es,p :: t=>entIn K e p.1 p.2 && qgi K es t
 | _,_=>false
def qfN (K:PySem.W.Frag) (a:Addr) (t:List (Int×List Int)):Bool:=!(a == sysModules) && match K.lookup a with
 | some ⟨c,none,.dict es _,sl⟩=>(c == .type "dict") && sl.isEmpty && qgi K es.toList t
 | _=>false
theorem ints_vals:∀ {vs:List Value} {l:List Int},intsIn vs l=true→Vals (l.map V.int) vs
 | [],[],_=>.nil
 | v :: vs,[],h=>by cases v <;> cases h
 | [],j :: l,h=>by cases h
 | v :: vs,j :: l,h=>by
  cases v with
  | int i t =>
   have h:((i == j) && intsIn vs l)=true:=h
   rw [Bool.and_eq_true,beq_iff_eq] at h
   obtain ⟨rfl,h'⟩:=h
   exact .cons ⟨t,rfl⟩ (ints_vals h')
  | _=>cases h
theorem tup_in {K:PySem.W.Frag} {H:Hp} {b:Addr} {l:List Int} (h:tupIn K b l=true):SqT K H b (l.map V.int):=by
 unfold tupIn at h
 split at h
 ·rename_i c d its n sl e
  rw [Bool.and_eq_true,Bool.and_eq_true,beq_iff_eq,decide_eq_true_iff] at h
  obtain ⟨⟨rfl,h1⟩,h2⟩:=h
  exact .inr ⟨_,its,n,e,rfl,rfl,h2,ints_vals h1⟩
 ·cases h
theorem ent_in {K:PySem.W.Frag} {e:DictEntry} {k:Int} {l:List Int} (h:entIn K e k l=true):∃ t b,e=⟨hashInt k,.int k t,.ref b⟩∧tupIn K b l=true:=by
 unfold entIn at h
 split at h
 ·rename_i hh i t b
  rw [Bool.and_eq_true,Bool.and_eq_true,beq_iff_eq,beq_iff_eq] at h
  obtain ⟨⟨rfl,rfl⟩,h⟩:=h
  exact ⟨t,b,rfl,h⟩
 ·cases h
theorem ents_keys {K:PySem.W.Frag}:∀ {es:List DictEntry} {t:List (Int×List Int)},qgi K es t=true→∀ e∈es,∃ k t,e.key=.int k t∧e.hash=hashInt k
 | [],_,_=>fun e he=>by cases he
 | e :: es,[],h=>by cases h
 | e :: es,p :: t,h=>fun x hx=>by
  have h:(entIn K e p.1 p.2 && qgi K es t)=true:=h
  rw [Bool.and_eq_true] at h
  rcases List.mem_cons.mp hx with rfl | hx
  ·obtain ⟨tk,b,rfl,_⟩:=ent_in h.1
   exact ⟨_,tk,rfl,rfl⟩
  ·exact ents_keys h.2 x hx
theorem ents_find {K:PySem.W.Frag} (k:Int):∀ {es:List DictEntry} {t:List (Int×List Int)},qgi K es t=true→(match tabF t k with
  | none=>es.find? (fun e=>Value.isInt k e.key)=none
  | some l=>∃ e b,es.find? (fun e=>Value.isInt k e.key)=some e∧e.val=.ref b∧tupIn K b l=true)
 | [],[],_=>by unfold tabF; rfl
 | [],p :: t,h=>by cases h
 | e :: es,[],h=>by cases h
 | e :: es,p :: t,h=>by
  have h:(entIn K e p.1 p.2 && qgi K es t)=true:=h
  rw [Bool.and_eq_true] at h
  obtain ⟨tk,b,rfl,hb⟩:=ent_in h.1
  have ih:=ents_find k h.2
  unfold tabF
  by_cases hk:k=p.1
  ·rw [if_pos hk]
   refine ⟨⟨hashInt p.1,.int p.1 tk,.ref b⟩,b,?_,rfl,hb⟩
   rw [List.find?_cons_of_pos]
   subst hk
   simp [Value.isInt]
  ·rw [if_neg hk,List.find?_cons_of_neg]
   ·exact ih
   ·simp only [Value.isInt,beq_iff_eq]
    exact fun z=>hk z.symm
theorem dict_map {K:PySem.W.Frag} {h:Heap} {a:Addr} {t:List (Int×List Int)} {prog:Program} {w:World} (hk:K.In h) (hd:qfN K a t=true):(a == sysModules)=false∧∃ f,h.MapOf (intKind prog w) a f∧∀ k,(match tabF t k with
  | none=>f k=none
  | some l=>∃ b,f k=some (.ref b)∧tupIn K b l=true):=by
 unfold qfN at hd
 rw [Bool.and_eq_true] at hd
 obtain ⟨h0,h1⟩:=hd
 refine ⟨by simpa using h0,?_⟩
 split at h1
 ·rename_i c es n sl e
  rw [Bool.and_eq_true,Bool.and_eq_true,beq_iff_eq] at h1
  obtain ⟨⟨rfl,h2⟩,h3⟩:=h1
  have hs:sl=#[]:=by simpa using h2
  refine ⟨findBy Value.isInt es,Heap.IntMap.mapOf ⟨_,es,n,hk a _ e,rfl,rfl,fun x hx=>ents_keys h3 x (by simpa using hx),fun _=>rfl⟩ (fun o ho=>?_),fun k=>?_⟩
  ·rw [hk a _ e] at ho
   cases ho
   exact ⟨rfl,hs⟩
  ·have q:=ents_find k h3
   have ef:findBy Value.isInt es k=(es.toList.find? fun e=>Value.isInt k e.key).map (·.val):=by unfold findBy; rw [Array.find?_toList]
   cases z:tabF t k with
   | none =>
    rw [z] at q
    show findBy Value.isInt es k=none
    rw [ef,q]; rfl
   | some l =>
    rw [z] at q
    obtain ⟨e,b,q1,q2,q3⟩:=q
    refine ⟨b,?_,q3⟩
    rw [ef,q1,← q2]; rfl
 ·cases h1
def fldD (t:List (Int×List Int)) (i:Int):D→LC→R D:=fun x c=>match x with
 | .int k=>match tabF t k with
  | some l=>match atI l i with
   | some z=>.ok (.int z) c
   | none=>.bad
  | none=>.bad
 | _=>.bad
def inF (x:Str) (t:List (Int×List Int)):D→D→LC→R D:=fun a b c=>match a,b with
 | .int k,.fn y _=>if y=x then .ok (.bl (tabF t k).isSome) c else .bad
 | _,_=>.bad
section
variable {X:Cx} {x:Str} {ad:Addr} {t:List (Int×List Int)}
def rDict (K:PySem.W.Frag) (ad:Addr) (t:List (Int×List Int)):R2:=fun x y H Q=>∃ k l,x=.ref ad∧y=.int k∧tabF t k=some l∧∀ b,SqT K H b (l.map V.int)→Q (.ref b) H
theorem ix_dict (ht:qfN X.K ad t=true):IxR X (rDict X.K ad t):=by
 intro value slice pins s σ H x y v u Q I rx ry h hs
 obtain ⟨k,l,rfl,rfl,hl,q⟩:=h
 cases rx
 obtain ⟨tk,rfl⟩:=ry
 obtain ⟨_,f,hm,hf⟩:=dict_map (prog:=X.prog) (w:=X.w) I.kIn ht
 have hk:=hf k
 rw [hl] at hk
 obtain ⟨b,hb,tb⟩:=hk
 have fin:EP X pins σ Q (.ref b) { s with toks:=s.toks + 1 }:=⟨.ref b,H,I.tok _,rfl,q b (tup_in tb)⟩
 exact subscriptTail_builtinR (x:=.ref b) hm.typeIs slot_dict_getitem.lookup (wpAny_getItem_of (key:=.int k tk) (by simp [intKind,Value.isInt]) hm hb ⟨rfl,fin⟩) hs
theorem pd_fld {a:Expr} {da:yD} {i:Int} {j p1 p2 p3 p4} (hm:X.mg x=some (.ref ad)) (ht:qfN X.K ad t=true) (ha:PEd X a da) (hg:Gl X x:=by rfl) (hd:(x == ("__debug__":Str))=false:=by decide) (hs:PlainIx a:=by exact fun _ _=>rfl) :
  PEd X (.Subscript (.Subscript (.Name x p1) a p2) (.Constant (.int i) j p3) p4) (dUn (fldD t i) da) :=
 (pe_ix ix_tup (pe_ix (ix_dict ht) (pe_glob (v:=.ref ad) hg hm rfl hd) ha hs) pe_int (fun _ _=>rfl)).imp fun σ H Q h=>by
  obtain ⟨ρ,e,c,W,V,p⟩:=h
  refine ⟨ρ,e,c,W,V,post.bind p fun x c1 ρ1 H1 v ex W1 X1 r1 p1=>?_⟩
  clear ex
  unfold fldD at p1
  split at p1
  ·rename_i k
   cases r1
   split at p1
   ·rename_i l hl
    split at p1
    ·rename_i z hz
     refine ⟨k,l,rfl,rfl,hl,fun b hb=>⟨b,_,i,.int z,rfl,rfl,hb,?_,p1.here W1 rfl⟩⟩
     unfold atI at hz ⊢
     rw [List.length_map]
     cases e:ixN l.length i with
     | none=>rw [e] at hz; cases hz
     | some j =>
      rw [e] at hz
      have hz:l[j]? = some z:=hz
      show (l.map L2.V.int)[j]? = _
      rw [List.getElem?_map,hz]; rfl
    ·exact p1.elim
   ·exact p1.elim
  ·exact p1.elim
theorem pd_gname {y:Str} {C:Addr} {pos:Pos} (hm:X.mg y=some (.ref C)) (hn:PySem.W.nsIn X.K mainGlobals y=some (some (.ref C))) (hg:Gl X y:=by rfl) (hd:(y == ("__debug__":Str))=false:=by decide):PEd X (.Name y pos) (dC (.fn y 0)) :=
 qdP (pe_glob (v:=.ref C) hg hm rfl hd) fun _ _=>⟨C,rfl,hn⟩
theorem od_inF (hn:PySem.W.nsIn X.K mainGlobals x=some (some (.ref ad))) (ht:qfN X.K ad t=true):OpR X (compareOp .In) (r2 X.K (inF x t)):=by
 intro pins s σ H v u vv uu Q I rv ru h
 obtain ⟨ρ,a,b,c,W,rx,ry,p⟩:=h
 unfold inF at p
 split at p
 ·split at p
  ·rename_i k y n hy
   subst hy
   cases rx
   obtain ⟨a,rfl,hb⟩:=ry
   rw [hn] at hb
   cases hb
   obtain ⟨tk,rfl⟩:=rv
   cases ru
   obtain ⟨h0,f,hm,hf⟩:=dict_map (prog:=X.prog) (w:=X.w) I.kIn ht
   refine wpAny_in_of (key:=.int k tk) (k:=k) (by simp [intKind,Value.isInt]) h0 hm ?_
   have e:(f k).isSome=(tabF t k).isSome:=by
    have:=hf k
    cases z:tabF t k with
    | none=>rw [z] at this; have this:f k=none:=this; rw [this]; rfl
    | some l=>rw [z] at this; obtain ⟨b,hb,_⟩:=this; rw [hb]; rfl
   rw [e]
   exact ⟨.bl _,H,I.tok _,rfl,p.here W rfl⟩
  ·exact p.elim
 ·exact p.elim
end
def repD:D→D→LC→R D:=fun x y c=>match x,y with
 | .lst l,.int k=>if -(2 ^ 63)≤k∧k < 2 ^ 63∧l.length * k.toNat≤sizeLine then .ok (.lst (List.replicate k.toNat l).flatten) c else .bad
 | _,_=>.bad
theorem Rels.rep {K:PySem.W.Frag} {ρ:List Addr} {H:Hp} {l:List D} {xs:List V} (r:Rels K ρ H l xs):∀ n:Nat,Rels K ρ H (List.replicate n l).flatten (List.replicate n xs).flatten
 | 0=>rfl
 | n + 1=>by
  rw [List.replicate_succ,List.replicate_succ,List.flatten_cons,List.flatten_cons]
  exact Rels.append r (Rels.rep r n)
theorem od_rep {X:Cx}:OpR X (binaryOp .Mult) (r2 X.K repD):=by
 intro pins s σ H v u vv uu Q I rv ru h
 obtain ⟨ρ,x,y,c,W,rx,ry,p⟩:=h
 unfold repD at p
 split at p
 ·split at p
  ·rename_i hl
   obtain ⟨a,xs,rfl,sa,ra⟩:=rx
   cases ry
   exact op_rep pins s σ H _ _ vv uu Q I rv ru ⟨a,_,xs,rfl,rfl,sa.1,hl.1,hl.2.1,by rw [ra.length]; exact hl.2.2,qeO W (Rels.rep ra _) p⟩
  ·exact p.elim
 ·exact p.elim
def Itv (K:PySem.W.Frag) (a:Addr) (n:Nat):It :=
 ⟨fun i H=>i < n∧∃ xs x,SqL K H a xs∧xs[n - 1 - i]? = some x,fun i H x H'=>H'=H∧∀ xs,SqL K H a xs→xs[n - 1 - i]? = some x,fun i H=>i=n⟩
theorem turn_rev {P:Program} {w:World} {K:PySem.W.Frag} {tg:Expr} (a it:Addr) (n:Nat):Turn P w K tg (Itv K a n) [it] it (fun i h=>h.IsRevIter it a ((n:Int) - 1 - (i:Nat))) where
 mem:=by simp
 obj:=fun i h st b hb=>by
  have e:b=it:=by simpa using hb
  subst e
  obtain ⟨o,e,c,d⟩:=st
  exact ⟨o,e,fun v z=>by rw [d] at z; cases z⟩
 keep:=fun i h h' st k=>st.at fun o e=>k it (by simp) o e
 item:=by
  intro X hP hw hK hc i pins s σ H E I hf st hg
  subst hP hw hK
  obtain ⟨hi,xs,x,hq,hx⟩:=hg
  obtain ⟨its,rv,p,hz⟩:=I.list hq
  obtain ⟨u,hu,ru⟩:=rv.get hx
  obtain ⟨f0,f1,f2,f3,f4,f5⟩:=hf it (by simp)
  have e1:(n:Int) - 1 - (i:Nat)=((n - 1 - i:Nat):Int):=by omega
  rw [e1] at st
  refine wpAny_pyNext_rev_item st p.isList (x:=u) (by simpa using hu) fun h' st' sb=>?_
  have e2:((n - 1 - i:Nat):Int) - 1=(n:Int) - 1 - ((i + 1:Nat):Int):=by omega
  rw [e2] at st'
  have I1:Inv X pins σ H { s with heap:=h' }:=I.turned (t':=s.toks) (fun b o hb e=>(sb.2 b hb).trans e) f0 f1 f3 f4 f5
  obtain ⟨o,e,c,d⟩:=id st'
  exact ⟨u,rfl,go_of (s:={ s with heap:=h' }) e c d (by decide) ⟨x,H,I1,ru,⟨rfl,fun ys hy=>by rw [I.list_inj hy hq]; exact hx⟩,st',fun b hb=>(hf b hb).1⟩⟩
 done:=by
  intro X hP hw hK hc i pins s σ H E I hf st hg
  subst hP hw hK
  have hi:i=n:=hg
  subst hi
  obtain ⟨f0,f1,f2,f3,f4,f5⟩:=hf it (by simp)
  have e1:(i:Int) - 1 - (i:Nat) = -1:=by omega
  rw [e1] at st
  exact wpAny_pyNext_rev_end (I.ok.hd hc) st fun h' eb=>⟨rfl,I.turned (t':=s.toks) (fun b o hb e=>eb b o hb e) f0 f1 f3 f4 f5⟩
 self:=fun _ _ _ _ _ st h=>wpAny_pyIter_revIter st h
section
variable {X:Cx} {tg:Expr}
def iRev (K:PySem.W.Frag) (ta:TA):TI:=fun σ H R=>ta σ H fun vs H1=>∃ a xs,vs=[.ref a]∧SqL K H1 a xs∧R (Itv K a xs.length) H1
theorem pi_rev {a:Expr} {ta:TA} {p pos:Pos} (hg:Gl X "reversed") (hm:X.mg "reversed"=none) (ha:PA X [a] ta) (hs:starEach [a] X.env=[(false,eval a X.env)]:=by rfl):PI X tg (.Call (.Name "reversed" p) [a] [] pos) (iRev X.K ta):=by
 intro pins s σ H R I h
 refine Call_ (qe6 I hg hm boot_reversed (PyProof.Rows.callWith_type1 (thn (ha pos pins s σ H _ I h) fun us s1 ⟨vs,H1,I1,r1,q1⟩=>?_) hs rfl))
 obtain ⟨b,xs,e,hq,q⟩:=q1
 subst e
 cases r1 with
 | cons r rr =>
  cases rr
  cases r
  obtain ⟨its,rv,pl,hz⟩:=I1.list hq
  refine call_reversed_list pl.isList ?_
  have I2:Inv X pins σ H1 { s1 with heap:=s1.heap.push (revObj b ((its.toArray.size:Int) - 1)) }:=I1.kept (t':=s1.toks) fun b o e=>Heap.get?_push_of_some _ e
  have hl:=rv.length
  have st:(s1.heap.push (revObj b ((its.toArray.size:Int) - 1))).IsRevIter s1.heap.objs.size b ((xs.length:Int) - 1 - ((0:Nat):Int)):=⟨_,Heap.get?_push_size _ rfl,rfl,by
   have e:(xs.length:Int) - 1 - ((0:Nat):Int)=(its.toArray.size:Int) - 1:=by rw [List.size_toArray,← hl]; omega
   rw [e]; rfl⟩
  refine wpAny_pyIter_revIter st ?_
  refine ⟨s1.heap.objs.size,[s1.heap.objs.size],_,_,H1,rfl,I2,turn_rev b _ xs.length,st,fun c hb=>?_,q⟩
  have e:c=s1.heap.objs.size:=by simpa using hb
  subst e
  exact I1.fpOk (Nat.le_refl _) (I1.hok.fresh (Nat.le_refl _))
def dRev (a:dS):Ev→LC→R Src:=fun e c=>(a e c).bind fun xs c=>match xs with
 | [.lst l]=>.ok ⟨l.reverse,fun _=>True⟩ c
 | _=>.bad
theorem id_rev {a:Expr} {da:dS} {p pos:Pos} (ha:PAd X [a] da) (hm:X.mg "reversed"=none) (hg:Gl X "reversed":=by rfl) (hs:starEach [a] X.env=[(false,eval a X.env)]:=by exact star1 rfl):PId X tg (.Call (.Name "reversed" p) [a] [] pos) (dRev da) :=
 (pi_rev hg hm ha hs).imp fun σ H Q h=>by
  obtain ⟨ρ,e,c,W,V,p⟩:=h
  refine ⟨ρ,e,c,W,V,post.bind p fun x c1 ρ1 H1 v ex W1 X1 r1 p1=>?_⟩
  clear ex
  split at p1
  ·rename_i l
   obtain ⟨y,ys,rfl,ry,rs⟩:=r1
   cases rs
   obtain ⟨a,xs,rfl,s,rl⟩:=ry
   refine ⟨a,xs,rfl,SqL.of s.1,p1.here W1 ?_⟩
   intro ρ' H' c' W' E _ i
   have sq:SqL X.K H' a xs:=SqL.of (qgH E s).1
   have rl':=Rels.mono W1 E _ _ rl
   have hln:=rl.length
   refine ⟨fun d hd=>?_,fun e=>?_⟩
   ·have hd:l.reverse[i]? = some d:=hd
    have hi:i < l.length:=by
     have:=(List.getElem?_eq_some_iff.mp hd).1
     simpa using this
    rw [List.getElem?_reverse hi] at hd
    obtain ⟨x,hx,rx⟩:=rl'.get hd
    rw [← hln] at hx
    refine ⟨⟨by rw [hln]; exact hi,xs,x,sq,hx⟩,fun y H2 hy=>?_⟩
    obtain ⟨rfl,hy⟩:=hy
    have:=hy xs sq
    rw [hx] at this; cases this
    exact ⟨W',Ext.refl,rx⟩
   ·have e:i=l.reverse.length:=e
    show i=xs.length
    rw [e,List.length_reverse,hln]
  ·exact p1.elim
end
section
variable (e:Ev) (c:LC) (l:dS)
@[simp] theorem x_rev:dRev l e c=(l e c).bind fun xs c=>match xs with
 | [.lst l]=>.ok ⟨l.reverse,fun _=>True⟩ c
 | _=>.bad:=rfl
@[simp] theorem x_fld (t:List (Int×List Int)) (i k:Int):fldD t i (.int k) c=match tabF t k with
 | some l=>match atI l i with
  | some z=>.ok (.int z) c
  | none=>.bad
 | none=>.bad:=rfl
@[simp] theorem x_inF (x:Str) (t:List (Int×List Int)) (k:Int) (n:Nat):inF x t (.int k) (.fn x n) c=.ok (.bl (tabF t k).isSome) c:=by
 unfold inF; simp
@[simp] theorem x_rep (m:List D) (k:Int):repD (.lst m) (.int k) c=if -(2 ^ 63)≤k∧k < 2 ^ 63∧m.length * k.toNat≤sizeLine then .ok (.lst (List.replicate k.toNat m).flatten) c else .bad:=rfl
end
theorem qfs {st:LC→Prop} {c:LC} (hst:st c) {a:yD} (h:Int→Int→Int) (rest:Ev):∀ (rx ry:List Int) (v0 v1:Option D) (acc:List D),
  (∀ x∈rx,∀ y∈ry,a (some (.int x) :: some (.int y) :: rest) c=.ok (.int (h x y)) c) →
  qaI st (qca 2 (qaj (qa3 0) (qaj (qa3 1) qce))) dYes a (List.zipWith (fun x y=>D.tup [x,y]) (rx.map D.int) (ry.map D.int)) (v0 :: v1 :: rest) acc c=.ok (acc ++ (List.zipWith h rx ry).map D.int) c
 | [],ry,v0,v1,acc,_=>by simp [qaI,hst]
 | x :: rx,[],v0,v1,acc,_=>by simp [qaI,hst]
 | x :: rx,y :: ry,v0,v1,acc,hb=>by
  have ih:=qfs hst h rest rx ry (some (.int x)) (some (.int y)) (acc ++ [.int (h x y)]) fun u hu v hv=>hb u (List.mem_cons_of_mem _ hu) v (List.mem_cons_of_mem _ hv)
  have hxy:=hb x List.mem_cons_self y List.mem_cons_self
  simp only [List.map_cons,List.zipWith_cons_cons]
  unfold qaI
  rw [if_pos hst]
  simp at ih
  simp [hxy,ih]
end L2
namespace L2
open PySem PySem.Spec PyProof.Rows
def repM:D→D→LC→R D:=fun x y c=>match x,y with
 | .lst l,.int k=>if -(2 ^ 63)≤k∧k < 2 ^ 63∧l.length * k.toNat≤sizeLine∧qak l=true then .ok (.ref c.length) (c ++ [.lst (List.replicate k.toNat l).flatten]) else .bad
 | _,_=>.bad
theorem qg8 {l:List D} (h:qak l=true):∀ n:Nat,qak (List.replicate n l).flatten=true
 | 0=>by simp
 | n + 1=>by rw [List.replicate_succ,List.flatten_cons,qcF,h,qg8 h n]; rfl
theorem od_repM {X:Cx}:OpR X (binaryOp .Mult) (r2 X.K repM):=by
 intro pins s σ H v u vv uu Q I rv ru h
 obtain ⟨ρ,x,y,c,W,rx,ry,p⟩:=h
 unfold repM at p
 split at p
 ·split at p
  ·rename_i hl
   obtain ⟨a,xs,rfl,sa,ra⟩:=rx
   cases ry
   exact op_rep pins s σ H _ _ vv uu Q I rv ru ⟨a,_,xs,rfl,rfl,sa.1,hl.1,hl.2.1,by rw [ra.length]; exact hl.2.2.1,new_cell W (qg8 hl.2.2.2 _) (Rels.rep ra _) p⟩
  ·exact p.elim
 ·exact p.elim
def qbi (o a:yD):yD:=fun e c=>(o e c).bind fun x c=>match x with
 | .ref k=>(a e c).bind fun y c=>match y with
  | .lst m=>match c[k]? with
   | some (.lst l)=>if l.length + m.length≤sizeLine∧qak m=true then .ok .non (c.set k (.lst (l ++ m))) else .bad
   | none=>.bad
  | _=>.bad
 | _=>.bad
theorem qdA {X:Cx} {o e:Expr} {dO da:yD} {apos cpos:Pos} (ho:PEd X o dO) (ha:PEd X e da)
  (hbase:attributeBase o "extend" X.env (eval o X.env)=eval o X.env:=by rfl)
  (hfew:((backTo cpos (starEach [e] X.env)).all (fun x=>!x.1) && (backToKw cpos (keywordEach [] X.env)).all (fun x=>x.1.isSome)
   && decide ([e].length + ([]:List Keyword).length + (if ([]:List Keyword).isEmpty then 0 else 1) < 30))=true:=by exact starFew rfl)
  (hline:(apos.endLine == cpos.line)=true:=by rfl) (hs:starEach [e] X.env=(false,eval e X.env) :: starEach [] X.env:=by exact qd6 rfl) (hplain:(backTo cpos (starEach [] X.env)).any (·.1)=false:=by exact qc6 rfl) :
  PEd X (.Call (.Attribute o "extend" apos) [e] [] cpos) (qbi dO da) :=
 (pe_bm PySem.F.plainAttrs_list PySem.F.slot_list_extend PySem.F.type_list_extend mt_extend ho (qec ha pa_nil hs) hbase hfew hline hs hplain).imp fun σ H Q h=>by
  obtain ⟨ρ,e,c,W,V,p⟩:=h
  refine ⟨ρ,e,c,W,V,post.bind p fun x c1 ρ1 H1 v _ W1 X1 r1 p1=>?_⟩
  cases x with
  | ref k =>
   obtain ⟨a,rfl,ha⟩:=r1
   obtain ⟨xs,hx⟩:=W1.at' (List.mem_of_getElem? ha)
   refine ⟨.inl ⟨rfl,xs,SqL.of hx⟩,ρ1,e,c1,W1,V.mono W X1,post.bind p1 fun y c2 ρ2 H2 u _ W2 X2 r2 p2=>?_⟩
   cases y with
   | lst m =>
    obtain ⟨b,zs,rfl,sb,rb⟩:=r2
    dsimp only at p2
    split at p2
    ·rename_i l hl
     split at p2
     ·rename_i hh
      obtain ⟨nr,ys,hy,rl⟩:=W2.cel k a _ (X2.pre k a ha) hl
      refine ⟨a,b,ys,zs,rfl,rfl,hy,sb.1,by rw [rl.length,rb.length]; exact hh.1,?_⟩
      refine p2 ρ2 _ .non (W2.write (X2.pre k a ha) (by rw [qcF,nr,hh.2]; rfl) (rl.append rb)) (Ext.write (X2.pre k a ha)) rfl
     ·exact p2.elim
    ·exact p2.elim
   | _=>exact p2.elim
  | _=>exact p1.elim
section
variable (e:Ev) (c:LC) (o a:yD)
@[simp] theorem x_repM (m:List D) (k:Int):repM (.lst m) (.int k) c=if -(2 ^ 63)≤k∧k < 2 ^ 63∧m.length * k.toNat≤sizeLine∧qak m=true then .ok (.ref c.length) (c ++ [.lst (List.replicate k.toNat m).flatten]) else .bad:=rfl
end
theorem qdI {α:Type} {st:LC→Prop} {g:Gd} {s:dF} (C:Nat→LC) (E:Nat→α→Ev):∀ (items:List D) (k:Nat) (v:α),(∀ i,i≤items.length→st (C (k + i))) →
  (∀ i x,items[i]? = some x→∀ v,∃ e',g x (E (k + i) v) (C (k + i))=.ok e' (C (k + i))∧∃ v',s e' (C (k + i))=.ok (.nx (E (k + i + 1) v')) (C (k + i + 1))) →
  ∃ v',forD st g s items (E k v) (C k)=.ok (.nx (E (k + items.length) v')) (C (k + items.length))
 | [],k,v,hst,_=>⟨v,by
   have:=hst 0 (Nat.le_refl _)
   rw [Nat.add_zero] at this
   unfold forD
   rw [if_pos this]; rfl⟩
 | x :: xs,k,v,hst,h=>by
  obtain ⟨e',h1,v',h2⟩:=h 0 x rfl v
  obtain ⟨v2,h3⟩:=qdI C E xs (k + 1) v' (fun i hi=>by
   have:=hst (i + 1) (by simp only [List.length_cons]; omega)
   rwa [show k + (i + 1)=k + 1 + i by omega] at this) (fun i y hy v=>by
   have:=h (i + 1) y (by simpa using hy) v
   rwa [show k + (i + 1)=k + 1 + i by omega] at this)
  refine ⟨v2,?_⟩
  unfold forD
  rw [if_pos (by have:=hst 0 (Nat.zero_le _); exact this)]
  rw [Nat.add_zero] at h1 h2
  rw [h1,R.bind_ok,h2]
  simp only [R.bind_ok]
  rw [h3,List.length_cons,show k + (xs.length + 1)=k + 1 + xs.length by omega]
theorem qfL {α:Type} {g:Gd} {s:dF} (C:Nat→LC) (E:Nat→α→Ev) {N:Int} {n:Nat} (hN:N=n) (v:α)
  (h:∀ i,i < n→∀ v,∃ e',g (.int (i:Nat)) (E i v) (C i)=.ok e' (C i)∧∃ v',s e' (C i)=.ok (.nx (E (i + 1) v')) (C (i + 1))) :
  ∃ v',forD (fun _=>True) g s (rngD 0 N) (E 0 v) (C 0)=.ok (.nx (E n v')) (C n):=by
 have hl:(rngD 0 N).length=n:=by rw [qbH]; omega
 have:=qdI (st:=fun _=>True) C E (rngD 0 N) 0 v (fun _ _=>trivial) (fun i x hx v=>by
  obtain ⟨h1,rfl⟩:=qfy hx
  rw [Nat.zero_add,Int.zero_add]
  exact h i (by omega) v)
 rwa [hl,Nat.zero_add] at this
theorem ix_end {c:LC} {l:List D} {i:Int} {j:Nat} {d:D} (hi:i=j) (h:l[j]? = some d):ixD (.ref c.length) (.int i) (c ++ [.lst l])=.ok d (c ++ [.lst l]):=by
 subst hi
 unfold ixD seqD
 simp only [List.getElem?_concat_length]
 have:=qcu (xs:=l) (j:=j) (v:=d) h
 rw [this]
theorem set_end {c:LC} {l:List D} {i:Int} {j:Nat} {d:D} (hi:i=j) (h:j < l.length) (hd:qaS d=true):setD (.ref c.length) (.int i) d (c ++ [.lst l])=.ok () (c ++ [.lst (l.set j d)]):=by
 subst hi
 unfold setD
 simp [ixN,h,hd]
def qgZ:List Expr→Option (List Int)
 | []=>some []
 | e :: r=>match e with
  | .Constant (.int i) _ _=>(qgZ r).map (i :: ·)
  | _=>none
def dInts (l:List Int):dS:=fun _ c=>.ok (l.map D.int) c
theorem pd_ints {X:Cx}:∀ {es:List Expr} {l:List Int},qgZ es=some l→PAd X es (dInts l)
 | [],l,h=>by cases h; exact qa4
 | e :: es,l,h=>by
  unfold qgZ at h
  split at h
  ·rename_i i j pos
   cases q:qgZ es with
   | none=>rw [q] at h; cases h
   | some r =>
    rw [q] at h
    cases h
    exact qa1 qa8 (pd_ints q) (qd6 rfl)
  ·cases h
@[simp] theorem x_ints (l:List Int) (e:Ev) (c:LC):dInts l e c=.ok (l.map D.int) c:=rfl
end L2
namespace L2
open PySem
abbrev Up (l:List Nat):Prop:=l.Pairwise (· < ·)
theorem getD_list (xs:Array Nat) (i d:Nat):xs.getD i d=xs.toList.getD i d:=by
 simp [Array.getD_eq_getD_getElem?,List.getD_eq_getElem?_getD]
theorem up_lt {l:List Nat} (h:Up l) {i k:Nat} (hik:i < k) (hk:k < l.length):l.getD i 0 < l.getD k 0:=by
 have:=List.pairwise_iff_getElem.mp h i k (by omega) hk hik
 simpa [List.getD_eq_getElem?_getD,List.getElem?_eq_getElem hk,List.getElem?_eq_getElem (show i < l.length by omega)] using this
def Parts (l:List Nat) (j p:Nat):Prop:=p≤l.length∧(∀ i,i < p→l.getD i 0 < j)∧∀ i,p≤i→i < l.length→j≤l.getD i 0
theorem qgY {xs:Array Nat} {j:Nat} (h:Up xs.toList):∀ fuel lo hi,lo≤hi→hi≤xs.toList.length→hi - lo≤fuel→(∀ i,i < lo→xs.toList.getD i 0 < j)→(∀ i,hi≤i→i < xs.toList.length→j≤xs.toList.getD i 0) →
  Parts xs.toList j (SetTable.below.go xs j fuel lo hi)
 | 0,lo,hi,h1,h2,h3,h4,h5=>⟨by unfold SetTable.below.go; omega,fun i hi'=>h4 i (by unfold SetTable.below.go at hi'; exact hi'),fun i hi'=>h5 i (by unfold SetTable.below.go at hi'; omega)⟩
 | fuel + 1,lo,hi,h1,h2,h3,h4,h5=>by
  unfold SetTable.below.go
  by_cases hl:lo < hi
  ·rw [if_pos hl]
   dsimp only
   have hm:(lo + hi) / 2 < xs.toList.length:=by omega
   have he:xs.getD ((lo + hi) / 2) j=xs.toList.getD ((lo + hi) / 2) 0:=by
    rw [getD_list]; simp [List.getD_eq_getElem?_getD,List.getElem?_eq_getElem hm]
   rw [he]
   by_cases hc:xs.toList.getD ((lo + hi) / 2) 0 < j
   ·rw [if_pos hc]
    refine qgY h fuel _ _ (by omega) h2 (by omega) (fun i hi'=>?_) h5
    by_cases hq:i=(lo + hi) / 2
    ·rw [hq]; exact hc
    ·exact Nat.lt_trans (up_lt h (show i < (lo + hi) / 2 by omega) hm) hc
   ·rw [if_neg hc]
    refine qgY h fuel _ _ (by omega) (by omega) (by omega) h4 (fun i hi' hl'=>?_)
    by_cases hq:i=(lo + hi) / 2
    ·rw [hq]; omega
    ·exact Nat.le_trans (by omega) (Nat.le_of_lt (up_lt h (show (lo + hi) / 2 < i by omega) hl'))
  ·rw [if_neg hl]
   exact ⟨by omega,h4,fun i hi'=>h5 i (by omega)⟩
theorem qds {xs:Array Nat} (h:Up xs.toList) (j:Nat):Parts xs.toList j (SetTable.below xs j):=by
 unfold SetTable.below
 exact qgY h _ _ _ (Nat.zero_le _) (by simp) (by simp) (fun i hi=>absurd hi (Nat.not_lt_zero _)) (fun i h1 h2=>by simp at h2; omega)
theorem below_zero {xs:Array Nat} (h:Up xs.toList):SetTable.below xs 0=0:=by
 obtain ⟨_,h2,_⟩:=qds h 0
 rcases Nat.eq_zero_or_pos (SetTable.below xs 0) with e | e
 ·exact e
 ·exact absurd (h2 0 e) (Nat.not_lt_zero _)
theorem below_next {xs:Array Nat} (h:Up xs.toList) {i:Nat} (hi:i < xs.toList.length):SetTable.below xs (xs.toList.getD i 0 + 1)=i + 1:=by
 obtain ⟨h1,h2,h3⟩:=qds h (xs.toList.getD i 0 + 1)
 rcases Nat.lt_trichotomy (SetTable.below xs (xs.toList.getD i 0 + 1)) (i + 1) with e | e | e
 ·have:=h3 i (by omega) hi; omega
 ·exact e
 ·have a:=h2 (i + 1) e
  have b:=up_lt h (show i < i + 1 by omega) (show i + 1 < xs.toList.length by omega)
  omega
theorem below_mem {xs:Array Nat} (h:Up xs.toList) {j:Nat} (hj:j∈xs.toList):xs[SetTable.below xs j]? = some j:=by
 obtain ⟨i,hi,e⟩:=List.getElem_of_mem hj
 obtain ⟨h1,h2,h3⟩:=qds h j
 have e':xs.toList.getD i 0=j:=by rw [List.getD_eq_getElem?_getD,List.getElem?_eq_getElem hi]; exact e
 have hp:SetTable.below xs j=i:=by
  rcases Nat.lt_trichotomy (SetTable.below xs j) i with q | q | q
  ·have a:=h3 (SetTable.below xs j) (Nat.le_refl _) (by omega)
   have b:=up_lt h q hi
   omega
  ·exact q
  ·have a:=h2 i q; omega
 rw [hp,← Array.getElem?_toList,List.getElem?_eq_getElem hi,e]
theorem up_put {xs:Array Nat} (h:Up xs.toList) {j:Nat} (hj:j∉xs.toList):Up (SetTable.insertAt xs (SetTable.below xs j) j).toList:=by
 rw [SetTable.toList_insertAt]
 obtain ⟨h1,h2,h3⟩:=qds h j
 generalize SetTable.below xs j=p at h1 h2 h3
 have ht:∀ a∈xs.toList.take p,a < j:=by
  intro a ha
  obtain ⟨i,hi,e⟩:=List.getElem_of_mem ha
  have hi':i < p∧i < xs.toList.length:=by simp at hi ⊢; omega
  have:=h2 i hi'.1
  rw [List.getElem_take] at e
  rw [List.getD_eq_getElem?_getD,List.getElem?_eq_getElem hi'.2] at this
  simpa [← e] using this
 have hd:∀ a∈xs.toList.drop p,j < a:=by
  intro a ha
  have hm:a∈xs.toList:=List.mem_of_mem_drop ha
  obtain ⟨i,hi,e⟩:=List.getElem_of_mem ha
  have hi':p + i < xs.toList.length:=by simp at hi ⊢; omega
  have:=h3 (p + i) (by omega) hi'
  rw [List.getElem_drop] at e
  rw [List.getD_eq_getElem?_getD,List.getElem?_eq_getElem hi'] at this
  have hle:j≤a:=by simpa [← e] using this
  exact Nat.lt_of_le_of_ne hle fun q=>hj (q ▸ hm)
 refine List.pairwise_append.mpr ⟨h.sublist (List.take_sublist _ _),List.pairwise_cons.mpr ⟨hd,h.sublist (List.drop_sublist _ _)⟩,fun a ha b hb=>?_⟩
 rcases List.mem_cons.mp hb with rfl | hb
 ·exact ht a ha
 ·exact Nat.lt_trans (ht a ha) (hd b hb)
theorem pigeon:∀ (n:Nat) (l:List Nat),(∀ j,j < n→j∈l)→n≤l.length
 | 0,_,_=>Nat.zero_le _
 | n + 1,l,h=>by
  have hn:=h n (Nat.lt_succ_self _)
  have:=pigeon n (l.erase n) fun j hj=>(List.mem_erase_of_ne (by omega)).mpr (h j (by omega))
  rw [List.length_erase_of_mem hn] at this
  have:=List.length_pos_of_mem hn
  omega
def cov (mask:Nat):Nat→Nat→Nat→Nat→Nat→Nat→Bool
 | 0,_,_,_,_,_=>false
 | n + 1,j,more,i,q,acc =>
  if acc ||| (1 <<< j)=2 ^ (mask + 1) - 1 then true
  else if more > 0 then cov mask n (j + 1) (more - 1) i q (acc ||| (1 <<< j))
  else cov mask n ((i * 5 + 1 + q / 32) % (mask + 1)) (SetTable.runEnd mask ((i * 5 + 1 + q / 32) % (mask + 1)) - (i * 5 + 1 + q / 32) % (mask + 1)) ((i * 5 + 1 + q / 32) % (mask + 1)) (q / 32) (acc ||| (1 <<< j))
def covAll (mask:Nat):Bool:=(List.range 128).all fun h=>cov mask (10 * (mask + 15)) (h % (mask + 1)) (SetTable.runEnd mask (h % (mask + 1)) - h % (mask + 1)) (h % (mask + 1)) h 0
def covR (mask:Nat):Nat→Nat→Nat→Nat→Bool
 | 0,_,_,_=>false
 | n + 1,i,q,acc =>
  if acc ||| ((2 ^ (SetTable.runEnd mask i + 1 - i) - 1) <<< i)=2 ^ (mask + 1) - 1 then true
  else covR mask n ((i * 5 + 1 + q / 32) % (mask + 1)) (q / 32) (acc ||| ((2 ^ (SetTable.runEnd mask i + 1 - i) - 1) <<< i))
def covRAll (mask:Nat):Bool:=(List.range 128).all fun h=>covR mask (mask + 15) (h % (mask + 1)) h 0
theorem cov7:covAll 7=true:=by decide +kernel
theorem cov31:covAll 31=true:=by decide +kernel
theorem cov127:covAll 127=true:=by decide +kernel
theorem covR31:covRAll 31=true:=by decide +kernel
theorem covR127:covRAll 127=true:=by decide +kernel
end L2
namespace L2
open PySem
theorem qgX (acc j k:Nat):(acc ||| (1 <<< j)).testBit k=(acc.testBit k || decide (k=j)):=by
 rw [Nat.testBit_or,Nat.one_shiftLeft,Nat.testBit_two_pow]
 by_cases h:j=k
 ·subst h; simp
 ·simp [h,Ne.symm h]
theorem cov_le {mask:Nat}:∀ n j more i q acc,cov mask n j more i q acc=true→∀ k,acc.testBit k=true→k≤mask
 | 0,_,_,_,_,_,h,_,_=>by cases h
 | n + 1,j,more,i,q,acc,h,k,hk=>by
  have hk':(acc ||| (1 <<< j)).testBit k=true:=by rw [qgX,hk]; rfl
  unfold cov at h
  split at h
  ·rename_i e
   rw [e,Nat.testBit_two_pow_sub_one] at hk'
   have:=of_decide_eq_true hk'; omega
  ·split at h
   ·exact cov_le _ _ _ _ _ _ h k hk'
   ·exact cov_le _ _ _ _ _ _ h k hk'
theorem slot_two {t:SetTable} (hd:t.dummies=#[]) (j:Nat):t.slot j=.empty∨∃ i,t.slot j=.live i:=by
 unfold SetTable.slot
 dsimp only
 split
 ·exact .inr ⟨_,rfl⟩
 ·rw [hd]
  exact .inl rfl
theorem qgO {t:SetTable} {h:Int} (hd:t.dummies=#[]):∀ n (p:SetTable.Probe) acc fuel,cov t.mask n p.j p.more p.i p.perturb acc=true→p.dummy=none→n≤fuel →
  (∀ k,acc.testBit k=true→t.slot k≠.empty)→(∃ j,j≤t.mask∧t.slot j=.empty) →
  ∃ j,SetTable.probe.go t (fun _=>h + 1) h fuel p=some (.empty j none)∧t.slot j=.empty∧j≤t.mask
 | 0,_,_,_,h,_,_,_,_=>by simp [cov] at h
 | n + 1,p,acc,0,_,_,h,_,_=>by omega
 | n + 1,p,acc,fuel + 1,hc,hn,hf,ha,hj=>by
  have hle:p.j≤t.mask:=by
   have hk':(acc ||| (1 <<< p.j)).testBit p.j=true:=by rw [qgX]; simp
   unfold cov at hc
   split at hc
   ·rename_i e
    rw [e,Nat.testBit_two_pow_sub_one] at hk'
    have:=of_decide_eq_true hk'; omega
   ·split at hc
    ·exact cov_le _ _ _ _ _ _ hc _ hk'
    ·exact cov_le _ _ _ _ _ _ hc _ hk'
  unfold SetTable.probe.go
  rcases slot_two hd p.j with e | ⟨i,e⟩
  ·rw [e]
   dsimp only
   exact ⟨p.j,by rw [hn],e,hle⟩
  ·rw [e]
   dsimp only
   have hne:(h + 1 == h)=false:=by simp; omega
   rw [hne]
   simp only [Bool.false_eq_true,if_false]
   have ha':∀ k,(acc ||| (1 <<< p.j)).testBit k=true→t.slot k≠.empty:=by
    intro k hk
    rw [qgX,Bool.or_eq_true,decide_eq_true_eq] at hk
    rcases hk with hk | rfl
    ·exact ha k hk
    ·rw [e]; intro q; cases q
   unfold cov at hc
   split at hc
   ·rename_i ef
    obtain ⟨j0,h0,e0⟩:=hj
    exact absurd e0 (ha' j0 (by rw [ef,Nat.testBit_two_pow_sub_one]; exact decide_eq_true (by omega)))
   ·split at hc
    ·rename_i hm
     have hadv:t.advance p={ p with j:=p.j + 1,more:=p.more - 1 }:=by unfold SetTable.advance; rw [if_pos hm]
     rw [hadv]
     exact qgO hd n _ _ fuel hc hn (by omega) ha' hj
    ·rename_i hm
     have hadv:t.advance p={ p with j:=(p.i * 5 + 1 + p.perturb / 32) % (t.mask + 1),more:=SetTable.runEnd t.mask ((p.i * 5 + 1 + p.perturb / 32) % (t.mask + 1)) - (p.i * 5 + 1 + p.perturb / 32) % (t.mask + 1),i:=(p.i * 5 + 1 + p.perturb / 32) % (t.mask + 1),perturb:=p.perturb / 32 }:=by
      unfold SetTable.advance; rw [if_neg hm]; rfl
     rw [hadv]
     exact qgO hd n _ _ fuel hc hn (by omega) ha' hj
theorem qgl {n:Nat} (h:n < 128):SetTable.bits (n:Int)=n:=by
 unfold SetTable.bits
 have:((n:Int) % (2 ^ 64:Int))=n:=Int.emod_eq_of_lt (by omega) (by omega)
 rw [this]; rfl
def okMask (m:Nat):Prop:=m=7∨m=31∨m=127
theorem cov_of {m:Nat} (h:okMask m) {n:Nat} (hn:n < 128):cov m (10 * (m + 15)) (n % (m + 1)) (SetTable.runEnd m (n % (m + 1)) - n % (m + 1)) (n % (m + 1)) n 0=true:=by
 have:covAll m=true:=h.elim (fun e=>e ▸ cov7) fun h=>h.elim (fun e=>e ▸ cov31) fun e=>e ▸ cov127
 exact List.all_eq_true.mp this n (List.mem_range.mpr hn)
theorem free_slot {t:SetTable} {n:Nat} (hd:t.dummies=#[]) (hm:okMask t.mask) (hn:n < 128) (hs:t.place.toList.length≤t.mask) (hu:Up t.place.toList) :
  ∃ j,t.freeSlot (n:Int)=some (j,false)∧j∉t.place.toList∧j≤t.mask:=by
 have hmem:∀ j,t.slot j=.empty→j∉t.place.toList:=by
  intro j e hj
  unfold SetTable.slot at e
  dsimp only at e
  rw [below_mem hu hj] at e
  simp at e
 have hemp:∀ j,j∉t.place.toList→t.slot j=.empty:=by
  intro j hj
  rcases slot_two hd j with e | ⟨i,e⟩
  ·exact e
  ·unfold SetTable.slot at e
   dsimp only at e
   split at e
   ·rename_i q
    have:=eq_of_beq q
    rw [← Array.getElem?_toList] at this
    exact absurd (List.mem_of_getElem? this) hj
   ·split at e <;> cases e
 have hex:∃ j,j≤t.mask∧t.slot j=.empty:=by
  by_cases q:∃ j,j≤t.mask∧j∉t.place.toList
  ·obtain ⟨j,a,b⟩:=q; exact ⟨j,a,hemp j b⟩
  ·have:=pigeon (t.mask + 1) t.place.toList fun j hj=>Classical.byContradiction fun x=>q ⟨j,by omega,x⟩
   omega
 have hb:=qgl hn
 obtain ⟨j,e,e1,e2⟩:=qgO (t:=t) (h:=(n:Int)) hd (10 * (t.mask + 15)) (t.probeStart n) 0 (10 * SetTable.turns t.mask)
  (by show cov _ _ (SetTable.bits n % _) (SetTable.runEnd t.mask (SetTable.bits n % (t.mask + 1)) - SetTable.bits n % (t.mask + 1)) (SetTable.bits n % _) (SetTable.bits n) _=true; rw [hb]; exact cov_of hm hn) rfl (Nat.le_refl _) (fun k hk=>by simp at hk) hex
 refine ⟨j,?_,hmem j e1,e2⟩
 unfold SetTable.freeSlot SetTable.probe
 rw [e]
 rfl
theorem run_bit (c i k:Nat):((2 ^ c - 1) <<< i).testBit k=decide (i≤k∧k < i + c):=by
 rw [Nat.testBit_shiftLeft,Nat.testBit_two_pow_sub_one]
 by_cases h:i≤k
 ·simp only [ge_iff_le,h,decide_true,Bool.true_and,true_and]
  exact decide_eq_decide.mpr (by omega)
 ·simp [h]
theorem lay_free {mask:Nat} {owner:Array (Option Nat)}:∀ n i q acc fuel,covR mask n i q acc=true→n≤fuel→(∀ k,k≤mask→acc.testBit k=true→owner.getD k (some 0)≠none) →
  (∃ j,j≤mask∧owner.getD j (some 0)=none)→∃ j,SetTable.layClean.free mask owner fuel i q=some j∧owner.getD j (some 0)=none
 | 0,_,_,_,_,h,_,_,_=>by simp [covR] at h
 | n + 1,i,q,acc,0,_,h,_,_=>by omega
 | n + 1,i,q,acc,fuel + 1,hc,hf,ha,hj=>by
  unfold SetTable.layClean.free
  cases hr:(List.range (SetTable.runEnd mask i + 1 - i)).find? (fun k=>(owner.getD (i + k) (some 0)).isNone) with
  | some k =>
   dsimp only
   have:=List.find?_some hr
   exact ⟨i + k,rfl,by simpa using this⟩
  | none =>
   dsimp only
   have hno:=List.find?_eq_none.mp hr
   have ha':∀ k,k≤mask→(acc ||| ((2 ^ (SetTable.runEnd mask i + 1 - i) - 1) <<< i)).testBit k=true→owner.getD k (some 0)≠none:=by
    intro k hk hb
    rw [Nat.testBit_or,run_bit,Bool.or_eq_true,decide_eq_true_eq] at hb
    rcases hb with hb | hb
    ·exact ha k hk hb
    ·intro e
     have:=hno (k - i) (List.mem_range.mpr (by omega))
     rw [show i + (k - i)=k by omega,e] at this
     exact this rfl
   unfold covR at hc
   split at hc
   ·rename_i ef
    obtain ⟨j0,h0,e0⟩:=hj
    exact absurd e0 (ha' j0 h0 (by rw [ef,Nat.testBit_two_pow_sub_one]; exact decide_eq_true (by omega)))
   ·exact lay_free n _ _ _ fuel hc (by omega) ha' hj
def qeM (m:Nat):Prop:=m=31∨m=127
theorem covR_of {m:Nat} (h:qeM m) {n:Nat} (hn:n < 128):covR m (m + 15) (n % (m + 1)) n 0=true:=by
 have:covRAll m=true:=h.elim (fun e=>e ▸ covR31) fun e=>e ▸ covR127
 exact List.all_eq_true.mp this n (List.mem_range.mpr hn)
theorem filt_set:∀ (l:List (Option Nat)) (j k:Nat),j < l.length→l.getD j (some 0)=none→((l.set j (some k)).filterMap id).Perm (k :: l.filterMap id)
 | [],_,_,h,_=>absurd h (Nat.not_lt_zero _)
 | x :: l,0,k,_,e=>by
  have:x=none:=by simpa using e
  subst this
  simp
 | x :: l,j + 1,k,h,e=>by
  have ih:=filt_set l j k (by simpa using h) (by simpa using e)
  rw [List.set_cons_succ]
  cases x with
  | none=>simpa using ih
  | some a =>
   simp only [List.filterMap_cons,id]
   exact (ih.cons a).trans (List.Perm.swap _ _ _)
theorem filt_full:∀ (l:List (Option Nat)),(∀ j,j < l.length→l.getD j (some 0)≠none)→(l.filterMap id).length=l.length
 | [],_=>rfl
 | x :: l,h=>by
  cases x with
  | none=>exact absurd rfl (h 0 (by simp))
  | some a =>
   have:=filt_full l fun j hj=>by simpa using h (j + 1) (by simpa using hj)
   simp [this]
def LayI (mask:Nat) (owner:Array (Option Nat)) (k:Nat):Prop:=owner.toList.length=mask + 1∧(owner.toList.filterMap id).Perm (List.range k)
theorem qfq (xs:Array (Option Nat)) (i:Nat) (d:Option Nat):xs.getD i d=xs.toList.getD i d:=by
 simp [Array.getD_eq_getD_getElem?,List.getD_eq_getElem?_getD]
theorem lay_step {mask:Nat} {owner:Array (Option Nat)} {k n:Nat} (hm:qeM mask) (hn:n < 128) (I:LayI mask owner k) (hk:k≤mask) :
  ∃ j,SetTable.layClean.free mask owner (SetTable.turns mask) (SetTable.bits n % (mask + 1)) (SetTable.bits n)=some j∧LayI mask (owner.setIfInBounds j (some k)) (k + 1):=by
 obtain ⟨h1,h2⟩:=I
 have hex:∃ j,j≤mask∧owner.getD j (some 0)=none:=by
  by_cases q:∃ j,j≤mask∧owner.getD j (some 0)=none
  ·exact q
  ·have:=filt_full owner.toList fun j hj e=>q ⟨j,by omega,by rw [qfq]; exact e⟩
   have h3:=h2.length_eq
   rw [List.length_range] at h3
   omega
 obtain ⟨j,e,e1⟩:=lay_free (mask + 15) _ _ 0 (SetTable.turns mask) (covR_of hm hn) (Nat.le_refl _) (fun k _ hb=>by simp at hb) hex
 refine ⟨j,by rw [qgl hn]; exact e,by simpa using h1,?_⟩
 rw [qfq] at e1
 have hj:j < owner.toList.length:=by
  rcases Nat.lt_or_ge j owner.toList.length with q | q
  ·exact q
  ·rw [List.getD_eq_getElem?_getD,List.getElem?_eq_none q] at e1; cases e1
 rw [Array.toList_setIfInBounds]
 refine (filt_set _ j k hj e1).trans ?_
 rw [List.range_succ]
 exact (h2.cons k).trans (List.perm_append_singleton k _).symm
theorem lay_all {mask:Nat} (hm:qeM mask):∀ (hs:List Int) (owner:Array (Option Nat)) (k:Nat),(∀ h∈hs,∃ n:Nat,h=n∧n < 128)→LayI mask owner k→k + hs.length≤mask →
  ∃ ow,hs.foldl (fun acc h=>(do
   let (owner,k) ← acc
   let j ← SetTable.layClean.free mask owner (SetTable.turns mask) (SetTable.bits h % (mask + 1)) (SetTable.bits h)
   pure (owner.setIfInBounds j (some k),k + 1):Option (Array (Option Nat)×Nat))) (some (owner,k))=some (ow,k + hs.length)∧LayI mask ow (k + hs.length)
 | [],owner,k,_,I,_=>⟨owner,rfl,I⟩
 | h :: hs,owner,k,hh,I,hl=>by
  obtain ⟨n,e,hn⟩:=hh h (.head _)
  subst e
  simp only [List.length_cons] at hl
  obtain ⟨j,e,I'⟩:=lay_step hm hn I (by omega)
  obtain ⟨ow,e',I''⟩:=lay_all hm hs _ (k + 1) (fun h x=>hh h (.tail _ x)) I' (by omega)
  refine ⟨ow,?_,by rw [List.length_cons,show k + (hs.length + 1)=k + 1 + hs.length by omega]; exact I''⟩
  rw [List.foldl_cons,List.length_cons,show k + (hs.length + 1)=k + 1 + hs.length by omega,← e']
  congr 1
  show (do let j ← SetTable.layClean.free mask owner (SetTable.turns mask) (SetTable.bits n % (mask + 1)) (SetTable.bits n); pure (owner.setIfInBounds j (some k),k + 1):Option (Array (Option Nat)×Nat))=_
  rw [e]
  rfl
theorem lay_clean {mask:Nat} (hm:qeM mask) (hs:Array Int) (hh:∀ h∈hs.toList,∃ n:Nat,h=n∧n < 128) (hl:hs.toList.length≤mask) :
  ∃ ow,SetTable.layClean mask hs=some ow∧LayI mask ow hs.toList.length:=by
 obtain ⟨ow,e,I⟩:=lay_all hm hs.toList (Array.replicate (mask + 1) none) 0 hh ⟨by simp,by simp⟩ (by omega)
 rw [Nat.zero_add] at e I
 refine ⟨ow,?_,I⟩
 unfold SetTable.layClean
 rw [← Array.foldl_toList]
 exact congrArg (Option.map (fun x:Array (Option Nat)×Nat=>x.1)) e
theorem qg2 (l:List (Option Nat)):(List.range l.length).filterMap (fun j=>l.getD j none)=l.filterMap id:=by
 have:l=(List.range l.length).map (fun j=>l.getD j none):=by
  apply List.ext_getElem
  ·simp
  ·intro i h1 h2
   simp [List.getD_eq_getElem?_getD,List.getElem?_eq_getElem h1]
 conv=>rhs; rw [this]
 rw [List.filterMap_map]
 rfl
theorem laid_ok {mask:Nat} (hm:qeM mask) (f mv:Nat) (led plain:Bool) (hs:Array Int) (hh:∀ h∈hs.toList,∃ n:Nat,h=n∧n < 128) (hl:hs.toList.length≤mask) :
  ∃ place order,SetTable.laid mask f mv led plain hs=some ({ mask:=mask,place:=place,dummies:=#[],finger:=f,led:=led,moves:=mv,plain:=plain },order)∧Up place.toList∧(∀ j∈place.toList,j≤mask)∧place.size=hs.size∧order.toList.Perm (List.range hs.size):=by
 obtain ⟨ow,e,h1,h2⟩:=lay_clean hm hs hh hl
 refine ⟨(((List.range (mask + 1)).filterMap fun j=>(ow.getD j none).map (j,·)).map (·.1)).toArray,(((List.range (mask + 1)).filterMap fun j=>(ow.getD j none).map (j,·)).map (·.2)).toArray,?_,?_,?_,?_,?_⟩
 ·unfold SetTable.laid
  rw [e]
  rfl
 ·show Up ((((List.range (mask + 1)).filterMap fun j=>(ow.getD j none).map (j,·)).map (·.1)).toArray).toList
  show List.Pairwise _ _
  rw [List.pairwise_map]
  refine List.Pairwise.filterMap _ (fun a a' hlt b hb b' hb'=>?_) List.pairwise_lt_range
  cases ha:ow.getD a none <;> rw [ha] at hb <;> simp at hb
  cases ha':ow.getD a' none <;> rw [ha'] at hb' <;> simp at hb'
  rw [← hb,← hb']
  exact hlt
 ·intro j hj
  simp only [List.mem_map,List.mem_filterMap,List.mem_range] at hj
  obtain ⟨⟨a,b⟩,⟨c,hc,hq⟩,rfl⟩:=hj
  cases ha:ow.getD c none <;> rw [ha] at hq <;> simp at hq
  obtain ⟨rfl,_⟩:=hq
  omega
 ·have:((List.range (mask + 1)).filterMap fun j=>(ow.getD j none).map (j,·)).length=(ow.toList.filterMap id).length:=by
   rw [← qg2,h1,← List.length_map (f:=Prod.snd),List.map_filterMap]
   congr 1
   congr 1
   funext j
   rw [qfq]
   cases ow.toList.getD j none <;> rfl
  rw [List.size_toArray,List.length_map,this,h2.length_eq,List.length_range]
  simp
 ·show (((List.range (mask + 1)).filterMap fun j=>(ow.getD j none).map (j,·)).map (·.2)).Perm _
  have:(((List.range (mask + 1)).filterMap fun j=>(ow.getD j none).map (j,·)).map (·.2))=ow.toList.filterMap id:=by
   rw [← qg2,h1,List.map_filterMap]
   congr 1
   funext j
   rw [qfq]
   cases ow.toList.getD j none <;> rfl
  rw [this]
  simpa using h2
end L2
namespace L2
open PySem
structure TblI (t:SetTable) (n:Nat):Prop where
 size:t.place.size=n
 up:Up t.place.toList
 le:∀ j∈t.place.toList,j≤t.mask
 dm:t.dummies=#[]
 mask:(t.mask=7∧n≤4)∨(t.mask=31∧n≤18)∨(t.mask=127∧n≤76)
 plain:t.plain=true
theorem TblI.fits {t:SetTable} {n:Nat} (h:TblI t n):t.fits n=true:=by
 have:=h.mask
 simp only [SetTable.fits,SetTable.fill,h.size,h.dm,Bool.and_eq_true,beq_self_eq_true,true_and,decide_eq_true_eq]
 simp only [List.size_toArray,List.length_nil]
 omega
theorem ti_fresh (led:Bool):TblI (.fresh 0 0 led) 0:=⟨rfl,.nil,fun j h=>by simp [SetTable.fresh] at h,rfl,.inl ⟨rfl,by omega⟩,rfl⟩
def HS (es:List (Int×Value)):Prop:=∀ e∈es,∃ n:Nat,e.1=n∧n < 128
theorem lay_new {t:SetTable} {es:Array (Int×Value)} {x:Value} {m:Nat} (I:TblI t es.size) (hm:m < 128) (hn:es.size < 64) :
  ∃ es1 t1,layNew t es (m:Int) x=(es1,t1,false,false)∧es1.size=es.size + 1∧t1.led=t.led∧t1.plain=true∧t1.place.size=es1.size∧Up t1.place.toList∧(∀ j∈t1.place.toList,j≤t1.mask)∧t1.dummies=#[]∧t1.mask=t.mask∧t1.fits es1.size=true:=by
 have hk:=I.mask
 have hok:okMask t.mask:=by unfold okMask; omega
 have hsz:=I.size
 obtain ⟨j,e,h1,h2⟩:=free_slot (t:=t) I.dm hok hm (by simp [hsz]; omega) I.up
 have hnd:(if SetTable.has t.dummies j then SetTable.eraseAt t.dummies (SetTable.below t.dummies j) else t.dummies)=#[]:=by
  rw [I.dm]; rfl
 have hs1:(SetTable.insertAt es (SetTable.below t.place j) ((m:Int),x)).size=es.size + 1:=by
  rw [← Array.length_toList,(SetTable.insertAt_perm ..).length_eq]; simp
 have hs2:(SetTable.insertAt t.place (SetTable.below t.place j) j).size=es.size + 1:=by
  rw [← Array.length_toList,(SetTable.insertAt_perm ..).length_eq]; simp [hsz]
 have hfit:(t.put j).1.fits (es.size + 1)=true:=by
  simp only [SetTable.put,SetTable.fits,SetTable.fill,hnd,hs2,Bool.and_eq_true,beq_self_eq_true,true_and,decide_eq_true_eq]
  simp only [List.size_toArray,List.length_nil]
  omega
 refine ⟨SetTable.insertAt es (SetTable.below t.place j) ((m:Int),x),(t.put j).1,?_,hs1,rfl,I.plain,?_,?_,?_,hnd,rfl,?_⟩
 ·unfold layNew
  rw [e]
  dsimp only
  have hp:(t.put j).2=SetTable.below t.place j:=rfl
  rw [hp,hs1]
  unfold SetTable.orStandIn
  rw [hfit]
  rfl
 ·rw [hs1]; exact hs2
 ·exact up_put I.up h1
 ·intro k hk'
  have:k∈(t.place.push j).toList:=(SetTable.insertAt_perm t.place (SetTable.below t.place j) j).mem_iff.mp hk'
  rw [Array.toList_push,List.mem_append,List.mem_singleton] at this
  rcases this with q | rfl
  ·exact I.le k q
  ·exact h2
 ·rw [hs1]; exact hfit
theorem relay_ok {t:SetTable} {es:Array (Int×Value)} (hp:t.plain=true) (hh:HS es.toList) (hm:(t.mask=7∧es.size=5)∨(t.mask=31∧es.size=19)) :
  ∃ es2 t2,relayAll t es (SetTable.grown es.size)=(es2,t2,false)∧es2.size=es.size∧TblI t2 es2.size∧t2.led=t.led:=by
 have hw:∃ m,SetTable.sizeAbove (SetTable.grown es.size) - 1=m∧((m=31∧es.size=5)∨(m=127∧es.size=19)):=by
  rcases hm with ⟨_,e⟩ | ⟨_,e⟩
  ·rw [e]; exact ⟨31,by decide,.inl ⟨rfl,rfl⟩⟩
  ·rw [e]; exact ⟨127,by decide,.inr ⟨rfl,rfl⟩⟩
 obtain ⟨m,ew,hq⟩:=hw
 have hs:(es.map (·.1)).toList=es.toList.map (·.1):=by simp
 obtain ⟨place,order,e,u1,u2,u3,u4⟩:=laid_ok (mask:=m) (by unfold qeM; omega) t.finger (t.movedTo m) t.led t.plain (es.map (·.1)) (fun h hx=>by
  rw [hs,List.mem_map] at hx
  obtain ⟨y,hy,rfl⟩:=hx
  exact hh y hy) (by rw [hs,List.length_map,Array.length_toList]; omega)
 rw [Array.size_map] at u3 u4
 have hes:(order.filterMap (es[·]?)).size=es.size:=by
  rw [← Array.length_toList,Array.toList_filterMap]
  exact ((u4.filterMap _).trans (by rw [filterMap_getElem?_range])).length_eq
 have hfit:SetTable.fits { mask:=m,place:=place,dummies:=#[],finger:=t.finger,led:=t.led,moves:=t.movedTo m,plain:=t.plain } es.size=true:=by
  simp only [SetTable.fits,SetTable.fill,u3,Bool.and_eq_true,beq_self_eq_true,true_and,decide_eq_true_eq]
  simp only [List.size_toArray,List.length_nil]
  omega
 refine ⟨order.filterMap (es[·]?),{ mask:=m,place:=place,dummies:=#[],finger:=t.finger,led:=t.led,moves:=t.movedTo m,plain:=t.plain },?_,hes,?_,?_⟩
 rotate_left
 ·rw [hes]
  exact ⟨u3,u1,u2,rfl,.inr (by show (m=31∧_)∨(m=127∧_); omega),hp⟩
 ·rfl
 ·unfold relayAll SetTable.relaid
  rw [ew,e]
  dsimp only
  rw [hes,hfit]
  have hc:coversAll order es.size=true:=by unfold coversAll; exact List.isPerm_iff.mpr u4
  rw [hc]
  rfl
theorem full_cases {t t1:SetTable} {n:Nat} (I:TblI t n) (hm:t1.mask=t.mask) (hs:t1.place.size=n + 1) (hd:t1.dummies=#[]) (hn:n < 64) :
  (t1.tooFull=true→(t1.mask=7∧n + 1=5)∨(t1.mask=31∧n + 1=19))∧(t1.tooFull=false→((t1.mask=7∧n + 1≤4)∨(t1.mask=31∧n + 1≤18)∨(t1.mask=127∧n + 1≤76))):=by
 have hk:=I.mask
 have hz:(#[]:Array Nat).size=0:=rfl
 simp only [SetTable.tooFull,SetTable.fill,hs,hd,hm,hz,decide_eq_true_eq,decide_eq_false_iff_not]
 omega
end L2
namespace L2
open PySem
theorem qdS {n:Nat} (h:n < 128):hashInt (n:Int)=n:=by
 have:((List.range 128).all fun n=>hashInt (n:Int) == (n:Int))=true:=by decide +kernel
 exact eq_of_beq (List.all_eq_true.mp this n (List.mem_range.mpr h))
def byTx (w:World):Bool:=w.params.followText "set-order"
def qcV (ns:List Nat) (x:Nat):List Nat:=if x∈ns then ns else ns ++ [x]
def Smalls (l:List (Int×Value)) (ns:List Nat):Prop:=(l.map (·.1)).Perm (ns.map fun n:Nat=>(n:Int))∧∀ e∈l,∃ (n:Nat) (tk:Tok),e=((n:Int),.int n tk)∧n < 128
def SetI (w:World) (h:Heap) (a:Addr) (ns:List Nat):Prop:=∃ o es ep t,h.get? a=some o∧o.ExactSet∧o.data=.set es ep t∧TblI t es.size∧t.led = !byTx w∧Smalls es.toList ns
theorem Smalls.hs {l:List (Int×Value)} {ns:List Nat} (h:Smalls l ns):HS l:=fun e he=>by
 obtain ⟨n,tk,rfl,hn⟩:=h.2 e he
 exact ⟨n,rfl,hn⟩
theorem Smalls.len {l:List (Int×Value)} {ns:List Nat} (h:Smalls l ns):l.length=ns.length:=by
 have:=h.1.length_eq; simpa using this
theorem Smalls.mem {l:List (Int×Value)} {ns:List Nat} (h:Smalls l ns) (n:Nat):n∈ns↔∃ e∈l,e.1=(n:Int):=by
 constructor
 ·intro hn
  have:(n:Int)∈l.map (·.1):=h.1.mem_iff.mpr (List.mem_map.mpr ⟨n,hn,rfl⟩)
  obtain ⟨e,he,q⟩:=List.mem_map.mp this
  exact ⟨e,he,q⟩
 ·rintro ⟨e,he,q⟩
  have:(n:Int)∈ns.map (fun n:Nat=>(n:Int)):=h.1.mem_iff.mp (List.mem_map.mpr ⟨e,he,q⟩)
  obtain ⟨m,hm,r⟩:=List.mem_map.mp this
  have:m=n:=by omega
  exact this ▸ hm
theorem Smalls.perm {l l':List (Int×Value)} {ns:List Nat} (h:Smalls l ns) (p:l'.Perm l):Smalls l' ns:=⟨(p.map _).trans h.1,fun e he=>h.2 e (p.mem_iff.mp he)⟩
theorem Smalls.push {l:List (Int×Value)} {ns:List Nat} (h:Smalls l ns) {m:Nat} (hm:m < 128) (tk:Tok):Smalls (l ++ [((m:Int),.int m tk)]) (ns ++ [m]):=by
 refine ⟨?_,fun e he=>?_⟩
 ·rw [List.map_append,List.map_append]
  exact h.1.append_right _
 ·rcases List.mem_append.mp he with he | he
  ·exact h.2 e he
  ·rw [List.mem_singleton] at he
   exact ⟨m,tk,he,hm⟩
section
variable {prog:Program} {w:World} {A:Around} {E:Value→Shared→Prop} {s:Shared}
theorem Smalls.els {l:List (Int×Value)} {ns:List Nat} (h:Smalls l ns):ElemsOf (intKind prog w) l:=fun e he=>by
 obtain ⟨n,tk,rfl,hn⟩:=h.2 e he
 exact ⟨⟨n,by simp [intKind,Value.isInt],(qdS hn).symm⟩,rfl⟩
theorem put_at {h:Heap} {a:Addr} {o:Obj} {es es':Array (Int×Value)} {ep:Nat} {t t':SetTable} (ho:h.get? a=some o) (hd:o.data=.set es ep t) :
  (h.update a (Obj.putSet es' t')).get? a=some { o with data:=.set es' (ep + 1) t' }:=by
 have:=Heap.get?_update_self (Obj.putSet es' t') ho (by rw [putSet_of es' t' hd]; rfl)
 rwa [putSet_of es' t' hd] at this
theorem set_add {a:Addr} {ns:List Nat} {m:Nat} {tk:Tok} {Q:Bool→Shared→Prop} (hm:m < 128) (hS:SetI w s.heap a ns) (hn:ns.length < 64)
  (h:∀ b h',Heap.SameBut a s.heap h'→SetI w h' a (qcV ns m)→Q b { s with heap:=h' }):wpAny (model prog w) A (setAddHashed a (.int m tk) (hashInt m)) Q E s:=by
 obtain ⟨o,es,ep,t,ho,hex,hd,hI,hl,hs⟩:=hS
 have hsz:es.size=ns.length:=by rw [← Array.length_toList]; exact hs.len
 have hel:ElemsOf (intKind prog w) es.toList:=hs.els
 have hkey:(intKind prog w).is (m:Int) (.int m tk)=true:=by simp [intKind,Value.isInt]
 unfold setAddHashed setAddHashedIn
 refine wpAny_holding (wpAny_bind (wpAny_setState_of ho hd hI.fits ?_))
 dsimp only
 rw [byScan_of (knd:=intKind prog w) rfl (by unfold scanBound; omega) hel]
 simp only [↓reduceIte]
 unfold setAddByScan
 refine wpAny_bind (wpAny_bind (wpAny_rule (wpAny_bind (wpAny_setScan_of (knd:=intKind prog w) hkey ho hd hI.fits hel ?_))))
 have hfind:∀ e∈es.toList,(intKind prog w).is (m:Int) e.2=true→e.1=(m:Int):=fun e he q=>by
  obtain ⟨n,tk',rfl,_⟩:=hs.2 e he
  obtain ⟨t',q⟩:=Value.isInt_shape (show Value.isInt (m:Int) (.int (n:Int) tk')=true from q)
  injection q
 cases hr:es.toList.findIdx? (fun e=>(intKind prog w).is (m:Int) e.2) with
 | some j =>
  dsimp only
  obtain ⟨hj,hpj,_⟩:=List.findIdx?_eq_some_iff_getElem.mp hr
  have hmem:m∈ns:=(hs.mem m).mpr ⟨_,List.getElem_mem hj,hfind _ (List.getElem_mem hj) hpj⟩
  refine wpAny_pure (wpAny_pure ?_)
  exact h false s.heap (Heap.SameBut.refl a s.heap) (by unfold qcV; rw [if_pos hmem]; exact ⟨o,es,ep,t,ho,hex,hd,hI,hl,hs⟩)
 | none =>
  dsimp only
  have hmem:m∉ns:=fun hq=>by
   obtain ⟨e,he,q⟩:=(hs.mem m).mp hq
   have:=List.findIdx?_eq_none_iff.mp hr e he
   obtain ⟨n,tk',rfl,_⟩:=hs.2 e he
   have e:n=m:=by dsimp only at q; omega
   subst e
   simp [intKind,Value.isInt] at this
  have hst:qcV ns m=ns ++ [m]:=by unfold qcV; rw [if_neg hmem]
  rw [hst] at h
  rw [qdS hm]
  have hperm:=layNew_perm t es (m:Int) (.int m tk)
  obtain ⟨es1,t1,e1,q1,q2,q3,q4,q5,q6,q7,q8,q9⟩:=lay_new (x:=.int m tk) hI hm (by omega)
  rw [e1] at hperm ⊢
  dsimp only at hperm ⊢
  rw [Array.toList_push] at hperm
  have hs1:Smalls es1.toList (ns ++ [m]):=(hs.push hm tk).perm hperm
  refine wpAny_bind (wpAny_pure ?_)
  rw [q3]
  simp only [↓reduceIte]
  refine wpAny_bind ?_
  rw [hashByValue_scannable 8 (x:=.int m tk) rfl]
  refine wpAny_pure ?_
  dsimp only [plainKind]
  simp only [↓reduceIte]
  refine wpAny_bind (wpAny_storeSet_of ho hd ?_ (fits_of_scanBound (by unfold scanBound; omega)))
  have ho1:=put_at (es':=es1) (t':=t1) ho hd
  have hsb:=Heap.SameBut.update s.heap a (Obj.putSet es1 t1)
  have hcs:=full_cases hI q8 (q4.trans q1) q7 (by omega)
  cases hf:t1.tooFull with
  | false =>
   simp only [Bool.not_false,Bool.and_false,Bool.false_eq_true,↓reduceIte]
   refine wpAny_pure (wpAny_pure (h true _ hsb ⟨_,es1,ep + 1,t1,ho1,hex,rfl,⟨q4,q5,q6,q7,?_,q3⟩,q2.trans hl,hs1⟩))
   rw [q1]; exact hcs.2 hf
  | true =>
   simp only [Bool.not_false,Bool.and_self,↓reduceIte]
   have hp2:=relayAll_perm t1 es1 (SetTable.grown es1.size)
   obtain ⟨es2,t2,e2,r1,r2,r3⟩:=relay_ok q3 hs1.hs (by rw [q1]; exact hcs.1 hf)
   rw [e2] at hp2 ⊢
   dsimp only at hp2 ⊢
   refine wpAny_bind (wpAny_pure ?_)
   refine wpAny_bind (wpAny_storeSet_of ho1 rfl ?_ (fits_of_scanBound (by unfold scanBound; omega)))
   exact wpAny_pure (wpAny_pure (h true _ (hsb.trans (Heap.SameBut.update _ a _)) ⟨_,es2,ep + 1 + 1,t2,put_at ho1 rfl,hex,rfl,r2,r3.trans (q2.trans hl),hs1.perm hp2⟩))
end
end L2
namespace L2
open PySem PySem.Spec PyProof.Rows
def qcb (xs:List Nat):List Nat:=xs.foldl qcV []
theorem foldS_len:∀ (xs ns:List Nat),(xs.foldl qcV ns).length≤ns.length + xs.length
 | [],ns=>by simp
 | x :: xs,ns=>by
  have:=foldS_len xs (qcV ns x)
  have h:(qcV ns x).length≤ns.length + 1:=by unfold qcV; split <;> simp
  rw [List.foldl_cons,List.length_cons]; omega
theorem foldS_take {xs:List Nat} {i:Nat} (h:i < xs.length):qcb (xs.take (i + 1))=qcV (qcb (xs.take i)) xs[i]:=by
 unfold qcb
 rw [List.take_succ_eq_append_getElem h,List.foldl_append]
 rfl
theorem qgg:∀ (xs ns:List Nat),ns.length≤(xs.foldl qcV ns).length
 | [],ns=>Nat.le_refl _
 | x :: xs,ns=>by
  have:=qgg xs (qcV ns x)
  have h:ns.length≤(qcV ns x).length:=by unfold qcV; split <;> simp
  rw [List.foldl_cons]; omega
theorem foldS_part (xs:List Nat) (i:Nat):(qcb (xs.take i)).length≤(qcb xs).length:=by
 have:qcb xs=(xs.drop i).foldl qcV (qcb (xs.take i)):=by
  unfold qcb
  rw [← List.foldl_append,List.take_append_drop]
 rw [this]
 exact qgg _ _
theorem SetI.at {w:World} {h h':Heap} {a:Addr} {ns:List Nat} (x:SetI w h a ns) (k:∀ o,h.get? a=some o→h'.get? a=some o):SetI w h' a ns :=
 let ⟨o,es,ep,t,ho,r⟩:=x; ⟨o,es,ep,t,k o ho,r⟩
section
variable {prog:Program} {w:World} {A:Around} {s:Shared} {E:Value→Shared→Prop}
theorem set_loop {R:Result→Shared→Prop} {I:Addr} {fp wr:List Addr} {G:Array GenState→Array GenState→Prop} {P:Nat→Value→Prop} {St:Nat→Shared→Prop} {xs:List Nat}
  (W:WalksS prog w A.in1 I fp wr G xs.length P St) (S:Addr) (hSf:S∉fp) (hval:∀ (i:Nat) v,(hi:i < xs.length)→P i v→∃ t,v=Value.int (xs[i]:Nat) t) (hx:∀ x∈xs,x < 128) (h64:(qcb xs).length < 64) :
  ∀ (k i:Nat) (s:Shared),xs.length - i=k→i≤xs.length→St i s→SetI w s.heap S (qcb (xs.take i)) →
   (∀ s',Moved (S :: wr) G s s'→SetI w s'.heap S (qcb xs)→R (.ok (.ret .none)) s') →
   codeAny (model prog w) A (.builtin "set.update.loop" ⟨[.ref S,.ref I],[]⟩) R s:=by
 have hSw:S∉wr:=fun h=>hSf (W.sub _ h)
 have hup:∀ b∈wr,b∈S :: wr:=fun b hb=>.tail _ hb
 intro k
 induction k with
 | zero =>
  intro i s hk hi st hS hR
  cases (show i=xs.length by omega)
  refine codeAny_builtin F.entry_set_update_loop ?_
  rw [Around.under_plainId F.plain_set_update_loop _]
  show wpAny _ A.in1 (pyNext (.ref I) >>= _) _ _ s
  refine wpAny_bind (W.done s _ _ st fun s' hm=>?_)
  rw [List.take_length] at hS
  exact wpAny_pure (hR s' (hm.mono hup) (hS.at fun o e=>hm.heap S _ hSw e))
 | succ k ih =>
  intro i s hk hi st hS hR
  have hlt:i < xs.length:=by omega
  refine codeAny_builtin F.entry_set_update_loop ?_
  rw [Around.under_plainId F.plain_set_update_loop _]
  show wpAny _ A.in1 (pyNext (.ref I) >>= _) _ _ s
  refine wpAny_bind (W.item i s _ _ hlt st fun v s' hP st' hm=>?_)
  obtain ⟨t,rfl⟩:=hval i v hlt hP
  have hS':SetI w s'.heap S (qcb (xs.take i)):=hS.at fun o e=>hm.heap S _ hSw e
  show wpAny _ A.in1 (holding [Value.int (xs[i]:Nat) t] (setAdd S (.int (xs[i]:Nat) t)) >>= _) _ _ s'
  refine wpAny_bind (wpAny_holding ?_)
  unfold setAdd
  refine wpAny_holding (wpAny_bind ((intKind prog w).pyHash (k:=(xs[i]:Nat)) (by simp [intKind,Value.isInt]) ?_))
  have hl:(qcb (xs.take i)).length < 64:=Nat.lt_of_le_of_lt (foldS_part xs i) h64
  refine set_add (s:={ s' with toks:=s'.toks + 1 }) (hx _ (List.getElem_mem hlt)) hS' hl fun b h' hsb hS2=>?_
  rw [← foldS_take hlt] at hS2
  refine wpAny_pure ⟨plainId_quiet F.plain_set_update_loop _,ih (i + 1) _ (by omega) hlt (W.frame _ s' _ _ st' (Nat.le_succ _) fun b hb o e=>?_) hS2 fun s'' hm'' hS''=>?_⟩
  ·rw [hsb.2 b (fun q:b=S=>hSf (q ▸ hb))]; exact e
  ·refine hR s'' (Moved.trans W.gtrans ((hm.mono hup).then_heap (Nat.le_succ _) fun b o hb e=>?_) hm'') hS''
   rw [hsb.2 b (fun q:b=S=>hb (q ▸ .head _))]; exact e
def qaT (w:World):Obj:={ cls:=.type "set",dict:=none,data:=.set #[] 0 (.fresh 0 0 (!byTx w)) }
theorem qgT (w:World) {h:Heap} {a:Addr} (e:h.get? a=some (qaT w)):SetI w h a [] :=
 ⟨_,#[],0,_,e,⟨rfl,rfl,rfl⟩,rfl,ti_fresh _,rfl,.refl _,fun e he=>by cases he⟩
theorem set_new1 (a:Value) {Q₁:Value→Shared→Prop} (h:Q₁ (.ref s.heap.objs.size) { s with heap:=s.heap.push (qaT w) }) :
  codeAny (model prog w) A (.call (.builtin "set.__new__") ⟨[.type "set",a],[]⟩) (wants Q₁ E) s:=by
 refine codeAny_of_tree (show wpAny _ A.in1 (do checkBuiltinCall "set.__new__" ⟨[.type "set",a],[]⟩; again (.builtin "set.__new__" ⟨[.type "set",a],[]⟩)) _ _ s from ?_)
 refine wpAny_bind (wpAny_of_eq (PySem.F.newCall_set_1 a) (wpAny_pure ⟨plainId_quiet PySem.F.plain_set_new _,codeAny_builtin PySem.F.entry_set_new ?_⟩))
 rw [Around.under_plainId PySem.F.plain_set_new _]
 unfold Builtin.«set.__new__» Builtin.Frozenset.newClass
 have hsub:=sub_set_self
 obtain ⟨hp,g,d,tk,os⟩:=s
 dsimp only; wp_walk
 refine wpAny_askSetting (wpAny_pure ?_)
 dsimp only; simp only [newObj]
 exact wpAny_bind (wpAny_alloc (wpAny_pure (wpAny_pure h)))
set_option maxHeartbeats 3200000 in
theorem set_of {l:Addr} {items:Array Value} {xs:List Nat} {Q:Value→Shared→Prop} (hh:A.handled=none) (hl:s.heap.IsList l items) (hi:IntsAre items.toList (xs.map fun n:Nat=>(n:Int))) (hx:∀ x∈xs,x < 128) (h64:(qcb xs).length < 64)
  (h:∀ (h':Heap) (tk:Nat),SetI w h' s.heap.objs.size (qcb xs)→(∀ b o,b < s.heap.objs.size→s.heap.get? b=some o→h'.get? b=some o)→Q (.ref s.heap.objs.size) { s with heap:=h',toks:=tk }) :
  wpAny (model prog w) A (call (.type "set") [.ref l]) Q E s:=by
 obtain ⟨c,tl,hmro⟩:=PySem.F.called_set.mro
 have hmade:=PySem.F.called_set.made
 have hsub:=PySem.F.called_set.sub
 refine wpAny_call (codeAny_of_tree (show wpAny _ _ (callAny (.type "set") _) _ _ _ from ?_))
 refine wpAny_pure ⟨Code.quiet_builtin _ (by decide +kernel),codeAny_builtin PySem.F.entry_type_call ?_⟩
 rw [Around.under_plain (weight_type_call_type "set" [.ref l] []) rfl]
 have h1:=PySem.F.called_set.notType
 have h2:=PySem.F.called_set.canCreate
 have hct:=PySem.F.typeCall_set_1 (.ref l)
 repeat any_goals (first | assumption | wp_step)
 refine codeAny_mono (set_new1 (.ref l) (E:=E) (Q₁:=fun obj s₁=>obj=.ref s.heap.objs.size∧s₁={ s with heap:=s.heap.push (qaT w) }) ⟨rfl,rfl⟩) fun r s₁ hr=>?_
 cases r with
 | error e=>exact hr
 | ok fl =>
  cases fl with
  | ret obj =>
   obtain ⟨rfl,rfl⟩:=hr
   have hS:(s.heap.push (qaT w)).get? s.heap.objs.size=some (qaT w):=Heap.get?_push_size _ rfl
   have hT:Shared.TypeIs { s with heap:=s.heap.push (qaT w) } (.ref s.heap.objs.size) "set":=⟨_,hS,rfl⟩
   have hli:=PySem.F.called_set.init.lookup
   have hbi:=PySem.F.called_set.init.bind (.ref s.heap.objs.size)
   repeat any_goals (first | assumption | wp_step)
   refine codeAny_mono (codeAny_call_builtin (R:=wants (fun r s₂=>r=.none∧∃ h' tk,s₂={ s with heap:=h',toks:=tk }∧SetI w h' s.heap.objs.size (qcb xs) ∧
     (∀ b o,b < s.heap.objs.size→s.heap.get? b=some o→h'.get? b=some o)) E) PySem.F.called_set.init.plain PySem.F.entry_set_init (check_set_init_1 hT ?_)) fun r₂ s₂ hr₂=>?_
   ·obtain ⟨ol,hol,hcl,nl,hdl⟩:=hl
    obtain ⟨ocls,odict,odata,oslots⟩:=ol
    simp only at hcl hdl
    subst hcl; subst hdl
    have hol':(s.heap.push (qaT w)).get? l=some { cls:=.type "list",dict:=odict,data:=.seq items nl,slots:=oslots }:=Heap.get?_push_of_some _ hol
    have hsls:=PySem.F.sub_list_set
    have hslf:=PySem.F.sub_list_frozenset
    have hne:(Value.type "list" == Value.type "dict")=false:=by decide
    have hl1:(s.heap.push (qaT w)).IsList l items:=⟨_,hol',rfl,nl,rfl⟩
    unfold qaT at hS hT hol' ⊢
    unfold Builtin.«set.__init__» noKeywords Builtin.Frozenset.updateFrom
    generalize hPI:pyIter=PI
    wp_walk
    subst hPI
    refine wpAny_pyIter_list hl1 (wpAny_bind (wpAny_runValue ?_))
    have hlS:l < s.heap.objs.size:=Heap.lt_size hol
    have hlen:items.size=xs.length:=by have:=hi.length; simpa using this
    have hneI:l≠(s.heap.push (qaT w)).objs.size:=by rw [Heap.size_push]; exact Nat.ne_of_lt (Nat.lt_succ_of_lt hlS)
    have hSf:s.heap.objs.size∉[(s.heap.push (qaT w)).objs.size,l]:=by
     rw [Heap.size_push]; simp only [List.mem_cons,List.not_mem_nil,or_false,not_or]; exact ⟨Nat.ne_of_lt (Nat.lt_succ_self _),Nat.ne_of_gt hlS⟩
    have W:=(Walks.list (prog:=prog) (w:=w) (A:=A.in1.in1.in1) (by simp [hh]) (s.heap.push (qaT w)).objs.size l hneI items).toS
    rw [hlen] at W
    refine set_loop (xs:=xs) W s.heap.objs.size hSf (fun i v hi' hv=>?_) hx h64 xs.length 0 _ (by omega) (Nat.zero_le _) ⟨⟨_,Heap.get?_push_size _ rfl,rfl,rfl⟩,hl1.push _⟩ (qgT w (Heap.get?_push_of_some _ hS)) fun s' hm hS'=>?_
    ·obtain ⟨t,e⟩:=IntsAre.int_at hi i v (by rw [Array.getElem?_toList]; exact hv)
     exact ⟨t,by rw [e]; simp [List.getD_eq_getElem?_getD,List.getElem?_eq_getElem hi']⟩
    ·obtain ⟨h',g',d',tk',os'⟩:=s'
     cases (show g'=s.gens from hm.gens)
     cases (show d'=s.drawn from hm.drawn)
     cases (show os'=s.os from hm.os)
     refine wpAny_pure (wpAny_pure ⟨rfl,h',tk',rfl,hS',fun b o hb e=>?_⟩)
     exact hm.heap b o (by rw [Heap.size_push]; simp only [List.mem_cons,List.not_mem_nil,or_false,not_or]; exact ⟨Nat.ne_of_lt hb,Nat.ne_of_lt (Nat.lt_succ_of_lt hb)⟩) (Heap.get?_push_of_some _ (Heap.get?_push_of_some _ e))
   ·cases r₂ with
    | error e=>exact hr₂
    | ok fl₂ =>
     cases fl₂ with
     | ret r =>
      obtain ⟨rfl,h',tk,rfl,hS',hk'⟩:=hr₂
      repeat any_goals (first | assumption | wp_step)
      exact h _ _ hS' hk'
     | _=>exact hr₂.elim
  | _=>exact hr.elim
end
end L2
namespace L2
open PySem
theorem sw_slot_next:Slot "set_iterator" "__next__" "set_iterator.__next__" :=
 .of (owner:="set_iterator") (n:="__next__") (by rw [typeLookup_type,builtinLookup_eq_fast]; kernel_rfl) (by decide +kernel) (by decide +kernel)
  (by decide +kernel) (by first | exact .inl (by decide +kernel) | exact .inr (by decide +kernel)) (by rw [isSubtype_type]; kernel_rfl)
theorem qeV:Slot "set_iterator" "__iter__" "set_iterator.__iter__" :=
 .of (owner:="set_iterator") (n:="__iter__") (by rw [typeLookup_type,builtinLookup_eq_fast]; kernel_rfl) (by decide +kernel) (by decide +kernel)
  (by decide +kernel) (by first | exact .inl (by decide +kernel) | exact .inr (by decide +kernel)) (by rw [isSubtype_type]; kernel_rfl)
theorem qei:entryFor table "set_iterator.__next__"=some Builtin.«set_iterator.__next__»:=entryFor_of_tree (by kernel_rfl)
theorem qgq:entryFor table "set_iterator.__iter__"=some Builtin.«dict_keyiterator.__iter__» :=
 entryFor_alias (id':="dict_keyiterator.__iter__") (by kernel_rfl) rfl (by decide +kernel) (by kernel_rfl)
theorem qeH:entryFor table "set.__iter__"=some Builtin.«frozenset.__iter__» :=
 entryFor_alias (id':="frozenset.__iter__") (by kernel_rfl) rfl (by decide +kernel) (by kernel_rfl)
theorem sw_owner:Manifest.owners.lookup (String.ofList ['r','o','t','a','r','e','t','i','_','t','e','s'].reverse)=some Manifest.sig_set_iterator:=by kernel_rfl
theorem qeW (a:Value):argsOk "set_iterator.__next__" ⟨[a],[]⟩:=by
 unfold argsOk
 rw [signature?_of (id:="set_iterator.__next__") (n:=['_','_','t','x','e','n','_','_']) (o:=['r','o','t','a','r','e','t','i','_','t','e','s']) (by kernel_rfl) sw_owner]; kernel_rfl
theorem sw_args_iter (a:Value):argsOk "set_iterator.__iter__" ⟨[a],[]⟩:=by
 unfold argsOk
 rw [signature?_of (id:="set_iterator.__iter__") (n:=['_','_','r','e','t','i','_','_']) (o:=['r','o','t','a','r','e','t','i','_','t','e','s']) (by kernel_rfl) sw_owner]; kernel_rfl
theorem erase_perm {α:Type} {l:List α} {i:Nat} (h:i < l.length):([l[i]] ++ l.eraseIdx i).Perm l:=by
 rw [List.eraseIdx_eq_take_drop_succ]
 have e:l=l.take i ++ l[i] :: l.drop (i + 1):=by rw [← List.drop_eq_getElem_cons h,List.take_append_drop]
 conv=>rhs; rw [e]
 exact (List.perm_middle (a:=l[i]) (l₁:=l.take i) (l₂:=l.drop (i + 1))).symm
theorem pick_perm {α:Type} (next:Nat→Nat):∀ (fuel k:Nat) (left:List α) (out:Array α),fuel=left.length→(pickOrder.go next fuel k left out).toList.Perm (out.toList ++ left)
 | 0,k,left,out,h=>by
  have:left=[]:=List.length_eq_zero_iff.mp h.symm
  subst this
  unfold pickOrder.go; simp
 | fuel + 1,k,left,out,h=>by
  unfold pickOrder.go
  have hlt:next k % left.length < left.length:=Nat.mod_lt _ (by omega)
  rw [List.getElem?_eq_getElem hlt]
  dsimp only
  refine (pick_perm next fuel _ _ _ (by rw [List.length_eraseIdx_of_lt hlt]; omega)).trans ?_
  rw [Array.toList_push,List.append_assoc]
  exact (erase_perm hlt).append_left _
def ordS (w:World) (a:Addr) (ep:Nat) (es:Array (Int×Value)):Array (Int×Value):=if byTx w then pickOrder (w.params.setOrder a ep) es else es
theorem qep (w:World) (a:Addr) (ep:Nat) (es:Array (Int×Value)):(ordS w a ep es).toList.Perm es.toList:=by
 unfold ordS
 split
 ·unfold pickOrder
  simpa using pick_perm (w.params.setOrder a ep) es.size 0 es.toList #[] (by simp)
 ·exact .rfl
def qeI (b:Bool) (place:Array Nat):Nat→Nat
 | 0=>0
 | i + 1=>if b then 0 else place.toList.getD i 0 + 1
def ItS (h:Heap) (it a:Addr) (sl i n ep:Nat):Prop:=∃ o,h.get? it=some o∧o.cls=.type "set_iterator"∧o.data=.fields #[.int sl 0,.int i 0,.ref a,.int n 0,.int ep 0]
theorem ItS.typeIs {s:Shared} {it a:Addr} {sl i n ep:Nat} (h:ItS s.heap it a sl i n ep):s.TypeIs (.ref it) "set_iterator":=let ⟨o,ho,hc,_⟩:=h; ⟨o,ho,hc⟩
theorem ItS.at {h h':Heap} {it a:Addr} {sl i n ep:Nat} (x:ItS h it a sl i n ep) (k:∀ o,h.get? it=some o→h'.get? it=some o):ItS h' it a sl i n ep:=let ⟨o,ho,r⟩:=x; ⟨o,k o ho,r⟩
def SetAt (w:World) (h:Heap) (a:Addr) (es:Array (Int×Value)) (ep:Nat) (t:SetTable):Prop:=∃ o,h.get? a=some o∧o.ExactSet∧o.data=.set es ep t∧TblI t es.size∧t.led = !byTx w
theorem SetAt.at {w:World} {h h':Heap} {a:Addr} {es:Array (Int×Value)} {ep:Nat} {t:SetTable} (x:SetAt w h a es ep t) (k:∀ o,h.get? a=some o→h'.get? a=some o):SetAt w h' a es ep t:=let ⟨o,ho,r⟩:=x; ⟨o,k o ho,r⟩
section
variable {prog:Program} {w:World} {A:Around} {E:Value→Shared→Prop} {s:Shared}
theorem set_next {a:Addr} {es:Array (Int×Value)} {ep i:Nat} {t:SetTable} {Q:Option (Value×Nat)→Shared→Prop} (hS:SetAt w s.heap a es ep t) (hi:i≤es.size)
  (h:Q ((ordS w a ep es)[i]?.map fun e=>(e.2,qeI (byTx w) t.place (i + 1))) s):wpAny (model prog w) A (setNext a (qeI (byTx w) t.place i) i ep) Q E s:=by
 obtain ⟨o,ho,hex,hd,hI,hl⟩:=hS
 unfold setNext
 refine wpAny_bind (wpAny_setState_of ho hd hI.fits ?_)
 dsimp only
 refine wpAny_bind ?_
 unfold setsByText
 refine wpAny_bind (wpAny_askSetting (wpAny_pure ?_))
 show wpAny _ _ (if byTx w=true then _ else _) _ _ _
 unfold ordS at h
 cases hb:byTx w with
 | true =>
  rw [hb] at h
  simp only [if_true,bne_self_eq_false,Bool.false_eq_true,if_false] at h ⊢
  refine wpAny_bind ?_
  unfold setWalk
  refine wpAny_bind (wpAny_setState_of ho hd hI.fits ?_)
  dsimp only
  refine wpAny_bind ?_
  unfold setsByText
  refine wpAny_bind (wpAny_askSetting (wpAny_pure ?_))
  show wpAny _ _ (if byTx w=true then _ else _) _ _ _
  rw [hb]
  simp only [if_true]
  refine wpAny_bind (wpAny_askSetting (wpAny_pure (wpAny_pure ?_)))
  have e:qeI true t.place (i + 1)=qeI true t.place i:=by cases i <;> rfl
  rw [e] at h
  exact h
 | false =>
  rw [hb] at h hl
  simp only [Bool.false_eq_true,if_false] at h ⊢
  show wpAny _ _ (if (!t.plain && decide (es.size > 1))=true then _ else _) _ _ _
  rw [hI.plain]
  simp only [Bool.not_true,Bool.false_and,Bool.false_eq_true,if_false]
  refine wpAny_bind (wpAny_of_eq (a:=()) ?_ ?_)
  ·show (if (!t.led && !es.isEmpty)=true then _ else _)=_
   rw [hl]; rfl
  have hbl:SetTable.below t.place (qeI false t.place i)=i:=by
   cases i with
   | zero=>exact below_zero hI.up
   | succ i=>exact below_next hI.up (by rw [Array.length_toList,hI.size]; omega)
  rw [hbl]
  refine wpAny_pure ?_
  rcases Nat.lt_or_ge i es.size with hlt | hge
  ·have hp:i < t.place.size:=by rw [hI.size]; exact hlt
   rw [Array.getElem?_eq_getElem hlt] at h ⊢
   rw [Array.getElem?_eq_getElem hp]
   have e:qeI false t.place (i + 1)=t.place[i] + 1:=by
    simp [qeI,List.getD_eq_getElem?_getD,List.getElem?_eq_getElem (show i < t.place.toList.length by simpa using hp)]
   rw [e] at h
   exact h
  ·rw [Array.getElem?_eq_none hge] at h ⊢
   exact h
end
end L2
namespace L2
open PySem
section
variable {prog:Program} {w:World} {A:Around} {E:Value→Shared→Prop} {s:Shared}
theorem it_item {it a:Addr} {es:Array (Int×Value)} {ep i:Nat} {t:SetTable} {v:Int×Value} {Q:Option Value→Shared→Prop} (hit:ItS s.heap it a (qeI (byTx w) t.place i) i es.size ep) (hS:SetAt w s.heap a es ep t) (hi:i < es.size)
  (hv:(ordS w a ep es)[i]? = some v) (hQ:∀ h',ItS h' it a (qeI (byTx w) t.place (i + 1)) (i + 1) es.size ep→Heap.SameBut it s.heap h'→Q (some v.2) { s with heap:=h' }) :
  wpAny (model prog w) A (pyNext (.ref it)) Q E s:=by
 obtain ⟨o,ho,hc,hd⟩:=id hit
 obtain ⟨oS,hoS,hexS,hdS,hI,hl⟩:=id hS
 unfold pyNext
 refine wpAny_bind (wpAny_attempt (wpAny_callSpecial?_slot (name:=Str.ofString "__next__") hit.typeIs sw_slot_next (wpAny_call_entry sw_slot_next hit.typeIs qei ?_ (qeW _))))
 unfold Builtin.«set_iterator.__next__»
 refine wpAny_bind (wpAny_pure ?_)
 refine wpAny_bind (wpAny_fieldsOf ho hd ?_)
 dsimp only
 refine wpAny_bind (wpAny_setEntries_of hoS hdS hI.fits ?_)
 rw [if_neg (by simp)]
 refine wpAny_bind (set_next (ep:=ep) (i:=i) hS (Nat.le_of_lt hi) ?_)
 rw [hv]
 dsimp only [Option.map]
 refine wpAny_bind (wpAny_setField ho hd (by simp) ?_)
 have g1:=Heap.get?_update_self (Obj.mapFields (·.setIfInBounds 0 (rawInt ((qeI (byTx w) t.place (i + 1):Nat):Int)))) ho (Obj.isFreed_of_fields (Obj.data_mapFields hd _))
 have d1:=Obj.data_mapFields hd (·.setIfInBounds 0 (rawInt ((qeI (byTx w) t.place (i + 1):Nat):Int)))
 refine wpAny_bind (wpAny_setField g1 d1 (by simp) ?_)
 have g2:=Heap.get?_update_self (Obj.mapFields (·.setIfInBounds 1 (rawInt ((i:Int) + 1)))) g1 (Obj.isFreed_of_fields (Obj.data_mapFields d1 _))
 have d2:=Obj.data_mapFields d1 (·.setIfInBounds 1 (rawInt ((i:Int) + 1)))
 refine wpAny_pure ⟨_,rfl,wpAny_pure (hQ _ ⟨_,g2,?_,?_⟩ ((Heap.SameBut.update ..).trans (Heap.SameBut.update ..)))⟩
 ·exact (Obj.cls_mapFields ..).trans ((Obj.cls_mapFields ..).trans hc)
 ·rw [d2]; simp [rawInt]
theorem it_end {it a:Addr} {es:Array (Int×Value)} {ep:Nat} {t:SetTable} {Q:Option Value→Shared→Prop} (hh:A.handled=none) (hit:ItS s.heap it a (qeI (byTx w) t.place es.size) es.size es.size ep) (hS:SetAt w s.heap a es ep t)
  (hQ:∀ h',Heap.ExtBut it s.heap h'→Q none { s with heap:=h' }):wpAny (model prog w) A (pyNext (.ref it)) Q E s:=by
 obtain ⟨o,ho,hc,hd⟩:=id hit
 obtain ⟨oS,hoS,hexS,hdS,hI,hl⟩:=id hS
 unfold pyNext
 refine wpAny_bind (wpAny_attempt (wpAny_callSpecial?_slot (name:=Str.ofString "__next__") hit.typeIs sw_slot_next (wpAny_call_entry sw_slot_next hit.typeIs qei ?_ (qeW _))))
 unfold Builtin.«set_iterator.__next__»
 refine wpAny_bind (wpAny_pure ?_)
 refine wpAny_bind (wpAny_fieldsOf ho hd ?_)
 dsimp only
 refine wpAny_bind (wpAny_setEntries_of hoS hdS hI.fits ?_)
 rw [if_neg (by simp)]
 refine wpAny_bind (set_next (ep:=ep) (i:=es.size) hS (Nat.le_refl _) ?_)
 have hv:(ordS w a ep es)[es.size]? = none:=by
  have:=(qep w a ep es).length_eq
  rw [Array.length_toList,Array.length_toList] at this
  exact Array.getElem?_eq_none (by omega)
 rw [hv]
 dsimp only [Option.map]
 refine wpAny_bind (wpAny_setField ho hd (by simp) ?_)
 show wpAny _ _ (newExc (.type "StopIteration") [] >>= _) _ _ _
 refine wpAny_bind ?_
 simp only [newExc,newTuple]
 refine wpAny_bind (wpAny_newObj_type ?_ (by size_fits))
 refine wpAny_bind (m:=firstArgMember _ _) (wpAny_of_eq (a:=Value.none) (by first | rfl | (simp only [firstArgMember]; rfl)) (wpAny_newObj_type ?_ (by size_fits)))
 simp only [raiseNew]
 refine wpAny_bind (wpAny_handled ?_)
 rw [show A.in1.handled=none from hh]
 refine wpAny_bind (wpAny_pure (wpAny_throw ?_))
 refine wpAny_bind (wpAny_isInstance (b:=true) (T:="StopIteration") ⟨_,Heap.get?_push_size _ rfl,rfl⟩ isSubtype_stop ?_)
 exact wpAny_pure (hQ _ (((Heap.SameBut.update ..).extBut.push _).push _))
theorem it_self {it a:Addr} {sl i n ep:Nat} {Q:Value→Shared→Prop} (hit:ItS s.heap it a sl i n ep) (h:Q (.ref it) s):wpAny (model prog w) A (pyIter (.ref it)) Q E s:=by
 refine wpAny_pyIter_slot hit.typeIs qeV (wpAny_call_entry qeV hit.typeIs qgq (show wpAny _ _ (ret (.ref it)) _ _ s from ?_) (sw_args_iter _))
 exact wpAny_pure ⟨_,rfl,"set_iterator",_,hit.typeIs,sw_slot_next.lookup,h⟩
theorem set_walks (hh:A.handled=none) (I a:Addr) (hne:a≠I) (es:Array (Int×Value)) (ep:Nat) (t:SetTable) :
  Walks prog w A I [I,a] [I] es.size (fun i v=>(ordS w a ep es)[i]?.map (·.2)=some v) (fun i h=>ItS h I a (qeI (byTx w) t.place i) i es.size ep∧SetAt w h a es ep t) where
 sub:=fun b hb=>by simp at hb; simp [hb]
 frame:=fun _ _ _ st hk=>⟨st.1.at fun o e=>hk I (by simp) o e,st.2.at fun o e=>hk a (by simp) o e⟩
 item:=fun i s Q E hi st hQ=>by
  have hl:=(qep w a ep es).length_eq
  rw [Array.length_toList,Array.length_toList] at hl
  have hv:(ordS w a ep es)[i]? = some (ordS w a ep es)[i]:=Array.getElem?_eq_getElem (by omega)
  refine it_item st.1 st.2 hi hv fun h' hit' hs'=>hQ _ h' s.toks (by rw [hv]; rfl) ⟨hit',st.2.at fun o e=>?_⟩ fun b o hb e=>hs'.extBut b o (fun h=>hb (by simp [h])) e
  exact hs'.extBut a o hne e
 done:=fun s Q E st hQ=>it_end hh st.1 st.2 fun h' he'=>hQ h' s.toks fun b o hb e=>he' b o (fun h=>hb (by simp [h])) e
 self:=fun _ _ _ _ st hQ=>it_self st.1 hQ
theorem SetAt.typeIs {a:Addr} {es:Array (Int×Value)} {ep:Nat} {t:SetTable} (h:SetAt w s.heap a es ep t):s.TypeIs (.ref a) "set":=let ⟨o,ho,hx,_⟩:=h; ⟨o,ho,hx.1⟩
theorem set_iter {a:Addr} {es:Array (Int×Value)} {ep:Nat} {t:SetTable} {Q:Value→Shared→Prop} (hS:SetAt w s.heap a es ep t)
  (hQ:Q (.ref s.heap.objs.size) { s with heap:=s.heap.push { cls:=.type "set_iterator",data:=.fields #[.int 0 0,.int 0 0,.ref a,.int es.size 0,.int ep 0] } }):wpAny (model prog w) A (pyIter (.ref a)) Q E s:=by
 obtain ⟨oS,hoS,hexS,hdS,hI,hl⟩:=id hS
 refine wpAny_pyIter_slot hS.typeIs PySem.F.slot_set_iter (wpAny_call_entry PySem.F.slot_set_iter hS.typeIs qeH ?_ (PySem.F.args_set_iter_1 _))
 unfold Builtin.«frozenset.__iter__» Builtin.Frozenset.slot0
 refine wpAny_bind (wpAny_bind (wpAny_pure (wpAny_pure ?_)))
 unfold Builtin.Frozenset.sizeOf
 refine wpAny_bind (wpAny_bind (wpAny_setEntries_of hoS hdS hI.fits (wpAny_pure ?_)))
 refine wpAny_bind ?_
 unfold setDrawn
 refine wpAny_bind (wpAny_setState_of hoS hdS hI.fits ?_)
 dsimp only
 refine wpAny_bind ?_
 unfold setsByText
 refine wpAny_bind (wpAny_askSetting (wpAny_pure (wpAny_pure ?_)))
 have e:(!byTx w && (!t.plain && decide (es.size > 1)))=false:=by rw [hI.plain]; simp
 show wpAny _ _ (if (!byTx w && (!t.plain && decide (es.size > 1)))=true then _ else _) _ _ _
 rw [e]
 simp only [Bool.false_eq_true,if_false]
 refine wpAny_bind (wpAny_pure ?_)
 refine wpAny_bind (wpAny_setEpoch_of hoS hdS hI.fits ?_)
 refine wpAny_bind ?_
 refine wpAny_newObj_type (wpAny_pure ⟨_,rfl,"set_iterator",_,⟨_,Heap.get?_push_size _ rfl,rfl⟩,sw_slot_next.lookup,?_⟩)
 exact hQ
end
end L2
namespace L2
open PySem PySem.Spec PyProof.Rows PySem.W
def insS (x:Nat):List Nat→List Nat
 | []=>[x]
 | y :: l=>if x < y then x :: y :: l else if x=y then y :: l else y :: insS x l
def qb4:List Nat→List Nat
 | []=>[]
 | x :: l=>insS x (qb4 l)
theorem mem_insS {x y:Nat}:∀ {l:List Nat},y∈insS x l↔y=x∨y∈l
 | []=>by simp [insS]
 | z :: l=>by
  unfold insS
  split
  ·simp
  ·split
   ·rename_i h; subst h; simp
   ·simp only [List.mem_cons,mem_insS (l:=l)]
    constructor
    ·rintro (h | h | h) <;> simp [h]
    ·rintro (h | h | h) <;> simp [h]
theorem up_insS {x:Nat}:∀ {l:List Nat},Up l→Up (insS x l)
 | [],_=>by simp [insS]
 | z :: l,h=>by
  obtain ⟨h1,h2⟩:=List.pairwise_cons.mp h
  unfold insS
  split
  ·rename_i hx
   exact List.pairwise_cons.mpr ⟨fun b hb=>by
    rcases List.mem_cons.mp hb with rfl | hb
    ·exact hx
    ·exact Nat.lt_trans hx (h1 b hb),h⟩
  ·split
   ·exact h
   ·refine List.pairwise_cons.mpr ⟨fun b hb=>?_,up_insS h2⟩
    rcases mem_insS.mp hb with rfl | hb
    ·omega
    ·exact h1 b hb
theorem qdp:∀ l:List Nat,Up (qb4 l)
 | []=>.nil
 | x :: l=>up_insS (qdp l)
theorem mem_ssort {y:Nat}:∀ {l:List Nat},y∈qb4 l↔y∈l
 | []=>by simp [qb4]
 | x :: l=>by simp [qb4,mem_insS,mem_ssort (l:=l)]
theorem up_eq:∀ {l m:List Nat},Up l→Up m→(∀ x,x∈l↔x∈m)→l=m
 | [],[],_,_,_=>rfl
 | [],y :: m,_,_,h=>absurd ((h y).mpr (.head _)) (by simp)
 | x :: l,[],_,_,h=>absurd ((h x).mp (.head _)) (by simp)
 | x :: l,y :: m,h1,h2,h=>by
  obtain ⟨a1,a2⟩:=List.pairwise_cons.mp h1
  obtain ⟨b1,b2⟩:=List.pairwise_cons.mp h2
  have e:x=y:=by
   rcases List.mem_cons.mp ((h x).mp (.head _)) with e | hx
   ·exact e
   ·rcases List.mem_cons.mp ((h y).mpr (.head _)) with e | hy
    ·exact e.symm
    ·have:=a1 y hy; have:=b1 x hx; omega
  subst e
  rw [up_eq a2 b2 fun z=>?_]
  constructor
  ·intro hz
   rcases List.mem_cons.mp ((h z).mp (.tail _ hz)) with e | q
   ·subst e; exact absurd (a1 z hz) (Nat.lt_irrefl _)
   ·exact q
  ·intro hz
   rcases List.mem_cons.mp ((h z).mpr (.tail _ hz)) with e | q
   ·subst e; exact absurd (b1 z hz) (Nat.lt_irrefl _)
   ·exact q
theorem mem_stepS {ns:List Nat} {x y:Nat}:y∈qcV ns x↔y∈ns∨y=x:=by
 unfold qcV
 split
 ·rename_i h
  exact ⟨.inl,fun q=>q.elim id fun e=>e ▸ h⟩
 ·simp
theorem nd_stepS {ns:List Nat} {x:Nat} (h:ns.Nodup):(qcV ns x).Nodup:=by
 unfold qcV
 split
 ·exact h
 ·rename_i hx
  refine List.nodup_append.mpr ⟨h,by simp,fun a ha b hb=>?_⟩
  rw [List.mem_singleton] at hb
  subst hb
  exact fun e=>hx (e ▸ ha)
theorem qew:∀ {xs ns:List Nat} {y:Nat},y∈xs.foldl qcV ns↔y∈ns∨y∈xs
 | [],ns,y=>by simp
 | x :: xs,ns,y=>by
  rw [List.foldl_cons,qew,mem_stepS,List.mem_cons,or_assoc]
theorem qfH:∀ {xs ns:List Nat},ns.Nodup→(xs.foldl qcV ns).Nodup
 | [],_,h=>h
 | x :: xs,_,h=>qfH (xs:=xs) (nd_stepS h)
theorem sort_eq {xs:List Nat} {zs:List Int} (h1:zs.Perm ((qcb xs).map fun n:Nat=>(n:Int))) (h2:zs.Pairwise (·≤·)):zs=(qb4 xs).map fun n:Nat=>(n:Int):=by
 have hz:∀ z∈zs,∃ n:Nat,z=n:=fun z hz=>by
  obtain ⟨n,_,e⟩:=List.mem_map.mp (h1.mem_iff.mp hz)
  exact ⟨n,e.symm⟩
 have e:zs=(zs.map Int.toNat).map fun n:Nat=>(n:Int):=by
  rw [List.map_map]
  conv=>lhs; rw [← List.map_id zs]
  refine List.map_congr_left fun z hq=>?_
  obtain ⟨n,rfl⟩:=hz z hq
  simp
 have hp:(zs.map Int.toNat).Perm (qcb xs):=by
  have:=h1.map Int.toNat
  rw [List.map_map] at this
  refine this.trans (List.Perm.of_eq ?_)
  conv=>rhs; rw [← List.map_id (qcb xs)]
  exact List.map_congr_left fun n _=>by simp
 have hnd:(zs.map Int.toNat).Nodup:=hp.nodup_iff.mpr (qfH .nil)
 have hup:Up (zs.map Int.toNat):=by
  have hle:(zs.map Int.toNat).Pairwise (·≤·):=by
   rw [List.pairwise_map]
   exact h2.imp fun {a b} h=>by omega
  refine (hle.and hnd).imp fun {a b} h=>?_
  have h2:a≠b:=h.2
  omega
 rw [e,up_eq hup (qdp xs) fun x=>by
  rw [hp.mem_iff,mem_ssort]
  unfold qcb
  rw [qew]
  simp]
theorem nd_up:∀ {l:List Nat},Up l→l.Nodup:=fun {l} h=>h.imp fun {a b} h=>Nat.ne_of_lt h
theorem qdL (xs:List Nat):(qb4 xs).length=(qcb xs).length:=by
 have hp:(qb4 xs).Perm (qcb xs):=by
  refine (List.perm_ext_iff_of_nodup (nd_up (qdp xs)) (qfH .nil)).mpr fun x=>?_
  rw [mem_ssort,qew]
  simp
 exact hp.length_eq
theorem up_ge {l:List Nat} (h:Up l):∀ i,i < l.length→i≤l.getD i 0
 | 0,_=>Nat.zero_le _
 | i + 1,hi=>by
  have a:=up_ge h i (by omega)
  have b:=up_lt h (show i < i + 1 by omega) hi
  omega
theorem up_len {l:List Nat} (h:Up l) {m:Nat} (hm:∀ x∈l,x < m):l.length≤m:=by
 rcases Nat.eq_zero_or_pos l.length with e | e
 ·omega
 ·have a:=up_ge h (l.length - 1) (by omega)
  have hi:l.length - 1 < l.length:=by omega
  have b:l.getD (l.length - 1) 0 < m:=hm _ (by rw [List.getD_eq_getElem?_getD,List.getElem?_eq_getElem hi]; exact List.getElem_mem hi)
  omega
theorem qgd:∀ {l:List (Int×Value)},(∀ e∈l,∃ (n:Nat) (tk:Tok),e=((n:Int),.int n tk)∧n < 128)→IntsAre (l.map (·.2)) (l.map (·.1))
 | [],_=>.nil
 | e :: l,h=>by
  obtain ⟨n,tk,rfl,_⟩:=h e (.head _)
  exact .cons _ _ (qgd fun e he=>h e (.tail _ he))
section
variable {prog:Program} {w:World} {A:Around} {E:Value→Shared→Prop} {s:Shared}
theorem hint_set {r:Addr} {Q:Bool→Shared→Prop} (hT:s.TypeIs (.ref r) "set") (h:Q false s):wpAny (model prog w) A (Builtin.List.listLengthHint (.ref r)) Q E s:=by
 unfold Builtin.List.listLengthHint
 refine wpAny_bind (wpAny_specialOf hT PySem.F.slot_set_len.lookup ?_)
 generalize hid:("set.__len__":String)=id0
 wp_delta
 rw [show splitId id0=some ("set","__len__") from by subst hid; decide +kernel]
 subst hid
 refine wpAny_bind (wpAny_isInstance (T:="set") (b:=true) hT sub_set_self ?_)
 refine wpAny_ite_split (fun q=>absurd q (by decide)) fun _=>wpAny_ite_split (fun _=>?_) fun q=>absurd (by decide +kernel) q
 exact wpAny_bind (wpAny_typeOf hT (wpAny_pure h))
theorem SetAt.lt {h:Heap} {a:Addr} {es:Array (Int×Value)} {ep:Nat} {t:SetTable} (x:SetAt w h a es ep t):a < h.objs.size:=let ⟨_,ho,_⟩:=x; Heap.lt_size ho
theorem src_set {a:Addr} {es:Array (Int×Value)} {ep:Nat} {t:SetTable}:KdlSrc prog w "set" a a es.size (fun i v=>(ordS w a ep es)[i]?.map (·.2)=some v) (fun h=>SetAt w h a es ep t) where
 type:=fun _ h=>h.typeIs
 there:=fun _ h=>⟨h.lt,h.lt⟩
 keep:=fun _ _ h k=>h.at fun o e=>k a (.inl rfl) o e
 notList:=by decide
 notTuple:=by decide
 hint:=fun _ _ _ _ h q=>hint_set h.typeIs q
 iter:=fun _ s hh h=>⟨_,_,(fun _ _ q=>set_iter h q),set_walks hh _ a (Nat.ne_of_lt h.lt) es ep t,⟨⟨_,Heap.get?_push_size _ rfl,rfl,rfl⟩,h.at fun o e=>Heap.get?_push_of_some _ e⟩⟩
theorem sorted_set {a:Addr} {xs:List Nat} {Q:Value→Shared→Prop} (hh:A.handled=none) (hS:SetI w s.heap a (qcb xs)) (hn:(qcb xs).length < 64)
  (h:∀ (h1 h':Heap) (tk c:Nat) (out:Array Value),(∀ b o,s.heap.get? b=some o→h1.get? b=some o)→(∀ b o,h1.get? b=some o→h'.get? b=some o)→h'.get? h1.objs.size=some (seqObj "list" out c) →
   IntsAre out.toList ((qb4 xs).map fun n:Nat=>(n:Int))→Q (.ref h1.objs.size) { s with heap:=h',toks:=tk }) :
  wpAny (model prog w) A (call (.builtin "sorted") [.ref a]) Q E s:=by
 obtain ⟨o,es,ep,t,ho,hex,hd,hI,hl,hs⟩:=hS
 have hlen:es.size < 64:=by
  have h1:=hs.len
  rw [Array.length_toList] at h1
  omega
 have hok:SetAt w s.heap a es ep t:=⟨o,ho,hex,hd,hI,hl⟩
 refine Calls.call_function_entry kind_sorted plain_sorted entry_sorted (args_sorted1 _) ?_
 unfold Builtin.«sorted»
 refine wpAny_bind (m:=checkCount "sorted" 1 1 _) (wpAny_pure ?_)
 refine wpAny_bind (kdu_collect (A:=A.in1) (src_set (prog:=prog)) hh hok (by rw [sizeLine_eq]; omega) fun h1 tk acc hk hacc=>?_)
 have eacc:acc.toList=(ordS w a ep es).toList.map (·.2):=by
  have hlo:=(qep w a ep es).length_eq
  rw [Array.length_toList,Array.length_toList] at hlo
  apply List.ext_getElem?
  intro i
  rcases Nat.lt_or_ge i acc.size with q | q
  ·have h3:=hacc.2 i acc[i] (Array.getElem?_eq_getElem q)
   rw [List.getElem?_map,Array.getElem?_toList,Array.getElem?_toList,h3,Array.getElem?_eq_getElem q]
  ·have h4:=hacc.1
   rw [List.getElem?_eq_none (by simpa using q),List.getElem?_eq_none (by simp; omega)]
 have hp:=qep w a ep es
 have hI2:IntsAre acc.toList ((ordS w a ep es).toList.map (·.1)):=by
  rw [eacc]
  exact qgd fun e he=>hs.2 e (hp.mem_iff.mp he)
 have hal:acc.toList.length < 64:=by rw [Array.length_toList,hacc.1]; exact hlen
 refine wpAny_bind (wpAny_newList ?_ (by rw [sizeLine_eq]; omega))
 have hoL:(h1.push (seqObj "list" acc.toList.toArray 0)).get? h1.objs.size=some (seqObj "list" acc.toList.toArray 0):=Heap.get?_push_size _ rfl
 refine wpAny_bind (wpAny_holding (wpAny_call_entry slot_list_sort ⟨_,hoL,rfl⟩ entry_list_sort (list_sort_tree (s:={ s with heap:=h1.push (seqObj "list" acc.toList.toArray 0),toks:=tk }) hoL hI2 hal fun out zs a1 a2 a3=>⟨_,rfl,?_⟩) (args_list_sort _)))
 refine wpAny_pure ⟨_,rfl,?_⟩
 have hz:=sort_eq (a2.trans ((hp.map _).trans hs.1)) a3
 rw [hz] at a1
 have hne:∀ b o,h1.get? b=some o→b≠h1.objs.size:=fun b o e=>Nat.ne_of_lt (Heap.lt_size e)
 have g1:=get?_update_seq hoL (fun _=>#[])
 have g2:=get?_update_seq (Heap.get?_push_of_some (seqObj "list" #[] 0) (Heap.get?_push_of_some (seqObj "tuple" acc.toList.toArray 0) g1)) fun _=>out
 refine h h1 _ tk _ out hk (fun b o e=>?_) g2 a1
 have q:=Ne.symm (hne b o e)
 exact (Heap.get?_update_other _ _ q).trans (Heap.get?_push_of_some _ (Heap.get?_push_of_some _ ((Heap.get?_update_other _ _ q).trans (Heap.get?_push_of_some _ e))))
end
end L2
namespace L2
open PySem PySem.Spec PyProof.Rows
abbrev nV (ns:List Nat):List V:=ns.map fun n:Nat=>V.int n
abbrev nD (ns:List Nat):List D:=ns.map fun n:Nat=>D.int n
def setQ (w:World) (a:Addr) (ns:List Nat):Heap→Prop:=fun h=>SetI w h a (qcb ns)
theorem vals_IA:∀ {ns:List Nat} {us:List Value},Vals (nV ns) us→IntsAre us (ns.map fun n:Nat=>(n:Int))
 | [],_,.nil=>.nil
 | n :: ns,_,.cons ⟨t,e⟩ r=>by subst e; exact .cons _ _ (vals_IA r)
theorem IA_vals:∀ {ns:List Nat} {us:List Value},IntsAre us (ns.map fun n:Nat=>(n:Int))→Vals (nV ns) us
 | [],_,.nil=>.nil
 | n :: ns,_,.cons _ t r=>.cons ⟨t,rfl⟩ (IA_vals r)
theorem ssort_len (xs:List Nat):(qb4 xs).length≤xs.length:=by
 have h:∀ (x:Nat) (l:List Nat),(insS x l).length≤l.length + 1:=by
  intro x l
  induction l with
  | nil=>simp [insS]
  | cons y l ih =>
   unfold insS
   split
   ·simp
   ·split
    ·simp
    ·simp only [List.length_cons]; omega
 induction xs with
 | nil=>exact Nat.le_refl _
 | cons x xs ih=>have:=h x (qb4 xs); simp only [qb4,List.length_cons]; omega
section
variable {X:Cx}
def rSetS (X:Cx):List V→Hp→VK→Prop:=fun xs H Q=>∃ a ns,xs=[.ref a]∧SqL X.K H a (nV ns)∧(qb4 ns).length < 64∧(∀ x∈ns,x < 128)∧∀ p,H p=none→Q (.ref p) (upd H p (.ext (setQ X.w p ns)))
theorem cr_setS (hc:X.calm=true:=by rfl):qdK X (.type "set") (rSetS X):=by
 intro pins s σ H xs us Q I rv h
 obtain ⟨a,ns,rfl,sq,hb,hx,q⟩:=h
 obtain ⟨u,rfl,ru⟩:=vals1 rv
 cases ru
 obtain ⟨its,ri,pl,hz⟩:=I.list sq
 refine set_of (xs:=ns) (I.ok.hd hc) pl.isList (by simpa using vals_IA ri) hx (by rw [← qdL]; exact hb) fun h' tk hS kp=>?_
 have hf:H s.heap.objs.size=none:=I.hok.fresh (Nat.le_refl _)
 have hS2:=hS
 obtain ⟨o,es,ep,t,ho,_⟩:=hS2
 refine ⟨.ref s.heap.objs.size,upd H s.heap.objs.size (.ext (setQ X.w s.heap.objs.size ns)),I.laid (t':=tk) (fun b u e=>kp b u (Heap.lt_size e) e) (Nat.le_refl _) ?_,rfl,q _ hf⟩
 exact ⟨hS,⟨o,ho⟩,fun h1 h2 x k=>x.at k⟩
def rSortS (X:Cx):List V→Hp→VK→Prop:=fun xs H Q=>∃ a ns,xs=[.ref a]∧H a=some (.ext (setQ X.w a ns))∧(qb4 ns).length < 64∧∀ p,H p=none→Q (.ref p) (upd H p (.lst (nV (qb4 ns))))
theorem cr_sortS (hc:X.calm=true:=by rfl):qdK X (.builtin "sorted") (rSortS X):=by
 intro pins s σ H xs us Q I rv h
 obtain ⟨a,ns,rfl,hH,hn,q⟩:=h
 obtain ⟨u,rfl,ru⟩:=vals1 rv
 cases ru
 obtain ⟨hS,_,_⟩:=I.hok a _ hH
 refine sorted_set (I.ok.hd hc) hS (by rw [← qdL]; exact hn) fun h1 h' tk c out k1 k2 hp hI=>?_
 have I1:Inv X pins σ H { s with heap:=h1,toks:=tk }:=I.kept k1
 have hf:H h1.objs.size=none:=I1.hok.fresh (Nat.le_refl _)
 refine ⟨.ref h1.objs.size,upd H h1.objs.size (.lst (nV (qb4 ns))),I1.laid (t':=tk) k2 (Nat.le_refl _) ⟨?_,out.toList,c,IA_vals hI,by simpa using hp⟩,rfl,q _ hf⟩
 simp only [List.length_map]
 rw [sizeLine_eq]; omega
def qff (l:List D):Option (List Nat):=match qfX l with
 | some ns=>if ns.all (fun n=>decide (0≤n∧n < 128))=true∧(qb4 (ns.map Int.toNat)).length < 64 then some (ns.map Int.toNat) else none
 | none=>none
theorem qgC {l:List D} {ns:List Nat} (h:qff l=some ns):l=nD ns∧(qb4 ns).length < 64∧∀ x∈ns,x < 128:=by
 unfold qff at h
 split at h
 ·rename_i zs hz
  split at h
  ·rename_i hc
   cases h
   refine ⟨?_,hc.2,fun x hx=>?_⟩
   ·rw [intsD_eq hz]
    unfold nD
    rw [List.map_map]
    refine List.map_congr_left fun z hq=>?_
    have:=of_decide_eq_true (List.all_eq_true.mp hc.1 z hq)
    show D.int z=D.int (z.toNat:Int)
    congr 1; omega
   ·obtain ⟨z,hq,rfl⟩:=List.mem_map.mp hx
    have:=of_decide_eq_true (List.all_eq_true.mp hc.1 z hq)
    omega
  ·cases h
 ·cases h
theorem qgD {ns:List Nat} (h:(qb4 ns).length < 64) (hx:∀ x∈ns,x < 128):qff (nD ns)=some ns:=by
 unfold qff
 have e:nD ns=(ns.map fun n:Nat=>(n:Int)).map D.int:=by simp [nD]
 rw [e,qez]
 dsimp only
 have e:(ns.map fun n:Nat=>(n:Int)).map Int.toNat=ns:=by
  rw [List.map_map]
  have:(Int.toNat ∘ fun n:Nat=>(n:Int))=id:=by funext n; simp
  rw [this,List.map_id]
 rw [e,if_pos ⟨List.all_eq_true.mpr fun z hz=>by
  obtain ⟨n,hn,rfl⟩:=List.mem_map.mp hz
  have:=hx n hn
  exact decide_eq_true (by omega),h⟩]
theorem rels_nD {K:PySem.W.Frag} {ρ:List Addr} {H:Hp} {ns:List Nat} {xs:List V} (h:Rels K ρ H (nD ns) xs):xs=nV ns:=by
 have e:nD ns=(ns.map fun n:Nat=>(n:Int)).map D.int:=by simp [nD]
 rw [e] at h
 rw [Rels.ints_inv h]
 simp [nV]
theorem rels_new {K:PySem.W.Frag} {ρ:List Addr} {H:Hp} (ns:List Nat):Rels K ρ H (nD ns) (nV ns):=by
 have e:nD ns=(ns.map fun n:Nat=>(n:Int)).map D.int:=by simp [nD]
 have e':nV ns=(ns.map fun n:Nat=>(n:Int)).map V.int:=by simp [nV]
 rw [e,e']
 exact Rels.ints
theorem qeu (ns:List Nat):qak (nD ns)=true:=by
 have e:nD ns=(ns.map fun n:Nat=>(n:Int)).map D.int:=by simp [nD]
 rw [e]; exact qcm
def qbM (a:dS):yD:=fun e c=>(a e c).bind fun xs c=>match xs with
 | [x]=>match lstD c x with
  | some l=>match qff l with
   | some ns=>.ok (.lst (nD (qb4 ns))) c
   | none=>.bad
  | none=>.bad
 | _=>.bad
def dSortSetM (a:dS):yD:=fun e c=>(a e c).bind fun xs c=>match xs with
 | [x]=>match lstD c x with
  | some l=>match qff l with
   | some ns=>.ok (.ref c.length) (c ++ [.lst (nD (qb4 ns))])
   | none=>.bad
  | none=>.bad
 | _=>.bad
theorem pe_sortset {e:Expr} {da:dS} {p1 p2 q1 q2:Pos} {f:List D→LC→R D} (ha:PAd X [e] da) (hm:X.mg "sorted"=none) (hm2:X.mg "set"=none) (hg:Gl X "sorted") (hg2:Gl X "set") (hc:X.calm=true)
  (he:starEach [e] X.env=(false,eval e X.env) :: starEach [] X.env)
  (hf:∀ xs c ρ H (Q:VK) vs,Wd X.K ρ H c→Rels X.K ρ H xs vs→post X.K (Rel X.K) (f xs c) ρ H Q→∃ a ns,vs=[.ref a]∧SqL X.K H a (nV ns)∧(qb4 ns).length < 64∧(∀ x∈ns,x < 128) ∧
   ∀ p,H p=none→∀ q,upd H p (.ext (setQ X.w p ns)) q=none→Q (.ref q) (upd (upd H p (.ext (setQ X.w p ns))) q (.lst (nV (qb4 ns))))) :
  PEd X (.Call (.Name "sorted" p1) [.Call (.Name "set" p2) [e] [] q2] [] q1) (dCB f da):=by
 have hset:PE X (.Call (.Name "set" p2) [e] [] q2) _:=qem (cr_setS hc) hg2 hm2 (by decide +kernel) ha (by decide) (by decide) he (by exact qc6 rfl)
 refine (qgy (cr_sortS hc) hg hm (by decide +kernel) (qec hset pa_nil (qd6 rfl)) (by decide) (by decide) (by exact qd6 rfl) (by exact qc6 rfl)).imp fun σ H Q h=>?_
 obtain ⟨ρ,e,c,W,V,p⟩:=h
 refine ⟨ρ,e,c,W,V,post.bind p fun xs c1 ρ1 H1 vs ex W1 X1 r1 p1=>?_⟩
 obtain ⟨a,ns,rfl,sq,h64,hx,q⟩:=hf xs c1 ρ1 H1 Q vs W1 r1 p1
 exact ⟨a,ns,rfl,sq,h64,hx,fun p hp=>⟨p,ns,rfl,qaM,h64,fun q' hq=>q p hp q' hq⟩⟩
def sortF:List D→LC→R D:=fun xs c=>match xs with
 | [x]=>match lstD c x with
  | some l=>match qff l with
   | some ns=>.ok (.lst (nD (qb4 ns))) c
   | none=>.bad
  | none=>.bad
 | _=>.bad
def sortFM:List D→LC→R D:=fun xs c=>match xs with
 | [x]=>match lstD c x with
  | some l=>match qff l with
   | some ns=>.ok (.ref c.length) (c ++ [.lst (nD (qb4 ns))])
   | none=>.bad
  | none=>.bad
 | _=>.bad
theorem qeL {e:Expr} {da:dS} {p1 p2 q1 q2:Pos} (ha:PAd X [e] da) (hm:X.mg "sorted"=none) (hm2:X.mg "set"=none) (hg:Gl X "sorted":=by rfl) (hg2:Gl X "set":=by rfl) (hc:X.calm=true:=by rfl)
  (he:starEach [e] X.env=(false,eval e X.env) :: starEach [] X.env:=by exact qd6 rfl):PEd X (.Call (.Name "sorted" p1) [.Call (.Name "set" p2) [e] [] q2] [] q1) (qbM da) :=
 pe_sortset (f:=sortF) ha hm hm2 hg hg2 hc he fun xs c ρ H Q vs W r p=>by
  unfold sortF at p
  split at p
  ·rename_i x
   obtain ⟨v,rr,rfl,hx,hr⟩:=r
   cases hr
   split at p
   ·rename_i l hl
    split at p
    ·rename_i ns hn
     obtain ⟨rfl,h64,hx'⟩:=qgC hn
     obtain ⟨a,ys,rfl,ha',rl⟩:=qdE W hx hl
     cases rels_nD rl
     refine ⟨a,ns,rfl,SqL.of ha',h64,hx',fun q hq q' hq'=>?_⟩
     exact qeO (W.fresh hq) (rels_new _) (post.ext p (Ext.fresh W hq)) q' hq'
    ·exact p.elim
   ·exact p.elim
  ·exact p.elim
end
section
variable (a:dS) (e:Ev) (c:LC)
@[simp] theorem x_sortset:qbM a e c=(a e c).bind fun xs c=>match xs with
 | [x]=>match lstD c x with
  | some l=>match qff l with
   | some ns=>.ok (.lst (nD (qb4 ns))) c
   | none=>.bad
  | none=>.bad
 | _=>.bad:=rfl
@[simp] theorem x_sortsetM:dSortSetM a e c=(a e c).bind fun xs c=>match xs with
 | [x]=>match lstD c x with
  | some l=>match qff l with
   | some ns=>.ok (.ref c.length) (c ++ [.lst (nD (qb4 ns))])
   | none=>.bad
  | none=>.bad
 | _=>.bad:=rfl
end
end L2
namespace L2
open PySem PySem.Spec PyProof.Rows
section
variable {prog:Program} {w:World} {A:Around} {E:Value→Shared→Prop} {s:Shared}
theorem set_find {a:Addr} {ns:List Nat} {m:Nat} {tk:Tok} {Q:Option Nat→Shared→Prop} (hm:m < 128) (hS:SetI w s.heap a ns) (hn:ns.length < 64)
  (h:∀ r:Option Nat,r.isSome=decide (m∈ns)→Q r s):wpAny (model prog w) A (setFind a (.int m tk) (m:Int)) Q E s:=by
 obtain ⟨o,es,ep,t,ho,hex,hd,hI,hl,hs⟩:=hS
 have hsz:es.size=ns.length:=by rw [← Array.length_toList]; exact hs.len
 have hS':s.heap.SetOf (intKind prog w) a (fun k=>es.toList.any fun e=>(intKind prog w).is k e.2) es.size:=⟨o,es,ep,t,ho,hex,hd,hs.els,fun k=>by rw [List.any_eq_true],by unfold scanBound; omega,hI.fits,rfl⟩
 have hkey:(intKind prog w).is (m:Int) (.int m tk)=true:=by simp [intKind,Value.isInt]
 have:=wpAny_setFind_of (A:=A) (E:=E) (Q:=Q) hkey rfl hS' fun r hr=>h r (by
  rw [hr,Bool.eq_iff_iff,List.any_eq_true,decide_eq_true_eq,hs.mem m]
  constructor
  ·rintro ⟨e,he,q⟩
   obtain ⟨n,tk',rfl,_⟩:=hs.2 e he
   obtain ⟨t',q⟩:=Value.isInt_shape (show Value.isInt (m:Int) (.int (n:Int) tk')=true from q)
   exact ⟨_,he,by injection q⟩
  ·rintro ⟨e,he,q⟩
   obtain ⟨n,tk',rfl,_⟩:=hs.2 e he
   have e:n=m:=by dsimp only at q; omega
   subst e
   exact ⟨_,he,by simp [intKind,Value.isInt]⟩)
 have e:(intKind prog w).hash (m:Int)=(m:Int):=qdS hm
 rwa [e] at this
theorem walk_unseen {a r:Addr} {others:List Addr} {es:Array (Int×Value)} {ep:Nat} {t:SetTable} {Q:Array (Int×Value)→Shared→Prop} (hS:SetAt w s.heap a es ep t) (h:Q (ordS w a ep es) s):wpAny (model prog w) A (setWalkUnseen a others (some r)) Q E s:=by
 obtain ⟨o,ho,hex,hd,hI,hl⟩:=hS
 have key:wpAny (model prog w) A (setWalk a) Q E s:=by
  unfold setWalk
  refine wpAny_bind (wpAny_setState_of ho hd hI.fits ?_)
  dsimp only
  refine wpAny_bind ?_
  unfold setsByText
  refine wpAny_bind (wpAny_askSetting (wpAny_pure ?_))
  show wpAny _ _ (if byTx w=true then _ else _) _ _ _
  unfold ordS at h
  cases hb:byTx w with
  | true =>
   rw [hb] at h
   simp only [if_true] at h ⊢
   exact wpAny_bind (wpAny_askSetting (wpAny_pure h))
  | false =>
   rw [hb] at h hl
   simp only [Bool.false_eq_true,if_false] at h ⊢
   show wpAny _ _ (if (!t.plain && decide (es.size > 1))=true then _ else _) _ _ _
   rw [hI.plain]
   simp only [Bool.not_true,Bool.false_and,Bool.false_eq_true,if_false]
   refine wpAny_bind (wpAny_of_eq (a:=()) ?_ (wpAny_pure h))
   show (if (!t.led && decide (es.size > 1))=true then _ else _)=_
   rw [hl]; rfl
 unfold setWalkUnseen
 refine wpAny_bind (wpAny_setState_of ho hd hI.fits ?_)
 dsimp only
 refine wpAny_bind ?_
 unfold setsByText
 refine wpAny_bind (wpAny_askSetting (wpAny_pure ?_))
 show wpAny _ _ (if (byTx w || (t.led && t.plain) || decide (es.size≤1))=true then _ else _) _ _ _
 have e:(byTx w || (t.led && t.plain) || decide (es.size≤1))=true:=by rw [hl,hI.plain]; cases byTx w <;> simp
 rw [if_pos e]
 first | exact key | exact wpAny_bind key
theorem nd_len:∀ {l m:List Nat},l.Nodup→(∀ x∈l,x∈m)→l.length≤m.length
 | [],m,_,_=>Nat.zero_le _
 | x :: l,m,h,hs=>by
  obtain ⟨h1,h2⟩:=List.nodup_cons.mp h
  have hx:=hs x (.head _)
  have:=nd_len (m:=m.erase x) h2 fun y hy=>(List.mem_erase_of_ne (fun e:y=x=>h1 (by rw [← e]; exact hy))).mpr (hs y (.tail _ hy))
  rw [List.length_erase_of_mem hx] at this
  have:=List.length_pos_of_mem hx
  rw [List.length_cons]; omega
theorem and_loop {asked walked r:Addr} {ns ms:List Nat} {es:Array (Int×Value)} {ep:Nat} {t:SetTable} {Q:Unit→Shared→Prop} (id:String) (hra:asked≠r) (hrw:walked≠r) (ha:SetI w s.heap asked ns) (hw:SetAt w s.heap walked es ep t) (hs:Smalls es.toList ms) (hr:SetI w s.heap r []) (hn:ns.length < 64)
  (h:∀ (h':Heap) (rs:List Nat),SetI w h' r rs→rs.Nodup→(∀ x,x∈rs↔x∈ns∧x∈ms)→(∀ b o,b≠r→s.heap.get? b=some o→h'.get? b=some o)→Q () { s with heap:=h' }) :
  wpAny (model prog w) A (forIn (ordS w walked ep es) PUnit.unit fun (p:Int×Value) (_:PUnit)=>do
   holding [p.2] (do if (← setFind asked p.2 p.1).isSome=true then (do let _ ← setAddHashed r p.2 p.1; pure PUnit.unit) else pure PUnit.unit)
   Builtin.Frozenset.unchanged id walked ep
   pure (ForInStep.yield PUnit.unit)) Q E s:=by
 have hp:=qep w walked ep es
 refine PySem.MeetsSeq2.wpAny_forIn_array _ (fun rest _ s'=>∃ (h':Heap) (rs:List Nat) (done:List (Int×Value)),s'={ s with heap:=h' }∧(ordS w walked ep es).toList=done ++ rest∧SetI w h' r rs∧rs.Nodup∧(∀ x:Nat,x∈rs↔x∈ns∧∃ e∈done,e.1=(x:Int))∧(∀ b o,b≠r→s.heap.get? b=some o→h'.get? b=some o)) _ ?_ ?_ _ _
  ⟨s.heap,[],[],rfl,rfl,hr,.nil,fun x=>by simp,fun _ _ _ e=>e⟩
 ·rintro ⟨hx,x⟩ rest u s' ⟨h',rs,done,rfl,hl,hR,hnd,hmem,hk⟩
  have hin:(hx,x)∈es.toList:=hp.mem_iff.mp (by rw [hl]; simp)
  obtain ⟨n,tk,e,hn128⟩:=hs.2 _ hin
  cases e
  have ha':SetI w h' asked ns:=ha.at fun o e=>hk asked o hra e
  have hw':SetAt w h' walked es ep t:=hw.at fun o e=>hk walked o hrw e
  have hrl:rs.length < 64:=Nat.lt_of_le_of_lt (nd_len hnd fun x hx=>((hmem x).mp hx).1) hn
  have tail:∀ (Q':ForInStep PUnit→Shared→Prop) (h2:Heap),(∀ b o,b≠r→s.heap.get? b=some o→h2.get? b=some o)→Q' (.yield PUnit.unit) { s with heap:=h2 } →
    wpAny (model prog w) A (Builtin.Frozenset.unchanged id walked ep >>= fun _=>pure (ForInStep.yield PUnit.unit)) Q' E { s with heap:=h2 }:=by
   intro Q' h2 q4 q
   obtain ⟨o,ho,_,hd,hI,_⟩:=hw.at fun o e=>q4 walked o hrw e
   unfold Builtin.Frozenset.unchanged
   refine wpAny_bind (wpAny_bind (wpAny_setEpoch_of ho hd hI.fits ?_))
   rw [if_neg (by simp)]
   exact wpAny_pure (wpAny_pure q)
  dsimp only
  refine wpAny_bind (wpAny_holding (wpAny_bind (set_find (s:={ s with heap:=h' }) hn128 ha' hn fun res hres=>?_)))
  by_cases hq:n∈ns
  ·have hres':res.isSome=true:=by rw [hres]; exact decide_eq_true hq
   rw [if_pos hres']
   have hh:hashInt (n:Int)=n:=qdS hn128
   have key:=set_add (prog:=prog) (A:=A) (E:=E) (s:={ s with heap:=h' }) (tk:=tk) (Q:=fun _ s'=>∃ h2,s'={ s with heap:=h2 }∧SetI w h2 r (qcV rs n)∧∀ b o,b≠r→s.heap.get? b=some o→h2.get? b=some o) hn128 hR hrl
    fun bb h2 hsb hS2=>⟨h2,rfl,hS2,fun b o hb e=>by rw [hsb.2 b hb]; exact hk b o hb e⟩
   rw [hh] at key
   refine wpAny_bind (wpAny_mono key (fun bb s2 q=>?_) fun _ _ q=>q)
   obtain ⟨h2,rfl,hS2,hk2⟩:=q
   refine wpAny_pure (tail _ h2 hk2 ⟨h2,qcV rs n,done ++ [((n:Int),Value.int n tk)],rfl,by rw [hl]; simp,hS2,nd_stepS hnd,fun x=>?_,hk2⟩)
   rw [mem_stepS,hmem x]
   constructor
   ·rintro (⟨a1,e,he,q⟩ | rfl)
    ·exact ⟨a1,e,by simp [he],q⟩
    ·exact ⟨hq,((x:Int),Value.int x tk),by simp,rfl⟩
   ·rintro ⟨a1,e,he,q⟩
    rcases List.mem_append.mp he with he | he
    ·exact .inl ⟨a1,e,he,q⟩
    ·rw [List.mem_singleton] at he
     subst he
     right
     dsimp only at q; omega
  ·have hres':¬ (res.isSome=true):=by rw [hres]; simpa using hq
   rw [if_neg hres']
   refine wpAny_pure (tail _ h' hk ⟨h',rs,done ++ [((n:Int),Value.int n tk)],rfl,by rw [hl]; simp,hR,hnd,fun x=>?_,hk⟩)
   rw [hmem x]
   constructor
   ·rintro ⟨a1,e,he,q⟩
    exact ⟨a1,e,by simp [he],q⟩
   ·rintro ⟨a1,e,he,q⟩
    rcases List.mem_append.mp he with he | he
    ·exact ⟨a1,e,he,q⟩
    ·rw [List.mem_singleton] at he
     subst he
     have e2:x=n:=by dsimp only at q; omega
     exact absurd (e2 ▸ a1) hq
 ·rintro u s' ⟨h',rs,done,rfl,hl,hR,hnd,hmem,hk⟩
  rw [List.append_nil] at hl
  refine h h' rs hR hnd (fun x=>?_) hk
  rw [hmem x,hs.mem x,← hl]
  constructor
  ·rintro ⟨a1,e,he,q⟩; exact ⟨a1,e,hp.mem_iff.mp he,q⟩
  ·rintro ⟨a1,e,he,q⟩; exact ⟨a1,e,hp.mem_iff.mpr he,q⟩
def bothS (ns ms:List Nat):List Nat:=ns.filter fun x=>decide (x∈ms)
theorem and_body (id:String) {a b:Addr} {ns ms:List Nat} {Q:Value→Shared→Prop} (hne:(Value.ref b == Value.ref a)=false) (ha:SetI w s.heap a ns) (hb:SetI w s.heap b ms) (hn:ns.length < 64) (hm:ms.length < 64) (hnd:ns.Nodup) (hmd:ms.Nodup)
  (h:∀ (h':Heap) (rs:List Nat),SetI w h' s.heap.objs.size rs→rs.Nodup→(∀ x,x∈rs↔x∈ns∧x∈ms)→(∀ b o,s.heap.get? b=some o→h'.get? b=some o)→Q (.ref s.heap.objs.size) { s with heap:=h' }) :
  wpAny (model prog w) A (Builtin.Frozenset.intersection id a (.ref b)) Q E s:=by
 have hTa:s.TypeIs (.ref a) "set":=by obtain ⟨o,_,_,_,ho,hx,_⟩:=ha; exact ⟨o,ho,hx.1⟩
 have hTb:s.TypeIs (.ref b) "set":=by obtain ⟨o,_,_,_,ho,hx,_⟩:=hb; exact ⟨o,ho,hx.1⟩
 unfold Builtin.Frozenset.intersection
 rw [if_neg (by rw [hne]; exact Bool.false_ne_true)]
 refine wpAny_bind ?_
 unfold Builtin.Frozenset.baseOf
 refine wpAny_bind (wpAny_isInstance hTa sub_set_self (wpAny_pure ?_))
 simp only [if_true]
 refine wpAny_bind ?_
 unfold newSet setsByText
 refine wpAny_bind (wpAny_bind (wpAny_askSetting (wpAny_pure ?_)))
 dsimp only
 simp only [newObj]
 refine wpAny_bind (wpAny_alloc (wpAny_pure ?_))
 show wpAny _ _ (Builtin.Frozenset.addrOf (.ref s.heap.objs.size) >>= _) _ _ { s with heap:=s.heap.push (qaT w) }
 refine wpAny_bind (wpAny_pure ?_)
 have hTb1:Shared.TypeIs { s with heap:=s.heap.push (qaT w) } (.ref b) "set":=by obtain ⟨o,_,_,_,ho,hx,_⟩:=hb; exact ⟨o,Heap.get?_push_of_some _ ho,hx.1⟩
 refine wpAny_bind (wpAny_holding (wpAny_bind ?_))
 unfold Builtin.Frozenset.isAnySet
 refine wpAny_bind (wpAny_isInstance (T:="set") (b:=true) hTb1 sub_set_self ?_)
 show wpAny _ _ (pure true) _ _ _
 refine wpAny_pure ?_
 rw [if_pos rfl]
 refine wpAny_bind (wpAny_pure ?_)
 have ha1:SetI w (s.heap.push (qaT w)) a ns:=ha.at fun o e=>Heap.get?_push_of_some _ e
 have hb1:SetI w (s.heap.push (qaT w)) b ms:=hb.at fun o e=>Heap.get?_push_of_some _ e
 have hr1:SetI w (s.heap.push (qaT w)) s.heap.objs.size []:=qgT w (Heap.get?_push_size _ rfl)
 have hane:a≠s.heap.objs.size:=by obtain ⟨o,_,_,_,ho,_⟩:=ha; exact Nat.ne_of_lt (Heap.lt_size ho)
 have hbne:b≠s.heap.objs.size:=by obtain ⟨o,_,_,_,ho,_⟩:=hb; exact Nat.ne_of_lt (Heap.lt_size ho)
 have go:∀ (asked walked:Addr) (ns' ms':List Nat),asked≠s.heap.objs.size→walked≠s.heap.objs.size→SetI w (s.heap.push (qaT w)) asked ns'→SetI w (s.heap.push (qaT w)) walked ms'→ns'.length < 64→(∀ x,(x∈ns'∧x∈ms')↔(x∈ns∧x∈ms)) →
   wpAny (model prog w) A (do
    let was ← setEpoch walked
    let arr ← setWalkUnseen walked [asked,s.heap.objs.size] (some s.heap.objs.size)
    forIn arr PUnit.unit fun (p:Int×Value) (_:PUnit)=>do
     holding [p.2] (do if (← setFind asked p.2 p.1).isSome=true then (do let _ ← setAddHashed s.heap.objs.size p.2 p.1; pure PUnit.unit) else pure PUnit.unit)
     Builtin.Frozenset.unchanged id walked was
     pure (ForInStep.yield PUnit.unit)
    pure ()) (fun _ s'=>wpAny (model prog w) A (pure (Value.ref s.heap.objs.size)) Q E s') E { s with heap:=s.heap.push (qaT w) }:=by
  intro asked walked ns' ms' n1 n2 h1 h2 hl hmm
  obtain ⟨o,es,ep,t,ho,hex,hd,hI,hled,hs⟩:=h2
  refine wpAny_bind (wpAny_setEpoch_of ho hd hI.fits ?_)
  refine wpAny_bind (walk_unseen (es:=es) (ep:=ep) (t:=t) ⟨o,ho,hex,hd,hI,hled⟩ ?_)
  refine wpAny_bind (and_loop (s:={ s with heap:=s.heap.push (qaT w) }) id n1 n2 h1 ⟨o,ho,hex,hd,hI,hled⟩ hs hr1 hl fun h' rs q1 q2 q3 q4=>?_)
  refine wpAny_pure (wpAny_pure (h h' rs q1 q2 (fun x=>(q3 x).trans (hmm x)) fun b' o' e=>q4 b' o' (Nat.ne_of_lt (Heap.lt_size e)) (Heap.get?_push_of_some _ e)))
 obtain ⟨oa,esa,epa,ta,hoa,_,hda,hIa,_,_⟩:=_root_.id ha1
 obtain ⟨ob,esb,epb,tb,hob,_,hdb,hIb,_,_⟩:=_root_.id hb1
 unfold Builtin.Frozenset.sizeOf
 refine wpAny_bind (wpAny_bind (wpAny_setEntries_of hob hdb hIb.fits (wpAny_pure ?_)))
 refine wpAny_bind (wpAny_bind (wpAny_setEntries_of hoa hda hIa.fits (wpAny_pure ?_)))
 by_cases hsz:esb.size > esa.size
 ·simp only [if_pos hsz]
  exact go b a ms ns hbne hane hb1 ha1 hm fun x=>⟨fun ⟨u,v⟩=>⟨v,u⟩,fun ⟨u,v⟩=>⟨v,u⟩⟩
 ·simp only [if_neg hsz]
  exact go a b ns ms hane hbne ha1 hb1 hn fun x=>Iff.rfl
theorem sw_entry_and:entryFor table "set.__and__"=some Builtin.«frozenset.__and__» :=
 entryFor_alias (id':="frozenset.__and__") (by kernel_rfl) rfl (by decide +kernel) (by kernel_rfl)
theorem any_set {v:Value} {Q:Bool→Shared→Prop} (hT:s.TypeIs v "set") (h:Q true s):wpAny (model prog w) A (Builtin.Frozenset.isAnySet v) Q E s:=by
 unfold Builtin.Frozenset.isAnySet
 refine wpAny_bind (wpAny_isInstance (T:="set") (b:=true) hT sub_set_self ?_)
 exact wpAny_pure h
theorem set_and {a b:Addr} {ns ms:List Nat} {Q:Value→Shared→Prop} (hab:a≠b) (ha:SetI w s.heap a ns) (hb:SetI w s.heap b ms) (hn:ns.length < 64) (hm:ms.length < 64) (hnd:ns.Nodup) (hmd:ms.Nodup)
  (h:∀ (h':Heap) (rs:List Nat),SetI w h' s.heap.objs.size rs→rs.Nodup→(∀ x,x∈rs↔x∈ns∧x∈ms)→(∀ b o,s.heap.get? b=some o→h'.get? b=some o)→Q (.ref s.heap.objs.size) { s with heap:=h' }) :
  wpAny (model prog w) A (binaryOp .BitAnd (.ref a) (.ref b)) Q E s:=by
 have hTa:s.TypeIs (.ref a) "set":=by obtain ⟨o,_,_,_,ho,hx,_⟩:=ha; exact ⟨o,ho,hx.1⟩
 have hTb:s.TypeIs (.ref b) "set":=by obtain ⟨o,_,_,_,ho,hx,_⟩:=hb; exact ⟨o,ho,hx.1⟩
 refine wpAny_binaryOp_same hTa hTb PySem.F.fills_set_and PySem.F.slot_set_and (wpAny_call_entry PySem.F.slot_set_and hTa sw_entry_and ?_ (PySem.F.args_set_and_2 _ _))
 unfold Builtin.«frozenset.__and__»
 show wpAny _ _ (Builtin.Frozenset.slot1 "__and__" ⟨[.ref a,.ref b],[]⟩ >>= _) _ _ _
 refine wpAny_bind (wpAny_bind (wpAny_pure (wpAny_pure ?_)))
 dsimp only
 simp only [Bool.false_eq_true,if_false]
 refine wpAny_bind (wpAny_bind (any_set hTa ?_))
 refine any_set hTb ?_
 simp only [Bool.not_true,Bool.false_eq_true,if_false]
 refine wpAny_bind (wpAny_pure ?_)
 refine wpAny_bind (and_body _ (by simpa using Ne.symm hab) ha hb hn hm hnd hmd fun h' rs q1 q2 q3 q4=>?_)
 exact wpAny_pure ⟨_,rfl,(fun e=>by cases e),h h' rs q1 q2 q3 q4⟩
end
end L2
namespace L2
open PySem PySem.Spec PyProof.Rows
theorem qgr:isSubtype (.type "tuple") (.type "set")=pure false:=by rw [isSubtype_type]; kernel_rfl
theorem qea:isSubtype (.type "tuple") (.type "frozenset")=pure false:=by rw [isSubtype_type]; kernel_rfl
section
variable {prog:Program} {w:World} {A:Around} {s:Shared} {E:Value→Shared→Prop}
set_option maxHeartbeats 3200000 in
theorem set_ofT {l:Addr} {items:Array Value} {xs:List Nat} {Q:Value→Shared→Prop} (hh:A.handled=none) (hl:s.heap.IsTuple l items) (hi:IntsAre items.toList (xs.map fun n:Nat=>(n:Int))) (hx:∀ x∈xs,x < 128) (h64:(qcb xs).length < 64)
  (h:∀ (h':Heap) (tk:Nat),SetI w h' s.heap.objs.size (qcb xs)→(∀ b o,b < s.heap.objs.size→s.heap.get? b=some o→h'.get? b=some o)→Q (.ref s.heap.objs.size) { s with heap:=h',toks:=tk }) :
  wpAny (model prog w) A (call (.type "set") [.ref l]) Q E s:=by
 obtain ⟨c,tl,hmro⟩:=PySem.F.called_set.mro
 have hmade:=PySem.F.called_set.made
 have hsub:=PySem.F.called_set.sub
 refine wpAny_call (codeAny_of_tree (show wpAny _ _ (callAny (.type "set") _) _ _ _ from ?_))
 refine wpAny_pure ⟨Code.quiet_builtin _ (by decide +kernel),codeAny_builtin PySem.F.entry_type_call ?_⟩
 rw [Around.under_plain (weight_type_call_type "set" [.ref l] []) rfl]
 have h1:=PySem.F.called_set.notType
 have h2:=PySem.F.called_set.canCreate
 have hct:=PySem.F.typeCall_set_1 (.ref l)
 repeat any_goals (first | assumption | wp_step)
 refine codeAny_mono (set_new1 (.ref l) (E:=E) (Q₁:=fun obj s₁=>obj=.ref s.heap.objs.size∧s₁={ s with heap:=s.heap.push (qaT w) }) ⟨rfl,rfl⟩) fun r s₁ hr=>?_
 cases r with
 | error e=>exact hr
 | ok fl =>
  cases fl with
  | ret obj =>
   obtain ⟨rfl,rfl⟩:=hr
   have hS:(s.heap.push (qaT w)).get? s.heap.objs.size=some (qaT w):=Heap.get?_push_size _ rfl
   have hT:Shared.TypeIs { s with heap:=s.heap.push (qaT w) } (.ref s.heap.objs.size) "set":=⟨_,hS,rfl⟩
   have hli:=PySem.F.called_set.init.lookup
   have hbi:=PySem.F.called_set.init.bind (.ref s.heap.objs.size)
   repeat any_goals (first | assumption | wp_step)
   refine codeAny_mono (codeAny_call_builtin (R:=wants (fun r s₂=>r=.none∧∃ h' tk,s₂={ s with heap:=h',toks:=tk }∧SetI w h' s.heap.objs.size (qcb xs) ∧
     (∀ b o,b < s.heap.objs.size→s.heap.get? b=some o→h'.get? b=some o)) E) PySem.F.called_set.init.plain PySem.F.entry_set_init (check_set_init_1 hT ?_)) fun r₂ s₂ hr₂=>?_
   ·obtain ⟨ol,hol,hcl,nl,hdl⟩:=hl
    obtain ⟨ocls,odict,odata,oslots⟩:=ol
    simp only at hcl hdl
    subst hcl; subst hdl
    have hol':(s.heap.push (qaT w)).get? l=some { cls:=.type "tuple",dict:=odict,data:=.seq items nl,slots:=oslots }:=Heap.get?_push_of_some _ hol
    have hsls:=qgr
    have hslf:=qea
    have hne:(Value.type "tuple" == Value.type "dict")=false:=by decide
    have hl1:(s.heap.push (qaT w)).IsTuple l items:=⟨_,hol',rfl,nl,rfl⟩
    unfold qaT at hS hT hol' ⊢
    unfold Builtin.«set.__init__» noKeywords Builtin.Frozenset.updateFrom
    generalize hPI:pyIter=PI
    wp_walk
    subst hPI
    refine wpAny_pyIter_tuple hl1 (wpAny_bind (wpAny_runValue ?_))
    have hlS:l < s.heap.objs.size:=Heap.lt_size hol
    have hlen:items.size=xs.length:=by have:=hi.length; simpa using this
    have hneI:l≠(s.heap.push (qaT w)).objs.size:=by rw [Heap.size_push]; exact Nat.ne_of_lt (Nat.lt_succ_of_lt hlS)
    have hSf:s.heap.objs.size∉[(s.heap.push (qaT w)).objs.size,l]:=by
     rw [Heap.size_push]; simp only [List.mem_cons,List.not_mem_nil,or_false,not_or]; exact ⟨Nat.ne_of_lt (Nat.lt_succ_self _),Nat.ne_of_gt hlS⟩
    have W:=(Walks.tuple (prog:=prog) (w:=w) (A:=A.in1.in1.in1) (by simp [hh]) (s.heap.push (qaT w)).objs.size l hneI items).toS
    rw [hlen] at W
    refine set_loop (xs:=xs) W s.heap.objs.size hSf (fun i v hi' hv=>?_) hx h64 xs.length 0 _ (by omega) (Nat.zero_le _) ⟨⟨_,Heap.get?_push_size _ rfl,rfl,rfl⟩,hl1.at fun o e=>Heap.get?_push_of_some _ e⟩ (qgT w (Heap.get?_push_of_some _ hS)) fun s' hm hS'=>?_
    ·obtain ⟨t,e⟩:=IntsAre.int_at hi i v (by rw [Array.getElem?_toList]; exact hv)
     exact ⟨t,by rw [e]; simp [List.getD_eq_getElem?_getD,List.getElem?_eq_getElem hi']⟩
    ·obtain ⟨h',g',d',tk',os'⟩:=s'
     cases (show g'=s.gens from hm.gens)
     cases (show d'=s.drawn from hm.drawn)
     cases (show os'=s.os from hm.os)
     refine wpAny_pure (wpAny_pure ⟨rfl,h',tk',rfl,hS',fun b o hb e=>?_⟩)
     exact hm.heap b o (by rw [Heap.size_push]; simp only [List.mem_cons,List.not_mem_nil,or_false,not_or]; exact ⟨Nat.ne_of_lt hb,Nat.ne_of_lt (Nat.lt_succ_of_lt hb)⟩) (Heap.get?_push_of_some _ (Heap.get?_push_of_some _ e))
   ·cases r₂ with
    | error e=>exact hr₂
    | ok fl₂ =>
     cases fl₂ with
     | ret r =>
      obtain ⟨rfl,h',tk,rfl,hS',hk'⟩:=hr₂
      repeat any_goals (first | assumption | wp_step)
      exact h _ _ hS' hk'
     | _=>exact hr₂.elim
  | _=>exact hr.elim
end
end L2
namespace L2
open PySem PySem.Spec PyProof.Rows
def setR (w:World) (a:Addr) (rs:List Nat):Heap→Prop:=fun h=>SetI w h a rs
def bothN (ns ms:List Nat):Nat:=((qb4 ns).filter fun x=>decide (x∈ms)).length
theorem both_len {ns ms rs:List Nat} (hn:rs.Nodup) (h:∀ x,x∈rs↔x∈ns∧x∈ms):rs.length=bothN ns ms:=by
 have hp:rs.Perm ((qb4 ns).filter fun x=>decide (x∈ms)):=by
  refine (List.perm_ext_iff_of_nodup hn ((nd_up (qdp ns)).filter _)).mpr fun x=>?_
  rw [h x,List.mem_filter,mem_ssort,decide_eq_true_eq]
 exact hp.length_eq
section
variable {X:Cx}
def rSetB (X:Cx):List V→Hp→VK→Prop:=fun xs H Q=>∃ a ns,xs=[.ref a]∧(SqL X.K H a (nV ns)∨SqT X.K H a (nV ns))∧(qb4 ns).length < 64∧(∀ x∈ns,x < 128)∧∀ p,H p=none→Q (.ref p) (upd H p (.ext (setQ X.w p ns)))
theorem cr_setB (hc:X.calm=true:=by rfl):qdK X (.type "set") (rSetB X):=by
 intro pins s σ H xs us Q I rv h
 obtain ⟨a,ns,rfl,sq,hb,hx,q⟩:=h
 rcases sq with sq | sq
 ·exact cr_setS hc pins s σ H _ us Q I rv ⟨a,ns,rfl,sq,hb,hx,q⟩
 ·obtain ⟨u,rfl,ru⟩:=vals1 rv
  cases ru
  obtain ⟨its,ri,pl,hz⟩:=I.tuple sq
  refine set_ofT (xs:=ns) (I.ok.hd hc) (show s.heap.IsTuple a its.toArray from pl) (by simpa using vals_IA ri) hx (by rw [← qdL]; exact hb) fun h' tk hS kp=>?_
  have hf:H s.heap.objs.size=none:=I.hok.fresh (Nat.le_refl _)
  have hS2:=hS
  obtain ⟨o,es,ep,t,ho,_⟩:=hS2
  refine ⟨.ref s.heap.objs.size,upd H s.heap.objs.size (.ext (setQ X.w s.heap.objs.size ns)),I.laid (t':=tk) (fun b u e=>kp b u (Heap.lt_size e) e) (Nat.le_refl _) ?_,rfl,q _ hf⟩
  exact ⟨hS,⟨o,ho⟩,fun h1 h2 x k=>x.at k⟩
def rAndS (X:Cx):R2:=fun x y H Q=>∃ a b ns ms,x=.ref a∧y=.ref b∧a≠b∧H a=some (.ext (setQ X.w a ns))∧H b=some (.ext (setQ X.w b ms))∧(qb4 ns).length < 64∧(qb4 ms).length < 64 ∧
 ∀ p rs,H p=none→rs.length=bothN ns ms→rs.length < 64→Q (.ref p) (upd H p (.ext (setR X.w p rs)))
theorem op_andS:OpR X (binaryOp .BitAnd) (rAndS X):=by
 intro pins s σ H x y v u Q I rx ry h
 obtain ⟨a,b,ns,ms,rfl,rfl,hab,ha,hb,h1,h2,q⟩:=h
 cases rx; cases ry
 obtain ⟨hA,_,_⟩:=I.hok a _ ha
 obtain ⟨hB,_,_⟩:=I.hok b _ hb
 rw [qdL] at h1 h2
 refine set_and hab hA hB h1 h2 (qfH .nil) (qfH .nil) fun h' rs q1 q2 q3 q4=>?_
 have hmem:∀ x,x∈rs↔x∈ns∧x∈ms:=fun x=>by
  rw [q3 x]
  unfold qcb
  rw [qew,qew]
  simp
 have hf:H s.heap.objs.size=none:=I.hok.fresh (Nat.le_refl _)
 have hl:rs.length < 64:=Nat.lt_of_le_of_lt (nd_len q2 fun x hx=>((q3 x).mp hx).1) h1
 have q1':=q1
 obtain ⟨o,es,ep,t,ho,_⟩:=q1'
 refine ⟨.ref s.heap.objs.size,upd H s.heap.objs.size (.ext (setR X.w s.heap.objs.size rs)),I.laid (t':=s.toks) q4 (Nat.le_refl _) ⟨q1,⟨o,ho⟩,fun h1 h2 x k=>x.at k⟩,rfl,q _ rs hf (both_len q2 hmem) hl⟩
def rLenR (X:Cx):List V→Hp→VK→Prop:=fun xs H Q=>∃ a rs,xs=[.ref a]∧H a=some (.ext (setR X.w a rs))∧rs.length < 64∧Q (.int (rs.length:Nat)) H
theorem cr_lenR:qdK X (.builtin "len") (rLenR X):=by
 intro pins s σ H xs us Q I rv h
 obtain ⟨a,rs,rfl,hH,hn,q⟩:=h
 obtain ⟨u,rfl,ru⟩:=vals1 rv
 cases ru
 obtain ⟨hS,_,_⟩:=I.hok a _ hH
 obtain ⟨o,es,ep,t,ho,hex,hd,hI,hl,hs⟩:=hS
 have he:es.size=rs.length:=by rw [← Array.length_toList]; exact hs.len
 refine call_len_set ho hex hd hI.fits (by rw [he]; omega) ⟨.int (rs.length:Nat),H,I.tok _,⟨_,by rw [he]⟩,q⟩
def qgE (c:LC):D→Option (List Nat)
 | .tup l=>qff l
 | x=>match lstD c x with
  | some l=>qff l
  | none=>none
theorem natsC_ok {K:PySem.W.Frag} {ρ:List Addr} {H:Hp} {c:LC} {x:D} {v:V} {ns:List Nat} (W:Wd K ρ H c) (r:Rel K ρ H x v) (h:qgE c x=some ns):∃ a,v=.ref a∧(SqL K H a (nV ns)∨SqT K H a (nV ns))∧(qb4 ns).length < 64∧∀ x∈ns,x < 128:=by
 unfold qgE at h
 split at h
 ·obtain ⟨rfl,h64,hx⟩:=qgC h
  obtain ⟨a,xs,rfl,ha,rl⟩:=r
  cases rels_nD rl
  exact ⟨a,rfl,.inr (SqT.of ha),h64,hx⟩
 ·split at h
  ·rename_i l hl
   obtain ⟨rfl,h64,hx⟩:=qgC h
   obtain ⟨a,ys,rfl,ha,rl⟩:=qdE W r hl
   cases rels_nD rl
   exact ⟨a,rfl,.inl (SqL.of ha),h64,hx⟩
  ·cases h
def qeQ (a b:dS):yD:=fun e c=>(a e c).bind fun xs c=>match xs with
 | [x]=>match qgE c x with
  | some ns=>(b e c).bind fun ys c=>match ys with
   | [y]=>match qgE c y with
    | some ms=>.ok (.int (bothN ns ms:Nat)) c
    | none=>.bad
   | _=>.bad
  | none=>.bad
 | _=>.bad
theorem pd_lenand {a b:Expr} {da db:dS} {p0 p1 p2 q0 q1 q2 q3:Pos} (ha:PAd X [a] da) (hb:PAd X [b] db) (hm:X.mg "len"=none) (hm2:X.mg "set"=none) (hg:Gl X "len":=by rfl) (hg2:Gl X "set":=by rfl) (hc:X.calm=true:=by rfl)
  (he:starEach [a] X.env=(false,eval a X.env) :: starEach [] X.env:=by exact qd6 rfl) (he2:starEach [b] X.env=(false,eval b X.env) :: starEach [] X.env:=by exact qd6 rfl) :
  PEd X (.Call (.Name "len" p0) [.BinOp (.Call (.Name "set" p1) [a] [] q1) .BitAnd (.Call (.Name "set" p2) [b] [] q2) q3] [] q0) (qeQ da db):=by
 have h1:PE X (.Call (.Name "set" p1) [a] [] q1) _:=qem (cr_setB hc) hg2 hm2 (by decide +kernel) ha (by decide) (by decide) he (by exact qc6 rfl)
 have h2:PE X (.Call (.Name "set" p2) [b] [] q2) _:=qem (cr_setB hc) hg2 hm2 (by decide +kernel) hb (by decide) (by decide) he2 (by exact qc6 rfl)
 have h3:PE X (.BinOp (.Call (.Name "set" p1) [a] [] q1) .BitAnd (.Call (.Name "set" p2) [b] [] q2) q3) _:=pe_op op_andS h1 h2
 refine (qgy cr_lenR hg hm (by decide +kernel) (qec h3 pa_nil (qd6 rfl)) (by decide) (by decide) (by exact qd6 rfl) (by exact qc6 rfl)).imp fun σ H Q h=>?_
 obtain ⟨ρ,e,c,W,V,p⟩:=h
 refine ⟨ρ,e,c,W,V,post.bind p fun xs c1 ρ1 H1 vs ex W1 X1 r1 p1=>?_⟩
 clear ex
 split at p1
 ·rename_i x
  obtain ⟨v,r,rfl,hx,hr⟩:=r1
  cases hr
  split at p1
  ·rename_i ns hn
   obtain ⟨ad,rfl,sq,h64,hx'⟩:=natsC_ok W1 hx hn
   refine ⟨ad,ns,rfl,sq,h64,hx',fun pa hpa=>?_⟩
   refine ⟨ρ1,e,c1,W1.fresh hpa,(V.mono W X1).mono W1 (Ext.fresh W1 hpa),post.bind (post.ext p1 (Ext.fresh W1 hpa)) fun ys c2 ρ2 H2 vs2 ex2 W2 X2 r2 p2=>?_⟩
   clear ex2
   split at p2
   ·rename_i y
    obtain ⟨v2,r',rfl,hy,hr'⟩:=r2
    cases hr'
    split at p2
    ·rename_i ms hm'
     obtain ⟨bd,rfl,sq2,h642,hy'⟩:=natsC_ok W2 hy hm'
     refine ⟨bd,ms,rfl,sq2,h642,hy',fun pb hpb=>?_⟩
     have hpaR:pa∉ρ1:=W1.nil hpa
     have hA2:H2 pa=some (.ext (setQ X.w pa ns)):=(X2.keep pa _ qaM hpaR rfl).1
     have hne:pa≠pb:=fun z=>by rw [z,hpb] at hA2; cases hA2
     refine ⟨pa,pb,ns,ms,rfl,rfl,hne,by rw [qah hne]; exact hA2,qaM,h64,h642,fun pr rs hpr hl hl64=>?_⟩
     refine ⟨pr,rs,rfl,qaM,hl64,?_⟩
     rw [hl]
     have W3:=W2.fresh (o:=.ext (setQ X.w pb ms)) hpb
     exact p2 ρ2 _ _ (W3.fresh hpr) ((Ext.fresh W2 hpb).trans (Ext.fresh W3 hpr)) rfl
    ·exact p2.elim
   ·exact p2.elim
  ·exact p1.elim
 ·exact p1.elim
end
@[simp] theorem x_lenand (a b:dS) (e:Ev) (c:LC):qeQ a b e c=(a e c).bind fun xs c=>match xs with
 | [x]=>match qgE c x with
  | some ns=>(b e c).bind fun ys c=>match ys with
   | [y]=>match qgE c y with
    | some ms=>.ok (.int (bothN ns ms:Nat)) c
    | none=>.bad
   | _=>.bad
  | none=>.bad
 | _=>.bad:=rfl
end L2
namespace L2
open PySem PySem.Spec PyProof.Rows
theorem qeU {l c:Int} {t u:Tok} {v:Value}:∀ (xs:List Value),TriplesOk xs→TriplesOk (xs ++ [.int l t,.int c u,v])
 | [],_=>trivial
 | .int _ _ :: .int _ _ :: _ :: rest,h=>qeU (l:=l) (c:=c) (t:=t) (u:=u) (v:=v) rest h
theorem qgn {pos p:Pos} {v cv:Value}:∀ (xs:List Value),TriplesOk xs→codeAmong p (xs ++ [rawInt pos.line,rawInt pos.col,v])=some cv→codeAmong p xs=some cv∨cv=v
 | [],_,h=>by
  simp only [List.nil_append,rawInt,codeAmong] at h
  split at h
  ·exact .inr (Option.some.inj h).symm
  ·cases h
 | .int a _ :: .int b _ :: x :: rest,ht,h=>by
  simp only [List.cons_append,codeAmong] at h ⊢
  split at h
  ·rename_i hc; rw [if_pos hc]; exact .inl h
  ·rename_i hc; rw [if_neg hc]; exact qgn rest ht h
structure LamNew (H H':Hp) (n:Nat) (P:Addr) (q:Str) (e:Expr) (cl:List (Str×Addr)) (a:Addr):Prop where
 at':∃ o c,H' a=some (.ext (lamP a o))∧LamObj e o q c cl∧H' c=some (.ext (codeP c q))
 keep:∀ b u,H b=some u→isTbl u=false→H' b=some u
 new:∀ b,b < n→H b=none→H' b=none
 tabs:∀ b ps,b≠P→H b=some (.tbl ps)→H' b=some (.tbl ps)
 tab:TabAt H' P q
section
variable {X:Cx} {pins:List (Addr×Obj)} {σ:St} {H:Hp} {s:Shared}
theorem qf9 {h1 h2:Heap} {c:Addr} {q:Str} (x:h1.CodeRec (.ref c) q) (k:∀ o,h1.get? c=some o→h2.get? c=some o):h2.CodeRec (.ref c) q:=by
 obtain ⟨c',oc,vs,t,e,h,r⟩:=x
 cases e
 exact ⟨_,oc,vs,t,rfl,k _ h,r⟩
theorem lam_made {c P:Addr} {q:Str} {params:Arguments} {body:Expr} {scope:Scope} {pos:Pos} {clos:List (Str×Addr)} {Q:Value→Shared→Prop}
  (I:Inv X pins σ H s) (hcode:X.env.code=.ref c) (hq:X.env.qual ++ "<lambda>"=q) (hC:PySem.W.codeHdIn X.K c P=true) (hT:TabAt H P q) (hcl:closureFor scope X.env=pure clos) (hdef:defaultsOf params X.env=([],[]))
  (h:∀ a H' s',Inv X pins σ H' s'→s.heap.objs.size≤a→LamNew H H' s.heap.objs.size P q (.Lambda params body scope pos) clos a→Q (.ref a) s') :
  wpAny (model X.prog X.w) X.A (eval (.Lambda params body scope pos) X.env) Q X.xe s:=by
 obtain ⟨ps,hP,ht,hcs⟩:=hT
 have hPh:s.heap.get? P=some (PySem.W.tabObj ps):=I.hok P _ hP
 have hns:s.heap.Ns mainGlobals X.mg:=I.mod.glob.keeps I.bk
 obtain ⟨bm,ob,b1,b2,b3,b4,b5,b6⟩:=I.mod.bmod
 have b3':=I.bk _ _ b3
 have hgP:mainGlobals≠P:=fun z=>by
  obtain ⟨o,es,ep,e,hd,_⟩:=hns
  rw [z,hPh] at e; cases e; cases hd
 have hbP:bm≠P:=fun z=>by rw [z,hPh] at b3'; cases b3'; cases b4
 have hbG:bm≠mainGlobals:=fun z=>by
  obtain ⟨o,es,ep,e,hd,_⟩:=hns
  rw [z,e] at b3'; cases b3'; rw [hd] at b6; cases b6
 have hB:s.heap.BuiltinsAt X.mg P:=⟨bm,ob,b1,b2,hbG,hbP,b3',b4,b5,b6⟩
 have C:PySem.W.CodeHd s.heap c P:=PySem.W.codeHd_of_K I.kIn hC
 refine PySem.W.kla_eval hdef ?_
 rw [hq]
 have hPl:P < s.heap.objs.size:=Heap.lt_size hPh
 cases hf:codeAmong pos ps.toList with
 | some cv =>
  obtain ⟨c',rfl,hc'⟩:=hcs pos cv hf
  refine PySem.W.kla_makeFunctionHit hcl I.ok.glob hns hcode C hPh ht hf hB fun ctv h' tk hk hsz=>?_
  generalize ho:({ cls:=.type "function",data:=.func (PySem.W.kla_fn "<lambda>" q params body scope clos ((X.mg "__name__").getD .none) (.ref c') ctv) }:Obj)=o
  have hof:o.isFreed=false:=by rw [← ho]; rfl
  have hn:H h'.objs.size=none:=I.hok.fresh hsz
  have nb:∀ b u,H b=some u→b≠h'.objs.size:=fun b u e=>qab e hn
  refine h h'.objs.size (upd H h'.objs.size (.ext (lamP h'.objs.size o))) _ (I.laid (t':=tk) (fun b u e=>Heap.get?_push_of_some _ (hk b u e)) hsz ?_) hsz ⟨⟨o,c',qaM,⟨_,ctv,ho.symm⟩,by rw [qah (nb _ _ hc')]; exact hc'⟩,fun b u e _=>by rw [qah (nb b u e)]; exact e,fun b hb e=>by rw [qah (Nat.ne_of_lt (Nat.lt_of_lt_of_le hb hsz))]; exact e,fun b ps' _ e=>by rw [qah (nb b _ e)]; exact e,⟨ps,by rw [qah (nb _ _ hP)]; exact hP,ht,fun p v e=>let ⟨d,e1,e2⟩:=hcs p v e; ⟨d,e1,by rw [qah (nb _ _ e2)]; exact e2⟩⟩⟩
  exact ⟨Heap.get?_push_size _ hof,⟨_,Heap.get?_push_size _ hof⟩,fun h1 h2 e k=>k _ e⟩
 | none =>
  refine PySem.W.kla_makeFunction hcl I.ok.glob hns hcode C hPh ht hf hgP hB fun c' ctv h' tk hx hge hlt hrec htb=>?_
  generalize ho:PySem.W.kla_obj "<lambda>" q params body scope clos ((X.mg "__name__").getD .none) c' ctv=o
  have hsz:s.heap.objs.size≤h'.objs.size:=Nat.le_trans hge (Nat.le_of_lt hlt)
  have hof:o.isFreed=false:=by rw [← ho]; rfl
  have hnc:H c'=none:=I.hok.fresh hge
  have hna:H h'.objs.size=none:=I.hok.fresh hsz
  have hca:c'≠h'.objs.size:=Nat.ne_of_lt hlt
  have hPc:P≠c':=Nat.ne_of_lt (Nat.lt_of_lt_of_le hPl hge)
  have hPa:P≠h'.objs.size:=Nat.ne_of_lt (Nat.lt_of_lt_of_le hPl hsz)
  generalize hps:ps ++ #[rawInt pos.line,rawInt pos.col,.ref c']=ps' at htb
  let H':Hp:=upd (upd (upd H P (.tbl ps')) c' (.ext (codeP c' q))) h'.objs.size (.ext (lamP h'.objs.size o))
  have at0:∀ b,b≠P→b≠c'→b≠h'.objs.size→H' b=H b:=fun b n1 n2 n3=>by
   show upd (upd (upd H P (.tbl ps')) c' _) h'.objs.size _ b=_
   rw [qah n3,qah n2,qah n1]
  have atP:H' P=some (.tbl ps'):=by
   show upd (upd (upd H P (.tbl ps')) c' _) h'.objs.size _ P=_
   rw [qah hPa,qah hPc,qaM]
  have atc:H' c'=some (.ext (codeP c' q)):=by
   show upd (upd (upd H P (.tbl ps')) c' _) h'.objs.size _ c'=_
   rw [qah hca,qaM]
  have ata:H' h'.objs.size=some (.ext (lamP h'.objs.size o)):=qaM
  have old:∀ b u,H b=some u→isTbl u=false→H' b=some u:=fun b u e t=>by
   rw [at0 b (fun z=>by rw [z,hP] at e; cases e; cases t) (qab e hnc) (qab e hna)]; exact e
  have kp:∀ b ob,b≠P→s.heap.get? b=some ob→(h'.push o).get? b=some ob:=fun b ob n e=>Heap.get?_push_of_some _ (hx b ob n e)
  have hokH:HOk X.prog X.w H' (h'.push o):=fun b u e=>by
   by_cases h1:b=h'.objs.size
   ·subst h1
    rw [ata] at e; cases e
    exact ⟨Heap.get?_push_size _ hof,⟨_,Heap.get?_push_size _ hof⟩,fun h1 h2 e k=>k _ e⟩
   ·by_cases h2:b=c'
    ·subst h2
     rw [atc] at e; cases e
     obtain ⟨d,oc,vs,t,e0,e1,e2⟩:=id hrec
     cases e0
     refine ⟨qf9 hrec fun o e=>Heap.get?_push_of_some _ e,⟨oc,Heap.get?_push_of_some _ e1⟩,fun h1 h2 x k=>qf9 x k⟩
    ·by_cases h3:b=P
     ·subst h3
      rw [atP] at e; cases e
      exact Heap.get?_push_of_some _ htb
     ·rw [at0 b h3 h2 h1] at e
      refine (I.hok b u e).stay (fun d w hd z=>kp d w ?_ z) (fun d z=>?_) fun d xs z=>?_
      ·rcases hd with hd | hd
       ·rw [hd]; exact h3
       ·intro z2; rw [z2,hP] at hd; cases hd
      ·exact old d _ z rfl
      ·exact old d _ z rfl
  have I':Inv X pins σ H' { s with heap:=h'.push o,toks:=tk }:=by
   refine I.step (g':=s.gens) (d':=s.drawn) (ch:=[]) (fun _ z=>nomatch z) (fun b ob _ _ _ e n=>kp b ob (fun z=>by rw [z,hP] at n; cases n) e) (fun b ob _ _ _ e n=>⟨ob.slots,kp b ob (fun z=>by rw [z,hP] at n; cases n) e⟩) (fun b ob _ e n=>?_) (fun b ob _ e=>?_) (fun b xs e=>old b _ e rfl) (fun b o' u e=>old b _ e rfl) (fun b ps2 e=>?_) (fun m hm=>?_) hokH I.bare
   ·have hb:=Heap.lt_size e
    rw [at0 b (fun z=>by rw [z,hP] at n; cases n) (Nat.ne_of_lt (Nat.lt_of_lt_of_le hb hge)) (Nat.ne_of_lt (Nat.lt_of_lt_of_le hb hsz))]
    exact n
   ·by_cases hb:b=P
    ·subst hb; exact ⟨_,Heap.get?_push_of_some _ htb⟩
    ·exact ⟨ob,kp b ob hb e⟩
   ·by_cases hb:b=P
    ·subst hb
     rw [hP] at e; cases e
     exact ⟨#[rawInt pos.line,rawInt pos.col,.ref c'],by rw [atP,hps]⟩
    ·refine ⟨#[],?_⟩
     rw [at0 b hb (qab e hnc) (qab e hna),e]
     simp
   ·have hLP:X.env.locals≠P:=fun z=>by have:=I.free; rw [z,hP] at this; cases this
    obtain ⟨ol,es,ep,e,r⟩:=hm
    exact ⟨ol,es,ep,kp _ _ hLP e,r⟩
  refine h h'.objs.size H' _ I' hsz ⟨⟨o,c',ata,⟨_,ctv,ho.symm⟩,atc⟩,old,fun b hb e=>?_,fun b ps2 nb e=>?_,⟨ps',atP,?_,fun p v e=>?_⟩⟩
  ·rw [at0 b (fun z=>by rw [z,hP] at e; cases e) (Nat.ne_of_lt (Nat.lt_of_lt_of_le hb hge)) (Nat.ne_of_lt (Nat.lt_of_lt_of_le hb hsz))]; exact e
  ·rw [at0 b nb (qab e hnc) (qab e hna)]; exact e
  ·rw [← hps,Array.toList_append]
   exact qeU _ ht
  ·rw [← hps,Array.toList_append] at e
   rcases qgn ps.toList ht e with e | e
   ·obtain ⟨d,e1,e2⟩:=hcs p v e
    exact ⟨d,e1,old d _ e2 rfl⟩
   ·exact ⟨c',e,atc⟩
end
end L2
namespace L2
open PySem PySem.Spec PyProof.Rows
def frzH (H:Hp) (F:Addr→Option Obj):Hp:=fun b=>match F b with
 | some o=>some (.frz o (.own 0))
 | none=>H b
def unfr (H:Hp) (F:Addr→Option Obj):Hp:=fun b=>match F b with
 | some _=>none
 | none=>H b
section
variable {H H':Hp} {F:Addr→Option Obj} {b:Addr} {o:Obj} {u:HO}
theorem qf8 (h:F b=some o):frzH H F b=some (.frz o (.own 0)):=by unfold frzH; rw [h]
theorem qdw (h:F b=none):frzH H F b=H b:=by unfold frzH; rw [h]
theorem qeG (h:F b=some o):unfr H F b=none:=by unfold unfr; rw [h]
theorem qcx (h:F b=none):unfr H F b=H b:=by unfold unfr; rw [h]
theorem F_none (hF:∀ b o,F b=some o→H b=none) (h:H b=some u):F b=none:=by
 cases e:F b with
 | none=>rfl
 | some o=>rw [hF b o e] at h; cases h
theorem qd1 (hF:∀ b o,F b=some o→H b=none) (h:H b=some u):frzH H F b=some u:=by rw [qdw (F_none hF h)]; exact h
end
section
variable {X:Cx} {pins:List (Addr×Obj)} {σ:St} {H H':Hp} {s s':Shared} {F:Addr→Option Obj}
structure FzOk (X:Cx) (H:Hp) (s:Shared) (F:Addr→Option Obj):Prop where
 heap:∀ b o,F b=some o→s.heap.get? b=some o
 free:∀ b o,F b=some o→H b=none
 high:∀ b o,F b=some o→X.s₀.heap.objs.size≤b
 loc:∀ b o,F b=some o→b≠X.env.locals
theorem frz_hok {P:Program} {w:World} {h:Heap} (hok:HOk P w H h) (hF:∀ b o,F b=some o→H b=none) (hh:∀ b o,F b=some o→h.get? b=some o):HOk P w (frzH H F) h:=fun b u e=>by
 cases hb:F b with
 | some o =>
  rw [qf8 hb] at e; cases e
  exact ⟨hh b o hb,o,hh b o hb⟩
 | none =>
  rw [qdw hb] at e
  exact (hok b u e).stay (fun _ _ _ z=>z) (fun c z=>qd1 hF z) fun c xs z=>qd1 hF z
theorem frz_env0 (I:Inv X pins σ H s) (Z:FzOk X H s F):Env0 X.prog X.w X.K X.mg X.base X.A X.stack s (frzH H F):=by
 have e:=I.env0
 have sz:X.base.objs.size≤X.s₀.heap.objs.size:=I.ok.bsz
 refine ⟨e.frames,e.mod,fun b o h=>?_,e.bsz,e.funs,fun b hb=>?_,frz_hok I.hok Z.free Z.heap,e.bare⟩
 ·obtain ⟨h1,h2⟩:=e.bs b o h
  refine ⟨h1,?_⟩
  cases hb:F b with
  | none=>rw [qdw hb]; exact h2
  | some ob=>exact absurd (Nat.lt_of_lt_of_le (Heap.lt_size h) (Nat.le_trans sz (Z.high b ob hb))) (Nat.lt_irrefl _)
 ·cases hF:F b with
  | none=>rw [qdw hF]; exact e.frf b hb
  | some ob =>
   exfalso
   rcases List.mem_cons.mp (I.stkSub b hb) with z | z
   ·exact Z.loc b ob hF z
   ·obtain ⟨_,o2,ho,_⟩:=I.ok.funs.mem z
    exact absurd (Nat.lt_of_lt_of_le (Heap.lt_size ho) (Z.high b ob hF)) (Nat.lt_irrefl _)
theorem unfr_un {fs:List Addr} {h h':Heap} {P:Program} {w:World} (hF:∀ b o,F b=some o→H b=none) (hh:∀ b o,F b=some o→h.get? b=some o) (hfs:∀ b o,F b=some o→b∉fs) (un:Un fs [] (frzH H F) H' h h') (hok:HOk P w H' h'):Un fs [] H (unfr H' F) h h'∧HOk P w (unfr H' F) h':=by
 have fz:∀ b o,F b=some o→H' b=some (.frz o (.own 0)):=fun b o e=>un.frzs b o _ (qf8 e)
 have nn:∀ {b:Addr} {u:HO},H b=some u→F b=none:=fun e=>F_none hF e
 refine ⟨⟨fun b o e n hb hx=>?_,fun b o e n hb hx=>?_,fun b o e n hx=>?_,un.there,fun b xs e=>?_,fun b o u e=>?_,fun b ps e=>?_⟩,fun b u e=>?_⟩
 ·cases hb':F b with
  | none=>exact un.keep b o e (by rw [qdw hb']; exact n) hb hx
  | some ob =>
   have e1:=hh b ob hb'
   rw [e] at e1; cases e1
   exact (hok b _ (fz b o hb')).1
 ·cases hb':F b with
  | none=>exact un.slot b o e (by rw [qdw hb']; exact n) hb hx
  | some ob=>exact absurd hb (hfs b ob hb')
 ·cases hb':F b with
  | none=>rw [qcx hb']; exact un.free b o e (by rw [qdw hb']; exact n) hx
  | some ob=>exact qeG hb'
 ·rw [qcx (nn e)]; exact un.tups b xs (qd1 hF e)
 ·rw [qcx (nn e)]; exact un.frzs b o u (qd1 hF e)
 ·obtain ⟨more,z⟩:=un.tbls b ps (qd1 hF e)
  exact ⟨more,by rw [qcx (nn e)]; exact z⟩
 ·cases hb:F b with
  | some ob=>rw [qeG hb] at e; cases e
  | none =>
   rw [qcx hb] at e
   have st:∀ {c:Addr} {v:HO},H' c=some v→(∀ o,v≠.frz o (.own 0))→unfr H' F c=some v:=fun {c v} z n=>by
    cases hc:F c with
    | none=>rw [qcx hc]; exact z
    | some oc=>rw [fz c oc hc] at z; exact absurd (Option.some.inj z).symm (n oc)
   exact (hok b u e).stay (fun _ _ _ z=>z) (fun c z=>st z fun _ q=>nomatch q) fun c xs z=>st z fun _ q=>nomatch q
theorem run_frz {k:Nat} {f:Addr} {fd:FuncData} {ps:List Str} {sp:Sp} {us:List Value} {vs:List V} {Q:VK} (G:FnOk X.prog X.w X.K X.mg X.base CX0 k f fd ps sp) (hr:Room k X.A) (hb:Binds X.K fd ps []) (I:Inv X pins σ H s) (Z:FzOk X H s F) (r:Vals vs us)
  (h:sp vs (frzH H F) (fun v H'=>Q v (unfr H' F)) E0):wpAny (model X.prog X.w) X.A (call (.ref f) us) (EP X pins σ Q) X.xe s:=by
 have hl:us.length=ps.length:=by rw [← r.length]; exact G.len _ _ _ _ h
 have hb':=hb s us I.kIn (by rw [List.append_nil]; exact hl)
 rw [List.append_nil] at hb'
 refine wpAny_call (codeAny_mono (G.run X.A X.stack s (frzH H F) ⟨us,[]⟩ us vs _ E0 hr (frz_env0 I Z) hb' r h) fun r s' hq=>?_)
 cases r with
 | error e=>exact False.elim hq
 | ok fl =>
  cases fl with
  | ret u =>
   obtain ⟨v,H',os,bare,un,hok,rv,q⟩:=hq
   obtain ⟨un2,hok2⟩:=unfr_un Z.free Z.heap (fun b o e hb=>by
    have:=(frz_env0 I Z).frf b hb
    rw [qf8 e] at this; cases this) un hok
   exact ⟨v,unfr H' F,I.call' os un2 hok2 bare fun b z=>absurd z (by simp),rv,q⟩
  | next=>exact False.elim hq
  | brk=>exact False.elim hq
  | cont=>exact False.elim hq
end
end L2
namespace L2
open PySem PySem.Spec PyProof.Rows
section
variable {K:PySem.W.Frag} {ρ ρ':List Addr} {H H':Hp} {c c':LC} {F:Addr→Option Obj}
theorem wd_of (W:Wd K ρ H c) (k:∀ b u,H b=some u→isTbl u=false→H' b=some u) (t:TabOk K H'):Ext ρ H ρ H'∧Wd K ρ H' c:=by
 have X:Ext ρ H ρ H':=⟨fun _ _ e=>e,fun a o e n z=>⟨k a o e z,n⟩⟩
 refine ⟨X,W.nd,W.len,fun j a cl e1 e2=>?_,t⟩
 have q:=W.cel j a cl e1 e2
 cases cl with
 | lst l =>
  obtain ⟨nr,xs,e,r⟩:=q
  exact ⟨nr,xs,k _ _ e rfl,Rels.mono W X l xs r⟩
theorem wd_frz (W:Wd K ρ H c) (hF:∀ b o,F b=some o→H b=none):Ext ρ H ρ (frzH H F)∧Wd K ρ (frzH H F) c :=
 wd_of W (fun b u e _=>qd1 hF e) (W.tab.mono (fun _ _ e=>qd1 hF e) fun _ _ e=>qd1 hF e)
theorem qbL {b:Addr} {u:HO} (hF:∀ b o,F b=some o→H b=some (.frz o (.own 0))) (e:H b=some u) (n:∀ o,u≠.frz o (.own 0)):unfr H F b=some u:=by
 cases hc:F b with
 | none=>rw [qcx hc]; exact e
 | some oc=>rw [hF b oc hc] at e; exact absurd (Option.some.inj e).symm (n oc)
mutual
theorem Rel.unfr (hF:∀ b o,F b=some o→H b=some (.frz o (.own 0))):∀ (d:D) (v:V),qcG d=true→Rel K ρ H d v→Rel K ρ (unfr H F) d v
 | .non,v,_,h=>h
 | .bl b,v,_,h=>h
 | .int i,v,_,h=>h
 | .str y,v,_,h=>h
 | .ty n,v,_,h=>h
 | .tup l,v,n,h=>by
  obtain ⟨a,xs,e,s,r⟩:=h
  exact ⟨a,xs,e,qbL hF s (fun _ z=>nomatch z),Rels.unfr hF l xs (by unfold qcG at n; exact n) r⟩
 | .lst l,v,n,h=>by
  obtain ⟨a,xs,e,s,r⟩:=h
  exact ⟨a,xs,e,⟨qbL hF s.1 (fun _ z=>nomatch z),s.2⟩,Rels.unfr hF l xs (by unfold qcG at n; exact n) r⟩
 | .ref k,v,_,h=>h
 | .scr l,v,_,h=>by
  obtain ⟨a,e,s⟩:=h
  refine ⟨a,e,?_⟩
  rcases s with ⟨s,z⟩ | s
  ·rcases s with s | ⟨o,s⟩
   ·exact .inl ⟨.inl (qbL hF s (fun _ z=>nomatch z)),z⟩
   ·exact .inl ⟨.inr ⟨o,qbL hF s (fun _ z=>nomatch z)⟩,z⟩
  ·exact .inr s
 | .fn a n,v,_,h=>h
 | .dic,v,_,h=>by
  obtain ⟨a,e,q⟩:=h
  exact ⟨a,e,qbL hF q (fun _ z=>nomatch z)⟩
 | .dct ks,v,_,h=>by
  obtain ⟨a,kvs,e,q,z⟩:=h
  exact ⟨a,kvs,e,qbL hF q (fun _ z=>nomatch z),z⟩
 | .exc y,v,_,h=>by
  obtain ⟨a,C,e,n,q⟩:=h
  exact ⟨a,C,e,n,qbL hF q (fun _ z=>nomatch z)⟩
 | .lam _ _ _ _,v,n,h=>by unfold qcG at n; cases n
theorem Rels.unfr (hF:∀ b o,F b=some o→H b=some (.frz o (.own 0))):∀ (l:List D) (xs:List V),qbt l=true→Rels K ρ H l xs→Rels K ρ (unfr H F) l xs
 | [],xs,_,h=>h
 | d :: l,xs,n,h=>by
  obtain ⟨y,r,e,h1,h2⟩:=h
  unfold qbt at n
  rw [Bool.and_eq_true] at n
  exact ⟨y,r,e,Rel.unfr hF d y n.1 h1,Rels.unfr hF l r n.2 h2⟩
end
theorem wd_unfr (W:Wd K ρ H c) (hF:∀ b o,F b=some o→H b=some (.frz o (.own 0))):Wd K ρ (unfr H F) c:=by
 refine ⟨W.nd,W.len,fun j a cl e1 e2=>?_,W.tab.mono (fun _ _ e=>qbL hF e (fun _ z=>nomatch z)) fun _ _ e=>qbL hF e (fun _ z=>nomatch z)⟩
 have q:=W.cel j a cl e1 e2
 cases cl with
 | lst l =>
  obtain ⟨nr,xs,e,r⟩:=q
  exact ⟨nr,xs,qbL hF e (fun _ z=>nomatch z),Rels.unfr hF l xs (qev l nr) r⟩
theorem ext_unfr (x:Ext ρ (frzH H F) ρ' H') (hF:∀ b o,F b=some o→H b=none):Ext ρ H ρ' (unfr H' F) :=
 ⟨x.pre,fun a o e n t=>by
  obtain ⟨h1,h2⟩:=x.keep a o (qd1 hF e) n t
  exact ⟨by rw [qcx (F_none hF e)]; exact h1,h2⟩⟩
theorem ext_frz (x:Ext ρ (unfr H F) ρ' H') (W':Wd K ρ' H' c') (hF:∀ b o,F b=some o→H b=some (.frz o (.own 0))) (hn:∀ b o,F b=some o→H' b=none):Ext ρ H ρ' (frzH H' F) :=
 ⟨x.pre,fun a o e n t=>by
  cases hc:F a with
  | some oc =>
   have:=hF a oc hc
   rw [e] at this; cases this
   exact ⟨qf8 hc,W'.nil (hn a oc hc)⟩
  | none =>
   obtain ⟨h1,h2⟩:=x.keep a o (by rw [qcx hc]; exact e) n t
   exact ⟨by rw [qdw hc]; exact h1,h2⟩⟩
end
end L2
namespace L2
open PySem PySem.Spec PyProof.Rows
structure LamSc (X:Cx) (ns:List Str) (js:List Nat) (scope:Scope):Prop where
 names:∀ x∈scope.names,x.2=.free→X.env.kindOf x.1=some .cell∨X.env.kindOf x.1=some .free
 got:∀ (i j:Nat) (x:Str),js[i]? = some j→ns[i]? = some x→(x,NameKind.free)∈scope.names∧X.N[j]? = some x∧(X.env.kindOf x=some .cell∨X.env.kindOf x=some .free)
 all:∀ x,(x,NameKind.free)∈scope.names→x∈ns
def lamB (XN:List Str) (xn:List (Str×NameKind)) (ns:List Str) (js:List Nat) (names:List (Str×NameKind)):Bool :=
 names.all (fun x=>decide (x.2≠NameKind.free) || ((decide (xn.lookup x.1=some NameKind.cell) || decide (xn.lookup x.1=some NameKind.free)) && decide (x.1∈ns))) &&
 (js.zip ns).all (fun q=>decide ((q.2,NameKind.free)∈names) && decide (XN[q.1]? = some q.2) && (decide (xn.lookup q.2=some NameKind.cell) || decide (xn.lookup q.2=some NameKind.free)))
theorem LamSc.of {X:Cx} {ns:List Str} {js:List Nat} {scope:Scope} (h:lamB X.N X.env.scope.names ns js scope.names=true):LamSc X ns js scope:=by
 unfold lamB at h
 simp only [Bool.and_eq_true,List.all_eq_true,decide_eq_true_eq,Bool.or_eq_true] at h
 obtain ⟨h1,h2⟩:=h
 refine ⟨fun x hx e=>?_,fun i j x hj hx=>?_,fun x hx=>?_⟩
 ·rcases h1 x hx with z | z
  ·exact absurd e z
  ·exact z.1
 ·have hm:(j,x)∈js.zip ns:=by
   have:(js.zip ns)[i]? = some (j,x):=by rw [List.getElem?_zip_eq_some]; exact ⟨hj,hx⟩
   exact List.mem_of_getElem? this
  obtain ⟨⟨a,b⟩,d⟩:=h2 _ hm
  exact ⟨a,b,d⟩
 ·rcases h1 _ hx with z | z
  ·exact absurd rfl z
  ·exact z.2
section
variable {X:Cx} {pins:List (Addr×Obj)} {σ:St} {H:Hp} {s:Shared} {ns:List Str} {js:List Nat} {scope:Scope}
abbrev clX (X:Cx) (scope:Scope):List (Str×Addr):=qbc X.env scope.names []
theorem LamSc.clos (S:LamSc X ns js scope) (I:Inv X pins σ H s):closureFor scope X.env=pure (clX X scope):=by
 have e:=qdV (env:=X.env) scope.names [] fun x hx hk=>I.ok.has x.1 (S.names x hx hk)
 show ((forIn scope.names ([]:List (Str×Addr)) fun (x:Str×NameKind) cs=>(if (x.2 == NameKind.free)=true then do let a ← cellOf X.env x.1; pure (ForInStep.yield ((x.1,a) :: cs)) else pure (ForInStep.yield cs):Sem (ForInStep (List (Str×Addr))))) >>= fun cs=>pure cs)=_
 rw [e,pure_bind]
theorem LamSc.cap (S:LamSc X ns js scope) (I:Inv X pins σ H s) {x:Str} {c:Addr} (h:(clX X scope).lookup x=some c):(x,NameKind.free)∈scope.names∧X.env.cells.lookup x=some c:=by
 rcases qdJ _ _ h with ⟨a,b⟩ | q
 ·refine ⟨a,?_⟩
  obtain ⟨c',hc⟩:=I.ok.has x (S.names _ a rfl)
  rw [hc] at b ⊢
  rw [b]; rfl
 ·cases q
theorem LamSc.has (S:LamSc X ns js scope) (I:Inv X pins σ H s) {x:Str} (h:(x,NameKind.free)∈scope.names):∃ c,(clX X scope).lookup x=some c:=Option.isSome_iff_exists.mp (qee _ _ (.inr h))
theorem LamSc.cl (S:LamSc X ns js scope) (I:Inv X pins σ H s):ClOk (clX X scope) ns:=⟨fun x y c h1 h2=>I.ok.inj x y c (S.cap I h1).2 (S.cap I h2).2,fun x c h=>S.all x (S.cap I h).1⟩
open Classical in
def fzX (cl:List (Str×Addr)) (h:Heap):Addr→Option Obj:=fun b=>if ∃ x,cl.lookup x=some b then h.get? b else none
theorem qgQ {cl:List (Str×Addr)} {h:Heap} {b:Addr} {o:Obj} (e:fzX cl h b=some o):(∃ x,cl.lookup x=some b)∧h.get? b=some o:=by
 unfold fzX at e
 split at e
 ·rename_i z; exact ⟨z,e⟩
 ·cases e
theorem fzX_at {cl:List (Str×Addr)} {h:Heap} {b:Addr} {o:Obj} {x:Str} (e:cl.lookup x=some b) (g:h.get? b=some o):fzX cl h b=some o:=by
 unfold fzX
 rw [if_pos ⟨x,e⟩,g]
theorem LamSc.fz (S:LamSc X ns js scope) (I:Inv X pins σ H s) (hfn:∀ x,X.fn x=true):FzOk X H s (fzX (clX X scope) s.heap):=by
 refine ⟨fun b o e=>(qgQ e).2,fun b o e=>?_,fun b o e=>?_,fun b o e=>?_⟩
 all_goals
  obtain ⟨⟨x,hx⟩,_⟩:=qgQ e
  have hc:=(S.cap I hx).2
 ·exact I.freeC x b hc
 ·exact I.ok.cab x b (hfn x) hc
 ·exact I.cne x b hc
theorem LamSc.cells (S:LamSc X ns js scope) (I:Inv X pins σ H s) (i j:Nat) (x:Str) (v:V) (hj:js[i]? = some j) (hx:ns[i]? = some x) (hv:σ[j]? = some (some v)):∃ c oc u,(clX X scope).lookup x=some c∧fzX (clX X scope) s.heap c=some oc∧oc.data=.cell (some u)∧RelV v u:=by
 obtain ⟨h1,h2,h3⟩:=S.got i j x hj hx
 obtain ⟨c,hc⟩:=S.has I h1
 have hce:=(S.cap I hc).2
 obtain ⟨m,hm,hl⟩:=I.loc
 obtain ⟨u,ru,lk⟩:=hl j x v h2 hv (h3.elim (fun z=>.inr (.inl z)) fun z=>.inr (.inr z))
 rcases lk with ⟨k,_⟩ | ⟨_,c',hc',oc,ho,hd⟩
 ·rcases h3 with z | z <;> (rw [z] at k; cases k)
 ·rw [hce] at hc'; cases hc'
  exact ⟨c,oc,u,hc,fzX_at hc ho,hd,ru⟩
structure LamNw (H H':Hp) (P:Addr) (q:Str) (e:Expr) (cl:List (Str×Addr)) (a:Addr):Prop where
 at':∃ o c,H' a=some (.ext (lamP a o))∧LamObj e o q c cl∧H' c=some (.ext (codeP c q))
 keep:∀ b u,H b=some u→isTbl u=false→H' b=some u
 tabs:∀ b ps,b≠P→H b=some (.tbl ps)→H' b=some (.tbl ps)
 tab:TabAt H' P q
def tLam (P:Addr) (q:Str) (e:Expr) (cl:List (Str×Addr)):TE:=fun _ H Q=>TabAt H P q∧∀ a H',LamNw H H' P q e cl a→Q (.ref a) H'
theorem pe_lam {c P:Addr} {q:Str} {params:Arguments} {body:Expr} {pos:Pos} (S:LamSc X ns js scope) (hcode:X.env.code=.ref c) (hq:X.env.qual ++ "<lambda>"=q) (hC:PySem.W.codeHdIn X.K c P=true) (hdef:defaultsOf params X.env=([],[])) :
  PE X (.Lambda params body scope pos) (tLam P q (.Lambda params body scope pos) (clX X scope)):=fun pins s σ H Q I h =>
 lam_made I hcode hq hC h.1 (S.clos I) hdef fun a H' s' I' hge N=>⟨.ref a,H',I',rfl,h.2 a H' ⟨N.at',N.keep,N.tabs,N.tab⟩⟩
def tCallF (cl:List (Str×Addr)) (ns:List Str) (js:List Nat) (sp:Sp) (t:TA):TE:=fun σ H Q=>t σ H fun vs H1=>ClOk cl ns→∀ F:Addr→Option Obj,(∀ b o,F b=some o→H1 b=none) →
 (∀ (i j:Nat) (x:Str) (v:V),js[i]? = some j→ns[i]? = some x→σ[j]? = some (some v)→∃ c oc u,cl.lookup x=some c∧F c=some oc∧oc.data=.cell (some u)∧RelV v u)→sp vs (frzH H1 F) (fun v H'=>Q v (unfr H' F)) E0
theorem pe_callF {x:Str} {st:Stmt} {ps:List Str} {f:Addr} {fd:FuncData} {k:Nat} {sp:Sp} {e:Expr} {es:List Expr} {t:TA} {p pos:Pos} (D:Def X.K X.mg x st ps f fd) (G:FnOk X.prog X.w X.K X.mg X.base CX0 k f fd ps sp) (hr:Room k X.A) (S:LamSc X ns js scope) (hfn:∀ x,X.fn x=true) (ha:PA X (e :: es) t) (hg:Gl X x:=by rfl)
  (hdb:(x == ("__debug__":Str))=false:=by decide) (he:starEach (e :: es) X.env=(false,eval e X.env) :: starEach es X.env:=by rfl) (hpl:(backTo pos (starEach es X.env)).any (·.1)=false:=by rfl) :
  PE X (.Call (.Name x p) (e :: es) [] pos) (tCallF (clX X scope) ns js sp t):=by
 intro pins s σ H Q I h
 refine wpAny_Call_Name_kw (ld_glob I hg D.at' ?_ hdb)
 refine PySem.W.callWith_K (h₀:=X.base) I.ok.mod.kin D.fn.kp (thn (ha pos pins s σ H _ I h) fun us s1 ⟨vs,H1,I1,r,q⟩=>⟨I1.kIn,?_⟩) he hpl
 exact run_frz G hr D.bd I1 (S.fz I1 hfn) r (q (S.cl I1) _ (fun b o e=>(S.fz I1 hfn).free b o e) fun i j x v h1 h2 h3=>S.cells I1 i j x v h1 h2 h3)
end
def qge (e:Ev):List Nat→Option (List D)
 | []=>some []
 | j :: js=>match e[j]?,qge e js with
  | some (some d),some l=>some (d :: l)
  | _,_=>none
def qdr (k:Nat) (m:List D→LC→R D) (d1:yD) (E:Expr) (ns:List Str) (js:List Nat):yD:=fun e c=>(d1 e c).bind fun x c=>match qge e js with
 | some l=>(m [x,.lam k E ns l] c).bind fun v c=>if qaS v=true then .ok v c else .bad
 | none=>.bad
section
variable {X:Cx} {K:PySem.W.Frag} {ρ:List Addr} {H Hf:Hp} {σ:St}
theorem cap_build {e:Ev} {cl:List (Str×Addr)} {F:Addr→Option Obj} (Vv:REnv K ρ H e σ) (hV:∀ d v,Rel K ρ H d v→Rel K ρ Hf d v) (hf:∀ c o,F c=some o→Hf c=some (.frz o (.own 0))):∀ (js:List Nat) (ns:List Str) (l:List D),js.length=ns.length→qge e js=some l →
  (∀ (i j:Nat) (x:Str) (v:V),js[i]? = some j→ns[i]? = some x→σ[j]? = some (some v)→∃ c oc u,cl.lookup x=some c∧F c=some oc∧oc.data=.cell (some u)∧RelV v u)→∃ xs,CellsAt Hf cl ns xs∧Rels K ρ Hf l xs
 | [],[],l,_,h,_=>by
  unfold qge at h; cases h
  exact ⟨[],rfl,rfl⟩
 | j :: js,x :: ns,l,hl,h,hc=>by
  unfold qge at h
  split at h
  ·rename_i d r hd hr
   cases h
   obtain ⟨v,hv,rv⟩:=Vv.get j d hd
   obtain ⟨c,oc,u,h1,h2,h3,h4⟩:=hc 0 j x v rfl rfl hv
   obtain ⟨xs,h5,h6⟩:=cap_build Vv hV hf js ns r (Nat.succ.inj hl) hr fun i j x v a b d=>hc (i + 1) j x v a b d
   exact ⟨v :: xs,⟨v,xs,c,oc,u,rfl,h1,hf c oc h2,h3,h4,h5⟩,v,xs,rfl,hV d v rv,h6⟩
  ·cases h
 | [],_ :: _,_,hl,_,_=>by cases hl
 | _ :: _,[],_,hl,_,_=>by cases hl
def lamTabs (K:PySem.W.Frag):List (Str×Addr):=lamNames.filterMap fun x=>(PySem.W.tabIn K x).map fun q=>(x,q.2)
def qdz (K:PySem.W.Frag):Bool:=(lamTabs K).all fun a=>(lamTabs K).all fun b=>!(a.2 == b.2) || (a.1 == b.1)
theorem tabs_apart (h:qdz K=true) {x y:Str} {c d P:Addr} (hx:x∈lamNames) (hy:y∈lamNames) (tx:PySem.W.tabIn K x=some (c,P)) (ty:PySem.W.tabIn K y=some (d,P)):x=y:=by
 unfold qdz at h
 have m:∀ {z:Str} {c:Addr},z∈lamNames→PySem.W.tabIn K z=some (c,P)→(z,P)∈lamTabs K:=fun {z c} hz tz=>List.mem_filterMap.mpr ⟨z,hz,by rw [tz]; rfl⟩
 have:=List.all_eq_true.mp (List.all_eq_true.mp h _ (m hx tx)) _ (m hy ty)
 simpa using this
theorem Wd.nil' {c:LC} {a:Addr} {o:Obj} {u:HO} (W:Wd K ρ H c) (h:H a=some (.frz o u)):a∉ρ:=fun m=>by
 obtain ⟨ys,e⟩:=W.at' m
 rw [e] at h; cases h
theorem qg4 {kk:Nat} {x y:Str} {st:Stmt} {ps:List Str} {f c P:Addr} {fd:FuncData} {k:Nat} {m:List D→LC→R D} {e1 body:Expr} {d1:yD} {params:Arguments} {scope:Scope} {ns:List Str} {js:List Nat} {p pos lpos:Pos}
  (D:Def X.K X.mg x st ps f fd) (G:FnOk X.prog X.w X.K X.mg X.base CX0 k f fd ps (spD X.K 2 m)) (hr:Room k X.A) (he1:PEd X e1 d1) (S:LamSc X ns js scope) (hjn:js.length=ns.length) (hfn:∀ x,X.fn x=true) (hy:y∈lamNames) (ht:PySem.W.tabIn X.K y=some (c,P)) (hap:qdz X.K=true) (hcode:X.env.code=.ref c) (hq:X.env.qual ++ "<lambda>"=lamQ y) (hC:PySem.W.codeHdIn X.K c P=true)
  (hdef:defaultsOf params X.env=([],[]):=by rfl) (hg:Gl X x:=by rfl)
  (hdb:(x == ("__debug__":Str))=false:=by decide) (hs1:starEach [e1,.Lambda params body scope lpos] X.env=(false,eval e1 X.env) :: starEach [.Lambda params body scope lpos] X.env:=by exact qd6 rfl) (hs2:starEach [.Lambda params body scope lpos] X.env=(false,eval (.Lambda params body scope lpos) X.env) :: starEach [] X.env:=by exact qd6 rfl) (hpl:(backTo pos (starEach [.Lambda params body scope lpos] X.env)).any (·.1)=false:=by exact qc6 rfl) :
  PEd X (.Call (.Name x p) [e1,.Lambda params body scope lpos] [] pos) (qdr kk m d1 (.Lambda params body scope lpos) ns js) :=
 PE.imp (pe_callF D G hr S hfn (qec he1 (qec (pe_lam (c:=c) (P:=P) (q:=lamQ y) S hcode hq hC hdef) pa_nil hs2) hs1) hg hdb hs1 hpl) fun σ H Q h=>by
  obtain ⟨ρ,e,c0,W,V,pp⟩:=h
  refine ⟨ρ,e,c0,W,V,post.bind pp fun x1 c1 ρ1 H1 v _ W1 X1 r1 p1=>?_⟩
  have V1:=V.mono W X1
  refine ⟨W1.tab y hy c P ht,fun a H' N=>?_⟩
  have tab':TabOk X.K H':=fun z hz d P' tz=>by
   by_cases hP:P'=P
   ·subst hP
    rw [tabs_apart hap hz hy tz ht]
    exact N.tab
   ·exact (W1.tab z hz d P' tz).mono (fun ps e=>N.tabs P' ps hP e) fun c φ e=>N.keep c _ e rfl
  obtain ⟨X2,W2⟩:=wd_of W1 N.keep tab'
  intro hcl F hF hcells
  obtain ⟨X3,W3⟩:=wd_frz W2 hF
  have X23:=X2.trans X3
  split at p1
  ·rename_i l hl
   obtain ⟨xs,hxs,hrs⟩:=cap_build (Hf:=frzH H' F) V1 (fun d v r=>Rel.mono W1 X23 d v r) (fun c o e=>qf8 e) js ns l hjn hl hcells
   obtain ⟨o,cc,ha,hobj,hcc⟩:=N.at'
   refine ⟨ρ1,[x1,.lam kk _ ns l],c1,W3,⟨v,[.ref a],rfl,Rel.mono W1 X23 x1 v r1,.ref a,[],rfl,⟨a,o,lamQ y,cc,_,xs,rfl,qd1 hF ha,hobj,qd1 hF hcc,hcl,hxs,hrs⟩,rfl⟩,rfl,?_⟩
   cases hm:m [x1,.lam kk _ ns l] c1 with
   | bad=>rw [hm] at p1; exact p1.elim
   | ok d c2 =>
    rw [hm,R.bind_ok] at p1
    split at p1
    ·rename_i hn
     intro ρ' H4 b W4 X4 r4
     have fz:∀ b o,F b=some o→H4 b=some (.frz o (.own 0)):=fun b o e=>(X4.keep b _ (qf8 e) (W3.nil' (qf8 e)) rfl).1
     exact p1 ρ' (unfr H4 F) b (wd_unfr W4 fz) (X2.trans (ext_unfr X4 hF)) (Rel.unfr fz d b (qfo d hn) r4)
    ·exact p1.elim
  ·exact p1.elim
end
end L2
namespace L2
open PySem PySem.Spec PyProof.Rows
def CapAt (s:Shared) (H:Hp) (outer:List Env) (cl:List (Str×Addr)) (ns:List Str) (cs:List V):Prop :=
 cs.length=ns.length∧∀ (i:Nat) (x:Str),ns[i]? = some x→∃ v c u,cs[i]? = some v∧cl.lookup x=some c∧s.heap.IsCell c (some u)∧RelV v u∧H c=none∧c∉frs outer
def LamOk (P:Program) (w:World) (K:PySem.W.Frag) (mg:Str→Option Value) (base:Heap) (k:Nat) (E:Expr) (ns:List Str) (n:Nat) (sp:Sp):Prop :=
 ∀ (A:Around) (outer:List Env) (s:Shared) (H:Hp) (a:Addr) (o:Obj) (q:Str) (cc:Addr) (cl:List (Str×Addr)) (us:List Value) (vs cs:List V) (Q:VK),Room k A→Env0 P w K mg base A outer s H→s.heap.get? a=some o→LamObj E o q cc cl→s.heap.CodeRec (.ref cc) q→ClOk cl ns →
  CapAt s H outer cl ns cs→Vals vs us→vs.length=n→sp (vs ++ cs) H Q E0→codeAny (model P w) A (.call (.ref a) ⟨us,[]⟩) (CR CX0 outer P w H s Q E0) s
def lamCx (P:Program) (w:World) (K:PySem.W.Frag) (mg:Str→Option Value) (base:Heap) (N:List Str) (qual:Str) (scope:Scope) (f:Addr) (cd:Value) (cl:List (Str×Addr)) (A:Around) (outer:List Env) (s:Shared) (H:Hp):Cx where
 prog:=P
 w:=w
 K:=K
 mg:=mg
 base:=base
 A:=A.deeper (PySem.W.envX qual scope s.heap.objs.size f cd cl)
 N:=N
 s₀:=s
 H₀:=H
 env:=PySem.W.envX qual scope s.heap.objs.size f cd cl
 outer:=outer
 stack:=PySem.W.envX qual scope s.heap.objs.size f cd cl :: outer
 ex:=[]
 calm:=true
 fn:=fun _=>false
 pn:=[]
 xe:=fun _ _=>False
structure LamBody (ps ns:List Str) (scope:Scope):Prop where
 kind:scope.kind=.function
 co:scope.isCoroutine=false
 gen:scope.isGenerator=false
 nd:(ps ++ ns).Nodup
 par:∀ x∈ps,scope.names.lookup x=some .local
 cap:∀ x∈ns,scope.names.lookup x=some .free
 nocell:∀ y∈scope.names,y.2≠.cell
 free:∀ y∈scope.names,y.2=.free→y.1∈ns
theorem LamBody.of {ps ns:List Str} {scope:Scope} (h1:scope.kind=.function) (h2:scope.isCoroutine=false) (h3:scope.isGenerator=false)
  (h:(decide (ps ++ ns).Nodup && ps.all (fun x=>decide (scope.names.lookup x=some NameKind.local)) && ns.all (fun x=>decide (scope.names.lookup x=some NameKind.free)) && scope.names.all (fun y=>decide (y.2≠NameKind.cell) && (decide (y.2≠NameKind.free) || decide (y.1∈ns))))=true):LamBody ps ns scope:=by
 simp only [Bool.and_eq_true,List.all_eq_true,decide_eq_true_eq,Bool.or_eq_true] at h
 obtain ⟨⟨⟨a,b⟩,c⟩,d⟩:=h
 exact ⟨h1,h2,h3,a,b,c,fun y hy=>(d y hy).1,fun y hy e=>(d y hy).2.elim (fun z=>absurd e z) id⟩
theorem zip_none {x:Str}:∀ {ps:List Str} {us:List Value},x∉ps→(ps.zip us).reverse.lookup x=none:=fun {ps us} h=>by
 cases e:(ps.zip us).reverse.lookup x with
 | none=>rfl
 | some v=>exact absurd (List.of_mem_zip (List.mem_reverse.mp (PySem.mem_of_lookup e))).1 h
theorem look_app {x:Str} {v:Value}:∀ {l m:List (Str×Value)},l.lookup x=none→(l ++ m).lookup x=m.lookup x
 | [],_,_=>rfl
 | (y,u) :: l,m,h=>by
  rw [List.lookup_cons] at h
  rw [List.cons_append,List.lookup_cons]
  cases hb:x == y with
  | true=>rw [hb] at h; cases h
  | false=>rw [hb] at h; exact look_app (v:=v) h
theorem look_app1 {x:Str} {v:Value}:∀ {l m:List (Str×Value)},l.lookup x=some v→(l ++ m).lookup x=some v
 | (y,u) :: l,m,h=>by
  rw [List.lookup_cons] at h
  rw [List.cons_append,List.lookup_cons]
  cases hb:x == y with
  | true=>rw [hb] at h; exact h
  | false=>rw [hb] at h; exact look_app1 h
theorem zip_look {x:Str} {v:Value}:∀ {ps:List Str} {us:List Value} {i:Nat},ps.Nodup→ps[i]? = some x→us[i]? = some v→(ps.zip us).reverse.lookup x=some v
 | p :: ps,u :: us,0,nd,h1,h2=>by
  cases h1; cases h2
  rw [List.zip_cons_cons,List.reverse_cons,look_app (v:=v) (zip_none (List.nodup_cons.mp nd).1)]
  simp
 | p :: ps,u :: us,i + 1,nd,h1,h2=>by
  rw [List.zip_cons_cons,List.reverse_cons]
  exact look_app1 (zip_look (i:=i) (List.nodup_cons.mp nd).2 (by simpa using h1) (by simpa using h2))
 | [],_,_,_,h1,_=>by simp at h1
 | _ :: _,[],_,_,_,h2=>by simp at h2
theorem lam_ok {P:Program} {w:World} {K:PySem.W.Frag} {mg:Str→Option Value} {base:Heap} {k:Nat} {params:Arguments} {body:Expr} {scope:Scope} {pos:Pos} {ps ns:List Str} {sp:Sp} (S:LamBody ps ns scope)
  (hbind:∀ (q:Str) (cl:List (Str×Addr)) (pm cdv ct:Value) (us:List Value),us.length=ps.length→bindArgs (PySem.W.kla_fn "<lambda>" q params body scope cl pm cdv ct) ⟨us,[]⟩=pure (ps.zip us))
  (hb:∀ (q:Str) (f:Addr) (cd:Value) (cl:List (Str×Addr)) (A:Around) (outer:List Env) (s:Shared) (H:Hp) (vs:List V) (Q:VK),Room k (A.deeper (PySem.W.envX q scope s.heap.objs.size f cd cl))→sp vs H Q E0→∃ t,PE (lamCx P w K mg base (ps ++ ns) q scope f cd cl A outer s H) body t∧t (vs.map some) H Q) :
  LamOk P w K mg base (k + 1) (.Lambda params body scope pos) ns ps.length sp:=by
 intro A outer s H a o q cc cl us vs cs Q hr e0 ho hobj hcd hcl hcap rv hlen hsp
 obtain ⟨pm,ctv,rfl⟩:=hobj
 have KX:K.In s.heap:=e0.mod.kin.keeps fun b o e=>(e0.bs b o e).1
 have lim:s.heap.NoLimit:=e0.mod.nolimit.keeps fun b o e=>(e0.bs b o e).1
 have hul:us.length=ps.length:=by rw [← rv.length]; exact hlen
 refine PySem.W.kla_callFunE hr.depth ho rfl S.co S.gen rfl hcd ?_
 rw [hbind q cl pm (.ref cc) ctv us hul]
 have ndp:ps.Nodup:=(List.nodup_append.mp S.nd).1
 refine wpAny_pure (wpAny_newFunctionEnv S.nocell (fun y hy=>S.par y.1 (List.of_mem_zip hy).1) (fun h₁ hns hsb=>⟨lim.fresh _ hsb,?_⟩) S.kind)
 show codeAny _ _ (.expr body (PySem.W.envX q scope s.heap.objs.size a (.ref cc) cl)) _ _
 have hk₁:∀ b ob,s.heap.get? b=some ob→h₁.get? b=some ob:=fun b ob e=>hsb.extBut b ob (Nat.ne_of_lt (Heap.lt_size e)) (Heap.get?_push_of_some _ e)
 obtain ⟨t,ht,hq⟩:=hb q a (.ref cc) cl A outer s H (vs ++ cs) Q (hr.deeper _) hsp
 have noA:∀ b:Addr,b∉(lamCx P w K mg base (ps ++ ns) q scope a (.ref cc) cl A outer s H).ex:=fun b z=>absurd (show b∈([]:List Addr) from z) (by simp)
 have getC:∀ x c,cl.lookup x=some c→∃ v u,s.heap.IsCell c (some u)∧RelV v u∧H c=none:=fun x c e=>by
  obtain ⟨i,hi,ei⟩:=List.mem_iff_getElem.mp (hcl.2 x c e)
  obtain ⟨v,c',u,_,h2,h3,h4,h5,_⟩:=hcap.2 i x (by rw [List.getElem?_eq_getElem hi,ei])
  rw [e] at h2; cases h2
  exact ⟨v,u,h3,h4,h5⟩
 have keepC:∀ {c:Addr} {u:Option Value},s.heap.IsCell c u→h₁.IsCell c u:=fun {c u} ⟨o,e,d⟩=>⟨o,hk₁ c o e,d⟩
 have I:Inv (lamCx P w K mg base (ps ++ ns) q scope a (.ref cc) cl A outer s H) [] ((vs ++ cs).map some) H { s with heap:=h₁,toks:=s.toks + (ps.zip us).length }:=by
  refine ⟨⟨e0.mod,S.kind,rfl,rfl,Nat.le_refl _,hcl.1,fun x hx=>?_,fun x c h=>absurd h (by simp [lamCx]),fun _=>hr.hd,Around.frames_deeper e0.frames,.inr ⟨rfl,rfl⟩,fun b z=>absurd z (noA b),e0.bs,e0.bsz,fun b _ _=>noA b,fun b z=>absurd z (noA b),e0.funs,e0.frf⟩,
   rfl,e0.bare,Un.kept hk₁,⟨_,hns,fun i x v h1 h2 h3=>?_⟩,fun x c h=>?_,e0.hok.fresh (Nat.le_refl _),fun x c h=>?_,fun p hp=>absurd (show p∈([]:List (Addr×Obj)) from hp) (by simp),e0.hok.kept hk₁,?_⟩
  ·have hx:scope.names.lookup x=some .cell∨scope.names.lookup x=some .free:=hx
   rcases hx with hx | hx
   ·exact absurd rfl (S.nocell _ (PySem.mem_of_lookup hx))
   ·have hm:=S.free _ (PySem.mem_of_lookup hx) rfl
    obtain ⟨i,hi,ei⟩:=List.mem_iff_getElem.mp hm
    obtain ⟨v,c',u,_,h2,_⟩:=hcap.2 i x (by rw [List.getElem?_eq_getElem hi,ei])
    exact ⟨c',h2⟩
  ·have h1:(ps ++ ns)[i]? = some x:=h1
   have h2':(vs ++ cs)[i]? = some v:=by
    rw [List.getElem?_map] at h2
    cases e:(vs ++ cs)[i]? with
    | none=>rw [e] at h2; cases h2
    | some b=>rw [e] at h2; cases h2; rfl
   by_cases hi:i < ps.length
   ·rw [List.getElem?_append_left hi] at h1
    rw [List.getElem?_append_left (by omega)] at h2'
    obtain ⟨u,hu,ru⟩:=rv.get h2'
    refine ⟨u,ru,.inl ⟨S.par x (List.mem_of_getElem? h1),?_⟩⟩
    exact zip_look ndp h1 hu
   ·rw [List.getElem?_append_right (by omega)] at h1
    rw [List.getElem?_append_right (by omega),hlen] at h2'
    obtain ⟨v',c,u,e1,e2,e3,e4,_⟩:=hcap.2 _ x h1
    rw [h2'] at e1; cases e1
    exact ⟨u,e4,.inr ⟨.inr (S.cap x (List.mem_of_getElem? h1)),c,e2,keepC e3⟩⟩
  ·obtain ⟨v,u,h3,_⟩:=getC x c h
   exact ⟨_,keepC h3⟩
  ·obtain ⟨v,u,_,_,h5⟩:=getC x c h
   exact h5
  ·show ((vs ++ cs).map some).length=(ps ++ ns).length
   rw [List.length_map,List.length_append,List.length_append,hlen,hcap.1]
 refine PySem.W.kla_codeExpr (wpAny_mono (ht [] _ _ H Q I hq) (fun u s' hs=>?_) fun e s' hs=>False.elim hs)
 obtain ⟨v,H',J,ru,q⟩:=hs
 exact ⟨v,H',J.os,J.bare,J.base,J.hok,ru,q⟩
end L2
namespace L2
open PySem PySem.Spec PyProof.Rows
section
variable {M:Model} {A:Around} {E:Value→Shared→Prop} {s:Shared} {env:Env} {pos:Pos} {Q:Value→Shared→Prop}
theorem callWith_L {a:Addr} {o:Obj} {fd:FuncData} {e:Expr} {rest:List Expr} (hd:o.data=.func fd) (h:wpAny M A (spliced (backTo pos (starEach (e :: rest) env))) (fun vs s₁=>s₁.heap.get? a=some o∧wpAny M A (call (.ref a) ([] ++ vs)) Q E s₁) E s)
  (he:starEach (e :: rest) env=(false,eval e env) :: starEach rest env) (hplain:(backTo pos (starEach rest env)).any (·.1)=false) :
  wpAny M A (callWith pos (.ref a) [] (backTo pos (starEach (e :: rest) env)) []) Q E s:=by
 rw [he] at h ⊢
 refine PySem.W.callWith_of (P:=fun h=>h.get? a=some o) (by show ((false || (backTo pos (starEach rest env)).any (·.1)) || false)=false; rw [hplain]; rfl) (fun h e=>⟨.frame,.inl rfl,?_⟩) (PySem.Calls.evalArgs_plain h)
 obtain ⟨oc,od,dt,sl⟩:=o
 cases hd
 exact (PySem.W.Looks.ld (part:=none) e).andThen PySem.W.Looks.now
end
section
variable {X:Cx} {pins:List (Addr×Obj)} {σ:St} {H H':Hp} {s s':Shared} {F:Addr→Option Obj}
theorem unfr_hok {P:Program} {w:World} {h:Heap} (hok:HOk P w H h) (hF:∀ b o,F b=some o→H b=some (.frz o (.own 0))):HOk P w (unfr H F) h:=fun b u e=>by
 cases hb:F b with
 | some o=>rw [qeG hb] at e; cases e
 | none =>
  rw [qcx hb] at e
  exact (hok b u e).stay (fun _ _ _ z=>z) (fun c z=>qbL hF z fun _ q=>nomatch q) fun c xs z=>qbL hF z fun _ q=>nomatch q
theorem qdy {b:Addr} (h:H b=none):unfr H F b=none:=by
 unfold unfr
 split <;> first | rfl | exact h
theorem run_lam {k n:Nat} {Ex:Expr} {ns:List Str} {sp:Sp} {a cc:Addr} {o:Obj} {q:Str} {cl:List (Str×Addr)} {us:List Value} {vs cs:List V} {Q:VK} (G:LamOk X.prog X.w X.K X.mg X.base k Ex ns n sp) (hr:Room k X.A) (I:Inv X pins σ H s)
  (ha:H a=some (.ext (lamP a o))) (hobj:LamObj Ex o q cc cl) (hcc:H cc=some (.ext (codeP cc q))) (hcl:ClOk cl ns) (hcs:CellsAt H cl ns cs) (r:Vals vs us) (hn:vs.length=n)
  (h:∀ F:Addr→Option Obj,(∀ b o,F b=some o→H b=some (.frz o (.own 0)))→sp (vs ++ cs) (unfr H F) (fun v H'=>(∀ b o,F b=some o→H' b=none)→Q v (frzH H' F)) E0) :
  wpAny (model X.prog X.w) X.A (call (.ref a) us) (EP X pins σ Q) X.xe s:=by
 have hF:∀ b ob,fzX cl s.heap b=some ob→H b=some (.frz ob (.own 0)):=fun b ob e=>by
  obtain ⟨⟨x,hx⟩,hg⟩:=qgQ e
  obtain ⟨i,hi,ei⟩:=List.mem_iff_getElem.mp (hcl.2 x b hx)
  obtain ⟨v,c,oc,u,_,h2,h3,_⟩:=hcs.get (i:=i) (x:=x) (by rw [List.getElem?_eq_getElem hi,ei])
  rw [hx] at h2; cases h2
  have:=(I.hok b _ h3).1
  rw [hg] at this; cases this
  exact h3
 generalize hFd:fzX cl s.heap=F at hF
 have e:=I.env0
 have e0:Env0 X.prog X.w X.K X.mg X.base X.A X.stack s (unfr H F):=⟨e.frames,e.mod,fun b o h=>⟨(e.bs b o h).1,qdy (e.bs b o h).2⟩,e.bsz,e.funs,fun b hb=>qdy (e.frf b hb),unfr_hok I.hok hF,e.bare⟩
 have nf:∀ b ob,F b=some ob→b∉frs X.stack:=fun b ob z hb=>by
  have:=I.stkFree b hb
  rw [hF b ob z] at this; cases this
 have cap:CapAt s (unfr H F) X.stack cl ns cs:=by
  refine ⟨hcs.length,fun i x hx=>?_⟩
  obtain ⟨v,c,oc,u,h1,h2,h3,h4,h5⟩:=hcs.get hx
  have hg:=(I.hok c _ h3).1
  have hf:F c=some oc:=by rw [← hFd]; exact fzX_at h2 hg
  exact ⟨v,c,u,h1,h2,⟨oc,hg,h4⟩,h5,qeG hf,nf c oc hf⟩
 refine wpAny_call (codeAny_mono (G X.A X.stack s (unfr H F) a o q cc cl us vs cs _ hr e0 (I.hok a _ ha).1 hobj (I.hok cc _ hcc).1 hcl cap r hn (h F hF)) fun rr s' hq=>?_)
 cases rr with
 | error e=>exact False.elim hq
 | ok fl =>
  cases fl with
  | next=>exact False.elim hq
  | brk=>exact False.elim hq
  | cont=>exact False.elim hq
  | ret u =>
   obtain ⟨v,H',os,bare,un,hok,rv,q⟩:=hq
   have gF:∀ b ob,F b=some ob→s.heap.get? b=some ob:=fun b ob z=>(I.hok b _ (hF b ob z)).1
   have hn':∀ b ob,F b=some ob→H' b=none:=fun b ob z=>un.free b ob (gF b ob z) (qeG z) (by simp)
   have hg':∀ b ob,F b=some ob→s'.heap.get? b=some ob:=fun b ob z=>un.keep b ob (gF b ob z) (qeG z) (nf b ob z) (by simp)
   have Fn:∀ {b:Addr},H b=none→F b=none:=fun {b} z=>by
    cases e:F b with
    | none=>rfl
    | some ob=>rw [hF b ob e] at z; cases z
   have old:∀ {b:Addr} {u:HO},H b=some u→(∀ o,u≠.frz o (.own 0))→F b=none∧unfr H F b=some u:=fun {b u} z nq=>by
    cases e:F b with
    | none=>exact ⟨rfl,by rw [qcx e]; exact z⟩
    | some ob=>rw [hF b ob e] at z; exact absurd (Option.some.inj z).symm (nq ob)
   have un2:Un (frs X.stack) [] H (frzH H' F) s.heap s'.heap:=by
    refine ⟨fun b o e n hb hx=>un.keep b o e (qdy n) hb hx,fun b o e n hb hx=>un.slot b o e (qdy n) hb hx,fun b o e n hx=>?_,un.there,fun b xs e=>?_,fun b o u e=>?_,fun b ps e=>?_⟩
    ·rw [qdw (Fn n)]; exact un.free b o e (qdy n) hx
    ·obtain ⟨h1,h2⟩:=old e fun _ z=>nomatch z
     rw [qdw h1]; exact un.tups b xs h2
    ·cases z:F b with
     | some ob =>
      have:=hF b ob z
      rw [e] at this; cases this
      exact qf8 z
     | none=>rw [qdw z]; exact un.frzs b o u (by rw [qcx z]; exact e)
    ·obtain ⟨h1,h2⟩:=old e fun _ z=>nomatch z
     rw [qdw h1]; exact un.tbls b ps h2
   exact ⟨v,frzH H' F,I.call' os un2 (frz_hok hok hn' hg') bare fun b z=>absurd z (by simp),rv,q hn'⟩
end
open Classical in
def qfP (i n:Nat) (tbl:List (Expr×List Str×(List D→LC→R D))) (a:dS):yD:=fun e c=>match e[i]? with
 | some (some (.lam k E ns l))=>match tbl[k]? with
  | some t=>if E=t.1∧ns=t.2.1 then (a e c).bind fun xs c=>if xs.length=n∧qbt xs=true∧qbt l=true then t.2.2 (xs ++ l) c else .bad else .bad
  | none=>.bad
 | _=>.bad
theorem pd_callL {X:Cx} (i:Nat) {n:Nat} {tbl:List (Expr×List Str×(List D→LC→R D))} {x:Str} {e:Expr} {es:List Expr} {da:dS} {p pos:Pos} (hT:∀ t∈tbl,∃ k,LamOk X.prog X.w X.K X.mg X.base k t.1 t.2.1 n (spD X.K (n + t.2.1.length) t.2.2)∧Room k X.A) (ha:PAd X (e :: es) da)
  (hN:X.N[i]? = some x:=by rfl) (hv:Vis X.env.scope x:=by first | exact Or.inl rfl | exact Or.inr (Or.inl rfl) | exact Or.inr (Or.inr rfl)) (hd:(x == ("__debug__":Str))=false:=by decide)
  (hcd:(x == ("__classdict__":Str))=false:=by decide) (he:starEach (e :: es) X.env=(false,eval e X.env) :: starEach es X.env:=by exact qd6 rfl) (hpl:(backTo pos (starEach es X.env)).any (·.1)=false:=by exact qc6 rfl) :
  PEd X (.Call (.Name x p) (e :: es) [] pos) (qfP i n tbl da):=by
 intro pins s σ H Q I h
 obtain ⟨ρ,ev,c,W,Vv,q⟩:=h
 unfold qfP at q
 split at q
 ·rename_i kk Ex ns l hf
  obtain ⟨v,hσ,rl⟩:=Vv.get i _ hf
  obtain ⟨a,o,qn,cc,cl,cs,rfl,ha1,hobj,hcc,hcl,hcs,hrs⟩:=id rl
  split at q
  ·rename_i t ht
   split at q
   ·rename_i hzy
    obtain ⟨rfl,rfl⟩:=hzy
    obtain ⟨k,G,hr⟩:=hT _ (List.mem_of_getElem? ht)
    refine wpAny_Call_Name_kw (thn (pe_var hN hv hd hcd pins s σ H (fun v H1=>v=.ref a∧H1=H) I ⟨_,hσ,rfl,rfl⟩) fun u s1 ⟨v,H1,I1,r1,q1⟩=>?_)
    obtain ⟨rfl,rfl⟩:=q1
    cases r1
    have hdata:∃ fd,o.data=.func fd:=by
     cases hE:t.1 with
     | Lambda params body scope lp =>
      rw [hE] at hobj
      obtain ⟨pm,ctv,rfl⟩:=hobj
      exact ⟨_,rfl⟩
     | _=>rw [hE] at hobj; exact hobj.elim
    obtain ⟨fd,hdata⟩:=hdata
    refine callWith_L hdata (thn (ha pos pins s1 σ H1 (fun vs H2=>∃ ρ1 xs c1,Wd X.K ρ1 H2 c1∧Ext ρ H1 ρ1 H2∧Rels X.K ρ1 H2 xs vs∧xs.length=n∧qbt xs=true∧qbt l=true∧post X.K (Rel X.K) (t.2.2 (xs ++ l) c1) ρ1 H2 Q) I1 ⟨ρ,ev,c,W,Vv,post.bind q fun xs c1 ρ1 H2 vs _ W1 X1 r1 p1=>?_⟩) fun us s2 ⟨vs,H2,I2,r2,ρ1,xs,c1,W1,X1,rx,hl,n1,n2,p1⟩=>?_) he hpl
    ·split at p1
     ·rename_i hc
      exact ⟨ρ1,xs,c1,W1,X1,r1,hc.1,hc.2.1,hc.2.2,p1⟩
     ·exact p1.elim
    ·obtain ⟨a',o',qn',cc',cl',cs',ea,ha2,hobj2,hcc2,hcl2,hcs2,hrs2⟩:=Rel.mono W X1 _ _ rl
     cases ea
     have eo:o=o':=by
      have e1:=(X1.keep a _ ha1 (fun m=>by obtain ⟨ys,z⟩:=W.at' m; rw [z] at ha1; cases ha1) rfl).1
      have g1:=(I2.hok a _ e1).1
      have g2:=(I2.hok a _ ha2).1
      have g1':s2.heap.get? a=some o:=g1
      have g2':s2.heap.get? a=some o':=g2
      rw [g1'] at g2'; exact Option.some.inj g2'
     subst eo
     refine ⟨(I2.hok a _ ha2).1,?_⟩
     refine run_lam (cs:=cs') G hr I2 ha2 hobj2 hcc2 hcl2 hcs2 r2 (by rw [rx.length]; exact hl) fun F hF=>?_
     refine ⟨ρ1,xs ++ l,c1,wd_unfr W1 hF,Rels.append (Rels.unfr hF xs vs n1 rx) (Rels.unfr hF l cs' n2 hrs2),by rw [List.length_append,hl,← hrs2.length,hcs2.length],?_⟩
     cases hm:t.2.2 (xs ++ l) c1 with
     | bad=>rw [hm] at p1; exact p1.elim
     | ok d c2 =>
      rw [hm] at p1
      intro ρ' H4 b W4 X4 r4 hn4
      obtain ⟨X5,W5⟩:=wd_frz W4 hn4
      exact p1 ρ' (frzH H4 F) b W5 (ext_frz X4 W4 hF hn4) (Rel.mono W4 X5 d b r4)
   ·exact q.elim
  ·exact q.elim
 ·exact q.elim
@[simp] theorem x_callL (i n:Nat) (tbl:List (Expr×List Str×(List D→LC→R D))) (a:dS) (e:Ev) (c:LC) {k:Nat} {Ex:Expr} {ns:List Str} {l:List D} {m:List D→LC→R D} (h:e[i]? = some (some (.lam k Ex ns l))) (ht:tbl[k]? = some (Ex,ns,m)):qfP i n tbl a e c=(a e c).bind fun xs c=>if xs.length=n∧qbt xs=true∧qbt l=true then m (xs ++ l) c else .bad:=by
 unfold qfP
 rw [h]
 dsimp only
 rw [ht]
 dsimp only
 rw [if_pos ⟨rfl,rfl⟩]
end L2
namespace L2
open PySem PySem.Spec PyProof.Rows
def lamD (d:yD):List D→LC→R D:=fun xs c=>d (xs.map some) c
theorem renv_map {K:PySem.W.Frag} {ρ:List Addr} {H:Hp} {xs:List D} {vs:List V} (r:Rels K ρ H xs vs):REnv K ρ H (xs.map some) (vs.map some):=by
 refine ⟨fun i d h=>?_,by rw [List.length_map,List.length_map,r.length]⟩
 rw [List.getElem?_map] at h
 cases e:xs[i]? with
 | none=>rw [e] at h; cases h
 | some y =>
  rw [e] at h; cases h
  obtain ⟨v,hv,rv⟩:=r.get e
  exact ⟨v,by rw [List.getElem?_map,hv]; rfl,rv⟩
theorem lamD_ok {P:Program} {w:World} {K:PySem.W.Frag} {mg:Str→Option Value} {base:Heap} {k:Nat} {params:Arguments} {body:Expr} {scope:Scope} {pos:Pos} {ps ns:List Str} {d:yD} (S:LamBody ps ns scope)
  (hbind:∀ (q:Str) (cl:List (Str×Addr)) (pm cdv ct:Value) (us:List Value),us.length=ps.length→bindArgs (PySem.W.kla_fn "<lambda>" q params body scope cl pm cdv ct) ⟨us,[]⟩=pure (ps.zip us))
  (hb:∀ (q:Str) (f:Addr) (cd:Value) (cl:List (Str×Addr)) (A:Around) (outer:List Env) (s:Shared) (H:Hp),Room k (A.deeper (PySem.W.envX q scope s.heap.objs.size f cd cl))→PEd (lamCx P w K mg base (ps ++ ns) q scope f cd cl A outer s H) body d) :
  LamOk P w K mg base (k + 1) (.Lambda params body scope pos) ns ps.length (spD K (ps.length + ns.length) (lamD d)) :=
 lam_ok S hbind fun q f cd cl A outer s H vs Q hr h=>⟨_,hb q f cd cl A outer s H hr,by
  obtain ⟨ρ,xs,c,W,r,hl,p⟩:=h
  exact ⟨ρ,xs.map some,c,W,renv_map r,p⟩⟩
section
variable {P:Program} {w:World} {K:PySem.W.Frag} {mg:Str→Option Value} {base:Heap}
theorem fn_okL {x:Str} {st:Stmt} {f:Addr} {fd:FuncData} {N ps:List Str} {k n m:Nat} {own:Bool} {d:dF} (F:Fun K x x st f fd) (hn:PySem.W.nsIn K mainGlobals x=some (some (.ref f))) (S:qag N ps (qa5 st)) (hN:N.length=n) (hm:ps.length=m)
  (hb:∀ (cdv:Value) (A:Around) (outer:List Env) (s:Shared) (H:Hp) (E:XK),(∀ c P,PySem.W.tabIn K x=some (c,P)→cdv=.ref c)→Room k (A.deeper (envOfC x (qa5 st) s.heap.objs.size f cdv))→PSsd (cxOf CX0 P w K mg base N x (qa5 st) f cdv A outer s H E).nox (qad st) d) :
  FnOk P w K mg base CX0 (k + 1) f fd ps (spD K m (fnD n own d)):=by
 obtain ⟨oc,od,kV,doc,pm,an,cdv0,ct,osl,hfd,lk,hcd⟩:=F.ex
 have key:∀ (cdv:Value),(∀ (A:Around) (outer:List Env) (s:Shared) (H:Hp) (E:XK),Room k (A.deeper (envOfC x (qa5 st) s.heap.objs.size f cdv))→PSsd (cxOf CX0 P w K mg base N x (qa5 st) f cdv A outer s H E).nox (qad st) d)→cdv=cdv0→FnOk P w K mg base CX0 (k + 1) f fd ps (spD K m (fnD n own d)):=by
  intro cdv hb' e
  subst e
  subst hN; subst hm
  subst hfd
  refine fn_of lk hcd S (fun vs H Q E h=>?_) fun A outer s H vs Q E hr h=>⟨_,PSs.nox (hb' A outer s H E hr),?_⟩
  ·obtain ⟨ρ,xs,c,W,r,hl,p⟩:=h
   exact r.length.trans hl
  ·obtain ⟨ρ,xs,c,W,r,hl,p⟩:=h
   refine ⟨ρ,qbs N.length xs,c,W,REnv.start r,post.bind p fun fl c1 ρ1 H1 b _ W1 X1 r1 p1=>?_⟩
   cases fl with
   | nx e1 =>
    obtain ⟨σ1,rfl,V1⟩:=r1
    exact qgS (v:=.non) (x:=.non) (H1:=H1) W W1 X1 rfl (by
     unfold fnD at p; exact id (α:=post K (Rel K) (qbx own c.length .non c1) ρ H Q) (by
      rename_i he; rw [he] at p; exact p))
   | rt d =>
    obtain ⟨v,rfl,V1⟩:=r1
    exact qgS (v:=d) (x:=v) (H1:=H1) W W1 X1 V1 (by
     unfold fnD at p; rename_i he; rw [he] at p; exact p)
   | bk e1=>exact p1.elim
   | ct e1=>exact p1.elim
 refine key cdv0 (fun A outer s H E hr=>hb cdv0 A outer s H E (fun c P' ht=>?_) hr) rfl
 unfold PySem.W.tabIn at ht
 rw [hn] at ht
 dsimp only at ht
 rw [lk,hfd] at ht
 dsimp only at ht
 cases cdv0 with
 | ref c' =>
  dsimp only at ht
  split at ht
  ·split at ht
   ·cases ht; rfl
   ·cases ht
  ·cases ht
 | _=>cases ht
end
def OnlyT (H:Hp) (ts:List Addr):Prop:=∀ b,H b=none∨(∃ o xs,H b=some (.frz o (.lst xs)))∨(b∈ts∧H b=some (.tbl #[]))
theorem law_callT {P:Program} {w:World} {K:PySem.W.Frag} {mg mb:Str→Option Value} {k:Nat} {fa a:Addr} {fd:FuncData} {x:Str} {sp:Sp} {s₁:Shared} {vs:List Value} {ns:List Int} {ts:List (Addr×Addr)}
  (KX:K.In s₁.heap) (hns:s₁.heap.Ns mainGlobals mg) (hb:s₁.heap.Ns builtinsNs mb) (hbb:∀ x:Str,x≠"__name__"→mb x=bootBuiltins x) (hlim:s₁.heap.NoLimit)
  (hbm:∃ bm ob,mg "__builtins__"=some (.ref bm)∧bm≠builtinsNs∧s₁.heap.get? bm=some ob∧ob.cls=.type "module"∧ob.dict=some builtinsNs∧ob.data=.plain) (hg:s₁.gens=#[])
  (ha:s₁.heap.get? a=some { cls:=.type "list",data:=.seq vs.toArray }) (hi:IntsAre vs ns) (hl:ns.length≤sizeLine) (hr:Room k callerA)
  (hTs:∀ q∈ts,PySem.W.codeHdIn K q.1 q.2=true∧s₁.heap.get? q.2=some (PySem.W.tabObj #[])) (hKt:PySem.W.noTabs K=true)
  (F:∀ base:Heap,K.In base→base.Ns mainGlobals mg→FnOk P w K mg base CX0 k fa fd [x] sp) (hbind:∀ (s:Shared) (u:Value),BindsTo s fd ⟨[u],[]⟩ [(x,u)])
  (hsp:∀ H:Hp,(∀ q∈ts,H q.2=some (.tbl #[]))→SqL K H a (ns.map V.int)→sp [.ref a] H (fun v _=>v=.bl true) fun _ _ _=>False) :
  codeAny (model P w) callerA (.call (.ref fa) ⟨[.ref a],[]⟩) (fun r s'=>r=.ok (.ret (.bool true))∧OldK s₁.heap s'.heap∧s'.os=s₁.os∧AllBare s'.gens) s₁:=by
 have rv:=vals_ints hi
 have lenV:=hi.length
 have hta:∀ b,b∈ts.map (·.2)→s₁.heap.get? b=some (PySem.W.tabObj #[]):=fun b h=>by
  obtain ⟨q,hq,rfl⟩:=List.mem_map.mp h
  exact (hTs q hq).2
 have nat:a∉ts.map (·.2):=fun h=>by have:=hta a h; rw [ha] at this; cases this
 have core:∀ H:Hp,OnlyT H (ts.map (·.2))→(∀ q∈ts,H q.2=some (.tbl #[]))→SqL K H a (ns.map V.int)→HOk P w H s₁.heap→(∀ b,H b≠none→b=a∨b∈ts.map (·.2))→(H a≠none→K.lookup a=none) →
   codeAny (model P w) callerA (.call (.ref fa) ⟨[.ref a],[]⟩) (fun r s'=>r=.ok (.ret (.bool true))∧OldK s₁.heap s'.heap∧s'.os=s₁.os∧AllBare s'.gens) s₁:=by
  intro H hO hT hS hok hA hK
  have base_of:∀ {b:Addr} {o:Obj},s₁.heap.get? b=some o→H b=none→(hidT s₁.heap H).get? b=some o:=fun e n=>hidT_get e n
  have noB:∀ {b:Addr} {o:Obj},s₁.heap.get? b=some o→o.cls≠.type "list"→o.cls≠.none→H b=none:=fun {b o} e d1 d2=>by
   cases q:H b with
   | none=>rfl
   | some u =>
    rcases hA b (by rw [q]; simp) with e' | e'
    ·subst e'
     rw [ha] at e; cases e
     exact absurd rfl d1
    ·rw [hta b e'] at e; cases e
     exact absurd rfl d2
  have noA:∀ {b:Addr} {o:Obj} {es:Array DictEntry} {ep:Nat},s₁.heap.get? b=some o→o.data=.dict es ep→H b=none:=fun {b o es ep} e d=>by
   cases q:H b with
   | none=>rfl
   | some u =>
    rcases hA b (by rw [q]; simp) with e' | e'
    ·subst e'
     rw [ha] at e; cases e
     have d':Data.seq vs.toArray _=Data.dict es ep:=d
     cases d'
    ·rw [hta b e'] at e; cases e
     have d':Data.fields #[]=Data.dict es ep:=d
     cases d'
  have nsK:∀ {b:Addr} {m:Str→Option Value},s₁.heap.Ns b m→(hidT s₁.heap H).Ns b m:=fun {b m} ⟨o,es,ep,e,d,r⟩=>⟨o,es,ep,base_of e (noA e d),d,r⟩
  have hKb:K.In (hidT s₁.heap H):=fun b o e=>base_of (KX b o e) (by
   cases q:H b with
   | none=>rfl
   | some u =>
    rcases hA b (by rw [q]; simp) with e' | e'
    ·subst e'
     rw [hK (by rw [q]; simp)] at e; cases e
    ·have h1:=KX b o e
     rw [hta b e'] at h1; cases h1
     have h2:=List.all_eq_true.mp hKt (b,_) (PySem.W.mem_of_lookupK e)
     exact absurd (show false=true from h2) Bool.false_ne_true)
  have hM:Mod K mg (hidT s₁.heap H):=⟨hKb,nsK hns,⟨mb,nsK hb,hbb⟩,let ⟨mc,h1,h2⟩:=hlim; ⟨mc,nsK h1,h2⟩,let ⟨bm,ob,b1,b2,b3,b4,b5⟩:=hbm; ⟨bm,ob,b1,b2,base_of b3 (noB b3 (by rw [b4]; simp) (by rw [b4]; simp)),b4,b5⟩⟩
  have e0:Env0 P w K mg (hidT s₁.heap H) callerA [] s₁ H:=⟨rfl,hM,fun b o e=>of_hidT e,Nat.le_of_eq (hidT_size _ _),trivial,fun b hb=>absurd (show b∈([]:List Addr) from hb) (by simp),hok,.of_eq hg⟩
  refine codeAny_mono ((F _ hKb (nsK hns)).run callerA [] s₁ H ⟨[.ref a],[]⟩ [.ref a] [.ref a] _ _ hr e0 (hbind s₁ (.ref a)) (.cons rfl .nil) (hsp H hT hS)) fun r s' h=>?_
  cases r with
  | error e=>exact False.elim h
  | ok fl =>
   cases fl with
   | next=>exact False.elim h
   | brk=>exact False.elim h
   | cont=>exact False.elim h
   | ret u =>
    obtain ⟨v,H',os,bare,un,hok',r',q⟩:=h
    have q':v=.bl true:=q
    subst q'
    obtain rfl:u=Value.bool true:=r'
    have main:∀ b o,s₁.heap.get? b=some o→s'.heap.get? b=some o∨(b∈ts.map (·.2)∧o=PySem.W.tabObj #[]∧∃ ps,s'.heap.get? b=some (PySem.W.tabObj ps)):=fun b o e=>by
     rcases hO b with z | ⟨ob,xs,z⟩ | ⟨hm,z⟩
     ·exact .inl (un.keep b o e z (by intro z; exact absurd (show b∈([]:List Addr) from z) (by simp)) (by simp))
     ·have z2:=un.frzs b ob _ z
      obtain ⟨e1,_⟩:=hok b _ z
      obtain ⟨e2,_⟩:=hok' b _ z2
      rw [e] at e1; cases e1
      exact .inl e2
     ·obtain ⟨more,z2⟩:=un.tbls b _ z
      have e2:s'.heap.get? b=some (PySem.W.tabObj (#[] ++ more)):=hok' b _ z2
      have e1:=hta b hm
      rw [e] at e1; cases e1
      exact .inr ⟨hm,rfl,_,e2⟩
    refine ⟨rfl,⟨fun b o e=>?_,fun b o e=>?_⟩,os,bare⟩
    ·rcases main b o e with z | ⟨hm,rfl,ps,z⟩
     ·exact .inl z
     ·obtain ⟨q,hq,rfl⟩:=List.mem_map.mp hm
      have hC:=PySem.W.codeHd_of_K KX (hTs q hq).1
      exact .inr (.inl ⟨(hC.tab (hTs q hq).2).isCodeTable,rfl,#[],ps,rfl,by rw [Array.empty_append]; exact z⟩)
    ·rcases main b o e with z | ⟨_,_,ps,z⟩
     ·exact ⟨o,z⟩
     ·exact ⟨_,z⟩
 have tabOk:∀ (H:Hp) b,H b=some (.tbl #[])→b∈ts.map (·.2)→ObjOk P w H s₁.heap b (.tbl #[]):=fun H b _ h=>hta b h
 cases hk:K.lookup a with
 | some o =>
  have e:=KX a o hk
  rw [ha] at e
  cases e
  let H:Hp:=fun b=>if b∈ts.map (·.2) then some (.tbl #[]) else none
  refine core H (fun b=>?_) (fun q hq=>if_pos (List.mem_map_of_mem hq)) (.inr ⟨_,vs.toArray,_,hk,rfl,rfl,rfl,by rw [List.size_toArray,lenV]; exact hl,by simpa using rv⟩) (fun b u z=>?_) (fun b z=>?_) fun z=>absurd (if_neg nat) z
  ·by_cases hb:b∈ts.map (·.2)
   ·exact .inr (.inr ⟨hb,if_pos hb⟩)
   ·exact .inl (if_neg hb)
  ·by_cases hb:b∈ts.map (·.2)
   ·have z':=(if_pos hb).symm.trans z
    cases z'
    exact hta b hb
   ·have z':=(if_neg hb).symm.trans z
    cases z'
  ·by_cases hb:b∈ts.map (·.2)
   ·exact .inr hb
   ·exact absurd (if_neg hb) z
 | none =>
  let H:Hp:=fun b=>if b∈ts.map (·.2) then some (.tbl #[]) else if b=a then some (.frz { cls:=.type "list",data:=.seq vs.toArray } (.lst (ns.map V.int))) else none
  have Ha:H a=some (.frz { cls:=.type "list",data:=.seq vs.toArray } (.lst (ns.map V.int))):=(if_neg nat).trans (if_pos rfl)
  refine core H (fun b=>?_) (fun q hq=>if_pos (List.mem_map_of_mem hq)) (.inl (.inr ⟨_,Ha⟩)) (fun b u z=>?_) (fun b z=>?_) fun _=>hk
  ·by_cases hb:b∈ts.map (·.2)
   ·exact .inr (.inr ⟨hb,if_pos hb⟩)
   ·by_cases hb2:b=a
    ·exact .inr (.inl ⟨_,_,(if_neg hb).trans (if_pos hb2)⟩)
    ·exact .inl ((if_neg hb).trans (if_neg hb2))
  ·by_cases hb:b∈ts.map (·.2)
   ·have z':=(if_pos hb).symm.trans z
    cases z'
    exact hta b hb
   ·by_cases hb2:b=a
    ·have z':=((if_neg hb).trans (if_pos hb2)).symm.trans z
     cases z'
     subst hb2
     exact ⟨ha,by rw [List.length_map]; exact hl,vs,_,rv,ha⟩
    ·have z':=((if_neg hb).trans (if_neg hb2)).symm.trans z
     cases z'
  ·by_cases hb:b∈ts.map (·.2)
   ·exact .inr hb
   ·by_cases hb2:b=a
    ·exact .inl hb2
    ·exact absurd ((if_neg hb).trans (if_neg hb2)) z
def tabsIn (K:PySem.W.Frag) (ts:List (Addr×Addr)):Bool:=lamNames.all fun x=>match PySem.W.tabIn K x with
 | some q=>decide (q∈ts)
 | none=>true
theorem tabOk_start {K:PySem.W.Frag} {H:Hp} {ts:List (Addr×Addr)} (h:tabsIn K ts=true) (hT:∀ q∈ts,H q.2=some (.tbl #[])):TabOk K H:=fun x hx c P e=>by
 have:=List.all_eq_true.mp h x hx
 rw [e] at this
 exact ⟨#[],hT (c,P) (of_decide_eq_true this),trivial,fun pos cv z=>by cases z⟩
theorem walk_ofT {l:PySem.W.OpenLaw} {n k:Nat} {q:Program} {loose:List Str} {XP:(Str→Option Value)→Heap→Prop} {YP:World→Heap→Prop} {d:DefRec} {K:Params→PySem.W.Frag} {x:Str} {m:List D→LC→R D} {ts:List (Addr×Addr)}
  (hn:l.most=some n) (hn2:n≤sizeLine) (hdf:d.params.defaults=[]) (hr:Room k callerA)
  (hY:∀ (w:World) (h:Heap),YP w h→(K w.params).In h∧∀ q∈ts,h.get? q.2=some (PySem.W.tabObj #[]))
  (hK:∀ p,(ts.all fun q=>PySem.W.codeHdIn (K p) q.1 q.2)=true∧PySem.W.noTabs (K p)=true∧tabsIn (K p) ts=true)
  (F:∀ (w:World) (mg:Str→Option Value) (fa:Addr) (h:Heap),(K w.params).In h→h.Ns mainGlobals mg→mg d.name=some (.ref fa) →
   ∃ fd:FuncData,(∀ (s:Shared) (u:Value),BindsTo s fd ⟨[u],[]⟩ [(x,u)]) ∧
    ∀ base:Heap,(K w.params).In base→base.Ns mainGlobals mg→FnOk l.prog w (K w.params) mg base CX0 k fa fd [x] (spD (K w.params) 1 m))
  (hm:∀ ns:List Int,ns.length≤n→∃ c,m [.scr ns] []=.ok (.bl true) c) :
  PySem.W.WalkO q loose XP YP l.row.toRowW d [] (fun f vs=>PySem.call f vs):=by
 refine Att.attach_call hn hdf fun w s₀ s₁ mg mb fa o pm cd doc a vs ns G Y ho hd hcd hmg hobj hints hlen hg=>?_
 obtain ⟨KX,hT⟩:=hY w _ Y
 obtain ⟨fd,hb,hF⟩:=F w mg fa _ KX G.T.g hmg
 obtain ⟨k1,k2,k3⟩:=hK w.params
 refine law_callT (ts:=ts) KX G.T.g G.T.b G.T.builtins G.T.nolimit G.T.bmain hg hobj hints (Nat.le_trans hlen hn2) hr (fun q hq=>⟨List.all_eq_true.mp k1 q hq,hT q hq⟩) k2 hF hb fun H h1 h2=>?_
 obtain ⟨c,hc⟩:=hm ns hlen
 refine ⟨[],[.scr ns],[],⟨.nil,rfl,fun k a cl e=>(by cases e),tabOk_start k3 h1⟩,⟨.ref a,[],rfl,⟨a,rfl,?_⟩,rfl⟩,rfl,?_⟩
 ·rcases h2 with hS | hS
  ·exact .inl ⟨hS,by simp⟩
  ·exact .inr (.inr hS)
 ·rw [hc]
  exact fun ρ' H' b _ _ r=>r
end L2
namespace Ev
open PySem L2 PyProof.Rows
def top (i:Nat):Stmt:=PySem.Challenge.pw_evenwebs_k48_whole_webs_of_fields.main.body.getD i (.Pass ⟨0,0,0,0⟩)
abbrev qcL:Stmt:=top 5
abbrev qaQ:Stmt:=top 6
abbrev qcM:Stmt:=top 14
abbrev qb7:Stmt:=top 15
abbrev qaV:Stmt:=top 16
abbrev qdM:Stmt:=top 17
abbrev qci:Stmt:=top 18
abbrev qeJ:Stmt:=top 19
abbrev qch:Stmt:=top 8
abbrev qcg:Stmt:=top 9
abbrev qg1:Stmt:=top 10
abbrev qbN:Stmt:=top 11
abbrev qbm:Stmt:=top 20
abbrev qbT:Stmt:=top 21
abbrev qbS:Stmt:=top 22
abbrev qbO:Stmt:=top 23
abbrev qdN:Stmt:=top 25
abbrev qaA:Stmt:=top 26
abbrev qb6:Stmt:=top 27
abbrev qaF:Stmt:=top 28
abbrev qcN:Stmt:=top 29
abbrev qbA:Stmt:=top 31
abbrev qdh:Stmt:=top 32
abbrev qcI:Stmt:=top 33
abbrev qcj:Stmt:=top 34
abbrev qcJ:Stmt:=top 35
abbrev qbU:Stmt:=top 36
abbrev qck:Stmt:=top 37
abbrev qbW:Stmt:=top 38
abbrev qdg:Stmt:=top 39
abbrev qbV:Stmt:=top 40
abbrev qaJ:Stmt:=top 41
abbrev qcl:Stmt:=top 42
abbrev qcK:Stmt:=top 43
abbrev qbz:Stmt:=top 44
abbrev qdf:Stmt:=top 45
abbrev s_law:Stmt:=top 46
def lamOf (st:Stmt):Expr:=match (qad st).getLast? with
 | some (.Return (some (.Call _ [_,e] _ _)) _)=>e
 | _=>.Name "" ⟨0,0,0,0⟩
def E_lam0:Expr:=lamOf qbN
def qfa:Expr:=lamOf qbO
def qcv:List (Int×List Int):=[(2,[2,1,0]),(3,[3,1,0]),(4,[2,2,3]),(5,[5,1,0]),(7,[7,1,0]),(8,[2,3,3]),(9,[3,2,1]),(11,[11,1,0]),(13,[13,1,0]),(16,[2,4,3]),(17,[17,1,0]),(19,[19,1,0]),(23,[23,1,0]),(25,[5,2,2]),(27,[3,3,7]),(29,[29,1,0]),(31,[31,1,0]),(32,[2,5,5]),(37,[37,1,0]),(41,[41,1,0]),(43,[43,1,0]),(47,[47,1,0]),(49,[7,2,1])]
def qcT:dF :=
 (sRet (qfZ (dCB isiD (qa0 (dVar 0) (qa0 (dC (.ty "int")) dNil))) (dNotV (dCB isiD (qa0 (dVar 0) (qa0 (dC (.ty "bool")) dNil))))))
def qdl:List D→LC→R D:=fnD 1 false qcT
def qaR:dF :=
 (sRet (qfZ (qa7 1 qdl (qa0 (dVar 0) dNil)) (dChain leD leD (dVar 1) (dVar 0) (dVar 2))))
def qbD:List D→LC→R D:=fnD 3 false qaR
def qf6:yD :=
 (dBin qdv (dVar 1) (dBin ixD (dVar 2) (dVar 0)))
def qcU:dF :=
 (sRet (qfZ (qa7 1 qdl (qa0 (dVar 0) dNil)) (dBin (inF "FIELDS" qcv) (dVar 0) (dC (.fn "FIELDS" 0)))))
def qdR:List D→LC→R D:=fnD 1 false qcU
def qbb:dF :=
 (sIf (dNotT (dBl (qa7 1 qdR (qa0 (dVar 0) dNil)))) sBad qbI)
def qar:List D→LC→R D:=fnD 1 false qbb
def qaW:dF :=
 (sSeq (qbJ (qa7 1 qar (qa0 (dVar 0) dNil))) (sFor (qeB (dVar 1)) (qa3 2) (sIf (dNotT (dBl (qa7 3 qbD (qa0 (dVar 2) (qa0 (dC (.int 0)) (qa0 (dBin subD (dVar 0) (dC (.int 1))) dNil)))))) sBad qbI)))
def qaL:List D→LC→R D:=fnD 3 false qaW
def qdT:dF :=
 (sSeq (sSet 2 (dUn (fldD qcv 0) (dVar 0))) (sSeq (sSet 3 (qcC dNil)) (sSeq (sSet 4 (dVar 1)) (sSeq (sFor (qbe (qa0 (dUn (fldD qcv 1) (dVar 0)) dNil)) (qa3 5) (sSeq (qbJ (qbQ (dVar 3) (dBin modD (dVar 4) (dVar 2)))) (sSet 4 (dBin divD (dVar 4) (dVar 2))))) (sRet (dVar 3))))))
def qbB:List D→LC→R D:=fnD 6 false qdT
def qcq:dF :=
 (sSeq (sSet 2 (dUn (fldD qcv 0) (dVar 0))) (sSeq (sSet 3 (dC (.int 0))) (sSeq (sFor (dRev (qa0 (dVar 1) dNil)) (qa3 4) (sSet 3 (dBin addD (dBin mulD (dVar 3) (dVar 2)) (dBin modD (dVar 4) (dVar 2))))) (sRet (dVar 3)))))
def qbP:List D→LC→R D:=fnD 5 false qcq
def qeS:dF :=
 (sSeq (qbJ (qa7 2 qaL (qa0 (dVar 0) (qa0 (dTup (qa0 (dVar 1) (qa0 (dVar 2) dNil))) dNil)))) (sRet (qa7 2 qbP (qa0 (dVar 0) (qa0 (qaN (qfY (qa0 (qa7 2 qbB (qa0 (dVar 0) (qa0 (dVar 1) dNil))) (qa0 (qa7 2 qbB (qa0 (dVar 0) (qa0 (dVar 2) dNil))) dNil))) [none,none] (qca 2 (qaj (qa3 0) (qaj (qa3 1) qce))) dYes (dBin subD (dVar 0) (dVar 1))) dNil)))))
def qfI:List D→LC→R D:=fnD 3 false qeS
def qf5:yD :=
 (dBin inD (qa7 3 qfI (qa0 (dVar 3) (qa0 (dVar 0) (qa0 (dVar 1) dNil)))) (dVar 2))
def lams:List (Expr×List Str×(List D→LC→R D)):=[(E_lam0,["web"],lamD qf6),(qfa,["squares","q"],lamD qf5)]
def qco:dF :=
 (sRet (dCB qde (qa0 (qaN (qbe (qa0 (dVar 0) dNil)) [none,some 1,some 2] (qa3 0) (dAndT (dBl (dBin neD (dVar 0) (dVar 1))) (dBl (qfP 2 2 lams (qa0 (dVar 1) (qa0 (dVar 0) dNil))))) (dVar 0)) dNil)))
def qay:List D→LC→R D:=fnD 3 false qco
def qcn:dF :=
 (sRet (dCB qde (qa0 (qaN (qbe (qa0 (dVar 0) dNil)) [none,some 0,some 1] (qa3 0) dYes (qa7 3 qay (qa0 (dVar 1) (qa0 (dVar 0) (qa0 (dVar 2) dNil))))) dNil)))
def qaK:List D→LC→R D:=fnD 2 false qcn
def qgm:dF :=
 (sSeq (sSet 1 (qcC dNil)) (sSeq (sFor (qgV (qa0 (dVar 0) dNil)) (qca 2 (qaj (qa3 2) (qaj (qa3 3) qce))) (qbJ (qbi (dVar 1) (qaN (qeB (dVar 3)) [none,some 2] (qa3 0) (dBl (dBin ltD (dVar 1) (dVar 0))) (dTup (qa0 (dVar 1) (qa0 (dVar 0) dNil))))))) (sRet (dVar 1))))
def qex:List D→LC→R D:=fnD 4 false qgm
def qcp:dF :=
 (sRet (qdr 0 qaK (dCB lenD (qa0 (dVar 0) dNil)) E_lam0 ["web"] [0]))
def qaz:List D→LC→R D:=fnD 1 false qcp
def qbp:dF :=
 (sSeq (sSet 2 (qa7 2 qbB (qa0 (dVar 0) (qa0 (dUn (fldD qcv 2) (dVar 0)) dNil)))) (sRet (qaN (qfY (qa0 (dBin catD (dLst (qa0 (dC (.int 0)) dNil)) (dVar 1)) (qa0 (dVar 2) dNil))) [none,none,some 1] (qca 2 (qaj (qa3 0) (qaj (qa3 1) qce))) dYes (dBin subD (dVar 0) (dBin mulD (dBin ixD (dVar 2) (dUn negD (dC (.int 1)))) (dVar 1))))))
def qbo:List D→LC→R D:=fnD 3 false qbp
def qc0:dF :=
 (sSeq (qbJ (qa7 2 qaL (qa0 (dVar 0) (qa0 (dTup (qa0 (dVar 1) (qa0 (dVar 2) dNil))) dNil)))) (sSeq (sSet 3 (qa7 2 qbB (qa0 (dVar 0) (qa0 (dVar 2) dNil)))) (sSeq (sSet 4 (dBin repD (dLst (qa0 (dC (.int 0)) dNil)) (dCB lenD (qa0 (dVar 3) dNil)))) (sSeq (sFor (dRev (qa0 (qa7 2 qbB (qa0 (dVar 0) (qa0 (dVar 1) dNil))) dNil)) (qa3 5) (sSet 4 (qaN (qfY (qa0 (qa7 2 qbo (qa0 (dVar 0) (qa0 (dVar 4) dNil))) (qa0 (dVar 3) dNil))) [none,none,some 5] (qca 2 (qaj (qa3 0) (qaj (qa3 1) qce))) dYes (dBin addD (dVar 0) (dBin mulD (dVar 2) (dVar 1)))))) (sRet (qa7 2 qbP (qa0 (dVar 0) (qa0 (dVar 4) dNil))))))))
def qbY:List D→LC→R D:=fnD 6 false qc0
def qcw:dF :=
 (sSeq (qbJ (qa7 1 qar (qa0 (dVar 0) dNil))) (sRet (qbM (qa0 (qaN (qfg (qa0 (dC (.int 1)) (qa0 (dVar 0) dNil))) [none,some 0] (qa3 0) dYes (qa7 3 qbY (qa0 (dVar 1) (qa0 (dVar 0) (qa0 (dVar 0) dNil))))) dNil))))
def qbX:List D→LC→R D:=fnD 1 false qcw
def qbR:dF :=
 (sSeq (qbJ (qa7 1 qar (qa0 (dVar 0) dNil))) (sSeq (sIf (dBl (dBin neD (dBin modD (dVar 0) (dC (.int 4))) (dC (.int 1)))) sBad qbI) (sSeq (sSet 1 (qa7 1 qbX (qa0 (dVar 0) dNil))) (sRet (qdr 1 qaK (dVar 0) qfa ["squares","q"] [1,0])))))
def qd0:List D→LC→R D:=fnD 2 false qbR
def qdU:dF :=
 (sRet (qeQ (qa0 (dBin ixD (dVar 0) (dVar 1)) dNil) (qa0 (dBin ixD (dVar 0) (dVar 2)) dNil)))
def qd9:List D→LC→R D:=fnD 3 false qdU
def qaD:dF :=
 (sSeq (sFor (qgV (qa0 (dVar 0) dNil)) (qca 2 (qaj (qa3 1) (qaj (qa3 2) qce))) (sIf (dBl (dBin neD (dCB lenD (qa0 (dVar 2) dNil)) (dCB lenD (qa0 (dBin ixD (dVar 0) (dC (.int 0))) dNil)))) (sRet (dVar 1)) qbI)) (sRet (dC .non)))
def qaC:List D→LC→R D:=fnD 3 false qaD
def qba:dF :=
 (sRet (dIfE (dTru (dVar 1)) (qa7 3 qd9 (qa0 (dVar 0) (qa0 (dBin ixD (dBin ixD (dVar 1) (dC (.int 0))) (dC (.int 0))) (qa0 (dBin ixD (dBin ixD (dVar 1) (dC (.int 0))) (dC (.int 1))) dNil)))) (dC .non)))
def qaq:List D→LC→R D:=fnD 2 false qba
def qaH:dF :=
 (sSeq (sSet 2 (qa7 2 qaq (qa0 (dVar 0) (qa0 (dVar 1) dNil)))) (sSeq (sFor (dSeq (dVar 1)) (qa3 3) (sIf (dBl (dBin neD (qa7 3 qd9 (qa0 (dVar 0) (qa0 (dBin ixD (dVar 3) (dC (.int 0))) (qa0 (dBin ixD (dVar 3) (dC (.int 1))) dNil)))) (dVar 2))) (sRet (dVar 3)) qbI)) (sRet (dC .non))))
def qau:List D→LC→R D:=fnD 4 false qaH
def qct:dF :=
 (sSeq (sSet 1 (qa7 1 qaC (qa0 (dVar 0) dNil))) (sSeq (sIf (dBl (dBin qe7 (dVar 1) (dC .non))) (sRet (dTup (qa0 (dC (.str "place")) (qa0 (dVar 1) dNil)))) qbI) (sSeq (sSet 2 (qa7 1 qex (qa0 (dVar 0) dNil))) (sSeq (sSet 3 (qa7 1 qex (qa0 (qa7 1 qaz (qa0 (dVar 0) dNil)) dNil))) (sSeq (sFor (qeB (dTup (qa0 (dTup (qa0 (dC (.str "tied")) (qa0 (dVar 2) dNil))) (qa0 (dTup (qa0 (dC (.str "apart")) (qa0 (dVar 3) dNil))) dNil)))) (qca 2 (qaj (qa3 4) (qaj (qa3 5) qce))) (sSeq (sSet 6 (qa7 2 qau (qa0 (dVar 0) (qa0 (dVar 5) dNil)))) (sIf (dBl (dBin qe7 (dVar 6) (dC .non))) (sRet (dTup (qa0 (dVar 4) (qa0 (dBin ixD (dVar 6) (dC (.int 0))) (qa0 (dBin ixD (dVar 6) (dC (.int 1))) dNil))))) qbI))) (sRet (dTup (qa0 (dC (.str "even")) (qa0 (dTup (qa0 (dCB lenD (qa0 (dVar 0) dNil)) (qa0 (dCB lenD (qa0 (dBin ixD (dVar 0) (dC (.int 0))) dNil)) (qa0 (qa7 2 qaq (qa0 (dVar 0) (qa0 (dVar 2) dNil))) (qa0 (qa7 2 qaq (qa0 (dVar 0) (qa0 (dVar 3) dNil))) dNil))))) dNil)))))))))
def qb8:List D→LC→R D:=fnD 7 false qct
def qbj:dF :=
 (sSeq (sIf (dBl (dBin ltD (dVar 1) (dCB lenD (qa0 (dVar 0) dNil)))) (sRet (dBin ixD (dVar 0) (dVar 1))) qbI) (sRet (dC (.int 0))))
def qbg:List D→LC→R D:=fnD 2 false qbj
def qd5:dF :=
 (sSeq (sIf (dBl (dBin geD (dVar 0) (dBin powD (dC (.int 10)) (dC (.int 18))))) (sRet (qcC (qa0 (dBin subD (dVar 0) (dBin powD (dC (.int 10)) (dC (.int 18)))) dNil))) qbI) (sSeq (sSet 1 (dC (.int 0))) (sSeq (sFor (qbe (qa0 (dC (.int 64)) dNil)) (qa3 2) (sSeq (sSet 3 (dBin modD (dBin mulD (dBin addD (dBin addD (dBin modD (dVar 0) (dC (.int 2147483629))) (dBin mulD (dC (.int 7919)) (dVar 2))) (dC (.int 1))) (dC (.int 48271))) (dC (.int 2147483647)))) (sSeq (sSet 3 (dBin modD (dBin addD (dBin addD (dBin mulD (dVar 3) (dVar 3)) (dBin mulD (dC (.int 69621)) (dVar 2))) (dC (.int 7))) (dC (.int 2147483587)))) (sSet 1 (dBin addD (dBin mulD (dVar 1) (dC (.int 2147483587))) (dVar 3)))))) (sRet (qcC (qa0 (dVar 1) dNil))))))
def qcZ:List D→LC→R D:=fnD 4 true qd5
def qcR:dF :=
 (sSeq (sSet 2 (dBin modD (dBin ixD (dVar 0) (dC (.int 0))) (dVar 1))) (sSeq (sAsg (dBin divD (dBin ixD (dVar 0) (dC (.int 0))) (dVar 1)) (qgP (dVar 0) (dC (.int 0)))) (sRet (dVar 2))))
def qbC:List D→LC→R D:=fnD 3 false qcR
def qcr:dF :=
 (sRet (qfZ (dCB isiD (qa0 (dVar 0) (qa0 (dC (.ty "int")) dNil))) (dNotV (dCB isiD (qa0 (dVar 0) (qa0 (dC (.ty "bool")) dNil))))))
def qcX:List D→LC→R D:=fnD 1 false qcr
def qc2 (m:List D→LC→R D):dF :=
 (sSeq (sIf (dBl (dBin isD (dVar 1) (dC .non))) (sRet (dBin isD (dVar 0) (dC .non))) qbI) (sSeq (sIf (dBl (dCB isiD (qa0 (dVar 1) (qa0 (dC (.ty "bool")) dNil)))) (sRet (qfZ (dCB isiD (qa0 (dVar 0) (qa0 (dC (.ty "bool")) dNil))) (dBin eqD (dVar 0) (dVar 1)))) qbI) (sSeq (sIf (dBl (dCB isiD (qa0 (dVar 1) (qa0 (dC (.ty "int")) dNil)))) (sRet (qfZ (qa7 1 qcX (qa0 (dVar 0) dNil)) (dBin eqD (dVar 0) (dVar 1)))) qbI) (sSeq (sIf (dBl (dCB isiD (qa0 (dVar 1) (qa0 (dC (.ty "str")) dNil)))) (sRet (qfZ (dCB isiD (qa0 (dVar 0) (qa0 (dC (.ty "str")) dNil))) (dBin eqD (dVar 0) (dVar 1)))) qbI) (sSeq (sIf (dOrT (dBl (dBin neD (dCB isiD (qa0 (dVar 1) (qa0 (dC (.ty "tuple")) dNil))) (dCB isiD (qa0 (dVar 0) (qa0 (dC (.ty "tuple")) dNil))))) (dBl (dBin neD (dCB isiD (qa0 (dVar 1) (qa0 (dC (.ty "list")) dNil))) (dCB isiD (qa0 (dVar 0) (qa0 (dC (.ty "list")) dNil)))))) (sRet (dC (.bl false))) qbI) (sRet (qfZ (dBin eqD (dCB lenD (qa0 (dVar 0) dNil)) (dCB lenD (qa0 (dVar 1) dNil))) (dCB allD (qa0 (qaN (qfY (qa0 (dVar 0) (qa0 (dVar 1) dNil))) [none,none] (qca 2 (qaj (qa3 0) (qaj (qa3 1) qce))) dYes (qa7 2 m (qa0 (dVar 0) (qa0 (dVar 1) dNil)))) dNil)))))))))
def qaB:Nat→List D→LC→R D
 | 0=>fun _ _=>.bad
 | k + 1=>fnD 2 false (qc2 (qaB k))
def qc1:dF :=
 (sSeq (sSet 2 (qaN (qbe (qa0 (dVar 0) dNil)) [none] (qa3 0) dYes (qcC dNil))) (sSeq (sFor (dSeq (dVar 1)) (qca 2 (qaj (qa3 3) (qaj (qa3 4) qce))) (sSeq (qbJ (qbQ (dBin ixD (dVar 2) (dVar 3)) (dVar 4))) (qbJ (qbQ (dBin ixD (dVar 2) (dVar 4)) (dVar 3))))) (sRet (dCB qde (qa0 (qaN (dSeq (dVar 2)) [none] (qa3 0) dYes (dCB qde (qa0 (qbM (qa0 (dVar 0) dNil)) dNil))) dNil)))))
def qaY:List D→LC→R D:=fnD 5 false qc1
def qcs:dF :=
 (sRet (dBin ixD (qaN (dSeq (dLst (dInts [2,3,5,7,11,13,17,19,23,29,31,37,41,43,47]))) [none,some 0] (qa3 0) (dBl (dBin eqD (dBin modD (dVar 1) (dVar 0)) (dC (.int 0)))) (dVar 0)) (dC (.int 0))))
def qas:List D→LC→R D:=fnD 1 false qcs
def qc4:dF :=
 (sSeq (sSet 1 (dC (.int 0))) (sSeq (qcD (dBl (dBin gtD (dVar 0) (dC (.int 1)))) (sSeq (sSet 0 (dBin divD (dVar 0) (qa7 1 qas (qa0 (dVar 0) dNil)))) (sSet 1 (dBin addD (dVar 1) (dC (.int 1))))) 10) (sRet (dVar 1))))
def qaO:List D→LC→R D:=fnD 2 false qc4
def qdo:dF :=
 (sSeq (sSet 3 (qcC dNil)) (sSeq (sFor (qbe (qa0 (dVar 2) dNil)) (qa3 4) (sSeq (qbJ (qbQ (dVar 3) (dBin modD (dVar 0) (dVar 1)))) (sSet 0 (dBin divD (dVar 0) (dVar 1))))) (sRet (dVar 3))))
def qaw:List D→LC→R D:=fnD 5 false qdo
def qc3:dF :=
 (sSeq (sSet 2 (dC (.int 0))) (sSeq (sFor (qbe (qa0 (dCB lenD (qa0 (dVar 0) dNil)) dNil)) (qa3 3) (sSet 2 (dBin addD (dBin mulD (dVar 2) (dVar 1)) (dBin ixD (dVar 0) (dBin subD (dBin subD (dCB lenD (qa0 (dVar 0) dNil)) (dC (.int 1))) (dVar 3)))))) (sRet (dVar 2))))
def qbu:List D→LC→R D:=fnD 4 false qc3
def qap:dF :=
 (sSeq (sSet 3 (dBin repM (dLst (qa0 (dC (.int 0)) dNil)) (dBin subD (dBin addD (dCB lenD (qa0 (dVar 0) dNil)) (dCB lenD (qa0 (dVar 1) dNil))) (dC (.int 1))))) (sSeq (sFor (qbe (qa0 (dCB lenD (qa0 (dVar 0) dNil)) dNil)) (qa3 4) (sFor (qbe (qa0 (dCB lenD (qa0 (dVar 1) dNil)) dNil)) (qa3 5) (sAsg (dBin modD (dBin addD (dBin ixD (dVar 3) (dBin addD (dVar 4) (dVar 5))) (dBin mulD (dBin ixD (dVar 0) (dVar 4)) (dBin ixD (dVar 1) (dVar 5)))) (dVar 2)) (qgP (dVar 3) (dBin addD (dVar 4) (dVar 5)))))) (sRet (dVar 3))))
def qan:List D→LC→R D:=fnD 6 false qap
def qaG:List D→LC→R D:=fnD 6 true qap
def qby:dF :=
 (sSeq (sSet 2 (dLst (qa0 (dLst dNil) dNil))) (sSeq (sFor (qbe (qa0 (dVar 0) dNil)) (qa3 3) (sSeq (sSet 4 (qcC dNil)) (sSeq (sFor (dSeq (dVar 2)) (qa3 5) (qbJ (qbi (dVar 4) (qaN (qbe (qa0 (dVar 1) dNil)) [none,some 5] (qa3 0) dYes (dBin catD (dVar 1) (dLst (qa0 (dVar 0) dNil))))))) (sSet 2 (dVar 4))))) (sRet (qaN (dSeq (dVar 2)) [none] (qa3 0) dYes (dBin catD (dVar 0) (dLst (qa0 (dC (.int 1)) dNil)))))))
def qbv:List D→LC→R D:=fnD 6 false qby
def qcS:dF :=
 (sSeq (sSet 1 (qa7 1 qas (qa0 (dVar 0) dNil))) (sSeq (sSet 2 (qa7 1 qaO (qa0 (dVar 0) dNil))) (sSeq (sIf (dBl (dBin eqD (dVar 2) (dC (.int 1)))) (sRet (dLst (qa0 (dC (.int 0)) (qa0 (dC (.int 1)) dNil)))) qbI) (sSeq (sSet 3 (qcC dNil)) (sSeq (sFor (qfg (qa0 (dC (.int 1)) (qa0 (dBin addD (dBin divD (dVar 2) (dC (.int 2))) (dC (.int 1))) dNil))) (qa3 4) (sFor (dSeq (qa7 2 qbv (qa0 (dVar 4) (qa0 (dVar 1) dNil)))) (qa3 5) (qbJ (qbi (dVar 3) (qaN (dSeq (qa7 2 qbv (qa0 (dBin subD (dVar 2) (dVar 4)) (qa0 (dVar 1) dNil)))) [none,some 5,some 1] (qa3 0) dYes (qa7 3 qan (qa0 (dVar 1) (qa0 (dVar 0) (qa0 (dVar 2) dNil))))))))) (sSeq (sSet 6 (dC (.int 0))) (sSeq (qcD (dBl (dBin inD (dBin catD (qa7 3 qaw (qa0 (dVar 6) (qa0 (dVar 1) (qa0 (dVar 2) dNil)))) (dLst (qa0 (dC (.int 1)) dNil))) (dVar 3))) (sSet 6 (dBin addD (dVar 6) (dC (.int 1)))) 60) (sRet (dBin catD (qa7 3 qaw (qa0 (dVar 6) (qa0 (dVar 1) (qa0 (dVar 2) dNil)))) (dLst (qa0 (dC (.int 1)) dNil)))))))))))
def qcP:List D→LC→R D:=fnD 7 false qcS
def qbF:dF :=
 (sSeq (sSet 4 (qa7 1 qas (qa0 (dVar 0) dNil))) (sSeq (sSet 5 (dBin subD (dCB lenD (qa0 (dVar 1) dNil)) (dC (.int 1)))) (sSeq (sSet 6 (qa7 3 qaG (qa0 (qa7 3 qaw (qa0 (dVar 2) (qa0 (dVar 4) (qa0 (dVar 5) dNil)))) (qa0 (qa7 3 qaw (qa0 (dVar 3) (qa0 (dVar 4) (qa0 (dVar 5) dNil)))) (qa0 (dVar 4) dNil))))) (sSeq (sFor (dRng3 (qa0 (dBin subD (dCB lenD (qa0 (dVar 6) dNil)) (dC (.int 1))) (qa0 (dBin subD (dVar 5) (dC (.int 1))) (qa0 (dBin subD (dC (.int 0)) (dC (.int 1))) dNil)))) (qa3 7) (sSeq (sSet 8 (dBin ixD (dVar 6) (dVar 7))) (sFor (qbe (qa0 (dBin addD (dVar 5) (dC (.int 1))) dNil)) (qa3 9) (sSeq (sSet 10 (dBin addD (dBin subD (dVar 7) (dVar 5)) (dVar 9))) (sAsg (dBin modD (dBin subD (dBin ixD (dVar 6) (dVar 10)) (dBin mulD (dVar 8) (dBin ixD (dVar 1) (dVar 9)))) (dVar 4)) (qgP (dVar 6) (dVar 10))))))) (sRet (qa7 2 qbu (qa0 (dSl (dVar 6) dNoP (dPart (dVar 5))) (qa0 (dVar 4) dNil))))))))
def qao:List D→LC→R D:=fnD 11 false qbF
def qdn:dF :=
 (sSeq (sSet 4 (qa7 1 qas (qa0 (dVar 0) dNil))) (sSeq (sSet 5 (qa7 1 qaO (qa0 (dVar 0) dNil))) (sSeq (sSet 6 (dLst (qa0 (qa7 3 qaw (qa0 (dVar 1) (qa0 (dVar 4) (qa0 (dVar 5) dNil)))) (qa0 (qa7 3 qaw (qa0 (dVar 2) (qa0 (dVar 4) (qa0 (dVar 5) dNil)))) dNil)))) (sRet (qa7 2 qbu (qa0 (qaN (qbe (qa0 (dVar 5) dNil)) [none,some 4,some 3,some 6] (qa3 0) dYes (dBin modD (dBin addD (dBin ixD (dBin ixD (dVar 3) (dC (.int 0))) (dVar 0)) (dBin mulD (dVar 2) (dBin ixD (dBin ixD (dVar 3) (dC (.int 1))) (dVar 0)))) (dVar 1))) (qa0 (dVar 4) dNil)))))))
def qcY:List D→LC→R D:=fnD 7 false qdn
def b_law:dF :=
 (sSeq (sFor (qbe (qa0 (dC (.int 3)) dNil)) (qa3 1) (sSeq (sSet 2 (qa7 1 qcZ (qa0 (qa7 2 qbg (qa0 (dVar 0) (qa0 (dVar 1) dNil))) dNil))) (sSeq (sSet 3 (dBin ixD (dLst (dInts [5,9,13,17,25,29,37,41,49])) (qa7 2 qbC (qa0 (dVar 2) (qa0 (dBin ixD (dLst (qa0 (dC (.int 6)) (qa0 (dC (.int 6)) (qa0 (dC (.int 6)) (qa0 (dC (.int 6)) (qa0 (dC (.int 6)) (qa0 (dC (.int 6)) (qa0 (dC (.int 6)) (qa0 (dC (.int 9)) dNil))))))))) (qa7 2 qbC (qa0 (dVar 2) (qa0 (dC (.int 8)) dNil)))) dNil))))) (sSeq (sSet 4 (qa7 1 qcP (qa0 (dVar 3) dNil))) (sSeq (sSet 5 (qbM (qa0 (qaN (qfg (qa0 (dC (.int 1)) (qa0 (dVar 3) dNil))) [none,some 3,some 4] (qa3 0) dYes (qa7 4 qao (qa0 (dVar 1) (qa0 (dVar 2) (qa0 (dVar 0) (qa0 (dVar 0) dNil)))))) dNil))) (sSeq (sSet 6 (qcC dNil)) (sSeq (sFor (qbe (qa0 (dVar 3) dNil)) (qa3 7) (qbJ (qbi (dVar 6) (qaN (qbe (qa0 (dVar 7) dNil)) [none,some 7,some 5,some 3] (qa3 0) (dBl (dBin inD (qa7 4 qcY (qa0 (dVar 3) (qa0 (dVar 1) (qa0 (dVar 0) (qa0 (dBin subD (dC (.int 0)) (dC (.int 1))) dNil))))) (dVar 2))) (dTup (qa0 (dVar 1) (qa0 (dVar 0) dNil))))))) (sSeq (sSet 8 (qa7 1 qd0 (qa0 (dVar 3) dNil))) (sSeq (sIf (dNotT (dBl (qa7 2 (qaB 3) (qa0 (dVar 8) (qa0 (qa7 2 qaY (qa0 (dVar 3) (qa0 (dVar 6) dNil))) dNil))))) (sRet (dC (.bl false))) qbI) (sSeq (sSet 9 (dTup (qa0 (dC (.str "even")) (qa0 (dTup (qa0 (dVar 3) (qa0 (dBin divD (dBin subD (dVar 3) (dC (.int 1))) (dC (.int 2))) (qa0 (dBin divD (dBin subD (dVar 3) (dC (.int 5))) (dC (.int 4))) (qa0 (dBin divD (dBin subD (dVar 3) (dC (.int 1))) (dC (.int 4))) dNil))))) dNil)))) (sSeq (sIf (dOrT (dBl (dBin nevD (qa7 1 qb8 (qa0 (dVar 8) dNil)) (dVar 9))) (dBl (dBin nevD (qa7 1 qb8 (qa0 (qa7 1 qaz (qa0 (dVar 8) dNil)) dNil)) (dVar 9)))) (sRet (dC (.bl false))) qbI) (sSeq (sSet 10 (dBin ixD (qaN (qfg (qa0 (dC (.int 1)) (qa0 (dVar 3) dNil))) [none,some 5] (qa3 0) (dBl (dBin qdv (dVar 0) (dVar 1))) (dVar 0)) (dC (.int 0)))) (sSeq (sSet 11 (qaN (qbe (qa0 (dVar 3) dNil)) [none,some 3,some 4,some 10] (qa3 0) dYes (qa7 4 qao (qa0 (dVar 1) (qa0 (dVar 2) (qa0 (dVar 3) (qa0 (dVar 0) dNil))))))) (sSeq (sSet 12 (qcC dNil)) (sSeq (sFor (qbe (qa0 (dVar 3) dNil)) (qa3 7) (qbJ (qbi (dVar 12) (qaN (qeB (dBin ixD (dVar 8) (dVar 7))) [none,some 11,some 7] (qa3 0) dYes (dTup (qa0 (dBin ixD (dVar 1) (dVar 2)) (qa0 (dBin ixD (dVar 1) (dVar 0)) dNil))))))) (sIf (dBl (dBin nevD (qa7 2 qaY (qa0 (dVar 3) (qa0 (dVar 12) dNil))) (qa7 1 qaz (qa0 (dVar 8) dNil)))) (sRet (dC (.bl false))) qbI)))))))))))))))) (sRet (dC (.bl true))))
def m_law:List D→LC→R D:=fnD 13 false b_law
end Ev
namespace Ev
open PySem L2 PyProof.Rows
set_option genInjectivity false in
set_option genSizeOfSpec false in
structure Tx (K:PySem.W.Frag) (mg:Str→Option Value) where
 a_is_whole:Addr
 fd_is_whole:FuncData
 d_is_whole:Def K mg "is_whole" qcL ["thing"] a_is_whole fd_is_whole
 n_is_whole:PySem.W.nsIn K mainGlobals "is_whole"=some (some (.ref a_is_whole))
 a_is_whole_within:Addr
 fd_is_whole_within:FuncData
 d_is_whole_within:Def K mg "is_whole_within" qaQ ["thing","least","most"] a_is_whole_within fd_is_whole_within
 n_is_whole_within:PySem.W.nsIn K mainGlobals "is_whole_within"=some (some (.ref a_is_whole_within))
 a_is_field:Addr
 fd_is_field:FuncData
 d_is_field:Def K mg "is_field" qcM ["thing"] a_is_field fd_is_field
 n_is_field:PySem.W.nsIn K mainGlobals "is_field"=some (some (.ref a_is_field))
 a_require_field:Addr
 fd_require_field:FuncData
 d_require_field:Def K mg "require_field" qb7 ["thing"] a_require_field fd_require_field
 n_require_field:PySem.W.nsIn K mainGlobals "require_field"=some (some (.ref a_require_field))
 a_require_things:Addr
 fd_require_things:FuncData
 d_require_things:Def K mg "require_things" qaV ["q","things"] a_require_things fd_require_things
 n_require_things:PySem.W.nsIn K mainGlobals "require_things"=some (some (.ref a_require_things))
 a_row_of:Addr
 fd_row_of:FuncData
 d_row_of:Def K mg "row_of" qdM ["q","number"] a_row_of fd_row_of
 n_row_of:PySem.W.nsIn K mainGlobals "row_of"=some (some (.ref a_row_of))
 a_number_of:Addr
 fd_number_of:FuncData
 d_number_of:Def K mg "number_of" qci ["q","row"] a_number_of fd_number_of
 n_number_of:PySem.W.nsIn K mainGlobals "number_of"=some (some (.ref a_number_of))
 a_taken:Addr
 fd_taken:FuncData
 d_taken:Def K mg "taken" qeJ ["q","one","other"] a_taken fd_taken
 n_taken:PySem.W.nsIn K mainGlobals "taken"=some (some (.ref a_taken))
 a_row_where:Addr
 fd_row_where:FuncData
 d_row_where:Def K mg "row_where" qch ["many","one","are_tied"] a_row_where fd_row_where
 n_row_where:PySem.W.nsIn K mainGlobals "row_where"=some (some (.ref a_row_where))
 a_web_where:Addr
 fd_web_where:FuncData
 d_web_where:Def K mg "web_where" qcg ["many","are_tied"] a_web_where fd_web_where
 n_web_where:PySem.W.nsIn K mainGlobals "web_where"=some (some (.ref a_web_where))
 a_ties:Addr
 fd_ties:FuncData
 d_ties:Def K mg "ties" qg1 ["web"] a_ties fd_ties
 n_ties:PySem.W.nsIn K mainGlobals "ties"=some (some (.ref a_ties))
 a_other_web:Addr
 fd_other_web:FuncData
 d_other_web:Def K mg "other_web" qbN ["web"] a_other_web fd_other_web
 n_other_web:PySem.W.nsIn K mainGlobals "other_web"=some (some (.ref a_other_web))
 a_times_letter:Addr
 fd_times_letter:FuncData
 d_times_letter:Def K mg "times_letter" qbm ["q","row"] a_times_letter fd_times_letter
 n_times_letter:PySem.W.nsIn K mainGlobals "times_letter"=some (some (.ref a_times_letter))
 a_multiplied:Addr
 fd_multiplied:FuncData
 d_multiplied:Def K mg "multiplied" qbT ["q","one","other"] a_multiplied fd_multiplied
 n_multiplied:PySem.W.nsIn K mainGlobals "multiplied"=some (some (.ref a_multiplied))
 a_squares_in:Addr
 fd_squares_in:FuncData
 d_squares_in:Def K mg "squares_in" qbS ["q"] a_squares_in fd_squares_in
 n_squares_in:PySem.W.nsIn K mainGlobals "squares_in"=some (some (.ref a_squares_in))
 a_field_web:Addr
 fd_field_web:FuncData
 d_field_web:Def K mg "field_web" qbO ["q"] a_field_web fd_field_web
 n_field_web:PySem.W.nsIn K mainGlobals "field_web"=some (some (.ref a_field_web))
 a_common:Addr
 fd_common:FuncData
 d_common:Def K mg "common" qdN ["web","one","other"] a_common fd_common
 n_common:PySem.W.nsIn K mainGlobals "common"=some (some (.ref a_common))
 a_first_unlike_place:Addr
 fd_first_unlike_place:FuncData
 d_first_unlike_place:Def K mg "first_unlike_place" qaA ["web"] a_first_unlike_place fd_first_unlike_place
 n_first_unlike_place:PySem.W.nsIn K mainGlobals "first_unlike_place"=some (some (.ref a_first_unlike_place))
 a_shared_by_all:Addr
 fd_shared_by_all:FuncData
 d_shared_by_all:Def K mg "shared_by_all" qb6 ["web","pairs"] a_shared_by_all fd_shared_by_all
 n_shared_by_all:PySem.W.nsIn K mainGlobals "shared_by_all"=some (some (.ref a_shared_by_all))
 a_first_unlike_pair:Addr
 fd_first_unlike_pair:FuncData
 d_first_unlike_pair:Def K mg "first_unlike_pair" qaF ["web","pairs"] a_first_unlike_pair fd_first_unlike_pair
 n_first_unlike_pair:PySem.W.nsIn K mainGlobals "first_unlike_pair"=some (some (.ref a_first_unlike_pair))
 a_evenness:Addr
 fd_evenness:FuncData
 d_evenness:Def K mg "evenness" qcN ["web"] a_evenness fd_evenness
 n_evenness:PySem.W.nsIn K mainGlobals "evenness"=some (some (.ref a_evenness))
 a_law_cell_at:Addr
 fd_law_cell_at:FuncData
 d_law_cell_at:Def K mg "_law_cell_at" qbA ["script","k"] a_law_cell_at fd_law_cell_at
 n_law_cell_at:PySem.W.nsIn K mainGlobals "_law_cell_at"=some (some (.ref a_law_cell_at))
 a_law_pot:Addr
 fd_law_pot:FuncData
 d_law_pot:Def K mg "_law_pot" qdh ["cell"] a_law_pot fd_law_pot
 n_law_pot:PySem.W.nsIn K mainGlobals "_law_pot"=some (some (.ref a_law_pot))
 a_law_take:Addr
 fd_law_take:FuncData
 d_law_take:Def K mg "_law_take" qcI ["pot","far"] a_law_take fd_law_take
 n_law_take:PySem.W.nsIn K mainGlobals "_law_take"=some (some (.ref a_law_take))
 a_law_whole:Addr
 fd_law_whole:FuncData
 d_law_whole:Def K mg "_law_whole" qcj ["found"] a_law_whole fd_law_whole
 n_law_whole:PySem.W.nsIn K mainGlobals "_law_whole"=some (some (.ref a_law_whole))
 a_law_same:Addr
 fd_law_same:FuncData
 d_law_same:Def K mg "_law_same" qcJ ["found","due"] a_law_same fd_law_same
 n_law_same:PySem.W.nsIn K mainGlobals "_law_same"=some (some (.ref a_law_same))
 a_law_web_by:Addr
 fd_law_web_by:FuncData
 d_law_web_by:Def K mg "_law_web_by" qbU ["many","pairs"] a_law_web_by fd_law_web_by
 n_law_web_by:PySem.W.nsIn K mainGlobals "_law_web_by"=some (some (.ref a_law_web_by))
 a_law_prime:Addr
 fd_law_prime:FuncData
 d_law_prime:Def K mg "_law_prime" qck ["q"] a_law_prime fd_law_prime
 n_law_prime:PySem.W.nsIn K mainGlobals "_law_prime"=some (some (.ref a_law_prime))
 a_law_degree:Addr
 fd_law_degree:FuncData
 d_law_degree:Def K mg "_law_degree" qbW ["q"] a_law_degree fd_law_degree
 n_law_degree:PySem.W.nsIn K mainGlobals "_law_degree"=some (some (.ref a_law_degree))
 a_law_row:Addr
 fd_law_row:FuncData
 d_law_row:Def K mg "_law_row" qdg ["number","p","many"] a_law_row fd_law_row
 n_law_row:PySem.W.nsIn K mainGlobals "_law_row"=some (some (.ref a_law_row))
 a_law_number:Addr
 fd_law_number:FuncData
 d_law_number:Def K mg "_law_number" qbV ["row","p"] a_law_number fd_law_number
 n_law_number:PySem.W.nsIn K mainGlobals "_law_number"=some (some (.ref a_law_number))
 a_law_sums_product:Addr
 fd_law_sums_product:FuncData
 d_law_sums_product:Def K mg "_law_sums_product" qaJ ["one","other","p"] a_law_sums_product fd_law_sums_product
 n_law_sums_product:PySem.W.nsIn K mainGlobals "_law_sums_product"=some (some (.ref a_law_sums_product))
 a_law_heads:Addr
 fd_law_heads:FuncData
 d_law_heads:Def K mg "_law_heads" qcl ["many","p"] a_law_heads fd_law_heads
 n_law_heads:PySem.W.nsIn K mainGlobals "_law_heads"=some (some (.ref a_law_heads))
 a_law_form:Addr
 fd_law_form:FuncData
 d_law_form:Def K mg "_law_form" qcK ["q"] a_law_form fd_law_form
 n_law_form:PySem.W.nsIn K mainGlobals "_law_form"=some (some (.ref a_law_form))
 a_law_product:Addr
 fd_law_product:FuncData
 d_law_product:Def K mg "_law_product" qbz ["q","form","one","other"] a_law_product fd_law_product
 n_law_product:PySem.W.nsIn K mainGlobals "_law_product"=some (some (.ref a_law_product))
 a_law_sum:Addr
 fd_law_sum:FuncData
 d_law_sum:Def K mg "_law_sum" qdf ["q","one","other","sign"] a_law_sum fd_law_sum
 n_law_sum:PySem.W.nsIn K mainGlobals "_law_sum"=some (some (.ref a_law_sum))
 a_law:Addr
 fd_law:FuncData
 d_law:Def K mg "law" s_law ["script"] a_law fd_law
 n_law:PySem.W.nsIn K mainGlobals "law"=some (some (.ref a_law))
 nb_all:mg "all"=none
 nb_bool:mg "bool"=none
 nb_enumerate:mg "enumerate"=none
 nb_int:mg "int"=none
 nb_isinstance:mg "isinstance"=none
 nb_len:mg "len"=none
 nb_list:mg "list"=none
 nb_range:mg "range"=none
 nb_reversed:mg "reversed"=none
 nb_set:mg "set"=none
 nb_sorted:mg "sorted"=none
 nb_str:mg "str"=none
 nb_tuple:mg "tuple"=none
 nb_zip:mg "zip"=none
 tc_field_web:Addr
 tp_field_web:Addr
 tb_field_web:PySem.W.tabIn K "field_web"=some (tc_field_web,tp_field_web)
 th_field_web:PySem.W.codeHdIn K tc_field_web tp_field_web=true
 tc_other_web:Addr
 tp_other_web:Addr
 tb_other_web:PySem.W.tabIn K "other_web"=some (tc_other_web,tp_other_web)
 th_other_web:PySem.W.codeHdIn K tc_other_web tp_other_web=true
 tap:qdz K=true
 ad_FIELDS:Addr
 g_FIELDS:mg "FIELDS"=some (.ref ad_FIELDS)
 n_FIELDS:PySem.W.nsIn K mainGlobals "FIELDS"=some (some (.ref ad_FIELDS))
 t_FIELDS:qfN K ad_FIELDS qcv=true
section
variable {P:Program} {w:World} {K:PySem.W.Frag} {mg:Str→Option Value} {base:Heap}
theorem sc_is_whole:qag ["thing"] ["thing"] (qa5 qcL):=⟨rfl,rfl,rfl,by decide +kernel,rfl,by decide +kernel,by decide +kernel⟩
theorem qfE (T:Tx K mg):FnOk P w K mg base CX0 1 T.a_is_whole T.fd_is_whole ["thing"] (spD K 1 qdl) :=
 qbr (k:=0) T.d_is_whole.fn sc_is_whole rfl rfl fun cdv A outer s H E hr=>by
  show PSsd _ _ qcT
  unfold qcT
  exact (qaa (qal (qf0 (qae qdm T.nb_isinstance boot_isinstance (qa1 (qa2 0) (qa1 (qeK rfl T.nb_int boot_int) qa4))) (qeY (pd_not (qae qdm T.nb_isinstance boot_isinstance (qa1 (qa2 0) (qa1 (qeK rfl T.nb_bool boot_bool) qa4))))))))
theorem qej:qag ["thing","least","most"] ["thing","least","most"] (qa5 qaQ):=⟨rfl,rfl,rfl,by decide +kernel,rfl,by decide +kernel,by decide +kernel⟩
theorem qet (T:Tx K mg):FnOk P w K mg base CX0 2 T.a_is_whole_within T.fd_is_whole_within ["thing","least","most"] (spD K 3 qbD) :=
 qbr (k:=1) T.d_is_whole_within.fn qej rfl rfl fun cdv A outer s H E hr=>by
  show PSsd _ _ qaR
  unfold qaR
  exact (qaa (qal (qf0 (qat T.d_is_whole (qfE T) (hr.mono (by decide)) (qa1 (qa2 0) qa4)) (qeY (pd_chain od_le od_le (qa2 1) (qa2 0) (qa2 2))))))
theorem ok_lam0 (T:Tx K mg):LamOk P w K mg base 1 E_lam0 ["web"] 2 (spD K (2 + 1) (lamD qf6)):=by
 with_unfolding_all refine lamD_ok (k:=0) (ps:=["one","other"]) (ns:=["web"]) (d:=qf6) (LamBody.of rfl rfl rfl (by decide +kernel)) (fun q cl pm cdv ct us hl=>match us,hl with | [_,_],_=>rfl) fun q f cd cl A outer s H hr=>?_
 show PEd _ _ qf6
 unfold qf6
 exact (qeZ (od_notin (hu64 hr)) (qa2 1) (qbd qax (qa2 2) (qa2 0)))
theorem sc_is_field:qag ["thing"] ["thing"] (qa5 qcM):=⟨rfl,rfl,rfl,by decide +kernel,rfl,by decide +kernel,by decide +kernel⟩
theorem ok_is_field (T:Tx K mg):FnOk P w K mg base CX0 2 T.a_is_field T.fd_is_field ["thing"] (spD K 1 qdR) :=
 qbr (k:=1) T.d_is_field.fn sc_is_field rfl rfl fun cdv A outer s H E hr=>by
  show PSsd _ _ qcU
  unfold qcU
  exact (qaa (qal (qf0 (qat T.d_is_whole (qfE T) (hr.mono (by decide)) (qa1 (qa2 0) qa4)) (qeY (qeZ (od_inF T.n_FIELDS T.t_FIELDS) (qa2 0) (pd_gname T.g_FIELDS T.n_FIELDS))))))
theorem qfc:qag ["thing"] ["thing"] (qa5 qb7):=⟨rfl,rfl,rfl,by decide +kernel,rfl,by decide +kernel,by decide +kernel⟩
theorem qcB (T:Tx K mg):FnOk P w K mg base CX0 3 T.a_require_field T.fd_require_field ["thing"] (spD K 1 qar) :=
 qbr (k:=2) T.d_require_field.fn qfc rfl rfl fun cdv A outer s H E hr=>by
  show PSsd _ _ qbb
  unfold qbb
  exact (qaa (qdx (pd_notT (qeb (qat T.d_is_field (ok_is_field T) (hr.mono (by decide)) (qa1 (qa2 0) qa4)))) (qaa qgu) qcf))
theorem sc_require_things:qag ["q","things","thing"] ["q","things"] (qa5 qaV):=⟨rfl,rfl,rfl,by decide +kernel,rfl,by decide +kernel,by decide +kernel⟩
theorem qdi (T:Tx K mg):FnOk P w K mg base CX0 4 T.a_require_things T.fd_require_things ["q","things"] (spD K 2 qaL) :=
 qbr (k:=3) T.d_require_things.fn sc_require_things rfl rfl fun cdv A outer s H E hr=>by
  show PSsd _ _ qaW
  unfold qaW
  refine qa6 (qc7 (qat T.d_require_field (qcB T) (hr.mono (by decide)) (qa1 (qa2 0) qa4))) ?_
  exact (qaa (qbk (id_tup (qa2 1)) (qac (i:=2) (hN:=sc_require_things.nd)) (qaa (qdx (pd_notT (qeb (qat T.d_is_whole_within (qet T) (hr.mono (by decide)) (qa1 (qa2 2) (qa1 qa8 (qa1 (qa9 qc9 (qa2 0) qa8) qa4)))))) (qaa qgu) qcf))))
theorem sc_row_of:qag ["q","number","p","row","left","power"] ["q","number"] (qa5 qdM):=⟨rfl,rfl,rfl,by decide +kernel,rfl,by decide +kernel,by decide +kernel⟩
theorem qdB (T:Tx K mg):FnOk P w K mg base CX0 1 T.a_row_of T.fd_row_of ["q","number"] (spD K 2 qbB) :=
 qbr (k:=0) T.d_row_of.fn sc_row_of rfl rfl fun cdv A outer s H E hr=>by
  show PSsd _ _ qdT
  unfold qdT
  refine qa6 (qaf (i:=2) (pd_fld T.g_FIELDS T.t_FIELDS (qa2 0)) (hN:=sc_row_of.nd)) ?_
  refine qa6 (qaf (i:=3) (qdb qa4) (hN:=sc_row_of.nd)) ?_
  refine qa6 (qaf (i:=4) (qa2 1) (hN:=sc_row_of.nd)) ?_
  refine qa6 (qbk (qb9 (qa1 (pd_fld T.g_FIELDS T.t_FIELDS (qa2 0)) qa4) T.nb_range) (qac (i:=5) (hN:=sc_row_of.nd)) (qa6 (qc7 (qeo (qa2 3) (qa9 qdk (qa2 4) (qa2 2)))) (qaa (qaf (i:=4) (qa9 qf4 (qa2 4) (qa2 2)) (hN:=sc_row_of.nd))))) ?_
  exact (qaa (qal (qa2 3)))
theorem sc_number_of:qag ["q","row","p","number","digit"] ["q","row"] (qa5 qci):=⟨rfl,rfl,rfl,by decide +kernel,rfl,by decide +kernel,by decide +kernel⟩
theorem qf2 (T:Tx K mg):FnOk P w K mg base CX0 1 T.a_number_of T.fd_number_of ["q","row"] (spD K 2 qbP) :=
 qbr (k:=0) T.d_number_of.fn sc_number_of rfl rfl fun cdv A outer s H E hr=>by
  show PSsd _ _ qcq
  unfold qcq
  refine qa6 (qaf (i:=2) (pd_fld T.g_FIELDS T.t_FIELDS (qa2 0)) (hN:=sc_number_of.nd)) ?_
  refine qa6 (qaf (i:=3) qa8 (hN:=sc_number_of.nd)) ?_
  refine qa6 (qbk (id_rev (qa1 (qa2 1) qa4) T.nb_reversed) (qac (i:=4) (hN:=sc_number_of.nd)) (qaa (qaf (i:=3) (qa9 qbG (qa9 qdj (qa2 3) (qa2 2)) (qa9 qdk (qa2 4) (qa2 2))) (hN:=sc_number_of.nd)))) ?_
  exact (qaa (qal (qa2 3)))
theorem sc_taken:qag ["q","one","other"] ["q","one","other"] (qa5 qeJ):=⟨rfl,rfl,rfl,by decide +kernel,rfl,by decide +kernel,by decide +kernel⟩
theorem ok_taken (T:Tx K mg):FnOk P w K mg base CX0 5 T.a_taken T.fd_taken ["q","one","other"] (spD K 3 qfI) :=
 qbr (k:=4) T.d_taken.fn sc_taken rfl rfl fun cdv A outer s H E hr=>by
  show PSsd _ _ qeS
  unfold qeS
  refine qa6 (qc7 (qat T.d_require_things (qdi T) (hr.mono (by decide)) (qa1 (qa2 0) (qa1 (qd7 (qa1 (qa2 1) (qa1 (qa2 2) qa4))) qa4)))) ?_
  exact (qaa (qal (qat T.d_number_of (qf2 T) (hr.mono (by decide)) (qa1 (qa2 0) (qa1 (qbq (N':=["x","y"]) (pick:=[none,none]) (CompScope.of rfl rfl) (qgM (qa1 (qat T.d_row_of (qdB T) (hr.mono (by decide)) (qa1 (qa2 0) (qa1 (qa2 1) qa4))) (qa1 (qat T.d_row_of (qdB T) (hr.mono (by decide)) (qa1 (qa2 0) (qa1 (qa2 2) qa4))) qa4)) T.nb_zip) (fun _ _ _ _ _ _=>(qf7 (n:=2) (qb5 (qac (i:=0) (hN:=(by decide +kernel:List.Nodup (["x","y"]:List Str)))) (qb5 (qac (i:=1) (hN:=(by decide +kernel:List.Nodup (["x","y"]:List Str)))) qdH)))) (fun _ _ _ _ _ _=>qbf) (fun _ _ _ _ _ _=>(qa9 qc9 (qa2 0) (qa2 1)))) qa4)))))
theorem ok_lam1 (T:Tx K mg):LamOk P w K mg base 6 qfa ["squares","q"] 2 (spD K (2 + 2) (lamD qf5)):=by
 with_unfolding_all refine lamD_ok (k:=5) (ps:=["one","other"]) (ns:=["squares","q"]) (d:=qf5) (LamBody.of rfl rfl rfl (by decide +kernel)) (fun q cl pm cdv ct us hl=>match us,hl with | [_,_],_=>rfl) fun q f cd cl A outer s H hr=>?_
 show PEd _ _ qf5
 unfold qf5
 exact (qeZ (od_in (hu64 hr)) (qat T.d_taken (ok_taken T) (hr.mono (by decide)) (qa1 (qa2 3) (qa1 (qa2 0) (qa1 (qa2 1) qa4)))) (qa2 2))
theorem ok_lams (T:Tx K mg) {A:Around} (hr:Room 6 A):∀ t∈lams,∃ k,LamOk P w K mg base k t.1 t.2.1 2 (spD K (2 + t.2.1.length) t.2.2)∧Room k A:=by
 intro t ht
 unfold lams at ht
 simp only [List.mem_cons,List.not_mem_nil,or_false] at ht
 rcases ht with rfl | rfl
 ·exact ⟨_,ok_lam0 T,hr.mono (by decide)⟩
 ·exact ⟨_,ok_lam1 T,hr.mono (by decide)⟩
theorem sc_row_where:qag ["many","one","are_tied"] ["many","one","are_tied"] (qa5 qch):=⟨rfl,rfl,rfl,by decide +kernel,rfl,by decide +kernel,by decide +kernel⟩
theorem ok_row_where (T:Tx K mg):FnOk P w K mg base CX0 7 T.a_row_where T.fd_row_where ["many","one","are_tied"] (spD K 3 qay) :=
 qbr (k:=6) T.d_row_where.fn sc_row_where rfl rfl fun cdv A outer s H E hr=>by
  show PSsd _ _ qco
  unfold qco
  exact (qaa (qal (qen qfu T.nb_tuple boot_tuple (qa1 (qbq (N':=["other","one","are_tied"]) (pick:=[none,some 1,some 2]) (CompScope.of rfl rfl) (qb9 (qa1 (qa2 0) qa4) T.nb_range) (fun _ _ _ _ _ _=>(qac (i:=0) (hN:=(by decide +kernel:List.Nodup (["other","one","are_tied"]:List Str))))) (fun _ _ _ _ _ _=>(qel (PW.pt (pd_andT (qb2 od_ne (qa2 0) (qa2 1)) (pd_and1 (qeb (pd_callL 2 (ok_lams T (hr.mono (by decide))) (qa1 (qa2 1) (qa1 (qa2 0) qa4))))))))) (fun _ _ _ _ _ _=>(qa2 0))) qa4))))
theorem sc_web_where:qag ["many","are_tied"] ["many","are_tied"] (qa5 qcg):=⟨rfl,rfl,rfl,by decide +kernel,rfl,by decide +kernel,by decide +kernel⟩
theorem qf1 (T:Tx K mg):FnOk P w K mg base CX0 8 T.a_web_where T.fd_web_where ["many","are_tied"] (spD K 2 qaK) :=
 qbr (k:=7) T.d_web_where.fn sc_web_where rfl rfl fun cdv A outer s H E hr=>by
  show PSsd _ _ qcn
  unfold qcn
  exact (qaa (qal (qen qfu T.nb_tuple boot_tuple (qa1 (qbq (N':=["one","many","are_tied"]) (pick:=[none,some 0,some 1]) (CompScope.of rfl rfl) (qb9 (qa1 (qa2 0) qa4) T.nb_range) (fun _ _ _ _ _ _=>(qac (i:=0) (hN:=(by decide +kernel:List.Nodup (["one","many","are_tied"]:List Str))))) (fun _ _ _ _ _ _=>qbf) (fun _ _ _ _ _ _=>(qat T.d_row_where (ok_row_where T) (hr.mono (by decide)) (qa1 (qa2 1) (qa1 (qa2 0) (qa1 (qa2 2) qa4)))))) qa4))))
theorem sc_ties:qag ["web","told","one","row"] ["web"] (qa5 qg1):=⟨rfl,rfl,rfl,by decide +kernel,rfl,by decide +kernel,by decide +kernel⟩
theorem ok_ties (T:Tx K mg):FnOk P w K mg base CX0 1 T.a_ties T.fd_ties ["web"] (spD K 1 qex) :=
 qbr (k:=0) T.d_ties.fn sc_ties rfl rfl fun cdv A outer s H E hr=>by
  show PSsd _ _ qgm
  unfold qgm
  refine qa6 (qaf (i:=1) (qdb qa4) (hN:=sc_ties.nd)) ?_
  refine qa6 (qbk (id_enum (qa1 (qa2 0) qa4) T.nb_enumerate) (qf7 (n:=2) (qb5 (qac (i:=2) (hN:=sc_ties.nd)) (qb5 (qac (i:=3) (hN:=sc_ties.nd)) qdH))) (qaa (qc7 (qdA (qa2 1) (qbq (N':=["other","one"]) (pick:=[none,some 2]) (CompScope.of rfl rfl) (id_tup (qa2 3)) (fun _ _ _ _ _ _=>(qac (i:=0) (hN:=(by decide +kernel:List.Nodup (["other","one"]:List Str))))) (fun _ _ _ _ _ _=>(qel (qb2 od_lt (qa2 1) (qa2 0)))) (fun _ _ _ _ _ _=>(qd7 (qa1 (qa2 1) (qa1 (qa2 0) qa4))))))))) ?_
  exact (qaa (qal (qa2 1)))
theorem sc_other_web:qag ["web"] ["web"] (qa5 qbN):=⟨rfl,rfl,rfl,by decide +kernel,rfl,by decide +kernel,by decide +kernel⟩
theorem qdC (T:Tx K mg):FnOk P w K mg base CX0 9 T.a_other_web T.fd_other_web ["web"] (spD K 1 qaz) :=
 fn_okL (k:=8) T.d_other_web.fn T.n_other_web sc_other_web rfl rfl fun cdv A outer s H E hcd hr=>by
  show PSsd _ _ qcp
  unfold qcp
  exact (qaa (qal (qg4 (kk:=0) T.d_web_where (qf1 T) (hr.mono (by decide)) (qae qbK T.nb_len boot_len (qa1 (qa2 0) qa4)) (LamSc.of (by kernel_rfl)) rfl (fun _=>rfl) (y:="other_web") (by decide +kernel) T.tb_other_web T.tap (hcd _ _ T.tb_other_web) rfl T.th_other_web)))
theorem sc_times_letter:qag ["q","row","low"] ["q","row"] (qa5 qbm):=⟨rfl,rfl,rfl,by decide +kernel,rfl,by decide +kernel,by decide +kernel⟩
theorem qfB (T:Tx K mg):FnOk P w K mg base CX0 2 T.a_times_letter T.fd_times_letter ["q","row"] (spD K 2 qbo) :=
 qbr (k:=1) T.d_times_letter.fn sc_times_letter rfl rfl fun cdv A outer s H E hr=>by
  show PSsd _ _ qbp
  unfold qbp
  refine qa6 (qaf (i:=2) (qat T.d_row_of (qdB T) (hr.mono (by decide)) (qa1 (qa2 0) (qa1 (pd_fld T.g_FIELDS T.t_FIELDS (qa2 0)) qa4))) (hN:=sc_times_letter.nd)) ?_
  exact (qaa (qal (qbq (N':=["below","digit","row"]) (pick:=[none,none,some 1]) (CompScope.of rfl rfl) (qgM (qa1 (qa9 od_cat (qcW (qa1 qa8 qa4)) (qa2 1)) (qa1 (qa2 2) qa4)) T.nb_zip) (fun _ _ _ _ _ _=>(qf7 (n:=2) (qb5 (qac (i:=0) (hN:=(by decide +kernel:List.Nodup (["below","digit","row"]:List Str)))) (qb5 (qac (i:=1) (hN:=(by decide +kernel:List.Nodup (["below","digit","row"]:List Str)))) qdH)))) (fun _ _ _ _ _ _=>qbf) (fun _ _ _ _ _ _=>(qa9 qc9 (qa2 0) (qa9 qdj (qbd qax (qa2 2) (pd_un ud_neg qa8)) (qa2 1)))))))
theorem sc_multiplied:qag ["q","one","other","row","product","digit"] ["q","one","other"] (qa5 qbT):=⟨rfl,rfl,rfl,by decide +kernel,rfl,by decide +kernel,by decide +kernel⟩
theorem qgB (T:Tx K mg):FnOk P w K mg base CX0 5 T.a_multiplied T.fd_multiplied ["q","one","other"] (spD K 3 qbY) :=
 qbr (k:=4) T.d_multiplied.fn sc_multiplied rfl rfl fun cdv A outer s H E hr=>by
  show PSsd _ _ qc0
  unfold qc0
  refine qa6 (qc7 (qat T.d_require_things (qdi T) (hr.mono (by decide)) (qa1 (qa2 0) (qa1 (qd7 (qa1 (qa2 1) (qa1 (qa2 2) qa4))) qa4)))) ?_
  refine qa6 (qaf (i:=3) (qat T.d_row_of (qdB T) (hr.mono (by decide)) (qa1 (qa2 0) (qa1 (qa2 2) qa4))) (hN:=sc_multiplied.nd)) ?_
  refine qa6 (qaf (i:=4) (qa9 od_rep (qcW (qa1 qa8 qa4)) (qae qbK T.nb_len boot_len (qa1 (qa2 3) qa4))) (hN:=sc_multiplied.nd)) ?_
  refine qa6 (qbk (id_rev (qa1 (qat T.d_row_of (qdB T) (hr.mono (by decide)) (qa1 (qa2 0) (qa1 (qa2 1) qa4))) qa4) T.nb_reversed) (qac (i:=5) (hN:=sc_multiplied.nd)) (qaa (qg0 (i:=4) (hN:=sc_multiplied.nd) (N':=["x","y","digit"]) (pick:=[none,none,some 5]) (CompScope.of rfl rfl) (qgM (qa1 (qat T.d_times_letter (qfB T) (hr.mono (by decide)) (qa1 (qa2 0) (qa1 (qa2 4) qa4))) (qa1 (qa2 3) qa4)) T.nb_zip) (fun _ _ _ _ _ _=>(qf7 (n:=2) (qb5 (qac (i:=0) (hN:=(by decide +kernel:List.Nodup (["x","y","digit"]:List Str)))) (qb5 (qac (i:=1) (hN:=(by decide +kernel:List.Nodup (["x","y","digit"]:List Str)))) qdH)))) (fun _ _ _ _ _ _=>qbf) (fun _ _ _ _ _ _=>(qa9 qbG (qa2 0) (qa9 qdj (qa2 2) (qa2 1))))))) ?_
  exact (qaa (qal (qat T.d_number_of (qf2 T) (hr.mono (by decide)) (qa1 (qa2 0) (qa1 (qa2 4) qa4)))))
theorem qgv:qag ["q"] ["q"] (qa5 qbS):=⟨rfl,rfl,rfl,by decide +kernel,rfl,by decide +kernel,by decide +kernel⟩
theorem qgA (T:Tx K mg):FnOk P w K mg base CX0 6 T.a_squares_in T.fd_squares_in ["q"] (spD K 1 qbX) :=
 qbr (k:=5) T.d_squares_in.fn qgv rfl rfl fun cdv A outer s H E hr=>by
  show PSsd _ _ qcw
  unfold qcw
  refine qa6 (qc7 (qat T.d_require_field (qcB T) (hr.mono (by decide)) (qa1 (qa2 0) qa4))) ?_
  exact (qaa (qal (qeL (qa1 (qbq (N':=["thing","q"]) (pick:=[none,some 0]) (CompScope.of rfl rfl) (qgN (qa1 qa8 (qa1 (qa2 0) qa4)) T.nb_range) (fun _ _ _ _ _ _=>(qac (i:=0) (hN:=(by decide +kernel:List.Nodup (["thing","q"]:List Str))))) (fun _ _ _ _ _ _=>qbf) (fun _ _ _ _ _ _=>(qat T.d_multiplied (qgB T) (hr.mono (by decide)) (qa1 (qa2 1) (qa1 (qa2 0) (qa1 (qa2 0) qa4)))))) qa4) T.nb_sorted T.nb_set)))
theorem sc_field_web:qag ["q","squares"] ["q"] (qa5 qbO):=⟨rfl,rfl,rfl,by decide +kernel,rfl,by decide +kernel,by decide +kernel⟩
theorem ok_field_web (T:Tx K mg):FnOk P w K mg base CX0 9 T.a_field_web T.fd_field_web ["q"] (spD K 1 qd0) :=
 fn_okL (k:=8) T.d_field_web.fn T.n_field_web sc_field_web rfl rfl fun cdv A outer s H E hcd hr=>by
  show PSsd _ _ qbR
  unfold qbR
  refine qa6 (qc7 (qat T.d_require_field (qcB T) (hr.mono (by decide)) (qa1 (qa2 0) qa4))) ?_
  refine qa6 (qdx (qb2 od_ne (qa9 qdk (qa2 0) qa8) qa8) (qaa qgu) qcf) ?_
  refine qa6 (qaf (i:=1) (qat T.d_squares_in (qgA T) (hr.mono (by decide)) (qa1 (qa2 0) qa4)) (hN:=sc_field_web.nd)) ?_
  exact (qaa (qal (qg4 (kk:=1) T.d_web_where (qf1 T) (hr.mono (by decide)) (qa2 0) (LamSc.of (by kernel_rfl)) rfl (fun _=>rfl) (y:="field_web") (by decide +kernel) T.tb_field_web T.tap (hcd _ _ T.tb_field_web) rfl T.th_field_web)))
theorem sc_common:qag ["web","one","other"] ["web","one","other"] (qa5 qdN):=⟨rfl,rfl,rfl,by decide +kernel,rfl,by decide +kernel,by decide +kernel⟩
theorem ok_common (T:Tx K mg):FnOk P w K mg base CX0 1 T.a_common T.fd_common ["web","one","other"] (spD K 3 qd9) :=
 qbr (k:=0) T.d_common.fn sc_common rfl rfl fun cdv A outer s H E hr=>by
  show PSsd _ _ qdU
  unfold qdU
  exact (qaa (qal (pd_lenand (qa1 (qbd qax (qa2 0) (qa2 1)) qa4) (qa1 (qbd qax (qa2 0) (qa2 2)) qa4) T.nb_len T.nb_set)))
theorem sc_first_unlike_place:qag ["web","place","row"] ["web"] (qa5 qaA):=⟨rfl,rfl,rfl,by decide +kernel,rfl,by decide +kernel,by decide +kernel⟩
theorem qdD (T:Tx K mg):FnOk P w K mg base CX0 1 T.a_first_unlike_place T.fd_first_unlike_place ["web"] (spD K 1 qaC) :=
 qbr (k:=0) T.d_first_unlike_place.fn sc_first_unlike_place rfl rfl fun cdv A outer s H E hr=>by
  show PSsd _ _ qaD
  unfold qaD
  refine qa6 (qbk (id_enum (qa1 (qa2 0) qa4) T.nb_enumerate) (qf7 (n:=2) (qb5 (qac (i:=1) (hN:=sc_first_unlike_place.nd)) (qb5 (qac (i:=2) (hN:=sc_first_unlike_place.nd)) qdH))) (qaa (qdx (qb2 od_ne (qae qbK T.nb_len boot_len (qa1 (qa2 2) qa4)) (qae qbK T.nb_len boot_len (qa1 (qbd qax (qa2 0) qa8) qa4))) (qaa (qal (qa2 1))) qcf))) ?_
  exact (qaa (qal qfA))
theorem qfb:qag ["web","pairs"] ["web","pairs"] (qa5 qb6):=⟨rfl,rfl,rfl,by decide +kernel,rfl,by decide +kernel,by decide +kernel⟩
theorem qcA (T:Tx K mg):FnOk P w K mg base CX0 2 T.a_shared_by_all T.fd_shared_by_all ["web","pairs"] (spD K 2 qaq) :=
 qbr (k:=1) T.d_shared_by_all.fn qfb rfl rfl fun cdv A outer s H E hr=>by
  show PSsd _ _ qba
  unfold qba
  exact (qaa (qal (pd_ifE (pd_tru (qa2 1)) (qat T.d_common (ok_common T) (hr.mono (by decide)) (qa1 (qa2 0) (qa1 (qbd qax (qbd qax (qa2 1) qa8) qa8) (qa1 (qbd qax (qbd qax (qa2 1) qa8) qa8) qa4)))) qfA)))
theorem sc_first_unlike_pair:qag ["web","pairs","shared","pair"] ["web","pairs"] (qa5 qaF):=⟨rfl,rfl,rfl,by decide +kernel,rfl,by decide +kernel,by decide +kernel⟩
theorem qdY (T:Tx K mg):FnOk P w K mg base CX0 3 T.a_first_unlike_pair T.fd_first_unlike_pair ["web","pairs"] (spD K 2 qau) :=
 qbr (k:=2) T.d_first_unlike_pair.fn sc_first_unlike_pair rfl rfl fun cdv A outer s H E hr=>by
  show PSsd _ _ qaH
  unfold qaH
  refine qa6 (qaf (i:=2) (qat T.d_shared_by_all (qcA T) (hr.mono (by decide)) (qa1 (qa2 0) (qa1 (qa2 1) qa4))) (hN:=sc_first_unlike_pair.nd)) ?_
  refine qa6 (qbk (qdG (qa2 1)) (qac (i:=3) (hN:=sc_first_unlike_pair.nd)) (qaa (qdx (qb2 od_ne (qat T.d_common (ok_common T) (hr.mono (by decide)) (qa1 (qa2 0) (qa1 (qbd qax (qa2 3) qa8) (qa1 (qbd qax (qa2 3) qa8) qa4)))) (qa2 2)) (qaa (qal (qa2 3))) qcf))) ?_
  exact (qaa (qal qfA))
theorem sc_evenness:qag ["web","place","near","far","word","pairs","pair"] ["web"] (qa5 qcN):=⟨rfl,rfl,rfl,by decide +kernel,rfl,by decide +kernel,by decide +kernel⟩
theorem qfF (T:Tx K mg):FnOk P w K mg base CX0 10 T.a_evenness T.fd_evenness ["web"] (spD K 1 qb8) :=
 qbr (k:=9) T.d_evenness.fn sc_evenness rfl rfl fun cdv A outer s H E hr=>by
  show PSsd _ _ qct
  unfold qct
  refine qa6 (qaf (i:=1) (qat T.d_first_unlike_place (qdD T) (hr.mono (by decide)) (qa1 (qa2 0) qa4)) (hN:=sc_evenness.nd)) ?_
  refine qa6 (qdx (qb2 od_isnot (qa2 1) qfA) (qaa (qal (qd7 (qa1 pd_str (qa1 (qa2 1) qa4))))) qcf) ?_
  refine qa6 (qaf (i:=2) (qat T.d_ties (ok_ties T) (hr.mono (by decide)) (qa1 (qa2 0) qa4)) (hN:=sc_evenness.nd)) ?_
  refine qa6 (qaf (i:=3) (qat T.d_ties (ok_ties T) (hr.mono (by decide)) (qa1 (qat T.d_other_web (qdC T) (hr.mono (by decide)) (qa1 (qa2 0) qa4)) qa4)) (hN:=sc_evenness.nd)) ?_
  refine qa6 (qbk (id_tup (qd7 (qa1 (qd7 (qa1 pd_str (qa1 (qa2 2) qa4))) (qa1 (qd7 (qa1 pd_str (qa1 (qa2 3) qa4))) qa4)))) (qf7 (n:=2) (qb5 (qac (i:=4) (hN:=sc_evenness.nd)) (qb5 (qac (i:=5) (hN:=sc_evenness.nd)) qdH))) (qa6 (qaf (i:=6) (qat T.d_first_unlike_pair (qdY T) (hr.mono (by decide)) (qa1 (qa2 0) (qa1 (qa2 5) qa4))) (hN:=sc_evenness.nd)) (qaa (qdx (qb2 od_isnot (qa2 6) qfA) (qaa (qal (qd7 (qa1 (qa2 4) (qa1 (qbd qax (qa2 6) qa8) (qa1 (qbd qax (qa2 6) qa8) qa4)))))) qcf)))) ?_
  exact (qaa (qal (qd7 (qa1 pd_str (qa1 (qd7 (qa1 (qae qbK T.nb_len boot_len (qa1 (qa2 0) qa4)) (qa1 (qae qbK T.nb_len boot_len (qa1 (qbd qax (qa2 0) qa8) qa4)) (qa1 (qat T.d_shared_by_all (qcA T) (hr.mono (by decide)) (qa1 (qa2 0) (qa1 (qa2 2) qa4))) (qa1 (qat T.d_shared_by_all (qcA T) (hr.mono (by decide)) (qa1 (qa2 0) (qa1 (qa2 3) qa4))) qa4))))) qa4)))))
theorem qfT:qag ["script","k"] ["script","k"] (qa5 qbA):=⟨rfl,rfl,rfl,by decide +kernel,rfl,by decide +kernel,by decide +kernel⟩
theorem qfU (T:Tx K mg):FnOk P w K mg base CX0 1 T.a_law_cell_at T.fd_law_cell_at ["script","k"] (spD K 2 qbg) :=
 qbr (k:=0) T.d_law_cell_at.fn qfT rfl rfl fun cdv A outer s H E hr=>by
  show PSsd _ _ qbj
  unfold qbj
  refine qa6 (qdx (qb2 od_lt (qa2 1) (qae qbK T.nb_len boot_len (qa1 (qa2 0) qa4))) (qaa (qal (qbd qax (qa2 0) (qa2 1)))) qcf) ?_
  exact (qaa (qal qa8))
theorem sc_law_pot:qag ["cell","number","j","more"] ["cell"] (qa5 qdh):=⟨rfl,rfl,rfl,by decide +kernel,rfl,by decide +kernel,by decide +kernel⟩
theorem ok_law_pot (T:Tx K mg):FnOk P w K mg base CX0 1 T.a_law_pot T.fd_law_pot ["cell"] (spD K 1 qcZ) :=
 qbr (k:=0) T.d_law_pot.fn sc_law_pot rfl rfl fun cdv A outer s H E hr=>by
  show PSsd _ _ qd5
  unfold qd5
  refine qa6 (qdx (qb2 od_ge (qa2 0) (qa9 od_pow qa8 qa8)) (qaa (qal (qdb (qa1 (qa9 qc9 (qa2 0) (qa9 od_pow qa8 qa8)) qa4)))) qcf) ?_
  refine qa6 (qaf (i:=1) qa8 (hN:=sc_law_pot.nd)) ?_
  refine qa6 (qbk (qb9 (qa1 qa8 qa4) T.nb_range) (qac (i:=2) (hN:=sc_law_pot.nd)) (qa6 (qaf (i:=3) (qa9 qdk (qa9 qdj (qa9 qbG (qa9 qbG (qa9 qdk (qa2 0) qa8) (qa9 qdj qa8 (qa2 2))) qa8) qa8) qa8) (hN:=sc_law_pot.nd)) (qa6 (qaf (i:=3) (qa9 qdk (qa9 qbG (qa9 qbG (qa9 qdj (qa2 3) (qa2 3)) (qa9 qdj qa8 (qa2 2))) qa8) qa8) (hN:=sc_law_pot.nd)) (qaa (qaf (i:=1) (qa9 qbG (qa9 qdj (qa2 1) qa8) (qa2 3)) (hN:=sc_law_pot.nd)))))) ?_
  exact (qaa (qal (qdb (qa1 (qa2 1) qa4))))
theorem sc_law_take:qag ["pot","far","found"] ["pot","far"] (qa5 qcI):=⟨rfl,rfl,rfl,by decide +kernel,rfl,by decide +kernel,by decide +kernel⟩
theorem qfC (T:Tx K mg):FnOk P w K mg base CX0 1 T.a_law_take T.fd_law_take ["pot","far"] (spD K 2 qbC) :=
 qbr (k:=0) T.d_law_take.fn sc_law_take rfl rfl fun cdv A outer s H E hr=>by
  show PSsd _ _ qcR
  unfold qcR
  refine qa6 (qaf (i:=2) (qa9 qdk (qbd qax (qa2 0) qa8) (qa2 1)) (hN:=sc_law_take.nd)) ?_
  refine qa6 (sd_asg (qa9 qf4 (qbd qax (qa2 0) qa8) (qa2 1)) (gd_sub (qa2 0) qa8)) ?_
  exact (qaa (qal (qa2 2)))
theorem sc_law_whole:qag ["found"] ["found"] (qa5 qcj):=⟨rfl,rfl,rfl,by decide +kernel,rfl,by decide +kernel,by decide +kernel⟩
theorem ok_law_whole (T:Tx K mg):FnOk P w K mg base CX0 1 T.a_law_whole T.fd_law_whole ["found"] (spD K 1 qcX) :=
 qbr (k:=0) T.d_law_whole.fn sc_law_whole rfl rfl fun cdv A outer s H E hr=>by
  show PSsd _ _ qcr
  unfold qcr
  exact (qaa (qal (qf0 (qae qdm T.nb_isinstance boot_isinstance (qa1 (qa2 0) (qa1 (qeK rfl T.nb_int boot_int) qa4))) (qeY (pd_not (qae qdm T.nb_isinstance boot_isinstance (qa1 (qa2 0) (qa1 (qeK rfl T.nb_bool boot_bool) qa4))))))))
theorem sc_law_same:qag ["found","due"] ["found","due"] (qa5 qcJ):=⟨rfl,rfl,rfl,by decide +kernel,rfl,by decide +kernel,by decide +kernel⟩
theorem qfD (T:Tx K mg):∀ j:Nat,FnOk P w K mg base CX0 (2 + j) T.a_law_same T.fd_law_same ["found","due"] (spD K 2 (qaB j))
 | 0=>⟨fun vs H Q E h=>by obtain ⟨_,_,_,_,_,_,p⟩:=h; exact p.elim,fun A outer s H args us vs Q E hr he hb hv h=>by obtain ⟨_,_,_,_,_,_,p⟩:=h; exact p.elim⟩
 | j + 1=>qbr (k:=2 + j) T.d_law_same.fn sc_law_same rfl rfl fun cdv A outer s H E hr=>by
  have ih:FnOk P w K mg base CX0 (2 + j) T.a_law_same T.fd_law_same ["found","due"] (spD K 2 (qaB j)):=qfD T j
  show PSsd _ _ (qc2 (qaB j))
  unfold qc2
  generalize qaB j=m at ih ⊢
  refine qa6 (qdx (qb2 od_is (qa2 1) qfA) (qaa (qal (qeZ od_is (qa2 0) qfA))) qcf) ?_
  refine qa6 (qdx (qeb (qae qdm T.nb_isinstance boot_isinstance (qa1 (qa2 1) (qa1 (qeK rfl T.nb_bool boot_bool) qa4)))) (qaa (qal (qf0 (qae qdm T.nb_isinstance boot_isinstance (qa1 (qa2 0) (qa1 (qeK rfl T.nb_bool boot_bool) qa4))) (qeY (qeZ od_eq (qa2 0) (qa2 1)))))) qcf) ?_
  refine qa6 (qdx (qeb (qae qdm T.nb_isinstance boot_isinstance (qa1 (qa2 1) (qa1 (qeK rfl T.nb_int boot_int) qa4)))) (qaa (qal (qf0 (qat T.d_law_whole (ok_law_whole T) (hr.mono (by omega)) (qa1 (qa2 0) qa4)) (qeY (qeZ od_eq (qa2 0) (qa2 1)))))) qcf) ?_
  refine qa6 (qdx (qeb (qae qdm T.nb_isinstance boot_isinstance (qa1 (qa2 1) (qa1 (qeK rfl T.nb_str boot_str) qa4)))) (qaa (qal (qf0 (qae qdm T.nb_isinstance boot_isinstance (qa1 (qa2 0) (qa1 (qeK rfl T.nb_str boot_str) qa4))) (qeY (qeZ od_eq (qa2 0) (qa2 1)))))) qcf) ?_
  refine qa6 (qdx (PW.pt (pd_orT (qb2 od_ne (qae qdm T.nb_isinstance boot_isinstance (qa1 (qa2 1) (qa1 (qeK rfl T.nb_tuple boot_tuple) qa4))) (qae qdm T.nb_isinstance boot_isinstance (qa1 (qa2 0) (qa1 (qeK rfl T.nb_tuple boot_tuple) qa4)))) (pd_or1 (qb2 od_ne (qae qdm T.nb_isinstance boot_isinstance (qa1 (qa2 1) (qa1 (qeK rfl T.nb_list boot_list) qa4))) (qae qdm T.nb_isinstance boot_isinstance (qa1 (qa2 0) (qa1 (qeK rfl T.nb_list boot_list) qa4))))))) (qaa (qal pd_bl)) qcf) ?_
  exact (qaa (qal (qf0 (qeZ od_eq (qae qbK T.nb_len boot_len (qa1 (qa2 0) qa4)) (qae qbK T.nb_len boot_len (qa1 (qa2 1) qa4))) (qeY (qae cd_all T.nb_all boot_all (qa1 (qbq (N':=["one","other"]) (pick:=[none,none]) (CompScope.of rfl rfl) (qgM (qa1 (qa2 0) (qa1 (qa2 1) qa4)) T.nb_zip) (fun _ _ _ _ _ _=>(qf7 (n:=2) (qb5 (qac (i:=0) (hN:=(by decide +kernel:List.Nodup (["one","other"]:List Str)))) (qb5 (qac (i:=1) (hN:=(by decide +kernel:List.Nodup (["one","other"]:List Str)))) qdH)))) (fun _ _ _ _ _ _=>qbf) (fun _ _ _ _ _ _=>(qat T.d_law_same ih (hr.mono (by omega)) (qa1 (qa2 0) (qa1 (qa2 1) qa4))))) qa4))))))
theorem sc_law_web_by:qag ["many","pairs","rows","one","other"] ["many","pairs"] (qa5 qbU):=⟨rfl,rfl,rfl,by decide +kernel,rfl,by decide +kernel,by decide +kernel⟩
theorem qeq (T:Tx K mg):FnOk P w K mg base CX0 1 T.a_law_web_by T.fd_law_web_by ["many","pairs"] (spD K 2 qaY) :=
 qbr (k:=0) T.d_law_web_by.fn sc_law_web_by rfl rfl fun cdv A outer s H E hr=>by
  show PSsd _ _ qc1
  unfold qc1
  refine qa6 (qg0 (i:=2) (hN:=sc_law_web_by.nd) (N':=["place"]) (pick:=[none]) (CompScope.of rfl rfl) (qb9 (qa1 (qa2 0) qa4) T.nb_range) (fun _ _ _ _ _ _=>(qac (i:=0) (hN:=(by decide +kernel:List.Nodup (["place"]:List Str))))) (fun _ _ _ _ _ _=>qbf) (fun _ _ _ _ _ _=>(qdb qa4))) ?_
  refine qa6 (qbk (qdG (qa2 1)) (qf7 (n:=2) (qb5 (qac (i:=3) (hN:=sc_law_web_by.nd)) (qb5 (qac (i:=4) (hN:=sc_law_web_by.nd)) qdH))) (qa6 (qc7 (qeo (qbd qax (qa2 2) (qa2 3)) (qa2 4))) (qaa (qc7 (qeo (qbd qax (qa2 2) (qa2 4)) (qa2 3)))))) ?_
  exact (qaa (qal (qen qfu T.nb_tuple boot_tuple (qa1 (qbq (N':=["row"]) (pick:=[none]) (CompScope.of rfl rfl) (qdG (qa2 2)) (fun _ _ _ _ _ _=>(qac (i:=0) (hN:=(by decide +kernel:List.Nodup (["row"]:List Str))))) (fun _ _ _ _ _ _=>qbf) (fun _ _ _ _ _ _=>(qen qfu T.nb_tuple boot_tuple (qa1 (qeL (qa1 (qa2 0) qa4) T.nb_sorted T.nb_set) qa4)))) qa4))))
theorem sc_law_prime:qag ["q"] ["q"] (qa5 qck):=⟨rfl,rfl,rfl,by decide +kernel,rfl,by decide +kernel,by decide +kernel⟩
theorem qd8 (T:Tx K mg):FnOk P w K mg base CX0 1 T.a_law_prime T.fd_law_prime ["q"] (spD K 1 qas) :=
 qbr (k:=0) T.d_law_prime.fn sc_law_prime rfl rfl fun cdv A outer s H E hr=>by
  show PSsd _ _ qcs
  unfold qcs
  refine qaa ?_
  with_reducible refine qal ?_
  with_reducible refine qbd qax ?_ ?_ ?_
  ·with_reducible refine qbq (N':=["p","q"]) (pick:=[none,some 0]) ?_ ?_ ?_ ?_ ?_ ?_ ?_
   ·exact CompScope.of rfl rfl
   ·with_reducible refine qdG ?_
    with_reducible refine qcW ?_
    with_reducible refine pd_ints ?_
    kernel_rfl
   ·exact fun _ _ _ _ _ _=>(qac (i:=0) (hN:=(by decide +kernel:List.Nodup (["p","q"]:List Str))))
   ·exact fun _ _ _ _ _ _=>(qel (qb2 od_eq (qa9 qdk (qa2 1) (qa2 0)) qa8))
   ·exact fun _ _ _ _ _ _=>(qa2 0)
   ·rfl
   ·intro _; rfl
  ·exact qa8
  ·exact fun _ _=>rfl
theorem sc_law_degree:qag ["q","found"] ["q"] (qa5 qbW):=⟨rfl,rfl,rfl,by decide +kernel,rfl,by decide +kernel,by decide +kernel⟩
theorem qes (T:Tx K mg):FnOk P w K mg base CX0 2 T.a_law_degree T.fd_law_degree ["q"] (spD K 1 qaO) :=
 qbr (k:=1) T.d_law_degree.fn sc_law_degree rfl rfl fun cdv A outer s H E hr=>by
  show PSsd _ _ qc4
  unfold qc4
  refine qa6 (qaf (i:=1) qa8 (hN:=sc_law_degree.nd)) ?_
  refine qa6 (sd_while (n:=10) (qb2 od_gt (qa2 0) qa8) (qa6 (qaf (i:=0) (qa9 qf4 (qa2 0) (qat T.d_law_prime (qd8 T) (hr.mono (by decide)) (qa1 (qa2 0) qa4))) (hN:=sc_law_degree.nd)) (qaa (qaf (i:=1) (qa9 qbG (qa2 1) qa8) (hN:=sc_law_degree.nd))))) ?_
  exact (qaa (qal (qa2 1)))
theorem sc_law_row:qag ["number","p","many","found","k"] ["number","p","many"] (qa5 qdg):=⟨rfl,rfl,rfl,by decide +kernel,rfl,by decide +kernel,by decide +kernel⟩
theorem qcO (T:Tx K mg):FnOk P w K mg base CX0 1 T.a_law_row T.fd_law_row ["number","p","many"] (spD K 3 qaw) :=
 qbr (k:=0) T.d_law_row.fn sc_law_row rfl rfl fun cdv A outer s H E hr=>by
  show PSsd _ _ qdo
  unfold qdo
  refine qa6 (qaf (i:=3) (qdb qa4) (hN:=sc_law_row.nd)) ?_
  refine qa6 (qbk (qb9 (qa1 (qa2 2) qa4) T.nb_range) (qac (i:=4) (hN:=sc_law_row.nd)) (qa6 (qc7 (qeo (qa2 3) (qa9 qdk (qa2 0) (qa2 1)))) (qaa (qaf (i:=0) (qa9 qf4 (qa2 0) (qa2 1)) (hN:=sc_law_row.nd))))) ?_
  exact (qaa (qal (qa2 3)))
theorem sc_law_number:qag ["row","p","found","k"] ["row","p"] (qa5 qbV):=⟨rfl,rfl,rfl,by decide +kernel,rfl,by decide +kernel,by decide +kernel⟩
theorem qer (T:Tx K mg):FnOk P w K mg base CX0 1 T.a_law_number T.fd_law_number ["row","p"] (spD K 2 qbu) :=
 qbr (k:=0) T.d_law_number.fn sc_law_number rfl rfl fun cdv A outer s H E hr=>by
  show PSsd _ _ qc3
  unfold qc3
  refine qa6 (qaf (i:=2) qa8 (hN:=sc_law_number.nd)) ?_
  refine qa6 (qbk (qb9 (qa1 (qae qbK T.nb_len boot_len (qa1 (qa2 0) qa4)) qa4) T.nb_range) (qac (i:=3) (hN:=sc_law_number.nd)) (qaa (qaf (i:=2) (qa9 qbG (qa9 qdj (qa2 2) (qa2 1)) (qbd qax (qa2 0) (qa9 qc9 (qa9 qc9 (qae qbK T.nb_len boot_len (qa1 (qa2 0) qa4)) qa8) (qa2 3)))) (hN:=sc_law_number.nd)))) ?_
  exact (qaa (qal (qa2 2)))
theorem sc_law_sums_product:qag ["one","other","p","found","k","j"] ["one","other","p"] (qa5 qaJ):=⟨rfl,rfl,rfl,by decide +kernel,rfl,by decide +kernel,by decide +kernel⟩
theorem qed (T:Tx K mg):FnOk P w K mg base CX0 1 T.a_law_sums_product T.fd_law_sums_product ["one","other","p"] (spD K 3 qan) :=
 qbr (k:=0) T.d_law_sums_product.fn sc_law_sums_product rfl rfl fun cdv A outer s H E hr=>by
  show PSsd _ _ qap
  unfold qap
  refine qa6 (qaf (i:=3) (qa9 od_repM (qcW (qa1 qa8 qa4)) (qa9 qc9 (qa9 qbG (qae qbK T.nb_len boot_len (qa1 (qa2 0) qa4)) (qae qbK T.nb_len boot_len (qa1 (qa2 1) qa4))) qa8)) (hN:=sc_law_sums_product.nd)) ?_
  refine qa6 (qbk (qb9 (qa1 (qae qbK T.nb_len boot_len (qa1 (qa2 0) qa4)) qa4) T.nb_range) (qac (i:=4) (hN:=sc_law_sums_product.nd)) (qaa (qbk (qb9 (qa1 (qae qbK T.nb_len boot_len (qa1 (qa2 1) qa4)) qa4) T.nb_range) (qac (i:=5) (hN:=sc_law_sums_product.nd)) (qaa (sd_asg (qa9 qdk (qa9 qbG (qbd qax (qa2 3) (qa9 qbG (qa2 4) (qa2 5))) (qa9 qdj (qbd qax (qa2 0) (qa2 4)) (qbd qax (qa2 1) (qa2 5)))) (qa2 2)) (gd_sub (qa2 3) (qa9 qbG (qa2 4) (qa2 5)))))))) ?_
  exact (qaa (qal (qa2 3)))
theorem qdX (T:Tx K mg):FnOk P w K mg base CX0 1 T.a_law_sums_product T.fd_law_sums_product ["one","other","p"] (spD K 3 qaG) :=
 qbr (k:=0) T.d_law_sums_product.fn sc_law_sums_product rfl rfl fun cdv A outer s H E hr=>by
  show PSsd _ _ qap
  unfold qap
  refine qa6 (qaf (i:=3) (qa9 od_repM (qcW (qa1 qa8 qa4)) (qa9 qc9 (qa9 qbG (qae qbK T.nb_len boot_len (qa1 (qa2 0) qa4)) (qae qbK T.nb_len boot_len (qa1 (qa2 1) qa4))) qa8)) (hN:=sc_law_sums_product.nd)) ?_
  refine qa6 (qbk (qb9 (qa1 (qae qbK T.nb_len boot_len (qa1 (qa2 0) qa4)) qa4) T.nb_range) (qac (i:=4) (hN:=sc_law_sums_product.nd)) (qaa (qbk (qb9 (qa1 (qae qbK T.nb_len boot_len (qa1 (qa2 1) qa4)) qa4) T.nb_range) (qac (i:=5) (hN:=sc_law_sums_product.nd)) (qaa (sd_asg (qa9 qdk (qa9 qbG (qbd qax (qa2 3) (qa9 qbG (qa2 4) (qa2 5))) (qa9 qdj (qbd qax (qa2 0) (qa2 4)) (qbd qax (qa2 1) (qa2 5)))) (qa2 2)) (gd_sub (qa2 3) (qa9 qbG (qa2 4) (qa2 5)))))))) ?_
  exact (qaa (qal (qa2 3)))
theorem sc_law_heads:qag ["many","p","found","k","longer","row"] ["many","p"] (qa5 qcl):=⟨rfl,rfl,rfl,by decide +kernel,rfl,by decide +kernel,by decide +kernel⟩
theorem qf3 (T:Tx K mg):FnOk P w K mg base CX0 1 T.a_law_heads T.fd_law_heads ["many","p"] (spD K 2 qbv) :=
 qbr (k:=0) T.d_law_heads.fn sc_law_heads rfl rfl fun cdv A outer s H E hr=>by
  show PSsd _ _ qby
  unfold qby
  refine qa6 (qaf (i:=2) (qcW (qa1 (qcW qa4) qa4)) (hN:=sc_law_heads.nd)) ?_
  refine qa6 (qbk (qb9 (qa1 (qa2 0) qa4) T.nb_range) (qac (i:=3) (hN:=sc_law_heads.nd)) (qa6 (qaf (i:=4) (qdb qa4) (hN:=sc_law_heads.nd)) (qa6 (qbk (qdG (qa2 2)) (qac (i:=5) (hN:=sc_law_heads.nd)) (qaa (qc7 (qdA (qa2 4) (qbq (N':=["digit","row"]) (pick:=[none,some 5]) (CompScope.of rfl rfl) (qb9 (qa1 (qa2 1) qa4) T.nb_range) (fun _ _ _ _ _ _=>(qac (i:=0) (hN:=(by decide +kernel:List.Nodup (["digit","row"]:List Str))))) (fun _ _ _ _ _ _=>qbf) (fun _ _ _ _ _ _=>(qa9 od_cat (qa2 1) (qcW (qa1 (qa2 0) qa4))))))))) (qaa (qaf (i:=2) (qa2 4) (hN:=sc_law_heads.nd)))))) ?_
  exact (qaa (qal (qbq (N':=["row"]) (pick:=[none]) (CompScope.of rfl rfl) (qdG (qa2 2)) (fun _ _ _ _ _ _=>(qac (i:=0) (hN:=(by decide +kernel:List.Nodup (["row"]:List Str))))) (fun _ _ _ _ _ _=>qbf) (fun _ _ _ _ _ _=>(qa9 od_cat (qa2 0) (qcW (qa1 qa8 qa4)))))))
theorem sc_law_form:qag ["q","p","many","products","less","one","number"] ["q"] (qa5 qcK):=⟨rfl,rfl,rfl,by decide +kernel,rfl,by decide +kernel,by decide +kernel⟩
theorem ok_law_form (T:Tx K mg):FnOk P w K mg base CX0 3 T.a_law_form T.fd_law_form ["q"] (spD K 1 qcP) :=
 qbr (k:=2) T.d_law_form.fn sc_law_form rfl rfl fun cdv A outer s H E hr=>by
  show PSsd _ _ qcS
  unfold qcS
  refine qa6 (qaf (i:=1) (qat T.d_law_prime (qd8 T) (hr.mono (by decide)) (qa1 (qa2 0) qa4)) (hN:=sc_law_form.nd)) ?_
  refine qa6 (qaf (i:=2) (qat T.d_law_degree (qes T) (hr.mono (by decide)) (qa1 (qa2 0) qa4)) (hN:=sc_law_form.nd)) ?_
  refine qa6 (qdx (qb2 od_eq (qa2 2) qa8) (qaa (qal (qcW (qa1 qa8 (qa1 qa8 qa4))))) qcf) ?_
  refine qa6 (qaf (i:=3) (qdb qa4) (hN:=sc_law_form.nd)) ?_
  refine qa6 (qbk (qgN (qa1 qa8 (qa1 (qa9 qbG (qa9 qf4 (qa2 2) qa8) qa8) qa4)) T.nb_range) (qac (i:=4) (hN:=sc_law_form.nd)) (qaa (qbk (qdG (qat T.d_law_heads (qf3 T) (hr.mono (by decide)) (qa1 (qa2 4) (qa1 (qa2 1) qa4)))) (qac (i:=5) (hN:=sc_law_form.nd)) (qaa (qc7 (qdA (qa2 3) (qbq (N':=["other","one","p"]) (pick:=[none,some 5,some 1]) (CompScope.of rfl rfl) (qdG (qat T.d_law_heads (qf3 T) (hr.mono (by decide)) (qa1 (qa9 qc9 (qa2 2) (qa2 4)) (qa1 (qa2 1) qa4)))) (fun _ _ _ _ _ _=>(qac (i:=0) (hN:=(by decide +kernel:List.Nodup (["other","one","p"]:List Str))))) (fun _ _ _ _ _ _=>qbf) (fun _ _ _ _ _ _=>(qat T.d_law_sums_product (qed T) (hr.mono (by decide)) (qa1 (qa2 1) (qa1 (qa2 0) (qa1 (qa2 2) qa4)))))))))))) ?_
  refine qa6 (qaf (i:=6) qa8 (hN:=sc_law_form.nd)) ?_
  refine qa6 (sd_while (n:=60) (qb2 (od_in (hu64 hr)) (qa9 od_cat (qat T.d_law_row (qcO T) (hr.mono (by decide)) (qa1 (qa2 6) (qa1 (qa2 1) (qa1 (qa2 2) qa4)))) (qcW (qa1 qa8 qa4))) (qa2 3)) (qaa (qaf (i:=6) (qa9 qbG (qa2 6) qa8) (hN:=sc_law_form.nd)))) ?_
  exact (qaa (qal (qa9 od_cat (qat T.d_law_row (qcO T) (hr.mono (by decide)) (qa1 (qa2 6) (qa1 (qa2 1) (qa1 (qa2 2) qa4)))) (qcW (qa1 qa8 qa4)))))
theorem sc_law_product:qag ["q","form","one","other","p","many","row","place","often","k","at"] ["q","form","one","other"] (qa5 qbz):=⟨rfl,rfl,rfl,by decide +kernel,rfl,by decide +kernel,by decide +kernel⟩
theorem qe5 (T:Tx K mg):FnOk P w K mg base CX0 2 T.a_law_product T.fd_law_product ["q","form","one","other"] (spD K 4 qao) :=
 qbr (k:=1) T.d_law_product.fn sc_law_product rfl rfl fun cdv A outer s H E hr=>by
  show PSsd _ _ qbF
  unfold qbF
  refine qa6 (qaf (i:=4) (qat T.d_law_prime (qd8 T) (hr.mono (by decide)) (qa1 (qa2 0) qa4)) (hN:=sc_law_product.nd)) ?_
  refine qa6 (qaf (i:=5) (qa9 qc9 (qae qbK T.nb_len boot_len (qa1 (qa2 1) qa4)) qa8) (hN:=sc_law_product.nd)) ?_
  refine qa6 (qaf (i:=6) (qat T.d_law_sums_product (qdX T) (hr.mono (by decide)) (qa1 (qat T.d_law_row (qcO T) (hr.mono (by decide)) (qa1 (qa2 2) (qa1 (qa2 4) (qa1 (qa2 5) qa4)))) (qa1 (qat T.d_law_row (qcO T) (hr.mono (by decide)) (qa1 (qa2 3) (qa1 (qa2 4) (qa1 (qa2 5) qa4)))) (qa1 (qa2 4) qa4)))) (hN:=sc_law_product.nd)) ?_
  refine qa6 (qbk (id_rng3 (qa1 (qa9 qc9 (qae qbK T.nb_len boot_len (qa1 (qa2 6) qa4)) qa8) (qa1 (qa9 qc9 (qa2 5) qa8) (qa1 (qa9 qc9 qa8 qa8) qa4))) T.nb_range) (qac (i:=7) (hN:=sc_law_product.nd)) (qa6 (qaf (i:=8) (qbd qax (qa2 6) (qa2 7)) (hN:=sc_law_product.nd)) (qaa (qbk (qb9 (qa1 (qa9 qbG (qa2 5) qa8) qa4) T.nb_range) (qac (i:=9) (hN:=sc_law_product.nd)) (qa6 (qaf (i:=10) (qa9 qbG (qa9 qc9 (qa2 7) (qa2 5)) (qa2 9)) (hN:=sc_law_product.nd)) (qaa (sd_asg (qa9 qdk (qa9 qc9 (qbd qax (qa2 6) (qa2 10)) (qa9 qdj (qa2 8) (qbd qax (qa2 1) (qa2 9)))) (qa2 4)) (gd_sub (qa2 6) (qa2 10))))))))) ?_
  exact (qaa (qal (qat T.d_law_number (qer T) (hr.mono (by decide)) (qa1 (pd_sl (qa2 6) pod_none (pod_some (qa2 5))) (qa1 (qa2 4) qa4)))))
theorem sc_law_sum:qag ["q","one","other","sign","p","many","rows"] ["q","one","other","sign"] (qa5 qdf):=⟨rfl,rfl,rfl,by decide +kernel,rfl,by decide +kernel,by decide +kernel⟩
theorem ok_law_sum (T:Tx K mg):FnOk P w K mg base CX0 3 T.a_law_sum T.fd_law_sum ["q","one","other","sign"] (spD K 4 qcY) :=
 qbr (k:=2) T.d_law_sum.fn sc_law_sum rfl rfl fun cdv A outer s H E hr=>by
  show PSsd _ _ qdn
  unfold qdn
  refine qa6 (qaf (i:=4) (qat T.d_law_prime (qd8 T) (hr.mono (by decide)) (qa1 (qa2 0) qa4)) (hN:=sc_law_sum.nd)) ?_
  refine qa6 (qaf (i:=5) (qat T.d_law_degree (qes T) (hr.mono (by decide)) (qa1 (qa2 0) qa4)) (hN:=sc_law_sum.nd)) ?_
  refine qa6 (qaf (i:=6) (qcW (qa1 (qat T.d_law_row (qcO T) (hr.mono (by decide)) (qa1 (qa2 1) (qa1 (qa2 4) (qa1 (qa2 5) qa4)))) (qa1 (qat T.d_law_row (qcO T) (hr.mono (by decide)) (qa1 (qa2 2) (qa1 (qa2 4) (qa1 (qa2 5) qa4)))) qa4))) (hN:=sc_law_sum.nd)) ?_
  exact (qaa (qal (qat T.d_law_number (qer T) (hr.mono (by decide)) (qa1 (qbq (N':=["k","p","sign","rows"]) (pick:=[none,some 4,some 3,some 6]) (CompScope.of rfl rfl) (qb9 (qa1 (qa2 5) qa4) T.nb_range) (fun _ _ _ _ _ _=>(qac (i:=0) (hN:=(by decide +kernel:List.Nodup (["k","p","sign","rows"]:List Str))))) (fun _ _ _ _ _ _=>qbf) (fun _ _ _ _ _ _=>(qa9 qdk (qa9 qbG (qbd qax (qbd qax (qa2 3) qa8) (qa2 0)) (qa9 qdj (qa2 2) (qbd qax (qbd qax (qa2 3) qa8) (qa2 0)))) (qa2 1)))) (qa1 (qa2 4) qa4)))))
theorem sc_law:qag ["script","k","pot","q","form","some","pairs","one","web","due","by","led","turned"] ["script"] (qa5 s_law):=⟨rfl,rfl,rfl,by decide +kernel,rfl,by decide +kernel,by decide +kernel⟩
theorem ok_law (T:Tx K mg):FnOk P w K mg base CX0 11 T.a_law T.fd_law ["script"] (spD K 1 m_law) :=
 qbr (k:=10) T.d_law.fn sc_law rfl rfl fun cdv A outer s H E hr=>by
  show PSsd _ _ b_law
  unfold b_law
  refine qa6 (qbk (qb9 (qa1 qa8 qa4) T.nb_range) (qac (i:=1) (hN:=sc_law.nd)) (qa6 (qaf (i:=2) (qat T.d_law_pot (ok_law_pot T) (hr.mono (by decide)) (qa1 (qat T.d_law_cell_at (qfU T) (hr.mono (by decide)) (qa1 (qa2 0) (qa1 (qa2 1) qa4))) qa4)) (hN:=sc_law.nd)) (qa6 (qaf (i:=3) (qbd qax (qcW (pd_ints (by kernel_rfl))) (qat T.d_law_take (qfC T) (hr.mono (by decide)) (qa1 (qa2 2) (qa1 (qbd qax (qcW (qa1 qa8 (qa1 qa8 (qa1 qa8 (qa1 qa8 (qa1 qa8 (qa1 qa8 (qa1 qa8 (qa1 qa8 qa4))))))))) (qat T.d_law_take (qfC T) (hr.mono (by decide)) (qa1 (qa2 2) (qa1 qa8 qa4)))) qa4)))) (hN:=sc_law.nd)) (qa6 (qaf (i:=4) (qat T.d_law_form (ok_law_form T) (hr.mono (by decide)) (qa1 (qa2 3) qa4)) (hN:=sc_law.nd)) (qa6 (qaf (i:=5) (qeL (qa1 (qbq (N':=["thing","q","form"]) (pick:=[none,some 3,some 4]) (CompScope.of rfl rfl) (qgN (qa1 qa8 (qa1 (qa2 3) qa4)) T.nb_range) (fun _ _ _ _ _ _=>(qac (i:=0) (hN:=(by decide +kernel:List.Nodup (["thing","q","form"]:List Str))))) (fun _ _ _ _ _ _=>qbf) (fun _ _ _ _ _ _=>(qat T.d_law_product (qe5 T) (hr.mono (by decide)) (qa1 (qa2 1) (qa1 (qa2 2) (qa1 (qa2 0) (qa1 (qa2 0) qa4))))))) qa4) T.nb_sorted T.nb_set) (hN:=sc_law.nd)) (qa6 (qaf (i:=6) (qdb qa4) (hN:=sc_law.nd)) (qa6 (qbk (qb9 (qa1 (qa2 3) qa4) T.nb_range) (qac (i:=7) (hN:=sc_law.nd)) (qaa (qc7 (qdA (qa2 6) (qbq (N':=["other","one","some","q"]) (pick:=[none,some 7,some 5,some 3]) (CompScope.of rfl rfl) (qb9 (qa1 (qa2 7) qa4) T.nb_range) (fun _ _ _ _ _ _=>(qac (i:=0) (hN:=(by decide +kernel:List.Nodup (["other","one","some","q"]:List Str))))) (fun _ _ _ _ _ _=>(qel (qb2 (od_in (hu64 hr)) (qat T.d_law_sum (ok_law_sum T) (hr.mono (by decide)) (qa1 (qa2 3) (qa1 (qa2 1) (qa1 (qa2 0) (qa1 (qa9 qc9 qa8 qa8) qa4))))) (qa2 2)))) (fun _ _ _ _ _ _=>(qd7 (qa1 (qa2 1) (qa1 (qa2 0) qa4))))))))) (qa6 (qaf (i:=8) (qat T.d_field_web (ok_field_web T) (hr.mono (by decide)) (qa1 (qa2 3) qa4)) (hN:=sc_law.nd)) (qa6 (qdx (pd_notT (qeb (qat T.d_law_same (qfD T 3) (hr.mono (by decide)) (qa1 (qa2 8) (qa1 (qat T.d_law_web_by (qeq T) (hr.mono (by decide)) (qa1 (qa2 3) (qa1 (qa2 6) qa4))) qa4))))) (qaa (qal pd_bl)) qcf) (qa6 (qaf (i:=9) (qd7 (qa1 pd_str (qa1 (qd7 (qa1 (qa2 3) (qa1 (qa9 qf4 (qa9 qc9 (qa2 3) qa8) qa8) (qa1 (qa9 qf4 (qa9 qc9 (qa2 3) qa8) qa8) (qa1 (qa9 qf4 (qa9 qc9 (qa2 3) qa8) qa8) qa4))))) qa4))) (hN:=sc_law.nd)) (qa6 (qdx (PW.pt (pd_orT (qb2 (od_nev (hu64 hr)) (qat T.d_evenness (qfF T) (hr.mono (by decide)) (qa1 (qa2 8) qa4)) (qa2 9)) (pd_or1 (qb2 (od_nev (hu64 hr)) (qat T.d_evenness (qfF T) (hr.mono (by decide)) (qa1 (qat T.d_other_web (qdC T) (hr.mono (by decide)) (qa1 (qa2 8) qa4)) qa4)) (qa2 9))))) (qaa (qal pd_bl)) qcf) (qa6 (qaf (i:=10) (qbd qax (qbq (N':=["thing","some"]) (pick:=[none,some 5]) (CompScope.of rfl rfl) (qgN (qa1 qa8 (qa1 (qa2 3) qa4)) T.nb_range) (fun _ _ _ _ _ _=>(qac (i:=0) (hN:=(by decide +kernel:List.Nodup (["thing","some"]:List Str))))) (fun _ _ _ _ _ _=>(qel (qb2 (od_notin (hu64 hr)) (qa2 0) (qa2 1)))) (fun _ _ _ _ _ _=>(qa2 0))) qa8) (hN:=sc_law.nd)) (qa6 (qaf (i:=11) (qbq (N':=["thing","q","form","by"]) (pick:=[none,some 3,some 4,some 10]) (CompScope.of rfl rfl) (qb9 (qa1 (qa2 3) qa4) T.nb_range) (fun _ _ _ _ _ _=>(qac (i:=0) (hN:=(by decide +kernel:List.Nodup (["thing","q","form","by"]:List Str))))) (fun _ _ _ _ _ _=>qbf) (fun _ _ _ _ _ _=>(qat T.d_law_product (qe5 T) (hr.mono (by decide)) (qa1 (qa2 1) (qa1 (qa2 2) (qa1 (qa2 3) (qa1 (qa2 0) qa4))))))) (hN:=sc_law.nd)) (qa6 (qaf (i:=12) (qdb qa4) (hN:=sc_law.nd)) (qa6 (qbk (qb9 (qa1 (qa2 3) qa4) T.nb_range) (qac (i:=7) (hN:=sc_law.nd)) (qaa (qc7 (qdA (qa2 12) (qbq (N':=["other","led","one"]) (pick:=[none,some 11,some 7]) (CompScope.of rfl rfl) (id_tup (qbd qax (qa2 8) (qa2 7))) (fun _ _ _ _ _ _=>(qac (i:=0) (hN:=(by decide +kernel:List.Nodup (["other","led","one"]:List Str))))) (fun _ _ _ _ _ _=>qbf) (fun _ _ _ _ _ _=>(qd7 (qa1 (qbd qax (qa2 1) (qa2 2)) (qa1 (qbd qax (qa2 1) (qa2 0)) qa4))))))))) (qaa (qdx (qb2 (od_nev (hu64 hr)) (qat T.d_law_web_by (qeq T) (hr.mono (by decide)) (qa1 (qa2 3) (qa1 (qa2 12) qa4))) (qat T.d_other_web (qdC T) (hr.mono (by decide)) (qa1 (qa2 8) qa4))) (qaa (qal pd_bl)) qcf))))))))))))))))) ?_
  exact (qaa (qal pd_bl))
end
end Ev
namespace Fq
def rowF (p:Int):Nat→Int→List Int
 | 0,_=>[]
 | n + 1,x=>x % p :: rowF p n (x / p)
def numF (p:Int):List Int→Int
 | []=>0
 | d :: r=>numF p r * p + d % p
def qgJ:List Int→Int
 | []=>0
 | [a]=>a
 | _ :: b :: r=>qgJ (b :: r)
def tlF (low row:List Int):List Int:=List.zipWith (fun b d=>b - qgJ row * d) (0 :: row) low
def mulR (low ry:List Int):List Int→List Int
 | []=>ry.map fun _=>0
 | d :: rx=>List.zipWith (fun a b=>a + d * b) (tlF low (mulR low ry rx)) ry
def addF (p:Int) (n:Nat) (x y:Int):Int:=numF p (List.zipWith (· + ·) (rowF p n x) (rowF p n y))
def subF (p:Int) (n:Nat) (x y:Int):Int:=numF p (List.zipWith (· - ·) (rowF p n x) (rowF p n y))
def mulF (p:Int) (n:Nat) (low x y:Int):Int:=numF p (mulR (rowF p n low) (rowF p n y) (rowF p n x))
theorem num_mod (p:Int):∀ r:List Int,numF p (r.map (· % p))=numF p r
 | []=>rfl
 | d :: r=>by simp only [List.map_cons,numF,num_mod p r,Int.emod_emod_of_dvd _ (Int.dvd_refl p)]
theorem qb1 (p:Int):∀ (n:Nat) (x:Int),(rowF p n x).length=n
 | 0,_=>rfl
 | n + 1,x=>by simp [rowF,qb1 p n]
theorem zip_len {f:Int→Int→Int} {p:Int} {n:Nat} {x y:Int}:(List.zipWith f (rowF p n x) (rowF p n y)).length=n:=by simp [qb1]
section
variable {p:Int} (hp:0 < p) {n:Nat}
include hp
end
structure Fd where
 q:Nat
 p:Nat
 n:Nat
 low:Nat
 g:Nat
 E:List Nat
 L:List Nat
def fds:List Fd:=[⟨2,2,1,0,1,[1],[0,0]⟩,
 ⟨3,3,1,0,2,[1,2],[0,0,1]⟩,
 ⟨4,2,2,3,2,[1,2,3],[0,0,1,2]⟩,
 ⟨5,5,1,0,2,[1,2,4,3],[0,0,1,3,2]⟩,
 ⟨7,7,1,0,3,[1,3,2,6,4,5],[0,0,2,1,4,5,3]⟩,
 ⟨8,2,3,3,2,[1,2,4,3,6,7,5],[0,0,1,3,2,6,4,5]⟩,
 ⟨9,3,2,1,4,[1,4,6,7,2,8,3,5],[0,0,4,6,1,7,2,3,5]⟩,
 ⟨11,11,1,0,2,[1,2,4,8,5,10,9,7,3,6],[0,0,1,8,2,4,9,7,3,6,5]⟩,
 ⟨13,13,1,0,2,[1,2,4,8,3,6,12,11,9,5,10,7],[0,0,1,4,2,9,5,11,3,8,10,7,6]⟩,
 ⟨16,2,4,3,2,[1,2,4,8,3,6,12,11,5,10,7,14,15,13,9],[0,0,1,4,2,8,5,10,3,14,9,7,6,13,11,12]⟩,
 ⟨17,17,1,0,3,[1,3,9,10,13,5,15,11,16,14,8,7,4,12,2,6],[0,0,14,1,12,5,15,11,10,2,3,7,13,4,9,6,8]⟩,
 ⟨19,19,1,0,2,[1,2,4,8,16,13,7,14,9,18,17,15,11,3,6,12,5,10],[0,0,1,13,2,16,14,6,3,8,17,12,15,5,7,11,4,10,9]⟩,
 ⟨23,23,1,0,5,[1,5,2,10,4,20,8,17,16,11,9,22,18,21,13,19,3,15,6,7,12,14],[0,0,2,16,4,1,18,19,6,10,3,9,20,14,21,17,8,7,12,15,5,13,11]⟩,
 ⟨25,5,2,2,6,[1,6,14,5,8,21,3,18,7,15,19,13,4,24,16,20,22,9,2,12,23,10,11,17],[0,0,18,6,12,3,1,8,4,17,21,22,19,11,2,9,14,23,7,10,15,5,16,20,13]⟩,
 ⟨27,3,3,7,3,[1,3,9,5,15,23,13,17,20,4,12,14,11,2,6,18,7,21,16,26,22,10,8,24,25,19],[0,0,13,1,9,3,14,16,22,2,21,12,10,6,11,4,18,7,15,25,8,17,20,5,23,24,19]⟩,
 ⟨29,29,1,0,2,[1,2,4,8,16,3,6,12,24,19,9,18,7,14,28,27,25,21,13,26,23,17,5,10,20,11,22,15],[0,0,1,5,2,22,6,12,3,10,23,25,7,18,13,27,4,21,11,9,24,17,26,20,8,16,19,15,14]⟩,
 ⟨31,31,1,0,3,[1,3,9,27,19,26,16,17,20,29,25,13,8,24,10,30,28,22,4,12,5,15,14,11,2,6,18,23,7,21],[0,0,24,1,18,20,25,28,12,2,14,23,19,11,22,21,6,7,26,4,8,29,17,27,13,10,5,3,16,9,15]⟩,
 ⟨32,2,5,5,2,[1,2,4,8,16,5,10,20,13,26,17,7,14,28,29,31,27,19,3,6,12,24,21,15,30,25,23,11,22,9,18],[0,0,1,18,2,5,19,11,3,29,6,27,20,8,12,23,4,10,30,17,7,22,28,26,21,25,9,16,13,14,24,15]⟩,
 ⟨37,37,1,0,2,[1,2,4,8,16,32,27,17,34,31,25,13,26,15,30,23,9,18,36,35,33,29,21,5,10,20,3,6,12,24,11,22,7,14,28,19],[0,0,1,26,2,23,27,32,3,16,24,30,28,11,33,13,4,7,17,35,25,22,31,15,29,10,12,6,34,21,14,9,5,20,8,19,18]⟩,
 ⟨41,41,1,0,6,[1,6,36,11,25,27,39,29,10,19,32,28,4,24,21,3,18,26,33,34,40,35,5,30,16,14,2,12,31,22,9,13,37,17,20,38,23,15,8,7],[0,0,26,15,12,22,1,39,38,30,8,3,27,31,25,37,24,33,16,9,34,14,29,36,13,4,17,5,11,7,23,28,10,18,19,21,2,32,35,6,20]⟩,
 ⟨43,43,1,0,3,[1,3,9,27,38,28,41,37,25,32,10,30,4,12,36,22,23,26,35,19,14,42,40,34,16,5,15,2,6,18,11,33,13,39,31,7,21,20,17,8,24,29],[0,0,27,1,12,25,28,35,39,2,10,30,13,32,20,26,24,38,29,19,37,36,15,16,40,8,17,3,5,41,11,34,9,31,23,18,14,7,4,33,22,6,21]⟩,
 ⟨47,47,1,0,5,[1,5,25,31,14,23,21,11,8,40,12,13,18,43,27,41,17,38,2,10,3,15,28,46,42,22,16,33,24,26,36,39,7,35,34,29,4,20,6,30,9,45,37,44,32,19],[0,0,18,20,36,1,38,32,8,40,19,7,10,11,4,21,26,16,12,45,37,6,25,5,28,2,29,14,22,35,39,3,44,27,34,33,30,42,17,31,9,15,24,13,43,41,23]⟩,
 ⟨49,7,2,1,9,[1,9,31,30,21,46,16,44,5,38,43,45,7,20,24,17,4,29,19,15,35,23,8,22,6,47,25,26,28,10,40,12,2,18,13,11,42,36,32,39,3,27,37,41,14,33,48,34],[0,0,32,40,16,8,24,12,22,1,29,35,31,34,44,19,6,15,33,18,13,4,23,21,14,26,27,41,28,17,3,2,38,45,47,20,37,42,9,39,30,43,36,10,7,11,5,25,46]⟩]
def nth:List Nat→Nat→Nat
 | [],_=>0
 | a :: _,0=>a
 | _ :: l,i + 1=>nth l i
def mI (f:Fd) (x y:Nat):Int:=mulF f.p f.n f.low x y
def aI (f:Fd) (x y:Nat):Int:=addF f.p f.n x y
def M (f:Fd) (x y:Nat):Nat:=if x=0∨y=0 then 0 else nth f.E ((nth f.L x + nth f.L y) % (f.q - 1))
def Mk (f:Fd) (x y:Nat):Nat:=cond (Nat.beq x 0 || Nat.beq y 0) 0 (nth f.E ((nth f.L x + nth f.L y) % (f.q - 1)))
theorem Mk_eq (f:Fd) (x y:Nat):Mk f x y=M f x y:=by
 unfold Mk M
 by_cases h:x=0∨y=0
 ·rw [if_pos h]
  rcases h with h | h <;> subst h <;> simp
 ·rw [if_neg h]
  rw [not_or] at h
  have h1:Nat.beq x 0=false:=by cases x with | zero=>exact absurd rfl h.1 | succ _=>rfl
  have h2:Nat.beq y 0=false:=by cases y with | zero=>exact absurd rfl h.2 | succ _=>rfl
  rw [h1,h2]; rfl
def isZ (i:Int) (k:Nat):Bool:=match i with
 | .ofNat m=>Nat.beq m k
 | .negSucc _=>false
theorem isZ_eq {i:Int} {k:Nat} (h:isZ i k=true):i=k:=by
 cases i with
 | ofNat m=>have:m=k:=Nat.eq_of_beq_eq_true h; subst this; rfl
 | negSucc _=>cases h
def chkM (f:Fd):Bool:=(List.range f.q).all fun x=>(List.range f.q).all fun y=>isZ (mI f x y) (Mk f x y)
def chkD (f:Fd):Bool:=(List.range f.q).all fun x=>(List.range f.q).all fun y=>Nat.beq (Mk f f.g (aI f x y).toNat) (aI f (Mk f f.g x) (Mk f f.g y)).toNat
def chkE (f:Fd):Bool:=(List.range (f.q - 1)).all fun i=>Nat.beq (nth f.L (nth f.E i)) i && !Nat.beq (nth f.E i) 0 && Nat.ble (nth f.E i + 1) f.q
def chkL (f:Fd):Bool:=(List.range f.q).all fun x=>Nat.beq x 0 || (Nat.beq (nth f.E (nth f.L x)) x && Nat.ble (nth f.L x + 1) (f.q - 1))
def chkO (f:Fd):Bool:=Nat.ble 2 f.q && Nat.beq (f.p ^ f.n) f.q && Nat.beq (nth f.E 0) 1 && Nat.ble 2 f.p && Nat.ble f.p 47 && Nat.ble 1 f.n && Nat.ble f.n 5 && Nat.beq (nth f.E (1 % (f.q - 1))) f.g && Nat.ble (f.low + 1) f.q && Nat.ble 1 f.g && Nat.ble (f.g + 1) f.q
theorem all_M:fds.all chkM=true:=by decide +kernel
theorem all_D:fds.all chkD=true:=by decide +kernel
theorem all_E:fds.all chkE=true:=by decide +kernel
theorem all_L:fds.all chkL=true:=by decide +kernel
theorem all_O:fds.all chkO=true:=by decide +kernel
end Fq
namespace Fq
theorem bl {a b:Nat} (h:Nat.ble a b=true):a≤b:=Nat.le_of_ble_eq_true h
theorem be {a b:Nat} (h:Nat.beq a b=true):a=b:=Nat.eq_of_beq_eq_true h
structure Is (f:Fd):Prop where
 q2:2≤f.q
 pn:f.p ^ f.n=f.q
 e0:nth f.E 0=1
 p2:2≤f.p
 p47:f.p≤47
 n1:1≤f.n
 n5:f.n≤5
 eg:nth f.E (1 % (f.q - 1))=f.g
 lo:f.low < f.q
 g1:1≤f.g
 gq:f.g < f.q
 le:∀ i,i < f.q - 1→nth f.L (nth f.E i)=i∧nth f.E i≠0∧nth f.E i < f.q
 el:∀ x,x < f.q→x≠0→nth f.E (nth f.L x)=x∧nth f.L x < f.q - 1
 mm:∀ x y,x < f.q→y < f.q→mI f x y=(M f x y:Nat)
 dd:∀ x y,x < f.q→y < f.q→M f f.g (aI f x y).toNat=(aI f (M f f.g x) (M f f.g y)).toNat
theorem qe0 {f:Fd} (h:f∈fds):Is f:=by
 have hM:=List.all_eq_true.mp all_M f h
 have hD:=List.all_eq_true.mp all_D f h
 have hE:=List.all_eq_true.mp all_E f h
 have hL:=List.all_eq_true.mp all_L f h
 have hO:=List.all_eq_true.mp all_O f h
 simp only [chkO,Bool.and_eq_true] at hO
 obtain ⟨⟨⟨⟨⟨⟨⟨⟨⟨⟨o1,o2⟩,o3⟩,o4⟩,o5⟩,o6⟩,o7⟩,o8⟩,o9⟩,o10⟩,o11⟩:=hO
 refine ⟨bl o1,be o2,be o3,bl o4,bl o5,bl o6,bl o7,be o8,bl o9,bl o10,bl o11,fun i hi=>?_,fun x hx h0=>?_,fun x y hx hy=>?_,fun x y hx hy=>?_⟩
 ·have:=List.all_eq_true.mp hE i (List.mem_range.mpr hi)
  simp only [Bool.and_eq_true,Bool.not_eq_true'] at this
  exact ⟨be this.1.1,fun z=>by rw [z] at this; simp at this,bl this.2⟩
 ·have:=List.all_eq_true.mp hL x (List.mem_range.mpr hx)
  simp only [Bool.or_eq_true,Bool.and_eq_true] at this
  rcases this with this | this
  ·exact absurd (be this) h0
  ·exact ⟨be this.1,bl this.2⟩
 ·have:=List.all_eq_true.mp (List.all_eq_true.mp hM x (List.mem_range.mpr hx)) y (List.mem_range.mpr hy)
  rw [isZ_eq this,Mk_eq]
 ·have:=List.all_eq_true.mp (List.all_eq_true.mp hD x (List.mem_range.mpr hx)) y (List.mem_range.mpr hy)
  have:=be this
  rwa [Mk_eq,Mk_eq,Mk_eq] at this
section
variable {f:Fd} (I:Is f)
include I
theorem Is.pw:((f.p:Int)) ^ f.n=(f.q:Int):=by rw [← I.pn]; simp
theorem M_lt (x y:Nat):M f x y < f.q:=by
 have:=I.q2
 unfold M
 split
 ·omega
 ·exact (I.le _ (Nat.mod_lt _ (by omega))).2.2
end
def P (f:Fd) (x:Nat):Nat→Nat
 | 0=>1
 | k + 1=>M f (P f x k) x
def Rz (f:Fd) (x k:Nat):Nat:=if x=0 then (if k=0 then 1 else 0) else P f x (k % (f.q - 1))
section
variable {f:Fd} (I:Is f)
include I
end
end Fq
namespace Ev
open PySem L2 Fq
theorem whole_int (i:Int) (c:LC):qdl [.int i] c=.ok (.bl true) c:=by simp [qdl,qcT]
theorem within_int (i lo hi:Int) (c:LC):qbD [.int i,.int lo,.int hi] c=.ok (.bl (decide (lo≤i) && decide (i≤hi))) c:=by
 simp [qbD,qaR,whole_int]
 by_cases q:lo≤i <;> simp [q]
theorem tabs_ok:(fds.all fun f=>decide (tabF qcv f.q=some [(f.p:Int),f.n,f.low]))=true:=by decide +kernel
theorem tab_at {f:Fd} (h:f∈fds):tabF qcv f.q=some [(f.p:Int),f.n,f.low]:=by
 have:=List.all_eq_true.mp tabs_ok f h
 simpa using this
theorem is_field_ok {f:Fd} (h:f∈fds) (c:LC):qdR [.int f.q] c=.ok (.bl true) c:=by
 simp [qdR,qcU,whole_int,tab_at h]
theorem qcz {f:Fd} (h:f∈fds) (c:LC):qar [.int f.q] c=.ok .non c:=by
 simp [qar,qbb,is_field_ok h]
theorem things2 {f:Fd} (h:f∈fds) {x y:Int} (x0:0≤x) (x1:x < f.q) (y0:0≤y) (y1:y < f.q) (c:LC):qaL [.int f.q,.tup [.int x,.int y]] c=.ok .non c:=by
 have a1:x≤(f.q:Int) - 1:=by omega
 have a2:y≤(f.q:Int) - 1:=by omega
 simp [qaL,qaW,qcz h,within_int,x0,y0,a1,a2]
def rowB:dF:=(sSeq (qbJ (qbQ (dVar 3) (dBin modD (dVar 4) (dVar 2)))) (sSet 4 (dBin divD (dVar 4) (dVar 2))))
theorem row_step {c:LC} {a0 a1 v5:Option D} {p left:Int} {acc:List D} (hp:0 < p) (hp':p < 1000) (ha:acc.length < 1000):rowB [a0,a1,some (.int p),some (.ref c.length),some (.int left),v5] (c ++ [.lst acc]) =
  .ok (.nx [a0,a1,some (.int p),some (.ref c.length),some (.int (left / p)),v5]) (c ++ [.lst (acc ++ [.int (left % p)])]):=by
 have h:=qfR (c:=c) (acc:=acc) (y:=.int (left % p)) (dO:=dVar 3) (da:=dBin modD (dVar 4) (dVar 2)) (e:=[a0,a1,some (.int p),some (.ref c.length),some (.int left),v5]) (by simp) (by simp (disch:=omega) [qfV]) rfl (by have:=qam (n:=1000) (by decide); omega)
 unfold rowB
 rw [qe9,qeT,h]
 simp (disch:=omega) [div_c]
theorem row_loop {c:LC} {a0 a1:Option D} {p:Int} (hp:0 < p) (hp':p < 1000):∀ (items:List D) (left:Int) (acc:List D) (v5:Option D),acc.length + items.length < 1000 →
  ∃ l' v5',forD (fun _=>True) (qa3 5) rowB items [a0,a1,some (.int p),some (.ref c.length),some (.int left),v5] (c ++ [.lst acc]) =
   .ok (.nx [a0,a1,some (.int p),some (.ref c.length),some (.int l'),v5']) (c ++ [.lst (acc ++ (rowF p items.length left).map D.int)])
 | [],left,acc,v5,_=>⟨left,v5,by simp [rowF]⟩
 | x :: xs,left,acc,v5,h=>by
  simp only [List.length_cons] at h
  obtain ⟨l',v',ih⟩:=row_loop hp hp' xs (left / p) (acc ++ [.int (left % p)]) (some x) (by simp; omega)
  refine ⟨l',v',?_⟩
  rw [qbE]
  simp only [qgp,List.set_cons_succ,List.set_cons_zero,R.bind_ok]
  rw [row_step hp hp' (by omega)]
  simp only [R.bind_ok]
  rw [ih]
  simp [rowF]
theorem row_gen {q p N low:Int} (ht:tabF qcv q=some [p,N,low]) (hp:0 < p) (hp':p < 1000) {n:Nat} (hl:(rngD 0 N).length=n) (hn:n < 1000) (b1:-4611686018427387904≤N∧N < 4611686018427387904) (x:Int) (c:LC) :
  qbB [.int q,.int x] c=.ok (.lst ((rowF p n x).map D.int)) c:=by
 obtain ⟨l',v',hf⟩:=row_loop (c:=c) (a0:=some (.int q)) (a1:=some (.int x)) (p:=p) hp hp' (rngD 0 N) x [] none (by rw [hl,List.length_nil]; omega)
 rw [hl,List.nil_append] at hf
 unfold rowB at hf
 simp [qbB,qdT,ht]
 rw [if_pos b1]
 simp only [R.bind_ok]
 rw [hf]
 simp [qbx,qcm]
theorem row_ok {f:Fd} (h:f∈fds) (x:Int) (c:LC):qbB [.int f.q,.int x] c=.ok (.lst ((rowF f.p f.n x).map D.int)) c:=by
 have I:=qe0 h
 have p2:=I.p2
 have p47:=I.p47
 have n5:=I.n5
 exact row_gen (tab_at h) (by omega) (by omega) (by rw [qbH]; omega) (by omega) (by omega) x c
def numB:dF:=(sSet 3 (dBin addD (dBin mulD (dVar 3) (dVar 2)) (dBin modD (dVar 4) (dVar 2))))
theorem num_fold (p:Int):∀ r:List Int,r.foldr (fun d n=>n * p + d % p) 0=numF p r
 | []=>rfl
 | d :: r=>by simp only [List.foldr_cons,num_fold p r,numF]
theorem num_loop {c:LC} {a0 a1:Option D} {p:Int} (hp:0 < p) (hp':p < 1000):∀ (ds:List Int) (acc:Int) (v4:Option D),
  ∃ v',forD (fun _=>True) (qa3 4) numB (ds.map D.int) [a0,a1,some (.int p),some (.int acc),v4] c=.ok (.nx [a0,a1,some (.int p),some (.int (ds.foldl (fun n d=>n * p + d % p) acc)),v']) c
 | [],acc,v4=>⟨v4,by simp⟩
 | d :: ds,acc,v4=>by
  obtain ⟨v',ih⟩:=num_loop hp hp' ds (acc * p + d % p) (some (.int d))
  refine ⟨v',?_⟩
  rw [List.map_cons,qbE]
  simp only [qgp,List.set_cons_succ,List.set_cons_zero,R.bind_ok]
  have e:numB [a0,a1,some (.int p),some (.int acc),some (.int d)] c=.ok (.nx [a0,a1,some (.int p),some (.int (acc * p + d % p)),some (.int d)]) c:=by
   simp (disch:=omega) [numB,mul_r,qfV]
  rw [e]
  simp only [R.bind_ok]
  rw [ih]
  simp
theorem num_ok {f:Fd} (h:f∈fds) (r:List Int) (c:LC):qbP [.int f.q,.lst (r.map D.int)] c=.ok (.int (numF f.p r)) c:=by
 have I:=qe0 h
 have p2:=I.p2
 have p47:=I.p47
 obtain ⟨v',hf⟩:=num_loop (c:=c) (a0:=some (.int f.q)) (a1:=some (.lst (r.map D.int))) (p:=f.p) (by omega) (by omega) r.reverse 0 none
 rw [List.foldl_reverse,num_fold,List.map_reverse] at hf
 unfold numB at hf
 simp [qbP,qcq,tab_at h]
 rw [hf]
 simp
theorem taken_ok {f:Fd} (h:f∈fds) {x y:Int} (x0:0≤x) (x1:x < f.q) (y0:0≤y) (y1:y < f.q) (c:LC):qfI [.int f.q,.int x,.int y] c=.ok (.int (subF f.p f.n x y)) c:=by
 have n5:=(qe0 h).n5
 have hs:=qam (n:=1000) (by decide)
 have hz:f.n < sizeLine:=by omega
 have hc:=qfs (st:=fun _=>True∧True) (c:=c) ⟨trivial,trivial⟩ (a:=dBin subD (dVar 0) (dVar 1)) (· - ·) [] (rowF f.p f.n x) (rowF f.p f.n y) none none [] (fun u _ v _=>by simp)
 have hn:=num_ok h (List.zipWith (· - ·) (rowF f.p f.n x) (rowF f.p f.n y)) c
 simp [qfI,qeS,things2 h x0 x1 y0 y1,row_ok h,stayD,qb1,hz,qdq]
 simp at hc hn
 rw [hc]
 simp [hn,subF]
theorem at_last:∀ {r:List Int},r≠[]→atI (r.map D.int) (-1)=some (.int (qgJ r)):=by
 have gen:∀ r:List Int,r≠[]→(r.map D.int)[r.length - 1]? = some (.int (qgJ r)):=by
  intro r
  induction r with
  | nil=>intro h; exact absurd rfl h
  | cons a r ih =>
   intro _
   cases r with
   | nil=>rfl
   | cons b r =>
    have:=ih (by simp)
    simpa [qgJ] using this
 intro r hr
 have hl:0 < r.length:=List.length_pos_iff.mpr hr
 have g:=gen r hr
 unfold atI ixN
 rw [List.length_map,if_neg (by decide),if_pos (by omega)]
 show (r.map D.int)[((-1:Int) + (r.length:Int)).toNat]? = _
 rw [show ((-1:Int) + (r.length:Int)).toNat=r.length - 1 by omega]
 exact g
theorem row_bd {p:Int} (hp:0 < p):∀ (n:Nat) (x:Int),∀ d∈rowF p n x,0≤d∧d < p
 | 0,x,d,h=>by cases h
 | n + 1,x,d,h=>by
  rcases List.mem_cons.mp h with rfl | h
  ·exact ⟨Int.emod_nonneg _ (by omega),Int.emod_lt_of_pos _ hp⟩
  ·exact row_bd hp n _ d h
theorem tl_ok {f:Fd} (h:f∈fds) {r:List Int} (hr:r.length=f.n) (c:LC):qbo [.int f.q,.lst (r.map D.int)] c=.ok (.lst ((tlF (rowF f.p f.n f.low) r).map D.int)) c:=by
 have I:=qe0 h
 have n1:=I.n1
 have n5:=I.n5
 have p2:=I.p2
 have p47:=I.p47
 have hs:=qam (n:=1000) (by decide)
 have hz:f.n < sizeLine:=by omega
 have hz2:1 + r.length≤sizeLine:=by omega
 have hne:r≠[]:=by intro z; subst z; simp at hr; omega
 have hb:=row_bd (p:=f.p) (by omega) f.n f.low
 have hc:=qfs (st:=fun _=>True∧True) (c:=c) ⟨trivial,trivial⟩ (a:=dBin subD (dVar 0) (dBin mulD (dBin ixD (dVar 2) (dUn negD (dC (.int 1)))) (dVar 1))) (fun b d=>b - qgJ r * d) [some (.lst (r.map D.int))] (0 :: r) (rowF f.p f.n f.low) none none [] (fun u _ v hv=>by
  have:=hb v hv
  have e:mulD (.int (qgJ r)) (.int v) c=.ok (.int (qgJ r * v)) c:=mul_r c (by omega) (by omega)
  simp [at_last hne,e])
 simp [qbo,qbp,tab_at h,row_ok h,catD,stayD,qb1,hz,hz2,qdq]
 simp at hc
 rw [if_pos (by rw [hr]; omega)]
 rw [hc]
 have hr:=qcm (l:=tlF (rowF f.p f.n f.low) r)
 simp [tlF] at hr
 simp [tlF,hr]
end Ev
namespace Ev
open PySem L2 Fq
def mulB':dF:=(sSet 4 (qaN (qfY (qa0 (qa7 2 qbo (qa0 (dVar 0) (qa0 (dVar 4) dNil))) (qa0 (dVar 3) dNil))) [none,none,some 5] (qca 2 (qaj (qa3 0) (qaj (qa3 1) qce))) dYes (dBin addD (dVar 0) (dBin mulD (dVar 2) (dVar 1)))))
theorem tl_len {low r:List Int} {n:Nat} (hl:low.length=n) (hr:r.length=n):(tlF low r).length=n:=by
 simp [tlF,hl,hr]
theorem mul_step {f:Fd} (h:f∈fds) {ry r:List Int} (hy:ry.length=f.n) (hr:r.length=f.n) {d:Int} (d0:0≤d) (d1:d < 1000) (c:LC) (a1 a2:Option D) :
  mulB' [some (.int f.q),a1,a2,some (.lst (ry.map D.int)),some (.lst (r.map D.int)),some (.int d)] c =
   .ok (.nx [some (.int f.q),a1,a2,some (.lst (ry.map D.int)),some (.lst ((List.zipWith (fun a b=>a + d * b) (tlF (rowF f.p f.n f.low) r) ry).map D.int)),some (.int d)]) c:=by
 have n5:=(qe0 h).n5
 have hs:=qam (n:=1000) (by decide)
 have hz:f.n < sizeLine:=by omega
 have ht:(tlF (rowF f.p f.n f.low) r).length=f.n:=tl_len (qb1 _ _ _) hr
 have hc:=qfs (st:=fun _=>True∧True) (c:=c) ⟨trivial,trivial⟩ (a:=dBin addD (dVar 0) (dBin mulD (dVar 2) (dVar 1))) (fun a b=>a + d * b) [some (.int d)] (tlF (rowF f.p f.n f.low) r) ry none none [] (fun u _ v hv=>by
  have e:mulD (.int d) (.int v) c=.ok (.int (d * v)) c:=mul_l c (by omega) (by omega)
  simp [e])
 simp [mulB',tl_ok h hr,stayD,ht,hy,hz,qdq]
 simp at hc
 rw [hc]
 simp
theorem mul_loop {f:Fd} (h:f∈fds) {ry:List Int} (hy:ry.length=f.n) (c:LC) (a1 a2:Option D):∀ (ds r:List Int) (v5:Option D),r.length=f.n→(∀ d∈ds,0≤d∧d < 1000) →
  ∃ v',forD (fun _=>True) (qa3 5) mulB' (ds.map D.int) [some (.int f.q),a1,a2,some (.lst (ry.map D.int)),some (.lst (r.map D.int)),v5] c =
   .ok (.nx [some (.int f.q),a1,a2,some (.lst (ry.map D.int)),some (.lst ((ds.foldl (fun r d=>List.zipWith (fun a b=>a + d * b) (tlF (rowF f.p f.n f.low) r) ry) r).map D.int)),v']) c
 | [],r,v5,_,_=>⟨v5,by simp⟩
 | d :: ds,r,v5,hr,hd=>by
  have hd0:=hd d List.mem_cons_self
  have hl:(List.zipWith (fun a b=>a + d * b) (tlF (rowF f.p f.n f.low) r) ry).length=f.n:=by
   rw [List.length_zipWith,tl_len (qb1 _ _ _) hr,hy]; omega
  obtain ⟨v',ih⟩:=mul_loop h hy c a1 a2 ds (List.zipWith (fun a b=>a + d * b) (tlF (rowF f.p f.n f.low) r) ry) (some (.int d)) hl fun x hx=>hd x (List.mem_cons_of_mem _ hx)
  refine ⟨v',?_⟩
  rw [List.map_cons,qbE]
  simp only [qgp,List.set_cons_succ,List.set_cons_zero,R.bind_ok]
  rw [mul_step h hy hr hd0.1 hd0.2]
  simp only [R.bind_ok]
  rw [ih,List.foldl_cons]
theorem mulR_fold (low ry:List Int):∀ rx:List Int,rx.foldr (fun d r=>List.zipWith (fun a b=>a + d * b) (tlF low r) ry) (ry.map fun _=>0)=mulR low ry rx
 | []=>rfl
 | d :: rx=>by rw [List.foldr_cons,mulR_fold low ry rx]; rfl
theorem zeros (ry:List Int):(List.replicate ry.length [D.int 0]).flatten=(ry.map fun _=>(0:Int)).map D.int:=by
 induction ry with
 | nil=>rfl
 | cons a r ih=>rw [List.length_cons,List.replicate_succ,List.flatten_cons,ih]; rfl
theorem rep_gen {N:Int} {n:Nat} (hN:N.toNat=n) (b:-9223372036854775808≤N∧N < 9223372036854775808∧n≤sizeLine) (c:LC):repD (.lst [.int 0]) (.int N) c=.ok (.lst (List.replicate n [D.int 0]).flatten) c:=by
 rw [x_rep,hN,if_pos ⟨by omega,by omega,by simp only [List.length_cons,List.length_nil]; omega⟩]
def bM (L:List D→LC→R D) (Rp:D→D→LC→R D):dF:=(sSeq (qbJ (qa7 2 qaL (qa0 (dVar 0) (qa0 (dTup (qa0 (dVar 1) (qa0 (dVar 2) dNil))) dNil)))) (sSeq (sSet 3 (qa7 2 qbB (qa0 (dVar 0) (qa0 (dVar 2) dNil)))) (sSeq (sSet 4 (dBin Rp (dLst (qa0 (dC (.int 0)) dNil)) (dCB L (qa0 (dVar 3) dNil)))) (sSeq (sFor (dRev (qa0 (qa7 2 qbB (qa0 (dVar 0) (qa0 (dVar 1) dNil))) dNil)) (qa3 5) (sSet 4 (qaN (qfY (qa0 (qa7 2 qbo (qa0 (dVar 0) (qa0 (dVar 4) dNil))) (qa0 (dVar 3) dNil))) [none,none,some 5] (qca 2 (qaj (qa3 0) (qaj (qa3 1) qce))) dYes (dBin addD (dVar 0) (dBin mulD (dVar 2) (dVar 1)))))) (sRet (qa7 2 qbP (qa0 (dVar 0) (qa0 (dVar 4) dNil))))))))
theorem bM_is:qc0=bM lenD repD:=rfl
theorem mul_gen {L:List D→LC→R D} {Rp:D→D→LC→R D} {q x y N w:Int} {rx ry Z Y:List D} {c:LC} {v':Option D} (h0:qaL [.int q,.tup [.int x,.int y]] c=.ok .non c) (h1:qbB [.int q,.int y] c=.ok (.lst ry) c) (h2:qbB [.int q,.int x] c=.ok (.lst rx) c) (hlen:L [.lst ry] c=.ok (.int N) c)
  (hrep:Rp (.lst [.int 0]) (.int N) c=.ok (.lst Z) c) (hf:forD (fun _=>True) (qa3 5) mulB' rx.reverse [some (.int q),some (.int x),some (.int y),some (.lst ry),some (.lst Z),none] c=.ok (.nx [some (.int q),some (.int x),some (.int y),some (.lst ry),some (.lst Y),v']) c)
  (hn:qbP [.int q,.lst Y] c=.ok (.int w) c):fnD 6 false (bM L Rp) [.int q,.int x,.int y] c=.ok (.int w) c:=by
 unfold mulB' at hf
 simp [bM,h0,h1,h2,hlen,hrep,hf,hn]
theorem mul_ok {f:Fd} (h:f∈fds) {x y:Int} (x0:0≤x) (x1:x < f.q) (y0:0≤y) (y1:y < f.q) (c:LC):qbY [.int f.q,.int x,.int y] c=.ok (.int (mulF f.p f.n f.low x y)) c:=by
 have I:=qe0 h
 have n5:=I.n5
 have p2:=I.p2
 have p47:=I.p47
 have hs:=qam (n:=1000) (by decide)
 have hb:=row_bd (p:=f.p) (by omega) f.n x
 obtain ⟨v',hf⟩:=mul_loop h (qb1 f.p f.n y) c (some (.int x)) (some (.int y)) (rowF f.p f.n x).reverse ((rowF f.p f.n y).map fun _=>0) none (by simp [qb1]) (fun d hd=>by
  have:=hb d (List.mem_reverse.mp hd); omega)
 rw [List.foldl_reverse,mulR_fold,List.map_reverse] at hf
 have z0:=zeros (rowF f.p f.n y)
 rw [qb1] at z0
 have hlen:lenD [.lst ((rowF f.p f.n y).map D.int)] c=.ok (.int (f.n:Int)) c:=by
  rw [x_lenL,List.length_map,qb1]
 have hrep:=rep_gen (N:=f.n) (n:=f.n) (by omega) (by omega) c
 rw [z0] at hrep
 rw [qbY,bM_is]
 exact mul_gen (things2 h x0 x1 y0 y1 c) (row_ok h y c) (row_ok h x c) hlen hrep hf (num_ok h (mulR (rowF f.p f.n f.low) (rowF f.p f.n y) (rowF f.p f.n x)) c)
theorem mul_M {f:Fd} (h:f∈fds) {x y:Nat} (hx:x < f.q) (hy:y < f.q) (c:LC):qbY [.int f.q,.int x,.int y] c=.ok (.int (M f x y:Nat)) c:=by
 rw [mul_ok h (by omega) (by omega) (by omega) (by omega)]
 have:=(qe0 h).mm x y hx hy
 unfold mI at this
 rw [this]
end Ev
namespace Ev
open PySem L2 Fq
def lrowB:dF:=(sSeq (qbJ (qbQ (dVar 3) (dBin modD (dVar 0) (dVar 1)))) (sSet 0 (dBin divD (dVar 0) (dVar 1))))
theorem lrow_step {c:LC} {a2 v4:Option D} {p left:Int} {acc:List D} (hp:0 < p) (hp':p < 1000) (ha:acc.length < 1000):lrowB [some (.int left),some (.int p),a2,some (.ref c.length),v4] (c ++ [.lst acc]) =
  .ok (.nx [some (.int (left / p)),some (.int p),a2,some (.ref c.length),v4]) (c ++ [.lst (acc ++ [.int (left % p)])]):=by
 have h:=qfR (c:=c) (acc:=acc) (y:=.int (left % p)) (dO:=dVar 3) (da:=dBin modD (dVar 0) (dVar 1)) (e:=[some (.int left),some (.int p),a2,some (.ref c.length),v4]) (by simp) (by simp (disch:=omega) [qfV]) rfl (by have:=qam (n:=1000) (by decide); omega)
 unfold lrowB
 rw [qe9,qeT,h]
 simp (disch:=omega) [div_c]
theorem lrow_loop {c:LC} {a2:Option D} {p:Int} (hp:0 < p) (hp':p < 1000):∀ (items:List D) (left:Int) (acc:List D) (v4:Option D),acc.length + items.length < 1000 →
  ∃ l' v',forD (fun _=>True) (qa3 4) lrowB items [some (.int left),some (.int p),a2,some (.ref c.length),v4] (c ++ [.lst acc]) =
   .ok (.nx [some (.int l'),some (.int p),a2,some (.ref c.length),v']) (c ++ [.lst (acc ++ (rowF p items.length left).map D.int)])
 | [],left,acc,v4,_=>⟨left,v4,by simp [rowF]⟩
 | x :: xs,left,acc,v4,h=>by
  simp only [List.length_cons] at h
  obtain ⟨l',v',ih⟩:=lrow_loop hp hp' xs (left / p) (acc ++ [.int (left % p)]) (some x) (by simp; omega)
  refine ⟨l',v',?_⟩
  rw [qbE]
  simp only [qgp,List.set_cons_succ,List.set_cons_zero,R.bind_ok]
  rw [lrow_step hp hp' (by omega)]
  simp only [R.bind_ok]
  rw [ih]
  simp [rowF]
theorem qgI {p N x:Int} (hp:0 < p) (hp':p < 1000) {n:Nat} (hl:(rngD 0 N).length=n) (hn:n < 1000) (b1:-4611686018427387904≤N∧N < 4611686018427387904) (c:LC) :
  qaw [.int x,.int p,.int N] c=.ok (.lst ((rowF p n x).map D.int)) c:=by
 obtain ⟨l',v',hf⟩:=lrow_loop (c:=c) (a2:=some (.int N)) (p:=p) hp hp' (rngD 0 N) x [] none (by rw [hl,List.length_nil]; omega)
 rw [hl,List.nil_append] at hf
 unfold lrowB at hf
 simp [qaw,qdo]
 rw [if_pos b1]
 simp only [R.bind_ok]
 rw [hf]
 simp [qbx,qcm]
def dv (q p:Int):Bool:=decide (q % p=0)
def prs:List Int:=[2,3,5,7,11,13,17,19,23,29,31,37,41,43,47]
theorem find_head {α:Type} {P:α→Bool} {p:α}:∀ {l:List α},l.find? P=some p→∃ r,l.filter P=p :: r
 | [],h=>by cases h
 | a :: l,h=>by
  rw [List.find?_cons] at h
  rw [List.filter_cons]
  cases hP:P a with
  | true=>rw [hP] at h; cases h; exact ⟨_,if_pos rfl⟩
  | false =>
   rw [hP] at h
   obtain ⟨r,hr⟩:=find_head (l:=l) h
   exact ⟨r,by rw [if_neg Bool.false_ne_true]; exact hr⟩
def dvD (q:Int):D→Bool
 | .int p=>dv q p
 | _=>false
theorem dv_filter (q:Int):∀ l:List Int,((l.map D.int).filter (dvD q)).map id=(l.filter (dv q)).map D.int
 | []=>rfl
 | a :: l=>by
  have ih:=dv_filter q l
  have e:dvD q (.int a)=dv q a:=rfl
  rw [List.map_cons,List.filter_cons,List.filter_cons,e]
  cases dv q a with
  | true=>rw [if_pos rfl,if_pos rfl,List.map_cons,List.map_cons,ih]; rfl
  | false=>rw [if_neg Bool.false_ne_true,if_neg Bool.false_ne_true,ih]
theorem prime_gen {q:Int} {p:Int} (h:prs.find? (dv q)=some p) (c:LC):qas [.int q] c=.ok (.int p) c:=by
 have s15:(15:Nat)≤sizeLine:=by decide
 have t15:(15:Nat) < sizeLine:=by decide
 have hc:=qcc (c:=c) (g:=qa3 0) (t:=dBl (dBin eqD (dBin modD (dVar 1) (dVar 0)) (dC (.int 0)))) (a:=dVar 0) (fun e=>∃ v,e=[v,some (.int q)]) (dvD q) id
  (prs.map D.int) [none,some (.int q)] [] ⟨none,rfl⟩ (fun x hx e ⟨v,he⟩=>by
   subst he
   obtain ⟨i,hi,rfl⟩:=List.mem_map.mp hx
   have i0:0 < i:=by
    simp only [prs,List.mem_cons,List.not_mem_nil,or_false] at hi
    omega
   refine ⟨_,rfl,⟨_,rfl⟩,?_,fun _=>rfl⟩
   have e:modD (.int q) (.int i) c=.ok (.int (q % i)) c:=qfV c i0
   simp [e,dvD,dv])
 obtain ⟨r,hr⟩:=find_head h
 rw [dv_filter,hr] at hc
 simp only [List.map_cons,List.nil_append] at hc
 have hp:prs.map D.int=[D.int 2,.int 3,.int 5,.int 7,.int 11,.int 13,.int 17,.int 19,.int 23,.int 29,.int 31,.int 37,.int 41,.int 43,.int 47]:=rfl
 rw [hp] at hc
 simp [-qeD,qas,qcs,s15,t15,qdq]
 rw [hc]
 simp
theorem primes_all:(fds.all fun f=>(List.range f.n).all fun k=>prs.find? (dv ((f.p:Int) ^ (k + 1))) == some (f.p:Int))=true:=by decide +kernel
theorem prime_pow {f:Fd} (h:f∈fds) {k:Nat} (hk:k < f.n) (c:LC):qas [.int ((f.p:Int) ^ (k + 1))] c=.ok (.int f.p) c:=by
 refine prime_gen ?_ c
 have:=List.all_eq_true.mp (List.all_eq_true.mp primes_all f h) k (List.mem_range.mpr hk)
 simpa using this
theorem qgx {f:Fd} (h:f∈fds) (c:LC):qas [.int f.q] c=.ok (.int f.p) c:=by
 have I:=qe0 h
 have n1:=I.n1
 have:=prime_pow h (k:=f.n - 1) (by omega) c
 rwa [show f.n - 1 + 1=f.n by omega,I.pw] at this
def degB:dF:=(sSeq (sSet 0 (dBin divD (dVar 0) (qa7 1 qas (qa0 (dVar 0) dNil)))) (sSet 1 (dBin addD (dVar 1) (dC (.int 1)))))
theorem deg_loop {f:Fd} (h:f∈fds) (c:LC):∀ (k fuel:Nat) (d:Int),k≤f.n→k < fuel→qcD (dBl (dBin gtD (dVar 0) (dC (.int 1)))) degB fuel [some (.int ((f.p:Int) ^ k)),some (.int d)] c=.ok (.nx [some (.int 1),some (.int (d + k))]) c
 | 0,fuel + 1,d,_,_=>by simp [qcD]
 | k + 1,fuel + 1,d,hk,hf=>by
  have I:=qe0 h
  have p2:=I.p2
  have p47:=I.p47
  have ih:=deg_loop h c k fuel (d + 1) (by omega) (by omega)
  have hpos:∀ j:Nat,(1:Int)≤(f.p:Int) ^ j:=fun j=>by
   have:=Nat.one_le_pow j f.p (by omega)
   have e:((f.p ^ j:Nat):Int)=(f.p:Int) ^ j:=by simp
   omega
  have h1:(1:Int) < (f.p:Int) ^ (k + 1):=by
   rw [Int.pow_succ]
   have h2:=hpos k
   have h3:(f.p:Int) ^ k * 2≤(f.p:Int) ^ k * f.p:=Int.mul_le_mul_of_nonneg_left (by omega) (by omega)
   omega
  have hd:(f.p:Int) ^ (k + 1) / f.p=(f.p:Int) ^ k:=by
   rw [Int.pow_succ]; exact Int.mul_ediv_cancel _ (by omega)
  have e:degB [some (.int ((f.p:Int) ^ (k + 1))),some (.int d)] c=.ok (.nx [some (.int ((f.p:Int) ^ k)),some (.int (d + 1))]) c:=by
   have e1:divD (.int ((f.p:Int) ^ (k + 1))) (.int f.p) c=.ok (.int ((f.p:Int) ^ k)) c:=by rw [div_c c (by omega) (by omega),hd]
   simp [degB,prime_pow h (show k < f.n by omega),e1]
  have et:dBl (dBin gtD (dVar 0) (dC (.int 1))) [some (.int ((f.p:Int) ^ (k + 1))),some (.int d)] c=.ok true c:=by simp [h1]
  unfold qcD
  rw [et]
  simp only [R.bind_ok,if_pos]
  rw [e]
  simp only [R.bind_ok]
  rw [ih,show d + 1 + (k:Int)=d + ((k + 1:Nat):Int) by omega]
theorem degree_ok {f:Fd} (h:f∈fds) (c:LC):qaO [.int f.q] c=.ok (.int f.n) c:=by
 have I:=qe0 h
 have hl:=deg_loop h c f.n 10 0 (Nat.le_refl _) (by have:=I.n5; omega)
 rw [I.pw,Int.zero_add] at hl
 unfold degB at hl
 simp only [qaO,qc4,x_fn,x_start,qe9,qfv,x_c,R.bind_ok,List.map_cons,List.map_nil,List.length_cons,List.length_nil]
 show R.bind (R.bind (qcD _ _ 10 [some (.int f.q),some (.int 0)] c) _) _=_
 rw [hl]
 simp
def numL (p:Int):List Int→Int
 | []=>0
 | d :: r=>numL p r * p + d
theorem numL_num {p:Int}:∀ {r:List Int},(∀ d∈r,0≤d∧d < p)→numL p r=numF p r
 | [],_=>rfl
 | d :: r,h=>by
  have:=h d List.mem_cons_self
  rw [numL,numF,numL_num fun x hx=>h x (List.mem_cons_of_mem _ hx),Int.emod_eq_of_lt this.1 this.2]
theorem numL_fold (p:Int) (r:List Int):r.reverse.foldl (fun n d=>n * p + d) 0=numL p r:=by
 rw [List.foldl_reverse]
 induction r with
 | nil=>rfl
 | cons d r ih=>rw [List.foldr_cons,ih]; rfl
def bNm (L:List D→LC→R D):dF:=(sSeq (sSet 2 (dC (.int 0))) (sSeq (sFor (qbe (qa0 (dCB L (qa0 (dVar 0) dNil)) dNil)) (qa3 3) (sSet 2 (dBin addD (dBin mulD (dVar 2) (dVar 1)) (dBin ixD (dVar 0) (dBin subD (dBin subD (dCB L (qa0 (dVar 0) dNil)) (dC (.int 1))) (dVar 3)))))) (sRet (dVar 2))))
theorem bNm_is:qc3=bNm lenD:=rfl
def lnumB (L:List D→LC→R D):dF:=(sSet 2 (dBin addD (dBin mulD (dVar 2) (dVar 1)) (dBin ixD (dVar 0) (dBin subD (dBin subD (dCB L (qa0 (dVar 0) dNil)) (dC (.int 1))) (dVar 3)))))
theorem lnum_gen {L:List D→LC→R D} {p N:Int} (hp:0 < p) (hp':p < 1000) (r:List Int) (hN:N=r.length) (b1:-4611686018427387904≤N∧N < 4611686018427387904) {c:LC} (hL:L [.lst (r.map D.int)] c=.ok (.int N) c):fnD 4 false (bNm L) [.lst (r.map D.int),.int p] c=.ok (.int (numL p r)) c:=by
 obtain ⟨v',hf⟩:=qfL (g:=qa3 3) (s:=lnumB L) (fun _=>c) (fun i v=>[some (.lst (r.map D.int)),some (.int p),some (.int ((r.reverse.take i).foldl (fun n d=>n * p + d) 0)),v]) hN none (fun i hi v=>by
  refine ⟨_,rfl,some (.int i),?_⟩
  have hr:i < r.reverse.length:=by rw [List.length_reverse]; exact hi
  have ht:r.reverse.take (i + 1)=r.reverse.take i ++ [r.reverse[i]]:=List.take_succ_eq_append_getElem hr
  have hx:atI (r.map D.int) (N - 1 - i)=some (.int r.reverse[i]):=by
   have hg:(r.map D.int)[r.length - 1 - i]? = some (.int r.reverse[i]):=by
    rw [List.getElem?_map,List.getElem?_eq_getElem (by omega)]
    simp
   have:=qcu (xs:=r.map D.int) (j:=r.length - 1 - i) (v:=.int r.reverse[i]) hg
   rw [show ((r.length - 1 - i:Nat):Int)=N - 1 - i by omega] at this
   exact this
  rw [ht,List.foldl_append]
  generalize (r.reverse.take i).foldl (fun n d=>n * p + d) 0=w
  generalize r.reverse[i]=z at hx
  have hm:mulD (.int w) (.int p) c=.ok (.int (w * p)) c:=mul_r c (by omega) (by omega)
  simp [lnumB,hL,hm,hx])
 have e0:(r.reverse.take r.length).foldl (fun n d=>n * p + d) 0=numL p r:=by
  rw [List.take_of_length_le (by rw [List.length_reverse]; exact Nat.le_refl _),numL_fold]
 simp only [List.take_zero,List.foldl_nil] at hf
 rw [e0] at hf
 unfold lnumB at hf
 simp [bNm,hL]
 rw [if_pos b1]
 simp only [R.bind_ok]
 rw [hf]
 simp
theorem lnum_ok {p:Int} (hp:0 < p) (hp':p < 1000) (r:List Int) (hr:r.length < 1000) (c:LC):qbu [.lst (r.map D.int),.int p] c=.ok (.int (numL p r)) c:=by
 rw [qbu,bNm_is]
 exact lnum_gen hp hp' r rfl (by omega) (by rw [x_lenL,List.length_map])
end Ev
namespace Ev
open PySem L2 Fq
def gI (l:List Int) (i:Nat):Int:=l.getD i 0
theorem qgf {l:List Int} {i:Nat} (h:i < l.length):(l.map D.int)[i]? = some (.int (gI l i)):=by
 rw [List.getElem?_map,List.getElem?_eq_getElem h]
 simp [gI,List.getD,h]
def inn (p a:Int) (b:List Int) (k:Nat) (F:List Int):Nat→List Int
 | 0=>F
 | j + 1=>(inn p a b k F j).set (k + j) ((gI (inn p a b k F j) (k + j) + a * gI b j) % p)
def outr (p:Int) (a b:List Int) (F:List Int):Nat→List Int
 | 0=>F
 | k + 1=>inn p (gI a k) b k (outr p a b F k) b.length
def qdW (a b:List Int) (p:Int):List Int:=outr p a b (List.replicate (a.length + b.length - 1) 0) a.length
theorem qgK {p a:Int} {b:List Int} {k:Nat} {F:List Int}:∀ j,(inn p a b k F j).length=F.length
 | 0=>rfl
 | j + 1=>by rw [inn,List.length_set,qgK j]
theorem qfn {p:Int} {a b F:List Int}:∀ k,(outr p a b F k).length=F.length
 | 0=>rfl
 | k + 1=>by rw [outr,qgK,qfn k]
theorem map_set {l:List Int} {i:Nat} {x:Int}:(l.map D.int).set i (.int x)=(l.set i x).map D.int:=by rw [List.map_set]
def in1 (a p:Option D):Ev:=[a,p]
def spI:dF:=(sAsg (dBin modD (dBin addD (dBin ixD (dVar 3) (dBin addD (dVar 4) (dVar 5))) (dBin mulD (dBin ixD (dVar 0) (dVar 4)) (dBin ixD (dVar 1) (dVar 5)))) (dVar 2)) (qgP (dVar 3) (dBin addD (dVar 4) (dVar 5))))
theorem spI_ok {a b F:List Int} {p:Int} {c:LC} {k j:Nat} (hp:0 < p) (hk:k < a.length) (hj:j < b.length) (hF:k + j < F.length) (hs:∀ x∈a,0≤x∧x < 1000) :
  spI [some (.lst (a.map D.int)),some (.lst (b.map D.int)),some (.int p),some (.ref c.length),some (.int k),some (.int j)] (c ++ [.lst (F.map D.int)]) =
   .ok (.nx [some (.lst (a.map D.int)),some (.lst (b.map D.int)),some (.int p),some (.ref c.length),some (.int k),some (.int j)]) (c ++ [.lst ((F.set (k + j) ((gI F (k + j) + gI a k * gI b j) % p)).map D.int)]):=by
 have h1:=ix_end (c:=c) (l:=F.map D.int) (i:=(k:Int) + j) (j:=k + j) (d:=.int (gI F (k + j))) (by omega) (qgf hF)
 have h2:atI (a.map D.int) k=some (.int (gI a k)):=qcu (qgf hk)
 have h3:atI (b.map D.int) j=some (.int (gI b j)):=qcu (qgf hj)
 have hb:0≤gI a k∧gI a k < 1000:=hs _ (by simp [gI,List.getD,hk])
 have h4:∀ c,mulD (.int (gI a k)) (.int (gI b j)) c=.ok (.int (gI a k * gI b j)) c:=fun c=>mul_l c (by omega) (by omega)
 have h5:=fun x=>set_end (c:=c) (l:=F.map D.int) (i:=(k:Int) + j) (j:=k + j) (d:=.int x) (by omega) (by simpa using hF) rfl
 have h6:∀ x c,modD (.int x) (.int p) c=.ok (.int (x % p)) c:=fun x c=>qfV c hp
 simp only [spI,x_asg,qdc,qaU,gz,gs,R.bind_ok,x_add,qgo,h1,h2,h3,h4,h6,x_gsub,h5,map_set]
def spO (L:List D→LC→R D):dF:=(sFor (qbe (qa0 (dCB L (qa0 (dVar 1) dNil)) dNil)) (qa3 5) spI)
theorem spO_ok {L:List D→LC→R D} {a b F:List Int} {p N:Int} {c:LC} {k:Nat} (hp:0 < p) (hk:k < a.length) (hF:a.length + b.length - 1≤F.length) (hs:∀ x∈a,0≤x∧x < 1000) (hN:N=b.length) (b1:-4611686018427387904≤N∧N < 4611686018427387904) (hL:∀ c,L [.lst (b.map D.int)] c=.ok (.int N) c) (v5:Option D) :
  ∃ v',spO L [some (.lst (a.map D.int)),some (.lst (b.map D.int)),some (.int p),some (.ref c.length),some (.int k),v5] (c ++ [.lst (F.map D.int)]) =
   .ok (.nx [some (.lst (a.map D.int)),some (.lst (b.map D.int)),some (.int p),some (.ref c.length),some (.int k),v']) (c ++ [.lst ((inn p (gI a k) b k F b.length).map D.int)]):=by
 obtain ⟨v',hf⟩:=qfL (g:=qa3 5) (s:=spI) (fun j=>c ++ [.lst ((inn p (gI a k) b k F j).map D.int)]) (fun _ v=>[some (.lst (a.map D.int)),some (.lst (b.map D.int)),some (.int p),some (.ref c.length),some (.int k),v]) hN v5 (fun j hj v=>by
  exact ⟨_,rfl,_,spI_ok hp hk hj (by rw [qgK]; omega) hs⟩)
 refine ⟨v',?_⟩
 simp only [spO,qeF,qef,qav,x_cb,qaU,qb0,gz,gs,R.bind_ok,hL]
 rw [if_pos (by omega)]
 exact hf
def bSp (L:List D→LC→R D) (Rp:D→D→LC→R D):dF:=(sSeq (sSet 3 (dBin Rp (dLst (qa0 (dC (.int 0)) dNil)) (dBin subD (dBin addD (dCB L (qa0 (dVar 0) dNil)) (dCB L (qa0 (dVar 1) dNil))) (dC (.int 1))))) (sSeq (sFor (qbe (qa0 (dCB L (qa0 (dVar 0) dNil)) dNil)) (qa3 4) (sFor (qbe (qa0 (dCB L (qa0 (dVar 1) dNil)) dNil)) (qa3 5) (sAsg (dBin modD (dBin addD (dBin ixD (dVar 3) (dBin addD (dVar 4) (dVar 5))) (dBin mulD (dBin ixD (dVar 0) (dVar 4)) (dBin ixD (dVar 1) (dVar 5)))) (dVar 2)) (qgP (dVar 3) (dBin addD (dVar 4) (dVar 5)))))) (sRet (dVar 3))))
theorem bSp_is:qap=bSp lenD repM:=rfl
theorem sp_gen {L:List D→LC→R D} {Rp:D→D→LC→R D} {a b:List Int} {p N M:Int} {c:LC} (hp:0 < p) (ha:a≠[]) (hs:∀ x∈a,0≤x∧x < 1000) (hN:N=b.length) (b1:-4611686018427387904≤N∧N < 4611686018427387904) (hL:∀ c,L [.lst (b.map D.int)] c=.ok (.int N) c)
  (hM:M=a.length) (b2:-4611686018427387904≤M∧M < 4611686018427387904) (hL2:∀ c,L [.lst (a.map D.int)] c=.ok (.int M) c) (hR:Rp (.lst [.int 0]) (.int (M + N - 1)) c=.ok (.ref c.length) (c ++ [.lst ((List.replicate (a.length + b.length - 1) (0:Int)).map D.int)])) :
  bSp L Rp [some (.lst (a.map D.int)),some (.lst (b.map D.int)),some (.int p),none,none,none] c=.ok (.rt (.ref c.length)) (c ++ [.lst ((qdW a b p).map D.int)]):=by
 obtain ⟨v',hf⟩:=qfL (α:=Option D×Option D) (g:=qa3 4) (s:=spO L) (fun k=>c ++ [.lst ((outr p a b (List.replicate (a.length + b.length - 1) 0) k).map D.int)]) (fun _ v=>[some (.lst (a.map D.int)),some (.lst (b.map D.int)),some (.int p),some (.ref c.length),v.1,v.2]) hM (none,none) (fun k hk v=>by
  obtain ⟨w,h⟩:=spO_ok (L:=L) (a:=a) (b:=b) (F:=outr p a b (List.replicate (a.length + b.length - 1) 0) k) (c:=c) (k:=k) hp hk (by rw [qfn,List.length_replicate]; exact Nat.le_refl _) hs hN b1 hL v.2
  exact ⟨_,rfl,(some (.int k),w),h⟩)
 simp only [bSp,qe9,qfv,qdc,x_lst,qav,x_c,qb0,R.bind_ok,x_cb,qaU,gz,gs,hL,hL2,x_add,x_sub]
 rw [if_pos (by decide)]
 simp only [R.bind_ok,hR,List.set_cons_succ,List.set_cons_zero,qeF,qef,qav,x_cb,qaU,qb0,gz,gs,hL2]
 rw [if_pos (by omega)]
 simp only [R.bind_ok]
 unfold spO at hf
 unfold spI at hf
 simp only [outr] at hf
 rw [hf]
 rfl
theorem sp_rep {a b:List Int} (h:a.length + b.length < 1000) (ha:a≠[]) {M N:Int} (hM:M=a.length) (hN:N=b.length) (c:LC):repM (.lst [.int 0]) (.int (M + N - 1)) c=.ok (.ref c.length) (c ++ [.lst ((List.replicate (a.length + b.length - 1) (0:Int)).map D.int)]):=by
 have hl:0 < a.length:=List.length_pos_iff.mpr ha
 have hs:=qam (n:=1000) (by decide)
 have ht:(M + N - 1).toNat=a.length + b.length - 1:=by omega
 rw [x_repM,ht,if_pos ⟨by omega,by omega,by simp only [List.length_cons,List.length_nil]; omega,rfl⟩]
 congr 4
 generalize a.length + b.length - 1=n
 induction n with
 | zero=>rfl
 | succ n ih=>rw [List.replicate_succ,List.flatten_cons,ih]; rfl
theorem qey (l:List Int) (c:LC):lenD [.lst (l.map D.int)] c=.ok (.int l.length) c:=by rw [x_lenL,List.length_map]
theorem sp_ok {a b:List Int} {p:Int} (hp:0 < p) (ha:a≠[]) (hs:∀ x∈a,0≤x∧x < 1000) (h:a.length + b.length < 1000) (c:LC):qan [.lst (a.map D.int),.lst (b.map D.int),.int p] c=.ok (.lst ((qdW a b p).map D.int)) c:=by
 have:=sp_gen (L:=lenD) (Rp:=repM) hp ha hs rfl (by omega) (qey b) rfl (by omega) (qey a) (sp_rep h ha rfl rfl c)
 rw [qan,bSp_is,x_fn]
 show R.bind (bSp lenD repM [some (.lst (a.map D.int)),some (.lst (b.map D.int)),some (.int p),none,none,none] c) _=_
 rw [this]
 simp [qbx]
theorem spo_ok {a b:List Int} {p:Int} (hp:0 < p) (ha:a≠[]) (hs:∀ x∈a,0≤x∧x < 1000) (h:a.length + b.length < 1000) (c:LC):qaG [.lst (a.map D.int),.lst (b.map D.int),.int p] c=.ok (.ref c.length) (c ++ [.lst ((qdW a b p).map D.int)]):=by
 have:=sp_gen (L:=lenD) (Rp:=repM) hp ha hs rfl (by omega) (qey b) rfl (by omega) (qey a) (sp_rep h ha rfl rfl c)
 rw [qaG,bSp_is,x_fn]
 show R.bind (bSp lenD repM [some (.lst (a.map D.int)),some (.lst (b.map D.int)),some (.int p),none,none,none] c) _=_
 rw [this]
 simp [qbx]
end Ev
namespace Ev
open PySem L2 Fq
def more (p:Nat) (row:List Int):List (List Int):=(List.range p).map fun d:Nat=>row ++ [(d:Int)]
def qaZ (p:Nat):Nat→List (List Int)
 | 0=>[[]]
 | i + 1=>(qaZ p i).flatMap (more p)
theorem filt {l:List D}:(l.filter fun _=>true)=l:=List.filter_eq_self.mpr fun _ _=>rfl
def LD (L:List (List Int)):List D:=L.map fun r=>.lst (r.map D.int)
theorem LD_append (a b:List (List Int)):LD (a ++ b)=LD a ++ LD b:=by simp [LD]
theorem LD_ref (L:List (List Int)):qak (LD L)=true:=noRefs_iff.mpr fun d hd=>by
 obtain ⟨r,_,rfl⟩:=List.mem_map.mp hd
 rw [r_lst]; exact qcm
theorem qe8 (L:List (List Int)):(LD L).length=L.length:=by simp [LD]
theorem qgF (p:Nat) (r:List Int):(more p r).length=p:=by simp [more]
theorem qeA (p:Nat):∀ i,(qaZ p i).length=p ^ i
 | 0=>rfl
 | i + 1=>by
  have:∀ L:List (List Int),(L.flatMap (more p)).length=L.length * p:=by
   intro L
   induction L with
   | nil=>simp
   | cons a L ih=>rw [List.flatMap_cons,List.length_append,ih,qgF,List.length_cons,Nat.succ_mul,Nat.add_comm]
  rw [qaZ,this,qeA p i,Nat.pow_succ]
theorem take_flat {α β:Type} (f:α→List β) {L:List α} {j:Nat} (h:j < L.length):(L.take (j + 1)).flatMap f=(L.take j).flatMap f ++ f L[j]:=by
 rw [List.take_succ_eq_append_getElem h,List.flatMap_append]
 simp
def hdI:dF:=(qbJ (qbi (dVar 4) (qaN (qbe (qa0 (dVar 1) dNil)) [none,some 5] (qa3 0) dYes (dBin catD (dVar 1) (dLst (qa0 (dVar 0) dNil))))))
def hdO:dF:=(sSeq (sSet 4 (qcC dNil)) (sSeq (sFor (dSeq (dVar 2)) (qa3 5) (qbJ (qbi (dVar 4) (qaN (qbe (qa0 (dVar 1) dNil)) [none,some 5] (qa3 0) dYes (dBin catD (dVar 1) (dLst (qa0 (dVar 0) dNil))))))) (sSet 2 (dVar 4))))
theorem comp_more {row:List Int} {P:Int} {p:Nat} (hP:P=p) (hr:row.length < 1000) (c:LC):qaI (fun _=>True) (qa3 0) dYes (dBin catD (dVar 1) (dLst (qa0 (dVar 0) dNil))) (rngD 0 P) [none,some (.lst (row.map D.int))] [] c=.ok (LD (more p row)) c:=by
 have hs:=qam (n:=1000) (by decide)
 have hz:row.length + 1≤sizeLine:=by omega
 have:=qcc (c:=c) (g:=qa3 0) (t:=dYes) (a:=dBin catD (dVar 1) (dLst (qa0 (dVar 0) dNil))) (fun e=>∃ v,e=[v,some (.lst (row.map D.int))]) (fun _=>true) (fun d=>.lst (row.map D.int ++ [d]))
  (rngD 0 P) [none,some (.lst (row.map D.int))] [] ⟨none,rfl⟩ (fun x hx e ⟨v,he⟩=>by
   subst he
   refine ⟨_,rfl,⟨_,rfl⟩,rfl,fun _=>?_⟩
   simp [catD,hz])
 rw [this]
 subst hP
 congr 1
 unfold rngD LD more
 simp only [List.nil_append,filt,List.map_map]
 rw [show ((p:Int) - 0).toNat=p by omega]
 apply List.map_congr_left
 intro d _
 simp
theorem hdI_ok {C:LC} {acc:List D} {P many:Int} {p:Nat} {row:List Int} (hP:P=p) (bP:-4611686018427387904≤P∧P < 4611686018427387904) (hp:p < 1000) (hr:row.length < 1000) (ha:acc.length + p≤1000) (F v3:Option D) :
  hdI [some (.int many),some (.int P),F,v3,some (.ref C.length),some (.lst (row.map D.int))] (C ++ [.lst acc])=.ok (.nx [some (.int many),some (.int P),F,v3,some (.ref C.length),some (.lst (row.map D.int))]) (C ++ [.lst (acc ++ LD (more p row))]):=by
 have hs:=qam (n:=1000) (by decide)
 have hc:=comp_more (row:=row) hP hr (C ++ [.lst acc])
 have hl:(rngD 0 P).length < sizeLine:=by rw [qbH]; omega
 have hl2:acc.length + (LD (more p row)).length≤sizeLine∧qak (LD (more p row))=true:=⟨by rw [qe8,qgF]; omega,LD_ref _⟩
 simp only [hdI,qeT,qbi,qaU,gz,gs,R.bind_ok,qeg,qef,qav,qb0]
 rw [if_pos (by omega)]
 simp only [R.bind_ok,qdq]
 rw [if_pos hl]
 show R.bind (R.bind (R.bind (qaI (fun _=>True) (qa3 0) dYes (dBin catD (dVar 1) (dLst (qa0 (dVar 0) dNil))) (rngD 0 P) [none,some (.lst (row.map D.int))] [] (C ++ [.lst acc])) _) _) _=_
 rw [hc]
 simp only [R.bind_ok,List.getElem?_concat_length]
 rw [if_pos hl2]
 simp
def hC (c:LC) (p i:Nat):LC:=c ++ (List.range i).map fun t=>Cell.lst (LD (qaZ p (t + 1)))
def hF (c:LC) (p i:Nat):D:=match i with
 | 0=>.lst (LD (qaZ p 0))
 | i + 1=>.ref (c.length + i)
theorem hC_len (c:LC) (p i:Nat):(hC c p i).length=c.length + i:=by simp [hC]
theorem hC_succ (c:LC) (p i:Nat):hC c p (i + 1)=hC c p i ++ [.lst (LD (qaZ p (i + 1)))]:=by simp [hC,List.range_succ]
theorem hF_seq (c:LC) (p i:Nat) (more:LC) {e:Ev} {k:Nat} (he:e[k]? = some (some (hF c p i))):∃ st:LC→Prop,(∀ m,st (hC c p i ++ m))∧dSeq (dVar k) e (hC c p i ++ more)=.ok ⟨LD (qaZ p i),st⟩ (hC c p i ++ more):=by
 cases i with
 | zero=>exact ⟨fun _=>True,fun _=>trivial,by simp only [x_seqS,qaU,he]; rfl⟩
 | succ i =>
  have hg:∀ m:LC,(hC c p (i + 1) ++ m)[c.length + i]? = some (.lst (LD (qaZ p (i + 1)))):=fun m=>by
   rw [List.getElem?_append_left (by rw [hC_len]; omega),hC_succ,List.getElem?_append_right (by rw [hC_len]; exact Nat.le_refl _),hC_len,Nat.sub_self]
   rfl
  refine ⟨fun c'=>c'[c.length + i]? = some (.lst (LD (qaZ p (i + 1)))),hg,?_⟩
  simp only [x_seqS,qaU,he,hF,R.bind_ok,hg]
theorem hdO_ok {c:LC} {P many:Int} {p i:Nat} (hP:P=p) (bP:-4611686018427387904≤P∧P < 4611686018427387904) (hp:p < 1000) (hi:p ^ (i + 1)≤1000) (hrow:∀ r∈qaZ p i,r.length < 1000) (v3 v4 v5:Option D) :
  ∃ w4 w5,hdO [some (.int many),some (.int P),some (hF c p i),v3,v4,v5] (hC c p i)=.ok (.nx [some (.int many),some (.int P),some (hF c p (i + 1)),v3,w4,w5]) (hC c p (i + 1)):=by
 obtain ⟨st,hst,hseq⟩:=hF_seq c p i [.lst []] (e:=[some (.int many),some (.int P),some (hF c p i),v3,some (.ref (hC c p i).length),v5]) (k:=2) rfl
 have hlen:=qeA p i
 obtain ⟨v',hf⟩:=qdI (st:=st) (g:=qa3 5) (s:=hdI) (fun j=>hC c p i ++ [.lst (LD (((qaZ p i).take j).flatMap (more p)))]) (fun _ v=>[some (.int many),some (.int P),some (hF c p i),v3,some (.ref (hC c p i).length),v]) (LD (qaZ p i)) 0 v5
  (fun j _=>hst _) (fun j x hx v=>by
   rw [Nat.zero_add]
   have hj:j < (qaZ p i).length:=by
    have:=(List.getElem?_eq_some_iff.mp hx).1
    rwa [qe8] at this
   have hx':x=.lst ((qaZ p i)[j].map D.int):=by
    have:=(List.getElem?_eq_some_iff.mp hx).2
    rw [← this]
    simp [LD]
   subst hx'
   refine ⟨_,rfl,some (.lst ((qaZ p i)[j].map D.int)),?_⟩
   have hacc:(LD (((qaZ p i).take j).flatMap (more p))).length + p≤1000:=by
    rw [qe8]
    have:∀ L:List (List Int),(L.flatMap (more p)).length=L.length * p:=by
     intro L
     induction L with
     | nil=>simp
     | cons a L ih=>rw [List.flatMap_cons,List.length_append,ih,qgF,List.length_cons,Nat.succ_mul,Nat.add_comm]
    rw [this,List.length_take,Nat.min_eq_left (by omega)]
    have h2:(j + 1) * p≤p ^ i * p:=Nat.mul_le_mul_right p (by omega)
    have h3:p ^ i * p=p ^ (i + 1):=(Nat.pow_succ ..).symm
    rw [h3,Nat.succ_mul] at h2
    omega
   have:=hdI_ok (C:=hC c p i) (many:=many) (row:=(qaZ p i)[j]) hP bP hp (hrow _ (List.getElem_mem hj)) hacc (some (hF c p i)) v3
   rw [take_flat _ hj,LD_append]
   exact this)
 rw [qe8,Nat.zero_add,List.take_length,List.take_zero] at hf
 refine ⟨some (.ref (hC c p i).length),v',?_⟩
 have hF1:hF c p (i + 1)=.ref (hC c p i).length:=by rw [hC_len]; rfl
 rw [hC_succ,hF1]
 simp only [hdO,qe9,qfv,x_lstM,qb0,R.bind_ok]
 rw [if_pos ⟨by simp,by simp⟩]
 simp only [R.bind_ok,List.set_cons_succ,List.set_cons_zero,qeF]
 rw [hseq]
 simp only [R.bind_ok]
 unfold hdI at hf
 show R.bind (forD st (qa3 5) _ (LD (qaZ p i)) [some (.int many),some (.int P),some (hF c p i),v3,some (.ref (hC c p i).length),v5] (hC c p i ++ [.lst (LD ([].flatMap (more p)))])) _=_
 rw [hf]
 rfl
def qbw (p n:Nat):List (List Int):=(qaZ p n).map (· ++ [1])
theorem qfk (p:Nat):∀ i,∀ r∈qaZ p i,r.length=i
 | 0,r,h=>by
  rw [qaZ,List.mem_singleton] at h
  subst h; rfl
 | i + 1,r,h=>by
  rw [qaZ,List.mem_flatMap] at h
  obtain ⟨r',h1,h2⟩:=h
  obtain ⟨d,_,rfl⟩:=List.mem_map.mp h2
  rw [List.length_append,qfk p i r' h1]; rfl
theorem heads_ok {P many:Int} {p n:Nat} (hP:P=p) (hn:many=n) (bP:-4611686018427387904≤P∧P < 4611686018427387904) (bn:-4611686018427387904≤many∧many < 4611686018427387904) (hp:0 < p) (hp':p < 1000) (hpow:p ^ n < 1000) (hn':n < 100) (c:LC) :
  qbv [.int many,.int P] c=.ok (.lst (LD (qbw p n))) c:=by
 have hs:=qam (n:=1000) (by decide)
 obtain ⟨v',hf⟩:=qfL (α:=Option D×Option D×Option D) (g:=qa3 3) (s:=hdO) (hC c p) (fun i v=>[some (.int many),some (.int P),some (hF c p i),v.1,v.2.1,v.2.2]) hn (none,none,none) (fun i hi v=>by
  obtain ⟨w4,w5,h⟩:=hdO_ok (c:=c) (many:=many) (p:=p) (i:=i) hP bP hp' (Nat.le_of_lt (Nat.lt_of_le_of_lt (Nat.pow_le_pow_right hp hi) hpow)) (fun r hr=>by rw [qfk p i r hr]; omega) (some (.int i)) v.2.1 v.2.2
  exact ⟨_,rfl,(some (.int i),w4,w5),h⟩)
 obtain ⟨st,hst,hseq⟩:=hF_seq c p n [] (e:=[some (.int many),some (.int P),some (hF c p n),v'.1,v'.2.1,v'.2.2]) (k:=2) rfl
 rw [List.append_nil] at hseq
 have hst0:st (hC c p n):=by have:=hst []; rwa [List.append_nil] at this
 have hcp:=qeR (c:=hC c p n) st hst0 (g:=qa3 0) (t:=dYes) (a:=dBin catD (dVar 0) (dLst (qa0 (dC (.int 1)) dNil))) (fun e=>∃ v,e=[v]) (fun _=>true) (fun d=>match d with | .lst l=>.lst (l ++ [.int 1]) | d=>d)
  (LD (qaZ p n)) [none] [] ⟨none,rfl⟩ (fun x hx e ⟨v,he⟩=>by
   subst he
   obtain ⟨r,hr,rfl⟩:=List.mem_map.mp hx
   have hz:r.length + 1≤sizeLine:=by rw [qfk p n r hr]; omega
   refine ⟨_,rfl,⟨_,rfl⟩,rfl,fun _=>?_⟩
   simp [catD,hz])
 have hit:(LD (qaZ p n)).length < sizeLine:=by rw [qe8,qeA]; omega
 have hres:[] ++ ((LD (qaZ p n)).filter fun _=>true).map (fun d=>match d with | .lst l=>D.lst (l ++ [.int 1]) | d=>d)=LD (qbw p n):=by
  rw [List.nil_append,filt]
  unfold LD qbw
  rw [List.map_map,List.map_map]
  apply List.map_congr_left
  intro r _
  simp
 rw [hres] at hcp
 have hb:qby=sSeq (sSet 2 (dLst (qa0 (dLst dNil) dNil))) (sSeq (sFor (qbe (qa0 (dVar 0) dNil)) (qa3 3) hdO) (sRet (qaN (dSeq (dVar 2)) [none] (qa3 0) dYes (dBin catD (dVar 0) (dLst (qa0 (dC (.int 1)) dNil)))))):=rfl
 have hC0:hC c p 0=c:=by simp [hC]
 rw [hC0] at hf
 have key:qby [some (.int many),some (.int P),none,none,none,none] c=.ok (.rt (.lst (LD (qbw p n)))) (hC c p n):=by
  rw [hb]
  simp only [qe9,qfv,x_lst,qav,qb0,R.bind_ok]
  rw [if_pos (by decide)]
  simp only [R.bind_ok]
  rw [if_pos (by decide)]
  simp only [R.bind_ok,List.set_cons_succ,List.set_cons_zero,qeF,qef,qav,qaU,qb0,gz]
  rw [if_pos (by omega)]
  simp only [R.bind_ok]
  show R.bind (forD (fun _=>True) (qa3 3) hdO (rngD 0 many) [some (.int many),some (.int P),some (hF c p 0),none,none,none] c) _=_
  rw [hf]
  simp only [R.bind_ok,qfw,qeg]
  rw [hseq]
  simp only [R.bind_ok]
  rw [if_pos hit]
  show R.bind (R.bind (qaI st (qa3 0) dYes (dBin catD (dVar 0) (dLst (qa0 (dC (.int 1)) dNil))) (LD (qaZ p n)) [none] [] (hC c p n)) _) _=_
  rw [hcp]
  rfl
 rw [qbv,x_fn]
 show R.bind (qby [some (.int many),some (.int P),none,none,none,none] c) _=_
 rw [key]
 simp [LD_ref,hC]
end Ev
namespace Ev
open PySem L2 Fq
theorem eqv_ints:∀ a b:List Int,PyData.eqvAll (a.map PyData.int) (b.map PyData.int)=decide (a=b)
 | [],[]=>by simp [PyData.eqvAll]
 | [],b :: bs=>by simp [PyData.eqvAll]
 | a :: as,[]=>by simp [PyData.eqvAll]
 | a :: as,b :: bs=>by
  rw [List.map_cons,List.map_cons,PyData.eqvAll,eqv_ints as bs,PyData.eqv]
  by_cases h:a=b
  ·subst h; simp
  ·simp [h]
theorem depth_ints (a:List Int):PyData.depthAll (a.map PyData.int)=0:=by
 induction a with
 | nil=>simp [PyData.depthAll]
 | cons x a ih=>simp [PyData.depthAll,PyData.depth,ih]
theorem dats_LD (L:List (List Int)):qd3 (LD L)=some (L.map fun r=>PyData.list (r.map PyData.int)):=by
 induction L with
 | nil=>simp [LD]
 | cons r L ih =>
  have ih:qd3 (L.map fun r=>D.lst (r.map D.int))=some (L.map fun r=>PyData.list (r.map PyData.int)):=ih
  simp [LD,qd3,datD,dats_ints,ih]
theorem in_LD (r:List Int) (L:List (List Int)) (c:LC):inD (.lst (r.map D.int)) (.ref c.length) (c ++ [.lst (LD L)])=.ok (.bl (decide (r∈L))) (c ++ [.lst (LD L)]):=by
 unfold inD
 have h1:datC (c ++ [.lst (LD L)]) (.lst (r.map D.int))=some (.list (r.map PyData.int)):=by simp [datC,datD,dats_ints]
 have h2:datC (c ++ [.lst (LD L)]) (.ref c.length)=some (.list (L.map fun r=>PyData.list (r.map PyData.int))):=by simp [datC,dats_LD]
 rw [h1,h2]
 simp only
 rw [if_pos (by simp [PyData.depth,depth_ints])]
 congr 2
 clear h1 h2
 induction L with
 | nil=>simp
 | cons a L ih =>
  rw [List.map_cons,List.any_cons,ih,PyData.eqv,eqv_ints]
  by_cases h:a=r
  ·subst h; simp
  ·have:¬ r=a:=fun z=>h z.symm
   simp [h,this]
def qdu (p n l:Nat) (one:List Int):List (List Int):=(qbw p (n - l)).map fun other=>qdW one other p
def qeX (p n l:Nat):List (List Int):=(qbw p l).flatMap (qdu p n l)
def qg3 (p n:Nat):List (List Int):=(List.range (n / 2)).flatMap fun l=>qeX p n (l + 1)
def fmI:dF:=(qbJ (qbi (dVar 3) (qaN (dSeq (qa7 2 qbv (qa0 (dBin subD (dVar 2) (dVar 4)) (qa0 (dVar 1) dNil)))) [none,some 5,some 1] (qa3 0) dYes (qa7 3 qan (qa0 (dVar 1) (qa0 (dVar 0) (qa0 (dVar 2) dNil)))))))
def fmO:dF:=(sFor (dSeq (qa7 2 qbv (qa0 (dVar 4) (qa0 (dVar 1) dNil)))) (qa3 5) (qbJ (qbi (dVar 3) (qaN (dSeq (qa7 2 qbv (qa0 (dBin subD (dVar 2) (dVar 4)) (qa0 (dVar 1) dNil)))) [none,some 5,some 1] (qa3 0) dYes (qa7 3 qan (qa0 (dVar 1) (qa0 (dVar 0) (qa0 (dVar 2) dNil))))))))
theorem head_bd {p n:Nat} (hp:p < 1000) {r:List Int} (h:r∈qbw p n):r.length=n + 1∧r≠[]∧∀ x∈r,0≤x∧x < 1000:=by
 obtain ⟨t,ht,rfl⟩:=List.mem_map.mp h
 refine ⟨by rw [List.length_append,qfk p n t ht]; rfl,by simp,fun x hx=>?_⟩
 have gen:∀ i,∀ r∈qaZ p i,∀ x∈r,0≤x∧x < 1000:=by
  intro i
  induction i with
  | zero=>intro r hr x hx; rw [qaZ,List.mem_singleton] at hr; subst hr; cases hx
  | succ i ih =>
   intro r hr x hx
   rw [qaZ,List.mem_flatMap] at hr
   obtain ⟨r',h1,h2⟩:=hr
   obtain ⟨d,hd,rfl⟩:=List.mem_map.mp h2
   rcases List.mem_append.mp hx with hx | hx
   ·exact ih r' h1 x hx
   ·rw [List.mem_singleton] at hx
    subst hx
    have:=List.mem_range.mp hd
    omega
 rcases List.mem_append.mp hx with hx | hx
 ·exact gen n t ht x hx
 ·rw [List.mem_singleton] at hx; subst hx; omega
theorem comp_prods {p k:Nat} {one:List Int} {P:Int} (hP:P=p) (hp:0 < p) (hp':p < 1000) (hk:k < 100) (h1:one≠[]) (h2:∀ x∈one,0≤x∧x < 1000) (h3:one.length < 500) (c:LC) :
  qaI (fun _=>True) (qa3 0) dYes (qa7 3 qan (qa0 (dVar 1) (qa0 (dVar 0) (qa0 (dVar 2) dNil)))) (LD (qbw p k)) [none,some (.lst (one.map D.int)),some (.int P)] [] c=.ok (LD ((qbw p k).map fun other=>qdW one other p)) c:=by
 have:=qcc (c:=c) (g:=qa3 0) (t:=dYes) (a:=qa7 3 qan (qa0 (dVar 1) (qa0 (dVar 0) (qa0 (dVar 2) dNil)))) (fun e=>∃ v,e=[v,some (.lst (one.map D.int)),some (.int P)]) (fun _=>true)
  (fun d=>match d with | .lst l=>.lst ((qdW one ((qfX l).getD []) p).map D.int) | d=>d) (LD (qbw p k)) [none,some (.lst (one.map D.int)),some (.int P)] [] ⟨none,rfl⟩ (fun x hx e ⟨v,he⟩=>by
   subst he
   obtain ⟨r,hr,rfl⟩:=List.mem_map.mp hx
   have hb:=head_bd hp' hr
   refine ⟨_,rfl,⟨_,rfl⟩,rfl,fun _=>?_⟩
   have hsp:=sp_ok (a:=one) (b:=r) (p:=P) (by omega) h1 h2 (by omega) c
   subst hP
   simp [hsp,qez])
 rw [this,List.nil_append,filt]
 congr 1
 unfold LD
 rw [List.map_map,List.map_map]
 apply List.map_congr_left
 intro r _
 simp [qez]
structure FmB (p n:Nat):Prop where
 p0:0 < p
 p1:p < 1000
 n1:1 < n
 n2:n < 100
 pw:∀ i,i≤n→p ^ i < 1000
theorem qfr {α β:Type} (f:α→List β) (k:Nat):∀ L:List α,(∀ x∈L,(f x).length=k)→(L.flatMap f).length=L.length * k
 | [],_=>by simp
 | a :: L,h=>by
  rw [List.flatMap_cons,List.length_append,qfr f k L fun x hx=>h x (List.mem_cons_of_mem _ hx),h a List.mem_cons_self,List.length_cons,Nat.succ_mul,Nat.add_comm]
theorem qcQ (p n:Nat):(qbw p n).length=p ^ n:=by rw [qbw,List.length_map,qeA]
theorem fmI_ok {p n l:Nat} (B:FmB p n) {P N l':Int} (hP:P=p) (hN:N=n) (hl:l'=l) (l1:1≤l) (l2:l≤n) {c:LC} {acc:List (List Int)} {one:List Int} (h1:one≠[]) (h2:∀ x∈one,0≤x∧x < 1000) (h3:one.length < 500) (ha:acc.length + p ^ (n - l)≤1000) (q v6:Option D) :
  fmI [q,some (.int P),some (.int N),some (.ref c.length),some (.int l'),some (.lst (one.map D.int)),v6] (c ++ [.lst (LD acc)]) =
   .ok (.nx [q,some (.int P),some (.int N),some (.ref c.length),some (.int l'),some (.lst (one.map D.int)),v6]) (c ++ [.lst (LD (acc ++ qdu p n l one))]):=by
 obtain ⟨p0,p1,n1,n2,pw⟩:=B
 have hs:=qam (n:=1000) (by decide)
 have hpl:=pw (n - l) (by omega)
 have hh:=heads_ok (many:=N - l') (P:=P) (p:=p) (n:=n - l) hP (by omega) (by omega) (by omega) p0 p1 hpl (by omega) (c ++ [.lst (LD acc)])
 have hc:=comp_prods (p:=p) (k:=n - l) (one:=one) hP p0 p1 (by omega) h1 h2 h3 (c ++ [.lst (LD acc)])
 have hit:(LD (qbw p (n - l))).length < sizeLine:=by rw [qe8,qcQ]; omega
 have hl2:(LD acc).length + (LD (qdu p n l one)).length≤sizeLine∧qak (LD (qdu p n l one))=true:=⟨by
  rw [qe8,qe8,qdu,List.length_map,qcQ]; omega,LD_ref _⟩
 have hsub:∀ c:LC,subD (.int N) (.int l') c=.ok (.int (N - l')) c:=fun _=>rfl
 simp only [fmI,qeT,qbi,qaU,gz,gs,R.bind_ok,qeg,x_seqS,qdt,qav,qdc,hsub,qb0,List.length_cons,List.length_nil,if_pos,hh]
 rw [if_pos hit]
 show R.bind (R.bind (R.bind (qaI (fun _=>True) (qa3 0) dYes (qa7 3 qan (qa0 (dVar 1) (qa0 (dVar 0) (qa0 (dVar 2) dNil)))) (LD (qbw p (n - l))) [none,some (.lst (one.map D.int)),some (.int P)] [] (c ++ [.lst (LD acc)])) _) _) _=_
 rw [hc]
 simp only [R.bind_ok,List.getElem?_concat_length]
 rw [if_pos (show (LD acc).length + (LD ((qbw p (n - l)).map fun other=>qdW one other p)).length≤sizeLine∧qak (LD ((qbw p (n - l)).map fun other=>qdW one other p))=true from hl2)]
 rw [LD_append]
 simp [qdu]
theorem fmO_ok {p n l:Nat} (B:FmB p n) {P N l':Int} (hP:P=p) (hN:N=n) (hl:l'=l) (l1:1≤l) (l2:l≤n) {c:LC} {acc:List (List Int)} (ha:acc.length + p ^ n≤1000) (q v5 v6:Option D) :
  ∃ w5,fmO [q,some (.int P),some (.int N),some (.ref c.length),some (.int l'),v5,v6] (c ++ [.lst (LD acc)])=.ok (.nx [q,some (.int P),some (.int N),some (.ref c.length),some (.int l'),w5,v6]) (c ++ [.lst (LD (acc ++ qeX p n l))]):=by
 obtain ⟨p0,p1,n1,n2,pw⟩:=id B
 have hh:=heads_ok (many:=l') (P:=P) (p:=p) (n:=l) hP hl (by omega) (by omega) p0 p1 (pw l l2) (by omega) (c ++ [.lst (LD acc)])
 obtain ⟨v',hf⟩:=qdI (st:=fun _=>True) (g:=qa3 5) (s:=fmI) (fun j=>c ++ [.lst (LD (acc ++ ((qbw p l).take j).flatMap (qdu p n l)))]) (fun _ v=>[q,some (.int P),some (.int N),some (.ref c.length),some (.int l'),v,v6]) (LD (qbw p l)) 0 v5
  (fun _ _=>trivial) (fun j x hx v=>by
   rw [Nat.zero_add]
   have hj:j < (qbw p l).length:=by
    have:=(List.getElem?_eq_some_iff.mp hx).1
    rwa [qe8] at this
   have hx':x=.lst ((qbw p l)[j].map D.int):=by
    have:=(List.getElem?_eq_some_iff.mp hx).2
    rw [← this]
    simp [LD]
   subst hx'
   have hb:=head_bd p1 (List.getElem_mem hj)
   refine ⟨_,rfl,some (.lst ((qbw p l)[j].map D.int)),?_⟩
   have hfl:=qfr (qdu p n l) (p ^ (n - l)) ((qbw p l).take j) (fun y _=>by rw [qdu,List.length_map,qcQ])
   rw [List.length_take,Nat.min_eq_left (by omega)] at hfl
   have hacc:(acc ++ ((qbw p l).take j).flatMap (qdu p n l)).length + p ^ (n - l)≤1000:=by
    rw [List.length_append,hfl]
    rw [qcQ] at hj
    have h2:(j + 1) * p ^ (n - l)≤p ^ l * p ^ (n - l):=Nat.mul_le_mul_right _ hj
    rw [← Nat.pow_add,show l + (n - l)=n by omega,Nat.succ_mul] at h2
    omega
   have:=fmI_ok (l:=l) B hP hN hl l1 l2 (c:=c) hb.2.1 hb.2.2 (by omega) hacc q v6
   rw [take_flat _ hj,← List.append_assoc]
   exact this)
 rw [qe8,Nat.zero_add,List.take_length] at hf
 refine ⟨v',?_⟩
 simp only [fmO,qeF,x_seqS,qdt,qav,qaU,gz,gs,R.bind_ok,qb0,List.length_cons,List.length_nil,if_pos,hh]
 unfold fmI at hf
 have e0:acc ++ ([]:List (List Int)).flatMap (qdu p n l)=acc:=by simp
 rw [List.take_zero,e0] at hf
 exact hf
theorem prods_len (p n:Nat) (h:∀ l,1≤l→l≤n→(qeX p n l).length=p ^ n):∀ i,i≤n→((List.range i).flatMap fun l=>qeX p n (l + 1)).length=i * p ^ n:=fun i hi=>by
 rw [qfr _ (p ^ n) (List.range i) fun x hx=>h (x + 1) (by omega) (by have:=List.mem_range.mp hx; omega),List.length_range]
theorem prodsO_len (p n l:Nat) (h:l≤n):(qeX p n l).length=p ^ n:=by
 rw [qeX,qfr _ (p ^ (n - l)) _ fun x _=>by rw [qdu,List.length_map,qcQ],qcQ,← Nat.pow_add,show l + (n - l)=n by omega]
theorem fm_loop {p n:Nat} (B:FmB p n) (hb:(n / 2) * p ^ n≤1000) {P N:Int} (hP:P=p) (hN:N=n) (c:LC) (q v6:Option D) :
  ∃ w4 w5,forD (fun _=>True) (qa3 4) fmO (rngD 1 (N / 2 + 1)) [q,some (.int P),some (.int N),some (.ref c.length),none,none,v6] (c ++ [.lst []])=.ok (.nx [q,some (.int P),some (.int N),some (.ref c.length),w4,w5,v6]) (c ++ [.lst (LD (qg3 p n))]):=by
 have n1:=B.n1
 have hl:(rngD 1 (N / 2 + 1)).length=n / 2:=by rw [qbH]; omega
 obtain ⟨v',hf⟩:=qdI (α:=Option D×Option D) (st:=fun _=>True) (g:=qa3 4) (s:=fmO) (fun i=>c ++ [.lst (LD ((List.range i).flatMap fun l=>qeX p n (l + 1)))]) (fun _ v=>[q,some (.int P),some (.int N),some (.ref c.length),v.1,v.2,v6]) (rngD 1 (N / 2 + 1)) 0 (none,none)
  (fun _ _=>trivial) (fun i x hx v=>by
   rw [Nat.zero_add]
   obtain ⟨h1,rfl⟩:=qfy hx
   have hi:i < n / 2:=by omega
   have hacc:((List.range i).flatMap fun l=>qeX p n (l + 1)).length + p ^ n≤1000:=by
    rw [prods_len p n (fun l _ h=>prodsO_len p n l h) i (by omega)]
    have h2:(i + 1) * p ^ n≤(n / 2) * p ^ n:=Nat.mul_le_mul_right _ hi
    rw [Nat.succ_mul] at h2
    omega
   obtain ⟨w,h⟩:=fmO_ok (l:=i + 1) (l':=1 + (i:Int)) B hP hN (by omega) (by omega) (by omega) (c:=c) hacc q v.2 v6
   refine ⟨_,rfl,(some (.int (1 + (i:Int))),w),?_⟩
   rw [List.range_succ,List.flatMap_append]
   simpa using h)
 rw [hl,Nat.zero_add] at hf
 exact ⟨v'.1,v'.2,hf⟩
def fmT:dB:=(dBl (dBin inD (dBin catD (qa7 3 qaw (qa0 (dVar 6) (qa0 (dVar 1) (qa0 (dVar 2) dNil)))) (dLst (qa0 (dC (.int 1)) dNil))) (dVar 3)))
theorem fm_test {p n:Nat} {P N:Int} (hP:P=p) (hN:N=n) (hp:0 < p) (hp':p < 1000) (hn:n < 100) {t:Int} {c:LC} {L:List (List Int)} (q v4 v5:Option D) :
  fmT [q,some (.int P),some (.int N),some (.ref c.length),v4,v5,some (.int t)] (c ++ [.lst (LD L)])=.ok (decide (rowF P n t ++ [1]∈L)) (c ++ [.lst (LD L)]):=by
 have hs:=qam (n:=1000) (by decide)
 have hr:=qgI (p:=P) (N:=N) (x:=t) (n:=n) (by omega) (by omega) (by rw [qbH]; omega) (by omega) (by omega) (c ++ [.lst (LD L)])
 have hz:(rowF P n t).length + 1≤sizeLine:=by rw [qb1]; omega
 have hi:=in_LD (rowF P n t ++ [1]) L c
 rw [List.map_append] at hi
 simp [fmT,hr,catD,hz]
 simp at hi
 rw [hi]
 rfl
theorem fm_while {p n:Nat} {P N:Int} (hP:P=p) (hN:N=n) (hp:0 < p) (hp':p < 1000) (hn:n < 100) {c:LC} {L:List (List Int)} {low:Nat} (h1:∀ t,t < low→rowF P n t ++ [1]∈L) (h2:rowF P n low ++ [1]∉L) (q v4 v5:Option D):∀ (k fuel t:Nat),t + k=low→k < fuel →
  qcD fmT (sSet 6 (dBin addD (dVar 6) (dC (.int 1)))) fuel [q,some (.int P),some (.int N),some (.ref c.length),v4,v5,some (.int t)] (c ++ [.lst (LD L)])=.ok (.nx [q,some (.int P),some (.int N),some (.ref c.length),v4,v5,some (.int low)]) (c ++ [.lst (LD L)])
 | 0,fuel + 1,t,e,_=>by
  have e:t=low:=by omega
  subst e
  unfold qcD
  rw [fm_test hP hN hp hp' hn,decide_eq_false h2]
  rfl
 | k + 1,fuel + 1,t,e,hf=>by
  have ih:=fm_while (c:=c) hP hN hp hp' hn h1 h2 q v4 v5 k fuel (t + 1) (by omega) (by omega)
  unfold qcD
  rw [fm_test hP hN hp hp' hn,decide_eq_true (h1 t (by omega))]
  simp only [R.bind_ok,if_pos]
  have es:(sSet 6 (dBin addD (dVar 6) (dC (.int 1)))) [q,some (.int P),some (.int N),some (.ref c.length),v4,v5,some (.int t)] (c ++ [.lst (LD L)])=.ok (.nx [q,some (.int P),some (.int N),some (.ref c.length),v4,v5,some (.int ((t + 1:Nat):Int))]) (c ++ [.lst (LD L)]):=by simp
  rw [es]
  exact ih
def qcH (f:Fd):List Int:=if f.n=1 then [0,1] else rowF f.p f.n f.low ++ [1]
def chkF (f:Fd):Bool:=Nat.beq f.n 1 || ((List.range f.low).all fun t=>(qg3 f.p f.n).any fun r=>decide (r=rowF f.p f.n t ++ [1])) && ((qg3 f.p f.n).all fun r=>decide (¬ r=rowF f.p f.n f.low ++ [1])) && Nat.ble ((f.n / 2) * f.p ^ f.n) 1000 && Nat.ble (f.low + 1) 60
theorem all_F:fds.all chkF=true:=by decide +kernel
end Ev
namespace Ev
open PySem L2 Fq
def bF (G W:dF):dF:=(sSeq (sSet 1 (qa7 1 qas (qa0 (dVar 0) dNil))) (sSeq (sSet 2 (qa7 1 qaO (qa0 (dVar 0) dNil))) (sSeq (sIf (dBl (dBin eqD (dVar 2) (dC (.int 1)))) (sRet (dLst (qa0 (dC (.int 0)) (qa0 (dC (.int 1)) dNil)))) qbI) (sSeq (sSet 3 (qcC dNil)) (sSeq (sFor (qfg (qa0 (dC (.int 1)) (qa0 (dBin addD (dBin divD (dVar 2) (dC (.int 2))) (dC (.int 1))) dNil))) (qa3 4) G) (sSeq (sSet 6 (dC (.int 0))) (sSeq W (sRet (dBin catD (qa7 3 qaw (qa0 (dVar 6) (qa0 (dVar 1) (qa0 (dVar 2) dNil)))) (dLst (qa0 (dC (.int 1)) dNil)))))))))))
theorem bF_is:qcS=bF fmO (qcD fmT (sSet 6 (dBin addD (dVar 6) (dC (.int 1)))) 60):=rfl
theorem form_gen {G W:dF} {q P N low:Int} {w4 w5:Option D} {c:LC} {C:LC} {row:List D} {form:List Int} (hq:-4611686018427387904≤N / 2 + 1∧N / 2 + 1 < 4611686018427387904) (hn1:¬ N=1) (hp:qas [.int q] c=.ok (.int P) c) (hd:qaO [.int q] c=.ok (.int N) c) (hrl:row.length + 1 < 1000)
  (hl:forD (fun _=>True) (qa3 4) G (rngD 1 (N / 2 + 1)) [some (.int q),some (.int P),some (.int N),some (.ref c.length),none,none,none] (c ++ [.lst []])=.ok (.nx [some (.int q),some (.int P),some (.int N),some (.ref c.length),w4,w5,none]) (c ++ C))
  (hw:W [some (.int q),some (.int P),some (.int N),some (.ref c.length),w4,w5,some (.int 0)] (c ++ C)=.ok (.nx [some (.int q),some (.int P),some (.int N),some (.ref c.length),w4,w5,some (.int low)]) (c ++ C))
  (hr:qaw [.int low,.int P,.int N] (c ++ C)=.ok (.lst row) (c ++ C)) (he:form.map D.int=row ++ [.int 1]):fnD 7 false (bF G W) [.int q] c=.ok (.lst (form.map D.int)) c:=by
 have hs:=qam (n:=1000) (by decide)
 have hdv:divD (.int N) (.int 2) (c ++ [.lst []])=.ok (.int (N / 2)) (c ++ [.lst []]):=div_c _ (by decide) (by decide)
 have hz:row.length + 1≤sizeLine:=by omega
 have href:qak (row ++ [.int 1])=true:=by rw [← he]; exact qcm
 have key:bF G W [some (.int q),none,none,none,none,none,none] c=.ok (.rt (.lst (row ++ [.int 1]))) (c ++ C):=by
  simp [bF,hp,hd,hn1,hdv]
  rw [if_pos (by omega)]
  simp only [R.bind_ok]
  rw [hl]
  simp [hw,hr,catD,hz]
 rw [x_fn]
 show R.bind (bF G W [some (.int q),none,none,none,none,none,none] c) _=_
 rw [key,he]
 simp [href]
theorem form_one {G W:dF} {q P:Int} {c:LC} (hp:qas [.int q] c=.ok (.int P) c) (hd:qaO [.int q] c=.ok (.int 1) c):fnD 7 false (bF G W) [.int q] c=.ok (.lst [.int 0,.int 1]) c:=by
 simp [bF,hp,hd]
theorem form_ok {f:Fd} (h:f∈fds) (c:LC):qcP [.int f.q] c=.ok (.lst ((qcH f).map D.int)) c:=by
 have I:=qe0 h
 have p2:=I.p2
 have p47:=I.p47
 have n1:=I.n1
 have n5:=I.n5
 have hF:=List.all_eq_true.mp all_F f h
 have hp:=qgx h c
 have hd:=degree_ok h c
 rw [qcP,bF_is]
 by_cases hn:f.n=1
 ·have e:qcH f=[0,1]:=if_pos hn
  rw [e]
  exact form_one hp (by rw [hd,hn]; rfl)
 ·have e:qcH f=rowF f.p f.n f.low ++ [1]:=if_neg hn
  have hn0:Nat.beq f.n 1=false:=by
   cases hq:Nat.beq f.n 1 with
   | false=>rfl
   | true=>exact absurd (be hq) hn
  simp only [chkF,hn0,Bool.false_or,Bool.and_eq_true] at hF
  obtain ⟨⟨⟨f1,f2⟩,f3⟩,f4⟩:=hF
  have g1:∀ t,t < f.low→rowF (f.p:Int) f.n t ++ [1]∈qg3 f.p f.n:=fun t ht=>by
   have:=List.all_eq_true.mp f1 t (List.mem_range.mpr ht)
   obtain ⟨r,hr,he⟩:=List.any_eq_true.mp this
   rw [← of_decide_eq_true he]
   exact hr
  have g2:rowF (f.p:Int) f.n f.low ++ [1]∉qg3 f.p f.n:=fun hm=>by
   have:=List.all_eq_true.mp f2 _ hm
   simp at this
  have hq:f.q < 1000:=by
   have:(fds.all fun f=>decide (f.q < 1000))=true:=by decide +kernel
   simpa using List.all_eq_true.mp this f h
  have B:FmB f.p f.n:=⟨by omega,by omega,by omega,by omega,fun i hi=>by
   have:=Nat.pow_le_pow_right (n:=f.p) (by omega) hi
   rw [I.pn] at this
   omega⟩
  obtain ⟨w4,w5,hl⟩:=fm_loop (P:=f.p) (N:=f.n) B (bl f3) rfl rfl c (some (.int f.q)) none
  have hw:=fm_while (P:=f.p) (N:=f.n) (p:=f.p) (n:=f.n) rfl rfl (by omega) (by omega) (by omega) (c:=c) g1 g2 (some (.int f.q)) w4 w5 f.low 60 0 (by omega) (bl f4)
  have hr:=qgI (p:=f.p) (N:=f.n) (x:=f.low) (n:=f.n) (by omega) (by omega) (by rw [qbH]; omega) (by omega) (by omega) (c ++ [.lst (LD (qg3 f.p f.n))])
  exact form_gen (by omega) (by omega) hp hd (by rw [List.length_map,qb1]; omega) hl hw hr (by rw [e,List.map_append]; rfl)
end Ev
namespace Ev
open PySem L2 Fq
def redI (p often:Int) (form:List Int) (base:Nat) (F:List Int):Nat→List Int
 | 0=>F
 | k + 1=>(redI p often form base F k).set (base + k) ((gI (redI p often form base F k) (base + k) - often * gI form k) % p)
def redO (p:Int) (form:List Int) (n:Nat) (F:List Int):Nat→List Int
 | 0=>F
 | i + 1=>redI p (gI (redO p form n F i) (2 * n - 2 - i)) form (2 * n - 2 - i - n) (redO p form n F i) (n + 1)
def prodL (p:Int) (n:Nat) (form:List Int) (x y:Int):Int:=numL p ((redO p form n (qdW (rowF p n x) (rowF p n y) p) (n - 1)).take n)
theorem qfm {p often:Int} {form:List Int} {base:Nat} {F:List Int}:∀ k,(redI p often form base F k).length=F.length
 | 0=>rfl
 | k + 1=>by rw [redI,List.length_set,qfm k]
theorem qfl {p:Int} {form:List Int} {n:Nat} {F:List Int}:∀ i,(redO p form n F i).length=F.length
 | 0=>rfl
 | i + 1=>by rw [redO,qfm,qfl i]
theorem sumsP_len (a b:List Int) (p:Int):(qdW a b p).length=a.length + b.length - 1:=by rw [qdW,qfn,List.length_replicate]
def pdI:dF:=(sSeq (sSet 10 (dBin addD (dBin subD (dVar 7) (dVar 5)) (dVar 9))) (sAsg (dBin modD (dBin subD (dBin ixD (dVar 6) (dVar 10)) (dBin mulD (dVar 8) (dBin ixD (dVar 1) (dVar 9)))) (dVar 4)) (qgP (dVar 6) (dVar 10))))
theorem pdI_ok {form F:List Int} {p often N place:Int} {c:LC} {base k n:Nat} (hp:0 < p) (hN:N=n) (hpl:place=(base:Int) + n) (hk:k < form.length) (hF:base + k < F.length) (hs:∀ x∈form,0≤x∧x < 1000) (q a2 a3 v10:Option D) :
  pdI [q,some (.lst (form.map D.int)),a2,a3,some (.int p),some (.int N),some (.ref c.length),some (.int place),some (.int often),some (.int k),v10] (c ++ [.lst (F.map D.int)]) =
   .ok (.nx [q,some (.lst (form.map D.int)),a2,a3,some (.int p),some (.int N),some (.ref c.length),some (.int place),some (.int often),some (.int k),some (.int (place - N + k))]) (c ++ [.lst ((F.set (base + k) ((gI F (base + k) - often * gI form k) % p)).map D.int)]):=by
 have h1:=ix_end (c:=c) (l:=F.map D.int) (i:=place - N + k) (j:=base + k) (d:=.int (gI F (base + k))) (by omega) (qgf hF)
 have h2:atI (form.map D.int) k=some (.int (gI form k)):=qcu (qgf hk)
 have hb:0≤gI form k∧gI form k < 1000:=hs _ (by simp [gI,List.getD,hk])
 have h4:∀ c,mulD (.int often) (.int (gI form k)) c=.ok (.int (often * gI form k)) c:=fun c=>mul_r c (by omega) (by omega)
 have h5:=fun x=>set_end (c:=c) (l:=F.map D.int) (i:=place - N + k) (j:=base + k) (d:=.int x) (by omega) (by simpa using hF) rfl
 have h6:∀ x c,modD (.int x) (.int p) c=.ok (.int (x % p)) c:=fun x c=>qfV c hp
 simp only [pdI,qe9,qfv,x_asg,qdc,qaU,gz,gs,R.bind_ok,x_add,x_sub,List.set_cons_succ,List.set_cons_zero,qgo,h1,h2,h4,h6,x_gsub,h5,map_set]
def pdO:dF:=(sSeq (sSet 8 (dBin ixD (dVar 6) (dVar 7))) (sFor (qbe (qa0 (dBin addD (dVar 5) (dC (.int 1))) dNil)) (qa3 9) (sSeq (sSet 10 (dBin addD (dBin subD (dVar 7) (dVar 5)) (dVar 9))) (sAsg (dBin modD (dBin subD (dBin ixD (dVar 6) (dVar 10)) (dBin mulD (dVar 8) (dBin ixD (dVar 1) (dVar 9)))) (dVar 4)) (qgP (dVar 6) (dVar 10))))))
theorem pdO_ok {form F:List Int} {p N place:Int} {c:LC} {base n:Nat} (hp:0 < p) (hN:N=n) (b1:-4611686018427387904≤N + 1∧N + 1 < 4611686018427387904) (hpl:place=(base:Int) + n) (hk:form.length=n + 1) (hF:base + n < F.length) (hs:∀ x∈form,0≤x∧x < 1000) (q a2 a3 v8 v9 v10:Option D) :
  ∃ w8 w9 w10,pdO [q,some (.lst (form.map D.int)),a2,a3,some (.int p),some (.int N),some (.ref c.length),some (.int place),v8,v9,v10] (c ++ [.lst (F.map D.int)]) =
   .ok (.nx [q,some (.lst (form.map D.int)),a2,a3,some (.int p),some (.int N),some (.ref c.length),some (.int place),w8,w9,w10]) (c ++ [.lst ((redI p (gI F (base + n)) form base F (n + 1)).map D.int)]):=by
 have h1:=ix_end (c:=c) (l:=F.map D.int) (i:=place) (j:=base + n) (d:=.int (gI F (base + n))) (by omega) (qgf hF)
 obtain ⟨v',hf⟩:=qfL (α:=Option D×Option D) (g:=qa3 9) (s:=pdI) (N:=N + 1) (n:=n + 1) (fun k=>c ++ [.lst ((redI p (gI F (base + n)) form base F k).map D.int)]) (fun _ v=>[q,some (.lst (form.map D.int)),a2,a3,some (.int p),some (.int N),some (.ref c.length),some (.int place),some (.int (gI F (base + n))),v.1,v.2]) (by omega) (v9,v10) (fun k hk' v=>by
  exact ⟨_,rfl,(some (.int k),_),pdI_ok hp hN hpl (by omega) (by rw [qfm]; omega) hs q a2 a3 v.2⟩)
 refine ⟨some (.int (gI F (base + n))),v'.1,v'.2,?_⟩
 simp only [pdO,qe9,qfv,qdc,qaU,gz,gs,R.bind_ok,h1,List.set_cons_succ,List.set_cons_zero,qeF,qef,qav,x_c,x_add,qb0]
 rw [if_pos (by omega)]
 unfold pdI at hf
 exact hf
theorem len_ref (l:List Int) (c:LC):lenD [.ref c.length] (c ++ [.lst (l.map D.int)])=.ok (.int l.length) (c ++ [.lst (l.map D.int)]):=by
 unfold lenD
 simp [seqD]
def bPd (L:List D→LC→R D) (S:Ev→LC→R Src) (Rt:dF) (G:dF):dF:=(sSeq (sSet 4 (qa7 1 qas (qa0 (dVar 0) dNil))) (sSeq (sSet 5 (dBin subD (dCB L (qa0 (dVar 1) dNil)) (dC (.int 1)))) (sSeq (sSet 6 (qa7 3 qaG (qa0 (qa7 3 qaw (qa0 (dVar 2) (qa0 (dVar 4) (qa0 (dVar 5) dNil)))) (qa0 (qa7 3 qaw (qa0 (dVar 3) (qa0 (dVar 4) (qa0 (dVar 5) dNil)))) (qa0 (dVar 4) dNil))))) (sSeq (sFor S (qa3 7) G) Rt))))
theorem bPd_is:qbF=bPd lenD (dRng3 (qa0 (dBin subD (dCB lenD (qa0 (dVar 6) dNil)) (dC (.int 1))) (qa0 (dBin subD (dVar 5) (dC (.int 1))) (qa0 (dBin subD (dC (.int 0)) (dC (.int 1))) dNil)))) (sRet (qa7 2 qbu (qa0 (dSl (dVar 6) dNoP (dPart (dVar 5))) (qa0 (dVar 4) dNil)))) pdO:=rfl
theorem rng3_gen {L:List D→LC→R D} {M N:Int} {e:Ev} {c:LC} {d:D} (h6:e[6]? = some (some d)) (h5:e[5]? = some (some (.int N))) (hM:L [d] c=.ok (.int M) c) (b1:-4611686018427387904≤M - 1∧M - 1 < 4611686018427387904∧-4611686018427387904≤N - 1∧N - 1 < 4611686018427387904) :
  (dRng3 (qa0 (dBin subD (dCB L (qa0 (dVar 6) dNil)) (dC (.int 1))) (qa0 (dBin subD (dVar 5) (dC (.int 1))) (qa0 (dBin subD (dC (.int 0)) (dC (.int 1))) dNil)))) e c=.ok ⟨dnD (M - 1) (N - 1),fun _=>True⟩ c:=by
 simp only [dRng3,qav,qdc,x_cb,qaU,x_c,qb0,h6,h5,R.bind_ok,hM,x_sub]
 rw [if_pos ⟨by decide,by omega,by omega,by omega,by omega⟩]
theorem cut_take {l:List D} {n:Nat} {N:Int} (hN:N=n) (h:n≤l.length):cutD l none (some N)=l.take n:=by
 subst hN
 have:HT.sIx l.length l.length (some (n:Int))=n:=by rw [HT.sIx_nat]; omega
 show (l.drop 0).take (HT.sIx l.length l.length (some (n:Int)) - 0)=_
 rw [this]; simp
theorem sl_gen {e:Ev} {N:Int} {n:Nat} {F:List Int} {c:LC} (h6:e[6]? = some (some (.ref c.length))) (h5:e[5]? = some (some (.int N))) (hcut:cutD (F.map D.int) none (some N)=(F.take n).map D.int):dSl (dVar 6) dNoP (dPart (dVar 5)) e (c ++ [.lst (F.map D.int)])=.ok (.lst ((F.take n).map D.int)) (c ++ [.lst (F.map D.int)]):=by
 have hlst:lstD (c ++ [.lst (F.map D.int)]) (.ref c.length)=some (F.map D.int):=by simp [lstD]
 rw [x_sl,qaU,h6,R.bind_ok,x_nop,R.bind_ok,x_part,qaU,h5,R.bind_ok,R.bind_ok,hlst]
 show R.ok (D.lst (cutD (F.map D.int) none (some N))) _=_
 rw [hcut]
theorem rt_gen {m:List D→LC→R D} {Sl:yD} {e:Ev} {c:LC} {p w:Int} {l:List D} (hS:Sl e c=.ok (.lst l) c) (h4:e[4]? = some (some (.int p))) (hn:m [.lst l,.int p] c=.ok (.int w) c):sRet (qa7 2 m (qa0 Sl (qa0 (dVar 4) dNil))) e c=.ok (.rt (.int w)) c:=by
 rw [qfw,qdt,qav,hS,R.bind_ok,qav,qaU,h4,R.bind_ok,qb0,R.bind_ok,R.bind_ok,R.bind_ok,if_pos (show [D.lst l,D.int p].length=2 from rfl),hn,R.bind_ok]
theorem pd_gen {L:List D→LC→R D} {S:Ev→LC→R Src} {Rt:dF} {its:List D} {G:dF} {q x y p N w:Int} {form:List Int} {rx ry:List D} {F F':List Int} {c:LC} {w7 w8 w9 w10:Option D} (hp:qas [.int q] c=.ok (.int p) c) (hL:L [.lst (form.map D.int)] c=.ok (.int (N + 1)) c)
  (h1:qaw [.int x,.int p,.int N] c=.ok (.lst rx) c) (h2:qaw [.int y,.int p,.int N] c=.ok (.lst ry) c) (h3:qaG [.lst rx,.lst ry,.int p] c=.ok (.ref c.length) (c ++ [.lst (F.map D.int)]))
  (hS:S [some (.int q),some (.lst (form.map D.int)),some (.int x),some (.int y),some (.int p),some (.int N),some (.ref c.length),none,none,none,none] (c ++ [.lst (F.map D.int)])=.ok ⟨its,fun _=>True⟩ (c ++ [.lst (F.map D.int)]))
  (hf:forD (fun _=>True) (qa3 7) G its [some (.int q),some (.lst (form.map D.int)),some (.int x),some (.int y),some (.int p),some (.int N),some (.ref c.length),none,none,none,none] (c ++ [.lst (F.map D.int)])=.ok (.nx [some (.int q),some (.lst (form.map D.int)),some (.int x),some (.int y),some (.int p),some (.int N),some (.ref c.length),w7,w8,w9,w10]) (c ++ [.lst (F'.map D.int)]))
  (hRt:Rt [some (.int q),some (.lst (form.map D.int)),some (.int x),some (.int y),some (.int p),some (.int N),some (.ref c.length),w7,w8,w9,w10] (c ++ [.lst (F'.map D.int)])=.ok (.rt (.int w)) (c ++ [.lst (F'.map D.int)])):fnD 11 false (bPd L S Rt G) [.int q,.lst (form.map D.int),.int x,.int y] c=.ok (.int w) c:=by
 have key:bPd L S Rt G [some (.int q),some (.lst (form.map D.int)),some (.int x),some (.int y),none,none,none,none,none,none,none] c=.ok (.rt (.int w)) (c ++ [.lst (F'.map D.int)]):=by
  simp [bPd,hp,hL,h1,h2,h3,hS]
  rw [hf]
  simp only [R.bind_ok]
  rw [hRt]
 rw [x_fn]
 show R.bind (bPd L S Rt G [some (.int q),some (.lst (form.map D.int)),some (.int x),some (.int y),none,none,none,none,none,none,none] c) _=_
 rw [key]
 simp
theorem form_len {f:Fd} (h:f∈fds):(qcH f).length=f.n + 1∧∀ x∈qcH f,0≤x∧x < 1000:=by
 have I:=qe0 h
 have p2:=I.p2
 have p47:=I.p47
 unfold qcH
 split
 ·rename_i e
  rw [e]
  exact ⟨rfl,fun x hx=>by simp at hx; omega⟩
 ·refine ⟨by rw [List.length_append,qb1]; rfl,fun x hx=>?_⟩
  rcases List.mem_append.mp hx with hx | hx
  ·have:=row_bd (p:=f.p) (by omega) f.n f.low x hx; omega
  ·rw [List.mem_singleton] at hx; omega
theorem prod_ok {f:Fd} (h:f∈fds) (x y:Int) (c:LC):qao [.int f.q,.lst ((qcH f).map D.int),.int x,.int y] c=.ok (.int (prodL f.p f.n (qcH f) x y)) c:=by
 have I:=qe0 h
 have p2:=I.p2
 have p47:=I.p47
 have n1:=I.n1
 have n5:=I.n5
 obtain ⟨fl,fb⟩:=form_len h
 have rl:∀ z,(rowF (f.p:Int) f.n z).length=f.n:=qb1 _ _
 have rb:=fun z=>row_bd (p:=f.p) (by omega) f.n z
 have h1:=fun z=>qgI (p:=f.p) (N:=f.n) (x:=z) (n:=f.n) (by omega) (by omega) (by rw [qbH]; omega) (by omega) (by omega) c
 have h3:=spo_ok (a:=rowF f.p f.n x) (b:=rowF f.p f.n y) (p:=f.p) (by omega) (fun z=>by have:=rl x; rw [z] at this; simp at this; omega) (fun d hd=>by have:=rb x d hd; omega) (by rw [rl,rl]; omega) c
 have hFl:(qdW (rowF f.p f.n x) (rowF f.p f.n y) f.p).length=2 * f.n - 1:=by rw [sumsP_len,rl,rl]; omega
 generalize hF:qdW (rowF (f.p:Int) f.n x) (rowF f.p f.n y) f.p=F at h3 hFl
 have hdl:(dnD (((2 * f.n - 1:Nat):Int) - 1) ((f.n:Int) - 1)).length=f.n - 1:=by simp [dnD]; omega
 obtain ⟨v',hf⟩:=qdI (α:=Option D×Option D×Option D×Option D) (st:=fun _=>True) (g:=qa3 7) (s:=pdO) (fun i=>c ++ [.lst ((redO f.p (qcH f) f.n F i).map D.int)]) (fun _ v=>[some (.int f.q),some (.lst ((qcH f).map D.int)),some (.int x),some (.int y),some (.int f.p),some (.int f.n),some (.ref c.length),v.1,v.2.1,v.2.2.1,v.2.2.2])
  (dnD (((2 * f.n - 1:Nat):Int) - 1) ((f.n:Int) - 1)) 0 (none,none,none,none) (fun _ _=>trivial) (fun i z hz v=>by
   rw [Nat.zero_add]
   have hi:i < f.n - 1:=by
    have:=(List.getElem?_eq_some_iff.mp hz).1
    omega
   have hz':z=.int ((((2 * f.n - 1:Nat):Int) - 1) - i):=by
    unfold dnD at hz
    rw [List.getElem?_map] at hz
    cases hq:(List.range ((((2 * f.n - 1:Nat):Int) - 1) - ((f.n:Int) - 1)).toNat)[i]? with
    | none=>rw [hq] at hz; cases hz
    | some u =>
     rw [hq] at hz
     have:=(List.getElem?_eq_some_iff.mp hq).2
     rw [List.getElem_range] at this
     subst this
     cases hz
     rfl
   subst hz'
   obtain ⟨w8,w9,w10,hb⟩:=pdO_ok (form:=qcH f) (F:=redO f.p (qcH f) f.n F i) (p:=f.p) (N:=f.n) (place:=(((2 * f.n - 1:Nat):Int) - 1) - i) (c:=c) (base:=2 * f.n - 2 - i - f.n) (n:=f.n) (by omega) rfl (by omega) (by omega) fl (by rw [qfl]; omega) fb (some (.int f.q)) (some (.int x)) (some (.int y)) v.2.1 v.2.2.1 v.2.2.2
   refine ⟨_,rfl,(some (.int ((((2 * f.n - 1:Nat):Int) - 1) - i)),w8,w9,w10),?_⟩
   rw [show 2 * f.n - 2 - i - f.n + f.n=2 * f.n - 2 - i by omega] at hb
   exact hb)
 rw [hdl,Nat.zero_add] at hf
 have hcut:cutD ((redO f.p (qcH f) f.n F (f.n - 1)).map D.int) none (some (f.n:Int))=((redO f.p (qcH f) f.n F (f.n - 1)).take f.n).map D.int:=by
  rw [cut_take rfl (by rw [List.length_map,qfl]; omega),List.map_take]
 have hn:=lnum_ok (p:=f.p) (by omega) (by omega) ((redO f.p (qcH f) f.n F (f.n - 1)).take f.n) (by rw [List.length_take]; omega) (c ++ [.lst ((redO f.p (qcH f) f.n F (f.n - 1)).map D.int)])
 rw [qao,bPd_is,prodL,hF]
 exact pd_gen (qgx h c) (by rw [qey,fl]; rfl) (h1 x) (h1 y) h3 (rng3_gen (M:=((2 * f.n - 1:Nat):Int)) rfl rfl (by rw [len_ref,hFl]) (by omega)) hf (rt_gen (sl_gen rfl rfl hcut) rfl hn)
def mdf:List Int→Nat→(Int→Int)→List Int
 | [],_,_=>[]
 | x :: l,0,f=>f x :: l
 | x :: l,i + 1,f=>x :: mdf l i f
theorem mdf_eq:∀ (l:List Int) (i:Nat) (f:Int→Int),i < l.length→l.set i (f (gI l i))=mdf l i f
 | [],i,f,h=>by cases h
 | x :: l,0,f,h=>rfl
 | x :: l,i + 1,f,h=>by
  have:=mdf_eq l i f (by simpa using h)
  simp only [List.set_cons_succ,mdf]
  rw [← this]; rfl
def innQ (p a:Int) (b:List Int) (k:Nat) (F:List Int):Nat→List Int
 | 0=>F
 | j + 1=>mdf (innQ p a b k F j) (k + j) fun v=>(v + a * gI b j) % p
theorem inn_Q {p a:Int} {b:List Int} {k:Nat} {F:List Int}:∀ j,k + j≤F.length→inn p a b k F j=innQ p a b k F j
 | 0,_=>rfl
 | j + 1,h=>by rw [inn,innQ,inn_Q j (by omega),mdf_eq _ _ (fun v=>(v + a * gI b j) % p) (by rw [← inn_Q j (by omega),qgK]; omega)]
def outQ (p:Int) (a b F:List Int):Nat→List Int
 | 0=>F
 | k + 1=>innQ p (gI a k) b k (outQ p a b F k) b.length
theorem out_Q {p:Int} {a b F:List Int}:∀ k,k + b.length≤F.length + 1→outr p a b F k=outQ p a b F k
 | 0,_=>rfl
 | k + 1,h=>by rw [outr,outQ,← out_Q k (by omega),inn_Q _ (by rw [qfn]; omega)]
def frc {α:Type} (i:Int) (g:Int→α):α:=match i with
 | .ofNat n=>(match n with | 0=>g (.ofNat 0) | m + 1=>g (.ofNat (m + 1)))
 | .negSucc n=>g (.negSucc n)
theorem frc_eq {α:Type} (i:Int) (g:Int→α):frc i g=g i:=by
 cases i with
 | ofNat n=>cases n <;> rfl
 | negSucc n=>rfl
def redQ (p often:Int) (form:List Int) (base:Nat) (F:List Int):Nat→List Int
 | 0=>F
 | k + 1=>mdf (redQ p often form base F k) (base + k) fun v=>(v - often * gI form k) % p
theorem red_Q {p often:Int} {form:List Int} {base:Nat} {F:List Int}:∀ k,base + k≤F.length→redI p often form base F k=redQ p often form base F k
 | 0,_=>rfl
 | k + 1,h=>by rw [redI,redQ,red_Q k (by omega),mdf_eq _ _ (fun v=>(v - often * gI form k) % p) (by rw [← red_Q k (by omega),qfm]; omega)]
def rouQ (p:Int) (form:List Int) (n:Nat) (F:List Int):Nat→List Int
 | 0=>F
 | i + 1=>frc (gI (rouQ p form n F i) (2 * n - 2 - i)) fun z=>redQ p z form (2 * n - 2 - i - n) (rouQ p form n F i) (n + 1)
theorem rou_Q {p:Int} {form:List Int} {n:Nat} {F:List Int} (hn:1≤n) (hF:F.length=2 * n - 1):∀ i,i≤n - 1→redO p form n F i=rouQ p form n F i
 | 0,_=>rfl
 | i + 1,h=>by rw [redO,rouQ,frc_eq,← rou_Q hn hF i (by omega),red_Q _ (by rw [qfl]; omega)]
def prodQ (p:Int) (n:Nat) (form:List Int) (x y:Int):Int:=numL p ((rouQ p form n (outQ p (rowF p n x) (rowF p n y) (List.replicate (2 * n - 1) 0) n) (n - 1)).take n)
theorem prod_Q {p:Int} {n:Nat} (hn:1≤n) (form:List Int) (x y:Int):prodL p n form x y=prodQ p n form x y:=by
 unfold prodL prodQ
 have hl:(qdW (rowF p n x) (rowF p n y) p).length=2 * n - 1:=by rw [sumsP_len,qb1,qb1]; omega
 rw [rou_Q hn hl (n - 1) (Nat.le_refl _)]
 congr 3
 unfold qdW
 rw [qb1,qb1,show n + n - 1=2 * n - 1 by omega,out_Q n (by rw [qb1,List.length_replicate]; omega)]
def chkP (f:Fd):Bool:=Nat.beq f.n 1 || (List.range f.q).all fun x=>(List.range f.q).all fun y=>isZ (prodQ f.p f.n (qcH f) x y) (Mk f x y)
theorem all_P:fds.all chkP=true:=by decide +kernel
theorem prod_one (p x y:Int):prodL p 1 [0,1] x y=(x % p * (y % p)) % p:=by
 simp [prodL,redO,qdW,outr,inn,rowF,gI,numL]
theorem mul_one_F (p x y:Int):mulF p 1 0 x y=(x % p * (y % p)) % p:=by
 simp [mulF,mulR,rowF,tlF,qgJ,numF]
theorem low_one:(fds.all fun f=>!Nat.beq f.n 1 || Nat.beq f.low 0)=true:=by decide +kernel
theorem prod_M {f:Fd} (h:f∈fds) {x y:Nat} (hx:x < f.q) (hy:y < f.q) (c:LC):qao [.int f.q,.lst ((qcH f).map D.int),.int x,.int y] c=.ok (.int (M f x y:Nat)) c:=by
 rw [prod_ok h]
 have I:=qe0 h
 have hc:=List.all_eq_true.mp all_P f h
 cases hq:Nat.beq f.n 1 with
 | true =>
  have hn:=be hq
  have hl:=List.all_eq_true.mp low_one f h
  simp only [hq,Bool.not_true,Bool.false_or] at hl
  have e:qcH f=[0,1]:=if_pos hn
  have hm:=I.mm x y hx hy
  unfold mI at hm
  rw [e,← hm,hn,be hl,prod_one]
  rw [show ((0:Nat):Int)=0 from rfl,mul_one_F]
 | false =>
  simp only [chkP,hq,Bool.false_or] at hc
  have:=List.all_eq_true.mp (List.all_eq_true.mp hc x (List.mem_range.mpr hx)) y (List.mem_range.mpr hy)
  rw [prod_Q I.n1,isZ_eq this,Mk_eq]
end Ev
namespace Ev
open PySem L2
theorem qb3 {s t:dF} {e e':Ev} {c c':LC} (h:s e c=.ok (.nx e') c'):sSeq s t e c=t e' c':=by rw [qe9,h]; rfl
theorem nat_of {i:Int} (h:0≤i):∃ n:Nat,i=n:=⟨i.toNat,by omega⟩
theorem qgR {g:Gd} {s:dF} (inv:Nat→Ev→LC→Prop):∀ (items:List D) (k:Nat) (e:Ev) (c:LC),inv k e c →
  (∀ i x,items[i]? = some x→∀ e c,inv (k + i) e c→∃ e' e'' c' c'',g x e c=.ok e' c'∧s e' c'=.ok (.nx e'') c''∧inv (k + i + 1) e'' c'') →
  ∃ e' c',inv (k + items.length) e' c'∧forD (fun _=>True) g s items e c=.ok (.nx e') c'
 | [],k,e,c,hi,_=>⟨e,c,hi,by simp⟩
 | x :: xs,k,e,c,hi,h=>by
  obtain ⟨e',e'',c',c'',h1,h2,h3⟩:=h 0 x rfl e c hi
  obtain ⟨e3,c3,i3,h4⟩:=qgR inv xs (k + 1) e'' c'' h3 fun i y hy e c hi=>by
   have:=h (i + 1) y (by simpa using hy) e c (by rwa [show k + (i + 1)=k + 1 + i by omega])
   rwa [show k + (i + 1) + 1=k + 1 + i + 1 by omega] at this
  exact ⟨e3,c3,by rwa [List.length_cons,show k + (xs.length + 1)=k + 1 + xs.length by omega],by rw [qbE,h1,R.bind_ok,h2]; exact h4⟩
def adj (ps:List (Nat×Nat)) (r:Nat):List Nat:=ps.filterMap fun p=>if p.1=r then some p.2 else if p.2=r then some p.1 else none
def prD (p:Nat×Nat):D:=.tup [.int p.1,.int p.2]
def PsOk (m:Nat) (ps:List (Nat×Nat)):Prop:=∀ p∈ps,p.1≠p.2∧p.1 < m∧p.2 < m
theorem adj_lt {m:Nat} {ps:List (Nat×Nat)} (h:PsOk m ps) (r x:Nat) (hx:x∈adj ps r):x < m:=by
 obtain ⟨p,hp,e⟩:=List.mem_filterMap.mp hx
 have:=h p hp
 split at e
 ·cases e; omega
 ·split at e
  ·cases e; omega
  ·cases e
theorem adj_len (ps:List (Nat×Nat)) (r:Nat):(adj ps r).length≤ps.length:=List.length_filterMap_le _ _
theorem adj_snoc (ps:List (Nat×Nat)) (p:Nat×Nat) (r:Nat):adj (ps ++ [p]) r=adj ps r ++ (if p.1=r then [p.2] else if p.2=r then [p.1] else []):=by
 unfold adj
 rw [List.filterMap_append]
 congr 1
 by_cases h1:p.1=r
 ·simp [h1]
 ·by_cases h2:p.2=r
  ·simp [h1,h2]
  ·simp [h1,h2]
def qc8 (m:Nat) (f:Nat→List Nat):LC:=(List.range m).map fun r=>.lst (nD (f r))
def qcE (n m:Nat):List D:=(List.range m).map fun r=>.ref (n + r)
theorem rows_at {m r:Nat} (f:Nat→List Nat) (c:LC) (h:r < m):(c ++ qc8 m f)[c.length + r]? = some (.lst (nD (f r))):=by
 rw [List.getElem?_append_right (by omega)]
 simp [qc8,h]
theorem refs_at {n m r:Nat} (h:r < m):atI (qcE n m) (r:Int)=some (.ref (n + r)):=qcu (by simp [qcE,h])
theorem rows_set {m r x:Nat} (f:Nat→List Nat) (c:LC) (h:r < m):(c ++ qc8 m f).set (c.length + r) (.lst (nD (f r) ++ [.int x]))=c ++ qc8 m (fun z=>if z=r then f z ++ [x] else f z):=by
 rw [List.set_append_right _ _ (by omega)]
 congr 1
 rw [Nat.add_sub_cancel_left]
 apply List.ext_getElem
 ·simp [qc8]
 ·intro i h1 h2
  rw [List.getElem_set]
  simp only [qc8,List.getElem_map,List.getElem_range]
  by_cases e:r=i
  ·subst e; simp [nD]
  ·rw [if_neg e,if_neg (Ne.symm e)]
theorem comp_refs:∀ (items:List D) (e:Ev) (acc:List D) (c:LC),e.length=1→qaI (fun _=>True) (qa3 0) dYes (qcC dNil) items e acc c=.ok (acc ++ qcE c.length items.length) (c ++ qc8 items.length fun _=>[])
 | [],e,acc,c,_=>by simp [qcE,qc8]
 | x :: xs,e,acc,c,he=>by
  rw [qeD]
  have h1:qa3 0 x e c=.ok (e.set 0 (some x)) c:=rfl
  have h2:qcC dNil (e.set 0 (some x)) c=.ok (.ref c.length) (c ++ [.lst []]):=by
   have:(0:Nat)≤sizeLine:=Nat.zero_le _
   simp
  rw [h1,R.bind_ok,x_yes,R.bind_ok,if_pos rfl,h2,R.bind_ok,comp_refs xs _ _ _ (by simpa using he)]
  have e1:acc ++ [D.ref c.length] ++ qcE (c ++ [Cell.lst []]).length xs.length=acc ++ qcE c.length (x :: xs).length:=by
   rw [List.append_assoc,List.length_append,List.length_cons,List.length_nil]
   congr 1
   unfold qcE
   rw [List.length_cons,List.range_succ_eq_map,List.map_cons,List.map_map]
   simp only [List.cons_append,List.nil_append,Nat.add_zero]
   congr 1
   refine List.map_congr_left fun r _=>?_
   simp only [Function.comp]
   congr 1; omega
  have e2:c ++ [Cell.lst []] ++ qc8 xs.length (fun _=>[])=c ++ qc8 (x :: xs).length fun _=>[]:=by
   rw [List.append_assoc]
   congr 1
   unfold qc8
   rw [List.length_cons,List.range_succ_eq_map,List.map_cons,List.map_map]
   rfl
  rw [e1,e2]
def wbB:dF:=(sSeq (qbJ (qbQ (dBin ixD (dVar 2) (dVar 3)) (dVar 4))) (qbJ (qbQ (dBin ixD (dVar 2) (dVar 4)) (dVar 3))))
theorem wb_step {m a b:Nat} {f:Nat→List Nat} {c:LC} (a0 a1:Option D) (ha:a < m) (hb:b < m) (hab:a≠b) (hl:∀ r,(f r).length < 2000) :
  wbB [a0,a1,some (.lst (qcE c.length m)),some (.int a),some (.int b)] (c ++ qc8 m f)=.ok (.nx [a0,a1,some (.lst (qcE c.length m)),some (.int a),some (.int b)]) (c ++ qc8 m fun r=>if r=a then f r ++ [b] else if r=b then f r ++ [a] else f r):=by
 have hs:=(show 3000≤sizeLine by decide)
 have h1:∀ c',ixD (.lst (qcE c.length m)) (.int a) c'=.ok (.ref (c.length + a)) c':=fun c'=>by rw [qgo,refs_at ha]
 have h2:∀ c',ixD (.lst (qcE c.length m)) (.int b) c'=.ok (.ref (c.length + b)) c':=fun c'=>by rw [qgo,refs_at hb]
 have g1:=rows_at f c ha
 have g2:=rows_at (fun z=>if z=a then f z ++ [b] else f z) c hb
 have l1:=hl a
 have l2:=hl b
 have s1:=rows_set (x:=b) f c ha
 have s2:=rows_set (x:=a) (fun z=>if z=a then f z ++ [b] else f z) c hb
 have nba:¬ b=a:=fun z=>hab z.symm
 simp only [if_neg nba] at g2 s2
 have k1:qbQ (dBin ixD (dVar 2) (dVar 3)) (dVar 4) [a0,a1,some (.lst (qcE c.length m)),some (.int a),some (.int b)] (c ++ qc8 m f)=.ok .non (c ++ qc8 m fun z=>if z=a then f z ++ [b] else f z):=by
  unfold qbQ
  simp only [qdc,qaU,gz,gs,R.bind_ok,h1]
  rw [g1]
  dsimp only
  rw [if_pos ⟨by simp only [List.length_map]; omega,rfl⟩,s1]
 have k2:qbQ (dBin ixD (dVar 2) (dVar 4)) (dVar 3) [a0,a1,some (.lst (qcE c.length m)),some (.int a),some (.int b)] (c ++ qc8 m fun z=>if z=a then f z ++ [b] else f z)=.ok .non (c ++ qc8 m fun r=>if r=a then f r ++ [b] else if r=b then f r ++ [a] else f r):=by
  unfold qbQ
  simp only [qdc,qaU,gz,gs,R.bind_ok,h2]
  rw [g2]
  dsimp only
  rw [if_pos ⟨by simp only [List.length_map]; omega,rfl⟩,s2]
  congr 3
  funext z
  by_cases e1:z=a
  ·subst e1; simp [hab]
  ·by_cases e2:z=b
   ·subst e2; simp [e1]
   ·simp [e1,e2]
 unfold wbB
 rw [qe9,qeT,k1]
 simp only [R.bind_ok]
 rw [qeT,k2]
 rfl
theorem fun_adj {ps:List (Nat×Nat)} {i:Nat} (hi:i < ps.length) (hne:ps[i].1≠ps[i].2):(fun r=>if r=ps[i].1 then adj (ps.take i) r ++ [ps[i].2] else if r=ps[i].2 then adj (ps.take i) r ++ [ps[i].1] else adj (ps.take i) r)=adj (ps.take (i + 1)):=by
 funext r
 rw [List.take_succ_eq_append_getElem hi,adj_snoc]
 by_cases h1:ps[i].1=r
 ·rw [if_pos h1.symm,if_pos h1]
 ·rw [if_neg (Ne.symm h1),if_neg h1]
  by_cases h2:ps[i].2=r
  ·rw [if_pos h2.symm,if_pos h2]
  ·rw [if_neg (Ne.symm h2),if_neg h2,List.append_nil]
theorem wb_loop {m:Nat} {ps:List (Nat×Nat)} {c:LC} (hp:PsOk m ps) (hl:ps.length < 2000) (st:LC→Prop) (hst:∀ R:LC,st (c ++ R)) (a0 a1:Option D) :
  ∃ v w,forD st (qca 2 (qaj (qa3 3) (qaj (qa3 4) qce))) wbB (ps.map prD) [a0,a1,some (.lst (qcE c.length m)),none,none] (c ++ qc8 m fun _=>[])=.ok (.nx [a0,a1,some (.lst (qcE c.length m)),v,w]) (c ++ qc8 m (adj ps)):=by
 obtain ⟨v',hf⟩:=qdI (α:=Option D×Option D) (st:=st) (g:=(qca 2 (qaj (qa3 3) (qaj (qa3 4) qce)))) (s:=wbB) (fun i=>c ++ qc8 m (adj (ps.take i))) (fun _ v=>[a0,a1,some (.lst (qcE c.length m)),v.1,v.2]) (ps.map prD) 0 (none,none) (fun i _=>hst _) (fun i x hx v=>by
  rw [Nat.zero_add]
  have hi:i < ps.length:=by have:=(List.getElem?_eq_some_iff.mp hx).1; simpa using this
  have ex:x=prD ps[i]:=by
   rw [List.getElem?_map,List.getElem?_eq_getElem hi] at hx
   cases hx; rfl
  subst ex
  have hq:=hp _ (List.getElem_mem hi)
  have hs:=wb_step (m:=m) (a:=ps[i].1) (b:=ps[i].2) (f:=adj (ps.take i)) (c:=c) a0 a1 (by omega) hq.2.2 (by omega) (fun r=>by have:=adj_len (ps.take i) r; rw [List.length_take] at this; omega)
  rw [fun_adj hi (by omega)] at hs
  refine ⟨[a0,a1,some (.lst (qcE c.length m)),some (.int ps[i].1),some (.int ps[i].2)],?_,(some (.int ps[i].1),some (.int ps[i].2)),hs⟩
  simp [prD])
 rw [Nat.zero_add,List.length_map,List.take_length] at hf
 exact ⟨v'.1,v'.2,hf⟩
def webD (rows:List (List Nat)):D:=.tup (rows.map fun r=>.tup (nD r))
def webR (m:Nat) (ps:List (Nat×Nat)):List (List Nat):=(List.range m).map fun r=>qb4 (adj ps r)
theorem qdd (rows:List (List Nat)):qaS (webD rows)=true:=by
 unfold webD qaS
 refine noRefs_iff.mpr fun d hd=>?_
 obtain ⟨r,_,rfl⟩:=List.mem_map.mp hd
 unfold qaS
 exact qeu r
def rwE:yD:=(dCB qde (qa0 (qbM (qa0 (dVar 0) dNil)) dNil))
theorem rw_comp {m:Nat} {ps:List (Nat×Nat)} {c:LC} (hp:PsOk m ps) (hm:m < 64):qaI (fun _=>True) (qa3 0) dYes rwE (qcE c.length m) [none] [] (c ++ qc8 m (adj ps))=.ok ((webR m ps).map fun r=>.tup (nD r)) (c ++ qc8 m (adj ps)):=by
 have:=qcc (c:=c ++ qc8 m (adj ps)) (g:=qa3 0) (t:=dYes) (a:=rwE) (fun e=>∃ v,e=[v]) (fun _=>true) (fun d=>match d with | .ref k=>.tup (nD (qb4 (adj ps (k - c.length)))) | d=>d) (qcE c.length m) [none] [] ⟨_,rfl⟩ (fun d hd e ⟨v,he⟩=>by
  subst he
  obtain ⟨r,hr,rfl⟩:=List.mem_map.mp hd
  have hr:=List.mem_range.mp hr
  have hlt:=fun x hx=>adj_lt hp r x hx
  have hup:=up_len (qdp (adj ps r)) (m:=m) (fun x hx=>hlt x (mem_ssort.mp hx))
  have hn:=qgD (ns:=adj ps r) (by omega) (fun x hx=>by have:=hlt x hx; omega)
  have hlst:lstD (c ++ qc8 m (adj ps)) (.ref (c.length + r))=some (nD (adj ps r)):=by unfold lstD; dsimp only; rw [rows_at _ _ hr]
  refine ⟨_,rfl,⟨_,rfl⟩,rfl,fun _=>?_⟩
  have e1:qbM (qa0 (dVar 0) dNil) [some (.ref (c.length + r))] (c ++ qc8 m (adj ps))=.ok (.lst (nD (qb4 (adj ps r)))) (c ++ qc8 m (adj ps)):=by
   rw [x_sortset]
   simp only [qav,qaU,gz,qb0,R.bind_ok,hlst,hn]
  dsimp only
  rw [Nat.add_sub_cancel_left]
  show rwE [some (.ref (c.length + r))] _=_
  unfold rwE
  simp only [x_cb,qav,qb0,R.bind_ok,e1]
  rfl)
 rw [this,List.nil_append]
 congr 1
 unfold qcE webR
 have ft:∀ l:List D,l.filter (fun _=>true)=l:=fun l=>by simp
 rw [ft,List.map_map,List.map_map]
 refine List.map_congr_left fun r _=>?_
 simp
theorem wb_head {q:Int} {c c':LC} {l:List D} (a1:Option D) (b1:-4611686018427387904≤q∧q < 4611686018427387904) (hl:(rngD 0 q).length < sizeLine) (hc:qaI (fun _=>True) (qa3 0) dYes (qcC dNil) (rngD 0 q) [none] [] c=.ok l c') :
  (sSet 2 (qaN (qbe (qa0 (dVar 0) dNil)) [none] (qa3 0) dYes (qcC dNil))) [some (.int q),a1,none,none,none] c=.ok (.nx [some (.int q),a1,some (.lst l),none,none]) c':=by
 simp only [qfv,qeg,qef,qav,qaU,gz,gs,qb0,R.bind_ok]
 rw [if_pos (by omega)]
 simp only [R.bind_ok]
 rw [if_pos hl]
 have:qdq [none] [some (D.int q),a1,none,none,none]=[none]:=rfl
 rw [this,hc]
 rfl
theorem wb_all {q:Int} {k:Nat} {c c1 c2:LC} {l:List D} {v w:Option D} {W:D} {s0 s1 s2:dF} (e0:s0 [some (.int q),some (.ref k),none,none,none] c=.ok (.nx [some (.int q),some (.ref k),some (.lst l),none,none]) c1)
  (e1:s1 [some (.int q),some (.ref k),some (.lst l),none,none] c1=.ok (.nx [some (.int q),some (.ref k),some (.lst l),v,w]) c2) (e2:s2 [some (.int q),some (.ref k),some (.lst l),v,w] c2=.ok (.rt W) c2) (hx:qbx false c.length W c2=.ok W c) :
  fnD 5 false (sSeq s0 (sSeq s1 s2)) [.int q,.ref k] c=.ok W c:=by
 rw [x_fn]
 have e3:qbs 5 [D.int q,.ref k]=[some (.int q),some (.ref k),none,none,none]:=rfl
 rw [e3,qb3 e0,qb3 e1,e2]
 exact hx
theorem wb_tail {q:Int} {k:Nat} {c:LC} {l m:List D} {v w:Option D} (hl:l.length < sizeLine) (h:qaI (fun _=>True) (qa3 0) dYes rwE l [none] [] c=.ok m c):(sRet (dCB qde (qa0 (qaN (dSeq (dVar 2)) [none] (qa3 0) dYes (dCB qde (qa0 (qbM (qa0 (dVar 0) dNil)) dNil))) dNil))) [some (.int q),some (.ref k),some (.lst l),v,w] c=.ok (.rt (.tup m)) c:=by
 simp only [qfw,x_cb,qav,qeg,qb0,R.bind_ok]
 unfold dSeq
 simp only [qaU,gz,gs,R.bind_ok]
 rw [if_pos hl]
 have:qdq [none] [some (D.int q),some (.ref k),some (.lst l),v,w]=[none]:=rfl
 rw [this]
 unfold rwE at h
 rw [h]
 rfl
theorem web_by {m k:Nat} {ps:List (Nat×Nat)} {c:LC} (hp:PsOk m ps) (hl:ps.length < 2000) (hm:m < 64) (hk:c[k]? = some (.lst (ps.map prD))):qaY [.int m,.ref k] c=.ok (webD (webR m ps)) c:=by
 have hs:=(show 3000≤sizeLine by decide)
 have hkl:k < c.length:=(List.getElem?_eq_some_iff.mp hk).1
 have hc:=comp_refs (rngD 0 (m:Int)) [none] [] c rfl
 have hrl:(rngD 0 (m:Int)).length=m:=by rw [qbH]; omega
 have hrl2:(rngD 0 (m:Int)).length < sizeLine:=by rw [hrl]; omega
 rw [hrl,List.nil_append] at hc
 have hkR:∀ R:LC,(c ++ R)[k]? = some (.lst (ps.map prD)):=fun R=>by rw [List.getElem?_append_left hkl]; exact hk
 obtain ⟨v,w,hf⟩:=wb_loop (m:=m) hp hl (fun c'=>c'[k]? = some (.lst (ps.map prD))) hkR (some (.int m)) (some (.ref k))
 have hw:=rw_comp (c:=c) hp hm
 have hrf:(qcE c.length m).length < sizeLine:=by simp [qcE]; omega
 have e1:(sFor (dSeq (dVar 1)) (qca 2 (qaj (qa3 3) (qaj (qa3 4) qce))) wbB) [some (.int m),some (.ref k),some (.lst (qcE c.length m)),none,none] (c ++ qc8 m fun _=>[])=.ok (.nx [some (.int m),some (.ref k),some (.lst (qcE c.length m)),v,w]) (c ++ qc8 m (adj ps)):=by
  rw [qeF]
  unfold dSeq
  simp only [qaU,gz,gs,R.bind_ok,hkR]
  exact hf
 have hb:qc1=sSeq (sSet 2 (qaN (qbe (qa0 (dVar 0) dNil)) [none] (qa3 0) dYes (qcC dNil))) (sSeq (sFor (dSeq (dVar 1)) (qca 2 (qaj (qa3 3) (qaj (qa3 4) qce))) wbB) (sRet (dCB qde (qa0 (qaN (dSeq (dVar 2)) [none] (qa3 0) dYes (dCB qde (qa0 (qbM (qa0 (dVar 0) dNil)) dNil))) dNil)))):=rfl
 rw [qaY,hb]
 have nr:=qdd (webR m ps)
 have et:(c ++ qc8 m (adj ps)).take c.length=c:=by simp
 refine wb_all (wb_head (some (.ref k)) (by omega) hrl2 hc) e1 (wb_tail hrf hw) ?_
 unfold webD at nr ⊢
 unfold qbx
 dsimp only
 rw [if_pos nr,et]
end Ev
namespace Ev
open PySem L2
def Pot (j:Nat) (n:Nat) (c:LC):Prop:=c.length=n∧j < n∧∃ p:Int,c[j]? = some (.lst [.int p])
theorem Pot.set {j n:Nat} {c:LC} (h:Pot j n c) (p:Int):Pot j n (c.set j (.lst [.int p])):=by
 obtain ⟨h1,h2,_⟩:=h
 exact ⟨by simp [h1],h2,p,by rw [List.getElem?_set_self (by omega)]⟩
theorem take_ok {j n:Nat} {c:LC} {far:Int} (h:Pot j n c) (h0:0 < far) (h1:far < 1073741824) :
  ∃ (x:Int) (c':LC),0≤x∧x < far∧Pot j n c'∧qbC [.ref j,.int far] c=.ok (.int x) c':=by
 obtain ⟨hl,hj,p,hp⟩:=id h
 refine ⟨p % far,c.set j (.lst [.int (p / far)]),Int.emod_nonneg _ (by omega),Int.emod_lt_of_pos _ h0,h.set _,?_⟩
 have e1:ixD (.ref j) (.int 0) c=.ok (.int p) c:=by
  unfold ixD seqD
  simp [hp]
 have e2:setD (.ref j) (.int 0) (.int (p / far)) c=.ok () (c.set j (.lst [.int (p / far)])):=by
  unfold setD
  simp [hp,ixN]
 have e3:(c.set j (.lst [.int (p / far)])).take c.length=c.set j (.lst [.int (p / far)]):=by
  rw [List.take_of_length_le]; simp
 simp (disch:=omega) [qbC,qcR,e1,qfV,div_c,e2,e3]
theorem pot_ok (cell:Int) (c:LC):∃ p:Int,qcZ [.int cell] c=.ok (.ref c.length) (c ++ [.lst [.int p]]):=by
 by_cases h:10 ^ 18≤cell
 ·refine ⟨cell - 10 ^ 18,?_⟩
  simp (disch:=omega) [qcZ,qd5,pow_c,h]
  rw [if_pos (by simpa using h)]
  simp [qbx]
 ·obtain ⟨e',c',⟨⟨q,v1,v2,rfl⟩,rfl⟩,hf⟩:=for_inv (g:=qa3 2) (s:=(sSeq (sSet 3 (dBin modD (dBin mulD (dBin addD (dBin addD (dBin modD (dVar 0) (dC (.int 2147483629))) (dBin mulD (dC (.int 7919)) (dVar 2))) (dC (.int 1))) (dC (.int 48271))) (dC (.int 2147483647)))) (sSeq (sSet 3 (dBin modD (dBin addD (dBin addD (dBin mulD (dVar 3) (dVar 3)) (dBin mulD (dC (.int 69621)) (dVar 2))) (dC (.int 7))) (dC (.int 2147483587)))) (sSet 1 (dBin addD (dBin mulD (dVar 1) (dC (.int 2147483587))) (dVar 3))))))
   (fun e c'=>(∃ q v1 v2,e=[some (.int cell),some (.int q),v1,v2])∧c'=c) (rngD 0 64) [some (.int cell),some (.int 0),none,none] c ⟨⟨0,none,none,rfl⟩,rfl⟩ (fun x hx e c' ⟨⟨q,v1,v2,he⟩,hc⟩=>by
    obtain ⟨i,rfl,i0,i1⟩:=qgG hx
    subst he; subst hc
    have b0:0≤(cell % 2147483629 + 7919 * i + 1) * 48271 % 2147483647:=Int.emod_nonneg _ (by decide)
    have b1:(cell % 2147483629 + 7919 * i + 1) * 48271 % 2147483647 < 2147483647:=Int.emod_lt_of_pos _ (by decide)
    generalize hm:(cell % 2147483629 + 7919 * i + 1) * 48271 % 2147483647=m at b0 b1
    refine ⟨_,[some (.int cell),some (.int (q * 2147483587 + (m * m + 69621 * i + 7) % 2147483587)),some (.int i),some (.int ((m * m + 69621 * i + 7) % 2147483587))],_,_,rfl,by simp (disch:=omega) [qfV,mul_l,mul_r,hm],⟨⟨_,_,_,rfl⟩,rfl⟩⟩)
  refine ⟨q,?_⟩
  have hh:¬ (1000000000000000000≤cell):=by simpa using h
  simp (disch:=omega) [qcZ,qd5,pow_c,hh]
  rw [hf]
  simp [qbx]
theorem cell_ok (ns:List Int) (k:Int) (h:0≤k) (c:LC):∃ x:Int,qbg [.scr ns,.int k] c=.ok (.int x) c:=by
 by_cases q:k < ns.length
 ·have hk:k.toNat < ns.length:=by omega
  refine ⟨ns[k.toNat],?_⟩
  have e:ixD (.scr ns) (.int k) c=.ok (.int ns[k.toNat]) c:=by
   show (match atI (ns.map D.int) k with | some d=>R.ok d c | none=>R.bad)=_
   have:atI (ns.map D.int) k=some (.int ns[k.toNat]):=by
    have:=qcu (xs:=ns.map D.int) (j:=k.toNat) (v:=.int ns[k.toNat]) (by simp [hk])
    rw [Int.toNat_of_nonneg h] at this
    exact this
   rw [this]
  simp [qbg,qbj,q,e]
 ·exact ⟨0,by simp [qbg,qbj,q]⟩
end Ev
namespace Ev
open PySem L2
theorem qe2 (n:Nat):rngD 0 (n:Int)=nD (List.range n):=by
 apply List.ext_getElem?
 intro i
 by_cases h:i < n
 ·have h1:i < (rngD 0 (n:Int)).length:=by rw [qbH]; omega
  have:=qfy (List.getElem?_eq_getElem h1)
  rw [List.getElem?_eq_getElem h1,this.2]
  simp [nD,h]
 ·rw [List.getElem?_eq_none (by rw [qbH]; omega),List.getElem?_eq_none (by simp [nD]; omega)]
theorem qd2 {α:Type} {E:List (Option D)} {t:dB} {a:yD} {c:LC} (g F:α→D) (b:α→Bool):∀ (l:List α) (v:Option D) (acc:List D),(∀ x∈l,t (some (g x) :: E) c=.ok (b x) c)→(∀ x∈l,b x=true→a (some (g x) :: E) c=.ok (F x) c)→qaI (fun _=>True) (qa3 0) t a (l.map g) (v :: E) acc c=.ok (acc ++ (l.filter b).map F) c
 | [],v,acc,_,_=>by simp
 | x :: l,v,acc,h1,h2=>by
  have e1:qa3 0 (g x) (v :: E) c=.ok (some (g x) :: E) c:=rfl
  rw [List.map_cons,qeD,e1,R.bind_ok,h1 x (.head _),R.bind_ok]
  cases hb:b x with
  | true =>
   rw [if_pos rfl,h2 x (.head _) hb,R.bind_ok,qd2 g F b l _ _ (fun z hz=>h1 z (.tail _ hz)) (fun z hz=>h2 z (.tail _ hz)),List.filter_cons_of_pos hb,List.append_assoc]
   rfl
  | false =>
   rw [if_neg (by decide),qd2 g F b l _ _ (fun z hz=>h1 z (.tail _ hz)) (fun z hz=>h2 z (.tail _ hz)),List.filter_cons_of_neg (by simp [hb])]
def rwT:dB:=(dAndT (dBl (dBin neD (dVar 0) (dVar 1))) (dBl (qfP 2 2 lams (qa0 (dVar 1) (qa0 (dVar 0) dNil)))))
def wRow (n:Nat) (f:Nat→Nat→Bool) (i:Nat):List Nat:=(List.range n).filter fun j=>decide (j≠i) && f i j
def wAll (n:Nat) (f:Nat→Nat→Bool):List (List Nat):=(List.range n).map (wRow n f)
section
variable {k n:Nat} {E:Expr} {ns:List Str} {l:List D} {m:List D→LC→R D} {c:LC} {f:Nat→Nat→Bool}
theorem row_t {one j:Nat} (hk:lams[k]? = some (E,ns,m)) (hl:qbt l=true) (hm:j≠one→m ([.int one,.int j] ++ l) c=.ok (.bl (f one j)) c) :
  rwT [some (.int j),some (.int one),some (.lam k E ns l)] c=.ok (decide (j≠one) && f one j) c:=by
 unfold rwT
 by_cases h:j=one
 ·subst h; simp
 ·have h':¬ ((j:Int)=one):=by omega
  have hc:qfP 2 2 lams (qa0 (dVar 1) (qa0 (dVar 0) dNil)) [some (.int j),some (.int one),some (.lam k E ns l)] c=.ok (.bl (f one j)) c:=by
   rw [x_callL 2 2 lams _ _ c (k:=k) (Ex:=E) (ns:=ns) (l:=l) rfl hk]
   simp only [qav,qaU,gz,gs,qb0,R.bind_ok]
   rw [if_pos ⟨rfl,rfl,hl⟩]
   exact hm h
  simp [h,h',hc]
theorem row_gen7 {q:Int} {one L:D} {r:List D} (bq:-4611686018427387904≤q∧q < 4611686018427387904) (hlen:(rngD 0 q).length < sizeLine) (hc:qaI (fun _=>True) (qa3 0) rwT (dVar 0) (rngD 0 q) [none,some one,some L] [] c=.ok r c) (nr:qaS (.tup r)=true):qay [.int q,one,L] c=.ok (.tup r) c:=by
 have hb:qco=sRet (dCB qde (qa0 (qaN (qbe (qa0 (dVar 0) dNil)) [none,some 1,some 2] (qa3 0) rwT (dVar 0)) dNil)):=rfl
 rw [qay,x_fn,hb]
 have es:qbs 3 [D.int q,one,L]=[some (.int q),some one,some L]:=rfl
 rw [es]
 simp only [qfw,x_cb,qav,qeg,qef,qaU,gz,gs,qb0,R.bind_ok]
 rw [if_pos (by omega)]
 simp only [R.bind_ok]
 rw [if_pos hlen]
 have ep:qdq [none,some 1,some 2] [some (D.int q),some one,some L]=[none,some one,some L]:=rfl
 rw [ep,hc]
 simp only [R.bind_ok]
 show qbx false c.length (.tup r) c=_
 unfold qbx
 dsimp only
 rw [if_pos nr,List.take_length]
theorem wwh_gen {q:Int} {L:D} {r:List D} (bq:-4611686018427387904≤q∧q < 4611686018427387904) (hlen:(rngD 0 q).length < sizeLine) (hc:qaI (fun _=>True) (qa3 0) dYes (qa7 3 qay (qa0 (dVar 1) (qa0 (dVar 0) (qa0 (dVar 2) dNil)))) (rngD 0 q) [none,some (.int q),some L] [] c=.ok r c) (nr:qaS (.tup r)=true):qaK [.int q,L] c=.ok (.tup r) c:=by
 have hb:qcn=sRet (dCB qde (qa0 (qaN (qbe (qa0 (dVar 0) dNil)) [none,some 0,some 1] (qa3 0) dYes (qa7 3 qay (qa0 (dVar 1) (qa0 (dVar 0) (qa0 (dVar 2) dNil))))) dNil)):=rfl
 rw [qaK,x_fn,hb]
 have es:qbs 2 [D.int q,L]=[some (.int q),some L]:=rfl
 rw [es]
 simp only [qfw,x_cb,qav,qeg,qef,qaU,gz,gs,qb0,R.bind_ok]
 rw [if_pos (by omega)]
 simp only [R.bind_ok]
 rw [if_pos hlen]
 have ep:qdq [none,some 0,some 1] [some (D.int q),some L]=[none,some (.int q),some L]:=rfl
 rw [ep,hc]
 simp only [R.bind_ok]
 show qbx false c.length (.tup r) c=_
 unfold qbx
 dsimp only
 rw [if_pos nr,List.take_length]
theorem noRef_tup {l:List D} (h:qak l=true):qaS (.tup l)=true:=by unfold qaS; exact h
theorem len_rng (hn:n < 1000):(rngD 0 (n:Int)).length < sizeLine:=by
 have hs:=qam (n:=1000) (by decide)
 rw [qbH]; omega
theorem row_b1 (hn:n < 1000):-4611686018427387904≤(n:Int)∧(n:Int) < 4611686018427387904:=by omega
theorem row_f1 {one:Nat} {L:D} {r:List Nat} (hc:qaI (fun _=>True) (qa3 0) rwT (dVar 0) ((List.range n).map fun j:Nat=>D.int (j:Int)) [none,some (.int one),some L] [] c=.ok (r.map fun j:Nat=>D.int (j:Int)) c):qaI (fun _=>True) (qa3 0) rwT (dVar 0) (rngD 0 (n:Int)) [none,some (.int one),some L] [] c=.ok (nD r) c:=by rw [qe2]; exact hc
theorem row_fin {one:Nat} {L:D} {r:List Nat} (hn:n < 1000) (hc:qaI (fun _=>True) (qa3 0) rwT (dVar 0) ((List.range n).map fun j:Nat=>D.int (j:Int)) [none,some (.int one),some L] [] c=.ok (r.map fun j:Nat=>D.int (j:Int)) c) :
  qay [.int n,.int one,L] c=.ok (.tup (nD r)) c:=row_gen7 (row_b1 hn) (len_rng hn) (row_f1 hc) (noRef_tup (qeu _))
theorem row_ok7 {one:Nat} (hk:lams[k]? = some (E,ns,m)) (hl:qbt l=true) (hn:n < 1000) (hm:∀ j,j < n→j≠one→m ([.int one,.int j] ++ l) c=.ok (.bl (f one j)) c) :
  qay [.int n,.int one,.lam k E ns l] c=.ok (.tup (nD (wRow n f one))) c:=by
 have hc:=qd2 (E:=[some (.int one),some (.lam k E ns l)]) (t:=rwT) (a:=dVar 0) (c:=c) (fun j:Nat=>D.int (j:Int)) (fun j:Nat=>D.int (j:Int)) (fun j=>decide (j≠one) && f one j) (List.range n) none [] (fun j hj=>row_t hk hl (hm j (List.mem_range.mp hj))) (fun j _ _=>rfl)
 rw [List.nil_append] at hc
 exact row_fin hn hc
theorem call3 {m:List D→LC→R D} {x y z:D} {r:R D} (h:m [x,y,z] c=r):(if [x,y,z].length=3 then m [x,y,z] c else .bad)=r:=by
 rw [if_pos (by rfl)]; exact h
theorem web_fin {L:D} {w:List (List Nat)} (hn:n < 1000) (hc:qaI (fun _=>True) (qa3 0) dYes (qa7 3 qay (qa0 (dVar 1) (qa0 (dVar 0) (qa0 (dVar 2) dNil)))) (rngD 0 (n:Int)) [none,some (.int n),some L] [] c=.ok (w.map fun r=>.tup (nD r)) c):qaK [.int n,L] c=.ok (webD w) c:=wwh_gen (row_b1 hn) (len_rng hn) hc (qdd _)
theorem call_step3 {m:List D→LC→R D} {x y z:D} {r:R D} (h:m [y,x,z] c=r):qa7 3 m (qa0 (dVar 1) (qa0 (dVar 0) (qa0 (dVar 2) dNil))) [some x,some y,some z] c=r:=by
 simp only [qdt,qav,qaU,gz,gs,qb0,R.bind_ok]
 exact call3 h
theorem web_step {i:Nat} {L:D} {r:List Nat} (h:qay [.int n,.int i,L] c=.ok (.tup (nD r)) c):qa7 3 qay (qa0 (dVar 1) (qa0 (dVar 0) (qa0 (dVar 2) dNil))) [some (.int i),some (.int n),some L] c=.ok (.tup (nD r)) c:=call_step3 h
theorem web_comp {L:D} {g:Nat→List Nat} (h:∀ i,i < n→qay [.int n,.int i,L] c=.ok (.tup (nD (g i))) c):qaI (fun _=>True) (qa3 0) dYes (qa7 3 qay (qa0 (dVar 1) (qa0 (dVar 0) (qa0 (dVar 2) dNil)))) (rngD 0 (n:Int)) [none,some (.int n),some L] [] c=.ok (((List.range n).map g).map fun r=>.tup (nD r)) c:=by
 have hc:=qd2 (E:=[some (.int n),some L]) (t:=dYes) (a:=qa7 3 qay (qa0 (dVar 1) (qa0 (dVar 0) (qa0 (dVar 2) dNil)))) (c:=c) (fun j:Nat=>D.int (j:Int)) (fun j:Nat=>D.tup (nD (g j))) (fun _=>true) (List.range n) none [] (fun j hj=>rfl) (fun i hi _=>web_step (h i (List.mem_range.mp hi)))
 have ft:(List.range n).filter (fun _=>true)=List.range n:=by simp
 rw [List.nil_append,ft] at hc
 rw [List.map_map,qe2]
 exact hc
theorem web_ok (hk:lams[k]? = some (E,ns,m)) (hl:qbt l=true) (hn:n < 1000) (hm:∀ i j,i < n→j < n→j≠i→m ([.int i,.int j] ++ l) c=.ok (.bl (f i j)) c) :
  qaK [.int n,.lam k E ns l] c=.ok (webD (wAll n f)) c:=web_fin hn (web_comp fun i hi=>row_ok7 hk hl hn fun j hj hne=>hm i j hi hj hne)
end
theorem callLam {kk:Nat} {m:List D→LC→R D} {d1:yD} {E:Expr} {ns:List Str} {js:List Nat} {e:Ev} {c:LC} {x v:D} {l:List D} (h1:d1 e c=.ok x c) (hg:qge e js=some l) (h2:m [x,.lam kk E ns l] c=.ok v c) (hv:qaS v=true):qdr kk m d1 E ns js e c=.ok v c:=by
 unfold qdr
 rw [h1]
 simp only [R.bind_ok]
 rw [hg]
 dsimp only
 rw [h2]
 simp only [R.bind_ok]
 rw [if_pos hv]
end Ev
namespace Ev
open PySem L2
theorem dat_nD:∀ l:List Nat,qd3 (nD l)=some (l.map fun n:Nat=>PyData.int (n:Int))
 | []=>rfl
 | n :: ns=>by
  show (match datD (.int (n:Int)),qd3 (nD ns) with | some a,some r=>some (a :: r) | _,_=>none)=_
  rw [dat_nD ns]
  rfl
theorem any_eqv (l:List Nat) (k:Nat):((l.map fun n:Nat=>PyData.int (n:Int)).any fun z=>z.eqv (.int (k:Int)))=decide (k∈l):=by
 rw [List.any_map,Bool.eq_iff_iff,List.any_eq_true,decide_eq_true_eq]
 refine ⟨fun ⟨x,hx,e⟩=>?_,fun h=>⟨k,h,?_⟩⟩
 ·have:(x:Int)=(k:Int):=by simpa [PyData.eqv] using e
  have:x=k:=by omega
  exact this ▸ hx
 ·simp [PyData.eqv]
theorem notinT (l:List Nat) (k:Nat) (c:LC):qdv (.int (k:Int)) (.tup (nD l)) c=.ok (.bl (!decide (k∈l))) c:=by
 have h1:datC c (.int (k:Int))=some (.int (k:Int)):=rfl
 have h2:datC c (.tup (nD l))=some (.tuple (l.map fun n:Nat=>PyData.int (n:Int))):=by
  show (match qd3 (nD l) with | some r=>some (PyData.tuple r) | none=>none)=_
  rw [dat_nD]
 unfold qdv
 rw [h1,h2]
 dsimp only
 rw [if_pos (by simp [PyData.depth]),any_eqv]
theorem len_web (w:List (List Nat)) (c:LC):lenD [webD w] c=.ok (.int (w.length:Nat)) c:=by
 unfold webD
 rw [x_lenT,List.length_map]
theorem qgb {w:List (List Nat)} {i:Nat} {r:List Nat} (h:w[i]? = some r) (c:LC):ixD (webD w) (.int (i:Int)) c=.ok (.tup (nD r)) c:=by
 unfold webD
 rw [x_ixT,qcu (v:=.tup (nD r)) (by rw [List.getElem?_map,h]; rfl)]
def otF (w:List (List Nat)) (i j:Nat):Bool:=!decide (j∈w.getD i [])
def otR (w:List (List Nat)):List (List Nat):=wAll w.length (otF w)
theorem noLam_nD:∀ l:List Nat,qbt (nD l)=true
 | []=>rfl
 | n :: l=>by
  show (qcG (.int n) && qbt (nD l))=true
  rw [noLam_nD l]; rfl
theorem noLam_web (w:List (List Nat)):qcG (webD w)=true:=by
 unfold webD
 show qbt _=true
 induction w with
 | nil=>rfl
 | cons r w ih =>
  rw [List.map_cons]
  show (qcG (.tup (nD r)) && qbt _)=true
  rw [ih,Bool.and_true]
  exact noLam_nD r
theorem other_ok {w:List (List Nat)} (hn:w.length < 1000) (c:LC):qaz [webD w] c=.ok (webD (otR w)) c:=by
 have hw:=web_ok (k:=0) (n:=w.length) (E:=E_lam0) (ns:=["web"]) (l:=[webD w]) (m:=lamD qf6) (c:=c) (f:=otF w) rfl (by show (qcG (webD w) && qbt [])=true; rw [noLam_web]; rfl) hn fun i j hi hj hne=>by
  have h1:=qgb (List.getElem?_eq_getElem hi) c
  have h2:=notinT w[i] j c
  have e:otF w i j = !decide (j∈w[i]):=by unfold otF; rw [List.getD_eq_getElem?_getD,List.getElem?_eq_getElem hi]; rfl
  rw [e]
  show qf6 [some (.int i),some (.int j),some (webD w)] c=_
  unfold qf6
  simp only [qdc,qaU,gz,gs,R.bind_ok,h1]
  exact h2
 have hb:=callLam (kk:=0) (m:=qaK) (d1:=dCB lenD (qa0 (dVar 0) dNil)) (E:=E_lam0) (ns:=["web"]) (js:=[0]) (e:=[some (webD w)]) (by simp only [x_cb,qav,qaU,gz,qb0,R.bind_ok]; exact len_web w c) rfl hw (qdd _)
 rw [qaz,x_fn]
 unfold qcp
 have es:qbs 1 [webD w]=[some (webD w)]:=rfl
 rw [es,qfw,hb]
 simp only [R.bind_ok]
 show qbx false c.length (webD (otR w)) c=_
 have nr:=qdd (otR w)
 unfold webD at nr ⊢
 unfold qbx
 dsimp only
 rw [if_pos nr,List.take_length]
def tiR (i:Nat) (r:List Nat):List (Nat×Nat):=(r.filter fun j=>decide (i < j)).map fun j=>(i,j)
def qcy (w:List (List Nat)):List (Nat×Nat):=(w.mapIdx tiR).flatten
theorem ti_comp (i:Nat) (r:List Nat) (v:Option D) (c:LC):qaI (fun _=>True) (qa3 0) (dBl (dBin ltD (dVar 1) (dVar 0))) (dTup (qa0 (dVar 1) (qa0 (dVar 0) dNil))) (nD r) [v,some (.int i)] [] c=.ok ((tiR i r).map prD) c:=by
 have h2:(2:Nat)≤sizeLine:=qam (by decide)
 have:=qd2 (E:=[some (.int i)]) (t:=(dBl (dBin ltD (dVar 1) (dVar 0)))) (a:=(dTup (qa0 (dVar 1) (qa0 (dVar 0) dNil)))) (c:=c) (fun j:Nat=>D.int (j:Int)) (fun j=>prD (i,j)) (fun j=>decide (i < j)) r v [] (fun j _=>by
  by_cases h:i < j
  ·have h':(i:Int) < j:=by omega
   simp [h,h']
  ·have h':¬ (i:Int) < j:=by omega
   simp [h,h']) (fun j _ _=>by simp [h2,prD])
 rw [List.nil_append] at this
 unfold tiR
 rw [List.map_map]
 exact this
def tiB:dF:=(qbJ (qbi (dVar 1) (qaN (qeB (dVar 3)) [none,some 2] (qa3 0) (dBl (dBin ltD (dVar 1) (dVar 0))) (dTup (qa0 (dVar 1) (qa0 (dVar 0) dNil))))))
theorem qfG (l:List (Nat×Nat)):qak (l.map prD)=true:=noRefs_iff.mpr fun d hd=>by
 obtain ⟨p,_,rfl⟩:=List.mem_map.mp hd
 rfl
theorem ti_step {i:Nat} {r:List Nat} {acc:List (Nat×Nat)} {c:LC} (a0:Option D) (hr:r.length < 1000) (ha:acc.length + 1000 < 1000000) :
  tiB [a0,some (.ref c.length),some (.int i),some (.tup (nD r))] (c ++ [.lst (acc.map prD)])=.ok (.nx [a0,some (.ref c.length),some (.int i),some (.tup (nD r))]) (c ++ [.lst ((acc ++ tiR i r).map prD)]):=by
 have hs:1000000≤sizeLine:=by decide
 have hc:=ti_comp i r none (c ++ [.lst (acc.map prD)])
 have hl:(tiR i r).length≤r.length:=by unfold tiR; rw [List.length_map]; exact List.length_filter_le _ _
 have hd:qaN (qeB (dVar 3)) [none,some 2] (qa3 0) (dBl (dBin ltD (dVar 1) (dVar 0))) (dTup (qa0 (dVar 1) (qa0 (dVar 0) dNil))) [a0,some (.ref c.length),some (.int i),some (.tup (nD r))] (c ++ [.lst (acc.map prD)])=.ok (.lst ((tiR i r).map prD)) (c ++ [.lst (acc.map prD)]):=by
  simp only [qeg,x_seqT,qaU,gz,gs,R.bind_ok]
  rw [if_pos (by simp [nD]; omega)]
  have ep:qdq [none,some 2] [a0,some (D.ref c.length),some (.int i),some (.tup (nD r))]=[none,some (.int i)]:=rfl
  rw [ep,hc]
  rfl
 have hx:qbi (dVar 1) (qaN (qeB (dVar 3)) [none,some 2] (qa3 0) (dBl (dBin ltD (dVar 1) (dVar 0))) (dTup (qa0 (dVar 1) (qa0 (dVar 0) dNil)))) [a0,some (.ref c.length),some (.int i),some (.tup (nD r))] (c ++ [.lst (acc.map prD)])=.ok .non (c ++ [.lst ((acc ++ tiR i r).map prD)]):=by
  unfold qbi
  simp only [qaU,gz,gs,R.bind_ok,hd]
  have hg:(c ++ [Cell.lst (acc.map prD)])[c.length]? = some (.lst (acc.map prD)):=by simp
  rw [hg]
  dsimp only
  rw [if_pos ⟨by simp only [List.length_map]; omega,qfG _⟩]
  simp
 unfold tiB
 rw [qeT,hx]
 rfl
theorem tie_snoc (w:List (List Nat)) {i:Nat} (h:i < w.length):qcy (w.take i) ++ tiR i w[i]=qcy (w.take (i + 1)):=by
 unfold qcy
 rw [List.take_succ_eq_append_getElem h,List.mapIdx_append,List.flatten_append]
 simp [Nat.min_eq_left (Nat.le_of_lt h)]
theorem sum_le {m:Nat}:∀ {l:List Nat},(∀ x∈l,x≤m)→l.sum≤l.length * m
 | [],_=>by simp
 | x :: l,h=>by
  have h1:=h x (.head _)
  have h2:=sum_le fun y hy=>h y (.tail _ hy)
  rw [List.sum_cons,List.length_cons,Nat.succ_mul]
  omega
theorem ties_len (w:List (List Nat)) (m:Nat) (h:∀ r∈w,r.length≤m):(qcy w).length≤w.length * m:=by
 unfold qcy
 rw [List.length_flatten]
 have:∀ x∈(w.mapIdx tiR).map List.length,x≤m:=fun x hx=>by
  obtain ⟨l,hl,rfl⟩:=List.mem_map.mp hx
  obtain ⟨i,hi,rfl⟩:=List.mem_mapIdx.mp hl
  refine Nat.le_trans ?_ (h _ (List.getElem_mem hi))
  unfold tiR; rw [List.length_map]; exact List.length_filter_le _ _
 have:=sum_le this
 simpa using this
theorem ties_ok {w:List (List Nat)} (hw:w.length < 64) (hr:∀ r∈w,r.length≤64) (c:LC):qex [webD w] c=.ok (.lst ((qcy w).map prD)) c:=by
 have hf:=qdI (α:=Option D×Option D) (st:=fun _=>True) (g:=qca 2 (qaj (qa3 2) (qaj (qa3 3) qce))) (s:=tiB) (fun i=>c ++ [.lst ((qcy (w.take i)).map prD)]) (fun _ v=>[some (webD w),some (.ref c.length),v.1,v.2]) ((w.map fun r=>D.tup (nD r)).mapIdx fun i x=>.tup [.int i,x]) 0 (none,none) (fun _ _=>trivial) (fun i x hx v=>by
  rw [Nat.zero_add]
  have hi:i < w.length:=by have:=(List.getElem?_eq_some_iff.mp hx).1; simpa using this
  have ex:x=.tup [.int i,.tup (nD w[i])]:=by
   rw [List.getElem?_mapIdx,List.getElem?_map,List.getElem?_eq_getElem hi] at hx
   cases hx; rfl
  subst ex
  have hl:=ties_len (w.take i) 64 fun r h=>hr r (List.mem_of_mem_take h)
  have h3:(w.take i).length * 64≤64 * 64:=Nat.mul_le_mul (by rw [List.length_take]; omega) (Nat.le_refl _)
  have hs:=ti_step (i:=i) (r:=w[i]) (acc:=qcy (w.take i)) (c:=c) (some (webD w)) (by have:=hr _ (List.getElem_mem hi); omega) (by omega)
  rw [tie_snoc w hi] at hs
  exact ⟨_,by simp,(some (.int i),some (.tup (nD w[i]))),hs⟩)
 obtain ⟨v',hf⟩:=hf
 have hln:((w.map fun r=>D.tup (nD r)).mapIdx fun i x=>D.tup [.int i,x]).length=w.length:=by simp
 rw [Nat.zero_add,hln,List.take_length] at hf
 have e0:qcy (w.take 0)=[]:=rfl
 rw [e0,List.map_nil] at hf
 have hb:qgm=sSeq (sSet 1 (qcC dNil)) (sSeq (sFor (qgV (qa0 (dVar 0) dNil)) (qca 2 (qaj (qa3 2) (qaj (qa3 3) qce))) tiB) (sRet (dVar 1))):=rfl
 have h0:(0:Nat)≤sizeLine:=Nat.zero_le _
 rw [qex,x_fn,hb]
 have es:qbs 4 [webD w]=[some (webD w),none,none,none]:=rfl
 have e1:sSet 1 (qcC dNil) [some (webD w),none,none,none] c=.ok (.nx [some (webD w),some (.ref c.length),none,none]) (c ++ [.lst []]):=by simp
 have e2:sFor (qgV (qa0 (dVar 0) dNil)) (qca 2 (qaj (qa3 2) (qaj (qa3 3) qce))) tiB [some (webD w),some (.ref c.length),none,none] (c ++ [.lst []])=.ok (.nx [some (webD w),some (.ref c.length),v'.1,v'.2]) (c ++ [.lst ((qcy w).map prD)]):=by
  rw [qeF]
  unfold qgV
  simp only [qav,qaU,gz,qb0,R.bind_ok]
  exact hf
 rw [es,qb3 e1,qb3 e2]
 simp only [qfw,qaU,gz,gs,R.bind_ok]
 show qbx false c.length (.ref c.length) (c ++ [.lst ((qcy w).map prD)])=_
 simp [qbx]
end Ev
namespace Ev
open PySem L2
structure Wk (w:List (List Nat)):Prop where
 len:w.length < 64
 row:∀ r∈w,Up r∧∀ x∈r,x < w.length
theorem Wk.short {w:List (List Nat)} (h:Wk w) {r:List Nat} (hr:r∈w):r.length≤w.length:=up_len (h.row r hr).1 (h.row r hr).2
def comN (w:List (List Nat)) (p:Nat×Nat):Nat:=bothN (w.getD p.1 []) (w.getD p.2 [])
theorem nats_row {w:List (List Nat)} (h:Wk w) {r:List Nat} (hr:r∈w) (c:LC):qgE c (.tup (nD r))=some r:=by
 obtain ⟨h1,h2⟩:=h.row r hr
 have hl:=h.len
 have:=up_len (qdp r) (m:=w.length) (fun x hx=>h2 x (mem_ssort.mp hx))
 exact qgD (by omega) fun x hx=>by have:=h2 x hx; omega
theorem lenAnd_gen {a b:dS} {e:Ev} {c:LC} {x y:D} {ns ms:List Nat} (ha:a e c=.ok [x] c) (hb:b e c=.ok [y] c) (hx:qgE c x=some ns) (hy:qgE c y=some ms):qeQ a b e c=.ok (.int (bothN ns ms:Nat)) c:=by
 unfold qeQ
 rw [ha]
 simp only [R.bind_ok]
 rw [hx]
 dsimp only
 rw [hb]
 simp only [R.bind_ok]
 rw [hy]
theorem common_ok {w:List (List Nat)} (h:Wk w) {a b:Nat} (ha:a < w.length) (hb:b < w.length) (c:LC):qd9 [webD w,.int a,.int b] c=.ok (.int (comN w (a,b):Nat)) c:=by
 have h1:=qgb (List.getElem?_eq_getElem ha) c
 have h2:=qgb (List.getElem?_eq_getElem hb) c
 have e:qeQ (qa0 (dBin ixD (dVar 0) (dVar 1)) dNil) (qa0 (dBin ixD (dVar 0) (dVar 2)) dNil) [some (webD w),some (.int a),some (.int b)] c=.ok (.int (bothN w[a] w[b]:Nat)) c :=
  lenAnd_gen (x:=.tup (nD w[a])) (y:=.tup (nD w[b])) (by simp only [qav,qdc,qaU,gz,gs,qb0,R.bind_ok,h1]) (by simp only [qav,qdc,qaU,gz,gs,qb0,R.bind_ok,h2]) (nats_row h (List.getElem_mem ha) c) (nats_row h (List.getElem_mem hb) c)
 have e2:comN w (a,b)=bothN w[a] w[b]:=by
  unfold comN
  rw [List.getD_eq_getElem?_getD,List.getD_eq_getElem?_getD,List.getElem?_eq_getElem ha,List.getElem?_eq_getElem hb]; rfl
 rw [qd9,x_fn]
 unfold qdU
 have es:qbs 3 [webD w,.int a,.int b]=[some (webD w),some (.int a),some (.int b)]:=rfl
 rw [es,qfw,e,e2]
 simp [qbx,qaS]
def qe4 (w:List (List Nat)):Option Nat:=w.findIdx? fun r=>decide (r.length≠(w.getD 0 []).length)
def optD:Option Nat→D
 | some i=>.int (i:Nat)
 | none=>.non
def plB:dF:=(sIf (dBl (dBin neD (dCB lenD (qa0 (dVar 2) dNil)) (dCB lenD (qa0 (dBin ixD (dVar 0) (dC (.int 0))) dNil)))) (sRet (dVar 1)) qbI)
theorem pl_step {W:D} {r r0:List Nat} {i:Nat} {c:LC} (h0:ixD W (.int 0) c=.ok (.tup (nD r0)) c):plB [some W,some (.int i),some (.tup (nD r))] c=if r.length≠r0.length then .ok (.rt (.int i)) c else .ok (.nx [some W,some (.int i),some (.tup (nD r))]) c:=by
 have l1:(nD r).length=r.length:=by simp [nD]
 have l0:(nD r0).length=r0.length:=by simp [nD]
 unfold plB
 by_cases e:r.length=r0.length
 ·simp [h0,l1,l0,e]
 ·have e':¬ ((r.length:Int)=(r0.length:Int)):=by omega
  simp [h0,l1,l0,e,e']
theorem pl_loop {W:D} {r0:List Nat} {c:LC} (h0:ixD W (.int 0) c=.ok (.tup (nD r0)) c):∀ (w:List (List Nat)) (k:Nat) (v1 v2:Option D),∃ u1 u2,forD (fun _=>True) (qca 2 (qaj (qa3 1) (qaj (qa3 2) qce))) plB ((w.map fun r=>D.tup (nD r)).mapIdx fun i x=>.tup [.int ((k + i:Nat):Int),x]) [some W,v1,v2] c =
  (match w.findIdx? fun r=>decide (r.length≠r0.length) with | some i=>.ok (.rt (.int ((k + i:Nat):Int))) c | none=>.ok (.nx [some W,u1,u2]) c)
 | [],k,v1,v2=>⟨v1,v2,by simp⟩
 | r :: w,k,v1,v2=>by
  have hg:qca 2 (qaj (qa3 1) (qaj (qa3 2) qce)) (.tup [.int ((k + 0:Nat):Int),.tup (nD r)]) [some W,v1,v2] c=.ok [some W,some (.int ((k + 0:Nat):Int)),some (.tup (nD r))] c:=rfl
  have hs:=pl_step (i:=k + 0) (r:=r) h0
  rw [List.map_cons,List.mapIdx_cons,qbE,hg,R.bind_ok,hs,List.findIdx?_cons]
  by_cases e:r.length=r0.length
  ·obtain ⟨u1,u2,ih⟩:=pl_loop h0 w (k + 1) (some (.int ((k + 0:Nat):Int))) (some (.tup (nD r)))
   refine ⟨u1,u2,?_⟩
   rw [if_neg (by simp [e])]
   simp only [R.bind_ok]
   have e1:((w.map fun r=>D.tup (nD r)).mapIdx fun i x=>D.tup [.int ((k + (i + 1):Nat):Int),x])=((w.map fun r=>D.tup (nD r)).mapIdx fun i x=>D.tup [.int ((k + 1 + i:Nat):Int),x]):=by
    congr 1; funext i x; congr 4; omega
   rw [e1,ih]
   simp only [e,ne_eq,not_true_eq_false,decide_false]
   cases w.findIdx? fun r=>decide (r.length≠r0.length) with
   | none=>rfl
   | some i =>
    simp only [Option.map_some]
    congr 4; omega
  ·refine ⟨none,none,?_⟩
   rw [if_pos (by simpa using e)]
   simp only [R.bind_ok]
   simp [e]
theorem place_ok {w:List (List Nat)} (h0:0 < w.length) (c:LC):qaC [webD w] c=.ok (optD (qe4 w)) c:=by
 have hi:ixD (webD w) (.int 0) c=.ok (.tup (nD (w.getD 0 []))) c:=by
  have:=qgb (List.getElem?_eq_getElem h0) c
  rw [List.getD_eq_getElem?_getD,List.getElem?_eq_getElem h0]
  exact this
 obtain ⟨u1,u2,hf⟩:=pl_loop hi w 0 none none
 simp only [Nat.zero_add] at hf
 have e2:sFor (qgV (qa0 (dVar 0) dNil)) (qca 2 (qaj (qa3 1) (qaj (qa3 2) qce))) plB [some (webD w),none,none] c=(match qe4 w with | some i=>.ok (.rt (.int (i:Int))) c | none=>.ok (.nx [some (webD w),u1,u2]) c):=by
  rw [qeF]
  unfold qgV
  simp only [qav,qaU,gz,qb0,R.bind_ok]
  exact hf
 have hb:qaD=sSeq (sFor (qgV (qa0 (dVar 0) dNil)) (qca 2 (qaj (qa3 1) (qaj (qa3 2) qce))) plB) (sRet (dC .non)):=rfl
 rw [qaC,x_fn,hb]
 have es:qbs 3 [webD w]=[some (webD w),none,none]:=rfl
 rw [es,qe9,e2]
 cases qe4 w with
 | none=>simp [optD,qbx,qaS]
 | some i=>simp [optD,qbx,qaS]
def shN (w:List (List Nat)):List (Nat×Nat)→Option Nat
 | []=>none
 | p :: _=>some (comN w p)
theorem qfQ {m:List D→LC→R D} {d1 d2 d3:yD} {e:Ev} {c:LC} {x y z v:D} (h1:d1 e c=.ok x c) (h2:d2 e c=.ok y c) (h3:d3 e c=.ok z c) (h:m [x,y,z] c=.ok v c):qa7 3 m (qa0 d1 (qa0 d2 (qa0 d3 dNil))) e c=.ok v c:=by
 simp only [qdt,qav,h1,h2,h3,qb0,R.bind_ok]
 rw [if_pos (by rfl)]; exact h
theorem qd4 {m:List D→LC→R D} {d1 d2:yD} {e:Ev} {c:LC} {x y v:D} (h1:d1 e c=.ok x c) (h2:d2 e c=.ok y c) (h:m [x,y] c=.ok v c):qa7 2 m (qa0 d1 (qa0 d2 dNil)) e c=.ok v c:=by
 simp only [qdt,qav,h1,h2,qb0,R.bind_ok]
 rw [if_pos (by rfl)]; exact h
theorem qbl {m:List D→LC→R D} {d1:yD} {e:Ev} {c:LC} {x v:D} (h1:d1 e c=.ok x c) (h:m [x] c=.ok v c):qa7 1 m (qa0 d1 dNil) e c=.ok v c:=by
 simp only [qdt,qav,h1,qb0,R.bind_ok]
 rw [if_pos (by rfl)]; exact h
theorem ret_fn {n:Nat} {b:dF} {xs:List D} {c:LC} {v:D} (h:b (qbs n xs) c=.ok (.rt v) c) (hv:qaS v=true) (hr:∀ k,v≠.ref k):fnD n false b xs c=.ok v c:=by
 rw [x_fn,h]
 simp only [R.bind_ok]
 cases v <;> first | exact absurd rfl (hr _) | (unfold qbx; dsimp only; rw [if_pos hv,List.take_length])
def PrOk (w:List (List Nat)) (ps:List (Nat×Nat)):Prop:=∀ p∈ps,p.1 < w.length∧p.2 < w.length
theorem qg6 (o:Option Nat):qaS (optD o)=true∧∀ k,optD o≠.ref k:=by
 cases o <;> exact ⟨rfl,fun k h=>by cases h⟩
theorem ix_pr0 (p:Nat×Nat) (c:LC):ixD (prD p) (.int 0) c=.ok (.int p.1) c:=rfl
theorem ix_pr1 (p:Nat×Nat) (c:LC):ixD (prD p) (.int 1) c=.ok (.int p.2) c:=rfl
theorem qfx {w:List (List Nat)} (h:Wk w) {ps:List (Nat×Nat)} (hp:PrOk w ps) (c:LC):qaq [webD w,.lst (ps.map prD)] c=.ok (optD (shN w ps)) c:=by
 rw [qaq]
 refine ret_fn ?_ (qg6 _).1 (qg6 _).2
 have es:qbs 2 [webD w,.lst (ps.map prD)]=[some (webD w),some (.lst (ps.map prD))]:=rfl
 rw [es]
 unfold qba
 cases ps with
 | nil=>simp [truD,lstD,seqD,shN,optD]
 | cons p ps =>
  have h1:ixD (.lst ((p :: ps).map prD)) (.int 0) c=.ok (prD p) c:=by
   have:=qcu (xs:=(p :: ps).map prD) (j:=0) (v:=prD p) rfl
   rw [qgo]; exact (by rw [show ((0:Int))=((0:Nat):Int) from rfl,this])
  obtain ⟨p1,p2⟩:=hp p (.head _)
  have hc:=qfQ (m:=qd9) (d1:=dVar 0) (d2:=dBin ixD (dBin ixD (dVar 1) (dC (.int 0))) (dC (.int 0))) (d3:=dBin ixD (dBin ixD (dVar 1) (dC (.int 0))) (dC (.int 1))) (e:=[some (webD w),some (.lst ((p :: ps).map prD))]) (c:=c) rfl (by simp only [qdc,qaU,x_c,gz,gs,R.bind_ok,h1,ix_pr0]) (by simp only [qdc,qaU,x_c,gz,gs,R.bind_ok,h1,ix_pr1]) (common_ok h p1 p2 c)
  have ht:dTru (dVar 1) [some (webD w),some (.lst ((p :: ps).map prD))] c=.ok true c:=by simp [truD,lstD,seqD]
  rw [qfw,x_ifE,ht]
  simp only [R.bind_ok]
  rw [if_pos trivial,hc]
  rfl
def upB:dF:=(sIf (dBl (dBin neD (qa7 3 qd9 (qa0 (dVar 0) (qa0 (dBin ixD (dVar 3) (dC (.int 0))) (qa0 (dBin ixD (dVar 3) (dC (.int 1))) dNil)))) (dVar 2))) (sRet (dVar 3)) qbI)
def unlN (w:List (List Nat)) (s:Nat) (ps:List (Nat×Nat)):Option (Nat×Nat):=ps.find? fun p=>decide (comN w p≠s)
theorem ifne_gen {d2:yD} {e:Ev} {c:LC} {a s:Nat} {t u:dF} {d1:yD} (h1:d1 e c=.ok (.int (a:Int)) c) (h2:d2 e c=.ok (.int (s:Int)) c):sIf (dBl (dBin neD d1 d2)) t u e c=if a≠s then t e c else u e c:=by
 by_cases q:a=s
 ·subst q; simp [h1,h2]
 ·have q':¬ ((a:Int)=s):=by omega
  simp [h1,h2,q,q']
theorem up_step {w:List (List Nat)} (h:Wk w) {p:Nat×Nat} (hp:p.1 < w.length∧p.2 < w.length) {s:Nat} (a1:Option D) (c:LC):upB [some (webD w),a1,some (.int s),some (prD p)] c=if comN w p≠s then .ok (.rt (prD p)) c else .ok (.nx [some (webD w),a1,some (.int s),some (prD p)]) c:=by
 have hc:=qfQ (m:=qd9) (d1:=dVar 0) (d2:=dBin ixD (dVar 3) (dC (.int 0))) (d3:=dBin ixD (dVar 3) (dC (.int 1))) (e:=[some (webD w),a1,some (.int s),some (prD p)]) (c:=c) rfl (by simp only [qdc,qaU,x_c,gz,gs,R.bind_ok,ix_pr0]) (by simp only [qdc,qaU,x_c,gz,gs,R.bind_ok,ix_pr1]) (common_ok h hp.1 hp.2 c)
 unfold upB
 rw [ifne_gen hc rfl]
 rfl
theorem up_loop {w:List (List Nat)} (h:Wk w) {s:Nat} {a1:Option D} {c:LC}:∀ (ps:List (Nat×Nat)) (v:Option D),PrOk w ps→∃ u,forD (fun _=>True) (qa3 3) upB (ps.map prD) [some (webD w),a1,some (.int s),v] c=(match unlN w s ps with | some p=>.ok (.rt (prD p)) c | none=>.ok (.nx [some (webD w),a1,some (.int s),u]) c)
 | [],v,_=>⟨v,by simp [unlN]⟩
 | p :: ps,v,hp=>by
  obtain ⟨u,ih⟩:=up_loop (a1:=a1) h ps (some (prD p)) fun q hq=>hp q (.tail _ hq)
  have hs:=up_step h (hp p (.head _)) (s:=s) a1 c
  have hg:qa3 3 (prD p) [some (webD w),a1,some (.int s),v] c=.ok [some (webD w),a1,some (.int s),some (prD p)] c:=rfl
  by_cases e:comN w p=s
  ·refine ⟨u,?_⟩
   rw [List.map_cons,qbE,hg,R.bind_ok,hs,if_neg (by simp [e])]
   simp only [R.bind_ok]
   rw [ih]
   unfold unlN
   rw [List.find?_cons_of_neg (by simp [e])]
  ·refine ⟨u,?_⟩
   rw [List.map_cons,qbE,hg,R.bind_ok,hs,if_pos (by simpa using e)]
   unfold unlN
   rw [List.find?_cons_of_pos (by simpa using e)]
   rfl
def qgz:Option (Nat×Nat)→D
 | some p=>prD p
 | none=>.non
def qc5 (w:List (List Nat)) (ps:List (Nat×Nat)):Option (Nat×Nat):=match ps with
 | []=>none
 | p :: ps=>unlN w (comN w p) (p :: ps)
theorem qg5 (o:Option (Nat×Nat)):qaS (qgz o)=true∧∀ k,qgz o≠.ref k:=by
 cases o <;> exact ⟨rfl,fun k h=>by cases h⟩
theorem unlike_ok {w:List (List Nat)} (h:Wk w) {ps:List (Nat×Nat)} (hp:PrOk w ps) (c:LC):qau [webD w,.lst (ps.map prD)] c=.ok (qgz (qc5 w ps)) c:=by
 have hs:=qd4 (m:=qaq) (d1:=dVar 0) (d2:=dVar 1) (e:=[some (webD w),some (.lst (ps.map prD)),none,none]) (c:=c) rfl rfl (qfx h hp c)
 have e0:sSet 2 (qa7 2 qaq (qa0 (dVar 0) (qa0 (dVar 1) dNil))) [some (webD w),some (.lst (ps.map prD)),none,none] c=.ok (.nx [some (webD w),some (.lst (ps.map prD)),some (optD (shN w ps)),none]) c:=by
  rw [qfv,hs]; rfl
 have hb:qaH=sSeq (sSet 2 (qa7 2 qaq (qa0 (dVar 0) (qa0 (dVar 1) dNil)))) (sSeq (sFor (dSeq (dVar 1)) (qa3 3) upB) (sRet (dC .non))):=rfl
 rw [qau]
 refine ret_fn ?_ (qg5 _).1 (qg5 _).2
 have es:qbs 4 [webD w,.lst (ps.map prD)]=[some (webD w),some (.lst (ps.map prD)),none,none]:=rfl
 rw [es,hb,qb3 e0]
 cases ps with
 | nil =>
  rw [qe9,qeF]
  unfold dSeq
  simp [qc5,qgz]
 | cons p ps =>
  obtain ⟨u,hf⟩:=up_loop (s:=comN w p) (a1:=some (.lst ((p :: ps).map prD))) h (c:=c) (p :: ps) none hp
  have e1:sFor (dSeq (dVar 1)) (qa3 3) upB [some (webD w),some (.lst ((p :: ps).map prD)),some (optD (shN w (p :: ps))),none] c=(match unlN w (comN w p) (p :: ps) with | some p=>.ok (.rt (prD p)) c | none=>.ok (.nx [some (webD w),some (.lst ((p :: ps).map prD)),some (.int (comN w p:Nat)),u]) c):=by
   rw [qeF]
   unfold dSeq
   simp only [qaU,gz,gs,R.bind_ok]
   exact hf
  have eu:qc5 w (p :: ps)=unlN w (comN w p) (p :: ps):=rfl
  rw [qe9,e1,eu]
  cases unlN w (comN w p) (p :: ps) with
  | none=>simp [qgz]
  | some p=>simp [qgz]
def evB:dF:=(sSeq (sSet 6 (qa7 2 qau (qa0 (dVar 0) (qa0 (dVar 5) dNil)))) (sIf (dBl (dBin qe7 (dVar 6) (dC .non))) (sRet (dTup (qa0 (dVar 4) (qa0 (dBin ixD (dVar 6) (dC (.int 0))) (qa0 (dBin ixD (dVar 6) (dC (.int 1))) dNil))))) qbI))
theorem tup3 {d1 d2 d3:yD} {e:Ev} {c:LC} {x y z:D} (h1:d1 e c=.ok x c) (h2:d2 e c=.ok y c) (h3:d3 e c=.ok z c):dTup (qa0 d1 (qa0 d2 (qa0 d3 dNil))) e c=.ok (.tup [x,y,z]) c:=by
 have:(3:Nat)≤sizeLine:=qam (by decide)
 simp only [x_tup,qav,h1,h2,h3,qb0,R.bind_ok]
 rw [if_pos (by exact this)]
theorem evB_step {w:List (List Nat)} (h:Wk w) {ps:List (Nat×Nat)} (hp:PrOk w ps) {c:LC} (a1 a2 a3 a6:Option D) (word:Str):∃ u,evB [some (webD w),a1,a2,a3,some (.str word),some (.lst (ps.map prD)),a6] c=(match qc5 w ps with
  | some p=>.ok (.rt (.tup [.str word,.int p.1,.int p.2])) c
  | none=>.ok (.nx [some (webD w),a1,a2,a3,some (.str word),some (.lst (ps.map prD)),u]) c):=by
 have hs:=qd4 (m:=qau) (d1:=dVar 0) (d2:=dVar 5) (e:=[some (webD w),a1,a2,a3,some (.str word),some (.lst (ps.map prD)),a6]) (c:=c) rfl rfl (unlike_ok h hp c)
 have e0:sSet 6 (qa7 2 qau (qa0 (dVar 0) (qa0 (dVar 5) dNil))) [some (webD w),a1,a2,a3,some (.str word),some (.lst (ps.map prD)),a6] c=.ok (.nx [some (webD w),a1,a2,a3,some (.str word),some (.lst (ps.map prD)),some (qgz (qc5 w ps))]) c:=by
  rw [qfv,hs]; rfl
 refine ⟨some (qgz (qc5 w ps)),?_⟩
 unfold evB
 rw [qb3 e0]
 cases qc5 w ps with
 | none=>simp [qgz,isN]
 | some p =>
  have h3:=tup3 (x:=.str word) (y:=.int p.1) (z:=.int p.2) (d1:=dVar 4) (d2:=dBin ixD (dVar 6) (dC (.int 0))) (d3:=dBin ixD (dVar 6) (dC (.int 1))) (e:=[some (webD w),a1,a2,a3,some (.str word),some (.lst (ps.map prD)),some (prD p)]) (c:=c) rfl (by simp only [qdc,qaU,x_c,gz,gs,R.bind_ok,ix_pr0]) (by simp only [qdc,qaU,x_c,gz,gs,R.bind_ok,ix_pr1])
  have hn:dBl (dBin qe7 (dVar 6) (dC .non)) [some (webD w),a1,a2,a3,some (.str word),some (.lst (ps.map prD)),some (prD p)] c=.ok true c:=rfl
  show sIf _ _ _ [some (webD w),a1,a2,a3,some (.str word),some (.lst (ps.map prD)),some (prD p)] c=_
  rw [x_if,hn]
  simp only [R.bind_ok]
  rw [if_pos trivial,qfw,h3]
  rfl
def evD (w:List (List Nat)):D:=match qe4 w with
 | some i=>.tup [.str "place",.int (i:Nat)]
 | none=>match qc5 w (qcy w) with
  | some p=>.tup [.str "tied",.int p.1,.int p.2]
  | none=>match qc5 w (qcy (otR w)) with
   | some p=>.tup [.str "apart",.int p.1,.int p.2]
   | none=>.tup [.str "even",.tup [.int (w.length:Nat),.int ((w.getD 0 []).length:Nat),optD (shN w (qcy w)),optD (shN w (qcy (otR w)))]]
theorem ties_in {w:List (List Nat)} {m:Nat} (hl:w.length≤m) (h:∀ r∈w,∀ x∈r,x < m):∀ p∈qcy w,p.1 < m∧p.2 < m:=fun p hp=>by
 unfold qcy at hp
 obtain ⟨l,hl',hp⟩:=List.mem_flatten.mp hp
 obtain ⟨i,hi,rfl⟩:=List.mem_mapIdx.mp hl'
 unfold tiR at hp
 obtain ⟨j,hj,rfl⟩:=List.mem_map.mp hp
 exact ⟨by simp only; omega,h _ (List.getElem_mem hi) j (List.mem_filter.mp hj).1⟩
theorem wAll_row (n:Nat) (f:Nat→Nat→Bool):∀ r∈wAll n f,r.length≤n∧∀ x∈r,x < n:=fun r hr=>by
 obtain ⟨i,_,rfl⟩:=List.mem_map.mp hr
 unfold wRow
 refine ⟨?_,fun x hx=>List.mem_range.mp (List.mem_filter.mp hx).1⟩
 have:=List.length_filter_le (fun j=>decide (j≠i) && f i j) (List.range n)
 rwa [List.length_range] at this
theorem wAll_len (n:Nat) (f:Nat→Nat→Bool):(wAll n f).length=n:=by simp [wAll]
end Ev
namespace Ev
open PySem L2
theorem tup2 {d1 d2:yD} {e:Ev} {c:LC} {x y:D} (h1:d1 e c=.ok x c) (h2:d2 e c=.ok y c):dTup (qa0 d1 (qa0 d2 dNil)) e c=.ok (.tup [x,y]) c:=by
 have:(2:Nat)≤sizeLine:=qam (by decide)
 simp only [x_tup,qav,h1,h2,qb0,R.bind_ok]
 rw [if_pos (by exact this)]
theorem tup4 {d1 d2 d3 d4:yD} {e:Ev} {c:LC} {x y z u:D} (h1:d1 e c=.ok x c) (h2:d2 e c=.ok y c) (h3:d3 e c=.ok z c) (h4:d4 e c=.ok u c):dTup (qa0 d1 (qa0 d2 (qa0 d3 (qa0 d4 dNil)))) e c=.ok (.tup [x,y,z,u]) c:=by
 have:(4:Nat)≤sizeLine:=qam (by decide)
 simp only [x_tup,qav,h1,h2,h3,h4,qb0,R.bind_ok]
 rw [if_pos (by exact this)]
theorem cb1 {f:List D→LC→R D} {d1:yD} {e:Ev} {c:LC} {x v:D} (h1:d1 e c=.ok x c) (h:f [x] c=.ok v c):dCB f (qa0 d1 dNil) e c=.ok v c:=by
 simp only [x_cb,qav,h1,qb0,R.bind_ok]; exact h
theorem qda {i:Nat} {d:yD} {e:Ev} {c:LC} {v:D} (h:d e c=.ok v c):sSet i d e c=.ok (.nx (e.set i (some v))) c:=by rw [qfv,h]; rfl
theorem ret_gen {d:yD} {e:Ev} {c:LC} {v:D} (h:d e c=.ok v c):sRet d e c=.ok (.rt v) c:=by rw [qfw,h]; rfl
theorem qfM {w:List (List Nat)} (h:Wk w) (h0:0 < w.length) (c:LC):qb8 [webD w] c=.ok (evD w) c:=by
 have hl:=h.len
 have hnear:=ties_ok (w:=w) hl (fun r hr=>by have:=h.short hr; omega) c
 have hol:(otR w).length=w.length:=wAll_len _ _
 have hfar:=ties_ok (w:=otR w) (by omega) (fun r hr=>by have:=(wAll_row _ _ r hr).1; omega) c
 have hoth:=other_ok (w:=w) (by omega) c
 have p1:PrOk w (qcy w):=ties_in (Nat.le_refl _) fun r hr x hx=>(h.row r hr).2 x hx
 have p2:PrOk w (qcy (otR w)):=ties_in (Nat.le_of_eq hol) fun r hr x hx=>(wAll_row _ _ r hr).2 x hx
 generalize hps:qcy w=ps at hnear p1
 generalize hqs:qcy (otR w)=qs at hfar p2
 have hi:ixD (webD w) (.int 0) c=.ok (.tup (nD (w.getD 0 []))) c:=by
  have:=qgb (List.getElem?_eq_getElem h0) c
  rw [List.getD_eq_getElem?_getD,List.getElem?_eq_getElem h0]
  exact this
 have hev:evD w=match qe4 w with
  | some i=>.tup [.str "place",.int (i:Nat)]
  | none=>match qc5 w ps with
   | some p=>.tup [.str "tied",.int p.1,.int p.2]
   | none=>match qc5 w qs with
    | some p=>.tup [.str "apart",.int p.1,.int p.2]
    | none=>.tup [.str "even",.tup [.int (w.length:Nat),.int ((w.getD 0 []).length:Nat),optD (shN w ps),optD (shN w qs)]]:=by
  unfold evD
  rw [hps,hqs]
  all_goals
   cases qe4 w with
   | some i=>rfl
   | none =>
    cases qc5 w ps with
    | some p=>rfl
    | none=>cases qc5 w qs <;> rfl
 rw [qb8,hev]
 have nr3:∀ (x:Str) (p:Nat×Nat),qaS (.tup [.str x,.int p.1,.int p.2])=true:=fun x p=>rfl
 have e0:=qda (i:=1) (e:=[some (webD w),none,none,none,none,none,none]) (qbl (m:=qaC) (d1:=dVar 0) rfl (place_ok h0 c))
 have hb:qct=sSeq (sSet 1 (qa7 1 qaC (qa0 (dVar 0) dNil))) (sSeq (sIf (dBl (dBin qe7 (dVar 1) (dC .non))) (sRet (dTup (qa0 (dC (.str "place")) (qa0 (dVar 1) dNil)))) qbI) (sSeq (sSet 2 (qa7 1 qex (qa0 (dVar 0) dNil))) (sSeq (sSet 3 (qa7 1 qex (qa0 (qa7 1 qaz (qa0 (dVar 0) dNil)) dNil))) (sSeq (sFor (qeB (dTup (qa0 (dTup (qa0 (dC (.str "tied")) (qa0 (dVar 2) dNil))) (qa0 (dTup (qa0 (dC (.str "apart")) (qa0 (dVar 3) dNil))) dNil)))) (qca 2 (qaj (qa3 4) (qaj (qa3 5) qce))) evB) (sRet (dTup (qa0 (dC (.str "even")) (qa0 (dTup (qa0 (dCB lenD (qa0 (dVar 0) dNil)) (qa0 (dCB lenD (qa0 (dBin ixD (dVar 0) (dC (.int 0))) dNil)) (qa0 (qa7 2 qaq (qa0 (dVar 0) (qa0 (dVar 2) dNil))) (qa0 (qa7 2 qaq (qa0 (dVar 0) (qa0 (dVar 3) dNil))) dNil))))) dNil)))))))):=rfl
 have es:qbs 7 [webD w]=[some (webD w),none,none,none,none,none,none]:=rfl
 have main:∀ v,(match qe4 w with
  | some i=>(.tup [.str "place",.int (i:Nat)]:D)
  | none=>match qc5 w ps with
   | some p=>.tup [.str "tied",.int p.1,.int p.2]
   | none=>match qc5 w qs with
    | some p=>.tup [.str "apart",.int p.1,.int p.2]
    | none=>.tup [.str "even",.tup [.int (w.length:Nat),.int ((w.getD 0 []).length:Nat),optD (shN w ps),optD (shN w qs)]])=v→qct [some (webD w),none,none,none,none,none,none] c=.ok (.rt v) c∧qaS v=true∧∀ k,v≠.ref k:=by
  intro v hv
  rw [hb,qb3 e0]
  show sSeq _ _ [some (webD w),some (optD (qe4 w)),none,none,none,none,none] c=_∧_
  cases hpl:qe4 w with
  | some i =>
   rw [hpl] at hv
   dsimp only at hv
   subst hv
   refine ⟨?_,rfl,fun k h=>by cases h⟩
   have ht:=tup2 (d1:=dC (.str "place")) (d2:=dVar 1) (e:=[some (webD w),some (optD (some i)),none,none,none,none,none]) (c:=c) (x:=.str "place") (y:=.int (i:Nat)) rfl rfl
   have hn:dBl (dBin qe7 (dVar 1) (dC .non)) [some (webD w),some (optD (some i)),none,none,none,none,none] c=.ok true c:=rfl
   rw [qe9,x_if,hn]
   simp only [R.bind_ok]
   rw [if_pos trivial,ret_gen ht]
   rfl
  | none =>
   rw [hpl] at hv
   dsimp only at hv
   have e1:sIf (dBl (dBin qe7 (dVar 1) (dC .non))) (sRet (dTup (qa0 (dC (.str "place")) (qa0 (dVar 1) dNil)))) qbI [some (webD w),some (optD none),none,none,none,none,none] c=.ok (.nx [some (webD w),some .non,none,none,none,none,none]) c:=rfl
   have e2:=qda (i:=2) (e:=[some (webD w),some .non,none,none,none,none,none]) (qbl (m:=qex) (d1:=dVar 0) rfl hnear)
   have e3:=qda (i:=3) (e:=[some (webD w),some .non,some (.lst (ps.map prD)),none,none,none,none]) (qbl (m:=qex) (d1:=qa7 1 qaz (qa0 (dVar 0) dNil)) (qbl (m:=qaz) (d1:=dVar 0) rfl hoth) hfar)
   rw [qb3 e1,qb3 e2]
   show sSeq _ _ [some (webD w),some .non,some (.lst (ps.map prD)),none,none,none,none] c=_∧_
   rw [qb3 e3]
   show sSeq _ _ [some (webD w),some .non,some (.lst (ps.map prD)),some (.lst (qs.map prD)),none,none,none] c=_∧_
   have hsrc:qeB (dTup (qa0 (dTup (qa0 (dC (.str "tied")) (qa0 (dVar 2) dNil))) (qa0 (dTup (qa0 (dC (.str "apart")) (qa0 (dVar 3) dNil))) dNil))) [some (webD w),some .non,some (.lst (ps.map prD)),some (.lst (qs.map prD)),none,none,none] c=.ok ⟨[.tup [.str "tied",.lst (ps.map prD)],.tup [.str "apart",.lst (qs.map prD)]],fun _=>True⟩ c:=by
    rw [x_seqT,tup2 (tup2 (x:=.str "tied") (y:=.lst (ps.map prD)) rfl rfl) (tup2 (x:=.str "apart") (y:=.lst (qs.map prD)) rfl rfl)]
    rfl
   obtain ⟨u1,f1⟩:=evB_step h p1 (c:=c) (some .non) (some (.lst (ps.map prD))) (some (.lst (qs.map prD))) none "tied"
   rw [qe9,qeF,hsrc]
   simp only [R.bind_ok]
   have hg1:qca 2 (qaj (qa3 4) (qaj (qa3 5) qce)) (.tup [.str "tied",.lst (ps.map prD)]) [some (webD w),some .non,some (.lst (ps.map prD)),some (.lst (qs.map prD)),none,none,none] c=.ok [some (webD w),some .non,some (.lst (ps.map prD)),some (.lst (qs.map prD)),some (.str "tied"),some (.lst (ps.map prD)),none] c:=rfl
   rw [qbE,hg1,R.bind_ok,f1]
   cases hu:qc5 w ps with
   | some p =>
    rw [hu] at hv
    dsimp only at hv
    subst hv
    exact ⟨rfl,rfl,fun k h=>by cases h⟩
   | none =>
    rw [hu] at hv
    dsimp only at hv
    simp only [R.bind_ok]
    obtain ⟨u2,f2⟩:=evB_step h p2 (c:=c) (some .non) (some (.lst (ps.map prD))) (some (.lst (qs.map prD))) u1 "apart"
    have hg2:qca 2 (qaj (qa3 4) (qaj (qa3 5) qce)) (.tup [.str "apart",.lst (qs.map prD)]) [some (webD w),some .non,some (.lst (ps.map prD)),some (.lst (qs.map prD)),some (.str "tied"),some (.lst (ps.map prD)),u1] c=.ok [some (webD w),some .non,some (.lst (ps.map prD)),some (.lst (qs.map prD)),some (.str "apart"),some (.lst (qs.map prD)),u1] c:=rfl
    rw [qbE,hg2,R.bind_ok,f2]
    cases hu2:qc5 w qs with
    | some p =>
     rw [hu2] at hv
     dsimp only at hv
     subst hv
     exact ⟨rfl,rfl,fun k h=>by cases h⟩
    | none =>
     rw [hu2] at hv
     dsimp only at hv
     subst hv
     simp only [R.bind_ok]
     rw [for_nil]
     simp only [R.bind_ok]
     have s1:=qfx h p1 c
     have s2:=qfx h p2 c
     have hl0:lenD [.tup (nD (w.getD 0 []))] c=.ok (.int ((w.getD 0 []).length:Nat)) c:=by rw [x_lenT]; simp [nD]
     refine ⟨ret_gen (tup2 (x:=.str "even") rfl (tup4 (cb1 (x:=webD w) rfl (len_web w c)) (cb1 (x:=.tup (nD (w.getD 0 []))) (by simp only [qdc,qaU,x_c,gz,R.bind_ok]; exact hi) hl0) (qd4 (x:=webD w) (y:=.lst (ps.map prD)) rfl rfl s1) (qd4 (x:=webD w) (y:=.lst (qs.map prD)) rfl rfl s2))),?_,fun k h=>by cases h⟩
     cases shN w ps <;> cases shN w qs <;> rfl
 obtain ⟨m1,m2,m3⟩:=main _ rfl
 exact ret_fn (by rw [es]; exact m1) m2 m3
end Ev
namespace Ev
open PySem L2 Fq
theorem whole_int' (i:Int) (c:LC):qcX [.int i] c=.ok (.bl true) c:=by simp [qcX,qcr]
@[simp] theorem lwhole_int (i:Int) (c:LC):qcX [.int i] c=.ok (.bl true) c:=whole_int' i c
theorem all_bl (c:LC) (l:List D) (f:D→Bool):allD [.lst (l.map fun x=>.bl (f x))] c=.ok (.bl (l.all f)) c:=by
 have e:(l.map fun x=>D.bl (f x))=(l.map f).map D.bl:=by simp
 unfold allD quantD
 dsimp only
 rw [e,blsD_map]
 simp [List.all_map]
def Flat:D→Bool
 | .non=>true
 | .int _=>true
 | .str _=>true
 | _=>false
def gJ (l:List Int) (i:Nat):Int:=l.getD i 0
theorem gJ_map {l:List Int} {i:Nat} (h:i < l.length):(l.map D.int)[i]? = some (.int (gJ l i)):=by
 rw [List.getElem?_map,List.getElem?_eq_getElem h]
 simp [gJ,List.getD,h]
theorem zip_range (f:Int→Int→Int) {a b:List Int} {n:Nat} (ha:a.length=n) (hb:b.length=n):List.zipWith f a b=(List.range n).map fun i=>f (gJ a i) (gJ b i):=by
 apply List.ext_getElem
 ·simp [ha,hb]
 ·intro i h1 h2
  simp only [List.getElem_zipWith,List.getElem_map,List.getElem_range]
  simp at h1
  have ia:i < a.length:=by omega
  have ib:i < b.length:=by omega
  simp [gJ,List.getD,ia,ib]
theorem comp_sum {a b:List Int} {p s N:Int} {n:Nat} (hN:N=n) (hp:0 < p) (ha:a.length=n) (hb:b.length=n) (hs:-1000 < s∧s < 1000) (c:LC) :
  qaI (fun _=>True) (qa3 0) dYes (dBin modD (dBin addD (dBin ixD (dBin ixD (dVar 3) (dC (.int 0))) (dVar 0)) (dBin mulD (dVar 2) (dBin ixD (dBin ixD (dVar 3) (dC (.int 1))) (dVar 0)))) (dVar 1)) (rngD 0 N) [none,some (.int p),some (.int s),some (.lst [.lst (a.map D.int),.lst (b.map D.int)])] [] c =
   .ok ((List.zipWith (fun x y=>(x + s * y) % p) a b).map D.int) c:=by
 have:=qcc (c:=c) (g:=qa3 0) (t:=dYes) (a:=dBin modD (dBin addD (dBin ixD (dBin ixD (dVar 3) (dC (.int 0))) (dVar 0)) (dBin mulD (dVar 2) (dBin ixD (dBin ixD (dVar 3) (dC (.int 1))) (dVar 0)))) (dVar 1)) (fun e=>∃ v,e=[v,some (.int p),some (.int s),some (.lst [.lst (a.map D.int),.lst (b.map D.int)])]) (fun _=>true)
  (fun d=>match d with | .int i=>.int ((gJ a i.toNat + s * gJ b i.toNat) % p) | d=>d) (rngD 0 N) [none,some (.int p),some (.int s),some (.lst [.lst (a.map D.int),.lst (b.map D.int)])] [] ⟨none,rfl⟩ (fun x hx e ⟨v,he⟩=>by
   subst he
   obtain ⟨i,rfl,i0,i1⟩:=qgG hx
   obtain ⟨k,rfl⟩:∃ k:Nat,i=k:=⟨i.toNat,by omega⟩
   have h1:atI (a.map D.int) k=some (.int (gJ a k)):=qcu (gJ_map (by omega))
   have h2:atI (b.map D.int) k=some (.int (gJ b k)):=qcu (gJ_map (by omega))
   have h3:mulD (.int s) (.int (gJ b k)) c=.ok (.int (s * gJ b k)) c:=mul_l c (by omega) (by omega)
   have h4:modD (.int (gJ a k + s * gJ b k)) (.int p) c=.ok (.int ((gJ a k + s * gJ b k) % p)) c:=qfV c hp
   refine ⟨_,rfl,⟨_,rfl⟩,rfl,fun _=>?_⟩
   simp [h1,h2,h3,h4])
 rw [this,List.nil_append,List.filter_eq_self.mpr fun _ _=>rfl,zip_range _ ha hb]
 congr 1
 unfold rngD
 rw [List.map_map,List.map_map,show (N - 0).toNat=n by omega]
 apply List.map_congr_left
 intro i _
 simp
def bSm (L:List D→LC→R D):dF:=(sSeq (sSet 4 (qa7 1 qas (qa0 (dVar 0) dNil))) (sSeq (sSet 5 (qa7 1 qaO (qa0 (dVar 0) dNil))) (sSeq (sSet 6 (dLst (qa0 (qa7 3 qaw (qa0 (dVar 1) (qa0 (dVar 4) (qa0 (dVar 5) dNil)))) (qa0 (qa7 3 qaw (qa0 (dVar 2) (qa0 (dVar 4) (qa0 (dVar 5) dNil)))) dNil)))) (sRet (qa7 2 L (qa0 (qaN (qbe (qa0 (dVar 5) dNil)) [none,some 4,some 3,some 6] (qa3 0) dYes (dBin modD (dBin addD (dBin ixD (dBin ixD (dVar 3) (dC (.int 0))) (dVar 0)) (dBin mulD (dVar 2) (dBin ixD (dBin ixD (dVar 3) (dC (.int 1))) (dVar 0)))) (dVar 1))) (qa0 (dVar 4) dNil)))))))
theorem bSm_is:qdn=bSm qbu:=rfl
theorem sum_gen {L:List D→LC→R D} {q x y s p N w:Int} {n:Nat} {a b:List Int} {c:LC} (h1:qas [.int q] c=.ok (.int p) c) (h2:qaO [.int q] c=.ok (.int N) c) (h3:qaw [.int x,.int p,.int N] c=.ok (.lst (a.map D.int)) c) (h4:qaw [.int y,.int p,.int N] c=.ok (.lst (b.map D.int)) c)
  (hN:N=n) (hp:0 < p) (ha:a.length=n) (hb:b.length=n) (hs:-1000 < s∧s < 1000) (b1:-4611686018427387904≤N∧N < 4611686018427387904) (hl:(rngD 0 N).length < sizeLine) (hn:L [.lst ((List.zipWith (fun x y=>(x + s * y) % p) a b).map D.int),.int p] c=.ok (.int w) c):fnD 7 false (bSm L) [.int q,.int x,.int y,.int s] c=.ok (.int w) c:=by
 have hc:=comp_sum (a:=a) (b:=b) (p:=p) (s:=s) hN hp ha hb hs c
 have key:bSm L [some (.int q),some (.int x),some (.int y),some (.int s),none,none,none] c=.ok (.rt (.int w)) c:=by
  simp [bSm,h1,h2,h3,h4,qdq]
  rw [if_pos b1]
  simp only [R.bind_ok]
  rw [if_pos hl,hc]
  simp only [R.bind_ok,List.length_cons,List.length_nil,if_pos,hn]
 rw [x_fn]
 show R.bind (bSm L [some (.int q),some (.int x),some (.int y),some (.int s),none,none,none] c) _=_
 rw [key]
 simp
theorem zip_mod (f:Int→Int→Int) (p:Int):∀ a b:List Int,List.zipWith (fun x y=>f x y % p) a b=(List.zipWith f a b).map (· % p)
 | [],b=>by simp
 | a :: as,[]=>by simp
 | a :: as,b :: bs=>by rw [List.zipWith_cons_cons,List.zipWith_cons_cons,List.map_cons,zip_mod f p as bs]
theorem sum_ok {f:Fd} (h:f∈fds) (x y s:Int) (hs:-1000 < s∧s < 1000) (c:LC):qcY [.int f.q,.int x,.int y,.int s] c=.ok (.int (numF f.p (List.zipWith (fun a b=>a + s * b) (rowF f.p f.n x) (rowF f.p f.n y)))) c:=by
 have I:=qe0 h
 have p2:=I.p2
 have p47:=I.p47
 have n5:=I.n5
 have hsz:=qam (n:=1000) (by decide)
 have h1:=fun z=>qgI (p:=f.p) (N:=f.n) (x:=z) (n:=f.n) (by omega) (by omega) (by rw [qbH]; omega) (by omega) (by omega) c
 have hn:=lnum_ok (p:=f.p) (by omega) (by omega) (List.zipWith (fun a b=>(a + s * b) % (f.p:Int)) (rowF f.p f.n x) (rowF f.p f.n y)) (by rw [zip_len]; omega) c
 have e:numL f.p (List.zipWith (fun a b=>(a + s * b) % (f.p:Int)) (rowF f.p f.n x) (rowF f.p f.n y))=numF f.p (List.zipWith (fun a b=>a + s * b) (rowF f.p f.n x) (rowF f.p f.n y)):=by
  rw [zip_mod,numL_num,num_mod]
  intro d hd
  obtain ⟨z,_,rfl⟩:=List.mem_map.mp hd
  exact ⟨Int.emod_nonneg _ (by omega),Int.emod_lt_of_pos _ (by omega)⟩
 rw [e] at hn
 rw [qcY,bSm_is]
 exact sum_gen (n:=f.n) (qgx h c) (degree_ok h c) (h1 x) (h1 y) rfl (by omega) (qb1 _ _ _) (qb1 _ _ _) hs (by omega) (by rw [qbH]; omega) hn
theorem q500 {f:Fd} (h:f∈fds):f.q≤50:=by
 have:(fds.all fun f=>decide (f.q≤50))=true:=by decide +kernel
 simpa using List.all_eq_true.mp this f h
def someL (f:Fd):List Nat:=(List.range f.q).map fun t=>M f t t
def sqL (f:Fd):List Nat:=(List.range (f.q - 1)).map fun t=>M f (t + 1) (t + 1)
def sqE:yD:=(qa7 3 qbY (qa0 (dVar 1) (qa0 (dVar 0) (qa0 (dVar 0) dNil))))
def sqF (f:Fd):D→D
 | .int i=>.int (M f i.toNat i.toNat:Nat)
 | d=>d
theorem rng_sq1 (f:Fd):(rngD 1 (f.q:Int)).map (sqF f)=nD (sqL f):=by
 unfold rngD nD sqL
 rw [List.map_map,List.map_map,show ((f.q:Int) - 1).toNat=f.q - 1 by omega]
 refine List.map_congr_left fun t _=>?_
 have e:((1:Int) + (t:Int)).toNat=t + 1:=by omega
 simp [sqF,e]
theorem filt_true (l:List D):l.filter (fun _=>true)=l:=by simp
theorem sq_comp {f:Fd} (h:f∈fds) (c:LC):qaI (fun _=>True) (qa3 0) dYes sqE (rngD 1 (f.q:Int)) [none,some (.int f.q)] [] c=.ok (nD (sqL f)) c:=by
 have:=qcc (c:=c) (g:=qa3 0) (t:=dYes) (a:=sqE) (fun e=>∃ v,e=[v,some (.int f.q)]) (fun _=>true) (sqF f) (rngD 1 (f.q:Int)) [none,some (.int f.q)] [] ⟨_,rfl⟩ (fun d hd e ⟨v,he⟩=>by
  subst he
  obtain ⟨i,rfl,i0,i1⟩:=qgG hd
  obtain ⟨t,rfl⟩:=nat_of (i:=i) (by omega)
  have ht:t < f.q:=by omega
  have hp:=mul_M h ht ht c
  refine ⟨_,rfl,⟨_,rfl⟩,rfl,fun _=>?_⟩
  simp only [sqE,sqF,qdt,qav,qaU,gz,gs,qb0,R.bind_ok,List.set_cons_zero,List.length_cons,List.length_nil,if_pos,hp,Int.toNat_natCast])
 rw [this,List.nil_append,filt_true,rng_sq1]
theorem sort_nD {c:LC} {ns:List Nat} {a:dS} {e:Ev} {c0:LC} (ha:a e c0=.ok [.lst (nD ns)] c) (h:ns.length < 64) (hx:∀ x∈ns,x < 128):qbM a e c0=.ok (.lst (nD (qb4 ns))) c:=by
 rw [x_sortset,ha,R.bind_ok]
 dsimp only
 rw [l_lst]
 dsimp only
 rw [qgD (Nat.lt_of_le_of_lt (ssort_len ns) h) hx]
theorem sq_arg {q:Int} {c:LC} {l:List D} (b1:-4611686018427387904≤q∧q < 4611686018427387904) (hl:(rngD 1 q).length < sizeLine) (hc:qaI (fun _=>True) (qa3 0) dYes sqE (rngD 1 q) [none,some (.int q)] [] c=.ok l c) :
  qa0 (qaN (qfg (qa0 (dC (.int 1)) (qa0 (dVar 0) dNil))) [none,some 0] (qa3 0) dYes sqE) dNil [some (.int q)] c=.ok [.lst l] c:=by
 simp [qdq]
 rw [if_pos ⟨by omega,by omega⟩]
 simp only [R.bind_ok]
 rw [if_pos hl,hc]
 simp
theorem sq_gen {q:Int} {c:LC} {S:yD} {l:List D} (h0:qar [.int q] c=.ok .non c) (hS:S [some (.int q)] c=.ok (.lst l) c) (nr:qak l=true) :
  fnD 1 false (sSeq (qbJ (qa7 1 qar (qa0 (dVar 0) dNil))) (sRet S)) [.int q] c=.ok (.lst l) c:=by
 simp [h0,hS,nr]
theorem qfi {f:Fd} (h:f∈fds):(sqL f).length < 64∧∀ x∈sqL f,x < 128:=by
 have hq:=q500 h
 have I:=qe0 h
 refine ⟨by simp [sqL]; omega,fun x hx=>?_⟩
 obtain ⟨t,_,rfl⟩:=List.mem_map.mp hx
 have:=M_lt I (t + 1) (t + 1)
 omega
theorem squares_ok {f:Fd} (h:f∈fds) (c:LC):qbX [.int f.q] c=.ok (.lst (nD (qb4 (sqL f)))) c:=by
 have hq:=q500 h
 have hs:=qam (n:=1000) (by decide)
 exact sq_gen (qcz h c) (sort_nD (sq_arg (by omega) (by rw [qbH]; omega) (sq_comp h c)) (qfi h).1 (qfi h).2) (qeu _)
end Ev
namespace Ev
open PySem L2
theorem rng_nD2 (a m:Nat):rngD ((a:Int) + 1) (m:Int)=nD (List.range' (a + 1) (m - (a + 1))):=by
 apply List.ext_getElem?
 intro i
 by_cases h:i < m - (a + 1)
 ·have h1:i < (rngD ((a:Int) + 1) (m:Int)).length:=by rw [qbH]; omega
  have:=qfy (List.getElem?_eq_getElem h1)
  rw [List.getElem?_eq_getElem h1,this.2]
  simp [nD,List.getElem?_range' h]
 ·rw [List.getElem?_eq_none (by rw [qbH]; omega),List.getElem?_eq_none (by simp [nD]; omega)]
theorem qgh {dO da:yD} {e:Ev} {c:LC} {k:Nat} {acc l:List D} (h1:dO e c=.ok (.ref k) c) (h2:da e c=.ok (.lst l) c) (hk:c[k]? = some (.lst acc)) (hl:acc.length + l.length≤1000000) (nr:qak l=true):qbi dO da e c=.ok .non (c.set k (.lst (acc ++ l))):=by
 have hs:1000000≤sizeLine:=by decide
 unfold qbi
 rw [h1]
 simp only [R.bind_ok]
 rw [h2]
 simp only [R.bind_ok]
 rw [hk]
 dsimp only
 rw [if_pos ⟨by omega,nr⟩]
theorem qgU {d:yD} {e:Ev} {c c':LC} {v:D} (h:d e c=.ok v c'):qbJ d e c=.ok (.nx e) c':=by rw [qeT,h]; rfl
theorem for_fin {sr:Ev→LC→R Src} {g:Gd} {s:dF} {e:Ev} {c:LC} {l:List D} {r:R Fl} (h1:sr e c=.ok ⟨l,fun _=>True⟩ c) (h2:forD (fun _=>True) g s l e c=r):sFor sr g s e c=r:=by
 rw [qeF,h1]; exact h2
theorem qek {d:yD} {e:Ev} {c:LC} {q:Int} (h:d e c=.ok (.int q) c) (bq:-4611686018427387904≤q∧q < 4611686018427387904):qbe (qa0 d dNil) e c=.ok ⟨rngD 0 q,fun _=>True⟩ c:=by
 simp only [qef,qav,h,qb0,R.bind_ok]
 rw [if_pos (by omega)]
theorem qcd {f:D→D→LC→R D} {d1 d2:yD} {e:Ev} {c:LC} {x y:D} {r:R D} (h1:d1 e c=.ok x c) (h2:d2 e c=.ok y c) (h:f x y c=r):dBin f d1 d2 e c=r:=by
 rw [qdc,h1]
 simp only [R.bind_ok]
 rw [h2]
 exact h
theorem rng2_gen {d1 d2:yD} {e:Ev} {c:LC} {p q:Int} (h1:d1 e c=.ok (.int p) c) (h2:d2 e c=.ok (.int q) c) (bp:-4611686018427387904≤p∧p < 4611686018427387904) (bq:-4611686018427387904≤q∧q < 4611686018427387904):qfg (qa0 d1 (qa0 d2 dNil)) e c=.ok ⟨rngD p q,fun _=>True⟩ c:=by
 simp only [x_rng2,qav,h1,h2,qb0,R.bind_ok]
 rw [if_pos ⟨by omega,by omega,by omega,by omega⟩]
theorem same_int (i:Int) (k:Nat) (c:LC):qaB (k + 1) [.int i,.int i] c=.ok (.bl true) c:=by simp [qaB,qc2]
theorem same_tup {l:List D} {k:Nat} {c:LC} (h:∀ d∈l,qaB (k + 1) [d,d] c=.ok (.bl true) c) (hl:l.length < sizeLine):qaB (k + 2) [.tup l,.tup l] c=.ok (.bl true) c:=by
 have hc:=qcc (c:=c) (g:=qca 2 (qaj (qa3 0) (qaj (qa3 1) qce))) (t:=dYes) (a:=qa7 2 (qaB (k + 1)) (qa0 (dVar 0) (qa0 (dVar 1) dNil)))
  (fun e=>∃ v w,e=[v,w]) (fun _=>true) (fun _=>.bl true) (l.map fun a=>.tup [a,a]) [none,none] [] ⟨_,_,rfl⟩ (fun x hx e ⟨v,w,he⟩=>by
   have:∃ d∈l,x=.tup [d,d]:=by
    obtain ⟨d,hd,e⟩:=List.mem_map.mp hx
    exact ⟨d,hd,e.symm⟩
   obtain ⟨d,hd,rfl⟩:=this
   subst he
   refine ⟨[some d,some d],by simp,⟨_,_,rfl⟩,rfl,fun _=>?_⟩
   simp [h d hd])
 have e2:((l.map fun a=>D.tup [a,a]).filter fun _=>true)=l.map fun a=>D.tup [a,a]:=by simp
 rw [e2,List.nil_append] at hc
 have ha:=all_bl c (l.map fun a=>D.tup [a,a]) (fun _=>true)
 show fnD 2 false (qc2 (qaB (k + 1))) [.tup l,.tup l] c=_
 simp [qc2,qdq,hl]
 rw [hc]
 simp only [R.bind_ok]
 rw [ha]
 simp
theorem same_web {w:List (List Nat)} (hw:w.length < 1000) (hr:∀ r∈w,r.length < 1000) (c:LC):qaB 3 [webD w,webD w] c=.ok (.bl true) c:=by
 have hs:=qam (n:=1000) (by decide)
 unfold webD
 refine same_tup (k:=1) (fun d hd=>?_) (by rw [List.length_map]; omega)
 obtain ⟨r,hr',rfl⟩:=List.mem_map.mp hd
 refine same_tup (k:=0) (fun d hd=>?_) (by have:=hr r hr'; simp [nD]; omega)
 obtain ⟨n,_,rfl⟩:=List.mem_map.mp hd
 exact same_int _ 0 c
theorem qeC {sr:Ev→LC→R Src} {pick:List (Option Nat)} {g:Gd} {t:dB} {a:yD} {e:Ev} {c:LC} {items l:List D} (h1:sr e c=.ok ⟨items,fun _=>True⟩ c) (hl:items.length < sizeLine) (h2:qaI (fun _=>True) g t a items (qdq pick e) [] c=.ok l c):qaN sr pick g t a e c=.ok (.lst l) c:=by
 rw [qeg,h1]
 simp only [R.bind_ok]
 rw [if_pos hl,h2]
 rfl
theorem qfj {i:Nat} {d:yD} {e:Ev} {c c':LC} {v:D} (h:d e c=.ok v c'):sSet i d e c=.ok (.nx (e.set i (some v))) c':=by rw [qfv,h]; rfl
theorem qft {α:Type} {E:List (Option D)} {t:dB} {a:yD} {c:LC} {st:LC→Prop} (hst:st c) (g F:α→D):∀ (l:List α) (v:Option D) (acc:List D),(∀ x∈l,t (some (g x) :: E) c=.ok true c)→(∀ x∈l,a (some (g x) :: E) c=.ok (F x) c)→qaI st (qa3 0) t a (l.map g) (v :: E) acc c=.ok (acc ++ l.map F) c
 | [],v,acc,_,_=>by unfold qaI; simp [hst]
 | x :: l,v,acc,h1,h2=>by
  have e1:qa3 0 (g x) (v :: E) c=.ok (some (g x) :: E) c:=rfl
  rw [List.map_cons]
  unfold qaI
  rw [if_pos hst,e1,R.bind_ok,h1 x (by simp),R.bind_ok,if_pos rfl,h2 x (by simp),R.bind_ok,qft hst g F l _ _ (fun y hy=>h1 y (by simp [hy])) (fun y hy=>h2 y (by simp [hy])),List.append_assoc]
  rfl
theorem call2_s {m:List D→LC→R D} {d1 d2:yD} {e:Ev} {c c1 c2 c3:LC} {x y v:D} (h1:d1 e c=.ok x c1) (h2:d2 e c1=.ok y c2) (h:m [x,y] c2=.ok v c3):qa7 2 m (qa0 d1 (qa0 d2 dNil)) e c=.ok v c3:=by
 simp only [qdt,qav,h1,h2,qb0,R.bind_ok]
 rw [if_pos (by rfl)]; exact h
theorem bl_s {d:yD} {e:Ev} {c c':LC} {b:Bool} (h:d e c=.ok (.bl b) c'):dBl d e c=.ok b c':=by rw [x_bl,h]; rfl
theorem not_s {t:dB} {e:Ev} {c c':LC} {b:Bool} (h:t e c=.ok b c'):dNotT t e c=.ok (!b) c':=by
 unfold dNotT; rw [h]; rfl
theorem qfp {t:dB} {s:dF} {e:Ev} {c c':LC} (h:t e c=.ok false c'):sIf t s qbI e c=.ok (.nx e) c':=by
 rw [x_if,h]; rfl
theorem call1_s {m:List D→LC→R D} {d1:yD} {e:Ev} {c c1 c2:LC} {x v:D} (h1:d1 e c=.ok x c1) (h:m [x] c1=.ok v c2):qa7 1 m (qa0 d1 dNil) e c=.ok v c2:=by
 simp only [qdt,qav,h1,qb0,R.bind_ok]
 rw [if_pos (by rfl)]; exact h
theorem ret_fnS {n:Nat} {b:dF} {xs:List D} {c c':LC} {v:D} (h:b (qbs n xs) c=.ok (.rt v) c') (hv:qaS v=true) (hr:∀ k,v≠.ref k):fnD n false b xs c=.ok v (c'.take c.length):=by
 rw [x_fn,h]
 simp only [R.bind_ok]
 cases v <;> first | exact absurd rfl (hr _) | (unfold qbx; dsimp only; rw [if_pos hv])
theorem or_no {t u:dB} {e:Ev} {c c1 c2:LC} (h1:t e c=.ok false c1) (h2:u e c1=.ok false c2):dOrT t u e c=.ok false c2:=by
 unfold dOrT
 rw [h1]
 simp only [R.bind_ok]
 first
  | exact h2
  | (rw [if_neg (by decide)]; exact h2)
  | (simp; exact h2)
theorem dat_map {α:Type} {g:α→D} {F:α→PyData} (h:∀ a,datD (g a)=some (F a)):∀ l:List α,qd3 (l.map g)=some (l.map F)
 | []=>rfl
 | a :: l=>by
  show (match datD (g a),qd3 (l.map g) with | some a,some r=>some (a :: r) | _,_=>none)=_
  rw [h a,dat_map h l]
  rfl
theorem qeP {α:Type} [DecidableEq α] {F:α→PyData} (h:∀ a b,(F a).eqv (F b)=decide (a=b)):∀ l l':List α,PyData.eqvAll (l.map F) (l'.map F)=decide (l=l')
 | [],[]=>rfl
 | [],_ :: _=>by simp [PyData.eqvAll]
 | _ :: _,[]=>by simp [PyData.eqvAll]
 | a :: l,b :: l'=>by
  rw [List.map_cons,List.map_cons,PyData.eqvAll,h a b,qeP h l l']
  by_cases e:a=b
  ·subst e; by_cases e':l=l' <;> simp [e']
  ·simp [e]
theorem qfO {α:Type} {F:α→PyData} {n:Nat} (h:∀ a,(F a).depth≤n):∀ l:List α,PyData.depthAll (l.map F)≤n
 | []=>by simp [PyData.depthAll]
 | a :: l=>by
  have h1:=h a
  have h2:=qfO h l
  rw [List.map_cons,PyData.depthAll]
  omega
def rowP (r:List Nat):PyData:=.tuple (r.map fun n:Nat=>PyData.int (n:Int))
theorem int_eqv (a b:Nat):(PyData.int (a:Int)).eqv (.int (b:Int))=decide (a=b):=by
 have:(PyData.int (a:Int)).eqv (.int (b:Int))=((a:Int) == (b:Int)):=by simp [PyData.eqv]
 rw [this]
 by_cases h:a=b
 ·subst h; simp
 ·have:¬ (a:Int)=(b:Int):=by omega
  simp [h,this]
theorem row_eqv (r r':List Nat):(rowP r).eqv (rowP r')=decide (r=r'):=by
 unfold rowP
 rw [PyData.eqv,qeP int_eqv]
theorem web_eqv (v w:List (List Nat)) (c:LC):eqvD (webD v) (webD w) c=.ok (.bl (decide (v=w))) c:=by
 have hd:∀ w:List (List Nat),datC c (webD w)=some (.tuple (w.map rowP)):=fun w=>by
  show (match qd3 (w.map fun r=>D.tup (nD r)) with | some r=>some (PyData.tuple r) | none=>none)=_
  rw [dat_map (F:=rowP) fun r=>by
   show (match qd3 (nD r) with | some r=>some (PyData.tuple r) | none=>none)=_
   rw [dat_nD]; rfl]
 have dp:∀ w:List (List Nat),(PyData.tuple (w.map rowP)).depth≤64:=fun w=>by
  have h1:∀ r:List Nat,(rowP r).depth≤10:=fun r=>by
   unfold rowP
   have:=qfO (F:=fun n:Nat=>PyData.int (n:Int)) (n:=5) (fun a=>by simp [PyData.depth]) r
   simp only [PyData.depth]
   omega
  have:=qfO h1 w
  simp only [PyData.depth]
  omega
 unfold eqvD
 rw [hd,hd]
 dsimp only
 rw [if_pos ⟨dp v,dp w⟩,PyData.eqv,qeP row_eqv]
end Ev
namespace Ev
open PySem L2 Fq
def subN (f:Fd) (i j:Nat):Nat:=(subF f.p f.n i j).toNat
def webS (S:List Nat) (f:Fd) (i j:Nat):Bool:=decide (subN f i j∈S)
def wm:List (Nat×List Nat):=[(5,[1,4]),(9,[1,2,3,6]),(13,[1,3,4,9,10,12]),(17,[1,2,4,8,9,13,15,16]),(25,[1,2,3,4,7,8,11,14,16,19,22,23]),(29,[1,4,5,6,7,9,13,16,20,22,23,24,25,28]),(37,[1,3,4,7,9,10,11,12,16,21,25,26,27,28,30,33,34,36]),(41,[1,2,4,5,8,9,10,16,18,20,21,23,25,31,32,33,36,37,39,40]),(49,[1,2,3,4,5,6,7,8,13,14,16,19,21,24,25,28,31,32,35,37,40,42,43,48])]
def wW (q:Nat) (S:List Nat):List (List Nat):=match fds.find? fun f=>Nat.beq f.q q with
 | some f=>wAll q (webS S f)
 | none=>[]
def wl:List (Nat×List (List Nat)×List (List Nat)):=wm.map fun t=>(t.1,wW t.1 t.2,otR (wW t.1 t.2))
def prR (f:Fd) (S:List Nat) (i:Nat):List (Nat×Nat):=((List.range i).filter fun j=>webS S f i j).map fun j=>(i,j)
def PR (f:Fd) (S:List Nat):List (Nat×Nat):=(List.range f.q).flatMap (prR f S)
def byN (q:Nat) (S:List Nat):Nat:=((List.range' 1 (q - 1)).filter fun t=>!decide (t∈S)).headD 0
def trR (f:Fd) (b:Nat) (W:List (List Nat)) (i:Nat):List (Nat×Nat):=(W.getD i []).map fun j=>(M f b i,M f b j)
def TR (f:Fd) (b:Nat) (W:List (List Nat)):List (Nat×Nat):=(List.range f.q).flatMap (trR f b W)
def pairsB (m:Nat) (ps:List (Nat×Nat)):Bool:=ps.all (fun p=>!Nat.beq p.1 p.2 && Nat.blt p.1 m && Nat.blt p.2 m) && Nat.blt ps.length 2000
def webB (q:Nat) (W:List (List Nat)):Bool:=Nat.beq W.length q && W.all (fun r=>r.all (fun x=>Nat.blt x q) && decide (qb4 r=r))
def okE (q:Nat) (W V:List (List Nat)):Bool:=decide (otR W=V) && decide (qe4 W=none∧qc5 W (qcy W)=none∧qc5 W (qcy V)=none∧(W.getD 0 []).length * 2 + 1=q∧shN W (qcy W)=some ((q - 5) / 4)∧shN W (qcy V)=some ((q - 1) / 4))
def okA (f:Fd) (W:List (List Nat)):Bool:=decide (qb4 (sqL f)=W.getD 0 []) && decide (wAll f.q (webS (W.getD 0 []) f)=W) && ((List.range f.q).all fun i=>(List.range f.q).all fun j=>decide (0≤subF f.p f.n i j))
def okB (f:Fd) (W V:List (List Nat)):Bool:=pairsB f.q (PR f (W.getD 0 [])) && decide (webR f.q (PR f (W.getD 0 []))=W) && pairsB f.q (TR f (byN f.q (W.getD 0 [])) W) && decide (webR f.q (TR f (byN f.q (W.getD 0 [])) W)=V)
def okQ (t:Nat×List (List Nat)×List (List Nat)):Bool:=match fds.find? fun f=>Nat.beq f.q t.1 with
 | some f=>webB t.1 t.2.1 && webB t.1 t.2.2 && okA f t.2.1 && okB f t.2.1 t.2.2 && okE t.1 t.2.1 t.2.2 && okE t.1 t.2.2 t.2.1
 | none=>false
def okQa (t:Nat×List (List Nat)×List (List Nat)):Bool:=match fds.find? fun f=>Nat.beq f.q t.1 with
 | some f=>webB t.1 t.2.1 && webB t.1 t.2.2 && okA f t.2.1
 | none=>false
def okQb (t:Nat×List (List Nat)×List (List Nat)):Bool:=match fds.find? fun f=>Nat.beq f.q t.1 with
 | some f=>okB f t.2.1 t.2.2
 | none=>false
theorem okQ_of {t:Nat×List (List Nat)×List (List Nat)} (ha:okQa t=true) (hb:okQb t=true) (h1:okE t.1 t.2.1 t.2.2=true) (h2:okE t.1 t.2.2 t.2.1=true):okQ t=true:=by
 unfold okQa at ha
 unfold okQb at hb
 unfold okQ
 cases hf:fds.find? fun f=>Nat.beq f.q t.1 with
 | none=>rw [hf] at ha; cases ha
 | some f =>
  rw [hf] at ha hb
  dsimp only at ha hb ⊢
  rw [ha,hb,h1,h2]
  rfl
theorem y0:okQ (wl.getD 0 (0,[],[]))=true:=by decide +kernel
theorem y1:okQ (wl.getD 1 (0,[],[]))=true:=by decide +kernel
theorem y2:okQ (wl.getD 2 (0,[],[]))=true:=by decide +kernel
theorem y3:okQ (wl.getD 3 (0,[],[]))=true:=by decide +kernel
theorem y4:okQ (wl.getD 4 (0,[],[]))=true:=by decide +kernel
theorem y5a:okQa (wl.getD 5 (0,[],[]))=true:=by decide +kernel
theorem y5b:okQb (wl.getD 5 (0,[],[]))=true:=by decide +kernel
theorem y5c:okE (wl.getD 5 (0,[],[])).1 (wl.getD 5 (0,[],[])).2.1 (wl.getD 5 (0,[],[])).2.2=true:=by decide +kernel
theorem y5d:okE (wl.getD 5 (0,[],[])).1 (wl.getD 5 (0,[],[])).2.2 (wl.getD 5 (0,[],[])).2.1=true:=by decide +kernel
theorem y6a:okQa (wl.getD 6 (0,[],[]))=true:=by decide +kernel
theorem y6b:okQb (wl.getD 6 (0,[],[]))=true:=by decide +kernel
theorem y6c:okE (wl.getD 6 (0,[],[])).1 (wl.getD 6 (0,[],[])).2.1 (wl.getD 6 (0,[],[])).2.2=true:=by decide +kernel
theorem y6d:okE (wl.getD 6 (0,[],[])).1 (wl.getD 6 (0,[],[])).2.2 (wl.getD 6 (0,[],[])).2.1=true:=by decide +kernel
theorem y7a:okQa (wl.getD 7 (0,[],[]))=true:=by decide +kernel
theorem y7b:okQb (wl.getD 7 (0,[],[]))=true:=by decide +kernel
theorem y7c:okE (wl.getD 7 (0,[],[])).1 (wl.getD 7 (0,[],[])).2.1 (wl.getD 7 (0,[],[])).2.2=true:=by decide +kernel
theorem y7d:okE (wl.getD 7 (0,[],[])).1 (wl.getD 7 (0,[],[])).2.2 (wl.getD 7 (0,[],[])).2.1=true:=by decide +kernel
theorem y8a:okQa (wl.getD 8 (0,[],[]))=true:=by decide +kernel
theorem y8b:okQb (wl.getD 8 (0,[],[]))=true:=by decide +kernel
theorem y8c:okE (wl.getD 8 (0,[],[])).1 (wl.getD 8 (0,[],[])).2.1 (wl.getD 8 (0,[],[])).2.2=true:=by decide +kernel
theorem y8d:okE (wl.getD 8 (0,[],[])).1 (wl.getD 8 (0,[],[])).2.2 (wl.getD 8 (0,[],[])).2.1=true:=by decide +kernel
theorem all_q:wl.all okQ=true:=List.all_eq_true.mpr fun t ht=>by
 obtain ⟨i,hi,e⟩:=List.mem_iff_getElem.mp ht
 have hi9:i < 9:=hi
 have e2:t=wl.getD i (0,[],[]):=by rw [List.getD_eq_getElem?_getD,List.getElem?_eq_getElem hi]; exact e.symm
 rw [e2]
 clear e e2 hi ht
 match i,hi9 with
 | 0,_=>exact y0
 | 1,_=>exact y1
 | 2,_=>exact y2
 | 3,_=>exact y3
 | 4,_=>exact y4
 | 5,_=>exact okQ_of y5a y5b y5c y5d
 | 6,_=>exact okQ_of y6a y6b y6c y6d
 | 7,_=>exact okQ_of y7a y7b y7c y7d
 | 8,_=>exact okQ_of y8a y8b y8c y8d
end Ev
namespace Ev
open PySem L2 Fq
def dueQ (q:Nat):D:=.tup [.str "even",.tup [.int (q:Int),.int (((q - 1) / 2:Nat):Int),.int (((q - 5) / 4:Nat):Int),.int (((q - 1) / 4:Nat):Int)]]
structure Good (f:Fd) (W V:List (List Nat)):Prop where
 sq:qb4 (sqL f)=W.getD 0 []
 web:wAll f.q (webS (W.getD 0 []) f)=W
 sub:∀ i j,i < f.q→j < f.q→0≤subF f.p f.n i j
 pr:PsOk f.q (PR f (W.getD 0 []))
 prl:(PR f (W.getD 0 [])).length < 2000
 prw:webR f.q (PR f (W.getD 0 []))=W
 tr:PsOk f.q (TR f (byN f.q (W.getD 0 [])) W)
 trl:(TR f (byN f.q (W.getD 0 [])) W).length < 2000
 trw:webR f.q (TR f (byN f.q (W.getD 0 [])) W)=V
 wl:W.length=f.q
 vl:V.length=f.q
 wk:Wk W
 vk:Wk V
 ow:otR W=V
 ew:evD W=dueQ f.q
 evv:evD V=dueQ f.q
theorem pairs_of {m:Nat} {ps:List (Nat×Nat)} (h:pairsB m ps=true):PsOk m ps∧ps.length < 2000:=by
 unfold pairsB at h
 rw [Bool.and_eq_true,List.all_eq_true] at h
 refine ⟨fun p hp=>?_,Nat.blt_eq.mp h.2⟩
 have:=h.1 p hp
 simp only [Bool.and_eq_true,Bool.not_eq_true'] at this
 refine ⟨fun e=>?_,Nat.blt_eq.mp this.1.2,Nat.blt_eq.mp this.2⟩
 have h1:=this.1.1
 rw [e] at h1
 rw [Nat.beq_refl] at h1
 cases h1
theorem wk_of {q:Nat} {W:List (List Nat)} (h:webB q W=true) (hq:q < 64):W.length=q∧Wk W:=by
 unfold webB at h
 rw [Bool.and_eq_true,List.all_eq_true] at h
 have hl:W.length=q:=Nat.eq_of_beq_eq_true h.1
 refine ⟨hl,by omega,fun r hr=>?_⟩
 have:=h.2 r hr
 rw [Bool.and_eq_true,List.all_eq_true,decide_eq_true_eq] at this
 refine ⟨?_,fun x hx=>by rw [hl]; exact Nat.blt_eq.mp (this.1 x hx)⟩
 rw [← this.2]
 exact qdp r
theorem ev_of {q:Nat} {W V:List (List Nat)} (hl:W.length=q) (h:okE q W V=true):otR W=V∧evD W=dueQ q:=by
 unfold okE at h
 rw [Bool.and_eq_true,decide_eq_true_eq,decide_eq_true_eq] at h
 obtain ⟨h0,h1,h2,h3,h4,h5,h6⟩:=h
 refine ⟨h0,?_⟩
 unfold evD
 rw [h0,h1]
 dsimp only
 rw [h2]
 dsimp only
 rw [h3]
 dsimp only
 rw [h5,h6,hl]
 have:(W.getD 0 []).length=(q - 1) / 2:=by omega
 rw [this]
 rfl
theorem good_of {t:Nat×List (List Nat)×List (List Nat)} (h:t∈wl):∃ f∈fds,f.q=t.1∧Good f t.2.1 t.2.2:=by
 have hk:=List.all_eq_true.mp all_q t h
 unfold okQ at hk
 split at hk
 ·rename_i f hf
  have hm:=List.mem_of_find?_eq_some hf
  have hq:f.q=t.1:=by
   have:=List.find?_some hf
   exact Nat.eq_of_beq_eq_true this
  have q50:=q500 hm
  simp only [Bool.and_eq_true] at hk
  obtain ⟨⟨⟨⟨⟨h1,h2⟩,h3⟩,h4⟩,h5⟩,h6⟩:=hk
  rw [← hq] at h1 h2 h5 h6
  obtain ⟨l1,k1⟩:=wk_of h1 (by omega)
  obtain ⟨l2,k2⟩:=wk_of h2 (by omega)
  obtain ⟨o1,e1⟩:=ev_of l1 h5
  obtain ⟨o2,e2⟩:=ev_of l2 h6
  unfold okA at h3
  unfold okB at h4
  simp only [Bool.and_eq_true,decide_eq_true_eq,List.all_eq_true] at h3 h4
  obtain ⟨p1,p2⟩:=pairs_of h4.1.1.1
  obtain ⟨r1,r2⟩:=pairs_of h4.1.2
  refine ⟨f,hm,hq,h3.1.1,h3.1.2,fun i j hi hj=>h3.2 i (List.mem_range.mpr hi) j (List.mem_range.mpr hj),p1,p2,h4.1.1.2,r1,r2,h4.2,l1,l2,k1,k2,o1,e1,e2⟩
 ·cases hk
theorem by_all:wl.all (fun t=>Nat.blt 0 (byN t.1 (t.2.1.getD 0 [])))=true:=by decide +kernel
theorem in_lD (l:List Nat) (k:Nat) (c:LC):inD (.int (k:Int)) (.lst (nD l)) c=.ok (.bl (decide (k∈l))) c:=by
 have h1:datC c (.int (k:Int))=some (.int (k:Int)):=rfl
 have h2:datC c (.lst (nD l))=some (.list (l.map fun n:Nat=>PyData.int (n:Int))):=by
  show (match qd3 (nD l) with | some r=>some (PyData.list r) | none=>none)=_
  rw [dat_nD]
 unfold inD
 rw [h1,h2]
 dsimp only
 rw [if_pos (by simp [PyData.depth]),any_eqv]
theorem notin_lD (l:List Nat) (k:Nat) (c:LC):qdv (.int (k:Int)) (.lst (nD l)) c=.ok (.bl (!decide (k∈l))) c:=by
 have h1:datC c (.int (k:Int))=some (.int (k:Int)):=rfl
 have h2:datC c (.lst (nD l))=some (.list (l.map fun n:Nat=>PyData.int (n:Int))):=by
  show (match qd3 (nD l) with | some r=>some (PyData.list r) | none=>none)=_
  rw [dat_nD]
 unfold qdv
 rw [h1,h2]
 dsimp only
 rw [if_pos (by simp [PyData.depth]),any_eqv]
theorem sub_cast {f:Fd} {W V:List (List Nat)} (G:Good f W V) {i j:Nat} (hi:i < f.q) (hj:j < f.q):subF f.p f.n i j=((subN f i j:Nat):Int):=by
 have:=G.sub i j hi hj
 unfold subN
 omega
theorem fweb_call {m' X v Y:D} {c:LC} (hw:qaK [m',.lam 1 qfa ["squares","q"] [X,m']] c=.ok v c) (hv:qaS v=true):qdr 1 qaK (dVar 0) qfa ["squares","q"] [1,0] [some m',some X] c=.ok v c :=
 callLam (kk:=1) (m:=qaK) (d1:=dVar 0) (E:=qfa) (ns:=["squares","q"]) (js:=[1,0]) (l:=[X,m']) (x:=m') rfl rfl hw hv
theorem field_web_ok {f:Fd} {W V:List (List Nat)} (h:f∈fds) (G:Good f W V) (h4:f.q % 4=1) (c:LC):qd0 [.int (f.q:Int)] c=.ok (webD W) c:=by
 have hq:=q500 h
 have hsq:=squares_ok h c
 rw [G.sq] at hsq
 have hnl:qbt [D.lst (nD (W.getD 0 [])),.int (f.q:Int)]=true:=by
  show (qcG (D.lst (nD (W.getD 0 []))) && (qcG (D.int (f.q:Int)) && true))=true
  rw [qfo (D.lst (nD (W.getD 0 []))) (by unfold qaS; exact qeu _),qfo (D.int (f.q:Int)) rfl]
  rfl
 have hw:=web_ok (k:=1) (n:=f.q) (E:=qfa) (ns:=["squares","q"]) (l:=[.lst (nD (W.getD 0 [])),.int (f.q:Int)]) (m:=lamD qf5) (c:=c) (f:=webS (W.getD 0 []) f) rfl hnl (by omega) fun i j hi hj hne=>by
  show qf5 [some (.int i),some (.int j),some (.lst (nD (W.getD 0 []))),some (.int (f.q:Int))] c=_
  unfold qf5
  have ht:=taken_ok h (x:=(i:Int)) (y:=(j:Int)) (by omega) (by omega) (by omega) (by omega) c
  rw [sub_cast G hi hj] at ht
  exact qcd (f:=inD) (qfQ (m:=qfI) (d1:=dVar 3) (d2:=dVar 0) (d3:=dVar 1) rfl rfl rfl ht) (d2:=dVar 2) rfl (in_lD _ _ c)
 rw [G.web] at hw
 have e0:qbJ (qa7 1 qar (qa0 (dVar 0) dNil)) [some (.int (f.q:Int)),none] c=.ok (.nx [some (.int (f.q:Int)),none]) c:=qgU (qbl (m:=qar) (d1:=dVar 0) rfl (qcz h c))
 have e1:sIf (dBl (dBin neD (dBin modD (dVar 0) (dC (.int 4))) (dC (.int 1)))) sBad qbI [some (.int (f.q:Int)),none] c=.ok (.nx [some (.int (f.q:Int)),none]) c:=by
  refine qfp (bl_s (qcd (f:=neD) (x:=.int 1) (y:=.int 1) (qcd (f:=modD) (x:=.int (f.q:Int)) (y:=.int 4) rfl rfl ?_) rfl rfl))
  rw [qfV c (by decide)]
  exact congrArg (fun z=>R.ok (D.int z) c) (by omega)
 have e2:sSet 1 (qa7 1 qbX (qa0 (dVar 0) dNil)) [some (.int (f.q:Int)),none] c=.ok (.nx [some (.int (f.q:Int)),some (.lst (nD (W.getD 0 [])))]) c:=qda (i:=1) (qbl (m:=qbX) (d1:=dVar 0) rfl hsq)
 have hb:qbR=sSeq (qbJ (qa7 1 qar (qa0 (dVar 0) dNil))) (sSeq (sIf (dBl (dBin neD (dBin modD (dVar 0) (dC (.int 4))) (dC (.int 1)))) sBad qbI) (sSeq (sSet 1 (qa7 1 qbX (qa0 (dVar 0) dNil))) (sRet (qdr 1 qaK (dVar 0) qfa ["squares","q"] [1,0])))):=rfl
 have es:qbs 2 [.int (f.q:Int)]=[some (.int (f.q:Int)),none]:=rfl
 refine ret_fn (n:=2) (b:=qbR) ?_ (qdd _) (fun k h=>by cases h)
 rw [es,hb,qb3 e0,qb3 e1,qb3 e2]
 exact ret_gen (fweb_call (Y:=.non) hw (qdd _))
theorem lsub_ok {f:Fd} {W V:List (List Nat)} (h:f∈fds) (G:Good f W V) {i j:Nat} (hi:i < f.q) (hj:j < f.q) (c:LC):qcY [.int (f.q:Int),.int (i:Int),.int (j:Int),.int (-1)] c=.ok (.int ((subN f i j:Nat):Int)) c:=by
 have hs:=sum_ok h (i:Int) (j:Int) (-1) (by decide) c
 have e:(fun a b:Int=>a + -1 * b)=fun a b=>a - b:=by funext a b; omega
 rw [e] at hs
 rw [← sub_cast G hi hj]
 exact hs
theorem sizeG:1000000 < sizeLine:=by decide
theorem rngq (q:Nat):rngD 1 (q:Int)=nD (List.range' 1 (q - 1)):=by
 have:=rng_nD2 0 q
 simpa using this
theorem some_ok {f:Fd} (h:f∈fds) {c:LC} (a0 a1 a2 a5 a6 a7 a8 a9 a10 a11 a12:Option D):qbM (qa0 (qaN (qfg (qa0 (dC (.int 1)) (qa0 (dVar 3) dNil))) [none,some 3,some 4] (qa3 0) dYes (qa7 4 qao (qa0 (dVar 1) (qa0 (dVar 2) (qa0 (dVar 0) (qa0 (dVar 0) dNil)))))) dNil) [a0,a1,a2,some (.int (f.q:Int)),some (.lst ((qcH f).map D.int)),a5,a6,a7,a8,a9,a10,a11,a12] c=.ok (.lst (nD (qb4 (sqL f)))) c:=by
 have hq:=q500 h
 have sz:=sizeG
 have hcm:=qft (c:=c) (st:=fun _=>True) (E:=[some (.int (f.q:Int)),some (.lst ((qcH f).map D.int))]) (t:=dYes) (a:=qa7 4 qao (qa0 (dVar 1) (qa0 (dVar 2) (qa0 (dVar 0) (qa0 (dVar 0) dNil))))) trivial (fun t:Nat=>D.int (t:Int)) (fun t:Nat=>D.int ((M f t t:Nat):Int)) (List.range' 1 (f.q - 1)) none [] (fun _ _=>rfl) (fun t ht=>by
  rw [List.mem_range'_1] at ht
  have hp:=prod_M h (x:=t) (y:=t) (by omega) (by omega) c
  simp only [qdt,qav,qaU,qb0,R.bind_ok,gz,gs]
  exact hp)
 rw [List.nil_append] at hcm
 have hcm2:qaI (fun _=>True) (qa3 0) dYes (qa7 4 qao (qa0 (dVar 1) (qa0 (dVar 2) (qa0 (dVar 0) (qa0 (dVar 0) dNil))))) (rngD 1 (f.q:Int)) [none,some (.int (f.q:Int)),some (.lst ((qcH f).map D.int))] [] c=.ok (nD (sqL f)) c:=by
  rw [rngq]
  refine hcm.trans ?_
  congr 1
  unfold sqL nD
  rw [List.range'_eq_map_range,List.map_map,List.map_map]
  refine List.map_congr_left fun t _=>?_
  show D.int ((M f (1 + t) (1 + t):Nat):Int)=D.int ((M f (t + 1) (t + 1):Nat):Int)
  rw [Nat.add_comm 1 t]
 have hcc:=qeC (pick:=[none,some 3,some 4]) (e:=[a0,a1,a2,some (.int (f.q:Int)),some (.lst ((qcH f).map D.int)),a5,a6,a7,a8,a9,a10,a11,a12]) (rng2_gen (d1:=dC (.int 1)) (d2:=dVar 3) (p:=1) (q:=(f.q:Int)) rfl rfl (by omega) (by omega)) (by rw [rngq]; simp [nD]; omega) hcm2
 refine sort_nD ?_ (qfi h).1 (qfi h).2
 simp only [qav,hcc,qb0,R.bind_ok]
end Ev
namespace Ev
open PySem L2 Fq
theorem call_gen4 {m:List D→LC→R D} {d1 d2 d3 d4:yD} {e:Ev} {c:LC} {x y z w v:D} (h1:d1 e c=.ok x c) (h2:d2 e c=.ok y c) (h3:d3 e c=.ok z c) (h4:d4 e c=.ok w c) (h:m [x,y,z,w] c=.ok v c):qa7 4 m (qa0 d1 (qa0 d2 (qa0 d3 (qa0 d4 dNil)))) e c=.ok v c:=by
 simp only [qdt,qav,h1,h2,h3,h4,qb0,R.bind_ok]
 rw [if_pos (by rfl)]
 exact h
theorem bin_sx {f:D→D→LC→R D} {d1 d2:yD} {e:Ev} {c c1 c2:LC} {x y:D} {r:R D} (h1:d1 e c=.ok x c1) (h2:d2 e c1=.ok y c2) (h:f x y c2=r):dBin f d1 d2 e c=r:=by
 rw [qdc,h1,R.bind_ok,h2,R.bind_ok,h]
theorem flat_le {β:Type} (g:Nat→List β) {k q:Nat} (h:k≤q):((List.range k).flatMap g).length≤((List.range q).flatMap g).length:=by
 induction q with
 | zero =>
  have:k=0:=by omega
  subst this; exact Nat.le_refl _
 | succ q ih =>
  by_cases e:k=q + 1
  ·subst e; exact Nat.le_refl _
  ·have:=ih (by omega)
   rw [List.range_succ,List.flatMap_append,List.length_append]
   omega
theorem set_hereQ (c:LC) (x y:Cell):(c ++ [x]).set c.length y=c ++ [y]:=by
 rw [List.set_append_right _ _ (Nat.le_refl _)]
 simp
def prT:dB:=(dBl (dBin inD (qa7 4 qcY (qa0 (dVar 3) (qa0 (dVar 1) (qa0 (dVar 0) (qa0 (dBin subD (dC (.int 0)) (dC (.int 1))) dNil))))) (dVar 2)))
def prB:dF:=(qbJ (qbi (dVar 6) (qaN (qbe (qa0 (dVar 7) dNil)) [none,some 7,some 5,some 3] (qa3 0) prT (dTup (qa0 (dVar 1) (qa0 (dVar 0) dNil))))))
theorem prR_len (f:Fd) (S:List Nat) (i:Nat):(prR f S i).length≤i:=by
 unfold prR
 rw [List.length_map]
 exact Nat.le_trans (List.length_filter_le _ _) (by simp)
abbrev qI (f:Fd):D:=.int (f.q:Int)
abbrev sW (W:List (List Nat)):D:=.lst (nD (W.getD 0 []))
abbrev fL (f:Fd):D:=.lst ((qcH f).map D.int)
abbrev bI (f:Fd) (W:List (List Nat)):D:=.int ((byN f.q (W.getD 0 []):Nat):Int)
abbrev lL (f:Fd) (W:List (List Nat)):D:=.lst (nD ((List.range f.q).map (M f (byN f.q (W.getD 0 [])))))
theorem pr_step {f:Fd} {W V:List (List Nat)} (h:f∈fds) (G:Good f W V) {i:Nat} (hi:i < f.q) {qs:List (Nat×Nat)} {C:LC} (hl:qs.length < 2000) (a0 a1 a2 a4 a8 a9 a10 a11 a12:Option D) :
  prB [a0,a1,a2,some (qI f),a4,some (sW W),some (.ref C.length),some (.int (i:Int)),a8,a9,a10,a11,a12] (C ++ [.lst (qs.map prD)])=.ok (.nx [a0,a1,a2,some (qI f),a4,some (sW W),some (.ref C.length),some (.int (i:Int)),a8,a9,a10,a11,a12]) (C ++ [.lst ((qs ++ prR f (W.getD 0 []) i).map prD)]):=by
 have sz:=sizeG
 have hq:=q500 h
 generalize hC:C ++ [Cell.lst (qs.map prD)]=C1
 have hcm:=qd2 (E:=[some (.int (i:Int)),some (sW W),some (qI f)]) (t:=prT) (a:=dTup (qa0 (dVar 1) (qa0 (dVar 0) dNil))) (c:=C1) (fun o:Nat=>D.int (o:Int)) (fun o=>prD (i,o)) (webS (W.getD 0 []) f i) (List.range i) none [] (fun o ho=>by
  rw [List.mem_range] at ho
  exact bl_s (qcd (f:=inD) (call_gen4 (m:=qcY) (d1:=dVar 3) (d2:=dVar 1) (d3:=dVar 0) (w:=.int (-1)) rfl rfl rfl rfl (lsub_ok h G hi (by omega) C1)) (d2:=dVar 2) rfl (in_lD _ _ C1))) (fun o _ _=>tup2 rfl rfl)
 rw [List.nil_append] at hcm
 have hcm2:qaI (fun _=>True) (qa3 0) prT (dTup (qa0 (dVar 1) (qa0 (dVar 0) dNil))) (rngD 0 (i:Int)) [none,some (.int (i:Int)),some (sW W),some (qI f)] [] C1=.ok ((prR f (W.getD 0 []) i).map prD) C1:=by
  rw [qe2]
  refine Eq.trans hcm ?_
  unfold prR
  rw [List.map_map]
  rfl
 have hcc:=qeC (pick:=[none,some 7,some 5,some 3]) (e:=[a0,a1,a2,some (qI f),a4,some (sW W),some (.ref C.length),some (.int (i:Int)),a8,a9,a10,a11,a12]) (qek (d:=dVar 7) (q:=(i:Int)) rfl (by omega)) (by rw [qe2]; simp [nD]; omega) hcm2
 have hpl:=prR_len f (W.getD 0 []) i
 have k:=qgU (qgh (dO:=dVar 6) (k:=C.length) (acc:=qs.map prD) rfl hcc (by rw [← hC]; simp) (by rw [List.length_map,List.length_map]; omega) (qfG _))
 rw [← hC,set_hereQ] at k
 rw [List.map_append,← hC]
 exact k
theorem pr_loop {f:Fd} {W V:List (List Nat)} (h:f∈fds) (G:Good f W V) {C:LC} (a0 a1 a2 a4 v7 a8 a9 a10 a11 a12:Option D):∃ w7,
  forD (fun _=>True) (qa3 7) prB (rngD 0 (f.q:Int)) [a0,a1,a2,some (qI f),a4,some (sW W),some (.ref C.length),v7,a8,a9,a10,a11,a12] (C ++ [.lst []])=.ok (.nx [a0,a1,a2,some (qI f),a4,some (sW W),some (.ref C.length),w7,a8,a9,a10,a11,a12]) (C ++ [.lst ((PR f (W.getD 0 [])).map prD)]):=by
 have hrl:(rngD 0 (f.q:Int)).length=f.q:=by rw [qe2]; simp [nD]
 obtain ⟨e',c',⟨w7,rfl,rfl⟩,hf⟩:=qgR (g:=qa3 7) (s:=prB) (fun k e c'=>∃ w7,e=[a0,a1,a2,some (qI f),a4,some (sW W),some (.ref C.length),w7,a8,a9,a10,a11,a12]∧c'=C ++ [.lst (((List.range k).flatMap (prR f (W.getD 0 []))).map prD)])
  (rngD 0 (f.q:Int)) 0 [a0,a1,a2,some (qI f),a4,some (sW W),some (.ref C.length),v7,a8,a9,a10,a11,a12] (C ++ [.lst []]) ⟨_,rfl,rfl⟩ (fun i x hx e c' ⟨w7,he,hc⟩=>by
   subst he; subst hc
   have hi:i < f.q:=by have:=(List.getElem?_eq_some_iff.mp hx).1; omega
   have ex:x=.int (i:Int):=by
    rw [qe2] at hx
    unfold nD at hx
    rw [List.getElem?_map,List.getElem?_range hi] at hx
    cases hx; rfl
   subst ex
   rw [Nat.zero_add]
   have hfl:=flat_le (prR f (W.getD 0 [])) (Nat.le_of_lt hi)
   have hpl:=G.prl
   unfold PR at hpl
   refine ⟨_,_,_,_,rfl,pr_step h G hi (by omega) a0 a1 a2 a4 a8 a9 a10 a11 a12,_,rfl,?_⟩
   rw [List.range_succ,List.flatMap_append]
   simp)
 rw [hrl,Nat.zero_add] at hf
 exact ⟨w7,hf⟩
def trE:yD:=(dTup (qa0 (dBin ixD (dVar 1) (dVar 2)) (qa0 (dBin ixD (dVar 1) (dVar 0)) dNil)))
def trB:dF:=(qbJ (qbi (dVar 12) (qaN (qeB (dBin ixD (dVar 8) (dVar 7))) [none,some 11,some 7] (qa3 0) dYes trE)))
theorem led_ix {q k:Nat} (g:Nat→Nat) (hk:k < q) (c:LC):ixD (.lst (nD ((List.range q).map g))) (.int (k:Int)) c=.ok (.int ((g k:Nat):Int)) c:=by
 rw [qgo,qcu (v:=D.int ((g k:Nat):Int)) (by unfold nD; rw [List.getElem?_map,List.getElem?_map,List.getElem?_range hk]; rfl)]
theorem tr_step {f:Fd} {W V:List (List Nat)} (h:f∈fds) (G:Good f W V) {b i:Nat} (hi:i < f.q) {qs:List (Nat×Nat)} {C:LC} (hl:qs.length < 2000) (a0 a1 a2 a3 a4 a5 a6 a9 a10:Option D) :
  trB [a0,a1,a2,a3,a4,a5,a6,some (.int (i:Int)),some (webD W),a9,a10,some (.lst (nD ((List.range f.q).map (M f b)))),some (.ref C.length)] (C ++ [.lst (qs.map prD)])=.ok (.nx [a0,a1,a2,a3,a4,a5,a6,some (.int (i:Int)),some (webD W),a9,a10,some (.lst (nD ((List.range f.q).map (M f b)))),some (.ref C.length)]) (C ++ [.lst ((qs ++ trR f b W i).map prD)]):=by
 have sz:=sizeG
 have hq:=q500 h
 have hiW:i < W.length:=by rw [G.wl]; exact hi
 have hr:W[i]? = some (W.getD i []):=by rw [List.getD_eq_getElem?_getD,List.getElem?_eq_getElem hiW]; rfl
 have hrm:W.getD i []∈W:=List.mem_of_getElem? hr
 have hrl:∀ x∈W.getD i [],x < f.q:=fun x hx=>by rw [← G.wl]; exact (G.wk.row _ hrm).2 x hx
 have hrn:=G.wk.short hrm
 rw [G.wl] at hrn
 generalize hC:C ++ [Cell.lst (qs.map prD)]=C1
 have hcm:=qft (c:=C1) (st:=fun _=>True) (E:=[some (.lst (nD ((List.range f.q).map (M f b)))),some (.int (i:Int))]) (t:=dYes) (a:=trE) trivial (fun o:Nat=>D.int (o:Int)) (fun o=>prD (M f b i,M f b o)) (W.getD i []) none [] (fun _ _=>rfl) (fun o ho=>tup2 (qcd (x:=.lst (nD ((List.range f.q).map (M f b)))) (y:=.int (i:Int)) rfl rfl (led_ix _ hi C1)) (qcd (x:=.lst (nD ((List.range f.q).map (M f b)))) (y:=.int (o:Int)) rfl rfl (led_ix _ (hrl o ho) C1)))
 rw [List.nil_append] at hcm
 have hsq:qeB (dBin ixD (dVar 8) (dVar 7)) [a0,a1,a2,a3,a4,a5,a6,some (.int (i:Int)),some (webD W),a9,a10,some (.lst (nD ((List.range f.q).map (M f b)))),some (.ref C.length)] C1=.ok ⟨nD (W.getD i []),fun _=>True⟩ C1:=by
  have hx:=qcd (f:=ixD) (d1:=dVar 8) (d2:=dVar 7) (e:=[a0,a1,a2,a3,a4,a5,a6,some (.int (i:Int)),some (webD W),a9,a10,some (.lst (nD ((List.range f.q).map (M f b)))),some (.ref C.length)]) (c:=C1) (x:=webD W) (y:=.int (i:Int)) rfl rfl (qgb hr C1)
  unfold qeB
  rw [hx]
  rfl
 have hcc:=qeC (pick:=[none,some 11,some 7]) (e:=[a0,a1,a2,a3,a4,a5,a6,some (.int (i:Int)),some (webD W),a9,a10,some (.lst (nD ((List.range f.q).map (M f b)))),some (.ref C.length)]) hsq (by unfold nD; rw [List.length_map]; omega) hcm
 have et:((W.getD i []).map fun o=>prD (M f b i,M f b o))=(trR f b W i).map prD:=by unfold trR; rw [List.map_map]; rfl
 rw [et] at hcc
 have htl:(trR f b W i).length≤f.q:=by unfold trR; rw [List.length_map]; exact hrn
 have k:=qgU (qgh (dO:=dVar 12) (k:=C.length) (acc:=qs.map prD) rfl hcc (by rw [← hC]; simp) (by rw [List.length_map,List.length_map]; omega) (qfG _))
 rw [← hC,set_hereQ] at k
 rw [List.map_append,← hC]
 exact k
theorem tr_loop {f:Fd} {W V:List (List Nat)} (h:f∈fds) (G:Good f W V) {C:LC} (a0 a1 a2 a4 a5 a6 v7 a9 a10:Option D):∃ w7,
  forD (fun _=>True) (qa3 7) trB (rngD 0 (f.q:Int)) [a0,a1,a2,some (.int (f.q:Int)),a4,a5,a6,v7,some (webD W),a9,a10,some (.lst (nD ((List.range f.q).map (M f (byN f.q (W.getD 0 [])))))),some (.ref C.length)] (C ++ [.lst []])=.ok (.nx [a0,a1,a2,some (.int (f.q:Int)),a4,a5,a6,w7,some (webD W),a9,a10,some (.lst (nD ((List.range f.q).map (M f (byN f.q (W.getD 0 [])))))),some (.ref C.length)]) (C ++ [.lst ((TR f (byN f.q (W.getD 0 [])) W).map prD)]):=by
 have hrl:(rngD 0 (f.q:Int)).length=f.q:=by rw [qe2]; simp [nD]
 have hpl:=G.trl
 unfold TR at hpl ⊢
 generalize byN f.q (W.getD 0 [])=b at hpl ⊢
 obtain ⟨e',c',⟨w7,rfl,rfl⟩,hf⟩:=qgR (g:=qa3 7) (s:=trB) (fun k e c'=>∃ w7,e=[a0,a1,a2,some (.int (f.q:Int)),a4,a5,a6,w7,some (webD W),a9,a10,some (.lst (nD ((List.range f.q).map (M f b)))),some (.ref C.length)]∧c'=C ++ [.lst (((List.range k).flatMap (trR f b W)).map prD)])
  (rngD 0 (f.q:Int)) 0 [a0,a1,a2,some (.int (f.q:Int)),a4,a5,a6,v7,some (webD W),a9,a10,some (.lst (nD ((List.range f.q).map (M f b)))),some (.ref C.length)] (C ++ [.lst []]) ⟨_,rfl,rfl⟩ (fun i x hx e c' ⟨w7,he,hc⟩=>by
   subst he; subst hc
   have hi:i < f.q:=by have:=(List.getElem?_eq_some_iff.mp hx).1; omega
   have ex:x=.int (i:Int):=by
    rw [qe2] at hx
    unfold nD at hx
    rw [List.getElem?_map,List.getElem?_range hi] at hx
    cases hx; rfl
   subst ex
   rw [Nat.zero_add]
   have hfl:=flat_le (trR f b W) (Nat.le_of_lt hi)
   refine ⟨_,_,_,_,rfl,tr_step h G hi (by omega) a0 a1 a2 (some (.int (f.q:Int))) a4 a5 a6 a9 a10,_,rfl,?_⟩
   rw [List.range_succ,List.flatMap_append]
   simp)
 rw [hrl,Nat.zero_add] at hf
 exact ⟨w7,hf⟩
theorem web_nevQ (w:List (List Nat)) (c:LC):nevD (webD w) (webD w) c=.ok (.bl false) c:=by
 have h:=web_eqv w w c
 unfold eqvD at h
 unfold nevD
 cases h1:datC c (webD w) with
 | none=>rw [h1] at h; cases h
 | some p =>
  rw [h1] at h
  dsimp only at h ⊢
  by_cases hd:p.depth≤64∧p.depth≤64
  ·rw [if_pos hd] at h ⊢
   rw [decide_eq_true rfl] at h
   injection h with h2 h3
   injection h2 with h4
   rw [h4]
   rfl
  ·rw [if_neg hd] at h; cases h
theorem nev_due (q:Nat) (c:LC):nevD (dueQ q) (dueQ q) c=.ok (.bl false) c:=by
 have hs:PyData.strOk "even"=true:=by decide +kernel
 simp [dueQ,nevD,datC,datD,qd3,PyData.depth,PyData.depthAll,PyData.eqv,PyData.eqvAll,hs]
def farE:yD:=(dBin ixD (dLst (qa0 (dC (.int 6)) (qa0 (dC (.int 6)) (qa0 (dC (.int 6)) (qa0 (dC (.int 6)) (qa0 (dC (.int 6)) (qa0 (dC (.int 6)) (qa0 (dC (.int 6)) (qa0 (dC (.int 9)) dNil))))))))) (qa7 2 qbC (qa0 (dVar 2) (qa0 (dC (.int 8)) dNil))))
def qE:yD:=(dBin ixD (dLst (dInts [5,9,13,17,25,29,37,41,49])) (qa7 2 qbC (qa0 (dVar 2) (qa0 farE dNil))))
theorem q_ok {j n:Nat} {c:LC} (P:Pot j n c) {e:Ev} (h2:∀ c,dVar 2 e c=.ok (.ref j) c):∃ t∈wl,∃ c',Pot j n c'∧qE e c=.ok (.int ((t.1:Nat):Int)) c':=by
 have sz:=sizeG
 have k8:(8:Nat)≤sizeLine:=by omega
 have k9:(9:Nat)≤sizeLine:=by omega
 obtain ⟨x,c1,x0,x1,P1,t1⟩:=take_ok (far:=8) P (by decide) (by decide)
 have hl1:dLst (qa0 (dC (.int 6)) (qa0 (dC (.int 6)) (qa0 (dC (.int 6)) (qa0 (dC (.int 6)) (qa0 (dC (.int 6)) (qa0 (dC (.int 6)) (qa0 (dC (.int 6)) (qa0 (dC (.int 9)) dNil)))))))) e c=.ok (.lst [.int 6,.int 6,.int 6,.int 6,.int 6,.int 6,.int 6,.int 9]) c:=by simp [k8]
 have hfar:∃ far:Int,(far=6∨far=9)∧farE e c=.ok (.int far) c1:=by
  have hx:x=0∨x=1∨x=2∨x=3∨x=4∨x=5∨x=6∨x=7:=by omega
  have hgo:∀ far:Int,atI [D.int 6,.int 6,.int 6,.int 6,.int 6,.int 6,.int 6,.int 9] x=some (.int far)→farE e c=.ok (.int far) c1:=fun far ha=>by
   refine bin_sx hl1 (call2_s (m:=qbC) (h2 c) rfl t1) ?_
   rw [qgo,ha]
  rcases hx with rfl | rfl | rfl | rfl | rfl | rfl | rfl | rfl
  all_goals first
   | exact ⟨6,.inl rfl,hgo 6 rfl⟩
   | exact ⟨9,.inr rfl,hgo 9 rfl⟩
 obtain ⟨far,hfr,hfe⟩:=hfar
 obtain ⟨y,c2,y0,y1,P2,t2⟩:=take_ok (far:=far) P1 (by omega) (by omega)
 have hl2:dLst (dInts [5,9,13,17,25,29,37,41,49]) e c=.ok (.lst ([5,9,13,17,25,29,37,41,49].map D.int)) c:=by
  show (if ([5,9,13,17,25,29,37,41,49].map D.int).length≤sizeLine then R.ok (D.lst ([5,9,13,17,25,29,37,41,49].map D.int)) c else .bad)=_
  rw [if_pos (by show 9≤sizeLine; exact k9)]
 have hy:y=0∨y=1∨y=2∨y=3∨y=4∨y=5∨y=6∨y=7∨y=8:=by omega
 have hgo:∀ q:Int,atI ([5,9,13,17,25,29,37,41,49].map D.int) y=some (.int q)→qE e c=.ok (.int q) c2:=fun q ha=>by
  refine bin_sx hl2 (call2_s (m:=qbC) (h2 c) hfe t2) ?_
  rw [qgo,ha]
 have hw:∀ k,k < 9→∃ t,wl[k]? = some t∧t.1=[5,9,13,17,25,29,37,41,49].getD k 0:=by
  intro k hk
  match k,hk with
  | 0,_=>exact ⟨_,rfl,rfl⟩
  | 1,_=>exact ⟨_,rfl,rfl⟩
  | 2,_=>exact ⟨_,rfl,rfl⟩
  | 3,_=>exact ⟨_,rfl,rfl⟩
  | 4,_=>exact ⟨_,rfl,rfl⟩
  | 5,_=>exact ⟨_,rfl,rfl⟩
  | 6,_=>exact ⟨_,rfl,rfl⟩
  | 7,_=>exact ⟨_,rfl,rfl⟩
  | 8,_=>exact ⟨_,rfl,rfl⟩
 have fin:∀ (k:Nat),k < 9→(∀ q:Nat,q=[5,9,13,17,25,29,37,41,49].getD k 0→qE e c=.ok (.int (q:Int)) c2)→∃ t∈wl,∃ c',Pot j n c'∧qE e c=.ok (.int ((t.1:Nat):Int)) c':=fun k hk hq=>by
  obtain ⟨t,h1,h2⟩:=hw k hk
  exact ⟨t,List.mem_of_getElem? h1,c2,P2,hq t.1 h2⟩
 rcases hy with rfl | rfl | rfl | rfl | rfl | rfl | rfl | rfl | rfl
 ·exact fin 0 (by decide) (fun q hq=>by subst hq; exact hgo 5 rfl)
 ·exact fin 1 (by decide) (fun q hq=>by subst hq; exact hgo 9 rfl)
 ·exact fin 2 (by decide) (fun q hq=>by subst hq; exact hgo 13 rfl)
 ·exact fin 3 (by decide) (fun q hq=>by subst hq; exact hgo 17 rfl)
 ·exact fin 4 (by decide) (fun q hq=>by subst hq; exact hgo 25 rfl)
 ·exact fin 5 (by decide) (fun q hq=>by subst hq; exact hgo 29 rfl)
 ·exact fin 6 (by decide) (fun q hq=>by subst hq; exact hgo 37 rfl)
 ·exact fin 7 (by decide) (fun q hq=>by subst hq; exact hgo 41 rfl)
 ·exact fin 8 (by decide) (fun q hq=>by subst hq; exact hgo 49 rfl)
theorem mod4_all:wl.all (fun t=>Nat.beq (t.1 % 4) 1 && Nat.blt 4 t.1)=true:=by decide +kernel
theorem tup4q {d1 d2 d3 d4:yD} {e:Ev} {c:LC} {x y z w:D} (h1:d1 e c=.ok x c) (h2:d2 e c=.ok y c) (h3:d3 e c=.ok z c) (h4:d4 e c=.ok w c):dTup (qa0 d1 (qa0 d2 (qa0 d3 (qa0 d4 dNil)))) e c=.ok (.tup [x,y,z,w]) c:=by
 have k4:(4:Nat)≤sizeLine:=by decide
 simp only [x_tup,qav,h1,h2,h3,h4,qb0,R.bind_ok]
 rw [if_pos (by exact k4)]
def dueE:yD:=(dTup (qa0 (dC (.str "even")) (qa0 (dTup (qa0 (dVar 3) (qa0 (dBin divD (dBin subD (dVar 3) (dC (.int 1))) (dC (.int 2))) (qa0 (dBin divD (dBin subD (dVar 3) (dC (.int 5))) (dC (.int 4))) (qa0 (dBin divD (dBin subD (dVar 3) (dC (.int 1))) (dC (.int 4))) dNil))))) dNil)))
theorem due_ok {q:Nat} (h5:4 < q) {e:Ev} {c:LC} (h3:dVar 3 e c=.ok (.int (q:Int)) c):dueE e c=.ok (dueQ q) c:=by
 have sz:=sizeG
 have k2:(2:Nat)≤sizeLine:=by omega
 have k4:(4:Nat)≤sizeLine:=by omega
 have dv:∀ a b:Nat,a≤q→0 < b→b < 1000→dBin divD (dBin subD (dVar 3) (dC (.int (a:Int)))) (dC (.int (b:Int))) e c=.ok (.int (((q - a) / b:Nat):Int)) c:=fun a b ha hb hb'=>by
  refine qcd (f:=divD) (x:=.int ((q:Int) - (a:Int))) (y:=.int (b:Int)) (qcd (f:=subD) (x:=.int (q:Int)) (y:=.int (a:Int)) h3 rfl rfl) rfl ?_
  rw [div_c c (by omega) (by omega)]
  refine congrArg (fun z=>R.ok (D.int z) c) ?_
  rw [Int.natCast_ediv,Int.natCast_sub ha]
 have d1:=dv 1 2 (by omega) (by decide) (by decide)
 have d2:=dv 5 4 (by omega) (by decide) (by decide)
 have d3:=dv 1 4 (by omega) (by decide) (by decide)
 have ht:dTup (qa0 (dVar 3) (qa0 (dBin divD (dBin subD (dVar 3) (dC (.int 1))) (dC (.int 2))) (qa0 (dBin divD (dBin subD (dVar 3) (dC (.int 5))) (dC (.int 4))) (qa0 (dBin divD (dBin subD (dVar 3) (dC (.int 1))) (dC (.int 4))) dNil)))) e c=.ok (.tup [.int (q:Int),.int (((q - 1) / 2:Nat):Int),.int (((q - 5) / 4:Nat):Int),.int (((q - 1) / 4:Nat):Int)]) c:=by
  exact tup4q h3 d1 d2 d3
 exact tup2 rfl ht
def oq0:dF:=(sSet 2 (qa7 1 qcZ (qa0 (qa7 2 qbg (qa0 (dVar 0) (qa0 (dVar 1) dNil))) dNil)))
def oq1:dF:=sSet 3 qE
def oq2:dF:=(sSet 4 (qa7 1 qcP (qa0 (dVar 3) dNil)))
def oq3:dF:=(sSet 5 (qbM (qa0 (qaN (qfg (qa0 (dC (.int 1)) (qa0 (dVar 3) dNil))) [none,some 3,some 4] (qa3 0) dYes (qa7 4 qao (qa0 (dVar 1) (qa0 (dVar 2) (qa0 (dVar 0) (qa0 (dVar 0) dNil)))))) dNil)))
def oq4:dF:=(sSet 6 (qcC dNil))
def oq5:dF:=sFor (qbe (qa0 (dVar 3) dNil)) (qa3 7) prB
def oq6:dF:=(sSet 8 (qa7 1 qd0 (qa0 (dVar 3) dNil)))
def oq7:dF:=(sIf (dNotT (dBl (qa7 2 (qaB 3) (qa0 (dVar 8) (qa0 (qa7 2 qaY (qa0 (dVar 3) (qa0 (dVar 6) dNil))) dNil))))) (sRet (dC (.bl false))) qbI)
def oq8:dF:=sSet 9 dueE
def oq9:dF:=(sIf (dOrT (dBl (dBin nevD (qa7 1 qb8 (qa0 (dVar 8) dNil)) (dVar 9))) (dBl (dBin nevD (qa7 1 qb8 (qa0 (qa7 1 qaz (qa0 (dVar 8) dNil)) dNil)) (dVar 9)))) (sRet (dC (.bl false))) qbI)
def oq10:dF:=(sSet 10 (dBin ixD (qaN (qfg (qa0 (dC (.int 1)) (qa0 (dVar 3) dNil))) [none,some 5] (qa3 0) (dBl (dBin qdv (dVar 0) (dVar 1))) (dVar 0)) (dC (.int 0))))
def oq11:dF:=(sSet 11 (qaN (qbe (qa0 (dVar 3) dNil)) [none,some 3,some 4,some 10] (qa3 0) dYes (qa7 4 qao (qa0 (dVar 1) (qa0 (dVar 2) (qa0 (dVar 3) (qa0 (dVar 0) dNil)))))))
def oq12:dF:=(sSet 12 (qcC dNil))
def oq13:dF:=sFor (qbe (qa0 (dVar 3) dNil)) (qa3 7) trB
def oq14:dF:=(sIf (dBl (dBin nevD (qa7 2 qaY (qa0 (dVar 3) (qa0 (dVar 12) dNil))) (qa7 1 qaz (qa0 (dVar 8) dNil)))) (sRet (dC (.bl false))) qbI)
def outerB:dF:=sSeq oq0 ( sSeq oq1 ( sSeq oq2 ( sSeq oq3 ( sSeq oq4 ( sSeq oq5 ( sSeq oq6 ( sSeq oq7 ( sSeq oq8 ( sSeq oq9 ( sSeq oq10 ( sSeq oq11 ( sSeq oq12 ( sSeq oq13 (oq14))))))))))))))
theorem outer_ok {ns:List Int} {i:Int} (hi:0≤i) (c:LC) (v2 v3 v4 v5 v6 v7 v8 v9 v10 v11 v12:Option D) :
  ∃ e' c',(∃ w1 w2 w3 w4 w5 w6 w7 w8 w9 w10 w11 w12,e'=[some (.scr ns),w1,w2,w3,w4,w5,w6,w7,w8,w9,w10,w11,w12])∧outerB [some (.scr ns),some (.int i),v2,v3,v4,v5,v6,v7,v8,v9,v10,v11,v12] c=.ok (.nx e') c':=by
 obtain ⟨x,hx⟩:=cell_ok ns i hi c
 obtain ⟨p0,hp⟩:=pot_ok x c
 have P0:Pot c.length (c.length + 1) (c ++ [.lst [.int p0]]):=⟨by simp,by omega,p0,by simp⟩
 generalize c.length=j at hp P0
 generalize j + 1=n at P0
 generalize c ++ [Cell.lst [.int p0]]=c0 at hp P0
 have e0:oq0 [some (.scr ns),some (.int i),v2,v3,v4,v5,v6,v7,v8,v9,v10,v11,v12] c=.ok (.nx [some (.scr ns),some (.int i),some (.ref j),v3,v4,v5,v6,v7,v8,v9,v10,v11,v12]) c0:=qfj (i:=2) (call1_s (m:=qcZ) (call2_s (m:=qbg) (d1:=dVar 0) (d2:=dVar 1) rfl rfl hx) hp)
 obtain ⟨t,ht,c1,P1,hqe⟩:=q_ok P0 (e:=[some (.scr ns),some (.int i),some (.ref j),v3,v4,v5,v6,v7,v8,v9,v10,v11,v12]) (fun _=>rfl)
 obtain ⟨f,hf,hfq,G⟩:=good_of ht
 have h4:=List.all_eq_true.mp mod4_all t ht
 rw [Bool.and_eq_true] at h4
 have h41:f.q % 4=1:=by rw [hfq]; exact Nat.eq_of_beq_eq_true h4.1
 have h44:4 < f.q:=by rw [hfq]; exact Nat.blt_eq.mp h4.2
 have hby:=List.all_eq_true.mp by_all t ht
 rw [← hfq] at hqe hby
 obtain ⟨q',W,V⟩:=t
 have hby:0 < byN f.q (W.getD 0 []):=Nat.blt_eq.mp hby
 have G:Good f W V:=G
 have hq:=q500 hf
 have sz:=sizeG
 have e1:oq1 [some (.scr ns),some (.int i),some (.ref j),v3,v4,v5,v6,v7,v8,v9,v10,v11,v12] c0=.ok (.nx [some (.scr ns),some (.int i),some (.ref j),some (qI f),v4,v5,v6,v7,v8,v9,v10,v11,v12]) c1:=qfj (i:=3) hqe
 have e2:oq2 [some (.scr ns),some (.int i),some (.ref j),some (qI f),v4,v5,v6,v7,v8,v9,v10,v11,v12] c1=.ok (.nx [some (.scr ns),some (.int i),some (.ref j),some (qI f),some (fL f),v5,v6,v7,v8,v9,v10,v11,v12]) c1:=qda (i:=4) (qbl (m:=qcP) (d1:=dVar 3) rfl (form_ok hf c1))
 have hso:=some_ok hf (c:=c1) (some (.scr ns)) (some (.int i)) (some (.ref j)) v5 v6 v7 v8 v9 v10 v11 v12
 rw [G.sq] at hso
 have e3:oq3 [some (.scr ns),some (.int i),some (.ref j),some (qI f),some (fL f),v5,v6,v7,v8,v9,v10,v11,v12] c1=.ok (.nx [some (.scr ns),some (.int i),some (.ref j),some (qI f),some (fL f),some (sW W),v6,v7,v8,v9,v10,v11,v12]) c1:=qda (i:=5) hso
 generalize hn6:c1.length=n6
 have e4:oq4 [some (.scr ns),some (.int i),some (.ref j),some (qI f),some (fL f),some (sW W),v6,v7,v8,v9,v10,v11,v12] c1=.ok (.nx [some (.scr ns),some (.int i),some (.ref j),some (qI f),some (fL f),some (sW W),some (.ref n6),v7,v8,v9,v10,v11,v12]) (c1 ++ [.lst []]):=qfj (i:=6) (by
  rw [← hn6]
  unfold qcC
  rw [qb0]
  simp only [R.bind_ok]
  rw [if_pos ⟨by show 0≤sizeLine; omega,rfl⟩])
 obtain ⟨w7,hpl⟩:=pr_loop hf G (C:=c1) (some (.scr ns)) (some (.int i)) (some (.ref j)) (some (fL f)) v7 v8 v9 v10 v11 v12
 rw [hn6] at hpl
 have e5:oq5 [some (.scr ns),some (.int i),some (.ref j),some (qI f),some (fL f),some (sW W),some (.ref n6),v7,v8,v9,v10,v11,v12] (c1 ++ [.lst []])=.ok (.nx [some (.scr ns),some (.int i),some (.ref j),some (qI f),some (fL f),some (sW W),some (.ref n6),w7,v8,v9,v10,v11,v12]) (c1 ++ [.lst ((PR f (W.getD 0 [])).map prD)]):=for_fin (qek (d:=dVar 3) (q:=(f.q:Int)) rfl (by omega)) hpl
 have f6:(c1 ++ [Cell.lst ((PR f (W.getD 0 [])).map prD)])[n6]? = some (.lst ((PR f (W.getD 0 [])).map prD)):=by rw [← hn6]; simp
 generalize c1 ++ [Cell.lst ((PR f (W.getD 0 [])).map prD)]=c2 at e5 f6
 have e6:oq6 [some (.scr ns),some (.int i),some (.ref j),some (qI f),some (fL f),some (sW W),some (.ref n6),w7,v8,v9,v10,v11,v12] c2=.ok (.nx [some (.scr ns),some (.int i),some (.ref j),some (qI f),some (fL f),some (sW W),some (.ref n6),w7,some (webD W),v9,v10,v11,v12]) c2:=qda (i:=8) (qbl (m:=qd0) (d1:=dVar 3) rfl (field_web_ok hf G h41 c2))
 have hwb:=web_by (m:=f.q) (k:=n6) (c:=c2) G.pr G.prl (by omega) f6
 rw [G.prw] at hwb
 have hsw:∀ c,qaB 3 [webD W,webD W] c=.ok (.bl true) c:=fun c=>same_web (by rw [G.wl]; omega) (fun r hr=>by have:=G.wk.short hr; rw [G.wl] at this; omega) c
 have e7:oq7 [some (.scr ns),some (.int i),some (.ref j),some (qI f),some (fL f),some (sW W),some (.ref n6),w7,some (webD W),v9,v10,v11,v12] c2=.ok (.nx [some (.scr ns),some (.int i),some (.ref j),some (qI f),some (fL f),some (sW W),some (.ref n6),w7,some (webD W),v9,v10,v11,v12]) c2:=qfp (not_s (b:=true) (bl_s (qd4 (m:=qaB 3) (d1:=dVar 8) rfl (qd4 (m:=qaY) (d1:=dVar 3) (d2:=dVar 6) rfl rfl hwb) (hsw c2))))
 have e8:oq8 [some (.scr ns),some (.int i),some (.ref j),some (qI f),some (fL f),some (sW W),some (.ref n6),w7,some (webD W),v9,v10,v11,v12] c2=.ok (.nx [some (.scr ns),some (.int i),some (.ref j),some (qI f),some (fL f),some (sW W),some (.ref n6),w7,some (webD W),some (dueQ f.q),v10,v11,v12]) c2:=qda (i:=9) (due_ok h44 rfl)
 have hev:∀ c,qb8 [webD W] c=.ok (dueQ f.q) c:=fun c=>by rw [← G.ew]; exact qfM G.wk (by rw [G.wl]; omega) c
 have hev2:∀ c,qb8 [webD V] c=.ok (dueQ f.q) c:=fun c=>by rw [← G.evv]; exact qfM G.vk (by rw [G.vl]; omega) c
 have hot:∀ c,qaz [webD W] c=.ok (webD V) c:=fun c=>by
  have:=other_ok (w:=W) (by rw [G.wl]; omega) c
  rw [G.ow] at this
  exact this
 have e9:oq9 [some (.scr ns),some (.int i),some (.ref j),some (qI f),some (fL f),some (sW W),some (.ref n6),w7,some (webD W),some (dueQ f.q),v10,v11,v12] c2=.ok (.nx [some (.scr ns),some (.int i),some (.ref j),some (qI f),some (fL f),some (sW W),some (.ref n6),w7,some (webD W),some (dueQ f.q),v10,v11,v12]) c2:=qfp (or_no (bl_s (qcd (f:=nevD) (qbl (m:=qb8) (d1:=dVar 8) rfl (hev c2)) (d2:=dVar 9) rfl (nev_due f.q c2))) (bl_s (qcd (f:=nevD) (qbl (m:=qb8) (qbl (m:=qaz) (d1:=dVar 8) rfl (hot c2)) (hev2 c2)) (d2:=dVar 9) rfl (nev_due f.q c2))))
 have hbc:=qd2 (E:=[some (sW W)]) (t:=dBl (dBin qdv (dVar 0) (dVar 1))) (a:=dVar 0) (c:=c2) (fun o:Nat=>D.int (o:Int)) (fun o:Nat=>D.int (o:Int)) (fun o=>!decide (o∈W.getD 0 [])) (List.range' 1 (f.q - 1)) none [] (fun o _=>bl_s (qcd (f:=qdv) (x:=.int (o:Int)) (y:=.lst (nD (W.getD 0 []))) rfl rfl (notin_lD _ o c2))) (fun _ _ _=>rfl)
 rw [List.nil_append] at hbc
 have hbc2:qaI (fun _=>True) (qa3 0) (dBl (dBin qdv (dVar 0) (dVar 1))) (dVar 0) (rngD 1 (f.q:Int)) [none,some (sW W)] [] c2=.ok (nD ((List.range' 1 (f.q - 1)).filter fun o=>!decide (o∈W.getD 0 []))) c2:=by rw [rngq]; exact hbc
 have hcb:=qeC (pick:=[none,some 5]) (e:=[some (.scr ns),some (.int i),some (.ref j),some (qI f),some (fL f),some (sW W),some (.ref n6),w7,some (webD W),some (dueQ f.q),v10,v11,v12]) (rng2_gen (d1:=dC (.int 1)) (d2:=dVar 3) (p:=1) (q:=(f.q:Int)) rfl rfl (by omega) (by omega)) (by rw [rngq]; simp [nD]; omega) hbc2
 have hix:ixD (.lst (nD ((List.range' 1 (f.q - 1)).filter fun o=>!decide (o∈W.getD 0 [])))) (.int ((0:Nat):Int)) c2=.ok (.int ((byN f.q (W.getD 0 []):Nat):Int)) c2:=by
  unfold byN at hby ⊢
  cases hl:(List.range' 1 (f.q - 1)).filter fun o=>!decide (o∈W.getD 0 []) with
  | nil=>rw [hl] at hby; exact absurd hby (Nat.lt_irrefl _)
  | cons a r=>rw [qgo,qcu (v:=D.int ((a:Nat):Int)) rfl]; rfl
 have e10:oq10 [some (.scr ns),some (.int i),some (.ref j),some (qI f),some (fL f),some (sW W),some (.ref n6),w7,some (webD W),some (dueQ f.q),v10,v11,v12] c2=.ok (.nx [some (.scr ns),some (.int i),some (.ref j),some (qI f),some (fL f),some (sW W),some (.ref n6),w7,some (webD W),some (dueQ f.q),some (bI f W),v11,v12]) c2:=qda (i:=10) (qcd (f:=ixD) hcb (y:=.int ((0:Nat):Int)) rfl hix)
 have hbq:byN f.q (W.getD 0 []) < f.q:=by
  unfold byN
  cases hl:(List.range' 1 (f.q - 1)).filter fun o=>!decide (o∈W.getD 0 []) with
  | nil=>show 0 < f.q; omega
  | cons a r =>
   have hm:a∈(List.range' 1 (f.q - 1)).filter fun o=>!decide (o∈W.getD 0 []):=by rw [hl]; simp
   have:=List.mem_range'_1.mp (List.mem_filter.mp hm).1
   show a < f.q; omega
 have hlc:=qft (c:=c2) (st:=fun _=>True) (E:=[some (qI f),some (fL f),some (bI f W)]) (t:=dYes) (a:=qa7 4 qao (qa0 (dVar 1) (qa0 (dVar 2) (qa0 (dVar 3) (qa0 (dVar 0) dNil))))) trivial (fun o:Nat=>D.int (o:Int)) (fun o:Nat=>D.int ((M f (byN f.q (W.getD 0 [])) o:Nat):Int)) (List.range f.q) none [] (fun _ _=>rfl) (fun o ho=>call_gen4 (m:=qao) (d1:=dVar 1) (d2:=dVar 2) (d3:=dVar 3) (d4:=dVar 0) rfl rfl rfl rfl (prod_M hf hbq (List.mem_range.mp ho) c2))
 rw [List.nil_append] at hlc
 have hlc2:qaI (fun _=>True) (qa3 0) dYes (qa7 4 qao (qa0 (dVar 1) (qa0 (dVar 2) (qa0 (dVar 3) (qa0 (dVar 0) dNil))))) (rngD 0 (f.q:Int)) [none,some (qI f),some (fL f),some (bI f W)] [] c2=.ok (nD ((List.range f.q).map (M f (byN f.q (W.getD 0 []))))) c2:=by
  rw [qe2]
  refine Eq.trans hlc ?_
  unfold nD
  rw [List.map_map]
  rfl
 have e11:oq11 [some (.scr ns),some (.int i),some (.ref j),some (qI f),some (fL f),some (sW W),some (.ref n6),w7,some (webD W),some (dueQ f.q),some (bI f W),v11,v12] c2=.ok (.nx [some (.scr ns),some (.int i),some (.ref j),some (qI f),some (fL f),some (sW W),some (.ref n6),w7,some (webD W),some (dueQ f.q),some (bI f W),some (lL f W),v12]) c2:=qda (i:=11) (qeC (pick:=[none,some 3,some 4,some 10]) (e:=[some (.scr ns),some (.int i),some (.ref j),some (qI f),some (fL f),some (sW W),some (.ref n6),w7,some (webD W),some (dueQ f.q),some (bI f W),v11,v12]) (qek (d:=dVar 3) (q:=(f.q:Int)) rfl (by omega)) (by rw [qe2]; simp [nD]; omega) hlc2)
 generalize hn12:c2.length=n12
 have e12:oq12 [some (.scr ns),some (.int i),some (.ref j),some (qI f),some (fL f),some (sW W),some (.ref n6),w7,some (webD W),some (dueQ f.q),some (bI f W),some (lL f W),v12] c2=.ok (.nx [some (.scr ns),some (.int i),some (.ref j),some (qI f),some (fL f),some (sW W),some (.ref n6),w7,some (webD W),some (dueQ f.q),some (bI f W),some (lL f W),some (.ref n12)]) (c2 ++ [.lst []]):=qfj (i:=12) (by
  rw [← hn12]
  unfold qcC
  rw [qb0]
  simp only [R.bind_ok]
  rw [if_pos ⟨by show 0≤sizeLine; omega,rfl⟩])
 obtain ⟨u7,htl⟩:=tr_loop hf G (C:=c2) (some (.scr ns)) (some (.int i)) (some (.ref j)) (some (fL f)) (some (sW W)) (some (.ref n6)) w7 (some (dueQ f.q)) (some (bI f W))
 rw [hn12] at htl
 have e13:oq13 [some (.scr ns),some (.int i),some (.ref j),some (qI f),some (fL f),some (sW W),some (.ref n6),w7,some (webD W),some (dueQ f.q),some (bI f W),some (lL f W),some (.ref n12)] (c2 ++ [.lst []])=.ok (.nx [some (.scr ns),some (.int i),some (.ref j),some (qI f),some (fL f),some (sW W),some (.ref n6),u7,some (webD W),some (dueQ f.q),some (bI f W),some (lL f W),some (.ref n12)]) (c2 ++ [.lst ((TR f (byN f.q (W.getD 0 [])) W).map prD)]):=for_fin (qek (d:=dVar 3) (q:=(f.q:Int)) rfl (by omega)) htl
 have f12:(c2 ++ [Cell.lst ((TR f (byN f.q (W.getD 0 [])) W).map prD)])[n12]? = some (.lst ((TR f (byN f.q (W.getD 0 [])) W).map prD)):=by rw [← hn12]; simp
 generalize c2 ++ [Cell.lst ((TR f (byN f.q (W.getD 0 [])) W).map prD)]=c3 at e13 f12
 have hwb2:=web_by (m:=f.q) (k:=n12) (c:=c3) G.tr G.trl (by omega) f12
 rw [G.trw] at hwb2
 have e14:oq14 [some (.scr ns),some (.int i),some (.ref j),some (qI f),some (fL f),some (sW W),some (.ref n6),u7,some (webD W),some (dueQ f.q),some (bI f W),some (lL f W),some (.ref n12)] c3=.ok (.nx [some (.scr ns),some (.int i),some (.ref j),some (qI f),some (fL f),some (sW W),some (.ref n6),u7,some (webD W),some (dueQ f.q),some (bI f W),some (lL f W),some (.ref n12)]) c3:=qfp (bl_s (qcd (f:=nevD) (qd4 (m:=qaY) (d1:=dVar 3) (d2:=dVar 12) rfl rfl hwb2) (qbl (m:=qaz) (d1:=dVar 8) rfl (hot c3)) (web_nevQ V c3)))
 refine ⟨[some (.scr ns),some (.int i),some (.ref j),some (qI f),some (fL f),some (sW W),some (.ref n6),u7,some (webD W),some (dueQ f.q),some (bI f W),some (lL f W),some (.ref n12)],c3,⟨_,_,_,_,_,_,_,_,_,_,_,_,rfl⟩,?_⟩
 unfold outerB
 rw [qb3 e0,qb3 e1,qb3 e2,qb3 e3,qb3 e4,qb3 e5,qb3 e6,qb3 e7,qb3 e8,qb3 e9,qb3 e10,qb3 e11,qb3 e12,qb3 e13,e14]
theorem law_main (ns:List Int) (hl:ns.length≤63):∃ c,m_law [.scr ns] []=.ok (.bl true) c:=by
 obtain ⟨e',c',⟨w1,w2,w3,w4,w5,w6,w7,w8,w9,w10,w11,w12,rfl⟩,hf⟩:=for_any (g:=qa3 1) (s:=outerB)
  (fun e=>∃ w1 w2 w3 w4 w5 w6 w7 w8 w9 w10 w11 w12,e=[some (.scr ns),w1,w2,w3,w4,w5,w6,w7,w8,w9,w10,w11,w12]) (rngD 0 3) [some (.scr ns),none,none,none,none,none,none,none,none,none,none,none,none] [] ⟨_,_,_,_,_,_,_,_,_,_,_,_,rfl⟩ (fun t ht e c ⟨w1,w2,w3,w4,w5,w6,w7,w8,w9,w10,w11,w12,he⟩=>by
   subst he
   obtain ⟨i,rfl,i0,i1⟩:=qgG ht
   obtain ⟨e',c',ie,ho⟩:=outer_ok (ns:=ns) i0 c w2 w3 w4 w5 w6 w7 w8 w9 w10 w11 w12
   exact ⟨_,e',_,c',rfl,ho,ie⟩)
 have hb2:b_law=sSeq (sFor (qbe (qa0 (dC (.int 3)) dNil)) (qa3 1) outerB) (sRet (dC (.bl true))):=rfl
 have hsr:(qbe (qa0 (dC (.int 3)) dNil)) [some (.scr ns),none,none,none,none,none,none,none,none,none,none,none,none] []=.ok ⟨rngD 0 3,fun _=>True⟩ []:=qek rfl (by decide)
 have es:qbs 13 [D.scr ns]=[some (.scr ns),none,none,none,none,none,none,none,none,none,none,none,none]:=rfl
 have e1:=for_fin (g:=qa3 1) (s:=outerB) hsr hf
 have fin:b_law (qbs 13 [.scr ns]) []=.ok (.rt (.bl true)) c':=by
  rw [es,hb2,qb3 e1]
  rfl
 exact ⟨_,ret_fnS fin rfl (fun k h=>by cases h)⟩
end Ev
namespace Ev
open PySem L2 PyProof.Rows
theorem all_mk {l:PySem.W.OpenLaw} {w:World} {K:PySem.W.Frag} {h:Heap} {mg:Str→Option Value} {fa:Addr} {f_is_whole f_is_whole_within f_is_field f_require_field f_require_things f_row_of f_number_of f_taken f_row_where f_web_where f_ties f_other_web f_times_letter f_multiplied f_squares_in f_field_web f_common f_first_unlike_place f_shared_by_all f_first_unlike_pair f_evenness f_law_cell_at f_law_pot f_law_take f_law_whole f_law_same f_law_web_by f_law_prime f_law_degree f_law_row f_law_number f_law_sums_product f_law_heads f_law_form f_law_product f_law_sum f_law:Addr} (X:K.In h) (G:h.Ns mainGlobals mg) (hfa:mg "law"=some (.ref fa))
  {od_is_whole an_is_whole od_is_whole_within an_is_whole_within od_is_field an_is_field od_require_field an_require_field od_require_things an_require_things od_row_of an_row_of od_number_of an_number_of od_taken an_taken od_row_where an_row_where od_web_where an_web_where od_ties an_ties od_other_web an_other_web od_times_letter an_times_letter od_multiplied an_multiplied od_squares_in an_squares_in od_field_web an_field_web od_common an_common od_first_unlike_place an_first_unlike_place od_shared_by_all an_shared_by_all od_first_unlike_pair an_first_unlike_pair od_evenness an_evenness od_law_cell_at an_law_cell_at od_law_pot an_law_pot od_law_take an_law_take od_law_whole an_law_whole od_law_same an_law_same od_law_web_by an_law_web_by od_law_prime an_law_prime od_law_degree an_law_degree od_law_row an_law_row od_law_number an_law_number od_law_sums_product an_law_sums_product od_law_heads an_law_heads od_law_form an_law_form od_law_product an_law_product od_law_sum an_law_sum od_law an_law:Option Addr} {sl_is_whole sl_is_whole_within sl_is_field sl_require_field sl_require_things sl_row_of sl_number_of sl_taken sl_row_where sl_web_where sl_ties sl_other_web sl_times_letter sl_multiplied sl_squares_in sl_field_web sl_common sl_first_unlike_place sl_shared_by_all sl_first_unlike_pair sl_evenness sl_law_cell_at sl_law_pot sl_law_take sl_law_whole sl_law_same sl_law_web_by sl_law_prime sl_law_degree sl_law_row sl_law_number sl_law_sums_product sl_law_heads sl_law_form sl_law_product sl_law_sum sl_law:Array (Option Value)} {oc_is_whole kV_is_whole dc_is_whole pm_is_whole cd_is_whole ct_is_whole oc_is_whole_within kV_is_whole_within dc_is_whole_within pm_is_whole_within cd_is_whole_within ct_is_whole_within oc_is_field kV_is_field dc_is_field pm_is_field cd_is_field ct_is_field oc_require_field kV_require_field dc_require_field pm_require_field cd_require_field ct_require_field oc_require_things kV_require_things dc_require_things pm_require_things cd_require_things ct_require_things oc_row_of kV_row_of dc_row_of pm_row_of cd_row_of ct_row_of oc_number_of kV_number_of dc_number_of pm_number_of cd_number_of ct_number_of oc_taken kV_taken dc_taken pm_taken cd_taken ct_taken oc_row_where kV_row_where dc_row_where pm_row_where cd_row_where ct_row_where oc_web_where kV_web_where dc_web_where pm_web_where cd_web_where ct_web_where oc_ties kV_ties dc_ties pm_ties cd_ties ct_ties oc_other_web kV_other_web dc_other_web pm_other_web cd_other_web ct_other_web oc_times_letter kV_times_letter dc_times_letter pm_times_letter cd_times_letter ct_times_letter oc_multiplied kV_multiplied dc_multiplied pm_multiplied cd_multiplied ct_multiplied oc_squares_in kV_squares_in dc_squares_in pm_squares_in cd_squares_in ct_squares_in oc_field_web kV_field_web dc_field_web pm_field_web cd_field_web ct_field_web oc_common kV_common dc_common pm_common cd_common ct_common oc_first_unlike_place kV_first_unlike_place dc_first_unlike_place pm_first_unlike_place cd_first_unlike_place ct_first_unlike_place oc_shared_by_all kV_shared_by_all dc_shared_by_all pm_shared_by_all cd_shared_by_all ct_shared_by_all oc_first_unlike_pair kV_first_unlike_pair dc_first_unlike_pair pm_first_unlike_pair cd_first_unlike_pair ct_first_unlike_pair oc_evenness kV_evenness dc_evenness pm_evenness cd_evenness ct_evenness oc_law_cell_at kV_law_cell_at dc_law_cell_at pm_law_cell_at cd_law_cell_at ct_law_cell_at oc_law_pot kV_law_pot dc_law_pot pm_law_pot cd_law_pot ct_law_pot oc_law_take kV_law_take dc_law_take pm_law_take cd_law_take ct_law_take oc_law_whole kV_law_whole dc_law_whole pm_law_whole cd_law_whole ct_law_whole oc_law_same kV_law_same dc_law_same pm_law_same cd_law_same ct_law_same oc_law_web_by kV_law_web_by dc_law_web_by pm_law_web_by cd_law_web_by ct_law_web_by oc_law_prime kV_law_prime dc_law_prime pm_law_prime cd_law_prime ct_law_prime oc_law_degree kV_law_degree dc_law_degree pm_law_degree cd_law_degree ct_law_degree oc_law_row kV_law_row dc_law_row pm_law_row cd_law_row ct_law_row oc_law_number kV_law_number dc_law_number pm_law_number cd_law_number ct_law_number oc_law_sums_product kV_law_sums_product dc_law_sums_product pm_law_sums_product cd_law_sums_product ct_law_sums_product oc_law_heads kV_law_heads dc_law_heads pm_law_heads cd_law_heads ct_law_heads oc_law_form kV_law_form dc_law_form pm_law_form cd_law_form ct_law_form oc_law_product kV_law_product dc_law_product pm_law_product cd_law_product ct_law_product oc_law_sum kV_law_sum dc_law_sum pm_law_sum cd_law_sum ct_law_sum oc_law kV_law dc_law pm_law cd_law ct_law:Value}
  (a_is_whole:PySem.W.nsIn K mainGlobals "is_whole"=some (some (.ref f_is_whole))) (l_is_whole:K.lookup f_is_whole=some ⟨oc_is_whole,od_is_whole,.func (PySem.W.fnOf "is_whole" "is_whole" (qai qcL) (qad qcL) (qa5 qcL) .none kV_is_whole dc_is_whole pm_is_whole an_is_whole cd_is_whole ct_is_whole),sl_is_whole⟩) (c_is_whole:PySem.W.codeIn K cd_is_whole "is_whole"=true) (k_is_whole:PySem.W.keepIn K (.ref f_is_whole)=true)
  (a_is_whole_within:PySem.W.nsIn K mainGlobals "is_whole_within"=some (some (.ref f_is_whole_within))) (l_is_whole_within:K.lookup f_is_whole_within=some ⟨oc_is_whole_within,od_is_whole_within,.func (PySem.W.fnOf "is_whole_within" "is_whole_within" (qai qaQ) (qad qaQ) (qa5 qaQ) .none kV_is_whole_within dc_is_whole_within pm_is_whole_within an_is_whole_within cd_is_whole_within ct_is_whole_within),sl_is_whole_within⟩) (c_is_whole_within:PySem.W.codeIn K cd_is_whole_within "is_whole_within"=true) (k_is_whole_within:PySem.W.keepIn K (.ref f_is_whole_within)=true)
  (a_is_field:PySem.W.nsIn K mainGlobals "is_field"=some (some (.ref f_is_field))) (l_is_field:K.lookup f_is_field=some ⟨oc_is_field,od_is_field,.func (PySem.W.fnOf "is_field" "is_field" (qai qcM) (qad qcM) (qa5 qcM) .none kV_is_field dc_is_field pm_is_field an_is_field cd_is_field ct_is_field),sl_is_field⟩) (c_is_field:PySem.W.codeIn K cd_is_field "is_field"=true) (k_is_field:PySem.W.keepIn K (.ref f_is_field)=true)
  (a_require_field:PySem.W.nsIn K mainGlobals "require_field"=some (some (.ref f_require_field))) (l_require_field:K.lookup f_require_field=some ⟨oc_require_field,od_require_field,.func (PySem.W.fnOf "require_field" "require_field" (qai qb7) (qad qb7) (qa5 qb7) .none kV_require_field dc_require_field pm_require_field an_require_field cd_require_field ct_require_field),sl_require_field⟩) (c_require_field:PySem.W.codeIn K cd_require_field "require_field"=true) (k_require_field:PySem.W.keepIn K (.ref f_require_field)=true)
  (a_require_things:PySem.W.nsIn K mainGlobals "require_things"=some (some (.ref f_require_things))) (l_require_things:K.lookup f_require_things=some ⟨oc_require_things,od_require_things,.func (PySem.W.fnOf "require_things" "require_things" (qai qaV) (qad qaV) (qa5 qaV) .none kV_require_things dc_require_things pm_require_things an_require_things cd_require_things ct_require_things),sl_require_things⟩) (c_require_things:PySem.W.codeIn K cd_require_things "require_things"=true) (k_require_things:PySem.W.keepIn K (.ref f_require_things)=true)
  (a_row_of:PySem.W.nsIn K mainGlobals "row_of"=some (some (.ref f_row_of))) (l_row_of:K.lookup f_row_of=some ⟨oc_row_of,od_row_of,.func (PySem.W.fnOf "row_of" "row_of" (qai qdM) (qad qdM) (qa5 qdM) .none kV_row_of dc_row_of pm_row_of an_row_of cd_row_of ct_row_of),sl_row_of⟩) (c_row_of:PySem.W.codeIn K cd_row_of "row_of"=true) (k_row_of:PySem.W.keepIn K (.ref f_row_of)=true)
  (a_number_of:PySem.W.nsIn K mainGlobals "number_of"=some (some (.ref f_number_of))) (l_number_of:K.lookup f_number_of=some ⟨oc_number_of,od_number_of,.func (PySem.W.fnOf "number_of" "number_of" (qai qci) (qad qci) (qa5 qci) .none kV_number_of dc_number_of pm_number_of an_number_of cd_number_of ct_number_of),sl_number_of⟩) (c_number_of:PySem.W.codeIn K cd_number_of "number_of"=true) (k_number_of:PySem.W.keepIn K (.ref f_number_of)=true)
  (a_taken:PySem.W.nsIn K mainGlobals "taken"=some (some (.ref f_taken))) (l_taken:K.lookup f_taken=some ⟨oc_taken,od_taken,.func (PySem.W.fnOf "taken" "taken" (qai qeJ) (qad qeJ) (qa5 qeJ) .none kV_taken dc_taken pm_taken an_taken cd_taken ct_taken),sl_taken⟩) (c_taken:PySem.W.codeIn K cd_taken "taken"=true) (k_taken:PySem.W.keepIn K (.ref f_taken)=true)
  (a_row_where:PySem.W.nsIn K mainGlobals "row_where"=some (some (.ref f_row_where))) (l_row_where:K.lookup f_row_where=some ⟨oc_row_where,od_row_where,.func (PySem.W.fnOf "row_where" "row_where" (qai qch) (qad qch) (qa5 qch) .none kV_row_where dc_row_where pm_row_where an_row_where cd_row_where ct_row_where),sl_row_where⟩) (c_row_where:PySem.W.codeIn K cd_row_where "row_where"=true) (k_row_where:PySem.W.keepIn K (.ref f_row_where)=true)
  (a_web_where:PySem.W.nsIn K mainGlobals "web_where"=some (some (.ref f_web_where))) (l_web_where:K.lookup f_web_where=some ⟨oc_web_where,od_web_where,.func (PySem.W.fnOf "web_where" "web_where" (qai qcg) (qad qcg) (qa5 qcg) .none kV_web_where dc_web_where pm_web_where an_web_where cd_web_where ct_web_where),sl_web_where⟩) (c_web_where:PySem.W.codeIn K cd_web_where "web_where"=true) (k_web_where:PySem.W.keepIn K (.ref f_web_where)=true)
  (a_ties:PySem.W.nsIn K mainGlobals "ties"=some (some (.ref f_ties))) (l_ties:K.lookup f_ties=some ⟨oc_ties,od_ties,.func (PySem.W.fnOf "ties" "ties" (qai qg1) (qad qg1) (qa5 qg1) .none kV_ties dc_ties pm_ties an_ties cd_ties ct_ties),sl_ties⟩) (c_ties:PySem.W.codeIn K cd_ties "ties"=true) (k_ties:PySem.W.keepIn K (.ref f_ties)=true)
  (a_other_web:PySem.W.nsIn K mainGlobals "other_web"=some (some (.ref f_other_web))) (l_other_web:K.lookup f_other_web=some ⟨oc_other_web,od_other_web,.func (PySem.W.fnOf "other_web" "other_web" (qai qbN) (qad qbN) (qa5 qbN) .none kV_other_web dc_other_web pm_other_web an_other_web cd_other_web ct_other_web),sl_other_web⟩) (c_other_web:PySem.W.codeIn K cd_other_web "other_web"=true) (k_other_web:PySem.W.keepIn K (.ref f_other_web)=true)
  (a_times_letter:PySem.W.nsIn K mainGlobals "times_letter"=some (some (.ref f_times_letter))) (l_times_letter:K.lookup f_times_letter=some ⟨oc_times_letter,od_times_letter,.func (PySem.W.fnOf "times_letter" "times_letter" (qai qbm) (qad qbm) (qa5 qbm) .none kV_times_letter dc_times_letter pm_times_letter an_times_letter cd_times_letter ct_times_letter),sl_times_letter⟩) (c_times_letter:PySem.W.codeIn K cd_times_letter "times_letter"=true) (k_times_letter:PySem.W.keepIn K (.ref f_times_letter)=true)
  (a_multiplied:PySem.W.nsIn K mainGlobals "multiplied"=some (some (.ref f_multiplied))) (l_multiplied:K.lookup f_multiplied=some ⟨oc_multiplied,od_multiplied,.func (PySem.W.fnOf "multiplied" "multiplied" (qai qbT) (qad qbT) (qa5 qbT) .none kV_multiplied dc_multiplied pm_multiplied an_multiplied cd_multiplied ct_multiplied),sl_multiplied⟩) (c_multiplied:PySem.W.codeIn K cd_multiplied "multiplied"=true) (k_multiplied:PySem.W.keepIn K (.ref f_multiplied)=true)
  (a_squares_in:PySem.W.nsIn K mainGlobals "squares_in"=some (some (.ref f_squares_in))) (l_squares_in:K.lookup f_squares_in=some ⟨oc_squares_in,od_squares_in,.func (PySem.W.fnOf "squares_in" "squares_in" (qai qbS) (qad qbS) (qa5 qbS) .none kV_squares_in dc_squares_in pm_squares_in an_squares_in cd_squares_in ct_squares_in),sl_squares_in⟩) (c_squares_in:PySem.W.codeIn K cd_squares_in "squares_in"=true) (k_squares_in:PySem.W.keepIn K (.ref f_squares_in)=true)
  (a_field_web:PySem.W.nsIn K mainGlobals "field_web"=some (some (.ref f_field_web))) (l_field_web:K.lookup f_field_web=some ⟨oc_field_web,od_field_web,.func (PySem.W.fnOf "field_web" "field_web" (qai qbO) (qad qbO) (qa5 qbO) .none kV_field_web dc_field_web pm_field_web an_field_web cd_field_web ct_field_web),sl_field_web⟩) (c_field_web:PySem.W.codeIn K cd_field_web "field_web"=true) (k_field_web:PySem.W.keepIn K (.ref f_field_web)=true)
  (a_common:PySem.W.nsIn K mainGlobals "common"=some (some (.ref f_common))) (l_common:K.lookup f_common=some ⟨oc_common,od_common,.func (PySem.W.fnOf "common" "common" (qai qdN) (qad qdN) (qa5 qdN) .none kV_common dc_common pm_common an_common cd_common ct_common),sl_common⟩) (c_common:PySem.W.codeIn K cd_common "common"=true) (k_common:PySem.W.keepIn K (.ref f_common)=true)
  (a_first_unlike_place:PySem.W.nsIn K mainGlobals "first_unlike_place"=some (some (.ref f_first_unlike_place))) (l_first_unlike_place:K.lookup f_first_unlike_place=some ⟨oc_first_unlike_place,od_first_unlike_place,.func (PySem.W.fnOf "first_unlike_place" "first_unlike_place" (qai qaA) (qad qaA) (qa5 qaA) .none kV_first_unlike_place dc_first_unlike_place pm_first_unlike_place an_first_unlike_place cd_first_unlike_place ct_first_unlike_place),sl_first_unlike_place⟩) (c_first_unlike_place:PySem.W.codeIn K cd_first_unlike_place "first_unlike_place"=true) (k_first_unlike_place:PySem.W.keepIn K (.ref f_first_unlike_place)=true)
  (a_shared_by_all:PySem.W.nsIn K mainGlobals "shared_by_all"=some (some (.ref f_shared_by_all))) (l_shared_by_all:K.lookup f_shared_by_all=some ⟨oc_shared_by_all,od_shared_by_all,.func (PySem.W.fnOf "shared_by_all" "shared_by_all" (qai qb6) (qad qb6) (qa5 qb6) .none kV_shared_by_all dc_shared_by_all pm_shared_by_all an_shared_by_all cd_shared_by_all ct_shared_by_all),sl_shared_by_all⟩) (c_shared_by_all:PySem.W.codeIn K cd_shared_by_all "shared_by_all"=true) (k_shared_by_all:PySem.W.keepIn K (.ref f_shared_by_all)=true)
  (a_first_unlike_pair:PySem.W.nsIn K mainGlobals "first_unlike_pair"=some (some (.ref f_first_unlike_pair))) (l_first_unlike_pair:K.lookup f_first_unlike_pair=some ⟨oc_first_unlike_pair,od_first_unlike_pair,.func (PySem.W.fnOf "first_unlike_pair" "first_unlike_pair" (qai qaF) (qad qaF) (qa5 qaF) .none kV_first_unlike_pair dc_first_unlike_pair pm_first_unlike_pair an_first_unlike_pair cd_first_unlike_pair ct_first_unlike_pair),sl_first_unlike_pair⟩) (c_first_unlike_pair:PySem.W.codeIn K cd_first_unlike_pair "first_unlike_pair"=true) (k_first_unlike_pair:PySem.W.keepIn K (.ref f_first_unlike_pair)=true)
  (a_evenness:PySem.W.nsIn K mainGlobals "evenness"=some (some (.ref f_evenness))) (l_evenness:K.lookup f_evenness=some ⟨oc_evenness,od_evenness,.func (PySem.W.fnOf "evenness" "evenness" (qai qcN) (qad qcN) (qa5 qcN) .none kV_evenness dc_evenness pm_evenness an_evenness cd_evenness ct_evenness),sl_evenness⟩) (c_evenness:PySem.W.codeIn K cd_evenness "evenness"=true) (k_evenness:PySem.W.keepIn K (.ref f_evenness)=true)
  (a_law_cell_at:PySem.W.nsIn K mainGlobals "_law_cell_at"=some (some (.ref f_law_cell_at))) (l_law_cell_at:K.lookup f_law_cell_at=some ⟨oc_law_cell_at,od_law_cell_at,.func (PySem.W.fnOf "_law_cell_at" "_law_cell_at" (qai qbA) (qad qbA) (qa5 qbA) .none kV_law_cell_at dc_law_cell_at pm_law_cell_at an_law_cell_at cd_law_cell_at ct_law_cell_at),sl_law_cell_at⟩) (c_law_cell_at:PySem.W.codeIn K cd_law_cell_at "_law_cell_at"=true) (k_law_cell_at:PySem.W.keepIn K (.ref f_law_cell_at)=true)
  (a_law_pot:PySem.W.nsIn K mainGlobals "_law_pot"=some (some (.ref f_law_pot))) (l_law_pot:K.lookup f_law_pot=some ⟨oc_law_pot,od_law_pot,.func (PySem.W.fnOf "_law_pot" "_law_pot" (qai qdh) (qad qdh) (qa5 qdh) .none kV_law_pot dc_law_pot pm_law_pot an_law_pot cd_law_pot ct_law_pot),sl_law_pot⟩) (c_law_pot:PySem.W.codeIn K cd_law_pot "_law_pot"=true) (k_law_pot:PySem.W.keepIn K (.ref f_law_pot)=true)
  (a_law_take:PySem.W.nsIn K mainGlobals "_law_take"=some (some (.ref f_law_take))) (l_law_take:K.lookup f_law_take=some ⟨oc_law_take,od_law_take,.func (PySem.W.fnOf "_law_take" "_law_take" (qai qcI) (qad qcI) (qa5 qcI) .none kV_law_take dc_law_take pm_law_take an_law_take cd_law_take ct_law_take),sl_law_take⟩) (c_law_take:PySem.W.codeIn K cd_law_take "_law_take"=true) (k_law_take:PySem.W.keepIn K (.ref f_law_take)=true)
  (a_law_whole:PySem.W.nsIn K mainGlobals "_law_whole"=some (some (.ref f_law_whole))) (l_law_whole:K.lookup f_law_whole=some ⟨oc_law_whole,od_law_whole,.func (PySem.W.fnOf "_law_whole" "_law_whole" (qai qcj) (qad qcj) (qa5 qcj) .none kV_law_whole dc_law_whole pm_law_whole an_law_whole cd_law_whole ct_law_whole),sl_law_whole⟩) (c_law_whole:PySem.W.codeIn K cd_law_whole "_law_whole"=true) (k_law_whole:PySem.W.keepIn K (.ref f_law_whole)=true)
  (a_law_same:PySem.W.nsIn K mainGlobals "_law_same"=some (some (.ref f_law_same))) (l_law_same:K.lookup f_law_same=some ⟨oc_law_same,od_law_same,.func (PySem.W.fnOf "_law_same" "_law_same" (qai qcJ) (qad qcJ) (qa5 qcJ) .none kV_law_same dc_law_same pm_law_same an_law_same cd_law_same ct_law_same),sl_law_same⟩) (c_law_same:PySem.W.codeIn K cd_law_same "_law_same"=true) (k_law_same:PySem.W.keepIn K (.ref f_law_same)=true)
  (a_law_web_by:PySem.W.nsIn K mainGlobals "_law_web_by"=some (some (.ref f_law_web_by))) (l_law_web_by:K.lookup f_law_web_by=some ⟨oc_law_web_by,od_law_web_by,.func (PySem.W.fnOf "_law_web_by" "_law_web_by" (qai qbU) (qad qbU) (qa5 qbU) .none kV_law_web_by dc_law_web_by pm_law_web_by an_law_web_by cd_law_web_by ct_law_web_by),sl_law_web_by⟩) (c_law_web_by:PySem.W.codeIn K cd_law_web_by "_law_web_by"=true) (k_law_web_by:PySem.W.keepIn K (.ref f_law_web_by)=true)
  (a_law_prime:PySem.W.nsIn K mainGlobals "_law_prime"=some (some (.ref f_law_prime))) (l_law_prime:K.lookup f_law_prime=some ⟨oc_law_prime,od_law_prime,.func (PySem.W.fnOf "_law_prime" "_law_prime" (qai qck) (qad qck) (qa5 qck) .none kV_law_prime dc_law_prime pm_law_prime an_law_prime cd_law_prime ct_law_prime),sl_law_prime⟩) (c_law_prime:PySem.W.codeIn K cd_law_prime "_law_prime"=true) (k_law_prime:PySem.W.keepIn K (.ref f_law_prime)=true)
  (a_law_degree:PySem.W.nsIn K mainGlobals "_law_degree"=some (some (.ref f_law_degree))) (l_law_degree:K.lookup f_law_degree=some ⟨oc_law_degree,od_law_degree,.func (PySem.W.fnOf "_law_degree" "_law_degree" (qai qbW) (qad qbW) (qa5 qbW) .none kV_law_degree dc_law_degree pm_law_degree an_law_degree cd_law_degree ct_law_degree),sl_law_degree⟩) (c_law_degree:PySem.W.codeIn K cd_law_degree "_law_degree"=true) (k_law_degree:PySem.W.keepIn K (.ref f_law_degree)=true)
  (a_law_row:PySem.W.nsIn K mainGlobals "_law_row"=some (some (.ref f_law_row))) (l_law_row:K.lookup f_law_row=some ⟨oc_law_row,od_law_row,.func (PySem.W.fnOf "_law_row" "_law_row" (qai qdg) (qad qdg) (qa5 qdg) .none kV_law_row dc_law_row pm_law_row an_law_row cd_law_row ct_law_row),sl_law_row⟩) (c_law_row:PySem.W.codeIn K cd_law_row "_law_row"=true) (k_law_row:PySem.W.keepIn K (.ref f_law_row)=true)
  (a_law_number:PySem.W.nsIn K mainGlobals "_law_number"=some (some (.ref f_law_number))) (l_law_number:K.lookup f_law_number=some ⟨oc_law_number,od_law_number,.func (PySem.W.fnOf "_law_number" "_law_number" (qai qbV) (qad qbV) (qa5 qbV) .none kV_law_number dc_law_number pm_law_number an_law_number cd_law_number ct_law_number),sl_law_number⟩) (c_law_number:PySem.W.codeIn K cd_law_number "_law_number"=true) (k_law_number:PySem.W.keepIn K (.ref f_law_number)=true)
  (a_law_sums_product:PySem.W.nsIn K mainGlobals "_law_sums_product"=some (some (.ref f_law_sums_product))) (l_law_sums_product:K.lookup f_law_sums_product=some ⟨oc_law_sums_product,od_law_sums_product,.func (PySem.W.fnOf "_law_sums_product" "_law_sums_product" (qai qaJ) (qad qaJ) (qa5 qaJ) .none kV_law_sums_product dc_law_sums_product pm_law_sums_product an_law_sums_product cd_law_sums_product ct_law_sums_product),sl_law_sums_product⟩) (c_law_sums_product:PySem.W.codeIn K cd_law_sums_product "_law_sums_product"=true) (k_law_sums_product:PySem.W.keepIn K (.ref f_law_sums_product)=true)
  (a_law_heads:PySem.W.nsIn K mainGlobals "_law_heads"=some (some (.ref f_law_heads))) (l_law_heads:K.lookup f_law_heads=some ⟨oc_law_heads,od_law_heads,.func (PySem.W.fnOf "_law_heads" "_law_heads" (qai qcl) (qad qcl) (qa5 qcl) .none kV_law_heads dc_law_heads pm_law_heads an_law_heads cd_law_heads ct_law_heads),sl_law_heads⟩) (c_law_heads:PySem.W.codeIn K cd_law_heads "_law_heads"=true) (k_law_heads:PySem.W.keepIn K (.ref f_law_heads)=true)
  (a_law_form:PySem.W.nsIn K mainGlobals "_law_form"=some (some (.ref f_law_form))) (l_law_form:K.lookup f_law_form=some ⟨oc_law_form,od_law_form,.func (PySem.W.fnOf "_law_form" "_law_form" (qai qcK) (qad qcK) (qa5 qcK) .none kV_law_form dc_law_form pm_law_form an_law_form cd_law_form ct_law_form),sl_law_form⟩) (c_law_form:PySem.W.codeIn K cd_law_form "_law_form"=true) (k_law_form:PySem.W.keepIn K (.ref f_law_form)=true)
  (a_law_product:PySem.W.nsIn K mainGlobals "_law_product"=some (some (.ref f_law_product))) (l_law_product:K.lookup f_law_product=some ⟨oc_law_product,od_law_product,.func (PySem.W.fnOf "_law_product" "_law_product" (qai qbz) (qad qbz) (qa5 qbz) .none kV_law_product dc_law_product pm_law_product an_law_product cd_law_product ct_law_product),sl_law_product⟩) (c_law_product:PySem.W.codeIn K cd_law_product "_law_product"=true) (k_law_product:PySem.W.keepIn K (.ref f_law_product)=true)
  (a_law_sum:PySem.W.nsIn K mainGlobals "_law_sum"=some (some (.ref f_law_sum))) (l_law_sum:K.lookup f_law_sum=some ⟨oc_law_sum,od_law_sum,.func (PySem.W.fnOf "_law_sum" "_law_sum" (qai qdf) (qad qdf) (qa5 qdf) .none kV_law_sum dc_law_sum pm_law_sum an_law_sum cd_law_sum ct_law_sum),sl_law_sum⟩) (c_law_sum:PySem.W.codeIn K cd_law_sum "_law_sum"=true) (k_law_sum:PySem.W.keepIn K (.ref f_law_sum)=true)
  (a_law:PySem.W.nsIn K mainGlobals "law"=some (some (.ref f_law))) (l_law:K.lookup f_law=some ⟨oc_law,od_law,.func (PySem.W.fnOf "law" "law" (qai s_law) (qad s_law) (qa5 s_law) .none kV_law dc_law pm_law an_law cd_law ct_law),sl_law⟩) (c_law:PySem.W.codeIn K cd_law "law"=true) (k_law:PySem.W.keepIn K (.ref f_law)=true)
  (z_all:PySem.W.nsIn K mainGlobals "all"=some none)
  (z_bool:PySem.W.nsIn K mainGlobals "bool"=some none)
  (z_enumerate:PySem.W.nsIn K mainGlobals "enumerate"=some none)
  (z_int:PySem.W.nsIn K mainGlobals "int"=some none)
  (z_isinstance:PySem.W.nsIn K mainGlobals "isinstance"=some none)
  (z_len:PySem.W.nsIn K mainGlobals "len"=some none)
  (z_list:PySem.W.nsIn K mainGlobals "list"=some none)
  (z_range:PySem.W.nsIn K mainGlobals "range"=some none)
  (z_reversed:PySem.W.nsIn K mainGlobals "reversed"=some none)
  (z_set:PySem.W.nsIn K mainGlobals "set"=some none)
  (z_sorted:PySem.W.nsIn K mainGlobals "sorted"=some none)
  (z_str:PySem.W.nsIn K mainGlobals "str"=some none)
  (z_tuple:PySem.W.nsIn K mainGlobals "tuple"=some none)
  (z_zip:PySem.W.nsIn K mainGlobals "zip"=some none)
  {ad_FIELDS:Addr} (y_FIELDS:PySem.W.nsIn K mainGlobals "FIELDS"=some (some (.ref ad_FIELDS))) (u_FIELDS:qfN K ad_FIELDS qcv=true)
  {tc_field_web tp_field_web:Addr} (tb_field_web:PySem.W.tabIn K "field_web"=some (tc_field_web,tp_field_web)) (th_field_web:PySem.W.codeHdIn K tc_field_web tp_field_web=true)
  {tc_other_web tp_other_web:Addr} (tb_other_web:PySem.W.tabIn K "other_web"=some (tc_other_web,tp_other_web)) (th_other_web:PySem.W.codeHdIn K tc_other_web tp_other_web=true)
  (tap:qdz K=true)
  : ∃ fd:FuncData,(∀ (s:Shared) (v:Value),BindsTo s fd ⟨[v],[]⟩ [("script",v)])∧∀ base:Heap,K.In base→base.Ns mainGlobals mg→FnOk l.prog w K mg base CX0 11 fa fd ["script"] (spD K 1 m_law):=by
 have e:=hfa.symm.trans (PySem.W.mg_of X G a_law)
 cases e
 have F_is_whole:=qaE (st:=qcL) l_is_whole c_is_whole k_is_whole
 have qcT:=F_is_whole.binds (ps:=["thing"]) fun _ _ _ _ _ _ us hl=>match us,hl with | [_],_=>rfl
 have F_is_whole_within:=qaE (st:=qaQ) l_is_whole_within c_is_whole_within k_is_whole_within
 have qaR:=F_is_whole_within.binds (ps:=["thing","least","most"]) fun _ _ _ _ _ _ us hl=>match us,hl with | [_,_,_],_=>rfl
 have F_is_field:=qaE (st:=qcM) l_is_field c_is_field k_is_field
 have qcU:=F_is_field.binds (ps:=["thing"]) fun _ _ _ _ _ _ us hl=>match us,hl with | [_],_=>rfl
 have F_require_field:=qaE (st:=qb7) l_require_field c_require_field k_require_field
 have qbb:=F_require_field.binds (ps:=["thing"]) fun _ _ _ _ _ _ us hl=>match us,hl with | [_],_=>rfl
 have F_require_things:=qaE (st:=qaV) l_require_things c_require_things k_require_things
 have qaW:=F_require_things.binds (ps:=["q","things"]) fun _ _ _ _ _ _ us hl=>match us,hl with | [_,_],_=>rfl
 have F_row_of:=qaE (st:=qdM) l_row_of c_row_of k_row_of
 have qdT:=F_row_of.binds (ps:=["q","number"]) fun _ _ _ _ _ _ us hl=>match us,hl with | [_,_],_=>rfl
 have F_number_of:=qaE (st:=qci) l_number_of c_number_of k_number_of
 have qcq:=F_number_of.binds (ps:=["q","row"]) fun _ _ _ _ _ _ us hl=>match us,hl with | [_,_],_=>rfl
 have F_taken:=qaE (st:=qeJ) l_taken c_taken k_taken
 have qeS:=F_taken.binds (ps:=["q","one","other"]) fun _ _ _ _ _ _ us hl=>match us,hl with | [_,_,_],_=>rfl
 have F_row_where:=qaE (st:=qch) l_row_where c_row_where k_row_where
 have qco:=F_row_where.binds (ps:=["many","one","are_tied"]) fun _ _ _ _ _ _ us hl=>match us,hl with | [_,_,_],_=>rfl
 have F_web_where:=qaE (st:=qcg) l_web_where c_web_where k_web_where
 have qcn:=F_web_where.binds (ps:=["many","are_tied"]) fun _ _ _ _ _ _ us hl=>match us,hl with | [_,_],_=>rfl
 have F_ties:=qaE (st:=qg1) l_ties c_ties k_ties
 have qgm:=F_ties.binds (ps:=["web"]) fun _ _ _ _ _ _ us hl=>match us,hl with | [_],_=>rfl
 have F_other_web:=qaE (st:=qbN) l_other_web c_other_web k_other_web
 have qcp:=F_other_web.binds (ps:=["web"]) fun _ _ _ _ _ _ us hl=>match us,hl with | [_],_=>rfl
 have F_times_letter:=qaE (st:=qbm) l_times_letter c_times_letter k_times_letter
 have qbp:=F_times_letter.binds (ps:=["q","row"]) fun _ _ _ _ _ _ us hl=>match us,hl with | [_,_],_=>rfl
 have F_multiplied:=qaE (st:=qbT) l_multiplied c_multiplied k_multiplied
 have qc0:=F_multiplied.binds (ps:=["q","one","other"]) fun _ _ _ _ _ _ us hl=>match us,hl with | [_,_,_],_=>rfl
 have F_squares_in:=qaE (st:=qbS) l_squares_in c_squares_in k_squares_in
 have qcw:=F_squares_in.binds (ps:=["q"]) fun _ _ _ _ _ _ us hl=>match us,hl with | [_],_=>rfl
 have F_field_web:=qaE (st:=qbO) l_field_web c_field_web k_field_web
 have qbR:=F_field_web.binds (ps:=["q"]) fun _ _ _ _ _ _ us hl=>match us,hl with | [_],_=>rfl
 have F_common:=qaE (st:=qdN) l_common c_common k_common
 have qdU:=F_common.binds (ps:=["web","one","other"]) fun _ _ _ _ _ _ us hl=>match us,hl with | [_,_,_],_=>rfl
 have F_first_unlike_place:=qaE (st:=qaA) l_first_unlike_place c_first_unlike_place k_first_unlike_place
 have qaD:=F_first_unlike_place.binds (ps:=["web"]) fun _ _ _ _ _ _ us hl=>match us,hl with | [_],_=>rfl
 have F_shared_by_all:=qaE (st:=qb6) l_shared_by_all c_shared_by_all k_shared_by_all
 have qba:=F_shared_by_all.binds (ps:=["web","pairs"]) fun _ _ _ _ _ _ us hl=>match us,hl with | [_,_],_=>rfl
 have F_first_unlike_pair:=qaE (st:=qaF) l_first_unlike_pair c_first_unlike_pair k_first_unlike_pair
 have qaH:=F_first_unlike_pair.binds (ps:=["web","pairs"]) fun _ _ _ _ _ _ us hl=>match us,hl with | [_,_],_=>rfl
 have F_evenness:=qaE (st:=qcN) l_evenness c_evenness k_evenness
 have qct:=F_evenness.binds (ps:=["web"]) fun _ _ _ _ _ _ us hl=>match us,hl with | [_],_=>rfl
 have F_law_cell_at:=qaE (st:=qbA) l_law_cell_at c_law_cell_at k_law_cell_at
 have qbj:=F_law_cell_at.binds (ps:=["script","k"]) fun _ _ _ _ _ _ us hl=>match us,hl with | [_,_],_=>rfl
 have F_law_pot:=qaE (st:=qdh) l_law_pot c_law_pot k_law_pot
 have qd5:=F_law_pot.binds (ps:=["cell"]) fun _ _ _ _ _ _ us hl=>match us,hl with | [_],_=>rfl
 have F_law_take:=qaE (st:=qcI) l_law_take c_law_take k_law_take
 have qcR:=F_law_take.binds (ps:=["pot","far"]) fun _ _ _ _ _ _ us hl=>match us,hl with | [_,_],_=>rfl
 have F_law_whole:=qaE (st:=qcj) l_law_whole c_law_whole k_law_whole
 have qcr:=F_law_whole.binds (ps:=["found"]) fun _ _ _ _ _ _ us hl=>match us,hl with | [_],_=>rfl
 have F_law_same:=qaE (st:=qcJ) l_law_same c_law_same k_law_same
 have qc2:=F_law_same.binds (ps:=["found","due"]) fun _ _ _ _ _ _ us hl=>match us,hl with | [_,_],_=>rfl
 have F_law_web_by:=qaE (st:=qbU) l_law_web_by c_law_web_by k_law_web_by
 have qc1:=F_law_web_by.binds (ps:=["many","pairs"]) fun _ _ _ _ _ _ us hl=>match us,hl with | [_,_],_=>rfl
 have F_law_prime:=qaE (st:=qck) l_law_prime c_law_prime k_law_prime
 have qcs:=F_law_prime.binds (ps:=["q"]) fun _ _ _ _ _ _ us hl=>match us,hl with | [_],_=>rfl
 have F_law_degree:=qaE (st:=qbW) l_law_degree c_law_degree k_law_degree
 have qc4:=F_law_degree.binds (ps:=["q"]) fun _ _ _ _ _ _ us hl=>match us,hl with | [_],_=>rfl
 have F_law_row:=qaE (st:=qdg) l_law_row c_law_row k_law_row
 have qdo:=F_law_row.binds (ps:=["number","p","many"]) fun _ _ _ _ _ _ us hl=>match us,hl with | [_,_,_],_=>rfl
 have F_law_number:=qaE (st:=qbV) l_law_number c_law_number k_law_number
 have qc3:=F_law_number.binds (ps:=["row","p"]) fun _ _ _ _ _ _ us hl=>match us,hl with | [_,_],_=>rfl
 have F_law_sums_product:=qaE (st:=qaJ) l_law_sums_product c_law_sums_product k_law_sums_product
 have qap:=F_law_sums_product.binds (ps:=["one","other","p"]) fun _ _ _ _ _ _ us hl=>match us,hl with | [_,_,_],_=>rfl
 have F_law_heads:=qaE (st:=qcl) l_law_heads c_law_heads k_law_heads
 have qby:=F_law_heads.binds (ps:=["many","p"]) fun _ _ _ _ _ _ us hl=>match us,hl with | [_,_],_=>rfl
 have F_law_form:=qaE (st:=qcK) l_law_form c_law_form k_law_form
 have qcS:=F_law_form.binds (ps:=["q"]) fun _ _ _ _ _ _ us hl=>match us,hl with | [_],_=>rfl
 have F_law_product:=qaE (st:=qbz) l_law_product c_law_product k_law_product
 have qbF:=F_law_product.binds (ps:=["q","form","one","other"]) fun _ _ _ _ _ _ us hl=>match us,hl with | [_,_,_,_],_=>rfl
 have F_law_sum:=qaE (st:=qdf) l_law_sum c_law_sum k_law_sum
 have qdn:=F_law_sum.binds (ps:=["q","one","other","sign"]) fun _ _ _ _ _ _ us hl=>match us,hl with | [_,_,_,_],_=>rfl
 have F_law:=qaE (st:=s_law) l_law c_law k_law
 have b_law:=F_law.binds (ps:=["script"]) fun _ _ _ _ _ _ us hl=>match us,hl with | [_],_=>rfl
 let T:Tx K mg:={
  a_is_whole:=f_is_whole,fd_is_whole:=_,d_is_whole:=⟨F_is_whole,PySem.W.mg_of X G a_is_whole,qcT⟩,n_is_whole:=a_is_whole,
  a_is_whole_within:=f_is_whole_within,fd_is_whole_within:=_,d_is_whole_within:=⟨F_is_whole_within,PySem.W.mg_of X G a_is_whole_within,qaR⟩,n_is_whole_within:=a_is_whole_within,
  a_is_field:=f_is_field,fd_is_field:=_,d_is_field:=⟨F_is_field,PySem.W.mg_of X G a_is_field,qcU⟩,n_is_field:=a_is_field,
  a_require_field:=f_require_field,fd_require_field:=_,d_require_field:=⟨F_require_field,PySem.W.mg_of X G a_require_field,qbb⟩,n_require_field:=a_require_field,
  a_require_things:=f_require_things,fd_require_things:=_,d_require_things:=⟨F_require_things,PySem.W.mg_of X G a_require_things,qaW⟩,n_require_things:=a_require_things,
  a_row_of:=f_row_of,fd_row_of:=_,d_row_of:=⟨F_row_of,PySem.W.mg_of X G a_row_of,qdT⟩,n_row_of:=a_row_of,
  a_number_of:=f_number_of,fd_number_of:=_,d_number_of:=⟨F_number_of,PySem.W.mg_of X G a_number_of,qcq⟩,n_number_of:=a_number_of,
  a_taken:=f_taken,fd_taken:=_,d_taken:=⟨F_taken,PySem.W.mg_of X G a_taken,qeS⟩,n_taken:=a_taken,
  a_row_where:=f_row_where,fd_row_where:=_,d_row_where:=⟨F_row_where,PySem.W.mg_of X G a_row_where,qco⟩,n_row_where:=a_row_where,
  a_web_where:=f_web_where,fd_web_where:=_,d_web_where:=⟨F_web_where,PySem.W.mg_of X G a_web_where,qcn⟩,n_web_where:=a_web_where,
  a_ties:=f_ties,fd_ties:=_,d_ties:=⟨F_ties,PySem.W.mg_of X G a_ties,qgm⟩,n_ties:=a_ties,
  a_other_web:=f_other_web,fd_other_web:=_,d_other_web:=⟨F_other_web,PySem.W.mg_of X G a_other_web,qcp⟩,n_other_web:=a_other_web,
  a_times_letter:=f_times_letter,fd_times_letter:=_,d_times_letter:=⟨F_times_letter,PySem.W.mg_of X G a_times_letter,qbp⟩,n_times_letter:=a_times_letter,
  a_multiplied:=f_multiplied,fd_multiplied:=_,d_multiplied:=⟨F_multiplied,PySem.W.mg_of X G a_multiplied,qc0⟩,n_multiplied:=a_multiplied,
  a_squares_in:=f_squares_in,fd_squares_in:=_,d_squares_in:=⟨F_squares_in,PySem.W.mg_of X G a_squares_in,qcw⟩,n_squares_in:=a_squares_in,
  a_field_web:=f_field_web,fd_field_web:=_,d_field_web:=⟨F_field_web,PySem.W.mg_of X G a_field_web,qbR⟩,n_field_web:=a_field_web,
  a_common:=f_common,fd_common:=_,d_common:=⟨F_common,PySem.W.mg_of X G a_common,qdU⟩,n_common:=a_common,
  a_first_unlike_place:=f_first_unlike_place,fd_first_unlike_place:=_,d_first_unlike_place:=⟨F_first_unlike_place,PySem.W.mg_of X G a_first_unlike_place,qaD⟩,n_first_unlike_place:=a_first_unlike_place,
  a_shared_by_all:=f_shared_by_all,fd_shared_by_all:=_,d_shared_by_all:=⟨F_shared_by_all,PySem.W.mg_of X G a_shared_by_all,qba⟩,n_shared_by_all:=a_shared_by_all,
  a_first_unlike_pair:=f_first_unlike_pair,fd_first_unlike_pair:=_,d_first_unlike_pair:=⟨F_first_unlike_pair,PySem.W.mg_of X G a_first_unlike_pair,qaH⟩,n_first_unlike_pair:=a_first_unlike_pair,
  a_evenness:=f_evenness,fd_evenness:=_,d_evenness:=⟨F_evenness,PySem.W.mg_of X G a_evenness,qct⟩,n_evenness:=a_evenness,
  a_law_cell_at:=f_law_cell_at,fd_law_cell_at:=_,d_law_cell_at:=⟨F_law_cell_at,PySem.W.mg_of X G a_law_cell_at,qbj⟩,n_law_cell_at:=a_law_cell_at,
  a_law_pot:=f_law_pot,fd_law_pot:=_,d_law_pot:=⟨F_law_pot,PySem.W.mg_of X G a_law_pot,qd5⟩,n_law_pot:=a_law_pot,
  a_law_take:=f_law_take,fd_law_take:=_,d_law_take:=⟨F_law_take,PySem.W.mg_of X G a_law_take,qcR⟩,n_law_take:=a_law_take,
  a_law_whole:=f_law_whole,fd_law_whole:=_,d_law_whole:=⟨F_law_whole,PySem.W.mg_of X G a_law_whole,qcr⟩,n_law_whole:=a_law_whole,
  a_law_same:=f_law_same,fd_law_same:=_,d_law_same:=⟨F_law_same,PySem.W.mg_of X G a_law_same,qc2⟩,n_law_same:=a_law_same,
  a_law_web_by:=f_law_web_by,fd_law_web_by:=_,d_law_web_by:=⟨F_law_web_by,PySem.W.mg_of X G a_law_web_by,qc1⟩,n_law_web_by:=a_law_web_by,
  a_law_prime:=f_law_prime,fd_law_prime:=_,d_law_prime:=⟨F_law_prime,PySem.W.mg_of X G a_law_prime,qcs⟩,n_law_prime:=a_law_prime,
  a_law_degree:=f_law_degree,fd_law_degree:=_,d_law_degree:=⟨F_law_degree,PySem.W.mg_of X G a_law_degree,qc4⟩,n_law_degree:=a_law_degree,
  a_law_row:=f_law_row,fd_law_row:=_,d_law_row:=⟨F_law_row,PySem.W.mg_of X G a_law_row,qdo⟩,n_law_row:=a_law_row,
  a_law_number:=f_law_number,fd_law_number:=_,d_law_number:=⟨F_law_number,PySem.W.mg_of X G a_law_number,qc3⟩,n_law_number:=a_law_number,
  a_law_sums_product:=f_law_sums_product,fd_law_sums_product:=_,d_law_sums_product:=⟨F_law_sums_product,PySem.W.mg_of X G a_law_sums_product,qap⟩,n_law_sums_product:=a_law_sums_product,
  a_law_heads:=f_law_heads,fd_law_heads:=_,d_law_heads:=⟨F_law_heads,PySem.W.mg_of X G a_law_heads,qby⟩,n_law_heads:=a_law_heads,
  a_law_form:=f_law_form,fd_law_form:=_,d_law_form:=⟨F_law_form,PySem.W.mg_of X G a_law_form,qcS⟩,n_law_form:=a_law_form,
  a_law_product:=f_law_product,fd_law_product:=_,d_law_product:=⟨F_law_product,PySem.W.mg_of X G a_law_product,qbF⟩,n_law_product:=a_law_product,
  a_law_sum:=f_law_sum,fd_law_sum:=_,d_law_sum:=⟨F_law_sum,PySem.W.mg_of X G a_law_sum,qdn⟩,n_law_sum:=a_law_sum,
  a_law:=fa,fd_law:=_,d_law:=⟨F_law,PySem.W.mg_of X G a_law,b_law⟩,n_law:=a_law,
  nb_all:=PySem.W.mg_none_of X G z_all,
  nb_bool:=PySem.W.mg_none_of X G z_bool,
  nb_enumerate:=PySem.W.mg_none_of X G z_enumerate,
  nb_int:=PySem.W.mg_none_of X G z_int,
  nb_isinstance:=PySem.W.mg_none_of X G z_isinstance,
  nb_len:=PySem.W.mg_none_of X G z_len,
  nb_list:=PySem.W.mg_none_of X G z_list,
  nb_range:=PySem.W.mg_none_of X G z_range,
  nb_reversed:=PySem.W.mg_none_of X G z_reversed,
  nb_set:=PySem.W.mg_none_of X G z_set,
  nb_sorted:=PySem.W.mg_none_of X G z_sorted,
  nb_str:=PySem.W.mg_none_of X G z_str,
  nb_tuple:=PySem.W.mg_none_of X G z_tuple,
  nb_zip:=PySem.W.mg_none_of X G z_zip,
  ad_FIELDS:=ad_FIELDS,g_FIELDS:=PySem.W.mg_of X G y_FIELDS,n_FIELDS:=y_FIELDS,t_FIELDS:=u_FIELDS,
  tc_field_web:=tc_field_web,tp_field_web:=tp_field_web,tb_field_web:=tb_field_web,th_field_web:=th_field_web,
  tc_other_web:=tc_other_web,tp_other_web:=tp_other_web,tb_other_web:=tb_other_web,th_other_web:=th_other_web,
  tap:=tap }
 exact ⟨_,fun s v=>.of_eq rfl,fun base _ _=>ok_law T⟩
theorem walk {l:PySem.W.OpenLaw} {q:Program} {loose:List Str} {XP:(Str→Option Value)→Heap→Prop} {YP:World→Heap→Prop} {d:DefRec} {K:Params→PySem.W.Frag} {ts:List (Addr×Addr)} (hn:l.most=some 63) (hdf:d.params.defaults=[])
  (hY:∀ (w:World) (h:Heap),YP w h→(K w.params).In h∧∀ q∈ts,h.get? q.2=some (PySem.W.tabObj #[]))
  (hK:∀ p,(ts.all fun q=>PySem.W.codeHdIn (K p) q.1 q.2)=true∧PySem.W.noTabs (K p)=true∧tabsIn (K p) ts=true)
  (F:∀ (w:World) (mg:Str→Option Value) (fa:Addr) (h:Heap),(K w.params).In h→h.Ns mainGlobals mg→mg d.name=some (.ref fa) →
   ∃ fd:FuncData,(∀ (s:Shared) (u:Value),BindsTo s fd ⟨[u],[]⟩ [("script",u)])∧∀ base:Heap,(K w.params).In base→base.Ns mainGlobals mg→FnOk l.prog w (K w.params) mg base CX0 11 fa fd ["script"] (spD (K w.params) 1 m_law)) :
  PySem.W.WalkO q loose XP YP l.row.toRowW d [] (fun f vs=>PySem.call f vs) :=
 L2.walk_ofT (n:=63) (k:=11) (x:="script") hn (by decide) hdf ⟨rfl,by decide,by decide⟩ hY hK F law_main
end Ev
def PySem.W.Fast.tw15629436289581164940:Nat:=0
def PySem.W.Fast.tw14738027816201565621:Nat:=0
def PySem.W.Fast.tw10370612340290552965:Nat:=0
def PySem.W.Fast.tw10275697388297267156:Nat:=0
def PySem.W.Fast.tw18255069508763215824:Nat:=0
def PySem.W.Fast.tw3665080488774914597:Nat:=0
def PySem.W.Fast.tw1133255325058404817:Nat:=0
def PySem.W.Fast.tw16099008340846027593:Nat:=0
def PySem.W.Fast.tw17477074078892818416:Nat:=0
def PySem.W.Fast.tw15519000335892536986:Nat:=0
def PySem.W.Fast.tw18394511477485835323:Nat:=0
def PySem.W.Fast.tw9381391493908298329:Nat:=0
def PySem.W.Fast.tw115386258760302378:Nat:=0
def PySem.W.Fast.tw9591391790637175040:Nat:=0
def PySem.W.Fast.tw5847198763843097925:Nat:=0
def PySem.W.Fast.tw15157586819097205566:Nat:=0
def PySem.W.Fast.tw13169057513377333313:Nat:=0
def PySem.W.Fast.tw5194676855132019974:Nat:=0
def PySem.W.Fast.tw3574871905156505405:Nat:=0
def PySem.W.Fast.tw808044060253361859:Nat:=0
def PySem.W.Fast.tw8635252357480785113:Nat:=0
def PySem.W.Fast.tw15179854102870128428:Nat:=0
def PySem.W.Fast.tw8898103781970942641:Nat:=0
def PySem.W.Fast.tw3814050413561727106:Nat:=0
def PySem.W.Fast.tw6968929046107055201:Nat:=0
def PySem.W.Fast.tw9571193178800441109:Nat:=0
def PySem.W.Fast.tw10182306017790603481:Nat:=0
def PySem.W.Fast.tw1574187611572517491:Nat:=0
def PySem.W.Fast.tw13068732165477304864:Nat:=0
def PySem.W.Fast.tw205549798075927496:Nat:=0
def PySem.W.Fast.tw13708969597159228282:Nat:=0
def PySem.W.Fast.tw686176066267238431:Nat:=0
def PySem.W.Fast.tw10112402881179269494:Nat:=0
def PySem.W.Fast.tw2098443495136314357:Nat:=0
open PySem PySem.W PyProof.Rows
set_option maxRecDepth 100000 in
set_option maxHeartbeats 0 in
theorem PySem.Challenge.cw_evenwebs_k48_whole_webs_of_fields_holds : PySem.Challenge.rw_evenwebs_k48_whole_webs_of_fields.Holds := by
  w_on; o_law; k_head; (case hw => w_witness2)
  k_fill
  refine Ev.walk (l := PySem.Challenge.rw_evenwebs_k48_whole_webs_of_fields) (ts := [(173, 169), (86, 82)]) rfl rfl (fun w h Y => ⟨PySem.W.km_in_of Y, List.forall_mem_cons.mpr ⟨PySem.W.km_tabs_of Y _ (by first | k_mem | decide), List.forall_mem_cons.mpr ⟨PySem.W.km_tabs_of Y _ (by first | k_mem | decide), fun _ h => nomatch h⟩⟩⟩) (fun p => ⟨by kernel_rfl, by kernel_rfl, by kernel_rfl⟩) ?F
  case F =>
    intro w mg fa h KX G hmg
    refine' Ev.all_mk (tc_field_web := 173) (tp_field_web := 169) (tc_other_web := 86) (tp_other_web := 82) KX G hmg ?a_is_whole ?l_is_whole ?c_is_whole ?k_is_whole ?a_is_whole_within ?l_is_whole_within ?c_is_whole_within ?k_is_whole_within ?a_is_field ?l_is_field ?c_is_field ?k_is_field ?a_require_field ?l_require_field ?c_require_field ?k_require_field ?a_require_things ?l_require_things ?c_require_things ?k_require_things ?a_row_of ?l_row_of ?c_row_of ?k_row_of ?a_number_of ?l_number_of ?c_number_of ?k_number_of ?a_taken ?l_taken ?c_taken ?k_taken ?a_row_where ?l_row_where ?c_row_where ?k_row_where ?a_web_where ?l_web_where ?c_web_where ?k_web_where ?a_ties ?l_ties ?c_ties ?k_ties ?a_other_web ?l_other_web ?c_other_web ?k_other_web ?a_times_letter ?l_times_letter ?c_times_letter ?k_times_letter ?a_multiplied ?l_multiplied ?c_multiplied ?k_multiplied ?a_squares_in ?l_squares_in ?c_squares_in ?k_squares_in ?a_field_web ?l_field_web ?c_field_web ?k_field_web ?a_common ?l_common ?c_common ?k_common ?a_first_unlike_place ?l_first_unlike_place ?c_first_unlike_place ?k_first_unlike_place ?a_shared_by_all ?l_shared_by_all ?c_shared_by_all ?k_shared_by_all ?a_first_unlike_pair ?l_first_unlike_pair ?c_first_unlike_pair ?k_first_unlike_pair ?a_evenness ?l_evenness ?c_evenness ?k_evenness ?a_law_cell_at ?l_law_cell_at ?c_law_cell_at ?k_law_cell_at ?a_law_pot ?l_law_pot ?c_law_pot ?k_law_pot ?a_law_take ?l_law_take ?c_law_take ?k_law_take ?a_law_whole ?l_law_whole ?c_law_whole ?k_law_whole ?a_law_same ?l_law_same ?c_law_same ?k_law_same ?a_law_web_by ?l_law_web_by ?c_law_web_by ?k_law_web_by ?a_law_prime ?l_law_prime ?c_law_prime ?k_law_prime ?a_law_degree ?l_law_degree ?c_law_degree ?k_law_degree ?a_law_row ?l_law_row ?c_law_row ?k_law_row ?a_law_number ?l_law_number ?c_law_number ?k_law_number ?a_law_sums_product ?l_law_sums_product ?c_law_sums_product ?k_law_sums_product ?a_law_heads ?l_law_heads ?c_law_heads ?k_law_heads ?a_law_form ?l_law_form ?c_law_form ?k_law_form ?a_law_product ?l_law_product ?c_law_product ?k_law_product ?a_law_sum ?l_law_sum ?c_law_sum ?k_law_sum ?a_law ?l_law ?c_law ?k_law ?z_all ?z_bool ?z_enumerate ?z_int ?z_isinstance ?z_len ?z_list ?z_range ?z_reversed ?z_set ?z_sorted ?z_str ?z_tuple ?z_zip ?y_FIELDS ?u_FIELDS ?tb_field_web ?th_field_web ?tb_other_web ?th_other_web ?tap
    (case a_is_whole => k_is)
    (case l_is_whole => k_is)
    (case c_is_whole => k_is)
    (case k_is_whole => k_is)
    (case a_is_whole_within => k_is)
    (case l_is_whole_within => k_is)
    (case c_is_whole_within => k_is)
    (case k_is_whole_within => k_is)
    (case a_is_field => k_is)
    (case l_is_field => k_is)
    (case c_is_field => k_is)
    (case k_is_field => k_is)
    (case a_require_field => k_is)
    (case l_require_field => k_is)
    (case c_require_field => k_is)
    (case k_require_field => k_is)
    (case a_require_things => k_is)
    (case l_require_things => k_is)
    (case c_require_things => k_is)
    (case k_require_things => k_is)
    (case a_row_of => k_is)
    (case l_row_of => k_is)
    (case c_row_of => k_is)
    (case k_row_of => k_is)
    (case a_number_of => k_is)
    (case l_number_of => k_is)
    (case c_number_of => k_is)
    (case k_number_of => k_is)
    (case a_taken => k_is)
    (case l_taken => k_is)
    (case c_taken => k_is)
    (case k_taken => k_is)
    (case a_row_where => k_is)
    (case l_row_where => k_is)
    (case c_row_where => k_is)
    (case k_row_where => k_is)
    (case a_web_where => k_is)
    (case l_web_where => k_is)
    (case c_web_where => k_is)
    (case k_web_where => k_is)
    (case a_ties => k_is)
    (case l_ties => k_is)
    (case c_ties => k_is)
    (case k_ties => k_is)
    (case a_other_web => k_is)
    (case l_other_web => k_is)
    (case c_other_web => k_is)
    (case k_other_web => k_is)
    (case a_times_letter => k_is)
    (case l_times_letter => k_is)
    (case c_times_letter => k_is)
    (case k_times_letter => k_is)
    (case a_multiplied => k_is)
    (case l_multiplied => k_is)
    (case c_multiplied => k_is)
    (case k_multiplied => k_is)
    (case a_squares_in => k_is)
    (case l_squares_in => k_is)
    (case c_squares_in => k_is)
    (case k_squares_in => k_is)
    (case a_field_web => k_is)
    (case l_field_web => k_is)
    (case c_field_web => k_is)
    (case k_field_web => k_is)
    (case a_common => k_is)
    (case l_common => k_is)
    (case c_common => k_is)
    (case k_common => k_is)
    (case a_first_unlike_place => k_is)
    (case l_first_unlike_place => k_is)
    (case c_first_unlike_place => k_is)
    (case k_first_unlike_place => k_is)
    (case a_shared_by_all => k_is)
    (case l_shared_by_all => k_is)
    (case c_shared_by_all => k_is)
    (case k_shared_by_all => k_is)
    (case a_first_unlike_pair => k_is)
    (case l_first_unlike_pair => k_is)
    (case c_first_unlike_pair => k_is)
    (case k_first_unlike_pair => k_is)
    (case a_evenness => k_is)
    (case l_evenness => k_is)
    (case c_evenness => k_is)
    (case k_evenness => k_is)
    (case a_law_cell_at => k_is)
    (case l_law_cell_at => k_is)
    (case c_law_cell_at => k_is)
    (case k_law_cell_at => k_is)
    (case a_law_pot => k_is)
    (case l_law_pot => k_is)
    (case c_law_pot => k_is)
    (case k_law_pot => k_is)
    (case a_law_take => k_is)
    (case l_law_take => k_is)
    (case c_law_take => k_is)
    (case k_law_take => k_is)
    (case a_law_whole => k_is)
    (case l_law_whole => k_is)
    (case c_law_whole => k_is)
    (case k_law_whole => k_is)
    (case a_law_same => k_is)
    (case l_law_same => k_is)
    (case c_law_same => k_is)
    (case k_law_same => k_is)
    (case a_law_web_by => k_is)
    (case l_law_web_by => k_is)
    (case c_law_web_by => k_is)
    (case k_law_web_by => k_is)
    (case a_law_prime => k_is)
    (case l_law_prime => k_is)
    (case c_law_prime => k_is)
    (case k_law_prime => k_is)
    (case a_law_degree => k_is)
    (case l_law_degree => k_is)
    (case c_law_degree => k_is)
    (case k_law_degree => k_is)
    (case a_law_row => k_is)
    (case l_law_row => k_is)
    (case c_law_row => k_is)
    (case k_law_row => k_is)
    (case a_law_number => k_is)
    (case l_law_number => k_is)
    (case c_law_number => k_is)
    (case k_law_number => k_is)
    (case a_law_sums_product => k_is)
    (case l_law_sums_product => k_is)
    (case c_law_sums_product => k_is)
    (case k_law_sums_product => k_is)
    (case a_law_heads => k_is)
    (case l_law_heads => k_is)
    (case c_law_heads => k_is)
    (case k_law_heads => k_is)
    (case a_law_form => k_is)
    (case l_law_form => k_is)
    (case c_law_form => k_is)
    (case k_law_form => k_is)
    (case a_law_product => k_is)
    (case l_law_product => k_is)
    (case c_law_product => k_is)
    (case k_law_product => k_is)
    (case a_law_sum => k_is)
    (case l_law_sum => k_is)
    (case c_law_sum => k_is)
    (case k_law_sum => k_is)
    (case a_law => k_is)
    (case l_law => k_is)
    (case c_law => k_is)
    (case k_law => k_is)
    (case z_all => k_is)
    (case z_bool => k_is)
    (case z_enumerate => k_is)
    (case z_int => k_is)
    (case z_isinstance => k_is)
    (case z_len => k_is)
    (case z_list => k_is)
    (case z_range => k_is)
    (case z_reversed => k_is)
    (case z_set => k_is)
    (case z_sorted => k_is)
    (case z_str => k_is)
    (case z_tuple => k_is)
    (case z_zip => k_is)
    (case y_FIELDS => k_is)
    (case u_FIELDS => kernel_rfl)
    (case tb_field_web => kernel_rfl)
    (case th_field_web => kernel_rfl)
    (case tb_other_web => kernel_rfl)
    (case th_other_web => kernel_rfl)
    (case tap => kernel_rfl)
