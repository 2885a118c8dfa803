import PyProof.Rows.All
import Wide.All
import OpenK.AllK
import Wide.FinOn
import Lean
import PyProof.EqAt
import PyProof.EqKinds
import PyProof.TupleCall
import PyProof.SetRoads
import PyProof.FactsAll.set_1
import PyProof.Rows.SetFrom
import PyProof.CollectWalk
import PyProof.Walks
import PyProof.TupleIter
import PyProof.TupleKey
import PyProof.P3Eq
import PyProof.Draws
import PyProof.EnumMake
import PyProof.NeData
import KE.LcSums
import PyProof.WalkInts
import PyProof.SeqI3
import PyProof.Rows.SortRuns
import PyProof.Rows.SortShellK
import KE.KSortTup
import PyProof.WalksMore
import PySem.Challenge.RW_rooklands_k85_ways_that_lead
set_option Elab.async false
set_option linter.all false
set_option maxRecDepth 100000
namespace L2
open PySem PySem.Spec PyProof.Rows
abbrev Key:=Sum Int Str
def keyIs:Key->Value->Bool
  | .inl k,v=>Value.isInt k v
  | .inr x,v=>Value.isStrOf x v
def keyH (w:World):Key->Int
  | .inl k=>hashInt k
  | .inr x=>hashStr w x
theorem Qav:∀ {k:Key} {v:Value},keyIs k v=true->(∃ i t,k=Sum.inl i/\v=Value.int i t)∨(∃ x t,k=Sum.inr x/\v=Value.str x t)
  | .inl i,v,h=>by
    obtain ⟨t,e⟩:=Value.isInt_shape (k:=i) (v:=v) h
    exact .inl ⟨i,t,rfl,e⟩
  | .inr x,v,h=>by
    obtain ⟨t,e⟩:=Value.isStrOf_shape (x:=x) (v:=v) h
    exact .inr ⟨x,t,rfl,e⟩
theorem key_ll (a b:Int):decide ((Sum.inl a:Key)=Sum.inl b)=(a == b):=by
  by_cases e:a=b
  · subst e;simp
  · have h:¬ (Sum.inl a:Key)=Sum.inl b:=fun q=>e (Sum.inl.inj q)
    rw [decide_eq_false h]
    exact (beq_eq_false_iff_ne.mpr e).symm
theorem key_rr (a b:Str):decide ((Sum.inr a:Key)=Sum.inr b)=decide (a=b):=by
  by_cases e:a=b
  · subst e;simp
  · have h:¬ (Sum.inr a:Key)=Sum.inr b:=fun q=>e (Sum.inr.inj q)
    rw [decide_eq_false h,decide_eq_false e]
theorem key_lr (a:Int) (b:Str):decide ((Sum.inl a:Key)=Sum.inr b)=false:=decide_eq_false (fun q=>nomatch q)
theorem key_rl (a:Str) (b:Int):decide ((Sum.inr a:Key)=Sum.inl b)=false:=decide_eq_false (fun q=>nomatch q)
def QhG (prog:Program) (w:World):PySem.KeyKind prog w Key where
  is:=keyIs
  hash:=keyH w
  inj:=fun v a b ha hb=>by
    rcases Qav ha with ⟨i,t,rfl,rfl⟩ | ⟨x,t,rfl,rfl⟩
    · rcases Qav hb with ⟨j,u,rfl,e⟩ | ⟨y,u,rfl,e⟩
      · injection e with e1 _;rw [e1]
      · exact nomatch e
    · rcases Qav hb with ⟨j,u,rfl,e⟩ | ⟨y,u,rfl,e⟩
      · exact nomatch e
      · injection e with e1 _;rw [e1]
  byValue:=fun k v h=>by
    rcases Qav h with ⟨i,t,rfl,rfl⟩ | ⟨x,t,rfl,rfl⟩<;>rfl
  pyHash:=fun hv h=>by
    rcases Qav hv with ⟨i,t,rfl,rfl⟩ | ⟨x,t,rfl,rfl⟩
    · exact wpAny_pyHash_int h
    · exact wpAny_pyHash_str h
  eqBool:=fun hu hv h=>by
    rcases Qav hu with ⟨i,t,rfl,rfl⟩ | ⟨x,t,rfl,rfl⟩
    · rcases Qav hv with ⟨j,u,rfl,rfl⟩ | ⟨y,u,rfl,rfl⟩
      · rw [key_ll] at h;exact wpAny_eqBool_int h
      · rw [key_lr] at h;exact SeqAt.EqAt.int_str i t y u _ _ _ _ h
    · rcases Qav hv with ⟨j,u,rfl,rfl⟩ | ⟨y,u,rfl,rfl⟩
      · rw [key_rl] at h;exact SeqAt.EqAt.str_int x t j u _ _ _ _ h
      · rw [key_rr] at h;exact wpAny_eqBool_str h
  «strs» := fun k x t v h=>by
    rcases Qav h with ⟨i,u,rfl,e⟩ | ⟨y,u,rfl,e⟩
    · exact nomatch e
    · injection e with e1 _
      subst e1
      cases v<;>rfl
inductive V where
  | non | bl (b:Bool) | int (i:Int) | str (x:Str) | byt (b:Array UInt8) | flt (b:UInt64) | ref (a:Addr) | ty (n:String)
  deriving DecidableEq
def RelV:V->Value->Prop
  | .non,u=>u=Value.none
  | .bl b,u=>u=Value.bool b
  | .int i,u=>∃ t,u=Value.int i t
  | .str x,u=>∃ t,u=Value.str x t
  | .byt b,u=>∃ t,u=Value.bytes b t
  | .flt b,u=>∃ t,u=Value.float b t
  | .ref a,u=>u=Value.ref a
  | .ty n,u=>u=Value.type n
abbrev Vals:List V->List Value->Prop:=Paired RelV
theorem Vals.length {xs:List V} {us:List Value} (r:Vals xs us):xs.length=us.length:=Paired.length r
theorem Vals.get:∀ {xs:List V} {us:List Value} {i:Nat} {x:V},Vals xs us->xs[i]? = some x->∃ u,us[i]? = some u/\RelV x u
  | _,_,_,_,.nil,e=>by simp at e
  | _,_,0,_,.cons r _,e=>by simp at e;subst e;exact ⟨_,rfl,r⟩
  | _,_,i+1,x,.cons _ t,e=>by
    obtain ⟨u,h1,h2⟩:=Vals.get (i:=i) (x:=x) t (by simpa using e)
    exact ⟨u,by simpa using h1,h2⟩
theorem Vals.set {x:V} {u:Value} (r:RelV x u):∀ {xs:List V} {us:List Value} (i:Nat),Vals xs us->Vals (xs.set i x) (us.set i u)
  | _,_,_,.nil=>.nil
  | _,_,0,.cons _ t=>.cons r t
  | _,_,i+1,.cons q t=>.cons q (Vals.set r i t)
theorem Vals.append:∀ {xs ys:List V} {us ws:List Value},Vals xs us->Vals ys ws->Vals (xs++ys) (us++ws)
  | _,_,_,_,.nil,s=>s
  | _,_,_,_,.cons r t,s=>.cons r (Vals.append t s)
theorem Vals.take:∀ {xs:List V} {us:List Value} (n:Nat),Vals xs us->Vals (xs.take n) (us.take n)
  | _,_,0,_=>.nil
  | _,_,_+1,.nil=>.nil
  | _,_,n+1,.cons r t=>.cons r (Vals.take n t)
theorem Vals.drop:∀ {xs:List V} {us:List Value} (n:Nat),Vals xs us->Vals (xs.drop n) (us.drop n)
  | _,_,0,r=>r
  | _,_,_+1,.nil=>.nil
  | _,_,n+1,.cons _ t=>Vals.drop n t
def RelO:Option V->Option Value->Prop
  | some v,some u=>RelV v u
  | none,none=>True
  | _,_=>False
def KV {κ:Type}:List (κ×V)->List (κ×Value)->Prop:=Paired fun (p:κ×V) (q:κ×Value)=>p.1=q.1/\RelV p.2 q.2
def kV:Key->V
  | .inl i=>.int i
  | .inr x=>.str x
inductive HO where
  /-- a list -/
  | lst (xs:List V)
  /-- a tuple (never changes) -/
  | tup (xs:List V)
  /-- a dict whose keys are ints and texts;one whose keys are tuples of ints and texts (the empty one is both) -/
  | dK (kvs:List (Key×V)) | dT (kvs:List (List Key×V))
  /-- a set of ints: its members,its size -/
  | set (S:Int->Bool) (n:Nat)
  /-- an instance of the class at C,its dict at dx,its attributes -/
  | ins (C dx:Addr) (fs:List (Str×V))
  /-- the dict of the instance at x -/
  | own (x:Addr)
  /-- the dict of an exception -/
  | xd (fs:List (Str×V))
  /-- a bound method,f of x -/
  | met (f x:Addr)
  /-- a range object lo,lo+1,.. below hi -/
  | rng (lo hi:Int)
  /-- a thing that is known to the object (the script;a dict while a loop walks it): read,never written while it is so -/
  | frz (o:Obj) (u:HO)
  /-- a code object's table -/
  | tbl (ps:Array Value)
  /-- any other thing,by what is true of its one object (a def of one's own: SetO a S n:=HO.ext fun h=>..) -/
  | ext (φ:Heap->Prop)
abbrev Hp:=Addr->Option HO
def upd (H:Hp) (a:Addr) (o:HO):Hp:=fun b=>if b=a then some o else H b
theorem Qad {H:Hp} {a:Addr} {o:HO}:upd H a o a=some o:=by unfold upd;rw [if_pos rfl]
theorem Qai {H:Hp} {a b:Addr} {o:HO} (h:b≠a):upd H a o b=H b:=by unfold upd;rw [if_neg h]
theorem Qao {H:Hp} {a b:Addr} {o:HO} (h:H a=some o) (h':H b=none):a≠b:=by
  intro e;subst e;rw [h] at h';cases h'
section
variable (P:Program) (w:World)
def ObjOk (H:Hp) (h:Heap) (a:Addr):HO->Prop
  | .lst xs=>xs.length<=sizeLine/\∃ (its:List Value) (n:Nat),Vals xs its/\h.get? a=some { cls:=.type "list",data:=.seq its.toArray n }
  | .tup xs=>xs.length<=sizeLine/\∃ its:List Value,Vals xs its/\IsTup h a its.toArray
  | .dK kvs=>kvs.length<=sizeLine/\(a == sysModules)=false/\∃ vs,KV kvs vs/\h.DictOf (QhG P w) a vs
  | .dT kvs=>kvs.length<=sizeLine/\(a == sysModules)=false/\∃ xs:List (List Key×Addr×Value),
      Paired (fun (p:List Key×V) (q:List Key×Addr×Value)=>p.1=q.1/\H q.2.1=some (.tup (p.1.map kV))/\RelV p.2 q.2.2) kvs xs /\
      ∃ o es ep,h.get? a=some o/\o.ExactDict/\o.data=.dict es ep/\es.toList=xs.map (entryOfKey (tupleKind (QhG P w)))/\(xs.map (·.1)).Nodup
  | .set S n=>h.SetOf (intKind P w) a S n
  | .ins C dx fs=>H dx=some (.own a)/\fs.length<=1000/\dx≠a/\h.get? a=some (PySem.W.instObj C dx) /\
      ∃ mA,h.Ns1 dx mA/\(∀ f,RelO (fs.lookup f) (mA f))/\PySem.Within mA (fs.map (·.1))
  | .own _=>∃ o,h.get? a=some o
  | .xd fs=>∃ mA,h.Ns1 a mA/\∀ f,RelO (fs.lookup f) (mA f)
  | .rng lo hi=>∃ t u v,h.get? a=some { cls:=.type "range",data:=.fields #[.int lo t,.int hi u,.int 1 v] }
  | .frz o u=>h.get? a=some o/\ObjOk H h a u
  | .tbl ps=>h.get? a=some { cls:=.none,data:=.fields ps }
  | .met f x=>h.get? a=some (PySem.W.methodObj (.ref f) (.ref x))
  | .ext φ=>φ h/\(∃ o,h.get? a=some o)/\∀ h1 h2:Heap,φ h1->(∀ o,h1.get? a=some o->h2.get? a=some o)->φ h2
def HOk (H:Hp) (h:Heap):Prop:=∀ a o,H a=some o->ObjOk P w H h a o
end
section
variable {P:Program} {w:World} {H H':Hp} {h h':Heap} {a:Addr} {o:HO}
theorem ObjOk.lt (x:ObjOk P w H h a o):a<h.objs.size:=by
  cases o with
  | lst xs=>obtain ⟨_,_,_,_,e⟩:=x;exact Heap.lt_size e
  | tup xs=>obtain ⟨_,_,_,p⟩:=x;exact p.lt
  | dK kvs=>obtain ⟨_,_,_,_,o,_,_,e,_⟩:=x;exact Heap.lt_size e
  | dT kvs=>obtain ⟨_,_,_,_,o,_,_,e,_⟩:=x;exact Heap.lt_size e
  | set S n=>obtain ⟨o,_,_,_,e,_⟩:=x;exact Heap.lt_size e
  | ins C dx fs=>obtain ⟨_,_,_,e,_⟩:=x;exact Heap.lt_size e
  | own y=>obtain ⟨_,e⟩:=x;exact Heap.lt_size e
  | xd fs=>obtain ⟨_,⟨_,_,_,e,_⟩,_⟩:=x;exact Heap.lt_size e
  | rng lo hi=>obtain ⟨_,_,_,e⟩:=x;exact Heap.lt_size e
  | frz ob u=>obtain ⟨e,_⟩:=x;exact Heap.lt_size e
  | tbl ps=>exact Heap.lt_size (show h.get? a=some _ from x)
  | met f y=>exact Heap.lt_size (show h.get? a=some _ from x)
  | ext φ=>obtain ⟨_,⟨_,e⟩,_⟩:=x;exact Heap.lt_size e
theorem Paired.mapP {α β:Type} {F G:α->β->Prop}:∀ {l₁:List α} {l₂:List β},Paired F l₁ l₂->(∀ a b,F a b->G a b)->Paired G l₁ l₂
  | _,_,.nil,_=>.nil
  | _,_,.cons r t,f=>.cons (f _ _ r) (Paired.mapP t f)
theorem ObjOk.stay (x:ObjOk P w H h a o) (k:∀ b u,(b=a∨H b=some (.own a))->h.get? b=some u->h'.get? b=some u)
    (ho:∀ b,H b=some (.own a)->H' b=some (.own a)) (ht:∀ b xs,H b=some (.tup xs)->H' b=some (.tup xs)):ObjOk P w H' h' a o:=by
  induction o with
  | lst xs=>obtain ⟨z,its,n,r,e⟩:=x;exact ⟨z,its,n,r,k _ _ (.inl rfl) e⟩
  | tup xs=>obtain ⟨z,its,r,ob,e,c⟩:=x;exact ⟨z,its,r,ob,k _ _ (.inl rfl) e,c⟩
  | dK kvs=>obtain ⟨z,y,vs,r,ob,es,ep,e,c⟩:=x;exact ⟨z,y,vs,r,ob,es,ep,k _ _ (.inl rfl) e,c⟩
  | dT kvs=>
    obtain ⟨z,y,xs,r,ob,es,ep,e,c⟩:=x
    exact ⟨z,y,xs,Paired.mapP r fun p q z=>⟨z.1,ht _ _ z.2.1,z.2.2⟩,ob,es,ep,k _ _ (.inl rfl) e,c⟩
  | set S n=>obtain ⟨ob,es,ep,t,e,c⟩:=x;exact ⟨ob,es,ep,t,k _ _ (.inl rfl) e,c⟩
  | ins C dx fs=>
    obtain ⟨d,z,ne,e,mA,⟨od,es,ep,e2,c⟩,r⟩:=x
    exact ⟨ho _ d,z,ne,k _ _ (.inl rfl) e,mA,⟨od,es,ep,k _ _ (.inr d) e2,c⟩,r⟩
  | own y=>obtain ⟨ob,e⟩:=x;exact ⟨ob,k _ _ (.inl rfl) e⟩
  | xd fs=>obtain ⟨mA,⟨od,es,ep,e,c⟩,r⟩:=x;exact ⟨mA,⟨od,es,ep,k _ _ (.inl rfl) e,c⟩,r⟩
  | rng lo hi=>obtain ⟨t,u,v,e⟩:=x;exact ⟨t,u,v,k _ _ (.inl rfl) e⟩
  | frz ob u ih=>obtain ⟨e,q⟩:=x;exact ⟨k _ _ (.inl rfl) e,ih q⟩
  | tbl ps=>
    have e:h.get? a=some { cls:=.none,data:=.fields ps }:=x
    show h'.get? a=some { cls:=.none,data:=.fields ps }
    exact k a _ (.inl rfl) e
  | met f y=>
    have e:h.get? a=some (PySem.W.methodObj (.ref f) (.ref y)):=x
    show h'.get? a=some (PySem.W.methodObj (.ref f) (.ref y))
    exact k a _ (.inl rfl) e
  | ext φ=>obtain ⟨p,⟨o,e⟩,st⟩:=x;exact ⟨st _ _ p fun o q=>k _ _ (.inl rfl) q,⟨o,k _ _ (.inl rfl) e⟩,st⟩
theorem HOk.lt (x:HOk P w H h) (e:H a=some o):a<h.objs.size:=(x a o e).lt
theorem HOk.fresh (x:HOk P w H h) (e:h.objs.size<=a):H a=none:=by
  cases q:H a with
  | none=>rfl
  | some u=>exact absurd (Nat.lt_of_lt_of_le (x.lt q) e) (Nat.lt_irrefl _)
theorem HOk.kept (x:HOk P w H h) (k:∀ b u,h.get? b=some u->h'.get? b=some u):HOk P w H h':=fun a o e=>
  (x a o e).stay (fun b u _ q=>k b u q) (fun _ q=>q) fun _ _ q=>q
theorem HOk.laid (x:HOk P w H h) (k:∀ b u,h.get? b=some u->h'.get? b=some u) (hp:h.objs.size<=a) (new:ObjOk P w (upd H a o) h' a o):HOk P w (upd H a o) h':=fun b u e=>by
  have hn:=x.fresh hp
  by_cases hb:b=a
  · subst hb;rw [Qad] at e;cases e;exact new
  · rw [Qai hb] at e
    exact (x b u e).stay (fun c v _ q=>k c v q) (fun c q=>by rw [Qai (Qao q hn)];exact q) fun c xs q=>by rw [Qai (Qao q hn)];exact q
end
def Rd (H:Hp) (a:Addr) (u:HO):Prop:=H a=some u∨∃ o,H a=some (.frz o u)
theorem Rd.of {H:Hp} {a:Addr} {u:HO} (h:H a=some u):Rd H a u:=.inl h
theorem Rd.ok {P:Program} {w:World} {H:Hp} {h:Heap} {a:Addr} {u:HO} (r:Rd H a u) (x:HOk P w H h):ObjOk P w H h a u:=by
  rcases r with r | ⟨o,r⟩
  · exact x a u r
  · obtain ⟨_,q⟩:=x a _ r
    exact q
def Mut:Option HO->Prop
  | some (.lst _)=>True
  | some (.dK _)=>True
  | some (.dT _)=>True
  | some (.set _ _)=>True
  | some (.ins _ _ _)=>True
  | some (.ext _)=>True
  | _=>False
section
variable {P:Program} {w:World} {H:Hp} {h h':Heap} {x e:Addr} {o':HO}
theorem HOk.write (ok:HOk P w H h) (mu:Mut (H x)) (he:e=x∨H e=some (.own x)) (k:∀ b u,b≠e->h.get? b=some u->h'.get? b=some u) (heo:∃ u,h'.get? e=some u)
    (new:ObjOk P w (upd H x o') h' x o'):HOk P w (upd H x o') h':=fun b u q=>by
  have nown:∀ c y,H c=some (.own y)->c≠x:=fun c y r z=>by subst z;rw [r] at mu;exact mu
  have ntup:∀ c xs,H c=some (.tup xs)->c≠x:=fun c xs r z=>by subst z;rw [r] at mu;exact mu
  by_cases hb:b=x
  · subst hb;rw [Qad] at q;cases q;exact new
  · rw [Qai hb] at q
    by_cases hbe:b=e
    · have q':H b=some (.own x):=by
        rcases he with z | z
        · exact absurd (hbe.trans z) hb
        · rw [hbe];exact z
      rw [q] at q';cases q'
      obtain ⟨v,hv⟩:=heo
      exact ⟨v,by rw [hbe];exact hv⟩
    · refine (ok b u q).stay (fun c v hc r=>k c v ?_ r) (fun c r=>by rw [Qai (nown c b r)];exact r) fun c xs r=>by rw [Qai (ntup c xs r)];exact r
      rcases hc with rfl | hc
      · exact hbe
      · rintro rfl
        rcases he with z | z
        · exact nown c b hc z
        · rw [hc] at z;cases z;exact hb rfl
end
structure Un (fs ex:List Addr) (H H':Hp) (h h':Heap):Prop where
  keep:∀ b o,h.get? b=some o->H b=none->b∉fs->b∉ex->h'.get? b=some o
  slot:∀ b o,h.get? b=some o->H b=none->b∈fs->b∉ex->∃ sl,h'.get? b=some { o with slots:=sl }
  free:∀ b o,h.get? b=some o->H b=none->b∉ex->H' b=none
  there:∀ b o,h.get? b=some o->b∉ex->∃ o',h'.get? b=some o'
  tups:∀ b xs,H b=some (.tup xs)->H' b=some (.tup xs)
  frzs:∀ b o u,H b=some (.frz o u)->H' b=some (.frz o u)
  tbls:∀ b ps,H b=some (.tbl ps)->∃ more,H' b=some (.tbl (ps++more))
section
variable {fs fs' ex ex':List Addr} {H H1 H2:Hp} {h h1 h2 h':Heap} {a x e:Addr} {o:HO}
theorem Un.any (u:Un fs ex H H1 h h1) {b:Addr} {ob:Obj} (q:h.get? b=some ob) (n:H b=none) (hx:b∉ex):∃ sl,h1.get? b=some { ob with slots:=sl }:=by
  by_cases hb:b∈fs
  · exact u.slot b ob q n hb hx
  · exact ⟨ob.slots,u.keep b ob q n hb hx⟩
theorem Un.trans (a:Un fs ex H H1 h h1) (b:Un fs ex H1 H2 h1 h2):Un fs ex H H2 h h2 where
  keep:=fun c ob q n hc hx=>b.keep c ob (a.keep c ob q n hc hx) (a.free c ob q n hx) hc hx
  slot:=fun c ob q n hc hx=>by
    obtain ⟨sl,e1⟩:=a.slot c ob q n hc hx
    obtain ⟨sl',e2⟩:=b.slot c _ e1 (a.free c ob q n hx) hc hx
    exact ⟨sl',e2⟩
  free:=fun c ob q n hx=>by
    obtain ⟨o',e1⟩:=a.there c ob q hx
    exact b.free c o' e1 (a.free c ob q n hx) hx
  there:=fun c ob q hx=>by
    obtain ⟨o',e1⟩:=a.there c ob q hx
    exact b.there c o' e1 hx
  tups:=fun c xs q=>b.tups c xs (a.tups c xs q)
  frzs:=fun c ob xs q=>b.frzs c ob xs (a.frzs c ob xs q)
  tbls:=fun c ps q=>by
    obtain ⟨m1,e1⟩:=a.tbls c ps q
    obtain ⟨m2,e2⟩:=b.tbls c _ e1
    exact ⟨m1++m2,by rw [e2,Array.append_assoc]⟩
theorem Un.kept (k:∀ b u,h.get? b=some u->h'.get? b=some u):Un fs ex H H h h':=
  ⟨fun b ob q _ _ _=>k b ob q,fun b ob q _ _ _=>⟨ob.slots,k b ob q⟩,fun _ _ _ n _=>n,fun b ob q _=>⟨ob,k b ob q⟩,fun _ _ q=>q,fun _ _ _ q=>q,fun _ ps q=>⟨#[],by rw [q];simp⟩⟩
theorem Un.refl:Un fs ex H H h h:=Un.kept fun _ _ q=>q
theorem Un.laid (k:∀ b u,h.get? b=some u->h'.get? b=some u) (hp:h.objs.size<=a) (hn:H a=none):Un fs ex H (upd H a o) h h' where
  keep:=fun b u q _ _ _=>k b u q
  slot:=fun b u q _ _ _=>⟨u.slots,k b u q⟩
  free:=fun b u q n _=>by rw [Qai (Nat.ne_of_lt (Nat.lt_of_lt_of_le (Heap.lt_size q) hp))];exact n
  there:=fun b u q _=>⟨u,k b u q⟩
  tups:=fun b xs q=>by rw [Qai (Qao q hn)];exact q
  frzs:=fun b u xs q=>by rw [Qai (Qao q hn)];exact q
  tbls:=fun b ps q=>⟨#[],by rw [Qai (Qao q hn),q];simp⟩
theorem Un.write (mu:Mut (H x)) (he:e=x∨H e=some (.own x)) (k:∀ b u,b≠e->h.get? b=some u->h'.get? b=some u) (heo:∃ u,h'.get? e=some u):Un fs ex H (upd H x o) h h':=by
  have hx:∀ b,H b=none->b≠x:=fun b n z=>by subst z;rw [n] at mu;exact mu
  have hb:∀ b,H b=none->b≠e:=fun b n z=>by
    subst z
    rcases he with r | r
    · exact hx b n r
    · rw [n] at r;cases r
  have hm:∀ b u,H b=some u->¬ Mut (some u)->b≠x:=fun b u q nm z=>by subst z;rw [q] at mu;exact nm mu
  refine ⟨fun b u q n _ _=>k b u (hb b n) q,fun b u q n _ _=>⟨u.slots,k b u (hb b n) q⟩,fun b u q n _=>by rw [Qai (hx b n)];exact n,fun b u q _=>?_,
    fun b xs q=>by rw [Qai (hm b _ q fun z=>z)];exact q,fun b u xs q=>by rw [Qai (hm b _ q fun z=>z)];exact q,fun b ps q=>⟨#[],by rw [Qai (hm b _ q fun z=>z),q];simp⟩⟩
  by_cases hbe:b=e
  · subst hbe;exact heo
  · exact ⟨u,k b u hbe q⟩
theorem Un.mono (u:Un fs ex H H1 h h1) (hs:∀ b∈fs,b∈fs') (hx:∀ b∈ex,b∈ex'):Un fs' ex' H H1 h h1:=
  ⟨fun b ob q n hb he=>u.keep b ob q n (fun z=>hb (hs b z)) fun z=>he (hx b z),fun _ _ q n _ he=>u.any q n fun z=>he (hx _ z),fun b ob q n he=>u.free b ob q n fun z=>he (hx b z),fun b ob q he=>u.there b ob q fun z=>he (hx b z),u.tups,u.frzs,u.tbls⟩
end
def trk (h:Heap) (H:Hp):List Addr:=(List.range h.objs.size).filter fun a=>(H a).isSome
def hidT (h:Heap) (H:Hp):Heap:=PySem.W.hideAll h (trk h H)
theorem QhT (h:Heap) (H:Hp):(hidT h H).objs.size=h.objs.size:=PySem.W.hideAll_size _ _
theorem Qjv {h:Heap} {H:Hp} {b:Addr} {o:Obj} (e:h.get? b=some o) (n:H b=none):(hidT h H).get? b=some o:=
  PySem.W.hideAll_get _ e fun hm=>by
    have q:(H b).isSome=true:=(List.mem_filter.mp hm).2
    rw [n] at q;simp at q
theorem QlB {h:Heap} {H:Hp} {b:Addr} {o:Obj} (e:(hidT h H).get? b=some o):h.get? b=some o/\H b=none:=by
  have e':h.get? b=some o:=PySem.W.of_hideAll (trk h H) e
  refine ⟨e',?_⟩
  cases q:H b with
  | none=>rfl
  | some x=>
    have hm:b∈trk h H:=List.mem_filter.mpr ⟨List.mem_range.mpr (Heap.lt_size e'),by simp [q]⟩
    have z:(hidT h H).get? b=none:=PySem.W.hideAll_none (trk h H) hm
    rw [z] at e;cases e
def Ql6 (g h:Heap) (L:Addr):List (Addr×Obj):=(List.range h.objs.size).filterMap fun a=>if a=L∨(g.get? a).isSome=true then none else (h.get? a).map fun o=>(a,o)
def rest (g h:Heap) (L d:Addr):List (Addr×Obj):=(Ql6 g h L).filter fun p=>decide (p.1≠d)
structure Mod (K:PySem.W.Frag) (mg:Str->Option Value) (base:Heap):Prop where
  kin:K.In base
  glob:base.Ns mainGlobals mg
  blt:∃ mb,base.Ns builtinsNs mb/\∀ x:Str,x ≠ "__name__" -> mb x=bootBuiltins x
  nolimit:base.NoLimit
structure Cx where
  prog:Program
  w:World
  K:PySem.W.Frag
  mg:Str->Option Value
  base:Heap
  A:Around
  N:List Str
  s₀:Shared
  H₀:Hp
  env:Env
  outer:List Env
  stack:List Env
  ex:List Addr
  fn:Str->Bool
  calm:Bool
  pn:List (Addr×Obj)
  xe:Value->Shared->Prop
def frs (l:List Env):List Addr:=l.filterMap (·.frame)
abbrev Cx.fs (X:Cx):List Addr:=frs X.outer
def Vis (sc:Scope) (x:Str):Prop:=sc.names.lookup x=some .local∨sc.names.lookup x=some .cell∨sc.names.lookup x=some .free
def Loc (sc:Scope) (x:Str):Prop:=sc.names.lookup x=some .local∨sc.names.lookup x=some .cell
def Look (env:Env) (h:Heap) (m:Str->Option Value) (x:Str) (u:Value):Prop:=
  (env.kindOf x=some .local/\m x=some u)∨((env.kindOf x=some .cell∨env.kindOf x=some .free)/\∃ c,env.cells.lookup x=some c/\h.IsCell c (some u))
structure Cx.Ok (X:Cx):Prop where
  mod:Mod X.K X.mg X.base
  kind:X.env.scope.kind=.function
  glob:X.env.globals=mainGlobals
  blt:X.env.builtins=builtinsNs
  above:X.s₀.heap.objs.size<=X.env.locals
  inj:∀ x y c,X.env.cells.lookup x=some c->X.env.cells.lookup y=some c->x=y
  has:∀ x,(X.env.kindOf x=some .cell∨X.env.kindOf x=some .free)->∃ c,X.env.cells.lookup x=some c
  cab:∀ x c,X.fn x=true->X.env.cells.lookup x=some c->X.s₀.heap.objs.size<=c
  hd:X.calm=true->X.A.handled=none
  frames:X.A.frames=some X.stack
  stk:X.stack=X.outer∨(X.stack=X.env::X.outer/\X.env.frame=some X.env.locals)
  exf:∀ b∈X.ex,b≠X.env.locals/\∀ x c,X.env.cells.lookup x=some c->c≠b
  bs:∀ b o,X.base.get? b=some o->X.s₀.heap.get? b=some o/\X.H₀ b=none
  bsz:X.base.objs.size<=X.s₀.heap.objs.size
  noex:∀ b o,X.base.get? b=some o->b∉X.ex
  exfs:∀ b∈X.ex,b∉X.fs
  funs:X.s₀.heap.FunFrames X.base X.outer
  frf:∀ b∈X.fs,X.H₀ b=none
structure Inv (X:Cx) (pins:List (Addr×Obj)) (σ:List (Option V)) (H:Hp) (s:Shared):Prop where
  ok:X.Ok
  os:s.os=X.s₀.os
  bare:AllBare s.gens
  base:Un X.fs X.ex X.H₀ H X.s₀.heap s.heap
  loc:∃ m,s.heap.Ns X.env.locals m/\∀ (i:Nat) (x:Str) (v:V),X.N[i]? = some x->σ[i]? = some (some v)->Vis X.env.scope x->∃ u,RelV v u/\Look X.env s.heap m x u
  cell:∀ x c,X.env.cells.lookup x=some c->∃ v,s.heap.IsCell c v
  free:H X.env.locals=none
  freeC:∀ x c,X.env.cells.lookup x=some c->H c=none
  pin:∀ p∈X.pn++pins,s.heap.get? p.1=some p.2/\H p.1=none/\p.1≠X.env.locals/\p.1∉X.fs/\∀ v,p.2.data≠.cell v
  hok:HOk X.prog X.w H s.heap
  len:σ.length=X.N.length
section
variable {X:Cx} {pins:List (Addr×Obj)} {σ:List (Option V)} {H H':Hp} {s:Shared} {h':Heap}
theorem Cx.Ok.nofr (ok:X.Ok) {b:Addr} {o:Obj} (e:X.base.get? b=some o):b∉X.fs:=fun hb=>by
  have:=(ok.funs.mem hb).1
  rw [e] at this;cases this
theorem Inv.bs (I:Inv X pins σ H s):∀ b o,X.base.get? b=some o->s.heap.get? b=some o/\H b=none:=fun b o e=>
  ⟨I.base.keep b o (I.ok.bs b o e).1 (I.ok.bs b o e).2 (I.ok.nofr e) (I.ok.noex b o e),I.base.free b o (I.ok.bs b o e).1 (I.ok.bs b o e).2 (I.ok.noex b o e)⟩
theorem Inv.bk (I:Inv X pins σ H s):∀ b o,X.base.get? b=some o->s.heap.get? b=some o:=fun b o e=>(I.bs b o e).1
theorem Inv.mod (I:Inv X pins σ H s):Mod X.K X.mg X.base:=I.ok.mod
theorem Inv.kIn (I:Inv X pins σ H s):X.K.In s.heap:=I.ok.mod.kin.keeps I.bk
theorem Inv.nolimit (I:Inv X pins σ H s):s.heap.NoLimit:=I.ok.mod.nolimit.keeps I.bk
theorem Inv.fr (I:Inv X pins σ H s):∃ m,Fr X.base X.env.locals s.heap m:=
  let ⟨m,hn,_⟩:=I.loc
  ⟨m,hn,I.bk,Nat.le_trans I.ok.bsz I.ok.above⟩
theorem Inv.lt (I:Inv X pins σ H s):X.env.locals<s.heap.objs.size:=let ⟨_,hn,_⟩:=I.loc;hn.lt
theorem Inv.sz (I:Inv X pins σ H s):X.s₀.heap.objs.size<=s.heap.objs.size:=Nat.le_trans I.ok.above (Nat.le_of_lt I.lt)
theorem Inv.nofs (I:Inv X pins σ H s) {a:Addr} (h:s.heap.objs.size<=a):a∉X.fs:=fun hb=>by
  obtain ⟨_,o,ho,_⟩:=I.ok.funs.mem hb
  exact absurd (Nat.lt_of_lt_of_le (Heap.lt_size ho) (Nat.le_trans I.sz h)) (Nat.lt_irrefl _)
theorem Inv.cne (I:Inv X pins σ H s):∀ x c,X.env.cells.lookup x=some c->c≠X.env.locals:=fun x c e z=>by
  obtain ⟨v,o,ho,hd⟩:=I.cell x c e
  obtain ⟨m,⟨o',es,ep,ho',hd',_⟩,_⟩:=I.loc
  rw [z,ho'] at ho;cases ho;rw [hd'] at hd;cases hd
theorem Inv.funs (I:Inv X pins σ H s):s.heap.FunFrames X.base X.outer:=by
  have all:∀ (l:List Env),(∀ b∈frs l,b∈X.fs)->X.s₀.heap.FunFrames X.base l->s.heap.FunFrames X.base l:=by
    intro l
    induction l with
    | nil=>intro _ _;trivial
    | cons env r ih=>
      intro hs hl
      obtain ⟨hk,⟨L,o,hf,hn,ho,hd⟩,hr⟩:=hl
      have hL:L∈X.fs:=hs L (by unfold frs;rw [List.filterMap_cons,hf];exact List.mem_cons_self)
      obtain ⟨sl,e⟩:=I.base.slot L o ho (I.ok.frf L hL) hL fun z=>I.ok.exfs L z hL
      exact ⟨hk,⟨L,_,hf,hn,e,hd⟩,ih (fun b hb=>hs b (by unfold frs;rw [List.filterMap_cons,hf];exact List.mem_cons_of_mem _ hb)) hr⟩
  exact all X.outer (fun _ hb=>hb) I.ok.funs
theorem Inv.stack (I:Inv X pins σ H s):s.heap.FunFrames X.base X.stack:=by
  rcases I.ok.stk with e | ⟨e,hf⟩
  · rw [e];exact I.funs
  · rw [e]
    obtain ⟨m,hn,_⟩:=I.loc
    refine .cons (by rw [I.ok.kind];decide) hf hn ?_ I.funs
    exact Heap.get?_none_of_le (Nat.le_trans I.ok.bsz I.ok.above)
theorem Inv.stkSub (I:Inv X pins σ H s):∀ b∈frs X.stack,b∈X.env.locals::X.fs:=fun b hb=>by
  rcases I.ok.stk with e | ⟨e,hf⟩
  · rw [e] at hb;exact List.mem_cons_of_mem _ hb
  · rw [e] at hb
    unfold frs at hb
    rw [List.filterMap_cons,hf] at hb
    exact hb
theorem Inv.stkFree (I:Inv X pins σ H s):∀ b∈frs X.stack,H b=none:=fun b hb=>by
  rcases List.mem_cons.mp (I.stkSub b hb) with e | hb
  · rw [e];exact I.free
  · obtain ⟨_,o,ho,_⟩:=I.ok.funs.mem hb
    exact I.base.free b o ho (I.ok.frf b hb) fun z=>I.ok.exfs b z hb
theorem Inv.step {g':Array GenState} {t':Nat} {d':Drawn} {ch:List Addr} (I:Inv X pins σ H s)
    (hch:∀ b∈ch,(b∈X.ex∨X.s₀.heap.objs.size<=b)/\b≠X.env.locals/\(∀ x c,X.env.cells.lookup x=some c->c≠b)/\∀ p∈X.pn++pins,p.1≠b)
    (keep:∀ b o,b≠X.env.locals->b∉X.fs->b∉ch->s.heap.get? b=some o->H b=none->h'.get? b=some o)
    (slot:∀ b o,b≠X.env.locals->b∈X.fs->b∉ch->s.heap.get? b=some o->H b=none->∃ sl,h'.get? b=some { o with slots:=sl }) (free:∀ b o,b∉ch->s.heap.get? b=some o->H b=none->H' b=none)
    (there:∀ b o,b∉ch->s.heap.get? b=some o->∃ o',h'.get? b=some o')
    (tups:∀ b xs,H b=some (.tup xs)->H' b=some (.tup xs)) (frzs:∀ b o u,H b=some (.frz o u)->H' b=some (.frz o u)) (tbls:∀ b ps,H b=some (.tbl ps)->∃ more,H' b=some (.tbl (ps++more)))
    (ns:∀ m,s.heap.Ns X.env.locals m->h'.Ns X.env.locals m) (hok:HOk X.prog X.w H' h') (hg:AllBare g') :
    Inv X pins σ H' { s with heap:=h',gens:=g',drawn:=d',toks:=t' }:=by
  have neL:∀ b o,X.s₀.heap.get? b=some o->b≠X.env.locals:=fun b o e=>Nat.ne_of_lt (Nat.lt_of_lt_of_le (Heap.lt_size e) I.ok.above)
  have neC:∀ b o,X.s₀.heap.get? b=some o->b∉X.ex->b∉ch:=fun b o e hx hb=>by
    rcases (hch b hb).1 with z | z
    · exact hx z
    · exact absurd (Nat.lt_of_lt_of_le (Heap.lt_size e) z) (Nat.lt_irrefl _)
  have cellK:∀ x c,X.env.cells.lookup x=some c->∀ v,s.heap.IsCell c v->h'.IsCell c v:=fun x c e v ⟨o,ho,hd⟩=>by
    have nch:c∉ch:=fun z=>(hch c z).2.2.1 x c e rfl
    by_cases hc:c∈X.fs
    · obtain ⟨sl,q⟩:=slot c o (I.cne x c e) hc nch ho (I.freeC x c e)
      exact ⟨_,q,hd⟩
    · exact ⟨o,keep c o (I.cne x c e) hc nch ho (I.freeC x c e),hd⟩
  refine ⟨I.ok,I.os,hg,⟨fun b o e n hb hx=>?_,fun b o e n hb hx=>?_,fun b o e n hx=>?_,fun b o e hx=>?_,fun b xs e=>tups b xs (I.base.tups b xs e),fun b o xs e=>frzs b o xs (I.base.frzs b o xs e),fun b ps e=>?_⟩,?_,fun x c e=>?_,?_,fun x c e=>?_,fun p hp=>?_,hok,I.len⟩
  · exact keep b o (neL b o e) hb (neC b o e hx) (I.base.keep b o e n hb hx) (I.base.free b o e n hx)
  · obtain ⟨sl,e1⟩:=I.base.slot b o e n hb hx
    obtain ⟨sl',e2⟩:=slot b _ (neL b o e) hb (neC b o e hx) e1 (I.base.free b o e n hx)
    exact ⟨sl',e2⟩
  · obtain ⟨o',e1⟩:=I.base.there b o e hx
    exact free b o' (neC b o e hx) e1 (I.base.free b o e n hx)
  · obtain ⟨o',e1⟩:=I.base.there b o e hx
    exact there b o' (neC b o e hx) e1
  · obtain ⟨m1,e1⟩:=I.base.tbls b ps e
    obtain ⟨m2,e2⟩:=tbls b _ e1
    exact ⟨m1++m2,by rw [e2,Array.append_assoc]⟩
  · obtain ⟨m,hn,hl⟩:=I.loc
    refine ⟨m,ns m hn,fun i x v e1 e2 e3=>?_⟩
    obtain ⟨u,r,l⟩:=hl i x v e1 e2 e3
    refine ⟨u,r,?_⟩
    rcases l with l | ⟨k,c,e,z⟩
    · exact .inl l
    · exact .inr ⟨k,c,e,cellK x c e _ z⟩
  · obtain ⟨v,z⟩:=I.cell x c e
    exact ⟨v,cellK x c e v z⟩
  · obtain ⟨m,⟨o,_,_,ho,_⟩,_⟩:=I.loc
    exact free _ o (fun z=>(hch _ z).2.1 rfl) ho I.free
  · obtain ⟨v,o,ho,hd⟩:=I.cell x c e
    exact free c o (fun z=>(hch c z).2.2.1 x c e rfl) ho (I.freeC x c e)
  · obtain ⟨e,n,ne,nf,d⟩:=I.pin p hp
    have nch:p.1∉ch:=fun z=>(hch p.1 z).2.2.2 p hp rfl
    exact ⟨keep p.1 p.2 ne nf nch e n,free p.1 p.2 nch e n,ne,nf,d⟩
theorem Inv.un {t':Nat} (I:Inv X pins σ H s) (u:Un X.fs [] H H' s.heap h') (hok:HOk X.prog X.w H' h'):Inv X pins σ H' { s with heap:=h',toks:=t' }:=by
  obtain ⟨m,⟨o,es,ep,ho,r⟩,_⟩:=id I.loc
  obtain ⟨sl,hL⟩:=u.any ho I.free (by simp)
  exact I.step (g':=s.gens) (d':=s.drawn) (ch:=[]) (fun _ z=>nomatch z) (fun b o _ hb _ e n=>u.keep b o e n hb (by simp)) (fun b o _ hb _ e n=>u.slot b o e n hb (by simp)) (fun b o _ e n=>u.free b o e n (by simp)) (fun b o _ e=>u.there b o e (by simp)) u.tups u.frzs u.tbls (fun m' hm=>by
    obtain ⟨o',es',ep',ho',r'⟩:=hm
    rw [ho] at ho';cases ho'
    exact ⟨_,es',ep',hL,r'⟩) hok I.bare
theorem Inv.call {g':Array GenState} {t':Nat} {d':Drawn} {ch:List Addr} (I:Inv X pins σ H s) (u:Un (frs X.stack) ch H H' s.heap h') (hok:HOk X.prog X.w H' h') (hg:AllBare g')
    (hch:∀ b∈ch,(b∈X.ex∨X.s₀.heap.objs.size<=b)/\b≠X.env.locals/\(∀ x c,X.env.cells.lookup x=some c->c≠b)/\∀ p∈X.pn++pins,p.1≠b) :
    Inv X pins σ H' { s with heap:=h',gens:=g',drawn:=d',toks:=t' }:=by
  obtain ⟨m,⟨o,es,ep,ho,r⟩,_⟩:=id I.loc
  obtain ⟨sl,hL⟩:=u.any ho I.free fun z=>(hch _ z).2.1 rfl
  exact I.step (ch:=ch) hch (fun b o hL hb hc e n=>u.keep b o e n (fun z=>(List.mem_cons.mp (I.stkSub b z)).elim hL hb) hc) (fun b o _ _ hc e n=>u.any e n hc) (fun b o hc e n=>u.free b o e n hc) (fun b o hc e=>u.there b o e hc) u.tups u.frzs u.tbls (fun m' hm=>by
    obtain ⟨o',es',ep',ho',r'⟩:=hm
    rw [ho] at ho';cases ho'
    exact ⟨_,es',ep',hL,r'⟩) hok hg
theorem Inv.turned {t':Nat} {it:Addr} (I:Inv X pins σ H s) (k:∀ b o,b≠it->s.heap.get? b=some o->h'.get? b=some o) (hn:H it=none) (hL:it≠X.env.locals)
    (h1:it∈X.ex∨X.s₀.heap.objs.size<=it) (h2:∀ x c,X.env.cells.lookup x=some c->c≠it) (h3:∀ p∈X.pn++pins,p.1≠it):Inv X pins σ H { s with heap:=h',toks:=t' }:=by
  have nit:∀ b u,H b=some u->b≠it:=fun b u e z=>by rw [z,hn] at e;cases e
  refine I.step (g':=s.gens) (d':=s.drawn) (ch:=[it]) (fun b hb=>?_) (fun b o _ _ hc e _=>k b o (fun z=>hc (by simp [z])) e) (fun b o _ _ hc e _=>⟨o.slots,k b o (fun z=>hc (by simp [z])) e⟩) (fun _ _ _ _ n=>n)
    (fun b o hc e=>⟨o,k b o (fun z=>hc (by simp [z])) e⟩) (fun _ _ e=>e) (fun _ _ _ e=>e) (fun b ps e=>⟨#[],by rw [e];simp⟩) (fun m hm=>?_) (fun b u e=>?_) I.bare
  · have e:b=it:=by simpa using hb
    subst e
    exact ⟨h1,hL,h2,h3⟩
  · obtain ⟨o,es,ep,ho,r⟩:=hm
    exact ⟨o,es,ep,k _ o (Ne.symm hL) ho,r⟩
  · refine (I.hok b u e).stay (fun c v hc q=>k c v ?_ q) (fun _ q=>q) fun _ _ q=>q
    rcases hc with z | z
    · rw [z];exact nit b u e
    · exact nit c _ z
theorem Inv.tok (I:Inv X pins σ H s) (t:Nat):Inv X pins σ H { s with toks:=t }:=I.un (h':=s.heap) (t':=t) Un.refl I.hok
theorem Inv.kept {t':Nat} (I:Inv X pins σ H s) (k:∀ b u,s.heap.get? b=some u->h'.get? b=some u):Inv X pins σ H { s with heap:=h',toks:=t' }:=I.un (Un.kept k) (I.hok.kept k)
theorem Inv.laid {a:Addr} {o:HO} {t':Nat} (I:Inv X pins σ H s) (k:∀ b u,s.heap.get? b=some u->h'.get? b=some u) (hp:s.heap.objs.size<=a) (new:ObjOk X.prog X.w (upd H a o) h' a o) :
    Inv X pins σ (upd H a o) { s with heap:=h',toks:=t' }:=I.un (Un.laid k hp (I.hok.fresh hp)) (I.hok.laid k hp new)
theorem Inv.write {x e:Addr} {o:HO} {t':Nat} (I:Inv X pins σ H s) (mu:Mut (H x)) (he:e=x∨H e=some (.own x)) (k:∀ b u,b≠e->s.heap.get? b=some u->h'.get? b=some u) (heo:∃ u,h'.get? e=some u)
    (new:ObjOk X.prog X.w (upd H x o) h' x o):Inv X pins σ (upd H x o) { s with heap:=h',toks:=t' }:=I.un (Un.write mu he k heo) (I.hok.write mu he k heo new)
theorem Inv.weak {σ':List (Option V)} (I:Inv X pins σ H s) (hl:σ'.length=σ.length) (w:∀ (i:Nat) v,σ'[i]? = some (some v)->σ[i]? = some (some v)):Inv X pins σ' H s:=
  ⟨I.ok,I.os,I.bare,I.base,let ⟨m,hn,hl'⟩:=I.loc;⟨m,hn,fun i x v e1 e2 e3=>hl' i x v e1 (w i v e2) e3⟩,I.cell,I.free,I.freeC,I.pin,I.hok,hl.trans I.len⟩
theorem Inv.pins_of {pins':List (Addr×Obj)} (I:Inv X pins σ H s) (h:∀ p∈pins',s.heap.get? p.1=some p.2/\H p.1=none/\p.1≠X.env.locals/\p.1∉X.fs/\∀ v,p.2.data≠.cell v):Inv X pins' σ H s:=
  ⟨I.ok,I.os,I.bare,I.base,I.loc,I.cell,I.free,I.freeC,fun p hp=>(List.mem_append.mp hp).elim (fun z=>I.pin p (List.mem_append_left _ z)) (h p),I.hok,I.len⟩
theorem QfR {N:List Str} (hN:N.Nodup) {i j:Nat} {x:Str} (a:N[i]? = some x) (b:N[j]? = some x):i=j:=by
  obtain ⟨h1,e1⟩:=List.getElem?_eq_some_iff.mp a
  obtain ⟨h2,e2⟩:=List.getElem?_eq_some_iff.mp b
  exact (List.getElem_inj hN).mp (e1.trans e2.symm)
theorem Qek {M:Model} {A:Around} {E:Value->Shared->Prop} {i:Nat} {x:Str} {v:V} {u:Value} {Q:Unit->Shared->Prop} (I:Inv X pins σ H s) (hN:X.N.Nodup) (hi:X.N[i]? = some x) (hx:Loc X.env.scope x) (r:RelV v u)
    (h:∀ s',Inv X pins (σ.set i (some v)) H s'->(∃ a,Heap.SameBut a s.heap s'.heap/\(a=X.env.locals∨X.env.cells.lookup x=some a))->Q () s') (hf:X.fn x=true∨X.env.scope.names.lookup x=some .local:=by first | exact .inl rfl | exact .inr rfl | assumption):wpAny M A (storeName X.env x u) Q E s:=by
  obtain ⟨m,hn,hl⟩:=id I.loc
  have hcls:(X.env.scope.kind == .class||(X.env.scope.kind == .module&&X.env.locals != X.env.globals))=false:=by rw [I.ok.kind];rfl
  have hiσ:i < σ.length:=by rw [I.len];exact (List.getElem?_eq_some_iff.mp hi).1
  have cne:=I.cne
  have tracked:∀ {a:Addr} {h':Heap},(∃ o,s.heap.get? a=some o/\H a=none)->Heap.SameBut a s.heap h'->HOk X.prog X.w H h':=fun {a h'} ha hs b ob e=>by
    obtain ⟨_,_,hfree⟩:=ha
    refine (I.hok b ob e).stay (fun c w' hc q=>(hs.2 c ?_).trans q) (fun _ q=>q) fun _ _ q=>q
    rintro rfl
    rcases hc with rfl | hc
    · rw [hfree] at e;cases e
    · rw [hfree] at hc;cases hc
  rcases hx with hk | hk
  · refine wpAny_storeName_local hk hn (fun h' hn' hs=>?_) hcls
    obtain ⟨oL,_,_,hoL,_⟩:=id hn
    refine h _ ⟨I.ok,I.os,I.bare,⟨fun b o e n hb hx=>?_,fun b o e n hb hx=>?_,I.base.free,fun b o e hx=>?_,I.base.tups,I.base.frzs,I.base.tbls⟩,⟨_,hn',fun j y v' e1 e2 e3=>?_⟩,fun y c e=>?_,I.free,I.freeC,fun p hp=>?_,tracked ⟨oL,hoL,I.free⟩ hs,by simpa using I.len⟩ ⟨_,hs,.inl rfl⟩
    · exact (hs.2 b (Nat.ne_of_lt (Nat.lt_of_lt_of_le (Heap.lt_size e) I.ok.above))).trans (I.base.keep b o e n hb hx)
    · obtain ⟨sl,e1⟩:=I.base.slot b o e n hb hx
      exact ⟨sl,(hs.2 b (Nat.ne_of_lt (Nat.lt_of_lt_of_le (Heap.lt_size e) I.ok.above))).trans e1⟩
    · obtain ⟨o',e1⟩:=I.base.there b o e hx
      exact ⟨o',(hs.2 b (Nat.ne_of_lt (Nat.lt_of_lt_of_le (Heap.lt_size e) I.ok.above))).trans e1⟩
    · by_cases hj:j=i
      · subst hj
        rw [hi] at e1;cases e1
        rw [List.getElem?_set_self hiσ] at e2
        cases e2
        exact ⟨u,r,.inl ⟨hk,by simp⟩⟩
      · rw [List.getElem?_set_ne (Ne.symm hj)] at e2
        obtain ⟨u',r',q⟩:=hl j y v' e1 e2 e3
        refine ⟨u',r',?_⟩
        rcases q with ⟨k,e⟩ | ⟨k,c,e,z⟩
        · refine .inl ⟨k,?_⟩
          have:y≠x:=fun e=>hj (QfR hN e1 (e ▸ hi))
          simp [this,e]
        · exact .inr ⟨k,c,e,z.sameBut hs (cne y c e)⟩
    · obtain ⟨w',z⟩:=I.cell y c e
      exact ⟨w',z.sameBut hs (cne y c e)⟩
    · obtain ⟨e,n,ne,nf,d⟩:=I.pin p hp
      exact ⟨(hs.2 p.1 ne).trans e,n,ne,nf,d⟩
  · have hfn:X.fn x=true:=by
      rcases hf with z | z
      · exact z
      · rw [z] at hk;cases hk
    obtain ⟨c,hc⟩:=I.ok.has x (.inl hk)
    obtain ⟨w',z⟩:=I.cell x c hc
    refine wpAny_storeName_cell I.ok.kind hk hc z (fun h' hc' hs=>?_)
    obtain ⟨oc,hoc,hocd⟩:=id z
    refine h { s with heap:=h' } ⟨I.ok,I.os,I.bare,⟨fun b o e n hb hx=>?_,fun b o e n hb hx=>?_,I.base.free,fun b o e hx=>?_,I.base.tups,I.base.frzs,I.base.tbls⟩,⟨m,hn.sameBut hs (Ne.symm (cne x c hc)),fun j y v' e1 e2 e3=>?_⟩,fun y c' e=>?_,I.free,I.freeC,fun p hp=>?_,tracked ⟨oc,hoc,I.freeC x c hc⟩ hs,by simpa using I.len⟩ ⟨c,hs,.inr hc⟩
    · exact (hs.2 b (Nat.ne_of_lt (Nat.lt_of_lt_of_le (Heap.lt_size e) (I.ok.cab x c hfn hc)))).trans (I.base.keep b o e n hb hx)
    · obtain ⟨sl,e1⟩:=I.base.slot b o e n hb hx
      exact ⟨sl,(hs.2 b (Nat.ne_of_lt (Nat.lt_of_lt_of_le (Heap.lt_size e) (I.ok.cab x c hfn hc)))).trans e1⟩
    · obtain ⟨o',e1⟩:=I.base.there b o e hx
      exact ⟨o',(hs.2 b (Nat.ne_of_lt (Nat.lt_of_lt_of_le (Heap.lt_size e) (I.ok.cab x c hfn hc)))).trans e1⟩
    · by_cases hj:j=i
      · subst hj
        rw [hi] at e1;cases e1
        rw [List.getElem?_set_self hiσ] at e2
        cases e2
        exact ⟨u,r,.inr ⟨.inl hk,c,hc,hc'⟩⟩
      · rw [List.getElem?_set_ne (Ne.symm hj)] at e2
        obtain ⟨u',r',q⟩:=hl j y v' e1 e2 e3
        refine ⟨u',r',?_⟩
        rcases q with q | ⟨k,c',e,z'⟩
        · exact .inl q
        · refine .inr ⟨k,c',e,z'.sameBut hs ?_⟩
          rintro rfl
          exact hj (QfR hN e1 (I.ok.inj _ _ _ e hc ▸ hi))
    · by_cases hcc:c'=c
      · subst hcc;exact ⟨_,hc'⟩
      · obtain ⟨w2,z2⟩:=I.cell y c' e
        exact ⟨w2,z2.sameBut hs hcc⟩
    · obtain ⟨e,n,ne,nf,d⟩:=I.pin p hp
      refine ⟨(hs.2 p.1 ?_).trans e,n,ne,nf,d⟩
      intro q
      rw [q,hoc] at e
      have q':oc=p.2:=Option.some.inj e
      exact d w' (by rw [<- q'];exact hocd)
theorem QcF {M:Model} {A:Around} {E:Value->Shared->Prop} {i:Nat} {x:Str} {v:V} {u:Value} {Q:Unit->Shared->Prop} (I:Inv X pins σ H s) (hN:X.N.Nodup) (hi:X.N[i]? = some x) (hx:Loc X.env.scope x) (r:RelV v u)
    (h:∀ s',Inv X pins (σ.set i (some v)) H s'->Q () s') (hf:X.fn x=true∨X.env.scope.names.lookup x=some .local:=by first | exact .inl rfl | exact .inr rfl | assumption):wpAny M A (storeName X.env x u) Q E s:=
  Qek I hN hi hx r (fun s' I' _=>h s' I') hf
theorem Inv.call' {s':Shared} {ch:List Addr} (I:Inv X pins σ H s) (ho:s'.os=s.os) (u:Un (frs X.stack) ch H H' s.heap s'.heap) (hok:HOk X.prog X.w H' s'.heap) (hg:AllBare s'.gens)
    (hch:∀ b∈ch,(b∈X.ex∨X.s₀.heap.objs.size<=b)/\b≠X.env.locals/\(∀ x c,X.env.cells.lookup x=some c->c≠b)/\∀ p∈X.pn++pins,p.1≠b):Inv X pins σ H' s':=by
  obtain ⟨h',g',d',t',o'⟩:=s'
  have e:o'=s.os:=ho
  subst e
  exact I.call (g':=g') (t':=t') (d':=d') u hok hg hch
end
abbrev XK:=Value->Option Addr->Hp->Prop
abbrev St:=List (Option V)
abbrev VK:=V->Hp->Prop
abbrev TE:=St->Hp->VK->Prop
abbrev TT:=St->Hp->(Bool->Hp->Prop)->Prop
abbrev TA:=St->Hp->(List V->Hp->Prop)->Prop
structure Ends where
  nx:St->Hp->Prop
  rt:VK
  bk:St->Hp->Prop:=fun _ _=>False
  ct:St->Hp->Prop:=fun _ _=>False
abbrev TS:=Ends->St->Hp->Prop
def EP (X:Cx) (pins:List (Addr×Obj)) (σ:St) (Q:VK) (u:Value) (s':Shared):Prop:=∃ v H',Inv X pins σ H' s'/\RelV v u/\Q v H'
def TP (X:Cx) (pins:List (Addr×Obj)) (σ:St) (Q:Bool->Hp->Prop) (b:Bool) (s':Shared):Prop:=∃ H',Inv X pins σ H' s'/\Q b H'
def AP (X:Cx) (pins:List (Addr×Obj)) (σ:St) (Q:List V->Hp->Prop) (us:List Value) (s':Shared):Prop:=∃ vs H',Inv X pins σ H' s'/\Vals vs us/\Q vs H'
def SP (X:Cx) (pins:List (Addr×Obj)) (D:Ends) (f:Flow) (s':Shared):Prop:=
  match f with
  | .next=>∃ σ' H',Inv X pins σ' H' s'/\D.nx σ' H'
  | .brk=>∃ σ' H',Inv X pins σ' H' s'/\D.bk σ' H'
  | .cont=>∃ σ' H',Inv X pins σ' H' s'/\D.ct σ' H'
  | .ret u=>∃ v σ' H',Inv X pins σ' H' s'/\RelV v u/\D.rt v H'
def PE (X:Cx) (e:Expr) (t:TE):Prop:=
  ∀ (pins:List (Addr×Obj)) (s:Shared) (σ:St) (H:Hp) (Q:VK),Inv X pins σ H s->t σ H Q->wpAny (model X.prog X.w) X.A (eval e X.env) (EP X pins σ Q) X.xe s
def PT (X:Cx) (e:Expr) (t:TT):Prop:=
  ∀ (pins:List (Addr×Obj)) (s:Shared) (σ:St) (H:Hp) (Q:Bool->Hp->Prop),Inv X pins σ H s->t σ H Q->wpAny (model X.prog X.w) X.A (isTrue e X.env (eval e X.env)) (TP X pins σ Q) X.xe s
def PW (X:Cx) (e:Expr) (t:TT):Prop:=
  ∀ (whole:Sem Value) (pins:List (Addr×Obj)) (s:Shared) (σ:St) (H:Hp) (Q:Bool->Hp->Prop),Inv X pins σ H s->t σ H Q->wpAny (model X.prog X.w) X.A (isTrue e X.env whole) (TP X pins σ Q) X.xe s
theorem PW.pt {X:Cx} {e:Expr} {t:TT} (h:PW X e t):PT X e t:=h _
def PA (X:Cx) (es:List Expr) (t:TA):Prop:=
  ∀ (pos:Pos) (pins:List (Addr×Obj)) (s:Shared) (σ:St) (H:Hp) (Q:List V->Hp->Prop),Inv X pins σ H s->t σ H Q->wpAny (model X.prog X.w) X.A (spliced (backTo pos (starEach es X.env))) (AP X pins σ Q) X.xe s
def PS (X:Cx) (st:Stmt) (t:TS):Prop:=
  ∀ (pins:List (Addr×Obj)) (s:Shared) (σ:St) (H:Hp) (D:Ends),Inv X pins σ H s->t D σ H->wpAny (model X.prog X.w) X.A (exec st X.env) (SP X pins D) X.xe s
def PSs (X:Cx) (st:List Stmt) (t:TS):Prop:=
  ∀ (pins:List (Addr×Obj)) (s:Shared) (σ:St) (H:Hp) (D:Ends),Inv X pins σ H s->t D σ H->wpAny (model X.prog X.w) X.A (execs st X.env) (SP X pins D) X.xe s
theorem thn {α:Type} {t:Sem α} {Q Q':α->Shared->Prop} {M:Model} {A:Around} {E:Value->Shared->Prop} {s:Shared} (h:wpAny M A t Q E s) (hQ:∀ a s,Q a s->Q' a s):wpAny M A t Q' E s:=wpAny_mono h hQ fun _ _ x=>x
section
variable {X:Cx}
theorem bin {a b:Expr} {ta tb:TE} (ha:PE X a ta) (hb:PE X b tb) {pins:List (Addr×Obj)} {s:Shared} {σ:St} {H:Hp} {R:V->V->Hp->Prop} (I:Inv X pins σ H s) (h:ta σ H fun x H1=>tb σ H1 fun y H2=>R x y H2)
    {α:Type} {Q:α->Shared->Prop} {f:Value->Value->Sem α}
    (hf:∀ v u s2 x y H2,Inv X pins σ H2 s2->RelV x v->RelV y u->R x y H2->wpAny (model X.prog X.w) X.A (f v u) Q X.xe s2) :
    wpAny (model X.prog X.w) X.A (eval a X.env) (fun v s₁=>wpAny (model X.prog X.w) X.A (eval b X.env) (fun u s₂=>wpAny (model X.prog X.w) X.A (f v u) Q X.xe s₂) X.xe s₁) X.xe s:=by
  refine thn (ha pins s σ H _ I h) fun v s1 ⟨x,H1,I1,r1,q1⟩=>?_
  refine thn (hb pins s1 σ H1 _ I1 q1) fun u s2 ⟨y,H2,I2,r2,q2⟩=>?_
  exact hf v u s2 x y H2 I2 r1 r2 q2
def tVar (i:Nat):TE:=fun σ H Q=>∃ v,σ[i]? = some (some v)/\Q v H
def tC (v:V):TE:=fun _ H Q=>Q v H
theorem pe_var {i:Nat} {x:Str} {pos:Pos} (hN:X.N[i]? = some x) (hv:Vis X.env.scope x) (hd:(x == ("__debug__" : Str))=false:=by decide) (hcd:(x == ("__classdict__" : Str))=false:=by decide):PE X (.Name x pos) (tVar i):=by
  intro pins s σ H Q I h
  obtain ⟨v,e,h⟩:=h
  obtain ⟨m,hn,hl⟩:=I.loc
  obtain ⟨u,r,l⟩:=hl i x v hN e hv
  have fin:EP X pins σ Q u s:=⟨v,H,I,r,h⟩
  rcases l with ⟨hk,hm⟩ | ⟨hk,c,hc,hcell⟩
  · exact wpAny_Name (wpAny_loadName_local I.ok.kind hk hn hm fin) hd
  · rcases hk with hk | hk
    · exact wpAny_Name (wpAny_loadName_cell I.ok.kind hk hc hcell fin) hd
    · exact wpAny_Name (wpAny_loadName_free I.ok.kind hk hc hcell fin hcd) hd
theorem QaE {i j pos}:PE X (.Constant (.int i) j pos) (tC (.int i)):=fun _ _ _ H _ I h=>wpAny_Constant_int ⟨.int i,H,I.tok _,⟨_,rfl⟩,h⟩
theorem pe_bl {b j pos}:PE X (.Constant (.bool b) j pos) (tC (.bl b)):=fun _ _ _ H _ I h=>Constant_bool ⟨.bl b,H,I,rfl,h⟩
theorem pe_non {j pos}:PE X (.Constant .none j pos) (tC .non):=fun _ _ _ H _ I h=>Constant_none ⟨.non,H,I,rfl,h⟩
theorem pe_str {x j pos}:PE X (.Constant (.str x) j pos) (tC (.str x)):=fun _ _ _ H _ I h=>Calls.Constant_str ⟨.str x,H,I.tok _,⟨_,rfl⟩,h⟩
def Gl (X:Cx) (x:Str):Prop:=X.env.kindOf x=some .globalImplicit
theorem QlH {E:Value->Shared->Prop} {pins:List (Addr×Obj)} {s:Shared} {σ:St} {H:Hp} {x:Str} {u:Value} {pos:Pos} {Q:Value->Shared->Prop} (I:Inv X pins σ H s) (hg:Gl X x) (hm:X.mg x=some u) (h:Q u s)
    (hd:(x == ("__debug__" : Str))=false:=by decide):wpAny (model X.prog X.w) X.A (eval (.Name x pos) X.env) Q E s:=
  Calls.Name_function_global I.ok.kind hg (Calls.loadGlobal_global (by rw [I.ok.glob];exact I.mod.glob.keeps I.bk) hm h) hd
theorem Qdt {E:Value->Shared->Prop} {pins:List (Addr×Obj)} {s:Shared} {σ:St} {H:Hp} {x:Str} {u:Value} {pos:Pos} {Q:Value->Shared->Prop} (I:Inv X pins σ H s) (hg:Gl X x) (hm:X.mg x=none) (hv:bootBuiltins x=some u) (h:Q u s)
    (hn:x ≠ "__name__" := by decide) (hd:(x == ("__debug__" : Str))=false:=by decide):wpAny (model X.prog X.w) X.A (eval (.Name x pos) X.env) Q E s:=by
  obtain ⟨mb,h1,h2⟩:=I.mod.blt
  exact Calls.Name_function_global I.ok.kind hg (Calls.loadGlobal_builtin (by rw [I.ok.glob];exact I.mod.glob.keeps I.bk) hm (by rw [I.ok.blt];exact h1.keeps I.bk) ((h2 x hn).trans hv) h) hd
theorem Qk9 {x:Str} {v:V} {u:Value} {pos:Pos} (hg:Gl X x) (hm:X.mg x=none) (hv:bootBuiltins x=some u) (r:RelV v u) (hn:x ≠ "__name__" := by decide) (hd:(x == ("__debug__" : Str))=false:=by decide):PE X (.Name x pos) (tC v):=
  fun _ _ _ H _ I h=>Qdt I hg hm hv ⟨v,H,I,r,h⟩ hn hd
variable {a b:Expr} {ta tb:TE} {pos:Pos}
def PC (X:Cx) (op:CmpOp) (a b:Expr) (t:TE):Prop:=
  ∀ (pins:List (Addr×Obj)) (s:Shared) (σ:St) (H:Hp) (Q:VK),Inv X pins σ H s->t σ H Q ->
    wpAny (model X.prog X.w) X.A (eval a X.env) (fun v s₁=>wpAny (model X.prog X.w) X.A (eval b X.env) (fun u s₂=>wpAny (model X.prog X.w) X.A (compareOp op v u) (EP X pins σ Q) X.xe s₂) X.xe s₁) X.xe s
theorem Qjj (b:Expr) {op:CmpOp} (h:op≠.In) (h2:op≠.NotIn):behindInMarks op b=false:=by
  have e1:(op == CmpOp.In)=false:=by cases op<;>first | rfl | exact absurd rfl h
  have e2:(op == CmpOp.NotIn)=false:=by cases op<;>first | rfl | exact absurd rfl h2
  cases b<;>simp [behindInMarks,e1,e2]
def tB (t:TE):TT:=fun σ H Q=>t σ H fun x H1=>∃ c,x=.bl c/\Q c H1
theorem pt_cmp {op:CmpOp} {t:TE} (h:PC X op a b t) (h1:behindInMarks op b=false:=by first | exact Qjj _ (by decide) (by decide) | rfl):PT X (.Compare a [op] [b] pos) (tB t):=by
  intro pins s σ H Q I hw
  refine wpAny_isTrue_Compare1 (thn (h pins s σ H _ I hw) fun v s1 h1=>thn h1 fun u s2 h2=>thn h2 fun c s3 ⟨x,H1,I1,r1,q1⟩=>?_) h1
  obtain ⟨d,rfl,q⟩:=q1
  cases r1
  exact wpAny_truthy_bool ⟨H1,I1,q⟩
theorem pt_val {e:Expr} {t:TE} (h:PE X e t) (he:∀ whole,isTrue e X.env whole=(do let v <- whole;standAt e.pos;holding [v] (truthy v)):=by intro _;rfl):PT X e (tB t):=by
  intro pins s σ H Q I hw
  refine isTrue_plain (thn (h pins s σ H _ I hw) fun v s1 ⟨x,H1,I1,r1,q1⟩=>?_) (he _)
  obtain ⟨d,rfl,q⟩:=q1
  cases r1
  exact wpAny_truthy_bool ⟨H1,I1,q⟩
variable {tA tB':TT} {rest:List Expr}
def tOr (t u:TT):TT:=fun σ H Q=>t σ H fun c H1=>if c=true then Q true H1 else u σ H1 Q
def tNot (t:TT):TT:=fun σ H Q=>t σ H fun c H1=>Q (!c) H1
theorem pw_or1 (ha:PT X a tA):PW X (.BoolOp .Or [a] pos) tA:=by
  intro wh pins s σ H Q I h
  refine isTrue_or (thn (ha pins s σ H Q I h) fun c s1 e=>?_)
  cases c with
  | false=>exact isTrue_or_nil e
  | true=>exact e
theorem pw_or (ha:PT X a tA) (hb:PW X (.BoolOp .Or (b::rest) pos) tB'):PW X (.BoolOp .Or (a::b::rest) pos) (tOr tA tB'):=by
  intro wh pins s σ H Q I h
  refine isTrue_or (thn (ha pins s σ H _ I h) fun c s1 ⟨H1,I1,q1⟩=>?_)
  cases c with
  | true=>exact ⟨H1,I1,q1⟩
  | false=>exact hb wh pins s1 σ H1 Q I1 q1
theorem pt_not (ha:PT X a tA):PT X (.UnaryOp .Not a pos) (tNot tA):=by
  intro pins s σ H Q I h
  exact isTrue_not (ha pins s σ H (fun c H1=>Q (!c) H1) I h)
def tAndV (ta tb:TE):TE:=fun σ H Q=>ta σ H fun x H1=>∃ c,x=.bl c/\if c=true then tb σ H1 Q else Q (.bl false) H1
def tNotV (ta:TE):TE:=fun σ H Q=>ta σ H fun x H1=>∃ c,x=.bl c/\Q (.bl (!c)) H1
theorem pe_one {op} {t:TE} (h:PE X a t):PE X (.BoolOp op [a] pos) t:=fun pins s σ H Q I hw=>BoolOp_one (h pins s σ H Q I hw)
theorem pe_and (ha:PE X a ta) (hb:PE X (.BoolOp .And (b::rest) pos) tb):PE X (.BoolOp .And (a::b::rest) pos) (tAndV ta tb):=by
  intro pins s σ H Q I h
  refine BoolOp_and (thn (ha pins s σ H _ I h) fun v s1 ⟨x,H1,I1,r1,q1⟩=>?_)
  obtain ⟨c,rfl,q1⟩:=q1
  cases r1
  refine wpAny_truthy_bool ?_
  cases c with
  | true=>exact hb pins s1 σ H1 Q I1 q1
  | false=>exact ⟨.bl false,H1,I1,rfl,q1⟩
theorem pe_not (ha:PE X a ta):PE X (.UnaryOp .Not a pos) (tNotV ta):=by
  intro pins s σ H Q I h
  refine UnaryOp_ (thn (ha pins s σ H _ I h) fun v s1 ⟨x,H1,I1,r1,q1⟩=>?_)
  obtain ⟨c,rfl,q1⟩:=q1
  cases r1
  exact not_of (wpAny_truthy_bool ⟨.bl (!c),H1,I1,rfl,q1⟩)
end
def SqL (K:PySem.W.Frag) (H:Hp) (a:Addr) (xs:List V):Prop:=
  Rd H a (.lst xs) ∨
    ∃ (o:Obj) (its:Array Value) (n:Nat),K.lookup a=some o/\o.cls=.type "list" /\ o.dict=none/\o.data=.seq its n/\its.size<=sizeLine/\Vals xs its.toList
def SqT (K:PySem.W.Frag) (H:Hp) (a:Addr) (xs:List V):Prop:=
  Rd H a (.tup xs) ∨
    ∃ (o:Obj) (its:Array Value) (n:Nat),K.lookup a=some o/\o.cls=.type "tuple" /\ o.data=.seq its n/\its.size<=sizeLine/\Vals xs its.toList
def absV:Value->Option V
  | .none=>some .non
  | .bool b=>some (.bl b)
  | .int i _=>some (.int i)
  | .str x _=>some (.str x)
  | .bytes b _=>some (.byt b)
  | .float b _=>some (.flt b)
  | .ref a=>some (.ref a)
  | .type n=>some (.ty n)
  | _=>none
theorem RelV.abs {x:V} {u:Value} (r:RelV x u):absV u=some x:=by
  cases x with
  | non=>cases r;rfl
  | bl _=>cases r;rfl
  | int _=>obtain ⟨t,rfl⟩:=r;rfl
  | str _=>obtain ⟨t,rfl⟩:=r;rfl
  | byt _=>obtain ⟨t,rfl⟩:=r;rfl
  | flt _=>obtain ⟨t,rfl⟩:=r;rfl
  | ref _=>cases r;rfl
  | ty _=>cases r;rfl
theorem RelV.inj {x y:V} {u:Value} (r:RelV x u) (q:RelV y u):x=y:=Option.some.inj (r.abs.symm.trans q.abs)
theorem Vals.inj:∀ {xs ys:List V} {us:List Value},Vals xs us->Vals ys us->xs=ys
  | _,_,_,.nil,.nil=>rfl
  | _,_,_,.cons r t,.cons r' t'=>by rw [r.inj r',Vals.inj t t']
section
variable {X:Cx} {pins:List (Addr×Obj)} {σ:St} {H:Hp} {s:Shared} {a:Addr} {xs ys:List V}
theorem SqL.of {K:PySem.W.Frag} (h:H a=some (.lst xs)):SqL K H a xs:=.inl (.inl h)
theorem SqT.of {K:PySem.W.Frag} (h:H a=some (.tup xs)):SqT K H a xs:=.inl (.inl h)
theorem Inv.list (I:Inv X pins σ H s) (h:SqL X.K H a xs):∃ its:List Value,Vals xs its/\PlainL s.heap a its.toArray/\xs.length<=sizeLine:=by
  rcases h with h | ⟨o,its,n,hk,hc,hd,hs,hz,r⟩
  · obtain ⟨z,its,n,r,e⟩:=h.ok I.hok
    exact ⟨its,r,⟨_,n,e,rfl,rfl,rfl⟩,z⟩
  · refine ⟨its.toList,r,⟨o,n,I.kIn a o hk,hc,hd,by simpa using hs⟩,?_⟩
    have e:=r.length
    simp only [Array.length_toList] at e
    omega
theorem Inv.tuple (I:Inv X pins σ H s) (h:SqT X.K H a xs):∃ its:List Value,Vals xs its/\IsTup s.heap a its.toArray/\xs.length<=sizeLine:=by
  rcases h with h | ⟨o,its,n,hk,hc,hs,hz,r⟩
  · obtain ⟨z,its,r,p⟩:=h.ok I.hok
    exact ⟨its,r,p,z⟩
  · refine ⟨its.toList,r,⟨o,I.kIn a o hk,hc,n,by simpa using hs⟩,?_⟩
    have e:=r.length
    simp only [Array.length_toList] at e
    omega
theorem Inv.list_inj (I:Inv X pins σ H s) (h:SqL X.K H a xs) (h':SqL X.K H a ys):xs=ys:=by
  obtain ⟨its,r,⟨o,n,e,_,_,d⟩,_⟩:=I.list h
  obtain ⟨its',r',⟨o',n',e',_,_,d'⟩,_⟩:=I.list h'
  rw [e] at e';cases e'
  rw [d] at d'
  injection d' with d1 _
  have:its=its':=by simpa using congrArg Array.toList d1
  subst this
  exact r.inj r'
theorem Inv.tuple_inj (I:Inv X pins σ H s) (h:SqT X.K H a xs) (h':SqT X.K H a ys):xs=ys:=by
  obtain ⟨its,r,⟨o,e,_,n,d⟩,_⟩:=I.tuple h
  obtain ⟨its',r',⟨o',e',_,n',d'⟩,_⟩:=I.tuple h'
  rw [e] at e';cases e'
  rw [d] at d'
  injection d' with d1 _
  have:its=its':=by simpa using congrArg Array.toList d1
  subst this
  exact r.inj r'
end
abbrev Cx.wish (X:Cx) (E:Value->Shared->Prop):Cx:={ X with xe:=E }
abbrev Cx.nox (X:Cx):Cx:=X.wish fun _ _=>False
theorem Cx.Ok.wish {X:Cx} (ok:X.Ok) (E:Value->Shared->Prop):(X.wish E).Ok:=
  ⟨ok.mod,ok.kind,ok.glob,ok.blt,ok.above,ok.inj,ok.has,ok.cab,ok.hd,ok.frames,ok.stk,ok.exf,ok.bs,ok.bsz,ok.noex,ok.exfs,ok.funs,ok.frf⟩
theorem Cx.Ok.unwish {X:Cx} {E:Value->Shared->Prop} (ok:(X.wish E).Ok):X.Ok:=
  ⟨ok.mod,ok.kind,ok.glob,ok.blt,ok.above,ok.inj,ok.has,ok.cab,ok.hd,ok.frames,ok.stk,ok.exf,ok.bs,ok.bsz,ok.noex,ok.exfs,ok.funs,ok.frf⟩
section
variable {X:Cx} {pins:List (Addr×Obj)} {σ:St} {H:Hp} {s:Shared} {E:Value->Shared->Prop}
theorem Inv.wish (I:Inv X pins σ H s) (E:Value->Shared->Prop):Inv (X.wish E) pins σ H s:=⟨I.ok.wish E,I.os,I.bare,I.base,I.loc,I.cell,I.free,I.freeC,I.pin,I.hok,I.len⟩
theorem Inv.unwish (I:Inv (X.wish E) pins σ H s):Inv X pins σ H s:=⟨I.ok.unwish,I.os,I.bare,I.base,I.loc,I.cell,I.free,I.freeC,I.pin,I.hok,I.len⟩
theorem SP.unwish {D:Ends} {f:Flow} {s':Shared} (h:SP (X.wish E) pins D f s'):SP X pins D f s':=by
  cases f with
  | next=>obtain ⟨σ',H',I,q⟩:=h;exact ⟨σ',H',I.unwish,q⟩
  | brk=>obtain ⟨σ',H',I,q⟩:=h;exact ⟨σ',H',I.unwish,q⟩
  | cont=>obtain ⟨σ',H',I,q⟩:=h;exact ⟨σ',H',I.unwish,q⟩
  | ret u=>obtain ⟨v,σ',H',I,r,q⟩:=h;exact ⟨v,σ',H',I.unwish,r,q⟩
theorem PE.nox {e:Expr} {t:TE} (h:PE X.nox e t):PE X e t:=fun pins s σ H Q I hw=>
  wpAny_mono (h pins s σ H Q (I.wish _) hw) (fun _ _ ⟨v,H',I',r,q⟩=>⟨v,H',I'.unwish,r,q⟩) fun _ _ z=>False.elim z
theorem PT.nox {e:Expr} {t:TT} (h:PT X.nox e t):PT X e t:=fun pins s σ H Q I hw=>
  wpAny_mono (h pins s σ H Q (I.wish _) hw) (fun _ _ ⟨H',I',q⟩=>⟨H',I'.unwish,q⟩) fun _ _ z=>False.elim z
theorem PSs.nox {st:List Stmt} {t:TS} (h:PSs X.nox st t):PSs X st t:=fun pins s σ H D I hw=>
  wpAny_mono (h pins s σ H D (I.wish _) hw) (fun _ _ q=>q.unwish) fun _ _ z=>False.elim z
end
section
variable {X:Cx} {st:Stmt} {rest:List Stmt} {t u:TS} {e:Expr} {te:TE} {pos:Pos}
def tNext:TS:=fun D σ H=>D.nx σ H
def tSeq (t u:TS):TS:=fun D σ H=>t { D with nx:=u D } σ H
theorem Qff:PSs X [] tNext:=fun _ _ σ H _ I h=>wpAny_execs_nil ⟨σ,H,I,h⟩
theorem QaM (h1:PS X st t) (h2:PSs X rest u):PSs X (st::rest) (tSeq t u):=by
  intro pins s σ H D I h
  refine wpAny_execs_cons (thn (h1 pins s σ H { D with nx:=u D } I h) fun f s1 q=>?_)
  cases f with
  | next=>
    obtain ⟨σ',H',I',q⟩:=q
    exact h2 pins s1 σ' H' D I' q
  | ret v=>exact q
  | brk=>exact q
  | cont=>exact q
theorem Qbx (h1:PS X st t):PSs X [st] t:=by
  intro pins s σ H D I h
  refine wpAny_execs_cons (thn (h1 pins s σ H D I h) fun f s1 q=>?_)
  cases f with
  | next=>exact wpAny_execs_nil q
  | ret v=>exact q
  | brk=>exact q
  | cont=>exact q
theorem Inv.quiet {pins:List (Addr×Obj)} {σ:St} {H:Hp} {s:Shared} (I:Inv X pins σ H s):interactive X.env=false:=by simp [interactive,I.ok.kind]
def tDrop (te:TE):TS:=fun D σ H=>te σ H fun _ H1=>D.nx σ H1
theorem QkZ (he:PE X e te) (hs:swapsWith e none pos.line X.env=pure false:=by rfl):PS X (.Expr e pos) (tDrop te):=by
  intro pins s σ H D I h
  exact wpAny_Expr_any (thn (he pins s σ H _ I h) fun v s1 ⟨x,H1,I1,r1,q1⟩=>⟨σ,H1,I1,q1⟩) I.quiet hs
def tRet (te:TE):TS:=fun D σ H=>te σ H D.rt
theorem Qcx (he:PE X e te):PS X (.Return (some e) pos) (tRet te):=by
  intro pins s σ H D I h
  exact wpAny_Return_some (thn (he pins s σ H _ I h) fun v s1 ⟨x,H1,I1,r1,q1⟩=>⟨x,σ,H1,I1,r1,q1⟩)
def tIfS (c:TT) (t u:TS):TS:=fun D σ H=>c σ H fun b H1=>if b=true then t D σ H1 else u D σ H1
theorem QkY {c:Expr} {a b:List Stmt} {tc:TT} (hc:PT X c tc) (ha:PSs X a t) (hb:PSs X b u):PS X (.If c a b pos) (tIfS tc t u):=by
  intro pins s σ H D I h
  refine wpAny_If (thn (hc pins s σ H _ I h) fun d s1 ⟨H1,I1,q1⟩=>?_)
  cases d with
  | true=>exact ha pins s1 σ H1 D I1 q1
  | false=>exact hb pins s1 σ H1 D I1 q1
end
abbrev TG:=V->St->Hp->(St->Hp->Prop)->Prop
abbrev TGs:=List V->St->Hp->(St->Hp->Prop)->Prop
def PG (X:Cx) (target:Expr) (t:TG):Prop:=
  ∀ (pins:List (Addr×Obj)) (s:Shared) (σ:St) (H:Hp) (v:V) (u:Value) (Q:St->Hp->Prop),Inv X pins σ H s->RelV v u->t v σ H Q ->
    wpAny (model X.prog X.w) X.A (assign target X.env u) (fun _ s'=>∃ σ' H',Inv X pins σ' H' s'/\Q σ' H') X.xe s
def PGs (X:Cx) (ts:List Expr) (t:TGs):Prop:=
  ∀ (pins:List (Addr×Obj)) (s:Shared) (σ:St) (H:Hp) (vs:List V) (us:List Value) (Q:St->Hp->Prop),Inv X pins σ H s->Vals vs us->t vs σ H Q ->
    wpAny (model X.prog X.w) X.A (assignInOrder ((assignEach ts X.env).map (·.2)) us) (fun _ s'=>∃ σ' H',Inv X pins σ' H' s'/\Q σ' H') X.xe s
abbrev TSet:=V->V->V->Hp->(Hp->Prop)->Prop
def PSet (X:Cx) (t:TSet):Prop:=
  ∀ (pins:List (Addr×Obj)) (s:Shared) (σ:St) (H:Hp) (o i v:V) (ov iv u:Value) (Q:Hp->Prop),Inv X pins σ H s->RelV o ov->RelV i iv->RelV v u->t o i v H Q ->
    wpAny (model X.prog X.w) X.A (setItem ov iv u) (fun _ s'=>∃ H',Inv X pins σ H' s'/\Q H') X.xe s
abbrev TIp:=V->V->Hp->VK->Prop
def PIp (X:Cx) (op:Operator) (t:TIp):Prop:=
  ∀ (pins:List (Addr×Obj)) (s:Shared) (σ:St) (H:Hp) (x y:V) (v u:Value) (Q:VK),Inv X pins σ H s->RelV x v->RelV y u->t x y H Q ->
    wpAny (model X.prog X.w) X.A (inplaceOp op v u) (EP X pins σ Q) X.xe s
section
variable {X:Cx} {pos:Pos}
def Qdd (i:Nat):TG:=fun v σ H Q=>Q (σ.set i (some v)) H
theorem QdS {i:Nat} {x:Str} (hN:X.N.Nodup) (hi:X.N[i]? = some x) (hx:Loc X.env.scope x) (hf:X.fn x=true∨X.env.scope.names.lookup x=some .local:=by first | exact .inl rfl | exact .inr rfl | assumption):PG X (.Name x pos) (Qdd i):=by
  intro pins s σ H v u Q I r h
  exact wpAny_assign_Name (QcF I hN hi hx r (fun s' I'=>⟨_,H,I',h⟩) hf)
def gNil:TGs:=fun vs σ H Q=>vs=[]/\Q σ H
def QjA (t:TG) (u:TGs):TGs:=fun vs σ H Q=>∃ v r,vs=v::r/\t v σ H fun σ' H'=>u r σ' H' Q
theorem Qhe:PGs X [] gNil:=by
  intro pins s σ H vs us Q I r h
  obtain ⟨e,h⟩:=h
  subst e
  cases r
  exact assignInOrder_nil ⟨σ,H,I,h⟩
theorem QdR {e:Expr} {es:List Expr} {t:TG} {u:TGs} (h1:PG X e t) (h2:PGs X es u)
    (hs:(assignEach (e::es) X.env).map (·.2)=assign e X.env::(assignEach es X.env).map (·.2):=by rfl):PGs X (e::es) (QjA t u):=by
  intro pins s σ H vs us Q I r h
  obtain ⟨v,vr,e1,h⟩:=h
  subst e1
  cases r with
  | cons r rr=>
    rw [hs]
    refine assignInOrder_cons (thn (h1 pins s σ H _ _ _ I r h) fun _ s1 ⟨σ1,H1,I1,q1⟩=>?_)
    exact h2 pins s1 σ1 H1 _ _ Q I1 rr q1
def gTup (K:PySem.W.Frag) (n:Nat) (t:TGs):TG:=fun v σ H Q=>∃ a xs,v=.ref a/\SqT K H a xs/\xs.length=n/\t xs σ H Q
theorem Qj3 {es:List Expr} {k:Nat} {t:TGs} {n:Nat} (hc:X.calm=true) (h:PGs X es t)
    (hn:(assignEach es X.env).length=n:=by rfl) (hst:(assignEach es X.env).findIdx? (·.1)=none:=by rfl):PG X (.Tuple es k pos) (gTup X.K n t):=by
  intro pins s σ H v u Q I r hw
  obtain ⟨a,xs,e1,hq,hl,hw⟩:=hw
  subst e1
  cases r
  obtain ⟨its,rv,ht,hz⟩:=I.tuple hq
  refine assign_Tuple_tuple (I.ok.hd hc) ht (by simp [hn,<- hl,rv.length]) hst fun h' hx=>?_
  have I1:Inv X pins σ H { s with heap:=h' }:=I.kept (t':=s.toks) fun b o e=>hx b o (Nat.ne_of_lt (Heap.lt_size e)) e
  exact h pins _ σ H xs _ Q I1 (by simpa using rv) hw
def gSub (to ti:TE) (t:TSet):TG:=fun v σ H Q=>to σ H fun o H1=>ti σ H1 fun i H2=>t o i v H2 fun H3=>Q σ H3
theorem Qhf {o i:Expr} {to ti:TE} {t:TSet} (ho:PE X o to) (hi:PE X i ti) (hs:PSet X t)
    (ha:∀ v,assign (.Subscript o i pos) X.env v=(do
      let ov <- holding [v] (eval o X.env)
      let iv <- holding [v,ov] (eval i X.env)
      standAt pos
      holding [v,ov,iv] (setItem ov iv v)
      release [v,ov,iv] []):=by intro _;rfl):PG X (.Subscript o i pos) (gSub to ti t):=by
  intro pins s σ H v u Q I r h
  rw [ha]
  refine wpAny_bind (wpAny_holding (thn (ho pins s σ H _ I h) fun ov s1 ⟨x,H1,I1,r1,q1⟩=>?_))
  refine wpAny_bind (wpAny_holding (thn (hi pins s1 σ H1 _ I1 q1) fun iv s2 ⟨y,H2,I2,r2,q2⟩=>?_))
  refine wpAny_bind (wpAny_standAt (wpAny_bind (wpAny_holding (thn (hs pins s2 σ H2 x y v ov iv u _ I2 r1 r2 r q2) fun _ s3 ⟨H3,I3,q3⟩=>?_))))
  exact wpAny_release ⟨σ,H3,I3,q3⟩
def tAsg (te:TE) (g:TG):TS:=fun D σ H=>te σ H fun x H1=>g x σ H1 D.nx
theorem Qha {tg e:Expr} {te:TE} {g:TG} (he:PE X e te) (hg:PG X tg g) (hs:swapsWithSole [tg] e pos.line X.env=pure false:=by rfl) (hw:swappedStores [tg] e X.env=pure none:=by rfl)
    (h1:(assignEach [tg] X.env).map (·.2)=[assign tg X.env]:=by rfl):PS X (.Assign [tg] e pos) (tAsg te g):=by
  intro pins s σ H D I h
  refine wpAny_Assign_stores (thn (he pins s σ H _ I h) fun v s1 ⟨x,H1,I1,r1,q1⟩=>?_) hs hw
  rw [h1]
  exact thn (hg pins s1 σ H1 x v _ I1 r1 q1) fun _ s2 q=>q
theorem Qb8 {i:Nat} {x:Str} {e:Expr} {te:TE} {pos':Pos} (hN:X.N.Nodup) (hi:X.N[i]? = some x) (hx:Loc X.env.scope x) (he:PE X e te) (hs:swapsWith e (some (.Name x pos')) pos.line X.env=pure false:=by rfl) (hf:X.fn x=true∨X.env.scope.names.lookup x=some .local:=by first | exact .inl rfl | exact .inr rfl | assumption) :
    PS X (.Assign [.Name x pos'] e pos) (tAsg te (Qdd i)):=by
  intro pins s σ H D I h
  refine wpAny_Assign_Name (thn (he pins s σ H _ I h) fun v s1 ⟨y,H1,I1,r1,q1⟩=>?_) hs
  exact QcF I1 hN hi hx r1 (fun s2 I2=>⟨_,H1,I2,q1⟩) hf
def tPar (i j:Nat) (ta:TA):TS:=fun D σ H=>ta σ H fun vs H1=>∃ v w,vs=[v,w]/\D.nx ((σ.set i (some v)).set j (some w)) H1
theorem ps_par {i j:Nat} {x y:Str} {a b:Expr} {ta:TA} {px py pt:Pos} {kt k2 pt2} (hc:X.calm=true) (hN:X.N.Nodup) (hi:X.N[i]? = some x) (hj:X.N[j]? = some y) (hij:i≠j)
    (hx:X.env.scope.names.lookup x=some .local) (hy:X.env.scope.names.lookup y=some .local) (ha:PA X [a,b] ta)
    (hw:swappedStores [.Tuple [.Name x px,.Name y py] kt pt] (.Tuple [a,b] k2 pt2) X.env=pure (some [x,y]))
    (hs:swapsWithSole [.Tuple [.Name x px,.Name y py] kt pt] (.Tuple [a,b] k2 pt2) pos.line X.env=pure false:=by rfl) :
    PS X (.Assign [.Tuple [.Name x px,.Name y py] kt pt] (.Tuple [a,b] k2 pt2) pos) (tPar i j ta):=by
  intro pins s σ H D I h
  rw [exec_Assign_arm]
  refine wpAny_bind (wpAny_standAt ?_)
  rw [hs]
  refine wpAny_bind (wpAny_pure ?_)
  rw [if_neg (by decide)]
  refine wpAny_bind (Tuple_ (thn (ha _ pins s σ H _ I h) fun us s1 ⟨vs,H1,I1,r1,q1⟩=>?_))
  obtain ⟨v,w,e1,q1⟩:=q1
  subst e1
  obtain ⟨u1,u2,rfl,rv,rw'⟩:∃ u1 u2,us=[u1,u2]/\RelV v u1/\RelV w u2:=by
    cases r1 with
    | cons p q=>
      cases q with
      | cons p' q'=>
        cases q'
        exact ⟨_,_,rfl,p,p'⟩
  refine wpAny_newObj_type ?_ (by show 2<=sizeLine;decide)
  have I2:Inv X pins σ H1 { s1 with heap:=s1.heap.push { cls:=.type "tuple",data:=.seq [u1,u2].toArray } }:=I1.kept (t':=s1.toks) fun b o e=>Heap.get?_push_of_some _ e
  rw [hw]
  refine wpAny_bind (wpAny_pure ?_)
  show wpAny (model X.prog X.w) X.A (do rule "assign.swapped-stores";let items <- unpackItems (.ref s1.heap.objs.size) 2 none;assignInOrder [fun v=>bindName X.env y v,fun v=>bindName X.env x v] items.reverse;pure Flow.next) _ _ _
  refine wpAny_bind (wpAny_rule (wpAny_bind (unpackItems_tuple (items:=#[u1,u2]) (I.ok.hd hc) (IsTup.new s1.heap _) fun h' hx'=>?_)))
  have I3:=I2.kept (h':=h') (t':=s1.toks) fun b o e=>hx' b o (Nat.ne_of_lt (Heap.lt_size e)) e
  show wpAny _ _ (assignInOrder [fun v=>bindName X.env y v,fun v=>bindName X.env x v] [u2,u1] >>= fun _=>pure Flow.next) _ _ _
  refine wpAny_bind (assignInOrder_cons (wpAny_bindName (QcF I3 hN hj (.inl hy) rw' (fun s2 I4=>?_) (.inr hy))))
  refine assignInOrder_cons (wpAny_bindName (QcF I4 hN hi (.inl hx) rv (fun s3 I5=>assignInOrder_nil (wpAny_pure ?_)) (.inr hx)))
  rw [List.set_comm _ _ (Ne.symm hij)] at I5
  exact ⟨_,H1,I5,q1⟩
end
section
variable {X:Cx} {pos:Pos}
end
structure It where
  go:Nat->Hp->Prop
  yld:Nat->Hp->V->Hp->Prop
  stop:Nat->Hp->Prop
def FpOk (X:Cx) (pins:List (Addr×Obj)) (H:Hp) (b:Addr):Prop:=
  H b=none/\b≠X.env.locals/\b∉X.fs/\(b∈X.ex∨X.s₀.heap.objs.size<=b)/\(∀ x c,X.env.cells.lookup x=some c->c≠b)/\∀ p∈X.pn++pins,p.1≠b
theorem Inv.fpOk {X:Cx} {pins:List (Addr×Obj)} {σ:St} {H H':Hp} {s:Shared} {b:Addr} (I:Inv X pins σ H s) (hb:s.heap.objs.size<=b) (hn:H' b=none):FpOk X pins H' b:=by
  refine ⟨hn,Nat.ne_of_gt (Nat.lt_of_lt_of_le I.lt hb),I.nofs hb,.inr (Nat.le_trans I.sz hb),fun x c e z=>?_,fun p hp z=>?_⟩
  · obtain ⟨v,q⟩:=I.cell x c e
    exact absurd (Nat.lt_of_lt_of_le q.lt (by rw [z];exact hb)) (Nat.lt_irrefl _)
  · exact absurd (Nat.lt_of_lt_of_le (Heap.lt_size (I.pin p hp).1) (by rw [z];exact hb)) (Nat.lt_irrefl _)
structure Turn (P:Program) (w:World) (K:PySem.W.Frag) (tg:Expr) (J:It) (fp:List Addr) (it:Addr) (tn:Nat->Heap->Prop):Prop where
  mem:it∈fp
  obj:∀ i h,tn i h->∀ b∈fp,∃ o,h.get? b=some o/\∀ v,o.data≠.cell v
  keep:∀ i h h',tn i h->(∀ b∈fp,∀ o,h.get? b=some o->h'.get? b=some o)->tn i h'
  item:∀ (X:Cx),X.prog=P->X.w=w->X.K=K->X.calm=true->∀ (i:Nat) (pins:List (Addr×Obj)) (s:Shared) (σ:St) (H:Hp) (E:Value->Shared->Prop),Inv X pins σ H s->(∀ b∈fp,FpOk X pins H b)->tn i s.heap->J.go i H ->
    wpAny (model P w) X.A (pyNext (.ref it)) (fun r s1=>∃ u,r=some u /\
      wpAny (model P w) X.A (letOwnedTupleGo tg (.ref it) u) (fun _ s2=>∃ x H',Inv X pins σ H' s2/\RelV x u/\J.yld i H x H'/\tn (i+1) s2.heap/\∀ b∈fp,H' b=none) E s1) E s
  done:∀ (X:Cx),X.prog=P->X.w=w->X.K=K->X.calm=true->∀ (i:Nat) (pins:List (Addr×Obj)) (s:Shared) (σ:St) (H:Hp) (E:Value->Shared->Prop),Inv X pins σ H s->(∀ b∈fp,FpOk X pins H b)->tn i s.heap->J.stop i H ->
    wpAny (model P w) X.A (pyNext (.ref it)) (fun r s1=>r=none/\Inv X pins σ H s1) E s
  self:∀ (A:Around) (i:Nat) (s:Shared) (Q:Value->Shared->Prop) (E:Value->Shared->Prop),tn i s.heap->Q (.ref it) s->wpAny (model P w) A (pyIter (.ref it)) Q E s
abbrev TI:=St->Hp->(It->Hp->Prop)->Prop
def PIE (X:Cx) (pins:List (Addr×Obj)) (σ:St) (tg:Expr) (R:It->Hp->Prop) (itv:Value) (s2:Shared):Prop:=
  ∃ (it:Addr) (fp:List Addr) (tn:Nat->Heap->Prop) (J:It) (H':Hp),itv=.ref it/\Inv X pins σ H' s2/\Turn X.prog X.w X.K tg J fp it tn/\tn 0 s2.heap/\(∀ b∈fp,FpOk X pins H' b)/\R J H'
def PI (X:Cx) (tg iter:Expr) (wi:TI):Prop:=
  ∀ (pins:List (Addr×Obj)) (s:Shared) (σ:St) (H:Hp) (R:It->Hp->Prop),Inv X pins σ H s->wi σ H R ->
    wpAny (model X.prog X.w) X.A (eval iter X.env) (fun v s1=>wpAny (model X.prog X.w) X.A (pyIter v) (PIE X pins σ tg R) X.xe s1) X.xe s
theorem QlR {M:Model} {A:Around} {E:Value->Shared->Prop} {s:Shared} {tg:Expr} {it:Addr} {u:Value} {o:Obj} {n:String} {vs:Array Value} {Q:Unit->Shared->Prop} (ho:s.heap.get? it=some o) (hc:o.cls=.type n) (hd:o.data=.fields vs)
    (hn:["enumerate", "zip", "dict_itemiterator", "dict_reverseitemiterator", "odict_iterator", "itertools.zip_longest", "itertools.pairwise"].contains n=false) (hQ:Q () s):wpAny M A (letOwnedTupleGo tg (.ref it) u) Q E s:=by
  unfold letOwnedTupleGo
  cases tg<;>first
    | exact wpAny_pure hQ
    | (cases u<;>first
        | exact wpAny_pure hQ
        | (refine wpAny_bind (wpAny_load ho ?_)
           rw [hc,hd]
           show wpAny M A (if (["enumerate", "zip", "dict_itemiterator", "dict_reverseitemiterator", "odict_iterator", "itertools.zip_longest", "itertools.pairwise"].contains n&&vs[0]? == some (rawInt _))=true then _ else _) Q E s
           rw [if_neg (by intro h;rw [hn,Bool.false_and] at h;cases h)]
           exact wpAny_pure hQ))
def Itl (K:PySem.W.Frag) (a:Addr):It:=
  ⟨fun i H=>∃ xs x,SqL K H a xs/\xs[i]? = some x,fun i H x H'=>H'=H/\∀ xs,SqL K H a xs->xs[i]? = some x,fun i H=>∃ xs,SqL K H a xs/\xs.length<=i⟩
def Itt (K:PySem.W.Frag) (a:Addr):It:=
  ⟨fun i H=>∃ xs x,SqT K H a xs/\xs[i]? = some x,fun i H x H'=>H'=H/\∀ xs,SqT K H a xs->xs[i]? = some x,fun i H=>∃ xs,SqT K H a xs/\xs.length<=i⟩
def Itr (lo:Int) (n:Nat):It:=⟨fun i _=>i<n,fun i H x H'=>H'=H/\x=.int (lo+i),fun i _=>n<=i⟩
theorem QgH {P:Program} {w:World} {K:PySem.W.Frag} {tg:Expr} (a it:Addr):Turn P w K tg (Itl K a) [it] it (fun i h=>h.IsListIter it a i) where
  mem:=by simp
  obj:=fun i h st b hb=>by
    have e:b=it:=by simpa using hb
    subst e
    obtain ⟨o,e,c,d⟩:=st
    exact ⟨o,e,fun v z=>by rw [d] at z;cases z⟩
  keep:=fun i h h' st k=>st.at fun o e=>k it (by simp) o e
  item:=by
    intro X hP hw hK hc i pins s σ H E I hf st hg
    subst hP hw hK
    obtain ⟨xs,x,hq,hx⟩:=hg
    obtain ⟨its,rv,p,hz⟩:=I.list hq
    obtain ⟨u,hu,ru⟩:=rv.get hx
    obtain ⟨f0,f1,f2,f3,f4,f5⟩:=hf it (by simp)
    refine wpAny_pyNext_list_item st p.isList (x:=u) (by simpa using hu) fun h' st' sb=>?_
    have I1:Inv X pins σ H { s with heap:=h' }:=I.turned (t':=s.toks) (fun b o hb e=>(sb.2 b hb).trans e) f0 f1 f3 f4 f5
    obtain ⟨o,e,c,d⟩:=id st'
    exact ⟨u,rfl,QlR (s:={ s with heap:=h' }) e c d (by decide) ⟨x,H,I1,ru,⟨rfl,fun ys hy=>by rw [I.list_inj hy hq];exact hx⟩,st',fun b hb=>(hf b hb).1⟩⟩
  done:=by
    intro X hP hw hK hc i pins s σ H E I hf st hg
    subst hP hw hK
    obtain ⟨xs,hq,hx⟩:=hg
    obtain ⟨its,rv,p,hz⟩:=I.list hq
    obtain ⟨f0,f1,f2,f3,f4,f5⟩:=hf it (by simp)
    have hl:=rv.length
    exact wpAny_pyNext_list_end (I.ok.hd hc) st p.isList (by simp;omega) fun h' eb=>⟨rfl,I.turned (t':=s.toks) (fun b o hb e=>eb b o hb e) f0 f1 f3 f4 f5⟩
  self:=fun _ _ _ _ _ st h=>wpAny_pyIter_listiter st h
theorem Qgj {P:Program} {w:World} {K:PySem.W.Frag} {tg:Expr} (a it:Addr):Turn P w K tg (Itt K a) [it] it (fun i h=>h.IsTupleIter it a i) where
  mem:=by simp
  obj:=fun i h st b hb=>by
    have e:b=it:=by simpa using hb
    subst e
    obtain ⟨o,e,c,d⟩:=st
    exact ⟨o,e,fun v z=>by rw [d] at z;cases z⟩
  keep:=fun i h h' st k=>st.at fun o e=>k it (by simp) o e
  item:=by
    intro X hP hw hK hc i pins s σ H E I hf st hg
    subst hP hw hK
    obtain ⟨xs,x,hq,hx⟩:=hg
    obtain ⟨its,rv,p,hz⟩:=I.tuple hq
    obtain ⟨u,hu,ru⟩:=rv.get hx
    obtain ⟨f0,f1,f2,f3,f4,f5⟩:=hf it (by simp)
    refine wpAny_pyNext_tuple_item st (show s.heap.IsTuple a its.toArray from p) (x:=u) (by simpa using hu) fun h' st' sb=>?_
    have I1:Inv X pins σ H { s with heap:=h' }:=I.turned (t':=s.toks) (fun b o hb e=>(sb.2 b hb).trans e) f0 f1 f3 f4 f5
    obtain ⟨o,e,c,d⟩:=id st'
    exact ⟨u,rfl,QlR (s:={ s with heap:=h' }) e c d (by decide) ⟨x,H,I1,ru,⟨rfl,fun ys hy=>by rw [I.tuple_inj hy hq];exact hx⟩,st',fun b hb=>(hf b hb).1⟩⟩
  done:=by
    intro X hP hw hK hc i pins s σ H E I hf st hg
    subst hP hw hK
    obtain ⟨xs,hq,hx⟩:=hg
    obtain ⟨its,rv,p,hz⟩:=I.tuple hq
    obtain ⟨f0,f1,f2,f3,f4,f5⟩:=hf it (by simp)
    have hl:=rv.length
    exact wpAny_pyNext_tuple_end (I.ok.hd hc) st (show s.heap.IsTuple a its.toArray from p) (by simp;omega) fun h' eb=>⟨rfl,I.turned (t':=s.toks) (fun b o hb e=>eb b o hb e) f0 f1 f3 f4 f5⟩
  self:=fun _ _ _ _ _ st h=>wpAny_pyIter_tupleiter st h
theorem Qgk {P:Program} {w:World} {K:PySem.W.Frag} {tg:Expr} (it:Addr) (lo:Int) (n:Nat):Turn P w K tg (Itr lo n) [it] it (fun i h=>IsRangeIter h it (lo+(i:Nat)*1) ((n:Int) - (i:Nat)) 1) where
  mem:=by simp
  obj:=fun i h st b hb=>by
    have e:b=it:=by simpa using hb
    subst e
    exact ⟨_,st,fun v z=>by
      have z':Data.fields _=Data.cell v:=z
      cases z'⟩
  keep:=fun i h h' st k=>k it (by simp) _ st
  item:=by
    intro X hP hw hK hc i pins s σ H E I hf st hg
    subst hP hw hK
    obtain ⟨f0,f1,f2,f3,f4,f5⟩:=hf it (by simp)
    have W:=Walks.range (prog:=X.prog) (w:=X.w) (I.ok.hd hc) it lo 1 n
    refine W.item i s _ _ hg st fun v h' tk hv st' kk=>?_
    obtain ⟨t,rfl⟩:=hv
    have I1:Inv X pins σ H { s with heap:=h',toks:=tk }:=I.turned (fun b o hb e=>kk b o (by simpa using hb) e) f0 f1 f3 f4 f5
    refine ⟨_,rfl,QlR (s:={ s with heap:=h',toks:=tk }) (n := "range_iterator") st' rfl rfl (by decide) ⟨.int (lo+i),H,I1,⟨t,?_⟩,⟨rfl,rfl⟩,st',fun b hb=>(hf b hb).1⟩⟩
    rw [Int.mul_one]
  done:=by
    intro X hP hw hK hc i pins s σ H E I hf st hg
    subst hP hw hK
    obtain ⟨f0,f1,f2,f3,f4,f5⟩:=hf it (by simp)
    exact wpAny_pyNext_range_end (I.ok.hd hc) st (by have:n<=i:=hg;omega) fun h' eb=>⟨rfl,I.turned (t':=s.toks) (fun b o hb e=>eb b o hb e) f0 f1 f3 f4 f5⟩
  self:=fun _ _ _ _ _ st h=>wpAny_pyIter_rangeiter st h
section
variable {X:Cx} {tg:Expr}
def iList (K:PySem.W.Frag) (tl:TE):TI:=fun σ H R=>tl σ H fun x H1=>∃ a,x=.ref a/\(∃ xs,SqL K H1 a xs)/\R (Itl K a) H1
def iTup (K:PySem.W.Frag) (tl:TE):TI:=fun σ H R=>tl σ H fun x H1=>∃ a,x=.ref a/\(∃ xs,SqT K H1 a xs)/\R (Itt K a) H1
theorem Qk4 {l:Expr} {tl:TE} (hl:PE X l tl):PI X tg l (iList X.K tl):=by
  intro pins s σ H R I h
  refine thn (hl pins s σ H _ I h) fun v s1 ⟨x,H1,I1,r1,q1⟩=>?_
  obtain ⟨a,e,⟨xs,hq⟩,q⟩:=q1
  subst e
  cases r1
  obtain ⟨its,rv,p,hz⟩:=I1.list hq
  refine wpAny_pyIter_list p.isList ?_
  refine ⟨s1.heap.objs.size,[s1.heap.objs.size],_,_,H1,rfl,I1.kept (t':=s1.toks) fun b o e=>Heap.get?_push_of_some _ e,QgH a _,⟨_,Heap.get?_push_size _ rfl,rfl,rfl⟩,fun b hb=>?_,q⟩
  have e:b=s1.heap.objs.size:=by simpa using hb
  subst e
  exact I1.fpOk (Nat.le_refl _) (I1.hok.fresh (Nat.le_refl _))
theorem pi_tup {l:Expr} {tl:TE} (hl:PE X l tl):PI X tg l (iTup X.K tl):=by
  intro pins s σ H R I h
  refine thn (hl pins s σ H _ I h) fun v s1 ⟨x,H1,I1,r1,q1⟩=>?_
  obtain ⟨a,e,⟨xs,hq⟩,q⟩:=q1
  subst e
  cases r1
  obtain ⟨its,rv,p,hz⟩:=I1.tuple hq
  refine wpAny_pyIter_tuple (show s1.heap.IsTuple a its.toArray from p) ?_
  refine ⟨s1.heap.objs.size,[s1.heap.objs.size],_,_,H1,rfl,I1.kept (t':=s1.toks) fun b o e=>Heap.get?_push_of_some _ e,Qgj a _,⟨_,Heap.get?_push_size _ rfl,rfl,rfl⟩,fun b hb=>?_,q⟩
  have e:b=s1.heap.objs.size:=by simpa using hb
  subst e
  exact I1.fpOk (Nat.le_refl _) (I1.hok.fresh (Nat.le_refl _))
theorem QiM {pins:List (Addr×Obj)} {σ:St} {H:Hp} {s:Shared} {R:It->Hp->Prop} {E:Value->Shared->Prop} {lo hi:Int} {t u v:Tok} {tk:Nat} (I:Inv X pins σ H s) (h1 : -(2^62)<=lo) (h2:lo<2^62) (h3 : -(2^62)<=hi) (h4:hi<2^62)
    (q:R (Itr lo (hi - lo).toNat) H):wpAny (model X.prog X.w) X.A (pyIter (.ref s.heap.objs.size)) (PIE X pins σ tg R) E { s with heap:=s.heap.push { cls:=.type "range",data:=.fields #[.int lo t,.int hi u,.int 1 v] },toks:=tk }:=by
  refine wpAny_pyIter_range (IsRange.new ..) (small_one h1 h2 h3 h4) ?_
  have I1:Inv X pins σ H { s with heap:=s.heap.push { cls:=.type "range",data:=.fields #[.int lo t,.int hi u,.int 1 v] },toks:=tk }:=I.kept fun b o e=>Heap.get?_push_of_some _ e
  refine ⟨(s.heap.push { cls:=.type "range",data:=.fields #[.int lo t,.int hi u,.int 1 v] }).objs.size,[(s.heap.push { cls:=.type "range",data:=.fields #[.int lo t,.int hi u,.int 1 v] }).objs.size],_,_,H,rfl,
    I1.kept (t':=tk) fun b o e=>Heap.get?_push_of_some _ e,Qgk _ lo (hi - lo).toNat,?_,fun b hb=>?_,q⟩
  · have e1:lo+((0:Nat):Int)*1=lo:=by simp
    have e2:(((hi - lo).toNat:Nat):Int) - ((0:Nat):Int)=Builtin.Range.rangeSize lo hi 1:=by rw [rangeSize_one];split<;>omega
    show IsRangeIter _ _ (lo+((0:Nat):Int)*1) ((((hi - lo).toNat:Nat):Int) - ((0:Nat):Int)) 1
    rw [e1,e2]
    exact Heap.get?_push_size _ rfl
  · have e:b=(s.heap.push { cls:=.type "range",data:=.fields #[.int lo t,.int hi u,.int 1 v] }).objs.size:=by simpa using hb
    subst e
    exact I1.fpOk (Nat.le_refl _) (I1.hok.fresh (Nat.le_refl _))
def iRng1 (ta:TA):TI:=fun σ H R=>ta σ H fun vs H1=>∃ j:Int,vs=[.int j] /\ -(2^62)<=j/\j<2^62/\R (Itr 0 j.toNat) H1
theorem QcZ {a:Expr} {ta:TA} {p pos:Pos} (hg:Gl X "range") (hm:X.mg "range" = none) (ha:PA X [a] ta) (hs:starEach [a] X.env=[(false,eval a X.env)]:=by rfl):PI X tg (.Call (.Name "range" p) [a] [] pos) (iRng1 ta):=by
  intro pins s σ H R I h
  refine Call_ (Qdt I hg hm boot_range (PyProof.Rows.callWith_type1 (thn (ha pos pins s σ H _ I h) fun us s1 ⟨vs,H1,I1,r1,q1⟩=>?_) hs rfl))
  obtain ⟨j,e,q1,q2,q⟩:=q1
  subst e
  cases r1 with
  | cons r rr=>
    cases rr
    obtain ⟨t,rfl⟩:=r
    exact call_range_1 (QiM I1 (by omega) (by omega) q1 q2 (by simpa using q))
def tFor (wi:TI) (g:TG) (tb:TS):TS:=fun D σ H=>wi σ H fun J H1=>∃ W:Nat->Nat->St->Hp->Prop,(∃ m,W 0 m σ H1)/\∀ i m σ H,W i m σ H ->
  (J.stop i H/\D.nx σ H)∨(J.go i H/\∃ N:St->Hp->Prop,(∀ σ' H',N σ' H'->∃ m',m'<m/\W (i+1) m' σ' H')/\∀ x H',J.yld i H x H'->g x σ H' fun σ2 H2=>tb { D with nx:=N,ct:=N,bk:=D.nx } σ2 H2)
def QfN (fp:List Addr) (h:Heap):List (Addr×Obj):=fp.filterMap fun b=>(h.get? b).map fun o=>(b,o)
theorem QbJ {fp:List Addr} {h:Heap} {b:Addr} {o:Obj} (hb:b∈fp) (e:h.get? b=some o):(b,o)∈QfN fp h:=List.mem_filterMap.mpr ⟨b,hb,by rw [e];rfl⟩
theorem QhA {fp:List Addr} {h:Heap} {p:Addr×Obj} (hp:p∈QfN fp h):p.1∈fp/\h.get? p.1=some p.2:=by
  obtain ⟨b,hb,e⟩:=List.mem_filterMap.mp hp
  cases q:h.get? b with
  | none=>rw [q] at e;cases e
  | some o=>
    rw [q] at e
    have e':(b,o)=p:=Option.some.inj e
    subst e'
    exact ⟨hb,q⟩
theorem Inv.pinned {pins:List (Addr×Obj)} {σ:St} {H:Hp} {s:Shared} {fp:List Addr} (I:Inv X pins σ H s) (hf:∀ b∈fp,FpOk X pins H b) (ho:∀ b∈fp,∃ o,s.heap.get? b=some o/\∀ v,o.data≠.cell v):Inv X (pins++QfN fp s.heap) σ H s:=
  I.pins_of fun p hp=>(List.mem_append.mp hp).elim (fun z=>I.pin p (List.mem_append_right _ z)) fun z=>by
    obtain ⟨hb,e⟩:=QhA z
    obtain ⟨f0,f1,f2,_⟩:=hf p.1 hb
    obtain ⟨o,e',d⟩:=ho p.1 hb
    rw [e] at e';cases e'
    exact ⟨e,f0,f1,f2,d⟩
theorem Inv.unpinned {pins pl:List (Addr×Obj)} {σ:St} {H:Hp} {s:Shared} (I:Inv X (pins++pl) σ H s):Inv X pins σ H s:=I.pins_of fun p hp=>I.pin p (List.mem_append_right _ (List.mem_append_left _ hp))
theorem Qj2 {iter:Expr} {body:List Stmt} {wi:TI} {g:TG} {tb:TS} {pos:Pos} (hp:PassesOwn (model X.prog X.w) X.A X.env X.xe) (hc:X.calm=true) (hi:PI X tg iter wi) (hg:PG X tg g) (hb:PSs X body tb)
    (hs:∀ x,foldedSetIterable iter X.env x=pure x:=by intro _;rfl):PS X (.For tg iter body [] pos) (tFor wi g tb):=by
  intro pins s σ H D I h
  refine wpAny_For (thn (hi pins s σ H _ I h) fun v s1 h1=>thn h1 fun itv s2 h2=>?_) hs
  obtain ⟨it,fp,tn,J,H2,e,I2,T,st2,f2,W,⟨m0,w0⟩,turn⟩:=h2
  subst e
  have stat:∀ {H':Hp},(∀ b∈fp,H' b=none)->∀ b∈fp,FpOk X pins H' b:=fun hn b hb=>⟨hn b hb,(f2 b hb).2⟩
  refine codeAny_forLoop_any (fun n s'=>∃ i σ' H',Inv X pins σ' H' s'/\tn i s'.heap/\(∀ b∈fp,H' b=none)/\W i n σ' H') ?_ m0 ⟨0,σ,H2,I2,st2,fun b hb=>(f2 b hb).1,w0⟩
  rintro n s3 ⟨i,σ3,H3,I3,st3,fr3,w3⟩
  rcases turn i n σ3 H3 w3 with ⟨stop,qn⟩ | ⟨go,N,hN,step⟩
  · refine wpAny_passesOwn hp (thn (T.done X rfl rfl rfl hc i pins s3 σ3 H3 X.xe I3 (stat fr3) st3 stop) fun r s4 ⟨hr,I4⟩=>?_)
    subst hr
    exact wpAny_execs_nil ⟨σ3,H3,I4,qn⟩
  · refine wpAny_passesOwn hp (thn (T.item X rfl rfl rfl hc i pins s3 σ3 H3 X.xe I3 (stat fr3) st3 go) fun r s4 ⟨u,hr,h4⟩=>?_)
    subst hr
    refine wpAny_passesOwn hp (thn h4 fun _ s5 ⟨x,H5,I5,r5,y5,st5,fr5⟩=>?_)
    have I5':=I5.pinned (stat fr5) (T.obj _ _ st5)
    refine wpAny_passesOwn hp (thn (hg _ s5 σ3 H5 x u _ I5' r5 (step x H5 y5)) fun _ s6 ⟨σ6,H6,I6,q6⟩=>?_)
    refine wpAny_passesOwn hp (thn (hb _ s6 σ6 H6 _ I6 q6) fun f s7 q7=>?_)
    have again:∀ {σ7:St} {H7:Hp},Inv X (pins++QfN fp s5.heap) σ7 H7 s7->N σ7 H7->∃ m,m<n/\∃ i σ' H',Inv X pins σ' H' s7/\tn i s7.heap/\(∀ b∈fp,H' b=none)/\W i m σ' H':=fun {σ7 H7} I7 n7=>by
      obtain ⟨m',hm,w7⟩:=hN σ7 H7 n7
      refine ⟨m',hm,i+1,σ7,H7,I7.unpinned,T.keep _ _ _ st5 fun b hb o e=>(I7.pin (b,o) (List.mem_append_right _ (List.mem_append_right _ (QbJ hb e)))).1,fun b hb=>?_,w7⟩
      obtain ⟨o,e,d⟩:=T.obj _ _ st5 b hb
      exact (I7.pin (b,o) (List.mem_append_right _ (List.mem_append_right _ (QbJ hb e)))).2.1
    cases f with
    | next=>obtain ⟨σ7,H7,I7,n7⟩:=q7;exact again I7 n7
    | cont=>obtain ⟨σ7,H7,I7,n7⟩:=q7;exact again I7 n7
    | brk=>obtain ⟨σ7,H7,I7,q7⟩:=q7;exact ⟨σ7,H7,I7.unpinned,q7⟩
    | ret v=>obtain ⟨x7,σ7,H7,I7,r7,q7⟩:=q7;exact ⟨x7,σ7,H7,I7.unpinned,r7,q7⟩
end
theorem Qh1 {lo:Int} {n:Nat} {g:TG} {tb:TS} {D:Ends} {σ:St} {H:Hp} (Pv:Nat->St->Hp->Prop) (h0:Pv 0 σ H)
    (hs:∀ i σ H,i<n->Pv i σ H->g (.int (lo+i)) σ H fun σ2 H2=>tb { D with nx:=Pv (i+1),ct:=Pv (i+1),bk:=D.nx } σ2 H2) (hd:∀ σ H,Pv n σ H->D.nx σ H) :
    ∃ W:Nat->Nat->St->Hp->Prop,(∃ m,W 0 m σ H)/\∀ i m σ H,W i m σ H ->
      ((Itr lo n).stop i H/\D.nx σ H)∨((Itr lo n).go i H/\∃ N:St->Hp->Prop,(∀ σ' H',N σ' H'->∃ m',m'<m/\W (i+1) m' σ' H')/\∀ x H',(Itr lo n).yld i H x H'->g x σ H' fun σ2 H2=>tb { D with nx:=N,ct:=N,bk:=D.nx } σ2 H2):=by
  refine ⟨fun i m σ H=>m=n - i/\i<=n/\Pv i σ H,⟨n,by simp,Nat.zero_le _,h0⟩,?_⟩
  rintro i m σ H ⟨rfl,hi,p⟩
  by_cases hlt:i<n
  · refine .inr ⟨hlt,Pv (i+1),fun σ' H' p'=>⟨n - (i+1),by omega,rfl,hlt,p'⟩,fun x H' y=>?_⟩
    obtain ⟨e,y⟩:=y
    subst e y
    exact hs i σ _ hlt p
  · have e:i=n:=by omega
    subst e
    exact .inl ⟨Nat.le_refl _,hd σ H p⟩
abbrev R2:=V->V->Hp->VK->Prop
def OpR (X:Cx) (f:Value->Value->Sem Value) (r:R2):Prop:=
  ∀ (pins:List (Addr×Obj)) (s:Shared) (σ:St) (H:Hp) (x y:V) (v u:Value) (Q:VK),Inv X pins σ H s->RelV x v->RelV y u->r x y H Q ->
    wpAny (model X.prog X.w) X.A (f v u) (EP X pins σ Q) X.xe s
def UnR (X:Cx) (f:Value->Sem Value) (r:V->Hp->VK->Prop):Prop:=
  ∀ (pins:List (Addr×Obj)) (s:Shared) (σ:St) (H:Hp) (x:V) (v:Value) (Q:VK),Inv X pins σ H s->RelV x v->r x H Q ->
    wpAny (model X.prog X.w) X.A (f v) (EP X pins σ Q) X.xe s
def CallR (X:Cx) (f:Value) (r:List V->Hp->VK->Prop):Prop:=
  ∀ (pins:List (Addr×Obj)) (s:Shared) (σ:St) (H:Hp) (xs:List V) (us:List Value) (Q:VK),Inv X pins σ H s->Vals xs us->r xs H Q ->
    wpAny (model X.prog X.w) X.A (call f us) (EP X pins σ Q) X.xe s
def tOp (r:R2) (ta tb:TE):TE:=fun σ H Q=>ta σ H fun x H1=>tb σ H1 fun y H2=>r x y H2 Q
def tUn (r:V->Hp->VK->Prop) (ta:TE):TE:=fun σ H Q=>ta σ H fun x H1=>r x H1 Q
def rI (C:Int->Int->Prop) (g:Int->Int->V):R2:=fun x y H Q=>∃ i j,x=.int i/\y=.int j/\C i j/\Q (g i j) H
def rI0 (g:Int->Int->V):R2:=fun x y H Q=>∃ i j,x=.int i/\y=.int j/\Q (g i j) H
def rU (g:Int->V):V->Hp->VK->Prop:=fun x H Q=>∃ i,x=.int i/\Q (g i) H
section
variable {X:Cx} {a b c:Expr} {ta tb tc:TE} {pos:Pos}
theorem binT (ha:PE X a ta) (hb:PE X b tb) {pins:List (Addr×Obj)} {s:Shared} {σ:St} {H:Hp} {R:V->V->Hp->Prop} (I:Inv X pins σ H s)
    (h:ta σ H fun x H1=>tb σ H1 fun y H2=>R x y H2) {Q:Value->Shared->Prop} {f:Value->Value->Sem Value}
    (hf:∀ v u s2 x y H2,Inv X pins σ H2 s2->RelV x v->RelV y u->R x y H2->wpAny (model X.prog X.w) X.A (f v u) Q X.xe s2) :
    wpAny (model X.prog X.w) X.A (eval a X.env) (fun v s₁=>wpAny (model X.prog X.w) X.A (eval b X.env) (fun u s₂=>wpAny (model X.prog X.w) X.A (f v u) Q X.xe s₂) X.xe s₁) X.xe s:=by
  refine thn (ha pins s σ H _ I h) fun v s1 ⟨x,H1,I1,r1,q1⟩=>?_
  refine thn (hb pins s1 σ H1 _ I1 q1) fun u s2 ⟨y,H2,I2,r2,q2⟩=>?_
  exact hf v u s2 x y H2 I2 r1 r2 q2
theorem Qbi {op:Operator} {r:R2} (ho:OpR X (binaryOp op) r) (ha:PE X a ta) (hb:PE X b tb):PE X (.BinOp a op b pos) (tOp r ta tb):=by
  intro pins s σ H Q I h
  exact wpAny_BinOp (binT ha hb I h fun v u s2 x y H2 I2 rx ry q=>ho pins s2 σ H2 x y v u Q I2 rx ry q)
theorem pe_un {op:UnaryOp} {r:V->Hp->VK->Prop} (ho:UnR X (unaryOp op) r) (ha:PE X a ta):PE X (.UnaryOp op a pos) (tUn r ta):=by
  intro pins s σ H Q I h
  exact UnaryOp_ (thn (ha pins s σ H _ I h) fun v s1 ⟨x,H1,I1,r1,q1⟩=>ho pins s1 σ H1 x v Q I1 r1 q1)
theorem opI {f:Value->Value->Sem Value} {C:Int->Int->Prop} {g:Int->Int->Int}
    (rule:∀ (i j:Int) (t u:Tok) (s:Shared) (Q:Value->Shared->Prop) (E:Value->Shared->Prop),C i j->Q (.int (g i j) s.toks) { s with toks:=s.toks+1 }->wpAny (model X.prog X.w) X.A (f (.int i t) (.int j u)) Q E s) :
    OpR X f (rI C fun i j=>.int (g i j)):=by
  intro pins s σ H x y v u Q I rx ry h
  obtain ⟨i,j,rfl,rfl,hc,q⟩:=h
  obtain ⟨t,rfl⟩:=rx
  obtain ⟨t',rfl⟩:=ry
  exact rule i j t t' s _ _ hc ⟨.int (g i j),H,I.tok _,⟨_,rfl⟩,q⟩
theorem opI0 {f:Value->Value->Sem Value} {g:Int->Int->Int}
    (rule:∀ (i j:Int) (t u:Tok) (s:Shared) (Q:Value->Shared->Prop) (E:Value->Shared->Prop),Q (.int (g i j) s.toks) { s with toks:=s.toks+1 }->wpAny (model X.prog X.w) X.A (f (.int i t) (.int j u)) Q E s) :
    OpR X f (rI0 fun i j=>.int (g i j)):=by
  intro pins s σ H x y v u Q I rx ry h
  obtain ⟨i,j,rfl,rfl,q⟩:=h
  obtain ⟨t,rfl⟩:=rx
  obtain ⟨t',rfl⟩:=ry
  exact rule i j t t' s _ _ ⟨.int (g i j),H,I.tok _,⟨_,rfl⟩,q⟩
theorem opB0 {f:Value->Value->Sem Value} {g:Int->Int->Bool}
    (rule:∀ (i j:Int) (t u:Tok) (s:Shared) (Q:Value->Shared->Prop) (E:Value->Shared->Prop),Q (.bool (g i j)) s->wpAny (model X.prog X.w) X.A (f (.int i t) (.int j u)) Q E s) :
    OpR X f (rI0 fun i j=>.bl (g i j)):=by
  intro pins s σ H x y v u Q I rx ry h
  obtain ⟨i,j,rfl,rfl,q⟩:=h
  obtain ⟨t,rfl⟩:=rx
  obtain ⟨t',rfl⟩:=ry
  exact rule i j t t' s _ _ ⟨.bl (g i j),H,I,rfl,q⟩
def CPow (i j:Int):Prop:=0<=j/\j<=1000000/\i.natAbs<2^64
def CMul (i j:Int):Prop:=(-(2^64)<i/\i<2^64)∨(-(2^64)<j/\j<2^64)
theorem CMul.ok {i j:Int} (h:CMul i j):IntMulOk i j:=by
  rcases h with ⟨h1,h2⟩ | ⟨h1,h2⟩
  · exact .of_left (intBits_le_64 h1 h2)
  · exact .of_right (intBits_le_64 h1 h2)
theorem Qdp:OpR X (binaryOp .Add) (rI0 fun i j=>.int (i+j)):=opI0 fun _ _ _ _ _ _ _ q=>add_int q
theorem Qj5:OpR X (binaryOp .Sub) (rI0 fun i j=>.int (i - j)):=opI0 fun _ _ _ _ _ _ _ q=>sub_int q
theorem Qew:OpR X (binaryOp .Mult) (rI CMul fun i j=>.int (i*j)):=opI fun _ _ _ _ _ _ _ hc q=>mul_int q hc.ok
theorem Qex:OpR X (binaryOp .Mod) (rI (fun _ j=>0<j) fun i j=>.int (i % j)):=opI fun i j _ _ _ _ _ hc q=>by
  have h1:(0:Int)<j:=hc
  exact mod_int' (by omega) (by rw [Int.fmod_eq_emod_of_nonneg i (by omega)];exact q)
theorem Qj6:OpR X (binaryOp .Pow) (rI CPow fun i j=>.int (i^j.toNat)):=opI fun _ _ _ _ _ _ _ hc q=>pow_int_small hc.1 hc.2.1 hc.2.2 q
theorem unI {f:Value->Sem Value} {g:Int->Int}
    (rule:∀ (i:Int) (t:Tok) (s:Shared) (Q:Value->Shared->Prop) (E:Value->Shared->Prop),Q (.int (g i) s.toks) { s with toks:=s.toks+1 }->wpAny (model X.prog X.w) X.A (f (.int i t)) Q E s) :
    UnR X f (rU fun i=>.int (g i)):=by
  intro pins s σ H x v Q I rx h
  obtain ⟨i,rfl,q⟩:=h
  obtain ⟨t,rfl⟩:=rx
  exact rule i t s _ _ ⟨.int (g i),H,I.tok _,⟨_,rfl⟩,q⟩
theorem un_neg:UnR X (unaryOp .USub) (rU fun i=>.int (-i)):=unI fun _ _ _ _ _ q=>neg_int q
end
def scal:V->V->Bool
  | .non,.non=>true | .non,.int _=>true | .int _,.non=>true | .non,.bl _=>true | .bl _,.non=>true | .non,.str _=>true | .str _,.non=>true
  | .int _,.int _=>true | .bl _,.bl _=>true | .str _,.str _=>true | .byt _,.byt _=>true
  | .int _,.str _=>true | .str _,.int _=>true | .bl _,.str _=>true | .str _,.bl _=>true
  | _,_=>false
def rEq:R2:=fun x y H Q=>scal x y=true/\Q (.bl (decide (x=y))) H
def rNe:R2:=fun x y H Q=>scal x y=true/\Q (.bl (!decide (x=y))) H
theorem Qh9 {i j:Int}:decide (V.int i=V.int j)=(i == j):=by
  rw [Bool.eq_iff_iff]
  simp
theorem Qkk {i j:Bool}:decide (V.bl i=V.bl j)=(i == j):=by
  rw [Bool.eq_iff_iff]
  simp
theorem Qh8 {i j:Str}:decide (V.str i=V.str j)=(i == j):=by
  rw [Bool.eq_iff_iff]
  simp
theorem Qia {i j:Array UInt8}:decide (V.byt i=V.byt j)=(i.toList == j.toList):=by
  rw [Bool.eq_iff_iff]
  cases i
  cases j
  simp
section
variable {X:Cx} {a b c:Expr} {ta tb tc:TE} {pos:Pos}
theorem Qap {pins:List (Addr×Obj)} {σ:St} {H:Hp} {s:Shared} {Q:VK} {k k':Bool} (I:Inv X pins σ H s) (q:Q (.bl k) H) (e:k=k'):EP X pins σ Q (.bool k') s:=by
  subst e
  exact ⟨.bl k,H,I,rfl,q⟩
theorem op_eq:OpR X (compareOp .Eq) rEq:=by
  intro pins s σ H x y v u Q I rx ry h
  obtain ⟨hs,q⟩:=h
  cases x with
  | non=>
    cases rx
    cases y with
    | non=>cases ry;exact PySem.EqNone.eq_none_none (Qap I q (by simp))
    | bl j=>cases ry;exact PySem.EqNone.eq_none_bool (Qap I q (by simp))
    | int j=>obtain ⟨t',rfl⟩:=ry;exact PySem.EqNone.eq_none_int (Qap I q (by simp))
    | str j=>obtain ⟨t',rfl⟩:=ry;exact PySem.EqNone.eq_none_str (Qap I q (by simp))
    | _=>exact absurd (show false=true from hs) Bool.false_ne_true
  | bl i=>
    cases rx
    cases y with
    | non=>cases ry;exact PySem.EqNone.eq_bool_none (Qap I q (by simp))
    | bl j=>cases ry;exact eq_bool (Qap I q Qkk)
    | str j=>obtain ⟨t',rfl⟩:=ry;exact PySem.EqMixed.eq_bool_str (Qap I q (by simp))
    | _=>exact absurd (show false=true from hs) Bool.false_ne_true
  | int i=>
    obtain ⟨t,rfl⟩:=rx
    cases y with
    | non=>cases ry;exact PySem.EqNone.eq_int_none (Qap I q (by simp))
    | int j=>obtain ⟨t',rfl⟩:=ry;exact eq_int (Qap I q Qh9)
    | str j=>obtain ⟨t',rfl⟩:=ry;exact PySem.EqMixed.eq_int_str (Qap I q (by simp))
    | _=>exact absurd (show false=true from hs) Bool.false_ne_true
  | str i=>
    obtain ⟨t,rfl⟩:=rx
    cases y with
    | non=>cases ry;exact PySem.EqNone.eq_str_none (Qap I q (by simp))
    | bl j=>cases ry;exact PySem.EqMixed.eq_str_bool (Qap I q (by simp))
    | int j=>obtain ⟨t',rfl⟩:=ry;exact PySem.EqMixed.eq_str_int (Qap I q (by simp))
    | str j=>obtain ⟨t',rfl⟩:=ry;exact eq_str (Qap I q Qh8)
    | _=>exact absurd (show false=true from hs) Bool.false_ne_true
  | byt i=>
    obtain ⟨t,rfl⟩:=rx
    cases y with
    | byt j=>obtain ⟨t',rfl⟩:=ry;exact PySem.W.eq_bytes (Qap I q Qia)
    | _=>exact absurd (show false=true from hs) Bool.false_ne_true
  | _=>cases y<;>exact absurd (show false=true from hs) Bool.false_ne_true
theorem op_ne:OpR X (compareOp .NotEq) rNe:=by
  intro pins s σ H x y v u Q I rx ry h
  obtain ⟨hs,q⟩:=h
  cases x with
  | non=>
    cases rx
    cases y with
    | non=>cases ry;exact PySem.EqNone.ne_none_none (Qap I q (by simp))
    | bl j=>cases ry;exact PySem.EqNone.ne_none_bool (Qap I q (by simp))
    | int j=>obtain ⟨t',rfl⟩:=ry;exact PySem.EqNone.ne_none_int (Qap I q (by simp))
    | str j=>obtain ⟨t',rfl⟩:=ry;exact PySem.EqNone.ne_none_str (Qap I q (by simp))
    | _=>exact absurd (show false=true from hs) Bool.false_ne_true
  | bl i=>
    cases rx
    cases y with
    | non=>cases ry;exact PySem.EqNone.ne_bool_none (Qap I q (by simp))
    | bl j=>cases ry;exact ne_bool (Qap I q (congrArg not Qkk))
    | str j=>obtain ⟨t',rfl⟩:=ry;exact PySem.EqMixed.ne_bool_str (Qap I q (by simp))
    | _=>exact absurd (show false=true from hs) Bool.false_ne_true
  | int i=>
    obtain ⟨t,rfl⟩:=rx
    cases y with
    | non=>cases ry;exact PySem.EqNone.ne_int_none (Qap I q (by simp))
    | int j=>obtain ⟨t',rfl⟩:=ry;exact ne_int (Qap I q (congrArg not Qh9))
    | str j=>obtain ⟨t',rfl⟩:=ry;exact PySem.EqMixed.ne_int_str (Qap I q (by simp))
    | _=>exact absurd (show false=true from hs) Bool.false_ne_true
  | str i=>
    obtain ⟨t,rfl⟩:=rx
    cases y with
    | non=>cases ry;exact PySem.EqNone.ne_str_none (Qap I q (by simp))
    | bl j=>cases ry;exact PySem.EqMixed.ne_str_bool (Qap I q (by simp))
    | int j=>obtain ⟨t',rfl⟩:=ry;exact PySem.EqMixed.ne_str_int (Qap I q (by simp))
    | str j=>obtain ⟨t',rfl⟩:=ry;exact ne_str (Qap I q (congrArg not Qh8))
    | _=>exact absurd (show false=true from hs) Bool.false_ne_true
  | byt i=>
    obtain ⟨t,rfl⟩:=rx
    cases y with
    | byt j=>obtain ⟨t',rfl⟩:=ry;exact PySem.W.ne_bytes (Qap I q (congrArg not Qia))
    | _=>exact absurd (show false=true from hs) Bool.false_ne_true
  | _=>cases y<;>exact absurd (show false=true from hs) Bool.false_ne_true
theorem op_lt:OpR X (compareOp .Lt) (rI0 fun i j=>.bl (decide (i<j))):=opB0 fun _ _ _ _ _ _ _ q=>lt_int q
theorem op_le:OpR X (compareOp .LtE) (rI0 fun i j=>.bl (decide (i<=j))):=opB0 fun _ _ _ _ _ _ _ q=>le_int q
theorem op_ge:OpR X (compareOp .GtE) (rI0 fun i j=>.bl (decide (j<=i))):=opB0 fun _ _ _ _ _ _ _ q=>ge_int q
theorem OpR.or {f:Value->Value->Sem Value} {r r':R2} (h:OpR X f r) (h':OpR X f r'):OpR X f (fun x y H Q=>r x y H Q∨r' x y H Q):=by
  intro pins s σ H x y v u Q I rx ry q
  rcases q with q | q
  · exact h pins s σ H x y v u Q I rx ry q
  · exact h' pins s σ H x y v u Q I rx ry q
theorem Qbh (b:Expr) {op:CmpOp} (h:op≠.In:=by decide) (h2:op≠.NotIn:=by decide):behindInMarks op b=false:=by
  have e1:(op == CmpOp.In)=false:=by cases op<;>first | rfl | exact absurd rfl h
  have e2:(op == CmpOp.NotIn)=false:=by cases op<;>first | rfl | exact absurd rfl h2
  cases b<;>simp [behindInMarks,e1,e2]
theorem Qk8 {op:CmpOp} {r:R2} (ho:OpR X (compareOp op) r) (ha:PE X a ta) (hb:PE X b tb) (hm:behindInMarks op b=false):PE X (.Compare a [op] [b] pos) (tOp r ta tb):=by
  intro pins s σ H Q I h
  exact wpAny_Compare1 (binT ha hb I h fun v u s2 x y H2 I2 rx ry q=>ho pins s2 σ H2 x y v u Q I2 rx ry q) hm
def tTest (t:TE):TT:=fun σ H Q=>t σ H fun x H'=>∃ k,x=.bl k/\Q k H'
theorem Qfe {op:CmpOp} {r:R2} (ho:OpR X (compareOp op) r) (ha:PE X a ta) (hb:PE X b tb) (hm:behindInMarks op b=false):PT X (.Compare a [op] [b] pos) (tTest (tOp r ta tb)):=by
  intro pins s σ H Q I h
  refine wpAny_isTrue_Compare1 (thn (ha pins s σ H _ I h) fun v s1 ⟨x,H1,I1,r1,q1⟩=>thn (hb pins s1 σ H1 _ I1 q1) fun u s2 ⟨y,H2,I2,r2,q2⟩=>
    thn (ho pins s2 σ H2 x y v u _ I2 r1 r2 q2) fun c s3 ⟨z,H3,I3,r3,k,e,q3⟩=>?_) hm
  subst e
  cases r3
  exact wpAny_truthy_bool ⟨H3,I3,q3⟩
def QjQ (r r':R2) (ta tb tc:TE):TE:=fun σ H Q=>ta σ H fun x H1=>tb σ H1 fun y H2=>r x y H2 fun z H3=>∃ k,z=.bl k /\
  (if k=true then tc σ H3 fun w' H4=>r' y w' H4 Q else Q (.bl false) H3)
theorem QiV {op op':CmpOp} {r r':R2} (ho:OpR X (compareOp op) r) (ho':OpR X (compareOp op') r') (ha:PE X a ta) (hb:PE X b tb) (hc:PE X c tc)
    (hm:lastMarks [op,op'] [b,c]=false:=by with_unfolding_all rfl):PE X (.Compare a [op,op'] [b,c] pos) (QjQ r r' ta tb tc):=by
  intro pins s σ H Q I h
  refine Compare_chain (thn (ha pins s σ H _ I h) fun v s1 ⟨x,H1,I1,r1,q1⟩=>chain_link (thn (hb pins s1 σ H1 _ I1 q1) fun u s2 ⟨y,H2,I2,r2,q2⟩=>
    thn (ho pins s2 σ H2 x y v u _ I2 r1 r2 q2) fun d s3 ⟨z,H3,I3,r3,k,e,q3⟩=>?_)) hm
  subst e
  cases r3
  refine wpAny_truthy_bool ?_
  cases k with
  | false=>exact ite_ff ⟨.bl false,H3,I3,rfl,q3⟩
  | true=>exact ite_tt (chain_last (thn (hc pins s3 σ H3 _ I3 q3) fun w' s4 ⟨z',H4,I4,r4,q4⟩=>ho' pins s4 σ H4 y z' u w' Q I4 r2 r4 q4))
theorem QfT:(sizeLine:Nat)<2^63:=by rw [sizeLine_eq];decide
theorem QcC {x:V} {us:List Value} (r:Vals [x] us):∃ u,us=[u]/\RelV x u:=by
  cases r with
  | cons r1 r2=>cases r2;exact ⟨_,rfl,r1⟩
theorem QkA {x y:V} {us:List Value} (r:Vals [x,y] us):∃ u w',us=[u,w']/\RelV x u/\RelV y w':=by
  cases r with
  | cons r1 r2=>
    cases r2 with
    | cons r3 r4=>cases r4;exact ⟨_,_,rfl,r1,r3⟩
theorem Qin (hc:X.calm=true):CallR X (.builtin "max") (fun xs H Q=>∃ i j,xs=[.int i,.int j]/\Q (.int (if j > i then j else i)) H):=by
  intro pins s σ H xs us Q I r h
  obtain ⟨i,j,rfl,q⟩:=h
  obtain ⟨u,w',rfl,⟨t,rfl⟩,⟨t',rfl⟩⟩:=QkA r
  refine max_two_ints (I.ok.hd hc) fun h' tk k=>⟨_,H,I.kept k,?_,q⟩
  by_cases hj:j > i
  · rw [if_pos hj,if_pos hj];exact ⟨_,rfl⟩
  · rw [if_neg hj,if_neg hj];exact ⟨_,rfl⟩
theorem Qim (hc:X.calm=true):CallR X (.builtin "min") (fun xs H Q=>∃ i j,xs=[.int i,.int j]/\Q (.int (if j<i then j else i)) H):=by
  intro pins s σ H xs us Q I r h
  obtain ⟨i,j,rfl,q⟩:=h
  obtain ⟨u,w',rfl,⟨t,rfl⟩,⟨t',rfl⟩⟩:=QkA r
  refine min_two_ints (I.ok.hd hc) fun h' tk k=>⟨_,H,I.kept k,?_,q⟩
  by_cases hj:j<i
  · rw [if_pos hj,if_pos hj];exact ⟨_,rfl⟩
  · rw [if_neg hj,if_neg hj];exact ⟨_,rfl⟩
end
structure ObjM (h:Heap) (x dx C:Addr) (mA:Str->Option Value):Prop where
  obj:h.get? x=some (PySem.W.instObj C dx)
  ns:h.Ns1 dx mA
  ne:dx≠x
theorem QhI {h:Heap} {dx:Addr} {mA:Str->Option Value} (n:h.Ns1 dx mA):∃ od,h.get? dx=some od/\∀ name,PySem.W.lookIn name od=some (mA name):=by
  obtain ⟨o,es,ep,ho,hd,hk,_,hm⟩:=n
  refine ⟨o,ho,fun name=>?_⟩
  have e:=hm name
  unfold nsFind findBy at e
  rw [<- Array.find?_toList] at e
  unfold PySem.W.lookIn
  rw [hd]
  dsimp only
  split
  · rename_i y q
    rw [q] at e
    exact congrArg some e
  · rename_i q
    rw [q] at e
    have a:es.toList.any (·.refKey)=false:=by
      rw [List.any_eq_false]
      intro y hy
      obtain ⟨z,t,hkey⟩:=hk y (Array.mem_toList_iff.mp hy)
      simp [DictEntry.refKey,hkey]
    have a':¬ es.toList.any (·.refKey)=true:=by rw [a];exact Bool.false_ne_true
    rw [if_neg a']
    exact congrArg some e
theorem ObjM.look {h:Heap} {x dx C:Addr} {mA:Str->Option Value} (I:ObjM h x dx C mA):∃ od,PySem.W.InstAt h x (PySem.W.instObj C dx) C (some od)/\∀ name,PySem.W.lookIn name od=some (mA name):=
  let ⟨od,ho,hl⟩:=QhI I.ns
  ⟨od,⟨I.obj,rfl,rfl,ho⟩,hl⟩
section
variable {prog:Program} {w:World} {A:Around} {E:Value->Shared->Prop} {s:Shared} {K:PySem.W.Frag} {x dx C f:Addr} {mA:Str->Option Value} {name:Str} {v:Value}
end
section
variable {P:Program} {w:World} {H H':Hp} {h h':Heap} {a C dx:Addr} {fs fs':List (Str×V)}
theorem ins_get (hok:HOk P w H h) (e:H a=some (.ins C dx fs)):∃ mA,ObjM h a dx C mA/\(∀ f,RelO (fs.lookup f) (mA f))/\PySem.Within mA (fs.map (·.1))/\fs.length<=1000/\H dx=some (.own a):=by
  obtain ⟨d,z,ne,ob,mA,n,r,q⟩:=(show ObjOk P w H h a (.ins C dx fs) from hok a _ e)
  exact ⟨mA,⟨ob,n,ne⟩,r,q,z,d⟩
end
structure Cls (K:PySem.W.Frag) (C:Addr):Prop where
  pg:PySem.W.plainGet K C Str.empty=true
  hd:PySem.W.hasDictIn K C=true
  po:PySem.W.plainOver K C=true
  sa:PySem.W.findIn K (.ref C) "__setattr__" = some (some (.builtin "object.__setattr__"))
theorem Cls.get {K:PySem.W.Frag} {C:Addr} (c:Cls K C) (f:Str):PySem.W.plainGet K C f=true:=c.pg
section
variable {X:Cx} {pins:List (Addr×Obj)} {σ:St} {H:Hp} {s:Shared} {a C dx:Addr} {fs:List (Str×V)} {f:Str} {v:V} {A:Around} {E:Value->Shared->Prop}
theorem Inv.made (I:Inv X pins σ H s):Inv X pins σ (upd (upd H s.heap.objs.size (.own (s.heap.objs.size+1))) (s.heap.objs.size+1) (.ins C s.heap.objs.size []))
    { s with heap:=(s.heap.push PySem.W.emptyDict).push (PySem.W.instObj C s.heap.objs.size) }:=by
  have e1:(s.heap.push PySem.W.emptyDict).get? s.heap.objs.size=some PySem.W.emptyDict:=Heap.get?_push_size s.heap rfl
  have e2:((s.heap.push PySem.W.emptyDict).push (PySem.W.instObj C s.heap.objs.size)).get? (s.heap.objs.size+1)=some (PySem.W.instObj C s.heap.objs.size):=by
    have:=Heap.get?_push_size (s.heap.push PySem.W.emptyDict) (o:=PySem.W.instObj C s.heap.objs.size) rfl
    rwa [Heap.size_push] at this
  have e3:(s.heap.push PySem.W.emptyDict).Ns s.heap.objs.size (fun _=>none):=⟨PySem.W.emptyDict,#[],_,e1,rfl,(fun e he=>absurd he (by simp)),fun _=>rfl⟩
  have I1:=I.laid (a:=s.heap.objs.size) (o:=.own (s.heap.objs.size+1)) (h':=s.heap.push PySem.W.emptyDict) (t':=s.toks) (fun b u q=>Heap.get?_push_of_some _ q) (Nat.le_refl _) ⟨_,e1⟩
  refine I1.laid (a:=s.heap.objs.size+1) (o:=.ins C s.heap.objs.size []) (t':=s.toks) (fun b u q=>Heap.get?_push_of_some _ q) (Nat.le_of_eq (Heap.size_push _ _)) ?_
  have ne:s.heap.objs.size≠s.heap.objs.size+1:=Nat.ne_of_lt (Nat.lt_succ_self _)
  refine ⟨by rw [Qai ne,Qad],Nat.zero_le _,ne,e2,fun _=>none,(Heap.Ns1.of_empty e3).at fun o q=>Heap.get?_push_of_some _ q,fun _=>True.intro,fun y hy=>absurd rfl hy⟩
end
section
variable {X:Cx} {o e value:Expr} {f:Str} {pos pos' tpos:Pos} {ta tv:TE}
def rAdd:V->V->Hp->VK->Prop:=fun x y H Q=>∃ i j,x=.int i/\y=.int j/\Q (.int (i+j)) H
end
section
variable {X:Cx} {pins:List (Addr×Obj)} {σ:St} {H:Hp} {s:Shared} {A:Around} {E:Value->Shared->Prop} {Q:Value->Shared->Prop} {c:Value} {b:Bool}
inductive TyOf (K:PySem.W.Frag) (H:Hp):V->Value->Prop where
  | non:TyOf K H .non (.type "NoneType")
  | bl (x:Bool):TyOf K H (.bl x) (.type "bool")
  | int (i:Int):TyOf K H (.int i) (.type "int")
  | str (x:Str):TyOf K H (.str x) (.type "str")
  | flt (x:UInt64):TyOf K H (.flt x) (.type "float")
  | lst {a:Addr} {xs:List V} (e:H a=some (.lst xs)):TyOf K H (.ref a) (.type "list")
  | frz {a:Addr} {o:Obj} {xs:List V} (e:H a=some (.frz o (.lst xs))):TyOf K H (.ref a) (.type "list")
  | tup {a:Addr} {xs:List V} (e:H a=some (.tup xs)):TyOf K H (.ref a) (.type "tuple")
  | dK {a:Addr} {kvs:List (Key×V)} (e:H a=some (.dK kvs)):TyOf K H (.ref a) (.type "dict")
  | dT {a:Addr} {kvs:List (List Key×V)} (e:H a=some (.dT kvs)):TyOf K H (.ref a) (.type "dict")
  | ins {a C dx:Addr} {fs:List (Str×V)} (e:H a=some (.ins C dx fs)) (cl:Cls K C) (ha:PySem.W.findIn K (.ref C) "__class__" = some (some (.builtin "object.__class__")))
      (hn:PySem.W.specialIn K (.builtin "object.__class__") "__get__" = some (some (.builtin "getset_descriptor.__get__"))) (htk:PySem.W.takesIn K (.builtin "object.__class__")=some true)
      (hm:PySem.W.mroIn K C (.type "object")=some true):TyOf K H (.ref a) (.ref C)
theorem QhQ {x:V} {u t:Value} (I:Inv X pins σ H s) (rx:RelV x u) (ty:TyOf X.K H x t) (e:PySem.W.kitOne X.K t c=some b) (h:∀ tk,Q (.bool b) { s with toks:=tk }) :
    wpAny (model X.prog X.w) A (call (.builtin "isinstance") [u,c]) Q E s:=by
  cases ty with
  | non=>cases (show u=Value.none from rx);exact PySem.W.kia_one PySem.W.kitx_none I.kIn True.intro e (fun z=>nomatch z) h
  | bl y=>cases (show u=Value.bool y from rx);exact PySem.W.kia_one PySem.W.kitx_bool I.kIn True.intro e (fun z=>nomatch z) h
  | int i=>obtain ⟨t,q⟩:=(show ∃ t,u=Value.int i t from rx);cases q;exact PySem.W.kia_one PySem.W.kitx_int I.kIn True.intro e (fun z=>nomatch z) h
  | str y=>obtain ⟨t,q⟩:=(show ∃ t,u=Value.str y t from rx);cases q;exact PySem.W.kia_one PySem.W.kitx_str I.kIn True.intro e (fun z=>nomatch z) h
  | flt y=>obtain ⟨t,q⟩:=(show ∃ t,u=Value.float y t from rx);cases q;exact PySem.W.kia_one PySem.W.kitx_float I.kIn True.intro e (fun z=>nomatch z) h
  | @lst a xs ea=>
    cases (show u=Value.ref a from rx)
    obtain ⟨_,_,n,_,h1⟩:=(show ObjOk X.prog X.w H s.heap a (.lst xs) from I.hok a _ ea)
    exact PySem.W.kia_one PySem.W.kitx_list I.kIn ⟨_,h1,rfl⟩ e (fun z=>nomatch z) h
  | @frz a ob xs ea=>
    cases (show u=Value.ref a from rx)
    obtain ⟨_,_,_,n,_,h1⟩:=(show ObjOk X.prog X.w H s.heap a (.frz ob (.lst xs)) from I.hok a _ ea)
    exact PySem.W.kia_one PySem.W.kitx_list I.kIn ⟨_,h1,rfl⟩ e (fun z=>nomatch z) h
  | @tup a xs ea=>
    cases (show u=Value.ref a from rx)
    obtain ⟨_,_,_,p⟩:=(show ObjOk X.prog X.w H s.heap a (.tup xs) from I.hok a _ ea)
    obtain ⟨o,h1,h2,_⟩:=p
    exact PySem.W.kia_one PySem.W.kitx_tuple I.kIn ⟨o,h1,h2⟩ e (fun z=>nomatch z) h
  | @dK a kvs ea=>
    cases (show u=Value.ref a from rx)
    obtain ⟨_,_,vs,_,p⟩:=(show ObjOk X.prog X.w H s.heap a (.dK kvs) from I.hok a _ ea)
    obtain ⟨o,es,ep,h1,h2,_⟩:=p
    exact PySem.W.kia_one PySem.W.kitx_dict I.kIn ⟨o,h1,h2.1⟩ e (fun z=>nomatch z) h
  | @dT a kvs ea=>
    cases (show u=Value.ref a from rx)
    obtain ⟨_,_,xs,_,o,es,ep,h1,h2,_⟩:=(show ObjOk X.prog X.w H s.heap a (.dT kvs) from I.hok a _ ea)
    exact PySem.W.kia_one PySem.W.kitx_dict I.kIn ⟨o,h1,h2.1⟩ e (fun z=>nomatch z) h
  | @ins a C dx fs ea cl ha hn htk hm=>
    cases (show u=Value.ref a from rx)
    obtain ⟨mA,O,_⟩:=ins_get I.hok ea
    obtain ⟨od,J,_⟩:=O.look
    exact PySem.W.kia_one (PySem.W.kitx_own (cl.get _) cl.hd ha hn htk hm) I.kIn J e (fun z=>nomatch z) h
end
structure Room (k:Nat) (A:Around):Prop where
  hd:A.handled=none
  dp:A.depth+3*k+5<recursionLimit
  un:A.units+16*k+200<cLine
theorem Room.mono {j k:Nat} {A:Around} (r:Room k A) (h:j<=k):Room j A:=⟨r.hd,by have:=r.dp;omega,by have:=r.un;omega⟩
theorem Room.deeper {k:Nat} {A:Around} (r:Room (k+1) A) (env:Env):Room k (A.deeper env):=
  ⟨r.hd,by have:=r.dp;show A.depth+1+3*k+5<_;omega,by have:=r.un;show A.units+3+16*k+200<_;omega⟩
theorem Room.in1 {k:Nat} {A:Around} (r:Room (k+1) A):Room k A.in1:=
  ⟨r.hd,by have:=r.dp;show A.depth+3*k+5<_;omega,by have:=r.un;show A.units+1+16*k+200<_;omega⟩
theorem Room.depth {k:Nat} {A:Around} (r:Room k A):A.depth<recursionLimit:=by have:=r.dp;omega
theorem Room.units {k:Nat} {A:Around} (r:Room k A):A.units+64<cLine:=by have:=r.un;omega
def tNil:TA:=fun _ H Q=>Q [] H
def QdC (ta:TE) (tr:TA):TA:=fun σ H Q=>ta σ H fun x H1=>tr σ H1 fun xs H2=>Q (x::xs) H2
section
variable {X:Cx} {e:Expr} {es:List Expr} {te:TE} {t:TA} {pos:Pos}
theorem Qaw:PA X [] tNil:=fun _ _ _ _ H Q I h=>Calls.spliced_nil ⟨[],H,I,.nil,h⟩
theorem QaL (ha:PE X e te) (hr:PA X es t) (hs:starEach (e::es) X.env=(false,eval e X.env)::starEach es X.env:=by rfl):PA X (e::es) (QdC te t):=by
  intro pos pins s σ H Q I h
  rw [hs]
  show wpAny _ _ (spliced ((false,eval e X.env)::backTo pos (starEach es X.env))) _ _ s
  refine Calls.spliced_cons (thn (ha pins s σ H _ I h) fun u s1 ⟨x,H1,I1,r1,q1⟩=>?_)
  exact thn (hr pos pins s1 σ H1 _ I1 q1) fun us s2 ⟨xs,H2,I2,r2,q2⟩=>⟨x::xs,H2,I2,.cons r1 r2,q2⟩
def tLst (t:TA):TE:=fun σ H Q=>t σ H fun xs H1=>xs.length<=sizeLine/\∀ p,H1 p=none->Q (.ref p) (upd H1 p (.lst xs))
theorem Qj4 (h:PA X es t):PE X (.List es pos) (tLst t):=by
  intro pins s σ H Q I hq
  refine wpAny_List_spliced (thn (h pos pins s σ H _ I hq) fun us s1 ⟨xs,H1,I1,r,z,q⟩=>⟨by rw [<- r.length];exact z,?_⟩)
  have hf:H1 s1.heap.objs.size=none:=I1.hok.fresh (Nat.le_refl _)
  refine ⟨.ref s1.heap.objs.size,upd H1 s1.heap.objs.size (.lst xs),I1.laid (t':=s1.toks) (fun b u e=>Heap.get?_push_of_some _ e) (Nat.le_refl _) ?_,rfl,q _ hf⟩
  exact ⟨z,us,0,r,Heap.get?_push_size _ rfl⟩
end
abbrev Sp:=List V->Hp->VK->XK->Prop
abbrev CXT:=List Env->Hp->Shared->XK->Value->Shared->Prop
structure Env0 (P:Program) (w:World) (K:PySem.W.Frag) (mg:Str->Option Value) (base:Heap) (A:Around) (outer:List Env) (s:Shared) (H:Hp):Prop where
  frames:A.frames=some outer
  mod:Mod K mg base
  bs:∀ b o,base.get? b=some o->s.heap.get? b=some o/\H b=none
  bsz:base.objs.size<=s.heap.objs.size
  funs:s.heap.FunFrames base outer
  frf:∀ b∈frs outer,H b=none
  hok:HOk P w H s.heap
  bare:AllBare s.gens
def CE (outer:List Env) (P:Program) (w:World) (H:Hp) (s:Shared) (Q:VK) (u:Value) (s':Shared):Prop:=
  ∃ v H',s'.os=s.os/\AllBare s'.gens/\Un (frs outer) [] H H' s.heap s'.heap/\HOk P w H' s'.heap/\RelV v u/\Q v H'
def CR (CX:CXT) (outer:List Env) (P:Program) (w:World) (H:Hp) (s:Shared) (Q:VK) (E:XK) (r:Result) (s':Shared):Prop:=
  match r with
  | .ok (.ret u)=>CE outer P w H s Q u s'
  | .ok _=>False
  | .error e=>CX outer H s E e s'
structure FnOk (P:Program) (w:World) (K:PySem.W.Frag) (mg:Str->Option Value) (base:Heap) (CX:CXT) (k:Nat) (f:Addr) (fd:FuncData) (ps:List Str) (sp:Sp):Prop where
  len:∀ vs H Q E,sp vs H Q E->vs.length=ps.length
  run:∀ (A:Around) (outer:List Env) (s:Shared) (H:Hp) (args:Args) (us:List Value) (vs:List V) (Q:VK) (E:XK),Room k A->Env0 P w K mg base A outer s H->BindsTo s fd args (ps.zip us)->Vals vs us->sp vs H Q E ->
    codeAny (model P w) A (.call (.ref f) args) (CR CX outer P w H s Q E) s
theorem FnOk.mono {P:Program} {w:World} {K:PySem.W.Frag} {mg:Str->Option Value} {base:Heap} {CX:CXT} {j k:Nat} {f:Addr} {fd:FuncData} {ps:List Str} {sp:Sp} (F:FnOk P w K mg base CX j f fd ps sp) (h:j<=k) :
    FnOk P w K mg base CX k f fd ps sp:=⟨F.len,fun A outer s H args us vs Q E hr=>F.run A outer s H args us vs Q E (hr.mono h)⟩
theorem FnOk.imp {P:Program} {w:World} {K:PySem.W.Frag} {mg:Str->Option Value} {base:Heap} {CX:CXT} {k:Nat} {f:Addr} {fd:FuncData} {ps:List Str} {sp sp':Sp} (F:FnOk P w K mg base CX k f fd ps sp)
    (h:∀ vs H Q E,sp' vs H Q E->sp vs H Q E):FnOk P w K mg base CX k f fd ps sp':=
  ⟨fun vs H Q E q=>F.len vs H Q E (h _ _ _ _ q),fun A outer s H args us vs Q E hr he hb hv hs=>F.run A outer s H args us vs Q E hr he hb hv (h _ _ _ _ hs)⟩
theorem Env0.in1 {P:Program} {w:World} {K:PySem.W.Frag} {mg:Str->Option Value} {base:Heap} {A:Around} {outer:List Env} {s:Shared} {H:Hp} (e:Env0 P w K mg base A outer s H) :
    Env0 P w K mg base A.in1 outer s H:=⟨e.frames,e.mod,e.bs,e.bsz,e.funs,e.frf,e.hok,e.bare⟩
section
variable {X:Cx} {pins:List (Addr×Obj)} {σ:St} {H:Hp} {s s':Shared}
theorem Inv.env0 (I:Inv X pins σ H s):Env0 X.prog X.w X.K X.mg X.base X.A X.stack s H:=
  ⟨I.ok.frames,I.ok.mod,I.bs,Nat.le_trans I.ok.bsz I.sz,I.stack,I.stkFree,I.hok,I.bare⟩
theorem Inv.after {Q:VK} {u:Value} (I:Inv X pins σ H s) (h:CE X.stack X.prog X.w H s Q u s'):EP X pins σ Q u s':=by
  obtain ⟨v,H',os,bare,un,hok,r,q⟩:=h
  obtain ⟨hh,g,d,t,os'⟩:=s'
  obtain rfl:os'=s.os:=os
  exact ⟨v,H',I.call (h':=hh) (g':=g) (d':=d) (t':=t) (ch:=[]) un hok bare (fun b z=>absurd z (by simp)),r,q⟩
end
def QkF (sp:Sp) (dvs:List V) (E:XK) (t:TA):TE:=fun σ H Q=>t σ H fun vs H1=>sp (vs++dvs) H1 Q E
def Binds (K:PySem.W.Frag) (fd:FuncData) (ps:List Str) (ds:List Value):Prop:=
  ∀ (s:Shared) (us:List Value),K.In s.heap->(us++ds).length=ps.length->BindsTo s fd ⟨us,[]⟩ (ps.zip (us++ds))
theorem Binds.all {K:PySem.W.Frag} {fd:FuncData} {ps:List Str} (h:∀ us:List Value,us.length=ps.length->bindArgs fd ⟨us,[]⟩=pure (ps.zip us)):Binds K fd ps []:=fun s us _ hl=>by
  rw [List.append_nil] at hl ⊢
  exact .of_eq (h us hl)
def QcB (CX:CXT) (X:Cx) (E:XK):Prop:=∀ (pins:List (Addr×Obj)) (σ:St) (H:Hp) (s:Shared) (e:Value) (s':Shared),Inv X pins σ H s->CX X.stack H s E e s'->X.xe e s'
section
variable {X:Cx} {CX:CXT} {k:Nat} {f C:Addr} {fd:FuncData} {ps:List Str} {sp:Sp} {dvs:List V} {ds:List Value} {E:XK} {x m:Str} {p pos apos:Pos} {e o:Expr} {es:List Expr} {ta:TE} {t:TA}
theorem run_fn {pins:List (Addr×Obj)} {σ:St} {H:Hp} {s:Shared} {Q:VK} {us:List Value} {vs:List V} (F:FnOk X.prog X.w X.K X.mg X.base CX k f fd ps sp) (hr:Room k X.A) (hb:Binds X.K fd ps ds) (hd:Vals dvs ds) (hx:QcB CX X E)
    (I:Inv X pins σ H s) (r:Vals vs us) (h:sp (vs++dvs) H Q E):wpAny (model X.prog X.w) X.A (call (.ref f) us) (EP X pins σ Q) X.xe s:=by
  have r2:Vals (vs++dvs) (us++ds):=r.append hd
  have hl:(us++ds).length=ps.length:=by rw [<- r2.length];exact F.len _ _ _ _ h
  refine wpAny_call (codeAny_mono (F.run X.A X.stack s H ⟨us,[]⟩ (us++ds) (vs++dvs) Q E hr I.env0 (hb s us I.kIn hl) r2 h) fun r s' hq=>?_)
  cases r with
  | error e=>exact hx pins σ H s e s' I hq
  | ok fl=>
    cases fl with
    | ret u=>exact I.after hq
    | next=>exact False.elim hq
    | brk=>exact False.elim hq
    | cont=>exact False.elim hq
theorem QdU (F:FnOk X.prog X.w X.K X.mg X.base CX k f fd ps sp) (hr:Room k X.A) (hg:Gl X x) (hm:X.mg x=some (.ref f)) (hk:PySem.W.keepIn X.K (.ref f)=true) (hb:Binds X.K fd ps ds) (hd:Vals dvs ds) (hx:QcB CX X E)
    (ha:PA X (e::es) t) (hdb:(x == ("__debug__" : Str))=false:=by decide) (he:starEach (e::es) X.env=(false,eval e X.env)::starEach es X.env:=by rfl) (hpl:(backTo pos (starEach es X.env)).any (·.1)=false:=by rfl) :
    PE X (.Call (.Name x p) (e::es) [] pos) (QkF sp dvs E t):=by
  intro pins s σ H Q I h
  refine wpAny_Call_Name_kw (QlH I hg hm ?_ hdb)
  refine PySem.W.callWith_K (h₀:=X.base) I.ok.mod.kin hk (thn (ha pos pins s σ H _ I h) fun us s1 ⟨vs,H1,I1,r,q⟩=>⟨I1.kIn,?_⟩) he hpl
  exact run_fn F hr hb hd hx I1 r q
end
section
variable {X:Cx} {CX:CXT} {k:Nat} {f C:Addr} {fd:FuncData} {ps ks:List Str} {sp:Sp} {E:XK} {x m:Str} {p pos apos kpos:Pos} {e o:Expr} {es:List Expr} {kws:List Keyword} {te ta:TE} {t tk:TA} {nm:Option Str}
variable {g:List Value->List Value->List Value} {gV:List V->List V->List V}
end
structure FnScope (N P:List Str) (sc:Scope):Prop where
  kind:sc.kind=.function
  co:sc.isCoroutine=false
  gen:sc.isGenerator=false
  nd:N.Nodup
  pre:N.take P.length=P
  par:∀ x∈P,sc.names.lookup x=some .local∨sc.names.lookup x=some .cell
  nofree:∀ y∈sc.names,y.2≠.free
theorem QeR {kindOf:Str->Option NameKind} {x:Str}:∀ {binds:List (Str×Value)} {m:Str->Option Value},(∀ v,(x,v)∉binds)->bindL kindOf binds m x=m x
  | [],_,_=>rfl
  | (n,v)::r,m,h=>by
    unfold bindL
    rw [QeR fun w hw=>h w (List.mem_cons_of_mem _ hw)]
    split
    · have:x≠n:=by rintro rfl;exact h v List.mem_cons_self
      simp [this]
    · rfl
theorem QeT {kindOf:Str->Option NameKind} {x:Str}:∀ {binds:List (Str×Value)} {m:Str->Option Value},(∀ v,(x,v)∉binds)->bindC kindOf binds m x=m x
  | [],_,_=>rfl
  | (n,v)::r,m,h=>by
    unfold bindC
    rw [QeT fun w hw=>h w (List.mem_cons_of_mem _ hw)]
    split
    · rfl
    · have:x≠n:=by rintro rfl;exact h v List.mem_cons_self
      simp [this]
theorem QeS {kindOf:Str->Option NameKind} {x:Str} {v:Value}:∀ {P:List Str} {vs:List Value} {i:Nat} {m:Str->Option Value},P.Nodup->P[i]? = some x->vs[i]? = some v->kindOf x=some .local ->
    bindL kindOf (P.zip vs) m x=some v
  | [],_,_,_,_,h,_,_=>by simp at h
  | _::_,[],_,_,_,_,h,_=>by simp at h
  | p::P,w::vs,0,m,nd,h1,h2,hk=>by
    simp at h1 h2;subst h1;subst h2
    show bindL kindOf ((p,w)::P.zip vs) m p=_
    unfold bindL
    rw [QeR fun v hv=>(List.nodup_cons.mp nd).1 (List.of_mem_zip hv).1,if_pos hk]
    simp
  | p::P,w::vs,i+1,m,nd,h1,h2,hk=>by
    show bindL kindOf ((p,w)::P.zip vs) m x=_
    unfold bindL
    exact QeS (i:=i) (List.nodup_cons.mp nd).2 (by simpa using h1) (by simpa using h2) hk
theorem QeU {kindOf:Str->Option NameKind} {x:Str} {v:Value}:∀ {P:List Str} {vs:List Value} {i:Nat} {m:Str->Option Value},P.Nodup->P[i]? = some x->vs[i]? = some v->kindOf x≠some .local ->
    bindC kindOf (P.zip vs) m x=some v
  | [],_,_,_,_,h,_,_=>by simp at h
  | _::_,[],_,_,_,_,h,_=>by simp at h
  | p::P,w::vs,0,m,nd,h1,h2,hk=>by
    simp at h1 h2;subst h1;subst h2
    show bindC kindOf ((p,w)::P.zip vs) m p=_
    unfold bindC
    rw [QeT fun v hv=>(List.nodup_cons.mp nd).1 (List.of_mem_zip hv).1,if_neg hk]
    simp
  | p::P,w::vs,i+1,m,nd,h1,h2,hk=>by
    show bindC kindOf ((p,w)::P.zip vs) m x=_
    unfold bindC
    exact QeU (i:=i) (List.nodup_cons.mp nd).2 (by simpa using h1) (by simpa using h2) hk
def start (N:List Str) (vs:List V):St:=vs.map some++List.replicate (N.length - vs.length) none
def cxOf (CX:CXT) (P:Program) (w:World) (K:PySem.W.Frag) (mg:Str->Option Value) (base:Heap) (N:List Str) (qual:Str) (scope:Scope) (f:Addr) (cd:Value) (A:Around) (outer:List Env) (s:Shared) (H:Hp) (E:XK):Cx where
  prog:=P
  w:=w
  K:=K
  mg:=mg
  base:=base
  A:=A.deeper (envOfC qual scope s.heap.objs.size f cd)
  N:=N
  s₀:=s
  H₀:=H
  env:=envOfC qual scope s.heap.objs.size f cd
  outer:=outer
  stack:=envOfC qual scope s.heap.objs.size f cd::outer
  ex:=[]
  calm:=true
  fn:=fun _=>true
  pn:=[]
  xe:=fun e s'=>wpAny (model P w) (A.deeper (envOfC qual scope s.heap.objs.size f cd)) (leaving (envOfC qual scope s.heap.objs.size f cd) e) (fun _ s''=>CX outer H s E e s'') (fun e' s''=>CX outer H s E e' s'') s'
theorem Qgg {sc:Scope} {n:Nat} {x:Str} (h:sc.names.lookup x=some .cell):∃ c,(cellsFrom n sc.names []).lookup x=some c:=by
  have q:=PySem.W.cellsFrom_some sc.names n [] (.inl h)
  exact Option.isSome_iff_exists.mp q
theorem QhR {CX:CXT} {P:Program} {w:World} {K:PySem.W.Frag} {mg:Str->Option Value} {base:Heap} {N ps:List Str} {qual:Str} {scope:Scope} {f:Addr} {cd:Value} {A:Around} {outer:List Env} {s s1:Shared} {H:Hp} {E:XK} {us:List Value} {vs:List V}
    (S:FnScope N ps scope) (hd:A.handled=none) (e0:Env0 P w K mg base A outer s H) (hl:vs.length=ps.length) (r:Vals vs us)
    (x:InCallC s s.heap.objs.size (bindL (envOfC qual scope s.heap.objs.size f cd).kindOf (ps.zip us) fun _=>none) (cellsFrom (s.heap.objs.size+1) scope.names []) (bindC (envOfC qual scope s.heap.objs.size f cd).kindOf (ps.zip us) fun _=>none) s1) :
    Inv (cxOf CX P w K mg base N qual scope f cd A outer s H E) [] (start N vs) H s1:=by
  have hpl:ps.length<=N.length:=by have:=congrArg List.length S.pre;rw [List.length_take] at this;omega
  obtain ⟨h1,tk,rfl,hk⟩:=x.done
  have noA:∀ b:Addr,b∉(cxOf CX P w K mg base N qual scope f cd A outer s H E).ex:=fun b z=>absurd (show b∈([]:List Addr) from z) (by simp)
  refine ⟨⟨e0.mod,S.kind,rfl,rfl,Nat.le_refl _,fun y z c h1 h2=>?_,fun y hy=>?_,fun y c _ h=>?_,fun _=>hd,Around.frames_deeper e0.frames,.inr ⟨rfl,rfl⟩,fun b z=>absurd z (noA b),e0.bs,e0.bsz,fun b _ _=>noA b,fun b z=>absurd z (noA b),e0.funs,e0.frf⟩,
    rfl,e0.bare,Un.kept hk,⟨_,x.toInCall.ns,fun i y v h1 h2 h3=>?_⟩,fun y c h=>⟨_,x.cell y c h⟩,e0.hok.fresh (Nat.le_refl _),fun y c h=>?_,fun p hp=>absurd (show p∈([]:List (Addr×Obj)) from hp) (by simp),e0.hok.kept hk,?_⟩
  · exact name_of_addr x.apart (PySem.mem_of_lookup h1) (PySem.mem_of_lookup h2)
  · have hy:scope.names.lookup y=some .cell∨scope.names.lookup y=some .free:=hy
    rcases hy with hy | hy
    · exact Qgg hy
    · exact absurd rfl (S.nofree _ (PySem.mem_of_lookup hy))
  · exact Nat.le_of_lt (x.above y c (PySem.mem_of_lookup h))
  · have hi:i<vs.length:=by
      unfold start at h2
      by_cases hi:i<vs.length
      · exact hi
      · rw [List.getElem?_append_right (by simpa using hi)] at h2
        rw [List.getElem?_replicate] at h2
        split at h2<;>cases h2
    have ha:vs[i]? = some v:=by
      unfold start at h2
      rw [List.getElem?_append_left (by simpa using hi),List.getElem?_map] at h2
      cases e:vs[i]? with
      | none=>rw [e] at h2;cases h2
      | some a=>rw [e] at h2;cases h2;rfl
    obtain ⟨u,hu,rv⟩:=r.get ha
    have hp:ps[i]? = some y:=by
      rw [<- S.pre,List.getElem?_take_of_lt (by omega)];exact h1
    have ndP:ps.Nodup:=by rw [<- S.pre];exact S.nd.sublist (List.take_sublist _ _)
    refine ⟨u,rv,?_⟩
    rcases S.par y (List.mem_of_getElem? hp) with k | k
    · exact .inl ⟨k,QeS ndP hp hu k⟩
    · obtain ⟨c,e⟩:=Qgg (n:=s.heap.objs.size+1) k
      refine .inr ⟨.inl k,c,e,?_⟩
      have q:=x.cell y c e
      rw [QeU ndP hp hu (by show scope.names.lookup y≠_;rw [k];decide)] at q
      exact q
  · exact e0.hok.fresh (Nat.le_of_lt (x.above y c (PySem.mem_of_lookup h)))
  · unfold start
    show _=N.length
    rw [List.length_append,List.length_map,List.length_replicate]
    omega
theorem fn_of {CX:CXT} {P:Program} {w:World} {K:PySem.W.Frag} {mg:Str->Option Value} {base:Heap} {k:Nat} {f:Addr} {name qual:Str} {params:Arguments} {body:List Stmt} {scope:Scope} {dV kV doc pm cdv ct oc:Value} {an od:Option Addr}
    {osl:Array (Option Value)} {N ps:List Str} {sp:Sp} (lk:K.lookup f=some ⟨oc,od,.func (PySem.W.fnOf name qual params body scope dV kV doc pm an cdv ct),osl⟩) (hcd:PySem.W.codeIn K cdv qual=true) (S:FnScope N ps scope)
    (len:∀ vs H Q E,sp vs H Q E->vs.length=ps.length)
    (hbody:∀ (A:Around) (outer:List Env) (s:Shared) (H:Hp) (vs:List V) (Q:VK) (E:XK),Room k (A.deeper (envOfC qual scope s.heap.objs.size f cdv))->sp vs H Q E ->
      ∃ t,PSs (cxOf CX P w K mg base N qual scope f cdv A outer s H E) body t/\t { nx:=fun _ H'=>Q .non H',rt:=Q } (start N vs) H) :
    FnOk P w K mg base CX (k+1) f (PySem.W.fnOf name qual params body scope dV kV doc pm an cdv ct) ps sp:=by
  refine ⟨len,fun A outer s H args us vs Q E hr e0 hb r hsp=>?_⟩
  have hl:=len _ _ _ _ hsp
  have KX:K.In s.heap:=e0.mod.kin.keeps fun b o e=>(e0.bs b o e).1
  have lim:s.heap.NoLimit:=e0.mod.nolimit.keeps fun b o e=>(e0.bs b o e).1
  have hkind:∀ y∈ps.zip us,scope.names.lookup y.1=some .local∨(scope.names.lookup y.1=some .cell/\((cellsFrom (s.heap.objs.size+1) scope.names []).lookup y.1).isSome=true):=fun ⟨n,v⟩ hy=>by
    rcases S.par n (List.of_mem_zip hy).1 with q | q
    · exact .inl q
    · exact .inr ⟨q,PySem.W.cellsFrom_some _ _ _ (.inl q)⟩
  refine codeAny_call_function hr.depth (KX _ _ lk) rfl S.co S.gen rfl (PySem.W.codeRec_of KX hcd) (hb _ _ _ _ ?_)
  refine wpAny_newFunctionEnv_cells S.kind hkind fun env he s1 x=>?_
  subst he
  refine ⟨lim.keeps x.toInCall.keep,codeAny_func ?_⟩
  obtain ⟨t,ht,hq⟩:=hbody A outer s H vs Q E (hr.deeper _) hsp
  have I:Inv (cxOf CX P w K mg base N qual scope f cdv A outer s H E) [] (start N vs) H s1:=QhR S hr.hd e0 hl r x
  refine wpAny_mono (ht [] s1 (start N vs) H _ I hq) (fun fl s' hs=>?_) fun e s' hs=>hs
  have fin:∀ {σ':St} {H':Hp} {v:V} {u:Value},Inv (cxOf CX P w K mg base N qual scope f cdv A outer s H E) [] σ' H' s'->RelV v u->Q v H'->CE outer P w H s Q u s':=
    fun {σ' H' v u} J rv q=>⟨v,H',J.os,J.bare,J.base,J.hok,rv,q⟩
  cases fl with
  | ret u=>
    obtain ⟨v,σ',H',J,rv,q⟩:=hs
    exact fin J rv q
  | next=>
    obtain ⟨σ',H',J,q⟩:=hs
    exact fin (v:=V.non) (u:=Value.none) J rfl q
  | brk=>
    obtain ⟨_,_,_,q⟩:=hs
    exact False.elim q
  | cont=>
    obtain ⟨_,_,_,q⟩:=hs
    exact False.elim q
section
variable {X:Cx} {x:Str} {p pos:Pos} {e:Expr} {es:List Expr} {t:TA} {id T:String} {r:List V->Hp->VK->Prop}
def tCB (r:List V->Hp->VK->Prop) (t:TA):TE:=fun σ H Q=>t σ H fun vs H1=>r vs H1 Q
theorem QbF (hc:CallR X (.builtin id) r) (hg:Gl X x) (hm:X.mg x=none) (hv:bootBuiltins x=some (.builtin id)) (ha:PA X (e::es) t) (hn:x ≠ "__name__" := by decide) (hdb:(x == ("__debug__" : Str))=false:=by decide)
    (he:starEach (e::es) X.env=(false,eval e X.env)::starEach es X.env:=by rfl) (hpl:(backTo pos (starEach es X.env)).any (·.1)=false:=by rfl):PE X (.Call (.Name x p) (e::es) [] pos) (tCB r t):=by
  intro pins s σ H Q I h
  refine wpAny_Call_Name_kw (Qdt I hg hm hv ?_ hn hdb)
  exact PyProof.Rows.callWith_builtin1 (thn (ha pos pins s σ H _ I h) fun us s1 ⟨vs,H1,I1,r1,q1⟩=>hc pins s1 σ H1 vs us Q I1 r1 q1) he hpl
theorem Qbf (hc:CallR X (.type T) r) (hg:Gl X x) (hm:X.mg x=none) (hv:bootBuiltins x=some (.type T)) (ha:PA X (e::es) t) (hn:x ≠ "__name__" := by decide) (hdb:(x == ("__debug__" : Str))=false:=by decide)
    (he:starEach (e::es) X.env=(false,eval e X.env)::starEach es X.env:=by rfl) (hpl:(backTo pos (starEach es X.env)).any (·.1)=false:=by rfl):PE X (.Call (.Name x p) (e::es) [] pos) (tCB r t):=by
  intro pins s σ H Q I h
  refine wpAny_Call_Name_kw (Qdt I hg hm hv ?_ hn hdb)
  exact PyProof.Rows.callWith_type1 (thn (ha pos pins s σ H _ I h) fun us s1 ⟨vs,H1,I1,r1,q1⟩=>hc pins s1 σ H1 vs us Q I1 r1 q1) he hpl
end
end L2
namespace HT
open PySem PyProof.Rows
theorem rcLt_int (A:Around) (s:Shared) (a:Int) (t:Tok) (c:Int) (u:Tok) (prog:Program) (w:World) (E:Value->Shared->Prop) (Q:Value->Shared->Prop) (h:Q (.bool (decide (a<c))) s) :
    wpAny (model prog w) A (richCompare .Lt (.int a t) (.int c u)) Q E s:=
  (PyProof.Rows.lt_int h:wpAny (model prog w) A (compareOp .Lt (.int a t) (.int c u)) Q E s)
section
open PySem.SeqAt
open PySem.AutoSeq1 (wpAny_loadPart')
open PySem.MeetsSeq PySem.MeetsSeq2 PySem.MeetsSeq3
end
section
variable {prog:Program} {w:World} {A:Around} {E:Value->Shared->Prop} {s:Shared}
theorem cat_tup {t b:Addr} {vs ws:List Value} {Q:Value->Shared->Prop} (ht:IsTup s.heap t vs.toArray) (hb:IsTup s.heap b ws.toArray) (hv:vs≠[])
    (h1:ws=[]->Q (.ref t) s) (h2:ws≠[]->Q (.ref s.heap.objs.size) { s with heap:=s.heap.push { cls:=.type "tuple",data:=.seq (vs++ws).toArray } })
    (hsz:vs.length+ws.length<=sizeLine):wpAny (model prog w) A (binaryOp .Add (.ref t) (.ref b)) Q E s:=by
  obtain ⟨⟨cls,dd,data,sl⟩,ho,hc,n,hd⟩:=id ht
  obtain ⟨⟨cls2,dd2,data2,sl2⟩,ho2,hc2,n2,hd2⟩:=id hb
  simp only at hc hd hc2 hd2
  subst hc hd hc2 hd2
  have e:vs.toArray++ws.toArray=(vs++ws).toArray:=by simp
  by_cases hw:ws=[]
  · exact concat_meets ⟨_,ho,rfl⟩ ⟨_,ho2,rfl⟩ noFill_tuple_add seq_tuple_add PySem.F.slot_tuple_add PySem.F.entry_tuple_add (PySem.F.args_tuple_add_2 _ _)
      (tuple_addW1 t b vs.toArray ws.toArray n n2 dd dd2 sl sl2 (by simpa using hv) (by simp [hw])) ⟨ho,ho2,h1 hw⟩
  · refine concat_meets ⟨_,ho,rfl⟩ ⟨_,ho2,rfl⟩ noFill_tuple_add seq_tuple_add PySem.F.slot_tuple_add PySem.F.entry_tuple_add (PySem.F.args_tuple_add_2 _ _)
      (tuple_addW2 t b vs.toArray ws.toArray n n2 dd dd2 sl sl2 (by simpa using hv) (by simpa using hw) (by rw [List.size_toArray,List.size_toArray];exact hsz)) ⟨ho,ho2,?_⟩
    rw [e]
    exact h2 hw
def sIx (n d:Nat):Option Int->Nat
  | none=>d
  | some v=>if v<0 then (v+(n:Int)).toNat else min v.toNat n
theorem sIx_le (n d:Nat) (hd:d<=n) (o:Option Int):sIx n d o<=n:=by
  cases o with
  | none=>exact hd
  | some v=>
    show (if v<0 then (v+(n:Int)).toNat else min v.toNat n)<=n
    by_cases hv:v<0
    · rw [if_pos hv];omega
    · rw [if_neg hv];exact Nat.min_le_right _ _
theorem Qii (v:Int) (n d:Nat):(if v<0 then max (v+(n:Int)) 0 else min v (n:Int))=((sIx n d (some v):Nat):Int):=by
  show (if v<0 then max (v+(n:Int)) 0 else min v (n:Int))=(((if v<0 then (v+(n:Int)).toNat else min v.toNat n):Nat):Int)
  by_cases hv:v<0
  · simp only [if_pos hv];omega
  · simp only [if_neg hv];omega
theorem QgD (lo hi:Option Int) (n:Nat):Builtin.Slice.sliceAdjust lo hi 1 (n:Int)=(((sIx n 0 lo:Nat):Int),((sIx n n hi:Nat):Int)):=by
  have h1:¬ ((1:Int)<0):=by omega
  unfold Builtin.Slice.sliceAdjust
  simp only [h1,if_false]
  refine Prod.ext ?_ ?_
  · cases lo with
    | none=>rfl
    | some v=>exact Qii v n 0
  · cases hi with
    | none=>rfl
    | some v=>exact Qii v n n
theorem Qgq (i j:Nat):Builtin.Slice.slicePlaces (i:Int) (j:Int) 1=j - i:=by
  unfold Builtin.Slice.slicePlaces
  have h1:(1:Int) > 0:=by omega
  simp only [h1,if_true,Int.ediv_one]
  split<;>omega
theorem Qdi {v:Value} {o:Option Int} {Q:Option Int->Shared->Prop} (p:IsPart v o) (h:Q o s):wpAny (model prog w) A (Builtin.Slice.slicePartIndex v) Q E s:=by
  cases p with
  | none=>exact slicePart_none h
  | int i t=>exact slicePart_int h
theorem sliceApplied_gen {sl:Addr} {vl vu:Value} {lo hi:Option Int} {n:Nat} {Q:Int×Int×Nat->Shared->Prop} (hs:s.heap.IsSliceOf sl vl vu .none) (pl:IsPart vl lo) (pu:IsPart vu hi)
    (h:Q (((sIx n 0 lo:Nat):Int),1,sIx n n hi - sIx n 0 lo) s):wpAny (model prog w) A (Builtin.Slice.sliceApplied (.ref sl) (pure (n:Int))) Q E s:=by
  obtain ⟨os,hos,hcs,hds⟩:=id hs
  unfold Builtin.Slice.sliceApplied Builtin.Slice.sliceFields
  refine wpAny_bind (wpAny_bind (wpAny_field hos hds (x:=vl) rfl (wpAny_bind (wpAny_field hos hds (x:=vu) rfl (wpAny_bind (wpAny_field hos hds (x:=.none) rfl (wpAny_pure ?_)))))))
  refine wpAny_bind (slicePart_none ?_)
  show wpAny _ _ (if ((1:Int) == 0)=true then _ else _) _ _ s
  rw [if_neg (by decide)]
  refine wpAny_bind (Qdi pl (wpAny_bind (Qdi pu (wpAny_bind (wpAny_pure ?_)))))
  show wpAny _ _ (match Builtin.Slice.sliceAdjust lo hi 1 (n:Int) with | (lo,hi)=>pure (lo,(1:Int),Builtin.Slice.slicePlaces lo hi 1)) _ _ s
  rw [QgD lo hi n]
  show wpAny _ _ (pure (((sIx n 0 lo:Nat):Int),(1:Int),Builtin.Slice.slicePlaces ((sIx n 0 lo:Nat):Int) ((sIx n n hi:Nat):Int) 1)) _ _ s
  rw [Qgq]
  exact wpAny_pure h
theorem QiR (xs:Array Value) (i k:Nat):((List.range k).filterMap fun (m:Nat)=>xs[((i:Int)+(m:Int)*1).toNat]?).toArray=((xs.toList.drop i).take k).toArray:=by
  have e:(fun (m:Nat)=>xs[((i:Int)+(m:Int)*1).toNat]?)=fun m=>xs[i+m]? := by
    funext m
    have:((i:Int)+(m:Int)*1).toNat=i+m:=by omega
    rw [this]
  rw [e]
  have:=pick_run xs i k
  rw [List.filterMap_map] at this
  have e2:((fun x=>xs[x]?)∘fun x=>i+x)=fun m=>xs[i+m]? := rfl
  rw [e2] at this
  rw [this]
theorem getItem_tuple_cut {t sl:Addr} {items:Array Value} {vl vu:Value} {lo hi:Option Int} {Q:Value->Shared->Prop} (ht:IsTup s.heap t items) (hs:s.heap.IsSliceOf sl vl vu .none) (pl:IsPart vl lo) (pu:IsPart vu hi)
    (hw:¬ (sIx items.size 0 lo=0/\sIx items.size items.size hi=items.size))
    (h:Q (.ref s.heap.objs.size) { s with heap:=s.heap.push { cls:=.type "tuple",data:=.seq ((items.toList.drop (sIx items.size 0 lo)).take (sIx items.size items.size hi - sIx items.size 0 lo)).toArray } })
    (hsz:items.size<=sizeLine):wpAny (model prog w) A (getItem (.ref t) (.ref sl)) Q E s:=by
  have htake:sizeOk (.seq ((items.toList.drop (sIx items.size 0 lo)).take (sIx items.size items.size hi - sIx items.size 0 lo)).toArray):=by
    show ((items.toList.drop (sIx items.size 0 lo)).take (sIx items.size items.size hi - sIx items.size 0 lo)).toArray.size<=sizeLine
    rw [List.size_toArray,List.length_take,List.length_drop,Array.length_toList]
    omega
  have hj:sIx items.size items.size hi<=items.size:=sIx_le _ _ (Nat.le_refl _) hi
  obtain ⟨os,hos,hcs,hds⟩:=id hs
  have hTs:s.TypeIs (.ref sl) "slice" := ⟨os,hos,hcs⟩
  unfold getItem
  try with_reducible refine wpAny_holding ?_
  first | refine wpAny_bind (wpAny_pure ?_) | skip
  refine wpAny_bind (wpAny_sequenceKey ht.typeIs (by decide) ?_)
  refine wpAny_bind (wpAny_callSpecial?_slot (name:=Str.ofString "__getitem__") ht.typeIs PyProof.Rows.slot_tuple_getitem
    (wpAny_call_entry PyProof.Rows.slot_tuple_getitem ht.typeIs entry_tuple_getitem ?_ (args_tuple_getitem _ _)))
  show wpAny _ _ (Builtin.Tuple.tupleItemsOf (.ref t) >>= _) _ _ s
  refine wpAny_bind (tupleItemsOf_ ht ?_)
  refine wpAny_bind (wpAny_typeOf hTs ?_)
  rw [if_pos (by decide)]
  refine wpAny_bind (sliceApplied_gen hs pl pu ?_)
  have hno:¬ ((((sIx items.size 0 lo:Nat):Int) == 0&&(1:Int) == 1&&(sIx items.size items.size hi - sIx items.size 0 lo) == items.size)=true):=by
    intro q
    rw [Bool.and_eq_true,Bool.and_eq_true] at q
    have q1:((sIx items.size 0 lo:Nat):Int)=0:=eq_of_beq q.1.1
    have q2:sIx items.size items.size hi - sIx items.size 0 lo=items.size:=eq_of_beq q.2
    exact hw ⟨by omega,by omega⟩
  show wpAny _ _ (if (((sIx items.size 0 lo:Nat):Int) == 0&&(1:Int) == 1&&(sIx items.size items.size hi - sIx items.size 0 lo) == items.size)=true then _ else _) _ _ s
  rw [if_neg hno,QiR]
  first
    | exact wpAny_bind (m:=Builtin.Tuple.tupleExact _) (wpAny_newObj_type (wpAny_pure ⟨_,rfl,wpAny_pure h⟩) htake)
    | exact wpAny_bind (m:=Builtin.Tuple.tupleExact _) (wpAny_newObj_type (wpAny_bind (wpAny_pure (wpAny_pure ⟨_,rfl,wpAny_pure h⟩))) htake)
    | exact wpAny_bind (wpAny_bind (m:=Builtin.Tuple.tupleExact _) (wpAny_newObj_type (wpAny_pure (wpAny_pure ⟨_,rfl,wpAny_pure h⟩)) htake))
    | exact wpAny_bind (wpAny_bind (m:=Builtin.Tuple.tupleExact _) (wpAny_newObj_type (wpAny_pure ⟨_,rfl,wpAny_pure h⟩) htake))
end
end HT
namespace L2
open PySem PySem.Spec PyProof.Rows
abbrev TO:=St->Hp->(Option Int->Hp->Prop)->Prop
def PO (X:Cx) (e:Option Expr) (t:TO):Prop:=
  ∀ (pins:List (Addr×Obj)) (s:Shared) (σ:St) (H:Hp) (Q:Option Int->Hp->Prop),Inv X pins σ H s->t σ H Q ->
    wpAny (model X.prog X.w) X.A (evalPart e X.env) (fun u s'=>∃ o H',Inv X pins σ H' s'/\IsPart u o/\Q o H') X.xe s
def QkE:TO:=fun _ H Q=>Q none H
def tPart (t:TE):TO:=fun σ H Q=>t σ H fun x H1=>∃ i,x=.int i/\Q (some i) H1
theorem Qgz {ns:List Int}:∀ {us:List Value},Vals (ns.map V.int) us->IntsAre us ns:=by
  induction ns with
  | nil=>intro us r;rw [List.map_nil] at r;cases r;exact .nil
  | cons n ns ih=>
    intro us r
    rw [List.map_cons] at r
    cases r with
    | cons r1 r2=>
      obtain ⟨t,e⟩:=r1
      subst e
      exact .cons n t (ih r2)
section
variable {X:Cx} {e:Expr} {te:TE} {lo hi:Option Expr} {tl th:TO} {pos p2:Pos}
theorem Qk1:PO X none QkE:=by
  intro pins s σ H Q I h
  rw [evalPart_none]
  exact wpAny_pure ⟨none,H,I,.none,h⟩
theorem Qhc (h:PE X e te):PO X (some e) (tPart te):=by
  intro pins s σ H Q I hw
  rw [evalPart_some]
  refine thn (h pins s σ H _ I hw) fun u s1 ⟨x,H1,I1,r1,q1⟩=>?_
  obtain ⟨i,rfl,q⟩:=q1
  obtain ⟨t,rfl⟩:=r1
  exact ⟨some i,H1,I1,.int i t,q⟩
def SlR (X:Cx) (r:V->Option Int->Option Int->Hp->VK->Prop):Prop:=
  ∀ (pins:List (Addr×Obj)) (s:Shared) (σ:St) (H:Hp) (x:V) (v vl vu:Value) (lo hi:Option Int) (sl:Addr) (Q:VK),Inv X pins σ H s->RelV x v->s.heap.IsSliceOf sl vl vu .none->IsPart vl lo->IsPart vu hi->r x lo hi H Q ->
    ∃ T id,typeLookup (.type T) "__getitem__" = pure (some (.builtin id))/\s.TypeIs v T/\wpAny (model X.prog X.w) X.A (getItem v (.ref sl)) (EP X pins σ Q) X.xe s
theorem SlR.or {r r':V->Option Int->Option Int->Hp->VK->Prop} (h:SlR X r) (h':SlR X r'):SlR X (fun x lo hi H Q=>r x lo hi H Q∨r' x lo hi H Q):=by
  intro pins s σ H x v vl vu lo hi sl Q I rx hs pl pu q
  rcases q with q | q
  · exact h pins s σ H x v vl vu lo hi sl Q I rx hs pl pu q
  · exact h' pins s σ H x v vl vu lo hi sl Q I rx hs pl pu q
def tSl (r:V->Option Int->Option Int->Hp->VK->Prop) (te:TE) (tl th:TO):TE:=fun σ H Q=>te σ H fun x H1=>tl σ H1 fun l H2=>th σ H2 fun u H3=>r x l u H3 Q
theorem QiT {r:V->Option Int->Option Int->Hp->VK->Prop} (hr:SlR X r) (he:PE X e te) (hl:PO X lo tl) (hu:PO X hi th):PE X (.Subscript e (.Slice lo hi none p2) pos) (tSl r te tl th):=by
  intro pins s σ H Q I h
  refine Subscript_ (thn (he pins s σ H _ I h) fun v s1 ⟨x,H1,I1,r1,q1⟩=>?_)
  refine wpAny_Slice (thn (hl pins s1 σ H1 _ I1 q1) fun vl s2 ⟨l,H2,I2,pl,q2⟩=>thn (hu pins s2 σ H2 _ I2 q2) fun vu s3 ⟨u,H3,I3,pu,q3⟩=>?_)
  rw [evalPart_none]
  refine wpAny_pure ?_
  have I4:Inv X pins σ H3 { s3 with heap:=s3.heap.push { cls:=.type "slice",data:=.fields #[vl,vu,.none] } }:=I3.kept (t':=s3.toks) fun b ob q=>Heap.get?_push_of_some _ q
  obtain ⟨T,id,hT,ht,hg⟩:=hr pins { s3 with heap:=s3.heap.push { cls:=.type "slice",data:=.fields #[vl,vu,.none] } } σ H3 x v vl vu l u s3.heap.objs.size Q I4 r1 (Heap.IsSliceOf.new ..) pl pu q3
  show wpAny (model X.prog X.w) X.A (subscriptTail e (.Slice lo hi none p2) v (.ref s3.heap.objs.size)) (EP X pins σ Q) X.xe { s3 with heap:=s3.heap.push { cls:=.type "slice",data:=.fields #[vl,vu,.none] } }
  exact tail_any (ops:=[.ref s3.heap.objs.size,v]) ht hT hg (by with_unfolding_all rfl)
def cutV (xs:List V) (lo hi:Option Int):List V:=(xs.drop (HT.sIx xs.length 0 lo)).take (HT.sIx xs.length xs.length hi - HT.sIx xs.length 0 lo)
theorem Qc9 (xs:List V) (lo hi:Option Int):(cutV xs lo hi).length<=xs.length:=by
  unfold cutV
  rw [List.length_take,List.length_drop]
  omega
def rSlT (K:PySem.W.Frag):V->Option Int->Option Int->Hp->VK->Prop:=fun x lo hi H Q=>∃ a xs,x=.ref a/\SqT K H a xs /\
  ¬ (HT.sIx xs.length 0 lo=0/\HT.sIx xs.length xs.length hi=xs.length)/\∀ p,H p=none->Q (.ref p) (upd H p (.tup (cutV xs lo hi)))
theorem sl_tup:SlR X (rSlT X.K):=by
  intro pins s σ H x v vl vu lo hi sl Q I rx hs pl pu h
  obtain ⟨a,xs,rfl,hx,hw,q⟩:=h
  cases rx
  obtain ⟨its,r,ht,hz⟩:=I.tuple hx
  have hlen:its.toArray.size=xs.length:=by rw [List.size_toArray];exact r.length.symm
  refine ⟨"tuple",_,PyProof.Rows.slot_tuple_getitem.lookup,ht.typeIs,?_⟩
  refine HT.getItem_tuple_cut ht hs pl pu (by rw [hlen];exact hw) ?_ (by rw [hlen];exact hz)
  rw [hlen]
  refine ⟨.ref s.heap.objs.size,_,I.laid (t':=s.toks) (o:=.tup (cutV xs lo hi)) (fun b ob q=>Heap.get?_push_of_some _ q) (Nat.le_refl _) ?_,rfl,q _ (I.hok.fresh (Nat.le_refl _))⟩
  exact ⟨Nat.le_trans (Qc9 xs lo hi) hz,_,(r.drop (HT.sIx xs.length 0 lo)).take (HT.sIx xs.length xs.length hi - HT.sIx xs.length 0 lo),IsTup.new _ _⟩
def rCatT (K:PySem.W.Frag):R2:=fun x y H Q=>∃ a b xs ys,x=.ref a/\y=.ref b/\SqT K H a xs/\SqT K H b ys/\xs≠[]/\xs.length+ys.length<=sizeLine /\
  (ys=[]->Q (.ref a) H)/\(ys≠[]->∀ p,H p=none->Q (.ref p) (upd H p (.tup (xs++ys))))
theorem Vals.nil_iff {xs:List V} {us:List Value} (r:Vals xs us):us=[]↔xs=[]:=by
  cases r with
  | nil=>simp
  | cons _ _=>simp
theorem Qlx:OpR X (binaryOp .Add) (rCatT X.K):=by
  intro pins s σ H x y v u Q I rx ry h
  obtain ⟨a,b,xs,ys,rfl,rfl,ha,hb,hx,hz,q1,q2⟩:=h
  cases rx
  cases ry
  obtain ⟨its,r1,p1,_⟩:=I.tuple ha
  obtain ⟨its2,r2,p2,_⟩:=I.tuple hb
  refine HT.cat_tup p1 p2 (fun z=>hx (r1.nil_iff.mp z)) (fun z=>⟨.ref a,H,I,rfl,q1 (r2.nil_iff.mp z)⟩) (fun z=>?_) (by rw [<- r1.length,<- r2.length];exact hz)
  refine ⟨.ref s.heap.objs.size,_,I.laid (t':=s.toks) (o:=.tup (xs++ys)) (fun b ob q=>Heap.get?_push_of_some _ q) (Nat.le_refl _) ?_,rfl,q2 (fun w=>z (r2.nil_iff.mpr w)) _ (I.hok.fresh (Nat.le_refl _))⟩
  exact ⟨by rw [List.length_append];exact hz,_,r1.append r2,IsTup.new _ _⟩
end
def ixN (n:Nat) (i:Int):Option Nat:=if 0<=i then (if i<n then some i.toNat else none) else if -(n:Int)<=i then some (i+n).toNat else none
def atI {α:Type} (xs:List α) (i:Int):Option α:=(ixN xs.length i).bind fun j=>xs[j]?
theorem QhO {n:Nat} {i:Int} {j:Nat} (h:ixN n i=some j):seqIndex? i n=some j/\j<n /\ -(n:Int)<=i/\i<n:=by
  unfold ixN at h
  by_cases h0:0<=i
  · rw [if_pos h0] at h
    by_cases h1:i<n
    · rw [if_pos h1] at h
      have e:i.toNat=j:=Option.some.inj h
      exact ⟨by rw [seqIndex_of h0 h1,e],by omega,by omega,h1⟩
    · rw [if_neg h1] at h;cases h
  · rw [if_neg h0] at h
    by_cases h1 : -(n:Int)<=i
    · rw [if_pos h1] at h
      have e:(i+n).toNat=j:=Option.some.inj h
      exact ⟨by rw [seqIndex_neg (by omega) h1,e],by omega,h1,by omega⟩
    · rw [if_neg h1] at h;cases h
theorem Qiu {α:Type} {xs:List α} {i:Int} {v:α} (h:atI xs i=some v):∃ j,seqIndex? i xs.length=some j/\xs[j]? = some v/\j<xs.length /\ -(xs.length:Int)<=i/\i<xs.length:=by
  unfold atI at h
  cases e:ixN xs.length i with
  | none=>rw [e] at h;cases h
  | some j=>
    rw [e] at h
    obtain ⟨h1,h2,h3,h4⟩:=QhO e
    exact ⟨j,h1,h,h2,h3,h4⟩
theorem QaK {α:Type} {xs:List α} {j:Nat} {v:α} (h:xs[j]? = some v):atI xs (j:Int)=some v:=by
  have hj:j<xs.length:=(List.getElem?_eq_some_iff.mp h).1
  have e:ixN xs.length (j:Int)=some j:=by
    unfold ixN
    rw [if_pos (by omega),if_pos (by omega)];simp
  unfold atI;rw [e];exact h
def QfB (b:Expr):Prop:=∀ o i,subscripted b false o i=operate [o,i] (getItem o i)
def IxR (X:Cx) (r:R2):Prop:=
  ∀ (value slice:Expr) (pins:List (Addr×Obj)) (s:Shared) (σ:St) (H:Hp) (x y:V) (v u:Value) (Q:VK),Inv X pins σ H s->RelV x v->RelV y u->r x y H Q ->
    subscripted slice false v u=operate [v,u] (getItem v u)->wpAny (model X.prog X.w) X.A (subscriptTail value slice v u) (EP X pins σ Q) X.xe s
def MtR (X:Cx) (id:String) (r:V->List V->Hp->VK->Prop):Prop:=
  ∀ (pins:List (Addr×Obj)) (s:Shared) (σ:St) (H:Hp) (x:V) (xs:List V) (v:Value) (us:List Value) (Q:VK),Inv X pins σ H s->RelV x v->Vals xs us->r x xs H Q ->
    wpAny (model X.prog X.w) X.A (call (.builtin id) (v::us)) (EP X pins σ Q) X.xe s
section
variable {X:Cx} {a b:Expr} {ta tb:TE} {pos:Pos}
theorem IxR.or {r r':R2} (h:IxR X r) (h':IxR X r'):IxR X (fun x y H Q=>r x y H Q∨r' x y H Q):=by
  intro value slice pins s σ H x y v u Q I rx ry q hs
  rcases q with q | q
  · exact h value slice pins s σ H x y v u Q I rx ry q hs
  · exact h' value slice pins s σ H x y v u Q I rx ry q hs
theorem MtR.or {id:String} {r r':V->List V->Hp->VK->Prop} (h:MtR X id r) (h':MtR X id r'):MtR X id (fun x xs H Q=>r x xs H Q∨r' x xs H Q):=by
  intro pins s σ H x xs v us Q I rx rs q
  rcases q with q | q
  · exact h pins s σ H x xs v us Q I rx rs q
  · exact h' pins s σ H x xs v us Q I rx rs q
theorem QiU {r:R2} (hr:IxR X r) (ha:PE X a ta) (hb:PE X b tb) (hs:QfB b):PE X (.Subscript a b pos) (tOp r ta tb):=by
  intro pins s σ H Q I h
  exact Subscript_ (binT ha hb I h fun v u s2 x y H2 I2 rx ry q=>hr a b pins s2 σ H2 x y v u Q I2 rx ry q (hs _ _))
def rIxL (K:PySem.W.Frag):R2:=fun x y H Q=>∃ p xs i v,x=.ref p/\y=.int i/\SqL K H p xs/\atI xs i=some v/\Q v H
def rIxT (K:PySem.W.Frag):R2:=fun x y H Q=>∃ p xs i v,x=.ref p/\y=.int i/\SqT K H p xs/\atI xs i=some v/\Q v H
theorem Qd0:IxR X (rIxL X.K):=by
  intro value slice pins s σ H x y v u Q I rx ry h hs
  obtain ⟨p,xs,i,z,rfl,rfl,hq,he,q⟩:=h
  cases rx
  obtain ⟨t,rfl⟩:=ry
  obtain ⟨its,r,pl,hz⟩:=I.list hq
  obtain ⟨j,h1,h2,h3,h4,h5⟩:=Qiu he
  obtain ⟨w,ew,rw'⟩:=r.get h2
  have hl:=r.length
  have hn:=QfT
  have fin:EP X pins σ Q w s:=⟨z,H,I,rw',q⟩
  by_cases h0:0<=i
  · have hj:i.toNat=j:=by
      rw [seqIndex_of h0 h5] at h1
      exact Option.some.inj h1
    exact item_listR pl.isList h0 (by omega) (by rw [hj];simpa using ew) fin hs
  · have hj:(i+(its.toArray.size:Int)).toNat=j:=by
      rw [seqIndex_neg (by omega) h4] at h1
      rw [List.size_toArray,<- hl]
      exact Option.some.inj h1
    exact subscriptTail_builtinR (x:=w) pl.isList.typeIs slot_list_getitem.lookup
      (wpAny_getItem_list_neg (Q:=fun r s'=>r=w/\EP X pins σ Q r s') pl.isList (by omega) (by rw [List.size_toArray]<;>omega) (by omega) (by rw [hj];simpa using ew) ⟨rfl,fin⟩) hs
theorem ix_tup:IxR X (rIxT X.K):=by
  intro value slice pins s σ H x y v u Q I rx ry h hs
  obtain ⟨p,xs,i,z,rfl,rfl,hq,he,q⟩:=h
  cases rx
  obtain ⟨t,rfl⟩:=ry
  obtain ⟨its,r,pl,hz⟩:=I.tuple hq
  obtain ⟨j,h1,h2,h3,h4,h5⟩:=Qiu he
  obtain ⟨w,ew,rw'⟩:=r.get h2
  have hl:=r.length
  have hn:=QfT
  have fin:EP X pins σ Q w s:=⟨z,H,I,rw',q⟩
  exact subscriptTail_builtinR (x:=w) pl.typeIs slot_tuple_getitem.lookup
    (getItem_tuple (j:=j) (Q:=fun r s'=>r=w/\EP X pins σ Q r s') pl (by omega) (by omega) (by rw [List.size_toArray,<- hl];exact h1) (by simpa using ew) ⟨rfl,fin⟩) hs
theorem Qgx (its:List Value) (n j:Nat) (u:Value):Obj.mapSeq (·.setIfInBounds j u) { cls:=.type "list",data:=.seq its.toArray n }={ cls:=.type "list",data:=.seq (its.set j u).toArray n }:=by
  simp [Obj.mapSeq]
theorem Inv.lst {pins:List (Addr×Obj)} {σ:St} {H:Hp} {s:Shared} {p:Addr} {xs:List V} (I:Inv X pins σ H s) (h:H p=some (.lst xs)) :
    ∃ (its:List Value) (n:Nat),Vals xs its/\s.heap.get? p=some { cls:=.type "list",data:=.seq its.toArray n }/\xs.length<=sizeLine:=by
  obtain ⟨z,its,n,r,e⟩:=I.hok p _ h
  exact ⟨its,n,r,e,z⟩
theorem Inv.lstUpd {pins:List (Addr×Obj)} {σ:St} {H:Hp} {s:Shared} {p:Addr} {xs ys:List V} {its its':List Value} {n n':Nat} {f:Obj->Obj} (I:Inv X pins σ H s) (h:H p=some (.lst xs))
    (ho:s.heap.get? p=some { cls:=.type "list",data:=.seq its.toArray n }) (hf:f { cls:=.type "list",data:=.seq its.toArray n }={ cls:=.type "list",data:=.seq its'.toArray n' }) (r:Vals ys its') (hz:ys.length<=sizeLine) (t:Nat) :
    Inv X pins σ (upd H p (.lst ys)) { s with heap:=s.heap.update p f,toks:=t }:=by
  have e:(s.heap.update p f).get? p=some { cls:=.type "list",data:=.seq its'.toArray n' }:=by
    rw [Heap.get?_update_self f ho (by rw [hf]<;>rfl),hf]
  refine I.write (x:=p) (e:=p) (by rw [h];trivial) (.inl rfl) (fun b u hb q=>(Heap.get?_update_other _ _ (Ne.symm hb)).trans q) ⟨_,e⟩ ?_
  exact ⟨hz,its',n',r,e⟩
def QkO:V->V->V->Hp->(Hp->Prop)->Prop:=fun o i v H Q=>∃ p xs k j,o=.ref p/\i=.int k/\H p=some (.lst xs)/\ixN xs.length k=some j/\Q (upd H p (.lst (xs.set j v)))
theorem QdK:PSet X QkO:=by
  intro pins s σ H o i v ov iv u Q I ro ri rv h
  obtain ⟨p,xs,k,j,rfl,rfl,hp,hj,q⟩:=h
  cases ro
  obtain ⟨t,rfl⟩:=ri
  obtain ⟨its,n,r,ho,hz⟩:=I.lst hp
  obtain ⟨h1,h2,h3,h4⟩:=QhO hj
  have hl:=r.length
  have hn:=QfT
  have I':Inv X pins σ (upd H p (.lst (xs.set j v))) { s with heap:=s.heap.update p (Obj.mapSeq (·.setIfInBounds j u)) }:=
    I.lstUpd hp ho (Qgx its n j u) (r.set rv j) (by rw [List.length_set];exact hz) s.toks
  by_cases h0:0<=k
  · have hk:k.toNat=j:=by
      rw [seqIndex_of h0 h4] at h1
      exact Option.some.inj h1
    exact PySem.W.ki_setAt ho h0 (by omega) (by rw [List.size_toArray,<- hl];exact h4) (by rw [hk];exact ⟨_,I',q⟩)
  · have hk:(k+(its.toArray.size:Int)).toNat=j:=by
      rw [seqIndex_neg (by omega) h3] at h1
      rw [List.size_toArray,<- hl]
      exact Option.some.inj h1
    exact PySem.W.ki_setBack ho (by omega) (by rw [List.size_toArray,<- hl];exact h3) (by omega) (by rw [hk];exact ⟨_,I',q⟩)
theorem Qen (lo hi:Option Int) (n:Nat):(sliceBounds lo hi none n).1=((HT.sIx n 0 lo:Nat):Int)/\(sliceBounds lo hi none n).2.1=((HT.sIx n n hi:Nat):Int)/\(sliceBounds lo hi none n).2.2=1:=by
  refine ⟨?_,?_,rfl⟩
  · cases lo with
    | none=>simp [sliceBounds,HT.sIx]
    | some i=>
      simp only [sliceBounds,HT.sIx,Option.getD_none,show (1:Int) > 0 by decide,if_true]
      by_cases h:i<0
      · simp only [h,if_true]<;>omega
      · simp only [h,if_false]<;>omega
  · cases hi with
    | none=>simp [sliceBounds,HT.sIx]
    | some i=>
      simp only [sliceBounds,HT.sIx,Option.getD_none,show (1:Int) > 0 by decide,if_true]
      by_cases h:i<0
      · simp only [h,if_true]<;>omega
      · simp only [h,if_false]<;>omega
theorem QdH (its:List Value) (lo hi:Option Int):slicePick its.toArray lo hi none=((its.drop (HT.sIx its.length 0 lo)).take (HT.sIx its.length its.length hi - HT.sIx its.length 0 lo)).toArray:=by
  obtain ⟨h1,h2,h3⟩:=Qen lo hi its.toArray.size
  unfold slicePick
  rw [h1,h2,h3]
  simp only [sliceRange_one,pick_run,List.size_toArray]<;>rfl
def rSlL (K:PySem.W.Frag):V->Option Int->Option Int->Hp->VK->Prop:=fun x lo hi H Q=>∃ a xs,x=.ref a/\SqL K H a xs/\∀ p,H p=none->Q (.ref p) (upd H p (.lst (cutV xs lo hi)))
theorem QkH:SlR X (rSlL X.K):=by
  intro pins s σ H x v vl vu lo hi sl Q I rx hs pl pu h
  obtain ⟨a,xs,rfl,hx,q⟩:=h
  cases rx
  obtain ⟨its,r,ht,hz⟩:=I.list hx
  have hlen:=r.length
  refine ⟨"list",_,slot_list_getitem.lookup,ht.isList.typeIs,?_⟩
  refine wpAny_getItem_list_slice ht.isList hs pl pu .none (by simp) ?_ (by rw [List.size_toArray]<;>omega)
  rw [QdH,<- hlen]
  refine ⟨.ref s.heap.objs.size,_,I.laid (t':=s.toks) (o:=.lst (cutV xs lo hi)) (fun b ob q=>Heap.get?_push_of_some _ q) (Nat.le_refl _) ?_,rfl,q _ (I.hok.fresh (Nat.le_refl _))⟩
  exact ⟨Nat.le_trans (Qc9 xs lo hi) hz,_,0,(r.drop (HT.sIx xs.length 0 lo)).take (HT.sIx xs.length xs.length hi - HT.sIx xs.length 0 lo),Heap.get?_push_size _ rfl⟩
theorem Qba:CallR X (.builtin "len") (fun xs H Q=>∃ p ys,xs=[.ref p]/\(SqL X.K H p ys∨SqT X.K H p ys)/\Q (.int ys.length) H):=by
  intro pins s σ H xs us Q I r h
  obtain ⟨p,ys,rfl,hq,q⟩:=h
  obtain ⟨u,rfl,rx⟩:=QcC r
  cases rx
  have hn:=QfT
  rcases hq with hq | hq
  · obtain ⟨its,r',pl,hz⟩:=I.list hq
    have hlen:=r'.length
    exact Calls.call_len_list pl.isList (by simp only [List.size_toArray]<;>omega) ⟨.int ys.length,H,I.tok _,⟨s.toks+1,by rw [List.size_toArray,hlen]⟩,q⟩
  · obtain ⟨its,r',pl,hz⟩:=I.tuple hq
    have hlen:=r'.length
    exact len_tuple pl (by simp only [List.size_toArray]<;>omega) ⟨.int ys.length,H,I.tok _,⟨s.toks+1,by rw [List.size_toArray,hlen]⟩,q⟩
theorem CallR.or {f:Value} {r r':List V->Hp->VK->Prop} (h:CallR X f r) (h':CallR X f r'):CallR X f (fun xs H Q=>r xs H Q∨r' xs H Q):=by
  intro pins s σ H xs us Q I rs q
  rcases q with q | q
  · exact h pins s σ H xs us Q I rs q
  · exact h' pins s σ H xs us Q I rs q
theorem QeP:CallR X (.type "list") (fun xs H Q=>∃ p ys,xs=[.ref p]/\(SqL X.K H p ys∨SqT X.K H p ys)/\∀ l,H l=none->Q (.ref l) (upd H l (.lst ys))):=by
  intro pins s σ H xs us Q I r h
  obtain ⟨p,ys,rfl,hq,q⟩:=h
  obtain ⟨u,rfl,rx⟩:=QcC r
  cases rx
  have fin:∀ (its:List Value),Vals ys its->ys.length<=sizeLine->∀ (h':Heap) (c':Nat),(∀ b o',s.heap.get? b=some o'->h'.get? b=some o') ->
      h'.get? s.heap.objs.size=some { cls:=.type "list",dict:=none,data:=.seq its.toArray c',slots:=#[] }->EP X pins σ Q (.ref s.heap.objs.size) { s with heap:=h' }:=fun its r' hz h' c' kp e=>
    ⟨.ref s.heap.objs.size,_,I.laid (t':=s.toks) kp (Nat.le_refl _) (show ObjOk X.prog X.w _ h' _ (.lst ys) from ⟨hz,its,c',r',e⟩),rfl,q _ (I.hok.fresh (Nat.le_refl _))⟩
  rcases hq with hq | hq
  · obtain ⟨its,r',pl,hz⟩:=I.list hq
    have hlen:=r'.length
    obtain ⟨o,ho,hc,n,hd⟩:=pl.isList
    exact call_list_seq p (.inl rfl) ho hc hd (fun h' c' kp e=>fin its r' hz h' c' kp e) (by simp only [List.size_toArray]<;>omega)
  · obtain ⟨its,r',pl,hz⟩:=I.tuple hq
    have hlen:=r'.length
    obtain ⟨o,ho,hc,n,hd⟩:=pl
    exact call_list_seq p (.inr rfl) ho hc hd (fun h' c' kp e=>fin its r' hz h' c' kp e) (by simp only [List.size_toArray]<;>omega)
theorem Qcf:CallR X (.type "tuple") (fun xs H Q=>∃ p ys,xs=[.ref p]/\((SqL X.K H p ys/\∀ l,H l=none->Q (.ref l) (upd H l (.tup ys)))∨(SqT X.K H p ys/\Q (.ref p) H))):=by
  intro pins s σ H xs us Q I r h
  obtain ⟨p,ys,rfl,h⟩:=h
  obtain ⟨u,rfl,rx⟩:=QcC r
  cases rx
  rcases h with ⟨hq,q⟩ | ⟨hq,q⟩
  · obtain ⟨its,r',pl,hz⟩:=I.list hq
    have hlen:=r'.length
    refine call_tuple_list pl.isList (fun h' kp=>?_) (by simp only [List.size_toArray]<;>omega)
    have I1:Inv X pins σ H { s with heap:=h' }:=I.kept (t':=s.toks) kp
    have I2:Inv X pins σ (upd H h'.objs.size (.tup ys)) { s with heap:=h'.push { cls:=.type "tuple",data:=.seq its.toArray } }:=
      I1.laid (t':=s.toks) (fun b o e=>Heap.get?_push_of_some _ e) (Nat.le_refl _) (show ObjOk X.prog X.w _ _ _ (.tup ys) from ⟨hz,its,r',IsTup.new _ _⟩)
    exact ⟨.ref h'.objs.size,_,I2,rfl,q _ (I1.hok.fresh (Nat.le_refl _))⟩
  · obtain ⟨its,r',pl,hz⟩:=I.tuple hq
    exact call_tuple_same pl ⟨.ref p,H,I,rfl,q⟩
def tyV (K:PySem.W.Frag) (T:String) (x:V) (H:Hp):Prop:=match x with
  | .str _=>T = "str"
  | .int _=>T = "int"
  | .ref p=>(T = "list" /\ ∃ xs,SqL K H p xs)∨(T = "tuple" /\ ∃ o,K.lookup p=some o/\o.cls=.type "tuple" /\ o.dict=none) ∨
      (T = "dict" /\ ((∃ kvs,H p=some (.dK kvs))∨∃ kvs,H p=some (.dT kvs)))∨(T = "set" /\ ∃ S n,H p=some (.set S n))
  | _=>False
theorem tyV_is {pins:List (Addr×Obj)} {σ:St} {H:Hp} {s:Shared} {T:String} {x:V} {v:Value} (I:Inv X pins σ H s) (r:RelV x v) (ty:tyV X.K T x H) :
    s.TypeIs v T/\∀ a,v=.ref a->∃ ob,s.heap.get? a=some ob/\ob.dict=none:=by
  cases x with
  | str z=>
    obtain ⟨t,rfl⟩:=r
    cases (show T = "str" from ty)
    exact ⟨typeIs_str s z t,fun _ e=>nomatch e⟩
  | int i=>
    obtain ⟨t,rfl⟩:=r
    cases (show T = "int" from ty)
    exact ⟨typeIs_int s i t,fun _ e=>nomatch e⟩
  | ref p=>
    cases r
    rcases ty with ⟨rfl,xs,hq⟩ | ⟨rfl,o,hk,hc,hd⟩ | ⟨rfl,hk⟩ | ⟨rfl,S,n,hk⟩
    · obtain ⟨its,_,pl,_⟩:=I.list hq
      refine ⟨pl.isList.typeIs,fun a e=>?_⟩
      cases e
      obtain ⟨o,n,e,c,hd,_⟩:=pl
      exact ⟨o,e,hd⟩
    · refine ⟨⟨o,I.kIn p o hk,hc⟩,fun a e=>?_⟩
      cases e
      exact ⟨o,I.kIn _ o hk,hd⟩
    · have z:∃ o,s.heap.get? p=some o/\o.ExactDict:=by
        rcases hk with ⟨kvs,hk⟩ | ⟨kvs,hk⟩
        · obtain ⟨_,_,_,_,o,_,_,e,ex,_⟩:=I.hok p _ hk
          exact ⟨o,e,ex⟩
        · obtain ⟨_,_,_,_,o,_,_,e,ex,_⟩:=I.hok p _ hk
          exact ⟨o,e,ex⟩
      obtain ⟨o,e,ex⟩:=z
      refine ⟨⟨o,e,ex.1⟩,fun a e2=>?_⟩
      cases e2
      exact ⟨o,e,ex.2.1⟩
    · obtain ⟨o,_,_,_,e,ex,_⟩:=I.hok p _ hk
      refine ⟨⟨o,e,ex.1⟩,fun a e2=>?_⟩
      cases e2
      exact ⟨o,e,ex.2.1⟩
  | _=>exact False.elim ty
def tBM (K:PySem.W.Frag) (T:String) (r:V->List V->Hp->VK->Prop) (to:TE) (t:TA):TE:=fun σ H Q=>to σ H fun x H1=>tyV K T x H1/\t σ H1 fun xs H2=>r x xs H2 Q
variable {o e:Expr} {es:List Expr} {to:TE} {t:TA} {name:Str} {apos cpos:Pos} {T id:String} {r:V->List V->Hp->VK->Prop}
theorem pe_bm (pa:PlainAttrs T) (slot:Slot T name id) (hty:typeOf (.builtin id)=pure (.type "method_descriptor")) (hm:MtR X id r) (ho:PE X o to) (ha:PA X (e::es) t)
    (hbase:attributeBase o name X.env (eval o X.env)=eval o X.env:=by rfl)
    (hfew:((backTo cpos (starEach (e::es) X.env)).all (fun x => !x.1)&&(backToKw cpos (keywordEach [] X.env)).all (fun x=>x.1.isSome)
      && decide ((e::es).length+([]:List Keyword).length+(if ([]:List Keyword).isEmpty then 0 else 1)<30))=true:=by rfl)
    (hline:(apos.endLine == cpos.line)=true:=by rfl) (hs:starEach (e::es) X.env=(false,eval e X.env)::starEach es X.env:=by rfl) (hplain:(backTo cpos (starEach es X.env)).any (·.1)=false:=by rfl) :
    PE X (.Call (.Attribute o name apos) (e::es) [] cpos) (tBM X.K T r to t):=by
  intro pins s σ H Q I h
  refine wpAny_Call_method_late hbase hfew hline rfl (thn (ho pins s σ H _ I h) fun v s1 ⟨x,H1,I1,r1,ty,q1⟩=>?_)
  obtain ⟨h1,h2⟩:=tyV_is I1 r1 ty
  refine ⟨T,id,pa,slot,hty,h1,h2,?_⟩
  have hA:=ha cpos pins s1 σ H1 _ I1 q1
  rw [hs] at hA ⊢
  refine Calls.callWith_builtin (by show (false||(backTo cpos (starEach es X.env)).any (·.1))=false;rw [hplain]<;>rfl) (Calls.evalArgs_plain ?_)
  exact thn hA fun us s2 ⟨vs,H2,I2,r2,q2⟩=>hm pins s2 σ H2 x vs v us Q I2 r1 r2 q2
end
def MtM (X:Cx) (id:String) (r:V->List V->Hp->VK->Prop):Prop:=
  ∀ (pins:List (Addr×Obj)) (s:Shared) (σ:St) (H:Hp) (x:V) (xs:List V) (v:Value) (us:List Value) (Q:VK),Inv X pins σ H s->RelV x v->Vals xs us->r x xs H Q ->
    wpAny (model X.prog X.w) X.A (call (.builtin id) (v::us)) (EP X pins σ Q) X.xe s
theorem Vals.one:∀ {x:V} {us:List Value},Vals [x] us->∃ u,us=[u]/\RelV x u
  | _,_,.cons r .nil=>⟨_,rfl,r⟩
theorem Vals.zero:∀ {us:List Value},Vals [] us->us=[]
  | _,.nil=>rfl
theorem Vals.eraseIdx:∀ {xs:List V} {us:List Value} (i:Nat),Vals xs us->Vals (xs.eraseIdx i) (us.eraseIdx i)
  | _,_,_,.nil=>.nil
  | _,_,0,.cons _ t=>t
  | _,_,i+1,.cons r t=>.cons r (Vals.eraseIdx i t)
theorem Vals.reverse {xs:List V} {us:List Value} (h:Vals xs us):Vals xs.reverse us.reverse:=by
  induction h with
  | nil=>exact .nil
  | cons r t ih=>rw [List.reverse_cons,List.reverse_cons];exact Vals.append ih (.cons r .nil)
theorem Qez {α:Type}:∀ (l:List α) (i:Nat),(l.eraseIdx i).length<=l.length
  | [],_=>Nat.le_refl _
  | _::_,0=>Nat.le_succ _
  | _::r,i+1=>Nat.succ_le_succ (Qez r i)
section
variable {X:Cx} {pins:List (Addr×Obj)} {σ:St} {H:Hp} {s:Shared} {l b:Addr} {xs ys zs:List V}
theorem Inv.lset {its its':List Value} {n:Nat} {f:Array Value->Array Value} {t':Nat} (I:Inv X pins σ H s) (hH:H l=some (.lst xs))
    (e:s.heap.get? l=some { cls:=.type "list",data:=.seq its.toArray n }) (hf:f its.toArray=its'.toArray) (hv:Vals ys its') (hz:ys.length<=sizeLine) :
    Inv X pins σ (upd H l (.lst ys)) { s with heap:=s.heap.update l (Obj.mapSeq f),toks:=t' }:=by
  have q:=PySem.IsL.update e f
  rw [hf] at q
  refine I.write (x:=l) (e:=l) (by rw [hH];exact trivial) (.inl rfl) (fun b' u hb hu=>(Heap.get?_update_other s.heap (Obj.mapSeq f) (Ne.symm hb)).trans hu) ⟨_,q⟩ ?_
  exact ⟨hz,its',_,hv,q⟩
theorem Inv.lnew {its:List Value} {t':Nat} (I:Inv X pins σ H s) (hv:Vals ys its) (hz:ys.length<=sizeLine) :
    Inv X pins σ (upd H s.heap.objs.size (.lst ys)) { s with heap:=s.heap.push { cls:=.type "list",data:=.seq its.toArray },toks:=t' }:=
  I.laid (fun _ _ q=>Heap.get?_push_of_some _ q) (Nat.le_refl _) ⟨hz,its,0,hv,Heap.get?_push_size _ rfl⟩
theorem Inv.fresh (I:Inv X pins σ H s):H s.heap.objs.size=none:=I.hok.fresh (Nat.le_refl _)
theorem Inv.lstM (I:Inv X pins σ H s) (hH:H l=some (.lst xs)):xs.length<=sizeLine/\∃ (its:List Value) (n:Nat),Vals xs its/\xs.length=its.length/\s.heap.get? l=some { cls:=.type "list",data:=.seq its.toArray n }:=by
  obtain ⟨z,its,n,r,e⟩:=I.hok l _ hH
  exact ⟨z,its,n,r,r.length,e⟩
theorem Qji {n:Nat} (h:n<=sizeLine):Builtin.List.listTooLong n=false:=by
  unfold Builtin.List.listTooLong
  exact decide_eq_false (by omega)
end
section
variable {X:Cx}
def QkR:V->List V->Hp->VK->Prop:=fun x vs H Q=>∃ l xs y,x=.ref l/\vs=[y]/\H l=some (.lst xs)/\xs.length<sizeLine/\Q .non (upd H l (.lst (xs++[y])))
theorem QhF:MtM X "list.append" QkR:=by
  intro pins s σ H x vs v us Q I rx rv h
  obtain ⟨l,xs,y,rfl,rfl,hH,hz,q⟩:=h
  cases rx
  obtain ⟨u,rfl,ru⟩:=rv.one
  obtain ⟨z,its,n,r,hl,e⟩:=I.lstM hH
  refine call_meets F.slot_list_append ⟨_,e,rfl⟩ F.entry_list_append (F.args_list_append_2 _ _) (PySem.list_append l its.toArray n u (by rw [List.size_toArray];omega)) ⟨e,?_⟩
  refine ⟨.non,_,I.lset (its':=its++[u]) hH e (by simp) (r.append (.cons ru .nil)) ?_,rfl,q⟩
  rw [List.length_append,List.length_singleton]
  omega
def Qg5:V->List V->Hp->VK->Prop:=fun x vs H Q=>∃ l b xs zs,x=.ref l/\vs=[.ref b]/\H l=some (.lst xs)/\H b=some (.lst zs)/\xs.length+zs.length<=sizeLine/\Q .non (upd H l (.lst (xs++zs)))
theorem QhE:MtM X "list.extend" Qg5:=by
  intro pins s σ H x vs v us Q I rx rv h
  obtain ⟨l,b,xs,zs,rfl,rfl,hH,hB,hz,q⟩:=h
  cases rx
  obtain ⟨u,rfl,ru⟩:=rv.one
  cases ru
  obtain ⟨z,its,n,r,hl,e⟩:=I.lstM hH
  obtain ⟨z2,its2,n2,r2,hl2,e2⟩:=I.lstM hB
  have hsz:its.toArray.size+its2.toArray.size<=sizeLine:=by rw [List.size_toArray,List.size_toArray];omega
  have hlong:¬ (!its.toArray.isEmpty&&Builtin.List.listTooLong (its.toArray.size+its2.toArray.size))=true:=by
    rw [Qji hsz,Bool.and_false]
    exact Bool.false_ne_true
  refine call_meets F.slot_list_extend ⟨_,e,rfl⟩ F.entry_list_extend (F.args_list_extend_2 _ _)
    (AutoSeq1.list_extend_list_list_0 l its.toArray n b its2.toArray n2 hlong (by rw [List.size_toArray];omega) (by omega)) ⟨e,e2,?_⟩
  refine ⟨.non,_,I.lset (its':=its++its2) hH e (by simp) (r.append r2) ?_,rfl,q⟩
  rw [List.length_append]
  omega
def QjY:V->List V->Hp->VK->Prop:=fun x vs H Q=>∃ l xs i k y,x=.ref l/\vs=[.int i]/\H l=some (.lst xs) /\ -(2^63)<=i/\i<2^63/\seqIndex? i xs.length=some k/\xs[k]? = some y/\Q y (upd H l (.lst (xs.eraseIdx k)))
theorem Qjo:MtM X "list.pop" QjY:=by
  intro pins s σ H x vs v us Q I rx rv h
  obtain ⟨l,xs,i,k,y,rfl,rfl,hH,h1,h2,hk,hy,q⟩:=h
  cases rx
  obtain ⟨u,rfl,ru⟩:=rv.one
  obtain ⟨t,rfl⟩:=ru
  obtain ⟨z,its,n,r,hl,e⟩:=I.lstM hH
  obtain ⟨w,hw,rw'⟩:=r.get hy
  refine call_meets F.slot_list_pop ⟨_,e,rfl⟩ F.entry_list_pop (F.args_list_pop_2 _ _)
    (MeetsSeq.list_pop_at l its.toArray n i t k w (fitsIndex_both h1 h2) (by rw [List.size_toArray,<- hl];exact hk) (by rw [<- Array.getElem?_toList];exact hw) (by rw [List.size_toArray];omega)) ⟨e,?_⟩
  refine ⟨y,_,I.lset (its':=its.eraseIdx k) hH e ?_ (r.eraseIdx k) ?_,rw',q⟩
  · show its.toArray.eraseIdxIfInBounds k=(its.eraseIdx k).toArray
    rw [List.eraseIdxIfInBounds_toArray]
  · have:=Qez xs k
    omega
def rCat:R2:=fun x y H Q=>∃ l b xs zs,x=.ref l/\y=.ref b/\H l=some (.lst xs)/\H b=some (.lst zs)/\xs.length+zs.length<=sizeLine/\∀ p,H p=none->Q (.ref p) (upd H p (.lst (xs++zs)))
theorem op_cat:OpR X (binaryOp .Add) rCat:=by
  intro pins s σ H x y v u Q I rx ry h
  obtain ⟨l,b,xs,zs,rfl,rfl,hH,hB,hz,q⟩:=h
  cases rx
  cases ry
  obtain ⟨z,its,n,r,hl,e⟩:=I.lstM hH
  obtain ⟨z2,its2,n2,r2,hl2,e2⟩:=I.lstM hB
  refine PySem.P.add_list e e2 ?_ (by rw [List.size_toArray,List.size_toArray];omega)
  have ea:its.toArray++its2.toArray=(its++its2).toArray:=by simp
  rw [ea]
  exact ⟨.ref _,_,I.lnew (t':=s.toks) (r.append r2) (by rw [List.length_append];omega),rfl,q _ I.fresh⟩
end
section
variable {prog:Program} {w:World} {A:Around} {E:Value->Shared->Prop} {s:Shared}
end
section
variable {X:Cx}
end
end L2
namespace Att
open PySem PySem.W PySem.Calls PyProof.Rows
theorem Qc4 {P:Params} {h:Heap}:∀ (ns:List Int) (vs:List Value),WellAll P h vs (ns.map WData.int)->IntsAre vs ns:=by
  intro ns
  induction ns with
  | nil=>
    intro vs w
    rw [List.map_nil] at w
    cases w
    exact .nil
  | cons n ns ih=>
    intro vs w
    rw [List.map_cons] at w
    cases w with
    | cons a b=>
      cases a
      exact .cons _ _ (ih _ b)
theorem QgV {l:OpenLaw} {n:Nat} (hn:l.most=some n) {P:Params} {h:Heap} {args:List WData} {vals:List Value}
    (hpre:l.row.toRowW.claim.pre args=true) (hwl:WellAll P h vals args) :
    ∃ a vs ns,vals=[Value.ref a]/\args=[WData.list (ns.map WData.int)]/\h.get? a=some { cls:=.type "list",data:=.seq vs.toArray }/\IntsAre vs ns/\ns.length<=n:=by
  have hsh:WShape.hasAll [] args [.list .int]=true:=(pre_splitW hpre).1
  have hc:l.pre.holds [] { args:=args }=true:=(pre_splitW hpre).2
  obtain ⟨d,r,rfl,h1,h2⟩:=hasAllW_cons hsh
  obtain rfl:=hasAllW_nil h2
  obtain ⟨xs,rfl,h3⟩:=hasW_list h1
  obtain ⟨ns,rfl⟩:=items_int h3
  have hlen:ns.length<=n:=by
    unfold OpenLaw.pre at hc
    have h4:(WTm.not (.lt (.lit (.int (n:Int))) (.len (.arg 0)))).holds [] { args:=[.list (ns.map .int)] }=true:=by
      have h4:=(holds_andW hc).1
      rw [hn] at h4
      exact h4
    have h5:=condW_of h4 (w_not (w_lt w_lit (w_len_list (w_arg rfl))))
    rw [List.length_map] at h5
    refine Nat.le_of_not_lt fun q=>?_
    have q':(n:Int)<((ns.length:Nat):Int):=by omega
    first
      | (rw [decide_eq_true q'] at h5;exact absurd h5 (by decide))
      | (simp at h5;omega)
  cases hwl with
  | cons w1 w2=>
    cases w2
    cases w1 with
    | list ho hall=>exact ⟨_,_,ns,rfl,rfl,ho,Qc4 ns _ hall,hlen⟩
theorem Qhb (l:OpenLaw) (args:List WData):l.row.toRowW.claim.post args (.bool true) args=true:=
  postW_of (r:=l.row.toRowW) (X:=(true == true))
    (show WShape.has [] (.bool true) .bool=true by first | rfl | decide | simp [WShape.has,WShape.arms,WShape.armsAll])
    (show (WTm.eq .res (.lit (.bool true))).value [] { args:=args,res:=some (.bool true),after:=args }=some (.bool (true == true)) from w_eq_bool (w_res rfl) w_lit) rfl
theorem attach_call {l:OpenLaw} {n:Nat} {q:Program} {loose:List Str} {XP:(Str->Option Value)->Heap->Prop} {YP:World->Heap->Prop} {d:DefRec}
    (hn:l.most=some n) (hdf:d.params.defaults=[])
    (call:∀ (w:World) (s₀ s₁:Shared) (mg mb:Str->Option Value) (fa:Addr) (o:Obj) (pm cd doc:Value) (a:Addr) (vs:List Value) (ns:List Int),
      Ground q loose [] XP w s₀ mg mb s₁.heap->YP w s₁.heap ->
      s₁.heap.get? fa=some o->o.data=.func (docDef d.name d.params d.body d.scope pm cd doc)->s₁.heap.CodeRec cd d.name->mg d.name=some (.ref fa) ->
      s₁.heap.get? a=some { cls:=.type "list",data:=.seq vs.toArray }->IntsAre vs ns->ns.length<=n->s₁.gens=#[] ->
      codeAny (model l.prog w) callerA (.call (.ref fa) ⟨[.ref a],[]⟩) (fun r s'=>r=.ok (.ret (.bool true))/\OldK s₁.heap s'.heap/\s'.os=s₁.os/\AllBare s'.gens) s₁) :
    WalkO q loose XP YP l.row.toRowW d [] (fun f vs=>PySem.call f vs):=by
  intro w s₀ s₁ mg mb G Y fa o pm cd doc dV kV ho hd hcd hD hmg hg args vals as hpre hlay hrd hwl hlo
  obtain rfl:dV=.none:=Dflts.none hD hdf
  obtain rfl:kV=.none:=Dflts.noKw hD
  obtain ⟨a,vs,ns,rfl,rfl,hobj,hints,hlen⟩:=QgV hn hpre hwl
  refine enter_call (codeAny_mono (call w s₀ s₁ mg mb fa o pm cd doc a vs ns G Y ho (fd_plain hd) hcd hmg hobj hints hlen hg) fun r s' hq=>?_)
  obtain ⟨rfl,h2,h3,h4⟩:=hq
  exact ⟨.inl ⟨.bool true,.bool true,[],rfl,fun _=>rfl,.bool true,Qhb l _,fun _=>⟨List.Pairwise.nil,fun _ hm=>(nomatch hm)⟩⟩,h2,h3,h4⟩
section
variable {prog:Program} {w:World} {A:Around} {E:Value->Shared->Prop} {s:Shared} {K:Frag}
end
end Att
namespace L2
open PySem PySem.Spec PyProof.Rows
theorem Qeh:∀ {vs:List Value} {ns:List Int},IntsAre vs ns->Vals (ns.map V.int) vs
  | _,_,.nil=>.nil
  | _,_,.cons n t h=>.cons ⟨t,rfl⟩ (Qeh h)
def Only (H:Hp):Prop:=∀ b,H b=none∨∃ o xs,H b=some (.frz o (.lst xs))
theorem Qjt {P:Program} {w:World} {K:PySem.W.Frag} {mg mb:Str->Option Value} {CX:CXT} {k:Nat} {fa a:Addr} {fd:FuncData} {x:Str} {sp:Sp} {s₁:Shared} {vs:List Value} {ns:List Int}
    (KX:K.In s₁.heap) (hns:s₁.heap.Ns mainGlobals mg) (hb:s₁.heap.Ns builtinsNs mb) (hbb:∀ x:Str,x ≠ "__name__" -> mb x=bootBuiltins x) (hlim:s₁.heap.NoLimit) (hg:s₁.gens=#[])
    (ha:s₁.heap.get? a=some { cls:=.type "list",data:=.seq vs.toArray }) (hi:IntsAre vs ns) (hl:ns.length<=sizeLine) (hr:Room k callerA)
    (F:∀ base:Heap,K.In base->base.Ns mainGlobals mg->FnOk P w K mg base CX k fa fd [x] sp) (hbind:∀ (s:Shared) (u:Value),BindsTo s fd ⟨[u],[]⟩ [(x,u)])
    (hsp:∀ H:Hp,Only H->SqL K H a (ns.map V.int)->sp [.ref a] H (fun v _=>v=.bl true) fun _ _ _=>False)
    (hCX:∀ H e s',CX [] H s₁ (fun _ _ _=>False) e s'->False) :
    codeAny (model P w) callerA (.call (.ref fa) ⟨[.ref a],[]⟩) (fun r s'=>r=.ok (.ret (.bool true))/\OldK s₁.heap s'.heap/\s'.os=s₁.os/\AllBare s'.gens) s₁:=by
  have rv:=Qeh hi
  have lenV:=hi.length
  have core:∀ H:Hp,Only H->SqL K H a (ns.map V.int)->HOk P w H s₁.heap->(∀ b,H b≠none->b=a)->(H a≠none->K.lookup a=none) ->
      codeAny (model P w) callerA (.call (.ref fa) ⟨[.ref a],[]⟩) (fun r s'=>r=.ok (.ret (.bool true))/\OldK s₁.heap s'.heap/\s'.os=s₁.os/\AllBare s'.gens) s₁:=by
    intro H hO hS hok hA hK
    have base_of:∀ {b:Addr} {o:Obj},s₁.heap.get? b=some o->H b=none->(hidT s₁.heap H).get? b=some o:=fun e n=>Qjv e n
    have noA:∀ {b:Addr} {o:Obj} {es:Array DictEntry} {ep:Nat},s₁.heap.get? b=some o->o.data=.dict es ep->H b=none:=fun {b o es ep} e d=>by
      cases q:H b with
      | none=>rfl
      | some u=>
        have e':b=a:=hA b (by rw [q];simp)
        subst e'
        rw [ha] at e;cases e
        have d':Data.seq vs.toArray _=Data.dict es ep:=d
        cases d'
    have nsK:∀ {b:Addr} {m:Str->Option Value},s₁.heap.Ns b m->(hidT s₁.heap H).Ns b m:=fun {b m} ⟨o,es,ep,e,d,r⟩=>⟨o,es,ep,base_of e (noA e d),d,r⟩
    have hKb:K.In (hidT s₁.heap H):=fun b o e=>base_of (KX b o e) (by
      cases q:H b with
      | none=>rfl
      | some u=>
        have e':b=a:=hA b (by rw [q];simp)
        subst e'
        rw [hK (by rw [q];simp)] at e;cases e)
    have hM:Mod K mg (hidT s₁.heap H):=⟨hKb,nsK hns,⟨mb,nsK hb,hbb⟩,let ⟨mc,h1,h2⟩:=hlim;⟨mc,nsK h1,h2⟩⟩
    have e0:Env0 P w K mg (hidT s₁.heap H) callerA [] s₁ H:=⟨rfl,hM,fun b o e=>QlB e,Nat.le_of_eq (QhT _ _),trivial,fun b hb=>absurd (show b∈([]:List Addr) from hb) (by simp),hok,.of_eq hg⟩
    refine codeAny_mono ((F _ hKb (nsK hns)).run callerA [] s₁ H ⟨[.ref a],[]⟩ [.ref a] [.ref a] _ _ hr e0 (hbind s₁ (.ref a)) (.cons rfl .nil) (hsp H hO hS)) fun r s' h=>?_
    cases r with
    | error e=>exact (hCX H e s' h).elim
    | ok fl=>
      cases fl with
      | next=>exact False.elim h
      | brk=>exact False.elim h
      | cont=>exact False.elim h
      | ret u=>
        obtain ⟨v,H',os,bare,un,hok',r',q⟩:=h
        have q':v=.bl true:=q
        subst q'
        obtain rfl:u=Value.bool true:=r'
        refine ⟨rfl,OldK.of_keep fun b o e=>?_,os,bare⟩
        cases q:H b with
        | none=>exact un.keep b o e q (by intro z;exact absurd (show b∈([]:List Addr) from z) (by simp)) (by simp)
        | some u=>
          rcases hO b with z | ⟨ob,xs,z⟩
          · rw [q] at z;cases z
          · have z2:=un.frzs b ob _ z
            obtain ⟨e1,_⟩:=hok b _ z
            obtain ⟨e2,_⟩:=hok' b _ z2
            rw [e] at e1;cases e1
            exact e2
  cases hk:K.lookup a with
  | some o=>
    have e:=KX a o hk
    rw [ha] at e
    cases e
    refine core (fun _=>none) (fun _=>.inl rfl) (.inr ⟨_,vs.toArray,_,hk,rfl,rfl,rfl,by rw [List.size_toArray,lenV];exact hl,by simpa using rv⟩) (fun b u z=>by have z':(none:Option HO)=some u:=z;cases z') (fun b z=>absurd rfl z) fun z=>absurd rfl z
  | none=>
    refine core (fun b=>if b=a then some (.frz { cls:=.type "list",data:=.seq vs.toArray } (.lst (ns.map V.int))) else none) (fun b=>?_) (.inl (.inr ⟨{ cls:=.type "list",data:=.seq vs.toArray },if_pos rfl⟩)) (fun b u z=>?_) (fun b z=>?_) fun _=>hk
    · by_cases hb:b=a
      · exact .inr ⟨_,_,if_pos hb⟩
      · exact .inl (if_neg hb)
    · by_cases hb:b=a
      · have z':=(if_pos hb).symm.trans z
        cases z'
        subst hb
        exact ⟨ha,by rw [List.length_map];exact hl,vs,_,rv,ha⟩
      · have z':=(if_neg hb).symm.trans z
        cases z'
    · by_cases hb:b=a
      · exact hb
      · exact absurd (if_neg hb) z
theorem walk_of {l:PySem.W.OpenLaw} {n k:Nat} {q:Program} {loose:List Str} {XP:(Str->Option Value)->Heap->Prop} {YP:World->Heap->Prop} {d:DefRec} {K:Params->PySem.W.Frag} {CX:World->CXT} {sp:World->Sp} {x:Str}
    (hn:l.most=some n) (hn2:n<=sizeLine) (hdf:d.params.defaults=[]) (hr:Room k callerA)
    (hY:∀ (w:World) (h:Heap),YP w h->(K w.params).In h)
    (F:∀ (w:World) (mg:Str->Option Value) (fa:Addr) (h:Heap),(K w.params).In h->h.Ns mainGlobals mg->mg d.name=some (.ref fa) ->
      ∃ fd:FuncData,(∀ (s:Shared) (u:Value),BindsTo s fd ⟨[u],[]⟩ [(x,u)]) /\
        ∀ base:Heap,(K w.params).In base->base.Ns mainGlobals mg->FnOk l.prog w (K w.params) mg base (CX w) k fa fd [x] (sp w))
    (hsp:∀ (w:World) (H:Hp) (a:Addr) (ns:List Int),ns.length<=n->Only H->SqL (K w.params) H a (ns.map V.int)->sp w [.ref a] H (fun v _=>v=.bl true) fun _ _ _=>False)
    (hCX:∀ (w:World) (H:Hp) (s:Shared) (e:Value) (s':Shared),CX w [] H s (fun _ _ _=>False) e s'->False) :
    PySem.W.WalkO q loose XP YP l.row.toRowW d [] (fun f vs=>PySem.call f vs):=by
  refine Att.attach_call hn hdf fun w s₀ s₁ mg mb fa o pm cd doc a vs ns G Y ho hd hcd hmg hobj hints hlen hg=>?_
  have KX:=hY w _ Y
  obtain ⟨fd,hb,hF⟩:=F w mg fa _ KX G.T.g hmg
  exact Qjt KX G.T.g G.T.b G.T.builtins G.T.nolimit hg hobj hints (Nat.le_trans hlen hn2) hr hF hb (fun H hO hS=>hsp w H a ns hlen hO hS) fun H e s'=>hCX w H s₁ e s'
def Qar (s:Stmt):Arguments:=match s with
  | .FunctionDef _ a _ _ _ _ _ _ _ _=>a
  | _=>{ posonlyargs:=[],args:=[],vararg:=none,kwonlyargs:=[],kw_defaults:=[],kwarg:=none,defaults:=[] }
def Qal (s:Stmt):List Stmt:=match s with
  | .FunctionDef _ _ b _ _ _ _ _ _ _=>b
  | _=>[]
def Qaa (s:Stmt):Scope:=match s with
  | .FunctionDef _ _ _ _ _ _ sc _ _ _=>sc
  | _=>{ kind:=.function,names:=[],isGenerator:=false,isCoroutine:=false }
abbrev CX0:CXT:=fun _ _ _ _ _ _=>False
abbrev E0:XK:=fun _ _ _=>False
theorem pass0 {X:Cx}:QcB CX0 X E0:=fun _ _ _ _ _ _ _ h=>h.elim
structure Fun (K:PySem.W.Frag) (x qual:Str) (st:Stmt) (f:Addr) (fd:FuncData):Prop where
  ex:∃ (oc:Value) (od:Option Addr) (kV doc pm:Value) (an:Option Addr) (cdv ct:Value) (osl:Array (Option Value)),
    fd=PySem.W.fnOf x qual (Qar st) (Qal st) (Qaa st) .none kV doc pm an cdv ct/\K.lookup f=some ⟨oc,od,.func fd,osl⟩/\PySem.W.codeIn K cdv qual=true
  kp:PySem.W.keepIn K (.ref f)=true
section
variable {P:Program} {w:World} {K:PySem.W.Frag} {mg:Str->Option Value} {base:Heap}
theorem Fun.ok {x qual:Str} {st:Stmt} {f:Addr} {fd:FuncData} {N ps:List Str} {k:Nat} {sp:Sp} (F:Fun K x qual st f fd) (S:FnScope N ps (Qaa st)) (len:∀ vs H Q E,sp vs H Q E->vs.length=ps.length)
    (hbody:∀ (cdv:Value) (A:Around) (outer:List Env) (s:Shared) (H:Hp) (vs:List V) (Q:VK) (E:XK),Room k (A.deeper (envOfC qual (Qaa st) s.heap.objs.size f cdv))->sp vs H Q E ->
      ∃ t,PSs (cxOf CX0 P w K mg base N qual (Qaa st) f cdv A outer s H E).nox (Qal st) t/\t { nx:=fun _ H'=>Q .non H',rt:=Q } (start N vs) H):FnOk P w K mg base CX0 (k+1) f fd ps sp:=by
  obtain ⟨oc,od,kV,doc,pm,an,cdv,ct,osl,rfl,lk,hcd⟩:=F.ex
  refine fn_of lk hcd S len fun A outer s H vs Q E hr hsp=>?_
  obtain ⟨t,h,q⟩:=hbody cdv A outer s H vs Q E hr hsp
  exact ⟨t,h.nox,q⟩
theorem Fun.binds {x qual:Str} {st:Stmt} {f:Addr} {fd:FuncData} {ps:List Str} (F:Fun K x qual st f fd)
    (h:∀ (kV doc pm:Value) (an:Option Addr) (cdv ct:Value) (us:List Value),us.length=ps.length->bindArgs (PySem.W.fnOf x qual (Qar st) (Qal st) (Qaa st) .none kV doc pm an cdv ct) ⟨us,[]⟩=pure (ps.zip us)):Binds K fd ps []:=by
  obtain ⟨oc,od,kV,doc,pm,an,cdv,ct,osl,rfl,lk,hcd⟩:=F.ex
  exact .all (h kV doc pm an cdv ct)
theorem QaV {x qual:Str} {st:Stmt} {f:Addr} {oc:Value} {od an:Option Addr} {osl:Array (Option Value)} {kV doc pm cdv ct:Value} (l:K.lookup f=some ⟨oc,od,.func (PySem.W.fnOf x qual (Qar st) (Qal st) (Qaa st) .none kV doc pm an cdv ct),osl⟩)
    (c:PySem.W.codeIn K cdv qual=true) (k:PySem.W.keepIn K (.ref f)=true):Fun K x qual st f (PySem.W.fnOf x qual (Qar st) (Qal st) (Qaa st) .none kV doc pm an cdv ct):=⟨⟨oc,od,kV,doc,pm,an,cdv,ct,osl,rfl,l,c⟩,k⟩
end
section
variable {X:Cx}
theorem pv (i:Nat) {x:Str} {pos:Pos} (hN:X.N[i]? = some x:=by rfl) (hv:Vis X.env.scope x:=by first | exact Or.inl rfl | exact Or.inr (Or.inl rfl) | exact Or.inr (Or.inr rfl)) (hd:(x == ("__debug__" : Str))=false:=by decide)
    (hcd:(x == ("__classdict__" : Str))=false:=by decide):PE X (.Name x pos) (tVar i):=pe_var hN hv hd hcd
end
theorem iteF {A B:Prop} (h:B):if false=true then A else B:=by
  rw [if_neg Bool.false_ne_true]
  exact h
theorem iteT {A B:Prop} (h:A):if true=true then A else B:=by
  rw [if_pos rfl]
  exact h
theorem ite2 {c A B:Prop} [Decidable c] (h1:c->A) (h2:¬ c->B):if c then A else B:=by
  by_cases h:c
  · rw [if_pos h]
    exact h1 h
  · rw [if_neg h]
    exact h2 h
def Same (H H':Hp):Prop:=∀ b o,H b=some o->H' b=some o
theorem Same.refl (H:Hp):Same H H:=fun _ _ h=>h
theorem Same.trans {H H1 H2:Hp} (a:Same H H1) (b:Same H1 H2):Same H H2:=fun c o h=>b c o (a c o h)
theorem Same.free {H H':Hp} (e:Same H H') {l:Addr} (h:H' l=Option.none):H l=Option.none:=by
  cases q:H l with
  | none=>rfl
  | some o=>
    rw [e l o q] at h
    cases h
theorem Same.seq {K:PySem.W.Frag} {H H':Hp} {a:Addr} {xs:List V} (e:Same H H') (h:SqL K H a xs):SqL K H' a xs:=by
  rcases h with (h | ⟨o,h⟩) | h
  · exact .inl (.inl (e _ _ h))
  · exact .inl (.inr ⟨o,e _ _ h⟩)
  · exact .inr h
end L2
set_option maxHeartbeats 4000000
namespace Zt
open PySem
def f5 (M x:Nat):Nat:=(x*5+1) % M
def it5 (M:Nat):Nat->Nat->Nat
  | 0,x=>x
  | n+1,x=>it5 M n (f5 M x)
theorem Qd1 (M:Nat):∀ (m n x:Nat),it5 M (m+n) x=it5 M n (it5 M m x)
  | 0,n,x=>by rw [Nat.zero_add];rfl
  | m+1,n,x=>by rw [Nat.succ_add];exact Qd1 M m n (f5 M x)
def cov5 (M:Nat):Nat->Nat->Nat->Nat
  | 0,_,acc=>acc
  | n+1,x,acc=>cov5 M n (f5 M x) (acc ||| 2^x)
theorem Qgc (M j:Nat):∀ (n x acc:Nat),(cov5 M n x acc).testBit j=true->acc.testBit j=true∨∃ b,b<n/\it5 M b x=j
  | 0,_,_,h=>.inl h
  | n+1,x,acc,h=>by
    rcases Qgc M j n (f5 M x) (acc ||| 2^x) h with z | ⟨b,hb,e⟩
    · rw [Nat.testBit_or,Bool.or_eq_true,Nat.testBit_two_pow] at z
      rcases z with z | z
      · exact .inl z
      · exact .inr ⟨0,by omega,by show x=j;simpa using z⟩
    · exact .inr ⟨b+1,by omega,e⟩
def QbP (M:Nat):Bool:=decide (cov5 M M 0 0=2^M - 1)&&decide (it5 M M 0=0)
theorem Qkf:QbP 8=true:=by decide +kernel
theorem QlP:QbP 32=true:=by decide +kernel
theorem Qjy:QbP 128=true:=by decide +kernel
theorem Qjx:QbP 512=true:=by decide +kernel
theorem Qjw {M:Nat} (h:QbP M=true) {i j:Nat} (hi:i<M) (hj:j<M):∃ n,n<M/\it5 M n i=j:=by
  have h:=Bool.and_eq_true_iff.mp h
  have h1:cov5 M M 0 0=2^M - 1:=of_decide_eq_true h.1
  have h2:it5 M M 0=0:=of_decide_eq_true h.2
  have all:∀ k,k<M->∃ b,b<M/\it5 M b 0=k:=fun k hk=>by
    have:(cov5 M M 0 0).testBit k=true:=by rw [h1,Nat.testBit_two_pow_sub_one];exact decide_eq_true hk
    rcases Qgc M k M 0 0 this with z | z
    · simp at z
    · exact z
  obtain ⟨a,ha,rfl⟩:=all i hi
  obtain ⟨b,hb,rfl⟩:=all j hj
  by_cases z:a<=b
  · exact ⟨b - a,by omega,by rw [<- Qd1,show a+(b - a)=b by omega]⟩
  · refine ⟨M - a+b,by omega,?_⟩
    rw [<- Qd1,show a+(M - a+b)=M+b by omega,Qd1,h2]
def QbS (mask:Nat):Nat->Nat×Nat->Nat×Nat
  | 0,p=>p
  | n+1,p=>QbS mask n (SetTable.leap mask p.1 p.2)
theorem QeC (mask:Nat):∀ (m n:Nat) (p:Nat×Nat),QbS mask (m+n) p=QbS mask n (QbS mask m p)
  | 0,n,p=>by rw [Nat.zero_add];rfl
  | m+1,n,p=>by rw [Nat.succ_add];exact QeC mask m n _
theorem QeA (mask:Nat):∀ (n:Nat) (p:Nat×Nat),(QbS mask n p).2=p.2 / 32^n
  | 0,p=>by show p.2=p.2 / 1;omega
  | n+1,p=>by
    show (QbS mask n (SetTable.leap mask p.1 p.2)).2=_
    rw [QeA mask n]
    show p.2 / 32 / 32^n=_
    rw [Nat.div_div_eq_div_mul,Nat.pow_succ,Nat.mul_comm]
theorem QeB (mask:Nat):∀ (n i:Nat),QbS mask n (i,0)=(it5 (mask+1) n i,0)
  | 0,i=>rfl
  | n+1,i=>by
    show QbS mask n (SetTable.leap mask i 0)=_
    have:SetTable.leap mask i 0=(f5 (mask+1) i,0):=by
      show ((i*5+1+0 / 32) % (mask+1),0 / 32)=_
      simp [f5]
    rw [this,QeB mask n]
    rfl
theorem QfV {mask:Nat}:∀ (n:Nat) (p:Nat×Nat),p.1<mask+1->(QbS mask n p).1<mask+1
  | 0,_,h=>h
  | n+1,p,_=>QfV n _ (Nat.mod_lt _ (Nat.succ_pos _))
theorem Qds {mask:Nat} (hg:QbP (mask+1)=true) {i perturb j:Nat} (hi:i<mask+1) (hp:perturb<2^64) (hj:j<mask+1):∃ n,n<mask+14/\(QbS mask n (i,perturb)).1=j:=by
  have h13:=QeA mask 13 (i,perturb)
  have:perturb / 32^13=0:=Nat.div_eq_of_lt (Nat.lt_of_lt_of_le hp (by decide))
  rw [show (i,perturb).2=perturb from rfl,this] at h13
  have hl:=QfV 13 (i,perturb) hi
  obtain ⟨n,hn,e⟩:=Qjw hg hl hj
  refine ⟨13+n,by omega,?_⟩
  rw [QeC,show QbS mask 13 (i,perturb)=((QbS mask 13 (i,perturb)).1,0) from Prod.ext rfl h13,QeB]
  exact e
def stps (t:SetTable):Nat->SetTable.Probe->SetTable.Probe
  | 0,p=>p
  | n+1,p=>stps t n (t.advance p)
theorem Qaz (t:SetTable):∀ (m n:Nat) (p:SetTable.Probe),stps t (m+n) p=stps t n (stps t m p)
  | 0,n,p=>by rw [Nat.zero_add];rfl
  | m+1,n,p=>by rw [Nat.succ_add];exact Qaz t m n _
def runP (t:SetTable) (i perturb:Nat) (d:Option Nat):SetTable.Probe:={ j:=i,more:=SetTable.runEnd t.mask i - i,i:=i,perturb:=perturb,dummy:=d }
theorem Qej (t:SetTable):∀ (m j i perturb:Nat) (d:Option Nat),stps t m { j:=j,more:=m,i:=i,perturb:=perturb,dummy:=d }={ j:=j+m,more:=0,i:=i,perturb:=perturb,dummy:=d }
  | 0,_,_,_,_=>rfl
  | m+1,j,i,perturb,d=>by
    show stps t m (t.advance _)=_
    have:t.advance { j:=j,more:=m+1,i:=i,perturb:=perturb,dummy:=d }={ j:=j+1,more:=m,i:=i,perturb:=perturb,dummy:=d }:=by
      unfold SetTable.advance
      rw [if_pos (by show m+1 > 0;omega)]
      rfl
    rw [this,Qej t m,show j+1+m=j+(m+1) by omega]
theorem run_le (mask i:Nat):SetTable.runEnd mask i - i<=9:=by unfold SetTable.runEnd;split<;>omega
theorem QdD (t:SetTable) (i perturb:Nat) (d:Option Nat):stps t (SetTable.runEnd t.mask i - i+1) (runP t i perturb d)=runP t (SetTable.leap t.mask i perturb).1 (SetTable.leap t.mask i perturb).2 d:=by
  rw [Qaz]
  unfold runP
  rw [Qej]
  simp only [stps]
  unfold SetTable.advance
  rw [if_neg (by show ¬ (0:Nat) > 0;omega)]
theorem Qdg (t:SetTable) (d:Option Nat):∀ (n i perturb:Nat),∃ m,m<=10*n/\stps t m (runP t i perturb d)=runP t (QbS t.mask n (i,perturb)).1 (QbS t.mask n (i,perturb)).2 d
  | 0,i,perturb=>⟨0,by omega,rfl⟩
  | n+1,i,perturb=>by
    obtain ⟨m,hm,e⟩:=Qdg t d n (SetTable.leap t.mask i perturb).1 (SetTable.leap t.mask i perturb).2
    have:=run_le t.mask i
    refine ⟨SetTable.runEnd t.mask i - i+1+m,by omega,?_⟩
    rw [Qaz,QdD,e]
    rfl
theorem QeQ (h:Int):SetTable.bits h<2^64:=by
  unfold SetTable.bits
  have:=Int.emod_lt_of_pos h (show (0:Int)<2^64 by decide)
  have:=Int.emod_nonneg h (show (2^64:Int)≠0 by decide)
  omega
theorem Qgn (t:SetTable) (hg:QbP (t.mask+1)=true) (h:Int) {j:Nat} (hj:j<t.mask+1):∃ m,m<10*SetTable.turns t.mask/\(stps t m (t.probeStart h)).j=j:=by
  obtain ⟨n,hn,e⟩:=Qds (mask:=t.mask) hg (i:=SetTable.bits h % (t.mask+1)) (Nat.mod_lt _ (Nat.succ_pos _)) (QeQ h) hj
  obtain ⟨m,hm,e2⟩:=Qdg t none n (SetTable.bits h % (t.mask+1)) (SetTable.bits h)
  refine ⟨m,by unfold SetTable.turns;omega,?_⟩
  have:t.probeStart h=runP t (SetTable.bits h % (t.mask+1)) (SetTable.bits h) none:=rfl
  rw [this,e2]
  exact e
theorem QfF:∀ {P Q:List Nat},P.Nodup->(∀ p∈P,p∈Q)->P.length<=Q.length
  | [],_,_,_=>Nat.zero_le _
  | p::P,Q,nd,h=>by
    have nd:=List.nodup_cons.mp nd
    have hp:=h p (.head _)
    have:=QfF (P:=P) (Q:=Q.erase p) nd.2 fun x hx=>(List.mem_erase_of_ne (show x≠p from fun e=>nd.1 (e ▸ hx))).mpr (h x (.tail _ hx))
    rw [List.length_erase_of_mem hp] at this
    have:=List.length_pos_of_mem hp
    rw [List.length_cons]
    omega
theorem QjH {xs:Array Nat} {j:Nat} (pw:xs.toList.Pairwise (· < ·)):∀ (fuel lo hi:Nat),hi - lo<=fuel->lo<=hi->hi<=xs.size->(∀ k (hk:k<xs.size),k<lo->xs[k]<j)->(∀ k (hk:k<xs.size),hi<=k->j<=xs[k]) ->
    SetTable.below.go xs j fuel lo hi<=xs.size/\(∀ k (hk:k<xs.size),k<SetTable.below.go xs j fuel lo hi->xs[k]<j)/\∀ k (hk:k<xs.size),SetTable.below.go xs j fuel lo hi<=k->j<=xs[k]:=by
  have mono:∀ a b (ha:a<xs.size) (hb:b<xs.size),a<=b->xs[a]<=xs[b]:=fun a b ha hb h=>by
    by_cases e:a=b
    · subst e;exact Nat.le_refl _
    · have:=List.pairwise_iff_getElem.mp pw a b (by simpa using ha) (by simpa using hb) (by omega)
      simp only [Array.getElem_toList] at this
      omega
  intro fuel
  induction fuel with
  | zero=>
    intro lo hi h1 h2 h3 h4 h5
    have:lo=hi:=by omega
    subst this
    exact ⟨h3,h4,h5⟩
  | succ fuel ih=>
    intro lo hi h1 h2 h3 h4 h5
    unfold SetTable.below.go
    by_cases z:lo<hi
    · rw [if_pos z]
      dsimp only
      have hm:(lo+hi) / 2<xs.size:=by omega
      have eg:xs.getD ((lo+hi) / 2) j=xs[(lo+hi) / 2]:=by simp [Array.getD,hm]
      rw [eg]
      by_cases y:xs[(lo+hi) / 2]<j
      · rw [if_pos y]
        refine ih _ _ (by omega) (by omega) h3 (fun k hk hlt=>?_) h5
        have:=mono k ((lo+hi) / 2) hk hm (by omega)
        omega
      · rw [if_neg y]
        refine ih _ _ (by omega) (by omega) (by omega) h4 fun k hk hle=>?_
        have:=mono ((lo+hi) / 2) k hm hk hle
        omega
    · rw [if_neg z]
      have:lo=hi:=by omega
      subst this
      exact ⟨h3,h4,h5⟩
theorem QbO {xs:Array Nat} (pw:xs.toList.Pairwise (· < ·)) (j:Nat):SetTable.below xs j<=xs.size/\(∀ k (hk:k<xs.size),k<SetTable.below xs j->xs[k]<j)/\∀ k (hk:k<xs.size),SetTable.below xs j<=k->j<=xs[k]:=
  QjH pw _ 0 xs.size (by omega) (Nat.zero_le _) (Nat.le_refl _) (fun k hk h=>by omega) fun k hk h=>by omega
structure Tab (t:SetTable):Prop where
  pw:t.place.toList.Pairwise (· < ·)
  le:∀ x∈t.place.toList,x<=t.mask
  dm:t.dummies=#[]
  gd:QbP (t.mask+1)=true
  pl:t.plain=true
  od:t.mask % 2=1
theorem Tab.slot_no {t:SetTable} (x:Tab t) {j:Nat} (h:j∉t.place.toList):t.slot j=.empty:=by
  unfold SetTable.slot
  dsimp only
  rw [if_neg,x.dm]
  · rfl
  · intro z
    have z:=eq_of_beq z
    exact h (Array.mem_toList_iff.mpr (Array.mem_of_getElem? z))
theorem Tab.slot_dm {t:SetTable} (x:Tab t) (j:Nat):t.slot j≠.dummy:=by
  unfold SetTable.slot
  dsimp only
  split
  · exact fun e=>by cases e
  · rw [x.dm,if_neg (by simp [SetTable.has])]
    exact fun e=>by cases e
theorem Tab.slot_e {t:SetTable} (x:Tab t) {j:Nat} (h:t.slot j=.empty):j∉t.place.toList:=fun hj=>by
  obtain ⟨i,hi,e⟩:=List.mem_iff_getElem.mp hj
  have hi':i<t.place.size:=by simpa using hi
  have e':t.place[i]=j:=by simpa using e
  obtain ⟨b1,b2,b3⟩:=QbO x.pw j
  have hb:SetTable.below t.place j=i:=by
    rcases Nat.lt_trichotomy (SetTable.below t.place j) i with z | z | z
    · have hb':SetTable.below t.place j<t.place.size:=by omega
      have h1:=b3 _ hb' (Nat.le_refl _)
      have:=List.pairwise_iff_getElem.mp x.pw (SetTable.below t.place j) i (by simpa using hb') hi z
      simp only [Array.getElem_toList] at this
      omega
    · exact z
    · have:=b2 i hi' z
      omega
  unfold SetTable.slot at h
  dsimp only at h
  rw [hb,if_pos (by simp [hi',e'])] at h
  cases h
theorem Tab.room {t:SetTable} (x:Tab t) (hs:t.place.size<=t.mask):∃ j,j<t.mask+1/\j∉t.place.toList:=by
  apply Classical.byContradiction
  intro hn
  have:∀ p∈List.range (t.mask+1),p∈t.place.toList:=fun p hp=>by
    apply Classical.byContradiction
    intro h
    exact hn ⟨p,List.mem_range.mp hp,h⟩
  have:=QfF List.nodup_range this
  rw [List.length_range,Array.length_toList] at this
  omega
theorem QeW (t:SetTable) (p:SetTable.Probe):(t.advance p).dummy=p.dummy:=by
  unfold SetTable.advance
  split<;>rfl
theorem Tab.put {t:SetTable} (x:Tab t) {j:Nat} (hj:j∉t.place.toList) (hm:j<=t.mask):Tab (t.put j).1/\(t.put j).1.place.toList=t.place.toList.take (t.put j).2++j::t.place.toList.drop (t.put j).2/\(t.put j).1.mask=t.mask/\(t.put j).1.led=t.led/\(t.put j).1.moves=t.moves/\(t.put j).1.dummies=#[]:=by
  obtain ⟨b1,b2,b3⟩:=QbO x.pw j
  have hp:(t.put j).2=SetTable.below t.place j:=rfl
  have hl:(t.put j).1.place.toList=t.place.toList.take (t.put j).2++j::t.place.toList.drop (t.put j).2:=SetTable.toList_insertAt _ _ _
  have hd:(t.put j).1.dummies=#[]:=by
    show (if SetTable.has t.dummies j=true then _ else t.dummies)=#[]
    rw [x.dm,if_neg (by simp [SetTable.has])]
  have lo:∀ a∈t.place.toList.take (SetTable.below t.place j),a<j:=fun a ha=>by
    obtain ⟨k,hk,e⟩:=List.mem_iff_getElem.mp ha
    rw [List.length_take] at hk
    rw [List.getElem_take] at e
    have hk2:k<t.place.size:=by rw [Array.length_toList] at hk;omega
    have:=b2 k hk2 (by omega)
    rw [Array.getElem_toList] at e
    omega
  have hi:∀ a∈t.place.toList.drop (SetTable.below t.place j),j<a:=fun a ha=>by
    have hne:a≠j:=fun e=>hj (e ▸ List.mem_of_mem_drop ha)
    obtain ⟨k,hk,e⟩:=List.mem_iff_getElem.mp ha
    rw [List.length_drop,Array.length_toList] at hk
    rw [List.getElem_drop,Array.getElem_toList] at e
    have:=b3 (SetTable.below t.place j+k) (by omega) (by omega)
    omega
  refine ⟨⟨?_,?_,hd,x.gd,x.pl,x.od⟩,hl,rfl,rfl,rfl,hd⟩
  · rw [hl,hp,List.pairwise_append,List.pairwise_cons]
    refine ⟨x.pw.sublist (List.take_sublist _ _),⟨hi,x.pw.sublist (List.drop_sublist _ _)⟩,fun a ha b hb=>?_⟩
    rcases List.mem_cons.mp hb with z | z
    · subst z;exact lo a ha
    · have:=lo a ha
      have:=hi b z
      omega
  · intro a ha
    rw [hl] at ha
    rcases List.mem_append.mp ha with z | z
    · exact x.le a (List.mem_of_mem_take z)
    · rcases List.mem_cons.mp z with z | z
      · subst z;exact hm
      · exact x.le a (List.mem_of_mem_drop z)
theorem QhY {mask:Nat} {owner:Array (Option Nat)}:∀ (n fuel i perturb:Nat),n<fuel->owner.getD (QbS mask n (i,perturb)).1 (some 0)=none->∃ j,SetTable.layClean.free mask owner fuel i perturb=some j/\owner.getD j (some 0)=none:=by
  intro n
  induction n with
  | zero=>
    intro fuel i perturb hf he
    obtain ⟨fuel,rfl⟩:∃ m,fuel=m+1:=⟨fuel - 1,by omega⟩
    unfold SetTable.layClean.free
    cases hfd:(List.range (SetTable.runEnd mask i+1 - i)).find? fun k=>(owner.getD (i+k) (some 0)).isNone with
    | some k=>
      have:=List.find?_some hfd
      exact ⟨i+k,rfl,by simpa using this⟩
    | none=>
      have:=List.find?_eq_none.mp hfd 0 (List.mem_range.mpr (by unfold SetTable.runEnd;split<;>omega))
      rw [Nat.add_zero,show owner.getD i (some 0)=none from he] at this
      exact absurd rfl this
  | succ n ih=>
    intro fuel i perturb hf he
    obtain ⟨fuel,rfl⟩:∃ m,fuel=m+1:=⟨fuel - 1,by omega⟩
    unfold SetTable.layClean.free
    cases hfd:(List.range (SetTable.runEnd mask i+1 - i)).find? fun k=>(owner.getD (i+k) (some 0)).isNone with
    | some k=>
      have:=List.find?_some hfd
      exact ⟨i+k,rfl,by simpa using this⟩
    | none=>exact ih fuel _ _ (by omega) he
theorem QbL {f g:Nat->Option Nat}:∀ {l:List Nat},(∀ x∈l,f x=g x)->l.filterMap f=l.filterMap g
  | [],_=>rfl
  | x::l,h=>by
    rw [List.filterMap_cons,List.filterMap_cons,h x (.head _),QbL fun y hy=>h y (.tail _ hy)]
theorem Qkg (f:Nat->Option Nat) (j k:Nat) (hf:f j=none):∀ M,j<M->((List.range M).filterMap fun x=>if x=j then some k else f x).Perm (k::(List.range M).filterMap f)
  | 0,h=>absurd h (Nat.not_lt_zero _)
  | M+1,h=>by
    rw [List.range_succ,List.filterMap_append,List.filterMap_append]
    by_cases z:M=j
    · subst z
      have e:((List.range M).filterMap fun x=>if x=M then some k else f x)=(List.range M).filterMap f:=QbL fun x hx=>if_neg (by have:=List.mem_range.mp hx;omega)
      rw [e]
      have e2:([M].filterMap fun x=>if x=M then some k else f x)=[k]:=by simp
      have e3:[M].filterMap f=[]:=by simp [hf]
      rw [e2,e3,List.append_nil]
      exact List.perm_append_comm
    · have ih:=Qkg f j k hf M (by omega)
      have e2:([M].filterMap fun x=>if x=j then some k else f x)=[M].filterMap f:=QbL fun x hx=>by
        rw [List.mem_singleton.mp hx,if_neg z]
      rw [e2]
      exact ih.append_right _
def Lv (mask:Nat) (owner:Array (Option Nat)):List Nat:=(List.range (mask+1)).filterMap fun j=>owner.getD j none
theorem Qh2 {f:Nat->Option Nat}:∀ {M:Nat},(∀ j,j<M->f j≠none)->((List.range M).filterMap f).length=M
  | 0,_=>rfl
  | M+1,h=>by
    rw [List.range_succ,List.filterMap_append,List.length_append,Qh2 fun j hj=>h j (by omega)]
    cases e:f M with
    | none=>exact absurd e (h M (by omega))
    | some y=>simp [e]
structure Own (mask:Nat) (owner:Array (Option Nat)) (k:Nat):Prop where
  sz:owner.size=mask+1
  pm:(Lv mask owner).Perm (List.range k)
theorem QfW {mask:Nat} (hg:QbP (mask+1)=true) {owner:Array (Option Nat)} {k:Nat} (x:Own mask owner k) (hk:k<=mask) (h:Int):∃ j,SetTable.layClean.free mask owner (SetTable.turns mask) (SetTable.bits h % (mask+1)) (SetTable.bits h)=some j/\Own mask (owner.setIfInBounds j (some k)) (k+1):=by
  obtain ⟨e,he,hn⟩:∃ e,e<mask+1/\owner.getD e none=none:=by
    apply Classical.byContradiction
    intro hno
    have:=Qh2 (f:=fun j=>owner.getD j none) (M:=mask+1) fun j hj z=>hno ⟨j,hj,z⟩
    have h2:=x.pm.length_eq
    rw [List.length_range] at h2
    unfold Lv at h2
    omega
  have gd:∀ j,j<mask+1->owner.getD j (some 0)=owner.getD j none:=fun j hj=>by
    have:j<owner.size:=by rw [x.sz];exact hj
    simp [Array.getD,this]
  obtain ⟨n,hn',e2⟩:=Qds hg (i:=SetTable.bits h % (mask+1)) (perturb:=SetTable.bits h) (Nat.mod_lt _ (Nat.succ_pos _)) (QeQ h) he
  obtain ⟨j,hj,hj0⟩:=QhY (mask:=mask) (owner:=owner) n (SetTable.turns mask) (SetTable.bits h % (mask+1)) (SetTable.bits h) (by unfold SetTable.turns;omega) (by rw [e2,gd e he];exact hn)
  have hjs:j<owner.size:=by
    apply Classical.byContradiction
    intro z
    simp [Array.getD,z] at hj0
  refine ⟨j,hj,by rw [Array.size_setIfInBounds];exact x.sz,?_⟩
  have e3:Lv mask (owner.setIfInBounds j (some k))=(List.range (mask+1)).filterMap fun y=>if y=j then some k else owner.getD y none:=QbL fun y hy=>by
    have hy:=List.mem_range.mp hy
    have hys:y<owner.size:=by rw [x.sz];exact hy
    by_cases z:y=j
    · subst z;simp [Array.getD,hys]
    · rw [if_neg z]
      simp [Array.getD,hys,Array.getElem_setIfInBounds,Ne.symm z]
  rw [e3]
  refine (Qkg _ j k (by rw [<- gd j (by rw [<- x.sz];exact hjs)];exact hj0) _ (by rw [<- x.sz];exact hjs)).trans ?_
  refine (show (k::(List.range (mask+1)).filterMap fun y=>owner.getD y none).Perm (k::List.range k) from x.pm.cons k).trans ?_
  rw [show List.range (k+1)=List.range k++[k] from List.range_succ]
  exact List.perm_append_comm (l₁:=[k])
theorem QhL {mask:Nat} (hg:QbP (mask+1)=true):∀ (hs:List Int) (owner:Array (Option Nat)) (k:Nat),Own mask owner k->k+hs.length<=mask+1->∃ owner',hs.foldl (fun acc h=>do
    let (owner,k) <- acc
    let j <- SetTable.layClean.free mask owner (SetTable.turns mask) (SetTable.bits h % (mask+1)) (SetTable.bits h)
    pure (owner.setIfInBounds j (some k),k+1)) (some (owner,k))=some (owner',k+hs.length)/\Own mask owner' (k+hs.length)
  | [],owner,k,x,_=>⟨owner,rfl,x⟩
  | h::hs,owner,k,x,hl=>by
    rw [List.length_cons] at hl
    obtain ⟨j,hj,y⟩:=QfW hg x (by omega) h
    obtain ⟨o',e,z⟩:=QhL hg hs _ (k+1) y (by omega)
    refine ⟨o',?_,by rw [List.length_cons,show k+(hs.length+1)=k+1+hs.length by omega];exact z⟩
    rw [List.foldl_cons,List.length_cons,show k+(hs.length+1)=k+1+hs.length by omega,<- e]
    congr 1
    show (SetTable.layClean.free mask owner (SetTable.turns mask) (SetTable.bits h % (mask+1)) (SetTable.bits h)).bind _=_
    rw [hj]
    rfl
theorem Qho (mask:Nat):Own mask (Array.replicate (mask+1) none) 0:=by
  refine ⟨by simp,?_⟩
  have:Lv mask (Array.replicate (mask+1) none)=[]:=by
    unfold Lv
    rw [List.filterMap_eq_nil_iff]
    intro j hj
    have:=List.mem_range.mp hj
    simp [Array.getD,this]
  rw [this]
  exact List.Perm.refl _
theorem QlI {mask finger moves:Nat} {led:Bool} (hg:QbP (mask+1)=true) (ho:mask % 2=1) (hashes:Array Int) (hl:hashes.size<=mask) :
    ∃ t order,SetTable.laid mask finger moves led true hashes=some (t,order)/\Tab t/\t.mask=mask/\t.led=led/\t.place.size=hashes.size/\order.toList.Perm (List.range hashes.size):=by
  obtain ⟨owner,e,x⟩:=QhL hg hashes.toList (Array.replicate (mask+1) none) 0 (Qho mask) (by rw [Array.length_toList];omega)
  rw [Nat.zero_add,Array.length_toList] at e x
  have ec:SetTable.layClean mask hashes=some owner:=by
    unfold SetTable.layClean
    rw [<- Array.foldl_toList]
    exact congrArg (fun z=>z.map (·.1)) e
  have el:SetTable.laid mask finger moves led true hashes=some ({ mask:=mask,place:=(((List.range (mask+1)).filterMap fun j=>(owner.getD j none).map (j,·)).map (·.1)).toArray,dummies:=#[],finger:=finger,led:=led,moves:=moves,plain:=true },(((List.range (mask+1)).filterMap fun j=>(owner.getD j none).map (j,·)).map (·.2)).toArray):=by
    unfold SetTable.laid
    rw [ec]
    rfl
  have e2:((List.range (mask+1)).filterMap fun j=>(owner.getD j none).map (j,·)).map (·.2)=Lv mask owner:=by
    unfold Lv
    rw [List.map_filterMap]
    exact QbL fun y _=>by cases owner.getD y none<;>rfl
  have e1:((List.range (mask+1)).filterMap fun j=>(owner.getD j none).map (j,·)).map (·.1)=(List.range (mask+1)).filterMap fun j=>(owner.getD j none).map fun _=>j:=by
    rw [List.map_filterMap]
    exact QbL fun y _=>by cases owner.getD y none<;>rfl
  have len:(((List.range (mask+1)).filterMap fun j=>(owner.getD j none).map (j,·)).map (·.1)).length=hashes.size:=by
    rw [List.length_map]
    have h1:=congrArg List.length e2
    rw [List.length_map,x.pm.length_eq,List.length_range] at h1
    exact h1
  refine ⟨_,_,el,⟨?_,?_,rfl,hg,rfl,ho⟩,rfl,rfl,by rw [List.size_toArray];exact len,by rw [List.toList_toArray,e2];exact x.pm⟩
  · show List.Pairwise (· < ·) (List.toArray _).toList
    rw [List.toList_toArray,e1,List.pairwise_filterMap]
    refine List.pairwise_lt_range.imp fun {a b} h=>?_
    intro c hc d hd
    cases hoa:owner.getD a none with
    | none=>rw [hoa] at hc;cases hc
    | some _=>
      cases hob:owner.getD b none with
      | none=>rw [hob] at hd;cases hd
      | some _=>rw [hoa] at hc;rw [hob] at hd;cases hc;cases hd;exact h
  · intro y hy
    have hy:y∈(((List.range (mask+1)).filterMap fun j=>(owner.getD j none).map (j,·)).map (·.1)).toArray.toList:=hy
    rw [List.toList_toArray,e1] at hy
    obtain ⟨a,ha,e⟩:=List.mem_filterMap.mp hy
    have:=List.mem_range.mp ha
    cases hoa:owner.getD a none with
    | none=>rw [hoa] at e;cases e
    | some _=>
      rw [hoa] at e
      cases e
      show a<=mask
      omega
theorem Qgr {α:Type} {es:Array α} {order:Array Nat} (h:order.toList.Perm (List.range es.size)):(order.filterMap (es[·]?)).toList.Perm es.toList:=by
  rw [Array.toList_filterMap]
  refine (h.filterMap _).trans ?_
  have:(List.range es.size).filterMap (es[·]?)=es.toList:=by
    apply List.ext_getElem?
    intro i
    have key:∀ n,n<=es.size->(List.range n).filterMap (es[·]?)=es.toList.take n:=fun n=>by
      induction n with
      | zero=>intro _;rfl
      | succ n ih=>
        intro hn
        rw [List.range_succ,List.filterMap_append,ih (by omega),List.take_add_one]
        have:es[n]? = some es[n]:=by simp [show n<es.size by omega]
        simp [this]
    rw [key _ (Nat.le_refl _),<- Array.length_toList,List.take_length]
  rw [this]
theorem QjJ {t t':SetTable} (h:t'.mask=t.mask) (p:SetTable.Probe):t'.advance p=t.advance p:=by
  unfold SetTable.advance
  rw [h]
theorem Qbr {t t':SetTable} (h:t'.mask=t.mask):∀ (n:Nat) (p:SetTable.Probe),stps t' n p=stps t n p
  | 0,_=>rfl
  | n+1,p=>by
    show stps t' n (t'.advance p)=stps t n (t.advance p)
    rw [QjJ h,Qbr h n]
theorem QbD {t t':SetTable} (h:t'.mask=t.mask) (x:Int):t'.probeStart x=t.probeStart x:=by
  unfold SetTable.probeStart
  rw [h]
structure PIn (t:SetTable) (p:SetTable.Probe):Prop where
  a:p.j+p.more<=t.mask
  b:p.i<=t.mask
theorem Qep {mask i:Nat} (h:i<=mask):i+(SetTable.runEnd mask i - i)<=mask:=by unfold SetTable.runEnd;split<;>omega
theorem PIn.adv {t:SetTable} {p:SetTable.Probe} (x:PIn t p):PIn t (t.advance p):=by
  unfold SetTable.advance
  split
  · exact ⟨by show p.j+1+(p.more - 1)<=_;have:=x.a;omega,x.b⟩
  · have:(SetTable.leap t.mask p.i p.perturb).1<=t.mask:=Nat.le_of_lt_succ (Nat.mod_lt _ (Nat.succ_pos _))
    exact ⟨Qep this,this⟩
theorem PIn.stps {t:SetTable}:∀ (n:Nat) {p:SetTable.Probe},PIn t p->PIn t (stps t n p)
  | 0,_,x=>x
  | n+1,_,x=>PIn.stps n x.adv
theorem PIn.start (t:SetTable) (h:Int):PIn t (t.probeStart h):=by
  have:SetTable.bits h % (t.mask+1)<=t.mask:=Nat.le_of_lt_succ (Nat.mod_lt _ (Nat.succ_pos _))
  exact ⟨Qep this,this⟩
theorem Qe6 (t:SetTable) (h:Int) (n:Nat):(stps t n (t.probeStart h)).j<=t.mask:=by
  have:=(PIn.stps n (PIn.start t h)).a
  omega
def Rch (t:SetTable) (j:Nat) (h:Int):Prop:=∃ n,(stps t n (t.probeStart h)).j=j/\∀ m,m<n->(stps t m (t.probeStart h)).j∈t.place.toList
theorem Rch.mono {t t':SetTable} {j:Nat} {h:Int} (x:Rch t j h) (hm:t'.mask=t.mask) (hs:∀ y∈t.place.toList,y∈t'.place.toList):Rch t' j h:=by
  obtain ⟨n,e,k⟩:=x
  refine ⟨n,by rw [QbD hm,Qbr hm];exact e,fun m hlt=>?_⟩
  rw [QbD hm,Qbr hm]
  exact hs _ (k m hlt)
theorem Tab.slot_l {t:SetTable} {j i:Nat} (h:t.slot j=.live i):t.place[i]? = some j:=by
  unfold SetTable.slot at h
  dsimp only at h
  split at h
  · rename_i e
    cases h
    exact eq_of_beq e
  · split at h<;>cases h
theorem Tab.slot_at {t:SetTable} (x:Tab t) {i:Nat} {j:Nat} (h:t.place[i]? = some j):t.slot j=.live i:=by
  have hj:j∈t.place.toList:=Array.mem_toList_iff.mpr (Array.mem_of_getElem? h)
  cases hs:t.slot j with
  | empty=>exact absurd hj (x.slot_e hs)
  | dummy=>exact absurd hs (x.slot_dm j)
  | live i'=>
    have h':=Tab.slot_l hs
    obtain ⟨h1,e1⟩:=Array.getElem?_eq_some_iff.mp h
    obtain ⟨h2,e2⟩:=Array.getElem?_eq_some_iff.mp h'
    congr 1
    rcases Nat.lt_trichotomy i' i with z | z | z
    · have:=List.pairwise_iff_getElem.mp x.pw i' i (by simpa using h2) (by simpa using h1) z
      simp only [Array.getElem_toList] at this
      omega
    · exact z
    · have:=List.pairwise_iff_getElem.mp x.pw i i' (by simpa using h1) (by simpa using h2) z
      simp only [Array.getElem_toList] at this
      omega
theorem Qjz {t:SetTable} (x:Tab t) (hashAt:Nat->Int) (h:Int):∀ (n fuel:Nat) (p:SetTable.Probe),n<fuel->t.slot (stps t n p).j=.empty->p.dummy=none ->
    ∃ k,k<=n/\(∀ m,m<k->∃ i,t.slot (stps t m p).j=.live i/\hashAt i≠h)/\((SetTable.probe.go t hashAt h fuel p=some (.empty (stps t k p).j none)/\t.slot (stps t k p).j=.empty)∨(k<n/\∃ i,SetTable.probe.go t hashAt h fuel p=some (.candidate (stps t k p).j i (stps t (k+1) p))/\t.slot (stps t k p).j=.live i/\hashAt i=h)):=by
  intro n
  induction n with
  | zero=>
    intro fuel p hf he hd
    obtain ⟨fuel,rfl⟩:∃ m,fuel=m+1:=⟨fuel - 1,by omega⟩
    refine ⟨0,Nat.le_refl _,fun m hm=>absurd hm (Nat.not_lt_zero _),.inl ⟨?_,he⟩⟩
    unfold SetTable.probe.go
    rw [show t.slot p.j=.empty from he]
    dsimp only
    rw [hd]
    rfl
  | succ n ih=>
    intro fuel p hf he hd
    obtain ⟨fuel,rfl⟩:∃ m,fuel=m+1:=⟨fuel - 1,by omega⟩
    cases hs:t.slot p.j with
    | empty=>
      refine ⟨0,Nat.zero_le _,fun m hm=>absurd hm (Nat.not_lt_zero _),.inl ⟨?_,hs⟩⟩
      unfold SetTable.probe.go
      rw [hs]
      dsimp only
      rw [hd]
      rfl
    | dummy=>exact absurd hs (x.slot_dm _)
    | live i=>
      by_cases z:hashAt i=h
      · refine ⟨0,Nat.zero_le _,fun m hm=>absurd hm (Nat.not_lt_zero _),.inr ⟨Nat.succ_pos _,i,?_,hs,z⟩⟩
        unfold SetTable.probe.go
        rw [hs]
        dsimp only
        rw [if_pos (by simp [z])]
        rfl
      · obtain ⟨k,hk,ps,q⟩:=ih fuel (t.advance p) (by omega) he (by rw [QeW];exact hd)
        have eg:SetTable.probe.go t hashAt h (fuel+1) p=SetTable.probe.go t hashAt h fuel (t.advance p):=by
          conv=>lhs;unfold SetTable.probe.go
          rw [hs]
          dsimp only
          rw [if_neg (by simp [z])]
        have ps':∀ m,m<k+1->∃ i,t.slot (stps t m p).j=.live i/\hashAt i≠h:=fun m hm=>by
          cases m with
          | zero=>exact ⟨i,hs,z⟩
          | succ m=>exact ps m (by omega)
        rcases q with ⟨q1,q2⟩ | ⟨q0,i',q1,q2,q3⟩
        · exact ⟨k+1,by omega,ps',.inl ⟨by rw [eg];exact q1,q2⟩⟩
        · exact ⟨k+1,by omega,ps',.inr ⟨by omega,i',by rw [eg];exact q1,q2,q3⟩⟩
theorem QjR (t:SetTable):∀ (k m j i perturb:Nat) (d:Option Nat),k<=m->(stps t k { j:=j,more:=m,i:=i,perturb:=perturb,dummy:=d }).j=j+k
  | 0,_,_,_,_,_,_=>rfl
  | k+1,m,j,i,perturb,d,h=>by
    obtain ⟨m,rfl⟩:∃ m',m=m'+1:=⟨m - 1,by omega⟩
    show (stps t k (t.advance _)).j=_
    have:t.advance { j:=j,more:=m+1,i:=i,perturb:=perturb,dummy:=d }={ j:=j+1,more:=m,i:=i,perturb:=perturb,dummy:=d }:=by
      unfold SetTable.advance
      rw [if_pos (by show m+1 > 0;omega)]
      rfl
    rw [this,QjR t k m _ _ _ _ (by omega)]
    omega
theorem QjB {t:SetTable} {owner:Array (Option Nat)}:∀ (fuel i perturb j:Nat),SetTable.layClean.free t.mask owner fuel i perturb=some j->∃ n,(stps t n (runP t i perturb none)).j=j/\∀ m,m<n->owner.getD (stps t m (runP t i perturb none)).j (some 0)≠none:=by
  intro fuel
  induction fuel with
  | zero=>intro i perturb j h;cases h
  | succ fuel ih=>
    intro i perturb j h
    unfold SetTable.layClean.free at h
    have jr:∀ k,k<=SetTable.runEnd t.mask i - i->(stps t k (runP t i perturb none)).j=i+k:=fun k hk=>QjR t k _ _ _ _ _ hk
    have re:SetTable.runEnd t.mask i+1 - i=SetTable.runEnd t.mask i - i+1:=by unfold SetTable.runEnd;split<;>omega
    cases hfd:(List.range (SetTable.runEnd t.mask i+1 - i)).find? fun k=>(owner.getD (i+k) (some 0)).isNone with
    | some k=>
      rw [hfd] at h
      cases h
      obtain ⟨_,hk,hb⟩:=List.find?_range_eq_some.mp hfd
      have hk:=List.mem_range.mp hk
      rw [re] at hk
      refine ⟨k,jr k (by omega),fun m hm=>?_⟩
      rw [jr m (by omega)]
      have:=hb m hm
      intro z
      rw [z] at this
      cases this
    | none=>
      rw [hfd] at h
      obtain ⟨n,e,w⟩:=ih _ _ _ h
      have all:=List.find?_eq_none.mp hfd
      refine ⟨SetTable.runEnd t.mask i - i+1+n,by rw [Qaz,QdD];exact e,fun m hm=>?_⟩
      by_cases z:m<SetTable.runEnd t.mask i - i+1
      · rw [jr m (by omega)]
        have:=all m (List.mem_range.mpr (by omega))
        intro y
        rw [y] at this
        exact this rfl
      · obtain ⟨m',rfl⟩:∃ m',m=SetTable.runEnd t.mask i - i+1+m':=⟨m - (SetTable.runEnd t.mask i - i+1),by omega⟩
        rw [Qaz,QdD]
        exact w m' (by omega)
def tM (mask:Nat):SetTable:={ mask:=mask,place:=#[],dummies:=#[],finger:=0,led:=true,moves:=0,plain:=true }
def OwnW (mask:Nat) (owner:Array (Option Nat)) (H:Nat->Int):Prop:=∀ j k,owner.getD j none=some k->∃ n,(stps (tM mask) n ((tM mask).probeStart (H k))).j=j/\∀ m,m<n->owner.getD (stps (tM mask) m ((tM mask).probeStart (H k))).j none≠none
theorem QhK {mask:Nat} (hg:QbP (mask+1)=true) {owner:Array (Option Nat)} {k:Nat} {H:Nat->Int} (x:Own mask owner k) (w:OwnW mask owner H) (hk:k<=mask):∃ j,SetTable.layClean.free mask owner (SetTable.turns mask) (SetTable.bits (H k) % (mask+1)) (SetTable.bits (H k))=some j/\Own mask (owner.setIfInBounds j (some k)) (k+1)/\OwnW mask (owner.setIfInBounds j (some k)) H:=by
  obtain ⟨j,hj,y⟩:=QfW hg x hk (H k)
  refine ⟨j,hj,y,?_⟩
  have gr:∀ z,owner.getD z none≠none->(owner.setIfInBounds j (some k)).getD z none≠none:=fun z hz=>by
    have hs:z<owner.size:=by
      apply Classical.byContradiction
      intro c
      exact hz (by simp [Array.getD,c])
    by_cases e:j=z
    · subst e;simp [Array.getD,hs]
    · have:(owner.setIfInBounds j (some k)).getD z none=owner.getD z none:=by simp [Array.getD,hs,Array.getElem_setIfInBounds,e]
      rw [this];exact hz
  obtain ⟨n,e,way⟩:=QjB (t:=tM mask) _ _ _ _ hj
  intro j' k' h'
  by_cases z:j=j'
  · subst z
    have hs:j<owner.size:=by
      apply Classical.byContradiction
      intro c
      simp [Array.getD,c] at h'
    have ek:k'=k:=by
      simp [Array.getD,hs] at h'
      exact h'.symm
    subst ek
    refine ⟨n,e,fun m hm=>gr _ ?_⟩
    have h1:=way m hm
    have h2:(stps (tM mask) m ((tM mask).probeStart (H k'))).j<=mask:=Qe6 (tM mask) (H k') m
    have h3:(stps (tM mask) m ((tM mask).probeStart (H k'))).j<owner.size:=by rw [x.sz];omega
    have h1:owner.getD (stps (tM mask) m ((tM mask).probeStart (H k'))).j (some 0)≠none:=h1
    simpa [Array.getD,h3] using h1
  · have h2:owner.getD j' none=some k':=by
      have hs:j'<owner.size:=by
        apply Classical.byContradiction
        intro c
        simp [Array.getD,c] at h'
      rw [<- h']
      simp [Array.getD,hs,Array.getElem_setIfInBounds,z]
    obtain ⟨n',e',way'⟩:=w j' k' h2
    exact ⟨n',e',fun m hm=>gr _ (way' m hm)⟩
theorem QfY {mask:Nat} (hg:QbP (mask+1)=true) (H:Nat->Int):∀ (hs:List Int) (owner:Array (Option Nat)) (k:Nat),Own mask owner k->OwnW mask owner H->(∀ i (hi:i<hs.length),H (k+i)=hs[i])->k+hs.length<=mask+1->∃ owner',hs.foldl (fun acc h=>do
    let (owner,k) <- acc
    let j <- SetTable.layClean.free mask owner (SetTable.turns mask) (SetTable.bits h % (mask+1)) (SetTable.bits h)
    pure (owner.setIfInBounds j (some k),k+1)) (some (owner,k))=some (owner',k+hs.length)/\Own mask owner' (k+hs.length)/\OwnW mask owner' H
  | [],owner,k,x,w,_,_=>⟨owner,rfl,x,w⟩
  | h::hs,owner,k,x,w,hH,hl=>by
    rw [List.length_cons] at hl
    have e0:H k=h:=hH 0 (by simp)
    obtain ⟨j,hj,y,y2⟩:=QhK hg x w (by omega)
    rw [e0] at hj
    obtain ⟨o',e,z,z2⟩:=QfY hg H hs _ (k+1) y y2 (fun i hi=>by
      have:=hH (i+1) (by rw [List.length_cons];omega)
      rw [show k+1+i=k+(i+1) by omega,this];rfl) (by omega)
    refine ⟨o',?_,by rw [List.length_cons,show k+(hs.length+1)=k+1+hs.length by omega];exact z,z2⟩
    rw [List.foldl_cons,List.length_cons,show k+(hs.length+1)=k+1+hs.length by omega,<- e]
    congr 1
    show (SetTable.layClean.free mask owner (SetTable.turns mask) (SetTable.bits h % (mask+1)) (SetTable.bits h)).bind _=_
    rw [hj]
    rfl
theorem Qgy {mask finger moves:Nat} {led:Bool} (hg:QbP (mask+1)=true) (ho:mask % 2=1) (hashes:Array Int) (hl:hashes.size<=mask) :
    ∃ t order,SetTable.laid mask finger moves led true hashes=some (t,order)/\Tab t/\t.mask=mask/\t.led=led/\t.place.size=hashes.size/\order.toList.Perm (List.range hashes.size)/\∀ (i j k:Nat),t.place[i]? = some j->order[i]? = some k->Rch t j (hashes.getD k 0):=by
  obtain ⟨owner,e,x,w⟩:=QfY hg (fun k=>hashes.getD k 0) hashes.toList (Array.replicate (mask+1) none) 0 (Qho mask) (fun j k h=>by
      have:(Array.replicate (mask+1) (none:Option Nat)).getD j none=none:=by
        by_cases c:j<mask+1<;>simp [Array.getD,c]
      rw [this] at h;cases h) (fun i hi=>by
      have hi':i<hashes.size:=by simpa using hi
      simp [Array.getD,hi']) (by rw [Array.length_toList];omega)
  rw [Nat.zero_add,Array.length_toList] at e x
  have ec:SetTable.layClean mask hashes=some owner:=by
    unfold SetTable.layClean
    rw [<- Array.foldl_toList]
    exact congrArg (fun z=>z.map (·.1)) e
  have el:SetTable.laid mask finger moves led true hashes=some ({ mask:=mask,place:=(((List.range (mask+1)).filterMap fun j=>(owner.getD j none).map (j,·)).map (·.1)).toArray,dummies:=#[],finger:=finger,led:=led,moves:=moves,plain:=true },(((List.range (mask+1)).filterMap fun j=>(owner.getD j none).map (j,·)).map (·.2)).toArray):=by
    unfold SetTable.laid
    rw [ec]
    rfl
  obtain ⟨t,order,e2,T,m1,m2,m3,m4⟩:=QlI (finger:=finger) (moves:=moves) (led:=led) hg ho hashes hl
  rw [el] at e2
  have e2:=Option.some.inj e2
  have et:_=t:=congrArg Prod.fst e2
  have eo:_=order:=congrArg Prod.snd e2
  refine ⟨t,order,by rw [el,e2],T,m1,m2,m3,m4,fun i j k hj hk=>?_⟩
  have live:∀ y z,(y,z)∈((List.range (mask+1)).filterMap fun j=>(owner.getD j none).map (j,·))↔y<=mask/\owner.getD y none=some z:=fun y z=>by
    rw [List.mem_filterMap]
    constructor
    · rintro ⟨a,ha,e⟩
      have:=List.mem_range.mp ha
      cases hoa:owner.getD a none with
      | none=>rw [hoa] at e;cases e
      | some b=>rw [hoa] at e;cases e;exact ⟨by omega,hoa⟩
    · rintro ⟨h1,h2⟩
      exact ⟨y,List.mem_range.mpr (by omega),by rw [h2];rfl⟩
  have pl:∀ y,owner.getD y none≠none->y<=mask->y∈t.place.toList:=fun y hy hm=>by
    rw [<- et]
    show y∈(List.toArray _).toList
    rw [List.toList_toArray,List.mem_map]
    cases hoy:owner.getD y none with
    | none=>exact absurd hoy hy
    | some z=>exact ⟨(y,z),(live y z).mpr ⟨hm,hoy⟩,rfl⟩
  have hjk:(j,k)∈((List.range (mask+1)).filterMap fun j=>(owner.getD j none).map (j,·)):=by
    rw [<- et] at hj
    rw [<- eo] at hk
    have hj:(((List.range (mask+1)).filterMap fun j=>(owner.getD j none).map (j,·)).map (·.1)).toArray[i]? = some j:=hj
    have hk:(((List.range (mask+1)).filterMap fun j=>(owner.getD j none).map (j,·)).map (·.2)).toArray[i]? = some k:=hk
    rw [List.getElem?_toArray,List.getElem?_map] at hj hk
    cases hz:((List.range (mask+1)).filterMap fun j=>(owner.getD j none).map (j,·))[i]? with
    | none=>rw [hz] at hj;cases hj
    | some q=>
      rw [hz] at hj hk
      have h1:q.1=j:=Option.some.inj hj
      have h2:q.2=k:=Option.some.inj hk
      rw [<- h1,<- h2]
      exact List.mem_of_getElem? hz
  obtain ⟨hjm,hjo⟩:=(live j k).mp hjk
  obtain ⟨n,e3,way⟩:=w j k hjo
  have hm:t.mask=(tM mask).mask:=m1
  refine ⟨n,by rw [QbD hm,Qbr hm];exact e3,fun m hlt=>?_⟩
  rw [QbD hm,Qbr hm]
  exact pl _ (way m hlt) (Qe6 (tM mask) _ m)
theorem Qcj:Slot "set_iterator" "__next__" "set_iterator.__next__" :=
  .of (owner := "set_iterator") (n := "__next__") (by rw [typeLookup_type,builtinLookup_eq_fast];kernel_rfl) (by decide +kernel) (by decide +kernel) (by decide +kernel) (by first | exact .inl (by decide +kernel) | exact .inr (by decide +kernel)) (by rw [isSubtype_type];kernel_rfl)
theorem Qh6:entryFor table "set_iterator.__next__" = some Builtin.«set_iterator.__next__» := entryFor_of_fast (by kernel_rfl)
theorem ow_si:Manifest.owners.lookup (String.ofList ['r', 'o', 't', 'a', 'r', 'e', 't', 'i', '_', 't', 'e', 's'].reverse)=some Manifest.sig_set_iterator:=by kernel_rfl
theorem Qiw (a:Value):argsOk "set_iterator.__next__" ⟨[a],[]⟩:=by
  unfold argsOk;rw [signature?_of (id := "set_iterator.__next__") (n:=['_', '_', 't', 'x', 'e', 'n', '_', '_']) (o:=['r', 'o', 't', 'a', 'r', 'e', 't', 'i', '_', 't', 'e', 's']) (by kernel_rfl) ow_si];kernel_rfl
theorem QlV:entryFor table "set.__iter__" = some Builtin.«frozenset.__iter__» := entryFor_alias (id' := "frozenset.__iter__") (by kernel_rfl) (by first | rfl | decide +kernel | (unfold String.splitOn;simp +decide [String.splitOnAux])) (by decide +kernel) (by kernel_rfl)
def IsSI (h:Heap) (I:Addr) (first:Value) (i a n ep:Nat):Prop:=∃ o,h.get? I=some o/\o.cls=.type "set_iterator" /\ o.data=.fields #[first,.int i 0,.ref a,.int n 0,.int ep 0]
theorem IsSI.typeIs {s:Shared} {I:Addr} {first:Value} {i a n ep:Nat} (x:IsSI s.heap I first i a n ep):s.TypeIs (.ref I) "set_iterator" := let ⟨o,h,c,_⟩:=x;⟨o,h,c⟩
structure SetAt (h:Heap) (a:Addr) (es:Array (Int×Value)) (ep:Nat) (t:SetTable):Prop where
  at_:∃ o,h.get? a=some o/\o.ExactSet/\o.data=.set es ep t
  ft:t.fits es.size=true
section
variable {prog:Program} {w:World} {A:Around} {E:Value->Shared->Prop} {s:Shared}
theorem QlC {I a:Addr} {i ep slot nx:Nat} {es:Array (Int×Value)} {t:SetTable} {x:Value} {Q:Option Value->Shared->Prop} (hit:IsSI s.heap I (.int slot 0) i a es.size ep) (ha:SetAt s.heap a es ep t)
    (hN:∀ (A:Around) (E:Value->Shared->Prop) (Q':Option (Value×Nat)->Shared->Prop),Q' (some (x,nx)) s->wpAny (model prog w) A (setNext a slot i ep) Q' E s)
    (hQ:∀ h',IsSI h' I (.int nx 0) (i+1) a es.size ep->Heap.SameBut I s.heap h'->Q (some x) { s with heap:=h' }):wpAny (model prog w) A (pyNext (.ref I)) Q E s:=by
  obtain ⟨o,ho,hc,hd⟩:=id hit
  obtain ⟨os,hos,hex,hds⟩:=ha.at_
  unfold pyNext
  refine wpAny_bind (wpAny_attempt (wpAny_callSpecial?_slot (name:=Str.ofString "__next__") hit.typeIs Qcj (wpAny_call_entry Qcj hit.typeIs Qh6 ?_ (Qiw _))))
  unfold Builtin.«set_iterator.__next__»
  wp_walk
  rw [hd]
  refine wpAny_pure ?_
  dsimp only
  refine wpAny_bind (wpAny_setEntries_of hos hds ha.ft ?_)
  rw [if_neg (by simp)]
  refine wpAny_bind ?_
  refine hN _ _ _ ?_
  dsimp only
  refine wpAny_bind (wpAny_setField ho hd (by simp) ?_)
  have g1:(s.heap.update I (Obj.mapFields fun x=>x.setIfInBounds 0 (rawInt ↑nx))).get? I=some (Obj.mapFields (fun x=>x.setIfInBounds 0 (rawInt ↑nx)) o):=Heap.get?_update_self _ ho (Obj.isFreed_of_fields (Obj.data_mapFields hd _))
  have d1:(Obj.mapFields (fun x=>x.setIfInBounds 0 (rawInt ↑nx)) o).data=.fields #[.int nx 0,.int i 0,.ref a,.int es.size 0,.int ep 0]:=by rw [Obj.data_mapFields hd];simp [rawInt]
  refine wpAny_bind (wpAny_setField g1 d1 (by simp) (wpAny_pure ⟨x,rfl,wpAny_pure (hQ _ ?_ ((Heap.SameBut.update ..).trans (Heap.SameBut.update ..)))⟩))
  exact ⟨_,Heap.get?_update_self _ g1 (Obj.isFreed_of_fields (Obj.data_mapFields d1 _)),(Obj.cls_mapFields ..).trans ((Obj.cls_mapFields ..).trans hc),by rw [Obj.data_mapFields d1];simp [rawInt]⟩
theorem nx_end {I a:Addr} {i ep slot:Nat} {es:Array (Int×Value)} {t:SetTable} {Q:Option Value->Shared->Prop} (hh:A.handled=none) (hit:IsSI s.heap I (.int slot 0) i a es.size ep) (ha:SetAt s.heap a es ep t)
    (hN:∀ (A:Around) (E:Value->Shared->Prop) (Q':Option (Value×Nat)->Shared->Prop),Q' none s->wpAny (model prog w) A (setNext a slot i ep) Q' E s)
    (hQ:∀ h',Heap.ExtBut I s.heap h'->Q none { s with heap:=h' }):wpAny (model prog w) A (pyNext (.ref I)) Q E s:=by
  obtain ⟨o,ho,hc,hd⟩:=id hit
  obtain ⟨os,hos,hex,hds⟩:=ha.at_
  unfold pyNext
  refine wpAny_bind (wpAny_attempt (wpAny_callSpecial?_slot (name:=Str.ofString "__next__") hit.typeIs Qcj (wpAny_call_entry Qcj hit.typeIs Qh6 ?_ (Qiw _))))
  unfold Builtin.«set_iterator.__next__»
  wp_walk
  rw [hd]
  refine wpAny_pure ?_
  dsimp only
  refine wpAny_bind (wpAny_setEntries_of hos hds ha.ft ?_)
  rw [if_neg (by simp)]
  refine wpAny_bind ?_
  refine hN _ _ _ ?_
  dsimp only
  refine wpAny_bind (wpAny_setField ho hd (by simp) ?_)
  refine wpAny_bind ?_
  simp only [newExc,newTuple]
  refine wpAny_bind (wpAny_newObj_type ?_ (by size_fits))
  refine wpAny_bind (m:=firstArgMember _ _) (wpAny_of_eq (a:=Value.none) (by first | rfl | (simp only [firstArgMember];rfl)) ?_)
  refine wpAny_newObj_type ?_ (by size_fits)
  simp only [raiseNew]
  refine wpAny_bind (wpAny_handled ?_)
  first | rw [show A.in1.handled=none from hh] | rw [hh]
  refine wpAny_bind (wpAny_pure (wpAny_throw ?_))
  refine wpAny_bind (wpAny_isInstance (T := "StopIteration") (b:=true) ⟨_,Heap.get?_push_size _ rfl,rfl⟩ (by rw [isSubtype_type];kernel_rfl) ?_)
  exact wpAny_pure (hQ _ (((Heap.SameBut.update ..).extBut.push _).push _))
theorem QjT {a:Addr} {ep slot given:Nat} {es:Array (Int×Value)} {t:SetTable} {Q:Option (Value×Nat)->Shared->Prop} (hb:w.params.followText "set-order" = false) (ha:SetAt s.heap a es ep t) (hp:t.plain=true) (hl:t.led=true)
    (h:Q (match es[SetTable.below t.place slot]?,t.place[SetTable.below t.place slot]? with | some (_,x),some j=>some (x,j+1) | _,_=>none) s):wpAny (model prog w) A (setNext a slot given ep) Q E s:=by
  obtain ⟨os,hos,hex,hds⟩:=ha.at_
  unfold setNext
  refine wpAny_bind (wpAny_setState_of hos hds ha.ft ?_)
  dsimp only
  unfold setsByText
  refine wpAny_bind (wpAny_bind (wpAny_askSetting (wpAny_pure ?_)))
  rw [show (model prog w).w.params.followText "set-order" = false from hb,if_neg Bool.false_ne_true]
  split
  · rename_i hdr
    exact absurd (show (!t.plain&&decide (es.size > 1))=true from hdr) (by rw [hp];simp)
  · refine wpAny_bind ?_
    show wpAny (model prog w) A (if (!t.led && !es.isEmpty)=true then unsupported "set:maker-not-led" else pure ()) _ E s
    rw [if_neg (by rw [hl];simp)]
    exact wpAny_pure (wpAny_pure h)
theorem QgS {a:Addr} {ep slot given:Nat} {es:Array (Int×Value)} {t:SetTable} {Q:Option (Value×Nat)->Shared->Prop} (hb:w.params.followText "set-order" = true) (ha:SetAt s.heap a es ep t)
    (h:Q (((pickOrder (w.params.setOrder a ep) es)[given]?).map fun e=>(e.2,slot)) s):wpAny (model prog w) A (setNext a slot given ep) Q E s:=by
  obtain ⟨os,hos,hex,hds⟩:=ha.at_
  unfold setNext
  refine wpAny_bind (wpAny_setState_of hos hds ha.ft ?_)
  dsimp only
  unfold setsByText
  refine wpAny_bind (wpAny_bind (wpAny_askSetting (wpAny_pure ?_)))
  rw [show (model prog w).w.params.followText "set-order" = true from hb,if_pos rfl,if_neg (by simp)]
  refine wpAny_bind ?_
  unfold setWalk
  refine wpAny_bind (wpAny_setState_of hos hds ha.ft ?_)
  dsimp only
  unfold setsByText
  refine wpAny_bind (wpAny_bind (wpAny_askSetting (wpAny_pure ?_)))
  rw [show (model prog w).w.params.followText "set-order" = true from hb,if_pos rfl]
  refine wpAny_bind (wpAny_askSetting (wpAny_pure ?_))
  exact wpAny_pure h
theorem Qev {α:Type} (next:Nat->Nat) (xs:Array α):(pickOrder next xs).toList.Perm xs.toList:=by
  unfold pickOrder
  have go:∀ (n k:Nat) (left:List α) (out:Array α),left.length=n->(pickOrder.go next n k left out).toList.Perm (out.toList++left):=fun n=>by
    induction n with
    | zero=>
      intro k left out hl
      rw [List.length_eq_zero_iff.mp hl,List.append_nil]
      exact List.Perm.refl _
    | succ n ih=>
      intro k left out hl
      have hi:next k % left.length<left.length:=Nat.mod_lt _ (by omega)
      unfold pickOrder.go
      rw [List.getElem?_eq_getElem hi]
      dsimp only
      refine (ih (k+1) _ _ (by rw [List.length_eraseIdx,if_pos hi];omega)).trans ?_
      rw [Array.toList_push,List.append_assoc]
      refine List.Perm.append_left _ ?_
      have sp:left=left.take (next k % left.length)++left[next k % left.length]::left.drop (next k % left.length+1):=by rw [<- List.drop_eq_getElem_cons hi,List.take_append_drop]
      have pm:=(List.perm_middle (a:=left[next k % left.length]) (l₁:=left.take (next k % left.length)) (l₂:=left.drop (next k % left.length+1))).symm
      rw [<- sp,<- List.eraseIdx_eq_take_drop_succ] at pm
      exact pm
  have:=go xs.size 0 xs.toList #[] (by simp)
  simpa using this
theorem it_led {a:Addr} {ep:Nat} {es:Array (Int×Value)} {t:SetTable} {Q:Value->Shared->Prop} (ha:SetAt s.heap a es ep t) (hp:t.plain=true)
    (hQ:Q (.ref s.heap.objs.size) { s with heap:=s.heap.push { cls:=.type "set_iterator",data:=.fields #[.int 0 0,.int 0 0,.ref a,.int es.size 0,.int ep 0] } }):wpAny (model prog w) A (pyIter (.ref a)) Q E s:=by
  obtain ⟨os,hos,hex,hds⟩:=ha.at_
  have hT:s.TypeIs (.ref a) "set" := ⟨os,hos,hex.1⟩
  refine wpAny_pyIter_slot hT PySem.F.slot_set_iter (wpAny_call_entry PySem.F.slot_set_iter hT QlV ?_ (PySem.F.args_set_iter_1 _))
  unfold Builtin.«frozenset.__iter__»
  wp_walk
  have nf:¬ (t.place.size != es.size||decide (t.fill > t.mask))=true:=by
    have hf:=ha.ft
    simp only [SetTable.fits,Bool.and_eq_true,beq_iff_eq,decide_eq_true_eq] at hf
    simp [hf.1,Nat.not_lt.mpr hf.2]
  rw [hds]
  dsimp only
  rw [if_neg nf]
  refine wpAny_pure (wpAny_pure (wpAny_pure ?_))
  refine wpAny_bind ?_
  unfold setDrawn
  refine wpAny_bind (wpAny_setState_of hos hds ha.ft ?_)
  dsimp only
  unfold setsByText
  refine wpAny_bind (wpAny_bind (wpAny_askSetting (wpAny_pure ?_)))
  refine wpAny_pure ?_
  split
  · rename_i hdr
    have hdr:(!(w.params.followText "set-order")&&(!t.plain&&decide (es.size > 1)))=true:=hdr
    rw [hp] at hdr
    simp at hdr
  · refine wpAny_bind (wpAny_pure ?_)
    refine wpAny_bind (wpAny_setEpoch_of hos hds ha.ft ?_)
    exact wpAny_bind (wpAny_newObj_type (wpAny_pure ⟨_,rfl, "set_iterator",_,⟨_,Heap.get?_push_size _ rfl,rfl⟩,Qcj.lookup,hQ⟩))
theorem SetAt.at' {h h':Heap} {a:Addr} {es:Array (Int×Value)} {ep:Nat} {t:SetTable} (x:SetAt h a es ep t) (k:∀ o,h.get? a=some o->h'.get? a=some o):SetAt h' a es ep t:=let ⟨o,h1,h2⟩:=x.at_;⟨⟨o,k o h1,h2⟩,x.ft⟩
theorem IsSI.at' {h h':Heap} {I:Addr} {first:Value} {i a n ep:Nat} (x:IsSI h I first i a n ep) (k:∀ o,h.get? I=some o->h'.get? I=some o):IsSI h' I first i a n ep:=let ⟨o,h1,h2⟩:=x;⟨o,k o h1,h2⟩
end
structure Way (prog:Program) (w:World) (a:Addr) (es:Array (Int×Value)) (ep:Nat) (t:SetTable) (so:Nat->Nat) (vs:Array (Int×Value)):Prop where
  pm:vs.toList.Perm es.toList
  s0:so 0=0
  item:∀ (s:Shared) (A:Around) (E:Value->Shared->Prop) (Q:Option (Value×Nat)->Shared->Prop) (i:Nat) (e:Int×Value),SetAt s.heap a es ep t->vs[i]? = some e->Q (some (e.2,so (i+1))) s->wpAny (model prog w) A (setNext a (so i) i ep) Q E s
  fin:∀ (s:Shared) (A:Around) (E:Value->Shared->Prop) (Q:Option (Value×Nat)->Shared->Prop),SetAt s.heap a es ep t->Q none s->wpAny (model prog w) A (setNext a (so es.size) es.size ep) Q E s
theorem Way.walks {prog:Program} {w:World} {A:Around} (hh:A.handled=none) {a:Addr} {es:Array (Int×Value)} {ep:Nat} {t:SetTable} {so:Nat->Nat} {vs:Array (Int×Value)} (W:Way prog w a es ep t so vs) (I:Addr) (hne:a≠I) (self:∀ (s:Shared) (Q:Value->Shared->Prop) (E:Value->Shared->Prop) (i:Nat),IsSI s.heap I (.int (so i) 0) i a es.size ep->Q (.ref I) s->wpAny (model prog w) A (pyIter (.ref I)) Q E s) :
    Walks prog w A I [I,a] [I] es.size (fun i v=>(vs[i]?).map (·.2)=some v) (fun i h=>IsSI h I (.int (so i) 0) i a es.size ep/\SetAt h a es ep t) where
  sub:=fun b hb=>by simp at hb;simp [hb]
  frame:=fun _ _ _ st hk=>⟨st.1.at' fun o e=>hk I (by simp) o e,st.2.at' fun o e=>hk a (by simp) o e⟩
  item:=fun i s Q E hi st hQ=>by
    have hl:vs.size=es.size:=by rw [<- Array.length_toList,W.pm.length_eq,Array.length_toList]
    have hv:vs[i]? = some vs[i]:=by simp [hl,hi]
    refine QlC st.1 st.2 (x:=vs[i].2) (nx:=so (i+1)) (fun A E Q' q=>W.item s A E Q' i _ st.2 hv q) fun h' hit' hs'=>?_
    refine hQ _ h' s.toks (by rw [hv];rfl) ⟨hit',st.2.at' fun o e=>hs'.extBut a o (fun z=>hne z) e⟩ fun b o hb e=>hs'.extBut b o (fun z=>hb (by simp [z])) e
  done:=fun s Q E st hQ=>nx_end hh st.1 st.2 (fun A E Q' q=>W.fin s A E Q' st.2 q) fun h' he'=>hQ h' s.toks fun b o hb e=>he' b o (fun z=>hb (by simp [z])) e
  self:=fun i s Q E st hQ=>self s Q E i st.1 hQ
theorem QiC {prog:Program} {w:World} (hb:w.params.followText "set-order" = true) (a:Addr) (es:Array (Int×Value)) (ep:Nat) (t:SetTable):Way prog w a es ep t (fun _=>0) (pickOrder (w.params.setOrder a ep) es) where
  pm:=Qev _ _
  s0:=rfl
  item:=fun s A E Q i e ha hv q=>QgS hb ha (by rw [hv];exact q)
  fin:=fun s A E Q ha q=>QgS hb ha (by
    have hl:(pickOrder (w.params.setOrder a ep) es).size=es.size:=by rw [<- Array.length_toList,(Qev _ _).length_eq,Array.length_toList]
    rw [Array.getElem?_eq_none (by omega)];exact q)
theorem Qkz {prog:Program} {w:World} (hb:w.params.followText "set-order" = false) (a:Addr) (es:Array (Int×Value)) (ep:Nat) (t:SetTable) (hp:t.plain=true) (hl:t.led=true) (hz:t.place.size=es.size) (so:Nat->Nat) (s0:so 0=0) (hs:∀ i,i<t.place.size->so (i+1)=t.place.getD i 0+1) (hbel:∀ i,i<=t.place.size->SetTable.below t.place (so i)=i):Way prog w a es ep t so es where
  pm:=List.Perm.refl _
  s0:=s0
  item:=fun s A E Q i e ha hv q=>QjT hb ha hp hl (by
    have hi:i<es.size:=by
      by_cases z:i<es.size
      · exact z
      · rw [Array.getElem?_eq_none (by omega)] at hv;cases hv
    rw [hbel i (by omega),hv,show t.place[i]? = some (t.place.getD i 0) by simp [Array.getD,show i<t.place.size by omega]]
    dsimp only
    rw [<- hs i (by omega)]
    exact q)
  fin:=fun s A E Q ha q=>QjT hb ha hp hl (by
    rw [hbel es.size (by omega),Array.getElem?_eq_none (Nat.le_refl _)]
    exact q)
section
variable {prog:Program} {w:World} {A:Around} {E:Value->Shared->Prop} {s:Shared}
theorem QhV (n:Nat) {k:Int} {v:Value} (h:(intKind prog w).is k v=true):hashByValue n v=pure true/\∀ d,ofAClassStatement d v=pure false:=by
  cases v<;>first | (cases h;done) | skip
  all_goals first | exact ⟨by cases n<;>rfl,fun d=>by cases d<;>rfl⟩ | (simp [intKind] at h)
theorem QeE {ks:List Int} {vs:List Value} (h:ItemsAre (intKind prog w) ks vs):∀ v∈vs,∃ k,(intKind prog w).is k v=true:=by
  induction h with
  | nil=>intro v hv;cases hv
  | cons h1 _ ih=>
    intro v hv
    rcases List.mem_cons.mp hv with z | z
    · subst z;exact ⟨_,h1⟩
    · exact ih v z
theorem QhU {ks:List Int} {a:Addr} {Q:Bool->Shared->Prop} (hk:IsTupleKey (intKind prog w) s.heap ks a) (h:Q true s):wpAny (model prog w) A (hashByValue 8 (.ref a)) Q E s:=by
  have hT:=hk.typeIs
  obtain ⟨o,items,n,ho,_,hd,hi⟩:=hk
  have ha:=QeE hi
  unfold hashByValue
  refine wpAny_bind (wpAny_specialOf hT F.slot_tuple_hash.lookup ?_)
  dsimp only
  refine wpAny_bind (wpAny_seqItems ho hd ?_)
  refine wpAny_bind ?_
  show wpAny _ _ (forIn items _ _) _ _ s
  rw [<- Array.forIn_toList]
  refine wpAny_forIn_list _ (fun rest r s'=>r.1=none/\s'=s/\∀ v∈rest,∃ k,(intKind prog w).is k v=true) _ ?_ ?_ _ _ ⟨rfl,rfl,ha⟩
  · rintro v rest r s' ⟨hr,rfl,hall⟩
    obtain ⟨k,hk⟩:=hall v List.mem_cons_self
    rw [(QhV _ hk).1]
    refine wpAny_bind (wpAny_pure ?_)
    simp only [Bool.not_true,Bool.false_eq_true,if_false]
    exact wpAny_pure ⟨rfl,rfl,fun u hu'=>hall u (List.mem_cons_of_mem _ hu')⟩
  · rintro ⟨r1,r2⟩ s' ⟨hr,rfl,_⟩
    simp only at hr
    subst hr
    exact wpAny_pure h
theorem Qey {ks:List Int} {a:Addr} {Q:Bool->Shared->Prop} (hk:IsTupleKey (intKind prog w) s.heap ks a) (h:Q false s):wpAny (model prog w) A (ofAClassStatement 8 (.ref a)) Q E s:=by
  have hT:=hk.typeIs
  obtain ⟨o,items,n,ho,_,hd,hi⟩:=hk
  have ha:=QeE hi
  unfold ofAClassStatement
  refine wpAny_bind (wpAny_typeOf hT ?_)
  dsimp only
  rw [if_pos (by decide)]
  refine wpAny_bind (wpAny_pure ?_)
  rw [if_neg (by decide)]
  refine wpAny_bind (wpAny_seqItems ho hd ?_)
  dsimp only
  refine wpAny_bind ?_
  show wpAny _ _ (forIn items _ _) _ _ s
  rw [<- Array.forIn_toList]
  refine wpAny_forIn_list _ (fun rest r s'=>r.1=none/\s'=s/\∀ v∈rest,∃ k,(intKind prog w).is k v=true) _ ?_ ?_ _ _ ⟨rfl,rfl,ha⟩
  · rintro v rest r s' ⟨hr,rfl,hall⟩
    obtain ⟨k,hk⟩:=hall v List.mem_cons_self
    rw [(QhV 0 hk).2]
    refine wpAny_bind (wpAny_pure ?_)
    rw [if_neg (by decide)]
    exact wpAny_pure ⟨rfl,rfl,fun u hu'=>hall u (List.mem_cons_of_mem _ hu')⟩
  · rintro ⟨r1,r2⟩ s' ⟨hr,rfl,_⟩
    simp only at hr
    subst hr
    exact wpAny_pure h
theorem QkK {ks:List Int} {a:Addr} {stored:List Value} {Q:Bool->Shared->Prop} (hk:IsTupleKey (intKind prog w) s.heap ks a) (hs:∀ v∈stored,∃ ks' b,v=.ref b/\IsTupleKey (intKind prog w) s.heap ks' b) (h:Q false s):wpAny (model prog w) A (searchCouldBeSeen (.ref a) stored) Q E s:=by
  unfold searchCouldBeSeen
  refine wpAny_bind ?_
  refine wpAny_forIn_list _ (fun rest r s'=>r.1=none/\s'=s/\∀ v∈rest,∃ ks' b,v=.ref b/\IsTupleKey (intKind prog w) s.heap ks' b) _ ?_ ?_ _ _ ⟨rfl,rfl,hs⟩
  · rintro v rest r s' ⟨hr,rfl,hall⟩
    obtain ⟨ks',b,rfl,hb⟩:=hall v List.mem_cons_self
    dsimp only
    split
    · exact wpAny_pure ⟨rfl,rfl,fun u hu'=>hall u (List.mem_cons_of_mem _ hu')⟩
    · refine wpAny_bind (wpAny_eqIsQuiet_tuple hk ?_)
      rw [if_neg (by decide)]
      refine wpAny_bind (wpAny_eqIsQuiet_tuple hb ?_)
      rw [if_neg (by decide)]
      refine wpAny_bind (Qey hk ?_)
      rw [if_neg (by decide)]
      refine wpAny_bind (Qey hb ?_)
      rw [if_neg (by decide)]
      exact wpAny_pure ⟨rfl,rfl,fun u hu'=>hall u (List.mem_cons_of_mem _ hu')⟩
  · rintro ⟨r1,r2⟩ s' ⟨hr,rfl,_⟩
    simp only at hr
    subst hr
    exact wpAny_pure h
end
theorem Qdh (t:SetTable):∀ (n:Nat) (p:SetTable.Probe),(stps t n p).dummy=p.dummy
  | 0,_=>rfl
  | n+1,p=>by
    show (stps t n (t.advance p)).dummy=_
    rw [Qdh t n,QeW]
section
variable {prog:Program} {w:World} {A:Around} {E:Value->Shared->Prop} {s:Shared}
structure TS (prog:Program) (w:World) (h:Heap) (a:Addr) (es:Array (Int×Value)) (ep:Nat) (t:SetTable) (ps:List (List Int×Addr)):Prop where
  at_:SetAt h a es ep t
  tab:Tab t
  ent:es.toList=ps.map fun p=>(tupleKeyHash (intKind prog w) p.1,Value.ref p.2)
  key:∀ p∈ps,IsTupleKey (intKind prog w) h p.1 p.2
  nd:(ps.map (·.1)).Nodup
  rch:∀ (i j:Nat) (e:Int×Value),t.place[i]? = some j->es[i]? = some e->Rch t j e.1
  mks:t.mask=7∨t.mask=31∨t.mask=127∨t.mask=511
  few:t.place.size*5<t.mask*3
variable {a:Addr} {es:Array (Int×Value)} {ep:Nat} {t:SetTable} {ps:List (List Int×Addr)}
theorem TS.es_at (x:TS prog w s.heap a es ep t ps) (i:Nat):es[i]? = (ps[i]?).map fun p=>(tupleKeyHash (intKind prog w) p.1,Value.ref p.2):=by
  rw [<- Array.getElem?_toList,x.ent,List.getElem?_map]
theorem TS.size (x:TS prog w s.heap a es ep t ps):es.size=ps.length:=by rw [<- Array.length_toList,x.ent,List.length_map]
theorem TS.psize (x:TS prog w s.heap a es ep t ps):t.place.size=ps.length:=by
  have:=x.at_.ft
  unfold SetTable.fits at this
  have:=(Bool.and_eq_true_iff.mp this).1
  rw [<- x.size]
  exact eq_of_beq this
theorem srch (x:TS prog w s.heap a es ep t ps) (hu:A.units<cLine) {ks:List Int} {b:Addr} (hk:IsTupleKey (intKind prog w) s.heap ks b) {n:Nat} (hn:n<10*SetTable.turns t.mask) (he:t.slot (stps t n (t.probeStart (tupleKeyHash (intKind prog w) ks))).j=.empty) {Q:SetFound->Shared->Prop}
    (hThere:ks∈ps.map (·.1)->Q (.there none) s) (hFree:ks∉ps.map (·.1)->∀ j,j∉t.place.toList->j<=t.mask->Rch t j (tupleKeyHash (intKind prog w) ks)->Q (.free j false) s) :
    ∀ (fuel k0:Nat) (stand:Option SetTable.Probe),k0<=n->n - k0<fuel->stand.getD (t.probeStart (tupleKeyHash (intKind prog w) ks))=stps t k0 (t.probeStart (tupleKeyHash (intKind prog w) ks))->(∀ m,m<k0->∃ i,t.slot (stps t m (t.probeStart (tupleKeyHash (intKind prog w) ks))).j=.live i/\∀ p,ps[i]? = some p->p.1≠ks) ->
      wpAny (model prog w) A (setSearchFrom a (.ref b) (tupleKeyHash (intKind prog w) ks) true fuel stand) Q E s:=by
  obtain ⟨o,ho,hex,hd⟩:=x.at_.at_
  have hf:=x.at_.ft
  intro fuel
  induction fuel with
  | zero=>intro k0 stand _ h;exact absurd h (Nat.not_lt_zero _)
  | succ fuel ih=>
    intro k0 stand h1 h2 h3 h4
    generalize hH:tupleKeyHash (intKind prog w) ks=H at *
    unfold setSearchFrom
    refine wpAny_bind (wpAny_setState_of ho hd hf ?_)
    dsimp only
    rw [if_neg (by unfold SetTable.gaveWay;rw [x.tab.od];decide)]
    obtain ⟨k,hkn,pass,met⟩:=Qjz x.tab (fun i=>(es[i]?.map (·.1)).getD 0) H (n - k0) (10*SetTable.turns t.mask) (stps t k0 (t.probeStart H)) (by omega) (by rw [<- Qaz,show k0+(n - k0)=n by omega];exact he) (by rw [Qdh];rfl)
    have eh:∀ (i:Nat) (p:List Int×Addr),ps[i]? = some p->(es[i]?.map (·.1)).getD 0=tupleKeyHash (intKind prog w) p.1:=fun i p hp=>by rw [x.es_at,hp];rfl
    have pass':∀ m,m<k0+k->∃ i,t.slot (stps t m (t.probeStart H)).j=.live i/\∀ p,ps[i]? = some p->p.1≠ks:=fun m hm=>by
      by_cases z:m<k0
      · exact h4 m z
      · obtain ⟨i,hi,hne⟩:=pass (m - k0) (by omega)
        rw [<- Qaz,show k0+(m - k0)=m by omega] at hi
        refine ⟨i,hi,fun p hp e=>hne ?_⟩
        rw [eh i p hp,e];exact hH
    rcases met with ⟨m1,m2⟩ | ⟨m0,i,m1,m2,m3⟩
    · split
      · rename_i mt hpb
        rw [h3] at hpb
        have hpb:SetTable.probe.go t (fun i=>(es[i]?.map (·.1)).getD 0) H (10*SetTable.turns t.mask) (stps t k0 (t.probeStart H))=some mt:=hpb
        rw [m1] at hpb
        cases hpb
        dsimp only
        rw [<- Qaz] at m2 ⊢
        have nin:=x.tab.slot_e m2
        refine wpAny_pure (hFree (fun hin=>?_) _ nin (Qe6 t H _) ⟨k0+k,rfl,fun m hm=>?_⟩)
        · obtain ⟨p,hp,rfl⟩:=List.mem_map.mp hin
          obtain ⟨ix,hix⟩:=List.mem_iff_getElem?.mp hp
          have hlt:ix<t.place.size:=by rw [x.psize];exact (List.getElem?_eq_some_iff.mp hix).1
          have hpl:t.place[ix]? = some t.place[ix]:=by simp [hlt]
          obtain ⟨nn,e1,e2⟩:=x.rch ix _ _ hpl (by rw [x.es_at,hix];rfl)
          dsimp only at e1 e2
          rw [hH] at e1 e2
          have hlive:=x.tab.slot_at hpl
          rw [<- e1] at hlive
          rcases Nat.lt_trichotomy nn (k0+k) with z | z | z
          · obtain ⟨i',hi',hne⟩:=pass' nn z
            rw [hlive] at hi'
            cases hi'
            exact hne p hix rfl
          · rw [z,m2] at hlive;cases hlive
          · exact nin (e2 _ z)
        · obtain ⟨i',hi',_⟩:=pass' m hm
          have:=Tab.slot_l hi'
          exact Array.mem_toList_iff.mpr (Array.mem_of_getElem? this)
      · rename_i hpb
        rw [h3] at hpb
        exact absurd (show SetTable.probe.go t (fun i=>(es[i]?.map (·.1)).getD 0) H (10*SetTable.turns t.mask) (stps t k0 (t.probeStart H))=none from by
          cases hz:SetTable.probe.go t (fun i=>(es[i]?.map (·.1)).getD 0) H (10*SetTable.turns t.mask) (stps t k0 (t.probeStart H)) with
          | none=>rfl
          | some q=>exact absurd hz (hpb q)) (by rw [m1];exact fun e=>by cases e)
    · split
      · rename_i mt hpb
        rw [h3] at hpb
        have hpb:SetTable.probe.go t (fun i=>(es[i]?.map (·.1)).getD 0) H (10*SetTable.turns t.mask) (stps t k0 (t.probeStart H))=some mt:=hpb
        rw [m1] at hpb
        cases hpb
        dsimp only
        have hpi:=Tab.slot_l m2
        have hlt:i<ps.length:=by rw [<- x.psize];exact (Array.getElem?_eq_some_iff.mp hpi).1
        obtain ⟨p,hp⟩:∃ p,ps[i]? = some p:=⟨ps[i],by simp [hlt]⟩
        have hpm:=List.mem_of_getElem? hp
        have hei:es[i]? = some (tupleKeyHash (intKind prog w) p.1,Value.ref p.2):=by rw [x.es_at,hp];rfl
        have hst:∀ v∈(List.map (fun x=>x.2) (Array.filter (fun x=>x.1 == H) es).toList),∃ ks' b,v=Value.ref b/\IsTupleKey (intKind prog w) s.heap ks' b:=fun v hv=>by
          obtain ⟨e,he',rfl⟩:=List.mem_map.mp hv
          have he':e∈es.toList:=by
            rw [Array.toList_filter] at he'
            exact (List.mem_filter.mp he').1
          rw [x.ent] at he'
          obtain ⟨q,hq,rfl⟩:=List.mem_map.mp he'
          exact ⟨q.1,q.2,rfl,x.key q hq⟩
        have sm:t.sameMemory t.moves t.mask=some true:=by unfold SetTable.sameMemory;rw [if_pos (by simp)]
        split
        · refine wpAny_bind (QkK hk hst ?_)
          rw [if_neg (by decide)]
          rw [hei]
          dsimp only
          refine wpAny_bind (wpAny_holding (wpAny_eqBool_tuple hu (x.key p hpm) hk ?_))
          refine wpAny_bind (wpAny_setState_of ho hd hf ?_)
          dsimp only
          by_cases z:p.1=ks
          · rw [if_pos (by simp [z])]
            exact wpAny_pure (hThere (List.mem_map.mpr ⟨p,hpm,z⟩))
          · rw [if_neg (by simp [z]),sm]
            dsimp only
            rw [if_pos rfl,m2]
            dsimp only
            rw [hei]
            dsimp only
            refine wpAny_bind ?_
            unfold isSame
            dsimp only
            rw [if_pos (by simp)]
            refine wpAny_pure (wpAny_bind (wpAny_pure ?_))
            rw [if_pos rfl]
            dsimp only
            rw [if_neg (by simp [z])]
            refine ih (k0+k+1) _ (by omega) (by omega) (by rw [<- Qaz];rfl) fun m hm=>?_
            by_cases y:m<k0+k
            · exact pass' m y
            · obtain rfl:m=k0+k:=by omega
              refine ⟨i,by rw [Qaz];exact m2,fun q hq=>?_⟩
              rw [hp] at hq
              cases hq
              exact z
        · rw [hei]
          dsimp only
          refine wpAny_bind (wpAny_holding (wpAny_eqBool_tuple hu (x.key p hpm) hk ?_))
          refine wpAny_bind (wpAny_setState_of ho hd hf ?_)
          dsimp only
          by_cases z:p.1=ks
          · rw [if_pos (by simp [z])]
            exact wpAny_pure (hThere (List.mem_map.mpr ⟨p,hpm,z⟩))
          · rw [if_neg (by simp [z]),sm]
            dsimp only
            rw [if_pos rfl,m2]
            dsimp only
            rw [hei]
            dsimp only
            refine wpAny_bind ?_
            unfold isSame
            dsimp only
            rw [if_pos (by simp)]
            refine wpAny_pure (wpAny_bind (wpAny_pure ?_))
            rw [if_pos rfl]
            dsimp only
            rw [if_neg (by simp [z])]
            refine ih (k0+k+1) _ (by omega) (by omega) (by rw [<- Qaz];rfl) fun m hm=>?_
            by_cases y:m<k0+k
            · exact pass' m y
            · obtain rfl:m=k0+k:=by omega
              refine ⟨i,by rw [Qaz];exact m2,fun q hq=>?_⟩
              rw [hp] at hq
              cases hq
              exact z
      · rename_i hpb
        rw [h3] at hpb
        exact absurd (show SetTable.probe.go t (fun i=>(es[i]?.map (·.1)).getD 0) H (10*SetTable.turns t.mask) (stps t k0 (t.probeStart H))=none from by
          cases hz:SetTable.probe.go t (fun i=>(es[i]?.map (·.1)).getD 0) H (10*SetTable.turns t.mask) (stps t k0 (t.probeStart H)) with
          | none=>rfl
          | some q=>exact absurd hz (hpb q)) (by rw [m1];exact fun e=>by cases e)
end
def Sm (m:Nat):List Nat:=(List.range 6).filter m.testBit
def tb (m:Nat) (led:Bool):SetTable:={ mask:=if 5<=(Sm m).length then 31 else 7,place:=(Sm m).toArray,dummies:=#[],finger:=0,led:=led,moves:=if 5<=(Sm m).length then 1 else 0,plain:=true }
def tp (m v:Nat) (led:Bool):SetTable:={ tb m led with place:=(Sm (m ||| 2^v)).toArray }
def so (m i:Nat):Nat:=match i with
  | 0=>0
  | i+1=>(Sm m).toArray.getD i 0+1
def EsOk (es:Array (Int×Value)) (S:List Nat):Prop:=∃ tks:List Tok,tks.length=S.length/\es.toList=List.zipWith (fun (v:Nat) (tk:Tok)=>((v:Int),Value.int (v:Int) tk)) S tks
theorem EsOk.size {es:Array (Int×Value)} {S:List Nat} (h:EsOk es S):es.size=S.length:=by
  obtain ⟨tks,hl,e⟩:=h
  rw [<- Array.length_toList,e,List.length_zipWith,hl,Nat.min_self]
theorem EsOk.ins {es:Array (Int×Value)} {S:List Nat} (h:EsOk es S) (p v:Nat) (tk:Tok):EsOk (SetTable.insertAt es p ((v:Int),.int v tk)) (S.take p++v::S.drop p):=by
  obtain ⟨tks,hl,e⟩:=h
  refine ⟨tks.take p++tk::tks.drop p,by simp [hl],?_⟩
  rw [SetTable.toList_insertAt,e,List.zipWith_append (by simp [hl]),List.take_zipWith,List.drop_zipWith]
  rfl
theorem Qkv {S:List Nat} {e:Int×Value}:∀ {tks:List Tok},e∈List.zipWith (fun (v:Nat) (tk:Tok)=>((v:Int),Value.int (v:Int) tk)) S tks->∃ v∈S,∃ tk,e=((v:Int),.int v tk):=by
  induction S with
  | nil=>intro tks h;cases tks<;>cases h
  | cons x S ih=>
    intro tks h
    cases tks with
    | nil=>cases h
    | cons t tks=>
      rcases List.mem_cons.mp h with z | z
      · exact ⟨x,.head _,t,z⟩
      · obtain ⟨v,hv,r⟩:=ih z
        exact ⟨v,.tail _ hv,r⟩
theorem EsOk.mem {es:Array (Int×Value)} {S:List Nat} (h:EsOk es S) {e:Int×Value} (he:e∈es.toList):∃ v∈S,∃ tk,e=((v:Int),.int v tk):=by
  obtain ⟨tks,hl,e'⟩:=h
  rw [e'] at he
  exact Qkv he
theorem Qkw {S:List Nat} {v:Nat} (hv:v∈S):∀ {tks:List Tok},tks.length=S.length->∃ tk,((v:Int),Value.int (v:Int) tk)∈List.zipWith (fun (v:Nat) (tk:Tok)=>((v:Int),Value.int (v:Int) tk)) S tks:=by
  induction S with
  | nil=>cases hv
  | cons x S ih=>
    intro tks hl
    cases tks with
    | nil=>cases hl
    | cons t tks=>
      rcases List.mem_cons.mp hv with z | z
      · subst z;exact ⟨t,.head _⟩
      · obtain ⟨tk,h⟩:=ih z (Nat.succ.inj hl)
        exact ⟨tk,.tail _ h⟩
theorem EsOk.has {es:Array (Int×Value)} {S:List Nat} (h:EsOk es S) {v:Nat} (hv:v∈S):∃ tk,((v:Int),Value.int (v:Int) tk)∈es.toList:=by
  obtain ⟨tks,hl,e⟩:=h
  rw [e];exact Qkw hv hl
structure Sml (h:Heap) (a:Addr) (m:Nat) (led:Bool):Prop where
  ex:∃ es ep,SetAt h a es ep (tb m led)/\EsOk es (Sm m)
theorem Sml.at' {h h':Heap} {a:Addr} {m:Nat} {led:Bool} (x:Sml h a m led) (k:∀ o,h.get? a=some o->h'.get? a=some o):Sml h' a m led:=by
  obtain ⟨es,ep,sa,eo⟩:=x.ex
  exact ⟨es,ep,sa.at' k,eo⟩
theorem SetAt.store {h:Heap} {a:Addr} {es es':Array (Int×Value)} {ep:Nat} {t t':SetTable} (x:SetAt h a es ep t) (hf:t'.fits es'.size=true):SetAt (h.update a (Obj.putSet es' t')) a es' (ep+1) t':=by
  obtain ⟨o,ho,hex,hd⟩:=x.at_
  have hg:=Heap.get?_update_self (Obj.putSet es' t') ho (by rw [putSet_of es' t' hd];rfl)
  rw [putSet_of es' t' hd] at hg
  exact ⟨⟨_,hg,hex,rfl⟩,hf⟩
section
variable {prog:Program} {w:World} {A:Around} {E:Value->Shared->Prop} {s:Shared}
end
section
variable {prog:Program} {w:World} {A:Around} {R:Result->Shared->Prop} {I:Addr} {fp wr:List Addr} {n:Nat} {P:Nat->Value->Prop} {St:Nat->Heap->Prop}
end
theorem ins_get {α β:Type} {l1:List α} {l2:List β} (hl:l1.length=l2.length) {p:Nat} (hp:p<=l1.length) {x:α} {y:β} {i:Nat} {u:α} {v:β} (h1:(l1.take p++x::l1.drop p)[i]? = some u) (h2:(l2.take p++y::l2.drop p)[i]? = some v):(u=x/\v=y)∨∃ k:Nat,l1[k]? = some u/\l2[k]? = some v:=by
  have t1:(l1.take p).length=p:=by rw [List.length_take];omega
  have t2:(l2.take p).length=p:=by rw [List.length_take];omega
  rcases Nat.lt_trichotomy i p with z | z | z
  · rw [List.getElem?_append_left (by omega),List.getElem?_take_of_lt z] at h1 h2
    exact .inr ⟨i,h1,h2⟩
  · subst z
    rw [List.getElem?_append_right (by omega),t1,Nat.sub_self] at h1
    rw [List.getElem?_append_right (by omega),t2,Nat.sub_self] at h2
    exact .inl ⟨(Option.some.inj h1).symm,(Option.some.inj h2).symm⟩
  · rw [List.getElem?_append_right (by omega),t1,show i - p=(i - p - 1)+1 by omega,List.getElem?_cons_succ,List.getElem?_drop] at h1
    rw [List.getElem?_append_right (by omega),t2,show i - p=(i - p - 1)+1 by omega,List.getElem?_cons_succ,List.getElem?_drop] at h2
    exact .inr ⟨_,h1,h2⟩
section
variable {prog:Program} {w:World} {A:Around} {E:Value->Shared->Prop} {s:Shared} {a:Addr} {es:Array (Int×Value)} {ep:Nat} {t:SetTable} {ps:List (List Int×Addr)}
theorem TS.other (x:TS prog w s.heap a es ep t ps) {ks:List Int} {b:Addr} (hk:IsTupleKey (intKind prog w) s.heap ks b):b≠a:=fun e=>by
  subst e
  obtain ⟨o,ho,hex,hd⟩:=x.at_.at_
  obtain ⟨o',it,n,ho',hc,_⟩:=hk
  rw [ho] at ho'
  cases ho'
  rw [hex.1] at hc
  exact absurd hc (by decide)
theorem Qfo {h:Heap} {f:Obj->Obj} {ks:List Int} {b:Addr} (hk:IsTupleKey (intKind prog w) h ks b) (hne:b≠a):IsTupleKey (intKind prog w) (h.update a f) ks b:=by
  obtain ⟨o',it,n,ho',r⟩:=hk
  exact ⟨o',it,n,(Heap.get?_update_other _ _ (Ne.symm hne)).trans ho',r⟩
theorem TS.put (x:TS prog w s.heap a es ep t ps) {ks:List Int} {b:Addr} (hk:IsTupleKey (intKind prog w) s.heap ks b) (hnew:ks∉ps.map (·.1)) {j:Nat} (hj:j∉t.place.toList) (hm:j<=t.mask) (hr:Rch t j (tupleKeyHash (intKind prog w) ks)) :
    SetAt (s.heap.update a (Obj.putSet (SetTable.insertAt es (t.put j).2 (tupleKeyHash (intKind prog w) ks,Value.ref b)) (t.put j).1)) a (SetTable.insertAt es (t.put j).2 (tupleKeyHash (intKind prog w) ks,Value.ref b)) (ep+1) (t.put j).1 /\
    Tab (t.put j).1/\(SetTable.insertAt es (t.put j).2 (tupleKeyHash (intKind prog w) ks,Value.ref b)).toList=(ps.take (t.put j).2++(ks,b)::ps.drop (t.put j).2).map (fun p=>(tupleKeyHash (intKind prog w) p.1,Value.ref p.2)) /\
    (∀ p∈ps.take (t.put j).2++(ks,b)::ps.drop (t.put j).2,IsTupleKey (intKind prog w) (s.heap.update a (Obj.putSet (SetTable.insertAt es (t.put j).2 (tupleKeyHash (intKind prog w) ks,Value.ref b)) (t.put j).1)) p.1 p.2) /\
    (ps.take (t.put j).2++(ks,b)::ps.drop (t.put j).2).Perm ((ks,b)::ps) /\
    (∀ (i j':Nat) (e:Int×Value),(t.put j).1.place[i]? = some j'->(SetTable.insertAt es (t.put j).2 (tupleKeyHash (intKind prog w) ks,Value.ref b))[i]? = some e->Rch (t.put j).1 j' e.1) /\
    (t.put j).1.place.size=ps.length+1:=by
  obtain ⟨T,pl,m1,m2,m3,m4⟩:=x.tab.put hj hm
  have hle:(t.put j).2<=t.place.toList.length:=by
    rw [Array.length_toList]
    exact (QbO x.tab.pw j).1
  have hsz:(t.put j).1.place.size=ps.length+1:=by
    rw [<- Array.length_toList,pl,<- x.psize,<- Array.length_toList,List.length_append,List.length_cons,List.length_take,List.length_drop]
    omega
  have hes:(SetTable.insertAt es (t.put j).2 (tupleKeyHash (intKind prog w) ks,Value.ref b)).toList=es.toList.take (t.put j).2++(tupleKeyHash (intKind prog w) ks,Value.ref b)::es.toList.drop (t.put j).2:=SetTable.toList_insertAt _ _ _
  have hent:(SetTable.insertAt es (t.put j).2 (tupleKeyHash (intKind prog w) ks,Value.ref b)).toList=(ps.take (t.put j).2++(ks,b)::ps.drop (t.put j).2).map (fun p=>(tupleKeyHash (intKind prog w) p.1,Value.ref p.2)):=by
    rw [hes,x.ent,List.map_append,List.map_cons,List.map_take,List.map_drop]
  have hpm:(ps.take (t.put j).2++(ks,b)::ps.drop (t.put j).2).Perm ((ks,b)::ps):=by
    refine List.perm_middle.trans ?_
    rw [List.take_append_drop]
  have hs1:(SetTable.insertAt es (t.put j).2 (tupleKeyHash (intKind prog w) ks,Value.ref b)).size=ps.length+1:=by
    rw [<- Array.length_toList,hent,List.length_map,hpm.length_eq,List.length_cons]
  have hfew:(t.put j).1.place.size<=(t.put j).1.mask:=by
    rw [hsz,m1,<- x.psize]
    have:=x.few
    have:=x.mks
    omega
  refine ⟨x.at_.store ?_,T,hent,fun p hp=>?_,hpm,fun i j' e h1 h2=>?_,hsz⟩
  · unfold SetTable.fits SetTable.fill
    rw [m4,hsz,hs1]
    rw [hsz] at hfew
    simp [hfew]
  · rcases List.mem_cons.mp (hpm.mem_iff.mp hp) with z | z
    · subst z;exact Qfo hk (x.other hk)
    · exact Qfo (x.key p z) (x.other (x.key p z))
  · rw [<- Array.getElem?_toList,pl] at h1
    rw [<- Array.getElem?_toList,hes] at h2
    have hl:t.place.toList.length=es.toList.length:=by rw [Array.length_toList,Array.length_toList,x.psize,x.size]
    have grow:∀ y∈t.place.toList,y∈(t.put j).1.place.toList:=fun y hy=>by
      rw [pl]
      rw [<- List.take_append_drop (t.put j).2 t.place.toList] at hy
      rcases List.mem_append.mp hy with z | z
      · exact List.mem_append_left _ z
      · exact List.mem_append_right _ (.tail _ z)
    rcases ins_get hl hle h1 h2 with ⟨rfl,rfl⟩ | ⟨k,q1,q2⟩
    · exact hr.mono m1 grow
    · exact (x.rch k j' e (by rw [<- Array.getElem?_toList];exact q1) (by rw [<- Array.getElem?_toList];exact q2)).mono m1 grow
end
theorem QhW {t:SetTable} (h:t.mask=7∨t.mask=31∨t.mask=127∨t.mask=511):QbP (t.mask+1)=true:=by
  rcases h with h | h | h | h<;>rw [h]
  · exact Qkf
  · exact QlP
  · exact Qjy
  · exact Qjx
section
variable {prog:Program} {w:World} {A:Around} {E:Value->Shared->Prop} {s:Shared} {a:Addr} {es:Array (Int×Value)} {ep:Nat} {t:SetTable} {ps:List (List Int×Addr)}
theorem relay {m wanted:Nat} {ps:List (List Int×Addr)} (hA:SetAt s.heap a es ep t) (hpl:t.plain=true) (hent:es.toList=ps.map fun p=>(tupleKeyHash (intKind prog w) p.1,Value.ref p.2)) (hkey:∀ p∈ps,IsTupleKey (intKind prog w) s.heap p.1 p.2) (hoth:∀ p∈ps,p.2≠a) (hnd:(ps.map (·.1)).Nodup)
    (hw:SetTable.sizeAbove wanted=m+1) (hm:m=7∨m=31∨m=127∨m=511) (hf:ps.length*5<m*3) {Q:Unit->Shared->Prop}
    (h:∀ h' es' t' ps',TS prog w h' a es' (ep+1) t' ps'->ps'.Perm ps->t'.led=t.led->Heap.SameBut a s.heap h'->Q () { s with heap:=h' }):wpAny (model prog w) A (setRelay a wanted) Q E s:=by
  obtain ⟨o,ho,hex,hd⟩:=hA.at_
  have hsz:es.size=ps.length:=by rw [<- Array.length_toList,hent,List.length_map]
  have hg:QbP (m+1)=true:=QhW (t:=tM m) hm
  obtain ⟨t2,order,el,T,m1,m2,m3,m4,m5⟩:=Qgy (finger:=t.finger) (moves:=t.movedTo m) (led:=t.led) hg (by omega) (es.map (·.1)) (by rw [Array.size_map,hsz];omega)
  rw [Array.size_map] at m3 m4
  have pe:=Qgr (es:=es) m4
  have sz2:(order.filterMap (es[·]?)).size=es.size:=by rw [<- Array.length_toList,pe.length_eq,Array.length_toList]
  unfold setRelay
  refine wpAny_bind (wpAny_setState_of ho hd hA.ft ?_)
  dsimp only
  rw [if_neg (by rw [hw,sizeLine_eq];omega)]
  refine wpAny_bind ?_
  have erl:t.relaid (es.map (·.1)) wanted=some (t2,order):=by
    unfold SetTable.relaid
    rw [hw,Nat.add_sub_cancel,hpl]
    exact el
  rw [erl]
  show wpAny (model prog w) A (if ((order.filterMap (es[·]?)).size != es.size)=true then _ else _) _ E s
  rw [if_neg (by rw [sz2];simp)]
  refine wpAny_pure ?_
  dsimp only
  have fit:t2.fits (order.filterMap (es[·]?)).size=true:=by
    unfold SetTable.fits SetTable.fill
    rw [T.dm,m3,sz2,hsz,m1]
    simp
    omega
  refine wpAny_storeSet_of ho hd ?_ (by rw [sz2,hsz,sizeLine_eq];omega)
  obtain ⟨ps',pp,ep'⟩:∃ ps':List (List Int×Addr),ps'.Perm ps/\(order.filterMap (es[·]?)).toList=ps'.map fun p=>(tupleKeyHash (intKind prog w) p.1,Value.ref p.2):=by
    rw [hent] at pe
    have key:∀ {l k:List (Int×Value)},l.Perm k->∀ {T:List (List Int×Addr)},k=T.map (fun p=>(tupleKeyHash (intKind prog w) p.1,Value.ref p.2))->∃ T':List (List Int×Addr),T'.Perm T/\l=T'.map fun p=>(tupleKeyHash (intKind prog w) p.1,Value.ref p.2):=by
      intro l k p
      induction p with
      | nil=>intro T e;exact ⟨T,List.Perm.refl _,e⟩
      | @cons x l1 l2 _ ih=>
        intro T e
        cases T with
        | nil=>cases e
        | cons y T=>
          injection e with e1 e2
          obtain ⟨T',p',e'⟩:=ih e2
          exact ⟨y::T',p'.cons y,by rw [e1,e'];rfl⟩
      | swap x y l=>
        intro T e
        match T,e with
        | u::v::T,e=>
          injection e with e1 e2
          injection e2 with e2 e3
          exact ⟨v::u::T,List.Perm.swap _ _ _,by rw [e1,e2,e3];rfl⟩
      | trans _ _ ih1 ih2=>
        intro T e
        obtain ⟨T1,p1,e1⟩:=ih2 e
        obtain ⟨T2,p2,e2⟩:=ih1 e1
        exact ⟨T2,p2.trans p1,e2⟩
    exact key pe rfl
  refine h _ _ t2 ps' ⟨hA.store fit,T,ep',fun p hp=>Qfo (hkey p (pp.mem_iff.mp hp)) (hoth p (pp.mem_iff.mp hp)),(pp.map (·.1)).nodup_iff.mpr hnd,fun i j e h1 h2=>?_,by rw [m1];exact hm,by rw [m3,hsz,m1];exact hf⟩ pp m2 (Heap.SameBut.update ..)
  have hlt:i<order.size:=by
    have:order.size=es.size:=by
      have:=m4.length_eq
      rw [Array.length_toList,List.length_range] at this
      exact this
    rw [this,<- m3]
    exact (Array.getElem?_eq_some_iff.mp h1).1
  have hok:order[i]? = some order[i]:=by simp [hlt]
  have hr:=m5 i j order[i] h1 hok
  have hin:order[i]<es.size:=List.mem_range.mp (m4.mem_iff.mp (Array.mem_toList_iff.mpr (Array.getElem_mem hlt)))
  have e2:e=es[order[i]]:=by
    have key:∀ (l:List Nat),(∀ x∈l,x<es.size)->∀ i:Nat,(l.filterMap (es[·]?))[i]? = (l[i]?).bind (es[·]?):=fun l=>by
      induction l with
      | nil=>intro _ i;rfl
      | cons x l ih=>
        intro hx i
        have hx1:x<es.size:=hx x (.head _)
        have hx0:es[x]? = some es[x]:=by simp [hx1]
        rw [List.filterMap_cons,hx0]
        cases i with
        | zero=>simp [hx0]
        | succ i=>exact ih (fun y hy=>hx y (.tail _ hy)) i
    rw [<- Array.getElem?_toList,Array.toList_filterMap,key order.toList fun y hy=>List.mem_range.mp (m4.mem_iff.mp hy)] at h2
    rw [Array.getElem?_toList,hok] at h2
    simp [hin] at h2
    exact h2.symm
  have e3:(es.map (·.1)).getD order[i] 0=e.1:=by rw [e2];simp [Array.getD,hin]
  rw [e3] at hr
  exact hr
theorem addT (x:TS prog w s.heap a es ep t ps) (hu:A.units<cLine) {ks:List Int} {b:Addr} (hk:IsTupleKey (intKind prog w) s.heap ks b) (h300:ps.length<300) {Q:Bool->Shared->Prop}
    (h1:ks∈ps.map (·.1)->∀ tk,Q false { s with toks:=tk })
    (h2:ks∉ps.map (·.1)->∀ h' es' ep' t' ps' tk,TS prog w h' a es' ep' t' ps'->ps'.Perm ((ks,b)::ps)->t'.led=t.led->Heap.SameBut a s.heap h'->Q true { s with heap:=h',toks:=tk }):wpAny (model prog w) A (setAdd a (.ref b)) Q E s:=by
  obtain ⟨o,ho,hex,hd⟩:=x.at_.at_
  unfold setAdd
  refine wpAny_holding (wpAny_bind (wpAny_pyHash_tuple hu hk ?_))
  unfold setAddHashed
  refine wpAny_holding ?_
  unfold setAddHashedIn
  refine wpAny_bind (wpAny_setState_of (s:={ s with toks:=s.toks+(ks.length+1) }) ho hd x.at_.ft ?_)
  dsimp only
  rw [if_neg (by unfold byScan Value.scannable;simp)]
  have hsm:t.place.size<=t.mask:=by
    have:=x.few
    omega
  obtain ⟨j0,hj0,hj1⟩:=x.tab.room hsm
  obtain ⟨n,hn,en⟩:=Qgn t (QhW x.mks) (tupleKeyHash (intKind prog w) ks) hj0
  have x':TS prog w ({ s with toks:=s.toks+(ks.length+1) }:Shared).heap a es ep t ps:=x
  have hn2:n<100000:=by
    have:=x.mks
    unfold SetTable.turns at hn
    omega
  refine wpAny_bind (srch (s:={ s with toks:=s.toks+(ks.length+1) }) x' hu hk hn (by rw [en];exact x.tab.slot_no hj1) (fun hin=>?_) (fun hnot j hj hjm hr=>?_) 100000 0 none (Nat.zero_le _) (by omega) rfl fun m hm=>absurd hm (Nat.not_lt_zero _))
  · exact wpAny_pure (h1 hin _)
  · dsimp only
    refine wpAny_bind (wpAny_setState_of (s:={ s with toks:=s.toks+(ks.length+1) }) ho hd x.at_.ft ?_)
    dsimp only
    obtain ⟨q1,q2,q3,q4,q5,q6,q7⟩:=TS.put (s:={ s with toks:=s.toks+(ks.length+1) }) x' hk hnot hj hjm hr
    obtain ⟨T,pl,m1,m2,m3,m4⟩:=x.tab.put hj hjm
    generalize hpt:t.put j=pt at *
    obtain ⟨t1,p1⟩:=pt
    dsimp only at *
    have hsz1:(SetTable.insertAt es p1 (tupleKeyHash (intKind prog w) ks,Value.ref b)).size=ps.length+1:=by rw [<- Array.length_toList,q3,List.length_map,q5.length_eq,List.length_cons]
    have hfill:t1.fill=ps.length+1:=by unfold SetTable.fill;rw [m4,q7];rfl
    have hfew:=x.few
    have hmk:=x.mks
    have hps:=x.psize
    have hes:=x.size
    have hoth:∀ p∈ps.take p1++(ks,b)::ps.drop p1,p.2≠a:=fun p hp=>by
      rcases List.mem_cons.mp (q5.mem_iff.mp hp) with z | z
      · subst z;exact x.other hk
      · exact x.other (x.key p z)
    have hnd:((ps.take p1++(ks,b)::ps.drop p1).map (·.1)).Nodup:=(q5.map (·.1)).nodup_iff.mpr (by rw [List.map_cons];exact List.nodup_cons.mpr ⟨hnot,x.nd⟩)
    rw [if_pos q2.pl]
    refine wpAny_bind (QhU hk ?_)
    simp only [↓reduceIte,Bool.not_false,Bool.true_and]
    refine wpAny_bind (wpAny_storeSet_of (s:={ s with toks:=s.toks+(ks.length+1) }) ho hd ?_ (by rw [hsz1,sizeLine_eq];omega))
    by_cases z:t1.tooFull=true
    · rw [if_pos z]
      have z':t1.fill*5≥t1.mask*3:=of_decide_eq_true z
      rw [hfill,m1] at z'
      obtain ⟨m,hw,hm,hf⟩:∃ m,SetTable.sizeAbove (SetTable.grown (es.size+1))=m+1/\(m=7∨m=31∨m=127∨m=511)/\(ps.length+1)*5<m*3:=by
        rw [hes]
        rcases hmk with e | e | e | e
        · have:ps.length=4:=by omega
          rw [this];exact ⟨31,by decide,by decide,by decide⟩
        · have:ps.length=18:=by omega
          rw [this];exact ⟨127,by decide,by decide,by decide⟩
        · have:ps.length=76:=by omega
          rw [this];exact ⟨511,by decide,by decide,by decide⟩
        · omega
      refine wpAny_bind (relay q1 q2.pl q3 q4 hoth hnd hw hm (by rw [q5.length_eq,List.length_cons];exact hf) fun h' es' t' ps' ts pp led sb=>wpAny_pure (h2 hnot h' es' _ t' ps' _ ts (pp.trans q5) (led.trans m2) ((Heap.SameBut.update ..).trans sb)))
    · rw [if_neg z]
      have z':¬ t1.fill*5≥t1.mask*3:=fun c=>z (decide_eq_true c)
      rw [hfill] at z'
      exact wpAny_pure (h2 hnot _ _ _ _ _ _ ⟨q1,q2,q3,q4,hnd,q6,by rw [m1];exact hmk,by rw [q7];omega⟩ q5 m2 (Heap.SameBut.update ..))
end
section
variable {prog:Program} {w:World} {A:Around} {E:Value->Shared->Prop} {s:Shared}
def Qa6 (w:World):Bool := !w.params.followText "set-order"
theorem QkJ (a:Value) {Q:Value->Shared->Prop} (h:Q (.ref s.heap.objs.size) { s with heap:=s.heap.push { cls:=.type "set",dict:=none,data:=.set #[] 0 (.fresh 0 0 (Qa6 w)) } }):codeAny (model prog w) A (.call (.builtin "set.__new__") ⟨[.type "set",a],[]⟩) (wants Q E) s:=by
  refine codeAny_of_tree (by
    show wpAny _ A.in1 (do checkBuiltinCall "set.__new__" ⟨[.type "set",a],[]⟩;again (.builtin "set.__new__" ⟨[.type "set",a],[]⟩)) _ _ s
    refine wpAny_bind (wpAny_of_eq (PySem.F.newCall_set_1 a) (wpAny_pure ⟨plainId_quiet F.plain_set_new _,codeAny_builtin F.entry_set_new ?_⟩))
    rw [Around.under_plainId F.plain_set_new _];unfold Builtin.«set.__new__» Builtin.Frozenset.newClass
    have hsub:=sub_set_self;obtain ⟨hp,g,d,tk,os⟩:=s
    dsimp only;wp_walk
    refine wpAny_askSetting (wpAny_pure ?_);dsimp only
    simp only [newObj];refine wpAny_bind (wpAny_alloc (wpAny_pure ?_))
    exact wpAny_pure h)
end
section
variable {prog:Program} {w:World} {s:Shared} {a:Addr} {es:Array (Int×Value)} {ep:Nat} {t:SetTable} {ps:List (List Int×Addr)}
theorem Qf0 {h h':Heap} {ks:List Int} {b:Addr} (hk:IsTupleKey (intKind prog w) h ks b) (k:∀ o,h.get? b=some o->h'.get? b=some o):IsTupleKey (intKind prog w) h' ks b:=by
  obtain ⟨o',it,n,ho',r⟩:=hk
  exact ⟨o',it,n,k o' ho',r⟩
theorem TS.at' {h h':Heap} (x:TS prog w h a es ep t ps) (k:∀ o,h.get? a=some o->h'.get? a=some o) (k2:∀ p∈ps,∀ o,h.get? p.2=some o->h'.get? p.2=some o):TS prog w h' a es ep t ps:=
  ⟨x.at_.at' k,x.tab,x.ent,fun p hp=>Qf0 (x.key p hp) (k2 p hp),x.nd,x.rch,x.mks,x.few⟩
structure TSt (prog:Program) (w:World) (h:Heap) (a:Addr) (ys:List (List Int×Addr)) (led:Bool):Prop where
  ex:∃ es ep t ps,TS prog w h a es ep t ps/\t.led=led/\ps.length<=ys.length/\(∀ p∈ps,p∈ys)/\∀ y∈ys,y.1∈ps.map (·.1)
theorem QkD (led:Bool):Tab (SetTable.fresh 0 0 led):=⟨by simp [SetTable.fresh],by simp [SetTable.fresh],rfl,Qkf,rfl,by show 7 % 2=1;decide⟩
variable {A:Around} {R:Result->Shared->Prop} {I:Addr} {fp wr:List Addr} {n:Nat} {P:Nat->Value->Prop} {St:Nat->Heap->Prop}
theorem QgG (W:Walks prog w A.in1 I fp wr n P St) (S:Addr) (hSf:S∉fp) {led:Bool} (hu:A.in1.units<cLine) (f:Nat->List Int×Addr) (hval:∀ i v,P i v->v=.ref (f i).2) (hwr:∀ i,i<n->(f i).2∉wr) (h300:n<=300) :
    ∀ (k i:Nat) (s:Shared),n - i=k->i<=n->St i s.heap->(∀ j,j<n->IsTupleKey (intKind prog w) s.heap (f j).1 (f j).2)->TSt prog w s.heap S ((List.range i).map f) led ->
      (∀ h' tk,(∀ b o,b∉S::wr->s.heap.get? b=some o->h'.get? b=some o)->TSt prog w h' S ((List.range n).map f) led->R (.ok (.ret .none)) { s with heap:=h',toks:=tk }) ->
      codeAny (model prog w) A (.builtin "set.update.loop" ⟨[.ref S,.ref I],[]⟩) R s:=by
  have hSw:S∉wr:=fun z=>hSf (W.sub _ z)
  have adr:∀ {i:Nat},i<=n->∀ p∈(List.range i).map f,p.2∉wr:=fun {i} hi p hp=>by
    obtain ⟨j,hj,rfl⟩:=List.mem_map.mp hp
    exact hwr j (by have:=List.mem_range.mp hj;omega)
  intro k
  induction k with
  | zero=>
    intro i s hk hi hst hK hS hR
    obtain rfl:i=n:=by omega
    refine codeAny_builtin PyProof.Rows.F.entry_set_update_loop ?_
    rw [Around.under_plainId PyProof.Rows.F.plain_set_update_loop _]
    show wpAny _ A.in1 (pyNext (.ref I) >>= _) _ _ s
    refine wpAny_bind (W.done s _ _ hst fun h' tk hk'=>wpAny_pure (hR h' tk (fun b o hb e=>hk' b o (fun z=>hb (List.mem_cons_of_mem _ z)) e) ?_))
    obtain ⟨es,ep,t,ps,x,hl,hn,hsub,hall⟩:=hS.ex
    exact ⟨es,ep,t,ps,x.at' (fun o e=>hk' S o hSw e) (fun p hp o e=>hk' _ o (adr (Nat.le_refl _) p (hsub p hp)) e),hl,hn,hsub,hall⟩
  | succ k ih=>
    intro i s hk hi hst hK hS hR
    have hlt:i<n:=by omega
    refine codeAny_builtin PyProof.Rows.F.entry_set_update_loop ?_
    rw [Around.under_plainId PyProof.Rows.F.plain_set_update_loop _]
    show wpAny _ A.in1 (pyNext (.ref I) >>= _) _ _ s
    refine wpAny_bind (W.item i s _ _ hlt hst fun v h' tk hP hst' hk'=>?_)
    obtain rfl:=hval i v hP
    obtain ⟨es,ep,t,ps,x,hl,hn,hsub,hall⟩:=hS.ex
    have x':TS prog w h' S es ep t ps:=x.at' (fun o e=>hk' S o hSw e) (fun p hp o e=>hk' _ o (adr hi p (hsub p hp)) e)
    have hK':∀ j,j<n->IsTupleKey (intKind prog w) h' (f j).1 (f j).2:=fun j hj=>Qf0 (hK j hj) fun o e=>hk' _ o (hwr j hj) e
    rw [List.length_map,List.length_range] at hn
    have er:(List.range (i+1)).map f=(List.range i).map f++[f i]:=by rw [List.range_succ,List.map_append];rfl
    show wpAny _ A.in1 (holding [_] (setAdd S _) >>= _) _ _ _
    refine wpAny_bind (wpAny_holding (addT (s:={ s with heap:=h',toks:=tk }) x' hu (hK' i hlt) (by omega) (fun hin tk'=>?_) fun hnot h2 es2 ep2 t2 ps2 tk' x2 pp hl2 sb=>?_))
    · refine wpAny_pure ⟨plainId_quiet PyProof.Rows.F.plain_set_update_loop _,ih (i+1) _ (by omega) hlt hst' hK' ⟨es,ep,t,ps,x',hl,by rw [List.length_map,List.length_range];omega,fun p hp=>?_,fun y hy=>?_⟩ fun h3 tk3 hk3 hS3=>hR h3 tk3 (fun b o hb e=>?_) hS3⟩
      · rw [er];exact List.mem_append_left _ (hsub p hp)
      · rw [er] at hy
        rcases List.mem_append.mp hy with z | z
        · exact hall y z
        · rw [List.mem_singleton.mp z];exact hin
      · exact hk3 b o hb (hk' b o (fun z=>hb (List.mem_cons_of_mem _ z)) e)
    · have oth:∀ b o,b≠S->h'.get? b=some o->h2.get? b=some o:=fun b o hb e=>by
        rw [sb.2 b hb];exact e
      refine wpAny_pure ⟨plainId_quiet PyProof.Rows.F.plain_set_update_loop _,ih (i+1) _ (by omega) hlt (W.frame _ h' _ hst' fun b hb o e=>oth b o (fun z:b=S=>hSf (by rw [<- z];exact hb)) e) (fun j hj=>Qf0 (hK' j hj) fun o e=>oth _ o (x'.other (s:={ s with heap:=h' }) (hK' j hj)) e) ⟨es2,ep2,t2,ps2,x2,hl2.trans hl,by rw [pp.length_eq,List.length_cons,List.length_map,List.length_range];omega,fun p hp=>?_,fun y hy=>?_⟩ fun h3 tk3 hk3 hS3=>hR h3 tk3 (fun b o hb e=>?_) hS3⟩
      · rw [er]
        rcases List.mem_cons.mp (pp.mem_iff.mp hp) with z | z
        · rw [z];exact List.mem_append_right _ (.head _)
        · exact List.mem_append_left _ (hsub p z)
      · have pm:=pp.map (·.1)
        rw [er] at hy
        rcases List.mem_append.mp hy with z | z
        · exact pm.mem_iff.mpr (.tail _ (hall y z))
        · rw [List.mem_singleton.mp z];exact pm.mem_iff.mpr (.head _)
      · exact hk3 b o hb (oth b o (fun z:b=S=>hb (by rw [z];exact List.mem_cons_self)) (hk' b o (fun z=>hb (List.mem_cons_of_mem _ z)) e))
end
section
variable {prog:Program} {w:World} {A:Around} {E:Value->Shared->Prop} {s:Shared}
end
theorem QgT:Slot "set_iterator" "__iter__" "set_iterator.__iter__" :=
  .of (owner := "set_iterator") (n := "__iter__") (by rw [typeLookup_type,builtinLookup_eq_fast];kernel_rfl) (by decide +kernel) (by decide +kernel) (by decide +kernel) (by first | exact .inl (by decide +kernel) | exact .inr (by decide +kernel)) (by rw [isSubtype_type];kernel_rfl)
theorem en_si:entryFor table "set_iterator.__iter__" = some Builtin.«dict_keyiterator.__iter__» := entryFor_alias (id' := "dict_keyiterator.__iter__") (by kernel_rfl) (by first | rfl | decide +kernel | (unfold String.splitOn;simp +decide [String.splitOnAux])) (by decide +kernel) (by kernel_rfl)
theorem ar_si (a:Value):argsOk "set_iterator.__iter__" ⟨[a],[]⟩:=by
  unfold argsOk;rw [signature?_of (id := "set_iterator.__iter__") (n:=['_', '_', 'r', 'e', 't', 'i', '_', '_']) (o:=['r', 'o', 't', 'a', 'r', 'e', 't', 'i', '_', 't', 'e', 's']) (by kernel_rfl) ow_si];kernel_rfl
theorem QlG:typeLookup (.type "set") "__len__" = pure (some (.builtin "set.__len__")):=by rw [typeLookup_type,builtinLookup_eq_fast];kernel_rfl
section
variable {prog:Program} {w:World} {A:Around} {E:Value->Shared->Prop} {s:Shared}
theorem QkI {I a:Addr} {first:Value} {i n ep:Nat} {Q:Value->Shared->Prop} (hit:IsSI s.heap I first i a n ep) (h:Q (.ref I) s):wpAny (model prog w) A (pyIter (.ref I)) Q E s:=by
  refine wpAny_pyIter_slot hit.typeIs QgT (wpAny_call_entry QgT hit.typeIs en_si ?_ (ar_si _))
  show wpAny _ _ (ret (.ref I)) _ _ s
  exact wpAny_pure ⟨_,rfl, "set_iterator",_,hit.typeIs,Qcj.lookup,h⟩
theorem Qfs {a:Addr} {es vs:Array (Int×Value)} {ep:Nat} {t:SetTable} {so:Nat->Nat} {Q:List Value->Shared->Prop} (hh:A.handled=none) (W:Way prog w a es ep t so vs) (ha:SetAt s.heap a es ep t) (hp:t.plain=true) (hn:es.size<=sizeLine)
    (hQ:∀ (h':Heap) (tk:Nat),(∀ b o,s.heap.get? b=some o->h'.get? b=some o)->Q (vs.toList.map (·.2)) { s with heap:=h',toks:=tk }):wpAny (model prog w) A (collect (.ref a)) Q E s:=by
  have hlt:a<s.heap.objs.size:=let ⟨o,ho,_⟩:=ha.at_;Heap.lt_size ho
  unfold collect
  refine wpAny_bind (wpAny_runValue (codeAny_builtin F.entry_proto_collect ?_))
  rw [Around.under_plainId F.plain_proto_collect _]
  show wpAny _ A.in1 (newList [] >>= fun l=>again (.builtin "list.__iadd__" ⟨[l,.ref a],[]⟩)) _ _ s
  refine wpAny_bind (wpAny_newObj_type (wpAny_pure ⟨plainId_quiet F.plain_list_iadd _,codeAny_builtin F.entry_list_iadd ?_⟩))
  rw [Around.under_plainId F.plain_list_iadd _]
  generalize hH:s.heap.push { cls:=.type "list",data:=.seq ([]:List Value).toArray }=H
  have hHs:H.objs.size=s.heap.objs.size+1:=by rw [<- hH,Heap.size_push]
  have keep:∀ b o,s.heap.get? b=some o->H.get? b=some o:=fun b o e=>hH ▸ Heap.get?_push_of_some _ e
  have hS:H.get? s.heap.objs.size=some { cls:=.type "list",data:=.seq ([]:List Value).toArray }:=hH ▸ Heap.get?_push_size _ rfl
  have ha1:SetAt H a es ep t:=ha.at' fun o e=>keep a o e
  have hT:Shared.TypeIs { s with heap:=H } (.ref a) "set" := let ⟨o,ho,hx,_⟩:=ha1.at_;⟨o,ho,hx.1⟩
  show wpAny _ A.in1 (Builtin.List.listExtendWith (.ref s.heap.objs.size) (.ref a) (.ref s.heap.objs.size)) _ _ { s with heap:=H }
  unfold Builtin.List.listExtendWith
  refine wpAny_bind (wpAny_typeOf hT ?_)
  have h1:Builtin.List.listSameRef (.ref s.heap.objs.size) (.ref a)=false:=by simp [Builtin.List.listSameRef,Nat.ne_of_gt hlt]
  have h2:(Value.type "set" == Value.type "list")=false:=by decide
  have h3:(Value.type "set" == Value.type "tuple")=false:=by decide
  simp only [h1,h2,h3,Bool.or_false,Bool.false_eq_true,if_false]
  refine wpAny_bind (it_led ha1 hp ?_)
  generalize hH2:Heap.push H { cls:=.type "set_iterator",data:=.fields #[.int 0 0,.int 0 0,.ref a,.int es.size 0,.int ep 0] }=H2
  have keep2:∀ b o,H.get? b=some o->H2.get? b=some o:=fun b o e=>hH2 ▸ Heap.get?_push_of_some _ e
  have hT2:Shared.TypeIs { s with heap:=H2 } (.ref a) "set" := let ⟨o,ho,hc⟩:=hT;⟨o,keep2 a o ho,hc⟩
  have hI:IsSI H2 H.objs.size (.int (so 0) 0) 0 a es.size ep:=⟨_,hH2 ▸ Heap.get?_push_size _ rfl,rfl,by rw [W.s0];rfl⟩
  refine wpAny_bind (wpAny_holding ?_)
  show wpAny _ A.in1 _ _ _ { s with heap:=H2 }
  unfold Builtin.List.listLengthHint
  refine wpAny_bind (wpAny_specialOf hT2 QlG ?_)
  wp_delta
  refine wpAny_bind (wpAny_isInstance (b:=true) hT2 (by rw [isSubtype_type];kernel_rfl) ?_)
  show wpAny _ A.in1 (typeOf (Value.ref a) >>= _) _ _ _
  refine wpAny_bind (wpAny_typeOf hT2 (wpAny_pure ?_))
  show wpAny _ A.in1 (rule "list.extend.makes-room" >>= fun _=>Builtin.List.listTouch (.ref s.heap.objs.size) >>= fun _=>again (.builtin "list.extend.loop" ⟨[.ref s.heap.objs.size,.ref H.objs.size,.ref s.heap.objs.size],[]⟩)) _ _ _
  refine wpAny_bind (wpAny_rule (wpAny_bind ?_))
  show wpAny _ A.in1 (updateSeq s.heap.objs.size (·.push .none) >>= fun _=>updateSeq s.heap.objs.size (·.pop)) _ _ _
  have hS1:=keep2 _ _ hS
  refine wpAny_bind (wpAny_updateSeq hS1 rfl ?_)
  have hS2:=Heap.get?_update_self (Obj.mapSeq (·.push Value.none)) hS1 rfl
  refine wpAny_updateSeq hS2 rfl ?_
  have hS3:=Heap.get?_update_self (Obj.mapSeq (·.pop)) hS2 rfl
  generalize hH3:(H2.update s.heap.objs.size (Obj.mapSeq (·.push Value.none))).update s.heap.objs.size (Obj.mapSeq (·.pop))=H3 at hS3 ⊢
  have oth:∀ b o,b≠s.heap.objs.size->H2.get? b=some o->H3.get? b=some o:=fun b o hb e=>hH3 ▸ (Heap.get?_update_other _ _ (Ne.symm hb)).trans ((Heap.get?_update_other _ _ (Ne.symm hb)).trans e)
  have hIS:H.objs.size≠s.heap.objs.size:=by omega
  have hne:a≠H.objs.size:=by rw [hHs];exact Nat.ne_of_lt (Nat.lt_succ_of_lt hlt)
  have hSf:s.heap.objs.size∉[H.objs.size,a]:=by simp only [List.mem_cons,List.not_mem_nil,or_false,not_or];exact ⟨by omega,Nat.ne_of_gt hlt⟩
  have WW:=(Way.walks (A:=A.in1) hh W H.objs.size hne fun s Q E i st q=>QkI st q).toS
  refine wpAny_pure ⟨plainId_quiet F.plain_extend_loop _,codeAny_extend_loopS WW hn _ hSf _ es.size 0 { s with heap:=H3 } _ _ rfl (Nat.zero_le _) ⟨hI.at' fun o e=>oth _ o hIS e,ha1.at' fun o e=>oth a o (Nat.ne_of_lt hlt) (keep2 a o e)⟩ hS3 (ItemsOf.nil _) fun s' acc' c' hm hS' hacc=>?_⟩
  show wpAny _ A (load s.heap.objs.size >>= _) _ _ s'
  refine wpAny_bind (wpAny_load hS' (wpAny_pure ?_))
  have hl:vs.size=es.size:=by rw [<- Array.length_toList,W.pm.length_eq,Array.length_toList]
  have he:acc'.toList=vs.toList.map (·.2):=by
    apply List.ext_getElem?
    intro j
    rw [List.getElem?_map,Array.getElem?_toList,Array.getElem?_toList]
    by_cases z:j<acc'.size
    · have:=hacc.2 j acc'[j] (by simp [z])
      rw [this];simp [z]
    · rw [Array.getElem?_eq_none (by omega),Array.getElem?_eq_none (by have:=hacc.1;omega)];rfl
  show Q acc'.toList s'
  rw [he]
  have es':s'={ s with heap:=s'.heap,toks:=s'.toks }:=by
    obtain ⟨hp',g',d',tk',os'⟩:=s'
    have e1:=hm.gens;have e2:=hm.drawn;have e3:=hm.os
    simp only at e1 e2 e3
    rw [e1,e2,e3]
  rw [es']
  refine hQ _ _ fun b o e=>?_
  have hb:=Heap.lt_size e
  refine hm.heap b o ?_ (oth b o (Nat.ne_of_lt hb) (keep2 b o (keep b o e)))
  simp only [List.mem_cons,List.not_mem_nil,or_false,not_or];exact ⟨Nat.ne_of_lt hb,by rw [hHs];exact Nat.ne_of_lt (Nat.lt_succ_of_lt hb)⟩
end
end Zt
namespace L2
open PySem PySem.Spec PyProof.Rows
def blk (X:Cx) (M:List Str) (scope:Scope) (cl:List (Str×Addr)) (ex:List Addr) (s3:Shared) (H3:Hp) (C:Addr):Cx where
  prog:=X.prog
  w:=X.w
  K:=X.K
  mg:=X.mg
  base:=X.base
  A:=X.A
  N:=M
  s₀:=s3
  H₀:=H3
  env:=compEnvC scope cl C X.env
  outer:=X.stack
  stack:=X.stack
  ex:=ex
  fn:=fun _=>false
  calm:=X.calm
  pn:=[]
  xe:=fun _ _=>False
def clOf (env:Env):List (Str×NameKind)->List (Str×Addr)->List (Str×Addr)
  | [],acc=>acc
  | (n,k)::r,acc=>clOf env r (if k=.free then (n,(env.cells.lookup n).getD 0)::acc else acc)
theorem Qft {env:Env}:∀ (l:List (Str×NameKind)) (acc:List (Str×Addr)),(∀ x∈l,x.2=.free->∃ c,env.cells.lookup x.1=some c) ->
    (forIn (m:=Sem) l acc fun x cs=>(if (x.2 == NameKind.free)=true then do let a <- cellOf env x.1;pure (ForInStep.yield ((x.1,a)::cs)) else pure (ForInStep.yield cs)))=pure (clOf env l acc)
  | [],acc,_=>rfl
  | (n,k)::r,acc,h=>by
    rw [List.forIn_cons]
    by_cases hk:k=.free
    · subst hk
      obtain ⟨c,hc⟩:=h (n,.free) List.mem_cons_self rfl
      have e1:cellOf env n=pure c:=by unfold cellOf;rw [hc]
      have e2:clOf env ((n,.free)::r) acc=clOf env r ((n,c)::acc):=by
        show clOf env r (if NameKind.free=.free then (n,(env.cells.lookup n).getD 0)::acc else acc)=_
        rw [if_pos rfl,hc];rfl
      rw [e2]
      show ((if (NameKind.free == NameKind.free)=true then do let a <- cellOf env n;pure (ForInStep.yield ((n,a)::acc)) else pure (ForInStep.yield acc)) >>= _)=_
      rw [if_pos (show (NameKind.free == NameKind.free)=true by decide),e1]
      exact Qft r _ fun x hx=>h x (List.mem_cons_of_mem _ hx)
    · have hb:(k == NameKind.free)=false:=by simpa using hk
      have e2:clOf env ((n,k)::r) acc=clOf env r acc:=by
        show clOf env r (if k=.free then (n,(env.cells.lookup n).getD 0)::acc else acc)=_
        rw [if_neg hk]
      rw [e2]
      show ((if (k == NameKind.free)=true then _ else pure (ForInStep.yield acc)) >>= _)=_
      rw [hb,if_neg Bool.false_ne_true]
      exact Qft r _ fun x hx=>h x (List.mem_cons_of_mem _ hx)
theorem Qfu {scope:Scope} {env:Env} (h:∀ x∈scope.names,x.2=.free->∃ c,env.cells.lookup x.1=some c):closureFor scope env=pure (clOf env scope.names []):=by
  have e:=Qft (env:=env) scope.names [] h
  unfold closureFor
  show (forIn scope.names [] _ >>= _)=_
  have e':(forIn (m:=Sem) scope.names ([]:List (Str×Addr)) fun x cs=>match x with | (name,kind)=>(if (kind == NameKind.free)=true then do let a <- cellOf env name;pure (ForInStep.yield ((name,a)::cs)) else pure (ForInStep.yield cs)))=pure (clOf env scope.names []):=e
  first
    | (rw [e'];rfl)
    | (refine Eq.trans (congrArg (fun t=>t >>= _) e') ?_;rfl)
theorem Qfv {env:Env}:∀ (l:List (Str×NameKind)) (acc:List (Str×Addr)),(∀ x∈l,x.2=.free->∃ c,env.cells.lookup x.1=some c)->(∀ x c,acc.lookup x=some c->env.cells.lookup x=some c) ->
    (∀ x c,(clOf env l acc).lookup x=some c->env.cells.lookup x=some c)/\(∀ x c,acc.lookup x=some c->(clOf env l acc).lookup x=some c)/\∀ x,(x,NameKind.free)∈l->∃ c,(clOf env l acc).lookup x=some c
  | [],acc,_,ha=>⟨ha,fun _ _ h=>h,fun _ h=>nomatch h⟩
  | (n,k)::r,acc,h,ha=>by
    have hr:∀ x∈r,x.2=.free->∃ c,env.cells.lookup x.1=some c:=fun x hx=>h x (List.mem_cons_of_mem _ hx)
    by_cases hk:k=.free
    · subst hk
      obtain ⟨c,hc⟩:=h (n,.free) List.mem_cons_self rfl
      have e2:clOf env ((n,.free)::r) acc=clOf env r ((n,c)::acc):=by
        show clOf env r (if NameKind.free=.free then (n,(env.cells.lookup n).getD 0)::acc else acc)=_
        rw [if_pos rfl,hc];rfl
      rw [e2]
      have ha':∀ x c',((n,c)::acc).lookup x=some c'->env.cells.lookup x=some c':=fun x c' q=>by
        rw [List.lookup_cons] at q
        cases hx:x == n with
        | true=>
          rw [hx] at q
          have z:c=c':=Option.some.inj q
          have y:x=n:=by simpa using hx
          rw [y,<- z];exact hc
        | false=>rw [hx] at q;exact ha x c' q
      obtain ⟨i1,i2,i3⟩:=Qfv r ((n,c)::acc) hr ha'
      refine ⟨i1,fun x c' q=>?_,fun x hx=>?_⟩
      · refine i2 x c' ?_
        rw [List.lookup_cons]
        cases hx:x == n with
        | true=>
          have y:x=n:=by simpa using hx
          have:=ha x c' q
          rw [y,hc] at this
          exact this
        | false=>exact q
      · rcases List.mem_cons.mp hx with z | z
        · cases z
          exact ⟨c,i2 n c (by rw [List.lookup_cons,beq_self_eq_true])⟩
        · exact i3 x z
    · have e2:clOf env ((n,k)::r) acc=clOf env r acc:=by
        show clOf env r (if k=.free then (n,(env.cells.lookup n).getD 0)::acc else acc)=_
        rw [if_neg hk]
      rw [e2]
      obtain ⟨i1,i2,i3⟩:=Qfv r acc hr ha
      refine ⟨i1,i2,fun x hx=>?_⟩
      rcases List.mem_cons.mp hx with z | z
      · cases z;exact absurd rfl hk
      · exact i3 x z
theorem QbK {l:List (Str×NameKind)} {x:Str} {k:NameKind} (h:l.lookup x=some k):(x,k)∈l:=by
  induction l with
  | nil=>cases h
  | cons p r ih=>
    obtain ⟨n,q⟩:=p
    rw [List.lookup_cons] at h
    cases hx:x == n with
    | true=>
      rw [hx] at h
      have y:x=n:=by simpa using hx
      have z:q=k:=Option.some.inj h
      subst y z;exact List.mem_cons_self
    | false=>rw [hx] at h;exact List.mem_cons_of_mem _ (ih h)
theorem Qbb {env:Env}:∀ {names:List (Str×NameKind)} {x:Str} {k:NameKind},(names.map fun (n,k)=>if (k == NameKind.free&&env.scope.kind == .function&&env.kindOf n == some .cell) then (n,NameKind.cell) else (n,k)).lookup x=some k ->
    names.lookup x=some k∨(k=.cell/\names.lookup x=some .free)
  | [],x,k,h=>by cases h
  | (n,q)::r,x,k,h=>by
    have ih:=@Qbb env r x k
    rw [List.map_cons] at h
    have h':List.lookup x ((if (q == NameKind.free&&env.scope.kind == .function&&env.kindOf n == some .cell)=true then (n,NameKind.cell) else (n,q))::_)=some k:=h
    cases hx:x == n with
    | true=>
      by_cases hc:(q == NameKind.free&&env.scope.kind == .function&&env.kindOf n == some .cell)=true
      · rw [if_pos hc,List.lookup_cons,hx] at h'
        have z:NameKind.cell=k:=Option.some.inj h'
        have y:q=.free:=by simp at hc;exact hc.1.1
        refine .inr ⟨z.symm,?_⟩
        rw [List.lookup_cons,hx,y]
      · rw [if_neg hc,List.lookup_cons,hx] at h'
        refine .inl ?_
        rw [List.lookup_cons,hx];exact h'
    | false=>
      have h2:List.lookup x (r.map fun (n,k)=>if (k == NameKind.free&&env.scope.kind == .function&&env.kindOf n == some .cell) then (n,NameKind.cell) else (n,k))=some k:=by
        by_cases hc:(q == NameKind.free&&env.scope.kind == .function&&env.kindOf n == some .cell)=true
        · rw [if_pos hc,List.lookup_cons,hx] at h';exact h'
        · rw [if_neg hc,List.lookup_cons,hx] at h';exact h'
      rw [List.lookup_cons,hx]
      exact ih h2
theorem Qcw {env:Env}:∀ {names:List (Str×NameKind)} {x:Str},names.lookup x=some .free->(names.map fun (n,k)=>if (k == NameKind.free&&env.scope.kind == .function&&env.kindOf n == some .cell) then (n,NameKind.cell) else (n,k)).lookup x=some .cell ∨
      (names.map fun (n,k)=>if (k == NameKind.free&&env.scope.kind == .function&&env.kindOf n == some .cell) then (n,NameKind.cell) else (n,k)).lookup x=some .free
  | [],x,h=>by cases h
  | (n,q)::r,x,h=>by
    have ih:=@Qcw env r x
    rw [List.map_cons]
    show List.lookup x ((if (q == NameKind.free&&env.scope.kind == .function&&env.kindOf n == some .cell)=true then (n,NameKind.cell) else (n,q))::_)=some .cell∨List.lookup x ((if (q == NameKind.free&&env.scope.kind == .function&&env.kindOf n == some .cell)=true then (n,NameKind.cell) else (n,q))::_)=some .free
    cases hx:x == n with
    | true=>
      rw [List.lookup_cons,hx] at h
      have z:q=NameKind.free:=Option.some.inj h
      subst z
      by_cases hc:(NameKind.free == NameKind.free&&env.scope.kind == .function&&env.kindOf n == some .cell)=true
      · rw [if_pos hc,List.lookup_cons,hx];exact .inl rfl
      · rw [if_neg hc,List.lookup_cons,hx];exact .inr rfl
    | false=>
      rw [List.lookup_cons,hx] at h
      by_cases hc:(q == NameKind.free&&env.scope.kind == .function&&env.kindOf n == some .cell)=true
      · rw [if_pos hc,List.lookup_cons,hx];exact ih h
      · rw [if_neg hc,List.lookup_cons,hx];exact ih h
def QeN (N:List Str) (sc:Scope) (M:List Str) (scope:Scope) (cap:List (Option Nat)):Bool:=
  cap.length == M.length&&(M.zip cap).all (fun (x,o)=>match o with
    | none=>scope.names.lookup x == some .local
    | some j=>N[j]? == some x&&(scope.names.lookup x == some .free&&(sc.names.lookup x == some .cell||sc.names.lookup x == some .free))) &&
  (scope.kind == .function&&scope.names.all fun y=>y.2 != .cell&&((y.2 != .free||(sc.names.lookup y.1 == some .cell||sc.names.lookup y.1 == some .free))&&(y.2 != .local||scope.names.lookup y.1 == some .local)))
def capS (cap:List (Option Nat)) (σ:St):St:=cap.map fun o=>match o with
  | none=>none
  | some j=>(σ[j]?).getD none
structure CapOk (N:List Str) (sc:Scope) (M:List Str) (scope:Scope) (cap:List (Option Nat)):Prop where
  len:cap.length=M.length
  own:∀ (i j:Nat) (x:Str),M[i]? = some x->cap[i]? = some (some j)->N[j]? = some x/\scope.names.lookup x=some .free/\(sc.names.lookup x=some .cell∨sc.names.lookup x=some .free)
  kind:scope.kind=.function
  cell:∀ y∈scope.names,y.2≠.cell
  free:∀ y∈scope.names,y.2=.free->sc.names.lookup y.1=some .cell∨sc.names.lookup y.1=some .free
  loc:∀ y∈scope.names,y.2=.local->scope.names.lookup y.1=some .local
theorem CapOk.of {N:List Str} {sc:Scope} {M:List Str} {scope:Scope} {cap:List (Option Nat)} (h:QeN N sc M scope cap=true):CapOk N sc M scope cap:=by
  unfold QeN at h
  simp only [Bool.and_eq_true,List.all_eq_true,beq_iff_eq] at h
  obtain ⟨⟨h1,h2⟩,h3,h4⟩:=h
  refine ⟨h1,fun i j x e1 e2=>?_,h3,fun y hy z=>?_,fun y hy z=>?_,fun y hy z=>?_⟩
  · have hm:(x,some j)∈M.zip cap:=by
      have:(M.zip cap)[i]? = some (x,some j):=by rw [List.getElem?_zip_eq_some];exact ⟨e1,e2⟩
      exact List.mem_of_getElem? this
    have:=h2 _ hm
    simp only [Bool.and_eq_true,beq_iff_eq,Bool.or_eq_true] at this
    exact this
  · have:=(h4 y hy).1
    simp [z] at this
  · have:=(h4 y hy).2.1
    simpa [z] using this
  · have:=(h4 y hy).2.2
    simpa [z] using this
section
variable {X:Cx} {pins:List (Addr×Obj)} {σ:St} {H H3:Hp} {s3:Shared} {M:List Str} {scope:Scope} {cap:List (Option Nat)} {fp:List Addr} {h4:Heap} {t4:Nat}
theorem Cx.Ok.cells (ok:X.Ok) {N:List Str} (c:CapOk N X.env.scope M scope cap):∀ y∈scope.names,y.2=.free->∃ d,X.env.cells.lookup y.1=some d:=fun y hy z=>ok.has y.1 (c.free y hy z)
theorem Qdc (I:Inv X pins σ H3 s3) (c:CapOk X.N X.env.scope M scope cap) (hf:∀ b∈fp,FpOk X pins H3 b) (hb:∀ b∈fp,b<s3.heap.objs.size)
    (hn:h4.Ns s3.heap.objs.size fun _=>none) (hk:∀ b o,s3.heap.get? b=some o->h4.get? b=some o) :
    Inv (blk X M scope (clOf X.env scope.names []) fp s3 H3 s3.heap.objs.size) [] (capS cap σ) H3 { s3 with heap:=h4,toks:=t4 }:=by
  obtain ⟨c1,c2,c3⟩:=Qfv scope.names [] (I.ok.cells c) (fun x d q=>by cases q)
  refine ⟨⟨I.ok.mod,c.kind,I.ok.glob,I.ok.blt,Nat.le_refl _,fun x y d e1 e2=>I.ok.inj x y d (c1 x d e1) (c1 y d e2),fun x hx=>?_,(fun x d z=>nomatch z),I.ok.hd,I.ok.frames,.inl rfl,fun b hb'=>?_,I.bs,
    Nat.le_trans I.ok.bsz I.sz,fun b o e z=>?_,fun b hb' z=>?_,I.stack,I.stkFree⟩,rfl,I.bare,Un.kept hk,⟨_,hn,fun i x v e1 e2 e3=>?_⟩,fun x d e=>?_,I.hok.fresh (Nat.le_refl _),fun x d e=>I.freeC x d (c1 x d e),fun p hp=>(nomatch hp),I.hok.kept hk,?_⟩
  · have hx':(relabel scope X.env).names.lookup x=some .cell∨(relabel scope X.env).names.lookup x=some .free:=hx
    rcases hx' with q | q
    · rcases Qbb q with z | ⟨_,z⟩
      · exact absurd rfl (c.cell _ (QbK z))
      · exact c3 x (QbK z)
    · rcases Qbb q with z | ⟨z,_⟩
      · exact c3 x (QbK z)
      · cases z
  · obtain ⟨f0,f1,f2,f3,f4,f5⟩:=hf b hb'
    exact ⟨Nat.ne_of_lt (hb b hb'),fun x d e=>f4 x d (c1 x d e)⟩
  · obtain ⟨f0,f1,f2,f3,f4,f5⟩:=hf b z
    rcases f3 with q | q
    · exact I.ok.noex b o e q
    · exact absurd (Nat.lt_of_lt_of_le (Heap.lt_size e) (Nat.le_trans I.ok.bsz q)) (Nat.lt_irrefl _)
  · obtain ⟨f0,f1,f2,f3,f4,f5⟩:=hf b hb'
    rcases List.mem_cons.mp (I.stkSub b z) with q | q
    · exact f1 q
    · exact f2 q
  · have e2':(cap.map fun o=>match o with | none=>none | some j=>(σ[j]?).getD none)[i]? = some (some v):=e2
    rw [List.getElem?_map] at e2'
    cases q:cap[i]? with
    | none=>rw [q] at e2';cases e2'
    | some o=>
      rw [q] at e2'
      cases o with
      | none=>cases e2'
      | some j=>
        have e4:(σ[j]?).getD none=some v:=Option.some.inj e2'
        have e5:σ[j]? = some (some v):=by
          cases r:σ[j]? with
          | none=>rw [r] at e4;cases e4
          | some o=>rw [r] at e4;exact congrArg some e4
        obtain ⟨n1,n2,n3⟩:=c.own i j x e1 q
        obtain ⟨m,hm,hl⟩:=I.loc
        obtain ⟨u,ru,lk⟩:=hl j x v n1 e5 (n3.elim (fun z=>.inr (.inl z)) fun z=>.inr (.inr z))
        refine ⟨u,ru,.inr ?_⟩
        rcases lk with ⟨k1,_⟩ | ⟨_,d,k2,k3⟩
        · have k1':X.env.scope.names.lookup x=some .local:=k1
          rcases n3 with z | z<;>(rw [z] at k1';cases k1')
        · obtain ⟨d',hd'⟩:=c3 x (QbK n2)
          have ed:d'=d:=by
            have:=c1 x d' hd'
            rw [k2] at this
            exact (Option.some.inj this).symm
          subst ed
          exact ⟨(Qcw n2:(relabel scope X.env).names.lookup x=some .cell∨(relabel scope X.env).names.lookup x=some .free),d',hd',k3.keeps hk⟩
  · obtain ⟨v,q⟩:=I.cell x d (c1 x d e)
    exact ⟨v,q.keeps hk⟩
  · show (cap.map _).length=M.length
    rw [List.length_map];exact c.len
theorem Qir {σ':St} {s':Shared} {h':Heap} (I:Inv X pins σ H3 s3) (hf:∀ b∈fp,FpOk X pins H3 b) (J:Inv (blk X M scope (clOf X.env scope.names []) fp s3 H3 s3.heap.objs.size) [] σ' H s') (hs:Heap.SameBut s3.heap.objs.size s'.heap h') :
    Inv X pins σ H { s' with heap:=h' }:=by
  have u:Un (frs X.stack) fp H3 H s3.heap s'.heap:=J.base
  have ne:∀ b o,s3.heap.get? b=some o->b≠s3.heap.objs.size:=fun b o e=>Nat.ne_of_lt (Heap.lt_size e)
  have hC:H s3.heap.objs.size=none:=J.free
  refine I.call' (ch:=fp) (s':={ s' with heap:=h' }) J.os ⟨fun b o e n hb hx=>(hs.2 b (ne b o e)).trans (u.keep b o e n hb hx),fun b o e n hb hx=>?_,u.free,fun b o e hx=>?_,u.tups,u.frzs,u.tbls⟩ (fun b o e=>?_) J.bare fun b hb=>?_
  · obtain ⟨sl,q⟩:=u.slot b o e n hb hx
    exact ⟨sl,(hs.2 b (ne b o e)).trans q⟩
  · obtain ⟨o',q⟩:=u.there b o e hx
    exact ⟨o',(hs.2 b (ne b o e)).trans q⟩
  · refine (J.hok b o e).stay (fun c v hc q=>(hs.2 c ?_).trans q) (fun _ q=>q) fun _ _ q=>q
    rintro rfl
    rcases hc with z | z
    · rw [<- z,hC] at e;cases e
    · rw [hC] at z;cases z
  · obtain ⟨f0,f1,f2,f3,f4,f5⟩:=hf b hb
    exact ⟨f3,f1,f4,f5⟩
end
def Wk:St->St->Prop
  | [],[]=>True
  | none::a,_::b=>Wk a b
  | some v::a,some u::b=>v=u/\Wk a b
  | _,_=>False
theorem Wk.len:∀ {a b:St},Wk a b->a.length=b.length
  | [],[],_=>rfl
  | none::a,_::b,h=>congrArg (·+1) (Wk.len (a:=a) (b:=b) h)
  | some v::a,some u::b,h=>congrArg (·+1) (Wk.len (a:=a) (b:=b) h.2)
  | [],_::_,h=>h.elim
  | some _::_,[],h=>h.elim
  | none::_,[],h=>h.elim
  | some _::_,none::_,h=>h.elim
theorem Wk.get:∀ {a b:St},Wk a b->∀ (i:Nat) v,a[i]? = some (some v)->b[i]? = some (some v)
  | [],[],_,i,v,h=>by simp at h
  | none::a,x::b,h,0,v,e=>by simp at e
  | none::a,x::b,h,i+1,v,e=>by
    simp only [List.getElem?_cons_succ] at e ⊢
    exact Wk.get (a:=a) (b:=b) h i v e
  | some q::a,some u::b,h,0,v,e=>by
    simp only [List.getElem?_cons_zero] at e ⊢
    rw [<- h.1];exact e
  | some q::a,some u::b,h,i+1,v,e=>by
    simp only [List.getElem?_cons_succ] at e ⊢
    exact Wk.get (a:=a) (b:=b) h.2 i v e
  | [],_::_,h,_,_,_=>h.elim
  | some _::_,[],h,_,_,_=>h.elim
  | none::_,[],h,_,_,_=>h.elim
  | some _::_,none::_,h,_,_,_=>h.elim
theorem Inv.wk {X:Cx} {pins:List (Addr×Obj)} {σ σ':St} {H:Hp} {s:Shared} (I:Inv X pins σ H s) (h:Wk σ' σ):Inv X pins σ' H s:=I.weak h.len h.get
def QgJ (J:It) (body:V->Hp->(Hp->Prop)->Prop) (Qn:Hp->Prop) (H:Hp):Prop:=
  ∃ W:Nat->Nat->Hp->Prop,(∃ m,W 0 m H)/\∀ i m H2,W i m H2->(J.stop i H2/\Qn H2)∨(J.go i H2/\∀ x H3,J.yld i H2 x H3->body x H3 fun H6=>∃ m',m'<m/\W (i+1) m' H6)
abbrev Act:=(Shared->Prop)->Shared->Prop
def QeY (Y:Cx) (σ:St) (act:Act) (b:Hp->(Hp->Prop)->Prop):Prop:=
  ∀ (pins:List (Addr×Obj)) (s:Shared) (H:Hp) (k:Hp->Prop) (Q:Shared->Prop),Inv Y pins σ H s->b H k->(∀ s' H',Inv Y pins σ H' s'->k H'->Q s')->act Q s
theorem Qcc {Y:Cx} {σ:St} {tg:Expr} {elt:Expr} {gens:List Comprehension} {scope:Scope} {cpos:Pos} {d:Nat} {it D:Addr} {fp:List Addr} {tn:Nat->Heap->Prop} {J:It} {pins:List (Addr×Obj)} {s:Shared} {H:Hp} {body:V->Hp->(Hp->Prop)->Prop} {Qn:Hp->Prop} {R:Result->Shared->Prop} {act:Value->Act}
    (hc:Y.calm=true) (T:Turn Y.prog Y.w Y.K tg J fp it tn) (st:tn 0 s.heap) (hf:∀ b∈fp,FpOk Y pins H b)
    (hturn:∀ (Q:PySem.Fin->Shared->Prop) (E:Value->Shared->Prop) (s:Shared),wpAny (model Y.prog Y.w) Y.A (pyNext (.ref it)) (fun r s1=>match r with
      | none=>Q (.done .next) s1
      | some v=>wpAny (model Y.prog Y.w) Y.A (letOwnedTupleGo tg (.ref it) v) (fun _ s2=>act v (fun s3=>Q (.again (.compLoop (.ListComp elt gens scope cpos) d (.ref it) (.ref D) Y.env)) s3) s2) E s1) E s ->
      wpAny (model Y.prog Y.w) Y.A (compTurn (.ListComp elt gens scope cpos) d (.ref it) (.ref D) Y.env) Q E s)
    (hact:∀ (x:V) (u:Value),RelV x u->QeY Y σ (act u) (body x))
    (I:Inv Y pins σ H s) (h:QgJ J body Qn H) (hR:∀ s' H',Inv Y pins σ H' s'->Qn H'->R (.ok .next) s') :
    codeAny (model Y.prog Y.w) Y.A (.compLoop (.ListComp elt gens scope cpos) d (.ref it) (.ref D) Y.env) R s:=by
  obtain ⟨W,⟨m0,w0⟩,turn⟩:=h
  have stat:∀ {H':Hp},(∀ b∈fp,H' b=none)->∀ b∈fp,FpOk Y pins H' b:=fun hn b hb=>⟨hn b hb,(hf b hb).2⟩
  refine codeAny_loop rfl (fun n s'=>∃ i H',Inv Y pins σ H' s'/\tn i s'.heap/\(∀ b∈fp,H' b=none)/\W i n H') (fun n s3 hI=>?_) m0 ⟨0,H,I,st,fun b hb=>(hf b hb).1,w0⟩
  show wpAny _ Y.A ((compTurn (.ListComp elt gens scope cpos) d (.ref it) (.ref D) Y.env).onRaise (fun x=>do noteFrame x Y.env;theTreesLotGoes x)) _ _ s3
  refine wpAny_noted (hturn _ _ _ ?_)
  obtain ⟨i,H3,I3,st3,fr3,w3⟩:=hI
  rcases turn i n H3 w3 with ⟨stop,qn⟩ | ⟨go,step⟩
  · refine thn (T.done Y rfl rfl rfl hc i pins s3 σ H3 _ I3 (stat fr3) st3 stop) fun r s4 ⟨hr,I4⟩=>?_
    subst hr
    exact hR s4 H3 I4 qn
  · refine thn (T.item Y rfl rfl rfl hc i pins s3 σ H3 _ I3 (stat fr3) st3 go) fun r s4 ⟨u,hr,h4⟩=>?_
    subst hr
    refine thn h4 fun _ s5 ⟨x,H5,I5,r5,y5,st5,fr5⟩=>?_
    have I5':=I5.pinned (stat fr5) (T.obj _ _ st5)
    refine hact x u r5 _ s5 H5 _ _ I5' (step x H5 y5) fun s7 H7 I7 ⟨m',hm,w7⟩=>?_
    refine ⟨rfl,m',hm,i+1,H7,I7.unpinned,T.keep _ _ _ st5 fun b hb o e=>(I7.pin (b,o) (List.mem_append_right _ (List.mem_append_right _ (QbJ hb e)))).1,fun b hb=>?_,w7⟩
    obtain ⟨o,e,dd⟩:=T.obj _ _ st5 b hb
    exact (I7.pin (b,o) (List.mem_append_right _ (List.mem_append_right _ (QbJ hb e)))).2.1
abbrev testsOf (ifs:List Expr) (env:Env):Sem Bool:=forIn ifs true fun c r=>if r=true then do let ok <- isTrue c env (eval c env);pure (ForInStep.yield ok) else pure (ForInStep.yield r)
def PTs (Y:Cx) (ifs:List Expr) (t:TT):Prop:=
  ∀ (pins:List (Addr×Obj)) (s:Shared) (σ:St) (H:Hp) (Q:Bool->Hp->Prop),Inv Y pins σ H s->t σ H Q->wpAny (model Y.prog Y.w) Y.A (testsOf ifs Y.env) (TP Y pins σ Q) Y.xe s
def Qe5:TT:=fun _ H Q=>Q true H
theorem Qg8 {Y:Cx}:PTs Y [] Qe5:=fun pins s σ H Q I h=>wpAny_tests_nil ⟨H,I,h⟩
theorem QkX {Y:Cx} {c:Expr} {t:TT} (h:PT Y c t):PTs Y [c] t:=fun pins s σ H Q I q=>wpAny_tests_one (h pins s σ H Q I q)
def QjK (Y:Cx) (tg:Expr) (ifs:List Expr) (inner:Act):Value->Act:=fun u Q s=>
  wpAny (model Y.prog Y.w) Y.A (assign tg Y.env u) (fun _ s4=>wpAny (model Y.prog Y.w) Y.A (testsOf ifs Y.env) (fun ok s5=>if ok=true then inner Q s5 else Q s5) (fun _ _=>False) s4) (fun _ _=>False) s
def bOf (σ:St) (g:TG) (tc:TT) (inner:St->Hp->(Hp->Prop)->Prop):V->Hp->(Hp->Prop)->Prop:=fun x H k=>g x σ H fun σ4 H4=>Wk σ σ4/\tc σ4 H4 fun b H5=>
  if b=true then inner σ4 H5 k else k H5
theorem Qec {Y:Cx} {σ:St} {tg:Expr} {ifs:List Expr} {g:TG} {tc:TT} {inner:Act} {ri:St->Hp->(Hp->Prop)->Prop} (hx:Y.xe=fun _ _=>False) (hg:PG Y tg g) (ht:PTs Y ifs tc) (he:∀ σ4,QeY Y σ4 inner (ri σ4)) (x:V) (u:Value) (r:RelV x u) :
    QeY Y σ (QjK Y tg ifs inner u) (bOf σ g tc ri x):=by
  intro pins s H k Q I h hQ
  have hx':∀ (v:Value) (s':Shared),Y.xe v s'->False:=fun v s' z=>by rw [hx] at z;exact z
  refine wpAny_mono (hg pins s σ H x u _ I r h) (fun _ s4 ⟨σ4,H4,I4,wk,q4⟩=>?_) hx'
  refine wpAny_mono (ht pins s4 σ4 H4 _ I4 q4) (fun b s5 ⟨H5,I5,q5⟩=>?_) hx'
  cases b with
  | false=>
    rw [if_neg Bool.false_ne_true] at q5
    rw [if_neg Bool.false_ne_true]
    exact hQ s5 H5 (I5.wk wk) q5
  | true=>
    rw [if_pos rfl] at q5
    rw [if_pos rfl]
    exact he σ4 pins s5 H5 k Q I5 q5 fun s' H' I' k'=>hQ s' H' (I'.wk wk) k'
def Qiz (Y:Cx) (elt:Expr) (D:Addr):Act:=fun Q s=>wpAny (model Y.prog Y.w) Y.A (eval elt Y.env) (fun v s6=>wpAny (model Y.prog Y.w) Y.A (call (.builtin "list.append") [.ref D,v]) (fun _ s7=>Q s7) (fun _ _=>False) s6) (fun _ _=>False) s
def bElt (p:Addr) (te:TE):St->Hp->(Hp->Prop)->Prop:=fun σ H k=>te σ H fun v H6=>∃ ys,H6 p=some (.lst ys)/\ys.length<sizeLine/\k (upd H6 p (.lst (ys++[v])))
theorem Qed {Y:Cx} {σ:St} {elt:Expr} {te:TE} {D:Addr} (hx:Y.xe=fun _ _=>False) (he:PE Y elt te):QeY Y σ (Qiz Y elt D) (bElt D te σ):=by
  intro pins s H k Q I h hQ
  have hx':∀ (v:Value) (s':Shared),Y.xe v s'->False:=fun v s' z=>by rw [hx] at z;exact z
  refine wpAny_mono (he pins s σ H _ I h) (fun v s6 ⟨y,H6,I6,r6,ys,e,hz,q⟩=>?_) hx'
  exact wpAny_mono (QhF (X:=Y) pins s6 σ H6 (.ref D) [y] (.ref D) [v] (fun _ H'=>k H') I6 rfl (.cons r6 .nil) ⟨D,ys,y,rfl,rfl,e,hz,q⟩) (fun _ s7 ⟨_,H7,I7,_,q7⟩=>hQ s7 H7 I7 q7) hx'
theorem QfE {Y:Cx} {elt tg iter:Expr} {ifs:List Expr} {scope:Scope} {cpos:Pos} {it D:Addr} (Q:PySem.Fin->Shared->Prop) (E:Value->Shared->Prop) (s:Shared)
    (h:wpAny (model Y.prog Y.w) Y.A (pyNext (.ref it)) (fun r s1=>match r with
      | none=>Q (.done .next) s1
      | some v=>wpAny (model Y.prog Y.w) Y.A (letOwnedTupleGo tg (.ref it) v) (fun _ s2=>QjK Y tg ifs (Qiz Y elt D) v (fun s3=>Q (.again (.compLoop (.ListComp elt [⟨tg,iter,ifs,0⟩] scope cpos) 0 (.ref it) (.ref D) Y.env)) s3) s2) E s1) E s) :
    wpAny (model Y.prog Y.w) Y.A (compTurn (.ListComp elt [⟨tg,iter,ifs,0⟩] scope cpos) 0 (.ref it) (.ref D) Y.env) Q E s:=by
  rw [compTurn_list]
  refine wpAny_bind (wpAny_standAt (wpAny_bind (thn h fun r s1 h1=>?_)))
  cases r with
  | none=>exact wpAny_pure h1
  | some v=>
    refine wpAny_bind (thn h1 fun _ s2 h2=>?_)
    refine wpAny_bind (wpAny_mono h2 (fun _ s4 h4=>wpAny_bind (wpAny_mono h4 (fun ok s5 h5=>?_) fun _ _ f=>f.elim)) fun _ _ f=>f.elim)
    cases ok with
    | false=>exact wpAny_pure h5
    | true=>exact wpAny_bind (wpAny_bind (wpAny_mono h5 (fun x s6 h6=>wpAny_bind (wpAny_mono h6 (fun _ s7 h7=>wpAny_pure (wpAny_pure h7)) fun _ _ f=>f.elim)) fun _ _ f=>f.elim))
def tComp (cap:List (Option Nat)) (wi:TI) (g:TG) (tc:TT) (te:TE):TE:=fun σ H Q=>wi σ H fun J H1=>∀ p,H1 p=none->QgJ J (bOf (capS cap σ) g tc (bElt p te)) (Q (.ref p)) (upd H1 p (.lst []))
theorem FpOk.upd {X:Cx} {pins:List (Addr×Obj)} {H:Hp} {b a:Addr} {o:HO} (h:FpOk X pins H b) (hne:b≠a):FpOk X pins (upd H a o) b:=⟨by rw [Qai hne];exact h.1,h.2⟩
theorem QfO {X:Cx} {M:List Str} {cap:List (Option Nat)} {elt tg iter:Expr} {ifs:List Expr} {scope:Scope} {pos:Pos} {wi:TI} {g:TG} {tc:TT} {te:TE} (hc:X.calm=true) (ok:QeN X.N X.env.scope M scope cap=true)
    (hi:PI X tg iter wi) (hb:∀ cl ex s3 H3 C,PG (blk X M scope cl ex s3 H3 C) tg g/\PTs (blk X M scope cl ex s3 H3 C) ifs tc/\PE (blk X M scope cl ex s3 H3 C) elt te)
    (hs:∀ x,foldedSetIterable iter X.env x=pure x:=by intro _;rfl):PE X (.ListComp elt [⟨tg,iter,ifs,0⟩] scope pos) (tComp cap wi g tc te):=by
  intro pins s σ H Q I h
  have c:=CapOk.of ok
  rw [eval_ListComp]
  refine wpAny_comprehension_free (use:=none) rfl hs (Qfu (I.ok.cells c)) c.kind c.loc ?_
  refine thn (hi pins s σ H _ I h) fun v s1 h1=>thn h1 fun itv s2 h2=>?_
  obtain ⟨it,fp,tn,J,H2,e,I2,T,st2,f2,hW⟩:=h2
  subst e
  refine wpAny_newObj_type (wpAny_newFunctionEnv c.cell (by intro y hy;simp at hy) (fun h₁ hns₁ hsb₁=>?_) c.kind)
  have I3:Inv X pins σ (upd H2 s2.heap.objs.size (.lst [])) { s2 with heap:=s2.heap.push { cls:=.type "list",data:=.seq ([]:List Value).toArray } }:=I2.lnew (t':=s2.toks) (ys:=[]) .nil (Nat.zero_le _)
  have lt2:∀ b∈fp,b<s2.heap.objs.size:=fun b hb=>by obtain ⟨o,e,_⟩:=T.obj _ _ st2 b hb;exact Heap.lt_size e
  have f3:∀ b∈fp,FpOk X pins (upd H2 s2.heap.objs.size (.lst [])) b:=fun b hb=>(f2 b hb).upd (Nat.ne_of_lt (lt2 b hb))
  generalize hs3:({ s2 with heap:=s2.heap.push { cls:=.type "list",data:=.seq ([]:List Value).toArray } }:Shared)=s3 at I3
  have e3:s3.heap=s2.heap.push { cls:=.type "list",data:=.seq ([]:List Value).toArray }:=by rw [<- hs3]
  have z3:s3.heap.objs.size=s2.heap.objs.size+1:=by rw [e3,Heap.size_push]
  have hk:∀ b o,s3.heap.get? b=some o->h₁.get? b=some o:=fun b o e=>hsb₁.extBut b o (by
    have:=Heap.lt_size e
    rw [e3] at this
    exact Nat.ne_of_lt this) (Heap.get?_push_of_some _ (e3 ▸ e))
  have hn₁:h₁.Ns s3.heap.objs.size fun _=>none:=by rw [e3];exact hns₁
  have B:=Qdc (t4:=s3.toks+([]:List (Str×Value)).length) (fp:=fp) I3 c f3 (fun b hb=>by rw [z3];exact Nat.lt_succ_of_lt (lt2 b hb)) hn₁ hk
  have st4:tn 0 h₁:=T.keep _ _ _ st2 fun b hb o e=>hk b o (by rw [e3];exact Heap.get?_push_of_some _ e)
  have fp4:∀ b∈fp,FpOk (blk X M scope (clOf X.env scope.names []) fp s3 (upd H2 s2.heap.objs.size (.lst [])) s3.heap.objs.size) [] (upd H2 s2.heap.objs.size (.lst [])) b:=fun b hb=>by
    refine ⟨(f3 b hb).1,(B.ok.exf b hb).1,B.ok.exfs b hb,.inl hb,(B.ok.exf b hb).2,fun p hp=>(nomatch hp)⟩
  obtain ⟨hg,ht,he⟩:=hb (clOf X.env scope.names []) fp s3 (upd H2 s2.heap.objs.size (.lst [])) s3.heap.objs.size
  have loop:codeAny (model X.prog X.w) X.A (.compLoop (.ListComp elt [⟨tg,iter,ifs,0⟩] scope pos) 0 (.ref it) (.ref s2.heap.objs.size) (compEnvC scope (clOf X.env scope.names []) s3.heap.objs.size X.env))
      (compPost (model X.prog X.w) X.A X.xe none (EP X pins σ Q) (.ref s2.heap.objs.size) s3.heap.objs.size) { s3 with heap:=h₁,toks:=s3.toks+([]:List (Str×Value)).length }:=by
    refine Qcc (Y:=blk X M scope (clOf X.env scope.names []) fp s3 (upd H2 s2.heap.objs.size (.lst [])) s3.heap.objs.size) (gens:=[⟨tg,iter,ifs,0⟩]) (d:=0) hc T st4 fp4
      (fun Q E s h=>QfE Q E s h) (fun x u r=>Qec rfl hg ht (fun σ4=>Qed rfl he) x u r) B (hW _ (I2.hok.fresh (Nat.le_refl _))) fun s' H' I' q=>?_
    obtain ⟨m,hn,_⟩:=I'.loc
    exact ⟨m,hn,fun h' hs'=>⟨.ref s2.heap.objs.size,H',Qir I3 f3 I' hs',rfl,q⟩⟩
  exact codeAny_compStart_list loop (T.self _ 0 _ _ _ st4 loop)
section
variable {X:Cx}
theorem Qfy:CallR X (.builtin "isinstance") (fun xs H Q=>∃ x t T b,xs=[x,.ty T]/\TyOf X.K H x t/\PySem.W.kitOne X.K t (.type T)=some b/\Q (.bl b) H):=by
  intro pins s σ H xs us Q I r h
  obtain ⟨x,t,T,b,rfl,ty,e,q⟩:=h
  obtain ⟨u,v,rfl,ru,rv⟩:=QkA r
  cases (show v=Value.type T from rv)
  exact QhQ I ru ty e fun tk=>⟨.bl b,H,I.tok tk,rfl,q⟩
theorem QjF {bs:List Bool}:∀ {us:List Value},Vals (bs.map V.bl) us->LSm.BoolsAre us bs:=by
  induction bs with
  | nil=>intro us r;cases r;exact .nil
  | cons b bs ih=>
    intro us r
    cases r with
    | cons r t=>
      cases (show _=Value.bool b from r)
      exact .cons b (ih t)
theorem Qgh:CallR X (.builtin "all") (fun xs H Q=>∃ (p:Addr) (bs:List Bool),xs=[.ref p]/\SqL X.K H p (bs.map V.bl)/\X.calm=true/\Q (.bl (bs.all id)) H):=by
  intro pins s σ H xs us Q I r h
  obtain ⟨p,bs,rfl,hp,hc,q⟩:=h
  obtain ⟨u,rfl,ru⟩:=QcC r
  cases ru
  obtain ⟨its,rv,pl,hz⟩:=I.list hp
  have hl:=pl.isList
  have hb:=QjF rv
  have hlt:p<s.heap.objs.size:=by obtain ⟨_,e,_⟩:=hl;exact Heap.lt_size e
  refine call_all_walk (wpAny_pyIter_list hl ?_)
  refine ⟨s.heap.objs.size,[s.heap.objs.size,p],[s.heap.objs.size],its.toArray.size,_,_,fun i=>(bs[i]?).getD true,rfl,Walks.list (A:=X.A.in1) (I.ok.hd hc) _ p (Nat.ne_of_lt hlt) its.toArray,
    ⟨⟨_,Heap.get?_push_size _ rfl,rfl,rfl⟩,hl.push _⟩,fun i v s' Q' E' hP hQ=>?_,fun h' tk hk=>?_⟩
  · obtain ⟨b,e,rfl⟩:=hb.get i v (by simpa using hP)
    simp only [e,Option.getD_some] at hQ
    exact wpAny_truthy_bool hQ
  · have e:((List.range its.toArray.size).all fun i=>(bs[i]?).getD true)=bs.all id:=by
      rw [List.size_toArray,hb.length];exact LSm.range_all bs
    rw [e]
    exact ⟨.bl _,H,I.kept (LSm.kept_iter hk),rfl,q⟩
def rSlA:V->Option Int->Option Int->Hp->VK->Prop:=fun x lo hi H Q=>∃ a xs,x=.ref a/\H a=some (.tup xs)/\∀ p H',Same H H'->H' p=some (.tup (cutV xs lo hi))->Q (.ref p) H'
theorem Qae {H:Hp} {p:Addr} {o:HO} (h:H p=none):Same H (upd H p o):=fun b u e=>by rw [Qai (Qao e h)];exact e
theorem QbT {prog:Program} {w:World} {A:Around} {E:Value->Shared->Prop} {s:Shared} {t sl:Addr} {items:Array Value} {vl vu:Value} {lo hi:Option Int} {Q:Value->Shared->Prop} (ht:IsTup s.heap t items) (hs:s.heap.IsSliceOf sl vl vu .none) (pl:IsPart vl lo) (pu:IsPart vu hi)
    (h1:HT.sIx items.size 0 lo=0) (h2:HT.sIx items.size items.size hi=items.size) (h:Q (.ref t) s):wpAny (model prog w) A (getItem (.ref t) (.ref sl)) Q E s:=by
  obtain ⟨os,hos,hcs,hds⟩:=id hs
  have hTs:s.TypeIs (.ref sl) "slice" := ⟨os,hos,hcs⟩
  unfold getItem
  try with_reducible refine wpAny_holding ?_
  first | refine wpAny_bind (wpAny_pure ?_) | skip
  refine wpAny_bind (wpAny_sequenceKey ht.typeIs (by decide) ?_)
  refine wpAny_bind (wpAny_callSpecial?_slot (name:=Str.ofString "__getitem__") ht.typeIs PyProof.Rows.slot_tuple_getitem
    (wpAny_call_entry PyProof.Rows.slot_tuple_getitem ht.typeIs entry_tuple_getitem ?_ (args_tuple_getitem _ _)))
  show wpAny _ _ (Builtin.Tuple.tupleItemsOf (.ref t) >>= _) _ _ s
  refine wpAny_bind (tupleItemsOf_ ht ?_)
  refine wpAny_bind (wpAny_typeOf hTs ?_)
  rw [if_pos (by decide)]
  refine wpAny_bind (HT.sliceApplied_gen hs pl pu ?_)
  show wpAny _ _ (if (((HT.sIx items.size 0 lo:Nat):Int) == 0&&(1:Int) == 1&&(HT.sIx items.size items.size hi - HT.sIx items.size 0 lo) == items.size)=true then _ else _) _ _ s
  rw [if_pos (by rw [h1,h2];simp)]
  refine wpAny_bind (m:=Builtin.Tuple.tupleIsExact _) (wpAny_bind (wpAny_typeOf ht.typeIs (wpAny_pure ?_)))
  rw [if_pos (by decide)]
  exact wpAny_bind (wpAny_rule (wpAny_pure ⟨_,rfl,wpAny_pure h⟩))
theorem sl_any:SlR X rSlA:=by
  intro pins s σ H x v vl vu lo hi sl Q I rx hs pl pu h
  obtain ⟨a,xs,rfl,hx,q⟩:=h
  by_cases hw:HT.sIx xs.length 0 lo=0/\HT.sIx xs.length xs.length hi=xs.length
  · cases rx
    obtain ⟨its,r,ht,hz⟩:=I.tuple (SqT.of hx)
    have hlen:its.toArray.size=xs.length:=by rw [List.size_toArray];exact r.length.symm
    refine ⟨"tuple",_,PyProof.Rows.slot_tuple_getitem.lookup,ht.typeIs,?_⟩
    refine QbT ht hs pl pu (by rw [hlen];exact hw.1) (by rw [hlen];exact hw.2) ?_
    refine ⟨.ref a,H,I,rfl,q a H (Same.refl H) ?_⟩
    have e:cutV xs lo hi=xs:=by
      unfold cutV
      rw [hw.1,hw.2];simp
    rw [e];exact hx
  · exact sl_tup pins s σ H (.ref a) v vl vu lo hi sl Q I rx hs pl pu ⟨a,xs,rfl,SqT.of hx,hw,fun p hp=>q p _ (Qae hp) Qad⟩
def tRev (te ts:TE):TE:=fun σ H Q=>te σ H fun x H1=>tPart ts σ H1 fun o H2=>o=some (-1)/\∃ a xs,x=.ref a/\H2 a=some (.tup xs)/\∀ p H',Same H2 H'->H' p=some (.tup xs.reverse)->Q (.ref p) H'
theorem Qkh {α β:Type} (f:α->Option β) (g:α->β):∀ (l:List α),(∀ m∈l,f m=some (g m))->l.filterMap f=l.map g
  | [],_=>rfl
  | a::l,h=>by
    rw [List.filterMap_cons,h a List.mem_cons_self,List.map_cons,Qkh f g l fun m hm=>h m (List.mem_cons_of_mem _ hm)]
theorem QiQ (xs:List Value):((List.range xs.length).filterMap fun (m:Nat)=>xs.toArray[((xs.length:Int) - 1+(m:Int)*(-1)).toNat]?)=xs.reverse:=by
  have e:∀ m∈List.range xs.length,(xs.toArray[((xs.length:Int) - 1+(m:Int)*(-1)).toNat]?)=some (xs.reverse.getD m .none):=by
    intro m hm
    have hm':m<xs.length:=List.mem_range.mp hm
    have e1:((xs.length:Int) - 1+(m:Int)*(-1)).toNat=xs.length - 1 - m:=by omega
    rw [e1]
    have e2:xs.reverse[m]? = xs[xs.length - 1 - m]? := List.getElem?_reverse hm'
    rw [List.getElem?_toArray,List.getD_eq_getElem?_getD,e2]
    have:xs.length - 1 - m<xs.length:=by omega
    rw [List.getElem?_eq_getElem this];rfl
  have e3:((List.range xs.length).filterMap fun (m:Nat)=>xs.toArray[((xs.length:Int) - 1+(m:Int)*(-1)).toNat]?)=(List.range xs.length).map fun m=>xs.reverse.getD m .none:=by
    exact Qkh _ _ _ e
  rw [e3]
  refine List.ext_getElem? fun i=>?_
  rw [List.getElem?_map]
  by_cases hi:i<xs.length
  · rw [List.getElem?_range hi]
    have:i<xs.reverse.length:=by rw [List.length_reverse];exact hi
    show some (xs.reverse.getD i .none)=_
    rw [List.getElem?_eq_getElem this,List.getD_eq_getElem?_getD,List.getElem?_eq_getElem this];rfl
  · have h1:(List.range xs.length)[i]? = none:=List.getElem?_eq_none (by rw [List.length_range];omega)
    have h2:xs.reverse[i]? = none:=List.getElem?_eq_none (by rw [List.length_reverse];omega)
    rw [h1,h2];rfl
theorem Qco {prog:Program} {w:World} {A:Around} {E:Value->Shared->Prop} {s:Shared} {t sl:Addr} {items:List Value} {tk:Tok} {Q:Value->Shared->Prop} (ht:IsTup s.heap t items.toArray) (hs:s.heap.IsSliceOf sl .none .none (.int (-1) tk))
    (h:Q (.ref s.heap.objs.size) { s with heap:=s.heap.push { cls:=.type "tuple",data:=.seq items.reverse.toArray } }) (hsz:items.length<=sizeLine):wpAny (model prog w) A (getItem (.ref t) (.ref sl)) Q E s:=by
  have htake:sizeOk (.seq items.reverse.toArray):=by
    show items.reverse.toArray.size<=sizeLine
    rw [List.size_toArray,List.length_reverse];exact hsz
  obtain ⟨os,hos,hcs,hds⟩:=id hs
  have hTs:s.TypeIs (.ref sl) "slice" := ⟨os,hos,hcs⟩
  unfold getItem
  try with_reducible refine wpAny_holding ?_
  first | refine wpAny_bind (wpAny_pure ?_) | skip
  refine wpAny_bind (wpAny_sequenceKey ht.typeIs (by decide) ?_)
  refine wpAny_bind (wpAny_callSpecial?_slot (name:=Str.ofString "__getitem__") ht.typeIs PyProof.Rows.slot_tuple_getitem
    (wpAny_call_entry PyProof.Rows.slot_tuple_getitem ht.typeIs entry_tuple_getitem ?_ (args_tuple_getitem _ _)))
  show wpAny _ _ (Builtin.Tuple.tupleItemsOf (.ref t) >>= _) _ _ s
  refine wpAny_bind (tupleItemsOf_ ht ?_)
  refine wpAny_bind (wpAny_typeOf hTs ?_)
  rw [if_pos (by decide)]
  have app:∀ {Q:Int×Int×Nat->Shared->Prop} {A:Around} {E:Value->Shared->Prop},Q ((items.length:Int) - 1,-1,items.length) s->wpAny (model prog w) A (Builtin.Slice.sliceApplied (.ref sl) (pure (items.toArray.size:Int))) Q E s:=by
    intro Q A E h
    unfold Builtin.Slice.sliceApplied Builtin.Slice.sliceFields
    refine wpAny_bind (wpAny_bind (wpAny_field hos hds (x:=.none) rfl (wpAny_bind (wpAny_field hos hds (x:=.none) rfl (wpAny_bind (wpAny_field hos hds (x:=.int (-1) tk) rfl (wpAny_pure ?_)))))))
    refine wpAny_bind (slicePart_int ?_)
    show wpAny _ _ (if ((-1:Int) == 0)=true then _ else _) _ _ s
    rw [if_neg (by decide)]
    refine wpAny_bind (slicePart_none (wpAny_bind (slicePart_none (wpAny_bind (wpAny_pure ?_)))))
    have e1:Builtin.Slice.sliceAdjust none none (-1) (items.toArray.size:Int)=((items.length:Int) - 1,-1):=by
      unfold Builtin.Slice.sliceAdjust
      simp
    show wpAny _ _ (match Builtin.Slice.sliceAdjust none none (-1) (items.toArray.size:Int) with | (lo,hi)=>pure (lo,(-1:Int),Builtin.Slice.slicePlaces lo hi (-1))) _ _ s
    rw [e1]
    have e2:Builtin.Slice.slicePlaces ((items.length:Int) - 1) (-1) (-1)=items.length:=by
      unfold Builtin.Slice.slicePlaces
      simp only [show ¬ ((-1:Int) > 0) by decide,if_false]
      by_cases hn:items.length=0
      · rw [hn];decide
      · rw [if_pos (by omega)]
        have:((items.length:Int) - 1 - -1 - 1) / - -1=(items.length:Int) - 1:=by
          have:(- (-1:Int))=1:=by decide
          rw [this,Int.ediv_one];omega
        rw [this];omega
    show wpAny _ _ (pure ((items.length:Int) - 1,(-1:Int),Builtin.Slice.slicePlaces ((items.length:Int) - 1) (-1) (-1))) _ _ s
    rw [e2]
    exact wpAny_pure h
  refine wpAny_bind (app ?_)
  show wpAny _ _ (if (((items.length:Int) - 1) == 0&&(-1:Int) == 1&&items.length == items.toArray.size)=true then _ else _) _ _ s
  rw [if_neg (by simp),QiQ]
  first
    | exact wpAny_bind (m:=Builtin.Tuple.tupleExact _) (wpAny_newObj_type (wpAny_pure ⟨_,rfl,wpAny_pure h⟩) htake)
    | exact wpAny_bind (m:=Builtin.Tuple.tupleExact _) (wpAny_newObj_type (wpAny_bind (wpAny_pure (wpAny_pure ⟨_,rfl,wpAny_pure h⟩))) htake)
    | exact wpAny_bind (wpAny_bind (m:=Builtin.Tuple.tupleExact _) (wpAny_newObj_type (wpAny_pure (wpAny_pure ⟨_,rfl,wpAny_pure h⟩)) htake))
    | exact wpAny_bind (wpAny_bind (m:=Builtin.Tuple.tupleExact _) (wpAny_newObj_type (wpAny_pure ⟨_,rfl,wpAny_pure h⟩) htake))
theorem pe_rev {e st:Expr} {te ts:TE} {pos p2:Pos} (he:PE X e te) (hst:PE X st ts):PE X (.Subscript e (.Slice none none (some st) p2) pos) (tRev te ts):=by
  intro pins s σ H Q I h
  refine Subscript_ (thn (he pins s σ H _ I h) fun v s1 ⟨x,H1,I1,r1,q1⟩=>?_)
  refine wpAny_Slice ?_
  rw [evalPart_none]
  refine wpAny_pure (wpAny_pure ?_)
  refine thn (Qhc hst pins s1 σ H1 _ I1 q1) fun vs s2 ⟨o,H2,I2,po,eo,a,xs,ex,hx,q⟩=>?_
  subst eo ex
  cases r1
  cases po with
  | int _ tk=>
    have I4:Inv X pins σ H2 { s2 with heap:=s2.heap.push { cls:=.type "slice",data:=.fields #[.none,.none,.int (-1) tk] } }:=I2.kept (t':=s2.toks) fun b ob q=>Heap.get?_push_of_some _ q
    obtain ⟨its,r,ht,hz⟩:=I4.tuple (SqT.of hx)
    show wpAny (model X.prog X.w) X.A (subscriptTail e (.Slice none none (some st) p2) (.ref a) (.ref s2.heap.objs.size)) (EP X pins σ Q) X.xe { s2 with heap:=s2.heap.push { cls:=.type "slice",data:=.fields #[.none,.none,.int (-1) tk] } }
    refine tail_any (ops:=[.ref a,.ref s2.heap.objs.size]) ht.typeIs PyProof.Rows.slot_tuple_getitem.lookup (Qco ht (Heap.IsSliceOf.new ..) ?_ (by rw [<- r.length];exact hz)) (by with_unfolding_all rfl)
    have fr:H2 (s2.heap.push { cls:=.type "slice",data:=.fields #[.none,.none,.int (-1) tk] }).objs.size=none:=I4.hok.fresh (Nat.le_refl _)
    refine ⟨.ref _,_,I4.laid (t':=s2.toks) (o:=.tup xs.reverse) (fun b ob q=>Heap.get?_push_of_some _ q) (Nat.le_refl _) ?_,rfl,q _ _ (Qae fr) Qad⟩
    exact ⟨by rw [List.length_reverse];exact hz,_,r.reverse,IsTup.new _ _⟩
def rCatA:R2:=fun x y H Q=>∃ a b xs ys,x=.ref a/\y=.ref b/\H a=some (.tup xs)/\H b=some (.tup ys)/\xs.length+ys.length<=sizeLine/\∀ p H',Same H H'->H' p=some (.tup (xs++ys))->Q (.ref p) H'
theorem Qly:OpR X (binaryOp .Add) rCatA:=by
  intro pins s σ H x y v u Q I rx ry h
  obtain ⟨a,b,xs,ys,rfl,rfl,ha,hb,hz,q⟩:=h
  by_cases hx:xs=[]
  · subst hx
    cases rx
    cases ry
    obtain ⟨its,r1,p1,_⟩:=I.tuple (SqT.of ha)
    obtain ⟨its2,r2,p2,_⟩:=I.tuple (SqT.of hb)
    cases r1
    obtain ⟨⟨cls,dd,data,sl⟩,ho,hc,n,hd⟩:=id p1
    obtain ⟨⟨cls2,dd2,data2,sl2⟩,ho2,hc2,n2,hd2⟩:=id p2
    simp only at hc hd hc2 hd2
    subst hc hd hc2 hd2
    exact concat_meets ⟨_,ho,rfl⟩ ⟨_,ho2,rfl⟩ noFill_tuple_add seq_tuple_add PySem.F.slot_tuple_add PySem.F.entry_tuple_add (PySem.F.args_tuple_add_2 _ _)
      (tuple_addW0 a b #[] its2.toArray n n2 dd dd2 sl sl2 rfl) ⟨ho,ho2,⟨.ref b,H,I,rfl,q b H (Same.refl H) hb⟩⟩
  · exact Qlx pins s σ H _ _ v u Q I rx ry ⟨a,b,xs,ys,rfl,rfl,SqT.of ha,SqT.of hb,hx,hz,fun e=>q a H (Same.refl H) (by rw [e,List.append_nil];exact ha),fun _ p hp=>q p _ (Qae hp) Qad⟩
def tDNew:TE:=fun _ H Q=>∀ p,H p=none->Q (.ref p) (upd H p (.dK []))
theorem Qk7 {pos:Pos}:PE X (.Dict [] [] pos) tDNew:=fun pins s σ H Q I h=>by
  refine wpAny_Dict_empty ⟨.ref s.heap.objs.size,_,I.laid (a:=s.heap.objs.size) (o:=.dK []) (t':=s.toks) (fun _ _ q=>Heap.get?_push_of_some _ q) (Nat.le_refl _) ?_,rfl,h _ (I.hok.fresh (Nat.le_refl _))⟩
  have hb:sysModules<s.heap.objs.size:=Nat.lt_trans (by decide) (I.mod.glob.keeps I.bk).lt
  exact ⟨Nat.zero_le _,beq_eq_false_iff_ne.mpr (Ne.symm (Nat.ne_of_lt hb)),[],.nil,Heap.DictOf.new s.heap⟩
end
end L2
namespace Rz
open PySem PyProof.Rows
open Sem (wp)
section
variable {prog:Program} {w:World} {A:Around} {E:Value->Shared->Prop} {s:Shared}
theorem nxt_item {it t:Addr} {i:Nat} {items:Array Value} {x:Value} {Q:Value->Shared->Prop} (hit:s.heap.IsTupleIter it t i) (ht:s.heap.IsTuple t items) (hx:items[i]? = some x)
    (hQ:∀ h',h'.IsTupleIter it t (i+1)->Heap.SameBut it s.heap h'->Q x { s with heap:=h' }):wpAny (model prog w) A (Builtin.SmallTypes.nextOf (.ref it)) Q E s:=by
  obtain ⟨o,ho,hc,hd⟩:=id hit
  obtain ⟨ol,hol,_,nl,hdl⟩:=ht
  unfold Builtin.SmallTypes.nextOf
  refine wpAny_bind (wpAny_callSpecial?_slot (name:=Str.ofString "__next__") hit.typeIs F.slot_tuple_iterator_next
    (wpAny_call_entry F.slot_tuple_iterator_next hit.typeIs F.entry_tuple_iterator_next ?_ (F.args_tuple_iterator_next_1 _)))
  show wpAny _ _ (field (.ref it) 0 >>= _) _ _ s
  refine wpAny_bind (wpAny_field ho hd (x:=.ref t) rfl ?_)
  show wpAny _ _ (if (Value.ref t == Value.none)=true then _ else _) _ _ s
  rw [if_neg (show ¬ ((Value.ref t == Value.none)=true) from Bool.false_ne_true)]
  show wpAny _ _ (field (.ref it) 1 >>= _) _ _ s
  refine wpAny_bind (wpAny_field ho hd (x:=.int i 0) rfl ?_)
  show wpAny _ _ (seqItems? (.ref t) >>= _) _ _ s
  refine wpAny_bind (wpAny_seqItems hol hdl ?_)
  simp only [Int.toNat_natCast,hx]
  refine wpAny_bind (wpAny_setField ho hd (by simp) (wpAny_pure ⟨x,rfl,wpAny_pure (hQ _ ?_ (Heap.SameBut.update ..))⟩))
  exact ⟨_,Heap.get?_update_self _ ho (Obj.isFreed_of_fields (Obj.data_mapFields hd _)),(Obj.cls_mapFields ..).trans hc,by
    rw [Obj.data_mapFields hd];simp [rawInt]⟩
theorem nxt_end {it t:Addr} {i:Nat} {items:Array Value} {Q:Value->Shared->Prop} (hh:A.handled=none) (hit:s.heap.IsTupleIter it t i) (ht:s.heap.IsTuple t items) (hx:items[i]? = none)
    (hE:∀ h' e,Heap.ExtBut it s.heap h'->(∃ o,h'.get? e=some o/\o.cls=.type "StopIteration")->E (.ref e) { s with heap:=h' }):wpAny (model prog w) A (Builtin.SmallTypes.nextOf (.ref it)) Q E s:=by
  obtain ⟨o,ho,hc,hd⟩:=id hit
  obtain ⟨ol,hol,_,nl,hdl⟩:=ht
  unfold Builtin.SmallTypes.nextOf
  refine wpAny_bind (wpAny_callSpecial?_slot (name:=Str.ofString "__next__") hit.typeIs F.slot_tuple_iterator_next
    (wpAny_call_entry F.slot_tuple_iterator_next hit.typeIs F.entry_tuple_iterator_next ?_ (F.args_tuple_iterator_next_1 _)))
  show wpAny _ _ (field (.ref it) 0 >>= _) _ _ s
  refine wpAny_bind (wpAny_field ho hd (x:=.ref t) rfl ?_)
  show wpAny _ _ (if (Value.ref t == Value.none)=true then _ else _) _ _ s
  rw [if_neg (show ¬ ((Value.ref t == Value.none)=true) from Bool.false_ne_true)]
  show wpAny _ _ (field (.ref it) 1 >>= _) _ _ s
  refine wpAny_bind (wpAny_field ho hd (x:=.int i 0) rfl ?_)
  show wpAny _ _ (seqItems? (.ref t) >>= _) _ _ s
  refine wpAny_bind (wpAny_seqItems hol hdl ?_)
  simp only [Int.toNat_natCast,hx]
  refine wpAny_bind (wpAny_rule (wpAny_bind (wpAny_setField ho hd (by simp) ?_)))
  show wpAny _ _ (newExc (.type "StopIteration") [] >>= _) _ _ _
  refine wpAny_bind ?_
  simp only [newExc,newTuple]
  refine wpAny_bind (wpAny_newObj_type ?_ (by size_fits))
  refine wpAny_bind (m:=firstArgMember _ _) (wpAny_of_eq (a:=Value.none) (by first | rfl | (simp only [firstArgMember];rfl)) ?_)
  refine wpAny_newObj_type ?_ (by size_fits)
  simp only [raiseNew]
  refine wpAny_bind (wpAny_handled ?_)
  first | rw [show A.in1.handled=none from hh] | rw [hh]
  refine wpAny_bind (wpAny_pure (wpAny_throw ?_))
  exact hE _ _ (((Heap.SameBut.update ..).extBut.push _).push _) ⟨_,Heap.get?_push_size _ rfl,rfl⟩
end
abbrev zh1 (h:Heap) (t1:Addr):Heap:=h.push { cls:=.type "tuple_iterator",data:=.fields #[.ref t1,.int 0 0] }
abbrev zh2 (h:Heap) (t1 t2:Addr):Heap:=(zh1 h t1).push { cls:=.type "tuple_iterator",data:=.fields #[.ref t2,.int 0 0] }
abbrev zh3 (h:Heap) (t1 t2:Addr):Heap:=(zh2 h t1 t2).push { cls:=.type "tuple",data:=.seq #[.ref h.objs.size,.ref (zh1 h t1).objs.size] }
abbrev zh4 (h:Heap) (t1 t2:Addr):Heap:=(zh3 h t1 t2).push { cls:=.type "tuple",data:=.seq #[.none,.none] }
abbrev zh5 (h:Heap) (t1 t2:Addr):Heap:=(zh4 h t1 t2).push { cls:=.type "zip",data:=.fields #[.none,.bool false,.bool false,.ref (zh2 h t1 t2).objs.size,.ref (zh3 h t1 t2).objs.size] }
theorem made (t1 t2:Addr) (xs ys:Array Value) :
    Meets (Builtin.«zip.__new__» ⟨[.type "zip",.ref t1,.ref t2],[]⟩) (fun _ R s=>s.heap.IsTuple t1 xs/\s.heap.IsTuple t2 ys/\R (.ok (.ret (.ref (zh4 s.heap t1 t2).objs.size))) { s with heap:=zh5 s.heap t1 t2 }):=
  .of_wp fun prog w A R s h=>by
    obtain ⟨hp,g,d,tk,os⟩:=s;obtain ⟨hl1,hl2,h⟩:=h
    have hsub:=sub_zip
    have k1:Heap.IsTuple (Shared.heap ⟨hp,g,d,tk,os⟩) t1 xs:=hl1
    have k2:Heap.IsTuple (Shared.heap ⟨hp.push { cls:=.type "tuple_iterator",data:=.fields #[.ref t1,.int 0 0] },g,d,tk,os⟩) t2 ys:=hl2.at fun o e=>Heap.get?_push_of_some _ e
    wp_walk using wpAny_pyIter_tuple k1,wpAny_pyIter_tuple k2
    exact ⟨_,rfl,h⟩
section
variable {prog:Program} {w:World} {A:Around} {E:Value->Shared->Prop} {s:Shared}
end
end Rz
namespace L2
open PySem PySem.Spec PyProof.Rows
section
variable {X:Cx} {pins:List (Addr×Obj)} {σ:St} {H:Hp} {s:Shared} {h':Heap}
theorem Inv.turnedNew {t':Nat} {ch:List Addr} {a:Addr} {o:HO} (I:Inv X pins σ H s) (hch:∀ b∈ch,FpOk X pins H b) (k:∀ b u,b∉ch->s.heap.get? b=some u->h'.get? b=some u) (hp:s.heap.objs.size<=a)
    (new:ObjOk X.prog X.w (upd H a o) h' a o):Inv X pins σ (upd H a o) { s with heap:=h',toks:=t' }:=by
  have hn:H a=none:=I.hok.fresh hp
  have nch:∀ b u,H b=some u->b∉ch:=fun b u e z=>by rw [(hch b z).1] at e;cases e
  refine I.step (g':=s.gens) (d':=s.drawn) (ch:=ch) (fun b hb=>?_) (fun b u _ _ hc e _=>k b u hc e) (fun b u _ _ hc e _=>⟨u.slots,k b u hc e⟩) (fun b u hc e n=>?_) (fun b u hc e=>⟨u,k b u hc e⟩)
    (fun b xs e=>by rw [Qai (Qao e hn)];exact e) (fun b u v e=>by rw [Qai (Qao e hn)];exact e) (fun b ps e=>⟨#[],by rw [Qai (Qao e hn),e];simp⟩) (fun m hm=>?_) (fun b u e=>?_) I.bare
  · obtain ⟨f0,f1,f2,f3,f4,f5⟩:=hch b hb
    exact ⟨f3,f1,f4,f5⟩
  · rw [Qai (Nat.ne_of_lt (Nat.lt_of_lt_of_le (Heap.lt_size e) hp))];exact n
  · obtain ⟨u,es,ep,ho,r⟩:=hm
    exact ⟨u,es,ep,k _ u (fun z=>(hch _ z).2.1 rfl) ho,r⟩
  · by_cases hb:b=a
    · subst hb;rw [Qad] at e;cases e;exact new
    · rw [Qai hb] at e
      refine (I.hok b u e).stay (fun c v hc q=>k c v ?_ q) (fun c q=>by rw [Qai (Qao q hn)];exact q) fun c xs q=>by rw [Qai (Qao q hn)];exact q
      rcases hc with z | z
      · rw [z];exact nch b u e
      · exact nch c _ z
theorem Inv.turnedAll {t':Nat} {ch:List Addr} (I:Inv X pins σ H s) (hch:∀ b∈ch,FpOk X pins H b) (k:∀ b u,b∉ch->s.heap.get? b=some u->h'.get? b=some u):Inv X pins σ H { s with heap:=h',toks:=t' }:=by
  have nch:∀ b u,H b=some u->b∉ch:=fun b u e z=>by rw [(hch b z).1] at e;cases e
  refine I.step (g':=s.gens) (d':=s.drawn) (ch:=ch) (fun b hb=>?_) (fun b u _ _ hc e _=>k b u hc e) (fun b u _ _ hc e _=>⟨u.slots,k b u hc e⟩) (fun b u hc e n=>n) (fun b u hc e=>⟨u,k b u hc e⟩)
    (fun b xs e=>e) (fun b u v e=>e) (fun b ps e=>⟨#[],by rw [e];simp⟩) (fun m hm=>?_) (fun b u e=>?_) I.bare
  · obtain ⟨f0,f1,f2,f3,f4,f5⟩:=hch b hb
    exact ⟨f3,f1,f4,f5⟩
  · obtain ⟨u,es,ep,ho,r⟩:=hm
    exact ⟨u,es,ep,k _ u (fun z=>(hch _ z).2.1 rfl) ho,r⟩
  · refine (I.hok b u e).stay (fun c v hc q=>k c v ?_ q) (fun c q=>q) fun c xs q=>q
    rcases hc with z | z
    · rw [z];exact nch b u e
    · exact nch c _ z
end
section
variable {X:Cx}
end
end L2
namespace Rk
open PySem PySem.Spec PyProof.Rows L2
def tupO:Option HO->Option (List V)
  | some (.tup xs)=>some xs
  | _=>none
def Qb0 (H:Hp):V->Option (List V)
  | .ref a=>tupO (H a)
  | _=>none
theorem tupOf_at (H:Hp) (a:Addr):Qb0 H (.ref a)=tupO (H a):=rfl
def isT (H:Hp) (x:V):Bool:=(Qb0 H x).isSome
def Kn (p:Addr) (H:Hp):V->Prop
  | .non=>True
  | .bl _=>True
  | .int _=>True
  | .str _=>True
  | .ref a=>a≠p/\((∃ xs,H a=some (.tup xs))∨(∃ xs,H a=some (.lst xs))∨∃ kvs,H a=some (.dK kvs))
  | _=>False
def KnD (p:Addr):Nat->Hp->V->Prop
  | 0,H,x=>Kn p H x
  | n+1,H,x=>Kn p H x/\∀ xs,Qb0 H x=some xs->∀ y∈xs,KnD p n H y
def KX (p:Addr) (H H':Hp):Prop:=∀ b o,b≠p->H b=some o->H' b=some o
theorem KX.refl (p:Addr) (H:Hp):KX p H H:=fun _ _ _ e=>e
theorem KX.trans {p:Addr} {H H1 H2:Hp} (a:KX p H H1) (b:KX p H1 H2):KX p H H2:=fun c o h e=>b c o h (a c o h e)
theorem KX.of {p:Addr} {H H':Hp} (h:Same H H'):KX p H H':=fun b o _ e=>h b o e
theorem KX.upd {p:Addr} {H:Hp} {o:HO}:KX p H (upd H p o):=fun b u n e=>by rw [Qai n];exact e
theorem Kn.keep {p:Addr} {H H':Hp} (k:KX p H H'):∀ {x:V},Kn p H x->Kn p H' x
  | .non,h=>h
  | .bl _,h=>h
  | .int _,h=>h
  | .str _,h=>h
  | .ref a,⟨n,h⟩=>⟨n,by
    rcases h with ⟨xs,e⟩ | ⟨xs,e⟩ | ⟨xs,e⟩
    · exact .inl ⟨xs,k a _ n e⟩
    · exact .inr (.inl ⟨xs,k a _ n e⟩)
    · exact .inr (.inr ⟨xs,k a _ n e⟩)⟩
  | .byt _,h=>h.elim
  | .flt _,h=>h.elim
  | .ty _,h=>h.elim
theorem QbC {p:Addr} {H H':Hp} (k:KX p H H'):∀ {x:V},Kn p H x->Qb0 H' x=Qb0 H x
  | .non,h=>rfl
  | .bl _,h=>rfl
  | .int _,h=>rfl
  | .str _,h=>rfl
  | .ref a,⟨n,h⟩=>by
    rcases h with ⟨xs,e⟩ | ⟨xs,e⟩ | ⟨xs,e⟩<;>rw [tupOf_at,tupOf_at,e,k a _ n e]
  | .byt _,h=>h.elim
  | .flt _,h=>h.elim
  | .ty _,h=>h.elim
theorem KnD.kn {p:Addr} {H:Hp} {x:V}:∀ {n:Nat},KnD p n H x->Kn p H x
  | 0,h=>h
  | _+1,h=>h.1
theorem KnD.keep {p:Addr} {H H':Hp} (k:KX p H H'):∀ {n:Nat} {x:V},KnD p n H x->KnD p n H' x
  | 0,x,h=>Kn.keep k h
  | n+1,x,h=>⟨Kn.keep k h.1,fun xs e y hy=>KnD.keep k (h.2 xs (by rw [<- QbC k h.1];exact e) y hy)⟩
theorem KnD.low {p:Addr} {H:Hp}:∀ {n:Nat} {x:V},KnD p (n+1) H x->KnD p n H x
  | 0,x,h=>h.1
  | n+1,x,h=>⟨h.1,fun xs e y hy=>KnD.low (h.2 xs e y hy)⟩
theorem KnD.tup {p:Addr} {H:Hp} {n:Nat} {a:Addr} {xs:List V} (hp:a≠p) (e:H a=some (.tup xs)) (h:∀ y∈xs,KnD p n H y):KnD p (n+1) H (.ref a):=
  ⟨⟨hp,.inl ⟨xs,e⟩⟩,fun ys z y hy=>h y (by
    have z':some xs=some ys:=by rw [<- z,tupOf_at,e];rfl
    cases z';exact hy)⟩
theorem KnD.int {p:Addr} {H:Hp} (i:Int):∀ (n:Nat),KnD p n H (.int i)
  | 0=>trivial
  | n+1=>⟨trivial,fun _ e=>nomatch e⟩
theorem KnD.bl {p:Addr} {H:Hp} (i:Bool):∀ (n:Nat),KnD p n H (.bl i)
  | 0=>trivial
  | n+1=>⟨trivial,fun _ e=>nomatch e⟩
theorem KnD.str {p:Addr} {H:Hp} (i:Str):∀ (n:Nat),KnD p n H (.str i)
  | 0=>trivial
  | n+1=>⟨trivial,fun _ e=>nomatch e⟩
theorem KnD.non {p:Addr} {H:Hp}:∀ (n:Nat),KnD p n H .non
  | 0=>trivial
  | n+1=>⟨trivial,fun _ e=>nomatch e⟩
theorem KnD.lst {p:Addr} {H:Hp} {a:Addr} {xs:List V} (hp:a≠p) (e:H a=some (.lst xs)):∀ (n:Nat),KnD p n H (.ref a)
  | 0=>⟨hp,.inr (.inl ⟨xs,e⟩)⟩
  | n+1=>⟨⟨hp,.inr (.inl ⟨xs,e⟩)⟩,fun ys z=>by rw [tupOf_at,e] at z;cases z⟩
theorem KnD.dct {p:Addr} {H:Hp} {a:Addr} {kvs:List (Key×V)} (hp:a≠p) (e:H a=some (.dK kvs)):∀ (n:Nat),KnD p n H (.ref a)
  | 0=>⟨hp,.inr (.inr ⟨kvs,e⟩)⟩
  | n+1=>⟨⟨hp,.inr (.inr ⟨kvs,e⟩)⟩,fun ys z=>by rw [tupOf_at,e] at z;cases z⟩
theorem Qei {H:Hp} {a:Addr} {xs:List V} (e:H a=some (.tup xs)):Qb0 H (.ref a)=some xs:=by rw [tupOf_at,e];rfl
def Qkd (H:Hp) (x:V):List Int:=((Qb0 H x).getD []).map fun y=>match y with
  | .int i=>i
  | _=>0
def IntsT (H:Hp) (x:V) (ns:List Int):Prop:=∃ a,x=.ref a/\H a=some (.tup (ns.map V.int))
theorem IntsT.eq {H:Hp} {x:V} {ns:List Int} (h:IntsT H x ns):Qkd H x=ns:=by
  obtain ⟨a,rfl,e⟩:=h
  unfold Qkd
  rw [Qei e]
  show (ns.map V.int).map _=ns
  rw [List.map_map]
  exact List.map_id _
theorem IntsT.keep {H H':Hp} (s:Same H H') {x:V} {ns:List Int} (h:IntsT H x ns):IntsT H' x ns:=by
  obtain ⟨a,e,q⟩:=h
  exact ⟨a,e,s a _ q⟩
theorem Qeb:bootBuiltins "isinstance" = some (.builtin "isinstance"):=by decide +kernel
theorem Qkr:bootBuiltins "int" = some (.type "int"):=by decide +kernel
theorem Qfz:bootBuiltins "bool" = some (.type "bool"):=by decide +kernel
theorem QaB:bootBuiltins "tuple" = some (.type "tuple"):=by decide +kernel
theorem Qea:bootBuiltins "list" = some (.type "list"):=by decide +kernel
theorem Qks:bootBuiltins "all" = some (.builtin "all"):=by decide +kernel
theorem Qbo:bootBuiltins "len" = some (.builtin "len"):=by decide +kernel
theorem bt_max:bootBuiltins "max" = some (.builtin "max"):=by decide +kernel
theorem bt_min:bootBuiltins "min" = some (.builtin "min"):=by decide +kernel
end Rk
namespace L2
open PySem PySem.Spec PyProof.Rows
theorem QdX {J:It} {body:V->Hp->(Hp->Prop)->Prop} {Qn:Hp->Prop} {H:Hp} (n:Nat) (Pv:Nat->Hp->Prop) (h0:Pv 0 H)
    (hs:∀ i H2,i<n->Pv i H2->J.go i H2/\∀ x H3,J.yld i H2 x H3->∀ k:Hp->Prop,(∀ H6,Pv (i+1) H6->k H6)->body x H3 k) (hd:∀ H2,Pv n H2->J.stop n H2/\Qn H2):QgJ J body Qn H:=by
  refine ⟨fun i m H=>m=n - i/\i<=n/\Pv i H,⟨n,by simp,Nat.zero_le _,h0⟩,?_⟩
  rintro i m H2 ⟨rfl,hi,p⟩
  by_cases hlt:i<n
  · obtain ⟨go,st⟩:=hs i H2 hlt p
    exact .inr ⟨go,fun x H3 y=>st x H3 y _ fun H6 p6=>⟨n - (i+1),by omega,rfl,hlt,p6⟩⟩
  · have e:i=n:=by omega
    subst e
    exact .inl (hd H2 p)
end L2
namespace Rk
open PySem PySem.Spec PyProof.Rows L2
theorem range_getD {α:Type} (L:List α) (d:α):(List.range L.length).map (fun i=>L.getD i d)=L:=by
  refine List.ext_getElem? fun i=>?_
  rw [List.getElem?_map]
  by_cases hi:i<L.length
  · rw [List.getElem?_range hi]
    show some (L.getD i d)=L[i]?
    rw [List.getD_eq_getElem?_getD,List.getElem?_eq_getElem hi];rfl
  · have h1:(List.range L.length)[i]? = none:=List.getElem?_eq_none (by rw [List.length_range];omega)
    have h2:L[i]? = none:=List.getElem?_eq_none (by omega)
    rw [h1,h2];rfl
def Qb1 (K:PySem.W.Frag):Sp:=fun vs H Q _=>∃ a ns k,vs=[.ref a,.int k]/\SqL K H a ((ns:List Int).map V.int)/\ns.length<2^20/\0<=k/\∀ c,Q (.int c) H
def spPot:Sp:=fun vs H Q _=>∃ c,vs=[.int c]/\∀ p n,H p=none->Q (.ref p) (upd H p (.lst [.int n]))
def Cs (p:Addr) (H:Hp):List V->List (Int×Int)->Prop:=Paired fun x ij=>∃ d,d≠p/\x=.ref d/\H d=some (.tup [.int ij.1,.int ij.2])
theorem Cs.keep {p:Addr} {H H':Hp} (k:∀ d xs,d≠p->H d=some (.tup xs)->H' d=some (.tup xs)):∀ {ps:List V} {L:List (Int×Int)},Cs p H ps L->Cs p H' ps L:=fun h=>Paired.mapP h fun x ij ⟨d,n,e,q⟩=>⟨d,n,e,k d _ n q⟩
theorem Cs.kx {p:Addr} {H H':Hp} (k:KX p H H') {ps:List V} {L:List (Int×Int)} (h:Cs p H ps L):Cs p H' ps L:=h.keep fun d xs n e=>k d _ n e
theorem Cs.upd {p cl:Addr} {H:Hp} {xs:List V} {o:HO} (e:H cl=some (.lst xs)) {ps:List V} {L:List (Int×Int)} (h:Cs p H ps L):Cs p (L2.upd H cl o) ps L:=h.keep fun d ys n q=>by
  rw [Qai]
  · exact q
  · intro z;rw [z,e] at q;cases q
theorem Cs.len {p:Addr} {H:Hp} {ps:List V} {L:List (Int×Int)} (h:Cs p H ps L):ps.length=L.length:=Paired.length h
theorem Cs.mem {p:Addr} {H:Hp}:∀ {ps:List V} {L:List (Int×Int)},Cs p H ps L->∀ x∈ps,∃ ij∈L,∃ d,d≠p/\x=.ref d/\H d=some (.tup [.int ij.1,.int ij.2])
  | _,_,.nil,x,h=>nomatch h
  | _,_,.cons r t,x,h=>by
    rcases List.mem_cons.mp h with e | e
    · subst e;exact ⟨_,List.mem_cons_self,r⟩
    · obtain ⟨ij,m,q⟩:=Cs.mem t x e;exact ⟨ij,List.mem_cons_of_mem _ m,q⟩
def Before (a b:Int×Int):Prop:=a.1<b.1∨(a.1=b.1/\a.2<b.2)
structure Good (h w:Int) (L:List (Int×Int)):Prop where
  asc:L.Pairwise Before
  ins:∀ x∈L,0<=x.1/\x.1<h/\0<=x.2/\x.2<w
  len:L.length<=36
structure BoardAt (p:Addr) (H:Hp) (q:Addr) (h w:Int) (L:List (Int×Int)):Prop where
  ne:q≠p
  it:∃ c ps,c≠p/\H q=some (.tup [.int h,.int w,.ref c])/\H c=some (.tup ps)/\Cs p H ps L
  h1:1<=h
  h6:h<=6
  w1:1<=w
  w6:w<=6
  good:Good h w L
theorem BoardAt.kx {p:Addr} {H H':Hp} {q:Addr} {h w:Int} {L:List (Int×Int)} (B:BoardAt p H q h w L) (k:KX p H H'):BoardAt p H' q h w L:=by
  obtain ⟨ne,⟨c,ps,nc,e1,e2,cs⟩,h1,h6,w1,w6,g⟩:=B
  exact ⟨ne,⟨c,ps,nc,k q _ ne e1,k c _ nc e2,cs.kx k⟩,h1,h6,w1,w6,g⟩
theorem Qf6 (x:Int) {m:Int} (h:0<m):0<=x % m/\x % m<m:=⟨Int.emod_nonneg _ (by omega),Int.emod_lt_of_pos _ h⟩
def notStar:Expr->Bool
  | .Starred _ _=>false
  | _=>true
theorem QaQ {e:Expr} {es:List Expr} {env:Env} (h:notStar e=true):starEach (e::es) env=(false,eval e env)::starEach es env:=by
  cases e<;>first | rfl | cases h
section
variable {X:Cx}
theorem pa_c {e:Expr} {es:List Expr} {te:TE} {t:TA} (ha:PE X e te) (hr:PA X es t) (hs:notStar e=true:=by rfl):PA X (e::es) (QdC te t):=QaL ha hr (QaQ hs)
end
theorem KnD.mono {p:Addr} {H:Hp} {x:V} {n m:Nat} (h:m<=n) (k:KnD p n H x):KnD p m H x:=by
  induction n with
  | zero=>
            have:m=0:=by omega
            subst this;exact k
  | succ n ih=>
    by_cases e:m=n+1
    · subst e;exact k
    · exact ih (by omega) k.low
def Sm (H:Hp) (x:V):Prop:=∀ ps,Qb0 H x=some ps->ps.length<sizeLine
def Part (p:Addr) (H:Hp) (x:V):Prop:=KnD p 2 H x/\Sm H x
def Thing (p:Addr) (H:Hp) (x:V):Prop:=KnD p 3 H x/\Sm H x/\∀ xs,Qb0 H x=some xs->∀ y∈xs,Sm H y
theorem Sm.keep {p:Addr} {H H':Hp} (k:KX p H H') {x:V} (n:Kn p H x) (h:Sm H x):Sm H' x:=fun ps e=>h ps (by rw [<- QbC k n];exact e)
theorem Part.keep {p:Addr} {H H':Hp} (k:KX p H H') {x:V} (h:Part p H x):Part p H' x:=⟨h.1.keep k,h.2.keep k h.1.kn⟩
theorem Thing.keep {p:Addr} {H H':Hp} (k:KX p H H') {x:V} (h:Thing p H x):Thing p H' x:=
  ⟨h.1.keep k,h.2.1.keep k h.1.kn,fun xs e y hy=>by
    have e':Qb0 H x=some xs:=by rw [<- QbC k h.1.kn];exact e
    exact Sm.keep k (h.1.2 xs e' y hy).kn (h.2.2 xs e' y hy)⟩
theorem Thing.int {p:Addr} {H:Hp} (i:Int):Thing p H (.int i):=⟨KnD.int i 3,(fun _ e=>nomatch e),(fun _ e=>nomatch e)⟩
theorem Thing.bl {p:Addr} {H:Hp} (i:Bool):Thing p H (.bl i):=⟨KnD.bl i 3,(fun _ e=>nomatch e),(fun _ e=>nomatch e)⟩
theorem Thing.str {p:Addr} {H:Hp} (i:Str):Thing p H (.str i):=⟨KnD.str i 3,(fun _ e=>nomatch e),(fun _ e=>nomatch e)⟩
theorem Thing.non {p:Addr} {H:Hp}:Thing p H .non:=⟨KnD.non 3,(fun _ e=>nomatch e),(fun _ e=>nomatch e)⟩
theorem QfS {H:Hp} {a:Addr} {o:HO} (e:H a=some o) (h:tupO (some o)=none) {xs:List V} (z:Qb0 H (.ref a)=some xs):False:=by
  rw [tupOf_at,e,h] at z;cases z
theorem Thing.lst {p:Addr} {H:Hp} {a:Addr} {xs:List V} (hp:a≠p) (e:H a=some (.lst xs)):Thing p H (.ref a):=⟨KnD.lst hp e 3,(fun _ z=>(QfS e rfl z).elim),(fun _ z=>(QfS e rfl z).elim)⟩
theorem Thing.dct {p:Addr} {H:Hp} {a:Addr} {xs:List (Key×V)} (hp:a≠p) (e:H a=some (.dK xs)):Thing p H (.ref a):=⟨KnD.dct hp e 3,(fun _ z=>(QfS e rfl z).elim),(fun _ z=>(QfS e rfl z).elim)⟩
theorem Qdf {H:Hp} {a:Addr} {xs ys:List V} (e:H a=some (.tup xs)) (z:Qb0 H (.ref a)=some ys):ys=xs:=by
  rw [Qei e] at z;cases z;rfl
theorem Thing.tup {p:Addr} {H:Hp} {a:Addr} {xs:List V} (hp:a≠p) (e:H a=some (.tup xs)) (hl:xs.length<sizeLine) (h:∀ y∈xs,Part p H y):Thing p H (.ref a):=
  ⟨KnD.tup hp e fun y hy=>(h y hy).1,(fun ps z=>by rw [Qdf e z];exact hl),fun ys z y hy=>by rw [Qdf e z] at hy;exact (h y hy).2⟩
theorem Part.tup {p:Addr} {H:Hp} {a:Addr} {xs:List V} (hp:a≠p) (e:H a=some (.tup xs)) (hl:xs.length<sizeLine) (h:∀ y∈xs,KnD p 1 H y):Part p H (.ref a):=
  ⟨KnD.tup hp e h,fun ps z=>by rw [Qdf e z];exact hl⟩
theorem Thing.part {p:Addr} {H:Hp} {x:V} (h:Thing p H x):Part p H x:=⟨h.1.low,h.2.1⟩
theorem fm_nil {P:V->Prop}:∀ y∈([]:List V),P y:=fun _ h=>nomatch h
theorem Qh3 {P:V->Prop} {a:V} {l:List V} (h:P a) (k:∀ y∈l,P y):∀ y∈a::l,P y:=fun y hy=>by
  rcases List.mem_cons.mp hy with e | e
  · subst e;exact h
  · exact k y e
theorem Cs.kn {p:Addr} {H:Hp} {ps:List V} {L:List (Int×Int)} (h:Cs p H ps L):∀ x∈ps,KnD p 1 H x:=fun x hx=>by
  obtain ⟨ij,_,d,n,rfl,e⟩:=h.mem x hx
  exact KnD.tup n e (Qh3 (KnD.int _ 0) (Qh3 (KnD.int _ 0) fm_nil))
theorem Cs.part {p:Addr} {H:Hp} {c:Addr} {ps:List V} {L:List (Int×Int)} (n:c≠p) (e:H c=some (.tup ps)) (hl:ps.length<sizeLine) (h:Cs p H ps L):Part p H (.ref c):=Part.tup n e hl h.kn
theorem Qjl {H:Hp} {p q:Addr} {o:HO} (e:H p=some o) (h:H q=none):q≠p:=fun z=>by rw [z,e] at h;cases h
theorem lt_line {n:Nat} (h:n<=1000):n<sizeLine:=Nat.lt_of_le_of_lt h (by decide)
def Fine (p:Addr):Nat->Hp->V->Prop
  | 0,H,x=>Kn p H x/\Sm H x
  | n+1,H,x=>Kn p H x/\Sm H x/\∀ xs,Qb0 H x=some xs->∀ y∈xs,Fine p n H y
theorem Fine.kn {p:Addr} {H:Hp} {x:V}:∀ {n:Nat},Fine p n H x->Kn p H x
  | 0,h=>h.1
  | _+1,h=>h.1
theorem Fine.sm {p:Addr} {H:Hp} {x:V}:∀ {n:Nat},Fine p n H x->Sm H x
  | 0,h=>h.2
  | _+1,h=>h.2.1
theorem Fine.knd {p:Addr} {H:Hp}:∀ {n:Nat} {x:V},Fine p n H x->KnD p n H x
  | 0,_,h=>h.1
  | _+1,_,h=>⟨h.1,fun xs e y hy=>(h.2.2 xs e y hy).knd⟩
theorem Fine.keep {p:Addr} {H H':Hp} (k:KX p H H'):∀ {n:Nat} {x:V},Fine p n H x->Fine p n H' x
  | 0,x,h=>⟨h.1.keep k,h.2.keep k h.1⟩
  | n+1,x,h=>⟨h.1.keep k,h.2.1.keep k h.1,fun xs e y hy=>(h.2.2 xs (by rw [<- QbC k h.1];exact e) y hy).keep k⟩
theorem Fine.thing {p:Addr} {H:Hp} {x:V} (h:∀ n,Fine p n H x):Thing p H x:=⟨(h 3).knd,(h 0).2,fun xs e y hy=>((h 1).2.2 xs e y hy).2⟩
theorem Qcq {p:Addr} {H:Hp} {x:V} (k:Kn p H x) (t:Qb0 H x=none):∀ n,Fine p n H x
  | 0=>⟨k,fun ps e=>by rw [t] at e;cases e⟩
  | _+1=>⟨k,(fun ps e=>by rw [t] at e;cases e),fun ps e=>by rw [t] at e;cases e⟩
theorem QjC {p a:Addr} {H:Hp} {xs:List V} (hp:a≠p) (e:H a=some (.tup xs)) (hl:xs.length<sizeLine) (h:∀ y∈xs,∀ n,Fine p n H y):∀ n,Fine p n H (.ref a)
  | 0=>⟨⟨hp,.inl ⟨xs,e⟩⟩,fun ps z=>by rw [Qdf e z];exact hl⟩
  | n+1=>⟨⟨hp,.inl ⟨xs,e⟩⟩,(fun ps z=>by rw [Qdf e z];exact hl),fun ys z y hy=>h y (by rw [Qdf e z] at hy;exact hy) n⟩
theorem QjD {p a:Addr} {H:Hp} {xs:List V} (hp:a≠p) (e:H a=some (.lst xs)):∀ n,Fine p n H (.ref a):=Qcq ⟨hp,.inr (.inl ⟨xs,e⟩)⟩ (by rw [tupOf_at,e];rfl)
section
variable {X:Cx}
end
def Qe8:Sp:=fun vs H Q _=>∃ p n f,vs=[.ref p,.int f]/\H p=some (.lst [.int n])/\0<f/\f<1073741824/\∀ r H' m,KX p H H'->H' p=some (.lst [.int m])->0<=r->r<f->Q (.int r) H'
def tTupW (t:TA):TE:=fun σ H Q=>t σ H fun xs H1=>xs.length<=1000/\∀ a H2,Same H1 H2->H1 a=none->H2 a=some (.tup xs)->Q (.ref a) H2
def tLstW (t:TA):TE:=fun σ H Q=>t σ H fun xs H1=>xs.length<=1000/\∀ a H2,Same H1 H2->H1 a=none->H2 a=some (.lst xs)->Q (.ref a) H2
section
variable {X:Cx}
theorem Qk5 {es:List Expr} {t:TA} {x1} {pos:Pos} (h:PA X es t):PE X (.Tuple es x1 pos) (tTupW t):=by
  intro pins s σ H Q I hq
  refine wpAny_Tuple_spliced (thn (h pos pins s σ H _ I hq) fun us s1 ⟨xs,H1,I1,r,z,q⟩=>⟨by rw [<- r.length];exact Nat.le_of_lt (lt_line z),?_⟩)
  have hf:H1 s1.heap.objs.size=none:=I1.hok.fresh (Nat.le_refl _)
  refine ⟨.ref s1.heap.objs.size,upd H1 s1.heap.objs.size (.tup xs),I1.laid (t':=s1.toks) (fun b u e=>Heap.get?_push_of_some _ e) (Nat.le_refl _) ?_,rfl,q _ _ (Qae hf) hf Qad⟩
  exact ⟨Nat.le_of_lt (lt_line z),us,r,⟨_,Heap.get?_push_size _ rfl,rfl,_,rfl⟩⟩
theorem Qk6 {es:List Expr} {t:TA} {pos:Pos} (h:PA X es t):PE X (.List es pos) (tLstW t):=by
  intro pins s σ H Q I hq
  refine wpAny_List_spliced (thn (h pos pins s σ H _ I hq) fun us s1 ⟨xs,H1,I1,r,z,q⟩=>⟨by rw [<- r.length];exact Nat.le_of_lt (lt_line z),?_⟩)
  have hf:H1 s1.heap.objs.size=none:=I1.hok.fresh (Nat.le_refl _)
  refine ⟨.ref s1.heap.objs.size,upd H1 s1.heap.objs.size (.lst xs),I1.laid (t':=s1.toks) (fun b u e=>Heap.get?_push_of_some _ e) (Nat.le_refl _) ?_,rfl,q _ _ (Qae hf) hf Qad⟩
  exact ⟨Nat.le_of_lt (lt_line z),us,0,r,Heap.get?_push_size _ rfl⟩
end
def FineA (p:Addr) (H:Hp) (x:V):Prop:=∀ n,Fine p n H x
theorem FineA.keep {p:Addr} {H H':Hp} {x:V} (h:FineA p H x) (k:KX p H H'):FineA p H' x:=fun n=>(h n).keep k
theorem FineA.int {p:Addr} {H:Hp} (i:Int):FineA p H (.int i):=Qcq trivial rfl
theorem FineA.bl {p:Addr} {H:Hp} (i:Bool):FineA p H (.bl i):=Qcq trivial rfl
theorem FineA.tup {p a:Addr} {H:Hp} {xs:List V} (hp:a≠p) (e:H a=some (.tup xs)) (hl:xs.length<=1000) (h:∀ y∈xs,FineA p H y):FineA p H (.ref a):=QjC hp e (lt_line hl) h
theorem FineA.lst {p a:Addr} {H:Hp} {xs:List V} (hp:a≠p) (e:H a=some (.lst xs)):FineA p H (.ref a):=QjD hp e
theorem FineA.thing {p:Addr} {H:Hp} {x:V} (h:FineA p H x):Thing p H x:=Fine.thing h
theorem FineA.part {p:Addr} {H:Hp} {x:V} (h:FineA p H x):Part p H x:=(Fine.thing h).part
end Rk
namespace Rx
open PySem PySem.Spec PySem.Calls PyProof.Rows L2 PySem.W Builtin Builtin.ObjectAttr Builtin.Getset_descriptor
def ExAt (a C:Addr) (h:Heap):Prop:=∃ o vs,h.get? a=some o/\o.cls=.ref C/\o.data=.fields vs
theorem ExAt.ty {M:Model} {h:Heap} {a C:Addr} (x:ExAt a C h):Looks M h (typeOf (.ref a)) (.ref C):=by
  obtain ⟨o,vs,e,c,_⟩:=x
  exact c ▸ (Looks.ld e).andThen .now
structure ExC (K:PySem.W.Frag) (C:Addr):Prop where
  ga:findIn K (.ref C) "__getattribute__" = some (some (.builtin "BaseException.__getattribute__"))
  hk:findIn K (.ref C) "__getattr__" = some none
  bas:mroIn K C (.type "BaseException")=some true
  cls:(clsIn K C).isSome=true
  att:findIn K (.ref C) "__class__" = some (some (.builtin "object.__class__"))
  spc:specialIn K (.builtin "object.__class__") "__get__" = some (some (.builtin "getset_descriptor.__get__"))
  tks:takesIn K (.builtin "object.__class__")=some true
  mro:mroIn K C (.type "object")=some true
section
variable {prog:Program} {w:World} {A:Around} {E:Value->Shared->Prop} {s:Shared} {K:PySem.W.Frag} {a C:Addr}
end
end Rx
namespace Rx
open PySem PySem.Spec PySem.Calls PyProof.Rows L2
section
variable {X:Cx} {E:XK} {C:Addr} {x:Str} {e0:Expr} {te:TE} {np cpos pos:Pos}
end
def exO (a C:Addr):HO:=.ext (ExAt a C)
structure ByC (K:PySem.W.Frag) (C R:Addr):Prop where
  ty:PySem.W.typeIn K (.ref R)=some (.type "type")
  cls:(PySem.W.clsIn K R).isSome=true
  base:PySem.W.mroIn K R (.type "BaseException")=some true
  sub:PySem.W.mroIn K C (.ref R)=some true
section
variable {X:Cx} {pins:List (Addr×Obj)} {σ:L2.St} {H:Hp} {s:Shared}
end
def XP (X:Cx) (pins:List (Addr×Obj)) (Ex:L2.St->Addr->Hp->Prop) (e:Value) (s1:Shared):Prop:=
  ∃ (σ:L2.St) (C:Addr) (H':Hp) (a t:Addr) (B:Heap),e=.ref a/\Heap.FlyingW B X.stack a (.ref C) (.ref t) s1.heap/\H' a=none/\X.s₀.heap.get? a=none/\(∀ p∈X.pn++pins,p.1≠a) /\
    (∀ (h2:Heap) (tk:Nat),B.StaysIn h2->s1.heap.UpToSlots h2->Inv X pins σ H' { s1 with heap:=h2,toks:=tk })/\Ex σ C H'
abbrev TX:=L2.St->Hp->VK->(Addr->Hp->Prop)->Prop
def PEX (X:Cx) (e:Expr) (t:TX):Prop:=∀ (pins:List (Addr×Obj)) (s:Shared) (σ:L2.St) (H:Hp) (Q:VK) (Ex:Addr->Hp->Prop),Inv X pins σ H s->t σ H Q Ex ->
  wpAny (model X.prog X.w) X.A (eval e X.env) (EP X pins σ Q) (XP X pins fun σ1 C H1=>σ1=σ/\Ex C H1) s
section
variable {X:Cx} {k:Nat} {f:Addr} {fd:FuncData} {ps:List Str} {sp:Sp} {x:Str} {p pos:Pos} {e:Expr} {es:List Expr} {t:TA}
end
section
variable {X:Cx} {R:Addr} {i:Nat} {n r:Str} {call hx:Expr} {tc:TX} {th:TE} {rp np hp hpos pos:Pos}
end
structure RoomM (k:Nat) (A:Around):Prop where
  dp:A.depth+3*k+5<recursionLimit
  un:A.units+16*k+200<cLine
theorem RoomM.mono {j k:Nat} {A:Around} (r:RoomM k A) (h:j<=k):RoomM j A:=⟨by have:=r.dp;omega,by have:=r.un;omega⟩
section
variable {P:Program} {w:World} {K:PySem.W.Frag} {mg:Str->Option Value} {base:Heap}
end
section
variable {X:Cx} {k:Nat} {f:Addr} {fd:FuncData} {ps:List Str} {sp:Sp} {x:Str} {p pos:Pos} {e:Expr} {es:List Expr} {t:TA}
end
section
variable {X:Cx}
theorem bools_eq {bs:List Bool} {us:List Value} (r:Vals (bs.map V.bl) us):us=bs.map Value.bool:=by
  induction bs generalizing us with
  | nil=>cases r;rfl
  | cons b bs ih=>
    cases r with
    | cons r t=>
      cases (show _=Value.bool b from r)
      rw [ih t]
      rfl
end
end Rx
namespace Rd
open PySem PySem.Spec PyProof.Rows L2
mutual
inductive Dat (H:Hp):V->PyData->Prop
  | non:Dat H .non .none
  | bl (b:Bool):Dat H (.bl b) (.bool b)
  | int (i:Int):Dat H (.int i) (.int i)
  | str (x:Str):PyData.canLay0 (.str x)=true->Dat H (.str x) (.str x)
  | tup {a:Addr} {xs:List V} {ds:List PyData}:H a=some (.tup xs)->Dats H xs ds->Dat H (.ref a) (.tuple ds)
  | lst {a:Addr} {xs:List V} {ds:List PyData}:H a=some (.lst xs)->Dats H xs ds->Dat H (.ref a) (.list ds)
inductive Dats (H:Hp):List V->List PyData->Prop
  | nil:Dats H [] []
  | cons {x:V} {xs:List V} {d:PyData} {ds:List PyData}:Dat H x d->Dats H xs ds->Dats H (x::xs) (d::ds)
end
mutual
theorem QaP {P:Program} {w:World} {H:Hp} {h:Heap} (ok:HOk P w H h):∀ (d:PyData) (x:V) (v:Value),Dat H x d->RelV x v->(∃ as,Reads h v d as)/\d.canLay0=true
  | .none,_,v,.non,r=>by cases r;exact ⟨⟨_,.none⟩,rfl⟩
  | .bool b,_,v,.bl _,r=>by cases r;exact ⟨⟨_,.bool b⟩,rfl⟩
  | .int i,_,v,.int _,r=>by obtain ⟨t,rfl⟩:=r;exact ⟨⟨_,.int i t⟩,rfl⟩
  | .str z,_,v,.str _ c,r=>by obtain ⟨t,rfl⟩:=r;exact ⟨⟨_,.str z t⟩,c⟩
  | .tuple ds,_,v,.tup (a:=a) (xs:=xs) e q,r=>by
    cases r
    obtain ⟨_,its,rv,o,ho,hc,n,hd⟩:=ok a _ e
    obtain ⟨⟨as,ra⟩,cl⟩:=QaX ok ds xs its q rv
    exact ⟨⟨as,.tuple ho hc hd ra⟩,cl⟩
  | .list ds,_,v,.lst (a:=a) (xs:=xs) e q,r=>by
    cases r
    obtain ⟨_,its,n,rv,ho⟩:=ok a _ e
    obtain ⟨⟨as,ra⟩,cl⟩:=QaX ok ds xs its q rv
    exact ⟨⟨a::as,.list ho rfl rfl ra⟩,cl⟩
  | .dict _,_,_,q,_=>nomatch q
theorem QaX {P:Program} {w:World} {H:Hp} {h:Heap} (ok:HOk P w H h):∀ (ds:List PyData) (xs:List V) (vs:List Value),Dats H xs ds->Vals xs vs->(∃ as,ReadsAll h vs ds as)/\PyData.canLayAll0 ds=true
  | [],_,vs,.nil,r=>by cases r;exact ⟨⟨_,.nil⟩,rfl⟩
  | d::ds,_,vs,.cons (x:=x) (xs:=xs) q qs,r=>by
    cases r with
    | cons r rs=>
      obtain ⟨⟨a1,r1⟩,c1⟩:=QaP ok d x _ q r
      obtain ⟨⟨a2,r2⟩,c2⟩:=QaX ok ds xs _ qs rs
      exact ⟨⟨_,.cons r1 r2⟩,by simp [PyData.canLayAll0,c1,c2]⟩
end
mutual
theorem Qf9 {H H':Hp} (s:Same H H'):∀ (d:PyData) (x:V),Dat H x d->Dat H' x d
  | .none,_,.non=>.non
  | .bool _,_,.bl _=>.bl _
  | .int _,_,.int _=>.int _
  | .str _,_,.str _ c=>.str _ c
  | .tuple ds,_,.tup (xs:=xs) e q=>.tup (s _ _ e) (Qcb s ds xs q)
  | .list ds,_,.lst (xs:=xs) e q=>.lst (s _ _ e) (Qcb s ds xs q)
  | .dict _,_,q=>nomatch q
theorem Qcb {H H':Hp} (s:Same H H'):∀ (ds:List PyData) (xs:List V),Dats H xs ds->Dats H' xs ds
  | [],_,.nil=>.nil
  | d::ds,_,.cons (x:=x) (xs:=xs) q qs=>.cons (Qf9 s d x q) (Qcb s ds xs qs)
end
theorem Dat.same {H H':Hp} {x:V} {d:PyData} (q:Dat H x d) (s:Same H H'):Dat H' x d:=Qf9 s d x q
theorem Dats.same {H H':Hp} {xs:List V} {ds:List PyData} (q:Dats H xs ds) (s:Same H H'):Dats H' xs ds:=Qcb s ds xs q
theorem Dats.length {H:Hp}:∀ {xs:List V} {ds:List PyData},Dats H xs ds->xs.length=ds.length
  | _,_,.nil=>rfl
  | _,_,.cons _ q=>by rw [List.length_cons,List.length_cons,q.length]
theorem Dats.get {H:Hp}:∀ {xs:List V} {ds:List PyData},Dats H xs ds->∀ (i:Nat) (x:V),xs[i]? = some x->∃ d,ds[i]? = some d/\Dat H x d
  | _,_,.nil,i,x,e=>by simp at e
  | _,_,.cons q qs,0,x,e=>by simp at e;subst e;exact ⟨_,rfl,q⟩
  | _,_,.cons q qs,i+1,x,e=>qs.get i x (by simpa using e)
theorem Dats.app {H:Hp}:∀ {xs ys:List V} {ds es:List PyData},Dats H xs ds->Dats H ys es->Dats H (xs++ys) (ds++es)
  | _,_,_,_,.nil,q=>q
  | _,_,_,_,.cons a b,q=>.cons a (b.app q)
section
variable {X:Cx}
def rEqD (X:Cx):R2:=fun x y H Q=>∃ dx dy,Dat H x dx/\Dat H y dy/\X.A.units+min dx.depth dy.depth<cLine/\Q (.bl (PyData.eqv dx dy)) H
theorem op_eqD:OpR X (compareOp .Eq) (rEqD X):=by
  intro pins s σ H x y v u Q I rx ry h
  obtain ⟨dx,dy,qx,qy,hu,q⟩:=h
  obtain ⟨⟨as,ra⟩,ca⟩:=QaP I.hok dx x v qx rx
  obtain ⟨⟨bs,rb⟩,cb⟩:=QaP I.hok dy y u qy ry
  exact SeqAt.compareEq_reads ra rb ca cb hu ⟨.bl _,H,I,rfl,q⟩
open Classical in
noncomputable def eqH (h:Heap) (d:PyData) (y:Value):Bool:=decide (∃ e as,Reads h y e as/\e.canLay0=true/\PyData.eqv e d=true)
open Classical in
theorem eqH_t {h:Heap} {d:PyData} {y:Value} (q:∃ e as,Reads h y e as/\e.canLay0=true/\PyData.eqv e d=true):eqH h d y=true:=by
  unfold eqH
  exact decide_eq_true q
open Classical in
theorem eqH_f {h:Heap} {d:PyData} {y:Value} (q:¬ ∃ e as,Reads h y e as/\e.canLay0=true/\PyData.eqv e d=true):eqH h d y=false:=by
  unfold eqH
  exact decide_eq_false q
theorem Qki {h:Heap} {d e:PyData} {y:Value} {as:List Addr} (r:Reads h y e as) (c:e.canLay0=true):eqH h d y=PyData.eqv e d:=by
  cases q:PyData.eqv e d with
  | true=>exact eqH_t ⟨e,as,r,c,q⟩
  | false=>
    refine eqH_f fun ⟨e',as',r',c',q'⟩=>?_
    rw [<- SeqAt.Reads.unique e e' y as as' c r r',q] at q'
    cases q'
theorem QfA {h:Heap} {d:PyData}:∀ {vs:List Value} {ds:List PyData} {as:List Addr},ReadsAll h vs ds as->PyData.canLayAll0 ds=true->vs.any (eqH h d)=ds.any fun e=>PyData.eqv e d
  | _,_,_,.nil,_=>rfl
  | _,_,_,.cons r rs,c=>by
    simp only [PyData.canLayAll0,Bool.and_eq_true] at c
    rw [List.any_cons,List.any_cons,Qki r c.1,QfA rs c.2]
theorem Qfl {A:Around} {s:Shared} {d:PyData} {v:Value} {bs:List Addr} (rv:Reads s.heap v d bs) (cv:d.canLay0=true):∀ {vs:List Value} {ds:List PyData} {as:List Addr},ReadsAll s.heap vs ds as->PyData.canLayAll0 ds=true->A.units+d.depth<cLine ->
    ∀ u∈vs,SeqAt.EqAt A s u v (eqH s.heap d u)
  | _,_,_,.nil,_,_=>fun u hu=>nomatch hu
  | _,_,_,.cons (d:=e) r rs,c,hu=>fun u hm=>by
    simp only [PyData.canLayAll0,Bool.and_eq_true] at c
    rcases List.mem_cons.mp hm with z | z
    · subst z
      rw [Qki r c.1]
      exact SeqAt.eqAt_reads e d A s _ v _ bs r rv c.1 cv (Nat.lt_of_le_of_lt (Nat.add_le_add_left (Nat.min_le_right _ _) _) hu)
    · exact Qfl rv cv rs c.2 hu u z
def rInD (X:Cx) (neg:Bool):R2:=fun x y H Q=>∃ c ps ds d,y=.ref c/\H c=some (.tup ps)/\Dats H ps ds/\Dat H x d/\X.A.in1.units+d.depth<cLine/\Q (.bl (if neg then !(ds.any fun e=>PyData.eqv e d) else ds.any fun e=>PyData.eqv e d)) H
theorem op_inD:OpR X (compareOp .In) (rInD X false):=by
  intro pins s σ H x y v u Q I rx ry h
  obtain ⟨c,ps,ds,d,rfl,hc,qs,qx,hu,q⟩:=h
  cases ry
  obtain ⟨⟨as,ra⟩,ca⟩:=QaP I.hok d x v qx rx
  obtain ⟨_,its,rv,tp⟩:=I.hok c _ hc
  obtain ⟨⟨bs,rb⟩,cb⟩:=QaX I.hok ds ps its qs rv
  refine SeqAt.in_tupleAt (eqH s.heap d) tp (fun w hw=>Qfl ra ca rb cb hu w (List.mem_toArray.mp hw)) ⟨.bl _,H,I,rfl,?_⟩
  rw [show its.toArray.any (eqH s.heap d)=its.any (eqH s.heap d) by simp,QfA rb cb]
  exact q
end
section
variable {X:Cx}
end
end Rd
namespace L2
open PySem PySem.Spec PyProof.Rows
theorem Qio:bootBuiltins "enumerate" = some (.type "enumerate"):=by decide +kernel
section
variable {X:Cx}
end
section
variable {prog:Program} {w:World} {A:Around} {R:Result->Shared->Prop} {s:Shared}
theorem Qel {elt tg iter:Expr} {ifs:List Expr} {g0:Comprehension} {scope:Scope} {pos:Pos} {it acc:Value} {env:Env}
    (h0:codeAny (model prog w) A (.compLoop (.ListComp elt [g0,⟨tg,iter,ifs,0⟩] scope pos) 1 it acc env) R s)
    (h:wpAny (model prog w) A (pyIter it) (fun it' s'=>codeAny (model prog w) A (.compLoop (.ListComp elt [g0,⟨tg,iter,ifs,0⟩] scope pos) 1 it' acc env) R s') (notedBy (model prog w) A env fun x s'=>R (.error x) s') s) :
    codeAny (model prog w) A (.compStart (.ListComp elt [g0,⟨tg,iter,ifs,0⟩] scope pos) 1 it acc env) R s:=by
  refine codeAny_of_tree ?_
  show wpAny _ _ ((compStart (.ListComp elt [g0,⟨tg,iter,ifs,0⟩] scope pos) 1 it acc env).onRaise (fun x=>do noteFrame x env;standAt theWindowsPlace)) _ _ s
  refine wpAny_notedAt ?_
  unfold compStart
  show wpAny _ _ (ask >>= _) _ _ s
  refine wpAny_bind (wpAny_askSetting (wpAny_ite ?_))
  split
  · first
      | exact wpAny_bind (wpAny_pure (wpAny_pure ⟨rfl,h0⟩))
      | exact wpAny_pure ⟨rfl,h0⟩
  · first
      | exact wpAny_bind (wpAny_rule (wpAny_bind (wpAny_standAt (wpAny_bind (wpAny_mono h (fun it' s' h'=>wpAny_pure ⟨rfl,h'⟩) fun _ _ x=>x)))))
      | exact wpAny_bind (wpAny_rule (wpAny_bind (wpAny_standAt (wpAny_bind (wpAny_mono h (fun it' s' h'=>wpAny_pure (wpAny_pure ⟨rfl,h'⟩)) fun _ _ x=>x)))))
end
theorem QgI {Y:Cx} {elt tg iter:Expr} {ifs:List Expr} {g0:Comprehension} {scope:Scope} {cpos:Pos} {it D:Addr} (Q:PySem.Fin->Shared->Prop) (E:Value->Shared->Prop) (s:Shared)
    (h:wpAny (model Y.prog Y.w) Y.A (pyNext (.ref it)) (fun r s1=>match r with
      | none=>Q (.done .next) s1
      | some v=>wpAny (model Y.prog Y.w) Y.A (letOwnedTupleGo tg (.ref it) v) (fun _ s2=>QjK Y tg ifs (Qiz Y elt D) v (fun s3=>Q (.again (.compLoop (.ListComp elt [g0,⟨tg,iter,ifs,0⟩] scope cpos) 1 (.ref it) (.ref D) Y.env)) s3) s2) E s1) E s) :
    wpAny (model Y.prog Y.w) Y.A (compTurn (.ListComp elt [g0,⟨tg,iter,ifs,0⟩] scope cpos) 1 (.ref it) (.ref D) Y.env) Q E s:=by
  have e:compTurn (.ListComp elt [g0,⟨tg,iter,ifs,0⟩] scope cpos) 1 (.ref it) (.ref D) Y.env=(do
      standAt iter.pos
      match <- pyNext (.ref it) with
      | none=>pure (.done .next)
      | some v=>
        letOwnedTupleGo tg (.ref it) v
        assign tg Y.env v
        let mut ok:=true
        for c in ifs do
          if ok then ok <- isTrue c Y.env (eval c Y.env)
        if ok then
          (do let _ <- call (.builtin "list.append") [.ref D,<- eval elt Y.env])
        again (.compLoop (.ListComp elt [g0,⟨tg,iter,ifs,0⟩] scope cpos) 1 (.ref it) (.ref D) Y.env)):=by rfl
  rw [e]
  refine wpAny_bind (wpAny_standAt (wpAny_bind (thn h fun r s1 h1=>?_)))
  cases r with
  | none=>exact wpAny_pure h1
  | some v=>
    refine wpAny_bind (thn h1 fun _ s2 h2=>?_)
    refine wpAny_bind (wpAny_mono h2 (fun _ s4 h4=>wpAny_bind (wpAny_mono h4 (fun ok s5 h5=>?_) fun _ _ f=>f.elim)) fun _ _ f=>f.elim)
    cases ok with
    | false=>exact wpAny_pure h5
    | true=>exact wpAny_bind (wpAny_bind (wpAny_mono h5 (fun x s6 h6=>wpAny_bind (wpAny_mono h6 (fun _ s7 h7=>wpAny_pure (wpAny_pure h7)) fun _ _ f=>f.elim)) fun _ _ f=>f.elim))
def Qiy (Y:Cx) (e:Expr) (iter:Expr) (D:Addr):Act:=fun Q s=>wpAny (model Y.prog Y.w) Y.A (eval iter Y.env) (fun x s1=>wpAny (model Y.prog Y.w) Y.A (pyIter x)
  (fun itv s2=>codeAny (model Y.prog Y.w) Y.A (.compStart e 1 itv (.ref D) Y.env) (fun r s3=>match r with | .ok _=>Q s3 | .error _=>False) s2) (fun _ _=>False) s1) (fun _ _=>False) s
def bNest (wi:TI) (g:TG) (tc:TT) (p:Addr) (te:TE):St->Hp->(Hp->Prop)->Prop:=fun σ H k=>wi σ H fun J H1=>QgJ J (bOf σ g tc (bElt p te)) k H1
theorem Qiq {Y:Cx} {σ:St} {elt tg iter:Expr} {ifs:List Expr} {g0:Comprehension} {scope:Scope} {cpos:Pos} {D:Addr} {wi:TI} {g:TG} {tc:TT} {te:TE} (hx:Y.xe=fun _ _=>False) (hc:Y.calm=true)
    (hi:PI Y tg iter wi) (hg:PG Y tg g) (ht:PTs Y ifs tc) (he:PE Y elt te):QeY Y σ (Qiy Y (.ListComp elt [g0,⟨tg,iter,ifs,0⟩] scope cpos) iter D) (bNest wi g tc D te σ):=by
  intro pins s H k Q I h hQ
  have hx':∀ (v:Value) (s':Shared),Y.xe v s'->False:=fun v s' z=>by rw [hx] at z;exact z
  refine wpAny_mono (hi pins s σ H _ I h) (fun v s1 h1=>wpAny_mono h1 (fun itv s2 h2=>?_) hx') hx'
  obtain ⟨it,fp,tn,J,H2,e,I2,T,st2,f2,hW⟩:=h2
  subst e
  have loop:codeAny (model Y.prog Y.w) Y.A (.compLoop (.ListComp elt [g0,⟨tg,iter,ifs,0⟩] scope cpos) 1 (.ref it) (.ref D) Y.env) (fun r s3=>match r with | .ok _=>Q s3 | .error _=>False) s2:=
    Qcc (Y:=Y) (gens:=[g0,⟨tg,iter,ifs,0⟩]) (d:=1) hc T st2 f2 (fun Q E s h=>QgI Q E s h) (fun x u r=>Qec hx hg ht (fun σ4=>Qed hx he) x u r) I2 hW fun s' H' I' q=>hQ s' H' I' q
  exact Qel loop (T.self _ 0 _ _ _ st2 loop)
theorem Qgl {Y:Cx} {elt tg iter tg2 iter2:Expr} {ifs ifs2:List Expr} {scope:Scope} {cpos:Pos} {it D:Addr} (hs:∀ x,foldedSetIterable iter2 Y.env x=pure x) (Q:PySem.Fin->Shared->Prop) (E:Value->Shared->Prop) (s:Shared)
    (h:wpAny (model Y.prog Y.w) Y.A (pyNext (.ref it)) (fun r s1=>match r with
      | none=>Q (.done .next) s1
      | some v=>wpAny (model Y.prog Y.w) Y.A (letOwnedTupleGo tg (.ref it) v) (fun _ s2=>QjK Y tg ifs (Qiy Y (.ListComp elt [⟨tg,iter,ifs,0⟩,⟨tg2,iter2,ifs2,0⟩] scope cpos) iter2 D) v (fun s3=>Q (.again (.compLoop (.ListComp elt [⟨tg,iter,ifs,0⟩,⟨tg2,iter2,ifs2,0⟩] scope cpos) 0 (.ref it) (.ref D) Y.env)) s3) s2) E s1) E s) :
    wpAny (model Y.prog Y.w) Y.A (compTurn (.ListComp elt [⟨tg,iter,ifs,0⟩,⟨tg2,iter2,ifs2,0⟩] scope cpos) 0 (.ref it) (.ref D) Y.env) Q E s:=by
  have e:compTurn (.ListComp elt [⟨tg,iter,ifs,0⟩,⟨tg2,iter2,ifs2,0⟩] scope cpos) 0 (.ref it) (.ref D) Y.env=(do
      standAt iter.pos
      match <- pyNext (.ref it) with
      | none=>pure (.done .next)
      | some v=>
        letOwnedTupleGo tg (.ref it) v
        assign tg Y.env v
        let mut ok:=true
        for c in ifs do
          if ok then ok <- isTrue c Y.env (eval c Y.env)
        if ok then
          let x <- eval iter2 Y.env
          standAt iter2.pos
          let x <- foldedSetIterable iter2 Y.env x
          let _ <- runOwn (.compStart (.ListComp elt [⟨tg,iter,ifs,0⟩,⟨tg2,iter2,ifs2,0⟩] scope cpos) 1 (<- holding [x] (pyIter x)) (.ref D) Y.env) Y.env
        again (.compLoop (.ListComp elt [⟨tg,iter,ifs,0⟩,⟨tg2,iter2,ifs2,0⟩] scope cpos) 0 (.ref it) (.ref D) Y.env)):=by rfl
  rw [e]
  refine wpAny_bind (wpAny_standAt (wpAny_bind (thn h fun r s1 h1=>?_)))
  cases r with
  | none=>exact wpAny_pure h1
  | some v=>
    refine wpAny_bind (thn h1 fun _ s2 h2=>?_)
    refine wpAny_bind (wpAny_mono h2 (fun _ s4 h4=>wpAny_bind (wpAny_mono h4 (fun ok s5 h5=>?_) fun _ _ f=>f.elim)) fun _ _ f=>f.elim)
    cases ok with
    | false=>exact wpAny_pure h5
    | true=>
      refine wpAny_bind (wpAny_mono h5 (fun x s6 h6=>wpAny_bind (wpAny_standAt ?_)) fun _ _ f=>f.elim)
      rw [hs x]
      refine wpAny_bind (wpAny_pure (wpAny_bind (wpAny_holding (wpAny_mono h6 (fun itv s7 h7=>?_) fun _ _ f=>f.elim))))
      refine wpAny_bind (wpAny_runOwn (h:=none) (codeAny_mono h7 fun r s8 h8=>?_))
      cases r with
      | error z=>exact h8.elim
      | ok fl=>exact wpAny_pure h8
def QjP (cap:List (Option Nat)) (wi:TI) (g:TG) (tc:TT) (wi2:TI) (g2:TG) (tc2:TT) (te:TE):TE:=fun σ H Q=>wi σ H fun J H1=>∀ p,H1 p=none->QgJ J (bOf (capS cap σ) g tc (bNest wi2 g2 tc2 p te)) (Q (.ref p)) (upd H1 p (.lst []))
end L2
namespace Rk
open PySem PySem.Spec PyProof.Rows L2 Rd
def pairD (ij:Int×Int):PyData:=.tuple [.int ij.1,.int ij.2]
end Rk
namespace Rr
open PySem PyProof.Rows
section
variable {prog:Program} {w:World} {A:Around} {E:Value->Shared->Prop} {s:Shared}
theorem gather {Q:List Value->Shared->Prop} {r:Addr} {a b:Int} {t u v:Tok} {n:Nat} (hh:A.handled=none) (hr:IsRange s.heap r a b 1 t u v) (hsm:Builtin.Range.small a b 1=true) (hn:Builtin.Range.rangeSize a b 1=n) (hl:n<=2^24)
    (hQ:∀ (h':Heap) (tk:Nat) (acc:Array Value),(∀ c o,s.heap.get? c=some o->h'.get? c=some o)->ItemsOf (fun i v=>∃ t,v=.int (a+i*1) t) acc n->Q acc.toList { s with heap:=h',toks:=tk }) :
    wpAny (model prog w) A (collect (.ref r)) Q E s:=by
  unfold collect
  refine wpAny_bind (wpAny_runValue (codeAny_builtin F.entry_proto_collect ?_))
  rw [Around.under_plainId F.plain_proto_collect _]
  show wpAny _ A.in1 (newList [] >>= fun l=>again (.builtin "list.__iadd__" ⟨[l,.ref r],[]⟩)) _ _ s
  refine wpAny_bind (wpAny_newObj_type (wpAny_pure ⟨plainId_quiet F.plain_list_iadd _,codeAny_builtin F.entry_list_iadd ?_⟩))
  rw [Around.under_plainId F.plain_list_iadd _]
  have hS:(s.heap.push { cls:=.type "list",data:=.seq ([]:List Value).toArray }).get? s.heap.objs.size=some { cls:=.type "list",data:=.seq #[] }:=Heap.get?_push_size _ rfl
  show wpAny _ A.in1 (Builtin.List.listExtendWith (.ref s.heap.objs.size) (.ref r) (.ref s.heap.objs.size)) _ _ _
  refine wpAny_extend_range (A:=A) (R:=fun rr s'=>match rr with
    | .ok (.ret v)=>wpAny (model prog w) A (match v with
      | .ref a=>do
        let o <- load a
        match o.data with
        | .seq xs _=>pure xs.toList
        | _=>unsupported "internal:collect"
      | _=>unsupported "internal:collect") Q E s'
    | .ok _=>False
    | .error e=>E e s') (s:={ s with heap:=s.heap.push { cls:=.type "list",data:=.seq ([]:List Value).toArray } }) hh (Heap.get?_push_of_some _ hr) hsm hn hl s.heap.objs.size (.ref s.heap.objs.size) 0 hS fun h' tk acc' c' kp hS' hacc=>?_
  show wpAny _ A (load s.heap.objs.size >>= _) _ _ _
  refine wpAny_bind (wpAny_load hS' (wpAny_pure (hQ h' tk acc' (fun c o e=>kp c o (Nat.ne_of_lt (Heap.lt_size e)) (Heap.get?_push_of_some _ e)) hacc)))
theorem new_of (r:Addr) (a b:Int) (t u v:Tok) (n:Nat) (hsm:Builtin.Range.small a b 1=true) (hn:Builtin.Range.rangeSize a b 1=n) (hl:n<=1000) :
    Meets (Builtin.«tuple.__new__» ⟨[.type "tuple",.ref r],[]⟩) (fun A R s=>A.handled=none/\IsRange s.heap r a b 1 t u v/\∀ (h':Heap) (tk:Nat) (acc:Array Value),(∀ c o,s.heap.get? c=some o->h'.get? c=some o)->ItemsOf (fun i v=>∃ t,v=.int (a+i*1) t) acc n ->
        R (.ok (.ret (.ref h'.objs.size))) { s with heap:=h'.push { cls:=.type "tuple",data:=.seq acc },toks:=tk }):=
  .of_wp fun prog w A R s h=>by
    obtain ⟨hh,hr,h⟩:=h
    have hsub:=sub_tuple_self
    have hinit:=init_tuple_lookup
    have hmh:=madeHere_tuple
    have hT:s.TypeIs (.ref r) "range" := ⟨_,hr,rfl⟩
    have hh1:A.in1.handled=none:=hh
    wp_walk using wpAny_typeOf hT,gather hh1 hr hsm hn (Nat.le_trans hl (by decide))
    intro h' tk acc kp hacc
    have hz:acc.size=n:=hacc.1
    show wpAny _ _ (Builtin.Tuple.tupleExact acc.toList.toArray >>= fun v=>ret v) _ _ _
    unfold Builtin.Tuple.tupleExact
    have e:acc.toList.toArray=acc:=by simp
    rw [e]
    refine wpAny_bind (wpAny_newObj_type ?_ (by show acc.size<=sizeLine;rw [hz];exact Nat.le_trans hl (by decide)))
    exact wpAny_pure ⟨_,rfl,h h' tk acc kp hacc⟩
theorem call_of {Q:Value->Shared->Prop} {r:Addr} {a b:Int} {t u v:Tok} {n:Nat} (hh:A.handled=none) (hr:IsRange s.heap r a b 1 t u v) (hsm:Builtin.Range.small a b 1=true) (hn:Builtin.Range.rangeSize a b 1=n) (hl:n<=1000)
    (hQ:∀ (h':Heap) (tk:Nat) (acc:Array Value),(∀ c o,s.heap.get? c=some o->h'.get? c=some o)->ItemsOf (fun i v=>∃ t,v=.int (a+i*1) t) acc n->Q (.ref h'.objs.size) { s with heap:=h'.push { cls:=.type "tuple",data:=.seq acc },toks:=tk }) :
    wpAny (model prog w) A (call (.type "tuple") [.ref r]) Q E s:=
  callType_new F.called_tuple (by decide) (F.typeCall_tuple_1 _) (F.newCall_tuple_1 _) (fun obj=>F.args_object_init_2 obj _) F.entry_tuple_new (new_of r a b t u v n hsm hn hl)
    ⟨hh,hr,fun h' tk acc kp hacc=>⟨⟨_,Heap.get?_push_size _ rfl,rfl⟩,hQ h' tk acc kp hacc⟩⟩
end
end Rr
namespace L2
open PySem PySem.Spec PyProof.Rows
def tRange (ta:TA):TE:=fun σ H Q=>ta σ H fun vs H1=>∃ j,vs=[.int j]/\∀ r H2,Same H1 H2->H1 r=none->H2 r=some (.rng 0 j)->Q (.ref r) H2
section
variable {X:Cx}
theorem QdT {a:Expr} {ta:TA} {p pos:Pos} (hg:Gl X "range") (hm:X.mg "range" = none) (ha:PA X [a] ta) (hs:starEach [a] X.env=[(false,eval a X.env)]:=by rfl):PE X (.Call (.Name "range" p) [a] [] pos) (tRange ta):=by
  intro pins s σ H Q I h
  refine wpAny_Call_Name_kw (Qdt I hg hm boot_range ?_)
  refine PyProof.Rows.callWith_type1 (thn (ha pos pins s σ H _ I h) fun us s1 ⟨vs,H1,I1,r1,q1⟩=>?_) hs rfl
  obtain ⟨j,e,q⟩:=q1
  subst e
  obtain ⟨u,rfl,ru⟩:=QcC r1
  obtain ⟨t,rfl⟩:=ru
  refine call_range_1 ?_
  have hf:H1 s1.heap.objs.size=none:=I1.hok.fresh (Nat.le_refl _)
  refine ⟨.ref s1.heap.objs.size,upd H1 s1.heap.objs.size (.rng 0 j),I1.laid (t':=s1.toks+1+1) (fun b u e=>Heap.get?_push_of_some _ e) (Nat.le_refl _) ⟨_,_,_,Heap.get?_push_size _ rfl⟩,rfl,q _ _ (Qae hf) hf Qad⟩
theorem Qdu {acc:Array Value} {n:Nat} (h:ItemsOf (fun i v=>∃ t,v=Value.int ((0:Int)+i*1) t) acc n):Vals ((List.range n).map fun i=>V.int (i:Nat)) acc.toList:=by
  obtain ⟨hs,hi⟩:=h
  have key:∀ (m:Nat) (l:List Value) (o:Nat),l.length=m->(∀ i v,l[i]? = some v->∃ t,v=Value.int ((0:Int)+((o+i:Nat):Int)*1) t)->Vals ((List.range' o m).map fun i=>V.int (i:Nat)) l:=by
    intro m
    induction m with
    | zero=>intro l o hl _;cases l with
      | nil=>exact .nil
      | cons a b=>cases hl
    | succ m ih=>
      intro l o hl hv
      cases l with
      | nil=>cases hl
      | cons a b=>
        rw [List.range'_succ,List.map_cons]
        refine .cons ?_ (ih b (o+1) (by simpa using hl) fun i v e=>?_)
        · obtain ⟨t,rfl⟩:=hv 0 a rfl
          exact ⟨t,by simp⟩
        · obtain ⟨t,rfl⟩:=hv (i+1) v (by simpa using e)
          exact ⟨t,by congr 3;omega⟩
  rw [List.range_eq_range']
  refine key n acc.toList 0 (by simpa using hs) fun i v e=>?_
  have:=hi i v (by simpa using e)
  simpa using this
def QkN:List V->Hp->VK->Prop:=fun xs H Q=>∃ r j,xs=[.ref r]/\H r=some (.rng 0 j) /\ -1000<=j/\j<=1000/\∀ t H2,Same H H2->H t=none->H2 t=some (.tup ((List.range j.toNat).map fun i=>V.int (i:Nat)))->Q (.ref t) H2
theorem Qfw (hc:X.calm=true):CallR X (.type "tuple") QkN:=by
  intro pins s σ H xs us Q I r h
  obtain ⟨a,j,rfl,ha,h1,h2,q⟩:=h
  obtain ⟨u,rfl,ru⟩:=QcC r
  cases (show u=Value.ref a from ru)
  obtain ⟨t1,t2,t3,e⟩:=I.hok a _ ha
  have hn:Builtin.Range.rangeSize 0 j 1=((j.toNat:Nat):Int):=by rw [rangeSize_one];split<;>omega
  refine Rr.call_of (n:=j.toNat) (I.ok.hd hc) (show IsRange s.heap a 0 j 1 t1 t2 t3 from e) (small_one (by omega) (by omega) (by omega) (by omega)) hn (by omega) fun h' tk acc kp hacc=>?_
  have hz:acc.size=j.toNat:=hacc.1
  have rv:=Qdu hacc
  have I1:Inv X pins σ H { s with heap:=h',toks:=tk }:=I.kept kp
  have hf:H h'.objs.size=none:=I1.hok.fresh (Nat.le_refl _)
  refine ⟨.ref h'.objs.size,upd H h'.objs.size (.tup ((List.range j.toNat).map fun i=>V.int (i:Nat))),I1.laid (t':=tk) (fun b u e=>Heap.get?_push_of_some _ e) (Nat.le_refl _) ⟨?_,acc.toList,rv,⟨_,Heap.get?_push_size _ rfl,rfl,0,by simp⟩⟩,rfl,q _ _ (Qae hf) hf Qad⟩
  rw [List.length_map,List.length_range]
  exact Nat.le_of_lt (Rk.lt_line (by omega))
end
end L2
namespace Rs
open PySem PySem.W PyProof.Rows
def sp {α:Type} (n:Nat) (c:Nat->Nat->Bool):KasT α->(α->Prop)->Prop
  | .ret a,Q=>Q a
  | .ask i j f,Q=>i<n/\j<n/\sp n c (f (c i j)) Q
theorem QaY {α:Type} {n:Nat} {c:Nat->Nat->Bool} {Q Q':α->Prop} (h:∀ a,Q a->Q' a):∀ {t:KasT α},sp n c t Q->sp n c t Q'
  | .ret a,q=>h a q
  | .ask i j f,q=>⟨q.1,q.2.1,QaY h (t:=f (c i j)) q.2.2⟩
theorem Qci {α β:Type} {n:Nat} {c:Nat->Nat->Bool} {f:α->KasT β} {Q:β->Prop}:∀ {t:KasT α},sp n c t (fun a=>sp n c (f a) Q)->sp n c (t.bind f) Q
  | .ret a,q=>q
  | .ask i j g,q=>⟨q.1,q.2.1,Qci (t:=g (c i j)) q.2.2⟩
theorem QfC {α:Type} {n:Nat} {c:Nat->Nat->Bool} {cmp:Nat->Nat->(Bool->Shared->Prop)->Shared->Prop} {s:Shared} {Q:α->Shared->Prop} (hc:∀ i j (C:Bool->Shared->Prop),i<n->j<n->C (c i j) s->cmp i j C s) :
    ∀ {t:KasT α},sp n c t (fun a=>Q a s)->t.kasWp cmp Q s
  | .ret a,q=>q
  | .ask i j f,q=>hc i j _ q.1 q.2.1 (QfC hc (t:=f (c i j)) q.2.2)
section
variable {n:Nat} {K:Nat->Int}
abbrev cK (K:Nat->Int) (i j:Nat):Bool:=decide (K i<K j)
structure Good (n:Nat) (p:Array Nat):Prop where
  perm:p.toList.Perm (List.range n)
theorem Good.size {p:Array Nat} (g:Good n p):p.size=n:=by
  have:=g.perm.length_eq
  rw [List.length_range,Array.length_toList] at this
  exact this
def at_ (p:Array Nat) (i:Nat):Nat:=p.getD i 0
theorem Qit {p:Array Nat} {i:Nat} (h:i<p.size):p[i]? = some (at_ p i):=by
  unfold at_
  rw [Array.getD_eq_getD_getElem?,Array.getElem?_eq_getElem h]
  rfl
theorem QjI {p q:Array Nat} {i j:Nat} (h:p[i]? = q[j]?):at_ p i=at_ q j:=by
  unfold at_
  rw [Array.getD_eq_getD_getElem?,Array.getD_eq_getD_getElem?,h]
theorem Good.lt {p:Array Nat} (g:Good n p) (h0:0<n) (i:Nat):at_ p i<n:=by
  by_cases h:i<p.size
  · have e:=Qit h
    have m:at_ p i∈p.toList:=by
      have:=Array.mem_of_getElem? e
      exact Array.mem_toList_iff.mpr this
    exact List.mem_range.mp (g.perm.mem_iff.mp m)
  · unfold at_
    rw [Array.getD_eq_getD_getElem?,Array.getElem?_eq_none (by omega)]
    exact h0
theorem Good.inj {p:Array Nat} (g:Good n p) {i j:Nat} (hi:i<n) (hj:j<n) (e:at_ p i=at_ p j):i=j:=by
  have nd:p.toList.Nodup:=g.perm.nodup_iff.mpr List.nodup_range
  have hs:=g.size
  have hi':i<p.toList.length:=by rw [Array.length_toList];omega
  have hj':j<p.toList.length:=by rw [Array.length_toList];omega
  have ei:p.toList[i]=at_ p i:=by
    have:=Qit (p:=p) (i:=i) (by omega)
    rw [Array.getElem?_eq_getElem (by omega)] at this
    rw [Array.getElem_toList]
    exact Option.some.inj this
  have ej:p.toList[j]=at_ p j:=by
    have:=Qit (p:=p) (i:=j) (by omega)
    rw [Array.getElem?_eq_getElem (by omega)] at this
    rw [Array.getElem_toList]
    exact Option.some.inj this
  have pw:=List.pairwise_iff_getElem.mp nd
  rcases Nat.lt_trichotomy i j with h | h | h
  · exact absurd (ei.trans (e.trans ej.symm)) (pw i j hi' hj' h)
  · exact h
  · exact absurd (ej.trans (e.symm.trans ei.symm)) (pw j i hj' hi' h)
def kk (K:Nat->Int) (p:Array Nat) (i:Nat):Int:=K (at_ p i)
def Adj (K:Nat->Int) (p:Array Nat) (m:Nat):Prop:=∀ i,i+1<m->kk K p i<=kk K p (i+1)
def Dsc (K:Nat->Int) (p:Array Nat) (m:Nat):Prop:=∀ i,i+1<m->kk K p (i+1)<kk K p i
theorem Adj.le {p:Array Nat} {m:Nat} (h:Adj K p m) {i:Nat}:∀ {j:Nat},i<=j->j<m->kk K p i<=kk K p j
  | 0,hij,_=>by cases Nat.le_zero.mp hij;exact Int.le_refl _
  | j+1,hij,hj=>by
    by_cases e:i=j+1
    · rw [e];exact Int.le_refl _
    · exact Int.le_trans (h.le (i:=i) (j:=j) (by omega) (by omega)) (h j hj)
theorem QiL {p:Array Nat} (g:Good n p) (i j:Nat):Good n (kas_rev p i j):=⟨(Array.perm_iff_toList_perm.mp (mirror_perm p i j _)).trans g.perm⟩
theorem QjV {p:Array Nat} {m k:Nat} (hm:m<=p.size) (hk:k<m):at_ (kas_rev p 0 m) k=at_ p (m - 1 - k):=by
  refine QjI ?_
  have:=getElem?_mirror_all (xs:=p) (i:=0) (j:=m) hm k
  rw [if_pos ⟨Nat.zero_le _,hk⟩,Nat.zero_add] at this
  exact this
theorem QkM {p:Array Nat} {m:Nat} (hm:m<=p.size) (d:Dsc K p m):Adj K (kas_rev p 0 m) m:=by
  intro i hi
  unfold kk
  rw [QjV hm (by omega),QjV hm hi]
  have:=d (m - 1 - (i+1)) (by omega)
  have e:m - 1 - (i+1)+1=m - 1 - i:=by omega
  rw [e] at this
  exact Int.le_of_lt this
theorem QgO {p:Array Nat} (g:Good n p) (h0:0<n):∀ (f a:Nat),1<=a->Adj K p a ->
    sp n (cK K) (kas_asc p f a) (fun m=>a<=m/\m<=a+f/\Adj K p m/\(m=a+f∨kk K p m<kk K p (m - 1)))
  | 0,a,_,h=>⟨Nat.le_refl _,Nat.le_refl _,h,.inl rfl⟩
  | f+1,a,ha,h=>by
    refine ⟨g.lt h0 a,g.lt h0 (a - 1),?_⟩
    show sp n (cK K) (if decide (kk K p a<kk K p (a - 1))=true then .ret a else kas_asc p f (a+1)) _
    by_cases e:kk K p a<kk K p (a - 1)
    · rw [decide_eq_true e,if_pos rfl]
      exact ⟨Nat.le_refl _,Nat.le_add_right _ _,h,.inr e⟩
    · rw [decide_eq_false e,if_neg (by simp)]
      refine QaY ?_ (QgO g h0 f (a+1) (by omega) ?_)
      · rintro m ⟨h1,h2,h3,h4⟩
        exact ⟨by omega,by omega,h3,h4.imp (fun q=>by omega) id⟩
      · intro i hi
        by_cases q:i+1<a
        · exact h i q
        · have e1:i=a - 1:=by omega
          have e2:i+1=a:=by omega
          rw [e2,e1]
          exact Int.not_lt.mp e
theorem kk_ne (inj:∀ i j,i<n->j<n->K i=K j->i=j) {p:Array Nat} (g:Good n p) {i j:Nat} (hi:i<n) (hj:j<n) (h:i≠j):kk K p i≠kk K p j:=
  fun e=>h (g.inj hi hj (inj _ _ (g.lt (by omega) i) (g.lt (by omega) j) e))
theorem QgN (inj:∀ i j,i<n->j<n->K i=K j->i=j) {p:Array Nat} (g:Good n p) (h0:0<n):∀ (f a:Nat),1<=a->a+f<=n->Dsc K p a ->
    sp n (cK K) (kas_desc f p a 0) (fun r=>r.1=p/\r.2.2=0/\a<=r.2.1/\r.2.1<=a+f/\Dsc K p r.2.1)
  | 0,a,_,_,h=>⟨rfl,rfl,Nat.le_refl _,Nat.le_refl _,h⟩
  | f+1,a,ha,haf,h=>by
    refine ⟨g.lt h0 a,g.lt h0 (a - 1),?_⟩
    show sp n (cK K) (if decide (kk K p a<kk K p (a - 1))=true then (if 0 > 0 then kas_desc f (kas_rev p (a - (0+1)) a) (a+1) 0 else kas_desc f p (a+1) 0) else _) _
    by_cases e:kk K p a<kk K p (a - 1)
    · rw [decide_eq_true e,if_pos rfl,if_neg (by omega)]
      refine QaY ?_ (QgN inj g h0 f (a+1) (by omega) (by omega) ?_)
      · rintro r ⟨h1,h2,h3,h4,h5⟩
        exact ⟨h1,h2,by omega,by omega,h5⟩
      · intro i hi
        by_cases q:i+1<a
        · exact h i q
        · have e1:i=a - 1:=by omega
          have e2:i+1=a:=by omega
          rw [e2,e1]
          exact e
    · rw [decide_eq_false e,if_neg (by simp)]
      refine ⟨g.lt h0 (a - 1),g.lt h0 a,?_⟩
      show sp n (cK K) (if decide (kk K p (a - 1)<kk K p a)=true then .ret (p,a,0) else _) _
      have ne:=kk_ne (K:=K) inj g (i:=a - 1) (j:=a) (by omega) (by omega) (by omega)
      rw [decide_eq_true (by omega),if_pos rfl]
      exact ⟨rfl,rfl,Nat.le_refl _,Nat.le_add_right _ _,h⟩
def Run (K:Nat->Int) (n:Nat) (r:Nat×Array Nat):Prop:=Good n r.2/\1<=r.1/\r.1<=n/\Adj K r.2 r.1
theorem QiE {p:Array Nat} (g:Good n p) {m:Nat} (h1:1<=m) (hm:m<=n) (d:Dsc K p m):sp n (cK K) (kas_tail3 m n p) (Run K n):=by
  refine Qci ?_
  have hs:=g.size
  have g':=QiL g 0 m
  refine QaY ?_ (QgO g' (by omega) (n - m) m h1 (QkM (by omega) d))
  rintro k ⟨a,b,c,_⟩
  exact ⟨g',by omega,by omega,c⟩
theorem Qe7 (inj:∀ i j,i<n->j<n->K i=K j->i=j) {p:Array Nat} (g:Good n p) {m:Nat} (hm:m+1<=n) (d:Dsc K p (m+1)):sp n (cK K) (kas_descPart m n p) (Run K n):=by
  refine Qci ?_
  refine QaY ?_ (QgN inj g (by omega) (n - (m+1)) (m+1) (by omega) (by omega) d)
  rintro ⟨p',k,q⟩ ⟨e1,e2,h3,h4,h5⟩
  have e1:p'=p:=e1
  have e2:q=0:=e2
  subst e1 e2
  show sp n (cK K) (if 0 > 0 then _ else kas_tail3 k n p') _
  rw [if_neg (by omega)]
  have h3:m+1<=k:=h3
  have h4:k<=m+1+(n - (m+1)):=h4
  exact QiE g (by omega) (by omega) h5
theorem QiF (inj:∀ i j,i<n->j<n->K i=K j->i=j) {p:Array Nat} (g:Good n p) (h0:0<n):sp n (cK K) (kas_count n p) (Run K n):=by
  refine Qci ?_
  refine QaY ?_ (QgO g h0 (n - 1) 1 (Nat.le_refl _) (fun i hi=>by omega))
  rintro m ⟨h1,h2,h3,h4⟩
  show sp n (cK K) (if (m == n)=true then .ret (m,p) else if m > 1 then _ else kas_descPart m n p) _
  by_cases e:m=n
  · rw [if_pos (beq_iff_eq.mpr e)]
    exact ⟨g,h1,by omega,h3⟩
  · rw [if_neg (fun q=>e (beq_iff_eq.mp q))]
    by_cases e2:m > 1
    · rw [if_pos e2]
      refine ⟨g.lt h0 0,g.lt h0 (m - 1),?_⟩
      show sp n (cK K) (if decide (kk K p 0<kk K p (m - 1))=true then .ret (m,p) else _) _
      have le:=h3.le (i:=0) (j:=m - 1) (by omega) (by omega)
      have ne:=kk_ne (K:=K) inj g (i:=0) (j:=m - 1) (by omega) (by omega) (by omega)
      rw [decide_eq_true (by omega),if_pos rfl]
      exact ⟨g,h1,by omega,h3⟩
    · rw [if_neg e2]
      have em:m=1:=by omega
      subst em
      refine Qe7 inj g (by omega) fun i hi=>?_
      have ei:i=0:=by omega
      subst ei
      rcases h4 with q | q
      · omega
      · exact q
theorem QdE {p:Array Nat} (g:Good n p) (h0:0<n) {k:Nat} (A:Adj K p k):∀ (f l r:Nat),l<=r->r<=k->r - l<=f->(∀ i,i<l->kk K p i<=kk K p k)->(∀ i,r<=i->i<k->kk K p k<kk K p i) ->
    sp n (cK K) (kas_place p k f l r) (fun m=>m<=k/\(∀ i,i<m->kk K p i<=kk K p k)/\∀ i,m<=i->i<k->kk K p k<kk K p i)
  | 0,l,r,h1,h2,h3,a,b=>⟨by omega,a,fun i hi hk=>b i (by omega) hk⟩
  | f+1,l,r,h1,h2,h3,a,b=>by
    show sp n (cK K) (if l≥r then .ret l else _) _
    by_cases e:l≥r
    · rw [if_pos e]
      exact ⟨by omega,a,fun i hi hk=>b i (by omega) hk⟩
    · rw [if_neg e]
      refine ⟨g.lt h0 k,g.lt h0 ((l+r) / 2),?_⟩
      show sp n (cK K) (if decide (kk K p k<kk K p ((l+r) / 2))=true then kas_place p k f l ((l+r) / 2) else kas_place p k f ((l+r) / 2+1) r) _
      by_cases q:kk K p k<kk K p ((l+r) / 2)
      · rw [decide_eq_true q,if_pos rfl]
        refine QdE g h0 A f l ((l+r) / 2) (by omega) (by omega) (by omega) a fun i hi hk=>?_
        exact Int.lt_of_lt_of_le q (A.le hi hk)
      · rw [decide_eq_false q,if_neg (by simp)]
        refine QdE g h0 A f ((l+r) / 2+1) r (by omega) h2 (by omega) (fun i hi=>?_) b
        exact Int.le_trans (A.le (i:=i) (j:=(l+r) / 2) (by omega) (by omega)) (Int.not_lt.mp q)
theorem QjS (h0:0<n):∀ (f k:Nat) {p:Array Nat},Good n p->k+f<=n->Adj K p k->sp n (cK K) (kas_bin f p k) (fun p'=>Good n p'/\Adj K p' (k+f))
  | 0,k,p,g,_,A=>⟨g,A⟩
  | f+1,k,p,g,hk,A=>by
    refine Qci ?_
    refine QaY ?_ (QdE g h0 A k 0 k (Nat.zero_le _) (Nat.le_refl _) (by omega) (fun i hi=>by omega) (fun i hi hk=>by omega))
    rintro l ⟨hl,lo,hi⟩
    have hs:=g.size
    have bb:∀ j,at_ (bubble p k (k - l)) j=if j=l then at_ p k else if l<j/\j<=k then at_ p (j - 1) else at_ p j:=by
      intro j
      have:=getElem?_bubble (xs:=p) (src:=k) (by omega) (k - l) (by omega) j
      have e:k - (k - l)=l:=by omega
      rw [e] at this
      split
      · rename_i q;rw [if_pos q] at this;exact QjI this
      · rename_i q
        rw [if_neg q] at this
        split
        · rename_i q2;rw [if_pos q2] at this;exact QjI this
        · rename_i q2;rw [if_neg q2] at this;exact QjI this
    refine QaY ?_ (QjS h0 f (k+1) (p:=bubble p k (k - l)) ⟨(Array.perm_iff_toList_perm.mp (bubble_perm p k (k - l))).trans g.perm⟩ (by omega) ?_)
    · rintro p' ⟨a,b⟩
      exact ⟨a,by rw [show k+(f+1)=k+1+f by omega];exact b⟩
    · intro i hik
      unfold kk
      rw [bb,bb]
      by_cases c1:i+1<l
      · rw [if_neg (by omega),if_neg (by omega),if_neg (by omega),if_neg (by omega)]
        exact A i (by omega)
      · by_cases c2:i+1=l
        · rw [if_neg (by omega),if_neg (by omega),if_pos c2]
          exact lo i (by omega)
        · by_cases c3:i=l
          · rw [if_pos c3,if_neg (by omega),if_pos ⟨by omega,by omega⟩]
            exact Int.le_of_lt (hi (i+1 - 1) (by omega) (by omega))
          · rw [if_neg c3,if_pos ⟨by omega,by omega⟩,if_neg (by omega),if_pos ⟨by omega,by omega⟩]
            have:=A (i - 1) (by omega)
            rw [show i - 1+1=i+1 - 1 by omega] at this
            exact this
theorem QkG (inj:∀ i j,i<n->j<n->K i=K j->i=j) (h0:0<n):sp n (cK K) (kas_sort n) (fun p=>Good n p/\Adj K p n):=by
  have g:Good n (List.toArray (List.range n)):=⟨List.Perm.refl _⟩
  refine Qci ?_
  refine QaY ?_ (QiF inj g h0)
  rintro ⟨m,p⟩ ⟨g',h1,h2,A⟩
  show sp n (cK K) (if m<n then kas_bin (n - max m 1) p (max m 1) else .ret p) _
  have e:max m 1=m:=by have:1<=m:=h1;omega
  rw [e]
  by_cases q:m<n
  · rw [if_pos q]
    refine QaY ?_ (QjS h0 (n - m) m g' (by omega) A)
    rintro p' ⟨a,b⟩
    exact ⟨a,by rw [show m+(n - m)=n by omega] at b;exact b⟩
  · rw [if_neg q]
    have h2:m<=n:=h2
    have e2:m=n:=by omega
    subst e2
    exact ⟨g',A⟩
end
end Rs
namespace Rs
open PySem PySem.W PySem.Calls PyProof.Rows
section
variable {prog:Program} {w:World} {A:Around} {E:Value->Shared->Prop} {s:Shared}
def Kept (a:Addr) (h h':Heap):Prop:=∀ b x,b≠a->h.get? b=some x->h'.get? b=some x
theorem QbB {h:Heap} {a:Addr} (f:Obj->Obj):Kept a h (h.update a f):=fun b x hb e=>(Heap.get?_update_ne _ _ _ _ hb).trans e
theorem Qb7 {h:Heap} {a:Addr} (o:Obj):Kept a h (h.push o):=fun b x _ e=>Heap.get?_push_of_some _ e
theorem Kept.trans {a:Addr} {h h1 h2:Heap} (k:Kept a h h1) (k':Kept a h1 h2):Kept a h h2:=fun b x hb e=>k' b x hb (k b x hb e)
theorem Qg1 (vs:List Value):(List.range vs.length).map (fun i=>vs.getD i Value.none)=vs:=by
  apply List.ext_getElem?
  intro i
  rw [List.getElem?_map]
  by_cases h:i<vs.length
  · rw [List.getElem?_range h,List.getElem?_eq_getElem h]
    show some (vs.getD i Value.none)=_
    rw [List.getD_eq_getElem?_getD,List.getElem?_eq_getElem h]
    rfl
  · rw [List.getElem?_eq_none (by simpa using h),List.getElem?_eq_none (by omega)]
    rfl
theorem QiA {a:Addr} {vs:List Value} {n:Nat} {P:PySem.Fin->Shared->Prop} (ho:s.heap.get? a=some (seqObj "list" vs.toArray n)) (h64:vs.length<64) (K:Nat->Int) (κ:SortKind)
    (inj:∀ i j,i<vs.length->j<vs.length->K i=K j->i=j)
    (hkind:2<=vs.length->∀ h':Heap,Kept a s.heap h'->∀ (Q':SortKind->Shared->Prop) (E':Value->Shared->Prop),Q' κ { s with heap:=h' }->wpAny (model prog w) A (keyKind' vs.toArray) Q' E' { s with heap:=h' })
    (hcmp:∀ h':Heap,Kept a s.heap h'->∀ (i j:Nat) (C:Bool->Shared->Prop),i<vs.length->j<vs.length->C (decide (K i<K j)) { s with heap:=h' }->wpAny (model prog w) A (keyLt' κ (vs.getD i Value.none) (vs.getD j Value.none)) C (fun _ _=>False) { s with heap:=h' })
    (h:∀ p:Array Nat,Good vs.length p->Adj K p vs.length->∀ (h':Heap) (e:Nat),Kept a s.heap h'->h'.get? a=some (seqObj "list" (List.toArray (p.toList.map fun i=>vs.getD i Value.none)) e)->P (.done (.ret .none)) { s with heap:=h' }) :
    wpAny (model prog w) A (Builtin.«list.sort» ⟨[.ref a],[]⟩) P E s:=by
  have ha:a<s.heap.objs.size:=Heap.lt_size ho
  obtain ⟨e1,ho1⟩:∃ e1,(s.heap.update a (Obj.mapSeq fun _=>(#[]:Array Value))).get? a=some (seqObj "list" #[] e1):=⟨_,get?_update_seq ho fun _=>#[]⟩
  have K3:Kept a s.heap (((s.heap.update a (Obj.mapSeq fun _=>(#[]:Array Value))).push (seqObj "tuple" vs.toArray 0)).push (seqObj "list" #[] 0)):=(QbB _).trans ((Qb7 _).trans (Qb7 _))
  have ho6:(((s.heap.update a (Obj.mapSeq fun _=>(#[]:Array Value))).push (seqObj "tuple" vs.toArray 0)).push (seqObj "list" #[] 0)).get? a=some (seqObj "list" #[] e1):=Heap.get?_push_of_some _ (Heap.get?_push_of_some _ ho1)
  rw [list_sort_plain]
  refine wpAny_bind (listItems_at ho rfl ?_)
  refine wpAny_bind (listUpdate_at ho rfl ?_ (by rw [List.size_toArray,sizeLine_eq];omega) (Nat.zero_le _))
  refine wpAny_bind (seqEpoch_at ho1 rfl ?_)
  refine wpAny_bind (wpAny_newTuple ?_ (by show vs.length<=_;rw [sizeLine_eq];omega))
  refine wpAny_bind (wpAny_newList ?_ (Nat.zero_le _))
  refine wpAny_holding ?_
  show wpAny (model prog w) A _ P E { s with heap:=((s.heap.update a (Obj.mapSeq fun _=>(#[]:Array Value))).push (seqObj "tuple" vs.toArray 0)).push (seqObj "list" #[] 0) }
  dsimp only
  generalize (((s.heap.update a (Obj.mapSeq fun _=>(#[]:Array Value))).push (seqObj "tuple" vs.toArray 0)).push (seqObj "list" #[] 0))=h3 at K3 ho6 ⊢
  have fin:∀ p:Array Nat,Good vs.length p->Adj K p vs.length->∀ st':SortSt,(arrOf st').map (·.2)=List.toArray (p.toList.map fun i=>vs.getD i Value.none)->failedOf st'=none ->
      ∃ e2,(h3.update a (Obj.mapSeq fun _=>List.toArray (p.toList.map fun i=>vs.getD i Value.none))).get? a=some (seqObj "list" (List.toArray (p.toList.map fun i=>vs.getD i Value.none)) e2):=fun p _ _ _ _ _=>⟨_,get?_update_seq ho6 fun _=>_⟩
  by_cases h2:vs.toArray.size<2
  · rw [if_pos h2,if_pos h2]
    refine wpAny_bind (wpAny_pure ?_)
    rw [StateT.run_pure]
    refine wpAny_bind (wpAny_pure ?_)
    dsimp only
    have gg:Good vs.length (List.toArray (List.range vs.length)):=⟨List.Perm.refl _⟩
    have aa:Adj K (List.toArray (List.range vs.length)) vs.length:=fun i hi=>by rw [List.size_toArray] at h2;omega
    have out:(arrOf (SortSt.mk' general' (vs.toArray.zip vs.toArray) #[] 7 none)).map (·.2)=List.toArray ((List.toArray (List.range vs.length)).toList.map fun i=>vs.getD i Value.none):=by
      show (vs.toArray.zip vs.toArray).map (·.2)=_
      rw [List.toList_toArray,Qg1]
      apply Array.toList_inj.mp
      rw [Array.toList_map,Array.toList_zip]
      show (vs.zip vs).map (·.2)=vs
      exact List.map_snd_zip (Nat.le_refl _)
    obtain ⟨e2,he2⟩:=fin _ gg aa _ out rfl
    rw [out]
    refine wpAny_bind (seqEpoch_at ho6 rfl ?_)
    refine wpAny_bind (listUpdate_at ho6 rfl ?_ (Nat.zero_le _) (by rw [List.size_toArray,List.length_map,List.toList_toArray,List.length_range,sizeLine_eq];omega))
    simp only [bne_self_eq_false,Bool.false_eq_true,if_false]
    exact wpAny_pure (h _ gg aa _ e2 (K3.trans (QbB _)) he2)
  · rw [if_neg h2,if_neg h2]
    have h2':2<=vs.length:=by rw [List.size_toArray] at h2;omega
    refine wpAny_bind (hkind h2' h3 K3 _ _ ?_)
    refine wpAny_bind (wpAny_mono (kat_run (Q:=fun st' s'=>∃ p:Array Nat,Good vs.length p/\Adj K p vs.length/\arrOf st'=p.map (kas_item (vs.toArray.zip vs.toArray))/\failedOf st'=none/\s'={ s with heap:=h3 })
      (G:=fun p s'=>Good vs.length p/\Adj K p vs.length/\s'={ s with heap:=h3 }) rfl h2' h64 (fun p' st' s' a1 a2 a3 a4=>⟨p',a4.1,a4.2.1,a2,a3,a4.2.2⟩)
      (QfC (c:=cK K) (fun i j C hi hj hC=>hcmp h3 K3 i j C hi hj hC) (QaY (fun p q=>⟨q.1,q.2,rfl⟩) (QkG inj (by omega))))) ?_ fun _ _ e=>e)
    rintro ⟨⟨⟩,st'⟩ s' ⟨p,gg,aa,har,hf,rfl⟩
    dsimp only
    have out:=kat_snds (ks:=vs) rfl har
    obtain ⟨e2,he2⟩:=fin p gg aa st' out hf
    rw [out]
    refine wpAny_bind (seqEpoch_at ho6 rfl ?_)
    refine wpAny_bind (listUpdate_at ho6 rfl ?_ (Nat.zero_le _) (by rw [List.size_toArray,List.length_map,Array.length_toList,gg.size,sizeLine_eq];omega))
    rw [hf]
    simp only [bne_self_eq_false,Bool.false_eq_true,if_false]
    exact wpAny_pure (h p gg aa _ e2 (K3.trans (QbB _)) he2)
theorem Qcu {Q:Value->Shared->Prop} {l:Addr} {T:String} {o:Obj} {vs:List Value} {n:Nat} (hT:T = "list" ∨ T = "tuple") (ho:s.heap.get? l=some o) (hc:o.cls=.type T) (hd:o.data=.seq vs.toArray n) (h64:vs.length<64)
    (h:∀ h':Heap,(∀ b x,s.heap.get? b=some x->h'.get? b=some x)->∀ (P:PySem.Fin->Shared->Prop) (E':Value->Shared->Prop),(∀ s2,Q (.ref h'.objs.size) s2->P (.done (.ret .none)) s2) ->
      wpAny (model prog w) A.in1.in1 (Builtin.«list.sort» ⟨[.ref h'.objs.size],[]⟩) P E' { s with heap:=h'.push (seqObj "list" vs.toArray 0) }) :
    wpAny (model prog w) A (call (.builtin "sorted") [.ref l]) Q E s:=by
  refine Calls.call_function_entry kind_sorted plain_sorted entry_sorted (args_sorted1 _) ?_
  unfold Builtin.«sorted»
  refine wpAny_bind (m:=checkCount "sorted" 1 1 _) (wpAny_pure ?_)
  refine wpAny_bind (wpAny_collect_seq (items:=vs.toArray) l hT ho hc hd (fun h' kp=>?_) (by rw [List.size_toArray,sizeLine_eq];omega))
  refine wpAny_bind (wpAny_newList ?_ (by rw [List.toList_toArray,sizeLine_eq];omega))
  have hoL:(h'.push (seqObj "list" vs.toArray 0)).get? h'.objs.size=some (seqObj "list" vs.toArray 0):=Heap.get?_push_size _ rfl
  show wpAny _ _ _ _ _ { s with heap:=h'.push (seqObj "list" vs.toArray 0) }
  refine wpAny_bind (wpAny_holding (wpAny_call_entry slot_list_sort ⟨_,hoL,rfl⟩ entry_list_sort ?body (args_list_sort _)))
  exact h h' kp _ _ fun s2 hq=>⟨_,rfl,wpAny_pure ⟨_,rfl,hq⟩⟩
end
structure PairV (h:Heap) (v:Value) (ij:Int×Int):Prop where
  it:∃ (a:Addr) (o:Obj) (n:Nat) (t u:Tok),v=.ref a/\h.get? a=some o/\o.cls=.type "tuple" /\ o.data=.seq #[.int ij.1 t,.int ij.2 u] n
theorem PairV.keep {h h':Heap} {v:Value} {ij:Int×Int} (q:PairV h v ij) (k:∀ b x,h.get? b=some x->h'.get? b=some x):PairV h' v ij:=by
  obtain ⟨a,o,n,t,u,e,g,c,d⟩:=q.it
  exact ⟨a,o,n,t,u,e,k _ _ g,c,d⟩
inductive PairsV (h:Heap):List Value->List (Int×Int)->Prop
  | nil:PairsV h [] []
  | cons {v:Value} {vs:List Value} {ij:Int×Int} {L:List (Int×Int)}:PairV h v ij->PairsV h vs L->PairsV h (v::vs) (ij::L)
theorem PairsV.keep {h h':Heap} (k:∀ b x,h.get? b=some x->h'.get? b=some x):∀ {vs:List Value} {L:List (Int×Int)},PairsV h vs L->PairsV h' vs L
  | _,_,.nil=>.nil
  | _,_,.cons q r=>.cons (q.keep k) (r.keep k)
theorem PairsV.len {h:Heap}:∀ {vs:List Value} {L:List (Int×Int)},PairsV h vs L->vs.length=L.length
  | _,_,.nil=>rfl
  | _,_,.cons _ r=>by rw [List.length_cons,List.length_cons,r.len]
theorem PairsV.at_ {h:Heap}:∀ {vs:List Value} {L:List (Int×Int)},PairsV h vs L->∀ i,i<vs.length->PairV h (vs.getD i Value.none) (L.getD i (0,0))
  | _,_,.nil,i,hi=>by simp at hi
  | _,_,.cons q r,0,hi=>q
  | _,_,.cons q r,i+1,hi=>by
    have:=r.at_ i (by simpa using hi)
    simpa using this
section
variable {prog:Program} {w:World} {A:Around} {E:Value->Shared->Prop} {s:Shared}
end
end Rs
namespace L2
open PySem PySem.Spec PyProof.Rows _root_.Rd _root_.Rk _root_.Rs
section
variable {X:Cx}
theorem Qd3:∀ {ns:List Int} {vs:List Value},Vals (ns.map V.int) vs->IntsAre vs ns
  | [],_,.nil=>.nil
  | i::ns,_,.cons ⟨t,e⟩ r=>by subst e;exact .cons _ _ (Qd3 r)
theorem Qee:∀ {ns:List Int} {vs:List Value},IntsAre vs ns->Vals (ns.map V.int) vs
  | _,_,.nil=>.nil
  | _,_,.cons n t r=>.cons ⟨t,rfl⟩ (Qee r)
def QjW (K:PySem.W.Frag):List V->Hp->VK->Prop:=fun xs H Q=>∃ l ns,xs=[.ref l]/\SqT K H l ((ns:List Int).map V.int)/\ns.length<64 /\
  ∀ t ms H2,Same H H2->H t=none->H2 t=some (.lst ((ms:List Int).map V.int))->ms.Perm ns->ms.Pairwise (·<=·)->Q (.ref t) H2
theorem QgC:CallR X (.builtin "sorted") (QjW X.K):=by
  intro pins s σ H xs us Q I r h
  obtain ⟨l,ns,rfl,hl,h64,q⟩:=h
  obtain ⟨u,rfl,ru⟩:=QcC r
  cases ru
  obtain ⟨its,rv,tp,hz⟩:=I.tuple hl
  obtain ⟨o,ho,hc,n,hd⟩:=tp
  have li:=rv.length
  rw [List.length_map] at li
  refine Qcu (.inr rfl) ho hc hd (by omega) fun h' kp P E' hP=>?_
  have hn:(h'.push (seqObj "list" its.toArray 0)).get? h'.objs.size=some (seqObj "list" its.toArray 0):=Heap.get?_push_size _ rfl
  refine list_sort_tree (s:={ s with heap:=h'.push (seqObj "list" its.toArray 0) }) hn (Qd3 rv) (by omega) fun out ns' ia pm pw=>hP _ ?_
  have I1:Inv X pins σ H { s with heap:=h' }:=I.kept (t':=s.toks) kp
  have hf:H h'.objs.size=none:=I1.hok.fresh (Nat.le_refl _)
  obtain ⟨e,he⟩:∃ e,(sortedHeap (h'.push (seqObj "list" its.toArray 0)) h'.objs.size its out).get? h'.objs.size=some (seqObj "list" out e):=sortedHeap_at hn
  have rv':=Qee ia
  have lp:=pm.length_eq
  have I2:Inv X pins σ (upd H h'.objs.size (.lst (ns'.map V.int))) { s with heap:=sortedHeap (h'.push (seqObj "list" its.toArray 0)) h'.objs.size its out }:=
    I1.laid (t':=s.toks) (fun b x e'=>(sortedHeap_old (Nat.ne_of_lt (Heap.lt_size e')) (Nat.lt_of_lt_of_le (Heap.lt_size e') (by rw [size_push'];exact Nat.le_succ _))).trans (Heap.get?_push_of_some _ e')) (Nat.le_refl _) (show ObjOk X.prog X.w _ _ _ (.lst _) from ⟨by rw [List.length_map];exact Nat.le_of_lt (Rk.lt_line (by omega)),out.toList,e,rv',by rw [he]⟩)
  exact ⟨.ref h'.objs.size,_,I2,rfl,q _ ns' _ (Qae hf) hf Qad pm pw⟩
end
end L2
namespace Re
open PySem PyProof.Rows
open AutoSeq1 (wpAny_loadPart')
theorem drawsT {prog:Program} {w:World} {A:Around} {it t:Addr} {items:Array Value} (hh:A.handled=none) (hti:t≠it) :
    Draws prog w A it [it,t] items.size (fun i x=>items[i]? = some x) (fun i h=>h.IsTupleIter it t i/\h.IsTuple t items) where
  live:=fun i h st=>by
    obtain ⟨⟨o,ho,_⟩,_⟩:=st
    exact ⟨o,ho⟩
  frame:=fun i h h' st k=>by
    obtain ⟨⟨o,ho,c⟩,⟨o2,h2,c2⟩⟩:=st
    exact ⟨⟨o,k it (by simp) _ ho,c⟩,⟨o2,k t (by simp) _ h2,c2⟩⟩
  item:=fun i s Q E hi st hQ=>by
    refine Rz.nxt_item st.1 st.2 (x:=items[i]) (by simp [hi]) fun h' hit' hs'=>?_
    refine hQ _ h' s.toks (by simp [hi]) ⟨hit',?_⟩ hs'
    obtain ⟨o2,h2,c2⟩:=st.2
    exact ⟨o2,(hs'.2 t hti).trans h2,c2⟩
  done:=fun s Q E st hE=>Rz.nxt_end hh st.1 st.2 (by simp) hE
theorem Qgw (l:Addr) (items:Array Value) (n:Nat) (dct:Option Addr) (sl:Array (Option Value)) :
    Meets (Builtin.«enumerate.__new__» ⟨[.type "enumerate",.ref l],[]⟩) (fun _ R s=>s.heap.get? l=some { cls:=.type "tuple",dict:=dct,data:=.seq items n,slots:=sl } /\
      R (.ok (.ret (.ref (s.heap.push { cls:=.type "tuple_iterator",data:=.fields #[.ref l,.int 0 0] }).objs.size)))
        { s with heap:=(s.heap.push { cls:=.type "tuple_iterator",data:=.fields #[.ref l,.int 0 0] }).push { cls:=.type "enumerate",data:=.fields #[.none,.bool false,.ref s.heap.objs.size,rawInt 0,.none,.none] } }):=
  .of_wp fun prog w A R s h=>by
    obtain ⟨hp,g,d,tk,os⟩:=s
    obtain ⟨hl,h⟩:=h
    have hsub:=sub_enumerate
    have hL:Heap.IsTuple (Shared.heap ⟨hp,g,d,tk,os⟩) l items:=⟨_,hl,rfl,n,rfl⟩
    wp_walk using wpAny_loadPart' hl
    refine wpAny_stack_any fun st=>wpAny_pure ?_
    split
    · rename_i c _ _ _ _ _
      cases (c == Value.type "enumerate")
      · wp_walk using wpAny_loadPart' hl,wpAny_pyIter_tuple hL
        exact ⟨_,rfl,h⟩
      · wp_walk using wpAny_loadPart' hl,wpAny_pyIter_tuple hL
        exact ⟨_,rfl,h⟩
    · wp_walk using wpAny_loadPart' hl,wpAny_pyIter_tuple hL
      exact ⟨_,rfl,h⟩
theorem call_enumT {prog:Program} {w:World} {A:Around} {E:Value->Shared->Prop} {s:Shared} {l:Addr} {items:Array Value} {Q:Value->Shared->Prop} (hL:s.heap.IsTuple l items)
    (h:∀ h',IsEnum h' (s.heap.objs.size+1) s.heap.objs.size 0 .none->h'.IsTupleIter s.heap.objs.size l 0->(∀ b o,s.heap.get? b=some o->h'.get? b=some o)->Q (.ref (s.heap.objs.size+1)) { s with heap:=h' }) :
    wpAny (model prog w) A (call (.type "enumerate") [.ref l]) Q E s:=by
  obtain ⟨⟨c,dct,dt,sl⟩,hl,hc,n,hd⟩:=hL
  replace hc:c=.type "tuple" := hc
  replace hd:dt=.seq items n:=hd
  subst hc hd
  refine callType_new F.called_enumerate (by decide) (F.typeCall_enumerate_1 _) (F.newCall_enumerate_1 _) (fun obj=>F.args_object_init_2 obj _) F.entry_enumerate_new (Qgw l items n dct sl) ⟨hl,?_⟩
  have hz:(s.heap.push { cls:=.type "tuple_iterator",data:=.fields #[.ref l,.int 0 0] }).objs.size=s.heap.objs.size+1:=Heap.size_push ..
  show _/\_
  rw [hz]
  have he:=Heap.get?_push_size (s.heap.push { cls:=.type "tuple_iterator",data:=.fields #[.ref l,.int 0 0] }) (o:={ cls:=.type "enumerate",data:=.fields #[.none,.bool false,.ref s.heap.objs.size,rawInt 0,.none,.none] }) rfl
  rw [hz] at he
  exact ⟨⟨_,he,rfl⟩,h _ he ⟨_,Heap.get?_push_of_some _ (Heap.get?_push_size _ rfl),rfl,rfl⟩ fun b o x=>Heap.get?_push_of_some _ (Heap.get?_push_of_some _ x)⟩
end Re
namespace L2
open PySem PySem.Spec PyProof.Rows
def Iet (l:Addr):It:=
  ⟨fun i H=>∃ xs x,H l=some (.tup xs)/\xs[i]? = some x,
   fun i H v H'=>∃ p x,H p=none/\(∀ xs,H l=some (.tup xs)->xs[i]? = some x)/\v=.ref p/\H'=upd H p (.tup [.int (i:Nat),x]),
   fun i H=>∃ xs,H l=some (.tup xs)/\xs.length=i⟩
theorem Qgm {P:Program} {w:World} {K:PySem.W.Frag} {elts:List Expr} {x1} {tpos:Pos} {e it l:Addr} (hne:e≠it) :
    Turn P w K (.Tuple elts x1 tpos) (Iet l) [e,it] e (fun i h=>(∃ old,IsEnum h e it (i:Nat) old)/\h.IsTupleIter it l i) where
  mem:=by simp
  obj:=fun i h st b hb=>by
    obtain ⟨⟨old,a1⟩,⟨o2,a2,_,d2⟩⟩:=st
    simp only [List.mem_cons,List.not_mem_nil,or_false] at hb
    rcases hb with rfl | rfl
    · exact ⟨_,a1,fun v q=>nomatch q⟩
    · exact ⟨_,a2,fun v q=>by rw [d2] at q;cases q⟩
  keep:=fun i h h' st k=>by
    obtain ⟨⟨old,a1⟩,⟨o2,a2,c2⟩⟩:=st
    exact ⟨⟨old,k e (by simp) _ a1⟩,o2,k it (by simp) _ a2,c2⟩
  item:=by
    intro X hP hw hK hc i pins s σ H E I hf st hg
    subst hP hw hK
    obtain ⟨xs,x,h1,hx⟩:=hg
    obtain ⟨⟨old,a1⟩,a2⟩:=st
    obtain ⟨its,r1,p1,_⟩:=I.tuple (SqT.of h1)
    obtain ⟨u,hu,ru⟩:=r1.get hx
    have nel:e≠l:=fun z=>by have q:=(hf e (by simp)).1;rw [z,h1] at q;cases q
    have nil:l≠it:=fun z=>by have q:=(hf it (by simp)).1;rw [<- z,h1] at q;cases q
    have hi:i<its.toArray.size:=by
      have:=(List.getElem?_eq_some_iff.mp hu).1
      simpa using this
    refine wpAny_pyNext_enum_itemD (Re.drawsT (A:=X.A.in1) (t:=l) (I.ok.hd hc) nil) a1 ⟨a2,p1⟩ hi hne (by simp [hne,nel]) fun y h' tk hy o' l' tp sz kp=>?_
    have ey:y=u:=by
      have e1:its.toArray[i]? = some u:=by simpa using hu
      rw [e1] at hy
      exact (Option.some.inj hy).symm
    subst ey
    obtain ⟨l',tq⟩:=l'
    have fr:H s.heap.objs.size=none:=I.hok.fresh (Nat.le_refl _)
    have n1:e≠s.heap.objs.size:=Nat.ne_of_lt (Heap.lt_size a1)
    have n2:it≠s.heap.objs.size:=by
      obtain ⟨o2,a2,_⟩:=a2
      exact Nat.ne_of_lt (Heap.lt_size a2)
    refine ⟨_,rfl,wpAny_letOwnedTupleGo_enum o' fun h2 e2 s2=>?_⟩
    have I1:Inv X pins σ (upd H s.heap.objs.size (.tup [.int (i:Nat),x])) { s with heap:=h2,toks:=tk+1 }:=by
      refine I.turnedNew (ch:=[e,it]) hf (fun b v hb q=>?_) (Nat.le_refl _) ⟨by show 2<=sizeLine;decide,[.int (i:Nat) tk,y],.cons ⟨_,rfl⟩ (.cons ru .nil),?_⟩
      · simp only [List.mem_cons,List.not_mem_nil,or_false,not_or] at hb
        exact s2.extBut _ _ hb.1 (kp b v hb.1 hb.2 q)
      · exact ⟨_,s2.extBut _ _ n1.symm tp,rfl,0,rfl⟩
    refine ⟨.ref s.heap.objs.size,_,I1,rfl,⟨_,x,fr,fun xs' q=>?_,rfl,rfl⟩,⟨⟨y,e2⟩,?_⟩,fun b hb=>?_⟩
    · rw [h1] at q;cases q;exact hx
    · exact l'.extBut s2.extBut hne.symm
    · simp only [List.mem_cons,List.not_mem_nil,or_false] at hb
      rcases hb with rfl | rfl
      · rw [Qai n1];exact (hf _ (by simp)).1
      · rw [Qai n2];exact (hf _ (by simp)).1
  done:=by
    intro X hP hw hK hc i pins s σ H E I hf st hg
    subst hP hw hK
    obtain ⟨xs,h1,he⟩:=hg
    obtain ⟨⟨old,a1⟩,a2⟩:=st
    obtain ⟨its,r1,p1,_⟩:=I.tuple (SqT.of h1)
    have l1:=r1.length
    have nel:e≠l:=fun z=>by have q:=(hf e (by simp)).1;rw [z,h1] at q;cases q
    have nil:l≠it:=fun z=>by have q:=(hf it (by simp)).1;rw [<- z,h1] at q;cases q
    have e0:its.toArray.size=i:=by rw [List.size_toArray];omega
    have D:=Re.drawsT (prog:=X.prog) (w:=X.w) (A:=X.A.in1) (t:=l) (items:=its.toArray) (I.ok.hd hc) nil
    rw [e0] at D
    refine wpAny_pyNext_enum_endD D a1 ⟨a2,p1⟩ fun h' kp=>⟨rfl,I.turnedAll (t':=s.toks) (ch:=[e,it]) hf fun b v hb q=>?_⟩
    simp only [List.mem_cons,List.not_mem_nil,or_false,not_or] at hb
    exact kp b v hb.2 q
  self:=fun _ _ _ _ _ st h=>by
    obtain ⟨⟨old,a1⟩,_⟩:=st
    exact wpAny_pyIter_enum a1 h
def iEnumT (ta:TA):TI:=fun σ H R=>ta σ H fun vs H1=>∃ l xs,vs=[.ref l]/\H1 l=some (.tup xs)/\R (Iet l) H1
section
variable {X:Cx}
theorem QiS {a:Expr} {elts:List Expr} {x1} {tpos:Pos} {ta:TA} {p pos:Pos} (hg:Gl X "enumerate") (hm:X.mg "enumerate" = none) (ha:PA X [a] ta) (hs:starEach [a] X.env=[(false,eval a X.env)]:=by rfl) :
    PI X (.Tuple elts x1 tpos) (.Call (.Name "enumerate" p) [a] [] pos) (iEnumT ta):=by
  intro pins s σ H R I h
  refine Call_ (Qdt I hg hm Qio (PyProof.Rows.callWith_type1 (thn (ha pos pins s σ H _ I h) fun us s1 ⟨vs,H1,I1,r1,q1⟩=>?_) hs rfl))
  obtain ⟨l,xs,e,h1,q⟩:=q1
  subst e
  obtain ⟨u,rfl,ru⟩:=QcC r1
  cases (show u=Value.ref l from ru)
  obtain ⟨its,w1,p1,_⟩:=I1.tuple (SqT.of h1)
  refine Re.call_enumT p1 fun h' e1 i1 kp=>?_
  refine wpAny_pyIter_enum (s:={ s1 with heap:=h' }) e1 ?_
  refine ⟨s1.heap.objs.size+1,_,_,_,H1,rfl,I1.kept (t':=s1.toks) kp,Qgm (by show ¬ (s1.heap.objs.size+1=s1.heap.objs.size);omega),⟨⟨_,e1⟩,i1⟩,fun b hb=>?_,q⟩
  have hb':s1.heap.objs.size<=b:=by
    simp only [List.mem_cons,List.not_mem_nil,or_false] at hb
    rcases hb with rfl | rfl<;>omega
  exact I1.fpOk hb' (I1.hok.fresh hb')
def QkP:List V->Hp->VK->Prop:=fun xs H Q=>∃ r j,xs=[.ref r]/\H r=some (.rng 0 j) /\ -1000<=j/\j<=1000/\∀ t H2,Same H H2->H t=none->H2 t=some (.lst ((List.range j.toNat).map fun i=>V.int (i:Nat)))->Q (.ref t) H2
theorem Qda (hc:X.calm=true):CallR X (.type "list") QkP:=by
  intro pins s σ H xs us Q I r h
  obtain ⟨a,j,rfl,ha,h1,h2,q⟩:=h
  obtain ⟨u,rfl,ru⟩:=QcC r
  cases (show u=Value.ref a from ru)
  obtain ⟨t1,t2,t3,e⟩:=I.hok a _ ha
  have hn:Builtin.Range.rangeSize 0 j 1=((j.toNat:Nat):Int):=by rw [rangeSize_one];split<;>omega
  refine call_list_range (n:=j.toNat) (I.ok.hd hc) (show IsRange s.heap a 0 j 1 t1 t2 t3 from e) (small_one (by omega) (by omega) (by omega) (by omega)) hn (Nat.le_trans (show j.toNat<=1000 by omega) (by decide)) fun h' tk acc c' kp hS hacc=>?_
  have hz:acc.size=j.toNat:=hacc.1
  have rv:=Qdu hacc
  have hf:H s.heap.objs.size=none:=I.hok.fresh (Nat.le_refl _)
  refine ⟨.ref s.heap.objs.size,upd H s.heap.objs.size (.lst ((List.range j.toNat).map fun i=>V.int (i:Nat))),I.laid (t':=tk) kp (Nat.le_refl _) ⟨?_,acc.toList,c',rv,by rw [hS]⟩,rfl,q _ _ (Qae hf) hf Qad⟩
  rw [List.length_map,List.length_range]
  exact Nat.le_of_lt (Rk.lt_line (by omega))
end
end L2
namespace Rk
open PySem PySem.Spec PyProof.Rows L2
def QaT (m:Nat):List Int:=(List.range m).map fun (i:Nat)=>(i:Int)
theorem QbE (m:Nat):(QaT m).length=m:=by
  unfold QaT
  rw [List.length_map,List.length_range]
end Rk
namespace L2
open PySem PySem.Spec PyProof.Rows
section
variable {X:Cx} {pins:List (Addr×Obj)} {σ:St} {H:Hp}
theorem QbQ {M:List Str} {scope:Scope} {fp:List Addr} {σ':St} {H3:Hp} {s3 s':Shared} {D:Addr} {i:Nat} {y:Str} {py:Pos} {Mo:Model} {A:Around} {E:Value->Shared->Prop} {Q:Value->Shared->Prop}
    (I3:Inv X pins σ H3 s3) (f3:∀ b∈fp,FpOk X pins H3 b) (J:Inv (blk X M scope (clOf X.env scope.names []) fp s3 H3 s3.heap.objs.size) [] σ' H s')
    (hN:X.N.Nodup) (hi:X.N[i]? = some y) (hl:X.env.scope.names.lookup y=some .local) (hq:∀ s2,Inv X pins (σ.set i (some (.ref D))) H s2->Q .none s2) :
    wpAny Mo A (assign (.Name y py) X.env (.ref D)) (fun _ s2=>∃ m,s2.heap.Ns s3.heap.objs.size m/\∀ h',Heap.SameBut s3.heap.objs.size s2.heap h'->Q .none { s2 with heap:=h' }) E s':=by
  have J0:Inv X pins σ H s':=Qir I3 f3 J (Heap.SameBut.refl ..)
  obtain ⟨m,hn,_⟩:=J.loc
  have hC:H s3.heap.objs.size=none:=J.free
  have lt:X.env.locals<s3.heap.objs.size:=I3.lt
  refine wpAny_assign_Name (Qek J0 hN hi (Or.inl hl) (show RelV (.ref D) (.ref D) from rfl) (fun s2 J2 ⟨a,sb,ha⟩=>?_) (.inr hl))
  have ea:a=X.env.locals∨X.env.cells.lookup y=some a:=ha
  have na:s3.heap.objs.size≠a:=by
    rcases ea with z | z
    · rw [z];exact Nat.ne_of_gt lt
    · obtain ⟨v,o,ho,_⟩:=I3.cell y a z
      exact Nat.ne_of_gt (Heap.lt_size ho)
  refine ⟨m,hn.sameBut sb na,fun h' hs=>hq _ ?_⟩
  refine J2.turned (t':=s2.toks) (it:=s3.heap.objs.size) (fun b o hb e=>hs.extBut b o hb e) hC (Nat.ne_of_gt lt) (.inr I3.sz) (fun x c e z=>?_) fun p hp z=>?_
  · obtain ⟨v,o,ho,_⟩:=I3.cell x c e
    exact absurd (z ▸ Heap.lt_size ho) (Nat.lt_irrefl _)
  · have e:=(I3.pin p hp).1
    exact absurd (z ▸ Heap.lt_size e) (Nat.lt_irrefl _)
end
theorem ps_lcomp {X:Cx} {M:List Str} {cap:List (Option Nat)} {elt tg iter:Expr} {ifs:List Expr} {scope:Scope} {pos:Pos} {wi:TI} {g:TG} {tc:TT} {te:TE} {i:Nat} {y:Str} {py spos:Pos} (hN:X.N.Nodup) (hiy:X.N[i]? = some y) (hly:X.env.scope.names.lookup y=some .local) (hc:X.calm=true) (ok:QeN X.N X.env.scope M scope cap=true)
    (hi:PI X tg iter wi) (hb:∀ cl ex s3 H3 C,PG (blk X M scope cl ex s3 H3 C) tg g/\PTs (blk X M scope cl ex s3 H3 C) ifs tc/\PE (blk X M scope cl ex s3 H3 C) elt te)
    (hs:∀ x,foldedSetIterable iter X.env x=pure x:=by intro _;rfl)  (hsw:swapsWith (.ListComp elt [⟨tg,iter,ifs,0⟩] scope pos) (some (.Name y py)) spos.line X.env=pure true:=by rfl):PS X (.Assign [.Name y py] (.ListComp elt [⟨tg,iter,ifs,0⟩] scope pos) spos) (tAsg (tComp cap wi g tc te) (Qdd i)):=by
  intro pins s σ H D I h
  have c:=CapOk.of ok
  rw [exec_Assign_Name_used _ _ _ _ hsw]
  refine wpAny_bind (wpAny_standAt (wpAny_bind ?_))
  show wpAny _ X.A (do let _ <- comprehension (.ListComp elt [⟨tg,iter,ifs,0⟩] scope pos) scope X.env _ (newList []) false (eval iter X.env) (some (assign (.Name y py) X.env))) _ _ s
  refine wpAny_bind (wpAny_mono (wpAny_comprehension_free (use:=some (assign (.Name y py) X.env)) (Q:=fun _ s'=>SP X pins D .next s') rfl hs (Qfu (I.ok.cells c)) c.kind c.loc ?_) (fun _ s' hq=>wpAny_pure (wpAny_pure hq)) fun _ _ e=>e)
  refine thn (hi pins s σ H _ I h) fun v s1 h1=>thn h1 fun itv s2 h2=>?_
  obtain ⟨it,fp,tn,J,H2,e,I2,T,st2,f2,hW⟩:=h2
  subst e
  refine wpAny_newObj_type (wpAny_newFunctionEnv c.cell (by intro y hy;simp at hy) (fun h₁ hns₁ hsb₁=>?_) c.kind)
  have I3:Inv X pins σ (upd H2 s2.heap.objs.size (.lst [])) { s2 with heap:=s2.heap.push { cls:=.type "list",data:=.seq ([]:List Value).toArray } }:=I2.lnew (t':=s2.toks) (ys:=[]) .nil (Nat.zero_le _)
  have lt2:∀ b∈fp,b<s2.heap.objs.size:=fun b hb=>by obtain ⟨o,e,_⟩:=T.obj _ _ st2 b hb;exact Heap.lt_size e
  have f3:∀ b∈fp,FpOk X pins (upd H2 s2.heap.objs.size (.lst [])) b:=fun b hb=>(f2 b hb).upd (Nat.ne_of_lt (lt2 b hb))
  generalize hs3:({ s2 with heap:=s2.heap.push { cls:=.type "list",data:=.seq ([]:List Value).toArray } }:Shared)=s3 at I3
  have e3:s3.heap=s2.heap.push { cls:=.type "list",data:=.seq ([]:List Value).toArray }:=by rw [<- hs3]
  have z3:s3.heap.objs.size=s2.heap.objs.size+1:=by rw [e3,Heap.size_push]
  have hk:∀ b o,s3.heap.get? b=some o->h₁.get? b=some o:=fun b o e=>hsb₁.extBut b o (by
    have:=Heap.lt_size e
    rw [e3] at this
    exact Nat.ne_of_lt this) (Heap.get?_push_of_some _ (e3 ▸ e))
  have hn₁:h₁.Ns s3.heap.objs.size fun _=>none:=by rw [e3];exact hns₁
  have B:=Qdc (t4:=s3.toks+([]:List (Str×Value)).length) (fp:=fp) I3 c f3 (fun b hb=>by rw [z3];exact Nat.lt_succ_of_lt (lt2 b hb)) hn₁ hk
  have st4:tn 0 h₁:=T.keep _ _ _ st2 fun b hb o e=>hk b o (by rw [e3];exact Heap.get?_push_of_some _ e)
  have fp4:∀ b∈fp,FpOk (blk X M scope (clOf X.env scope.names []) fp s3 (upd H2 s2.heap.objs.size (.lst [])) s3.heap.objs.size) [] (upd H2 s2.heap.objs.size (.lst [])) b:=fun b hb=>by
    refine ⟨(f3 b hb).1,(B.ok.exf b hb).1,B.ok.exfs b hb,.inl hb,(B.ok.exf b hb).2,fun p hp=>(nomatch hp)⟩
  obtain ⟨hg,ht,he⟩:=hb (clOf X.env scope.names []) fp s3 (upd H2 s2.heap.objs.size (.lst [])) s3.heap.objs.size
  have loop:codeAny (model X.prog X.w) X.A (.compLoop (.ListComp elt [⟨tg,iter,ifs,0⟩] scope pos) 0 (.ref it) (.ref s2.heap.objs.size) (compEnvC scope (clOf X.env scope.names []) s3.heap.objs.size X.env))
      (compPost (model X.prog X.w) X.A X.xe (some (assign (.Name y py) X.env)) (fun _ s'=>SP X pins D .next s') (.ref s2.heap.objs.size) s3.heap.objs.size) { s3 with heap:=h₁,toks:=s3.toks+([]:List (Str×Value)).length }:=by
    refine Qcc (Y:=blk X M scope (clOf X.env scope.names []) fp s3 (upd H2 s2.heap.objs.size (.lst [])) s3.heap.objs.size) (gens:=[⟨tg,iter,ifs,0⟩]) (d:=0) hc T st4 fp4
      (fun Q E s h=>QfE Q E s h) (fun x u r=>Qec rfl hg ht (fun σ4=>Qed rfl he) x u r) B (hW _ (I2.hok.fresh (Nat.le_refl _))) fun s' H' I' q=>?_
    exact QbQ (Q:=fun _ s'=>SP X pins D .next s') I3 f3 I' hN hiy hly fun s2' J2=>⟨_,H',J2,q⟩
  exact codeAny_compStart_list loop (T.self _ 0 _ _ _ st4 loop)
theorem Qg9 {X:Cx} {M:List Str} {cap:List (Option Nat)} {elt tg iter tg2 iter2:Expr} {ifs ifs2:List Expr} {scope:Scope} {pos:Pos} {wi wi2:TI} {g g2:TG} {tc tc2:TT} {te:TE} {i:Nat} {y:Str} {py spos:Pos} (hN:X.N.Nodup) (hiy:X.N[i]? = some y) (hly:X.env.scope.names.lookup y=some .local) (hc:X.calm=true) (ok:QeN X.N X.env.scope M scope cap=true)
    (hi:PI X tg iter wi) (hb:∀ cl ex s3 H3 C,PG (blk X M scope cl ex s3 H3 C) tg g/\PTs (blk X M scope cl ex s3 H3 C) ifs tc/\PI (blk X M scope cl ex s3 H3 C) tg2 iter2 wi2/\PG (blk X M scope cl ex s3 H3 C) tg2 g2/\PTs (blk X M scope cl ex s3 H3 C) ifs2 tc2/\PE (blk X M scope cl ex s3 H3 C) elt te)
    (hs:∀ x,foldedSetIterable iter X.env x=pure x:=by intro _;rfl) (hs2:∀ env x,foldedSetIterable iter2 env x=pure x:=by intro _ _;rfl)  (hsw:swapsWith (.ListComp elt [⟨tg,iter,ifs,0⟩,⟨tg2,iter2,ifs2,0⟩] scope pos) (some (.Name y py)) spos.line X.env=pure true:=by rfl):PS X (.Assign [.Name y py] (.ListComp elt [⟨tg,iter,ifs,0⟩,⟨tg2,iter2,ifs2,0⟩] scope pos) spos) (tAsg (QjP cap wi g tc wi2 g2 tc2 te) (Qdd i)):=by
  intro pins s σ H D I h
  have c:=CapOk.of ok
  rw [exec_Assign_Name_used _ _ _ _ hsw]
  refine wpAny_bind (wpAny_standAt (wpAny_bind ?_))
  show wpAny _ X.A (do let _ <- comprehension (.ListComp elt [⟨tg,iter,ifs,0⟩,⟨tg2,iter2,ifs2,0⟩] scope pos) scope X.env _ (newList []) false (eval iter X.env) (some (assign (.Name y py) X.env))) _ _ s
  refine wpAny_bind (wpAny_mono (wpAny_comprehension_free (use:=some (assign (.Name y py) X.env)) (Q:=fun _ s'=>SP X pins D .next s') rfl hs (Qfu (I.ok.cells c)) c.kind c.loc ?_) (fun _ s' hq=>wpAny_pure (wpAny_pure hq)) fun _ _ e=>e)
  refine thn (hi pins s σ H _ I h) fun v s1 h1=>thn h1 fun itv s2 h2=>?_
  obtain ⟨it,fp,tn,J,H2,e,I2,T,st2,f2,hW⟩:=h2
  subst e
  refine wpAny_newObj_type (wpAny_newFunctionEnv c.cell (by intro y hy;simp at hy) (fun h₁ hns₁ hsb₁=>?_) c.kind)
  have I3:Inv X pins σ (upd H2 s2.heap.objs.size (.lst [])) { s2 with heap:=s2.heap.push { cls:=.type "list",data:=.seq ([]:List Value).toArray } }:=I2.lnew (t':=s2.toks) (ys:=[]) .nil (Nat.zero_le _)
  have lt2:∀ b∈fp,b<s2.heap.objs.size:=fun b hb=>by obtain ⟨o,e,_⟩:=T.obj _ _ st2 b hb;exact Heap.lt_size e
  have f3:∀ b∈fp,FpOk X pins (upd H2 s2.heap.objs.size (.lst [])) b:=fun b hb=>(f2 b hb).upd (Nat.ne_of_lt (lt2 b hb))
  generalize hs3:({ s2 with heap:=s2.heap.push { cls:=.type "list",data:=.seq ([]:List Value).toArray } }:Shared)=s3 at I3
  have e3:s3.heap=s2.heap.push { cls:=.type "list",data:=.seq ([]:List Value).toArray }:=by rw [<- hs3]
  have z3:s3.heap.objs.size=s2.heap.objs.size+1:=by rw [e3,Heap.size_push]
  have hk:∀ b o,s3.heap.get? b=some o->h₁.get? b=some o:=fun b o e=>hsb₁.extBut b o (by
    have:=Heap.lt_size e
    rw [e3] at this
    exact Nat.ne_of_lt this) (Heap.get?_push_of_some _ (e3 ▸ e))
  have hn₁:h₁.Ns s3.heap.objs.size fun _=>none:=by rw [e3];exact hns₁
  have B:=Qdc (t4:=s3.toks+([]:List (Str×Value)).length) (fp:=fp) I3 c f3 (fun b hb=>by rw [z3];exact Nat.lt_succ_of_lt (lt2 b hb)) hn₁ hk
  have st4:tn 0 h₁:=T.keep _ _ _ st2 fun b hb o e=>hk b o (by rw [e3];exact Heap.get?_push_of_some _ e)
  have fp4:∀ b∈fp,FpOk (blk X M scope (clOf X.env scope.names []) fp s3 (upd H2 s2.heap.objs.size (.lst [])) s3.heap.objs.size) [] (upd H2 s2.heap.objs.size (.lst [])) b:=fun b hb=>by
    refine ⟨(f3 b hb).1,(B.ok.exf b hb).1,B.ok.exfs b hb,.inl hb,(B.ok.exf b hb).2,fun p hp=>(nomatch hp)⟩
  obtain ⟨hg,ht,hi2,hg2,ht2,he⟩:=hb (clOf X.env scope.names []) fp s3 (upd H2 s2.heap.objs.size (.lst [])) s3.heap.objs.size
  have loop:codeAny (model X.prog X.w) X.A (.compLoop (.ListComp elt [⟨tg,iter,ifs,0⟩,⟨tg2,iter2,ifs2,0⟩] scope pos) 0 (.ref it) (.ref s2.heap.objs.size) (compEnvC scope (clOf X.env scope.names []) s3.heap.objs.size X.env))
      (compPost (model X.prog X.w) X.A X.xe (some (assign (.Name y py) X.env)) (fun _ s'=>SP X pins D .next s') (.ref s2.heap.objs.size) s3.heap.objs.size) { s3 with heap:=h₁,toks:=s3.toks+([]:List (Str×Value)).length }:=by
    refine Qcc (Y:=blk X M scope (clOf X.env scope.names []) fp s3 (upd H2 s2.heap.objs.size (.lst [])) s3.heap.objs.size) (gens:=[⟨tg,iter,ifs,0⟩,⟨tg2,iter2,ifs2,0⟩]) (d:=0) hc T st4 fp4
      (fun Q E s h=>Qgl (hs2 _) Q E s h) (fun x u r=>Qec rfl hg ht (fun σ4=>Qiq rfl hc hi2 hg2 ht2 he) x u r) B (hW _ (I2.hok.fresh (Nat.le_refl _))) fun s' H' I' q=>?_
    exact QbQ (Q:=fun _ s'=>SP X pins D .next s') I3 f3 I' hN hiy hly fun s2' J2=>⟨_,H',J2,q⟩
  exact codeAny_compStart_list loop (T.self _ 0 _ _ _ st4 loop)
end L2
namespace Rk
open PySem PySem.Spec PyProof.Rows L2 _root_.Rd
theorem Cs.get {p:Addr} {H:Hp}:∀ {ps:List V} {L:List (Int×Int)},Cs p H ps L->∀ (i:Nat) (x:V),ps[i]? = some x->∃ ij,L[i]? = some ij/\∃ d,d≠p/\x=.ref d/\H d=some (.tup [.int ij.1,.int ij.2])
  | _,_,.nil,i,x,e=>by simp at e
  | _,_,.cons r t,0,x,e=>by simp at e;subst e;exact ⟨_,rfl,r⟩
  | _,_,.cons r t,i+1,x,e=>by
    obtain ⟨ij,h1,h2⟩:=Cs.get t i x (by simpa using e)
    exact ⟨ij,by simpa using h1,h2⟩
section
variable {X:Cx}
def rNeD (X:Cx):R2:=fun x y H Q=>∃ dx dy,Dat H x dx/\Dat H y dy/\X.A.units+min dx.depth dy.depth<cLine/\Q (.bl (!PyData.eqv dx dy)) H
theorem op_neD:OpR X (compareOp .NotEq) (rNeD X):=by
  intro pins s σ H x y v u Q I rx ry h
  obtain ⟨dx,dy,qx,qy,hu,q⟩:=h
  obtain ⟨⟨as,ra⟩,ca⟩:=QaP I.hok dx x v qx rx
  obtain ⟨⟨bs,rb⟩,cb⟩:=QaP I.hok dy y u qy ry
  exact SeqAt.compareNe_reads ra rb ca cb hu ⟨.bl _,H,I,rfl,q⟩
end
theorem Cs.app {p:Addr} {H:Hp}:∀ {ps qs:List V} {L M:List (Int×Int)},Cs p H ps L->Cs p H qs M->Cs p H (ps++qs) (L++M)
  | _,_,_,_,.nil,h=>h
  | _,_,_,_,.cons r t,h=>.cons r (Cs.app t h)
end Rk
namespace Rk
open PySem PySem.Spec PyProof.Rows L2
def QjM:List Str:=["text", "order", "lines", "few", "size", "many", "number", "stand", "cell", "square", "hits", "counts", "stairs", "alike", "parting", "place", "double", "deed", "row"]
def spKind (K:PySem.W.Frag) (cs:List Addr):Sp:=fun vs H Q _=>∃ (a C:Addr) (bs:List Bool) (j:Nat) (wd:Str),vs=[.ref a]/\H a=some (Rx.exO a C)/\Rx.ExC K C/\Paired (fun c b=>PySem.W.kitOne K (.ref C) (.ref c)=some b) cs bs/\PySem.W.kitOne K (.ref C) (.type "ValueError")=some true /\
  bs.countP id=1/\bs[j]? = some true/\(∀ m,m<j->bs[m]? = some false)/\QjM[j]? = some wd/\∀ H',Same H H'->Q (.str wd) H'
end Rk
namespace Rx
open PySem PySem.Spec PySem.Calls PyProof.Rows L2
section
variable {X:Cx} {E:XK}
end
section
variable {X:Cx} {tf:TE} {fe:Expr} {pos:Pos} {e:Expr} {es:List Expr} {t:TA} {M:Addr->Sp->Prop}
end
end Rx
namespace Rk
open PySem PySem.Spec PyProof.Rows L2 _root_.Rd
structure GlbA (mg:Str->Option Value):Prop where
  isinstance:mg "isinstance" = none
  int:mg "int" = none
  bool:mg "bool" = none
  str:mg "str" = none
  tuple:mg "tuple" = none
  list:mg "list" = none
  all:mg "all" = none
  len:mg "len" = none
  zip:mg "zip" = none
  enumerate:mg "enumerate" = none
  range:mg "range" = none
  max:mg "max" = none
  min:mg "min" = none
  sorted:mg "sorted" = none
  sum:mg "sum" = none
  set:mg "set" = none
  any:mg "any" = none
  reversed:mg "reversed" = none
  divmod:mg "divmod" = none
structure KOk (K:PySem.W.Frag) (cs:List Addr) (R C:Addr) (wd:Str):Prop where
  by_:Rx.ByC K C R
  ex:∃ (bs:List Bool) (j:Nat),Rx.ExC K C/\Paired (fun c b=>PySem.W.kitOne K (.ref C) (.ref c)=some b) cs bs/\PySem.W.kitOne K (.ref C) (.type "ValueError")=some true/\bs.countP id=1/\bs[j]? = some true/\(∀ m,m<j->bs[m]? = some false)/\QjM[j]? = some wd
def rInU (u:Nat) (neg:Bool):R2:=fun x y H Q=>∃ c ps ds d,y=.ref c/\H c=some (.tup ps)/\Dats H ps ds/\Dat H x d/\u+d.depth<cLine/\Q (.bl (if neg then !(ds.any fun e=>PyData.eqv e d) else ds.any fun e=>PyData.eqv e d)) H
theorem op_inU {X:Cx}:OpR X (compareOp .In) (rInU X.A.in1.units false):=op_inD
end Rk
namespace Rx
open PySem PySem.Spec PySem.Calls PyProof.Rows L2
section
variable {P:Program} {w:World} {K:PySem.W.Frag} {mg:Str->Option Value} {base:Heap}
end
end Rx
namespace Rk
open PySem PySem.Spec PyProof.Rows L2 _root_.Rd
def FinV (is js:List Nat) (p:Addr) (σ:L2.St) (H:Hp):Prop:=(∃ o,H p=some o)/\(∀ i∈is,∃ v,σ[i]? = some (some v)/\FineA p H v)/\∀ j∈js,∃ k,σ[j]? = some (some (.int k))
theorem FinV.same {is js:List Nat} {p:Addr} {σ:L2.St} {H H':Hp} (h:FinV is js p σ H) (s:Same H H'):FinV is js p σ H':=by
  obtain ⟨⟨o,ho⟩,h1,h2⟩:=h
  refine ⟨⟨o,s _ _ ho⟩,fun i hi=>?_,h2⟩
  obtain ⟨v,e,f⟩:=h1 i hi
  exact ⟨v,e,f.keep (KX.of s)⟩
section
variable {X:Cx} {is js:List Nat}
end
theorem handled {K:PySem.W.Frag} {cs:List Addr} {R C:Addr} {wd:Str} (o:KOk K cs R C wd) {H1:Hp} {Q:VK} {σ:L2.St} {i:Nat} (hi:i < σ.length) (k:∀ H',Same H1 H'->Q (.str wd) H') :
    Rx.ByC K C R/\∀ a,H1 a=none->(QdC (tVar i) tNil) (σ.set i (some (.ref a))) (upd H1 a (Rx.exO a C)) fun vs H2=>spKind K cs vs H2 Q E0:=by
  refine ⟨o.by_,fun a ha=>?_⟩
  obtain ⟨bs,j,hx,pb,eV,hc,hj,hm,hw⟩:=o.ex
  exact ⟨_,List.getElem?_set_self hi,a,C,bs,j,wd,rfl,Qad,hx,pb,eV,hc,hj,hm,hw,fun H2 s2=>k H2 ((Qae ha).trans s2)⟩
end Rk
namespace L2
open PySem PySem.Spec PyProof.Rows
section
variable {prog:Program} {w:World} {A:Around} {E:Value->Shared->Prop} {s:Shared}
end
section
variable {X:Cx}
end
def QkQ (K:PySem.W.Frag):List V->Hp->VK->Prop:=fun xs H Q=>∃ p ys,xs=[.ref p]/\(SqL K H p ys∨SqT K H p ys)/\Q (.int ys.length) H
theorem bt_set:bootBuiltins "set" = some (.type "set"):=by decide +kernel
theorem Qdb:bootBuiltins "sorted" = some (.builtin "sorted"):=by decide +kernel
def CMulB (i j:Int):Prop:=∃ k:Nat,k<=1000000/\i.natAbs<2^k/\j.natAbs<2^k
theorem Qis {i:Int} {k:Nat} (h:i.natAbs<2^k):Builtin.Int.intBits i<=k:=by
  unfold Builtin.Int.intBits
  split
  · exact Nat.zero_le _
  · rename_i z
    have hz:i.natAbs≠0:=by
      intro q
      apply z
      have:i=0:=by omega
      subst this
      rfl
    have:=(Nat.log2_lt hz).mpr h
    omega
theorem CMulB.ok {i j:Int} (h:CMulB i j):IntMulOk i j:=by
  obtain ⟨k,hk,h1,h2⟩:=h
  have a:=Qis h1
  have b:=Qis h2
  unfold IntMulOk
  have c:Builtin.Int.intTooBig (Builtin.Int.intBits i+Builtin.Int.intBits j:Nat)=false:=by
    unfold Builtin.Int.intTooBig
    rw [decide_eq_false]
    have:bitsLine=134217728:=by decide +kernel
    rw [this]
    omega
  intro z
  rw [Bool.and_eq_true] at z
  have z2:=z.2
  have e:((Builtin.Int.intBits i+Builtin.Int.intBits j:Nat):Int)=(Builtin.Int.intBits i:Int)+(Builtin.Int.intBits j:Int):=by omega
  rw [e] at c
  rw [c] at z2
  cases z2
section
variable {X:Cx}
end
end L2
namespace Rk
open PySem PySem.Spec PyProof.Rows L2 _root_.Rd
def rNeU (u:Nat):R2:=fun x y H Q=>∃ dx dy,Dat H x dx/\Dat H y dy/\u+min dx.depth dy.depth<cLine/\Q (.bl (!PyData.eqv dx dy)) H
theorem op_neU {X:Cx}:OpR X (compareOp .NotEq) (rNeU X.A.units):=op_neD
def rEqU (u:Nat):R2:=fun x y H Q=>∃ dx dy,Dat H x dx/\Dat H y dy/\u+min dx.depth dy.depth<cLine/\Q (.bl (PyData.eqv dx dy)) H
theorem op_eqU {X:Cx}:OpR X (compareOp .Eq) (rEqU X.A.units):=op_eqD
theorem QlD {σ:L2.St} {H:Hp} {A B:Hp->Prop} (h:A H):Qe5 σ H fun b H5=>if b=true then A H5 else B H5:=by
  show (if true=true then A H else B H)
  exact iteT h
theorem QeI {H:Hp}:∀ (ns:List Int),Dats H (ns.map V.int) (ns.map PyData.int)
  | []=>.nil
  | n::ns=>.cons (.int n) (QeI ns)
end Rk
namespace Rx
open PySem PySem.Spec PySem.Calls PyProof.Rows L2
end Rx
namespace Rk
open PySem PySem.Spec PyProof.Rows L2 _root_.Rd
theorem QlF {n:Nat} (h:n<=1000000):n<sizeLine:=Nat.lt_of_le_of_lt h (by decide)
theorem QhP {n k:Nat} (h:k<n):ixN n (k:Nat)=some k:=by
  unfold ixN
  rw [if_pos (by omega),if_pos (by omega)]
  simp
end Rk
namespace HT
open PySem PyProof.Rows
section
open PySem.SeqAt
open PySem.AutoSeq1 (wpAny_loadPart')
open PySem.MeetsSeq PySem.MeetsSeq2 PySem.MeetsSeq3
end
section
variable {prog:Program} {w:World} {A:Around} {E:Value->Shared->Prop} {s:Shared}
end
end HT
namespace L2
open PySem PySem.Spec PyProof.Rows
def rSlLW (K:PySem.W.Frag):V->Option Int->Option Int->Hp->VK->Prop:=fun x lo hi H Q=>∃ a xs,x=.ref a/\SqL K H a xs/\∀ p H',Same H H'->H p=none->H' p=some (.lst (cutV xs lo hi))->Q (.ref p) H'
theorem QiG {X:Cx}:SlR X (rSlLW X.K):=by
  intro pins s σ H x v vl vu lo hi sl Q I rx hs pl pu h
  obtain ⟨a,xs,e,hx,q⟩:=h
  exact QkH pins s σ H x v vl vu lo hi sl Q I rx hs pl pu ⟨a,xs,e,hx,fun p hp=>q p _ (Qae hp) hp Qad⟩
end L2
namespace Rk
open PySem PySem.Spec PyProof.Rows L2 _root_.Rd
end Rk
namespace L2
open PySem PySem.Spec PyProof.Rows
section
variable {X:Cx}
def Qg2 (K:PySem.W.Frag):List V->Hp->VK->Prop:=fun xs H Q=>∃ p ys,xs=[.ref p]/\((SqL K H p ys/\∀ l H',Same H H'->H l=none->H' l=some (.tup ys)->Q (.ref l) H')∨(SqT K H p ys/\Q (.ref p) H))
theorem Qax:CallR X (.type "tuple") (Qg2 X.K):=by
  intro pins s σ H xs us Q I r h
  obtain ⟨p,ys,e,h⟩:=h
  refine Qcf pins s σ H xs us Q I r ⟨p,ys,e,?_⟩
  rcases h with ⟨h1,h2⟩ | h
  · exact .inl ⟨h1,fun l hl=>h2 l _ (Qae hl) hl Qad⟩
  · exact .inr h
def Qg4 (K:PySem.W.Frag):List V->Hp->VK->Prop:=fun xs H Q=>∃ p ys,xs=[.ref p]/\(SqL K H p ys∨SqT K H p ys)/\∀ l H',Same H H'->H l=none->H' l=some (.lst ys)->Q (.ref l) H'
theorem Qcg:CallR X (.type "list") (Qg4 X.K):=by
  intro pins s σ H xs us Q I r h
  obtain ⟨p,ys,e,h1,h2⟩:=h
  exact QeP pins s σ H xs us Q I r ⟨p,ys,e,h1,fun l hl=>h2 l _ (Qae hl) hl Qad⟩
end
end L2
namespace Rk
open PySem PySem.Spec PyProof.Rows L2 _root_.Rd
end Rk
namespace L2
open PySem PySem.Spec PyProof.Rows
section
variable {X:Cx}
end
section
variable {X:Cx}
end
end L2
namespace Rk
open PySem PySem.Spec PyProof.Rows L2 _root_.Rd
end Rk
namespace Rx
open PySem PySem.Spec PySem.Calls PyProof.Rows L2
abbrev TSX:=L2.Ends->L2.St->Hp->(Addr->Hp->Prop)->Prop
def PSX (X:Cx) (st:Stmt) (t:TSX):Prop:=∀ (pins:List (Addr×Obj)) (s:Shared) (σ:L2.St) (H:Hp) (D:L2.Ends) (Ex:Addr->Hp->Prop),Inv X pins σ H s->t D σ H Ex ->
  wpAny (model X.prog X.w) X.A (exec st X.env) (SP X pins D) (XP X pins fun σ1 C H1=>σ1=σ/\Ex C H1) s
def PSXs (X:Cx) (sts:List Stmt) (t:TSX):Prop:=∀ (pins:List (Addr×Obj)) (s:Shared) (σ:L2.St) (H:Hp) (D:L2.Ends) (Ex:Addr->Hp->Prop),Inv X pins σ H s->t D σ H Ex ->
  wpAny (model X.prog X.w) X.A (execs sts X.env) (SP X pins D) (XP X pins fun σ1 C H1=>σ1=σ/\Ex C H1) s
section
variable {X:Cx} {e:Expr} {st:Stmt} {pos:Pos} {te:TX} {t u:TSX} {tc:TT} {c:Expr} {a b:List Stmt}
end
section
variable {X:Cx} {R:Addr} {i:Nat} {n r:Str} {body:List Stmt} {hx:Expr} {tb:TSX} {th:TE} {np hp hpos pos:Pos}
end
end Rx
namespace L2
open PySem PySem.Spec PyProof.Rows
theorem FnOk.or {P:Program} {w:World} {K:PySem.W.Frag} {mg:Str->Option Value} {base:Heap} {CX:CXT} {k:Nat} {f:Addr} {fd:FuncData} {ps:List Str} {sp sp':Sp} (F:FnOk P w K mg base CX k f fd ps sp) (G:FnOk P w K mg base CX k f fd ps sp') :
    FnOk P w K mg base CX k f fd ps (fun vs H Q E=>sp vs H Q E∨sp' vs H Q E):=
  ⟨fun vs H Q E q=>q.elim (F.len vs H Q E) (G.len vs H Q E),fun A outer s H args us vs Q E hr he hb hv hs=>hs.elim (fun z=>F.run A outer s H args us vs Q E hr he hb hv z) fun z=>G.run A outer s H args us vs Q E hr he hb hv z⟩
theorem FnOk.ex {P:Program} {w:World} {K:PySem.W.Frag} {mg:Str->Option Value} {base:Heap} {CX:CXT} {k:Nat} {f:Addr} {fd:FuncData} {ps:List Str} {sp:Sp} (F:FnOk P w K mg base CX0 k f fd ps sp) :
    FnOk P w K mg base CX k f fd ps sp:=
  ⟨F.len,fun A outer s H args us vs Q E hr he hb hv hs=>codeAny_mono (F.run A outer s H args us vs Q E hr he hb hv hs) fun r s' z=>by
    cases r with
    | error e=>exact False.elim z
    | ok fl=>cases fl<;>exact z⟩
section
variable {X:Cx}
end
end L2
namespace Rk
open PySem PySem.Spec PyProof.Rows L2 _root_.Rd
end Rk
namespace Dl
open PySem PySem.Spec PyProof.Rows L2 _root_.Rd Rk
mutual
inductive DA (A:Addr->Prop) (H:Hp):V->PyData->Prop
  | non:DA A H .non .none
  | bl (b:Bool):DA A H (.bl b) (.bool b)
  | int (i:Int):DA A H (.int i) (.int i)
  | str (x:Str):PyData.canLay0 (.str x)=true->DA A H (.str x) (.str x)
  | tup {a:Addr} {xs:List V} {ds:List PyData}:¬ A a->H a=some (.tup xs)->DAs A H xs ds->DA A H (.ref a) (.tuple ds)
  | lst {a:Addr} {xs:List V} {ds:List PyData}:¬ A a->H a=some (.lst xs)->DAs A H xs ds->DA A H (.ref a) (.list ds)
  | dct {a:Addr}:¬ A a->H a=some (.dK [])->DA A H (.ref a) (.dict [])
inductive DAs (A:Addr->Prop) (H:Hp):List V->List PyData->Prop
  | nil:DAs A H [] []
  | cons {x:V} {xs:List V} {d:PyData} {ds:List PyData}:DA A H x d->DAs A H xs ds->DAs A H (x::xs) (d::ds)
end
mutual
theorem da_mv {A A':Addr->Prop} {H H':Hp} (k:∀ a o,¬ A a->H a=some o->H' a=some o) (m:∀ a,A' a->A a∨H a=none):∀ (d:PyData) (x:V),DA A H x d->DA A' H' x d
  | .none,_,.non=>.non
  | .bool _,_,.bl _=>.bl _
  | .int _,_,.int _=>.int _
  | .str _,_,.str _ c=>.str _ c
  | .tuple ds,_,.tup (xs:=xs) n e q=>.tup (fun z=>(m _ z).elim n fun z=>by rw [z] at e;cases e) (k _ _ n e) (Qgb k m ds xs q)
  | .list ds,_,.lst (xs:=xs) n e q=>.lst (fun z=>(m _ z).elim n fun z=>by rw [z] at e;cases e) (k _ _ n e) (Qgb k m ds xs q)
  | .dict _,_,.dct n e=>.dct (fun z=>(m _ z).elim n fun z=>by rw [z] at e;cases e) (k _ _ n e)
theorem Qgb {A A':Addr->Prop} {H H':Hp} (k:∀ a o,¬ A a->H a=some o->H' a=some o) (m:∀ a,A' a->A a∨H a=none):∀ (ds:List PyData) (xs:List V),DAs A H xs ds->DAs A' H' xs ds
  | [],_,.nil=>.nil
  | d::ds,_,.cons (x:=x) (xs:=xs) q qs=>.cons (da_mv k m d x q) (Qgb k m ds xs qs)
end
theorem DA.mv {A A':Addr->Prop} {H H':Hp} {x:V} {d:PyData} (q:DA A H x d) (k:∀ a o,¬ A a->H a=some o->H' a=some o) (m:∀ a,A' a->A a∨H a=none):DA A' H' x d:=da_mv k m d x q
theorem DAs.mv {A A':Addr->Prop} {H H':Hp} {x:List V} {d:List PyData} (q:DAs A H x d) (k:∀ a o,¬ A a->H a=some o->H' a=some o) (m:∀ a,A' a->A a∨H a=none):DAs A' H' x d:=Qgb k m d x q
theorem DA.same {A:Addr->Prop} {H H':Hp} {x:V} {d:PyData} (q:DA A H x d) (s:Same H H'):DA A H' x d:=q.mv (fun a o _ e=>s a o e) fun a z=>.inl z
theorem DAs.same {A:Addr->Prop} {H H':Hp} {x:List V} {d:List PyData} (q:DAs A H x d) (s:Same H H'):DAs A H' x d:=q.mv (fun a o _ e=>s a o e) fun a z=>.inl z
theorem DAs.length {A:Addr->Prop} {H:Hp}:∀ {xs:List V} {ds:List PyData},DAs A H xs ds->xs.length=ds.length
  | _,_,.nil=>rfl
  | _,_,.cons _ q=>by rw [List.length_cons,List.length_cons,q.length]
theorem DAs.get {A:Addr->Prop} {H:Hp}:∀ {xs:List V} {ds:List PyData},DAs A H xs ds->∀ (i:Nat) (d:PyData),ds[i]? = some d->∃ x,xs[i]? = some x/\DA A H x d
  | _,_,.nil,i,x,e=>by simp at e
  | _,_,.cons q qs,0,x,e=>by simp at e;subst e;exact ⟨_,rfl,q⟩
  | _,_,.cons q qs,i+1,x,e=>qs.get i x (by simpa using e)
theorem DAs.getV {A:Addr->Prop} {H:Hp}:∀ {xs:List V} {ds:List PyData},DAs A H xs ds->∀ (i:Nat) (x:V),xs[i]? = some x->∃ d,ds[i]? = some d/\DA A H x d
  | _,_,.nil,i,x,e=>by simp at e
  | _,_,.cons q qs,0,x,e=>by simp at e;subst e;exact ⟨_,rfl,q⟩
  | _,_,.cons q qs,i+1,x,e=>qs.getV i x (by simpa using e)
theorem DAs.app {A:Addr->Prop} {H:Hp}:∀ {xs ys:List V} {ds es:List PyData},DAs A H xs ds->DAs A H ys es->DAs A H (xs++ys) (ds++es)
  | _,_,_,_,.nil,q=>q
  | _,_,_,_,.cons a b,q=>.cons a (b.app q)
theorem DAs.take {A:Addr->Prop} {H:Hp}:∀ {xs:List V} {ds:List PyData},DAs A H xs ds->∀ n:Nat,DAs A H (xs.take n) (ds.take n)
  | _,_,.nil,n=>by rw [List.take_nil,List.take_nil];exact .nil
  | _,_,.cons a b,0=>.nil
  | _,_,.cons a b,n+1=>.cons a (b.take n)
theorem DAs.drop {A:Addr->Prop} {H:Hp}:∀ {xs:List V} {ds:List PyData},DAs A H xs ds->∀ n:Nat,DAs A H (xs.drop n) (ds.drop n)
  | _,_,.nil,n=>by rw [List.drop_nil,List.drop_nil];exact .nil
  | _,_,.cons a b,0=>.cons a b
  | _,_,.cons a b,n+1=>b.drop n
theorem DAs.set {A:Addr->Prop} {H:Hp} {x:V} {d:PyData} (q:DA A H x d):∀ {xs:List V} {ds:List PyData},DAs A H xs ds->∀ n:Nat,DAs A H (xs.set n x) (ds.set n d)
  | _,_,.nil,n=>.nil
  | _,_,.cons a b,0=>.cons q b
  | _,_,.cons a b,n+1=>.cons a (b.set q n)
theorem DAs.rev {A:Addr->Prop} {H:Hp}:∀ {xs:List V} {ds:List PyData},DAs A H xs ds->DAs A H xs.reverse ds.reverse
  | _,_,.nil=>.nil
  | _,_,.cons a b=>by rw [List.reverse_cons,List.reverse_cons];exact b.rev.app (.cons a .nil)
mutual
def nd:PyData->Bool
  | .dict _=>false
  | .tuple ds=>nds ds
  | .list ds=>nds ds
  | _=>true
def nds:List PyData->Bool
  | []=>true
  | d::ds=>nd d&&nds ds
end
mutual
theorem Qid {A:Addr->Prop} {H:Hp}:∀ (d:PyData) (x:V),nd d=true->DA A H x d->Dat H x d
  | .none,_,_,.non=>.non
  | .bool _,_,_,.bl _=>.bl _
  | .int _,_,_,.int _=>.int _
  | .str _,_,_,.str _ c=>.str _ c
  | .tuple ds,_,n,.tup (xs:=xs) _ e q=>.tup e (QbM ds xs n q)
  | .list ds,_,n,.lst (xs:=xs) _ e q=>.lst e (QbM ds xs n q)
theorem QbM {A:Addr->Prop} {H:Hp}:∀ (ds:List PyData) (xs:List V),nds ds=true->DAs A H xs ds->Dats H xs ds
  | [],_,_,.nil=>.nil
  | d::ds,_,n,.cons (x:=x) (xs:=xs) q qs=>by
    have n':=Bool.and_eq_true_iff.mp (show (nd d&&nds ds)=true from n)
    exact .cons (Qid d x n'.1 q) (QbM ds xs n'.2 qs)
end
theorem QhB {ds:List PyData}:nds ds=true↔∀ d∈ds,nd d=true:=by
  induction ds with
  | nil=>exact ⟨(fun _ _ h=>nomatch h),fun _=>rfl⟩
  | cons d ds ih=>
    rw [show nds (d::ds)=(nd d&&nds ds) from rfl,Bool.and_eq_true_iff,ih]
    constructor
    · rintro ⟨a,b⟩ e he
      rcases List.mem_cons.mp he with z | z
      · rw [z];exact a
      · exact b e z
    · intro h
      exact ⟨h d (by simp),fun e he=>h e (by simp [he])⟩
def DP (A P:Addr->Prop) (H:Hp) (v:V) (d:PyData):Prop:=DA A H v d∨∃ l xs ds,v=.ref l/\d=.list ds/\¬ P l/\H l=some (.lst xs)/\DAs A H xs ds
theorem DP.dat {A P:Addr->Prop} {H:Hp} {v:V} {d:PyData} (h:DP A P H v d) (n:nd d=true):Dat H v d:=by
  rcases h with h | ⟨l,xs,ds,rfl,rfl,_,e,q⟩
  · exact Qid d v n h
  · exact .lst e (QbM ds xs n q)
theorem DP.list {A P:Addr->Prop} {H:Hp} {v:V} {ds:List PyData} (h:DP A P H v (.list ds)):∃ l xs,v=.ref l/\H l=some (.lst xs)/\DAs A H xs ds:=by
  rcases h with h | ⟨l,xs,ds',rfl,e,_,h2,q⟩
  · cases h with | lst n e q=>exact ⟨_,_,rfl,e,q⟩
  · cases e;exact ⟨l,xs,rfl,h2,q⟩
theorem DP.tuple {A P:Addr->Prop} {H:Hp} {v:V} {ds:List PyData} (h:DP A P H v (.tuple ds)):∃ l xs,v=.ref l/\H l=some (.tup xs)/\DAs A H xs ds:=by
  rcases h with h | ⟨l,xs,ds',rfl,e,_⟩
  · cases h with | tup n e q=>exact ⟨_,_,rfl,e,q⟩
  · cases e
theorem DP.int {A P:Addr->Prop} {H:Hp} {v:V} {i:Int} (h:DP A P H v (.int i)):v=.int i:=by
  rcases h with h | ⟨l,xs,ds',rfl,e,_⟩
  · cases h;rfl
  · cases e
theorem DP.bool {A P:Addr->Prop} {H:Hp} {v:V} {i:Bool} (h:DP A P H v (.bool i)):v=.bl i:=by
  rcases h with h | ⟨l,xs,ds',rfl,e,_⟩
  · cases h;rfl
  · cases e
theorem DP.none {A P:Addr->Prop} {H:Hp} {v:V} (h:DP A P H v .none):v=.non:=by
  rcases h with h | ⟨l,xs,ds',rfl,e,_⟩
  · cases h;rfl
  · cases e
theorem DP.str {A P:Addr->Prop} {H:Hp} {v:V} {x:Str} (h:DP A P H v (.str x)):v=.str x/\PyData.canLay0 (.str x)=true:=by
  rcases h with h | ⟨l,xs,ds',rfl,e,_⟩
  · cases h with | str _ c=>exact ⟨rfl,c⟩
  · cases e
inductive Sl where
  | no | pot | scr
  | v (d:PyData)
  | own (ds:List PyData)
  | pk (ds:List PyData)
abbrev Sts:=List Sl
structure Fm where
  H0:Hp
  A0:Addr->Prop
  pt:Addr->Prop
def OwAt (σ:L2.St) (δ:Sts) (i:Nat) (a:Addr):Prop:=σ[i]? = some (some (.ref a))/\(δ[i]? = some .pot∨∃ ds,δ[i]? = some (.own ds))
def Av (F:Fm) (σ:L2.St) (δ:Sts) (a:Addr):Prop:=F.A0 a∨∃ i,OwAt σ δ i a
def PotA (σ:L2.St) (δ:Sts) (a:Addr):Prop:=∃ i:Nat,σ[i]? = some (some (.ref a))/\δ[i]? = some .pot
def SlOk (K:PySem.W.Frag) (F:Fm) (H:Hp) (A:Addr->Prop) (o:Option V):Sl->Prop
  | .no=>True
  | .v d=>∃ v,o=some v/\DA A H v d
  | .own ds=>∃ l xs,o=some (.ref l)/\H l=some (.lst xs)/\DAs A H xs ds/\F.H0 l=none
  | .pk ds=>∃ l xs,o=some (.ref l)/\H l=some (.lst xs)/\DAs A H xs ds/\∃ ys,F.H0 l=some (.lst ys)/\¬ F.pt l
  | .pot=>∃ p n,o=some (.ref p)/\H p=some (.lst [.int n])/\(F.pt p∨F.H0 p=none)
  | .scr=>∃ a ns,o=some (.ref a)/\SqL K F.H0 a ((ns:List Int).map V.int)/\¬ F.pt a/\ns.length<=63
structure Rel (K:PySem.W.Frag) (F:Fm) (σ:L2.St) (H:Hp) (δ:Sts):Prop where
  len:σ.length=δ.length
  dom:∀ a,F.A0 a->∃ xs,H a=some (.lst xs)
  dom0:∀ a,F.A0 a->∃ xs,F.H0 a=some (.lst xs)
  pt0:∀ p,F.pt p->F.A0 p/\∃ n,H p=some (.lst [.int n])
  kx:∀ b o,¬ F.pt b->F.H0 b=some o->H b=some o
  sl:∀ (i:Nat) o x,σ[i]? = some o->δ[i]? = some x->SlOk K F H (Av F σ δ) o x
  inj:∀ (i j:Nat) a ds,δ[i]? = some (.own ds)->σ[i]? = some (some (.ref a))->OwAt σ δ j a->i=j
def Kp (σ:L2.St) (δ:Sts) (H H':Hp):Prop:=(∀ b o,¬ PotA σ δ b->H b=some o->H' b=some o)/\∀ b,PotA σ δ b->∃ n,H' b=some (.lst [.int n])
def Stp (F:Fm) (σ:L2.St) (H:Hp) (δ:Sts) (σ':L2.St) (H':Hp) (δ':Sts):Prop:=(∀ b o,¬ Av F σ δ b->H b=some o->H' b=some o)/\∀ b,Av F σ' δ' b->Av F σ δ b∨H b=none
def Ke (F:Fm) (H':Hp):Prop:=(∀ b o,¬ F.pt b->F.H0 b=some o->H' b=some o)/\∀ p,F.pt p->∃ n,H' p=some (.lst [.int n])
theorem QaU {F:Fm} {σ:L2.St} {δ:Sts} {a:Addr} (h:PotA σ δ a):Av F σ δ a:=let ⟨i,h1,h2⟩:=h;.inr ⟨i,h1,.inl h2⟩
theorem Rel.ke {K:PySem.W.Frag} {F:Fm} {σ:L2.St} {H:Hp} {δ:Sts} (r:Rel K F σ H δ):Ke F H:=⟨r.kx,fun p hp=>(r.pt0 p hp).2⟩
theorem Rel.isl {K:PySem.W.Frag} {F:Fm} {σ:L2.St} {H:Hp} {δ:Sts} (r:Rel K F σ H δ) {a:Addr} (h:Av F σ δ a):∃ xs,H a=some (.lst xs):=by
  rcases h with h | ⟨i,h1,h2⟩
  · exact r.dom a h
  · rcases h2 with h2 | ⟨ds,h2⟩
    · obtain ⟨p,n,e,h,_⟩:=r.sl i _ _ h1 h2
      cases e
      exact ⟨_,h⟩
    · obtain ⟨l,xs,e,h,_⟩:=r.sl i _ _ h1 h2
      cases e
      exact ⟨_,h⟩
theorem Kp.refl {K:PySem.W.Frag} {F:Fm} {σ:L2.St} {H:Hp} {δ:Sts} (r:Rel K F σ H δ):Kp σ δ H H:=⟨fun _ _ _ e=>e,fun b ⟨i,h1,h2⟩=>by
  obtain ⟨p,n,e,h,_⟩:=r.sl i _ _ h1 h2
  cases e
  exact ⟨n,h⟩⟩
theorem Kp.trans {σ:L2.St} {δ:Sts} {H H1 H2:Hp} (a:Kp σ δ H H1) (b:Kp σ δ H1 H2):Kp σ δ H H2:=⟨fun c o n e=>b.1 c o n (a.1 c o n e),b.2⟩
theorem Kp.same {K:PySem.W.Frag} {F:Fm} {σ:L2.St} {H H':Hp} {δ:Sts} (r:Rel K F σ H δ) (s:Same H H'):Kp σ δ H H':=⟨fun b o _ e=>s b o e,fun b hb=>let ⟨n,h⟩:=(Kp.refl r).2 b hb;⟨n,s _ _ h⟩⟩
theorem Kp.da {F:Fm} {σ:L2.St} {H H':Hp} {δ:Sts} {v:V} {d:PyData} (k:Kp σ δ H H') (h:DA (Av F σ δ) H v d):DA (Av F σ δ) H' v d:=h.mv (fun a o n e=>k.1 a o (fun z=>n (QaU z)) e) fun a z=>.inl z
theorem Kp.das {F:Fm} {σ:L2.St} {H H':Hp} {δ:Sts} {v:List V} {d:List PyData} (k:Kp σ δ H H') (h:DAs (Av F σ δ) H v d):DAs (Av F σ δ) H' v d:=h.mv (fun a o n e=>k.1 a o (fun z=>n (QaU z)) e) fun a z=>.inl z
theorem Kp.dp {F:Fm} {σ:L2.St} {H H':Hp} {δ:Sts} {v:V} {d:PyData} (k:Kp σ δ H H') (h:DP (Av F σ δ) (PotA σ δ) H v d):DP (Av F σ δ) (PotA σ δ) H' v d:=by
  rcases h with h | ⟨l,xs,ds,e1,e2,n,e,q⟩
  · exact .inl (k.da h)
  · exact .inr ⟨l,xs,ds,e1,e2,n,k.1 _ _ n e,k.das q⟩
theorem Rel.own_pot {K:PySem.W.Frag} {F:Fm} {σ:L2.St} {H:Hp} {δ:Sts} (r:Rel K F σ H δ) {i:Nat} {ds:List PyData} {l:Addr} (h:δ[i]? = some (.own ds)) (e:σ[i]? = some (some (.ref l))):¬ PotA σ δ l:=by
  rintro ⟨j,h1,h2⟩
  have:=r.inj i j l _ h e ⟨h1,.inl h2⟩
  subst this
  rw [h] at h2
  cases h2
theorem Rel.pt_pot {K:PySem.W.Frag} {F:Fm} {σ:L2.St} {H H':Hp} {δ:Sts} (r:Rel K F σ H δ) (k:Kp σ δ H H') {p:Addr} (hp:F.pt p):∃ n,H' p=some (.lst [.int n]):=by
  by_cases z:PotA σ δ p
  · exact k.2 p z
  · obtain ⟨n,e⟩:=(r.pt0 p hp).2
    exact ⟨n,k.1 _ _ z e⟩
theorem Rel.kp {K:PySem.W.Frag} {F:Fm} {σ:L2.St} {H H':Hp} {δ:Sts} (r:Rel K F σ H δ) (k:Kp σ δ H H'):Rel K F σ H' δ where
  len:=r.len
  dom:=fun a ha=>by
    by_cases z:PotA σ δ a
    · exact ⟨_,(k.2 a z).choose_spec⟩
    · obtain ⟨xs,e⟩:=r.dom a ha
      exact ⟨xs,k.1 _ _ z e⟩
  dom0:=r.dom0
  pt0:=fun p hp=>⟨(r.pt0 p hp).1,r.pt_pot k hp⟩
  kx:=fun b o n e=>by
    by_cases z:PotA σ δ b
    · obtain ⟨i,h1,h2⟩:=z
      obtain ⟨p,m,e1,h,q⟩:=r.sl i _ _ h1 h2
      cases e1
      rcases q with q | q
      · exact absurd q n
      · rw [q] at e;cases e
    · exact k.1 _ _ z (r.kx b o n e)
  sl:=fun i o x h1 h2=>by
    have h:=r.sl i o x h1 h2
    cases x with
    | no=>trivial
    | v d=>obtain ⟨v,e,q⟩:=h;exact ⟨v,e,k.da q⟩
    | own ds=>obtain ⟨l,xs,rfl,e,q,f⟩:=h;exact ⟨l,xs,rfl,k.1 _ _ (r.own_pot h2 h1) e,k.das q,f⟩
    | pk ds=>
      obtain ⟨l,xs,rfl,e,q,ys,f,f2⟩:=h
      refine ⟨l,xs,rfl,k.1 _ _ ?_ e,k.das q,ys,f,f2⟩
      rintro ⟨j,j1,j2⟩
      obtain ⟨p,m,e1,_,w⟩:=r.sl j _ _ j1 j2
      cases e1
      rcases w with w | w
      · exact f2 w
      · rw [w] at f;cases f
    | pot=>
      obtain ⟨p,n,rfl,e,q⟩:=h
      obtain ⟨m,e'⟩:=k.2 p ⟨i,h1,h2⟩
      exact ⟨p,m,rfl,e',q⟩
    | scr=>exact h
  inj:=r.inj
theorem Rel.same {K:PySem.W.Frag} {F:Fm} {σ:L2.St} {H H':Hp} {δ:Sts} (r:Rel K F σ H δ) (s:Same H H'):Rel K F σ H' δ:=r.kp (Kp.same r s)
theorem Stp.refl {F:Fm} {σ:L2.St} {H:Hp} {δ:Sts}:Stp F σ H δ σ H δ:=⟨fun _ _ _ e=>e,fun _ z=>.inl z⟩
theorem Stp.trans {F:Fm} {σ σ1 σ2:L2.St} {H H1 H2:Hp} {δ δ1 δ2:Sts} (a:Stp F σ H δ σ1 H1 δ1) (b:Stp F σ1 H1 δ1 σ2 H2 δ2):Stp F σ H δ σ2 H2 δ2:=by
  refine ⟨fun c o n e=>?_,fun c z=>?_⟩
  · refine b.1 c o (fun z=>?_) (a.1 c o n e)
    rcases a.2 c z with q | q
    · exact n q
    · rw [q] at e;cases e
  · rcases b.2 c z with q | q
    · exact a.2 c q
    · by_cases y:Av F σ δ c
      · exact .inl y
      · right
        cases e:H c with
        | none=>rfl
        | some o=>rw [a.1 c o y e] at q;cases q
theorem Stp.kp {F:Fm} {σ:L2.St} {H H':Hp} {δ:Sts} (k:Kp σ δ H H'):Stp F σ H δ σ H' δ:=⟨fun b o n e=>k.1 b o (fun z=>n (QaU z)) e,fun _ z=>.inl z⟩
theorem Stp.da {F:Fm} {σ σ':L2.St} {H H':Hp} {δ δ':Sts} {v:V} {d:PyData} (k:Stp F σ H δ σ' H' δ') (h:DA (Av F σ δ) H v d):DA (Av F σ' δ') H' v d:=h.mv k.1 k.2
theorem Stp.das {F:Fm} {σ σ':L2.St} {H H':Hp} {δ δ':Sts} {v:List V} {d:List PyData} (k:Stp F σ H δ σ' H' δ') (h:DAs (Av F σ δ) H v d):DAs (Av F σ' δ') H' v d:=h.mv k.1 k.2
abbrev XP:=Addr->Prop
abbrev DE:=Sts->(PyData->Prop)->XP->Prop
abbrev DT:=Sts->(Bool->Prop)->XP->Prop
abbrev DAr:=Sts->(List PyData->Prop)->XP->Prop
abbrev DSl:=Sts->(List Sl->Prop)->XP->Prop
inductive Md where | D | P | F
def FrV (H H':Hp) (v:V):Prop:=∀ l,v=.ref l->(∃ xs,H' l=some (.lst xs))->H l=none
def Vok (m:Md) (F:Fm) (σ:L2.St) (δ:Sts) (H H':Hp) (v:V) (d:PyData):Prop:=
  match m with
  | .D=>DA (Av F σ δ) H' v d
  | .P=>DP (Av F σ δ) (PotA σ δ) H' v d
  | .F=>DA (Av F σ δ) H' v d/\FrV H H' v
def Out (F:Fm) (E:XK) (EX:XP):Prop:=∀ C,EX C->∀ H',Ke F H'->E (.ref C) none H'
def tX (m:Md) (K:PySem.W.Frag) (E:XK) (w:DE):TE:=fun σ H Q=>∃ (F:Fm) (δ:Sts) (R:PyData->Prop) (EX:XP),Rel K F σ H δ/\w δ R EX/\(∀ d,R d->∀ v H',Rel K F σ H' δ->Kp σ δ H H'->Vok m F σ δ H H' v d->Q v H')/\Out F E EX
def tT (K:PySem.W.Frag) (E:XK) (w:DT):TT:=fun σ H Q=>∃ (F:Fm) (δ:Sts) (R:Bool->Prop) (EX:XP),Rel K F σ H δ/\w δ R EX/\(∀ b,R b->∀ H',Rel K F σ H' δ->Kp σ δ H H'->Q b H')/\Out F E EX
def VD (m:Md) (A P:Addr->Prop) (H:Hp) (v:V) (d:PyData):Prop:=
  match m with
  | .P=>DP A P H v d
  | _=>DA A H v d
def tAr (n:Nat) (m:Md) (K:PySem.W.Frag) (E:XK) (w:DAr):TA:=fun σ H Q=>∃ (F:Fm) (δ:Sts) (R:List PyData->Prop) (EX:XP),Rel K F σ H δ/\w δ R EX/\(∀ ds,R ds->ds.length=n->∀ vs H',Rel K F σ H' δ->Kp σ δ H H'->Paired (VD m (Av F σ δ) (PotA σ δ) H') vs ds->Q vs H')/\Out F E EX
def QgE (A pt:Addr->Prop) (H:Hp) (v:V):Sl->Prop
  | .v d=>DA A H v d
  | .pot=>∃ p,v=.ref p/\pt p
  | _=>False
def tAs (K:PySem.W.Frag) (E:XK) (w:DSl):TA:=fun σ H Q=>∃ (F:Fm) (δ:Sts) (R:List Sl->Prop) (EX:XP),Rel K F σ H δ/\w δ R EX/\(∀ ds,R ds->∀ vs H',Rel K F σ H' δ->Kp σ δ H H'->Paired (QgE (Av F σ δ) (PotA σ δ) H') vs ds->Q vs H')/\Out F E EX
theorem Kp.vd {m:Md} {F:Fm} {σ:L2.St} {H H':Hp} {δ:Sts} {v:V} {d:PyData} (k:Kp σ δ H H') (h:VD m (Av F σ δ) (PotA σ δ) H v d):VD m (Av F σ δ) (PotA σ δ) H' v d:=by
  cases m
  · exact k.da h
  · exact k.dp h
  · exact k.da h
theorem Kp.arg {F:Fm} {σ:L2.St} {H H':Hp} {δ:Sts} {v:V} {d:Sl} (k:Kp σ δ H H') (h:QgE (Av F σ δ) (PotA σ δ) H v d):QgE (Av F σ δ) (PotA σ δ) H' v d:=by
  cases d with
  | v d=>exact k.da h
  | pot=>exact h
  | _=>exact h.elim
def QbY (H:Hp):Prop:=∀ a xs,H a=some (.lst xs)∨H a=some (.tup xs)->xs.length<=sizeLine
section
variable {X:Cx} {E:XK}
theorem Inv.lens {pins:List (Addr×Obj)} {σ:L2.St} {H:Hp} {s:Shared} (I:Inv X pins σ H s):QbY H:=fun a xs h=>by
  rcases h with h | h
  · exact (I.hok a _ h).1
  · exact (I.hok a _ h).1
theorem PE.imp {e:Expr} {t t':TE} (h:PE X e t) (i:∀ σ H Q,t' σ H Q->t σ H Q):PE X e t':=fun pins s σ H Q I q=>h pins s σ H Q I (i σ H Q q)
theorem PT.imp {e:Expr} {t t':TT} (h:PT X e t) (i:∀ σ H Q,t' σ H Q->t σ H Q):PT X e t':=fun pins s σ H Q I q=>h pins s σ H Q I (i σ H Q q)
theorem PW.imp {e:Expr} {t t':TT} (h:PW X e t) (i:∀ σ H Q,t' σ H Q->t σ H Q):PW X e t':=fun wh pins s σ H Q I q=>h wh pins s σ H Q I (i σ H Q q)
theorem PA.imp {e:List Expr} {t t':TA} (h:PA X e t) (i:∀ σ H Q,t' σ H Q->t σ H Q):PA X e t':=fun pos pins s σ H Q I q=>h pos pins s σ H Q I (i σ H Q q)
theorem OpR.len {f:Value->Value->Sem Value} {r:R2} (h:OpR X f r):OpR X f (fun x y H Q=>QbY H->r x y H Q):=fun pins s σ H x y v u Q I rx ry q=>h pins s σ H x y v u Q I rx ry (q (Inv.lens I))
theorem CallR.len {f:Value} {r:List V->Hp->VK->Prop} (h:CallR X f r):CallR X f (fun xs H Q=>QbY H->r xs H Q):=fun pins s σ H xs us Q I rx q=>h pins s σ H xs us Q I rx (q (Inv.lens I))
theorem UnR.len {f:Value->Sem Value} {r:V->Hp->VK->Prop} (h:UnR X f r):UnR X f (fun x H Q=>QbY H->r x H Q):=fun pins s σ H x v Q I rx q=>h pins s σ H x v Q I rx (q (Inv.lens I))
theorem IxR.len {r:R2} (h:IxR X r):IxR X (fun x y H Q=>QbY H->r x y H Q):=fun a b pins s σ H x y v u Q I rx ry q hs=>h a b pins s σ H x y v u Q I rx ry (q (Inv.lens I)) hs
theorem SlR.len {r:V->Option Int->Option Int->Hp->VK->Prop} (h:SlR X r):SlR X (fun x a b H Q=>QbY H->r x a b H Q):=fun pins s σ H x v vl vu lo hi sl Q I rx hs pl pu q=>h pins s σ H x v vl vu lo hi sl Q I rx hs pl pu (q (Inv.lens I))
theorem OpR.or2 {f:Value->Value->Sem Value} {r r':R2} (h:OpR X f r) (h':OpR X f r'):OpR X f (fun x y H Q=>r x y H Q∨r' x y H Q):=OpR.or h h'
theorem CallR.or2 {f:Value} {r r':List V->Hp->VK->Prop} (h:CallR X f r) (h':CallR X f r'):CallR X f (fun x H Q=>r x H Q∨r' x H Q):=fun pins s σ H xs us Q I rx q=>q.elim (h pins s σ H xs us Q I rx) (h' pins s σ H xs us Q I rx)
theorem IxR.or2 {r r':R2} (h:IxR X r) (h':IxR X r'):IxR X (fun x y H Q=>r x y H Q∨r' x y H Q):=fun a b pins s σ H x y v u Q I rx ry q hs=>q.elim (fun q=>h a b pins s σ H x y v u Q I rx ry q hs) fun q=>h' a b pins s σ H x y v u Q I rx ry q hs
theorem SlR.or2 {r r':V->Option Int->Option Int->Hp->VK->Prop} (h:SlR X r) (h':SlR X r'):SlR X (fun x a b H Q=>r x a b H Q∨r' x a b H Q):=fun pins s σ H x v vl vu lo hi sl Q I rx hs pl pu q=>q.elim (h pins s σ H x v vl vu lo hi sl Q I rx hs pl pu) (h' pins s σ H x v vl vu lo hi sl Q I rx hs pl pu)
theorem toD {e:Expr} {w:DE} (h:PE X e (tX .F X.K E w)):PE X e (tX .D X.K E w):=PE.imp h fun σ H Q ⟨F,δ,R,EX,r,hw,k,o⟩=>⟨F,δ,R,EX,r,hw,fun d hd v H' r' kp vk=>k d hd v H' r' kp vk.1,o⟩
theorem toP {e:Expr} {w:DE} (h:PE X e (tX .D X.K E w)):PE X e (tX .P X.K E w):=PE.imp h fun σ H Q ⟨F,δ,R,EX,r,hw,k,o⟩=>⟨F,δ,R,EX,r,hw,fun d hd v H' r' kp vk=>k d hd v H' r' kp (.inl vk),o⟩
theorem toPF {e:Expr} {w:DE} (h:PE X e (tX .F X.K E w)):PE X e (tX .P X.K E w):=toP (toD h)
def dVar (i:Nat):DE:=fun δ Q _=>match δ[i]? with
  | some (.v d)=>Q d
  | _=>False
def dPk (i:Nat):DE:=fun δ Q _=>match δ[i]? with
  | some (.v d)=>Q d
  | some (.own ds)=>Q (.list ds)
  | some (.pk ds)=>Q (.list ds)
  | _=>False
def dC (d:PyData):DE:=fun _ Q _=>Q d
theorem Rel.lt {K:PySem.W.Frag} {F:Fm} {σ:L2.St} {H:Hp} {δ:Sts} (r:Rel K F σ H δ) {i:Nat} {x:Sl} (h:δ[i]? = some x):∃ o,σ[i]? = some o:=by
  have:=(List.getElem?_eq_some_iff.mp h).1
  exact ⟨σ[i]'(by rw [r.len];exact this),List.getElem?_eq_getElem _⟩
theorem pd_var {e:Expr} {i:Nat} (h:PE X e (tVar i)):PE X e (tX .D X.K E (dVar i)):=PE.imp h fun σ H Q ⟨F,δ,R,EX,r,hw,k,o⟩=>by
  unfold dVar at hw
  split at hw
  · rename_i d hd
    obtain ⟨x,hx⟩:=r.lt hd
    obtain ⟨v,rfl,q⟩:=r.sl i _ _ hx hd
    exact ⟨v,hx,k d hw v H r (Kp.refl r) q⟩
  · exact hw.elim
theorem pd_pk {e:Expr} {i:Nat} (h:PE X e (tVar i)):PE X e (tX .P X.K E (dPk i)):=PE.imp h fun σ H Q ⟨F,δ,R,EX,r,hw,k,o⟩=>by
  unfold dPk at hw
  split at hw
  · rename_i d hd
    obtain ⟨x,hx⟩:=r.lt hd
    obtain ⟨v,rfl,q⟩:=r.sl i _ _ hx hd
    exact ⟨v,hx,k d hw v H r (Kp.refl r) (.inl q)⟩
  · rename_i d hd
    obtain ⟨x,hx⟩:=r.lt hd
    obtain ⟨l,xs,rfl,e,q,_⟩:=r.sl i _ _ hx hd
    exact ⟨_,hx,k _ hw _ H r (Kp.refl r) (.inr ⟨l,xs,d,rfl,rfl,r.own_pot hd hx,e,q⟩)⟩
  · rename_i d hd
    obtain ⟨x,hx⟩:=r.lt hd
    obtain ⟨l,xs,rfl,e,q,ys,f,f2⟩:=r.sl i _ _ hx hd
    refine ⟨_,hx,k _ hw _ H r (Kp.refl r) (.inr ⟨l,xs,d,rfl,rfl,?_,e,q⟩)⟩
    rintro ⟨j,j1,j2⟩
    obtain ⟨p,m,e1,_,w⟩:=r.sl j _ _ j1 j2
    cases e1
    rcases w with w | w
    · exact f2 w
    · rw [w] at f;cases f
  · exact hw.elim
theorem pd_c {e:Expr} {v:V} {d:PyData} (h:PE X e (tC v)) (q:∀ (A:Addr->Prop) (H:Hp),DA A H v d):PE X e (tX .D X.K E (dC d)):=PE.imp h fun σ H Q ⟨F,δ,R,EX,r,hw,k,o⟩=>k d hw v H r (Kp.refl r) (q _ _)
theorem pd_int {i:Int} {j pos}:PE X (.Constant (.int i) j pos) (tX .D X.K E (dC (.int i))):=pd_c QaE fun _ _=>.int i
theorem pd_bl {b:Bool} {j pos}:PE X (.Constant (.bool b) j pos) (tX .D X.K E (dC (.bool b))):=pd_c pe_bl fun _ _=>.bl b
theorem pd_non {j pos}:PE X (.Constant .none j pos) (tX .D X.K E (dC .none)):=pd_c pe_non fun _ _=>.non
theorem pd_str {x:Str} {j pos} (h:PyData.canLay0 (.str x)=true:=by decide +kernel):PE X (.Constant (.str x) j pos) (tX .D X.K E (dC (.str x))):=pd_c pe_str fun _ _=>.str x h
def OpD (r:R2) (rD:PyData->PyData->(PyData->Prop)->Prop):Prop:=∀ (A P:Addr->Prop) (H:Hp) (x y:V) (d1 d2:PyData) (R:PyData->Prop) (Q:VK),QbY H->(∀ a,A a->∃ xs,H a=some (.lst xs))->DP A P H x d1->DP A P H y d2->rD d1 d2 R ->
  (∀ d,R d->∀ v H',Same H H'->DA A H' v d->FrV H H' v->Q v H')->r x y H Q
def OpDn (r:R2) (rD:PyData->PyData->(PyData->Prop)->Prop):Prop:=∀ (A P:Addr->Prop) (H:Hp) (x y:V) (d1 d2:PyData) (R:PyData->Prop) (Q:VK),QbY H->(∀ a,A a->∃ xs,H a=some (.lst xs))->DP A P H x d1->DP A P H y d2->rD d1 d2 R ->
  (∀ d,R d->∀ v H',Same H H'->DA A H' v d->Q v H')->r x y H Q
def dOp (rD:PyData->PyData->(PyData->Prop)->Prop) (wa wb:DE):DE:=fun δ Q EX=>wa δ (fun d1=>wb δ (fun d2=>rD d1 d2 Q) EX) EX
theorem Qfh {K:PySem.W.Frag} {r:R2} {rD:PyData->PyData->(PyData->Prop)->Prop} {wa wb:DE} (hd:OpD r rD) (σ:L2.St) (H:Hp) (Q:VK) (h:tX .F K E (dOp rD wa wb) σ H Q) :
    tOp (fun x y H Q=>QbY H->r x y H Q) (tX .P K E wa) (tX .P K E wb) σ H Q:=by
  obtain ⟨F,δ,R,EX,rel,hw,k,o⟩:=h
  refine ⟨F,δ,_,EX,rel,hw,fun d1 h1 x H1 rel1 kp1 x1=>⟨F,δ,_,EX,rel1,h1,fun d2 h2 y H2 rel2 kp2 y2=>fun ln=>?_,o⟩,o⟩
  refine hd (Av F σ δ) (PotA σ δ) H2 x y d1 d2 R Q ln (fun a ha=>rel2.isl ha) (kp2.dp x1) y2 h2 fun d hR v H' s q f=>?_
  refine k d hR v H' (rel2.same s) ((kp1.trans kp2).trans (Kp.same rel2 s)) ⟨q,fun l e1 e2=>?_⟩
  have f2:=f l e1 e2
  cases e:H l with
  | none=>rfl
  | some ob=>
    by_cases z:PotA σ δ l
    · obtain ⟨n,en⟩:=kp2.2 l z
      rw [en] at f2;cases f2
    · rw [(kp1.trans kp2).1 _ _ z e] at f2;cases f2
theorem Qjc {K:PySem.W.Frag} {r:R2} {rD:PyData->PyData->(PyData->Prop)->Prop} {wa wb:DE} (hd:OpDn r rD) (σ:L2.St) (H:Hp) (Q:VK) (h:tX .D K E (dOp rD wa wb) σ H Q) :
    tOp (fun x y H Q=>QbY H->r x y H Q) (tX .P K E wa) (tX .P K E wb) σ H Q:=by
  obtain ⟨F,δ,R,EX,rel,hw,k,o⟩:=h
  refine ⟨F,δ,_,EX,rel,hw,fun d1 h1 x H1 rel1 kp1 x1=>⟨F,δ,_,EX,rel1,h1,fun d2 h2 y H2 rel2 kp2 y2=>fun ln=>?_,o⟩,o⟩
  refine hd (Av F σ δ) (PotA σ δ) H2 x y d1 d2 R Q ln (fun a ha=>rel2.isl ha) (kp2.dp x1) y2 h2 fun d hR v H' s q=>?_
  exact k d hR v H' (rel2.same s) ((kp1.trans kp2).trans (Kp.same rel2 s)) q
variable {a b:Expr} {wa wb:DE} {pos:Pos} {r:R2} {rD:PyData->PyData->(PyData->Prop)->Prop}
theorem pd_bin {op:Operator} (ho:OpR X (binaryOp op) r) (hd:OpD r rD) (ha:PE X a (tX .P X.K E wa)) (hb:PE X b (tX .P X.K E wb)):PE X (.BinOp a op b pos) (tX .F X.K E (dOp rD wa wb)):=PE.imp (Qbi (OpR.len ho) ha hb) (Qfh hd)
theorem pd_cmp {op:CmpOp} (ho:OpR X (compareOp op) r) (hd:OpD r rD) (ha:PE X a (tX .P X.K E wa)) (hb:PE X b (tX .P X.K E wb)) (hm:behindInMarks op b=false):PE X (.Compare a [op] [b] pos) (tX .F X.K E (dOp rD wa wb)):=PE.imp (Qk8 (OpR.len ho) ha hb hm) (Qfh hd)
theorem pd_ix {r:R2} {rD:PyData->PyData->(PyData->Prop)->Prop} (ho:IxR X r) (hd:OpDn r rD) (ha:PE X a (tX .P X.K E wa)) (hb:PE X b (tX .P X.K E wb)) (hs:QfB b):PE X (.Subscript a b pos) (tX .D X.K E (dOp rD wa wb)):=PE.imp (QiU (IxR.len ho) ha hb hs) (Qjc hd)
def dTst (w:DE):DT:=fun δ Q EX=>w δ (fun d=>match d with
  | .bool k=>Q k
  | _=>False) EX
theorem Qld {op:CmpOp} (ho:OpR X (compareOp op) r) (hd:OpD r rD) (ha:PE X a (tX .P X.K E wa)) (hb:PE X b (tX .P X.K E wb)) (hm:behindInMarks op b=false):PT X (.Compare a [op] [b] pos) (tT X.K E (dTst (dOp rD wa wb))):=by
  refine PT.imp (Qfe (OpR.len ho) ha hb hm) fun σ H Q ⟨F,δ,R,EX,rel,hw,k,o⟩=>?_
  refine Qfh hd σ H (fun x H'=>∃ k,x=.bl k/\Q k H') ⟨F,δ,_,EX,rel,hw,fun d hd2 v H' rel' kp vk=>?_,o⟩
  split at hd2
  · rename_i b
    have:v=.bl b:=by cases vk.1;rfl
    exact ⟨b,this,k b hd2 H' rel' kp⟩
  · exact hd2.elim
theorem Qlb {e:Expr} {w:DE} (h:PE X e (tX .P X.K E w)) (he:∀ whole,isTrue e X.env whole=(do let v <- whole;standAt e.pos;holding [v] (truthy v)):=by intro _;rfl):PT X e (tT X.K E (dTst w)):=by
  refine PT.imp (pt_val h he) fun σ H Q ⟨F,δ,R,EX,rel,hw,k,o⟩=>?_
  refine ⟨F,δ,_,EX,rel,hw,fun d hd v H' rel' kp vk=>?_,o⟩
  split at hd
  · exact ⟨_,DP.bool vk,k _ hd H' rel' kp⟩
  · exact hd.elim
def dOr (wa wb:DT):DT:=fun δ Q EX=>wa δ (fun c=>if c=true then Q true else wb δ Q EX) EX
def dNot (wa:DT):DT:=fun δ Q EX=>wa δ (fun c=>Q (!c)) EX
theorem Qc5 {c:Prop} [Decidable c] {p q p' q':Prop} (h:if c then p else q) (h1:p->p') (h2:q->q'):if c then p' else q':=by
  split at h
  · rw [if_pos (by assumption)];exact h1 h
  · rw [if_neg (by assumption)];exact h2 h
variable {rest:List Expr} {ta tb:DT}
theorem Qla (ha:PT X a (tT X.K E ta)):PW X (.BoolOp .Or [a] pos) (tT X.K E ta):=pw_or1 ha
theorem pdw_or (ha:PT X a (tT X.K E ta)) (hb:PW X (.BoolOp .Or (b::rest) pos) (tT X.K E tb)):PW X (.BoolOp .Or (a::b::rest) pos) (tT X.K E (dOr ta tb)):=by
  refine PW.imp (pw_or ha hb) fun σ H Q ⟨F,δ,R,EX,rel,hw,k,o⟩=>?_
  refine ⟨F,δ,_,EX,rel,hw,fun c hc H' rel' kp=>?_,o⟩
  exact Qc5 hc (fun z=>k _ z H' rel' kp) (fun z=>⟨F,δ,R,EX,rel',z,fun c hc H2 rel2 kp2=>k c hc H2 rel2 (kp.trans kp2),o⟩)
theorem Qlc (ha:PT X a (tT X.K E ta)):PT X (.UnaryOp .Not a pos) (tT X.K E (dNot ta)):=by
  refine PT.imp (pt_not ha) fun σ H Q ⟨F,δ,R,EX,rel,hw,k,o⟩=>?_
  exact ⟨F,δ,_,EX,rel,hw,fun c hc H' rel' kp=>k _ hc H' rel' kp,o⟩
def dAndV (wa wb:DE):DE:=fun δ Q EX=>wa δ (fun d=>match d with
  | .bool c=>if c=true then wb δ Q EX else Q (.bool false)
  | _=>False) EX
def dNotV (wa:DE):DE:=fun δ Q EX=>wa δ (fun d=>match d with
  | .bool c=>Q (.bool (!c))
  | _=>False) EX
theorem pd_one {op} {w:DE} (h:PE X a (tX .D X.K E w)):PE X (.BoolOp op [a] pos) (tX .D X.K E w):=pe_one h
theorem pd_and (ha:PE X a (tX .P X.K E wa)) (hb:PE X (.BoolOp .And (b::rest) pos) (tX .D X.K E wb)):PE X (.BoolOp .And (a::b::rest) pos) (tX .D X.K E (dAndV wa wb)):=by
  refine PE.imp (pe_and ha hb) fun σ H Q ⟨F,δ,R,EX,rel,hw,k,o⟩=>?_
  refine ⟨F,δ,_,EX,rel,hw,fun d hd v H' rel' kp vk=>?_,o⟩
  split at hd
  · exact ⟨_,DP.bool vk,Qc5 hd (fun z=>⟨F,δ,R,EX,rel',z,fun d hd v H2 rel2 kp2=>k d hd v H2 rel2 (kp.trans kp2),o⟩) fun z=>k _ z _ H' rel' kp (.bl _)⟩
  · exact hd.elim
theorem pd_not (ha:PE X a (tX .P X.K E wa)):PE X (.UnaryOp .Not a pos) (tX .D X.K E (dNotV wa)):=by
  refine PE.imp (pe_not ha) fun σ H Q ⟨F,δ,R,EX,rel,hw,k,o⟩=>?_
  refine ⟨F,δ,_,EX,rel,hw,fun d hd v H' rel' kp vk=>?_,o⟩
  split at hd
  · exact ⟨_,DP.bool vk,k _ hd _ H' rel' kp (.bl _)⟩
  · exact hd.elim
end
theorem Qcz {A:Addr->Prop} {H H':Hp} {l:Addr} {xs:List V} {ds:List PyData} (dm:∀ a,A a->∃ xs,H a=some (.lst xs)) (s:Same H H') (n:H l=none) (e:H' l=some (.lst xs)) (q:DAs A H xs ds):DA A H' (.ref l) (.list ds):=
  .lst (fun z=>by obtain ⟨ys,e'⟩:=dm l z;rw [n] at e';cases e') e (q.same s)
theorem QcR {A:Addr->Prop} {H H':Hp} {l:Addr} {xs:List V} {ds:List PyData} (dm:∀ a,A a->∃ xs,H a=some (.lst xs)) (s:Same H H') (e:H' l=some (.tup xs)) (q:DAs A H xs ds):DA A H' (.ref l) (.tuple ds):=
  .tup (fun z=>by obtain ⟨ys,e'⟩:=dm l z;rw [s _ _ e'] at e;cases e) e (q.same s)
theorem Qbc {H H':Hp} {l:Addr} (n:H l=none):FrV H H' (.ref l):=fun l' e _=>by cases e;exact n
theorem QbU {H H':Hp} {l:Addr} {xs:List V} (e:H' l=some (.tup xs)):FrV H H' (.ref l):=fun l' e1 ⟨ys,e2⟩=>by cases e1;rw [e] at e2;cases e2
theorem Qa2 {H H':Hp} {i:Int}:FrV H H' (.int i):=fun l' e _=>by cases e
theorem Qa3 {H H':Hp} {i:Bool}:FrV H H' (.bl i):=fun l' e _=>by cases e
theorem QlS {H H':Hp}:FrV H H' .non:=fun l' e _=>by cases e
def addD:PyData->PyData->(PyData->Prop)->Prop
  | .int i,.int j,Q=>Q (.int (i+j))
  | .tuple a,.tuple b,Q=>a.length+b.length<=1000000/\Q (.tuple (a++b))
  | .list a,.list b,Q=>a.length+b.length<=1000000/\Q (.list (a++b))
  | _,_,_=>False
def iiD (C:Int->Int->Prop) (f:Int->Int->PyData):PyData->PyData->(PyData->Prop)->Prop
  | .int i,.int j,Q=>C i j/\Q (f i j)
  | _,_,_=>False
def ii0 (f:Int->Int->PyData):PyData->PyData->(PyData->Prop)->Prop
  | .int i,.int j,Q=>Q (f i j)
  | _,_,_=>False
theorem QhJ:1000000<=sizeLine:=by show 1000000<=2^24;decide
section
variable {X:Cx} {E:XK}
theorem od_ii {C:Int->Int->Prop} {g:Int->Int->Int}:OpD (rI C fun i j=>.int (g i j)) (iiD C fun i j=>.int (g i j)):=fun A P H x y d1 d2 R Q ln dm hx hy h k=>by
  cases d1<;>cases d2<;>first | exact h.elim | skip
  rw [hx.int,hy.int]
  exact ⟨_,_,rfl,rfl,h.1,k _ h.2 _ H (Same.refl H) (.int _) Qa2⟩
theorem od_ii0 {g:Int->Int->Int}:OpD (rI0 fun i j=>.int (g i j)) (ii0 fun i j=>.int (g i j)):=fun A P H x y d1 d2 R Q ln dm hx hy h k=>by
  cases d1<;>cases d2<;>first | exact h.elim | skip
  rw [hx.int,hy.int]
  exact ⟨_,_,rfl,rfl,k _ h _ H (Same.refl H) (.int _) Qa2⟩
theorem od_ib0 {g:Int->Int->Bool}:OpD (rI0 fun i j=>.bl (g i j)) (ii0 fun i j=>.bool (g i j)):=fun A P H x y d1 d2 R Q ln dm hx hy h k=>by
  cases d1<;>cases d2<;>first | exact h.elim | skip
  rw [hx.int,hy.int]
  exact ⟨_,_,rfl,rfl,k _ h _ H (Same.refl H) (.bl _) Qa3⟩
def rAdd:R2:=fun x y H Q=>(rI0 (fun i j=>.int (i+j)) x y H Q∨rCatA x y H Q)∨rCat x y H Q
theorem Qbj:OpR X (binaryOp .Add) rAdd:=OpR.or2 (OpR.or2 Qdp Qly) op_cat
theorem Qb9:OpD rAdd addD:=fun A P H x y d1 d2 R Q ln dm hx hy h k=>by
  cases d1<;>cases d2<;>first | exact h.elim | skip
  · rw [hx.int,hy.int]
    exact .inl (.inl ⟨_,_,rfl,rfl,k _ h _ H (Same.refl H) (.int _) Qa2⟩)
  · obtain ⟨l1,xs,rfl,e1,q1⟩:=hx.list
    obtain ⟨l2,ys,rfl,e2,q2⟩:=hy.list
    refine .inr ⟨l1,l2,xs,ys,rfl,rfl,e1,e2,Nat.le_trans (by rw [q1.length,q2.length];exact h.1) QhJ,fun p hp=>?_⟩
    exact k _ h.2 _ _ (Qae hp) (Qcz dm (Qae hp) hp Qad (q1.app q2)) (Qbc hp)
  · obtain ⟨l1,xs,rfl,e1,q1⟩:=hx.tuple
    obtain ⟨l2,ys,rfl,e2,q2⟩:=hy.tuple
    refine .inl (.inr ⟨l1,l2,xs,ys,rfl,rfl,e1,e2,Nat.le_trans (by rw [q1.length,q2.length];exact h.1) QhJ,fun p H' s e=>?_⟩)
    exact k _ h.2 _ _ s (QcR dm s e (q1.app q2)) (QbU e)
def eqD:PyData->PyData->(PyData->Prop)->Prop
  | .int i,.int j,Q=>Q (.bool (decide (i=j)))
  | .bool i,.bool j,Q=>Q (.bool (decide (i=j)))
  | .str i,.str j,Q=>Q (.bool (decide (i=j)))
  | a,b,Q=>(nd a=true/\nd b=true/\(a.depth<=50∨b.depth<=50))/\Q (.bool (PyData.eqv a b))
def neD:PyData->PyData->(PyData->Prop)->Prop
  | .int i,.int j,Q=>Q (.bool (!decide (i=j)))
  | .bool i,.bool j,Q=>Q (.bool (!decide (i=j)))
  | .str i,.str j,Q=>Q (.bool (!decide (i=j)))
  | a,b,Q=>(nd a=true/\nd b=true/\(a.depth<=50∨b.depth<=50))/\Q (.bool (!PyData.eqv a b))
theorem min50 {a b:PyData} (h:a.depth<=50∨b.depth<=50):min a.depth b.depth<=50:=by rcases h with h | h<;>omega
def rEqA (u:Nat):R2:=fun x y H Q=>rEq x y H Q∨rEqU u x y H Q
def rNeA (u:Nat):R2:=fun x y H Q=>rNe x y H Q∨rNeU u x y H Q
theorem QfP:OpR X (compareOp .Eq) (rEqA X.A.units):=OpR.or2 op_eq op_eqU
theorem Qdo:OpR X (compareOp .NotEq) (rNeA X.A.units):=OpR.or2 op_ne op_neU
theorem dec_i {i j:Int}:decide (V.int i=V.int j)=decide (i=j):=by
  by_cases h:i=j
  · subst h;simp
  · rw [decide_eq_false h,decide_eq_false (fun z=>h (V.int.inj z))]
theorem dec_b {i j:Bool}:decide (V.bl i=V.bl j)=decide (i=j):=by
  by_cases h:i=j
  · subst h;simp
  · rw [decide_eq_false h,decide_eq_false (fun z=>h (V.bl.inj z))]
theorem dec_s {i j:Str}:decide (V.str i=V.str j)=decide (i=j):=by
  by_cases h:i=j
  · subst h;simp
  · rw [decide_eq_false h,decide_eq_false (fun z=>h (V.str.inj z))]
theorem Qjh {u:Nat} (hu:u+60<cLine):OpD (rEqA u) eqD:=fun A P H x y d1 d2 R Q ln dm hx hy h k=>by
  unfold eqD at h
  split at h
  · rw [hx.int,hy.int]
    exact .inl ⟨rfl,k (.bool (decide (V.int _=V.int _))) (by rw [dec_i];exact h) _ H (Same.refl H) (.bl _) Qa3⟩
  · rw [hx.bool,hy.bool]
    exact .inl ⟨rfl,k (.bool (decide (V.bl _=V.bl _))) (by rw [dec_b];exact h) _ H (Same.refl H) (.bl _) Qa3⟩
  · rw [hx.str.1,hy.str.1]
    exact .inl ⟨rfl,k (.bool (decide (V.str _=V.str _))) (by rw [dec_s];exact h) _ H (Same.refl H) (.bl _) Qa3⟩
  · obtain ⟨⟨n1,n2,dp⟩,hR⟩:=h
    have:=min50 dp
    exact .inr ⟨_,_,hx.dat n1,hy.dat n2,by omega,k _ hR _ H (Same.refl H) (.bl _) Qa3⟩
theorem Qgt {u:Nat} (hu:u+60<cLine):OpD (rNeA u) neD:=fun A P H x y d1 d2 R Q ln dm hx hy h k=>by
  unfold neD at h
  split at h
  · rw [hx.int,hy.int]
    exact .inl ⟨rfl,k (.bool (!decide (V.int _=V.int _))) (by rw [dec_i];exact h) _ H (Same.refl H) (.bl _) Qa3⟩
  · rw [hx.bool,hy.bool]
    exact .inl ⟨rfl,k (.bool (!decide (V.bl _=V.bl _))) (by rw [dec_b];exact h) _ H (Same.refl H) (.bl _) Qa3⟩
  · rw [hx.str.1,hy.str.1]
    exact .inl ⟨rfl,k (.bool (!decide (V.str _=V.str _))) (by rw [dec_s];exact h) _ H (Same.refl H) (.bl _) Qa3⟩
  · obtain ⟨⟨n1,n2,dp⟩,hR⟩:=h
    have:=min50 dp
    exact .inr ⟨_,_,hx.dat n1,hy.dat n2,by omega,k _ hR _ H (Same.refl H) (.bl _) Qa3⟩
def rInLU (u:Nat) (neg:Bool):R2:=fun x y H Q=>∃ c ps ds d,y=.ref c/\H c=some (.lst ps)/\Dats H ps ds/\Dat H x d/\u+d.depth<cLine/\Q (.bl (if neg then !(ds.any fun e=>PyData.eqv e d) else ds.any fun e=>PyData.eqv e d)) H
theorem Qlw:OpR X (compareOp .In) (rInLU X.A.in1.units false):=by
  intro pins s σ H x y v u Q I rx ry h
  obtain ⟨c,ps,ds,d,rfl,hc,qs,qx,hu,q⟩:=h
  cases ry
  obtain ⟨⟨as,ra⟩,ca⟩:=QaP I.hok d x v qx rx
  obtain ⟨its,rv,pl,hz⟩:=I.list (SqL.of hc)
  obtain ⟨⟨bs,rb⟩,cb⟩:=QaX I.hok ds ps its qs rv
  refine SeqAt.in_listAt (eqH s.heap d) pl.isList (fun w hw=>Qfl ra ca rb cb hu w (List.mem_toArray.mp hw)) ⟨.bl _,H,I,rfl,?_⟩
  rw [show its.toArray.any (eqH s.heap d)=its.any (eqH s.heap d) by simp,QfA rb cb]
  exact q
def inD (neg:Bool) (d:PyData):PyData->(PyData->Prop)->Prop
  | .list ds,Q=>(nds ds=true/\nd d=true/\d.depth<=50)/\Q (.bool (if neg then !(ds.any fun e=>PyData.eqv e d) else ds.any fun e=>PyData.eqv e d))
  | .tuple ds,Q=>(nds ds=true/\nd d=true/\d.depth<=50)/\Q (.bool (if neg then !(ds.any fun e=>PyData.eqv e d) else ds.any fun e=>PyData.eqv e d))
  | _,_=>False
def rInA (u:Nat) (neg:Bool):R2:=fun x y H Q=>rInU u neg x y H Q∨rInLU u neg x y H Q
theorem Qj7:OpR X (compareOp .In) (rInA X.A.in1.units false):=OpR.or2 op_inU Qlw
theorem od_in {u:Nat} {neg:Bool} (hu:u+60<cLine):OpD (rInA u neg) (inD neg):=fun A P H x y d1 d2 R Q ln dm hx hy h k=>by
  cases d2<;>first | exact h.elim | skip
  · obtain ⟨l,xs,rfl,e,q⟩:=hy.list
    obtain ⟨⟨n1,n2,n3⟩,hR⟩:=h
    exact .inr ⟨l,xs,_,d1,rfl,e,QbM _ _ n1 q,hx.dat n2,by omega,k _ hR _ H (Same.refl H) (.bl _) Qa3⟩
  · obtain ⟨l,xs,rfl,e,q⟩:=hy.tuple
    obtain ⟨⟨n1,n2,n3⟩,hR⟩:=h
    exact .inl ⟨l,xs,_,d1,rfl,e,QbM _ _ n1 q,hx.dat n2,by omega,k _ hR _ H (Same.refl H) (.bl _) Qa3⟩
def ixD:PyData->PyData->(PyData->Prop)->Prop
  | .list ds,.int i,Q=>∃ d,atI ds i=some d/\Q d
  | .tuple ds,.int i,Q=>∃ d,atI ds i=some d/\Q d
  | _,_,_=>False
theorem Qku {A:Addr->Prop} {H:Hp} {xs:List V} {ds:List PyData} {i:Int} {d:PyData} (q:DAs A H xs ds) (h:atI ds i=some d):∃ v,atI xs i=some v/\DA A H v d:=by
  unfold atI at h ⊢
  rw [q.length]
  cases e:ixN ds.length i with
  | none=>rw [e] at h;cases h
  | some j=>
    rw [e] at h
    exact q.get j d h
def rIxA (K:PySem.W.Frag):R2:=fun x y H Q=>rIxL K x y H Q∨rIxT K x y H Q
theorem QaG:IxR X (rIxA X.K):=IxR.or2 Qd0 ix_tup
theorem Qbg {K:PySem.W.Frag}:OpDn (rIxA K) ixD:=fun A P H x y d1 d2 R Q ln dm hx hy h k=>by
  cases d1<;>cases d2<;>first | exact h.elim | skip
  · obtain ⟨l,xs,rfl,e,q⟩:=hx.list
    obtain ⟨d,hd,hR⟩:=h
    obtain ⟨v,hv,dv⟩:=Qku q hd
    rw [hy.int]
    exact .inl ⟨l,xs,_,v,rfl,rfl,SqL.of e,hv,k d hR v H (Same.refl H) dv⟩
  · obtain ⟨l,xs,rfl,e,q⟩:=hx.tuple
    obtain ⟨d,hd,hR⟩:=h
    obtain ⟨v,hv,dv⟩:=Qku q hd
    rw [hy.int]
    exact .inr ⟨l,xs,_,v,rfl,rfl,SqT.of e,hv,k d hR v H (Same.refl H) dv⟩
def dUn (rD:PyData->(PyData->Prop)->Prop) (wa:DE):DE:=fun δ Q EX=>wa δ (fun d=>rD d Q) EX
def negD:PyData->(PyData->Prop)->Prop
  | .int i,Q=>Q (.int (-i))
  | _,_=>False
variable {a b c:Expr} {wa wb wc:DE} {pos:Pos}
theorem pd_neg (ha:PE X a (tX .P X.K E wa)):PE X (.UnaryOp .USub a pos) (tX .F X.K E (dUn negD wa)):=by
  refine PE.imp (pe_un un_neg ha) fun σ H Q ⟨F,δ,R,EX,rel,hw,k,o⟩=>?_
  refine ⟨F,δ,_,EX,rel,hw,fun d hd v H' rel' kp vk=>?_,o⟩
  cases d<;>first | exact (show False from hd).elim | skip
  exact ⟨_,DP.int vk,k _ hd _ H' rel' kp ⟨.int _,Qa2⟩⟩
def dCh (p q:Int->Int->Bool) (wa wb wc:DE):DE:=fun δ Q EX=>wa δ (fun x=>wb δ (fun y=>match x,y with
  | .int i,.int j=>if p i j=true then wc δ (fun z=>match z with
    | .int k=>Q (.bool (q j k))
    | _=>False) EX else Q (.bool false)
  | _,_=>False) EX) EX
theorem Ql2 {K:PySem.W.Frag} {p q:Int->Int->Bool} (σ:L2.St) (H:Hp) (Q:VK) (h:tX .F K E (dCh p q wa wb wc) σ H Q) :
    QjQ (rI0 fun i j=>.bl (p i j)) (rI0 fun i j=>.bl (q i j)) (tX .P K E wa) (tX .P K E wb) (tX .P K E wc) σ H Q:=by
  obtain ⟨F,δ,R,EX,rel,hw,k,o⟩:=h
  refine ⟨F,δ,_,EX,rel,hw,fun d1 h1 x H1 rel1 kp1 x1=>⟨F,δ,_,EX,rel1,h1,fun d2 h2 y H2 rel2 kp2 y2=>?_,o⟩,o⟩
  cases d1<;>cases d2<;>first | exact (show False from h2).elim | skip
  rw [DP.int x1,DP.int y2]
  refine ⟨_,_,rfl,rfl,_,rfl,Qc5 h2 (fun z=>⟨F,δ,_,EX,rel2,z,fun d3 h3 v H3 rel3 kp3 v3=>?_,o⟩) fun z=>k _ z _ H2 rel2 (kp1.trans kp2) ⟨.bl _,Qa3⟩⟩
  cases d3<;>first | exact (show False from h3).elim | skip
  rw [DP.int v3]
  exact ⟨_,_,rfl,rfl,k _ h3 _ H3 rel3 ((kp1.trans kp2).trans kp3) ⟨.bl _,Qa3⟩⟩
theorem pd_ch {op op':CmpOp} {p q:Int->Int->Bool} (ho:OpR X (compareOp op) (rI0 fun i j=>.bl (p i j))) (ho':OpR X (compareOp op') (rI0 fun i j=>.bl (q i j))) (ha:PE X a (tX .P X.K E wa)) (hb:PE X b (tX .P X.K E wb)) (hc:PE X c (tX .P X.K E wc)) (hm:lastMarks [op,op'] [b,c]=false:=by with_unfolding_all rfl) :
    PE X (.Compare a [op,op'] [b,c] pos) (tX .F X.K E (dCh p q wa wb wc)):=PE.imp (QiV ho ho' ha hb hc (hm:=hm)) Ql2
def dNil:DAr:=fun _ Q _=>Q []
def Qie (we:DE) (wr:DAr):DAr:=fun δ Q EX=>we δ (fun d=>wr δ (fun ds=>Q (d::ds)) EX) EX
theorem Qlo {m:Md}:PA X [] (tAr 0 m X.K E dNil):=PA.imp Qaw fun σ H Q ⟨F,δ,R,EX,rel,hw,k,o⟩=>k [] hw rfl [] H rel (Kp.refl rel) .nil
theorem Qiv {n:Nat} {m:Md} {K:PySem.W.Frag} {we:DE} {wr:DAr} (hm:∀ {F:Fm} {σ:L2.St} {δ:Sts} {H H':Hp} {v:V} {d:PyData},Vok m F σ δ H H' v d->VD m (Av F σ δ) (PotA σ δ) H' v d) (σ:L2.St) (H:Hp) (Q:List V->Hp->Prop) (h:tAr (n+1) m K E (Qie we wr) σ H Q):QdC (tX m K E we) (tAr n m K E wr) σ H Q:=by
  obtain ⟨F,δ,R,EX,rel,hw,k,o⟩:=h
  refine ⟨F,δ,_,EX,rel,hw,fun d hd v H' rel' kp vk=>⟨F,δ,_,EX,rel',hd,fun ds hds hl vs H2 rel2 kp2 vks=>?_,o⟩,o⟩
  exact k _ hds (by rw [List.length_cons,hl]) (v::vs) H2 rel2 (kp.trans kp2) (.cons (kp2.vd (hm vk)) vks)
theorem Qhk {n:Nat} {e:Expr} {es:List Expr} {we:DE} {wr:DAr} (he:PE X e (tX .D X.K E we)) (hr:PA X es (tAr n .D X.K E wr)) (hs:notStar e=true:=by rfl):PA X (e::es) (tAr (n+1) .D X.K E (Qie we wr)):=PA.imp (pa_c he hr hs) (Qiv fun h=>h)
theorem Qhj {n:Nat} {e:Expr} {es:List Expr} {we:DE} {wr:DAr} (he:PE X e (tX .P X.K E we)) (hr:PA X es (tAr n .P X.K E wr)) (hs:notStar e=true:=by rfl):PA X (e::es) (tAr (n+1) .P X.K E (Qie we wr)):=PA.imp (pa_c he hr hs) (Qiv fun h=>h)
theorem Qcm {A P:Addr->Prop} {H:Hp}:∀ {vs:List V} {ds:List PyData},Paired (VD .D A P H) vs ds->DAs A H vs ds
  | _,_,.nil=>.nil
  | _,_,.cons a b=>.cons a (Qcm b)
def dTup (w:DAr):DE:=fun δ Q EX=>w δ (fun ds=>Q (.tuple ds)) EX
def dLst (w:DAr):DE:=fun δ Q EX=>w δ (fun ds=>Q (.list ds)) EX
theorem pd_tup {n:Nat} {es:List Expr} {w:DAr} {x1} (h:PA X es (tAr n .D X.K E w)) (hn:n<=1000:=by decide):PE X (.Tuple es x1 pos) (tX .F X.K E (dTup w)):=by
  refine PE.imp (Qk5 h) fun σ H Q ⟨F,δ,R,EX,rel,hw,k,o⟩=>?_
  refine ⟨F,δ,_,EX,rel,hw,fun ds hds hl vs H' rel' kp q=>?_,o⟩
  have q':=Qcm q
  refine ⟨by rw [q'.length,hl];exact hn,fun a H2 s n e=>k _ hds _ H2 (rel'.same s) (kp.trans (Kp.same rel' s)) ⟨QcR (fun a ha=>rel'.isl ha) s e q',QbU e⟩⟩
theorem Qby {σ:L2.St} {δ:Sts} {H H':Hp} {l:Addr} (k:Kp σ δ H H') (n:H' l=none):H l=none:=by
  cases e:H l with
  | none=>rfl
  | some ob=>
    by_cases z:PotA σ δ l
    · obtain ⟨m,em⟩:=k.2 l z
      rw [em] at n;cases n
    · rw [k.1 _ _ z e] at n;cases n
theorem pd_lst {n:Nat} {es:List Expr} {w:DAr} (h:PA X es (tAr n .D X.K E w)) (hn:n<=1000:=by decide):PE X (.List es pos) (tX .F X.K E (dLst w)):=by
  refine PE.imp (Qk6 h) fun σ H Q ⟨F,δ,R,EX,rel,hw,k,o⟩=>?_
  refine ⟨F,δ,_,EX,rel,hw,fun ds hds hl vs H' rel' kp q=>?_,o⟩
  have q':=Qcm q
  refine ⟨by rw [q'.length,hl];exact hn,fun a H2 s n e=>k _ hds _ H2 (rel'.same s) (kp.trans (Kp.same rel' s)) ⟨Qcz (fun a ha=>rel'.isl ha) s n e q',Qbc (Qby kp n)⟩⟩
theorem pd_dct {pos:Pos}:PE X (.Dict [] [] pos) (tX .D X.K E (dC (.dict []))):=by
  refine PE.imp Qk7 fun σ H Q ⟨F,δ,R,EX,rel,hw,k,o⟩=>fun p hp=>?_
  refine k _ hw _ _ (rel.same (Qae hp)) (Kp.same rel (Qae hp)) (.dct (fun z=>?_) Qad)
  obtain ⟨xs,e⟩:=rel.isl z
  rw [hp] at e;cases e
def QcE (r:List V->Hp->VK->Prop) (rD:List PyData->(PyData->Prop)->Prop):Prop:=∀ (A P:Addr->Prop) (H:Hp) (vs:List V) (ds:List PyData) (R:PyData->Prop) (Q:VK),QbY H->(∀ a,A a->∃ xs,H a=some (.lst xs))->Paired (DP A P H) vs ds->rD ds R ->
  (∀ d,R d->∀ v H',Same H H'->DA A H' v d->FrV H H' v->Q v H')->r vs H Q
def dCB (rD:List PyData->(PyData->Prop)->Prop) (wa:DAr):DE:=fun δ Q EX=>wa δ (fun ds=>rD ds Q) EX
theorem Qil {n:Nat} {K:PySem.W.Frag} {r:List V->Hp->VK->Prop} {rD:List PyData->(PyData->Prop)->Prop} {wa:DAr} (hd:QcE r rD) (σ:L2.St) (H:Hp) (Q:VK) (h:tX .F K E (dCB rD wa) σ H Q) :
    tCB (fun xs H Q=>QbY H->r xs H Q) (tAr n .P K E wa) σ H Q:=by
  obtain ⟨F,δ,R,EX,rel,hw,k,o⟩:=h
  refine ⟨F,δ,_,EX,rel,hw,fun ds hds hl vs H' rel' kp q ln=>?_,o⟩
  refine hd (Av F σ δ) (PotA σ δ) H' vs ds R Q ln (fun a ha=>rel'.isl ha) q hds fun d hR v H2 s dv fr=>?_
  exact k d hR v H2 (rel'.same s) (kp.trans (Kp.same rel' s)) ⟨dv,fun l e1 e2=>Qby kp (fr l e1 e2)⟩
variable {x:Str} {bid T:String} {p:Pos} {e:Expr} {es:List Expr} {n:Nat} {wr:DAr} {r:List V->Hp->VK->Prop} {rD:List PyData->(PyData->Prop)->Prop}
theorem Qjb (hc:CallR X (.builtin bid) r) (hd:QcE r rD) (hg:Gl X x) (hm:X.mg x=none) (hv:bootBuiltins x=some (.builtin bid)) (ha:PA X (e::es) (tAr n .P X.K E wr)) (hn:x ≠ "__name__" := by decide) (hdb:(x == ("__debug__" : Str))=false:=by decide)
    (he:starEach (e::es) X.env=(false,eval e X.env)::starEach es X.env:=by rfl) (hpl:(backTo pos (starEach es X.env)).any (·.1)=false:=by rfl):PE X (.Call (.Name x p) (e::es) [] pos) (tX .F X.K E (dCB rD wr)):=
  PE.imp (QbF (CallR.len hc) hg hm hv ha hn hdb he hpl) (Qil hd)
theorem Qhn (hc:CallR X (.type T) r) (hd:QcE r rD) (hg:Gl X x) (hm:X.mg x=none) (hv:bootBuiltins x=some (.type T)) (ha:PA X (e::es) (tAr n .P X.K E wr)) (hn:x ≠ "__name__" := by decide) (hdb:(x == ("__debug__" : Str))=false:=by decide)
    (he:starEach (e::es) X.env=(false,eval e X.env)::starEach es X.env:=by rfl) (hpl:(backTo pos (starEach es X.env)).any (·.1)=false:=by rfl):PE X (.Call (.Name x p) (e::es) [] pos) (tX .F X.K E (dCB rD wr)):=
  PE.imp (Qbf (CallR.len hc) hg hm hv ha hn hdb he hpl) (Qil hd)
theorem pd1 {A P:Addr->Prop} {H:Hp} {vs:List V} {d:PyData} (q:Paired (DP A P H) vs [d]):∃ v,vs=[v]/\DP A P H v d:=by
  cases q with
  | cons a b=>cases b;exact ⟨_,rfl,a⟩
theorem pd2 {A P:Addr->Prop} {H:Hp} {vs:List V} {d d':PyData} (q:Paired (DP A P H) vs [d,d']):∃ v v',vs=[v,v']/\DP A P H v d/\DP A P H v' d':=by
  cases q with
  | cons a b=>cases b with | cons b c=>cases c;exact ⟨_,_,rfl,a,b⟩
def lenD:List PyData->(PyData->Prop)->Prop
  | [.list ds],Q=>Q (.int ds.length)
  | [.tuple ds],Q=>Q (.int ds.length)
  | _,_=>False
theorem Qce {K:PySem.W.Frag}:QcE (QkQ K) lenD:=fun A P H vs ds R Q ln dm q h k=>by
  unfold lenD at h
  split at h
  · obtain ⟨v,rfl,hv⟩:=pd1 q
    obtain ⟨l,xs,rfl,e,qq⟩:=hv.list
    exact ⟨l,xs,rfl,.inl (SqL.of e),by rw [qq.length];exact k _ h _ H (Same.refl H) (.int _) Qa2⟩
  · obtain ⟨v,rfl,hv⟩:=pd1 q
    obtain ⟨l,xs,rfl,e,qq⟩:=hv.tuple
    exact ⟨l,xs,rfl,.inr (SqT.of e),by rw [qq.length];exact k _ h _ H (Same.refl H) (.int _) Qa2⟩
  · exact h.elim
theorem QaJ:CallR X (.builtin "len") (QkQ X.K):=Qba
def min2D:List PyData->(PyData->Prop)->Prop
  | [.int i,.int j],Q=>Q (.int (if j<i then j else i))
  | _,_=>False
def max2D:List PyData->(PyData->Prop)->Prop
  | [.int i,.int j],Q=>Q (.int (if j > i then j else i))
  | _,_=>False
theorem Ql3:QcE (fun xs H Q=>∃ i j,xs=[.int i,.int j]/\Q (.int (if j<i then j else i)) H) min2D:=fun A P H vs ds R Q ln dm q h k=>by
  unfold min2D at h
  split at h
  · obtain ⟨v,v',rfl,h1,h2⟩:=pd2 q
    rw [h1.int,h2.int]
    exact ⟨_,_,rfl,k _ h _ H (Same.refl H) (.int _) Qa2⟩
  · exact h.elim
theorem Ql4:QcE (fun xs H Q=>∃ i j,xs=[.int i,.int j]/\Q (.int (if j > i then j else i)) H) max2D:=fun A P H vs ds R Q ln dm q h k=>by
  unfold max2D at h
  split at h
  · obtain ⟨v,v',rfl,h1,h2⟩:=pd2 q
    rw [h1.int,h2.int]
    exact ⟨_,_,rfl,k _ h _ H (Same.refl H) (.int _) Qa2⟩
  · exact h.elim
def QbX:List PyData->Option (List Bool)
  | []=>some []
  | .bool b::ds=>(QbX ds).map (b::·)
  | _::_=>none
def Qbp:List PyData->Option (List Int)
  | []=>some []
  | .int b::ds=>(Qbp ds).map (b::·)
  | _::_=>none
theorem Qip (bs:List Bool):QbX (bs.map PyData.bool)=some bs:=by
  induction bs with
  | nil=>rfl
  | cons b bs ih=>rw [List.map_cons,QbX,ih];rfl
theorem ints_map (bs:List Int):Qbp (bs.map PyData.int)=some bs:=by
  induction bs with
  | nil=>rfl
  | cons b bs ih=>rw [List.map_cons,Qbp,ih];rfl
theorem bools_eq:∀ {ds:List PyData} {bs:List Bool},QbX ds=some bs->ds=bs.map PyData.bool
  | [],bs,h=>by cases h;rfl
  | d::ds,bs,h=>by
    cases d<;>first | (unfold QbX at h;cases h;done) | skip
    rw [QbX] at h
    obtain ⟨cs,h1,rfl⟩:=Option.map_eq_some_iff.mp h
    rw [bools_eq h1];rfl
theorem Qfp:∀ {ds:List PyData} {bs:List Int},Qbp ds=some bs->ds=bs.map PyData.int
  | [],bs,h=>by cases h;rfl
  | d::ds,bs,h=>by
    cases d<;>first | (unfold Qbp at h;cases h;done) | skip
    rw [Qbp] at h
    obtain ⟨cs,h1,rfl⟩:=Option.map_eq_some_iff.mp h
    rw [Qfp h1];rfl
theorem QeJ {A:Addr->Prop} {H:Hp}:∀ {bs:List Bool} {xs:List V},DAs A H xs (bs.map PyData.bool)->xs=bs.map V.bl
  | [],_,.nil=>rfl
  | b::bs,_,.cons (.bl _) r=>by rw [QeJ r];rfl
theorem QcN {A:Addr->Prop} {H:Hp}:∀ {bs:List Int} {xs:List V},DAs A H xs (bs.map PyData.int)->xs=bs.map V.int
  | [],_,.nil=>rfl
  | b::bs,_,.cons (.int _) r=>by rw [QcN r];rfl
@[irreducible] def allD:List PyData->(PyData->Prop)->Prop
  | [.list ds],Q=>∃ bs,QbX ds=some bs/\Q (.bool (bs.all id))
  | _,_=>False
theorem Qkp {K:PySem.W.Frag} {cm:Bool} (hc:cm=true):QcE (fun xs H Q=>∃ (p:Addr) (bs:List Bool),xs=[.ref p]/\SqL K H p (bs.map V.bl)/\cm=true/\Q (.bl (bs.all id)) H) allD:=fun A P H vs ds R Q ln dm q h k=>by
  unfold allD at h
  split at h
  · obtain ⟨v,rfl,hv⟩:=pd1 q
    obtain ⟨bs,hb,hR⟩:=h
    rw [bools_eq hb] at hv
    obtain ⟨l,xs,rfl,e,qq⟩:=hv.list
    rw [QeJ qq] at e
    exact ⟨l,bs,rfl,SqL.of e,hc,k _ hR _ H (Same.refl H) (.bl _) Qa3⟩
  · exact h.elim
def QjO:List PyData->(PyData->Prop)->Prop
  | [.list ds],Q=>Q (.tuple ds)
  | [.tuple ds],Q=>Q (.tuple ds)
  | _,_=>False
def listD:List PyData->(PyData->Prop)->Prop
  | [.list ds],Q=>Q (.list ds)
  | [.tuple ds],Q=>Q (.list ds)
  | _,_=>False
theorem QbN {K:PySem.W.Frag}:QcE (Qg2 K) QjO:=fun A P H vs ds R Q ln dm q h k=>by
  unfold QjO at h
  split at h
  · obtain ⟨v,rfl,hv⟩:=pd1 q
    obtain ⟨l,xs,rfl,e,qq⟩:=hv.list
    exact ⟨l,xs,rfl,.inl ⟨SqL.of e,fun l' H' s n e'=>k _ h _ H' s (QcR dm s e' qq) (QbU e')⟩⟩
  · obtain ⟨v,rfl,hv⟩:=pd1 q
    obtain ⟨l,xs,rfl,e,qq⟩:=hv.tuple
    exact ⟨l,xs,rfl,.inr ⟨SqT.of e,k _ h _ H (Same.refl H) (QcR dm (Same.refl H) e qq) (QbU e)⟩⟩
  · exact h.elim
theorem Qik {K:PySem.W.Frag}:QcE (Qg4 K) listD:=fun A P H vs ds R Q ln dm q h k=>by
  unfold listD at h
  split at h
  · obtain ⟨v,rfl,hv⟩:=pd1 q
    obtain ⟨l,xs,rfl,e,qq⟩:=hv.list
    exact ⟨l,xs,rfl,.inl (SqL.of e),fun l' H' s n e'=>k _ h _ H' s (Qcz dm s n e' qq) (Qbc n)⟩
  · obtain ⟨v,rfl,hv⟩:=pd1 q
    obtain ⟨l,xs,rfl,e,qq⟩:=hv.tuple
    exact ⟨l,xs,rfl,.inr (SqT.of e),fun l' H' s n e'=>k _ h _ H' s (Qcz dm s n e' qq) (Qbc n)⟩
  · exact h.elim
end
section
variable {X:Cx} {E:XK}
inductive Tn where | int | bool | str | tuple | list
def Tn.s:Tn->String
  | .int => "int"
  | .bool => "bool"
  | .str => "str"
  | .tuple => "tuple"
  | .list => "list"
def isT:Tn->PyData->Bool
  | .int,.int _=>true
  | .int,.bool _=>true
  | .bool,.bool _=>true
  | .str,.str _=>true
  | .tuple,.tuple _=>true
  | .list,.list _=>true
  | _,_=>false
theorem QlM {K:PySem.W.Frag} {A P:Addr->Prop} {H:Hp} {v:V} {d:PyData} (tn:Tn) (h:DP A P H v d):∃ t,TyOf K H v t/\PySem.W.kitOne K t (.type tn.s)=some (isT tn d):=by
  rcases h with h | ⟨l,xs,ds,rfl,rfl,_,e,q⟩
  · cases h with
    | non=>exact ⟨_,.non,by cases tn<;>rfl⟩
    | bl b=>exact ⟨_,.bl _,by cases tn<;>rfl⟩
    | int i=>exact ⟨_,.int _,by cases tn<;>rfl⟩
    | str x c=>exact ⟨_,.str _,by cases tn<;>rfl⟩
    | tup n e q=>exact ⟨_,.tup e,by cases tn<;>rfl⟩
    | lst n e q=>exact ⟨_,.lst e,by cases tn<;>rfl⟩
    | dct n e=>exact ⟨_,.dK e,by cases tn<;>rfl⟩
  · exact ⟨_,.lst e,by cases tn<;>rfl⟩
def dInst (tn:Tn) (we:DE):DE:=fun δ Q EX=>we δ (fun d=>Q (.bool (isT tn d))) EX
theorem Qlq {e f:Expr} {we:DE} {p pos:Pos} (tn:Tn) (hg:Gl X "isinstance") (hm:X.mg "isinstance" = none) (he:PE X e (tX .P X.K E we)) (hf:PE X f (tC (.ty tn.s))) (h1:notStar e=true:=by rfl) (h2:notStar f=true:=by rfl) :
    PE X (.Call (.Name "isinstance" p) [e,f] [] pos) (tX .F X.K E (dInst tn we)):=by
  refine PE.imp (QbF Qfy hg hm Qeb (pa_c he (pa_c hf Qaw h2) h1) (he:=QaQ h1) (hpl:=by rw [QaQ h2];rfl)) fun σ H Q ⟨F,δ,R,EX,rel,hw,k,o⟩=>?_
  refine ⟨F,δ,_,EX,rel,hw,fun d hd v H' rel' kp vk=>?_,o⟩
  obtain ⟨t,ty,et⟩:=QlM (K:=X.K) tn vk
  exact ⟨v,t,tn.s,_,rfl,ty,et,k _ hd _ H' rel' kp ⟨.bl _,Qa3⟩⟩
theorem pb_ty {x:Str} {pos:Pos} (tn:Tn) (hg:Gl X x) (hm:X.mg x=none) (hv:bootBuiltins x=some (.type tn.s)) (hn:x ≠ "__name__" := by decide) (hd:(x == ("__debug__" : Str))=false:=by decide):PE X (.Name x pos) (tC (.ty tn.s)):=Qk9 (v:=.ty tn.s) hg hm hv rfl hn hd
abbrev DO:=Sts->(Option Int->Prop)->XP->Prop
def tO (K:PySem.W.Frag) (E:XK) (w:DO):TO:=fun σ H Q=>∃ (F:Fm) (δ:Sts) (R:Option Int->Prop) (EX:XP),Rel K F σ H δ/\w δ R EX/\(∀ d,R d->∀ H',Rel K F σ H' δ->Kp σ δ H H'->Q d H')/\Out F E EX
def dNo:DO:=fun _ Q _=>Q none
def dSo (we:DE):DO:=fun δ Q EX=>we δ (fun d=>match d with
  | .int i=>Q (some i)
  | _=>False) EX
theorem PO.imp {e:Option Expr} {t t':TO} (h:PO X e t) (i:∀ σ H Q,t' σ H Q->t σ H Q):PO X e t':=fun pins s σ H Q I q=>h pins s σ H Q I (i σ H Q q)
theorem Qi5:PO X none (tO X.K E dNo):=PO.imp Qk1 fun σ H Q ⟨F,δ,R,EX,rel,hw,k,o⟩=>k _ hw H rel (Kp.refl rel)
theorem Qi4 {e:Expr} {we:DE} (he:PE X e (tX .P X.K E we)):PO X (some e) (tO X.K E (dSo we)):=by
  refine PO.imp (Qhc he) fun σ H Q ⟨F,δ,R,EX,rel,hw,k,o⟩=>?_
  refine ⟨F,δ,_,EX,rel,hw,fun d hd v H' rel' kp vk=>?_,o⟩
  cases d<;>first | exact (show False from hd).elim | skip
  exact ⟨_,DP.int vk,k _ hd H' rel' kp⟩
def cutD (xs:List PyData) (lo hi:Option Int):List PyData:=(xs.drop (HT.sIx xs.length 0 lo)).take (HT.sIx xs.length xs.length hi - HT.sIx xs.length 0 lo)
theorem Qig {A:Addr->Prop} {H:Hp} {xs:List V} {ds:List PyData} (q:DAs A H xs ds) (lo hi:Option Int):DAs A H (cutV xs lo hi) (cutD ds lo hi):=by
  unfold cutV cutD
  rw [q.length]
  exact (q.drop _).take _
def slD (d:PyData) (lo hi:Option Int) (Q:PyData->Prop):Prop:=
  match d with
  | .list ds=>Q (.list (cutD ds lo hi))
  | .tuple ds=>Q (.tuple (cutD ds lo hi))
  | _=>False
def dSl (we:DE) (wl wh:DO):DE:=fun δ Q EX=>we δ (fun d=>wl δ (fun lo=>wh δ (fun hi=>slD d lo hi Q) EX) EX) EX
def rSlAny (K:PySem.W.Frag):V->Option Int->Option Int->Hp->VK->Prop:=fun x a b H Q=>rSlA x a b H Q∨rSlLW K x a b H Q
theorem Qi9 {e:Expr} {lo hi:Option Expr} {we:DE} {wl wh:DO} {p2 pos:Pos} (he:PE X e (tX .P X.K E we)) (hl:PO X lo (tO X.K E wl)) (hh:PO X hi (tO X.K E wh)):PE X (.Subscript e (.Slice lo hi none p2) pos) (tX .F X.K E (dSl we wl wh)):=by
  refine PE.imp (QiT (r:=rSlAny X.K) (SlR.or2 sl_any QiG) he hl hh) fun σ H Q ⟨F,δ,R,EX,rel,hw,k,o⟩=>?_
  refine ⟨F,δ,_,EX,rel,hw,fun d hd v H1 rel1 kp1 vk=>⟨F,δ,_,EX,rel1,hd,fun a ha H2 rel2 kp2=>⟨F,δ,_,EX,rel2,ha,fun b hb H3 rel3 kp3=>?_,o⟩,o⟩,o⟩
  have v3:=kp3.dp (kp2.dp vk)
  have K3:=(kp1.trans kp2).trans kp3
  cases d<;>first | exact (show False from hb).elim | skip
  · obtain ⟨l,xs,rfl,e,q⟩:=DP.list v3
    exact .inr ⟨l,xs,rfl,SqL.of e,fun p H' s n e'=>k _ hb _ H' (rel3.same s) (K3.trans (Kp.same rel3 s)) ⟨Qcz (fun a ha=>rel3.isl ha) s n e' (Qig q _ _),Qbc (Qby K3 n)⟩⟩
  · obtain ⟨l,xs,rfl,e,q⟩:=DP.tuple v3
    exact .inl ⟨l,xs,rfl,e,fun p H' s e'=>k _ hb _ H' (rel3.same s) (K3.trans (Kp.same rel3 s)) ⟨QcR (fun a ha=>rel3.isl ha) s e' (Qig q _ _),QbU e'⟩⟩
def revD (d:PyData) (Q:PyData->Prop):Prop:=
  match d with
  | .tuple ds=>Q (.tuple ds.reverse)
  | _=>False
def dRev (we ws:DE):DE:=fun δ Q EX=>we δ (fun d=>ws δ (fun s=>(match s with | .int i=>i = -1 | _=>False)/\revD d Q) EX) EX
theorem pd_rev {e st:Expr} {we ws:DE} {p2 pos:Pos} (he:PE X e (tX .P X.K E we)) (hs:PE X st (tX .P X.K E ws)):PE X (.Subscript e (.Slice none none (some st) p2) pos) (tX .F X.K E (dRev we ws)):=by
  refine PE.imp (pe_rev he hs) fun σ H Q ⟨F,δ,R,EX,rel,hw,k,o⟩=>?_
  refine ⟨F,δ,_,EX,rel,hw,fun d hd v H1 rel1 kp1 vk=>⟨F,δ,_,EX,rel1,hd,fun s hs y H2 rel2 kp2 yk=>?_,o⟩,o⟩
  have v2:=kp2.dp vk
  have K2:=kp1.trans kp2
  obtain ⟨h1,h2⟩:=hs
  cases s<;>first | exact (show False from h1).elim | skip
  rename_i i
  cases (show i = -1 from h1)
  rw [DP.int yk]
  cases d<;>first | exact (show False from h2).elim | skip
  obtain ⟨l,xs,rfl,e,q⟩:=DP.tuple v2
  exact ⟨_,rfl,rfl,l,xs,rfl,e,fun p H' s e'=>k _ h2 _ H' (rel2.same s) (K2.trans (Kp.same rel2 s)) ⟨QcR (fun a ha=>rel2.isl ha) s e' q.rev,QbU e'⟩⟩
abbrev DF:=List Sl->(PyData->Prop)->XP->Prop
def Kq (pt:Addr->Prop) (H H':Hp):Prop:=(∀ b o,¬ pt b->H b=some o->H' b=some o)/\∀ p,pt p->∃ n,H' p=some (.lst [.int n])
def toSp (fr:Bool) (f:DF):Sp:=fun vs H Q Ex=>∃ (A pt:Addr->Prop) (args:List Sl) (R:PyData->Prop) (EX:XP),(∀ a,A a->∃ xs,H a=some (.lst xs))/\(∀ p,pt p->A p/\∃ n,H p=some (.lst [.int n]))/\Paired (QgE A pt H) vs args/\f args R EX /\
  (∀ d,R d->∀ v H',Kq pt H H'->DA A H' v d->(fr=true->FrV H H' v)->Q v H')/\∀ C,EX C->∀ H',Kq pt H H'->Ex (.ref C) none H'
def sNil:DSl:=fun _ Q _=>Q []
def sV (we:DE) (wr:DSl):DSl:=fun δ Q EX=>we δ (fun d=>wr δ (fun ds=>Q (.v d::ds)) EX) EX
def sPot (i:Nat) (wr:DSl):DSl:=fun δ Q EX=>match δ[i]? with
  | some .pot=>wr δ (fun ds=>Q (.pot::ds)) EX
  | _=>False
theorem Qli:PA X [] (tAs X.K E sNil):=PA.imp Qaw fun σ H Q ⟨F,δ,R,EX,rel,hw,k,o⟩=>k [] hw [] H rel (Kp.refl rel) .nil
theorem pds_v {e:Expr} {es:List Expr} {we:DE} {wr:DSl} (he:PE X e (tX .D X.K E we)) (hr:PA X es (tAs X.K E wr)) (hs:notStar e=true:=by rfl):PA X (e::es) (tAs X.K E (sV we wr)):=by
  refine PA.imp (pa_c he hr hs) fun σ H Q ⟨F,δ,R,EX,rel,hw,k,o⟩=>?_
  refine ⟨F,δ,_,EX,rel,hw,fun d hd v H' rel' kp vk=>⟨F,δ,_,EX,rel',hd,fun ds hds vs H2 rel2 kp2 vks=>?_,o⟩,o⟩
  exact k _ hds (v::vs) H2 rel2 (kp.trans kp2) (.cons (kp2.da vk) vks)
theorem Qlf {e:Expr} {es:List Expr} {i:Nat} {wr:DSl} (he:PE X e (tVar i)) (hr:PA X es (tAs X.K E wr)) (hs:notStar e=true:=by rfl):PA X (e::es) (tAs X.K E (sPot i wr)):=by
  refine PA.imp (pa_c he hr hs) fun σ H Q ⟨F,δ,R,EX,rel,hw,k,o⟩=>?_
  unfold sPot at hw
  split at hw
  · rename_i hd
    obtain ⟨x,hx⟩:=rel.lt hd
    obtain ⟨p,n,rfl,e,q⟩:=rel.sl i _ _ hx hd
    refine ⟨.ref p,hx,F,δ,_,EX,rel,hw,fun ds hds vs H2 rel2 kp2 vks=>?_,o⟩
    exact k _ hds (.ref p::vs) H2 rel2 kp2 (.cons ⟨p,rfl,i,hx,hd⟩ vks)
  · exact hw.elim
def Qif (f:DF) (wa:DSl):DE:=fun δ Q EX=>wa δ (fun args=>f args Q EX) EX
theorem Kq.kp {K:PySem.W.Frag} {F:Fm} {σ:L2.St} {δ:Sts} {H H':Hp} (k:Kq (PotA σ δ) H H'):Kp σ δ H H':=k
theorem QeO {m:Md} {fr:Bool} {K:PySem.W.Frag} {f:DF} {wa:DSl} (hm:∀ {F:Fm} {σ:L2.St} {δ:Sts} {H H':Hp} {v:V} {d:PyData},DA (Av F σ δ) H' v d->(fr=true->FrV H H' v)->Vok m F σ δ H H' v d) (σ:L2.St) (H:Hp) (Q:VK) (h:tX m K E (Qif f wa) σ H Q):QkF (toSp fr f) [] E (tAs K E wa) σ H Q:=by
  obtain ⟨F,δ,R,EX,rel,hw,k,o⟩:=h
  refine ⟨F,δ,_,EX,rel,hw,fun args ha vs H1 rel1 kp1 q=>?_,o⟩
  show toSp fr f (vs++[]) H1 Q E
  rw [List.append_nil]
  refine ⟨Av F σ δ,PotA σ δ,args,R,EX,fun a ha=>rel1.isl ha,fun p hp=>⟨QaU hp,(Kp.refl rel1).2 p hp⟩,q,ha,fun d hd v H' kq dv fr=>?_,fun C hC H' kq=>o C hC H' (rel1.kp kq).ke⟩
  exact k d hd v H' (rel1.kp kq) (kp1.trans kq) (hm dv fun z l e1 e2=>Qby kp1 (fr z l e1 e2))
variable {CX:CXT} {k:Nat} {f:Addr} {fd:FuncData} {ps:List Str} {x:Str} {p pos:Pos} {e:Expr} {es:List Expr} {fD:DF} {wa:DSl}
theorem Qlt (G:FnOk X.prog X.w X.K X.mg X.base CX k f fd ps (toSp false fD)) (hr:Room k X.A) (hg:Gl X x) (hm:X.mg x=some (.ref f)) (hk:PySem.W.keepIn X.K (.ref f)=true) (hb:Binds X.K fd ps []) (hx:QcB CX X E)
    (ha:PA X (e::es) (tAs X.K E wa)) (hdb:(x == ("__debug__" : Str))=false:=by decide) (he:starEach (e::es) X.env=(false,eval e X.env)::starEach es X.env:=by rfl) (hpl:(backTo pos (starEach es X.env)).any (·.1)=false:=by rfl) :
    PE X (.Call (.Name x p) (e::es) [] pos) (tX .D X.K E (Qif fD wa)):=PE.imp (QdU G hr hg hm hk hb .nil hx ha hdb he hpl) (QeO fun h _=>h)
theorem Qja (G:FnOk X.prog X.w X.K X.mg X.base CX k f fd ps (toSp true fD)) (hr:Room k X.A) (hg:Gl X x) (hm:X.mg x=some (.ref f)) (hk:PySem.W.keepIn X.K (.ref f)=true) (hb:Binds X.K fd ps []) (hx:QcB CX X E)
    (ha:PA X (e::es) (tAs X.K E wa)) (hdb:(x == ("__debug__" : Str))=false:=by decide) (he:starEach (e::es) X.env=(false,eval e X.env)::starEach es X.env:=by rfl) (hpl:(backTo pos (starEach es X.env)).any (·.1)=false:=by rfl) :
    PE X (.Call (.Name x p) (e::es) [] pos) (tX .F X.K E (Qif fD wa)):=PE.imp (QdU G hr hg hm hk hb .nil hx ha hdb he hpl) (QeO fun h z=>⟨h,z rfl⟩)
end
abbrev DG:=PyData->Sts->(Sts->Prop)->Prop
def tG (ix:List Nat) (K:PySem.W.Frag) (w:DG):TG:=fun v σ H Q=>∃ (F:Fm) (δ:Sts) (d:PyData) (R:Sts->Prop),Rel K F σ H δ/\DA (Av F σ δ) H v d/\w d δ R /\
  ∀ δ',R δ'->∀ σ',Rel K F σ' H δ'->Stp F σ H δ σ' H δ'->σ'.length=σ.length->(∀ j,j∉ix->σ'[j]? = σ[j]?)->Q σ' H
theorem QaS {α:Type} {l:List α} {i j:Nat} {x:α} (h:j≠i):(l.set i x)[j]? = l[j]? := List.getElem?_set_ne (Ne.symm h)
theorem set_eq {α:Type} {l:List α} {i:Nat} {x y:α} (h:(l.set i x)[i]? = some y):y=x:=by
  rw [List.getElem?_set] at h
  simp only [if_true] at h
  split at h
  · exact (Option.some.inj h).symm
  · cases h
theorem QcA {F:Fm} {σ:L2.St} {δ:Sts} {i:Nat} {o:Option V} {d:PyData} {a:Addr} (h:Av F (σ.set i o) (δ.set i (.v d)) a):Av F σ δ a:=by
  rcases h with h | ⟨j,h1,h2⟩
  · exact .inl h
  · by_cases z:j=i
    · subst z
      rcases h2 with h2 | ⟨ds,h2⟩<;>cases set_eq h2
    · rw [QaS z] at h1 h2
      exact .inr ⟨j,h1,h2⟩
theorem Rel.setv {K:PySem.W.Frag} {F:Fm} {σ:L2.St} {H:Hp} {δ:Sts} (r:Rel K F σ H δ) {i:Nat} {v:V} {d:PyData} (q:DA (Av F σ δ) H v d):Rel K F (σ.set i (some v)) H (δ.set i (.v d)) where
  len:=by rw [List.length_set,List.length_set];exact r.len
  dom:=r.dom
  dom0:=r.dom0
  pt0:=r.pt0
  kx:=r.kx
  sl:=fun j o x h1 h2=>by
    have wk:∀ {v:V} {d':PyData},DA (Av F σ δ) H v d'->DA (Av F (σ.set i (some v)) (δ.set i (.v d))) H v d':=fun h=>h.mv (fun _ _ _ e=>e) fun a z=>.inl (QcA z)
    by_cases z:j=i
    · subst z
      cases set_eq h1
      cases set_eq h2
      exact ⟨v,rfl,q.mv (fun _ _ _ e=>e) fun a z=>.inl (QcA z)⟩
    · rw [QaS z] at h1 h2
      have h:=r.sl j o x h1 h2
      cases x with
      | no=>trivial
      | v d=>obtain ⟨v',e,q'⟩:=h;exact ⟨v',e,q'.mv (fun _ _ _ e=>e) fun a z=>.inl (QcA z)⟩
      | own ds=>obtain ⟨l,xs,e,e2,q',f⟩:=h;exact ⟨l,xs,e,e2,q'.mv (fun _ _ _ e=>e) fun a z=>.inl (QcA z),f⟩
      | pk ds=>obtain ⟨l,xs,e,e2,q',f⟩:=h;exact ⟨l,xs,e,e2,q'.mv (fun _ _ _ e=>e) fun a z=>.inl (QcA z),f⟩
      | pot=>exact h
      | scr=>exact h
  inj:=fun j k a ds h1 h2 ⟨h3,h4⟩=>by
    by_cases z:j=i
    · subst z;cases set_eq h1
    · rw [QaS z] at h1 h2
      by_cases z2:k=i
      · subst z2
        rcases h4 with h4 | ⟨ds,h4⟩<;>cases set_eq h4
      · rw [QaS z2] at h3 h4
        exact r.inj j k a ds h1 h2 ⟨h3,h4⟩
theorem Stp.setv {F:Fm} {σ:L2.St} {H:Hp} {δ:Sts} {i:Nat} {o:Option V} {d:PyData}:Stp F σ H δ (σ.set i o) H (δ.set i (.v d)):=⟨fun _ _ _ e=>e,fun a z=>.inl (QcA z)⟩
def gN (i:Nat):DG:=fun d δ Q=>Q (δ.set i (.v d))
def QcS:Sts->List Nat->List PyData->Sts
  | δ,i::is,d::ds=>QcS (δ.set i (.v d)) is ds
  | δ,_,_=>δ
def gTN (is:List Nat):DG:=fun d δ Q=>match d with
  | .tuple ds=>ds.length=is.length/\Q (QcS δ is ds)
  | _=>False
section
variable {X:Cx} {E:XK}
theorem PG.imp {e:Expr} {t t':TG} (h:PG X e t) (i:∀ v σ H Q,t' v σ H Q->t v σ H Q):PG X e t':=fun pins s σ H v u Q I r q=>h pins s σ H v u Q I r (i v σ H Q q)
theorem Qi8 {e:Expr} {i:Nat} (h:PG X e (Qdd i)):PG X e (tG [i] X.K (gN i)):=PG.imp h fun v σ H Q ⟨F,δ,d,R,rel,dv,hw,k⟩=>
  k _ hw _ (rel.setv dv) Stp.setv (List.length_set ..) fun j hj=>QaS fun z=>hj (by rw [z];exact List.mem_singleton.mpr rfl)
def gNs:List Nat->TGs
  | []=>gNil
  | i::is=>QjA (Qdd i) (gNs is)
theorem Qf3 {K:PySem.W.Frag} {F:Fm} {H:Hp} {Q:L2.St->Hp->Prop}:∀ (is:List Nat) (vs:List V) (ds:List PyData) (σ:L2.St) (δ:Sts),ds.length=is.length->Rel K F σ H δ->DAs (Av F σ δ) H vs ds ->
    (∀ σ',Rel K F σ' H (QcS δ is ds)->Stp F σ H δ σ' H (QcS δ is ds)->σ'.length=σ.length->(∀ j,j∉is->σ'[j]? = σ[j]?)->Q σ' H)->gNs is vs σ H Q
  | [],vs,ds,σ,δ,hl,rel,q,k=>by
    cases ds with
    | nil=>cases q;exact ⟨rfl,k σ rel Stp.refl rfl fun _ _=>rfl⟩
    | cons d ds=>cases hl
  | i::is,vs,ds,σ,δ,hl,rel,q,k=>by
    cases ds with
    | nil=>cases hl
    | cons d ds=>
      cases q with
      | @cons v vs _ _ q qs=>
        refine ⟨v,vs,rfl,?_⟩
        refine Qf3 is vs ds _ _ (by simpa using hl) (rel.setv q) (qs.mv (fun _ _ _ e=>e) fun a z=>.inl (QcA z)) fun σ' r' st hl' hj=>?_
        refine k σ' r' (Stp.setv.trans st) (by rw [hl',List.length_set]) fun j hn=>?_
        rw [hj j (fun z=>hn (List.mem_cons_of_mem _ z)),QaS (fun z=>hn (by rw [z];exact List.mem_cons_self))]
theorem Qln {e:Expr} {n:Nat} {is:List Nat} (h:PG X e (gTup X.K n (gNs is))) (hn:is.length=n:=by rfl):PG X e (tG is X.K (gTN is)):=PG.imp h fun v σ H Q ⟨F,δ,d,R,rel,dv,hw,k⟩=>by
  unfold gTN at hw
  split at hw
  · obtain ⟨hl,hR⟩:=hw
    cases dv with
    | @tup a xs ds na e q=>
      exact ⟨a,xs,rfl,SqT.of e,by rw [q.length,hl,hn],Qf3 is xs _ σ δ hl rel q fun σ' r' st hl' hj=>k _ hR σ' r' st hl' hj⟩
  · exact hw.elim
def ItD (A S:Addr->Prop) (J:It) (items:List PyData) (H1:Hp):Prop:=items.length<=sizeLine/\∀ (H2:Hp) (A':Addr->Prop),(∀ b o,S b->H1 b=some o->H2 b=some o)->(∀ b,A' b->A b∨H1 b=none)->(∀ a,A' a->∃ xs,H2 a=some (.lst xs)) ->
  (∀ (i:Nat) d,items[i]? = some d->J.go i H2/\∀ x H3,J.yld i H2 x H3->Same H2 H3/\DA A' H3 x d)/\J.stop items.length H2
def Sx (m:Md) (F:Fm) (σ:L2.St) (δ:Sts) (b:Addr):Prop:=
  match m with
  | .P=>¬ PotA σ δ b
  | _=>¬ Av F σ δ b
abbrev DI:=Sts->(List PyData->Prop)->XP->Prop
def tI (m:Md) (K:PySem.W.Frag) (E:XK) (w:DI):TI:=fun σ H R=>∃ (F:Fm) (δ:Sts) (R':List PyData->Prop) (EX:XP),Rel K F σ H δ/\w δ R' EX/\(∀ items,R' items->∀ J H',Rel K F σ H' δ->Kp σ δ H H'->ItD (Av F σ δ) (Sx m F σ δ) J items H'->R J H')/\Out F E EX
theorem PI.imp {tg e:Expr} {t t':TI} (h:PI X tg e t) (i:∀ σ H R,QbY H->t' σ H R->t σ H R):PI X tg e t':=fun pins s σ H R I q=>h pins s σ H R I (i σ H R (Inv.lens I) q)
theorem PI.len {tg e:Expr} {t:TI} (h:PI X tg e t):PI X tg e (fun σ H R=>t σ H fun J H1=>QbY H1->R J H1):=fun pins s σ H R I q=>by
  refine thn (h pins s σ H _ I q) fun v s1 h1=>thn h1 fun itv s2 h2=>?_
  obtain ⟨it,fp,tn,J,H',e,I',T,t0,fo,hR⟩:=h2
  exact ⟨it,fp,tn,J,H',e,I',T,t0,fo,hR (Inv.lens I')⟩
def dItL (w:DE):DI:=fun δ Q EX=>w δ (fun d=>match d with
  | .list ds=>Q ds
  | _=>False) EX
def dItT (w:DE):DI:=fun δ Q EX=>w δ (fun d=>match d with
  | .tuple ds=>Q ds
  | _=>False) EX
theorem QdL {A S:Addr->Prop} {H H2:Hp} {A':Addr->Prop} {xs:List V} {ds:List PyData} (sA:∀ b,¬ A b->S b) (k:∀ b o,S b->H b=some o->H2 b=some o) (m:∀ b,A' b->A b∨H b=none) (q:DAs A H xs ds):DAs A' H2 xs ds:=q.mv (fun a o n e=>k a o (sA a n) e) m
theorem itl_d {K:PySem.W.Frag} {A S:Addr->Prop} {H:Hp} {l:Addr} {xs:List V} {ds:List PyData} (sA:∀ b,¬ A b->S b) (sl:S l) (e:H l=some (.lst xs)) (q:DAs A H xs ds) (ln:xs.length<=sizeLine):ItD A S (Itl K l) ds H:=by
  refine ⟨by rw [<- q.length];exact ln,fun H2 A' k m dm=>⟨fun i d hd=>?_,xs,SqL.of (k _ _ sl e),by rw [q.length];exact Nat.le_refl _⟩⟩
  obtain ⟨x,hx,dx⟩:=(QdL sA k m q).get i d hd
  refine ⟨⟨xs,x,SqL.of (k _ _ sl e),hx⟩,fun y H3 ⟨e3,hy⟩=>?_⟩
  subst e3
  have:=hy xs (SqL.of (k _ _ sl e))
  rw [hx] at this
  cases this
  exact ⟨Same.refl _,dx⟩
theorem itt_d {K:PySem.W.Frag} {A S:Addr->Prop} {H:Hp} {l:Addr} {xs:List V} {ds:List PyData} (sA:∀ b,¬ A b->S b) (sl:S l) (e:H l=some (.tup xs)) (q:DAs A H xs ds) (ln:xs.length<=sizeLine):ItD A S (Itt K l) ds H:=by
  refine ⟨by rw [<- q.length];exact ln,fun H2 A' k m dm=>⟨fun i d hd=>?_,xs,SqT.of (k _ _ sl e),by rw [q.length];exact Nat.le_refl _⟩⟩
  obtain ⟨x,hx,dx⟩:=(QdL sA k m q).get i d hd
  refine ⟨⟨xs,x,SqT.of (k _ _ sl e),hx⟩,fun y H3 ⟨e3,hy⟩=>?_⟩
  subst e3
  have:=hy xs (SqT.of (k _ _ sl e))
  rw [hx] at this
  cases this
  exact ⟨Same.refl _,dx⟩
theorem QgK {m:Md} {F:Fm} {σ:L2.St} {δ:Sts} {b:Addr} (h:¬ Av F σ δ b):Sx m F σ δ b:=by
  cases m
  · exact h
  · exact fun z=>h (QaU z)
  · exact h
theorem stL {m:Md} {F:Fm} {σ:L2.St} {δ:Sts} {H H':Hp} {v:V} {ds:List PyData} (h:VD m (Av F σ δ) (PotA σ δ) H v (.list ds)):∃ l xs,v=.ref l/\Sx m F σ δ l/\H l=some (.lst xs)/\DAs (Av F σ δ) H xs ds:=by
  cases m
  · cases h with | @lst a xs _ n e q=>exact ⟨a,xs,rfl,n,e,q⟩
  · rcases h with h | ⟨l,xs,ds',rfl,e,n,e2,q⟩
    · cases h with | @lst a xs _ n e q=>exact ⟨a,xs,rfl,QgK n,e,q⟩
    · cases e;exact ⟨l,xs,rfl,n,e2,q⟩
  · cases h with | @lst a xs _ n e q=>exact ⟨a,xs,rfl,n,e,q⟩
theorem stT {m:Md} {F:Fm} {σ:L2.St} {δ:Sts} {H H':Hp} {v:V} {ds:List PyData} (h:VD m (Av F σ δ) (PotA σ δ) H v (.tuple ds)):∃ l xs,v=.ref l/\Sx m F σ δ l/\H l=some (.tup xs)/\DAs (Av F σ δ) H xs ds:=by
  cases m
  · cases h with | @tup a xs _ n e q=>exact ⟨a,xs,rfl,n,e,q⟩
  · rcases h with h | ⟨l,xs,ds',rfl,e,n,e2,q⟩
    · cases h with | @tup a xs _ n e q=>exact ⟨a,xs,rfl,QgK n,e,q⟩
    · cases e
  · cases h with | @tup a xs _ n e q=>exact ⟨a,xs,rfl,n,e,q⟩
theorem QgF {m:Md} {F:Fm} {σ:L2.St} {δ:Sts} {H H':Hp} {v:V} {d:PyData} (h:Vok m F σ δ H H' v d):VD m (Av F σ δ) (PotA σ δ) H' v d:=by
  cases m
  · exact h
  · exact h
  · exact h.1
variable {m:Md} {tg e e':Expr} {w w':DE} {p pos tpos:Pos}
theorem Qi7 (h:PE X e (tX m X.K E w)):PI X tg e (tI m X.K E (dItL w)):=by
  refine PI.imp (PI.len (Qk4 h)) fun σ H R _ ⟨F,δ,R',EX,rel,hw,k,o⟩=>?_
  refine ⟨F,δ,_,EX,rel,hw,fun d hd v H' rel' kp vk=>?_,o⟩
  cases d<;>first | exact (show False from hd).elim | skip
  obtain ⟨l,xs,rfl,sl,e,q⟩:=stL (H':=H') (QgF vk)
  exact ⟨l,rfl,⟨xs,SqL.of e⟩,fun ln=>k _ hd _ H' rel' kp (itl_d (fun b=>QgK) sl e q (ln _ _ (.inl e)))⟩
theorem Qlm (h:PE X e (tX m X.K E w)):PI X tg e (tI m X.K E (dItT w)):=by
  refine PI.imp (PI.len (pi_tup h)) fun σ H R _ ⟨F,δ,R',EX,rel,hw,k,o⟩=>?_
  refine ⟨F,δ,_,EX,rel,hw,fun d hd v H' rel' kp vk=>?_,o⟩
  cases d<;>first | exact (show False from hd).elim | skip
  obtain ⟨l,xs,rfl,sl,e,q⟩:=stT (H':=H') (QgF vk)
  exact ⟨l,rfl,⟨xs,SqT.of e⟩,fun ln=>k _ hd _ H' rel' kp (itt_d (fun b=>QgK) sl e q (ln _ _ (.inr e)))⟩
def rngD (lo:Int) (n:Nat):List PyData:=(List.range n).map fun (i:Nat)=>.int (lo+i)
theorem Qfa {lo:Int} {n i:Nat} {d:PyData} (h:(rngD lo n)[i]? = some d):i<n/\d=.int (lo+i):=by
  unfold rngD at h
  rw [List.getElem?_map] at h
  by_cases z:i<n
  · rw [List.getElem?_range z] at h
    exact ⟨z,(Option.some.inj h).symm⟩
  · rw [List.getElem?_eq_none (by rw [List.length_range];omega)] at h
    cases h
theorem QdN {lo:Int} {n:Nat}:(rngD lo n).length=n:=by unfold rngD;rw [List.length_map,List.length_range]
theorem itr_d {A S:Addr->Prop} {H:Hp} {lo:Int} {n:Nat} (hn:n<=1000000):ItD A S (Itr lo n) (rngD lo n) H:=by
  refine ⟨by rw [QdN];exact Nat.le_trans hn QhJ,fun H2 A' k m dm=>⟨fun i d hd=>?_,by rw [QdN];exact Nat.le_refl _⟩⟩
  obtain ⟨hi,rfl⟩:=Qfa hd
  exact ⟨hi,fun x H3 ⟨e1,e2⟩=>by subst e1 e2;exact ⟨Same.refl _,.int _⟩⟩
def dRng1 (w:DE):DI:=fun δ Q EX=>w δ (fun d=>match d with
  | .int j=>(-1000000<=j/\j<=1000000)/\Q (rngD 0 j.toNat)
  | _=>False) EX
theorem Qi6 (hg:Gl X "range") (hm:X.mg "range" = none) (h:PE X e (tX .P X.K E w)) (hs:notStar e=true:=by rfl):PI X tg (.Call (.Name "range" p) [e] [] pos) (tI m X.K E (dRng1 w)):=by
  refine PI.imp (QcZ hg hm (pa_c h Qaw hs) (by rw [QaQ hs];rfl)) fun σ H R _ ⟨F,δ,R',EX,rel,hw,k,o⟩=>?_
  refine ⟨F,δ,_,EX,rel,hw,fun d hd v H' rel' kp vk=>?_,o⟩
  cases d<;>first | exact (show False from hd).elim | skip
  obtain ⟨⟨h1,h2⟩,hR⟩:=hd
  rw [DP.int vk]
  exact ⟨_,rfl,by omega,by omega,k _ hR _ H' rel' kp (itr_d (by omega))⟩
theorem Qlu {A':Addr->Prop} {H2:Hp} {r:Addr} {x y:V} {d d':PyData} (dm:∀ a,A' a->∃ xs,H2 a=some (.lst xs)) (n:H2 r=none) (q:DA A' H2 x d) (q':DA A' H2 y d'):DA A' (upd H2 r (.tup [x,y])) (.ref r) (.tuple [d,d']):=
  .tup (fun z=>by obtain ⟨xs,e⟩:=dm r z;rw [n] at e;cases e) Qad (.cons (q.same (Qae n)) (.cons (q'.same (Qae n)) .nil))
def Qd4 (ds:List PyData):List PyData:=(List.range ds.length).map fun (i:Nat)=>.tuple [.int i,ds.getD i .none]
theorem Qca {ds:List PyData} {i:Nat} {d:PyData} (h:(Qd4 ds)[i]? = some d):∃ e,ds[i]? = some e/\d=.tuple [.int i,e]:=by
  unfold Qd4 at h
  rw [List.getElem?_map] at h
  by_cases z:i<ds.length
  · rw [List.getElem?_range z] at h
    refine ⟨ds[i],List.getElem?_eq_getElem z,?_⟩
    rw [<- Option.some.inj h]
    show PyData.tuple [.int i,ds.getD i .none]=_
    rw [List.getD_eq_getElem?_getD,List.getElem?_eq_getElem z]
    rfl
  · rw [List.getElem?_eq_none (by rw [List.length_range];omega)] at h
    cases h
theorem QcM {ds:List PyData}:(Qd4 ds).length=ds.length:=by unfold Qd4;rw [List.length_map,List.length_range]
def dEnT (w:DE):DI:=fun δ Q EX=>w δ (fun d=>match d with
  | .tuple ds=>Q (Qd4 ds)
  | _=>False) EX
variable {elts:List Expr}
theorem Qhi {x1} (hg:Gl X "enumerate") (hm:X.mg "enumerate" = none) (h:PE X e (tX m X.K E w)) (hs:notStar e=true:=by rfl):PI X (.Tuple elts x1 tpos) (.Call (.Name "enumerate" p) [e] [] pos) (tI m X.K E (dEnT w)):=by
  refine PI.imp (PI.len (QiS hg hm (pa_c h Qaw hs) (by rw [QaQ hs];rfl))) fun σ H R _ ⟨F,δ,R',EX,rel,hw,k,o⟩=>?_
  refine ⟨F,δ,_,EX,rel,hw,fun d hd v H' rel' kp vk=>?_,o⟩
  cases d<;>first | exact (show False from hd).elim | skip
  obtain ⟨l,xs,rfl,sl,e,q⟩:=stT (H':=H') (QgF vk)
  refine ⟨l,xs,rfl,e,fun ln=>k _ hd _ H' rel' kp ⟨by rw [QcM,<- q.length];exact ln _ _ (.inr e),fun H2 A' kk mm dm=>⟨fun i d hd'=>?_,xs,kk _ _ sl e,by rw [QcM,q.length]⟩⟩⟩
  obtain ⟨d',hd2,rfl⟩:=Qca hd'
  obtain ⟨x,hx,dx⟩:=(QdL (S:=Sx m F σ δ) (fun b=>QgK) kk mm q).get i d' hd2
  refine ⟨⟨xs,x,kk _ _ sl e,hx⟩,fun y H3 ⟨r,x',nr,hx',e1,e2⟩=>?_⟩
  subst e1 e2
  have:=hx' xs (kk _ _ sl e)
  rw [hx] at this
  cases this
  exact ⟨Qae nr,Qlu dm nr (.int _) dx⟩
end
def Ql5:Option Sl->Sl
  | some (.v d)=>.v d
  | some (.own ds)=>.pk ds
  | some (.pk ds)=>.pk ds
  | some .pot=>.pot
  | _=>.no
def capD (cap:List (Option Nat)) (δ:Sts):Sts:=cap.map fun o=>match o with
  | none=>.no
  | some j=>Ql5 δ[j]?
theorem Qd8 {cap:List (Option Nat)} {σ:L2.St} {i:Nat} {o:Option V} (h:(capS cap σ)[i]? = some o):(cap[i]? = some none/\o=none)∨∃ j,cap[i]? = some (some j)/\o=(σ[j]?).getD none:=by
  unfold capS at h
  rw [List.getElem?_map] at h
  obtain ⟨c,hc,rfl⟩:=Option.map_eq_some_iff.mp h
  cases c with
  | none=>exact .inl ⟨hc,rfl⟩
  | some j=>exact .inr ⟨j,hc,rfl⟩
theorem Qd9 {cap:List (Option Nat)} {δ:Sts} {i:Nat} {x:Sl} (h:(capD cap δ)[i]? = some x):(cap[i]? = some none/\x=.no)∨∃ j,cap[i]? = some (some j)/\x=Ql5 δ[j]? := by
  unfold capD at h
  rw [List.getElem?_map] at h
  obtain ⟨c,hc,rfl⟩:=Option.map_eq_some_iff.mp h
  cases c with
  | none=>exact .inl ⟨hc,rfl⟩
  | some j=>exact .inr ⟨j,hc,rfl⟩
theorem Qa9 {cap:List (Option Nat)} {σ:L2.St} {δ:Sts} {i:Nat} {o:Option V} {x:Sl} (h1:(capS cap σ)[i]? = some o) (h2:(capD cap δ)[i]? = some x) (hx:x≠.no):∃ (j:Nat) (y:Sl),δ[j]? = some y/\x=Ql5 (some y)/\o=(σ[j]?).getD none:=by
  rcases Qd9 h2 with ⟨_,e⟩ | ⟨j,hj,e⟩
  · exact absurd e hx
  · rcases Qd8 h1 with ⟨z,_⟩ | ⟨j',hj',e'⟩
    · rw [hj] at z;cases z
    · rw [hj] at hj'
      cases hj'
      cases e2:δ[j]? with
      | none=>rw [e2] at e;exact absurd e hx
      | some y=>exact ⟨j,y,e2,by rw [e,e2],e'⟩
theorem QbW {cap:List (Option Nat)} {σ:L2.St} {δ:Sts} {a:Addr} (h:PotA (capS cap σ) (capD cap δ) a):PotA σ δ a:=by
  obtain ⟨i,h1,h2⟩:=h
  obtain ⟨j,y,hy,e,eo⟩:=Qa9 h1 h2 (fun z=>by cases z)
  cases y<;>first | (cases e;done) | skip
  refine ⟨j,?_,hy⟩
  cases e2:σ[j]? with
  | none=>rw [e2] at eo;cases eo
  | some o'=>rw [e2] at eo;exact congrArg some eo.symm
def inF (A1:Addr->Prop) (cap:List (Option Nat)) (σ:L2.St) (δ:Sts) (H:Hp):Fm:=⟨H,A1,PotA (capS cap σ) (capD cap δ)⟩
theorem Qf2 {A1:Addr->Prop} {cap:List (Option Nat)} {σ:L2.St} {δ:Sts} {H:Hp} (h:∀ a,PotA σ δ a->A1 a) {a:Addr}:Av (inF A1 cap σ δ H) (capS cap σ) (capD cap δ) a↔A1 a:=by
  constructor
  · rintro (z | ⟨i,h1,h2⟩)
    · exact z
    · rcases h2 with h2 | ⟨ds,h2⟩
      · exact h a (QbW ⟨i,h1,h2⟩)
      · obtain ⟨j,y,hy,e,eo⟩:=Qa9 h1 h2 (fun z=>by cases z)
        cases y<;>cases e
  · exact .inl
theorem QhS {K:PySem.W.Frag} {F:Fm} {σ:L2.St} {δ:Sts} {H1 H3:Hp} {A1:Addr->Prop} {cap:List (Option Nat)} (rel:Rel K F σ H1 δ) (hA:∀ a,Av F σ δ a->A1 a) (hN:∀ a,A1 a->Av F σ δ a∨H1 a=none)
    (dm:∀ a,A1 a->∃ xs,H3 a=some (.lst xs)) (kp:Kp σ δ H1 H3):Rel K (inF A1 cap σ δ H3) (capS cap σ) H3 (capD cap δ) where
  len:=by unfold capS capD;rw [List.length_map,List.length_map]
  dom:=dm
  dom0:=dm
  pt0:=fun p hp=>⟨hA p (QaU (QbW hp)),kp.2 p (QbW hp)⟩
  kx:=fun b o _ e=>e
  sl:=fun i o x h1 h2=>by
    have iv:∀ {a:Addr},Av (inF A1 cap σ δ H3) (capS cap σ) (capD cap δ) a->A1 a:=fun {a}=>(Qf2 fun a z=>hA a (QaU z)).mp
    have mv:∀ {v:V} {d:PyData},DA (Av F σ δ) H1 v d->DA (Av (inF A1 cap σ δ H3) (capS cap σ) (capD cap δ)) H3 v d:=fun q=>q.mv (fun a o n e=>kp.1 a o (fun z=>n (QaU z)) e) fun a z=>hN a (iv z)
    have mvs:∀ {v:List V} {d:List PyData},DAs (Av F σ δ) H1 v d->DAs (Av (inF A1 cap σ δ H3) (capS cap σ) (capD cap δ)) H3 v d:=fun q=>q.mv (fun a o n e=>kp.1 a o (fun z=>n (QaU z)) e) fun a z=>hN a (iv z)
    cases x with
    | no=>trivial
    | own ds=>
      obtain ⟨j,y,hy,e,eo⟩:=Qa9 h1 h2 (fun z=>by cases z)
      cases y<;>cases e
    | scr=>
      obtain ⟨j,y,hy,e,eo⟩:=Qa9 h1 h2 (fun z=>by cases z)
      cases y<;>cases e
    | v d=>
      obtain ⟨j,y,hy,e,eo⟩:=Qa9 h1 h2 (fun z=>by cases z)
      cases y<;>first | (cases e;done) | skip
      cases e
      obtain ⟨x,hx⟩:=rel.lt hy
      obtain ⟨v,rfl,q⟩:=rel.sl j _ _ hx hy
      rw [hx] at eo
      exact ⟨v,eo,mv q⟩
    | pk ds=>
      obtain ⟨j,y,hy,e,eo⟩:=Qa9 h1 h2 (fun z=>by cases z)
      cases y<;>first | (cases e;done) | skip
      · cases e
        obtain ⟨x,hx⟩:=rel.lt hy
        obtain ⟨l,xs,rfl,e,q,f⟩:=rel.sl j _ _ hx hy
        rw [hx] at eo
        have np:=rel.own_pot hy hx
        exact ⟨l,xs,eo,kp.1 _ _ np e,mvs q,xs,kp.1 _ _ np e,fun z=>np (QbW z)⟩
      · cases e
        obtain ⟨x,hx⟩:=rel.lt hy
        obtain ⟨l,xs,rfl,e,q,ys,f,f2⟩:=rel.sl j _ _ hx hy
        rw [hx] at eo
        have np:¬ PotA σ δ l:=by
          rintro ⟨j,j1,j2⟩
          obtain ⟨p,m,e1,_,w⟩:=rel.sl j _ _ j1 j2
          cases e1
          rcases w with w | w
          · exact f2 w
          · rw [w] at f;cases f
        exact ⟨l,xs,eo,kp.1 _ _ np e,mvs q,xs,kp.1 _ _ np e,fun z=>np (QbW z)⟩
    | pot=>
      obtain ⟨j,y,hy,e,eo⟩:=Qa9 h1 h2 (fun z=>by cases z)
      cases y<;>first | (cases e;done) | skip
      obtain ⟨x,hx⟩:=rel.lt hy
      obtain ⟨p,n,rfl,e,q⟩:=rel.sl j _ _ hx hy
      rw [hx] at eo
      obtain ⟨m,em⟩:=kp.2 p ⟨j,hx,hy⟩
      have eo':o=some (.ref p):=eo
      subst eo'
      exact ⟨p,m,rfl,em,.inl ⟨i,h1,h2⟩⟩
  inj:=fun i j a ds h1 h2 _=>by
    obtain ⟨j,y,hy,e,eo⟩:=Qa9 h2 h1 (fun z=>by cases z)
    cases y<;>cases e
theorem QiB:∀ {σ σ':L2.St},σ'.length=σ.length->(∀ (i:Nat) v,σ[i]? = some (some v)->σ'[i]? = some (some v))->Wk σ σ'
  | [],[],_,_=>trivial
  | [],_::_,h,_=>by cases h
  | _::_,[],h,_=>by cases h
  | none::a,x::b,h,g=>QiB (σ:=a) (σ':=b) (by simpa using h) fun i v e=>by simpa using g (i+1) v (by simpa using e)
  | some u::a,x::b,h,g=>by
    have h0:=g 0 u rfl
    simp only [List.getElem?_cons_zero,Option.some.injEq] at h0
    subst h0
    exact ⟨rfl,QiB (σ:=a) (σ':=b) (by simpa using h) fun i v e=>by simpa using g (i+1) v (by simpa using e)⟩
def Qcp (cap:List (Option Nat)) (ix:List Nat):Bool:=ix.all fun i=>match cap[i]? with
  | some none=>true
  | _=>false
theorem Qkq {cap:List (Option Nat)} {ix:List Nat} (hf:Qcp cap ix=true) {σ σ4:L2.St} (hl:σ4.length=(capS cap σ).length) (hj:∀ j,j∉ix->σ4[j]? = (capS cap σ)[j]?):Wk (capS cap σ) σ4:=by
  refine QiB hl fun i v e=>?_
  by_cases z:i∈ix
  · have:=List.all_eq_true.mp hf i z
    rcases Qd8 e with ⟨_,e2⟩ | ⟨j,hj2,_⟩
    · cases e2
    · rw [hj2] at this;cases this
  · rw [hj i z];exact e
def XF:XP:=fun _=>False
@[irreducible] def QeX (items:List PyData) (wg:DG) (wt:DT) (we:DE) (δ:Sts) (Q:PyData->Prop):Prop:=∃ Iv:Nat->List PyData->Prop,Iv 0 [] /\
  (∀ (i:Nat) acc d,items[i]? = some d->Iv i acc->wg d δ fun δ4=>wt δ4 (fun b=>if b=true then we δ4 (fun e=>Iv (i+1) (acc++[e])) XF else Iv (i+1) acc) XF)/\∀ acc,Iv items.length acc->Q (.list acc)
def dComp (cap:List (Option Nat)) (wi:DI) (wg:DG) (wt:DT) (we:DE):DE:=fun δ Q EX=>wi δ (fun items=>QeX items wg wt we (capD cap δ) Q) EX
def dNoT:DT:=fun _ Q _=>Q true
section
variable {X:Cx} {E:XK}
theorem outF {F:Fm} {E:XK}:Out F E XF:=fun _ z=>z.elim
theorem PTs.imp {es:List Expr} {t t':TT} (h:PTs X es t) (i:∀ σ H Q,t' σ H Q->t σ H Q):PTs X es t':=fun pins s σ H Q I q=>h pins s σ H Q I (i σ H Q q)
theorem QiX:PTs X [] (tT X.K E dNoT):=PTs.imp Qg8 fun σ H Q ⟨F,δ,R,EX,rel,hw,k,o⟩=>k _ hw H rel (Kp.refl rel)
theorem QiW {c:Expr} {t:DT} (h:PT X c (tT X.K E t)):PTs X [c] (tT X.K E t):=QkX h
theorem Qfq {K:PySem.W.Frag} {A1:Addr->Prop} {cap:List (Option Nat)} {σ σ4:L2.St} {δ δ4:Sts} {H3 H4:Hp} (r:Rel K (inF A1 cap σ δ H3) σ4 H4 δ4) (hk:∀ b o,¬ PotA σ δ b->H4 b=some o->H3 b=none->False) {b:Addr} (h:PotA σ4 δ4 b):PotA σ δ b:=by
  obtain ⟨i,h1,h2⟩:=h
  obtain ⟨p,n,e,hp,w⟩:=r.sl i _ _ h1 h2
  cases e
  rcases w with w | w
  · exact QbW w
  · by_cases z:PotA σ δ b
    · exact z
    · exact (hk b _ z hp w).elim
theorem QkB {K:PySem.W.Frag} {F:Fm} {σ:L2.St} {δ:Sts} {H1 H3:Hp} {cap:List (Option Nat)} {ix:List Nat} {wg:DG} {wt:DT} {A1:Addr->Prop} {x:V} {d:PyData} {inner:L2.St->Hp->(Hp->Prop)->Prop} {kk:Hp->Prop} {T:Sts->Prop} {N:Prop}
    (hf:Qcp cap ix=true) (rel:Rel K F σ H1 δ) (hA:∀ a,Av F σ δ a->A1 a) (hN:∀ a,A1 a->Av F σ δ a∨H1 a=none) (dm:∀ a,A1 a->∃ xs,H3 a=some (.lst xs)) (kp:Kp σ δ H1 H3) (dx:DA A1 H3 x d)
    (h:wg d (capD cap δ) fun δ4=>wt δ4 (fun b=>if b=true then T δ4 else N) XF)
    (hT:∀ σ4 δ4 H5,T δ4->Rel K (inF A1 cap σ δ H3) σ4 H5 δ4->Kp σ δ H3 H5->(∀ b,PotA σ4 δ4 b->PotA σ δ b)->inner σ4 H5 kk) (hF:N->∀ H5,Kp σ δ H3 H5->kk H5) :
    bOf (capS cap σ) (tG ix K wg) (tT K E0 wt) inner x H3 kk:=by
  have ri:=QhS (cap:=cap) rel hA hN dm kp
  have iv:∀ {a:Addr},Av (inF A1 cap σ δ H3) (capS cap σ) (capD cap δ) a->A1 a:=fun {a}=>(Qf2 fun a z=>hA a (QaU z)).mp
  refine ⟨inF A1 cap σ δ H3,capD cap δ,d,_,ri,dx.mv (fun _ _ _ e=>e) fun a z=>.inl (iv z),h,fun δ4 h4 σ4 r4 st4 l4 j4=>⟨Qkq hf l4 j4,inF A1 cap σ δ H3,δ4,_,XF,r4,h4,fun b hb H5 r5 kp5=>?_,outF⟩⟩
  have pots:∀ {b:Addr},PotA σ4 δ4 b->PotA σ δ b:=fun z=>Qfq r4 (fun b o _ e1 e2=>by rw [e2] at e1;cases e1) z
  have K5:Kp σ δ H3 H5:=by
    refine ⟨fun b o n e=>kp5.1 b o (fun z=>n (pots z)) e,fun b hb=>?_⟩
    by_cases z:PotA σ4 δ4 b
    · exact kp5.2 b z
    · obtain ⟨n,e⟩:=kp.2 b hb
      exact ⟨n,kp5.1 _ _ z e⟩
  exact Qc5 hb (fun z=>hT σ4 δ4 H5 z r5 K5 fun b=>pots) fun z=>hF z H5 K5
structure Lp (σ:L2.St) (δ:Sts) (A1:Addr->Prop) (p:Addr) (H1 H2:Hp) (acc:List PyData):Prop where
  kp:Kp σ δ H1 H2
  at_:∃ ys,H2 p=some (.lst ys)/\DAs A1 H2 ys acc
theorem Lp.step {σ:L2.St} {δ:Sts} {A1:Addr->Prop} {p:Addr} {H1 H2 H3:Hp} {acc:List PyData} (hpA:∀ a,PotA σ δ a->A1 a) (hpn:¬ PotA σ δ p) (h:Lp σ δ A1 p H1 H2 acc) (k:Kp σ δ H2 H3):Lp σ δ A1 p H1 H3 acc:=by
  obtain ⟨ys,e,q⟩:=h.at_
  exact ⟨h.kp.trans k,ys,k.1 _ _ hpn e,q.mv (fun a o n e=>k.1 a o (fun z=>n (hpA a z)) e) fun a z=>.inl z⟩
theorem elt_in {K:PySem.W.Frag} {σ σ4:L2.St} {δ δ4:Sts} {H1 H3 H5:Hp} {cap:List (Option Nat)} {we:DE} {A1:Addr->Prop} {p:Addr} {acc:List PyData} {kk:Hp->Prop} {G:PyData->Prop}
    (hpA:A1 p) (hP:∀ a,PotA σ δ a->A1 a) (hp1:H1 p=none) (hpn:¬ PotA σ δ p) (lp:Lp σ δ A1 p H1 H5 acc) (hl:acc.length<sizeLine) (r5:Rel K (inF A1 cap σ δ H3) σ4 H5 δ4) (pots:∀ b,PotA σ4 δ4 b->PotA σ δ b)
    (h:we δ4 G XF) (hk:∀ e,G e->∀ H',Lp σ δ A1 p H1 H' (acc++[e])->kk H'):bElt p (tX .D K E0 we) σ4 H5 kk:=by
  refine ⟨inF A1 cap σ δ H3,δ4,G,XF,r5,h,fun e he v H6 r6 kp6 dv=>?_,outF⟩
  have k56:Kp σ δ H5 H6:=by
    refine ⟨fun b o n e=>kp6.1 b o (fun z=>n (pots b z)) e,fun b hb=>?_⟩
    by_cases z:PotA σ4 δ4 b
    · exact kp6.2 b z
    · obtain ⟨n,e⟩:=lp.kp.2 b hb
      exact ⟨n,kp6.1 _ _ z e⟩
  obtain ⟨k6,ys,e6,q6⟩:=lp.step hP hpn k56
  have up:∀ {b:Addr} {o:HO},¬ A1 b->H6 b=some o->upd H6 p (.lst (ys++[v])) b=some o:=fun {b o} n e=>by rw [Qai (fun z=>n (by rw [z];exact hpA))];exact e
  refine ⟨ys,e6,by rw [q6.length];exact hl,hk e he _ ⟨⟨fun b o n e=>?_,fun b hb=>?_⟩,ys++[v],Qad,DAs.app (q6.mv (fun _ _=>up) fun a z=>.inl z) (.cons (DA.mv dv (fun a o n e=>up (fun z=>n (.inl z)) e) fun a z=>.inl (.inl z)) .nil)⟩⟩
  · rw [Qai (fun z=>by rw [z,hp1] at e;cases e)]
    exact k6.1 b o n e
  · rw [Qai (fun z=>hpn (by rw [<- z];exact hb))]
    exact k6.2 b hb
theorem Qlr {M:List Str} {cap:List (Option Nat)} {elt tg iter:Expr} {ifs:List Expr} {scope:Scope} {pos:Pos} {ix:List Nat} {wi:DI} {wg:DG} {wt:DT} {we:DE} (hc:X.calm=true) (ok:QeN X.N X.env.scope M scope cap=true) (hf:Qcp cap ix=true)
    (hi:PI X tg iter (tI .P X.K E wi)) (hb:∀ cl ex s3 H3 C,PG (blk X M scope cl ex s3 H3 C) tg (tG ix X.K wg)/\PTs (blk X M scope cl ex s3 H3 C) ifs (tT X.K E0 wt)/\PE (blk X M scope cl ex s3 H3 C) elt (tX .D X.K E0 we))
    (hs:∀ x,foldedSetIterable iter X.env x=pure x:=by intro _;rfl):PE X (.ListComp elt [⟨tg,iter,ifs,0⟩] scope pos) (tX .F X.K E (dComp cap wi wg wt we)):=by
  refine PE.imp (QfO hc ok hi hb hs) fun σ H Q ⟨F,δ,R,EX,rel,hw,k,o⟩=>?_
  refine ⟨F,δ,_,EX,rel,hw,fun items hC J H1 rel1 kp1 ⟨ln,it⟩ p hp=>?_,o⟩
  unfold QeX at hC
  obtain ⟨Iv,i0,step,fin⟩:=hC
  have hpn:¬ PotA σ δ p:=fun z=>by obtain ⟨xs,e⟩:=rel1.isl (QaU (F:=F) z);rw [hp] at e;cases e
  let A1:Addr->Prop:=fun a=>Av F σ δ a∨a=p
  have hP:∀ a,PotA σ δ a->A1 a:=fun a z=>.inl (QaU z)
  have hN:∀ a,A1 a->Av F σ δ a∨H1 a=none:=fun a z=>z.elim .inl fun z=>.inr (by rw [z];exact hp)
  have dmK:∀ {H2:Hp},Kp σ δ H1 H2->(∃ ys,H2 p=some (.lst ys))->∀ a,A1 a->∃ xs,H2 a=some (.lst xs):=fun {H2} k2 e2 a z=>by
    rcases z with z | z
    · exact (rel1.kp k2).isl z
    · rw [z];exact e2
  refine QdX items.length (fun i H2=>i<=items.length/\∃ acc,Iv i acc/\acc.length<=i/\Lp σ δ A1 p H1 H2 acc) ⟨Nat.zero_le _,[],i0,Nat.le_refl _,Kp.same rel1 (Qae hp),[],Qad,.nil⟩ (fun i H2 hi ⟨_,acc,iv,hl,lp⟩=>?_) fun H2 ⟨_,acc,iv,hl,lp⟩=>?_
  · obtain ⟨k2,ys,e2,q2⟩:=lp
    obtain ⟨go,_⟩:=it H2 A1 (fun b o n e=>k2.1 b o n e) hN (dmK k2 ⟨ys,e2⟩)
    have hd:items[i]? = some items[i]:=List.getElem?_eq_getElem hi
    obtain ⟨g1,g2⟩:=go i _ hd
    refine ⟨g1,fun x H3 y kk hk=>?_⟩
    obtain ⟨s3,dx⟩:=g2 x H3 y
    have k23:=Kp.same (rel1.kp k2) s3
    have lp3:Lp σ δ A1 p H1 H3 acc:=Lp.step hP hpn ⟨k2,ys,e2,q2⟩ k23
    refine QkB hf rel1 (fun a z=>.inl z) hN (dmK lp3.kp ⟨ys,s3 _ _ e2⟩) lp3.kp dx (step i acc _ hd iv) (fun σ4 δ4 H5 h5 r5 k5 pots=>?_) fun h5 H5 k5=>hk _ ⟨hi,acc,h5,by omega,lp3.step hP hpn k5⟩
    exact elt_in (.inr rfl) hP hp hpn (lp3.step hP hpn k5) (by omega) r5 pots h5 fun e he H' lp'=>hk _ ⟨hi,acc++[e],he,by rw [List.length_append];show _+1<=_;omega,lp'⟩
  · obtain ⟨k2,ys,e2,q2⟩:=lp
    obtain ⟨_,st⟩:=it H2 A1 (fun b o n e=>k2.1 b o n e) hN (dmK k2 ⟨ys,e2⟩)
    refine ⟨st,k _ (fin acc iv) (.ref p) H2 (rel1.kp k2) (kp1.trans k2) ⟨.lst (fun z=>?_) e2 (q2.mv (fun _ _ _ e=>e) fun a z=>.inl (.inl z)),fun l e1 _=>?_⟩⟩
    · obtain ⟨xs,e⟩:=rel1.isl z
      rw [hp] at e;cases e
    · cases e1
      exact Qby kp1 hp
theorem cm_fm {items:List PyData} {wg:DG} {wt:DT} {we:DE} {δ:Sts} {Q:PyData->Prop} (G:PyData->Option PyData)
    (h:∀ d∈items,∀ (k1:Prop) (k2:PyData->Prop),(G d=none->k1)->(∀ e,G d=some e->k2 e)->wg d δ fun δ4=>wt δ4 (fun b=>if b=true then we δ4 k2 XF else k1) XF) (q:Q (.list (items.filterMap G))) :
    QeX items wg wt we δ Q:=by
  unfold QeX
  refine ⟨fun i acc=>acc=(items.take i).filterMap G,by simp,fun i acc d hd e=>?_,fun acc e=>by rw [e,List.take_length];exact q⟩
  have hs:(items.take (i+1)).filterMap G=(items.take i).filterMap G++(G d).toList:=by
    rw [List.take_add_one,hd,List.filterMap_append]
    cases e2:G d<;>simp [e2]
  have e:acc=(items.take i).filterMap G:=e
  refine h d (List.mem_of_getElem? hd) _ _ (fun e2=>?_) fun e' e2=>?_
  · show acc=(items.take (i+1)).filterMap G
    rw [hs,e2,e];simp
  · show acc++[e']=(items.take (i+1)).filterMap G
    rw [hs,e2,e];rfl
theorem Qkm {items:List PyData} {wg:DG} {we:DE} {δ:Sts} {Q:PyData->Prop} (G:PyData->PyData)
    (h:∀ d∈items,∀ (k2:PyData->Prop),k2 (G d)->wg d δ fun δ4=>we δ4 k2 XF) (q:Q (.list (items.map G))) :
    QeX items wg dNoT we δ Q:=by
  unfold QeX
  refine ⟨fun i acc=>acc=(items.take i).map G,by simp,fun i acc d hd e=>?_,fun acc e=>by rw [e,List.take_length];exact q⟩
  have hs:(items.take (i+1)).map G=(items.take i).map G++[G d]:=by
    rw [List.take_add_one,hd,List.map_append]
    simp
  have e:acc=(items.take i).map G:=e
  have hh:=h d (List.mem_of_getElem? hd) (fun e=>acc++[e]=(items.take (i+1)).map G) (by show acc++[G d]=_;rw [hs,e])
  simp only [dNoT,if_true]
  exact hh
end
mutual
theorem Qic {A B:Addr->Prop} {H:Hp}:∀ (d d':PyData) (x:V),DA A H x d->DA B H x d'->d=d'
  | .none,d',_,.non,h=>by cases h;rfl
  | .bool _,d',_,.bl _,h=>by cases h;rfl
  | .int _,d',_,.int _,h=>by cases h;rfl
  | .str _,d',_,.str _ _,h=>by cases h;rfl
  | .tuple ds,d',_,.tup (xs:=xs) n e q,h=>by
    cases h with
    | @tup a ys es n' e' q'=>
      rw [e] at e'
      cases e'
      rw [Qd5 ds es xs q q']
    | @lst a ys es n' e' q'=>rw [e] at e';cases e'
    | @dct a n' e'=>rw [e] at e';cases e'
  | .list ds,d',_,.lst (xs:=xs) n e q,h=>by
    cases h with
    | @tup a ys es n' e' q'=>rw [e] at e';cases e'
    | @lst a ys es n' e' q'=>
      rw [e] at e'
      cases e'
      rw [Qd5 ds es xs q q']
    | @dct a n' e'=>rw [e] at e';cases e'
  | .dict _,d',_,.dct n e,h=>by
    cases h with
    | @tup a ys es n' e' q'=>rw [e] at e';cases e'
    | @lst a ys es n' e' q'=>rw [e] at e';cases e'
    | @dct a n' e'=>rfl
theorem Qd5 {A B:Addr->Prop} {H:Hp}:∀ (ds es:List PyData) (xs:List V),DAs A H xs ds->DAs B H xs es->ds=es
  | [],es,_,.nil,h=>by cases h;rfl
  | d::ds,es,_,.cons q qs,h=>by
    cases h with
    | @cons x xs e es q' qs'=>rw [Qic d e _ q q',Qd5 ds es _ qs qs']
end
mutual
theorem da_off {A:Addr->Prop} {H:Hp} {l:Addr} {rs:List PyData} (root:DA A H (.ref l) (.list rs)):∀ (d:PyData) (x:V),sizeOf d<sizeOf (PyData.list rs)->DA A H x d->DA (fun a=>A a∨a=l) H x d
  | .none,_,_,.non=>.non
  | .bool _,_,_,.bl _=>.bl _
  | .int _,_,_,.int _=>.int _
  | .str _,_,_,.str _ c=>.str _ c
  | .tuple ds,_,hs,.tup (a:=a) (xs:=xs) n e q=>.tup (fun z=>z.elim n fun z=>by subst z;cases root with | @lst _ ys _ n' e' q'=>(rw [e] at e';cases e')) e (Qd6 root ds xs (by simp at hs ⊢;omega) q)
  | .list ds,_,hs,.lst (a:=a) (xs:=xs) n e q=>.lst (fun z=>z.elim n fun z=>by
      subst z
      have:=Qic _ _ _ root (.lst n e q)
      rw [this] at hs
      omega) e (Qd6 root ds xs (by simp at hs ⊢;omega) q)
  | .dict _,_,hs,.dct (a:=a) n e=>.dct (fun z=>z.elim n fun z=>by subst z;cases root with | @lst _ ys _ n' e' q'=>(rw [e] at e';cases e')) e
theorem Qd6 {A:Addr->Prop} {H:Hp} {l:Addr} {rs:List PyData} (root:DA A H (.ref l) (.list rs)):∀ (ds:List PyData) (xs:List V),sizeOf ds<sizeOf (PyData.list rs)->DAs A H xs ds->DAs (fun a=>A a∨a=l) H xs ds
  | [],_,_,.nil=>.nil
  | d::ds,_,hs,.cons q qs=>.cons (da_off root d _ (by simp at hs ⊢;omega) q) (Qd6 root ds _ (by simp at hs ⊢;omega) qs)
end
theorem DA.items {A:Addr->Prop} {H:Hp} {l:Addr} {ds:List PyData} (root:DA A H (.ref l) (.list ds)):∃ xs,H l=some (.lst xs)/\DAs (fun a=>A a∨a=l) H xs ds:=by
  have root':=root
  cases root with
  | @lst _ xs _ n e q=>exact ⟨xs,e,Qd6 root' ds xs (by simp) q⟩
structure DEnds where
  nx:Sts->Prop
  rt:PyData->Prop
  rtF:PyData->Prop
  bk:Sts->Prop
  ct:Sts->Prop
  ex:XP
abbrev DS:=DEnds->Sts->Prop
structure Nx (K:PySem.W.Frag) (F:Fm) (σ:L2.St) (H:Hp) (δ:Sts) (R:Sts->Prop) (T:L2.St->Hp->Prop):Prop where
  go:∀ δ',R δ'->∀ σ' H',Rel K F σ' H' δ'->Stp F σ H δ σ' H' δ'->T σ' H'
structure Ends1 (K:PySem.W.Frag) (E:XK) (F:Fm) (σ:L2.St) (H:Hp) (δ:Sts) (DD:DEnds) (D:Ends):Prop where
  nx:Nx K F σ H δ DD.nx D.nx
  rt:∀ d,DD.rt d->∀ v H',Ke F H'->DA F.A0 H' v d->D.rt v H'
  rtF:∀ d,DD.rtF d->∀ v H',Ke F H'->DA F.A0 H' v d->FrV F.H0 H' v->D.rt v H'
  bk:Nx K F σ H δ DD.bk D.bk
  ct:Nx K F σ H δ DD.ct D.ct
  ex:Out F E DD.ex
def tS (K:PySem.W.Frag) (E:XK) (w:DS):TS:=fun D σ H=>∃ (F:Fm) (δ:Sts) (DD:DEnds),Rel K F σ H δ/\w DD δ/\Ends1 K E F σ H δ DD D
theorem Nx.step {K:PySem.W.Frag} {F:Fm} {σ σ1:L2.St} {H H1:Hp} {δ δ1:Sts} {R:Sts->Prop} {T:L2.St->Hp->Prop} (h:Nx K F σ H δ R T) (s:Stp F σ H δ σ1 H1 δ1):Nx K F σ1 H1 δ1 R T:=⟨fun δ' hR σ' H' r st=>h.go δ' hR σ' H' r (s.trans st)⟩
theorem Ends1.step {K:PySem.W.Frag} {E:XK} {F:Fm} {σ σ1:L2.St} {H H1:Hp} {δ δ1:Sts} {DD:DEnds} {D:Ends} (h:Ends1 K E F σ H δ DD D) (s:Stp F σ H δ σ1 H1 δ1):Ends1 K E F σ1 H1 δ1 DD D:=⟨h.nx.step s,h.rt,h.rtF,h.bk.step s,h.ct.step s,h.ex⟩
section
variable {X:Cx} {E:XK}
theorem PS.imp {e:Stmt} {t t':TS} (h:PS X e t) (i:∀ D σ H,t' D σ H->t D σ H):PS X e t':=fun pins s σ H D I q=>h pins s σ H D I (i D σ H q)
theorem PSs.imp {e:List Stmt} {t t':TS} (h:PSs X e t) (i:∀ D σ H,t' D σ H->t D σ H):PSs X e t':=fun pins s σ H D I q=>h pins s σ H D I (i D σ H q)
def dSeq (a b:DS):DS:=fun D δ=>a { D with nx:=b D } δ
def dSkip:DS:=fun D δ=>D.nx δ
theorem QiZ:PSs X [] (tS X.K E dSkip):=PSs.imp Qff fun D σ H ⟨F,δ,DD,rel,hw,en⟩=>en.nx.go δ hw σ H rel Stp.refl
theorem Qlh {st:Stmt} {w:DS} (h:PS X st (tS X.K E w)):PSs X [st] (tS X.K E w):=Qbx h
theorem Qi3 {st:Stmt} {rest:List Stmt} {w w':DS} (h:PS X st (tS X.K E w)) (h':PSs X rest (tS X.K E w')):PSs X (st::rest) (tS X.K E (dSeq w w')):=by
  refine PSs.imp (QaM h h') fun D σ H ⟨F,δ,DD,rel,hw,en⟩=>?_
  exact ⟨F,δ,_,rel,hw,⟨fun δ' h' σ' H' r st=>⟨F,δ',DD,r,h',en.step st⟩⟩,en.rt,en.rtF,en.bk,en.ct,en.ex⟩
def dSet (i:Nat) (we:DE):DS:=fun D δ=>we δ (fun d=>D.nx (δ.set i (.v d))) D.ex
def dSetF (i:Nat) (we:DE):DS:=fun D δ=>we δ (fun d=>match d with
  | .list ds=>D.nx (δ.set i (.own ds))
  | _=>False) D.ex
def dSetP (i:Nat) (we:DE):DS:=fun D δ=>we δ (fun d=>match d with
  | .list [.int _]=>D.nx (δ.set i .pot)
  | _=>False) D.ex
variable {i:Nat} {e:Expr} {st:Stmt} {we wi:DE}
theorem Qhh (h:PS X st (tAsg (tX .D X.K E we) (Qdd i))):PS X st (tS X.K E (dSet i we)):=by
  refine PS.imp h fun D σ H ⟨F,δ,DD,rel,hw,en⟩=>?_
  refine ⟨F,δ,_,DD.ex,rel,hw,fun d hd v H' rel' kp vk=>?_,en.ex⟩
  exact en.nx.go _ hd _ H' (rel'.setv vk) ((Stp.kp kp).trans Stp.setv)
theorem Qkt {F:Fm} {σ:L2.St} {δ:Sts} {i:Nat} {l:Addr} {x:Sl} {a:Addr} (h:Av F (σ.set i (some (.ref l))) (δ.set i x) a):Av F σ δ a∨a=l:=by
  rcases h with h | ⟨j,h1,h2⟩
  · exact .inl (.inl h)
  · by_cases z:j=i
    · subst z
      cases set_eq h1
      exact .inr rfl
    · rw [QaS z] at h1 h2
      exact .inl (.inr ⟨j,h1,h2⟩)
theorem Rel.seto {K:PySem.W.Frag} {F:Fm} {σ:L2.St} {H H':Hp} {δ:Sts} {l:Addr} {x:Sl} (r:Rel K F σ H δ) (r':Rel K F σ H' δ) (kp:Kp σ δ H H') (n:H l=none) (hx:∀ A:Addr->Prop,(∀ a,A a->Av F σ δ a∨H a=none)->(∀ a,A a->Av F σ δ a∨a=l)->SlOk K F H' A (some (.ref l)) x) :
    Rel K F (σ.set i (some (.ref l))) H' (δ.set i x)/\Stp F σ H δ (σ.set i (some (.ref l))) H' (δ.set i x):=by
  have nA:∀ a,Av F (σ.set i (some (.ref l))) (δ.set i x) a->Av F σ δ a∨H a=none:=fun a z=>(Qkt z).elim .inl fun z=>.inr (by rw [z];exact n)
  have kk:∀ a o,¬ Av F σ δ a->H a=some o->H' a=some o:=fun a o m e=>kp.1 a o (fun z=>m (QaU z)) e
  refine ⟨?_,⟨kk,nA⟩⟩
  exact {
    len:=by rw [List.length_set,List.length_set];exact r.len
    dom:=r'.dom
    dom0:=r'.dom0
    pt0:=r'.pt0
    kx:=r'.kx
    sl:=fun j o y h1 h2=>by
      by_cases z:j=i
      · subst z
        cases set_eq h1
        cases set_eq h2
        exact hx _ nA fun a z=>Qkt z
      · rw [QaS z] at h1 h2
        have h:=r.sl j o y h1 h2
        have h':=r'.sl j o y h1 h2
        cases y with
        | no=>trivial
        | v d=>obtain ⟨v',e,q'⟩:=h;exact ⟨v',e,q'.mv kk nA⟩
        | own ds=>obtain ⟨l',xs,rfl,e2,q',f⟩:=h;exact ⟨l',xs,rfl,kp.1 _ _ (r.own_pot h2 h1) e2,q'.mv kk nA,f⟩
        | pk ds=>
          obtain ⟨l',xs,rfl,e2,q',ys,f,f2⟩:=h
          refine ⟨l',xs,rfl,kp.1 _ _ ?_ e2,q'.mv kk nA,ys,f,f2⟩
          rintro ⟨j,j1,j2⟩
          obtain ⟨p,m,e1,_,w⟩:=r.sl j _ _ j1 j2
          cases e1
          rcases w with w | w
          · exact f2 w
          · rw [w] at f;cases f
        | pot=>exact h'
        | scr=>exact h'
    inj:=fun j k a ds h1 h2 ⟨h3,h4⟩=>by
      have ne:∀ (k:Nat),k≠i->σ[k]? = some (some (.ref l))->(δ[k]? = some .pot∨∃ ds,δ[k]? = some (.own ds))->False:=fun k _ h3 h4=>by
        obtain ⟨xs,e⟩:=r.isl (a:=l) (.inr ⟨k,h3,h4⟩)
        rw [n] at e;cases e
      by_cases z:j=i
      · subst z
        cases set_eq h2
        by_cases z2:k=j
        · exact z2.symm
        · rw [QaS z2] at h3 h4
          exact (ne k z2 h3 h4).elim
      · rw [QaS z] at h1 h2
        by_cases z2:k=i
        · subst z2
          cases set_eq h3
          exact (ne j z h2 (.inr ⟨ds,h1⟩)).elim
        · rw [QaS z2] at h3 h4
          exact r.inj j k a ds h1 h2 ⟨h3,h4⟩ }
theorem QhX {K:PySem.W.Frag} {F:Fm} {σ:L2.St} {H:Hp} {δ:Sts} (r:Rel K F σ H δ) {l:Addr} (n:H l=none):F.H0 l=none:=by
  cases e:F.H0 l with
  | none=>rfl
  | some o=>
    by_cases z:F.pt l
    · obtain ⟨_,m,e'⟩:=r.pt0 l z
      rw [n] at e';cases e'
    · rw [r.kx l o z e] at n;cases n
theorem Qi1 (h:PS X st (tAsg (tX .F X.K E we) (Qdd i))):PS X st (tS X.K E (dSetF i we)):=by
  refine PS.imp h fun D σ H ⟨F,δ,DD,rel,hw,en⟩=>?_
  refine ⟨F,δ,_,DD.ex,rel,hw,fun d hd v H' rel' kp ⟨vk,fr⟩=>?_,en.ex⟩
  obtain ⟨ds,rfl⟩:∃ ds,d=.list ds:=by cases d<;>first | exact ⟨_,rfl⟩ | exact (show False from hd).elim
  obtain ⟨l,rfl⟩:∃ l,v=.ref l:=by cases vk;exact ⟨_,rfl⟩
  obtain ⟨xs,e,q⟩:=DA.items vk
  have n:=fr l rfl ⟨xs,e⟩
  obtain ⟨r2,st⟩:=rel.seto (i:=i) (x:=.own ds) rel' kp n fun A hA hB=>⟨l,xs,rfl,e,q.mv (fun _ _ _ e=>e) fun a z=>.inl (hB a z),QhX rel n⟩
  exact en.nx.go _ hd _ H' r2 st
theorem Qi0 (h:PS X st (tAsg (tX .F X.K E we) (Qdd i))):PS X st (tS X.K E (dSetP i we)):=by
  refine PS.imp h fun D σ H ⟨F,δ,DD,rel,hw,en⟩=>?_
  refine ⟨F,δ,_,DD.ex,rel,hw,fun d hd v H' rel' kp ⟨vk,fr⟩=>?_,en.ex⟩
  split at hd
  · cases vk with
    | @lst l xs ds na e q=>
      have n:=fr l rfl ⟨xs,e⟩
      cases q with
      | cons q1 q2=>
        cases q1
        cases q2
        obtain ⟨r2,st⟩:=rel.seto (i:=i) (x:=.pot) rel' kp n fun A hA hB=>⟨l,_,rfl,e,.inr (QhX rel n)⟩
        exact en.nx.go _ hd _ H' r2 st
  · exact hd.elim
def dAsg (we:DE) (wg:DG):DS:=fun D δ=>we δ (fun d=>wg d δ D.nx) D.ex
theorem Qll {ix:List Nat} {wg:DG} (h:PS X st (tAsg (tX .D X.K E we) (tG ix X.K wg))):PS X st (tS X.K E (dAsg we wg)):=by
  refine PS.imp h fun D σ H ⟨F,δ,DD,rel,hw,en⟩=>?_
  refine ⟨F,δ,_,DD.ex,rel,hw,fun d hd v H' rel' kp vk=>?_,en.ex⟩
  exact ⟨F,δ,d,_,rel',vk,hd,fun δ' h' σ' r' st' _ _=>en.nx.go _ h' _ H' r' ((Stp.kp kp).trans st')⟩
def dPar (i j:Nat) (wa:DAr):DS:=fun D δ=>wa δ (fun ds=>match ds with
  | [a,b]=>D.nx ((δ.set i (.v a)).set j (.v b))
  | _=>False) D.ex
theorem Qlg {n i j:Nat} {wa:DAr} (h:PS X st (tPar i j (tAr n .D X.K E wa))):PS X st (tS X.K E (dPar i j wa)):=by
  refine PS.imp h fun D σ H ⟨F,δ,DD,rel,hw,en⟩=>?_
  refine ⟨F,δ,_,DD.ex,rel,hw,fun ds hds _ vs H' rel' kp q=>?_,en.ex⟩
  split at hds
  · cases q with
    | cons q1 q2=>cases q2 with
      | cons q2 q3=>
        cases q3
        refine ⟨_,_,rfl,en.nx.go _ hds _ H' ((rel'.setv q1).setv (DA.mv q2 (fun _ _ _ e=>e) fun a z=>.inl (QcA z))) (((Stp.kp kp).trans Stp.setv).trans Stp.setv)⟩
  · exact hds.elim
def dRet (we:DE):DS:=fun D δ=>we δ D.rt D.ex
def dRetF (we:DE):DS:=fun D δ=>we δ D.rtF D.ex
theorem da_a0 {F:Fm} {σ:L2.St} {δ:Sts} {H:Hp} {v:V} {d:PyData} (h:DA (Av F σ δ) H v d):DA F.A0 H v d:=h.mv (fun _ _ _ e=>e) fun a z=>.inl (.inl z)
theorem Qle {e:Expr} {pos:Pos} (h:PE X e (tX .D X.K E we)):PS X (.Return (some e) pos) (tS X.K E (dRet we)):=by
  refine PS.imp (Qcx h) fun D σ H ⟨F,δ,DD,rel,hw,en⟩=>?_
  exact ⟨F,δ,_,DD.ex,rel,hw,fun d hd v H' rel' kp vk=>en.rt d hd v H' rel'.ke (da_a0 vk),en.ex⟩
theorem Qi2 {e:Expr} {pos:Pos} (h:PE X e (tX .F X.K E we)):PS X (.Return (some e) pos) (tS X.K E (dRetF we)):=by
  refine PS.imp (Qcx h) fun D σ H ⟨F,δ,DD,rel,hw,en⟩=>?_
  exact ⟨F,δ,_,DD.ex,rel,hw,fun d hd v H' rel' kp vk=>en.rtF d hd v H' rel'.ke (da_a0 vk.1) fun l e1 e2=>QhX rel (vk.2 l e1 e2),en.ex⟩
def dRetO (i:Nat):DS:=fun D δ=>match δ[i]? with
  | some (.own ds)=>D.rtF (.list ds)
  | some (.v d)=>D.rt d
  | _=>False
def dIf (t:DT) (a b:DS):DS:=fun D δ=>t δ (fun c=>if c=true then a D δ else b D δ) D.ex
theorem pds_if {c:Expr} {a b:List Stmt} {pos:Pos} {t:DT} {w w':DS} (hc:PT X c (tT X.K E t)) (ha:PSs X a (tS X.K E w)) (hb:PSs X b (tS X.K E w')):PS X (.If c a b pos) (tS X.K E (dIf t w w')):=by
  refine PS.imp (QkY hc ha hb) fun D σ H ⟨F,δ,DD,rel,hw,en⟩=>?_
  exact ⟨F,δ,_,DD.ex,rel,hw,fun b hb H' rel' kp=>Qc5 hb (fun z=>⟨F,δ,DD,rel',z,en.step (Stp.kp kp)⟩) fun z=>⟨F,δ,DD,rel',z,en.step (Stp.kp kp)⟩,en.ex⟩
theorem PIp.len {op:Operator} {t:TIp} (h:PIp X op t):PIp X op (fun x y H Q=>QbY H->t x y H Q):=fun pins s σ H x y v u Q I rx ry q=>h pins s σ H x y v u Q I rx ry (q (Inv.lens I))
theorem Rel.mut {K:PySem.W.Frag} {F:Fm} {σ:L2.St} {H:Hp} {δ:Sts} (r:Rel K F σ H δ) {l:Addr} {ds ds':List PyData} {ys:List V} (h:δ[i]? = some (.own ds)) (hx:σ[i]? = some (some (.ref l))) (q:DAs (Av F σ δ) H ys ds') :
    Rel K F σ (upd H l (.lst ys)) (δ.set i (.own ds'))/\Stp F σ H δ σ (upd H l (.lst ys)) (δ.set i (.own ds')):=by
  have hl:Av F σ δ l:=.inr ⟨i,hx,.inr ⟨ds,h⟩⟩
  obtain ⟨l',xs0,e0,el,_,f⟩:=r.sl i _ _ hx h
  cases e0
  have lt:i < δ.length:=(List.getElem?_eq_some_iff.mp h).1
  have ge:(δ.set i (.own ds'))[i]? = some (.own ds'):=by rw [List.getElem?_set_self lt]
  have kk:∀ a o,¬ Av F σ δ a->H a=some o->upd H l (.lst ys) a=some o:=fun a o n e=>by rw [Qai (fun z=>n (by rw [z];exact hl))];exact e
  have av:∀ a,Av F σ (δ.set i (.own ds')) a->Av F σ δ a:=fun a z=>by
    rcases z with z | ⟨j,h1,h2⟩
    · exact .inl z
    · by_cases z:j=i
      · subst z;exact .inr ⟨j,h1,.inr ⟨ds,h⟩⟩
      · rw [QaS z] at h2;exact .inr ⟨j,h1,h2⟩
  have up:∀ {b:Addr} {o:HO},b≠l->H b=some o->upd H l (.lst ys) b=some o:=fun n e=>by rw [Qai n];exact e
  refine ⟨?_,⟨kk,fun a z=>.inl (av a z)⟩⟩
  exact {
    len:=by rw [List.length_set];exact r.len
    dom:=fun a ha=>by
      by_cases z:a=l
      · rw [z];exact ⟨_,Qad⟩
      · obtain ⟨xs,e⟩:=r.dom a ha;exact ⟨xs,up z e⟩
    dom0:=r.dom0
    pt0:=fun p hp=>by
      obtain ⟨h1,n,e⟩:=r.pt0 p hp
      refine ⟨h1,n,up (fun z=>?_) e⟩
      obtain ⟨xs,e'⟩:=r.dom0 p h1
      rw [z,f] at e';cases e'
    kx:=fun b o n e=>up (fun z=>by rw [z,f] at e;cases e) (r.kx b o n e)
    sl:=fun j o y h1 h2=>by
      by_cases z:j=i
      · subst z
        rw [ge] at h2
        cases h2
        rw [hx] at h1
        cases h1
        exact ⟨l,ys,rfl,Qad,q.mv kk fun a z=>.inl (av a z),f⟩
      · rw [QaS z] at h2
        have hh:=r.sl j o y h1 h2
        cases y with
        | no=>trivial
        | v d=>obtain ⟨v',e,q'⟩:=hh;exact ⟨v',e,q'.mv kk fun a z=>.inl (av a z)⟩
        | own es=>
          obtain ⟨l',xs,rfl,e2,q',f'⟩:=hh
          exact ⟨l',xs,rfl,up (fun z2=>z (r.inj j i l' es h2 h1 ⟨by rw [z2];exact hx,.inr ⟨ds,h⟩⟩)) e2,q'.mv kk fun a z=>.inl (av a z),f'⟩
        | pk es=>
          obtain ⟨l',xs,rfl,e2,q',ys',f',f2⟩:=hh
          exact ⟨l',xs,rfl,up (fun z2=>by rw [z2,f] at f';cases f') e2,q'.mv kk fun a z=>.inl (av a z),ys',f',f2⟩
        | pot=>
          obtain ⟨p,n,rfl,e2,w⟩:=hh
          refine ⟨p,n,rfl,up (fun z2=>?_) e2,w⟩
          subst z2
          exact r.own_pot h hx ⟨j,h1,h2⟩
        | scr=>exact hh
    inj:=fun j k a es h1 h2 ⟨h3,h4⟩=>by
      have h4':δ[k]? = some .pot∨∃ ds,δ[k]? = some (.own ds):=by
        by_cases z:k=i
        · subst z;exact .inr ⟨ds,h⟩
        · rw [QaS z] at h4;exact h4
      by_cases z:j=i
      · subst z;exact r.inj j k a ds h h2 ⟨h3,h4'⟩
      · rw [QaS z] at h1;exact r.inj j k a es h1 h2 ⟨h3,h4'⟩ }
def dApp (i:Nat) (we:DE):DS:=fun D δ=>match δ[i]? with
  | some (.own ds)=>we δ (fun d=>ds.length<1000000/\D.nx (δ.set i (.own (ds++[d])))) D.ex
  | _=>False
def dExt (i:Nat) (we:DE):DS:=fun D δ=>match δ[i]? with
  | some (.own ds)=>we δ (fun d=>match d with
    | .list es=>ds.length+es.length<=1000000/\D.nx (δ.set i (.own (ds++es)))
    | _=>False) D.ex
  | _=>False
theorem Qlk (h:PS X st (tDrop (tBM X.K "list" Qg5 (tVar i) (QdC (tX .P X.K E we) tNil)))):PS X st (tS X.K E (dExt i we)):=by
  refine PS.imp h fun D σ H ⟨F,δ,DD,rel,hw,en⟩=>?_
  unfold dExt at hw
  split at hw
  · rename_i ds hd
    obtain ⟨x,hx⟩:=rel.lt hd
    obtain ⟨l,xs,rfl,e,q,f⟩:=rel.sl i _ _ hx hd
    have np:=rel.own_pot hd hx
    refine ⟨.ref l,hx,.inl ⟨rfl,_,SqL.of e⟩,F,δ,_,DD.ex,rel,hw,fun d hd2 v H' rel' kp vk=>?_,en.ex⟩
    cases d<;>first | exact (show False from hd2).elim | skip
    obtain ⟨hl,hn⟩:=hd2
    obtain ⟨l2,ys,rfl,e2,q2⟩:=DP.list vk
    have q':=kp.das q
    refine ⟨l,l2,xs,ys,rfl,rfl,kp.1 _ _ np e,e2,Nat.le_trans (by rw [q.length,q2.length];exact hl) QhJ,?_⟩
    obtain ⟨r2,st⟩:=rel'.mut hd hx (q'.app q2)
    exact en.nx.go _ hn _ _ r2 ((Stp.kp kp).trans st)
  · exact hw.elim
@[irreducible] def ForR (items:List PyData) (wg:DG) (wb:DS) (D:DEnds) (δ:Sts):Prop:=∃ Iv:Nat->Sts->Prop,Iv 0 δ/\(∀ (i:Nat) d δ,items[i]? = some d->Iv i δ->wg d δ fun δ2=>wb { D with nx:=Iv (i+1),ct:=Iv (i+1),bk:=D.nx } δ2)/\∀ δ,Iv items.length δ->D.nx δ
def dFor (wi:DI) (wg:DG) (wb:DS):DS:=fun D δ=>wi δ (fun items=>ForR items wg wb D δ) D.ex
theorem Qlj {tg iter:Expr} {body:List Stmt} {pos:Pos} {ix:List Nat} {wi:DI} {wg:DG} {wb:DS} (hp:PassesOwn (model X.prog X.w) X.A X.env X.xe) (hc:X.calm=true) (hi:PI X tg iter (tI .D X.K E wi)) (hg:PG X tg (tG ix X.K wg)) (hb:PSs X body (tS X.K E wb))
    (hs:∀ x,foldedSetIterable iter X.env x=pure x:=by intro _;rfl):PS X (.For tg iter body [] pos) (tS X.K E (dFor wi wg wb)):=by
  refine PS.imp (Qj2 hp hc hi hg hb hs) fun D σ H ⟨F,δ,DD,rel,hw,en⟩=>?_
  refine ⟨F,δ,_,DD.ex,rel,hw,fun items hC J H1 rel1 kp1 ⟨ln,it⟩=>?_,en.ex⟩
  unfold ForR at hC
  obtain ⟨Iv,i0,step,fin⟩:=hC
  have en1:=en.step (Stp.kp (F:=F) kp1)
  refine ⟨fun i m σ' H'=>m=items.length - i/\i<=items.length/\∃ δ',Iv i δ'/\Rel X.K F σ' H' δ'/\Stp F σ H1 δ σ' H' δ',⟨_,rfl,Nat.zero_le _,δ,i0,rel1,Stp.refl⟩,?_⟩
  rintro i m σ' H' ⟨rfl,hi',δ',iv,r',st'⟩
  obtain ⟨go,stop⟩:=it H' (Av F σ' δ') st'.1 st'.2 fun a ha=>r'.isl ha
  by_cases hlt:i<items.length
  · have hd:items[i]? = some items[i]:=List.getElem?_eq_getElem hlt
    obtain ⟨g1,g2⟩:=go i _ hd
    refine .inr ⟨g1,fun σ2 H2=>∃ δ2,Iv (i+1) δ2/\Rel X.K F σ2 H2 δ2/\Stp F σ H1 δ σ2 H2 δ2,fun σ2 H2 ⟨δ2,h2,r2,s2⟩=>⟨_,by omega,rfl,hlt,δ2,h2,r2,s2⟩,fun x H3 y=>?_⟩
    obtain ⟨s3,dx⟩:=g2 x H3 y
    have r3:=r'.same s3
    have st3:Stp F σ H1 δ σ' H3 δ':=st'.trans (Stp.kp (Kp.same r' s3))
    refine ⟨F,δ',_,_,r3,dx,step i _ δ' hd iv,fun δ4 h4 σ4 r4 st4 _ _=>⟨F,δ4,_,r4,h4,?_⟩⟩
    have st5:=st3.trans st4
    exact ⟨⟨fun δ6 h6 σ6 H6 r6 s6=>⟨δ6,h6,r6,st5.trans s6⟩⟩,en.rt,en.rtF,(en1.step st5).nx,⟨fun δ6 h6 σ6 H6 r6 s6=>⟨δ6,h6,r6,st5.trans s6⟩⟩,en.ex⟩
  · have e:i=items.length:=by omega
    subst e
    exact .inl ⟨stop,(en1.step st').nx.go δ' (fin δ' iv) σ' H' r' Stp.refl⟩
theorem Qh0 {lo:Int} {n:Nat} {wg:DG} {wb:DS} {D:DEnds} {δ:Sts} (Iv:Nat->Sts->Prop) (h0:Iv 0 δ)
    (hs:∀ (i:Nat) δ,i<n->Iv i δ->wg (.int (lo+i)) δ fun δ2=>wb { D with nx:=Iv (i+1),ct:=Iv (i+1),bk:=D.nx } δ2) (hd:∀ δ,Iv n δ->D.nx δ):ForR (rngD lo n) wg wb D δ:=by
  unfold ForR
  exact ⟨Iv,h0,fun i d δ hd iv=>by obtain ⟨hi,rfl⟩:=Qfa hd;exact hs i δ hi iv,fun δ iv=>hd δ (by rw [QdN] at iv;exact iv)⟩
theorem Qc6 {items:List PyData} {wg:DG} {wb:DS} {D:DEnds} {δ:Sts} (Iv:Nat->Sts->Prop) (h0:Iv 0 δ)
    (hs:∀ (i:Nat) d δ,items[i]? = some d->Iv i δ->wg d δ fun δ2=>wb { D with nx:=Iv (i+1),ct:=Iv (i+1),bk:=D.nx } δ2) (hd:∀ δ,Iv items.length δ->D.nx δ):ForR items wg wb D δ:=by
  unfold ForR
  exact ⟨Iv,h0,hs,hd⟩
end
def stD (N:List Str) (args:List Sl):Sts:=args++List.replicate (N.length - args.length) .no
theorem Qdn {α β:Type} {R:α->β->Prop}:∀ {xs:List α} {ys:List β},Paired R xs ys->∀ (i:Nat) x y,xs[i]? = some x->ys[i]? = some y->R x y
  | _,_,.nil,i,x,y,h,_=>by simp at h
  | _,_,.cons a b,0,x,y,h,h'=>by simp at h h';subst h h';exact a
  | _,_,.cons a b,i+1,x,y,h,h'=>Qdn b i x y (by simpa using h) (by simpa using h')
theorem QgL {K:PySem.W.Frag} {N:List Str} {A pt:Addr->Prop} {H:Hp} {vs:List V} {args:List Sl} (dm:∀ a,A a->∃ xs,H a=some (.lst xs)) (hp:∀ p,pt p->A p/\∃ n,H p=some (.lst [.int n])) (q:Paired (QgE A pt H) vs args):Rel K ⟨H,A,pt⟩ (L2.start N vs) H (stD N args):=by
  have hl:vs.length=args.length:=q.length
  have no:∀ (i:Nat) x,(stD N args)[i]? = some x->(i<args.length/\args[i]? = some x)∨x=.no:=fun i x h=>by
    unfold stD at h
    by_cases z:i<args.length
    · rw [List.getElem?_append_left z] at h;exact .inl ⟨z,h⟩
    · rw [List.getElem?_append_right (by omega),List.getElem?_replicate] at h
      split at h
      · exact .inr (Option.some.inj h).symm
      · cases h
  have arg:∀ (i:Nat) o x,(L2.start N vs)[i]? = some o->(stD N args)[i]? = some x->x≠.no->∃ v,o=some v/\QgE A pt H v x:=fun i o x h1 h2 hx=>by
    rcases no i x h2 with ⟨z,e⟩ | e
    · unfold L2.start at h1
      rw [List.getElem?_append_left (by rw [List.length_map];omega),List.getElem?_map] at h1
      obtain ⟨v,hv,rfl⟩:=Option.map_eq_some_iff.mp h1
      exact ⟨v,rfl,Qdn q i v x hv e⟩
    · exact absurd e hx
  have av:∀ a,Av ⟨H,A,pt⟩ (L2.start N vs) (stD N args) a->A a:=fun a z=>by
    rcases z with z | ⟨i,h1,h2⟩
    · exact z
    · rcases h2 with h2 | ⟨ds,h2⟩
      · obtain ⟨v,e,p,rfl,hp'⟩:=arg i _ _ h1 h2 (fun z=>by cases z)
        cases e
        exact (hp _ hp').1
      · obtain ⟨v,e,hh⟩:=arg i _ _ h1 h2 (fun z=>by cases z)
        exact hh.elim
  exact {
    len:=by unfold L2.start stD;rw [List.length_append,List.length_append,List.length_map,List.length_replicate,List.length_replicate,hl]
    dom:=dm
    dom0:=dm
    pt0:=hp
    kx:=fun _ _ _ e=>e
    sl:=fun i o x h1 h2=>by
      cases x with
      | no=>trivial
      | v d=>
        obtain ⟨v,e,hh⟩:=arg i _ _ h1 h2 (fun z=>by cases z)
        exact ⟨v,e,DA.mv hh (fun _ _ _ e=>e) fun a z=>.inl (av a z)⟩
      | pot=>
        obtain ⟨v,e,p,rfl,hp'⟩:=arg i _ _ h1 h2 (fun z=>by cases z)
        obtain ⟨_,n,en⟩:=hp p hp'
        exact ⟨p,n,e,en,.inl hp'⟩
      | own ds=>obtain ⟨v,e,hh⟩:=arg i _ _ h1 h2 (fun z=>by cases z);exact hh.elim
      | pk ds=>obtain ⟨v,e,hh⟩:=arg i _ _ h1 h2 (fun z=>by cases z);exact hh.elim
      | scr=>obtain ⟨v,e,hh⟩:=arg i _ _ h1 h2 (fun z=>by cases z);exact hh.elim
    inj:=fun i j a ds h1 h2 _=>by
      obtain ⟨v,e,hh⟩:=arg i _ _ h2 h1 (fun z=>by cases z)
      exact hh.elim }
def notL:PyData->Bool
  | .list _=>false
  | _=>true
def rtD:Bool->(PyData->Prop)->PyData->Prop
  | true,R,d=>notL d=true/\R d
  | false,R,d=>R d
def QlU (fr:Bool) (R:PyData->Prop) (EX:XP):DEnds:=⟨fun _=>R .none,rtD fr R,R,fun _=>False,fun _=>False,EX⟩
theorem QlT {K:PySem.W.Frag} {E Ex:XK} {fr:Bool} {A pt:Addr->Prop} {H:Hp} {R:PyData->Prop} {EX EX':XP} {Q:VK} {σ:L2.St} {δ:Sts} (k:∀ d,R d->∀ v H',Kq pt H H'->DA A H' v d->(fr=true->FrV H H' v)->Q v H') (o:Out ⟨H,A,pt⟩ E EX') :
    Ends1 K E ⟨H,A,pt⟩ σ H δ (QlU fr R EX') { nx:=fun _ H'=>Q .non H',rt:=Q } where
  nx:=⟨fun δ' hR σ' H' r st=>k _ hR _ H' r.ke .non fun _=>QlS⟩
  rt:=fun d h v H' ke dv=>by
    cases fr with
    | false=>exact k d h v H' ke dv fun z=>by cases z
    | true=>
      obtain ⟨h1,h2⟩:=h
      refine k d h2 v H' ke dv fun z l e1 ⟨xs,e2⟩=>?_
      subst e1
      cases dv with
      | @tup a ys ds n e q=>rw [e] at e2;cases e2
      | @lst a ys ds n e q=>cases h1
      | @dct a n e=>rw [e] at e2;cases e2
  rtF:=fun d h v H' ke dv fr'=>k d h v H' ke dv fun _=>fr'
  bk:=⟨fun _ h=>h.elim⟩
  ct:=⟨fun _ h=>h.elim⟩
  ex:=o
section
variable {P:Program} {w:World} {K:PySem.W.Frag} {mg:Str->Option Value} {base:Heap}
theorem okD {x qual:Str} {st:Stmt} {f:Addr} {fd:FuncData} {N ps:List Str} {k:Nat} {fD:DF} (fr:Bool) (F:Fun K x qual st f fd) (S:FnScope N ps (Qaa st)) (len:∀ args R EX,fD args R EX->args.length=ps.length)
    (hbody:∀ (cdv:Value) (A:Around) (outer:List Env) (s:Shared) (H:Hp) (E:XK),Room k (A.deeper (envOfC qual (Qaa st) s.heap.objs.size f cdv)) ->
      ∃ wd,PSs (cxOf CX0 P w K mg base N qual (Qaa st) f cdv A outer s H E).nox (Qal st) (tS K E0 wd)/\∀ args R EX,fD args R EX->wd (QlU fr R XF) (stD N args)):FnOk P w K mg base CX0 (k+1) f fd ps (toSp fr fD):=by
  refine F.ok S (fun vs H Q E h=>?_) fun cdv A outer s H vs Q E hr h=>?_
  · obtain ⟨A,pt,args,R,EX,_,_,q,h,_⟩:=h
    rw [q.length];exact len _ _ _ h
  · obtain ⟨wd,hp,hw⟩:=hbody cdv A outer s H E hr
    obtain ⟨A',pt,args,R,EX,dm,hpt,q,h,k,_⟩:=h
    exact ⟨_,hp,⟨H,A',pt⟩,_,_,QgL dm hpt q,hw args R EX h,QlT (Ex:=E) (EX:=EX) k outF⟩
end
end Dl
namespace L2
open PySem PySem.Spec PyProof.Rows
def CDivC (i j:Int):Prop:=0<j/\j<=10^40
theorem Qjd {X:Cx}:OpR X (binaryOp .FloorDiv) (rI CDivC fun i j=>.int (i / j)):=opI fun i j _ _ _ _ _ hc q=>by
  have h1:(0:Int)<j:=hc.1
  have h2:j<=10^40:=hc.2
  refine floordiv_int (by omega) (by rw [Int.fdiv_eq_ediv_of_nonneg i (by omega)];exact q) (.inl (PyProof.noPylong_of_log2 ?_))
  have h3:j.natAbs<2^200:=by
    have:(10:Int)^40<2^200:=by decide
    omega
  have:=(Nat.log2_lt (by omega:j.natAbs≠0)).mpr h3
  omega
end L2
namespace Rk
open PySem PySem.Spec PyProof.Rows L2 _root_.Rd
def QdF:Sp:=fun vs H Q _=>∃ p n f,vs=[.ref p,.int f]/\H p=some (.lst [.int n])/\0<f/\f<=10^40/\∀ r m,0<=r->r<f->Q (.int r) (upd H p (.lst [.int m]))
end Rk
namespace Dl
open PySem PySem.Spec PyProof.Rows L2 _root_.Rd Rk
theorem QaI {X:Cx} {E:XK}:QcB CX0 X E:=fun _ _ _ _ _ _ _ h=>h.elim
theorem Room.u60 {k:Nat} {A:Around} (r:Room k A):A.units+60<cLine:=by have:=r.un;omega
theorem Room.i60 {k:Nat} {A:Around} (r:Room k A):A.in1.units+60<cLine:=by
  have:=r.un
  show A.units+1+60<cLine
  omega
section
variable {X:Cx} {E:XK} {CX:CXT} {k:Nat} {f:Addr} {fd:FuncData} {ps:List Str} {x:Str} {p pos:Pos} {e:Expr} {es:List Expr} {fD:DF}
def takeD:DF:=fun args R _=>∃ f,args=[.pot,.v (.int f)]/\0<f/\f<=10^40/\∀ r,0<=r->r<f->R (.int r)
theorem take_d {vs:List V} {H:Hp} {Q:VK} {Ex:XK} (h:toSp true takeD vs H Q Ex):QdF vs H Q Ex:=by
  obtain ⟨A,pt,args,R,EX,dm,hp,q,⟨f,rfl,f0,f1,hR⟩,k,_⟩:=h
  cases q with
  | cons q1 q2=>cases q2 with
    | cons q2 q3=>
      cases q3
      obtain ⟨p,rfl,pp⟩:=q1
      cases q2
      obtain ⟨_,n,e⟩:=hp p pp
      refine ⟨p,n,f,rfl,e,f0,f1,fun r m r0 r1=>k _ (hR r r0 r1) _ _ ⟨fun b o nb eb=>?_,fun z hz=>?_⟩ (.int _) fun _=>Qa2⟩
      · rw [Qai (fun z=>nb (by rw [z];exact pp))];exact eb
      · by_cases y:z=p
        · rw [y];exact ⟨m,Qad⟩
        · obtain ⟨_,n',e'⟩:=hp z hz
          exact ⟨n',by rw [Qai y];exact e'⟩
def potD:DF:=fun args R _=>∃ c,args=[.v (.int c)]/\∀ n,R (.list [.int n])
theorem pot_d {vs:List V} {H:Hp} {Q:VK} {Ex:XK} (h:toSp true potD vs H Q Ex):spPot vs H Q Ex:=by
  obtain ⟨A,pt,args,R,EX,dm,hp,q,⟨c,rfl,hR⟩,k,_⟩:=h
  cases q with
  | cons q1 q2=>
    cases q2
    cases q1
    refine ⟨c,rfl,fun p n hn=>k _ (hR n) _ _ ⟨fun b o _ eb=>Qae hn b o eb,fun z hz=>?_⟩ (.lst (fun z=>?_) Qad (.cons (.int _) .nil)) fun _=>Qbc hn⟩
    · obtain ⟨_,n',e'⟩:=hp z hz
      exact ⟨n',Qae hn _ _ e'⟩
    · obtain ⟨xs,e⟩:=dm p z
      rw [hn] at e;cases e
def isW:PyData->Bool
  | .int _=>true
  | _=>false
def wholeD:DF:=fun args R _=>∃ d,args=[.v d]/\R (.bool (isW d))
theorem QgW {K:PySem.W.Frag} {F:Fm} {σ:L2.St} {H:Hp} {δ:Sts} (r:Rel K F σ H δ) {a:Addr} {xs:List V} (h:SqL K F.H0 a xs) (n:¬ F.pt a):SqL K H a xs:=by
  rcases h with h | h
  · rcases h with h | ⟨o,h⟩
    · exact .inl (.inl (r.kx _ _ n h))
    · exact .inl (.inr ⟨o,r.kx _ _ n h⟩)
  · exact .inr h
def QlX (i:Nat):DE:=fun δ Q _=>match δ[i]? with
  | some .scr=>∀ n:Nat,n<=63->Q (.int n)
  | _=>False
theorem Qlp {i:Nat} {a:Expr} (hg:Gl X "len") (hm:X.mg "len" = none) (h:PE X a (tVar i)) (hs:notStar a=true:=by rfl):PE X (.Call (.Name "len" p) [a] [] pos) (tX .F X.K E (QlX i)):=by
  refine PE.imp (QbF Qba hg hm Qbo (pa_c h Qaw hs) (he:=by rw [QaQ hs])) fun σ H Q ⟨F,δ,R,EX,rel,hw,k,o⟩=>?_
  unfold QlX at hw
  split at hw
  · rename_i hd
    obtain ⟨x,hx⟩:=rel.lt hd
    obtain ⟨l,ns,rfl,sq,np,n63⟩:=rel.sl i _ _ hx hd
    refine ⟨_,hx,l,_,rfl,.inl (QgW rel sq np),?_⟩
    rw [List.length_map]
    exact k _ (hw _ n63) _ H rel (Kp.refl rel) ⟨.int _,Qa2⟩
  · exact hw.elim
def QlY (i:Nat) (wb:DE):DE:=fun δ Q EX=>match δ[i]? with
  | some .scr=>wb δ (fun d=>match d with
    | .int k=>0<=k/\∀ c,Q (.int c)
    | _=>False) EX
  | _=>False
theorem Qls {i:Nat} {a b:Expr} {wb:DE} (G:FnOk X.prog X.w X.K X.mg X.base CX0 k f fd ps (Qb1 X.K)) (hr:Room k X.A) (hg:Gl X x) (hm:X.mg x=some (.ref f)) (hk:PySem.W.keepIn X.K (.ref f)=true) (hb:Binds X.K fd ps [])
    (ha:PE X a (tVar i)) (h:PE X b (tX .P X.K E wb)) (h1:notStar a=true:=by rfl) (h2:notStar b=true:=by rfl) (hdb:(x == ("__debug__" : Str))=false:=by decide) :
    PE X (.Call (.Name x p) [a,b] [] pos) (tX .F X.K E (QlY i wb)):=by
  refine PE.imp (QdU (E:=E) G hr hg hm hk hb .nil QaI (pa_c ha (pa_c h Qaw h2) h1) hdb (QaQ h1) (by rw [QaQ h2];rfl)) fun σ H Q ⟨F,δ,R,EX,rel,hw,k,o⟩=>?_
  unfold QlY at hw
  split at hw
  · rename_i hd
    obtain ⟨x,hx⟩:=rel.lt hd
    obtain ⟨l,ns,rfl,sq,np,n63⟩:=rel.sl i _ _ hx hd
    refine ⟨_,hx,F,δ,_,EX,rel,hw,fun d hd2 v H' rel' kp vk=>?_,o⟩
    cases d<;>first | exact (show False from hd2).elim | skip
    rw [DP.int vk]
    exact ⟨l,ns,_,rfl,QgW rel' sq np,Nat.lt_of_le_of_lt n63 (by decide),hd2.1,fun c=>k _ (hd2.2 c) _ H' rel' kp ⟨.int _,Qa2⟩⟩
  · exact hw.elim
end
section
variable {P:Program} {w:World} {K:PySem.W.Frag} {mg:Str->Option Value} {base:Heap}
def spLawD (K:PySem.W.Frag):Sp:=fun vs H Q _=>∃ (a:Addr) (ns:List Int),vs=[.ref a]/\SqL K H a (ns.map V.int)/\ns.length<=63/\∀ H',Q (.bl true) H'
def endsL:DEnds:=⟨fun _=>False,fun d=>d=.bool true,fun d=>d=.bool true,fun _=>False,fun _=>False,XF⟩
theorem okLaw {x qual:Str} {st:Stmt} {f:Addr} {fd:FuncData} {N:List Str} {p:Str} {k:Nat} (F:Fun K x qual st f fd) (S:FnScope N [p] (Qaa st))
    (hbody:∀ (cdv:Value) (A:Around) (outer:List Env) (s:Shared) (H:Hp) (E:XK),Room k (A.deeper (envOfC qual (Qaa st) s.heap.objs.size f cdv)) ->
      ∃ wd,PSs (cxOf CX0 P w K mg base N qual (Qaa st) f cdv A outer s H E).nox (Qal st) (tS K E0 wd)/\wd endsL (stD N [.scr])):FnOk P w K mg base CX0 (k+1) f fd [p] (spLawD K):=by
  refine F.ok S (fun vs H Q E h=>?_) fun cdv A outer s H vs Q E hr h=>?_
  · obtain ⟨a,ns,rfl,_⟩:=h
    rfl
  · obtain ⟨wd,hp,hw⟩:=hbody cdv A outer s H E hr
    obtain ⟨a,ns,rfl,sq,n63,k⟩:=h
    have get0:∀ (i:Nat) o y,(L2.start N [V.ref a])[i]? = some o->(stD N [.scr])[i]? = some y->y≠.no->o=some (.ref a)/\y=.scr:=fun i o y h1 h2 hy=>by
      cases i with
      | zero=>cases h1;cases h2;exact ⟨rfl,rfl⟩
      | succ i=>
        unfold stD at h2
        rw [List.getElem?_append_right (by simp),List.getElem?_replicate] at h2
        split at h2
        · exact absurd (Option.some.inj h2).symm hy
        · cases h2
    have noav:∀ b,¬ Av (⟨H,fun _=>False,fun _=>False⟩:Fm) (L2.start N [V.ref a]) (stD N [.scr]) b:=fun b z=>by
      rcases z with z | ⟨i,h1,h2⟩
      · exact z
      · rcases h2 with h2 | ⟨ds,h2⟩
        · cases (get0 i _ _ h1 h2 (fun z=>by cases z)).2
        · cases (get0 i _ _ h1 h2 (fun z=>by cases z)).2
    refine ⟨_,hp,⟨H,fun _=>False,fun _=>False⟩,_,_,?_,hw,?_⟩
    · exact {
        len:=by unfold L2.start stD;simp
        dom:=fun _ h=>h.elim
        dom0:=fun _ h=>h.elim
        pt0:=fun _ h=>h.elim
        kx:=fun _ _ _ e=>e
        sl:=fun i o y h1 h2=>by
          cases y with
          | no=>trivial
          | scr=>
            obtain ⟨rfl,_⟩:=get0 i _ _ h1 h2 (fun z=>by cases z)
            exact ⟨a,ns,rfl,sq,fun z=>z,n63⟩
          | v d=>cases (get0 i _ _ h1 h2 (fun z=>by cases z)).2
          | own d=>cases (get0 i _ _ h1 h2 (fun z=>by cases z)).2
          | pk d=>cases (get0 i _ _ h1 h2 (fun z=>by cases z)).2
          | pot=>cases (get0 i _ _ h1 h2 (fun z=>by cases z)).2
        inj:=fun i j b ds h1 h2 _=>by cases (get0 i _ _ h2 h1 (fun z=>by cases z)).2 }
    · exact {
        nx:=⟨fun _ h=>h.elim⟩
        rt:=fun d h v H' ke dv=>by cases (show d=.bool true from h);cases dv;exact k H'
        rtF:=fun d h v H' ke dv _=>by cases (show d=.bool true from h);cases dv;exact k H'
        bk:=⟨fun _ h=>h.elim⟩
        ct:=⟨fun _ h=>h.elim⟩
        ex:=outF }
end
theorem QdA {α:Type} {p:α->Prop}:∀ x∈([]:List α),p x:=fun _ h=>nomatch h
theorem Qaj {α:Type} {p:α->Prop} {a:α} {l:List α} (h:p a) (t:∀ x∈l,p x):∀ x∈a::l,p x:=fun x hx=>by
  rcases List.mem_cons.mp hx with z | z
  · rw [z];exact h
  · exact t x z
theorem and_if {b c:Bool} {R:PyData->Prop} (h:R (.bool (b&&c))):if b=true then R (.bool c) else R (.bool false):=by
  cases b
  · exact iteF h
  · exact iteT h
theorem ifF {c:Bool} {A B:Prop} (h:c=false) (k:B):if c=true then A else B:=by subst h;exact k
theorem ifC {c:Bool} {A B:Prop} (t:c=true->A) (f:c=false->B):if c=true then A else B:=by
  cases c
  · exact f rfl
  · exact t rfl
theorem all_map {α:Type} (l:List α) (g:α->Bool):(l.map g).all id=l.all g:=by
  rw [List.all_map];rfl
theorem Qix {ds:List PyData} {Q:PyData->Prop} {g:PyData->Bool} {items:List PyData} (h:ds=[.list (items.map fun d=>.bool (g d))]) (q:Q (.bool (items.all g))):allD ds Q:=by
  subst h
  unfold allD
  refine ⟨items.map g,?_,by rw [all_map];exact q⟩
  rw [show items.map (fun d=>PyData.bool (g d))=(items.map g).map PyData.bool by rw [List.map_map];rfl,Qip]
end Dl
namespace L2
open PySem PySem.Spec PyProof.Rows
section
variable {X:Cx}
end
end L2
namespace Dl
open PySem PySem.Spec PyProof.Rows L2 _root_.Rd Rk
section
variable {X:Cx} {E:XK}
def revLD (d:PyData) (Q:PyData->Prop):Prop:=
  match d with
  | .list ds=>Q (.list ds.reverse)
  | _=>False
def dRevL (we ws:DE):DE:=fun δ Q EX=>we δ (fun d=>ws δ (fun s=>(match s with | .int i=>i = -1 | _=>False)/\revLD d Q) EX) EX
def dTRng (w:DE):DE:=fun δ Q EX=>w δ (fun d=>match d with
  | .int j=>(-1000<=j/\j<=1000)/\Q (.tuple ((List.range j.toNat).map fun (i:Nat)=>.int i))
  | _=>False) EX
def dLRng (w:DE):DE:=fun δ Q EX=>w δ (fun d=>match d with
  | .int j=>(-1000<=j/\j<=1000)/\Q (.list ((List.range j.toNat).map fun (i:Nat)=>.int i))
  | _=>False) EX
theorem Qib {A:Addr->Prop} {H:Hp} (l:List Nat):DAs A H (l.map fun (i:Nat)=>V.int (i:Nat)) (l.map fun (i:Nat)=>PyData.int (i:Nat)):=by
  induction l with
  | nil=>exact .nil
  | cons i l ih=>exact .cons (.int _) ih
variable {e:Expr} {w:DE} {p p2 pos pos2:Pos}
theorem Qhl (hg:Gl X "tuple") (hm:X.mg "tuple" = none) (hg2:Gl X "range") (hm2:X.mg "range" = none) (h:PE X e (tX .P X.K E w)) (hc:X.calm=true:=by rfl) (hs:notStar e=true:=by rfl):PE X (.Call (.Name "tuple" p) [.Call (.Name "range" p2) [e] [] pos2] [] pos) (tX .F X.K E (dTRng w)):=by
  refine PE.imp (Qbf (Qfw hc) hg hm QaB (pa_c (QdT hg2 hm2 (pa_c h Qaw hs) (by rw [QaQ hs];rfl)) Qaw)) fun σ H Q ⟨F,δ,R,EX,rel,hw,k,o⟩=>?_
  refine ⟨F,δ,_,EX,rel,hw,fun d hd v H1 rel1 kp1 vk=>?_,o⟩
  cases d<;>first | exact (show False from hd).elim | skip
  obtain ⟨⟨h1,h2⟩,hR⟩:=hd
  rw [DP.int vk]
  refine ⟨_,rfl,fun r H2 s2 n2 e2=>⟨r,_,rfl,e2,h1,h2,fun t H3 s3 n3 e3=>?_⟩⟩
  have r2:=rel1.same s2
  have K3:=(kp1.trans (Kp.same rel1 s2)).trans (Kp.same r2 s3)
  exact k _ hR _ H3 (r2.same s3) K3 ⟨QcR (fun a ha=>r2.isl ha) s3 e3 (Qib _),QbU e3⟩
theorem Qhm (hg:Gl X "list") (hm:X.mg "list" = none) (hg2:Gl X "range") (hm2:X.mg "range" = none) (h:PE X e (tX .P X.K E w)) (hc:X.calm=true:=by rfl) (hs:notStar e=true:=by rfl):PE X (.Call (.Name "list" p) [.Call (.Name "range" p2) [e] [] pos2] [] pos) (tX .F X.K E (dLRng w)):=by
  refine PE.imp (Qbf (Qda hc) hg hm Qea (pa_c (QdT hg2 hm2 (pa_c h Qaw hs) (by rw [QaQ hs];rfl)) Qaw)) fun σ H Q ⟨F,δ,R,EX,rel,hw,k,o⟩=>?_
  refine ⟨F,δ,_,EX,rel,hw,fun d hd v H1 rel1 kp1 vk=>?_,o⟩
  cases d<;>first | exact (show False from hd).elim | skip
  obtain ⟨⟨h1,h2⟩,hR⟩:=hd
  rw [DP.int vk]
  refine ⟨_,rfl,fun r H2 s2 n2 e2=>⟨r,_,rfl,e2,h1,h2,fun t H3 s3 n3 e3=>?_⟩⟩
  have r2:=rel1.same s2
  have K2:=kp1.trans (Kp.same rel1 s2)
  exact k _ hR _ H3 (r2.same s3) (K2.trans (Kp.same r2 s3)) ⟨Qcz (fun a ha=>r2.isl ha) s3 n3 e3 (Qib _),Qbc (Qby K2 n3)⟩
end
theorem at_mem {ds:List PyData} {i:Int} (h0:0<=i) (h1:i<ds.length):∃ d,d∈ds/\atI ds i=some d:=by
  obtain ⟨j,rfl⟩:∃ j:Nat,i=j:=⟨i.toNat,by omega⟩
  have hj:j<ds.length:=by omega
  exact ⟨ds[j],List.getElem_mem hj,QaK (List.getElem?_eq_getElem hj)⟩
theorem Qju {ds:List PyData} {i:Int} {Q:PyData->Prop} (h0:0<=i) (h1:i<ds.length) (q:∀ d∈ds,Q d):∃ d,atI ds i=some d/\Q d:=by
  obtain ⟨d,hd,e⟩:=at_mem h0 h1
  exact ⟨d,e,q d hd⟩
theorem QbV (xs:List PyData) (lo hi:Option Int):(cutD xs lo hi).length<=xs.length:=by
  unfold cutD
  rw [List.length_take,List.length_drop]
  omega
structure QE (m:Md) (X:Cx) (E:XK) (e:Expr) (w:DE):Prop where h:PE X e (tX m X.K E w)
structure QT (X:Cx) (E:XK) (e:Expr) (w:DT):Prop where h:PT X e (tT X.K E w)
structure QW (X:Cx) (E:XK) (e:Expr) (w:DT):Prop where h:PW X e (tT X.K E w)
structure QTs (X:Cx) (E:XK) (es:List Expr) (w:DT):Prop where h:PTs X es (tT X.K E w)
structure QA (n:Nat) (m:Md) (X:Cx) (E:XK) (es:List Expr) (w:DAr):Prop where h:PA X es (tAr n m X.K E w)
structure QAs (X:Cx) (E:XK) (es:List Expr) (w:DSl):Prop where h:PA X es (tAs X.K E w)
structure QO (X:Cx) (E:XK) (o:Option Expr) (w:DO):Prop where h:PO X o (tO X.K E w)
structure QG (ix:List Nat) (X:Cx) (tg:Expr) (w:DG):Prop where h:PG X tg (tG ix X.K w)
structure QI (m:Md) (X:Cx) (E:XK) (tg it:Expr) (w:DI):Prop where h:PI X tg it (tI m X.K E w)
structure QS (X:Cx) (E:XK) (st:Stmt) (w:DS):Prop where h:PS X st (tS X.K E w)
structure QSs (X:Cx) (E:XK) (sts:List Stmt) (w:DS):Prop where h:PSs X sts (tS X.K E w)
section
variable {X:Cx} {E:XK}
theorem Qak {e:Expr} {w:DE} (h:QE .F X E e w):QE .D X E e w:=⟨toD h.h⟩
theorem Qat {e:Expr} {w:DE} (h:QE .D X E e w):QE .P X E e w:=⟨toP h.h⟩
theorem Qah {e:Expr} {w:DE} (h:QE .F X E e w):QE .P X E e w:=⟨toPF h.h⟩
theorem qv (i:Nat) {x:Str} {pos:Pos} (hN:X.N[i]? = some x:=by rfl) (hv:Vis X.env.scope x:=by first | exact Or.inl rfl | exact Or.inr (Or.inl rfl) | exact Or.inr (Or.inr rfl)) (hd:(x == ("__debug__" : Str))=false:=by decide) (hcd:(x == ("__classdict__" : Str))=false:=by decide):QE .D X E (.Name x pos) (dVar i):=⟨pd_var (pv i hN hv hd hcd)⟩
theorem qp (i:Nat) {x:Str} {pos:Pos} (hN:X.N[i]? = some x:=by rfl) (hv:Vis X.env.scope x:=by first | exact Or.inl rfl | exact Or.inr (Or.inl rfl) | exact Or.inr (Or.inr rfl)) (hd:(x == ("__debug__" : Str))=false:=by decide) (hcd:(x == ("__classdict__" : Str))=false:=by decide):QE .P X E (.Name x pos) (dPk i):=⟨pd_pk (pv i hN hv hd hcd)⟩
theorem Qau {i:Int} {j pos}:QE .D X E (.Constant (.int i) j pos) (dC (.int i)):=⟨pd_int⟩
theorem q_bl {b:Bool} {j pos}:QE .D X E (.Constant (.bool b) j pos) (dC (.bool b)):=⟨pd_bl⟩
theorem QkV {j pos}:QE .D X E (.Constant .none j pos) (dC .none):=⟨pd_non⟩
theorem q_str {x:Str} {j pos} (h:PyData.canLay0 (.str x)=true:=by decide +kernel):QE .D X E (.Constant (.str x) j pos) (dC (.str x)):=⟨pd_str h⟩
theorem QcY {a b:Expr} {wa wb:DE} {pos:Pos} {r:R2} {rD:PyData->PyData->(PyData->Prop)->Prop} {op:Operator} (ho:OpR X (binaryOp op) r) (hd:OpD r rD) (ha:QE .P X E a wa) (hb:QE .P X E b wb):QE .F X E (.BinOp a op b pos) (dOp rD wa wb):=⟨pd_bin ho hd ha.h hb.h⟩
theorem QiP {a b:Expr} {wa wb:DE} {pos:Pos} {r:R2} {rD:PyData->PyData->(PyData->Prop)->Prop} {op:CmpOp} (ho:OpR X (compareOp op) r) (hd:OpD r rD) (ha:QE .P X E a wa) (hb:QE .P X E b wb) (hm:behindInMarks op b=false):QE .F X E (.Compare a [op] [b] pos) (dOp rD wa wb):=⟨pd_cmp ho hd ha.h hb.h hm⟩
theorem Qb5 {a b:Expr} {wa wb:DE} {pos:Pos} {r:R2} {rD:PyData->PyData->(PyData->Prop)->Prop} {op:CmpOp} (ho:OpR X (compareOp op) r) (hd:OpD r rD) (ha:QE .P X E a wa) (hb:QE .P X E b wb) (hm:behindInMarks op b=false):QT X E (.Compare a [op] [b] pos) (dTst (dOp rD wa wb)):=⟨Qld ho hd ha.h hb.h hm⟩
theorem q_ix {a b:Expr} {wa wb:DE} {pos:Pos} {r:R2} {rD:PyData->PyData->(PyData->Prop)->Prop} (ho:IxR X r) (hd:OpDn r rD) (ha:QE .P X E a wa) (hb:QE .P X E b wb) (hs:QfB b):QE .D X E (.Subscript a b pos) (dOp rD wa wb):=⟨pd_ix ho hd ha.h hb.h hs⟩
theorem q_neg {a:Expr} {wa:DE} {pos:Pos} (ha:QE .P X E a wa):QE .F X E (.UnaryOp .USub a pos) (dUn negD wa):=⟨pd_neg ha.h⟩
theorem q_ch {a b c:Expr} {wa wb wc:DE} {pos:Pos} {op op':CmpOp} {p q:Int->Int->Bool} (ho:OpR X (compareOp op) (rI0 fun i j=>.bl (p i j))) (ho':OpR X (compareOp op') (rI0 fun i j=>.bl (q i j))) (ha:QE .P X E a wa) (hb:QE .P X E b wb) (hc:QE .P X E c wc) (hm:lastMarks [op,op'] [b,c]=false:=by with_unfolding_all rfl):QE .F X E (.Compare a [op,op'] [b,c] pos) (dCh p q wa wb wc):=⟨pd_ch ho ho' ha.h hb.h hc.h hm⟩
theorem Qbt {e:Expr} {w:DE} (h:QE .P X E e w) (he:∀ whole,isTrue e X.env whole=(do let v <- whole;standAt e.pos;holding [v] (truthy v)):=by intro _;rfl):QT X E e (dTst w):=⟨Qlb h.h he⟩
theorem QkW {a b:Expr} {rest:List Expr} {pos:Pos} {wa wb:DE} (ha:QE .P X E a wa) (hb:QE .D X E (.BoolOp .And (b::rest) pos) wb):QE .D X E (.BoolOp .And (a::b::rest) pos) (dAndV wa wb):=⟨pd_and ha.h hb.h⟩
theorem QcU {a:Expr} {pos:Pos} {ta:DT} (ha:QT X E a ta):QW X E (.BoolOp .Or [a] pos) ta:=⟨Qla ha.h⟩
theorem Qer {a b:Expr} {rest:List Expr} {pos:Pos} {ta tb:DT} (ha:QT X E a ta) (hb:QW X E (.BoolOp .Or (b::rest) pos) tb):QW X E (.BoolOp .Or (a::b::rest) pos) (dOr ta tb):=⟨pdw_or ha.h hb.h⟩
theorem q_pw {e:Expr} {t:DT} (h:QW X E e t):QT X E e t:=⟨PW.pt h.h⟩
theorem Qbu {a:Expr} {pos:Pos} {ta:DT} (ha:QT X E a ta):QT X E (.UnaryOp .Not a pos) (dNot ta):=⟨Qlc ha.h⟩
theorem QkU {op} {a:Expr} {pos:Pos} {w:DE} (h:QE .D X E a w):QE .D X E (.BoolOp op [a] pos) w:=⟨pd_one h.h⟩
theorem q_not {a:Expr} {pos:Pos} {wa:DE} (ha:QE .P X E a wa):QE .D X E (.UnaryOp .Not a pos) (dNotV wa):=⟨pd_not ha.h⟩
theorem Qac {m:Md}:QA 0 m X E [] dNil:=⟨Qlo⟩
theorem qa_D {n:Nat} {e:Expr} {es:List Expr} {we:DE} {wr:DAr} (he:QE .D X E e we) (hr:QA n .D X E es wr) (hs:notStar e=true:=by rfl):QA (n+1) .D X E (e::es) (Qie we wr):=⟨Qhk he.h hr.h hs⟩
theorem qa_P {n:Nat} {e:Expr} {es:List Expr} {we:DE} {wr:DAr} (he:QE .P X E e we) (hr:QA n .P X E es wr) (hs:notStar e=true:=by rfl):QA (n+1) .P X E (e::es) (Qie we wr):=⟨Qhj he.h hr.h hs⟩
theorem QaH {n:Nat} {es:List Expr} {w:DAr} {x1} {pos:Pos} (h:QA n .D X E es w) (hn:n<=1000:=by decide):QE .F X E (.Tuple es x1 pos) (dTup w):=⟨pd_tup h.h hn⟩
theorem QdQ {n:Nat} {es:List Expr} {w:DAr} {pos:Pos} (h:QA n .D X E es w) (hn:n<=1000:=by decide):QE .F X E (.List es pos) (dLst w):=⟨pd_lst h.h hn⟩
theorem q_dct {pos:Pos}:QE .D X E (.Dict [] [] pos) (dC (.dict [])):=⟨pd_dct⟩
theorem QaC {x:Str} {bid:String} {p pos:Pos} {e:Expr} {es:List Expr} {n:Nat} {wr:DAr} {r:List V->Hp->VK->Prop} {rD:List PyData->(PyData->Prop)->Prop} (hc:CallR X (.builtin bid) r) (hd:QcE r rD) (hg:Gl X x) (hm:X.mg x=none) (hv:bootBuiltins x=some (.builtin bid)) (ha:QA n .P X E (e::es) wr) (hn:x ≠ "__name__" := by decide) (hdb:(x == ("__debug__" : Str))=false:=by decide) (he:starEach (e::es) X.env=(false,eval e X.env)::starEach es X.env:=by rfl) (hpl:(backTo pos (starEach es X.env)).any (·.1)=false:=by rfl):QE .F X E (.Call (.Name x p) (e::es) [] pos) (dCB rD wr):=⟨Qjb hc hd hg hm hv ha.h hn hdb he hpl⟩
theorem Qa7 {x:Str} {T:String} {p pos:Pos} {e:Expr} {es:List Expr} {n:Nat} {wr:DAr} {r:List V->Hp->VK->Prop} {rD:List PyData->(PyData->Prop)->Prop} (hc:CallR X (.type T) r) (hd:QcE r rD) (hg:Gl X x) (hm:X.mg x=none) (hv:bootBuiltins x=some (.type T)) (ha:QA n .P X E (e::es) wr) (hn:x ≠ "__name__" := by decide) (hdb:(x == ("__debug__" : Str))=false:=by decide) (he:starEach (e::es) X.env=(false,eval e X.env)::starEach es X.env:=by rfl) (hpl:(backTo pos (starEach es X.env)).any (·.1)=false:=by rfl):QE .F X E (.Call (.Name x p) (e::es) [] pos) (dCB rD wr):=⟨Qhn hc hd hg hm hv ha.h hn hdb he hpl⟩
theorem Qb6 {e:Expr} {we:DE} {p pos pos2:Pos} {x:Str} (tn:Tn) (hg:Gl X "isinstance") (hm:X.mg "isinstance" = none) (he:QE .P X E e we) (hg2:Gl X x) (hm2:X.mg x=none) (hv:bootBuiltins x=some (.type tn.s)) (hn:x ≠ "__name__" := by decide) (hd:(x == ("__debug__" : Str))=false:=by decide) (h1:notStar e=true:=by rfl):QE .F X E (.Call (.Name "isinstance" p) [e,.Name x pos2] [] pos) (dInst tn we):=⟨Qlq tn hg hm he.h (pb_ty tn hg2 hm2 hv hn hd) h1 rfl⟩
theorem QcW  : QO X E none dNo:=⟨Qi5⟩
theorem QcV {e:Expr} {we:DE} (he:QE .P X E e we):QO X E (some e) (dSo we):=⟨Qi4 he.h⟩
theorem QcX {e:Expr} {lo hi:Option Expr} {we:DE} {wl wh:DO} {p2 pos:Pos} (he:QE .P X E e we) (hl:QO X E lo wl) (hh:QO X E hi wh):QE .F X E (.Subscript e (.Slice lo hi none p2) pos) (dSl we wl wh):=⟨Qi9 he.h hl.h hh.h⟩
theorem q_rev {e st:Expr} {we ws:DE} {p2 pos:Pos} (he:QE .P X E e we) (hs:QE .P X E st ws):QE .F X E (.Subscript e (.Slice none none (some st) p2) pos) (dRev we ws):=⟨pd_rev he.h hs.h⟩
theorem QiO {e:Expr} {w:DE} {p p2 pos pos2:Pos} (hg:Gl X "tuple") (hm:X.mg "tuple" = none) (hg2:Gl X "range") (hm2:X.mg "range" = none) (h:QE .P X E e w) (hc:X.calm=true:=by rfl) (hs:notStar e=true:=by rfl):QE .F X E (.Call (.Name "tuple" p) [.Call (.Name "range" p2) [e] [] pos2] [] pos) (dTRng w):=⟨Qhl hg hm hg2 hm2 h.h hc hs⟩
theorem QfJ {e:Expr} {w:DE} {p p2 pos pos2:Pos} (hg:Gl X "list") (hm:X.mg "list" = none) (hg2:Gl X "range") (hm2:X.mg "range" = none) (h:QE .P X E e w) (hc:X.calm=true:=by rfl) (hs:notStar e=true:=by rfl):QE .F X E (.Call (.Name "list" p) [.Call (.Name "range" p2) [e] [] pos2] [] pos) (dLRng w):=⟨Qhm hg hm hg2 hm2 h.h hc hs⟩
theorem Qas  : QAs X E [] sNil:=⟨Qli⟩
theorem qs_v {e:Expr} {es:List Expr} {we:DE} {wr:DSl} (he:QE .D X E e we) (hr:QAs X E es wr) (hs:notStar e=true:=by rfl):QAs X E (e::es) (sV we wr):=⟨pds_v he.h hr.h hs⟩
theorem QaZ (i:Nat) {x:Str} {pos:Pos} {es:List Expr} {wr:DSl} (hr:QAs X E es wr) (hN:X.N[i]? = some x:=by rfl) (hv:Vis X.env.scope x:=by first | exact Or.inl rfl | exact Or.inr (Or.inl rfl) | exact Or.inr (Or.inr rfl)) (hd:(x == ("__debug__" : Str))=false:=by decide) (hcd:(x == ("__classdict__" : Str))=false:=by decide):QAs X E (.Name x pos::es) (sPot i wr):=⟨Qlf (pv i hN hv hd hcd) hr.h rfl⟩
theorem QaO {CX:CXT} {k:Nat} {f:Addr} {fd:FuncData} {ps:List Str} {x:Str} {p pos:Pos} {e:Expr} {es:List Expr} {fD:DF} {wa:DSl} (G:FnOk X.prog X.w X.K X.mg X.base CX k f fd ps (toSp false fD)) (hr:Room k X.A) (hg:Gl X x) (hm:X.mg x=some (.ref f)) (hk:PySem.W.keepIn X.K (.ref f)=true) (hb:Binds X.K fd ps []) (hx:QcB CX X E) (ha:QAs X E (e::es) wa) (hdb:(x == ("__debug__" : Str))=false:=by decide) (he:starEach (e::es) X.env=(false,eval e X.env)::starEach es X.env:=by rfl) (hpl:(backTo pos (starEach es X.env)).any (·.1)=false:=by rfl):QE .D X E (.Call (.Name x p) (e::es) [] pos) (Qif fD wa):=⟨Qlt G hr hg hm hk hb hx ha.h hdb he hpl⟩
theorem Qa0 {CX:CXT} {k:Nat} {f:Addr} {fd:FuncData} {ps:List Str} {x:Str} {p pos:Pos} {e:Expr} {es:List Expr} {fD:DF} {wa:DSl} (G:FnOk X.prog X.w X.K X.mg X.base CX k f fd ps (toSp true fD)) (hr:Room k X.A) (hg:Gl X x) (hm:X.mg x=some (.ref f)) (hk:PySem.W.keepIn X.K (.ref f)=true) (hb:Binds X.K fd ps []) (hx:QcB CX X E) (ha:QAs X E (e::es) wa) (hdb:(x == ("__debug__" : Str))=false:=by decide) (he:starEach (e::es) X.env=(false,eval e X.env)::starEach es X.env:=by rfl) (hpl:(backTo pos (starEach es X.env)).any (·.1)=false:=by rfl):QE .F X E (.Call (.Name x p) (e::es) [] pos) (Qif fD wa):=⟨Qja G hr hg hm hk hb hx ha.h hdb he hpl⟩
theorem q_cell {k:Nat} {f:Addr} {fd:FuncData} {ps:List Str} {x y:Str} {p pos pos2:Pos} {b:Expr} {wb:DE} (i:Nat) (G:FnOk X.prog X.w X.K X.mg X.base CX0 k f fd ps (Qb1 X.K)) (hr:Room k X.A) (hg:Gl X x) (hm:X.mg x=some (.ref f)) (hk:PySem.W.keepIn X.K (.ref f)=true) (hb:Binds X.K fd ps []) (h:QE .P X E b wb) (hN:X.N[i]? = some y:=by rfl) (hv:Vis X.env.scope y:=by first | exact Or.inl rfl | exact Or.inr (Or.inl rfl) | exact Or.inr (Or.inr rfl)) (hd:(y == ("__debug__" : Str))=false:=by decide) (hcd:(y == ("__classdict__" : Str))=false:=by decide) (h2:notStar b=true:=by rfl) (hdb:(x == ("__debug__" : Str))=false:=by decide):QE .F X E (.Call (.Name x p) [.Name y pos2,b] [] pos) (QlY i wb):=⟨Qls G hr hg hm hk hb (pv i hN hv hd hcd) h.h rfl h2 hdb⟩
theorem q_lenS {y:Str} {p pos pos2:Pos} (i:Nat) (hg:Gl X "len") (hm:X.mg "len" = none) (hN:X.N[i]? = some y:=by rfl) (hv:Vis X.env.scope y:=by first | exact Or.inl rfl | exact Or.inr (Or.inl rfl) | exact Or.inr (Or.inr rfl)) (hd:(y == ("__debug__" : Str))=false:=by decide) (hcd:(y == ("__classdict__" : Str))=false:=by decide):QE .F X E (.Call (.Name "len" p) [.Name y pos2] [] pos) (QlX i):=⟨Qlp hg hm (pv i hN hv hd hcd) rfl⟩
theorem Qbw (i:Nat) {x:Str} {pos:Pos} (hN:X.N.Nodup) (hi:X.N[i]? = some x) (hx:Loc X.env.scope x) (hf:X.fn x=true∨X.env.scope.names.lookup x=some .local:=by first | exact .inl rfl | exact .inr rfl | assumption):QG [i] X (.Name x pos) (gN i):=⟨Qi8 (QdS hN hi hx hf)⟩
structure QGs (X:Cx) (es:List Expr) (is:List Nat):Prop where h:PGs X es (gNs is)
theorem Qdm  : QGs X [] []:=⟨Qhe⟩
theorem QaR (i:Nat) {is:List Nat} {x:Str} {pos:Pos} {es:List Expr} (h:QGs X es is) (hN:X.N.Nodup) (hi:X.N[i]? = some x) (hx:Loc X.env.scope x) (hf:X.fn x=true∨X.env.scope.names.lookup x=some .local:=by first | exact .inl rfl | exact .inr rfl | assumption) (hs:(assignEach (.Name x pos::es) X.env).map (·.2)=assign (.Name x pos) X.env::(assignEach es X.env).map (·.2):=by rfl):QGs X (.Name x pos::es) (i::is):=⟨QdR (QdS hN hi hx hf) h.h hs⟩
theorem Qdl {es:List Expr} {k:Nat} {pos:Pos} {is:List Nat} (hc:X.calm=true) (h:QGs X es is) (hn:(assignEach es X.env).length=is.length:=by rfl) (hst:(assignEach es X.env).findIdx? (·.1)=none:=by rfl):QG is X (.Tuple es k pos) (gTN is):=⟨Qln (Qj3 hc h.h hn hst) rfl⟩
theorem Qg7 {m:Md} {tg e:Expr} {w:DE} (h:QE m X E e w):QI m X E tg e (dItL w):=⟨Qi7 h.h⟩
theorem Qg6 {m:Md} {tg e:Expr} {w:DE} (h:QE m X E e w):QI m X E tg e (dItT w):=⟨Qlm h.h⟩
theorem Qfd {m:Md} {tg e:Expr} {w:DE} {p pos:Pos} (hg:Gl X "range") (hm:X.mg "range" = none) (h:QE .P X E e w) (hs:notStar e=true:=by rfl):QI m X E tg (.Call (.Name "range" p) [e] [] pos) (dRng1 w):=⟨Qi6 hg hm h.h hs⟩
theorem QcG {m:Md} {e:Expr} {w:DE} {p pos tpos:Pos} {elts:List Expr} {x1} (hg:Gl X "enumerate") (hm:X.mg "enumerate" = none) (h:QE m X E e w) (hs:notStar e=true:=by rfl):QI m X E (.Tuple elts x1 tpos) (.Call (.Name "enumerate" p) [e] [] pos) (dEnT w):=⟨Qhi hg hm h.h hs⟩
theorem Qfb  : QTs X E [] dNoT:=⟨QiX⟩
theorem QdP {c:Expr} {t:DT} (h:QT X E c t):QTs X E [c] t:=⟨QiW h.h⟩
theorem Qeu (M:List Str) (cap:List (Option Nat)) {elt tg iter:Expr} {ifs:List Expr} {scope:Scope} {pos:Pos} {ix:List Nat} {wi:DI} {wg:DG} {wt:DT} {we:DE} (hi:QI .P X E tg iter wi) (hb:∀ cl ex s3 H3 C,QG ix (blk X M scope cl ex s3 H3 C) tg wg/\QTs (blk X M scope cl ex s3 H3 C) E0 ifs wt/\QE .D (blk X M scope cl ex s3 H3 C) E0 elt we) (hc:X.calm=true:=by rfl) (ok:QeN X.N X.env.scope M scope cap=true:=by rfl) (hf:Qcp cap ix=true:=by rfl) (hs:∀ x,foldedSetIterable iter X.env x=pure x:=by intro _;rfl):QE .F X E (.ListComp elt [⟨tg,iter,ifs,0⟩] scope pos) (dComp cap wi wg wt we):=⟨Qlr hc ok hf hi.h (fun cl ex s3 H3 C=>⟨(hb cl ex s3 H3 C).1.h,(hb cl ex s3 H3 C).2.1.h,(hb cl ex s3 H3 C).2.2.h⟩) hs⟩
theorem Qbv  : QSs X E [] dSkip:=⟨QiZ⟩
theorem Qan {st:Stmt} {w:DS} (h:QS X E st w):QSs X E [st] w:=⟨Qlh h.h⟩
theorem Qaf {st:Stmt} {rest:List Stmt} {w w':DS} (h:QS X E st w) (h':QSs X E rest w'):QSs X E (st::rest) (dSeq w w'):=⟨Qi3 h.h h'.h⟩
theorem Qbn (i:Nat) {x:Str} {e:Expr} {pos pos':Pos} {we:DE} (he:QE .D X E e we) (hN:X.N.Nodup) (hi:X.N[i]? = some x:=by rfl) (hx:Loc X.env.scope x:=by first | exact Or.inl rfl | exact Or.inr rfl) (hs:swapsWith e (some (.Name x pos')) pos.line X.env=pure false:=by rfl) (hf:X.fn x=true∨X.env.scope.names.lookup x=some .local:=by first | exact .inl rfl | exact .inr rfl | assumption):QS X E (.Assign [.Name x pos'] e pos) (dSet i we):=⟨Qhh (Qb8 hN hi hx he.h hs hf)⟩
theorem Qfc (i:Nat) {x:Str} {e:Expr} {pos pos':Pos} {we:DE} (he:QE .F X E e we) (hN:X.N.Nodup) (hi:X.N[i]? = some x:=by rfl) (hx:Loc X.env.scope x:=by first | exact Or.inl rfl | exact Or.inr rfl) (hs:swapsWith e (some (.Name x pos')) pos.line X.env=pure false:=by rfl) (hf:X.fn x=true∨X.env.scope.names.lookup x=some .local:=by first | exact .inl rfl | exact .inr rfl | assumption):QS X E (.Assign [.Name x pos'] e pos) (dSetF i we):=⟨Qi1 (Qb8 hN hi hx he.h hs hf)⟩
theorem QkT (i:Nat) {x:Str} {e:Expr} {pos pos':Pos} {we:DE} (he:QE .F X E e we) (hN:X.N.Nodup) (hi:X.N[i]? = some x:=by rfl) (hx:Loc X.env.scope x:=by first | exact Or.inl rfl | exact Or.inr rfl) (hs:swapsWith e (some (.Name x pos')) pos.line X.env=pure false:=by rfl) (hf:X.fn x=true∨X.env.scope.names.lookup x=some .local:=by first | exact .inl rfl | exact .inr rfl | assumption):QS X E (.Assign [.Name x pos'] e pos) (dSetP i we):=⟨Qi0 (Qb8 hN hi hx he.h hs hf)⟩
theorem Qj1 {tg e:Expr} {pos:Pos} {ix:List Nat} {we:DE} {wg:DG} (he:QE .D X E e we) (hg:QG ix X tg wg) (hs:swapsWithSole [tg] e pos.line X.env=pure false:=by rfl) (hw:swappedStores [tg] e X.env=pure none:=by rfl) (h1:(assignEach [tg] X.env).map (·.2)=[assign tg X.env]:=by rfl):QS X E (.Assign [tg] e pos) (dAsg we wg):=⟨Qll (Qha he.h hg.h hs hw h1)⟩
theorem QjZ (i j:Nat) {x y:Str} {a b:Expr} {n:Nat} {wa:DAr} {pos px py pt:Pos} {kt k2 pt2} (ha:QA n .D X E [a,b] wa) (hN:X.N.Nodup) (hc:X.calm=true:=by rfl) (hi:X.N[i]? = some x:=by rfl) (hj:X.N[j]? = some y:=by rfl) (hij:i≠j:=by decide) (hx:X.env.scope.names.lookup x=some .local:=by rfl) (hy:X.env.scope.names.lookup y=some .local:=by rfl) (hw:swappedStores [.Tuple [.Name x px,.Name y py] kt pt] (.Tuple [a,b] k2 pt2) X.env=pure (some [x,y]):=by rfl) (hs:swapsWithSole [.Tuple [.Name x px,.Name y py] kt pt] (.Tuple [a,b] k2 pt2) pos.line X.env=pure false:=by rfl):QS X E (.Assign [.Tuple [.Name x px,.Name y py] kt pt] (.Tuple [a,b] k2 pt2) pos) (dPar i j wa):=⟨Qlg (ps_par hc hN hi hj hij hx hy ha.h hw hs)⟩
theorem Qbe {e:Expr} {pos:Pos} {we:DE} (h:QE .D X E e we):QS X E (.Return (some e) pos) (dRet we):=⟨Qle h.h⟩
theorem QbR {e:Expr} {pos:Pos} {we:DE} (h:QE .F X E e we):QS X E (.Return (some e) pos) (dRetF we):=⟨Qi2 h.h⟩
theorem Qes {c:Expr} {a b:List Stmt} {pos:Pos} {t:DT} {w w':DS} (hc:QT X E c t) (ha:QSs X E a w) (hb:QSs X E b w'):QS X E (.If c a b pos) (dIf t w w'):=⟨pds_if hc.h ha.h hb.h⟩
theorem Qj0 {y:Str} {e:Expr} {we:DE} {apos cpos pos npos:Pos} (i:Nat) (he:QE .P X E e we) (hN:X.N[i]? = some y:=by rfl) (hv:Vis X.env.scope y:=by first | exact Or.inl rfl | exact Or.inr (Or.inl rfl) | exact Or.inr (Or.inr rfl)) (hd:(y == ("__debug__" : Str))=false:=by decide) (hcd:(y == ("__classdict__" : Str))=false:=by decide) (hst:notStar e=true:=by rfl) (hbase:attributeBase (.Name y npos) "extend" X.env (eval (.Name y npos) X.env)=eval (.Name y npos) X.env:=by rfl) (hfew:((backTo cpos (starEach [e] X.env)).all (fun x => !x.1)&&(backToKw cpos (keywordEach [] X.env)).all (fun x=>x.1.isSome)&&decide ([e].length+([]:List Keyword).length+(if ([]:List Keyword).isEmpty then 0 else 1)<30))=true:=by rfl) (hline:(apos.endLine == cpos.line)=true:=by rfl) (hsw:swapsWith (.Call (.Attribute (.Name y npos) "extend" apos) [e] [] cpos) none pos.line X.env=pure false:=by rfl):QS X E (.Expr (.Call (.Attribute (.Name y npos) "extend" apos) [e] [] cpos) pos) (dExt i we):=⟨Qlk (QkZ (pe_bm PySem.F.plainAttrs_list PySem.F.slot_list_extend PySem.F.type_list_extend QhE (pv i hN hv hd hcd) (pa_c he.h Qaw hst) hbase hfew hline (QaQ hst) rfl) hsw)⟩
theorem Qet {tg iter:Expr} {body:List Stmt} {pos:Pos} {ix:List Nat} {wi:DI} {wg:DG} {wb:DS} (hp:PassesOwn (model X.prog X.w) X.A X.env X.xe) (hc:X.calm=true) (hi:QI .D X E tg iter wi) (hg:QG ix X tg wg) (hb:QSs X E body wb) (hs:∀ x,foldedSetIterable iter X.env x=pure x:=by intro _;rfl):QS X E (.For tg iter body [] pos) (dFor wi wg wb):=⟨Qlj hp hc hi.h hg.h hb.h hs⟩
end
section
variable {P:Program} {w:World} {K:PySem.W.Frag} {mg:Str->Option Value} {base:Heap}
theorem okQ {x qual:Str} {st:Stmt} {f:Addr} {fd:FuncData} {N ps:List Str} {k:Nat} {fD:DF} (fr:Bool) (F:Fun K x qual st f fd) (S:FnScope N ps (Qaa st)) (len:∀ args R EX,fD args R EX->args.length=ps.length)
    (hbody:∀ (cdv:Value) (A:Around) (outer:List Env) (s:Shared) (H:Hp) (E:XK),Room k (A.deeper (envOfC qual (Qaa st) s.heap.objs.size f cdv)) ->
      ∃ wd,QSs (cxOf CX0 P w K mg base N qual (Qaa st) f cdv A outer s H E).nox E0 (Qal st) wd/\∀ args R EX,fD args R EX->wd (QlU fr R XF) (stD N args)):FnOk P w K mg base CX0 (k+1) f fd ps (toSp fr fD):=
  okD fr F S len fun cdv A outer s H E hr=>let ⟨wd,h,q⟩:=hbody cdv A outer s H E hr;⟨wd,h.h,q⟩
theorem okQL {x qual:Str} {st:Stmt} {f:Addr} {fd:FuncData} {N:List Str} {p:Str} {k:Nat} (F:Fun K x qual st f fd) (S:FnScope N [p] (Qaa st))
    (hbody:∀ (cdv:Value) (A:Around) (outer:List Env) (s:Shared) (H:Hp) (E:XK),Room k (A.deeper (envOfC qual (Qaa st) s.heap.objs.size f cdv)) ->
      ∃ wd,QSs (cxOf CX0 P w K mg base N qual (Qaa st) f cdv A outer s H E).nox E0 (Qal st) wd/\wd endsL (stD N [.scr])):FnOk P w K mg base CX0 (k+1) f fd [p] (spLawD K):=
  okLaw F S fun cdv A outer s H E hr=>let ⟨wd,h,q⟩:=hbody cdv A outer s H E hr;⟨wd,h.h,q⟩
end
structure GOk (wg:DG):Prop where h:∀ d δ Q,wg d δ Q->wg d δ fun δ'=>(∀ (j:Nat) x,δ'[j]? = some x->(∃ e,x=.v e)∨δ[j]? = some x)/\Q δ'
theorem Qcv:∀ (is:List Nat) (ds:List PyData) (δ:Sts) (j:Nat) (x:Sl),(QcS δ is ds)[j]? = some x->(∃ e,x=.v e)∨δ[j]? = some x
  | [],_,δ,j,x,h=>.inr (by simpa [QcS] using h)
  | _::_,[],δ,j,x,h=>.inr (by simpa [QcS] using h)
  | i::is,d::ds,δ,j,x,h=>by
    rcases Qcv is ds _ j x h with z | z
    · exact .inl z
    · by_cases y:j=i
      · subst y;exact .inl ⟨d,set_eq z⟩
      · rw [QaS y] at z;exact .inr z
theorem QlQ (is:List Nat):GOk (gTN is):=⟨fun d δ Q h=>by
  unfold gTN at h ⊢
  split at h
  · exact ⟨h.1,Qcv is _ δ,h.2⟩
  · exact h.elim⟩
theorem QhZ {cap:List (Option Nat)} {ix:List Nat} (hf:Qcp cap ix=true) {i:Nat} (hi:i∈ix):cap[i]? = some none:=by
  have:=List.all_eq_true.mp hf i hi
  split at this
  · assumption
  · cases this
theorem QcK {cap:List (Option Nat)} {ix:List Nat} (hf:Qcp cap ix=true) {δ:Sts} {i:Nat} {x:Sl} (h:(capD cap δ)[i]? = some x) (hx:x≠.no):i∉ix:=fun z=>by
  rcases Qd9 h with ⟨_,e⟩ | ⟨j,hj,_⟩
  · exact hx e
  · rw [QhZ hf z] at hj;cases hj
section
variable {K:PySem.W.Frag} {σ σ4:L2.St} {δ δ4:Sts} {cap:List (Option Nat)} {ix:List Nat} {A1:Addr->Prop} {H3 H5 H6:Hp}
theorem Qke (hP:∀ a,PotA σ δ a->A1 a) (hf:Qcp cap ix=true) (j4:∀ j,j∉ix->σ4[j]? = (capS cap σ)[j]?) (gk:∀ (j:Nat) x,δ4[j]? = some x->(∃ e,x=.v e)∨(capD cap δ)[j]? = some x) {a:Addr} (h:Av (inF A1 cap σ δ H3) σ4 δ4 a):A1 a:=by
  rcases h with z | ⟨i,h1,h2⟩
  · exact z
  · refine (Qf2 (cap:=cap) (H:=H3) hP).mp ?_
    rcases h2 with h2 | ⟨ds,h2⟩
    · rcases gk i _ h2 with ⟨e,z⟩ | z
      · cases z
      · exact .inr ⟨i,by rw [<- j4 i (QcK hf z (fun z=>by cases z))];exact h1,.inl z⟩
    · rcases gk i _ h2 with ⟨e,z⟩ | z
      · cases z
      · exact .inr ⟨i,by rw [<- j4 i (QcK hf z (fun z=>by cases z))];exact h1,.inr ⟨ds,z⟩⟩
theorem QlN (hP:∀ a,PotA σ δ a->A1 a) (hf:Qcp cap ix=true) (j4:∀ j,j∉ix->σ4[j]? = (capS cap σ)[j]?) (gk:∀ (j:Nat) x,δ4[j]? = some x->(∃ e,x=.v e)∨(capD cap δ)[j]? = some x)
    (ri:Rel K (inF A1 cap σ δ H6) (capS cap σ) H6 (capD cap δ)) (r5:Rel K (inF A1 cap σ δ H3) σ4 H5 δ4) (kk:∀ a o,¬ A1 a->H5 a=some o->H6 a=some o):Rel K (inF A1 cap σ δ H6) σ4 H6 δ4 where
  len:=r5.len
  dom:=ri.dom
  dom0:=ri.dom0
  pt0:=ri.pt0
  kx:=ri.kx
  sl:=fun i o x h1 h2=>by
    have iv:∀ {a:Addr},Av (inF A1 cap σ δ H6) σ4 δ4 a->A1 a:=fun {a} z=>Qke hP hf j4 gk z
    rcases gk i x h2 with ⟨d,rfl⟩ | hx
    · obtain ⟨v,e,q⟩:=r5.sl i o _ h1 h2
      exact ⟨v,e,q.mv (fun a o n e=>kk a o (fun z=>n (.inl z)) e) fun a z=>.inl (.inl (iv z))⟩
    · by_cases hn:x=.no
      · subst hn;trivial
      · have h1':(capS cap σ)[i]? = some o:=by rw [<- j4 i (QcK hf hx hn)];exact h1
        have h:=ri.sl i o x h1' hx
        cases x with
        | no=>trivial
        | v d=>obtain ⟨v',e,q'⟩:=h;exact ⟨v',e,q'.mv (fun _ _ _ e=>e) fun a z=>.inl (.inl (iv z))⟩
        | own ds=>obtain ⟨l,xs,e,e2,q',f⟩:=h;exact ⟨l,xs,e,e2,q'.mv (fun _ _ _ e=>e) fun a z=>.inl (.inl (iv z)),f⟩
        | pk ds=>obtain ⟨l,xs,e,e2,q',f⟩:=h;exact ⟨l,xs,e,e2,q'.mv (fun _ _ _ e=>e) fun a z=>.inl (.inl (iv z)),f⟩
        | pot=>exact h
        | scr=>exact h
  inj:=fun i j a ds h1 h2 _=>by
    rcases gk i _ h1 with ⟨e,z⟩ | z
    · cases z
    · rcases Qd9 z with ⟨_,e⟩ | ⟨j,hj,e⟩
      · cases e
      · exfalso
        cases e2:δ[j]? with
        | none=>rw [e2] at e;cases e
        | some y=>rw [e2] at e;cases y<;>cases e
end
theorem QiD {K:PySem.W.Frag} {F:Fm} {σ:L2.St} {δ:Sts} {H1 H3:Hp} {cap:List (Option Nat)} {ix:List Nat} {wg:DG} {wt:DT} {A1:Addr->Prop} {x:V} {d:PyData} {inner:L2.St->Hp->(Hp->Prop)->Prop} {kk:Hp->Prop} {T:Sts->Prop} {N:Prop} (gok:GOk wg)
    (hf:Qcp cap ix=true) (rel:Rel K F σ H1 δ) (hA:∀ a,Av F σ δ a->A1 a) (hN:∀ a,A1 a->Av F σ δ a∨H1 a=none) (dm:∀ a,A1 a->∃ xs,H3 a=some (.lst xs)) (kp:Kp σ δ H1 H3) (dx:DA A1 H3 x d)
    (h:wg d (capD cap δ) fun δ4=>wt δ4 (fun b=>if b=true then T δ4 else N) XF)
    (hT:∀ σ4 δ4 H5,T δ4->Rel K (inF A1 cap σ δ H3) σ4 H5 δ4->Kp σ δ H3 H5->(∀ j,j∉ix->σ4[j]? = (capS cap σ)[j]?)->σ4.length=(capS cap σ).length->(∀ (j:Nat) x,δ4[j]? = some x->(∃ e,x=.v e)∨(capD cap δ)[j]? = some x)->inner σ4 H5 kk) (hF:N->∀ H5,Kp σ δ H3 H5->kk H5) :
    bOf (capS cap σ) (tG ix K wg) (tT K E0 wt) inner x H3 kk:=by
  have ri:=QhS (cap:=cap) rel hA hN dm kp
  have iv:∀ {a:Addr},Av (inF A1 cap σ δ H3) (capS cap σ) (capD cap δ) a->A1 a:=fun {a}=>(Qf2 fun a z=>hA a (QaU z)).mp
  refine ⟨inF A1 cap σ δ H3,capD cap δ,d,_,ri,dx.mv (fun _ _ _ e=>e) fun a z=>.inl (iv z),gok.h _ _ _ h,fun δ4 ⟨g4,h4⟩ σ4 r4 st4 l4 j4=>⟨Qkq hf l4 j4,inF A1 cap σ δ H3,δ4,_,XF,r4,h4,fun b hb H5 r5 kp5=>?_,outF⟩⟩
  have pots:∀ {b:Addr},PotA σ4 δ4 b->PotA σ δ b:=fun z=>Qfq r4 (fun b o _ e1 e2=>by rw [e2] at e1;cases e1) z
  have K5:Kp σ δ H3 H5:=by
    refine ⟨fun b o n e=>kp5.1 b o (fun z=>n (pots z)) e,fun b hb=>?_⟩
    by_cases z:PotA σ4 δ4 b
    · exact kp5.2 b z
    · obtain ⟨n,e⟩:=kp.2 b hb
      exact ⟨n,kp5.1 _ _ z e⟩
  exact Qc5 hb (fun z=>hT σ4 δ4 H5 z r5 K5 j4 l4 g4) fun z=>hF z H5 K5
theorem QlW {K:PySem.W.Frag} {σ σ4:L2.St} {δ δ4:Sts} {H1 H3 H5:Hp} {cap:List (Option Nat)} {we:DE} {A1:Addr->Prop} {p:Addr} {acc:List PyData} {kk:Hp->Prop} {G:PyData->Prop}
    (hpA:A1 p) (hP:∀ a,PotA σ δ a->A1 a) (hp1:H1 p=none) (hpn:¬ PotA σ δ p) (lp:Lp σ δ A1 p H1 H5 acc) (hl:acc.length<sizeLine) (r5:Rel K (inF A1 cap σ δ H3) σ4 H5 δ4) (pots:∀ b,PotA σ4 δ4 b->PotA σ δ b)
    (h:we δ4 G XF) (hk:∀ e,G e->∀ H',Lp σ δ A1 p H1 H' (acc++[e])->(∀ b o,¬ A1 b->H5 b=some o->H' b=some o)->kk H'):bElt p (tX .D K E0 we) σ4 H5 kk:=by
  refine ⟨inF A1 cap σ δ H3,δ4,G,XF,r5,h,fun e he v H6 r6 kp6 dv=>?_,outF⟩
  have k56:Kp σ δ H5 H6:=by
    refine ⟨fun b o n e=>kp6.1 b o (fun z=>n (pots b z)) e,fun b hb=>?_⟩
    by_cases z:PotA σ4 δ4 b
    · exact kp6.2 b z
    · obtain ⟨n,e⟩:=lp.kp.2 b hb
      exact ⟨n,kp6.1 _ _ z e⟩
  obtain ⟨k6,ys,e6,q6⟩:=lp.step hP hpn k56
  have up:∀ {b:Addr} {o:HO},¬ A1 b->H6 b=some o->upd H6 p (.lst (ys++[v])) b=some o:=fun {b o} n e=>by rw [Qai (fun z=>n (by rw [z];exact hpA))];exact e
  refine ⟨ys,e6,by rw [q6.length];exact hl,hk e he _ ⟨⟨fun b o n e=>?_,fun b hb=>?_⟩,ys++[v],Qad,DAs.app (q6.mv (fun _ _=>up) fun a z=>.inl z) (.cons (DA.mv dv (fun a o n e=>up (fun z=>n (.inl z)) e) fun a z=>.inl (.inl z)) .nil)⟩ fun b o n e=>up n (kp6.1 b o (fun z=>n (hP b (pots b z))) e)⟩
  · rw [Qai (fun z=>by rw [z,hp1] at e;cases e)]
    exact k6.1 b o n e
  · rw [Qai (fun z=>hpn (by rw [<- z];exact hb))]
    exact k6.2 b hb
def Qjs:Nat:=1000000
@[irreducible] def InR (items2:List PyData) (wg2:DG) (wt2:DT) (we:DE) (δ4:Sts) (acc:List PyData) (N:List PyData->Prop):Prop:=∃ Jv:Nat->List PyData->Prop,Jv 0 acc /\
  (∀ (j:Nat) acc2 d2,items2[j]? = some d2->Jv j acc2->acc2.length<Qjs/\wg2 d2 δ4 fun δ5=>wt2 δ5 (fun b=>if b=true then we δ5 (fun e=>Jv (j+1) (acc2++[e])) XF else Jv (j+1) acc2) XF)/\∀ acc2,Jv items2.length acc2->N acc2
@[irreducible] def Qgi (items:List PyData) (wg:DG) (wt:DT) (wi2:DI) (wg2:DG) (wt2:DT) (we:DE) (δ:Sts) (Q:PyData->Prop):Prop:=∃ Iv:Nat->List PyData->Prop,Iv 0 [] /\
  (∀ (i:Nat) acc d,items[i]? = some d->Iv i acc->wg d δ fun δ4=>wt δ4 (fun b=>if b=true then wi2 δ4 (fun items2=>InR items2 wg2 wt2 we δ4 acc (Iv (i+1))) XF else Iv (i+1) acc) XF)/\∀ acc,Iv items.length acc->Q (.list acc)
def Qkl (cap:List (Option Nat)) (wi:DI) (wg:DG) (wt:DT) (wi2:DI) (wg2:DG) (wt2:DT) (we:DE):DE:=fun δ Q EX=>wi δ (fun items=>Qgi items wg wt wi2 wg2 wt2 we (capD cap δ) Q) EX
section
variable {X:Cx} {E:XK}
theorem Qjr:Qjs<=sizeLine:=Nat.le_trans (by decide) QhJ
end
section
variable {X:Cx} {E:XK}
end
theorem in_fm {items2:List PyData} {wg2:DG} {wt2:DT} {we:DE} {δ4:Sts} {acc:List PyData} {N:List PyData->Prop} (G:PyData->Option PyData) (hl:acc.length+items2.length<Qjs)
    (h:∀ d∈items2,∀ (k1:Prop) (k2:PyData->Prop),(G d=none->k1)->(∀ e,G d=some e->k2 e)->wg2 d δ4 fun δ5=>wt2 δ5 (fun b=>if b=true then we δ5 k2 XF else k1) XF) (q:N (acc++items2.filterMap G)) :
    InR items2 wg2 wt2 we δ4 acc N:=by
  unfold InR
  refine ⟨fun i acc2=>acc2=acc++(items2.take i).filterMap G,by simp,fun i acc2 d hd e=>?_,fun acc2 e=>by rw [e,List.take_length];exact q⟩
  have e:acc2=acc++(items2.take i).filterMap G:=e
  have hs:(items2.take (i+1)).filterMap G=(items2.take i).filterMap G++(G d).toList:=by
    rw [List.take_add_one,hd,List.filterMap_append]
    cases e2:G d<;>simp [e2]
  refine ⟨?_,h d (List.mem_of_getElem? hd) _ _ (fun e2=>?_) fun e' e2=>?_⟩
  · have:=List.length_filterMap_le G (items2.take i)
    have h2:(items2.take i).length<=items2.length:=by rw [List.length_take];exact Nat.min_le_right _ _
    rw [e,List.length_append]
    omega
  · show acc2=acc++(items2.take (i+1)).filterMap G
    rw [hs,e2,e];simp
  · show acc2++[e']=acc++(items2.take (i+1)).filterMap G
    rw [hs,e2,e];simp
def Qg3:List V->Hp->VK->Prop:=fun xs H Q=>∃ l ns,xs=[.ref l]/\H l=some (.lst ((ns:List Int).map V.int))/\ns.length<64 /\
  ∀ t ms H2,Same H H2->H t=none->H2 t=some (.lst ((ms:List Int).map V.int))->ms.Perm ns->ms.Pairwise (·<=·)->Q (.ref t) H2
section
open Rs PySem.W PySem.Calls
variable {X:Cx}
theorem Qfx:CallR X (.builtin "sorted") Qg3:=by
  intro pins s σ H xs us Q I r h
  obtain ⟨l,ns,rfl,hl,h64,q⟩:=h
  obtain ⟨u,rfl,ru⟩:=QcC r
  cases ru
  obtain ⟨hz,its,n,rv,ho⟩:=I.hok l _ hl
  have li:=rv.length
  rw [List.length_map] at li
  refine Qcu (.inl rfl) ho rfl rfl (by omega) fun h' kp P E' hP=>?_
  have hn:(h'.push (seqObj "list" its.toArray 0)).get? h'.objs.size=some (seqObj "list" its.toArray 0):=Heap.get?_push_size _ rfl
  refine list_sort_tree (s:={ s with heap:=h'.push (seqObj "list" its.toArray 0) }) hn (Qd3 rv) (by omega) fun out ns' ia pm pw=>hP _ ?_
  have I1:Inv X pins σ H { s with heap:=h' }:=I.kept (t':=s.toks) kp
  have hf:H h'.objs.size=none:=I1.hok.fresh (Nat.le_refl _)
  obtain ⟨e,he⟩:∃ e,(sortedHeap (h'.push (seqObj "list" its.toArray 0)) h'.objs.size its out).get? h'.objs.size=some (seqObj "list" out e):=sortedHeap_at hn
  have rv':=Qee ia
  have lp:=pm.length_eq
  have I2:Inv X pins σ (upd H h'.objs.size (.lst (ns'.map V.int))) { s with heap:=sortedHeap (h'.push (seqObj "list" its.toArray 0)) h'.objs.size its out }:=
    I1.laid (t':=s.toks) (fun b x e'=>(sortedHeap_old (Nat.ne_of_lt (Heap.lt_size e')) (Nat.lt_of_lt_of_le (Heap.lt_size e') (by rw [size_push'];exact Nat.le_succ _))).trans (Heap.get?_push_of_some _ e')) (Nat.le_refl _) (show ObjOk X.prog X.w _ _ _ (.lst _) from ⟨by rw [List.length_map];exact Nat.le_of_lt (Rk.lt_line (by omega)),out.toList,e,rv',by rw [he]⟩)
  exact ⟨.ref h'.objs.size,_,I2,rfl,q _ ns' _ (Qae hf) hf Qad pm pw⟩
def QjX (K:PySem.W.Frag):List V->Hp->VK->Prop:=fun xs H Q=>QjW K xs H Q∨Qg3 xs H Q
theorem Qdy:CallR X (.builtin "sorted") (QjX X.K):=by
  intro pins s σ H xs us Q I r h
  rcases h with h | h
  · exact QgC pins s σ H xs us Q I r h
  · exact Qfx pins s σ H xs us Q I r h
end
@[irreducible] def QgR:List PyData->(PyData->Prop)->Prop
  | [.list ds],Q=>∃ ns,Qbp ds=some ns/\ns.length<64/\∀ ms:List Int,ms.Perm ns->ms.Pairwise (·<=·)->Q (.list (ms.map .int))
  | [.tuple ds],Q=>∃ ns,Qbp ds=some ns/\ns.length<64/\∀ ms:List Int,ms.Perm ns->ms.Pairwise (·<=·)->Q (.list (ms.map .int))
  | _,_=>False
theorem QcJ {A:Addr->Prop} {H:Hp}:∀ ms:List Int,DAs A H (ms.map V.int) (ms.map .int)
  | []=>.nil
  | m::ms=>.cons (.int m) (QcJ ms)
theorem Qij {K:PySem.W.Frag}:QcE (QjX K) QgR:=fun A P H vs ds R Q ln dm q h k=>by
  unfold QgR at h
  split at h
  · obtain ⟨v,rfl,hv⟩:=pd1 q
    obtain ⟨bs,hb,h64,hR⟩:=h
    rw [Qfp hb] at hv
    obtain ⟨l,xs,rfl,e,qq⟩:=hv.list
    rw [QcN qq] at e
    exact .inr ⟨l,bs,rfl,e,h64,fun t ms H2 s n e2 pm pw=>k _ (hR ms pm pw) _ H2 s (Qcz dm s n e2 (QcJ ms)) (Qbc n)⟩
  · obtain ⟨v,rfl,hv⟩:=pd1 q
    obtain ⟨bs,hb,h64,hR⟩:=h
    rw [Qfp hb] at hv
    obtain ⟨l,xs,rfl,e,qq⟩:=hv.tuple
    rw [QcN qq] at e
    exact .inl ⟨l,bs,rfl,SqT.of e,h64,fun t ms H2 s n e2 pm pw=>k _ (hR ms pm pw) _ H2 s (Qcz dm s n e2 (QcJ ms)) (Qbc n)⟩
  · exact h.elim
theorem QgQ {ds:List PyData} {Q:PyData->Prop} {ns:List Int} (h:Qbp ds=some ns) (h64:ns.length<64) (k:∀ ms:List Int,ms.Perm ns->ms.Pairwise (·<=·)->Q (.list (ms.map .int))):QgR [.list ds] Q/\QgR [.tuple ds] Q:=by
  unfold QgR
  exact ⟨⟨ns,h,h64,k⟩,ns,h,h64,k⟩
end Dl
namespace Rt
open PySem PyProof.Rows
def Qbz:Bool->Keyed->Array Keyed->Nat->Nat->Nat->StateT SortSt Sem (Option Nat):=sortPriv% PySem.Builtin.gallop
theorem QgA (lf:Bool) (kk:Keyed) (xs:Array Keyed) (b n h:Nat):Qbz lf kk xs b n h=(do
  let bey (z:Nat):StateT SortSt Sem (Option Bool):=do
    let x <- elem' xs (b+z)
    if lf then lt' x kk else return (<- lt' kk x).map (!·)
  let mut l0:=0
  let mut o0:=1
  let mut u:=0
  let mut v:=0
  let some r0 <- bey h | return none
  if r0 then
    let mo:=n - h
    for _ in [0:n] do
      if o0≥mo then break
      let some r1 <- bey (h+o0) | return none
      if !r1 then break
      l0:=o0
      o0:=2*o0+1
    u:=h+l0+1
    v:=h+min o0 mo
  else
    let mo:=h+1
    for _ in [0:n] do
      if o0≥mo then break
      let some r1 <- bey (h - o0) | return none
      if r1 then break
      l0:=o0
      o0:=2*o0+1
    u:=h+1 - min o0 mo
    v:=h - l0
  for _ in [0:n] do
    if u≥v then break
    let m:=u+(v - u) / 2
    let some r1 <- bey m | return none
    if r1 then u:=m+1 else v:=m
  return some v):=rfl
structure Ord (c:Keyed->Keyed->Bool):Prop where
  asym:∀ x y,c x y=true->c y x=false
  trans:∀ x y z,c y x=false->c z y=false->c z x=false
abbrev le (c:Keyed->Keyed->Bool) (x y:Keyed):Prop:=c y x=false
section
variable {c:Keyed->Keyed->Bool}
theorem Ord.irr (o:Ord c) (x:Keyed):c x x=false:=by
  cases h:c x x with
  | false=>rfl
  | true=>rw [o.asym x x h] at h;cases h
theorem Ord.tr (o:Ord c) {x y z:Keyed} (a:le c x y) (b:le c y z):le c x z:=o.trans x y z a b
theorem Ord.lt_le (o:Ord c) {x y:Keyed} (a:c x y=true):le c x y:=o.asym x y a
theorem Ord.tr_lt (o:Ord c) {x y z:Keyed} (a:le c x y) (b:c y z=true):c x z=true:=by
  cases h:c x z with
  | true=>rfl
  | false=>rw [show c y z=false from o.trans z x y h a] at b;cases b
end
def kx (xs:Array Keyed) (i:Nat):Keyed:=(xs[i]?).getD (Value.none,Value.none)
theorem QlK {xs:Array Keyed} {i:Nat} (h:i<xs.size):xs[i]? = some (kx xs i):=by
  unfold kx;rw [getElem?_pos xs i h];rfl
theorem Qfn {xs ys:Array Keyed} {i j:Nat} (h:xs[i]? = ys[j]?):kx xs i=kx ys j:=by unfold kx;rw [h]
def Sg (c:Keyed->Keyed->Bool) (xs:Array Keyed) (lo hi:Nat):Prop:=∀ i j,lo<=i->i<=j->j<hi->le c (kx xs i) (kx xs j)
structure Asks (prog:Program) (w:World) (A:Around) (s:Shared) (κ:SortKind) (a₀:Array Keyed) (c:Keyed->Keyed->Bool):Prop where
  ord:Ord c
  lt:∀ x y,x∈a₀.toList->y∈a₀.toList->∀ (C:Bool->Shared->Prop) (E':Value->Shared->Prop),C (c x y) s->wpAny (model prog w) A (keyLt' κ x.1 y.1) C E' s
structure SB (κ:SortKind) (a₀:Array Keyed) (st:SortSt):Prop where
  perm:(arrOf st).Perm a₀
  kind:kindOf st=κ
  failed:failedOf st=none
theorem SB.size {κ:SortKind} {a₀:Array Keyed} {st:SortSt} (h:SB κ a₀ st):(arrOf st).size=a₀.size:=h.perm.size_eq
theorem SB.mem {κ:SortKind} {a₀:Array Keyed} {st:SortSt} (h:SB κ a₀ st) {p:Keyed} (e:p∈(arrOf st).toList):p∈a₀.toList:=(Array.perm_iff_toList_perm.mp h.perm).mem_iff.mp e
theorem memL {xs:Array Keyed} {i:Nat} (h:i<xs.size):kx xs i∈xs.toList:=Array.mem_toList_iff.mpr (Array.mem_of_getElem? (QlK h))
section
variable {prog:Program} {w:World} {A:Around} {E:Value->Shared->Prop} {s:Shared} {a₀:Array Keyed} {κ:SortKind} {c:Keyed->Keyed->Bool}
theorem Qef {st:SortSt} {x y:Keyed} {Q:Option Bool->SortSt->Prop} (hA:Asks prog w A s κ a₀ c) (hk:kindOf st=κ) (hx:x∈a₀.toList) (hy:y∈a₀.toList) (h:Q (some (c x y)) st):wpS (model prog w) A E s (lt' x y) Q st:=by
  rw [lt'_eq]
  refine wpS_bind (wpS_get ?_)
  rw [hk]
  refine wpS_bind (wpS_lift (wpAny_attempt (hA.lt x y hx hy _ _ ⟨rfl,?_⟩)))
  exact wpS_pure h
theorem Qab {st:SortSt} {arr:Array Keyed} {i:Nat} {Q:Keyed->SortSt->Prop} (hi:i<arr.size) (h:Q (kx arr i) st):wpS (model prog w) A E s (elem' arr i) Q st:=by
  rw [elem'_eq,QlK hi]
  exact wpS_pure h
theorem QcO {st:SortSt} {i j:Nat} {Q:Option Bool->SortSt->Prop} (hA:Asks prog w A s κ a₀ c) (hB:SB κ a₀ st) (hi:i<a₀.size) (hj:j<a₀.size) (h:Q (some (c (kx (arrOf st) i) (kx (arrOf st) j))) st):wpS (model prog w) A E s (ltAt' i j) Q st:=by
  have h1:i<(arrOf st).size:=by rw [hB.size];exact hi
  have h2:j<(arrOf st).size:=by rw [hB.size];exact hj
  rw [ltAt'_eq]
  refine wpS_bind (wpS_get ?_)
  refine wpS_bind (Qab h1 ?_)
  refine wpS_bind (Qab h2 ?_)
  exact Qef hA hB.kind (hB.mem (memL h1)) (hB.mem (memL h2)) h
def beyB (c:Keyed->Keyed->Bool) (lf:Bool) (kk:Keyed) (xs:Array Keyed) (i:Nat):Bool:=if lf then c (kx xs i) kk else !c kk (kx xs i)
theorem QjG (o:Ord c) {lf:Bool} {kk:Keyed} {xs:Array Keyed} {b n:Nat} (sg:Sg c xs b (b+n)) {i j:Nat} (hij:i<=j) (hj:j<n) (h:beyB c lf kk xs (b+j)=true):beyB c lf kk xs (b+i)=true:=by
  have l:=sg (b+i) (b+j) (by omega) (by omega) (by omega)
  unfold beyB at h ⊢
  cases lf with
  | true=>exact o.tr_lt l h
  | false=>
    simp only [Bool.false_eq_true,if_false,Bool.not_eq_true'] at h ⊢
    exact o.tr l h
theorem Qam {st:SortSt} {lf:Bool} {kk:Keyed} {xs:Array Keyed} {b n hint:Nat} {Q:Option Nat->SortSt->Prop} (hA:Asks prog w A s κ a₀ c) (hk:kindOf st=κ) (hkey:kk∈a₀.toList) (harr:∀ p∈xs.toList,p∈a₀.toList) (hb:b+n<=xs.size) (hh:hint<n) (sg:Sg c xs b (b+n))
    (h:∀ k,k<=n->(∀ i,i<k->beyB c lf kk xs (b+i)=true)->(∀ i,k<=i->i<n->beyB c lf kk xs (b+i)=false)->Q (some k) st):wpS (model prog w) A E s (Qbz lf kk xs b n hint) Q st:=by
  have bey:∀ (i:Nat) (Q':Option Bool->SortSt->Prop),i<n->Q' (some (beyB c lf kk xs (b+i))) st->wpS (model prog w) A E s (do
      let x <- elem' xs (b+i)
      if lf then lt' x kk else return (<- lt' kk x).map (!·)) Q' st:=fun i Q' hi hq=>by
    have hs:b+i<xs.size:=by omega
    refine wpS_bind (Qab hs ?_)
    have pm:=harr _ (memL hs)
    unfold beyB at hq
    cases lf with
    | true=>exact Qef hA hk pm hkey hq
    | false=>exact wpS_bind (Qef hA hk hkey pm (wpS_pure hq))
  have mono:∀ {i j:Nat},i<=j->j<n->beyB c lf kk xs (b+j)=true->beyB c lf kk xs (b+i)=true:=fun hij hj h=>QjG hA.ord sg hij hj h
  have monoF:∀ {i j:Nat},i<=j->j<n->beyB c lf kk xs (b+i)=false->beyB c lf kk xs (b+j)=false:=fun {i j} hij hj h=>by
    cases e:beyB c lf kk xs (b+j) with
    | false=>rfl
    | true=>rw [mono hij hj e] at h;cases h
  rw [QgA]
  dsimp only
  refine wpS_bind (bey hint _ hh ?_)
  cases hr:beyB c lf kk xs (b+hint) with
  | true=>
    dsimp only
    rw [if_pos rfl]
    refine wpS_bind (wpS_mono (wpS_forRange (I:=fun x z st'=>st'=st/\∃ l o,z=(none,l,o)/\l<o/\x+1<=o/\hint+l<n/\beyB c lf kk xs (b+(hint+l))=true)
      (Q:=fun z st'=>st'=st/\∃ l o,z=(none,l,o)/\l<o/\hint+l<n/\beyB c lf kk xs (b+(hint+l))=true/\(hint+o<n->beyB c lf kk xs (b+(hint+o))=false)) ?step ?fin ⟨rfl,0,1,rfl,by omega,by omega,by omega,hr⟩) ?post)
    case fin=>
      rintro z st' ⟨rfl,l,o,rfl,h1,h2,h3,h4⟩
      exact ⟨rfl,l,o,rfl,h1,h3,h4,fun h5=>by omega⟩
    case step=>
      rintro x z st' _ hx ⟨rfl,l,o,rfl,h1,h2,h3,h4⟩
      dsimp only
      by_cases g:o≥n - hint
      · rw [if_pos g]
        exact wpS_pure ⟨rfl,l,o,rfl,h1,h3,h4,fun h5=>by omega⟩
      · rw [if_neg g]
        refine wpS_bind (bey (hint+o) _ (by omega) ?_)
        cases e:beyB c lf kk xs (b+(hint+o)) with
        | true=>exact wpS_pure ⟨rfl,o,2*o+1,rfl,by omega,by omega,by omega,e⟩
        | false=>exact wpS_pure ⟨rfl,l,o,rfl,h1,h3,h4,fun _=>e⟩
    case post=>
      rintro z st' ⟨rfl,l,o,rfl,h1,h3,h4,h5⟩
      dsimp only
      refine wpS_bind (wpS_mono (wpS_forRange (I:=fun x z st''=>st''=st'/\∃ u v,z=(none,u,v)/\v<=n/\u<=v/\v - u<=n - x/\(∀ i,i<u->beyB c lf kk xs (b+i)=true)/\(∀ i,v<=i->i<n->beyB c lf kk xs (b+i)=false))
        (Q:=fun z st''=>st''=st'/\∃ v,z=(none,v,v)/\v<=n/\(∀ i,i<v->beyB c lf kk xs (b+i)=true)/\(∀ i,v<=i->i<n->beyB c lf kk xs (b+i)=false)) ?step2 ?fin2 ?init2) ?post2)
      case init2=>
        refine ⟨rfl,_,_,rfl,by omega,by omega,by omega,fun i hi=>mono (by omega) h3 h4,fun i hi hn=>?_⟩
        exact monoF (i:=hint+o) (by omega) hn (h5 (by omega))
      case fin2=>
        rintro z st'' ⟨rfl,u,v,rfl,g1,g2,g3,g4,g5⟩
        have:u=v:=by omega
        subst this
        exact ⟨rfl,u,rfl,g1,g4,g5⟩
      case step2=>
        rintro x z st'' _ hx ⟨rfl,u,v,rfl,g1,g2,g3,g4,g5⟩
        dsimp only
        by_cases g:u≥v
        · rw [if_pos g]
          have:u=v:=by omega
          subst this
          exact wpS_pure ⟨rfl,u,rfl,g1,g4,g5⟩
        · rw [if_neg g]
          refine wpS_bind (bey (u+(v - u) / 2) _ (by omega) ?_)
          cases e:beyB c lf kk xs (b+(u+(v - u) / 2)) with
          | true=>exact wpS_pure ⟨rfl,_,_,rfl,g1,by omega,by omega,fun i hi=>mono (by omega) (by omega) e,g5⟩
          | false=>exact wpS_pure ⟨rfl,_,_,rfl,by omega,by omega,by omega,g4,fun i hi hn=>monoF hi hn e⟩
      case post2=>
        rintro z st'' ⟨rfl,v,rfl,g1,g4,g5⟩
        exact wpS_pure (h v g1 g4 g5)
  | false=>
    dsimp only
    rw [if_neg (by decide)]
    refine wpS_bind (wpS_mono (wpS_forRange (I:=fun x z st'=>st'=st/\∃ l o,z=(none,l,o)/\l<o/\x+1<=o/\l<=hint/\beyB c lf kk xs (b+(hint - l))=false)
      (Q:=fun z st'=>st'=st/\∃ l o,z=(none,l,o)/\l<o/\l<=hint/\beyB c lf kk xs (b+(hint - l))=false/\(o<=hint->beyB c lf kk xs (b+(hint - o))=true)) ?step ?fin ⟨rfl,0,1,rfl,by omega,by omega,by omega,hr⟩) ?post)
    case fin=>
      rintro z st' ⟨rfl,l,o,rfl,h1,h2,h3,h4⟩
      exact ⟨rfl,l,o,rfl,h1,h3,h4,fun h5=>by omega⟩
    case step=>
      rintro x z st' _ hx ⟨rfl,l,o,rfl,h1,h2,h3,h4⟩
      dsimp only
      by_cases g:o≥hint+1
      · rw [if_pos g]
        exact wpS_pure ⟨rfl,l,o,rfl,h1,h3,h4,fun h5=>by omega⟩
      · rw [if_neg g]
        refine wpS_bind (bey (hint - o) _ (by omega) ?_)
        cases e:beyB c lf kk xs (b+(hint - o)) with
        | false=>exact wpS_pure ⟨rfl,o,2*o+1,rfl,by omega,by omega,by omega,e⟩
        | true=>exact wpS_pure ⟨rfl,l,o,rfl,h1,h3,h4,fun _=>e⟩
    case post=>
      rintro z st' ⟨rfl,l,o,rfl,h1,h3,h4,h5⟩
      dsimp only
      refine wpS_bind (wpS_mono (wpS_forRange (I:=fun x z st''=>st''=st'/\∃ u v,z=(none,u,v)/\v<=n/\u<=v/\v - u<=n - x/\(∀ i,i<u->beyB c lf kk xs (b+i)=true)/\(∀ i,v<=i->i<n->beyB c lf kk xs (b+i)=false))
        (Q:=fun z st''=>st''=st'/\∃ v,z=(none,v,v)/\v<=n/\(∀ i,i<v->beyB c lf kk xs (b+i)=true)/\(∀ i,v<=i->i<n->beyB c lf kk xs (b+i)=false)) ?step2 ?fin2 ?init2) ?post2)
      case init2=>
        refine ⟨rfl,_,_,rfl,by omega,by omega,by omega,fun i hi=>?_,fun i hi hn=>monoF hi hn h4⟩
        exact mono (j:=hint - o) (by omega) (by omega) (h5 (by omega))
      case fin2=>
        rintro z st'' ⟨rfl,u,v,rfl,g1,g2,g3,g4,g5⟩
        have:u=v:=by omega
        subst this
        exact ⟨rfl,u,rfl,g1,g4,g5⟩
      case step2=>
        rintro x z st'' _ hx ⟨rfl,u,v,rfl,g1,g2,g3,g4,g5⟩
        dsimp only
        by_cases g:u≥v
        · rw [if_pos g]
          have:u=v:=by omega
          subst this
          exact wpS_pure ⟨rfl,u,rfl,g1,g4,g5⟩
        · rw [if_neg g]
          refine wpS_bind (bey (u+(v - u) / 2) _ (by omega) ?_)
          cases e:beyB c lf kk xs (b+(u+(v - u) / 2)) with
          | true=>exact wpS_pure ⟨rfl,_,_,rfl,g1,by omega,by omega,fun i hi=>mono (by omega) (by omega) e,g5⟩
          | false=>exact wpS_pure ⟨rfl,_,_,rfl,by omega,by omega,by omega,g4,fun i hi hn=>monoF hi hn e⟩
      case post2=>
        rintro z st'' ⟨rfl,v,rfl,g1,g4,g5⟩
        exact wpS_pure (h v g1 g4 g5)
structure Fb (κ:SortKind) (a₀:Array Keyed) (lo:Nat) (st st':SortSt):Prop where
  sb:SB κ a₀ st'
  pend:pendingOf st'=pendingOf st
  low:∀ k,k<lo->kx (arrOf st') k=kx (arrOf st) k
theorem Fb.refl {st:SortSt} {lo:Nat} (h:SB κ a₀ st):Fb κ a₀ lo st st:=⟨h,rfl,fun _ _=>rfl⟩
theorem QhM {xs:Array Keyed} {i j:Nat} (hj:j<=xs.size) (k:Nat):kx (mirror xs i j ((j - i) / 2)) k=if i<=k/\k<j then kx xs (i+j - 1 - k) else kx xs k:=by
  have e:=getElem?_mirror_all (i:=i) hj k
  by_cases h1:i<=k/\k<j
  · rw [if_pos h1] at e ⊢;exact Qfn e
  · rw [if_neg h1] at e ⊢;exact Qfn e
theorem Qbq {st:SortSt} {i j lo:Nat} {st0:SortSt} {Q:Unit->SortSt->Prop} (fb:Fb κ a₀ lo st0 st) (hi:lo<=i) (hj:j<=a₀.size)
    (h:∀ st',Fb κ a₀ lo st0 st'->(∀ k,kx (arrOf st') k=if i<=k/\k<j then kx (arrOf st) (i+j - 1 - k) else kx (arrOf st) k)->Q () st'):wpS (model prog w) A E s (reverseSlice' i j) Q st:=by
  rw [reverseSlice'_eq]
  have km:∀ k,kx (mirror (arrOf st) i j ((j - i) / 2)) k=if i<=k/\k<j then kx (arrOf st) (i+j - 1 - k) else kx (arrOf st) k:=fun k=>QhM (by rw [fb.sb.size];exact hj) k
  refine wpS_modify (h _ ⟨⟨(mirror_perm _ _ _ _).trans fb.sb.perm,fb.sb.kind,fb.sb.failed⟩,fb.pend,fun k hk=>?_⟩ km)
  show kx (mirror (arrOf st) i j ((j - i) / 2)) k=_
  rw [km,if_neg (by omega)]
  exact fb.low k hk
def ascL (lo a nr:Nat):StateT SortSt Sem (Option (Option Nat)×Nat):=
  forIn [a:nr] ((none,a):Option (Option Nat)×Nat) fun _ z=>do
    let r <- ltAt' (lo+z.2) (lo+z.2 - 1)
    match r with
    | some b=>if b=true then pure (ForInStep.done (none,z.2)) else pure (ForInStep.yield (none,z.2+1))
    | _=>pure (ForInStep.done (some none,z.2))
theorem QcQ {st:SortSt} {lo a nr:Nat} {Q:Option (Option Nat)×Nat->SortSt->Prop} (hA:Asks prog w A s κ a₀ c) (hn:lo+nr<=a₀.size) (h1:1<=a) (han:a<=nr) (hB:SB κ a₀ st) (sg:Sg c (arrOf st) lo (lo+a))
    (h:∀ n,a<=n->n<=nr->Sg c (arrOf st) lo (lo+n)->(n=nr∨c (kx (arrOf st) (lo+n)) (kx (arrOf st) (lo+n - 1))=true)->Q (none,n) st):wpS (model prog w) A E s (ascL lo a nr) Q st:=by
  unfold ascL
  refine wpS_forRange (I:=fun x z st'=>st'=st/\z=(none,x)/\Sg c (arrOf st) lo (lo+x)) ?step ?fin ⟨rfl,rfl,sg⟩
  case fin=>
    rintro z st' ⟨rfl,rfl,hs⟩
    rw [show max a nr=nr by omega] at hs ⊢
    exact h nr han (Nat.le_refl _) hs (.inl rfl)
  case step=>
    rintro x z st' hax hxn ⟨rfl,rfl,hs⟩
    dsimp only
    refine wpS_bind (QcO hA hB (by omega) (by omega) ?_)
    cases e:c (kx (arrOf st') (lo+x)) (kx (arrOf st') (lo+x - 1)) with
    | true=>exact wpS_pure (h x hax (by omega) hs (.inr e))
    | false=>
      refine wpS_pure ⟨rfl,rfl,fun i j hi hij hj=>?_⟩
      by_cases z:j<lo+x
      · exact hs i j hi hij z
      · have zj:j=lo+x:=by omega
        subst zj
        by_cases zi:i=lo+x
        · subst zi;exact hA.ord.irr _
        · exact hA.ord.tr (hs i (lo+x - 1) hi (by omega) (by omega)) e
def Ng (c:Keyed->Keyed->Bool) (xs:Array Keyed) (lo hi:Nat):Prop:=∀ i j,lo<=i->i<=j->j<hi->le c (kx xs j) (kx xs i)
def Eqv (c:Keyed->Keyed->Bool) (x y:Keyed):Prop:=le c x y/\le c y x
theorem Eqv.ng (o:Ord c) {xs ys:Array Keyed} {lo hi:Nat} (h:∀ k,lo<=k->k<hi->Eqv c (kx ys k) (kx xs k)) (n:Ng c xs lo hi):Ng c ys lo hi:=fun i j hi' hij hj=>
  o.tr (h j (by omega) hj).1 (o.tr (n i j hi' hij hj) (h i hi' (by omega)).2)
theorem QdO (o:Ord c) {xs ys:Array Keyed} {u v:Nat} (h:∀ k,kx ys k=if u<=k/\k<v then kx xs (u+v - 1 - k) else kx xs k) (q:∀ k,u<=k->k<v->Eqv c (kx xs k) (kx xs (v - 1))) (k:Nat):Eqv c (kx ys k) (kx xs k):=by
  rw [h k]
  split
  · rename_i z
    have a:=q (u+v - 1 - k) (by omega) (by omega)
    have b:=q k z.1 z.2
    exact ⟨o.tr a.1 b.2,o.tr b.1 a.2⟩
  · exact ⟨o.irr _,o.irr _⟩
def descL (lo n nr:Nat):StateT SortSt Sem (Option (Option Nat)×Nat×Nat):=
  forIn [n:nr] ((none,n,0):Option (Option Nat)×Nat×Nat) fun _ z=>do
    let r <- ltAt' (lo+z.2.1) (lo+z.2.1 - 1)
    match r with
    | some b=>
      if b=true then
        if z.2.2 > 0 then do
          reverseSlice' (lo+z.2.1 - (z.2.2+1)) (lo+z.2.1)
          pure (ForInStep.yield (none,z.2.1+1,0))
        else pure (ForInStep.yield (none,z.2.1+1,0))
      else do
        let r <- ltAt' (lo+z.2.1 - 1) (lo+z.2.1)
        match r with
        | some b=>
          if b=true then pure (ForInStep.done (none,z.2.1,z.2.2))
          else pure (ForInStep.yield (none,z.2.1+1,z.2.2+1))
        | _=>pure (ForInStep.done (some none,z.2.1,z.2.2))
    | _=>pure (ForInStep.done (some none,z.2.1,z.2.2))
theorem Qc0 (o:Ord c) {xs:Array Keyed} {lo n:Nat} (h:Ng c xs lo (lo+n)) (h1:1<=n) (l:le c (kx xs (lo+n)) (kx xs (lo+n - 1))):Ng c xs lo (lo+(n+1)):=fun i j hi hij hj=>by
  by_cases z:j<lo+n
  · exact h i j hi hij z
  · have zj:j=lo+n:=by omega
    subst zj
    by_cases zi:i=lo+n
    · subst zi;exact o.irr _
    · exact o.tr l (h i (lo+n - 1) hi (by omega) (by omega))
theorem QfD {st st0:SortSt} {lo n nr:Nat} {Q:Option (Option Nat)×Nat×Nat->SortSt->Prop} (hA:Asks prog w A s κ a₀ c) (hn:lo+nr<=a₀.size) (h1:1<=n) (han:n<=nr) (fb:Fb κ a₀ lo st0 st) (ng:Ng c (arrOf st) lo (lo+n))
    (h:∀ m q st',n<=m->m<=nr->Fb κ a₀ lo st0 st'->Ng c (arrOf st') lo (lo+m)->q+1<=m->(∀ k,lo+m - (q+1)<=k->k<lo+m->Eqv c (kx (arrOf st') k) (kx (arrOf st') (lo+m - 1)))->Q (none,m,q) st'):wpS (model prog w) A E s (descL lo n nr) Q st:=by
  unfold descL
  have ir:∀ x,Eqv c x x:=fun x=>⟨hA.ord.irr x,hA.ord.irr x⟩
  refine wpS_forRange (I:=fun x z st'=>∃ q,z=(none,x,q)/\Fb κ a₀ lo st0 st'/\Ng c (arrOf st') lo (lo+x)/\q+1<=x/\(∀ k,lo+x - (q+1)<=k->k<lo+x->Eqv c (kx (arrOf st') k) (kx (arrOf st') (lo+x - 1)))) ?step ?fin
    ⟨0,rfl,fb,ng,h1,fun k k1 k2=>by rw [show k=lo+n - 1 by omega];exact ir _⟩
  case fin=>
    rintro z st' ⟨q,rfl,f,g,g1,g2⟩
    rw [show max n nr=nr by omega] at g g1 g2 ⊢
    exact h nr q st' han (Nat.le_refl _) f g g1 g2
  case step=>
    rintro x z st' hax hxn ⟨q,rfl,f,g,g1,g2⟩
    dsimp only
    refine wpS_bind (QcO hA f.sb (by omega) (by omega) ?_)
    cases e:c (kx (arrOf st') (lo+x)) (kx (arrOf st') (lo+x - 1)) with
    | true=>
      dsimp only
      rw [if_pos rfl]
      by_cases zq:q > 0
      · rw [if_pos zq]
        refine wpS_bind (Qbq f (by omega) (by omega) fun st2 f2 km=>wpS_pure ⟨0,rfl,f2,?_,by omega,fun k k1 k2=>by rw [show k=lo+(x+1) - 1 by omega];exact ir _⟩)
        refine Eqv.ng hA.ord (xs:=arrOf st') (fun k _ _=>QdO hA.ord km g2 k) (Qc0 hA.ord g (by omega) (hA.ord.lt_le e))
      · rw [if_neg zq]
        exact wpS_pure ⟨0,rfl,f,Qc0 hA.ord g (by omega) (hA.ord.lt_le e),by omega,fun k k1 k2=>by rw [show k=lo+(x+1) - 1 by omega];exact ir _⟩
    | false=>
      dsimp only
      rw [if_neg (by decide)]
      refine wpS_bind (QcO hA f.sb (by omega) (by omega) ?_)
      cases e2:c (kx (arrOf st') (lo+x - 1)) (kx (arrOf st') (lo+x)) with
      | true=>exact wpS_pure (h x q st' hax (by omega) f g g1 g2)
      | false=>
        refine wpS_pure ⟨q+1,rfl,f,Qc0 hA.ord g (by omega) e2,by omega,fun k k1 k2=>?_⟩
        rw [show lo+(x+1) - 1=lo+x by omega]
        by_cases zk:k=lo+x
        · subst zk;exact ir _
        · have a:=g2 k (by omega) (by omega)
          exact ⟨hA.ord.tr a.1 e,hA.ord.tr e2 a.2⟩
theorem Qjk {xs ys:Array Keyed} {lo hi:Nat} (h:∀ k,kx ys k=if lo<=k/\k<hi then kx xs (lo+hi - 1 - k) else kx xs k) (n:Ng c xs lo hi):Sg c ys lo hi:=fun i j hi' hij hj=>by
  rw [h i,h j,if_pos (by omega),if_pos (by omega)]
  exact n _ _ (by omega) (by omega) (by omega)
theorem QdB {st:SortSt} {lo nr:Nat} {Q:Option Nat->SortSt->Prop} (hA:Asks prog w A s κ a₀ c) (hn:lo+nr<=a₀.size) (h1:1<=nr) (hB:SB κ a₀ st)
    (h:∀ m st',Fb κ a₀ lo st st'->1<=m->m<=nr->Sg c (arrOf st') lo (lo+m)->Q (some m) st'):wpS (model prog w) A E s (countRun' lo nr) Q st:=by
  rw [countRun'_eq]
  dsimp only
  refine wpS_bind (QcQ (lo:=lo) (a:=1) (nr:=nr) hA hn (Nat.le_refl _) h1 hB (fun i j hi hij hj=>by rw [show i=j by omega];exact hA.ord.irr _) fun n n1 n2 sg hor=>?_)
  dsimp only
  by_cases zn:n=nr
  · rw [if_pos (by simpa using zn)]
    exact wpS_pure (h n st (Fb.refl hB) n1 n2 sg)
  · rw [if_neg (by simpa using zn)]
    have hlt:=hor.resolve_left zn
    by_cases zg:n > 1
    · rw [if_pos zg]
      refine wpS_bind (QcO hA hB (by omega) (by omega) ?_)
      cases e:c (kx (arrOf st) lo) (kx (arrOf st) (lo+n - 1)) with
      | true=>exact wpS_pure (h n st (Fb.refl hB) n1 n2 sg)
      | false=>
        have all:∀ k,lo<=k->k<lo+n->Eqv c (kx (arrOf st) k) (kx (arrOf st) (lo+n - 1)):=fun k k1 k2=>
          ⟨sg k (lo+n - 1) k1 (by omega) (by omega),hA.ord.tr e (sg lo k (Nat.le_refl _) k1 k2)⟩
        dsimp only
        rw [if_neg (by decide)]
        refine wpS_bind (Qbq (Fb.refl hB) (Nat.le_refl _) (by omega) fun st2 f2 km=>?_)
        have ng2:Ng c (arrOf st2) lo (lo+(n+1)):=by
          refine Eqv.ng hA.ord (xs:=arrOf st) (fun k k1 k2=>QdO hA.ord km all k) (Qc0 hA.ord (fun i j i1 ij j1=>?_) n1 (hA.ord.lt_le hlt))
          have a:=all i i1 (by omega)
          have b:=all j (by omega) j1
          exact hA.ord.tr b.1 a.2
        refine wpS_bind (wpS_lift (wpAny_rule ⟨rfl,?_⟩))
        refine wpS_bind (QfD (lo:=lo) (n:=n+1) (nr:=nr) hA hn (by omega) (by omega) f2 (ng2) fun m q st' m1 m2 f5 g g1 g2=>?_)
        dsimp only
        by_cases zq:q > 0
        · rw [if_pos zq]
          refine wpS_bind (Qbq f5 (by omega) (by omega) fun st3 f3 km3=>?_)
          refine wpS_bind (Qbq f3 (Nat.le_refl _) (by omega) fun st4 f4 km4=>?_)
          refine wpS_bind (QcQ (lo:=lo) (a:=m) (nr:=nr) hA hn (by omega) m2 f4.sb (Qjk km4 (Eqv.ng hA.ord (xs:=arrOf st') (fun k _ _=>QdO hA.ord km3 g2 k) g)) fun k k1 k2 sg4 _=>wpS_pure (h k st4 f4 (by omega) k2 sg4))
        · rw [if_neg zq]
          refine wpS_bind (Qbq f5 (Nat.le_refl _) (by omega) fun st4 f4 km4=>?_)
          refine wpS_bind (QcQ (lo:=lo) (a:=m) (nr:=nr) hA hn (by omega) m2 f4.sb (Qjk km4 (g)) fun k k1 k2 sg4 _=>wpS_pure (h k st4 f4 (by omega) k2 sg4))
    · rw [if_neg zg]
      have z1:n=1:=by omega
      subst z1
      refine wpS_bind (wpS_lift (wpAny_rule ⟨rfl,?_⟩))
      refine wpS_bind (QfD (lo:=lo) (n:=1+1) (nr:=nr) hA hn (by omega) (by omega) (Fb.refl hB) (Qc0 hA.ord (fun i j i1 ij j1=>by rw [show i=j by omega];exact hA.ord.irr _) n1 (hA.ord.lt_le hlt)) fun m q st' m1 m2 f5 g g1 g2=>?_)
      dsimp only
      by_cases zq:q > 0
      · rw [if_pos zq]
        refine wpS_bind (Qbq f5 (by omega) (by omega) fun st3 f3 km3=>?_)
        refine wpS_bind (Qbq f3 (Nat.le_refl _) (by omega) fun st4 f4 km4=>?_)
        refine wpS_bind (QcQ (lo:=lo) (a:=m) (nr:=nr) hA hn (by omega) m2 f4.sb (Qjk km4 (Eqv.ng hA.ord (xs:=arrOf st') (fun k _ _=>QdO hA.ord km3 g2 k) g)) fun k k1 k2 sg4 _=>wpS_pure (h k st4 f4 (by omega) k2 sg4))
      · rw [if_neg zq]
        refine wpS_bind (Qbq f5 (Nat.le_refl _) (by omega) fun st4 f4 km4=>?_)
        refine wpS_bind (QcQ (lo:=lo) (a:=m) (nr:=nr) hA hn (by omega) m2 f4.sb (Qjk km4 (g)) fun k k1 k2 sg4 _=>wpS_pure (h k st4 f4 (by omega) k2 sg4))
theorem QhN {xs:Array Keyed} {src d:Nat} (hs:src<xs.size) (hd:d<=src) (k:Nat):kx (bubble xs src d) k=if k=src - d then kx xs src else if src - d<k/\k<=src then kx xs (k - 1) else kx xs k:=by
  have e:=getElem?_bubble hs d hd k
  by_cases h1:k=src - d
  · rw [if_pos h1] at e ⊢;exact Qfn e
  · rw [if_neg h1] at e ⊢
    by_cases h2:src - d<k/\k<=src
    · rw [if_pos h2] at e ⊢;exact Qfn e
    · rw [if_neg h2] at e ⊢;exact Qfn e
theorem QcP {st:SortSt} {lo n ok:Nat} {Q:Bool->SortSt->Prop} (hA:Asks prog w A s κ a₀ c) (hn:lo+n<=a₀.size) (h1:1<=ok) (hok:ok<=n) (hB:SB κ a₀ st) (sg:Sg c (arrOf st) lo (lo+ok))
    (h:∀ st',Fb κ a₀ lo st st'->Sg c (arrOf st') lo (lo+n)->Q true st'):wpS (model prog w) A E s (binarySort' lo n ok) Q st:=by
  rw [binarySort'_eq]
  refine wpS_bind (wpS_mono (wpS_forRange (I:=fun k z st'=>z=(none,())/\Fb κ a₀ lo st st'/\Sg c (arrOf st') lo (lo+min k n)) (Q:=fun z st'=>z=(none,())/\Fb κ a₀ lo st st'/\Sg c (arrOf st') lo (lo+n)) ?step ?fin ⟨rfl,Fb.refl hB,by rw [show min (max ok 1) n=ok by omega];exact sg⟩) ?post)
  case post=>
    rintro z st' ⟨rfl,f,g⟩
    exact wpS_pure (h st' f g)
  case fin=>
    rintro z st' ⟨rfl,f,g⟩
    rw [show min (max (max ok 1) n) n=n by omega] at g
    exact ⟨rfl,f,g⟩
  case step=>
    rintro k z st' hak hkn ⟨rfl,f,g⟩
    rw [show min k n=k by omega] at g
    refine wpS_bind (wpS_mono (wpS_forRange (I:=fun x z st''=>st''=st'/\∃ l r,z=(none,l,r)/\l<=r/\r<=k/\r - l<=k - x/\(∀ i,i<l->le c (kx (arrOf st') (lo+i)) (kx (arrOf st') (lo+k)))/\(∀ i,r<=i->i<k->le c (kx (arrOf st') (lo+k)) (kx (arrOf st') (lo+i))))
      (Q:=fun z st''=>st''=st'/\∃ l r,z=(none,l,r)/\l<=k/\(∀ i,i<l->le c (kx (arrOf st') (lo+i)) (kx (arrOf st') (lo+k)))/\(∀ i,l<=i->i<k->le c (kx (arrOf st') (lo+k)) (kx (arrOf st') (lo+i)))) ?istep ?ifin ⟨rfl,0,k,rfl,by omega,by omega,by omega,fun i hi=>by omega,fun i a b=>by omega⟩) ?ipost)
    case ifin=>
      rintro z st'' ⟨rfl,l,r,rfl,h1,h2,h3,h4,h5⟩
      have:l=r:=by omega
      subst this
      exact ⟨rfl,l,l,rfl,h2,h4,h5⟩
    case istep=>
      rintro x z st'' _ hx ⟨rfl,l,r,rfl,h1,h2,h3,h4,h5⟩
      dsimp only
      by_cases zz:l≥r
      · rw [if_pos zz]
        have:l=r:=by omega
        subst this
        exact wpS_pure ⟨rfl,l,l,rfl,h2,h4,h5⟩
      · rw [if_neg zz]
        refine wpS_bind (QcO hA f.sb (by omega) (by omega) ?_)
        cases e:c (kx (arrOf st'') (lo+k)) (kx (arrOf st'') (lo+(l+r) / 2)) with
        | true=>exact wpS_pure ⟨rfl,_,_,rfl,by omega,by omega,by omega,h4,fun i a b=>hA.ord.tr (hA.ord.lt_le e) (g _ _ (by omega) (by omega) (by omega))⟩
        | false=>exact wpS_pure ⟨rfl,_,_,rfl,by omega,by omega,by omega,fun i a=>hA.ord.tr (g (lo+i) (lo+(l+r) / 2) (by omega) (by omega) (by omega)) e,h5⟩
    case ipost=>
      rintro z st'' ⟨rfl,l,r,rfl,h2,h4,h5⟩
      dsimp only
      rw [moveDown'_eq]
      have hs:lo+k<(arrOf st'').size:=by rw [f.sb.size];omega
      have kb:∀ j,kx (bubble (arrOf st'') (lo+k) (lo+k - (lo+l))) j=if j=lo+l then kx (arrOf st'') (lo+k) else if lo+l<j/\j<=lo+k then kx (arrOf st'') (j - 1) else kx (arrOf st'') j:=fun j=>by
        rw [QhN hs (by omega),show lo+k - (lo+k - (lo+l))=lo+l by omega]
      refine wpS_bind (wpS_modify (wpS_pure ⟨rfl,⟨⟨(bubble_perm _ _ _).trans f.sb.perm,f.sb.kind,f.sb.failed⟩,f.pend,fun j hj=>?_⟩,fun i j hi hij hj=>?_⟩))
      · show kx (bubble (arrOf st'') (lo+k) (lo+k - (lo+l))) j=_
        rw [kb,if_neg (by omega),if_neg (by omega)]
        exact f.low j hj
      · show le c (kx (bubble (arrOf st'') (lo+k) (lo+k - (lo+l))) i) (kx (bubble (arrOf st'') (lo+k) (lo+k - (lo+l))) j)
        rw [kb,kb]
        have low:∀ i,lo<=i->i<lo+l->le c (kx (arrOf st'') i) (kx (arrOf st'') (lo+k)):=fun i a b=>by have:=h4 (i - lo) (by omega);rwa [show lo+(i - lo)=i by omega] at this
        have high:∀ i,lo+l<=i->i<lo+k->le c (kx (arrOf st'') (lo+k)) (kx (arrOf st'') i):=fun i a b=>by have:=h5 (i - lo) (by omega) (by omega);rwa [show lo+(i - lo)=i by omega] at this
        repeat' split
        all_goals first
          | (exfalso;omega)
          | exact hA.ord.irr _
          | exact low _ (by omega) (by omega)
          | exact high _ (by omega) (by omega)
          | exact g _ _ (by omega) (by omega) (by omega)
end
def Qay:Nat->StateT SortSt Sem Unit:=sortPriv% PySem.Builtin.setMinGallop
theorem QcD (g:Nat):Qay g=modify fun z=>SortSt.mk' (kindOf z) (arrOf z) (pendingOf z) g (failedOf z):=rfl
def QdV:Array Keyed->Array Keyed->StateT SortSt Sem (Array Keyed):=sortPriv% PySem.Builtin.mergeLo
def QdW:Array Keyed->Array Keyed->StateT SortSt Sem (Array Keyed):=sortPriv% PySem.Builtin.mergeHi
theorem Qfi (a b:Array Keyed):QdV a b=(do
  rule "list.sort.merge-lo"
  let tot:=a.size+b.size
  let dn (r:Array Keyed) (i j:Nat):=r++a.extract i a.size++b.extract j b.size
  let la (r:Array Keyed) (i j:Nat):=r++b.extract j b.size++a.extract i a.size
  let mut r:Array Keyed:=#[<- elem' b 0]
  let mut i:=0
  let mut j:=1
  if j == b.size then return dn r i j
  if i+1 == a.size then return la r i j
  let mut mg:=gallopOf (<- get)
  for _ in [0:tot] do
    let mut p:=0
    let mut q:=0
    for _ in [0:tot] do
      let some t <- lt' (<- elem' b j) (<- elem' a i) | return dn r i j
      if t then
        r:=r.push (<- elem' b j);j:=j+1;q:=q+1;p:=0
        if j == b.size then return dn r i j
        if q≥mg then break
      else
        r:=r.push (<- elem' a i);i:=i+1;p:=p+1;q:=0
        if i+1 == a.size then return la r i j
        if p≥mg then break
    rule "list.sort.gallop"
    mg:=mg+1
    for _ in [0:tot] do
      if mg > 1 then mg:=mg - 1
      Qay mg
      let some k <- Qbz false (<- elem' b j) a i (a.size - i) 0 | return dn r i j
      p:=k
      if k > 0 then
        r:=r++a.extract i (i+k);i:=i+k
        if i+1 == a.size then return la r i j
        if i == a.size then return dn r i j
      r:=r.push (<- elem' b j);j:=j+1
      if j == b.size then return dn r i j
      let some k <- Qbz true (<- elem' a i) b j (b.size - j) 0 | return dn r i j
      q:=k
      if k > 0 then
        r:=r++b.extract j (j+k);j:=j+k
        if j == b.size then return dn r i j
      r:=r.push (<- elem' a i);i:=i+1
      if i+1 == a.size then return la r i j
      if p<7&&q<7 then break
    mg:=mg+1
    Qay mg
  unsupported "internal:list.sort.merge-bound"):=rfl
section
variable {c:Keyed->Keyed->Bool}
abbrev Pw (c:Keyed->Keyed->Bool) (l:List Keyed):Prop:=l.Pairwise (le c)
theorem Qko {r ch x y:List Keyed} (h1:Pw c (r++(ch++x))) (h2:Pw c (r++y)) (h:∀ u∈ch,∀ v∈y,le c u v):Pw c ((r++ch)++x)/\Pw c ((r++ch)++y):=by
  have h1':Pw c ((r++ch)++x):=by rw [List.append_assoc];exact h1
  refine ⟨h1',?_⟩
  have g:=List.pairwise_append.mp h1'
  have g2:=List.pairwise_append.mp h2
  refine List.pairwise_append.mpr ⟨g.1,g2.2.1,fun u hu v hv=>?_⟩
  rcases List.mem_append.mp hu with z | z
  · exact g2.2.2 u z v hv
  · exact h u z v hv
theorem Qa1 {xs:Array Keyed} {i:Nat} (h:i<xs.size):xs.toList[i]? = some (kx xs i):=by rw [Array.getElem?_toList];exact QlK h
theorem Qh7 {xs:Array Keyed} {i:Nat} (h:i<xs.size):xs.toList.drop i=kx xs i::xs.toList.drop (i+1):=by
  have hl:i<xs.toList.length:=by rw [Array.length_toList];exact h
  rw [List.drop_eq_getElem_cons hl]
  have:=Qa1 h
  rw [List.getElem?_eq_getElem hl] at this
  rw [Option.some.inj this]
theorem Qbk {xs:Array Keyed} {i:Nat} {p:Keyed} (h:p∈xs.toList.drop i):∃ k,i<=k/\k<xs.size/\p=kx xs k:=by
  obtain ⟨n,hn⟩:=List.mem_iff_getElem?.mp h
  rw [List.getElem?_drop] at hn
  have hl:=(List.getElem?_eq_some_iff.mp hn).1
  rw [Array.length_toList] at hl
  rw [Qa1 hl] at hn
  exact ⟨i+n,by omega,hl,(Option.some.inj hn).symm⟩
theorem QcL (xs:Array Keyed) (i k:Nat):(xs.extract i (i+k)).toList=(xs.toList.drop i).take k:=by
  rw [Array.toList_extract,List.extract_eq_take_drop,Nat.add_sub_cancel_left]
theorem Qcr (xs:Array Keyed) (i:Nat):(xs.extract i xs.size).toList=xs.toList.drop i:=by
  rw [Array.toList_extract,List.extract_eq_take_drop,List.take_of_length_le (by rw [List.length_drop,Array.length_toList];exact Nat.le_refl _)]
theorem Qc2 {xs:Array Keyed} {i k:Nat} {p:Keyed} (h:p∈(xs.toList.drop i).take k):∃ t,t<k/\i+t<xs.size/\p=kx xs (i+t):=by
  obtain ⟨n,hn⟩:=List.mem_iff_getElem?.mp h
  rw [List.getElem?_take] at hn
  split at hn
  · rename_i z
    rw [List.getElem?_drop] at hn
    have hl:=(List.getElem?_eq_some_iff.mp hn).1
    rw [Array.length_toList] at hl
    rw [Qa1 hl] at hn
    exact ⟨n,z,hl,(Option.some.inj hn).symm⟩
  · cases hn
structure MI (c:Keyed->Keyed->Bool) (a b r:Array Keyed) (i j:Nat):Prop where
  ha:Pw c (r.toList++a.toList.drop i)
  hb:Pw c (r.toList++b.toList.drop j)
  pm:(r.toList++(a.toList.drop i++b.toList.drop j)).Perm (a.toList++b.toList)
def Out (c:Keyed->Keyed->Bool) (a b z:Array Keyed):Prop:=Pw c z.toList/\z.toList.Perm (a.toList++b.toList)
variable {a b r:Array Keyed} {i j k:Nat}
theorem MI.chA (m:MI c a b r i j) (h:∀ t,t<k->i+t<a.size->∀ n,j<=n->n<b.size->le c (kx a (i+t)) (kx b n)):MI c a b (r++a.extract i (i+k)) (i+k) j:=by
  have e:a.toList.drop i=(a.toList.drop i).take k++a.toList.drop (i+k):=by rw [<- List.drop_drop,List.take_append_drop]
  have e2:(r++a.extract i (i+k)).toList=r.toList++(a.toList.drop i).take k:=by rw [Array.toList_append,QcL]
  have h1:=m.ha
  have pm:=m.pm
  rw [e] at h1 pm
  obtain ⟨g1,g2⟩:=Qko h1 m.hb fun u hu v hv=>by
    obtain ⟨t,t1,t2,rfl⟩:=Qc2 hu
    obtain ⟨n,n1,n2,rfl⟩:=Qbk hv
    exact h t t1 t2 n n1 n2
  refine ⟨by rw [e2];exact g1,by rw [e2];exact g2,?_⟩
  rw [e2,List.append_assoc,<- List.append_assoc ((a.toList.drop i).take k)]
  exact pm
theorem MI.chB (m:MI c a b r i j) (h:∀ t,t<k->j+t<b.size->∀ n,i<=n->n<a.size->le c (kx b (j+t)) (kx a n)):MI c a b (r++b.extract j (j+k)) i (j+k):=by
  have e:b.toList.drop j=(b.toList.drop j).take k++b.toList.drop (j+k):=by rw [<- List.drop_drop,List.take_append_drop]
  have e2:(r++b.extract j (j+k)).toList=r.toList++(b.toList.drop j).take k:=by rw [Array.toList_append,QcL]
  have h1:=m.hb
  have pm:=m.pm
  rw [e] at h1 pm
  obtain ⟨g1,g2⟩:=Qko h1 m.ha fun u hu v hv=>by
    obtain ⟨t,t1,t2,rfl⟩:=Qc2 hu
    obtain ⟨n,n1,n2,rfl⟩:=Qbk hv
    exact h t t1 t2 n n1 n2
  refine ⟨by rw [e2];exact g2,by rw [e2];exact g1,?_⟩
  rw [e2,List.append_assoc]
  refine List.Perm.trans (List.Perm.append_left _ ?_) pm
  rw [<- List.append_assoc,<- List.append_assoc]
  exact List.Perm.append_right _ List.perm_append_comm
theorem QfM {xs:Array Keyed} {i:Nat} (h:i<xs.size):r.push (kx xs i)=r++xs.extract i (i+1):=by
  apply Array.toList_inj.mp
  rw [Array.toList_push,Array.toList_append,QcL,Qh7 h]
  rfl
theorem MI.puA (m:MI c a b r i j) (hi:i<a.size) (h:∀ n,j<=n->n<b.size->le c (kx a i) (kx b n)):MI c a b (r.push (kx a i)) (i+1) j:=by
  rw [QfM hi]
  refine m.chA fun t t1 t2=>?_
  have:t=0:=by omega
  subst this
  exact h
theorem MI.puB (m:MI c a b r i j) (hj:j<b.size) (h:∀ n,i<=n->n<a.size->le c (kx b j) (kx a n)):MI c a b (r.push (kx b j)) i (j+1):=by
  rw [QfM hj]
  refine m.chB fun t t1 t2=>?_
  have:t=0:=by omega
  subst this
  exact h
theorem MI.dnB (m:MI c a b r i j) (hj:j=b.size):Out c a b (r++a.extract i a.size++b.extract j b.size):=by
  have e:b.toList.drop j=[]:=List.drop_of_length_le (by rw [Array.length_toList];omega)
  have e2:(r++a.extract i a.size++b.extract j b.size).toList=r.toList++a.toList.drop i:=by rw [Array.toList_append,Array.toList_append,Qcr,Qcr,e,List.append_nil]
  have pm:=m.pm
  rw [e,List.append_nil] at pm
  exact ⟨by rw [e2];exact m.ha,by rw [e2];exact pm⟩
theorem MI.dnA (m:MI c a b r i j) (hi:i=a.size):Out c a b (r++a.extract i a.size++b.extract j b.size):=by
  have e:a.toList.drop i=[]:=List.drop_of_length_le (by rw [Array.length_toList];omega)
  have e2:(r++a.extract i a.size++b.extract j b.size).toList=r.toList++b.toList.drop j:=by rw [Array.toList_append,Array.toList_append,Qcr,Qcr,e,List.append_nil]
  have pm:=m.pm
  rw [e,List.nil_append] at pm
  exact ⟨by rw [e2];exact m.hb,by rw [e2];exact pm⟩
theorem MI.last (m:MI c a b r i j) (hi:i+1=a.size) (p2:∀ k,k<b.size->le c (kx b k) (kx a (a.size - 1))):Out c a b (r++b.extract j b.size++a.extract i a.size):=by
  have e2:(r++b.extract j b.size++a.extract i a.size).toList=(r.toList++b.toList.drop j)++a.toList.drop i:=by rw [Array.toList_append,Array.toList_append,Qcr,Qcr]
  have g:=List.pairwise_append.mp m.ha
  refine ⟨by
    rw [e2]
    refine List.pairwise_append.mpr ⟨m.hb,g.2.1,fun u hu v hv=>?_⟩
    rcases List.mem_append.mp hu with z | z
    · exact g.2.2 u z v hv
    · obtain ⟨n,n1,n2,rfl⟩:=Qbk hv
      obtain ⟨n',n3,n4,rfl⟩:=Qbk z
      rw [show n=a.size - 1 by omega]
      exact p2 n' n4,?_⟩
  rw [e2,List.append_assoc]
  exact List.Perm.trans (List.Perm.append_left _ List.perm_append_comm) m.pm
end
structure Sm (st st':SortSt):Prop where
  kind:kindOf st'=kindOf st
  arr:arrOf st'=arrOf st
  pend:pendingOf st'=pendingOf st
  failed:failedOf st'=failedOf st
theorem Sm.refl (st:SortSt):Sm st st:=⟨rfl,rfl,rfl,rfl⟩
section
variable {prog:Program} {w:World} {A:Around} {E:Value->Shared->Prop} {s:Shared} {a₀:Array Keyed} {κ:SortKind} {c:Keyed->Keyed->Bool}
theorem Qde {st st0:SortSt} {g:Nat} {Q:Unit->SortSt->Prop} (m:Sm st0 st) (h:∀ st',Sm st0 st'->Q () st'):wpS (model prog w) A E s (Qay g) Q st:=by
  rw [QcD]
  exact wpS_modify (h _ ⟨m.kind,m.arr,m.pend,m.failed⟩)
theorem Qag {x y:Nat} (h:x≠y):¬ ((x == y)=true):=fun z=>h (beq_iff_eq.mp z)
theorem Qe0 {st:SortSt} {a b:Array Keyed} {Q:Array Keyed->SortSt->Prop} (hA:Asks prog w A s κ a₀ c) (hk:kindOf st=κ) (ma:∀ p∈a.toList,p∈a₀.toList) (mb:∀ p∈b.toList,p∈a₀.toList) (na:1<=a.size) (nb:1<=b.size)
    (sa:Sg c a 0 a.size) (sb:Sg c b 0 b.size) (p1:∀ k,k<a.size->le c (kx b 0) (kx a k)) (p2:∀ k,k<b.size->le c (kx b k) (kx a (a.size - 1))) (h:∀ z st',Sm st st'->Out c a b z->Q z st'):wpS (model prog w) A E s (QdV a b) Q st:=by
  have pwl:∀ {xs:Array Keyed},Sg c xs 0 xs.size->Pw c xs.toList:=fun {xs} sg=>List.pairwise_iff_getElem.mpr fun x y hx hy hxy=>by
    rw [Array.length_toList] at hx hy
    have e1:=Qa1 hx
    have e2:=Qa1 hy
    rw [List.getElem?_eq_getElem (by rw [Array.length_toList];exact hx)] at e1
    rw [List.getElem?_eq_getElem (by rw [Array.length_toList];exact hy)] at e2
    rw [Option.some.inj e1,Option.some.inj e2]
    exact sg x y (Nat.zero_le _) (by omega) hy
  rw [Qfi]
  dsimp only
  refine wpS_bind (wpS_lift (wpAny_rule ⟨rfl,?_⟩))
  refine wpS_bind (Qab (by omega) ?_)
  have m0:MI c a b #[] 0 0:=⟨by rw [List.drop_zero];exact pwl sa,by rw [List.drop_zero];exact pwl sb,by rw [List.drop_zero,List.drop_zero];exact List.Perm.refl _⟩
  have m1:MI c a b #[kx b 0] 0 1:=MI.puB m0 (by omega) fun n _ hn=>p1 n hn
  by_cases z1:1=b.size
  · rw [if_pos (beq_iff_eq.mpr z1)]
    exact wpS_pure (h _ _ (Sm.refl st) (m1.dnB z1))
  · rw [if_neg (Qag z1)]
    by_cases z2:0+1=a.size
    · rw [if_pos (beq_iff_eq.mpr z2)]
      exact wpS_pure (h _ _ (Sm.refl st) (m1.last z2 p2))
    · rw [if_neg (Qag z2)]
      refine wpS_bind (wpS_get ?_)
      refine wpS_bind (wpS_mono (wpS_forRange (I:=fun x z st'=>∃ r i j mg,z=(none,r,i,j,mg)/\MI c a b r i j/\i+1<a.size/\j<b.size/\x+1<=i+j/\Sm st st')
        (Q:=fun z st'=>∃ o y,z=(some o,y)/\Out c a b o/\Sm st st') ?step ?fin ⟨_,0,1,_,rfl,m1,by omega,by omega,by omega,Sm.refl st⟩) ?post)
      case post=>
        rintro z st' ⟨o,y,rfl,ho,sm⟩
        exact wpS_pure (h o st' sm ho)
      case fin=>
        rintro z st' ⟨r,i,j,mg,rfl,m,i1,j1,x1,sm⟩
        exfalso
        omega
      case step=>
        rintro x z st' _ hx ⟨r,i,j,mg,rfl,m,i1,j1,x1,sm⟩
        dsimp only
        refine wpS_bind (wpS_mono (wpS_forRange (I:=fun y z st2=>∃ r i j p q,z=(none,r,i,j,p,q)/\MI c a b r i j/\i+1<a.size/\j<b.size/\x+1+y<=i+j/\Sm st st2)
          (Q:=fun z st2=>(∃ o y,z=(some o,y)/\Out c a b o/\Sm st st2)∨∃ r i j p q,z=(none,r,i,j,p,q)/\MI c a b r i j/\i+1<a.size/\j<b.size/\x+2<=i+j/\Sm st st2) ?step1 ?fin1 ⟨r,i,j,0,0,rfl,m,i1,j1,by omega,sm⟩) ?post1)
        case fin1=>
          rintro z st2 ⟨r,i,j,p,q,rfl,m,i1,j1,x1,sm⟩
          exact .inr ⟨r,i,j,p,q,rfl,m,i1,j1,by omega,sm⟩
        case step1=>
          rintro y z st2 _ hy ⟨r,i,j,p,q,rfl,m,i1,j1,x1,sm⟩
          dsimp only
          refine wpS_bind (Qab j1 ?_)
          refine wpS_bind (Qab (by omega) ?_)
          refine wpS_bind (Qef hA (sm.kind.trans hk) (mb _ (memL j1)) (ma _ (memL (by omega))) ?_)
          cases e:c (kx b j) (kx a i) with
          | true=>
            dsimp only
            rw [if_pos rfl]
            refine wpS_bind (Qab j1 ?_)
            have m2:=MI.puB m j1 fun n n1 n2=>hA.ord.tr (hA.ord.lt_le e) (sa i n (Nat.zero_le _) n1 n2)
            by_cases z3:j+1=b.size
            · rw [if_pos (beq_iff_eq.mpr z3)]
              exact wpS_pure (.inl ⟨_,_,rfl,m2.dnB z3,sm⟩)
            · rw [if_neg (Qag z3)]
              split
              · exact wpS_pure (.inr ⟨_,_,_,_,_,rfl,m2,by omega,by omega,by omega,sm⟩)
              · exact wpS_pure ⟨_,_,_,_,_,rfl,m2,by omega,by omega,by omega,sm⟩
          | false=>
            dsimp only
            rw [if_neg (by decide)]
            refine wpS_bind (Qab (by omega) ?_)
            have m2:=MI.puA m (by omega) fun n n1 n2=>hA.ord.tr e (sb j n (Nat.zero_le _) n1 n2)
            by_cases z3:i+1+1=a.size
            · rw [if_pos (beq_iff_eq.mpr z3)]
              exact wpS_pure (.inl ⟨_,_,rfl,m2.last z3 p2,sm⟩)
            · rw [if_neg (Qag z3)]
              split
              · exact wpS_pure (.inr ⟨_,_,_,_,_,rfl,m2,by omega,by omega,by omega,sm⟩)
              · exact wpS_pure ⟨_,_,_,_,_,rfl,m2,by omega,by omega,by omega,sm⟩
        case post1=>
          rintro z st2 (⟨o,y,rfl,ho,sm⟩ | ⟨r,i,j,p,q,rfl,m,i1,j1,x1,sm⟩)
          · exact wpS_pure ⟨o,_,rfl,ho,sm⟩
          · dsimp only
            refine wpS_bind (wpS_lift (wpAny_rule ⟨rfl,?_⟩))
            refine wpS_bind (wpS_mono (wpS_forRange (I:=fun y z st3=>∃ r i j mg p q,z=(none,r,i,j,mg,p,q)/\MI c a b r i j/\i+1<a.size/\j<b.size/\x+2<=i+j/\Sm st st3)
              (Q:=fun z st3=>(∃ o y,z=(some o,y)/\Out c a b o/\Sm st st3)∨∃ r i j mg p q,z=(none,r,i,j,mg,p,q)/\MI c a b r i j/\i+1<a.size/\j<b.size/\x+2<=i+j/\Sm st st3) ?step2 ?fin2 ⟨r,i,j,_,p,q,rfl,m,i1,j1,by omega,sm⟩) ?post2)
            case fin2=>
              rintro z st3 ⟨r,i,j,mg,p,q,rfl,m,i1,j1,x1,sm⟩
              exact .inr ⟨r,i,j,mg,p,q,rfl,m,i1,j1,by omega,sm⟩
            case post2=>
              rintro z st3 (⟨o,y,rfl,ho,sm⟩ | ⟨r,i,j,mg,p,q,rfl,m,i1,j1,x1,sm⟩)
              · exact wpS_pure ⟨o,_,rfl,ho,sm⟩
              · dsimp only
                exact wpS_bind (Qde sm fun st4 sm4=>wpS_pure ⟨_,_,_,_,rfl,m,i1,j1,by omega,sm4⟩)
            case step2=>
              rintro y z st3 _ hy ⟨r,i,j,mg,p,q,rfl,m,i1,j1,x1,sm⟩
              dsimp only
              by_cases z0:mg > 1
              · rw [if_pos z0]
                refine wpS_bind (Qde sm fun st4 sm4=>?_)
                refine wpS_bind (Qab (by omega) ?_)
                refine wpS_bind (Qam hA (sm4.kind.trans hk) (mb _ (memL (by omega))) ma (by omega) (by omega) (fun x y x1 xy y1=>sa x y (Nat.zero_le _) xy (by omega)) fun k kn b1 b2=>?_)
                have b1:∀ t,t<k->(!c (kx b j) (kx a (i+t)))=true:=fun t ht=>b1 t ht
                have b2:∀ t,k<=t->t<a.size - i->(!c (kx b j) (kx a (i+t)))=false:=fun t h1 h2=>b2 t h1 h2
                dsimp only
                have hB1:∀ n,i+k<=n->n<a.size->le c (kx b j) (kx a n):=fun n n1 n2=>by
                  have:=b2 (n - i) (by omega) (by omega)
                  rw [show i+(n - i)=n by omega] at this
                  exact hA.ord.lt_le (by simpa using this)
                by_cases zk:k > 0
                · rw [if_pos zk]
                  have m2:=MI.chA (k:=k) m fun t t1 t2 n n1 n2=>by
                    have:=b1 t t1
                    exact hA.ord.tr (show le c (kx a (i+t)) (kx b j) by simpa using this) (sb j n (Nat.zero_le _) n1 n2)
                  by_cases z2:i+k+1=a.size
                  · rw [if_pos (beq_iff_eq.mpr z2)]
                    exact wpS_pure (.inl ⟨_,_,rfl,m2.last z2 p2,sm4⟩)
                  · rw [if_neg (Qag z2)]
                    by_cases z3:i+k=a.size
                    · rw [if_pos (beq_iff_eq.mpr z3)]
                      exact wpS_pure (.inl ⟨_,_,rfl,m2.dnA z3,sm4⟩)
                    · rw [if_neg (Qag z3)]
                      refine wpS_bind (Qab (by omega) ?_)
                      have m5:=MI.puB m2 (by omega) hB1
                      by_cases z5:j+1=b.size
                      · rw [if_pos (beq_iff_eq.mpr z5)]
                        exact wpS_pure (.inl ⟨_,_,rfl,m5.dnB z5,sm4⟩)
                      · rw [if_neg (Qag z5)]
                        refine wpS_bind (Qab (by omega) ?_)
                        refine wpS_bind (Qam hA (sm4.kind.trans hk) (ma _ (memL (by omega))) mb (by omega) (by omega) (fun x y x1 xy y1=>sb x y (Nat.zero_le _) xy (by omega)) fun k2 k2n b1 b2=>?_)
                        have b1:∀ t,t<k2->c (kx b (j+1+t)) (kx a (i+k))=true:=fun t ht=>b1 t ht
                        have b2:∀ t,k2<=t->t<b.size - (j+1)->c (kx b (j+1+t)) (kx a (i+k))=false:=fun t h1 h2=>b2 t h1 h2
                        dsimp only
                        have gA:∀ n,j+1+k2<=n->n<b.size->le c (kx a (i+k)) (kx b n):=fun n n1 n2=>by have:=b2 (n - (j+1)) (by omega) (by omega);rwa [show j+1+(n - (j+1))=n by omega] at this
                        by_cases zk2:k2 > 0
                        · rw [if_pos zk2]
                          have m6:=MI.chB (k:=k2) m5 fun t t1 t2 n n1 n2=>hA.ord.tr (hA.ord.lt_le (b1 t t1)) (sa (i+k) n (Nat.zero_le _) n1 n2)
                          by_cases z6:j+1+k2=b.size
                          · rw [if_pos (beq_iff_eq.mpr z6)]
                            exact wpS_pure (.inl ⟨_,_,rfl,m6.dnB z6,sm4⟩)
                          · rw [if_neg (Qag z6)]
                            refine wpS_bind (Qab (by omega) ?_)
                            have m9:=MI.puA m6 (by omega) gA
                            by_cases z9:i+k+1+1=a.size
                            · rw [if_pos (beq_iff_eq.mpr z9)]
                              exact wpS_pure (.inl ⟨_,_,rfl,m9.last z9 p2,sm4⟩)
                            · rw [if_neg (Qag z9)]
                              split
                              · exact wpS_pure (.inr ⟨_,_,_,_,_,_,rfl,m9,by omega,by omega,by omega,sm4⟩)
                              · exact wpS_pure ⟨_,_,_,_,_,_,rfl,m9,by omega,by omega,by omega,sm4⟩
                        · rw [if_neg zk2]
                          have zk2:k2=0:=by omega
                          subst zk2
                          refine wpS_bind (Qab (by omega) ?_)
                          have m9:=MI.puA m5 (by omega) gA
                          by_cases z9:i+k+1+1=a.size
                          · rw [if_pos (beq_iff_eq.mpr z9)]
                            exact wpS_pure (.inl ⟨_,_,rfl,m9.last z9 p2,sm4⟩)
                          · rw [if_neg (Qag z9)]
                            split
                            · exact wpS_pure (.inr ⟨_,_,_,_,_,_,rfl,m9,by omega,by omega,by omega,sm4⟩)
                            · exact wpS_pure ⟨_,_,_,_,_,_,rfl,m9,by omega,by omega,by omega,sm4⟩
                · rw [if_neg zk]
                  have zk:k=0:=by omega
                  subst zk
                  refine wpS_bind (Qab (by omega) ?_)
                  have m5:=MI.puB m (by omega) hB1
                  by_cases z5:j+1=b.size
                  · rw [if_pos (beq_iff_eq.mpr z5)]
                    exact wpS_pure (.inl ⟨_,_,rfl,m5.dnB z5,sm4⟩)
                  · rw [if_neg (Qag z5)]
                    refine wpS_bind (Qab (by omega) ?_)
                    refine wpS_bind (Qam hA (sm4.kind.trans hk) (ma _ (memL (by omega))) mb (by omega) (by omega) (fun x y x1 xy y1=>sb x y (Nat.zero_le _) xy (by omega)) fun k2 k2n b1 b2=>?_)
                    have b1:∀ t,t<k2->c (kx b (j+1+t)) (kx a (i))=true:=fun t ht=>b1 t ht
                    have b2:∀ t,k2<=t->t<b.size - (j+1)->c (kx b (j+1+t)) (kx a (i))=false:=fun t h1 h2=>b2 t h1 h2
                    dsimp only
                    have gA:∀ n,j+1+k2<=n->n<b.size->le c (kx a (i)) (kx b n):=fun n n1 n2=>by have:=b2 (n - (j+1)) (by omega) (by omega);rwa [show j+1+(n - (j+1))=n by omega] at this
                    by_cases zk2:k2 > 0
                    · rw [if_pos zk2]
                      have m6:=MI.chB (k:=k2) m5 fun t t1 t2 n n1 n2=>hA.ord.tr (hA.ord.lt_le (b1 t t1)) (sa (i) n (Nat.zero_le _) n1 n2)
                      by_cases z6:j+1+k2=b.size
                      · rw [if_pos (beq_iff_eq.mpr z6)]
                        exact wpS_pure (.inl ⟨_,_,rfl,m6.dnB z6,sm4⟩)
                      · rw [if_neg (Qag z6)]
                        refine wpS_bind (Qab (by omega) ?_)
                        have m9:=MI.puA m6 (by omega) gA
                        by_cases z9:i+1+1=a.size
                        · rw [if_pos (beq_iff_eq.mpr z9)]
                          exact wpS_pure (.inl ⟨_,_,rfl,m9.last z9 p2,sm4⟩)
                        · rw [if_neg (Qag z9)]
                          split
                          · exact wpS_pure (.inr ⟨_,_,_,_,_,_,rfl,m9,by omega,by omega,by omega,sm4⟩)
                          · exact wpS_pure ⟨_,_,_,_,_,_,rfl,m9,by omega,by omega,by omega,sm4⟩
                    · rw [if_neg zk2]
                      have zk2:k2=0:=by omega
                      subst zk2
                      refine wpS_bind (Qab (by omega) ?_)
                      have m9:=MI.puA m5 (by omega) gA
                      by_cases z9:i+1+1=a.size
                      · rw [if_pos (beq_iff_eq.mpr z9)]
                        exact wpS_pure (.inl ⟨_,_,rfl,m9.last z9 p2,sm4⟩)
                      · rw [if_neg (Qag z9)]
                        split
                        · exact wpS_pure (.inr ⟨_,_,_,_,_,_,rfl,m9,by omega,by omega,by omega,sm4⟩)
                        · exact wpS_pure ⟨_,_,_,_,_,_,rfl,m9,by omega,by omega,by omega,sm4⟩
              · rw [if_neg z0]
                refine wpS_bind (Qde sm fun st4 sm4=>?_)
                refine wpS_bind (Qab (by omega) ?_)
                refine wpS_bind (Qam hA (sm4.kind.trans hk) (mb _ (memL (by omega))) ma (by omega) (by omega) (fun x y x1 xy y1=>sa x y (Nat.zero_le _) xy (by omega)) fun k kn b1 b2=>?_)
                have b1:∀ t,t<k->(!c (kx b j) (kx a (i+t)))=true:=fun t ht=>b1 t ht
                have b2:∀ t,k<=t->t<a.size - i->(!c (kx b j) (kx a (i+t)))=false:=fun t h1 h2=>b2 t h1 h2
                dsimp only
                have hB1:∀ n,i+k<=n->n<a.size->le c (kx b j) (kx a n):=fun n n1 n2=>by
                  have:=b2 (n - i) (by omega) (by omega)
                  rw [show i+(n - i)=n by omega] at this
                  exact hA.ord.lt_le (by simpa using this)
                by_cases zk:k > 0
                · rw [if_pos zk]
                  have m2:=MI.chA (k:=k) m fun t t1 t2 n n1 n2=>by
                    have:=b1 t t1
                    exact hA.ord.tr (show le c (kx a (i+t)) (kx b j) by simpa using this) (sb j n (Nat.zero_le _) n1 n2)
                  by_cases z2:i+k+1=a.size
                  · rw [if_pos (beq_iff_eq.mpr z2)]
                    exact wpS_pure (.inl ⟨_,_,rfl,m2.last z2 p2,sm4⟩)
                  · rw [if_neg (Qag z2)]
                    by_cases z3:i+k=a.size
                    · rw [if_pos (beq_iff_eq.mpr z3)]
                      exact wpS_pure (.inl ⟨_,_,rfl,m2.dnA z3,sm4⟩)
                    · rw [if_neg (Qag z3)]
                      refine wpS_bind (Qab (by omega) ?_)
                      have m5:=MI.puB m2 (by omega) hB1
                      by_cases z5:j+1=b.size
                      · rw [if_pos (beq_iff_eq.mpr z5)]
                        exact wpS_pure (.inl ⟨_,_,rfl,m5.dnB z5,sm4⟩)
                      · rw [if_neg (Qag z5)]
                        refine wpS_bind (Qab (by omega) ?_)
                        refine wpS_bind (Qam hA (sm4.kind.trans hk) (ma _ (memL (by omega))) mb (by omega) (by omega) (fun x y x1 xy y1=>sb x y (Nat.zero_le _) xy (by omega)) fun k2 k2n b1 b2=>?_)
                        have b1:∀ t,t<k2->c (kx b (j+1+t)) (kx a (i+k))=true:=fun t ht=>b1 t ht
                        have b2:∀ t,k2<=t->t<b.size - (j+1)->c (kx b (j+1+t)) (kx a (i+k))=false:=fun t h1 h2=>b2 t h1 h2
                        dsimp only
                        have gA:∀ n,j+1+k2<=n->n<b.size->le c (kx a (i+k)) (kx b n):=fun n n1 n2=>by have:=b2 (n - (j+1)) (by omega) (by omega);rwa [show j+1+(n - (j+1))=n by omega] at this
                        by_cases zk2:k2 > 0
                        · rw [if_pos zk2]
                          have m6:=MI.chB (k:=k2) m5 fun t t1 t2 n n1 n2=>hA.ord.tr (hA.ord.lt_le (b1 t t1)) (sa (i+k) n (Nat.zero_le _) n1 n2)
                          by_cases z6:j+1+k2=b.size
                          · rw [if_pos (beq_iff_eq.mpr z6)]
                            exact wpS_pure (.inl ⟨_,_,rfl,m6.dnB z6,sm4⟩)
                          · rw [if_neg (Qag z6)]
                            refine wpS_bind (Qab (by omega) ?_)
                            have m9:=MI.puA m6 (by omega) gA
                            by_cases z9:i+k+1+1=a.size
                            · rw [if_pos (beq_iff_eq.mpr z9)]
                              exact wpS_pure (.inl ⟨_,_,rfl,m9.last z9 p2,sm4⟩)
                            · rw [if_neg (Qag z9)]
                              split
                              · exact wpS_pure (.inr ⟨_,_,_,_,_,_,rfl,m9,by omega,by omega,by omega,sm4⟩)
                              · exact wpS_pure ⟨_,_,_,_,_,_,rfl,m9,by omega,by omega,by omega,sm4⟩
                        · rw [if_neg zk2]
                          have zk2:k2=0:=by omega
                          subst zk2
                          refine wpS_bind (Qab (by omega) ?_)
                          have m9:=MI.puA m5 (by omega) gA
                          by_cases z9:i+k+1+1=a.size
                          · rw [if_pos (beq_iff_eq.mpr z9)]
                            exact wpS_pure (.inl ⟨_,_,rfl,m9.last z9 p2,sm4⟩)
                          · rw [if_neg (Qag z9)]
                            split
                            · exact wpS_pure (.inr ⟨_,_,_,_,_,_,rfl,m9,by omega,by omega,by omega,sm4⟩)
                            · exact wpS_pure ⟨_,_,_,_,_,_,rfl,m9,by omega,by omega,by omega,sm4⟩
                · rw [if_neg zk]
                  have zk:k=0:=by omega
                  subst zk
                  refine wpS_bind (Qab (by omega) ?_)
                  have m5:=MI.puB m (by omega) hB1
                  by_cases z5:j+1=b.size
                  · rw [if_pos (beq_iff_eq.mpr z5)]
                    exact wpS_pure (.inl ⟨_,_,rfl,m5.dnB z5,sm4⟩)
                  · rw [if_neg (Qag z5)]
                    refine wpS_bind (Qab (by omega) ?_)
                    refine wpS_bind (Qam hA (sm4.kind.trans hk) (ma _ (memL (by omega))) mb (by omega) (by omega) (fun x y x1 xy y1=>sb x y (Nat.zero_le _) xy (by omega)) fun k2 k2n b1 b2=>?_)
                    have b1:∀ t,t<k2->c (kx b (j+1+t)) (kx a (i))=true:=fun t ht=>b1 t ht
                    have b2:∀ t,k2<=t->t<b.size - (j+1)->c (kx b (j+1+t)) (kx a (i))=false:=fun t h1 h2=>b2 t h1 h2
                    dsimp only
                    have gA:∀ n,j+1+k2<=n->n<b.size->le c (kx a (i)) (kx b n):=fun n n1 n2=>by have:=b2 (n - (j+1)) (by omega) (by omega);rwa [show j+1+(n - (j+1))=n by omega] at this
                    by_cases zk2:k2 > 0
                    · rw [if_pos zk2]
                      have m6:=MI.chB (k:=k2) m5 fun t t1 t2 n n1 n2=>hA.ord.tr (hA.ord.lt_le (b1 t t1)) (sa (i) n (Nat.zero_le _) n1 n2)
                      by_cases z6:j+1+k2=b.size
                      · rw [if_pos (beq_iff_eq.mpr z6)]
                        exact wpS_pure (.inl ⟨_,_,rfl,m6.dnB z6,sm4⟩)
                      · rw [if_neg (Qag z6)]
                        refine wpS_bind (Qab (by omega) ?_)
                        have m9:=MI.puA m6 (by omega) gA
                        by_cases z9:i+1+1=a.size
                        · rw [if_pos (beq_iff_eq.mpr z9)]
                          exact wpS_pure (.inl ⟨_,_,rfl,m9.last z9 p2,sm4⟩)
                        · rw [if_neg (Qag z9)]
                          split
                          · exact wpS_pure (.inr ⟨_,_,_,_,_,_,rfl,m9,by omega,by omega,by omega,sm4⟩)
                          · exact wpS_pure ⟨_,_,_,_,_,_,rfl,m9,by omega,by omega,by omega,sm4⟩
                    · rw [if_neg zk2]
                      have zk2:k2=0:=by omega
                      subst zk2
                      refine wpS_bind (Qab (by omega) ?_)
                      have m9:=MI.puA m5 (by omega) gA
                      by_cases z9:i+1+1=a.size
                      · rw [if_pos (beq_iff_eq.mpr z9)]
                        exact wpS_pure (.inl ⟨_,_,rfl,m9.last z9 p2,sm4⟩)
                      · rw [if_neg (Qag z9)]
                        split
                        · exact wpS_pure (.inr ⟨_,_,_,_,_,_,rfl,m9,by omega,by omega,by omega,sm4⟩)
                        · exact wpS_pure ⟨_,_,_,_,_,_,rfl,m9,by omega,by omega,by omega,sm4⟩
end
theorem Qfj (a b:Array Keyed):QdW a b=(do
  rule "list.sort.merge-hi"
  let tot:=a.size+b.size
  let dn (r:Array Keyed) (i j:Nat):=a.extract 0 i++b.extract 0 j++r.reverse
  let fb (r:Array Keyed) (i j:Nat):=b.extract 0 j++a.extract 0 i++r.reverse
  let mut i:=a.size - 1
  let mut j:=b.size
  let mut r:Array Keyed:=#[<- elem' a i]
  if i == 0 then return dn r i j
  if j == 1 then return fb r i j
  let mut mg:=gallopOf (<- get)
  for _ in [0:tot] do
    let mut p:=0
    let mut q:=0
    for _ in [0:tot] do
      let some t <- lt' (<- elem' b (j - 1)) (<- elem' a (i - 1)) | return dn r i j
      if t then
        i:=i - 1;r:=r.push (<- elem' a i);p:=p+1;q:=0
        if i == 0 then return dn r i j
        if p≥mg then break
      else
        j:=j - 1;r:=r.push (<- elem' b j);q:=q+1;p:=0
        if j == 1 then return fb r i j
        if q≥mg then break
    rule "list.sort.gallop"
    mg:=mg+1
    for _ in [0:tot] do
      if mg > 1 then mg:=mg - 1
      Qay mg
      let some t <- Qbz false (<- elem' b (j - 1)) a 0 i (i - 1) | return dn r i j
      let k:=i - t
      p:=k
      if k > 0 then
        r:=r++(a.extract t i).reverse;i:=t
        if i == 0 then return dn r i j
      j:=j - 1;r:=r.push (<- elem' b j)
      if j == 1 then return fb r i j
      let some t <- Qbz true (<- elem' a (i - 1)) b 0 j (j - 1) | return dn r i j
      let k:=j - t
      q:=k
      if k > 0 then
        r:=r++(b.extract t j).reverse;j:=t
        if j == 1 then return fb r i j
        if j == 0 then return dn r i j
      i:=i - 1;r:=r.push (<- elem' a i)
      if i == 0 then return dn r i j
      if p<7&&q<7 then break
    mg:=mg+1
    Qay mg
  unsupported "internal:list.sort.merge-bound"):=rfl
section
variable {c:Keyed->Keyed->Bool}
theorem Qkn {r ch x y:List Keyed} (h1:Pw c ((x++ch)++r)) (h2:Pw c (y++r)) (h:∀ u∈y,∀ v∈ch,le c u v):Pw c (x++(ch++r))/\Pw c (y++(ch++r)):=by
  have h1':Pw c (x++(ch++r)):=by rw [<- List.append_assoc];exact h1
  refine ⟨h1',?_⟩
  have g:=List.pairwise_append.mp h1'
  have g2:=List.pairwise_append.mp h2
  refine List.pairwise_append.mpr ⟨g2.1,g.2.1,fun u hu v hv=>?_⟩
  rcases List.mem_append.mp hv with z | z
  · exact h u hu v z
  · exact g2.2.2 u hu v z
theorem Qf4 (xs:Array Keyed) (i:Nat):(xs.extract 0 i).toList=xs.toList.take i:=by
  rw [Array.toList_extract,List.extract_eq_take_drop,Nat.sub_zero,List.drop_zero]
theorem Qa4 (xs:Array Keyed) (t i:Nat):(xs.extract t i).toList=(xs.toList.take i).drop t:=by
  rw [Array.toList_extract,List.extract_eq_take_drop,List.take_drop]
  by_cases z:t<=i
  · rw [show t+(i - t)=i by omega]
  · rw [show i - t=0 by omega,Nat.add_zero,List.drop_of_length_le (by rw [List.length_take];omega),List.drop_of_length_le (by rw [List.length_take];omega)]
theorem QaF {xs:Array Keyed} {t i:Nat} {p:Keyed} (h:p∈(xs.toList.take i).drop t):∃ n,t<=n/\n<i/\n<xs.size/\p=kx xs n:=by
  obtain ⟨n,hn⟩:=List.mem_iff_getElem?.mp h
  rw [List.getElem?_drop,List.getElem?_take] at hn
  split at hn
  · rename_i z
    have hl:=(List.getElem?_eq_some_iff.mp hn).1
    rw [Array.length_toList] at hl
    rw [Qa1 hl] at hn
    exact ⟨t+n,by omega,z,hl,(Option.some.inj hn).symm⟩
  · cases hn
structure MH (c:Keyed->Keyed->Bool) (a b r:Array Keyed) (i j:Nat):Prop where
  ha:Pw c (a.toList.take i++r.toList.reverse)
  hb:Pw c (b.toList.take j++r.toList.reverse)
  pm:((a.toList.take i++b.toList.take j)++r.toList.reverse).Perm (a.toList++b.toList)
variable {a b r:Array Keyed} {i j t:Nat}
theorem Qck (r x:Array Keyed):(r++x.reverse).toList.reverse=x.toList++r.toList.reverse:=by
  rw [Array.toList_append,Array.toList_reverse,List.reverse_append,List.reverse_reverse]
theorem MH.chA (m:MH c a b r i j) (ht:t<=i) (h:∀ n,t<=n->n<i->n<a.size->∀ k,k<j->k<b.size->le c (kx b k) (kx a n)):MH c a b (r++(a.extract t i).reverse) t j:=by
  have e:a.toList.take i=a.toList.take t++(a.toList.take i).drop t:=by
    have:=(List.take_append_drop t (a.toList.take i)).symm
    rwa [List.take_take,Nat.min_eq_left ht] at this
  have h1:=m.ha
  have pm:=m.pm
  rw [e] at h1 pm
  obtain ⟨g1,g2⟩:=Qkn h1 m.hb fun u hu v hv=>by
    obtain ⟨n,n1,n2,n3,rfl⟩:=QaF hv
    obtain ⟨k,_,k2,k3,rfl⟩:=QaF (t:=0) (by rw [List.drop_zero];exact hu)
    exact h n n1 n2 n3 k k2 k3
  refine ⟨by rw [Qck,Qa4];exact g1,by rw [Qck,Qa4];exact g2,?_⟩
  rw [Qck,Qa4]
  refine List.Perm.trans ?_ pm
  rw [<- List.append_assoc]
  refine List.Perm.append_right _ ?_
  rw [List.append_assoc,List.append_assoc]
  exact List.Perm.append_left _ List.perm_append_comm
theorem MH.chB (m:MH c a b r i j) (ht:t<=j) (h:∀ n,t<=n->n<j->n<b.size->∀ k,k<i->k<a.size->le c (kx a k) (kx b n)):MH c a b (r++(b.extract t j).reverse) i t:=by
  have e:b.toList.take j=b.toList.take t++(b.toList.take j).drop t:=by
    have:=(List.take_append_drop t (b.toList.take j)).symm
    rwa [List.take_take,Nat.min_eq_left ht] at this
  have h1:=m.hb
  have pm:=m.pm
  rw [e] at h1 pm
  obtain ⟨g1,g2⟩:=Qkn h1 m.ha fun u hu v hv=>by
    obtain ⟨n,n1,n2,n3,rfl⟩:=QaF hv
    obtain ⟨k,_,k2,k3,rfl⟩:=QaF (t:=0) (by rw [List.drop_zero];exact hu)
    exact h n n1 n2 n3 k k2 k3
  refine ⟨by rw [Qck,Qa4];exact g2,by rw [Qck,Qa4];exact g1,?_⟩
  rw [Qck,Qa4]
  refine List.Perm.trans ?_ pm
  rw [<- List.append_assoc,List.append_assoc (a.toList.take i)]
theorem QfL {xs:Array Keyed} {i:Nat} (h1:1<=i) (h:i<=xs.size):r.push (kx xs (i - 1))=r++(xs.extract (i - 1) i).reverse:=by
  apply Array.toList_inj.mp
  have e:=QcL xs (i - 1) 1
  rw [show i - 1+1=i by omega] at e
  rw [Array.toList_push,Array.toList_append,Array.toList_reverse,e,Qh7 (by omega)]
  rfl
theorem MH.puA (m:MH c a b r i j) (h1:1<=i) (hi:i<=a.size) (h:∀ k,k<j->k<b.size->le c (kx b k) (kx a (i - 1))):MH c a b (r.push (kx a (i - 1))) (i - 1) j:=by
  rw [QfL h1 hi]
  refine m.chA (by omega) fun n n1 n2 _=>?_
  rw [show n=i - 1 by omega]
  exact h
theorem MH.puB (m:MH c a b r i j) (h1:1<=j) (hj:j<=b.size) (h:∀ k,k<i->k<a.size->le c (kx a k) (kx b (j - 1))):MH c a b (r.push (kx b (j - 1))) i (j - 1):=by
  rw [QfL h1 hj]
  refine m.chB (by omega) fun n n1 n2 _=>?_
  rw [show n=j - 1 by omega]
  exact h
theorem QbG (x y r:Array Keyed) (i j:Nat):(x.extract 0 i++y.extract 0 j++r.reverse).toList=(x.toList.take i++y.toList.take j)++r.toList.reverse:=by
  rw [Array.toList_append,Array.toList_append,Qf4,Qf4,Array.toList_reverse]
theorem MH.dnA (m:MH c a b r i j) (hi:i=0):Out c a b (a.extract 0 i++b.extract 0 j++r.reverse):=by
  have pm:=m.pm
  subst hi
  refine ⟨?_,by rw [QbG];exact pm⟩
  rw [QbG,List.take_zero,List.nil_append]
  exact m.hb
theorem MH.dnB (m:MH c a b r i j) (hj:j=0):Out c a b (a.extract 0 i++b.extract 0 j++r.reverse):=by
  have pm:=m.pm
  subst hj
  refine ⟨?_,by rw [QbG];exact pm⟩
  rw [QbG,List.take_zero,List.append_nil]
  exact m.ha
theorem MH.fb (m:MH c a b r i j) (hj:j=1) (p1:∀ k,k<a.size->le c (kx b 0) (kx a k)):Out c a b (b.extract 0 j++a.extract 0 i++r.reverse):=by
  refine ⟨?_,?_⟩
  · rw [QbG]
    have g:=List.pairwise_append.mp m.hb
    rw [List.append_assoc]
    refine List.pairwise_append.mpr ⟨g.1,m.ha,fun u hu v hv=>?_⟩
    rcases List.mem_append.mp hv with z | z
    · obtain ⟨k,_,k2,k3,rfl⟩:=QaF (t:=0) (by rw [List.drop_zero];exact hu)
      obtain ⟨n,_,n2,n3,rfl⟩:=QaF (t:=0) (by rw [List.drop_zero];exact z)
      rw [show k=0 by omega]
      exact p1 n n3
    · exact g.2.2 u hu v z
  · rw [QbG]
    exact List.Perm.trans (List.Perm.append_right _ List.perm_append_comm) m.pm
end
section
variable {prog:Program} {w:World} {A:Around} {E:Value->Shared->Prop} {s:Shared} {a₀:Array Keyed} {κ:SortKind} {c:Keyed->Keyed->Bool}
theorem QfK {xs:Array Keyed} (sg:Sg c xs 0 xs.size):Pw c xs.toList:=List.pairwise_iff_getElem.mpr fun x y hx hy hxy=>by
  rw [Array.length_toList] at hx hy
  have e1:=Qa1 hx
  have e2:=Qa1 hy
  rw [List.getElem?_eq_getElem (by rw [Array.length_toList];exact hx)] at e1
  rw [List.getElem?_eq_getElem (by rw [Array.length_toList];exact hy)] at e2
  rw [Option.some.inj e1,Option.some.inj e2]
  exact sg x y (Nat.zero_le _) (by omega) hy
theorem Qe1 {st:SortSt} {a b:Array Keyed} {Q:Array Keyed->SortSt->Prop} (hA:Asks prog w A s κ a₀ c) (hk:kindOf st=κ) (ma:∀ p∈a.toList,p∈a₀.toList) (mb:∀ p∈b.toList,p∈a₀.toList) (na:1<=a.size) (nb:1<=b.size)
    (sa:Sg c a 0 a.size) (sb:Sg c b 0 b.size) (p1:∀ k,k<a.size->le c (kx b 0) (kx a k)) (p2:∀ k,k<b.size->le c (kx b k) (kx a (a.size - 1))) (h:∀ z st',Sm st st'->Out c a b z->Q z st'):wpS (model prog w) A E s (QdW a b) Q st:=by
  rw [Qfj]
  dsimp only
  refine wpS_bind (wpS_lift (wpAny_rule ⟨rfl,?_⟩))
  refine wpS_bind (Qab (by omega) ?_)
  have tk:∀ xs:Array Keyed,xs.toList.take xs.size=xs.toList:=fun xs=>List.take_of_length_le (by rw [Array.length_toList];exact Nat.le_refl _)
  have m0:MH c a b #[] a.size b.size:=⟨by rw [tk];show Pw c (a.toList++[]);rw [List.append_nil];exact QfK sa,by rw [tk];show Pw c (b.toList++[]);rw [List.append_nil];exact QfK sb,by rw [tk,tk];show ((a.toList++b.toList)++[]).Perm _;rw [List.append_nil]⟩
  have m1:MH c a b #[kx a (a.size - 1)] (a.size - 1) b.size:=MH.puA m0 na (Nat.le_refl _) fun k _ hk=>p2 k hk
  by_cases z1:a.size - 1=0
  · rw [if_pos (beq_iff_eq.mpr z1)]
    exact wpS_pure (h _ _ (Sm.refl st) (m1.dnA z1))
  · rw [if_neg (Qag z1)]
    by_cases z2:b.size=1
    · rw [if_pos (beq_iff_eq.mpr z2)]
      exact wpS_pure (h _ _ (Sm.refl st) (m1.fb z2 p1))
    · rw [if_neg (Qag z2)]
      refine wpS_bind (wpS_get ?_)
      refine wpS_bind (wpS_mono (wpS_forRange (I:=fun x z st'=>∃ r i j mg,z=(none,i,j,r,mg)/\MH c a b r i j/\1<=i/\i<=a.size/\2<=j/\j<=b.size/\x+1+i+j<=a.size+b.size/\Sm st st')
        (Q:=fun z st'=>∃ o y,z=(some o,y)/\Out c a b o/\Sm st st') ?step ?fin ⟨_,_,_,_,rfl,m1,by omega,by omega,by omega,by omega,by omega,Sm.refl st⟩) ?post)
      case post=>
        rintro z st' ⟨o,y,rfl,ho,sm⟩
        exact wpS_pure (h o st' sm ho)
      case fin=>
        rintro z st' ⟨r,i,j,mg,rfl,m,i1,i2,j1,j2,x1,sm⟩
        exfalso
        omega
      case step=>
        rintro x z st' _ hx ⟨r,i,j,mg,rfl,m,i1,i2,j1,j2,x1,sm⟩
        dsimp only
        refine wpS_bind (wpS_mono (wpS_forRange (I:=fun y z st2=>∃ r i j p q,z=(none,i,j,r,p,q)/\MH c a b r i j/\1<=i/\i<=a.size/\2<=j/\j<=b.size/\x+1+y+i+j<=a.size+b.size/\Sm st st2)
          (Q:=fun z st2=>(∃ o y,z=(some o,y)/\Out c a b o/\Sm st st2)∨∃ r i j p q,z=(none,i,j,r,p,q)/\MH c a b r i j/\1<=i/\i<=a.size/\2<=j/\j<=b.size/\x+2+i+j<=a.size+b.size/\Sm st st2) ?step1 ?fin1 ⟨r,i,j,0,0,rfl,m,i1,i2,j1,j2,by omega,sm⟩) ?post1)
        case fin1=>
          rintro z st2 ⟨r,i,j,p,q,rfl,m,i1,i2,j1,j2,x1,sm⟩
          exact .inr ⟨r,i,j,p,q,rfl,m,i1,i2,j1,j2,by omega,sm⟩
        case step1=>
          rintro y z st2 _ hy ⟨r,i,j,p,q,rfl,m,i1,i2,j1,j2,x1,sm⟩
          dsimp only
          refine wpS_bind (Qab (by omega) ?_)
          refine wpS_bind (Qab (by omega) ?_)
          refine wpS_bind (Qef hA (sm.kind.trans hk) (mb _ (memL (by omega))) (ma _ (memL (by omega))) ?_)
          cases e:c (kx b (j - 1)) (kx a (i - 1)) with
          | true=>
            dsimp only
            rw [if_pos rfl]
            refine wpS_bind (Qab (by omega) ?_)
            have m2:=MH.puA m i1 i2 fun k k1 k2=>hA.ord.tr (sb k (j - 1) (Nat.zero_le _) (by omega) (by omega)) (hA.ord.lt_le e)
            by_cases z3:i - 1=0
            · rw [if_pos (beq_iff_eq.mpr z3)]
              exact wpS_pure (.inl ⟨_,_,rfl,m2.dnA z3,sm⟩)
            · rw [if_neg (Qag z3)]
              split
              · exact wpS_pure (.inr ⟨_,_,_,_,_,rfl,m2,by omega,by omega,by omega,by omega,by omega,sm⟩)
              · exact wpS_pure ⟨_,_,_,_,_,rfl,m2,by omega,by omega,by omega,by omega,by omega,sm⟩
          | false=>
            dsimp only
            rw [if_neg (by decide)]
            refine wpS_bind (Qab (by omega) ?_)
            have m2:=MH.puB m (by omega) j2 fun k k1 k2=>hA.ord.tr (sa k (i - 1) (Nat.zero_le _) (by omega) (by omega)) e
            by_cases z3:j - 1=1
            · rw [if_pos (beq_iff_eq.mpr z3)]
              exact wpS_pure (.inl ⟨_,_,rfl,m2.fb z3 p1,sm⟩)
            · rw [if_neg (Qag z3)]
              split
              · exact wpS_pure (.inr ⟨_,_,_,_,_,rfl,m2,by omega,by omega,by omega,by omega,by omega,sm⟩)
              · exact wpS_pure ⟨_,_,_,_,_,rfl,m2,by omega,by omega,by omega,by omega,by omega,sm⟩
        case post1=>
          rintro z st2 (⟨o,y,rfl,ho,sm⟩ | ⟨r,i,j,p,q,rfl,m,i1,i2,j1,j2,x1,sm⟩)
          · exact wpS_pure ⟨o,_,rfl,ho,sm⟩
          · dsimp only
            refine wpS_bind (wpS_lift (wpAny_rule ⟨rfl,?_⟩))
            refine wpS_bind (wpS_mono (wpS_forRange (I:=fun y z st3=>∃ r i j mg p q,z=(none,i,j,r,mg,p,q)/\MH c a b r i j/\1<=i/\i<=a.size/\2<=j/\j<=b.size/\x+2+i+j<=a.size+b.size/\Sm st st3)
              (Q:=fun z st3=>(∃ o y,z=(some o,y)/\Out c a b o/\Sm st st3)∨∃ r i j mg p q,z=(none,i,j,r,mg,p,q)/\MH c a b r i j/\1<=i/\i<=a.size/\2<=j/\j<=b.size/\x+2+i+j<=a.size+b.size/\Sm st st3) ?step2 ?fin2 ⟨r,i,j,_,p,q,rfl,m,i1,i2,j1,j2,by omega,sm⟩) ?post2)
            case fin2=>
              rintro z st3 ⟨r,i,j,mg,p,q,rfl,m,i1,i2,j1,j2,x1,sm⟩
              exact .inr ⟨r,i,j,mg,p,q,rfl,m,i1,i2,j1,j2,by omega,sm⟩
            case post2=>
              rintro z st3 (⟨o,y,rfl,ho,sm⟩ | ⟨r,i,j,mg,p,q,rfl,m,i1,i2,j1,j2,x1,sm⟩)
              · exact wpS_pure ⟨o,_,rfl,ho,sm⟩
              · dsimp only
                exact wpS_bind (Qde sm fun st4 sm4=>wpS_pure ⟨_,_,_,_,rfl,m,i1,i2,j1,j2,by omega,sm4⟩)
            case step2=>
              rintro y z st3 _ hy ⟨r,i,j,mg,p,q,rfl,m,i1,i2,j1,j2,x1,sm⟩
              dsimp only
              by_cases z0:mg > 1
              · rw [if_pos z0]
                refine wpS_bind (Qde sm fun st4 sm4=>?_)
                refine wpS_bind (Qab (by omega) ?_)
                refine wpS_bind (Qam hA (sm4.kind.trans hk) (mb _ (memL (by omega))) ma (by omega) (by omega) (fun x y x1 xy y1=>sa x y (Nat.zero_le _) xy (by omega)) fun t tn b1 b2=>?_)
                have lowA:∀ n,n<t->le c (kx a n) (kx b (j - 1)):=fun n hn=>by
                  have:(!c (kx b (j - 1)) (kx a (0+n)))=true:=b1 n hn
                  rw [Nat.zero_add] at this
                  simpa using this
                have b2:∀ n,t<=n->n<i->c (kx b (j - 1)) (kx a n)=true:=fun n h1 h2=>by
                  have:(!c (kx b (j - 1)) (kx a (0+n)))=false:=b2 n h1 h2
                  rw [Nat.zero_add] at this
                  simpa using this
                dsimp only
                by_cases zk:i - t > 0
                · rw [if_pos zk]
                  have m2:=MH.chA (t:=t) m tn fun n n1 n2 _ k k1 k2=>hA.ord.tr (sb k (j - 1) (Nat.zero_le _) (by omega) (by omega)) (hA.ord.lt_le (b2 n n1 n2))
                  by_cases z2:t=0
                  · rw [if_pos (beq_iff_eq.mpr z2)]
                    exact wpS_pure (.inl ⟨_,_,rfl,m2.dnA z2,sm4⟩)
                  · rw [if_neg (Qag z2)]
                    refine wpS_bind (Qab (by omega) ?_)
                    have m5:=MH.puB m2 (by omega) (by omega) fun k k1 k2=>lowA k k1
                    by_cases z5:j - 1=1
                    · rw [if_pos (beq_iff_eq.mpr z5)]
                      exact wpS_pure (.inl ⟨_,_,rfl,m5.fb z5 p1,sm4⟩)
                    · rw [if_neg (Qag z5)]
                      refine wpS_bind (Qab (by omega) ?_)
                      refine wpS_bind (Qam hA (sm4.kind.trans hk) (ma _ (memL (by omega))) mb (by omega) (by omega) (fun x y x1 xy y1=>sb x y (Nat.zero_le _) xy (by omega)) fun t2 t2n b1 b2=>?_)
                      have b1:∀ n,n<t2->c (kx b n) (kx a (t - 1))=true:=fun n hn=>by have:=b1 n hn;rwa [Nat.zero_add] at this
                      have b2:∀ n,t2<=n->n<j - 1->c (kx b n) (kx a (t - 1))=false:=fun n h1 h2=>by have:=b2 n h1 h2;rwa [Nat.zero_add] at this
                      dsimp only
                      by_cases zk2:j - 1 - t2 > 0
                      · rw [if_pos zk2]
                        have m6:=MH.chB (t:=t2) m5 t2n fun n n1 n2 _ k k1 k2=>hA.ord.tr (sa k (t - 1) (Nat.zero_le _) (by omega) (by omega)) (b2 n n1 n2)
                        by_cases z6:t2=1
                        · rw [if_pos (beq_iff_eq.mpr z6)]
                          exact wpS_pure (.inl ⟨_,_,rfl,m6.fb z6 p1,sm4⟩)
                        · rw [if_neg (Qag z6)]
                          by_cases z7:t2=0
                          · rw [if_pos (beq_iff_eq.mpr z7)]
                            exact wpS_pure (.inl ⟨_,_,rfl,m6.dnB z7,sm4⟩)
                          · rw [if_neg (Qag z7)]
                            refine wpS_bind (Qab (by omega) ?_)
                            have m9:=MH.puA m6 (by omega) (by omega) fun k k1 k2=>hA.ord.lt_le (b1 k k1)
                            by_cases z9:t - 1=0
                            · rw [if_pos (beq_iff_eq.mpr z9)]
                              exact wpS_pure (.inl ⟨_,_,rfl,m9.dnA z9,sm4⟩)
                            · rw [if_neg (Qag z9)]
                              split
                              · exact wpS_pure (.inr ⟨_,_,_,_,_,_,rfl,m9,by omega,by omega,by omega,by omega,by omega,sm4⟩)
                              · exact wpS_pure ⟨_,_,_,_,_,_,rfl,m9,by omega,by omega,by omega,by omega,by omega,sm4⟩
                      · rw [if_neg zk2]
                        have zt:t2=j - 1:=by omega
                        refine wpS_bind (Qab (by omega) ?_)
                        have m9:=MH.puA m5 (by omega) (by omega) fun k k1 k2=>hA.ord.lt_le (b1 k (by omega))
                        by_cases z9:t - 1=0
                        · rw [if_pos (beq_iff_eq.mpr z9)]
                          exact wpS_pure (.inl ⟨_,_,rfl,m9.dnA z9,sm4⟩)
                        · rw [if_neg (Qag z9)]
                          split
                          · exact wpS_pure (.inr ⟨_,_,_,_,_,_,rfl,m9,by omega,by omega,by omega,by omega,by omega,sm4⟩)
                          · exact wpS_pure ⟨_,_,_,_,_,_,rfl,m9,by omega,by omega,by omega,by omega,by omega,sm4⟩
                · rw [if_neg zk]
                  have zt:t=i:=by omega
                  subst zt
                  refine wpS_bind (Qab (by omega) ?_)
                  have m5:=MH.puB m (by omega) (by omega) fun k k1 k2=>lowA k k1
                  by_cases z5:j - 1=1
                  · rw [if_pos (beq_iff_eq.mpr z5)]
                    exact wpS_pure (.inl ⟨_,_,rfl,m5.fb z5 p1,sm4⟩)
                  · rw [if_neg (Qag z5)]
                    refine wpS_bind (Qab (by omega) ?_)
                    refine wpS_bind (Qam hA (sm4.kind.trans hk) (ma _ (memL (by omega))) mb (by omega) (by omega) (fun x y x1 xy y1=>sb x y (Nat.zero_le _) xy (by omega)) fun t2 t2n b1 b2=>?_)
                    have b1:∀ n,n<t2->c (kx b n) (kx a (t - 1))=true:=fun n hn=>by have:=b1 n hn;rwa [Nat.zero_add] at this
                    have b2:∀ n,t2<=n->n<j - 1->c (kx b n) (kx a (t - 1))=false:=fun n h1 h2=>by have:=b2 n h1 h2;rwa [Nat.zero_add] at this
                    dsimp only
                    by_cases zk2:j - 1 - t2 > 0
                    · rw [if_pos zk2]
                      have m6:=MH.chB (t:=t2) m5 t2n fun n n1 n2 _ k k1 k2=>hA.ord.tr (sa k (t - 1) (Nat.zero_le _) (by omega) (by omega)) (b2 n n1 n2)
                      by_cases z6:t2=1
                      · rw [if_pos (beq_iff_eq.mpr z6)]
                        exact wpS_pure (.inl ⟨_,_,rfl,m6.fb z6 p1,sm4⟩)
                      · rw [if_neg (Qag z6)]
                        by_cases z7:t2=0
                        · rw [if_pos (beq_iff_eq.mpr z7)]
                          exact wpS_pure (.inl ⟨_,_,rfl,m6.dnB z7,sm4⟩)
                        · rw [if_neg (Qag z7)]
                          refine wpS_bind (Qab (by omega) ?_)
                          have m9:=MH.puA m6 (by omega) (by omega) fun k k1 k2=>hA.ord.lt_le (b1 k k1)
                          by_cases z9:t - 1=0
                          · rw [if_pos (beq_iff_eq.mpr z9)]
                            exact wpS_pure (.inl ⟨_,_,rfl,m9.dnA z9,sm4⟩)
                          · rw [if_neg (Qag z9)]
                            split
                            · exact wpS_pure (.inr ⟨_,_,_,_,_,_,rfl,m9,by omega,by omega,by omega,by omega,by omega,sm4⟩)
                            · exact wpS_pure ⟨_,_,_,_,_,_,rfl,m9,by omega,by omega,by omega,by omega,by omega,sm4⟩
                    · rw [if_neg zk2]
                      have zt:t2=j - 1:=by omega
                      refine wpS_bind (Qab (by omega) ?_)
                      have m9:=MH.puA m5 (by omega) (by omega) fun k k1 k2=>hA.ord.lt_le (b1 k (by omega))
                      by_cases z9:t - 1=0
                      · rw [if_pos (beq_iff_eq.mpr z9)]
                        exact wpS_pure (.inl ⟨_,_,rfl,m9.dnA z9,sm4⟩)
                      · rw [if_neg (Qag z9)]
                        split
                        · exact wpS_pure (.inr ⟨_,_,_,_,_,_,rfl,m9,by omega,by omega,by omega,by omega,by omega,sm4⟩)
                        · exact wpS_pure ⟨_,_,_,_,_,_,rfl,m9,by omega,by omega,by omega,by omega,by omega,sm4⟩
              · rw [if_neg z0]
                refine wpS_bind (Qde sm fun st4 sm4=>?_)
                refine wpS_bind (Qab (by omega) ?_)
                refine wpS_bind (Qam hA (sm4.kind.trans hk) (mb _ (memL (by omega))) ma (by omega) (by omega) (fun x y x1 xy y1=>sa x y (Nat.zero_le _) xy (by omega)) fun t tn b1 b2=>?_)
                have lowA:∀ n,n<t->le c (kx a n) (kx b (j - 1)):=fun n hn=>by
                  have:(!c (kx b (j - 1)) (kx a (0+n)))=true:=b1 n hn
                  rw [Nat.zero_add] at this
                  simpa using this
                have b2:∀ n,t<=n->n<i->c (kx b (j - 1)) (kx a n)=true:=fun n h1 h2=>by
                  have:(!c (kx b (j - 1)) (kx a (0+n)))=false:=b2 n h1 h2
                  rw [Nat.zero_add] at this
                  simpa using this
                dsimp only
                by_cases zk:i - t > 0
                · rw [if_pos zk]
                  have m2:=MH.chA (t:=t) m tn fun n n1 n2 _ k k1 k2=>hA.ord.tr (sb k (j - 1) (Nat.zero_le _) (by omega) (by omega)) (hA.ord.lt_le (b2 n n1 n2))
                  by_cases z2:t=0
                  · rw [if_pos (beq_iff_eq.mpr z2)]
                    exact wpS_pure (.inl ⟨_,_,rfl,m2.dnA z2,sm4⟩)
                  · rw [if_neg (Qag z2)]
                    refine wpS_bind (Qab (by omega) ?_)
                    have m5:=MH.puB m2 (by omega) (by omega) fun k k1 k2=>lowA k k1
                    by_cases z5:j - 1=1
                    · rw [if_pos (beq_iff_eq.mpr z5)]
                      exact wpS_pure (.inl ⟨_,_,rfl,m5.fb z5 p1,sm4⟩)
                    · rw [if_neg (Qag z5)]
                      refine wpS_bind (Qab (by omega) ?_)
                      refine wpS_bind (Qam hA (sm4.kind.trans hk) (ma _ (memL (by omega))) mb (by omega) (by omega) (fun x y x1 xy y1=>sb x y (Nat.zero_le _) xy (by omega)) fun t2 t2n b1 b2=>?_)
                      have b1:∀ n,n<t2->c (kx b n) (kx a (t - 1))=true:=fun n hn=>by have:=b1 n hn;rwa [Nat.zero_add] at this
                      have b2:∀ n,t2<=n->n<j - 1->c (kx b n) (kx a (t - 1))=false:=fun n h1 h2=>by have:=b2 n h1 h2;rwa [Nat.zero_add] at this
                      dsimp only
                      by_cases zk2:j - 1 - t2 > 0
                      · rw [if_pos zk2]
                        have m6:=MH.chB (t:=t2) m5 t2n fun n n1 n2 _ k k1 k2=>hA.ord.tr (sa k (t - 1) (Nat.zero_le _) (by omega) (by omega)) (b2 n n1 n2)
                        by_cases z6:t2=1
                        · rw [if_pos (beq_iff_eq.mpr z6)]
                          exact wpS_pure (.inl ⟨_,_,rfl,m6.fb z6 p1,sm4⟩)
                        · rw [if_neg (Qag z6)]
                          by_cases z7:t2=0
                          · rw [if_pos (beq_iff_eq.mpr z7)]
                            exact wpS_pure (.inl ⟨_,_,rfl,m6.dnB z7,sm4⟩)
                          · rw [if_neg (Qag z7)]
                            refine wpS_bind (Qab (by omega) ?_)
                            have m9:=MH.puA m6 (by omega) (by omega) fun k k1 k2=>hA.ord.lt_le (b1 k k1)
                            by_cases z9:t - 1=0
                            · rw [if_pos (beq_iff_eq.mpr z9)]
                              exact wpS_pure (.inl ⟨_,_,rfl,m9.dnA z9,sm4⟩)
                            · rw [if_neg (Qag z9)]
                              split
                              · exact wpS_pure (.inr ⟨_,_,_,_,_,_,rfl,m9,by omega,by omega,by omega,by omega,by omega,sm4⟩)
                              · exact wpS_pure ⟨_,_,_,_,_,_,rfl,m9,by omega,by omega,by omega,by omega,by omega,sm4⟩
                      · rw [if_neg zk2]
                        have zt:t2=j - 1:=by omega
                        refine wpS_bind (Qab (by omega) ?_)
                        have m9:=MH.puA m5 (by omega) (by omega) fun k k1 k2=>hA.ord.lt_le (b1 k (by omega))
                        by_cases z9:t - 1=0
                        · rw [if_pos (beq_iff_eq.mpr z9)]
                          exact wpS_pure (.inl ⟨_,_,rfl,m9.dnA z9,sm4⟩)
                        · rw [if_neg (Qag z9)]
                          split
                          · exact wpS_pure (.inr ⟨_,_,_,_,_,_,rfl,m9,by omega,by omega,by omega,by omega,by omega,sm4⟩)
                          · exact wpS_pure ⟨_,_,_,_,_,_,rfl,m9,by omega,by omega,by omega,by omega,by omega,sm4⟩
                · rw [if_neg zk]
                  have zt:t=i:=by omega
                  subst zt
                  refine wpS_bind (Qab (by omega) ?_)
                  have m5:=MH.puB m (by omega) (by omega) fun k k1 k2=>lowA k k1
                  by_cases z5:j - 1=1
                  · rw [if_pos (beq_iff_eq.mpr z5)]
                    exact wpS_pure (.inl ⟨_,_,rfl,m5.fb z5 p1,sm4⟩)
                  · rw [if_neg (Qag z5)]
                    refine wpS_bind (Qab (by omega) ?_)
                    refine wpS_bind (Qam hA (sm4.kind.trans hk) (ma _ (memL (by omega))) mb (by omega) (by omega) (fun x y x1 xy y1=>sb x y (Nat.zero_le _) xy (by omega)) fun t2 t2n b1 b2=>?_)
                    have b1:∀ n,n<t2->c (kx b n) (kx a (t - 1))=true:=fun n hn=>by have:=b1 n hn;rwa [Nat.zero_add] at this
                    have b2:∀ n,t2<=n->n<j - 1->c (kx b n) (kx a (t - 1))=false:=fun n h1 h2=>by have:=b2 n h1 h2;rwa [Nat.zero_add] at this
                    dsimp only
                    by_cases zk2:j - 1 - t2 > 0
                    · rw [if_pos zk2]
                      have m6:=MH.chB (t:=t2) m5 t2n fun n n1 n2 _ k k1 k2=>hA.ord.tr (sa k (t - 1) (Nat.zero_le _) (by omega) (by omega)) (b2 n n1 n2)
                      by_cases z6:t2=1
                      · rw [if_pos (beq_iff_eq.mpr z6)]
                        exact wpS_pure (.inl ⟨_,_,rfl,m6.fb z6 p1,sm4⟩)
                      · rw [if_neg (Qag z6)]
                        by_cases z7:t2=0
                        · rw [if_pos (beq_iff_eq.mpr z7)]
                          exact wpS_pure (.inl ⟨_,_,rfl,m6.dnB z7,sm4⟩)
                        · rw [if_neg (Qag z7)]
                          refine wpS_bind (Qab (by omega) ?_)
                          have m9:=MH.puA m6 (by omega) (by omega) fun k k1 k2=>hA.ord.lt_le (b1 k k1)
                          by_cases z9:t - 1=0
                          · rw [if_pos (beq_iff_eq.mpr z9)]
                            exact wpS_pure (.inl ⟨_,_,rfl,m9.dnA z9,sm4⟩)
                          · rw [if_neg (Qag z9)]
                            split
                            · exact wpS_pure (.inr ⟨_,_,_,_,_,_,rfl,m9,by omega,by omega,by omega,by omega,by omega,sm4⟩)
                            · exact wpS_pure ⟨_,_,_,_,_,_,rfl,m9,by omega,by omega,by omega,by omega,by omega,sm4⟩
                    · rw [if_neg zk2]
                      have zt:t2=j - 1:=by omega
                      refine wpS_bind (Qab (by omega) ?_)
                      have m9:=MH.puA m5 (by omega) (by omega) fun k k1 k2=>hA.ord.lt_le (b1 k (by omega))
                      by_cases z9:t - 1=0
                      · rw [if_pos (beq_iff_eq.mpr z9)]
                        exact wpS_pure (.inl ⟨_,_,rfl,m9.dnA z9,sm4⟩)
                      · rw [if_neg (Qag z9)]
                        split
                        · exact wpS_pure (.inr ⟨_,_,_,_,_,_,rfl,m9,by omega,by omega,by omega,by omega,by omega,sm4⟩)
                        · exact wpS_pure ⟨_,_,_,_,_,_,rfl,m9,by omega,by omega,by omega,by omega,by omega,sm4⟩
end
theorem Qfk (i:Nat):mergeAt' i=(do
  let z <- get
  let (some (u,n,pw),some (v,m,_)):=((pendingOf z)[i]?,(pendingOf z)[i+1]?) | unsupported "internal:list.sort.pending"
  set (setPending z (((pendingOf z).setIfInBounds i (u,n+m,pw)).eraseIdxIfInBounds (i+1)))
  let some k <- Qbz false (<- elem' (arrOf z) v) (arrOf z) u n 0 | return false
  let (u,n):=(u+k,n - k)
  if n == 0 then return true
  let some m <- Qbz true (<- elem' (arrOf z) (u+n - 1)) (arrOf z) v m (m - 1) | return false
  if m == 0 then return true
  let x:=(arrOf z).extract u v
  let y:=(arrOf z).extract v (v+m)
  let mm <- if n<=m then QdV x y else QdW x y
  modify fun z=>setArr z (mm.toList.zipIdx.foldl (fun a (p,j)=>a.setIfInBounds (u+j) p) (arrOf z))
  return (failedOf (<- get)).isNone):=rfl
theorem Qkx {σ:Type} {M:Model} {A:Around} {E:Value->Shared->Prop} {s:Shared} {Q:PUnit->σ->Prop} {st st':σ} (h:Q ⟨⟩ st'):wpS M A E s (set st':StateT σ Sem PUnit) Q st:=by
  unfold wpS;rw [StateT.run_set];exact wpAny_pure ⟨rfl,h⟩
theorem QfX (u:Nat):∀ (z:List Keyed) (m:Nat) (xs:Array Keyed),u+m+z.length<=xs.size->((z.zipIdx m).foldl (fun a (p:Keyed×Nat)=>a.setIfInBounds (u+p.2) p.1) xs).toList=xs.toList.take (u+m)++z++xs.toList.drop (u+m+z.length)
  | [],m,xs,_=>by
    show xs.toList=_
    rw [List.append_nil,List.length_nil,Nat.add_zero,List.take_append_drop]
  | p::z,m,xs,h=>by
    rw [List.length_cons] at h
    rw [List.zipIdx_cons,List.foldl_cons]
    have ih:=QfX u z (m+1) (xs.setIfInBounds (u+m) p) (by rw [Array.size_setIfInBounds];omega)
    rw [ih,Array.toList_setIfInBounds,List.set_eq_take_append_cons_drop,if_pos (by rw [Array.length_toList];omega)]
    have lt:(xs.toList.take (u+m)).length=u+m:=by rw [List.length_take,Array.length_toList];omega
    have e1:(xs.toList.take (u+m)++p::xs.toList.drop (u+m+1)).take (u+(m+1))=xs.toList.take (u+m)++[p]:=by
      rw [List.take_append,lt,List.take_of_length_le (by omega),show u+(m+1) - (u+m)=1 by omega]
      rfl
    have e2:(xs.toList.take (u+m)++p::xs.toList.drop (u+m+1)).drop (u+(m+1)+z.length)=xs.toList.drop (u+m+(p::z).length):=by
      rw [List.drop_append,lt,List.drop_of_length_le (by omega),List.nil_append,show u+(m+1)+z.length - (u+m)=z.length+1 by omega,List.drop_succ_cons,List.drop_drop,List.length_cons]
      congr 1
      omega
    rw [e1,e2,List.append_assoc,List.append_assoc,List.append_assoc]
    rfl
theorem QeD {xs ys:Array Keyed} {i j:Nat} (h:xs.toList[i]? = ys.toList[j]?):kx xs i=kx ys j:=by
  rw [Array.getElem?_toList,Array.getElem?_toList] at h
  exact Qfn h
theorem Qkb {xs:Array Keyed} {u v t:Nat} (h:u+t<v) (hv:v<=xs.size):kx (xs.extract u v) t=kx xs (u+t):=by
  refine Qfn ?_
  rw [Array.getElem?_extract,if_pos (by omega)]
section
variable {c:Keyed->Keyed->Bool}
structure Laid (c:Keyed->Keyed->Bool) (xs ws z:Array Keyed) (lo hi:Nat):Prop where
  size:ws.size=xs.size
  perm:ws.Perm xs
  out:∀ n,n<lo∨hi<=n->kx ws n=kx xs n
  mid:∀ n,lo<=n->n<hi->kx ws n=kx z (n - lo)
  zs:z.size=hi - lo
  of_:∀ n,lo<=n->n<hi->∃ m,lo<=m/\m<hi/\kx ws n=kx xs m
theorem QlJ {xs z:Array Keyed} {lo v hi:Nat} (h1:lo<=v) (h2:v<=hi) (h3:hi<=xs.size) (o:Out c (xs.extract lo v) (xs.extract v hi) z):Laid c xs (z.toList.zipIdx.foldl (fun a (p:Keyed×Nat)=>a.setIfInBounds (lo+p.2) p.1) xs) z lo hi:=by
  have ln:z.toList.length=hi - lo:=by
    rw [o.2.length_eq,List.length_append,Array.length_toList,Array.length_toList,Array.size_extract,Array.size_extract]
    omega
  have zs:z.size=hi - lo:=by rw [<- ln,Array.length_toList]
  have lb:=QfX lo z.toList 0 xs (by omega)
  rw [Nat.add_zero,ln,show lo+(hi - lo)=hi by omega] at lb
  generalize hw:z.toList.zipIdx.foldl (fun a (p:Keyed×Nat)=>a.setIfInBounds (lo+p.2) p.1) xs=ws
  rw [show z.toList.zipIdx 0=z.toList.zipIdx from rfl,hw] at lb
  have lt:(xs.toList.take lo).length=lo:=by rw [List.length_take,Array.length_toList];omega
  have mid0:xs.toList=xs.toList.take lo++((xs.extract lo v).toList++(xs.extract v hi).toList)++xs.toList.drop hi:=by
    rw [Qa4,Qa4]
    have e1:xs.toList.take hi=xs.toList.take v++(xs.toList.take hi).drop v:=by
      have:=(List.take_append_drop v (xs.toList.take hi)).symm
      rwa [List.take_take,Nat.min_eq_left h2] at this
    have e2:xs.toList.take v=xs.toList.take lo++(xs.toList.take v).drop lo:=by
      have:=(List.take_append_drop lo (xs.toList.take v)).symm
      rwa [List.take_take,Nat.min_eq_left h1] at this
    rw [<- List.append_assoc,<- e2,<- e1,List.take_append_drop]
  have szl:ws.toList.length=xs.toList.length:=by
    rw [lb,List.length_append,List.length_append,lt,ln,List.length_drop,Array.length_toList]
    omega
  have md:∀ n,lo<=n->n<hi->kx ws n=kx z (n - lo):=fun n n1 n2=>by
    refine QeD ?_
    rw [lb,List.getElem?_append_left (by rw [List.length_append,lt,ln];omega),List.getElem?_append_right (by rw [lt];exact n1),lt]
  refine ⟨by rw [<- Array.length_toList,szl,Array.length_toList],?_,fun n hn=>?_,md,zs,fun n n1 n2=>?_⟩
  · refine Array.perm_iff_toList_perm.mpr ?_
    rw [lb]
    conv=>rhs;rw [mid0]
    exact List.Perm.append_right _ (List.Perm.append_left _ o.2)
  · refine QeD ?_
    rw [lb]
    rcases hn with hn | hn
    · rw [List.append_assoc,List.getElem?_append_left (by rw [lt];exact hn),List.getElem?_take,if_pos hn]
    · rw [List.getElem?_append_right (by rw [List.length_append,lt,ln];omega),List.length_append,lt,ln,List.getElem?_drop]
      congr 1
      omega
  · have hz:n - lo<z.size:=by omega
    have hm:=o.2.mem_iff.mp (memL hz)
    rw [md n n1 n2]
    rcases List.mem_append.mp hm with q | q
    · rw [Qa4] at q
      obtain ⟨m,m1,m2,_,e⟩:=QaF q
      exact ⟨m,m1,by omega,e⟩
    · rw [Qa4] at q
      obtain ⟨m,m1,m2,_,e⟩:=QaF q
      exact ⟨m,by omega,m2,e⟩
end
section
variable {prog:Program} {w:World} {A:Around} {E:Value->Shared->Prop} {s:Shared} {a₀:Array Keyed} {κ:SortKind} {c:Keyed->Keyed->Bool}
structure Mg (κ:SortKind) (a₀:Array Keyed) (c:Keyed->Keyed->Bool) (st st':SortSt) (i u v hi pn pw:Nat):Prop where
  sb:SB κ a₀ st'
  pend:pendingOf st'=((pendingOf st).setIfInBounds i (u,pn,pw)).eraseIdxIfInBounds (i+1)
  out:∀ n,n<u∨hi<=n->kx (arrOf st') n=kx (arrOf st) n
  sg:Sg c (arrOf st') u hi
theorem Qe2 {st:SortSt} {i u n pw m pw2:Nat} {Q:Bool->SortSt->Prop} (hA:Asks prog w A s κ a₀ c) (hB:SB κ a₀ st) (e1:(pendingOf st)[i]? = some (u,n,pw)) (e2:(pendingOf st)[i+1]? = some (u+n,m,pw2)) (n1:1<=n) (m1:1<=m) (hz:u+n+m<=a₀.size)
    (s1:Sg c (arrOf st) u (u+n)) (s2:Sg c (arrOf st) (u+n) (u+n+m)) (h:∀ st',Mg κ a₀ c st st' i u (u+n) (u+n+m) (n+m) pw->Q true st'):wpS (model prog w) A E s (mergeAt' i) Q st:=by
  have sz:=hB.size
  have mem:∀ p∈(arrOf st).toList,p∈a₀.toList:=fun p hp=>hB.mem hp
  have memE:∀ {x y:Nat} {p:Keyed},p∈((arrOf st).extract x y).toList->p∈a₀.toList:=fun {x y p} hp=>mem p (by rw [Qa4] at hp;exact List.mem_of_mem_take (List.mem_of_mem_drop hp))
  rw [Qfk]
  refine wpS_bind (wpS_get ?_)
  rw [e1,e2]
  dsimp only
  refine wpS_bind (Qkx ?_)
  refine wpS_bind (Qab (by omega) ?_)
  refine wpS_bind (Qam hA hB.kind (mem _ (memL (by omega))) mem (by omega) (by omega) s1 fun k kn b1 b2=>?_)
  have b1:∀ t,t<k->le c (kx (arrOf st) (u+t)) (kx (arrOf st) (u+n)):=fun t ht=>by
    have:(!c (kx (arrOf st) (u+n)) (kx (arrOf st) (u+t)))=true:=b1 t ht
    simpa using this
  have b2:∀ t,k<=t->t<n->c (kx (arrOf st) (u+n)) (kx (arrOf st) (u+t))=true:=fun t h1 h2=>by
    have:(!c (kx (arrOf st) (u+n)) (kx (arrOf st) (u+t)))=false:=b2 t h1 h2
    simpa using this
  dsimp only
  by_cases z1:n - k=0
  · rw [if_pos (beq_iff_eq.mpr z1)]
    refine wpS_pure (h _ ⟨⟨hB.perm,hB.kind,hB.failed⟩,rfl,fun _ _=>rfl,fun x y x1 xy y1=>?_⟩)
    show le c (kx (arrOf st) x) (kx (arrOf st) y)
    by_cases zx:x<u+n
    · by_cases zy:y<u+n
      · exact s1 x y x1 xy zy
      · have:=b1 (x - u) (by omega)
        rw [show u+(x - u)=x by omega] at this
        exact hA.ord.tr this (s2 (u+n) y (Nat.le_refl _) (by omega) y1)
    · exact s2 x y (by omega) xy y1
  · rw [if_neg (Qag z1)]
    have hl:u+k+(n - k) - 1=u+n - 1:=by omega
    rw [hl]
    refine wpS_bind (Qab (by omega) ?_)
    refine wpS_bind (Qam hA hB.kind (mem _ (memL (by omega))) mem (by omega) (by omega) s2 fun m2 mn d1 d2=>?_)
    have d1:∀ t,t<m2->c (kx (arrOf st) (u+n+t)) (kx (arrOf st) (u+n - 1))=true:=fun t ht=>d1 t ht
    have d2:∀ t,m2<=t->t<m->le c (kx (arrOf st) (u+n - 1)) (kx (arrOf st) (u+n+t)):=fun t h1 h2=>d2 t h1 h2
    dsimp only
    by_cases z2:m2=0
    · rw [if_pos (beq_iff_eq.mpr z2)]
      refine wpS_pure (h _ ⟨⟨hB.perm,hB.kind,hB.failed⟩,rfl,fun _ _=>rfl,fun x y x1 xy y1=>?_⟩)
      show le c (kx (arrOf st) x) (kx (arrOf st) y)
      by_cases zx:x<u+n
      · by_cases zy:y<u+n
        · exact s1 x y x1 xy zy
        · have:=d2 (y - (u+n)) (by omega) (by omega)
          rw [show u+n+(y - (u+n))=y by omega] at this
          exact hA.ord.tr (s1 x (u+n - 1) x1 (by omega) (by omega)) this
      · exact s2 x y (by omega) xy y1
    · rw [if_neg (Qag z2)]
      have ex:∀ t,t<n - k->kx ((arrOf st).extract (u+k) (u+n)) t=kx (arrOf st) (u+k+t):=fun t ht=>Qkb (by omega) (by omega)
      have ey:∀ t,t<m2->kx ((arrOf st).extract (u+n) (u+n+m2)) t=kx (arrOf st) (u+n+t):=fun t ht=>Qkb (by omega) (by omega)
      have sx:((arrOf st).extract (u+k) (u+n)).size=n - k:=by rw [Array.size_extract];omega
      have sy:((arrOf st).extract (u+n) (u+n+m2)).size=m2:=by rw [Array.size_extract];omega
      have fin:∀ (z:Array Keyed) (st':SortSt),Sm (setPending st (((pendingOf st).setIfInBounds i (u,n+m,pw)).eraseIdxIfInBounds (i+1))) st'->Out c ((arrOf st).extract (u+k) (u+n)) ((arrOf st).extract (u+n) (u+n+m2)) z ->
          wpS (model prog w) A E s (do
            modify fun x=>setArr x (z.toList.zipIdx.foldl (fun a (p,j)=>a.setIfInBounds (u+k+j) p) (arrOf x))
            return (failedOf (<- get)).isNone) Q st':=fun z st' sm o=>by
        refine wpS_bind (wpS_modify (wpS_bind (wpS_get ?_)))
        have fe:failedOf st'=none:=sm.failed.trans hB.failed
        have ae:arrOf st'=arrOf st:=sm.arr
        have L:=QlJ (c:=c) (xs:=arrOf st) (z:=z) (lo:=u+k) (v:=u+n) (hi:=u+n+m2) (by omega) (by omega) (by omega) o
        refine wpS_pure ?_
        show Q ((failedOf st').isNone) _
        rw [fe,ae]
        refine h _ ⟨⟨L.perm.trans hB.perm,sm.kind.trans hB.kind,fe⟩,sm.pend,fun x hx=>L.out x (by omega),fun x y x1 xy y1=>?_⟩
        generalize z.toList.zipIdx.foldl (fun a (p:Keyed×Nat)=>a.setIfInBounds (u+k+p.2) p.1) (arrOf st)=ws at L
        show le c (kx ws x) (kx ws y)
        have a0:∀ x,u<=x->x<u+k->le c (kx (arrOf st) x) (kx (arrOf st) (u+n)):=fun x g1 g2=>by have:=b1 (x - u) (by omega);rwa [show u+(x - u)=x by omega] at this
        have b9:∀ y,u+n+m2<=y->y<u+n+m->le c (kx (arrOf st) (u+n - 1)) (kx (arrOf st) y):=fun y g1 g2=>by have:=d2 (y - (u+n)) (by omega) (by omega);rwa [show u+n+(y - (u+n))=y by omega] at this
        by_cases zx:x<u+k
        · rw [L.out x (.inl zx)]
          by_cases zy:y<u+k
          · rw [L.out y (.inl zy)]
            exact s1 x y x1 xy (by omega)
          · by_cases zy2:y<u+n+m2
            · obtain ⟨q,q1,q2,qe⟩:=L.of_ y (by omega) zy2
              rw [qe]
              by_cases zq:q<u+n
              · exact s1 x q x1 (by omega) zq
              · exact hA.ord.tr (a0 x x1 zx) (s2 (u+n) q (Nat.le_refl _) (by omega) (by omega))
            · rw [L.out y (.inr (by omega))]
              exact hA.ord.tr (a0 x x1 zx) (s2 (u+n) y (Nat.le_refl _) (by omega) y1)
        · by_cases zx2:x<u+n+m2
          · by_cases zy2:y<u+n+m2
            · rw [L.mid x (by omega) zx2,L.mid y (by omega) zy2]
              by_cases xe:x=y
              · subst xe;exact hA.ord.irr _
              · have g:=List.pairwise_iff_getElem.mp o.1 (x - (u+k)) (y - (u+k)) (by rw [Array.length_toList,L.zs];omega) (by rw [Array.length_toList,L.zs];omega) (by omega)
                have k1:=Qa1 (xs:=z) (i:=x - (u+k)) (by rw [L.zs];omega)
                have k2:=Qa1 (xs:=z) (i:=y - (u+k)) (by rw [L.zs];omega)
                rw [List.getElem?_eq_getElem (by rw [Array.length_toList,L.zs];omega)] at k1 k2
                rw [Option.some.inj k1,Option.some.inj k2] at g
                exact g
            · rw [L.out y (.inr (by omega))]
              obtain ⟨q,q1,q2,qe⟩:=L.of_ x (by omega) zx2
              rw [qe]
              by_cases zq:q<u+n
              · exact hA.ord.tr (s1 q (u+n - 1) (by omega) (by omega) (by omega)) (b9 y (by omega) y1)
              · exact s2 q y (by omega) (by omega) y1
          · rw [L.out x (.inr (by omega)),L.out y (.inr (by omega))]
            exact s2 x y (by omega) xy y1
      have hsx:Sg c ((arrOf st).extract (u+k) (u+n)) 0 ((arrOf st).extract (u+k) (u+n)).size:=fun x y _ xy y1=>by
        rw [sx] at y1
        rw [ex x (by omega),ex y y1]
        exact s1 _ _ (by omega) (by omega) (by omega)
      have hsy:Sg c ((arrOf st).extract (u+n) (u+n+m2)) 0 ((arrOf st).extract (u+n) (u+n+m2)).size:=fun x y _ xy y1=>by
        rw [sy] at y1
        rw [ey x (by omega),ey y y1]
        exact s2 _ _ (by omega) (by omega) (by omega)
      have hp1:∀ t,t<((arrOf st).extract (u+k) (u+n)).size->le c (kx ((arrOf st).extract (u+n) (u+n+m2)) 0) (kx ((arrOf st).extract (u+k) (u+n)) t):=fun t ht=>by
        rw [sx] at ht
        rw [ey 0 (by omega),ex t ht,Nat.add_zero]
        have:=b2 (k+t) (by omega) (by omega)
        rw [show u+(k+t)=u+k+t by omega] at this
        exact hA.ord.lt_le this
      have hp2:∀ t,t<((arrOf st).extract (u+n) (u+n+m2)).size->le c (kx ((arrOf st).extract (u+n) (u+n+m2)) t) (kx ((arrOf st).extract (u+k) (u+n)) (((arrOf st).extract (u+k) (u+n)).size - 1)):=fun t ht=>by
        rw [sy] at ht
        rw [sx,ey t ht,ex (n - k - 1) (by omega),show u+k+(n - k - 1)=u+n - 1 by omega]
        exact hA.ord.lt_le (d1 t ht)
      split
      · exact wpS_bind (Qe0 hA hB.kind (fun p hp=>memE hp) (fun p hp=>memE hp) (by rw [sx];omega) (by rw [sy];omega) hsx hsy hp1 hp2 fun z st' sm o=>fin z st' sm o)
      · exact wpS_bind (Qe1 hA hB.kind (fun p hp=>memE hp) (fun p hp=>memE hp) (by rw [sx];omega) (by rw [sy];omega) hsx hsy hp1 hp2 fun z st' sm o=>fin z st' sm o)
end
def RunsOk:List (Nat×Nat)->Nat->Nat->Prop
  | [],s,e=>s=e
  | (s',n)::r,s,e=>s'=s/\1<=n/\RunsOk r (s+n) e
theorem RunsOk.app:∀ {l1 l2:List (Nat×Nat)} {s e:Nat},RunsOk (l1++l2) s e↔∃ m,RunsOk l1 s m/\RunsOk l2 m e
  | [],l2,s,e=>⟨fun h=>⟨s,rfl,h⟩,fun ⟨m,h1,h2⟩=>by cases (show s=m from h1);exact h2⟩
  | (s',n)::l1,l2,s,e=>by
    constructor
    · rintro ⟨h1,h2,h3⟩
      obtain ⟨m,a,b⟩:=RunsOk.app.mp h3
      exact ⟨m,⟨h1,h2,a⟩,b⟩
    · rintro ⟨m,⟨h1,h2,a⟩,b⟩
      exact ⟨h1,h2,RunsOk.app.mpr ⟨m,a,b⟩⟩
theorem RunsOk.le:∀ {l:List (Nat×Nat)} {s e:Nat},RunsOk l s e->s+l.length<=e
  | [],s,e,h=>by cases (show s=e from h);exact Nat.le_refl _
  | (s',n)::l,s,e,⟨_,h2,h3⟩=>by
    have:=RunsOk.le h3
    rw [List.length_cons]
    omega
theorem RunsOk.mem:∀ {l:List (Nat×Nat)} {s e:Nat},RunsOk l s e->∀ p∈l,s<=p.1/\p.1+p.2<=e
  | (s',n)::l,s,e,⟨h1,h2,h3⟩,p,hp=>by
    have hl:=RunsOk.le h3
    rcases List.mem_cons.mp hp with z | z
    · subst z
      show s<=s'/\s'+n<=e
      omega
    · have:=RunsOk.mem h3 p z
      omega
def sn (p:Nat×Nat×Nat):Nat×Nat:=(p.1,p.2.1)
def QaD (st:SortSt):List (Nat×Nat):=(pendingOf st).toList.map sn
section
variable {prog:Program} {w:World} {A:Around} {E:Value->Shared->Prop} {s:Shared} {a₀:Array Keyed} {κ:SortKind} {c:Keyed->Keyed->Bool}
structure RI (κ:SortKind) (a₀:Array Keyed) (c:Keyed->Keyed->Bool) (lo:Nat) (st:SortSt):Prop where
  sb:SB κ a₀ st
  runs:RunsOk (QaD st) 0 lo
  srt:∀ p∈QaD st,Sg c (arrOf st) p.1 (p.1+p.2)
  le:lo<=a₀.size
theorem Sg.same {xs ys:Array Keyed} {u v:Nat} (h:Sg c xs u v) (k:∀ n,u<=n->n<v->kx ys n=kx xs n):Sg c ys u v:=fun i j hi hij hj=>by
  rw [k i hi (by omega),k j (by omega) hj]
  exact h i j hi hij hj
theorem two_of {l:List (Nat×Nat×Nat)} {i:Nat} (h:i+1<l.length):∃ l1 x y l2,l=l1++x::y::l2/\l1.length=i:=by
  refine ⟨l.take i,l[i],l[i+1],l.drop (i+2),?_,by rw [List.length_take];omega⟩
  rw [<- List.drop_eq_getElem_cons,<- List.drop_eq_getElem_cons,List.take_append_drop]
theorem Qch {st:SortSt} {lo i hi:Nat} {Q:Bool->SortSt->Prop} (hA:Asks prog w A s κ a₀ c) (ri:RI κ a₀ c lo st) (hi':i+1<(pendingOf st).size)
    (h:∀ st',RI κ a₀ c lo st'->(pendingOf st').size+1=(pendingOf st).size->(∀ n,lo<=n->kx (arrOf st') n=kx (arrOf st) n)->Q true st'):wpS (model prog w) A E s (mergeAt' i) Q st:=by
  obtain ⟨l1,⟨u,n,pw⟩,⟨v,m,pw2⟩,l2,el,ll⟩:=two_of (l:=(pendingOf st).toList) (i:=i) (by rw [Array.length_toList];exact hi')
  have er:QaD st=l1.map sn++(u,n)::(v,m)::l2.map sn:=by unfold QaD;rw [el,List.map_append];rfl
  have r0:=ri.runs
  rw [er] at r0
  obtain ⟨q,ra,rb⟩:=RunsOk.app.mp r0
  obtain ⟨g1,g2,g3,g4,g5⟩:=rb
  subst g1
  subst g3
  have e1:(pendingOf st)[i]? = some (u,n,pw):=by
    rw [<- Array.getElem?_toList,el,List.getElem?_append_right (by omega),ll,Nat.sub_self];rfl
  have e2:(pendingOf st)[i+1]? = some (u+n,m,pw2):=by
    rw [<- Array.getElem?_toList,el,List.getElem?_append_right (by omega),ll,show i+1 - i=1 by omega];rfl
  have le5:=RunsOk.le g5
  have le1:=ri.le
  refine Qe2 hA ri.sb e1 e2 g2 g4 (by omega) (ri.srt (u,n) (by rw [er];simp)) (ri.srt (u+n,m) (by rw [er];simp)) fun st' mg=>?_
  have ep:(pendingOf st').toList=l1++(u,n+m,pw)::l2:=by
    rw [mg.pend,Array.toList_eraseIdxIfInBounds,Array.toList_setIfInBounds,el,List.set_append_right _ _ (by omega),ll,Nat.sub_self,List.set_cons_zero,List.eraseIdx_append_of_length_le (by omega),ll,show i+1 - i=1 by omega]
    rfl
  have er':QaD st'=l1.map sn++(u,n+m)::l2.map sn:=by unfold QaD;rw [ep,List.map_append];rfl
  refine h st' ⟨mg.sb,?_,fun p hp=>?_,ri.le⟩ ?_ fun k hk=>mg.out k (.inr (by omega))
  · rw [er']
    exact RunsOk.app.mpr ⟨u,ra,rfl,by omega,by rw [show u+(n+m)=u+n+m by omega];exact g5⟩
  · rw [er'] at hp
    rcases List.mem_append.mp hp with z | z
    · have b:=RunsOk.mem ra p z
      exact (ri.srt p (by rw [er];exact List.mem_append_left _ z)).same fun k k1 k2=>mg.out k (.inl (by omega))
    · rcases List.mem_cons.mp z with z | z
      · subst z
        show Sg c (arrOf st') u (u+(n+m))
        rw [show u+(n+m)=u+n+m by omega]
        exact mg.sg
      · have b:=RunsOk.mem g5 p z
        exact (ri.srt p (by rw [er];exact List.mem_append_right _ (List.mem_cons_of_mem _ (List.mem_cons_of_mem _ z)))).same fun k k1 k2=>mg.out k (.inr (by omega))
  · rw [<- Array.length_toList,<- Array.length_toList,ep,el,List.length_append,List.length_append,List.length_cons,List.length_cons,List.length_cons]
    omega
theorem RI.pow {st:SortSt} {lo:Nat} (r:RI κ a₀ c lo st) (i pw:Nat):RI κ a₀ c lo (setPending st ((pendingOf st).modify i fun x=>(x.1,x.2.1,pw))):=by
  have er:QaD (setPending st ((pendingOf st).modify i fun x=>(x.1,x.2.1,pw)))=QaD st:=by
    show ((pendingOf st).modify i fun x=>(x.1,x.2.1,pw)).toList.map sn=(pendingOf st).toList.map sn
    rw [Array.toList_modify]
    apply List.ext_getElem?
    intro j
    rw [List.getElem?_map,List.getElem?_map,List.getElem?_modify]
    cases (pendingOf st).toList[j]? with
    | none=>rfl
    | some p=>
      show some (sn (if i=j then _ else p))=some (sn p)
      split<;>rfl
  exact ⟨⟨r.sb.perm,r.sb.kind,r.sb.failed⟩,by rw [er];exact r.runs,by rw [er];exact r.srt,r.le⟩
theorem QeZ {st:SortSt} {Q:Unit->SortSt->Prop} (hA:Asks prog w A s κ a₀ c) (hB:SB κ a₀ st) (hp:pendingOf st=#[])
    (h:∀ st',SB κ a₀ st'->Sg c (arrOf st') 0 a₀.size->Q () st'):wpS (model prog w) A E s sortRuns' Q st:=by
  rw [sortRuns'_eq]
  refine wpS_bind (wpS_get ?_)
  dsimp only
  rw [hB.size]
  have ri0:RI κ a₀ c 0 st:=⟨hB,by unfold QaD;rw [hp];rfl,fun p h=>by unfold QaD at h;rw [hp] at h;simp at h,Nat.zero_le _⟩
  refine wpS_bind (wpS_mono (wpS_forRange (I:=fun x z st'=>∃ lo,z=(none,lo)/\RI κ a₀ c lo st'/\(x<=lo∨lo=a₀.size)) (Q:=fun z st'=>z=(none,a₀.size)/\RI κ a₀ c a₀.size st') ?step ?fin ⟨0,rfl,ri0,.inl (Nat.le_refl _)⟩) ?post)
  case fin=>
    rintro z st' ⟨lo,rfl,ri,hx⟩
    have:=ri.le
    have e:lo=a₀.size:=by omega
    subst e
    exact ⟨rfl,ri⟩
  case step=>
    rintro x z st' _ hx ⟨lo,rfl,ri,hxl⟩
    dsimp only
    have hle:=ri.le
    by_cases z0:lo≥a₀.size
    · rw [if_pos z0]
      have e:lo=a₀.size:=by omega
      subst e
      exact wpS_pure ⟨rfl,ri⟩
    · rw [if_neg z0]
      refine wpS_bind (QdB hA (by omega) (by omega) ri.sb fun m st1 f1 m1 m2 sg1=>?_)
      dsimp only
      have ri1:RI κ a₀ c lo st1:=⟨f1.sb,by unfold QaD;rw [f1.pend];exact ri.runs,fun p hp=>by
        unfold QaD at hp
        rw [f1.pend] at hp
        have b:=RunsOk.mem ri.runs p hp
        exact (ri.srt p hp).same fun k k1 k2=>f1.low k (by omega),hle⟩
      have push:∀ (n:Nat) (st2:SortSt),RI κ a₀ c lo st2->1<=n->lo+n<=a₀.size->Sg c (arrOf st2) lo (lo+n)->RI κ a₀ c (lo+n) (setPending st2 ((pendingOf st2).push (lo,n,0))):=fun n st2 r2 n1 n2 sg=>by
        have er:QaD (setPending st2 ((pendingOf st2).push (lo,n,0)))=QaD st2++[(lo,n)]:=by
          show ((pendingOf st2).push (lo,n,0)).toList.map sn=_
          rw [Array.toList_push,List.map_append];rfl
        refine ⟨⟨r2.sb.perm,r2.sb.kind,r2.sb.failed⟩,by rw [er];exact RunsOk.app.mpr ⟨lo,r2.runs,rfl,n1,rfl⟩,fun p hp=>?_,n2⟩
        rw [er] at hp
        rcases List.mem_append.mp hp with z | z
        · exact r2.srt p z
        · rw [List.mem_singleton.mp z];exact sg
      by_cases zm:m<minRun' a₀.size a₀.size 0
      · rw [if_pos zm]
        refine wpS_bind (wpS_lift (wpAny_rule ⟨rfl,?_⟩))
        refine wpS_bind (QcP hA (by omega) m1 (by omega) f1.sb sg1 fun st2 f2 sg2=>?_)
        simp only [Bool.not_true,Bool.false_eq_true,if_false]
        have ri2:RI κ a₀ c lo st2:=⟨f2.sb,by unfold QaD;rw [f2.pend];exact ri1.runs,fun p hp=>by
          unfold QaD at hp
          rw [f2.pend] at hp
          have b:=RunsOk.mem ri1.runs p hp
          exact (ri1.srt p hp).same fun k k1 k2=>f2.low k (by omega),hle⟩
        refine wpS_bind (wpS_get ?_)
        cases hb:(pendingOf st2).back? with
        | none=>
          dsimp only
          exact wpS_bind (wpS_modify (wpS_pure ⟨_,rfl,push _ st2 ri2 (by omega) (by omega) sg2,by omega⟩))
        | some bb=>
          obtain ⟨s1,s2,s3⟩:=bb
          dsimp only
          refine wpS_bind (wpS_mono (wpS_forRange (I:=fun _ z st3=>z=(none,())/\RI κ a₀ c lo st3/\Sg c (arrOf st3) lo (lo+min (a₀.size - lo) (minRun' a₀.size a₀.size 0))) (Q:=fun z st3=>z=(none,())/\RI κ a₀ c lo st3/\Sg c (arrOf st3) lo (lo+min (a₀.size - lo) (minRun' a₀.size a₀.size 0))) ?stepA (fun _ _ q=>q) ⟨rfl,ri2,sg2⟩) ?postA)
          case stepA=>
            rintro y z st3 _ hy ⟨rfl,r3,g3⟩
            refine wpS_bind (wpS_get ?_)
            by_cases z5:(pendingOf st3).size > 1
            · rw [if_pos z5,getElem?_pos (pendingOf st3) ((pendingOf st3).size - 2) (by omega)]
              generalize (pendingOf st3)[(pendingOf st3).size - 2]'(by omega)=pp
              obtain ⟨q1,q2,q3⟩:=pp
              dsimp only
              split
              · exact wpS_pure ⟨rfl,r3,g3⟩
              · refine wpS_bind (Qch (hi:=0) hA r3 (by omega) fun st4 r4 sz k4=>?_)
                exact wpS_pure ⟨rfl,r4,g3.same fun k k1 _=>k4 k k1⟩
            · rw [if_neg z5]
              exact wpS_pure ⟨rfl,r3,g3⟩
          case postA=>
            rintro z st3 ⟨rfl,r3,g3⟩
            dsimp only
            refine wpS_bind (wpS_modify (wpS_bind (wpS_modify (wpS_pure ⟨_,rfl,push _ _ (r3.pow _ _) (by omega) (by omega) g3,by omega⟩))))
      · rw [if_neg zm]
        refine wpS_bind (wpS_get ?_)
        cases hb:(pendingOf st1).back? with
        | none=>
          dsimp only
          exact wpS_bind (wpS_modify (wpS_pure ⟨_,rfl,push _ st1 ri1 m1 (by omega) sg1,by omega⟩))
        | some bb=>
          obtain ⟨s1,s2,s3⟩:=bb
          dsimp only
          refine wpS_bind (wpS_mono (wpS_forRange (I:=fun _ z st3=>z=(none,())/\RI κ a₀ c lo st3/\Sg c (arrOf st3) lo (lo+m)) (Q:=fun z st3=>z=(none,())/\RI κ a₀ c lo st3/\Sg c (arrOf st3) lo (lo+m)) ?stepA (fun _ _ q=>q) ⟨rfl,ri1,sg1⟩) ?postA)
          case stepA=>
            rintro y z st3 _ hy ⟨rfl,r3,g3⟩
            refine wpS_bind (wpS_get ?_)
            by_cases z5:(pendingOf st3).size > 1
            · rw [if_pos z5,getElem?_pos (pendingOf st3) ((pendingOf st3).size - 2) (by omega)]
              generalize (pendingOf st3)[(pendingOf st3).size - 2]'(by omega)=pp
              obtain ⟨q1,q2,q3⟩:=pp
              dsimp only
              split
              · exact wpS_pure ⟨rfl,r3,g3⟩
              · refine wpS_bind (Qch (hi:=0) hA r3 (by omega) fun st4 r4 sz k4=>?_)
                exact wpS_pure ⟨rfl,r4,g3.same fun k k1 _=>k4 k k1⟩
            · rw [if_neg z5]
              exact wpS_pure ⟨rfl,r3,g3⟩
          case postA=>
            rintro z st3 ⟨rfl,r3,g3⟩
            dsimp only
            refine wpS_bind (wpS_modify (wpS_bind (wpS_modify (wpS_pure ⟨_,rfl,push _ _ (r3.pow _ _) m1 (by omega) g3,by omega⟩))))
  case post=>
    rintro z st' ⟨rfl,ri⟩
    dsimp only
    refine wpS_bind (wpS_mono (wpS_forRange (I:=fun x z st3=>z=(none,())/\RI κ a₀ c a₀.size st3/\((pendingOf st3).size+x<=a₀.size∨(pendingOf st3).size<=1)) (Q:=fun z st3=>z=(none,())/\RI κ a₀ c a₀.size st3/\(pendingOf st3).size<=1) ?stepB ?finB ⟨rfl,ri,.inl ?initB⟩) ?postB)
    case initB=>
      have:=RunsOk.le ri.runs
      unfold QaD at this
      rw [List.length_map,Array.length_toList] at this
      omega
    case finB=>
      rintro z st3 ⟨rfl,r3,hx⟩
      exact ⟨rfl,r3,by omega⟩
    case stepB=>
      rintro x z st3 _ hx ⟨rfl,r3,hs⟩
      refine wpS_bind (wpS_get ?_)
      by_cases z5:(pendingOf st3).size<=1
      · rw [if_pos z5]
        exact wpS_pure ⟨rfl,r3,z5⟩
      · rw [if_neg z5]
        have key:∀ i,i+1<(pendingOf st3).size->wpS (model prog w) A E s (mergeAt' i) (fun b st4=>b=true/\RI κ a₀ c a₀.size st4/\(pendingOf st4).size+1=(pendingOf st3).size) st3:=fun i hi=>Qch (hi:=0) hA r3 hi fun st4 r4 sz _=>⟨rfl,r4,sz⟩
        refine wpS_bind (wpS_mono (key _ ?_) ?_)
        · have ii:∀ {p:Prop} [Decidable p],(if p then (pendingOf st3).size - 2 - 1 else (pendingOf st3).size - 2)+1<(pendingOf st3).size:=by intro p _;split<;>omega
          exact ii
        · rintro bb st4 ⟨rfl,r4,sz⟩
          exact wpS_pure ⟨rfl,r4,by omega⟩
    case postB=>
      rintro z st3 ⟨rfl,r3,hs⟩
      refine wpS_pure (h st3 r3.sb ?_)
      have rr:=r3.runs
      have hl:(QaD st3).length<=1:=by unfold QaD;rw [List.length_map,Array.length_toList];exact hs
      have hsr:=r3.srt
      cases er:QaD st3 with
      | nil=>
        rw [er] at rr
        rw [<- (show 0=a₀.size from rr)]
        exact fun i j hi hij hj=>by omega
      | cons p l=>
        rw [er] at rr hl hsr
        cases l with
        | cons p' l'=>simp at hl
        | nil=>
          obtain ⟨g1,g2,g3⟩:=rr
          have:=hsr p (List.mem_singleton.mpr rfl)
          rw [g1,(show 0+p.2=a₀.size from g3)] at this
          exact this
end
end Rt
namespace PySem
namespace AutoSeq1
open PyProof PyProof.Rows
end AutoSeq1
end PySem
namespace L2
open PySem PySem.Spec PyProof.Rows
end L2
namespace Dl
open PySem PySem.Spec PyProof.Rows L2 _root_.Rd Rk
section
variable {X:Cx} {E:XK}
end
theorem fToD {K:PySem.W.Frag} {E:XK} {w:DE} (σ:L2.St) (H:Hp) (Q:VK) (h:tX .D K E w σ H Q):tX .F K E w σ H Q:=by
  obtain ⟨F,δ,R,EX,rel,hw,k,o⟩:=h
  exact ⟨F,δ,R,EX,rel,hw,fun d hd v H' r kp vk=>k d hd v H' r kp vk.1,o⟩
section
variable {X:Cx} {E:XK}
end
theorem QgB {K:PySem.W.Frag} {E:XK} {cap:List (Option Nat)} {ix ix2:List Nat} {wi wi2:DI} {wg wg2:DG} {wt wt2:DT} {we:DE} (gok:GOk wg) (hf:Qcp cap ix=true) (hf2:Qcp cap ix2=true) (hd:ix2.all (fun i => !ix.contains i)=true) (σ:L2.St) (H:Hp) (Q:VK) (h:tX .F K E (Qkl cap wi wg wt wi2 wg2 wt2 we) σ H Q) :
    QjP cap (tI .P K E wi) (tG ix K wg) (tT K E0 wt) (tI .D K E0 wi2) (tG ix2 K wg2) (tT K E0 wt2) (tX .D K E0 we) σ H Q:=by
  obtain ⟨F,δ,R,EX,rel,hw,k,o⟩:=h
  refine ⟨F,δ,_,EX,rel,hw,fun items hC J H1 rel1 kp1 ⟨ln,it⟩ p hp=>?_,o⟩
  unfold Qgi at hC
  obtain ⟨Iv,i0,step,fin⟩:=hC
  have hpn:¬ PotA σ δ p:=fun z=>by obtain ⟨xs,e⟩:=rel1.isl (QaU (F:=F) z);rw [hp] at e;cases e
  let A1:Addr->Prop:=fun a=>Av F σ δ a∨a=p
  have hP:∀ a,PotA σ δ a->A1 a:=fun a z=>.inl (QaU z)
  have hN:∀ a,A1 a->Av F σ δ a∨H1 a=none:=fun a z=>z.elim .inl fun z=>.inr (by rw [z];exact hp)
  have dmK:∀ {H2:Hp},Kp σ δ H1 H2->(∃ ys,H2 p=some (.lst ys))->∀ a,A1 a->∃ xs,H2 a=some (.lst xs):=fun {H2} k2 e2 a z=>by
    rcases z with z | z
    · exact (rel1.kp k2).isl z
    · rw [z];exact e2
  refine QdX items.length (fun i H2=>i<=items.length/\∃ acc,Iv i acc/\Lp σ δ A1 p H1 H2 acc) ⟨Nat.zero_le _,[],i0,Kp.same rel1 (Qae hp),[],Qad,.nil⟩ (fun i H2 hi ⟨_,acc,iv,lp⟩=>?_) fun H2 ⟨_,acc,iv,lp⟩=>?_
  · obtain ⟨k2,ys,e2,q2⟩:=lp
    obtain ⟨go,_⟩:=it H2 A1 (fun b o n e=>k2.1 b o n e) hN (dmK k2 ⟨ys,e2⟩)
    have hd':items[i]? = some items[i]:=List.getElem?_eq_getElem hi
    obtain ⟨g1,g2⟩:=go i _ hd'
    refine ⟨g1,fun x H3 y kk hk=>?_⟩
    obtain ⟨s3,dx⟩:=g2 x H3 y
    have k23:=Kp.same (rel1.kp k2) s3
    have lp3:Lp σ δ A1 p H1 H3 acc:=Lp.step hP hpn ⟨k2,ys,e2,q2⟩ k23
    refine QiD gok hf rel1 (fun a z=>.inl z) hN (dmK lp3.kp ⟨ys,s3 _ _ e2⟩) lp3.kp dx (step i acc _ hd' iv) (fun σ4 δ4 H5 h5 r5 k5 j4 l4 g4=>?_) fun h5 H5 k5=>hk _ ⟨hi,acc,h5,lp3.step hP hpn k5⟩
    have av4:∀ {H:Hp} {a:Addr},Av (inF A1 cap σ δ H) σ4 δ4 a->A1 a:=fun {H a} z=>Qke hP hf j4 g4 z
    refine ⟨inF A1 cap σ δ H3,δ4,_,XF,r5,h5,fun items2 hJ J2 H7 rel7 kp7 ⟨ln2,it2⟩=>?_,outF⟩
    unfold InR at hJ
    obtain ⟨Jv,z0,step2,fin2⟩:=hJ
    have pots4:∀ {b:Addr},PotA σ4 δ4 b->PotA σ δ b:=fun {b} z=>by
      obtain ⟨j,z1,z2⟩:=z
      rcases g4 j _ z2 with ⟨e,z⟩ | z
      · cases z
      · exact QbW ⟨j,by rw [<- j4 j (QcK hf z (fun z=>by cases z))];exact z1,z⟩
    have k57:Kp σ δ H5 H7:=by
      refine ⟨fun b o n e=>kp7.1 b o (fun z=>n (pots4 z)) e,fun b hb=>?_⟩
      by_cases z:PotA σ4 δ4 b
      · exact kp7.2 b z
      · obtain ⟨n,e⟩:=k5.2 b hb
        exact ⟨n,kp7.1 _ _ z e⟩
    refine QdX items2.length (fun j H8=>j<=items2.length/\∃ acc2,Jv j acc2/\Lp σ δ A1 p H1 H8 acc2/\∀ b o,¬ A1 b->H7 b=some o->H8 b=some o) ⟨Nat.zero_le _,acc,z0,(lp3.step hP hpn k5).step hP hpn k57,fun _ _ _ e=>e⟩ (fun j H8 hj ⟨_,acc2,jv,lp8,s78⟩=>?_) fun H8 ⟨_,acc2,jv,lp8,s78⟩=>?_
    · obtain ⟨ys8,e8,q8⟩:=lp8.at_
      obtain ⟨go2,_⟩:=it2 H8 A1 (fun b o n e=>s78 b o (fun z=>n (.inl z)) e) (fun b z=>.inl (.inl z)) (dmK lp8.kp ⟨ys8,e8⟩)
      have hd2:items2[j]? = some items2[j]:=List.getElem?_eq_getElem hj
      obtain ⟨g3,g5⟩:=go2 j _ hd2
      refine ⟨g3,fun x2 H9 y2 kk2 hk2=>?_⟩
      obtain ⟨s9,dx2⟩:=g5 x2 H9 y2
      have k89:=Kp.same (rel1.kp lp8.kp) s9
      have lp9:Lp σ δ A1 p H1 H9 acc2:=lp8.step hP hpn k89
      have ri:=QhS (cap:=cap) rel1 (fun a z=>.inl z) hN (dmK lp9.kp ⟨ys8,s9 _ _ e8⟩) lp9.kp
      have r9:=QlN hP hf j4 g4 ri r5 fun a o n e=>s9 _ _ (s78 a o n (k57.1 a o (fun z=>n (hP a z)) e))
      obtain ⟨hl2,hw2⟩:=step2 j acc2 _ hd2 jv
      refine ⟨inF A1 cap σ δ H9,δ4,_,_,r9,dx2.mv (fun _ _ _ e=>e) fun a z=>.inl (av4 z),hw2,fun δ5 h6 σ5 r10 st5 l5 j5=>⟨QiB l5 fun i v e=>?_,inF A1 cap σ δ H9,δ5,_,XF,r10,h6,fun b hb H10 r11 kp11=>?_,outF⟩⟩
      · by_cases z:i∈ix2
        · have n1:i∉ix:=fun z2=>by
            have:=List.all_eq_true.mp hd i z
            simp [z2] at this
          rw [j4 i n1] at e
          rcases Qd8 e with ⟨_,e2⟩ | ⟨j,hj2,_⟩
          · cases e2
          · rw [QhZ hf2 z] at hj2;cases hj2
        · rw [j5 i z];exact e
      · have pots:∀ {b:Addr},PotA σ5 δ5 b->PotA σ δ b:=fun z=>Qfq r10 (fun b o _ e1 e2=>by rw [e2] at e1;cases e1) z
        have K10:Kp σ δ H9 H10:=by
          refine ⟨fun b o n e=>kp11.1 b o (fun z=>n (pots z)) e,fun b hb=>?_⟩
          by_cases z:PotA σ5 δ5 b
          · exact kp11.2 b z
          · obtain ⟨n,e⟩:=lp9.kp.2 b hb
            exact ⟨n,kp11.1 _ _ z e⟩
        have s710:∀ b o,¬ A1 b->H7 b=some o->H10 b=some o:=fun b o n e=>K10.1 b o (fun z=>n (hP b z)) (s9 _ _ (s78 b o n e))
        refine Qc5 hb (fun z=>?_) fun z=>hk2 _ ⟨hj,acc2,z,lp9.step hP hpn K10,s710⟩
        exact QlW (.inr rfl) hP hp hpn (lp9.step hP hpn K10) (Nat.lt_of_lt_of_le hl2 Qjr) r11 (fun b=>pots) z fun e he H' lp' kk'=>hk2 _ ⟨hj,acc2++[e],he,lp',fun b o n e=>kk' b o n (s710 b o n e)⟩
    · obtain ⟨ys8,e8,q8⟩:=lp8.at_
      obtain ⟨_,st2⟩:=it2 H8 A1 (fun b o n e=>s78 b o (fun z=>n (.inl z)) e) (fun b z=>.inl (.inl z)) (dmK lp8.kp ⟨ys8,e8⟩)
      exact ⟨st2,hk _ ⟨hi,acc2,fin2 acc2 jv,lp8⟩⟩
  · obtain ⟨k2,ys,e2,q2⟩:=lp
    obtain ⟨_,st⟩:=it H2 A1 (fun b o n e=>k2.1 b o n e) hN (dmK k2 ⟨ys,e2⟩)
    refine ⟨st,k _ (fin acc iv) (.ref p) H2 (rel1.kp k2) (kp1.trans k2) ⟨.lst (fun z=>?_) e2 (q2.mv (fun _ _ _ e=>e) fun a z=>.inl (.inl z)),fun l e1 _=>?_⟩⟩
    · obtain ⟨xs,e⟩:=rel1.isl z
      rw [hp] at e;cases e
    · cases e1
      exact Qby kp1 hp
section
variable {X:Cx} {E:XK}
theorem QiN (M:List Str) (cap:List (Option Nat)) (i:Nat) {elt tg iter tg2 iter2:Expr} {ifs ifs2:List Expr} {scope:Scope} {pos py spos:Pos} {y:Str} {ix ix2:List Nat} {wi wi2:DI} {wg wg2:DG} {wt wt2:DT} {we:DE} (hN:X.N.Nodup) (gok:GOk wg) (hi:QI .P X E tg iter wi) (hb:∀ cl ex s3 H3 C,QG ix (blk X M scope cl ex s3 H3 C) tg wg/\QTs (blk X M scope cl ex s3 H3 C) E0 ifs wt/\QI .D (blk X M scope cl ex s3 H3 C) E0 tg2 iter2 wi2/\QG ix2 (blk X M scope cl ex s3 H3 C) tg2 wg2/\QTs (blk X M scope cl ex s3 H3 C) E0 ifs2 wt2/\QE .D (blk X M scope cl ex s3 H3 C) E0 elt we) (hiy:X.N[i]? = some y:=by rfl) (hly:X.env.scope.names.lookup y=some .local:=by rfl) (hc:X.calm=true:=by rfl) (ok:QeN X.N X.env.scope M scope cap=true:=by rfl) (hf:Qcp cap ix=true:=by rfl) (hf2:Qcp cap ix2=true:=by rfl) (hd:ix2.all (fun i => !ix.contains i)=true:=by rfl) (hs:∀ x,foldedSetIterable iter X.env x=pure x:=by intro _;rfl) (hs2:∀ env x,foldedSetIterable iter2 env x=pure x:=by intro _ _;rfl) (hsw:swapsWith (.ListComp elt [⟨tg,iter,ifs,0⟩,⟨tg2,iter2,ifs2,0⟩] scope pos) (some (.Name y py)) spos.line X.env=pure true:=by rfl):QS X E (.Assign [.Name y py] (.ListComp elt [⟨tg,iter,ifs,0⟩,⟨tg2,iter2,ifs2,0⟩] scope pos) spos) (dSet i (Qkl cap wi wg wt wi2 wg2 wt2 we)):=
  ⟨Qhh (PS.imp (PS.imp (Qg9 hN hiy hly hc ok hi.h (fun cl ex s3 H3 C=>⟨(hb cl ex s3 H3 C).1.h,(hb cl ex s3 H3 C).2.1.h,(hb cl ex s3 H3 C).2.2.1.h,(hb cl ex s3 H3 C).2.2.2.1.h,(hb cl ex s3 H3 C).2.2.2.2.1.h,(hb cl ex s3 H3 C).2.2.2.2.2.h⟩) hs hs2 hsw) fun D σ H q=>QgB (E:=E) gok hf hf2 hd σ H _ q) fun D σ H q=>fToD σ H _ q)⟩
end
theorem Qc1 (L:List (Int×Int)):nds (L.map Rk.pairD)=true:=QhB.mpr fun d hd=>by
  obtain ⟨i,_,rfl⟩:=List.mem_map.mp hd
  rfl
def rkD:PyData->Nat
  | .int _=>0
  | .tuple _=>1
  | _=>2
def cmpI (i j:Int):Ordering:=if i<j then .lt else if i=j then .eq else .gt
def cmpN (i j:Nat):Ordering:=if i<j then .lt else if i=j then .eq else .gt
def thn (o:Ordering) (p:Ordering):Ordering:=match o with
  | .eq=>p
  | o=>o
mutual
def cmpD:PyData->PyData->Ordering
  | .int i,.int j=>cmpI i j
  | .tuple a,.tuple b=>QbA a b
  | x,y=>cmpN (rkD x) (rkD y)
def QbA:List PyData->List PyData->Ordering
  | [],[]=>.eq
  | [],_::_=>.lt
  | _::_,[]=>.gt
  | x::xs,y::ys=>thn (cmpD x y) (QbA xs ys)
end
def isL:Ordering->Bool
  | .lt=>true
  | _=>false
def ltD (x y:PyData):Bool:=isL (cmpD x y)
def ltDs (x y:List PyData):Bool:=isL (QbA x y)
def sw:Ordering->Ordering
  | .lt=>.gt
  | .gt=>.lt
  | .eq=>.eq
def isLe:Ordering->Bool
  | .gt=>false
  | _=>true
theorem thn_sw (a b:Ordering):sw (thn a b)=thn (sw a) (sw b):=by cases a<;>rfl
theorem QlZ (i j:Int):cmpI j i=sw (cmpI i j):=by
  unfold cmpI
  by_cases h:i<j
  · rw [if_neg (by omega),if_neg (by omega),if_pos h];rfl
  · by_cases h2:i=j
    · rw [if_neg (by omega),if_pos h2.symm,if_neg h,if_pos h2];rfl
    · rw [if_pos (by omega),if_neg h,if_neg h2];rfl
theorem Ql0 (i j:Int):isLe (cmpI i j)=decide (i<=j):=by
  unfold cmpI
  by_cases h:i<j
  · rw [if_pos h];exact (decide_eq_true (by omega)).symm
  · by_cases h2:i=j
    · rw [if_neg h,if_pos h2];exact (decide_eq_true (by omega)).symm
    · rw [if_neg h,if_neg h2];exact (decide_eq_false (by omega)).symm
mutual
theorem Qcs:∀ (x y:PyData),cmpD y x=sw (cmpD x y)
  | .int i,.int j=>QlZ i j
  | .tuple a,.tuple b=>Qgf a b
  | .int _,.tuple _=>rfl
  | .tuple _,.int _=>rfl
  | .int _,.none=>rfl
  | .int _,.bool _=>rfl
  | .int _,.str _=>rfl
  | .int _,.list _=>rfl
  | .int _,.dict _=>rfl
  | .tuple _,.none=>rfl
  | .tuple _,.bool _=>rfl
  | .tuple _,.str _=>rfl
  | .tuple _,.list _=>rfl
  | .tuple _,.dict _=>rfl
  | .none,y=>by cases y<;>rfl
  | .bool _,y=>by cases y<;>rfl
  | .str _,y=>by cases y<;>rfl
  | .list _,y=>by cases y<;>rfl
  | .dict _,y=>by cases y<;>rfl
theorem Qgf:∀ (xs ys:List PyData),QbA ys xs=sw (QbA xs ys)
  | [],[]=>rfl
  | [],_::_=>rfl
  | _::_,[]=>rfl
  | x::xs,y::ys=>by
    show thn (cmpD y x) (QbA ys xs)=sw (thn (cmpD x y) (QbA xs ys))
    rw [Qcs x y,Qgf xs ys,thn_sw]
end
theorem le_lt {a c:Ordering} (hab:isLe a=true) (h:isLe (sw c)=true->isLe (sw a)=true) (ha:a=.lt):c=.lt:=by
  subst ha
  cases c with
  | lt=>rfl
  | eq=>cases h rfl
  | gt=>cases h rfl
mutual
theorem Qd7:∀ (x y z:PyData),isLe (cmpD x y)=true->isLe (cmpD y z)=true->isLe (cmpD x z)=true
  | .int i,.int j,.int k,h1,h2=>by
    have h1:isLe (cmpI i j)=true:=h1
    have h2:isLe (cmpI j k)=true:=h2
    show isLe (cmpI i k)=true
    rw [Ql0] at h1 h2 ⊢
    have a:=of_decide_eq_true h1
    have b:=of_decide_eq_true h2
    exact decide_eq_true (by omega)
  | .tuple a,.tuple b,.tuple c,h1,h2=>Qge a b c h1 h2
  | .int _,y,.tuple _,h1,h2=>rfl
  | .int _,.tuple _,.int _,h1,h2=>by cases h2
  | .tuple _,.int _,z,h1,h2=>by cases h1
  | .tuple _,.tuple _,.int _,h1,h2=>by cases h2
  | .int _,y,.none,_,_=>rfl
  | .int _,y,.bool _,_,_=>rfl
  | .int _,y,.str _,_,_=>rfl
  | .int _,y,.list _,_,_=>rfl
  | .int _,y,.dict _,_,_=>rfl
  | .tuple _,y,.none,_,_=>rfl
  | .tuple _,y,.bool _,_,_=>rfl
  | .tuple _,y,.str _,_,_=>rfl
  | .tuple _,y,.list _,_,_=>rfl
  | .tuple _,y,.dict _,_,_=>rfl
  | .int _,.none,.int _,h1,h2=>by cases h2
  | .int _,.bool _,.int _,h1,h2=>by cases h2
  | .int _,.str _,.int _,h1,h2=>by cases h2
  | .int _,.list _,.int _,h1,h2=>by cases h2
  | .int _,.dict _,.int _,h1,h2=>by cases h2
  | .tuple _,.none,.int _,h1,h2=>by cases h2
  | .tuple _,.bool _,.int _,h1,h2=>by cases h2
  | .tuple _,.str _,.int _,h1,h2=>by cases h2
  | .tuple _,.list _,.int _,h1,h2=>by cases h2
  | .tuple _,.dict _,.int _,h1,h2=>by cases h2
  | .tuple _,.none,.tuple _,h1,h2=>by cases h2
  | .tuple _,.bool _,.tuple _,h1,h2=>by cases h2
  | .tuple _,.str _,.tuple _,h1,h2=>by cases h2
  | .tuple _,.list _,.tuple _,h1,h2=>by cases h2
  | .tuple _,.dict _,.tuple _,h1,h2=>by cases h2
  | .none,y,z,h1,h2=>by cases y<;>cases z<;>first | rfl | (cases h1;done) | (cases h2;done)
  | .bool _,y,z,h1,h2=>by cases y<;>cases z<;>first | rfl | (cases h1;done) | (cases h2;done)
  | .str _,y,z,h1,h2=>by cases y<;>cases z<;>first | rfl | (cases h1;done) | (cases h2;done)
  | .list _,y,z,h1,h2=>by cases y<;>cases z<;>first | rfl | (cases h1;done) | (cases h2;done)
  | .dict _,y,z,h1,h2=>by cases y<;>cases z<;>first | rfl | (cases h1;done) | (cases h2;done)
  termination_by x y z=>sizeOf x+sizeOf y+sizeOf z
theorem Qge:∀ (xs ys zs:List PyData),isLe (QbA xs ys)=true->isLe (QbA ys zs)=true->isLe (QbA xs zs)=true
  | [],_,[],_,_=>rfl
  | [],_,_::_,_,_=>rfl
  | _::_,[],_,h1,_=>by cases h1
  | _::_,_::_,[],_,h2=>by cases h2
  | x::xs,y::ys,z::zs,h1,h2=>by
    have h1:isLe (thn (cmpD x y) (QbA xs ys))=true:=h1
    have h2:isLe (thn (cmpD y z) (QbA ys zs))=true:=h2
    show isLe (thn (cmpD x z) (QbA xs zs))=true
    have a1:isLe (cmpD x y)=true:=by cases e:cmpD x y<;>rw [e] at h1<;>first | rfl | cases h1
    have a2:isLe (cmpD y z)=true:=by cases e:cmpD y z<;>rw [e] at h2<;>first | rfl | cases h2
    have a3:=Qd7 x y z a1 a2
    cases e1:cmpD x y with
    | gt=>rw [e1] at a1;cases a1
    | lt=>
      have:cmpD x z=.lt:=le_lt (a:=cmpD x y) a1 (fun q=>by
        rw [<- Qcs x z] at q
        rw [<- Qcs x y]
        exact Qd7 y z x a2 q) e1
      rw [this];rfl
    | eq=>
      cases e2:cmpD y z with
      | gt=>rw [e2] at a2;cases a2
      | lt=>
        have:cmpD x z=.lt:=le_lt (a:=cmpD y z) a2 (fun q=>by
          rw [<- Qcs x z] at q
          rw [<- Qcs y z]
          exact Qd7 z x y q a1) e2
        rw [this];rfl
      | eq=>
        rw [e1] at h1
        rw [e2] at h2
        cases e3:cmpD x z with
        | gt=>rw [e3] at a3;cases a3
        | lt=>rfl
        | eq=>exact Qge xs ys zs h1 h2
  termination_by x y z=>sizeOf x+sizeOf y+sizeOf z
end
theorem isL_sw (o:Ordering):isL (sw o) = !isLe o:=by cases o<;>rfl
theorem Qj9 (x y:PyData):ltD y x = !isLe (cmpD x y):=by unfold ltD;rw [Qcs x y,isL_sw]
theorem Qjp (x y:PyData) (h:ltD x y=true):ltD y x=false:=by
  rw [Qj9]
  unfold ltD at h
  cases e:cmpD x y<;>rw [e] at h<;>first | rfl | cases h
theorem ltD_nt (x y z:PyData) (h1:ltD y x=false) (h2:ltD z y=false):ltD z x=false:=by
  rw [Qj9] at h1 h2 ⊢
  rw [Qd7 x y z (by simpa using h1) (by simpa using h2)]
  rfl
mutual
def cmpK:PyData->PyData->Bool
  | .int _,.int _=>true
  | .tuple a,.tuple b=>Qcd a b
  | _,_=>false
def Qcd:List PyData->List PyData->Bool
  | x::xs,y::ys=>cmpK x y&&Qcd xs ys
  | _,_=>true
end
def isE:Ordering->Bool
  | .eq=>true
  | _=>false
theorem QlL (a b:Ordering):isE (thn a b)=(isE a&&isE b):=by cases a<;>rfl
mutual
theorem Qh5:∀ (x y:PyData),cmpK x y=true->PyData.eqv x y=isE (cmpD x y)
  | .int i,.int j,_=>by
    show (i == j)=isE (cmpI i j)
    unfold cmpI
    by_cases h:i=j
    · subst h;simp [isE]
    · rw [beq_eq_false_iff_ne.mpr h]
      split
      · rfl
      · rfl
  | .tuple a,.tuple b,h=>Qh4 a b h
  | .int _,.tuple _,h=>by cases h
  | .tuple _,.int _,h=>by cases h
  | .int _,.none,h=>by cases h
  | .int _,.bool _,h=>by cases h
  | .int _,.str _,h=>by cases h
  | .int _,.list _,h=>by cases h
  | .int _,.dict _,h=>by cases h
  | .tuple _,.none,h=>by cases h
  | .tuple _,.bool _,h=>by cases h
  | .tuple _,.str _,h=>by cases h
  | .tuple _,.list _,h=>by cases h
  | .tuple _,.dict _,h=>by cases h
  | .none,y,h=>by cases y<;>cases h
  | .bool _,y,h=>by cases y<;>cases h
  | .str _,y,h=>by cases y<;>cases h
  | .list _,y,h=>by cases y<;>cases h
  | .dict _,y,h=>by cases y<;>cases h
theorem Qh4:∀ (xs ys:List PyData),Qcd xs ys=true->PyData.eqvAll xs ys=isE (QbA xs ys)
  | [],[],_=>rfl
  | [],_::_,_=>rfl
  | _::_,[],_=>rfl
  | x::xs,y::ys,h=>by
    have h:=Bool.and_eq_true_iff.mp (show (cmpK x y&&Qcd xs ys)=true from h)
    show (PyData.eqv x y&&PyData.eqvAll xs ys)=isE (thn (cmpD x y) (QbA xs ys))
    rw [Qh5 x y h.1,Qh4 xs ys h.2,QlL]
end
end Dl
namespace Rt
open PySem PySem.Spec PySem.Calls PyProof.Rows Dl
theorem Qc7:∀ {ds:List PyData} {d:PyData},d∈ds->d.depth<=PyData.depthAll ds
  | x::ds,d,h=>by
    show d.depth<=max x.depth (PyData.depthAll ds)
    rcases List.mem_cons.mp h with z | z
    · subst z;exact Nat.le_max_left _ _
    · exact Nat.le_trans (Qc7 z) (Nat.le_max_right _ _)
theorem QaN {h:Heap}:∀ {vs:List Value} {ds:List PyData} {as:List Addr},ReadsAll h vs ds as->vs.length=ds.length
  | _,_,_,.nil=>rfl
  | _,_,_,.cons _ r=>by rw [List.length_cons,List.length_cons,QaN r]
section
open PySem.SeqAt
open PySem.AutoSeq1 (wpAny_loadPart')
open PySem.MeetsSeq PySem.MeetsSeq2 PySem.MeetsSeq3
theorem Qct {l b:Addr} {items items2:Array Value} {n n2:Nat} {dd dd2:Option Addr} {sl sl2:Array (Option Value)} {ds es:List PyData} {as bs:List Addr} {N:Nat} (hk:Qcd ds es=true) (hc1:PyData.canLayAll0 ds=true) (hc2:PyData.canLayAll0 es=true) (hd:PyData.depthAll ds<=N)
    (ih:∀ (x y:PyData) (A:Around) (s:Shared) (v u:Value) (p q:List Addr),Reads s.heap v x p->Reads s.heap u y q->x.canLay0=true->y.canLay0=true->cmpK x y=true->x.depth<=N->A.units+2*N+2<cLine->∀ (prog:Program) (w:World) (E Q:Value->Shared->Prop),Q (.bool (ltD x y)) s->wpAny (model prog w) A (richCompare .Lt v u) Q E s) :
    Meets (Builtin.«tuple.__lt__» ⟨[.ref l,.ref b],[]⟩)
      (fun A R s=>s.heap.get? l=some { cls:=.type "tuple",dict:=dd,data:=.seq items n,slots:=sl }/\s.heap.get? b=some { cls:=.type "tuple",dict:=dd2,data:=.seq items2 n2,slots:=sl2 }/\ReadsAll s.heap items.toList ds as/\ReadsAll s.heap items2.toList es bs/\A.units+2*N+4<cLine /\
        R (.ok (.ret (.bool (ltDs ds es)))) s):=
  .of_wp fun prog w A R s h=>by
    obtain ⟨hp,g,d,tk,os⟩:=s;obtain ⟨hl,hb,hr1,hr2,hu,h⟩:=h
    have f2:=AutoSeq1.sub_tuple_tuple
    have hu1:A.in1.units+2*N+2<cLine:=by show A.units+1+2*N+2<cLine;omega
    have z1:items.size=ds.length:=by rw [<- QaN hr1];simp
    have z2:items2.size=es.length:=by rw [<- QaN hr2];simp
    wp_walk using wpAny_loadPart' hl,wpAny_loadPart' hb,wpAny_forIn_list _ (fun rest b s'=>b.1=none/\s'=⟨hp,g,d,tk,os⟩/\∃ (vs ws:List Value) (xs ys:List PyData) (p q:List Addr),rest=vs.zip ws /\
      ReadsAll hp vs xs p/\ReadsAll hp ws ys q/\Qcd xs ys=true/\PyData.canLayAll0 xs=true/\PyData.canLayAll0 ys=true/\PyData.depthAll xs<=N/\xs.length+items2.size=ys.length+items.size/\R (.ok (.ret (.bool (ltDs xs ys)))) ⟨hp,g,d,tk,os⟩) _
    case turn=>
      rintro ⟨y,x⟩ rest b s' ⟨hb',rfl,vs,ws,xs,ys,p,q,hz,hvi,hwi,hkk,c1,c2,hdd,hlen,hR⟩
      cases hvi with
      | nil=>rw [List.zip_nil_left] at hz;cases hz
      | @cons v0 vs0 d1 ds1 as1 as2 r1 hvi'=>
        cases hwi with
        | nil=>rw [List.zip_nil_right] at hz;cases hz
        | @cons u0 us0 d2 ds2 bs1 bs2 r2 hwi'=>
          rw [List.zip_cons_cons] at hz
          injection hz with hyx hrest
          injection hyx with hy hx
          subst hy hx
          have hkk:=Bool.and_eq_true_iff.mp (show (cmpK d1 d2&&Qcd ds1 ds2)=true from hkk)
          simp only [PyData.canLayAll0,Bool.and_eq_true] at c1 c2
          have dm1:d1.depth<=N:=Nat.le_trans (Qc7 (ds:=d1::ds1) (.head _)) hdd
          have dm2:PyData.depthAll ds1<=N:=Nat.le_trans (show PyData.depthAll ds1<=max d1.depth (PyData.depthAll ds1) from Nat.le_max_right _ _) hdd
          simp only [List.length_cons] at hlen
          have he:=SeqAt.eqAt_reads d1 d2 A.in1 ⟨hp,g,d,tk,os⟩ y x _ _ r1 r2 c1.1 c2.1 (by omega)
          have hR:R (.ok (.ret (.bool (isL (thn (cmpD d1 d2) (QbA ds1 ds2)))))) ⟨hp,g,d,tk,os⟩:=hR
          rw [Qh5 d1 d2 hkk.1] at he
          have hri:=fun E Q=>ih d1 d2 A.in1 ⟨hp,g,d,tk,os⟩ y x _ _ r1 r2 c1.1 c2.1 hkk.1 dm1 hu1 prog w E Q
          unfold ltD at hri
          cases e1:cmpD d1 d2 with
          | lt=>
            rw [e1] at he hR hri
            refine wpAny_bind (he prog w _ _ ?_)
            wp_walk using hri
            exact ⟨_,rfl,hR⟩
          | gt=>
            rw [e1] at he hR hri
            refine wpAny_bind (he prog w _ _ ?_)
            wp_walk using hri
            exact ⟨_,rfl,hR⟩
          | eq=>
            rw [e1] at he hR
            refine wpAny_bind (he prog w _ _ ?_)
            wp_walk
            exact ⟨rfl,rfl,_,_,_,_,_,_,hrest,hvi',hwi',hkk.2,c1.2,c2.2,dm2,by omega,hR⟩
    case fin=>
      rintro ⟨b1,b2⟩ s' ⟨hb',rfl,vs,ws,xs,ys,p,q,hz,hvi,hwi,hkk,c1,c2,hdd,hlen,hR⟩
      simp only at hb'
      subst hb'
      have hv:ltDs xs ys=decide (items.size<items2.size):=by
        cases hvi with
        | nil=>
          cases hwi with
          | nil=>
            simp only [List.length_nil] at hlen
            exact (decide_eq_false (by omega)).symm
          | cons r2 hw=>
            simp only [List.length_nil,List.length_cons] at hlen
            exact (decide_eq_true (by omega)).symm
        | cons r1 hv=>
          cases hwi with
          | nil=>
            simp only [List.length_nil,List.length_cons] at hlen
            exact (decide_eq_false (by omega)).symm
          | cons r2 hw=>
            rw [List.zip_cons_cons] at hz
            cases hz
      rw [hv] at hR
      wp_walk
      exact ⟨_,rfl,by simpa [Builtin.Tuple.tupleCompareSizes] using hR⟩
    case h=>
      exact ⟨rfl,rfl,items.toList,items2.toList,ds,es,as,bs,rfl,hr1,hr2,hk,hc1,hc2,hd,by omega,h⟩
end
end Rt
namespace Rt
open PySem PySem.Spec PySem.Calls PySem.W PyProof.Rows Dl
mutual
def okK:PyData->Bool
  | .int _=>true
  | .tuple ds=>okKs ds
  | _=>false
def okKs:List PyData->Bool
  | []=>true
  | d::ds=>okK d&&okKs ds
end
mutual
theorem Qcl {h h':Heap} (k:∀ b o,h.get? b=some o->h'.get? b=some o):∀ (d:PyData) (v:Value) (as:List Addr),okK d=true->Reads h v d as->Reads h' v d as
  | .int _,_,_,_,.int i t=>.int i t
  | .tuple ds,_,_,hk,.tuple (vs:=vs) e c d r=>.tuple (k _ _ e) c d (QaW k ds _ _ hk r)
  | .none,_,_,hk,_=>by cases hk
  | .bool _,_,_,hk,_=>by cases hk
  | .str _,_,_,hk,_=>by cases hk
  | .list _,_,_,hk,_=>by cases hk
  | .dict _,_,_,hk,_=>by cases hk
theorem QaW {h h':Heap} (k:∀ b o,h.get? b=some o->h'.get? b=some o):∀ (ds:List PyData) (vs:List Value) (as:List Addr),okKs ds=true->ReadsAll h vs ds as->ReadsAll h' vs ds as
  | [],_,_,_,.nil=>.nil
  | d::ds,_,_,hk,.cons r rs=>by
    have hk:=Bool.and_eq_true_iff.mp (show (okK d&&okKs ds)=true from hk)
    exact .cons (Qcl k d _ _ hk.1 r) (QaW k ds _ _ hk.2 rs)
end
theorem rc_lt:∀ (N:Nat) (x y:PyData) (A:Around) (s:Shared) (v u:Value) (p q:List Addr),Reads s.heap v x p->Reads s.heap u y q->x.canLay0=true->y.canLay0=true->cmpK x y=true->x.depth<=N->A.units+2*N+2<cLine->∀ (prog:Program) (w:World) (E Q:Value->Shared->Prop),Q (.bool (ltD x y)) s->wpAny (model prog w) A (richCompare .Lt v u) Q E s:=by
  intro N
  have intz:∀ (i j:Int) (A:Around) (s:Shared) (v u:Value) (p q:List Addr),Reads s.heap v (.int i) p->Reads s.heap u (.int j) q->∀ (prog:Program) (w:World) (E Q:Value->Shared->Prop),Q (.bool (ltD (.int i) (.int j))) s->wpAny (model prog w) A (richCompare .Lt v u) Q E s:=by
    intro i j A s v u p q r1 r2 prog w E Q h
    cases r1
    cases r2
    refine HT.rcLt_int A s i _ j _ prog w E Q ?_
    have e:ltD (.int i) (.int j)=decide (i<j):=by
      show isL (cmpI i j)=_
      unfold cmpI
      by_cases z:i<j
      · rw [if_pos z,decide_eq_true z];rfl
      · rw [if_neg z,decide_eq_false z]
        split<;>rfl
    rw [e] at h
    exact h
  induction N with
  | zero=>
    intro x y A s v u p q r1 r2 c1 c2 hk hd hu prog w E Q h
    cases x<;>cases y<;>first | (cases hk;done) | skip
    · exact intz _ _ A s v u p q r1 r2 prog w E Q h
    · unfold PyData.depth at hd;omega
  | succ N ih=>
    intro x y A s v u p q r1 r2 c1 c2 hk hd hu prog w E Q h
    cases x<;>cases y<;>first | (cases hk;done) | skip
    · exact intz _ _ A s v u p q r1 r2 prog w E Q h
    · rename_i ds es
      cases r1 with
      | @tuple a o vs n _ _ ho hc hd' ra=>
        cases r2 with
        | @tuple b o2 vs2 n2 _ _ ho2 hc2 hd2 rb=>
          obtain ⟨cls,dd,data,sl⟩:=o
          obtain ⟨cls2,dd2,data2,sl2⟩:=o2
          simp only at hc hd' hc2 hd2
          subst hc hd' hc2 hd2
          have dd3:PyData.depthAll ds<=N:=by unfold PyData.depth at hd;omega
          exact richCompare_meets_room (op:=.Lt) ⟨_,ho,rfl⟩ ⟨_,ho2,rfl⟩ PySem.F.slot_tuple_lt PySem.F.entry_tuple_lt (PySem.F.args_tuple_lt_2 _ _) (Qct (N:=N) hk c1 c2 dd3 ih)
            ⟨ho,ho2,ra,rb,by omega,show Value.bool (ltDs ds es)≠Value.notImplemented/\Q (.bool (ltDs ds es)) s from ⟨(fun x=>nomatch x),h⟩⟩ (by omega)
theorem Qgs {N:Nat} {ds es:List PyData} {A:Around} {s:Shared} {v u:Value} {p q:List Addr} (r1:Reads s.heap v (.tuple ds) p) (r2:Reads s.heap u (.tuple es) q) (c1:PyData.canLayAll0 ds=true) (c2:PyData.canLayAll0 es=true) (hk:Qcd ds es=true) (hd:PyData.depthAll ds<=N) (hu:A.units+2*N+4<cLine) {prog:Program} {w:World} {E:Value->Shared->Prop} {C:Bool->Shared->Prop} (h:C (ltDs ds es) s):wpAny (model prog w) A (oneLt' true v u) C E s:=by
  cases r1 with
  | @tuple a o vs n _ _ ho hc hd' ra=>
    cases r2 with
    | @tuple b o2 vs2 n2 _ _ ho2 hc2 hd2 rb=>
      obtain ⟨cls,dd,data,sl⟩:=o
      obtain ⟨cls2,dd2,data2,sl2⟩:=o2
      simp only at hc hd' hc2 hd2
      subst hc hd' hc2 hd2
      rw [oneLt'_eq]
      simp only [if_true]
      refine wpAny_bind (wpAny_cRoomFor (by omega) ?_)
      refine wpAny_bind (wpAny_callSpecialIfBound?_slot ⟨_,ho,rfl⟩ PySem.F.slot_tuple_lt (call_meets PySem.F.slot_tuple_lt ⟨_,ho,rfl⟩ PySem.F.entry_tuple_lt (PySem.F.args_tuple_lt_2 _ _) (Qct (N:=N) hk c1 c2 hd fun x y=>rc_lt N x y) ⟨ho,ho2,ra,rb,hu,?_⟩))
      exact wpAny_truthy_bool h
section
variable {prog:Program} {w:World} {A:Around} {E:Value->Shared->Prop} {s:Shared}
theorem Qj8 {N:Nat} {x y:PyData} {v u:Value} {p q:List Addr} (r1:Reads s.heap v x p) (r2:Reads s.heap u y q) (c1:x.canLay0=true) (c2:y.canLay0=true) (hk:cmpK x y=true) (hd:x.depth<=N) (hu:A.units+2*N+2<cLine) {C:Bool->Shared->Prop} (h:C (ltD x y) s):wpAny (model prog w) A (oneLt' false v u) C E s:=by
  refine kat_one v u ?_
  exact rc_lt N x y A s v u p q r1 r2 c1 c2 hk hd hu prog w E _ h
theorem QhH (i j:Int):ltD (.int i) (.int j)=decide (i<j):=by
  show isL (cmpI i j)=_
  unfold cmpI
  by_cases z:i<j
  · rw [if_pos z,decide_eq_true z];rfl
  · rw [if_neg z,decide_eq_false z]
    split<;>rfl
def QlO:List PyData->Prop
  | .int _::_=>True
  | _=>False
theorem Qkc {b:Bool} {n1 n2 N:Nat} {C:Bool->Shared->Prop} (hu:A.units+2*N+2<cLine):∀ (vs us:List Value) (xs ys:List PyData) (p q:List Addr) (i:Nat),ReadsAll s.heap vs xs p->ReadsAll s.heap us ys q->PyData.canLayAll0 xs=true->PyData.canLayAll0 ys=true->Qcd xs ys=true->PyData.depthAll xs<=N->(b=true->i=0->QlO xs)->xs.length+n2=ys.length+n1 ->
    C (ltDs xs ys) s->KatLex prog w A b (decide (n1<n2)) C (vs.zip us) i s
  | [],us,xs,ys,p,q,i,r1,r2,c1,c2,hk,hd,hb,hl,h=>by
    cases r1
    refine kat_nil ?_
    cases r2 with
    | nil=>rw [show decide (n1<n2)=false from decide_eq_false (by simp at hl;omega)];exact h
    | cons r rs=>rw [show decide (n1<n2)=true from decide_eq_true (by simp at hl;omega)];exact h
  | v::vs,[],xs,ys,p,q,i,r1,r2,c1,c2,hk,hd,hb,hl,h=>by
    cases r2
    cases r1
    refine kat_nil ?_
    rw [show decide (n1<n2)=false from decide_eq_false (by simp at hl;omega)];exact h
  | v::vs,u::us,xs,ys,p,q,i,r1,r2,c1,c2,hk,hd,hb,hl,h=>by
    cases r1 with
    | @cons _ _ d1 ds1 as1 as2 r1 rs1=>
      cases r2 with
      | @cons _ _ d2 ds2 bs1 bs2 r2 rs2=>
        have hk:=Bool.and_eq_true_iff.mp (show (cmpK d1 d2&&Qcd ds1 ds2)=true from hk)
        simp only [PyData.canLayAll0,Bool.and_eq_true] at c1 c2
        have dm1:d1.depth<=N:=Nat.le_trans (Qc7 (ds:=d1::ds1) (.head _)) hd
        have dm2:PyData.depthAll ds1<=N:=Nat.le_trans (show PyData.depthAll ds1<=max d1.depth (PyData.depthAll ds1) from Nat.le_max_right _ _) hd
        have h:C (isL (thn (cmpD d1 d2) (QbA ds1 ds2))) s:=h
        have one:C (ltD d1 d2) s->wpAny (model prog w) A (oneLt' (b&&i == 0) v u) C (fun _ _=>False) s:=fun hc=>by
          cases e:(b&&i == 0) with
          | false=>exact Qj8 (N:=N) r1 r2 c1.1 c2.1 hk.1 dm1 hu hc
          | true=>
            have e:=Bool.and_eq_true_iff.mp e
            have hh:=hb e.1 (beq_iff_eq.mp e.2)
            cases d1<;>first | exact hh.elim | skip
            cases d2<;>first | (cases hk.1;done) | skip
            cases r1
            cases r2
            rw [QhH] at hc
            exact oneLt_int hc
        refine kat_cons (SeqAt.eqAt_reads d1 d2 A s v u _ _ r1 r2 c1.1 c2.1 (by omega) prog w _ _ ?_)
        rw [Qh5 d1 d2 hk.1]
        cases e1:cmpD d1 d2 with
        | lt=>rw [e1] at h;exact kat_no (one (by unfold ltD;rw [e1];exact h))
        | gt=>rw [e1] at h;exact kat_no (one (by unfold ltD;rw [e1];exact h))
        | eq=>
          rw [e1] at h
          refine kat_yes (Qkc hu vs us ds1 ds2 _ _ (i+1) rs1 rs2 c1.2 c2.2 hk.2 dm2 (fun _ z=>by omega) (by simp only [List.length_cons] at hl;omega) h)
def QjL (ds:List PyData) (κ:SortKind):Prop:=κ=general'∨κ=oneType'∨κ=tuples' false∨(κ=tuples' true/\∀ d∈ds,∃ es,d=.tuple es/\QlO es)
theorem key_lt {N:Nat} {ds:List PyData} {κ:SortKind} {x y:PyData} {v u:Value} {p q:List Addr} (su:QjL ds κ) (hx:x∈ds) (r1:Reads s.heap v x p) (r2:Reads s.heap u y q) (c1:x.canLay0=true) (c2:y.canLay0=true) (hk:cmpK x y=true) (tb:∀ b,κ=tuples' b->∃ es,x=.tuple es) (hd:x.depth<=N) (hu:A.units+2*N+4<cLine) {C:Bool->Shared->Prop} (h:C (ltD x y) s) :
    wpAny (model prog w) A (keyLt' κ v u) C E s:=by
  have tup:∀ b,κ=tuples' b->(b=true->∃ es,x=.tuple es/\QlO es)->wpAny (model prog w) A (keyLt' κ v u) C E s:=fun b hb hh=>by
    subst hb
    obtain ⟨es,rfl⟩:=tb b rfl
    cases y<;>first | (cases hk;done) | skip
    rename_i fs
    cases r1 with
    | @tuple a o vs n _ _ ho hc hd' ra=>
      cases r2 with
      | @tuple b2 o2 vs2 n2 _ _ ho2 hc2 hd2 rb=>
        have dd3:PyData.depthAll es<=N:=by unfold PyData.depth at hd;omega
        refine kat_lt ho hd' ho2 hd2 (Qkc (N:=N) (by omega) _ _ es fs _ _ 0 ra rb c1 c2 hk dd3 (fun e _=>?_) ?_ h)
        · obtain ⟨es',e',hh⟩:=hh e
          cases e'
          exact hh
        · have e1:=QaN ra
          have e2:=QaN rb
          rw [Array.length_toList] at e1 e2
          omega
  rcases su with rfl | rfl | rfl | ⟨rfl,hall⟩
  · exact Qj8 (N:=N) r1 r2 c1 c2 hk hd (by omega) h
  · cases x<;>cases y<;>first | (cases hk;done) | skip
    · cases r1
      cases r2
      rw [QhH] at h
      exact oneLt_int h
    · have dd3:∀ {es:List PyData},(PyData.tuple es).depth<=N->PyData.depthAll es<=N:=fun {es} h=>by unfold PyData.depth at h;omega
      exact Qgs (N:=N) r1 r2 c1 c2 hk (dd3 hd) hu h
  · exact tup false rfl fun e=>by cases e
  · exact tup true rfl fun _=>hall x hx
end
section
variable {M:Model} {A:Around} {E:Value->Shared->Prop} {s:Shared}
theorem Qdr {α β:Type} {f:α->Sem β} {g:α->β}:∀ (l:List α) {Q:List β->Shared->Prop},(∀ v∈l,∀ (Q':β->Shared->Prop),Q' (g v) s->wpAny M A (f v) Q' E s)->Q (l.map g) s->wpAny M A (l.mapM f) Q E s
  | [],_,_,h=>by rw [List.mapM_nil];exact wpAny_pure h
  | x::l,Q,hf,h=>by
    rw [List.mapM_cons]
    exact wpAny_bind (hf x (.head _) _ (wpAny_bind (Qdr l (Q:=fun bs s'=>wpAny M A (pure (g x::bs)) Q E s') (fun v hv=>hf v (.tail _ hv)) (wpAny_pure h))))
end
def fst1 (h:Heap) (v:Value):Option Value:=match v with
  | .ref a=>(match h.get? a with
    | some o=>(match o.data with
      | .seq xs _=>xs[0]?
      | _=>none)
    | none=>none)
  | _=>none
def tyV (h:Heap) (v:Value):Value:=match v with
  | .int _ _=>.type "int"
  | .ref a=>(match h.get? a with
    | some o=>o.cls
    | none=>.none)
  | _=>.none
theorem QaA:∀ {ds:List PyData},okKs ds=true->∀ d∈ds,okK d=true
  | x::ds,h,d,hd=>by
    have h:=Bool.and_eq_true_iff.mp (show (okK x&&okKs ds)=true from h)
    rcases List.mem_cons.mp hd with z | z
    · rw [z];exact h.1
    · exact QaA h.2 d z
theorem Qhz:∀ {ds:List PyData},(∀ d∈ds,okK d=true)->okKs ds=true
  | [],_=>rfl
  | x::ds,h=>by
    show (okK x&&okKs ds)=true
    rw [h x (.head _),Qhz fun d hd=>h d (.tail _ hd)];rfl
theorem Qaq {h:Heap}:∀ {vs:List Value} {ds:List PyData} {as:List Addr},ReadsAll h vs ds as->∀ v∈vs,∃ d∈ds,∃ bs,Reads h v d bs
  | _,_,_,.cons (d:=d) r rs,v,hv=>by
    rcases List.mem_cons.mp hv with z | z
    · rw [z];exact ⟨d,.head _,_,r⟩
    · obtain ⟨d',hd,bs,r'⟩:=Qaq rs v z
      exact ⟨d',.tail _ hd,bs,r'⟩
theorem Qb4 {h:Heap}:∀ {vs:List Value} {ds:List PyData} {as:List Addr},ReadsAll h vs ds as->∀ d∈ds,∃ v∈vs,∃ bs,Reads h v d bs
  | _,_,_,.cons (d:=d) (v:=v) r rs,d',hd=>by
    rcases List.mem_cons.mp hd with z | z
    · rw [z];exact ⟨v,.head _,_,r⟩
    · obtain ⟨v',hv,bs,r'⟩:=Qb4 rs d' z
      exact ⟨v',.tail _ hv,bs,r'⟩
section
variable {prog:Program} {w:World} {A:Around} {E:Value->Shared->Prop} {s:Shared}
theorem Qe4 {v:Value} {d:PyData} {bs:List Addr} (r:Reads s.heap v d bs) (hk:okK d=true) {Q:Value->Shared->Prop} (q:Q (tyV s.heap v) s):wpAny (model prog w) A (typeOf v) Q E s:=by
  cases r<;>first | (cases hk;done) | skip
  · exact wpAny_pure q
  · rename_i a o vs n xs ho hc hd ra
    refine wpAny_typeOf_ref ho ?_
    have e:tyV s.heap (.ref a)=o.cls:=by unfold tyV;simp only [ho]
    rw [e] at q
    exact q
theorem QfZ {vs:List Value} {ds:List PyData} {as:List Addr} {Q:SortKind->Shared->Prop} (ra:ReadsAll s.heap vs ds as) (hk:okKs ds=true) (ht:∀ d∈ds,∃ es,d=.tuple es) (h:∀ κ,QjL ds κ->Q κ s):wpAny (model prog w) A (keyKind' vs.toArray) Q E s:=by
  have rd:=Qaq ra
  have fs:∀ v∈vs,∀ (Q':Option Value->Shared->Prop),Q' (fst1 s.heap v) s->wpAny (model prog w) A (firstOfTuple' v) Q' E s:=fun v hv Q' q=>by
    obtain ⟨d,hd,bs,r⟩:=rd v hv
    obtain ⟨es,rfl⟩:=ht d hd
    cases r with
    | @tuple a o xs n _ _ ho hc hd' r'=>
      rw [kas_first_eq]
      refine wpAny_bind (wpAny_typeOf_ref ho ?_)
      rw [hc]
      rw [if_neg (by decide)]
      refine wpAny_bind (listItems_at ho hd' (wpAny_pure ?_))
      have e:fst1 s.heap (.ref a)=xs[0]? := by unfold fst1;simp only [ho,hd']
      rw [<- e]
      exact q
  rw [keyKind'_eq,List.mapM_toArray,map_eq_pure_bind]
  refine wpAny_bind (wpAny_bind (Qdr (g:=fst1 s.heap) vs fs (wpAny_pure ?_)))
  by_cases z:((vs.map (fst1 s.heap)).toArray.all fun x=>x.isSome)=true
  · rw [if_pos z]
    refine wpAny_bind (wpAny_rule ?_)
    have hfm:((vs.map (fst1 s.heap)).toArray.filterMap id)=(vs.filterMap (fst1 s.heap)).toArray:=by simp [List.filterMap_map]
    have heads:∀ u∈vs.filterMap (fst1 s.heap),∃ d bs,Reads s.heap u d bs/\okK d=true:=fun u hu=>by
      obtain ⟨v,hv,e⟩:=List.mem_filterMap.mp hu
      obtain ⟨d,hd,bs,r⟩:=rd v hv
      obtain ⟨es,rfl⟩:=ht d hd
      have ko:=QaA hk _ hd
      cases r with
      | @tuple a o xs n _ _ ho hc hd' r'=>
        have e2:fst1 s.heap (.ref a)=xs[0]? := by unfold fst1;simp only [ho,hd']
        rw [e2] at e
        have hm:u∈xs.toList:=by rw [<- Array.getElem?_toList] at e;exact List.mem_of_getElem? e
        obtain ⟨d2,hd2,bs2,r2⟩:=Qaq r' u hm
        exact ⟨d2,bs2,r2,QaA ko _ hd2⟩
    rw [hfm,oneTypeOnly'_eq,List.mapM_toArray,map_eq_pure_bind]
    refine wpAny_bind (wpAny_bind (wpAny_bind (Qdr (g:=tyV s.heap) _ (fun u hu Q' q=>?_) (wpAny_pure ?_))))
    · obtain ⟨d,bs,r,ko⟩:=heads u hu
      exact Qe4 r ko q
    · have fin:∀ o:Option Value,(o.any (· != Value.type "tuple")=true->∀ u∈vs.filterMap (fst1 s.heap),tyV s.heap u≠Value.type "tuple")->Q (tuples' (o.any (· != Value.type "tuple"))) s:=fun o ho=>by
        cases e:o.any (· != Value.type "tuple") with
        | false=>exact h _ (.inr (.inr (.inl rfl)))
        | true=>
          refine h _ (.inr (.inr (.inr ⟨rfl,fun d hd=>?_⟩)))
          obtain ⟨es,rfl⟩:=ht d hd
          obtain ⟨v,hv,bs,r⟩:=Qb4 ra _ hd
          refine ⟨es,rfl,?_⟩
          have ko:=QaA hk _ hd
          cases r with
          | @tuple a oo xs n _ _ ho' hc hd' r'=>
            have e2:fst1 s.heap (.ref a)=xs[0]? := by unfold fst1;simp only [ho',hd']
            have some1:(fst1 s.heap (.ref a)).isSome=true:=by
              have z':=Array.all_eq_true_iff_forall_mem.mp z (fst1 s.heap (Value.ref a)) (by simp;exact ⟨_,hv,rfl⟩)
              exact z'
            rw [e2] at some1
            obtain ⟨u,hu⟩:=Option.isSome_iff_exists.mp some1
            have hl:=(Array.getElem?_eq_some_iff.mp hu).1
            have nt:=ho e u (List.mem_filterMap.mpr ⟨_,hv,by rw [e2];exact hu⟩)
            have hu':xs.toList[0]? = some u:=by rw [Array.getElem?_toList];exact hu
            cases hx:xs.toList with
            | nil=>rw [hx] at hu';cases hu'
            | cons u0 us=>
              rw [hx] at hu' r'
              have e0:u0=u:=by simpa using hu'
              subst e0
              cases r' with
              | @cons _ _ d1 ds1 as1 as2 r1 rs1=>
                have ko1:=(Bool.and_eq_true_iff.mp (show (okK d1&&okKs ds1)=true from ko)).1
                cases r1<;>first | (cases ko1;done) | skip
                · trivial
                · rename_i a2 o2 vs2 n2 xs2 ho2 hc2 hd2 ra2
                  exfalso
                  apply nt
                  unfold tyV
                  simp only [ho2]
                  exact hc2
      cases hg:((vs.filterMap (fst1 s.heap)).map (tyV s.heap)).toArray[0]? with
      | none=>exact wpAny_pure (wpAny_pure (fin none fun e=>by cases e))
      | some t=>
        dsimp only
        refine wpAny_pure (wpAny_pure (fin _ fun e u hu=>?_))
        split at e
        · rename_i hall
          have ne:(t != Value.type "tuple")=true:=e
          have te:(tyV s.heap u == t)=true:=by
            have:=Array.all_eq_true_iff_forall_mem.mp hall (tyV s.heap u) (by simp;exact ⟨u,by simpa using List.mem_filterMap.mp hu,rfl⟩)
            exact this
          rw [eq_of_beq te]
          simpa using ne
        · cases e
  · rw [if_neg z]
    split
    · exact wpAny_pure (h _ (.inl rfl))
    · rw [oneTypeOnly'_eq,List.mapM_toArray,map_eq_pure_bind]
      refine wpAny_bind (wpAny_bind (wpAny_bind (Qdr (g:=tyV s.heap) _ (fun v hv Q' q=>?_) (wpAny_pure ?_))))
      · obtain ⟨d,hd,bs,r⟩:=rd v hv
        exact Qe4 r (QaA hk _ hd) q
      · have fin:∀ b:Bool,wpAny (model prog w) A (pure (if b=true then oneType' else general')) Q E s:=fun b=>by
          cases b
          · exact wpAny_pure (h _ (.inl rfl))
          · exact wpAny_pure (h _ (.inr (.inl rfl)))
        split
        · exact wpAny_pure (fin _)
        · exact wpAny_pure (fin _)
end
end Rt
namespace Rt
open PySem PySem.Spec PySem.Calls PySem.W PyProof.Rows Dl Rs
section
variable {prog:Program} {w:World} {A:Around} {E:Value->Shared->Prop} {s:Shared}
def prs (vs:List Value):Array Keyed:=vs.toArray.zip vs.toArray
theorem QcH (vs:List Value):(prs vs).toList=vs.zip vs:=by unfold prs;rw [Array.toList_zip]
theorem Qk0 (vs:List Value):(prs vs).toList.map (·.2)=vs:=by rw [QcH];exact List.map_snd_zip (Nat.le_refl _)
theorem QbZ:∀ {vs:List Value} {p:Keyed},p∈vs.zip vs->p.1=p.2/\p.2∈vs
  | v::vs,p,h=>by
    rw [List.zip_cons_cons] at h
    rcases List.mem_cons.mp h with z | z
    · rw [z];exact ⟨rfl,.head _⟩
    · exact ⟨(QbZ z).1,.tail _ (QbZ z).2⟩
theorem QdY {a:Addr} {vs:List Value} {n:Nat} {P:PySem.Fin->Shared->Prop} (ho:s.heap.get? a=some (seqObj "list" vs.toArray n)) (hz:vs.length<=sizeLine) {c:Keyed->Keyed->Bool} (oc:Ord c)
    (hkind:∀ h':Heap,Kept a s.heap h'->∀ (Q':SortKind->Shared->Prop) (E':Value->Shared->Prop),(∀ κ,Asks prog w A { s with heap:=h' } κ (prs vs) c->Q' κ { s with heap:=h' })->wpAny (model prog w) A (keyKind' vs.toArray) Q' E' { s with heap:=h' })
    (h:∀ arr:Array Keyed,arr.Perm (prs vs)->Sg c arr 0 arr.size->∀ (h':Heap) (e:Nat),Kept a s.heap h'->h'.get? a=some (seqObj "list" (arr.toList.map (·.2)).toArray e)->P (.done (.ret .none)) { s with heap:=h' }) :
    wpAny (model prog w) A (Builtin.«list.sort» ⟨[.ref a],[]⟩) P E s:=by
  have ha:a<s.heap.objs.size:=Heap.lt_size ho
  obtain ⟨e1,ho1⟩:∃ e1,(s.heap.update a (Obj.mapSeq fun _=>(#[]:Array Value))).get? a=some (seqObj "list" #[] e1):=⟨_,get?_update_seq ho fun _=>#[]⟩
  have K3:Kept a s.heap (((s.heap.update a (Obj.mapSeq fun _=>(#[]:Array Value))).push (seqObj "tuple" vs.toArray 0)).push (seqObj "list" #[] 0)):=(QbB _).trans ((Qb7 _).trans (Qb7 _))
  have ho6:(((s.heap.update a (Obj.mapSeq fun _=>(#[]:Array Value))).push (seqObj "tuple" vs.toArray 0)).push (seqObj "list" #[] 0)).get? a=some (seqObj "list" #[] e1):=Heap.get?_push_of_some _ (Heap.get?_push_of_some _ ho1)
  rw [list_sort_plain]
  refine wpAny_bind (listItems_at ho rfl ?_)
  refine wpAny_bind (listUpdate_at ho rfl ?_ (by rw [List.size_toArray];exact hz) (Nat.zero_le _))
  refine wpAny_bind (seqEpoch_at ho1 rfl ?_)
  refine wpAny_bind (wpAny_newTuple ?_ (by show vs.length<=_;exact hz))
  refine wpAny_bind (wpAny_newList ?_ (Nat.zero_le _))
  refine wpAny_holding ?_
  show wpAny (model prog w) A _ P E { s with heap:=((s.heap.update a (Obj.mapSeq fun _=>(#[]:Array Value))).push (seqObj "tuple" vs.toArray 0)).push (seqObj "list" #[] 0) }
  dsimp only
  generalize (((s.heap.update a (Obj.mapSeq fun _=>(#[]:Array Value))).push (seqObj "tuple" vs.toArray 0)).push (seqObj "list" #[] 0))=h3 at K3 ho6 ⊢
  have out:∀ arr:Array Keyed,arr.map (·.2)=(arr.toList.map (·.2)).toArray:=fun arr=>by
    apply Array.toList_inj.mp
    rw [Array.toList_map]
  have psz:(prs vs).size=vs.length:=by rw [<- Array.length_toList,QcH,List.length_zip,Nat.min_self]
  by_cases h2:vs.toArray.size<2
  · rw [if_pos h2,if_pos h2]
    refine wpAny_bind (wpAny_pure ?_)
    rw [StateT.run_pure]
    refine wpAny_bind (wpAny_pure ?_)
    dsimp only
    have f:Sg c (prs vs) 0 (prs vs).size:=fun i j _ hij hj=>by
      rw [psz] at hj
      rw [List.size_toArray] at h2
      rw [show i=j by omega]
      exact oc.irr _
    refine wpAny_bind (seqEpoch_at ho6 rfl ?_)
    refine wpAny_bind (listUpdate_at ho6 rfl ?_ (Nat.zero_le _) (by rw [Array.size_map];show (prs vs).size<=_;rw [(Array.Perm.refl (prs vs)).size_eq,psz];omega))
    simp only [bne_self_eq_false,Bool.false_eq_true,if_false]
    show wpAny _ _ (ret Value.none) _ _ { s with heap:=h3.update a (Obj.mapSeq fun _=>Array.map (fun x=>x.snd) (prs vs)) }
    rw [out]
    exact wpAny_pure (h (prs vs) (Array.Perm.refl (prs vs)) (f) _ _ (K3.trans (QbB _)) (get?_update_seq ho6 fun _=>_))
  · rw [if_neg h2,if_neg h2]
    refine wpAny_bind (hkind h3 K3 _ _ fun κ hA=>?_)
    refine wpAny_bind (wpAny_mono (QeZ (a₀:=prs vs) (κ:=κ) (st:=SortSt.mk' κ (prs vs) #[] 7 none) (Q:=fun _ st'=>SB κ (prs vs) st'/\Sg c (arrOf st') 0 (prs vs).size) hA ⟨Array.Perm.refl _,rfl,rfl⟩ rfl fun st' b g=>⟨b,g⟩) ?_ fun _ _ e=>e)
    rintro ⟨⟨⟩,st'⟩ s' ⟨rfl,b,g⟩
    dsimp only
    rw [b.failed]
    have g2:Sg c (arrOf st') 0 (arrOf st').size:=by rw [b.size];exact g
    refine wpAny_bind (seqEpoch_at ho6 rfl ?_)
    refine wpAny_bind (listUpdate_at ho6 rfl ?_ (Nat.zero_le _) (by rw [Array.size_map];show (arrOf st').size<=_;rw [(b.perm).size_eq,psz];omega))
    simp only [bne_self_eq_false,Bool.false_eq_true,if_false]
    show wpAny _ _ (ret Value.none) _ _ { s with heap:=h3.update a (Obj.mapSeq fun _=>Array.map (fun x=>x.snd) (arrOf st')) }
    rw [out]
    exact wpAny_pure (h (arrOf st') (b.perm) (g2) _ _ (K3.trans (QbB _)) (get?_update_seq ho6 fun _=>_))
open Classical in
noncomputable def rdV (h:Heap) (v:Value):PyData:=if q:∃ d as,Reads h v d as/\d.canLay0=true then q.choose else .none
theorem Qg0 {h:Heap} {v:Value} {d:PyData} {as:List Addr} (r:Reads h v d as) (c:d.canLay0=true):rdV h v=d:=by
  unfold rdV
  have q:∃ d as,Reads h v d as/\d.canLay0=true:=⟨d,as,r,c⟩
  rw [dif_pos q]
  obtain ⟨as',r',c'⟩:=q.choose_spec
  exact (SeqAt.Reads.unique d _ v as as' c r r').symm
theorem Qcy {α β:Type} (f:α->β) {l m:List β} (p:l.Perm m):∀ {T:List α},m=T.map f->∃ T':List α,T'.Perm T/\l=T'.map f:=by
  induction p with
  | nil=>intro T e;exact ⟨T,List.Perm.refl _,e⟩
  | @cons x l1 l2 _ ih=>
    intro T e
    cases T with
    | nil=>cases e
    | cons t T=>
      rw [List.map_cons] at e
      injection e with e1 e2
      obtain ⟨T',p',e'⟩:=ih e2
      exact ⟨t::T',p'.cons t,by rw [List.map_cons,<- e1,<- e']⟩
  | @swap x y l=>
    intro T e
    cases T with
    | nil=>cases e
    | cons t T=>
      cases T with
      | nil=>rw [List.map_cons] at e;injection e with e1 e2;cases e2
      | cons t2 T=>
        rw [List.map_cons,List.map_cons] at e
        injection e with e1 e2
        injection e2 with e3 e4
        exact ⟨t2::t::T,List.Perm.swap t t2 T,by rw [List.map_cons,List.map_cons,<- e1,<- e3,<- e4]⟩
  | @trans l1 l2 l3 _ _ ih1 ih2=>
    intro T e
    obtain ⟨T2,p2,e2⟩:=ih2 e
    obtain ⟨T1,p1,e1⟩:=ih1 e2
    exact ⟨T1,p1.trans p2,e1⟩
end
mutual
theorem Qih:∀ (d:PyData),cmpK d d=true->okK d=true
  | .int _,_=>rfl
  | .tuple ds,h=>Qgd ds h
  | .none,h=>by cases h
  | .bool _,h=>by cases h
  | .str _,h=>by cases h
  | .list _,h=>by cases h
  | .dict _,h=>by cases h
theorem Qgd:∀ (ds:List PyData),Qcd ds ds=true->okKs ds=true
  | [],_=>rfl
  | d::ds,h=>by
    have h:=Bool.and_eq_true_iff.mp (show (cmpK d d&&Qcd ds ds)=true from h)
    show (okK d&&okKs ds)=true
    rw [Qih d h.1,Qgd ds h.2];rfl
end
mutual
theorem Qcn:∀ (d:PyData),okK d=true->d.canLay0=true
  | .int _,_=>rfl
  | .tuple ds,h=>QfQ ds h
  | .none,h=>by cases h
  | .bool _,h=>by cases h
  | .str _,h=>by cases h
  | .list _,h=>by cases h
  | .dict _,h=>by cases h
theorem QfQ:∀ (ds:List PyData),okKs ds=true->PyData.canLayAll0 ds=true
  | [],_=>rfl
  | d::ds,h=>by
    have h:=Bool.and_eq_true_iff.mp (show (okK d&&okKs ds)=true from h)
    simp only [PyData.canLayAll0,Qcn d h.1,QfQ ds h.2,Bool.and_self]
end
structure Sortable (ds:List PyData):Prop where
  cmp:∀ x∈ds,∀ y∈ds,cmpK x y=true
  dep:∀ x∈ds,x.depth<=20
end Rt
namespace L2
open PySem PySem.Spec PySem.Calls PyProof.Rows _root_.Rd _root_.Rk _root_.Rs Rt Dl
structure Trp where
  x:V
  v:Value
  d:PyData
theorem trips {H:Hp}:∀ {xs:List V} {ds:List PyData} {vs:List Value},Dats H xs ds->Vals xs vs->∃ T:List Trp,xs=T.map (·.x)/\vs=T.map (·.v)/\ds=T.map (·.d)/\∀ t∈T,Dat H t.x t.d/\RelV t.x t.v
  | _,_,_,.nil,.nil=>⟨[],rfl,rfl,rfl,fun _ h=>nomatch h⟩
  | _,_,_,.cons q qs,.cons r rs=>by
    obtain ⟨T,e1,e2,e3,h⟩:=trips qs rs
    refine ⟨⟨_,_,_⟩::T,by rw [e1];rfl,by rw [e2];rfl,by rw [e3];rfl,fun t ht=>?_⟩
    rcases List.mem_cons.mp ht with z | z
    · rw [z];exact ⟨q,r⟩
    · exact h t z
theorem QjN {H:Hp}:∀ {T:List Trp},(∀ t∈T,Dat H t.x t.d/\RelV t.x t.v)->Dats H (T.map (·.x)) (T.map (·.d))/\Vals (T.map (·.x)) (T.map (·.v))
  | [],_=>⟨.nil,.nil⟩
  | t::T,h=>by
    obtain ⟨a,b⟩:=QjN (T:=T) fun t ht=>h t (.tail _ ht)
    exact ⟨.cons (h t (.head _)).1 a,.cons (h t (.head _)).2 b⟩
section
variable {X:Cx}
end
end L2
namespace Dl
open PySem PySem.Spec PyProof.Rows L2 _root_.Rd Rk Rt
theorem das_at {A:Addr->Prop} {H:Hp} {xs:List V} {ds:List PyData} (q:DAs A H xs ds) {v:V} (hv:v∈xs):∃ d∈ds,DA A H v d:=by
  obtain ⟨i,hi⟩:=List.mem_iff_getElem?.mp hv
  obtain ⟨d,hd,h⟩:=q.getV i v hi
  exact ⟨d,List.mem_of_getElem? hd,h⟩
theorem QeK {A:Addr->Prop} {H:Hp}:∀ {ys:List V} {es:List PyData},Dats H ys es->(∀ y∈ys,∃ d,DA A H y d/\nd d=true/\d.canLay0=true/\Dat H y d)->(∀ y d e,y∈ys->Dat H y d->Dat H y e->d=e)->DAs A H ys es
  | _,_,.nil,_,_=>.nil
  | _,_,.cons (x:=x) (d:=d) q qs,h,u=>by
    obtain ⟨d',h1,_,_,h4⟩:=h x (.head _)
    have:d=d':=u x d d' (.head _) q h4
    subst this
    exact .cons h1 (QeK qs (fun y hy=>h y (.tail _ hy)) fun y d e hy=>u y d e (.tail _ hy))
mutual
theorem Qf8 {H:Hp}:∀ (d e:PyData) (x:V),Dat H x d->Dat H x e->d=e
  | .none,e,_,.non,h=>by cases h;rfl
  | .bool _,e,_,.bl _,h=>by cases h;rfl
  | .int _,e,_,.int _,h=>by cases h;rfl
  | .str _,e,_,.str _ _,h=>by cases h;rfl
  | .tuple ds,e,_,.tup (xs:=xs) e1 q,h=>by
    cases h with
    | @tup a ys es e2 q'=>
      rw [e1] at e2
      cases e2
      rw [Qc8 ds es xs q q']
    | @lst a ys es e2 q'=>rw [e1] at e2;cases e2
  | .list ds,e,_,.lst (xs:=xs) e1 q,h=>by
    cases h with
    | @tup a ys es e2 q'=>rw [e1] at e2;cases e2
    | @lst a ys es e2 q'=>
      rw [e1] at e2
      cases e2
      rw [Qc8 ds es xs q q']
  | .dict _,_,_,q,_=>nomatch q
theorem Qc8 {H:Hp}:∀ (ds es:List PyData) (xs:List V),Dats H xs ds->Dats H xs es->ds=es
  | [],es,_,.nil,h=>by cases h;rfl
  | d::ds,es,_,.cons q qs,h=>by
    cases h with
    | @cons x xs e es q' qs'=>rw [Qf8 d e _ q q',Qc8 ds es _ qs qs']
end
end Dl
namespace L2
open PySem PySem.Spec PySem.Calls PyProof.Rows _root_.Rd _root_.Rk Rt
section
variable {X:Cx}
end
end L2
namespace Dl
open PySem PySem.Spec PyProof.Rows L2 _root_.Rd Rk Rt
theorem any_map {α:Type} (l:List α) (g:α->Bool):(l.map g).any id=l.any g:=by rw [List.any_map];rfl
section
variable {X:Cx} {E:XK}
theorem bt_set:bootBuiltins "set" = some (.type "set"):=by decide +kernel
end
end Dl
namespace Zt
open PySem PyProof.Rows PySem.W PySem.Calls Rs
section
variable {prog:Program} {w:World} {A:Around} {E:Value->Shared->Prop} {s:Shared}
end
end Zt
namespace L2
open PySem PySem.Spec PyProof.Rows Zt
section
variable {X:Cx}
end
end L2
namespace Dl
open PySem PySem.Spec PyProof.Rows L2 _root_.Rd Rk Zt
section
variable {X:Cx} {E:XK}
end
end Dl
namespace L2
open PySem PySem.Spec PySem.Calls PyProof.Rows _root_.Rd _root_.Rk _root_.Rs Rt Dl
section
variable {X:Cx}
theorem QgP (hu:X.A.units+60<cLine) {pins:List (Addr×Obj)} {s:Shared} {σ:L2.St} {H:Hp} (I:Inv X pins σ H s) {vs:List V} {ds:List PyData} {its:List Value} (rv:Vals vs its) (hz:vs.length<=sizeLine) (dts:Dats H vs ds) (so:Sortable ds) {Q:VK}
    (q:∀ (t:Addr) (ys:List V) (es:List PyData) (H2:Hp),Same H H2->H t=none->H2 t=some (.lst ys)->Dats H2 ys es->es.Perm ds->es.Pairwise (fun a b=>ltD b a=false)->(∀ y∈ys,y∈vs)->Q (.ref t) H2) (h':Heap) (tk:Nat) (kp:∀ b x,s.heap.get? b=some x->h'.get? b=some x) (P:PySem.Fin->Shared->Prop) (E':Value->Shared->Prop)
    (hP:∀ s2,(∃ v H',Inv X pins σ H' s2/\RelV v (.ref h'.objs.size)/\Q v H')->P (.done (.ret .none)) s2) :
    wpAny (model X.prog X.w) X.A.in1.in1 (Builtin.«list.sort» ⟨[.ref h'.objs.size],[]⟩) P E' { s with heap:=h'.push (seqObj "list" its.toArray 0),toks:=tk }:=by
  have hu2:X.A.in1.in1.units+2*20+4<cLine:=by show X.A.units+1+1+2*20+4<cLine;omega
  have li:=rv.length
  obtain ⟨⟨as,ra⟩,cl⟩:=QaX I.hok ds vs its dts rv
  have okds:okKs ds=true:=Qhz fun d hd=>Qih d (so.cmp d hd d hd)
  have ra':=QaW kp ds its as okds ra
  let c:Keyed->Keyed->Bool:=fun x y=>ltD (rdV h' x.1) (rdV h' y.1)
  have oc:Ord c:=⟨fun x y=>Qjp _ _,fun x y z=>ltD_nt _ _ _⟩
  refine QdY (s:={ s with heap:=h'.push (seqObj "list" its.toArray 0),toks:=tk }) (c:=c) (Heap.get?_push_size _ rfl) (by omega) oc (fun h2 k2 Q' E' hq=>?_) fun arr pm sg h2 e k2 e2=>hP _ ?_
  · have kk:∀ b x,h'.get? b=some x->h2.get? b=some x:=fun b x e=>k2 b x (Nat.ne_of_lt (Heap.lt_size e)) (Heap.get?_push_of_some _ e)
    have ra2:=QaW kk ds its as okds ra'
    have asks:∀ κ,QjL ds κ->(∀ b,κ=tuples' b->∀ d∈ds,∃ es,d=.tuple es)->Asks X.prog X.w X.A.in1.in1 { s with heap:=h2,toks:=tk } κ (prs its) c:=fun κ su tb=>by
      refine ⟨oc,fun x y hx hy C E'' hC=>?_⟩
      rw [QcH] at hx hy
      obtain ⟨ex,hx⟩:=QbZ hx
      obtain ⟨ey,hy⟩:=QbZ hy
      obtain ⟨d1,m1,b1,r1⟩:=Qaq ra2 x.2 hx
      obtain ⟨d2,m2,b2,r2⟩:=Qaq ra2 y.2 hy
      obtain ⟨d1',m1',b1',r1'⟩:=Qaq ra' x.2 hx
      obtain ⟨d2',m2',b2',r2'⟩:=Qaq ra' y.2 hy
      have k1:=QaA okds d1 m1
      have k2:=QaA okds d2 m2
      have c1:=Qcn d1 k1
      have c2:=Qcn d2 k2
      have c1':=Qcn d1' (QaA okds d1' m1')
      have c2':=Qcn d2' (QaA okds d2' m2')
      have q1:d1'=d1:=SeqAt.Reads.unique d1' d1 x.2 _ _ c1' (Qcl kk d1' _ _ (QaA okds d1' m1') r1') r1
      have q2:d2'=d2:=SeqAt.Reads.unique d2' d2 y.2 _ _ c2' (Qcl kk d2' _ _ (QaA okds d2' m2') r2') r2
      subst q1 q2
      have hC:C (ltD (rdV h' x.1) (rdV h' y.1)) { s with heap:=h2,toks:=tk }:=hC
      rw [ex,ey,Qg0 r1' c1',Qg0 r2' c2'] at hC
      rw [ex,ey]
      exact key_lt (N:=20) su m1 r1 r2 c1 c2 (so.cmp _ m1 _ m2) (fun b e=>tb b e _ m1) (so.dep _ m1) hu2 hC
    cases ds with
    | nil=>
      cases ra2
      exact QfZ (s:={ s with heap:=h2,toks:=tk }) .nil rfl (fun d hd=>nomatch hd) fun κ su=>hq κ (asks κ su fun b _ d hd=>nomatch hd)
    | cons d0 ds0=>
      have sh:(∀ d∈d0::ds0,∃ es,d=.tuple es)∨∀ d∈d0::ds0,∃ i,d=.int i:=by
        cases d0 with
        | int i=>exact .inr fun d hd=>by have:=so.cmp _ (.head _) d hd;cases d<;>first | exact ⟨_,rfl⟩ | (cases this;done)
        | tuple es=>exact .inl fun d hd=>by have:=so.cmp _ (.head _) d hd;cases d<;>first | exact ⟨_,rfl⟩ | (cases this;done)
        | _=>have:=so.cmp _ (.head _) _ (.head _);cases this
      rcases sh with sh | sh
      · exact QfZ (s:={ s with heap:=h2,toks:=tk }) ra2 okds sh fun κ su=>hq κ (asks κ su fun b _=>sh)
      · have one:QjL (d0::ds0) oneType':=.inr (.inl rfl)
        by_cases l2:its.length<2
        · have hk1:∀ v∈its,∀ (Q'':Option Value->Shared->Prop),Q'' none { s with heap:=h2,toks:=tk }->wpAny (model X.prog X.w) X.A.in1.in1 (firstOfTuple' v) Q'' E' { s with heap:=h2,toks:=tk }:=fun v hv Q'' q''=>by
            obtain ⟨d,hd,bs,r⟩:=Qaq ra2 v hv
            obtain ⟨i,rfl⟩:=sh d hd
            cases r
            exact wpAny_pure q''
          have hk2:∀ v∈its,∀ (Q'':Value->Shared->Prop),Q'' (Rt.tyV h2 v) { s with heap:=h2,toks:=tk }->wpAny (model X.prog X.w) X.A.in1.in1 (typeOf v) Q'' E' { s with heap:=h2,toks:=tk }:=fun v hv Q'' q''=>by
            obtain ⟨d,hd,bs,r⟩:=Qaq ra2 v hv
            exact Qe4 (s:={ s with heap:=h2,toks:=tk }) r (QaA okds d hd) q''
          rw [keyKind'_eq,List.mapM_toArray,map_eq_pure_bind]
          refine wpAny_bind (wpAny_bind (Qdr (g:=fun _=>(none:Option Value)) its hk1 (wpAny_pure ?_)))
          cases its with
          | nil=>cases ra2
          | cons v0 vs0=>
            rw [if_neg (by simp)]
            rw [if_neg (by simp)]
            rw [oneTypeOnly'_eq,List.mapM_toArray,map_eq_pure_bind]
            refine wpAny_bind (wpAny_bind (wpAny_bind (Qdr (g:=Rt.tyV h2) _ hk2 (wpAny_pure ?_))))
            have fin:∀ b:Bool,wpAny (model X.prog X.w) X.A.in1.in1 (pure (if b=true then oneType' else general')) Q' E' { s with heap:=h2,toks:=tk }:=fun b=>by
              have ni:∀ {κ:SortKind},(∀ b',κ≠tuples' b')->∀ b',κ=tuples' b'->∀ d∈d0::ds0,∃ es,d=PyData.tuple es:=fun h b' e=>(h b' e).elim
              cases b
              · exact wpAny_pure (hq _ (asks _ (.inl rfl) (ni fun b' e=>by cases e)))
              · exact wpAny_pure (hq _ (asks _ (.inr (.inl rfl)) (ni fun b' e=>by cases e)))
            split
            · exact wpAny_pure (fin _)
            · exact wpAny_pure (fin _)
        · have ia:∀ {vs:List Value} {ds:List PyData} {as:List Addr},ReadsAll h2 vs ds as->(∀ d∈ds,∃ i,d=PyData.int i)->∃ ns,IntsAre vs ns:=by
            intro vs ds as ra hs
            induction vs generalizing ds as with
            | nil=>exact ⟨[],.nil⟩
            | cons v vs ih=>
              cases ra with
              | cons r rs=>
                obtain ⟨i,rfl⟩:=hs _ (.head _)
                obtain ⟨ns,hn⟩:=ih rs fun d hd=>hs d (.tail _ hd)
                cases r
                exact ⟨i::ns,.cons _ _ hn⟩
          obtain ⟨ns,hn⟩:=ia ra2 sh
          match its,hn,l2 with
          | v1::v2::vs',hn,_=>
            rw [keyKind_ints hn]
            exact wpAny_pure (hq _ (asks _ one fun b e=>by cases e))
          | [_],_,l2=>exact absurd (Nat.lt_succ_self 1) l2
          | [],_,l2=>exact absurd (Nat.zero_lt_two) l2
  · have I1:Inv X pins σ H { s with heap:=h',toks:=tk }:=I.kept (t':=tk) kp
    have hf:H h'.objs.size=none:=I1.hok.fresh (Nat.le_refl _)
    have pv:(arr.toList.map (·.2)).Perm its:=by
      have:=(Array.perm_iff_toList_perm.mp pm).map (·.2)
      rwa [Qk0] at this
    obtain ⟨Tr,t1,t2,t3,th⟩:=trips dts rv
    obtain ⟨Tr',p',e'⟩:=Qcy Trp.v (l:=arr.toList.map (·.2)) (by rw [<- t2];exact pv) (T:=Tr) rfl
    have th':∀ t∈Tr',Dat H t.x t.d/\RelV t.x t.v:=fun t ht=>th t (p'.mem_iff.mp ht)
    obtain ⟨dts',rv'⟩:=QjN th'
    have ll:(Tr'.map (·.x)).length<=sizeLine:=by
      have:=p'.length_eq
      rw [List.length_map,this,<- List.length_map (f:=Trp.x),<- t1]
      exact hz
    have I2:Inv X pins σ (upd H h'.objs.size (.lst (Tr'.map (·.x)))) { s with heap:=h2,toks:=tk }:=
      I1.laid (t':=tk) (fun b x e'=>k2 b x (Nat.ne_of_lt (Heap.lt_size e')) (Heap.get?_push_of_some _ e')) (Nat.le_refl _) (show ObjOk X.prog X.w _ _ _ (.lst _) from ⟨ll,_,e,by rw [e'];exact rv',e2⟩)
    refine ⟨.ref h'.objs.size,_,I2,rfl,q _ _ (Tr'.map (·.d)) _ (Qae hf) hf Qad (dts'.same (Qae hf)) (by rw [t3];exact p'.map _) ?_ fun y hy=>?_⟩
    · -- in order
      have len:arr.toList.length=Tr'.length:=by have:=congrArg List.length e';rwa [List.length_map,List.length_map] at this
      rw [List.pairwise_iff_getElem]
      intro i j hi hj hij
      rw [List.length_map] at hi hj
      rw [List.getElem_map,List.getElem_map]
      have ka:∀ (k:Nat) (hk:k<Tr'.length),rdV h' (kx arr k).1=Tr'[k].d:=fun k hk=>by
        have hk':k<arr.size:=by rw [<- Array.length_toList,len];exact hk
        have m:=memL hk'
        have m2:=(Array.perm_iff_toList_perm.mp pm).mem_iff.mp m
        rw [QcH] at m2
        have e3:=(QbZ m2).1
        have e4:(kx arr k).2=Tr'[k].v:=by
          have h5:(arr.toList.map (·.2))[k]? = some (kx arr k).2:=by rw [List.getElem?_map,Qa1 hk'];rfl
          rw [e',List.getElem?_map,List.getElem?_eq_getElem hk] at h5
          exact (Option.some.inj h5).symm
        rw [e3,e4]
        obtain ⟨dt,rv0⟩:=th' _ (List.getElem_mem hk)
        obtain ⟨⟨bs,rr⟩,cc⟩:=QaP I1.hok _ _ _ dt rv0
        exact Qg0 rr cc
      have g:ltD (rdV h' (kx arr j).1) (rdV h' (kx arr i).1)=false:=sg i j (Nat.zero_le _) (by omega) (by rw [<- Array.length_toList,len];exact hj)
      rw [ka i hi,ka j hj] at g
      exact g
    · obtain ⟨t,ht,rfl⟩:=List.mem_map.mp hy
      rw [t1]
      exact List.mem_map.mpr ⟨t,p'.mem_iff.mp ht,rfl⟩
end
end L2
namespace Zt
open PySem
def setP (prog:Program) (w:World) (a:Addr) (ps:List (List Int×Addr)) (led:Bool) (h:Heap):Prop:=∃ es ep t,SetAt h a es ep t/\Tab t/\t.led=led/\es.toList=ps.map fun p=>(tupleKeyHash (intKind prog w) p.1,Value.ref p.2)
section
variable {prog:Program} {w:World} {A:Around} {E:Value->Shared->Prop} {s:Shared}
theorem Qky {a:Addr} {es:Array (Int×Value)} {ep:Nat} {t:SetTable} (hs:SetAt s.heap a es ep t) (T:Tab t) (hl:t.led=Qa6 w):∃ so vs,Way prog w a es ep t so vs:=by
  have hz:t.place.size=es.size:=by
    have:=hs.ft
    unfold SetTable.fits at this
    exact eq_of_beq (Bool.and_eq_true_iff.mp this).1
  cases hb:w.params.followText "set-order" with
  | true=>exact ⟨_,_,QiC hb a es ep _⟩
  | false=>
    have hl:t.led=true:=by rw [hl];unfold Qa6;rw [hb];rfl
    let so:Nat->Nat:=fun i=>match i with
      | 0=>0
      | i+1=>t.place.getD i 0+1
    refine ⟨so,es,Qkz hb a es ep t T.pl hl hz so rfl (fun i hi=>rfl) (fun i hi=>?_)⟩
    obtain ⟨b1,b2,b3⟩:=QbO T.pw (so i)
    cases i with
    | zero=>
      cases hB:SetTable.below t.place (so 0) with
      | zero=>rfl
      | succ k=>
        have:=b2 0 (by omega) (by omega)
        exact absurd this (Nat.not_lt_zero _)
    | succ i=>
      have e:so (i+1)=t.place[i]+1:=by show t.place.getD i 0+1=_;simp [Array.getD,show i<t.place.size by omega]
      rcases Nat.lt_trichotomy (SetTable.below t.place (so (i+1))) (i+1) with z | z | z
      · have h1:=b3 i (by omega) (by omega)
        omega
      · exact z
      · have hi2:i+1<t.place.size:=by omega
        have h1:=b2 (i+1) hi2 z
        have:=List.pairwise_iff_getElem.mp T.pw i (i+1) (by simp;omega) (by simp;omega) (by omega)
        simp only [Array.getElem_toList] at this
        omega
theorem Qhg {ps:List (List Int×Addr)}:∀ {l k:List (Int×Value)},l.Perm k->∀ {T:List (List Int×Addr)},k=T.map (fun p=>(tupleKeyHash (intKind prog w) p.1,Value.ref p.2))->∃ T':List (List Int×Addr),T'.Perm T/\l=T'.map fun p=>(tupleKeyHash (intKind prog w) p.1,Value.ref p.2):=by
  intro l k p
  induction p with
  | nil=>intro T e;exact ⟨T,List.Perm.refl _,e⟩
  | @cons x l1 l2 _ ih=>
    intro T e
    cases T with
    | nil=>cases e
    | cons y T=>
      injection e with e1 e2
      obtain ⟨T',p',e'⟩:=ih e2
      exact ⟨y::T',p'.cons y,by rw [e1,e'];rfl⟩
  | swap x y l=>
    intro T e
    match T,e with
    | u::v::T,e=>
      injection e with e1 e2
      injection e2 with e2 e3
      exact ⟨v::u::T,List.Perm.swap _ _ _,by rw [e1,e2,e3];rfl⟩
  | trans _ _ ih1 ih2=>
    intro T e
    obtain ⟨T1,p1,e1⟩:=ih2 e
    obtain ⟨T2,p2,e2⟩:=ih1 e1
    exact ⟨T2,p2.trans p1,e2⟩
open PyProof.Rows PySem.W PySem.Calls Rs in
theorem Qe9 {Q:Value->Shared->Prop} {a:Addr} {ps:List (List Int×Addr)} (hh:A.handled=none) (hl:ps.length<=1000) (x:setP prog w a ps (Qa6 w) s.heap)
    (h:∀ (h':Heap) (tk:Nat) (ps':List (List Int×Addr)),ps'.Perm ps->(∀ b x,s.heap.get? b=some x->h'.get? b=some x)->∀ (P:PySem.Fin->Shared->Prop) (E':Value->Shared->Prop),(∀ s2,Q (.ref h'.objs.size) s2->P (.done (.ret .none)) s2) ->
      wpAny (model prog w) A.in1.in1 (Builtin.«list.sort» ⟨[.ref h'.objs.size],[]⟩) P E' { s with heap:=h'.push (seqObj "list" (ps'.map fun p=>Value.ref p.2).toArray 0),toks:=tk }) :
    wpAny (model prog w) A (call (.builtin "sorted") [.ref a]) Q E s:=by
  obtain ⟨es,ep,t,sa,T,led,ent⟩:=x
  have hsz:es.size=ps.length:=by rw [<- Array.length_toList,ent,List.length_map]
  obtain ⟨so,vs,W⟩:=Qky (prog:=prog) (w:=w) sa T led
  obtain ⟨ps',pp,e'⟩:=Qhg (prog:=prog) (w:=w) (ps:=ps) W.pm ent
  refine Calls.call_function_entry kind_sorted plain_sorted entry_sorted (args_sorted1 _) ?_
  unfold Builtin.«sorted»
  refine wpAny_bind (m:=checkCount "sorted" 1 1 _) (wpAny_pure ?_)
  refine wpAny_bind (Qfs (A:=A.in1) hh W sa T.pl (by rw [hsz,sizeLine_eq];omega) fun h' tk kp=>?_)
  have ev:vs.toList.map (·.2)=ps'.map fun p=>Value.ref p.2:=by rw [e',List.map_map];rfl
  rw [ev]
  refine wpAny_bind (wpAny_newList ?_ (by rw [sizeLine_eq,List.length_map,pp.length_eq];omega))
  have hoL:(h'.push (seqObj "list" (ps'.map fun p=>Value.ref p.2).toArray 0)).get? h'.objs.size=some (seqObj "list" (ps'.map fun p=>Value.ref p.2).toArray 0):=Heap.get?_push_size _ rfl
  show wpAny _ _ _ _ _ { s with heap:=h'.push (seqObj "list" (ps'.map fun p=>Value.ref p.2).toArray 0),toks:=tk }
  refine wpAny_bind (wpAny_holding (wpAny_call_entry slot_list_sort ⟨_,hoL,rfl⟩ entry_list_sort ?body (args_list_sort _)))
  exact h h' tk ps' pp kp _ _ fun s2 hq=>⟨_,rfl,wpAny_pure ⟨_,rfl,hq⟩⟩
end
end Zt
namespace Rk
open PySem PySem.Spec PyProof.Rows L2 _root_.Rd Dl
def inW (d:PyData) (a b:Int):Bool:=match d with
  | .int i=>decide (a<=i)&&decide (i<=b)
  | _=>false
theorem inW_t {i a b:Int} (h1:a<=i) (h2:i<=b):inW (.int i) a b=true:=by
  show (decide (a<=i)&&decide (i<=b))=true
  rw [decide_eq_true h1,decide_eq_true h2];rfl
theorem inW_e {d:PyData} {a b:Int} (h:inW d a b=true):∃ i,d=.int i/\a<=i/\i<=b:=by
  cases d<;>first | (cases h;done) | skip
  rename_i i
  have h:=Bool.and_eq_true_iff.mp (show (decide (a<=i)&&decide (i<=b))=true from h)
  exact ⟨i,rfl,of_decide_eq_true h.1,of_decide_eq_true h.2⟩
def Qe3:DF:=fun args R _=>∃ d a b,args=[.v d,.v (.int a),.v (.int b)]/\R (.bool (inW d a b))
theorem QbH (ns:List Int):nds (ns.map PyData.int)=true:=QhB.mpr fun d hd=>by
  obtain ⟨i,_,rfl⟩:=List.mem_map.mp hd
  rfl
end Rk
namespace Rx
open PySem PySem.Spec PySem.Calls PyProof.Rows L2
section
variable {X:Cx} {e:Expr} {st:Stmt} {rest:List Stmt} {pos:Pos} {te:TX} {t u:TSX}
end
end Rx
namespace L2
open PySem PySem.Spec PyProof.Rows Dl
end L2
namespace Dl
open PySem PySem.Spec PyProof.Rows L2 _root_.Rd Rk
section
variable {X:Cx}
theorem PEX.imp {e:Expr} {t t':Rx.TX} (h:Rx.PEX X e t) (i:∀ σ H Q Ex,t' σ H Q Ex->t σ H Q Ex):Rx.PEX X e t':=fun pins s σ H Q Ex I q=>h pins s σ H Q Ex I (i σ H Q Ex q)
theorem PSX.imp {e:Stmt} {t t':Rx.TSX} (h:Rx.PSX X e t) (i:∀ D σ H Ex,t' D σ H Ex->t D σ H Ex):Rx.PSX X e t':=fun pins s σ H D Ex I q=>h pins s σ H D Ex I (i D σ H Ex q)
theorem PSXs.imp {e:List Stmt} {t t':Rx.TSX} (h:Rx.PSXs X e t) (i:∀ D σ H Ex,t' D σ H Ex->t D σ H Ex):Rx.PSXs X e t':=fun pins s σ H D Ex I q=>h pins s σ H D Ex I (i D σ H Ex q)
variable {k:Nat} {f:Addr} {fd:FuncData} {ps:List Str} {x:Str} {p pos:Pos} {e:Expr} {es:List Expr} {fD:DF} {wa:DSl}
end
end Dl
namespace Rk
open PySem PySem.Spec PyProof.Rows L2 _root_.Rd Dl Rt
theorem Qbl (p:Int×Int):(pairD p).depth<=1:=by
  show PyData.depthAll [.int p.1,.int p.2]+1<=1
  simp [PyData.depthAll,PyData.depth]
theorem Qa5 {n:Nat}:∀ {ds:List PyData},(∀ d∈ds,d.depth<=n)->PyData.depthAll ds<=n
  | [],_=>Nat.zero_le _
  | d::ds,h=>by
    show max d.depth (PyData.depthAll ds)<=n
    exact Nat.max_le.mpr ⟨h d (.head _),Qa5 fun d hd=>h d (.tail _ hd)⟩
theorem Qfr (L:List (Int×Int)):(PyData.tuple (L.map pairD)).depth<=2:=by
  show PyData.depthAll (L.map pairD)+1<=2
  have:=Qa5 (n:=1) (ds:=L.map pairD) fun d hd=>by obtain ⟨p,_,rfl⟩:=List.mem_map.mp hd;exact Qbl p
  omega
theorem QeG (p q:Int×Int):PyData.eqv (pairD p) (pairD q)=decide (p=q):=by
  show ((p.1 == q.1)&&((p.2 == q.2)&&true))=_
  obtain ⟨a,b⟩:=p
  obtain ⟨c,d⟩:=q
  by_cases h1:a=c
  · by_cases h2:b=d
    · subst h1 h2;simp
    · simp [h1,h2]
  · simp [h1]
theorem QeV (cs:List (Int×Int)) (p:Int×Int):((cs.map pairD).any fun c=>PyData.eqv c (pairD p))=decide (p∈cs):=by
  rw [List.any_map,Bool.eq_iff_iff,List.any_eq_true,decide_eq_true_iff]
  constructor
  · rintro ⟨c,hc,h⟩
    have:c=p:=of_decide_eq_true (by rw [<- QeG];exact h)
    rw [<- this];exact hc
  · intro h
    refine ⟨p,h,?_⟩
    show PyData.eqv (pairD p) (pairD p)=true
    rw [QeG];simp
def bdD (h w:Int) (cs:List (Int×Int)):PyData:=.tuple [.int h,.int w,.tuple (cs.map pairD)]
theorem Qdz (ns:List Int):Qbp (ns.map PyData.int)=some ns:=Dl.ints_map ns
def rowF (r n:Nat) (f:Nat->Nat->Bool):List (Int×Int):=((List.range n).filter (f r)).map fun (c:Nat)=>((r:Int),(c:Int))
def Qa8 (h w:Nat) (f:Nat->Nat->Bool):List (Int×Int):=(List.range h).flatMap fun r=>rowF r w f
theorem Qbm (h w:Nat) (f:Nat->Nat->Bool):Qa8 (h+1) w f=Qa8 h w f++rowF h w f:=by
  unfold Qa8
  rw [List.range_succ,List.flatMap_append]
  simp
theorem Qdk {r n:Nat} {f g:Nat->Nat->Bool} (h:∀ c,c<n->f r c=g r c):rowF r n f=rowF r n g:=by
  unfold rowF
  congr 1
  exact List.filter_congr fun c hc=>h c (List.mem_range.mp hc)
theorem QeM {h w:Nat} {f g:Nat->Nat->Bool} (q:∀ r c,r<h->c<w->f r c=g r c):Qa8 h w f=Qa8 h w g:=by
  induction h with
  | zero=>rfl
  | succ h ih=>rw [Qbm,Qbm,ih fun r c hr=>q r c (by omega),Qdk fun c hc=>q h c (by omega) hc]
theorem QfI (r n:Nat) (f:Nat->Nat->Bool):(rowF r n f).length<=n:=by
  unfold rowF
  rw [List.length_map]
  exact Nat.le_trans (List.length_filter_le _ _) (by rw [List.length_range];exact Nat.le_refl _)
theorem Qdx (w:Nat) (f:Nat->Nat->Bool):∀ h,(Qa8 h w f).length<=h*w
  | 0=>Nat.zero_le _
  | h+1=>by
    have:=Qdx w f h
    have:=QfI h w f
    rw [Qbm,List.length_append,Nat.succ_mul]
    omega
theorem cm_any {items:List PyData} {wg:DG} {wt:DT} {we:DE} {δ:Sts} {Q:PyData->Prop} (G:PyData->PyData)
    (h:∀ d∈items,∀ (k1:Prop) (k2:PyData->Prop),k1->k2 (G d)->wg d δ fun δ4=>wt δ4 (fun b=>if b=true then we δ4 k2 XF else k1) XF) (q:∀ p:Nat->Bool,Q (.list (((List.range items.length).filter p).map fun i=>G (items.getD i .none)))):QeX items wg wt we δ Q:=by
  unfold QeX
  refine ⟨fun i acc=>∃ p:Nat->Bool,acc=((List.range i).filter p).map fun i=>G (items.getD i .none),⟨fun _=>false,rfl⟩,fun i acc d hd ⟨p,e⟩=>?_,fun acc ⟨p,e⟩=>by rw [e];exact q p⟩
  have ed:items.getD i .none=d:=by rw [List.getD_eq_getElem?_getD,hd];rfl
  have same:∀ b,(List.range i).filter (fun n=>if n=i then b else p n)=(List.range i).filter p:=fun b=>List.filter_congr fun n hn=>if_neg (by have:=List.mem_range.mp hn;omega)
  refine h d (List.mem_of_getElem? hd) _ _ ⟨fun n=>if n=i then false else p n,?_⟩ ⟨fun n=>if n=i then true else p n,?_⟩
  · rw [List.range_succ,List.filter_append,same,List.filter_cons_of_neg (by simp),List.filter_nil,List.append_nil];exact e
  · rw [List.range_succ,List.filter_append,same,List.filter_cons_of_pos (by simp),List.filter_nil,List.map_append,<- e]
    show acc++[G d]=acc++[G (items.getD i .none)]
    rw [ed]
def tN (ns:List Int):PyData:=.tuple (ns.map PyData.int)
theorem QjE (ns:List Int):(tN ns).depth<=1:=by
  show PyData.depthAll (ns.map PyData.int)+1<=1
  have:=Qa5 (n:=0) (ds:=ns.map PyData.int) fun d hd=>by obtain ⟨p,_,rfl⟩:=List.mem_map.mp hd;exact Nat.le_refl _
  omega
theorem Qdw:∀ (L M:List Int),Qcd (L.map PyData.int) (M.map PyData.int)=true
  | [],[]=>rfl
  | [],_::_=>rfl
  | _::_,[]=>rfl
  | _::L,_::M=>by show (true&&Qcd (L.map PyData.int) (M.map PyData.int))=true;rw [Qdw L M];rfl
end Rk
namespace L2
open PySem PySem.Spec PyProof.Rows Zt _root_.Rd _root_.Rk Dl Rt
section
variable {X:Cx}
theorem Qeg:∀ {L:List (List Int×Addr)} {its:List Value},Vals (L.map fun p=>V.ref p.2) its->its=L.map fun p=>Value.ref p.2
  | [],_,.nil=>rfl
  | p::L,_,.cons r rs=>by
    cases r
    rw [Qeg rs];rfl
theorem Qeq:∀ (L:List (List Int×Addr)),Vals (L.map fun p=>V.ref p.2) (L.map fun p=>Value.ref p.2)
  | []=>.nil
  | p::L=>.cons rfl (Qeq L)
theorem Qc3 {prog:Program} {w:World}:∀ {r:List Int} {its:List Value},IntsAre its r->ItemsAre (intKind prog w) r its
  | _,_,.nil=>.nil
  | _,_,.cons n t h=>.cons (intKind_is _ _ _ _) (Qc3 h)
theorem key_of {pins:List (Addr×Obj)} {s:Shared} {σ:L2.St} {H:Hp} (I:Inv X pins σ H s) {r:List Int} {b:Addr} (h:H b=some (.tup (r.map V.int))):IsTupleKey (intKind X.prog X.w) s.heap r b:=by
  obtain ⟨hz,its,rv,o,ho,hc,n,hd⟩:=I.hok b _ h
  exact ⟨o,its.toArray,n,ho,hc,hd,by simpa using Qc3 (Qgz rv)⟩
theorem range_getD {α:Type} (L:List α) (d:α):(List.range L.length).map (fun i=>L.getD i d)=L:=by
  apply List.ext_getElem?
  intro i
  rw [List.getElem?_map]
  by_cases h:i<L.length
  · rw [List.getElem?_range h,List.getElem?_eq_getElem h]
    show some (L.getD i d)=_
    rw [List.getD_eq_getElem?_getD,List.getElem?_eq_getElem h];rfl
  · rw [List.getElem?_eq_none (by simpa using h),List.getElem?_eq_none (by omega)];rfl
def rSortT (prog:Program) (w:World):List V->Hp->VK->Prop:=fun xs H Q=>∃ (a:Addr) (ps:List (List Int×Addr)),xs=[.ref a]/\ps.length<=300/\H a=some (.ext (setP prog w a ps (Qa6 w)))/\(∀ p∈ps,H p.2=some (.tup (p.1.map V.int))) /\
  ∀ (t:Addr) (ys:List V) (es:List PyData) (H2:Hp),Same H H2->H t=none->H2 t=some (.lst ys)->Dats H2 ys es->es.Perm (ps.map fun p=>tN p.1)->es.Pairwise (fun a b=>ltD b a=false)->(∀ y∈ys,y∈ps.map fun p=>V.ref p.2)->Q (.ref t) H2
theorem QeH {H:Hp}:∀ {ps:List (List Int×Addr)},(∀ p∈ps,H p.2=some (.tup (p.1.map V.int)))->Dats H (ps.map fun p=>V.ref p.2) (ps.map fun p=>tN p.1)
  | [],_=>.nil
  | p::ps,h=>.cons (Dat.tup (h p (.head _)) (QeI p.1)) (QeH fun q hq=>h q (.tail _ hq))
theorem QdG (rs:List (List Int)):Sortable (rs.map tN):=⟨fun x hx y hy=>by
  obtain ⟨s,_,rfl⟩:=List.mem_map.mp hx
  obtain ⟨t,_,rfl⟩:=List.mem_map.mp hy
  exact Qdw s t,fun x hx=>by
  obtain ⟨s,_,rfl⟩:=List.mem_map.mp hx
  exact Nat.le_trans (QjE s) (by decide)⟩
theorem call_sortT (hc:X.calm=true) (hu:X.A.units+60<cLine):CallR X (.builtin "sorted") (rSortT X.prog X.w):=by
  intro pins s σ H xs us Q I r h
  obtain ⟨a,ps,rfl,h300,ha,hps,q⟩:=h
  obtain ⟨u,rfl,ru⟩:=QcC r
  cases ru
  obtain ⟨hS,_⟩:=I.hok a _ ha
  refine Qe9 (I.ok.hd hc) (by omega) hS fun h' tk ps' pp kp P E' hP=>?_
  have hps':∀ p∈ps',H p.2=some (.tup (p.1.map V.int)):=fun p hp=>hps p (pp.mem_iff.mp hp)
  refine QgP hu I (Qeq ps') (by rw [List.length_map,pp.length_eq];exact Nat.le_of_lt (Rk.lt_line (by omega))) (QeH hps') (by have:=QdG (ps'.map (·.1));rw [List.map_map] at this;exact this) (fun t ys es H2 s2 n2 e2 dt pe pw hy=>?_) h' tk kp P E' hP
  exact q t ys es H2 s2 n2 e2 dt (pe.trans (pp.map _)) pw fun y hy'=>(pp.map _).mem_iff.mp (hy y hy')
end
end L2
namespace Dl
open PySem PySem.Spec PyProof.Rows L2 _root_.Rd Rk Zt Rt
section
variable {X:Cx} {E:XK}
theorem Qdq:∀ L:List Int,okKs (L.map PyData.int)=true
  | []=>rfl
  | _::L=>by show (true&&okKs (L.map PyData.int))=true;rw [Qdq L];rfl
theorem Qga {A:Addr->Prop} {H:Hp}:∀ {rows:List (List Int)} {xs:List V},DAs A H xs (rows.map tN)->∃ L:List (List Int×Addr),xs=L.map (fun p=>V.ref p.2)/\rows=L.map (·.1)/\∀ p∈L,H p.2=some (.tup (p.1.map V.int))
  | [],_,.nil=>⟨[],rfl,rfl,fun _ h=>nomatch h⟩
  | r::rows,_,.cons q qs=>by
    obtain ⟨L,rfl,rfl,hL⟩:=Qga qs
    have q:DA A H _ (.tuple (r.map PyData.int)):=q
    cases q with
    | @tup l ys _ na e qq=>
      rw [QcN qq] at e
      refine ⟨(r,l)::L,rfl,rfl,fun p hp=>?_⟩
      rcases List.mem_cons.mp hp with z | z
      · rw [z];exact e
      · exact hL p z
end
end Dl
namespace Zt
open PySem
section
variable {prog:Program} {w:World} {A:Around} {E:Value->Shared->Prop} {s:Shared}
theorem call_setU {l:Addr} {items:Array Value} {n:Nat} {f:Nat->List Int×Addr} {Q:Value->Shared->Prop} (hh:A.handled=none) (hu:A.units+60<cLine) (hl:s.heap.IsTuple l items) (hn:items.size=n) (h300:n<=300) (hval:∀ (i:Nat) (v:Value),items[i]? = some v->v=Value.ref (f i).2) (hK:∀ j,j<n->IsTupleKey (intKind prog w) s.heap (f j).1 (f j).2)
    (h:∀ (h':Heap) (tk:Nat),TSt prog w h' s.heap.objs.size ((List.range n).map f) (Qa6 w)->(∀ b o,b<s.heap.objs.size->s.heap.get? b=some o->h'.get? b=some o)->Q (.ref s.heap.objs.size) { s with heap:=h',toks:=tk }):wpAny (model prog w) A (call (.type "set") [.ref l]) Q E s:=by
  obtain ⟨c,tl,hmro⟩:=F.called_set.mro
  have hmade:=F.called_set.made;have hsub:=F.called_set.sub
  refine wpAny_call (codeAny_of_tree (by
    show wpAny _ _ (callAny (.type "set") _) _ _ _
    refine wpAny_pure ⟨Code.quiet_builtin _ (by decide +kernel),codeAny_builtin F.entry_type_call ?_⟩
    rw [Around.under_plain (weight_type_call_type "set" [.ref l] []) rfl];have h1:=F.called_set.notType
    have h2:=F.called_set.canCreate;have hct:=F.typeCall_set_1 (.ref l)
    repeat (any_goals (first | assumption | wp_step))
    refine codeAny_mono (QkJ (.ref l) (E:=E) (Q:=fun obj s₁=>obj=.ref s.heap.objs.size/\s₁={ s with heap:=s.heap.push { cls:=.type "set",dict:=none,data:=.set #[] 0 (.fresh 0 0 (Qa6 w)) } }) ⟨rfl,rfl⟩) fun r s₁ hr=>?_
    cases r with
    | error e=>exact hr
    | ok fl=>
      cases fl with
      | ret obj=>
        obtain ⟨rfl,rfl⟩:=hr
        have hS:(s.heap.push { cls:=.type "set",dict:=none,data:=.set #[] 0 (.fresh 0 0 (Qa6 w)) }).get? s.heap.objs.size=some { cls:=.type "set",dict:=none,data:=.set #[] 0 (.fresh 0 0 (Qa6 w)) }:=Heap.get?_push_size _ rfl
        have hT:Shared.TypeIs { s with heap:=s.heap.push { cls:=.type "set",dict:=none,data:=.set #[] 0 (.fresh 0 0 (Qa6 w)) } } (.ref s.heap.objs.size) "set" := ⟨_,hS,rfl⟩
        have hli:=F.called_set.init.lookup;have hbi:=F.called_set.init.bind (.ref s.heap.objs.size)
        repeat (any_goals (first | assumption | wp_step))
        refine codeAny_mono (codeAny_call_builtin (R:=wants (fun r s₂=>r=.none/\∃ h' tk,s₂={ s with heap:=h',toks:=tk }/\TSt prog w h' s.heap.objs.size ((List.range n).map f) (Qa6 w)/\(∀ b o,b<s.heap.objs.size->s.heap.get? b=some o->h'.get? b=some o)) E) F.called_set.init.plain F.entry_set_init (check_set_init_1 hT ?_)) fun r₂ s₂ hr₂=>?_
        · obtain ⟨⟨ocls,odict,odata,oslots⟩,hol,hcl,nl,hdl⟩:=hl
          simp only at hcl hdl
          subst hcl hdl
          have hol':(s.heap.push { cls:=.type "set",dict:=none,data:=.set #[] 0 (.fresh 0 0 (Qa6 w)) }).get? l=some { cls:=.type "tuple",dict:=odict,data:=.seq items nl,slots:=oslots }:=Heap.get?_push_of_some _ hol
          have hsls:=F.sub_tuple_set;have hslf:=F.sub_tuple_frozenset
          have hne:(Value.type "tuple" == Value.type "dict")=false:=by decide
          have hl1:(s.heap.push { cls:=.type "set",dict:=none,data:=.set #[] 0 (.fresh 0 0 (Qa6 w)) }).IsTuple l items:=⟨_,hol',rfl,nl,rfl⟩
          unfold Builtin.«set.__init__» noKeywords Builtin.Frozenset.updateFrom
          generalize hPI:pyIter=PI;wp_walk;subst hPI
          refine wpAny_pyIter_tuple hl1 (wpAny_bind (wpAny_runValue ?_))
          have hlS:l<s.heap.objs.size:=Heap.lt_size hol
          have hneI:l≠(s.heap.push { cls:=.type "set",dict:=none,data:=.set #[] 0 (.fresh 0 0 (Qa6 w)) }).objs.size:=by rw [Heap.size_push];exact Nat.ne_of_lt (Nat.lt_succ_of_lt hlS)
          have hSf:s.heap.objs.size∉[(s.heap.push { cls:=.type "set",dict:=none,data:=.set #[] 0 (.fresh 0 0 (Qa6 w)) }).objs.size,l]:=by
            rw [Heap.size_push];simp only [List.mem_cons,List.not_mem_nil,or_false,not_or];exact ⟨Nat.ne_of_lt (Nat.lt_succ_self _),Nat.ne_of_gt hlS⟩
          have w0:=Walks.tuple (prog:=prog) (w:=w) (A:=A.in1.in1.in1) (by simp [hh]) (s.heap.push { cls:=.type "set",dict:=none,data:=.set #[] 0 (.fresh 0 0 (Qa6 w)) }).objs.size l hneI items
          rw [hn] at w0
          have klt:∀ j,j<n->(f j).2<s.heap.objs.size:=fun j hj=>by
            obtain ⟨o',it,nn,ho',r⟩:=hK j hj
            exact Heap.lt_size ho'
          refine QgG (led:=Qa6 w) w0 s.heap.objs.size hSf (by show A.units+1+1+1<cLine;omega) f (fun i v hv=>hval i v hv) (fun i hi hm=>?hW) h300 n 0 _ (by omega) (Nat.zero_le _) ⟨⟨_,Heap.get?_push_size _ rfl,rfl,rfl⟩,hl1.push _⟩ (fun j hj=>Qf0 (hK j hj) fun o e=>Heap.get?_push_of_some _ (Heap.get?_push_of_some _ e)) ?hS0 ?hR
          case hW=>
            have:=klt i hi
            rw [List.mem_singleton.mp hm,Heap.size_push] at this
            exact absurd this (Nat.not_lt.mpr (Nat.le_succ _))
          case hS0=>
            refine ⟨#[],0,SetTable.fresh 0 0 (Qa6 w),[],⟨⟨⟨_,Heap.get?_push_of_some _ hS,⟨rfl,rfl,rfl⟩,rfl⟩,by cases Qa6 w<;>rfl⟩,QkD _,rfl,(fun p hp=>nomatch hp),List.nodup_nil,(fun i j e h1=>by simp [SetTable.fresh] at h1),.inl rfl,by show 0*5<7*3;decide⟩,rfl,Nat.zero_le _,(fun p hp=>nomatch hp),(fun y hy=>nomatch hy)⟩
          case hR=>
            intro h' tk hk hS'
            refine wpAny_pure ?_
            refine wpAny_pure ⟨rfl,h',tk,rfl,hS',fun b o hb e=>?_⟩
            have hb2:b≠(s.heap.push { cls:=.type "set",dict:=none,data:=.set #[] 0 (.fresh 0 0 (Qa6 w)) }).objs.size:=by rw [Heap.size_push];exact Nat.ne_of_lt (Nat.lt_succ_of_lt hb)
            exact hk b o (by simp only [List.mem_cons,List.not_mem_nil,or_false,not_or];exact ⟨Nat.ne_of_lt hb,hb2⟩) (Heap.get?_push_of_some _ (Heap.get?_push_of_some _ e))
        · cases r₂ with
          | error e=>exact hr₂
          | ok fl₂=>
            cases fl₂ with
            | ret r=>
              obtain ⟨rfl,h',tk,rfl,hS',hk'⟩:=hr₂
              repeat (any_goals (first | assumption | wp_step))
              exact h _ _ hS' hk'
            | _=>exact hr₂
      | _=>exact hr))
end
end Zt
namespace L2
open PySem PySem.Spec PyProof.Rows Zt _root_.Rd _root_.Rk Dl Rt
section
variable {X:Cx}
def rSetU (prog:Program) (w:World) (K:PySem.W.Frag):List V->Hp->VK->Prop:=fun xs H Q=>∃ (l:Addr) (L:List (List Int×Addr)),xs=[.ref l]/\SqT K H l (L.map fun p=>V.ref p.2)/\(∀ p∈L,H p.2=some (.tup (p.1.map V.int)))/\L.length<=300 /\
  ∀ (t:Addr) (H2:Hp) (ps:List (List Int×Addr)),(ps.map (·.1)).Nodup->ps.length<=L.length->(∀ p∈ps,p∈L)->(∀ p∈L,p.1∈ps.map (·.1))->Same H H2->H t=none->H2 t=some (.ext (setP prog w t ps (Qa6 w)))->Q (.ref t) H2
theorem call_setU (hc:X.calm=true) (hu:X.A.units+60<cLine):CallR X (.type "set") (rSetU X.prog X.w X.K):=by
  intro pins s σ H xs us Q I r h
  obtain ⟨p,L,rfl,hp,hL,h300,q⟩:=h
  obtain ⟨u,rfl,ru⟩:=QcC r
  cases ru
  obtain ⟨its,rv,pl,hz⟩:=I.tuple hp
  obtain rfl:=Qeg rv
  have hget:∀ i,i<L.length->L.getD i ([],0)∈L:=fun i hi=>by
    rw [List.getD_eq_getElem?_getD,List.getElem?_eq_getElem hi]
    exact List.getElem_mem hi
  refine Zt.call_setU (items:=(L.map fun p=>Value.ref p.2).toArray) (n:=L.length) (f:=fun i=>L.getD i ([],0)) (I.ok.hd hc) hu (let ⟨o,h1,h2,n,h3⟩:=pl;⟨o,h1,h2,n,h3⟩) (by rw [List.size_toArray,List.length_map]) h300 (fun i v hv=>?_) (fun j hj=>key_of I (hL _ (hget j hj))) fun h' tk hS hk=>?_
  · rw [List.getElem?_toArray,List.getElem?_map] at hv
    cases e:L[i]? with
    | none=>rw [e] at hv;cases hv
    | some y=>
      rw [e] at hv
      cases hv
      show _=Value.ref (L.getD i ([],0)).2
      rw [List.getD_eq_getElem?_getD,e];rfl
  · rw [range_getD] at hS
    obtain ⟨es,ep,t,ps,x,hl,hn,hsub,hall⟩:=hS.ex
    have hf:H s.heap.objs.size=none:=I.hok.fresh (Nat.le_refl _)
    refine ⟨.ref s.heap.objs.size,upd H s.heap.objs.size (.ext (setP X.prog X.w s.heap.objs.size ps (Qa6 X.w))),I.laid (t':=tk) (fun b x e=>hk b x (Heap.lt_size e) e) (Nat.le_refl _) ⟨⟨es,ep,t,x.at_,x.tab,hl,x.ent⟩,?_,fun h1 h2 a b=>?_⟩,rfl,q _ _ ps x.nd hn hsub hall (Qae hf) hf Qad⟩
    · obtain ⟨o,ho,_⟩:=x.at_.at_
      exact ⟨o,ho⟩
    · obtain ⟨es,ep,t,sa,r⟩:=a
      exact ⟨es,ep,t,sa.at' b,r⟩
end
end L2
namespace Dl
open PySem PySem.Spec PyProof.Rows L2 _root_.Rd Rk Zt Rt
section
variable {X:Cx} {E:XK}
@[irreducible] def Qdj:PyData->(PyData->Prop)->Prop
  | .tuple ds,Q=>∃ rows:List (List Int),ds=rows.map tN/\rows.length<=300/\∀ ms:List (List Int),ms.Nodup->(∀ x,x∈ms↔x∈rows)->(ms.map tN).Pairwise (fun a b=>ltD b a=false)->Q (.list (ms.map tN))
  | _,_=>False
theorem QiK {Q:PyData->Prop} (rows:List (List Int)) (hl:rows.length<=300) (h:∀ ms:List (List Int),ms.Nodup->(∀ x,x∈ms↔x∈rows)->(ms.map tN).Pairwise (fun a b=>ltD b a=false)->Q (.list (ms.map tN))):Qdj (.tuple (rows.map tN)) Q:=by
  unfold Qdj
  exact ⟨rows,rfl,hl,h⟩
def QeL (w:DE):DE:=fun δ Q EX=>w δ (fun d=>Qdj d Q) EX
theorem Qfg {e:Expr} {w:DE} {p p2 pos pos2:Pos} (hu:X.A.units+60<cLine) (hg:Gl X "sorted") (hm:X.mg "sorted" = none) (hg2:Gl X "set") (hm2:X.mg "set" = none) (h:PE X e (tX .P X.K E w)) (hc:X.calm=true) (hs:notStar e=true):PE X (.Call (.Name "sorted" p) [.Call (.Name "set" p2) [e] [] pos2] [] pos) (tX .F X.K E (QeL w)):=by
  refine PE.imp (QbF (L2.call_sortT hc hu) hg hm Qdb (pa_c (Qbf (L2.call_setU hc hu) hg2 hm2 bt_set (pa_c h Qaw hs) (he:=QaQ hs)) Qaw)) fun σ H Q ⟨F,δ,R,EX,rel,hw,k,o⟩=>?_
  refine ⟨F,δ,_,EX,rel,hw,fun d hd v H1 rel1 kp1 vk=>?_,o⟩
  have hd:Qdj d _:=hd
  unfold Qdj at hd
  split at hd
  · obtain ⟨rows,rfl,h300,hR⟩:=hd
    obtain ⟨l,xs,rfl,e,q⟩:=DP.tuple vk
    obtain ⟨L,rfl,rfl,hL⟩:=Qga q
    rw [List.length_map] at h300
    refine ⟨l,L,rfl,SqT.of e,hL,h300,fun t H2 ps nd hn hsub hall s2 n2 e2=>⟨t,ps,rfl,by omega,e2,fun p hp=>s2 _ _ (hL p (hsub p hp)),fun t3 ys es H3 s3 n3 e3 dt pe pw hy=>?_⟩⟩
    have s13:=s2.trans s3
    have n13:H1 t3=none:=by
      cases z:H1 t3 with
      | none=>rfl
      | some o=>rw [s2 _ _ z] at n3;cases n3
    obtain ⟨Ms,pM,rfl⟩:=Qcy tN (T:=ps.map (·.1)) pe (by rw [List.map_map];rfl)
    refine k _ (hR Ms (pM.nodup_iff.mpr nd) (fun x=>?_) pw) _ H3 (rel1.same s13) (kp1.trans (Kp.same rel1 s13)) ?_
    · rw [pM.mem_iff]
      constructor
      · intro hx
        obtain ⟨p,hp,rfl⟩:=List.mem_map.mp hx
        exact List.mem_map.mpr ⟨p,hsub p hp,rfl⟩
      · intro hx
        obtain ⟨p,hp,rfl⟩:=List.mem_map.mp hx
        exact hall p hp
    · refine ⟨.lst (fun z=>by obtain ⟨xs,e⟩:=rel1.isl z;rw [n13] at e;cases e) e3 (QeK dt (fun y hy'=>?_) fun y d e _=>Qf8 d e y),Qbc (Qby kp1 n13)⟩
      obtain ⟨p,hp,rfl⟩:=List.mem_map.mp (hy y hy')
      have hp1:=hL p (hsub p hp)
      obtain ⟨d,hd,da⟩:=das_at q (List.mem_map.mpr ⟨p,hsub p hp,rfl⟩)
      obtain ⟨r,_,rfl⟩:=List.mem_map.mp hd
      exact ⟨tN r,da.same s13,QbH r,Qcn _ (Qdq r),Qid _ _ (QbH r) (da.same s13)⟩
  · exact hd.elim
theorem Qgp {e:Expr} {w:DE} {p p2 pos pos2:Pos} (hu:X.A.units+60<cLine) (hg:Gl X "sorted") (hm:X.mg "sorted" = none) (hg2:Gl X "set") (hm2:X.mg "set" = none) (h:QE .P X E e w) (hc:X.calm=true:=by rfl) (hs:notStar e=true:=by rfl):QE .F X E (.Call (.Name "sorted" p) [.Call (.Name "set" p2) [e] [] pos2] [] pos) (QeL w):=⟨Qfg hu hg hm hg2 hm2 h.h hc hs⟩
end
end Dl
namespace Dl
open PySem PySem.Spec PyProof.Rows L2 _root_.Rd Rk
section
variable {X:Cx} {E:XK} {i:Nat} {st:Stmt} {we wa wb:DE}
def dSwap (i:Nat) (wa wb we:DE):DS:=fun D δ=>we δ (fun d=>match d with
  | .tuple [u,v]=>match δ[i]? with
    | some (.own ds)=>wa δ (fun z=>match z with
      | .int k=>∃ j,ixN ds.length k=some j/\wb (δ.set i (.own (ds.set j u))) (fun z2=>match z2 with
        | .int k2=>∃ j2,ixN (ds.set j u).length k2=some j2/\D.nx ((δ.set i (.own (ds.set j u))).set i (.own ((ds.set j u).set j2 v)))
        | _=>False) D.ex
      | _=>False) D.ex
    | _=>False
  | _=>False) D.ex
theorem QiY (h:PS X st (tAsg (tX .D X.K E we) (gTup X.K 2 (QjA (gSub (tVar i) (tX .P X.K E wa) QkO) (QjA (gSub (tVar i) (tX .P X.K E wb) QkO) gNil))))):PS X st (tS X.K E (dSwap i wa wb we)):=by
  refine PS.imp h fun D σ H ⟨F,δ,DD,rel,hw,en⟩=>?_
  refine ⟨F,δ,_,DD.ex,rel,hw,fun d hd v H1 rel1 kp1 vk=>?_,en.ex⟩
  split at hd
  · rename_i u0 v0
    split at hd
    · rename_i ds hds
      obtain ⟨x,hx⟩:=rel1.lt hds
      obtain ⟨l,xs,rfl,e,q,f⟩:=rel1.sl i _ _ hx hds
      have np:=rel1.own_pot hds hx
      have vk:DA (Av F σ δ) H1 v (.tuple [u0,v0]):=vk
      cases vk with
      | @tup ta tvs _ na te tq=>
        cases tq with
        | @cons y1 _ _ _ q1 tq=>cases tq with
          | @cons y2 _ _ _ q2 tq=>
            cases tq
            refine ⟨ta,_,rfl,SqT.of te,rfl,y1,_,rfl,.ref l,hx,F,δ,_,DD.ex,rel1,hd,fun z hz y H2 rel2 kp2 yk=>?_,en.ex⟩
            cases z<;>first | exact (show False from hz).elim | skip
            obtain ⟨j,hj,hn⟩:=hz
            refine ⟨l,xs,_,j,rfl,DP.int yk,kp2.1 _ _ np e,by rw [q.length];exact hj,?_⟩
            obtain ⟨r2,st2⟩:=rel2.mut hds hx ((kp2.das q).set (kp2.da q1) j)
            have lt:i < δ.length:=(List.getElem?_eq_some_iff.mp hds).1
            have ge:(List.set δ i (Sl.own (ds.set j u0)))[i]? = some (.own (ds.set j u0)):=by rw [List.getElem?_set_self lt]
            have hl:Av F σ δ l:=.inr ⟨i,hx,.inr ⟨ds,hds⟩⟩
            have av:∀ a,Av F σ (List.set δ i (Sl.own (ds.set j u0))) a->Av F σ δ a:=fun a z=>by
              rcases z with z | ⟨j',h1,h2⟩
              · exact .inl z
              · by_cases z:j'=i
                · subst z;exact .inr ⟨j',h1,.inr ⟨ds,hds⟩⟩
                · rw [List.getElem?_set_ne (Ne.symm z)] at h2
                  exact .inr ⟨j',h1,h2⟩
            have q2':DA (Av F σ (List.set δ i (Sl.own (ds.set j u0)))) (upd H2 l (.lst (xs.set j y1))) y2 v0:=(kp2.da q2).mv (fun a o n e=>by rw [Qai (fun z=>n (by rw [z];exact hl))];exact e) fun a z=>.inl (av a z)
            refine ⟨y2,[],rfl,.ref l,hx,F,_,_,DD.ex,r2,hn,fun z2 hz2 y' H3 rel3 kp3 yk3=>?_,en.ex⟩
            cases z2<;>first | exact (show False from hz2).elim | skip
            obtain ⟨j2,hj2,hn2⟩:=hz2
            obtain ⟨l',xs',e0',e',qq,f'⟩:=rel3.sl i _ _ hx ge
            cases e0'
            refine ⟨l,xs',_,j2,rfl,DP.int yk3,e',by rw [qq.length];exact hj2,rfl,?_⟩
            obtain ⟨r3,st3⟩:=rel3.mut ge hx (qq.set (kp3.da q2') j2)
            exact en.nx.go _ hn2 _ _ r3 (((((Stp.kp kp1).trans (Stp.kp kp2)).trans st2).trans (Stp.kp kp3)).trans st3)
    · exact hd.elim
  · exact hd.elim
theorem QkS {y:Str} {e a b:Expr} {k:Nat} {pos p1 p2 n1 n2 tp:Pos} (i:Nat) (he:QE .D X E e we) (ha:QE .P X E a wa) (hb:QE .P X E b wb) (hc:X.calm=true:=by rfl) (hN:X.N[i]? = some y:=by rfl) (hv:Vis X.env.scope y:=by first | exact Or.inl rfl | exact Or.inr (Or.inl rfl) | exact Or.inr (Or.inr rfl)) (hd:(y == ("__debug__" : Str))=false:=by decide) (hcd:(y == ("__classdict__" : Str))=false:=by decide)
    (h1:∀ v,assign (.Subscript (.Name y n1) a p1) X.env v=(do
      let ov <- holding [v] (eval (.Name y n1) X.env)
      let iv <- holding [v,ov] (eval a X.env)
      standAt p1
      holding [v,ov,iv] (setItem ov iv v)
      release [v,ov,iv] []):=by intro _;rfl)
    (h2:∀ v,assign (.Subscript (.Name y n2) b p2) X.env v=(do
      let ov <- holding [v] (eval (.Name y n2) X.env)
      let iv <- holding [v,ov] (eval b X.env)
      standAt p2
      holding [v,ov,iv] (setItem ov iv v)
      release [v,ov,iv] []):=by intro _;rfl)
    (hs:swapsWithSole [.Tuple [.Subscript (.Name y n1) a p1,.Subscript (.Name y n2) b p2] k tp] e pos.line X.env=pure false:=by rfl) (hw:swappedStores [.Tuple [.Subscript (.Name y n1) a p1,.Subscript (.Name y n2) b p2] k tp] e X.env=pure none:=by rfl)
    (g1:(assignEach [.Tuple [.Subscript (.Name y n1) a p1,.Subscript (.Name y n2) b p2] k tp] X.env).map (·.2)=[assign (.Tuple [.Subscript (.Name y n1) a p1,.Subscript (.Name y n2) b p2] k tp) X.env]:=by rfl)
    (g2:(assignEach [.Subscript (.Name y n1) a p1,.Subscript (.Name y n2) b p2] X.env).map (·.2)=assign (.Subscript (.Name y n1) a p1) X.env::(assignEach [.Subscript (.Name y n2) b p2] X.env).map (·.2):=by rfl) (g3:(assignEach [.Subscript (.Name y n2) b p2] X.env).map (·.2)=assign (.Subscript (.Name y n2) b p2) X.env::(assignEach [] X.env).map (·.2):=by rfl)
    (g4:(assignEach [.Subscript (.Name y n1) a p1,.Subscript (.Name y n2) b p2] X.env).length=2:=by rfl) (g5:(assignEach [.Subscript (.Name y n1) a p1,.Subscript (.Name y n2) b p2] X.env).findIdx? (·.1)=none:=by rfl) :
    QS X E (.Assign [.Tuple [.Subscript (.Name y n1) a p1,.Subscript (.Name y n2) b p2] k tp] e pos) (dSwap i wa wb we):=
  ⟨QiY (Qha he.h (Qj3 hc (QdR (Qhf (pv i hN hv hd hcd) ha.h QdK h1) (QdR (Qhf (pv i hN hv hd hcd) hb.h QdK h2) Qhe g3) g2) g4 g5) hs hw g1)⟩
end
end Dl
namespace Rk
open PySem PySem.Spec PyProof.Rows L2 _root_.Rd Dl Rt
theorem Ql1 {items:List PyData} {wg wg2:DG} {wt wt2:DT} {wi2:DI} {we:DE} {δ:Sts} {Q:PyData->Prop} (G:PyData->List PyData) (k:Nat) (hl:(items.flatMap G).length<=k)
    (h:∀ d∈items,∀ (acc:List PyData) (N:List PyData->Prop),acc.length+(G d).length<=k->N (acc++G d)->wg d δ fun δ4=>wt δ4 (fun b=>if b=true then wi2 δ4 (fun items2=>InR items2 wg2 wt2 we δ4 acc N) XF else N acc) XF) (q:Q (.list (items.flatMap G))) :
    Qgi items wg wt wi2 wg2 wt2 we δ Q:=by
  unfold Qgi
  refine ⟨fun i acc=>acc=(items.take i).flatMap G,by simp,fun i acc d hd e=>?_,fun acc e=>by rw [e,List.take_length];exact q⟩
  have e:acc=(items.take i).flatMap G:=e
  have hs:(items.take (i+1)).flatMap G=(items.take i).flatMap G++G d:=by
    rw [List.take_add_one,hd,List.flatMap_append]
    simp
  refine h d (List.mem_of_getElem? hd) acc _ ?_ (by show acc++G d=_;rw [hs,e])
  have h1:(items.flatMap G).length=((items.take (i+1)).flatMap G).length+((items.drop (i+1)).flatMap G).length:=by
    rw [<- List.length_append,<- List.flatMap_append,List.take_append_drop]
  rw [hs,<- e,List.length_append] at h1
  omega
end Rk
namespace Rk
open PySem PySem.Spec PyProof.Rows L2 _root_.Rd
def top (i:Nat):Stmt:=PySem.Challenge.pw_rooklands_k85_ways_that_lead.main.body.getD i (.Pass ⟨0,0,0,0⟩)
abbrev sWhole:Stmt:=top 1
abbrev sWithin:Stmt:=top 2
abbrev sOrder:Stmt:=top 4
abbrev sPicked:Stmt:=top 5
abbrev sWay:Stmt:=top 7
abbrev lCellAt:Stmt:=top 9
abbrev lPot:Stmt:=top 10
abbrev lTake:Stmt:=top 11
abbrev lWhole:Stmt:=top 12
abbrev lBoard:Stmt:=top 13
abbrev lOrder:Stmt:=top 14
abbrev lIsO:Stmt:=top 15
abbrev lLed:Stmt:=top 16
abbrev lIsWay:Stmt:=top 17
abbrev lBent:Stmt:=top 18
abbrev sLaw:Stmt:=top 19
section
variable {P:Program} {w:World} {K:PySem.W.Frag} {mg:Str->Option Value} {base:Heap}
theorem QiJ:FnScope ["_law_script", "_law_k"] ["_law_script", "_law_k"] (Qaa lCellAt):=⟨rfl,rfl,rfl,by decide +kernel,rfl,by decide +kernel,by decide +kernel⟩
theorem Qhy {f:Addr} {fd:FuncData} (F:Fun K "_law_cell_at" "_law_cell_at" lCellAt f fd) (T:GlbA mg):FnOk P w K mg base CX0 1 f fd ["_law_script", "_law_k"] (Qb1 K):=by
  refine F.ok QiJ (fun vs H Q E h=>?_) (fun cdv A outer s H vs Q E hr h=>?_)
  · obtain ⟨a,ns,k,rfl,_⟩:=h
    rfl
  · obtain ⟨a,ns,n,rfl,hs,hl,h0,k⟩:=h
    refine ⟨_,QaM (QkY (Qfe op_lt (pv 1) (QbF Qba (by rfl) T.len Qbo (QaL (pv 0) Qaw)) (Qbh _)) (Qbx (Qcx (QiU Qd0 (pv 0) (pv 1) (fun _ _=>rfl)))) Qff) (Qbx (Qcx QaE)),?_⟩
    refine ⟨_,rfl,_,rfl,a,_,rfl,.inl hs,_,_,rfl,rfl,_,rfl,?_⟩
    refine ite2 (fun hlt=>?_) (fun _=>k 0)
    have hlt':n<(ns.map V.int).length:=of_decide_eq_true hlt
    rw [List.length_map] at hlt'
    obtain ⟨j,rfl⟩:=Int.eq_ofNat_of_zero_le h0
    have hj:j<ns.length:=by omega
    refine ⟨_,rfl,_,rfl,a,_,_,.int ns[j],rfl,rfl,hs,QaK ?_,k _⟩
    rw [List.getElem?_map,List.getElem?_eq_getElem hj];rfl
theorem Qgo:FnScope ["_law_cell", "_law_number", "_law_j", "_law_more"] ["_law_cell"] (Qaa lPot):=⟨rfl,rfl,rfl,by decide +kernel,rfl,by decide +kernel,by decide +kernel⟩
theorem ok_pot {f:Addr} {fd:FuncData} (F:Fun K "_law_pot" "_law_pot" lPot f fd) (T:GlbA mg):FnOk P w K mg base CX0 1 f fd ["_law_cell"] spPot:=by
  refine F.ok Qgo (fun vs H Q E h=>?_) (fun cdv A outer s H vs Q E hr h=>?_)
  · obtain ⟨c,rfl,_⟩:=h
    rfl
  · obtain ⟨c,rfl,k⟩:=h
    refine ⟨_,QaM (QkY (Qfe op_ge (pv 0) (Qbi Qj6 QaE QaE) (Qbh _)) (Qbx (Qcx (Qj4 (QaL (Qbi Qj5 (pv 0) (Qbi Qj6 QaE QaE)) Qaw)))) Qff)
      (QaM (Qb8 (i:=1) Qgo.nd rfl (Or.inl rfl) QaE)
      (QaM (Qj2 PassesOwn.never rfl (QcZ (by rfl) T.range (QaL QaE Qaw)) (QdS (i:=2) Qgo.nd rfl (Or.inl rfl))
        (QaM (Qb8 (i:=3) Qgo.nd rfl (Or.inl rfl) (Qbi Qex (Qbi Qew (Qbi Qdp (Qbi Qdp (Qbi Qex (pv 0) QaE) (Qbi Qew QaE (pv 2))) QaE) QaE) QaE))
        (QaM (Qb8 (i:=3) Qgo.nd rfl (Or.inl rfl) (Qbi Qex (Qbi Qdp (Qbi Qdp (Qbi Qew (pv 3) (pv 3)) (Qbi Qew QaE (pv 2))) QaE) QaE))
        (Qbx (Qb8 (i:=1) Qgo.nd rfl (Or.inl rfl) (Qbi Qdp (Qbi Qew (pv 1) QaE) (pv 3)))))))
      (Qbx (Qcx (Qj4 (QaL (pv 1) Qaw)))))),?_⟩
    refine ⟨_,rfl,_,_,rfl,rfl,⟨by decide,by decide,by decide⟩,_,_,rfl,rfl,_,rfl,?_⟩
    refine ite2 (fun _=>?_) (fun _=>?_)
    · exact ⟨_,rfl,_,_,rfl,rfl,⟨by decide,by decide,by decide⟩,_,_,rfl,rfl,by show 1<=sizeLine;decide,fun p hp=>k p _ hp⟩
    · refine ⟨64,rfl,by decide,by decide,Qh1 (n:=64) (fun i σ H2=>∃ n v u,σ=[some (.int c),some (.int n),v,u]/\H2=H) ⟨0,none,none,rfl,rfl⟩ ?_ ?_⟩
      · rintro i σ H2 hi ⟨n,v,u,rfl,rfl⟩
        have b1:=Qf6 ((c % 2147483629+7919*(0+(i:Int))+1)*48271) (m:=2147483647) (by decide)
        refine ⟨_,rfl,_,_,rfl,rfl,by show (0:Int)<2147483629;decide,_,rfl,_,_,rfl,rfl,.inl ⟨by decide,by decide⟩,_,_,rfl,rfl,_,_,rfl,rfl,_,_,rfl,rfl,.inr ⟨by decide,by decide⟩,_,_,rfl,rfl,by show (0:Int)<2147483647;decide,?_⟩
        refine ⟨_,rfl,_,rfl,_,_,rfl,rfl,.inl ⟨by omega,by omega⟩,_,rfl,_,_,rfl,rfl,.inl ⟨by decide,by decide⟩,_,_,rfl,rfl,_,_,rfl,rfl,_,_,rfl,rfl,by show (0:Int)<2147483587;decide,?_⟩
        exact ⟨_,rfl,_,_,rfl,rfl,.inr ⟨by decide,by decide⟩,_,rfl,_,_,rfl,rfl,_,_,_,rfl,rfl⟩
      · rintro σ H2 ⟨n,v,u,rfl,rfl⟩
        exact ⟨_,rfl,by show 1<=sizeLine;decide,fun p hp=>k p _ hp⟩
theorem QjU:FnScope ["_law_pot_here", "_law_far", "_law_found"] ["_law_pot_here", "_law_far"] (Qaa lTake):=⟨rfl,rfl,rfl,by decide +kernel,rfl,by decide +kernel,by decide +kernel⟩
theorem Qhs {f:Addr} {fd:FuncData} (F:Fun K "_law_take" "_law_take" lTake f fd) (T:GlbA mg):FnOk P w K mg base CX0 1 f fd ["_law_pot_here", "_law_far"] QdF:=by
  refine F.ok QjU (fun vs H Q E h=>?_) (fun cdv A outer s H vs Q E hr h=>?_)
  · obtain ⟨p,n,m,rfl,_⟩:=h
    rfl
  · obtain ⟨p,n,m,rfl,hp,h0,h1,k⟩:=h
    refine ⟨_,QaM (Qb8 (i:=2) QjU.nd rfl (Or.inl rfl) (Qbi Qex (QiU Qd0 (pv 0) QaE (fun _ _=>rfl)) (pv 1)))
      (QaM (Qha (Qbi Qjd (QiU Qd0 (pv 0) QaE (fun _ _=>rfl)) (pv 1)) (Qhf (pv 0) QaE QdK))
      (Qbx (Qcx (pv 2)))),?_⟩
    have b:=Qf6 n h0
    exact ⟨_,rfl,p,_,_,_,rfl,rfl,SqL.of hp,rfl,_,rfl,_,_,rfl,rfl,h0,_,rfl,p,_,_,_,rfl,rfl,SqL.of hp,rfl,_,rfl,_,_,rfl,rfl,⟨h0,h1⟩,_,rfl,p,_,_,_,rfl,rfl,hp,rfl,_,rfl,k _ _ b.1 b.2⟩
end
end Rk
namespace Rk
open PySem PySem.Spec PyProof.Rows L2 _root_.Rd
open Dl
open Rt
def QfG:Sp:=fun vs H Q _=>∃ p n m,vs=[.ref p,.int m]/\H p=some (.lst [.int n])/\1<=m/\m<=6/\∀ t (o:List Int) H' n',KX p H H'->H' p=some (.lst [.int n'])->t≠p->H' t=some (.tup (o.map V.int))->o.Perm (QaT m.toNat)->Q (.ref t) H'
theorem QeF {α β:Type} (f:α->β):∀ (xs:List α) (k:Nat),(xs.map f).eraseIdx k=(xs.eraseIdx k).map f
  | [],k=>by cases k<;>rfl
  | x::xs,0=>rfl
  | x::xs,k+1=>by
    show f x::(xs.map f).eraseIdx k=f x::(xs.eraseIdx k).map f
    rw [QeF f xs k]
theorem Qdv {α:Type}:∀ (xs:List α) (k:Nat) (d:α),k<xs.length->(xs.getD k d::xs.eraseIdx k).Perm xs
  | [],k,d,h=>absurd h (Nat.not_lt_zero _)
  | x::xs,0,d,h=>List.Perm.refl _
  | x::xs,k+1,d,h=>by
    have ih:=Qdv xs k d (by simpa using h)
    show (xs.getD k d::x::xs.eraseIdx k).Perm (x::xs)
    exact (List.Perm.swap _ _ _).trans (ih.cons x)
theorem QkC {vs:List V} {H:Hp} {Q:VK} {E:XK} (h:Qe8 vs H Q E):QdF vs H Q E:=by
  obtain ⟨p,n,f,rfl,hp,h0,h1,k⟩:=h
  exact ⟨p,n,f,rfl,hp,h0,Int.le_trans (Int.le_of_lt h1) (by decide),fun r m r0 r1=>k r _ m KX.upd Qad r0 r1⟩
def Qfm:DF:=fun args R _=>∃ m:Int,args=[.pot,.v (.int m)]/\1<=m/\m<=6/\∀ o:List Int,o.Perm (QaT m.toNat)->R (tN o)
theorem Qlv {vs:List V} {H:Hp} {Q:VK} {Ex:XK} (h:toSp false Qfm vs H Q Ex):QfG vs H Q Ex:=by
  obtain ⟨A,pt,args,R,EX,dm,hp,q,⟨m,rfl,m1,m6,hR⟩,k,_⟩:=h
  cases q with
  | cons q1 q2=>cases q2 with
    | cons q2 q3=>
      cases q3
      obtain ⟨p,rfl,pp⟩:=q1
      cases q2
      obtain ⟨pA,n,e⟩:=hp p pp
      refine ⟨p,n,m,rfl,e,m1,m6,fun t o H' n' kx ep ne et po=>k _ (hR o po) _ _ ⟨fun b u nb eb=>kx b u (fun z=>nb (by rw [z];exact pp)) eb,fun z hz=>?_⟩ (.tup (fun z=>?_) et (QcJ o)) fun h=>by cases h⟩
      · by_cases y:z=p
        · rw [y];exact ⟨n',ep⟩
        · obtain ⟨_,n2,e'⟩:=hp z hz
          exact ⟨n2,kx z _ y e'⟩
      · obtain ⟨xs,e'⟩:=dm t z
        rw [kx t _ ne e'] at et
        cases et
section
variable {P:Program} {w:World} {K:PySem.W.Frag} {mg:Str->Option Value} {base:Heap}
theorem Qgu:(["_law_turn", "_law_left", "_law_pot_here"]:List Str).Nodup:=by decide +kernel
theorem Qeo:FnScope ["_law_pot_here", "_law_many", "_law_left"] ["_law_pot_here", "_law_many"] (Qaa lOrder):=⟨rfl,rfl,rfl,by decide +kernel,rfl,by decide +kernel,by decide +kernel⟩
theorem Qhu {f f1  : Addr} {fd fd1:FuncData} (F:Fun K "_law_order" "_law_order" lOrder f fd) (T:GlbA mg)
    (m1:mg "_law_take" = some (.ref f1)) (G1:FnOk P w K mg base CX0 1 f1 fd1 ["_law_pot_here", "_law_far"] Qe8) (b1:Binds K fd1 ["_law_pot_here", "_law_far"] []) (k1:PySem.W.keepIn K (.ref f1)=true) :
    FnOk P w K mg base CX0 2 f fd ["_law_pot_here", "_law_many"] QfG:=by
  refine F.ok Qeo (fun vs H Q E h=>?_) (fun cdv A outer s H vs Q E hr h=>?_)
  · obtain ⟨p,n,m,rfl,_⟩:=h
    rfl
  · obtain ⟨p,n,m,rfl,hp,hm1,hm6,k⟩:=h
    have un:=hr.units
    refine ⟨_,QaM (Qb8 (i:=2) Qeo.nd rfl (by first | exact Or.inl rfl | exact Or.inr rfl) (Qbf (Qda rfl) (by rfl) T.list Qea (QaL (QdT (by rfl) T.range (QaL (pv 1) Qaw)) Qaw)))
      (Qbx (Qcx (Qbf Qcf (by rfl) T.tuple QaB (QaL (QfO (M:=["_law_turn", "_law_left", "_law_pot_here"]) (cap:=[none,some 2,some 0]) (g:=(Qdd 0)) (tc:=Qe5) (te:=(tBM K "list" QjY (tVar 1) (QdC (QkF Qe8 [] E0 (QdC (tVar 2) (QdC (tCB (QkQ K) (QdC (tVar 1) tNil)) tNil))) tNil))) rfl (by rfl) (QcZ (by rfl) T.range (QaL (pv 1) Qaw)) (fun cl ex s3 H3 C=>⟨(QdS (i:=0) Qgu rfl (Or.inl rfl) (Or.inr rfl)),Qg8,(pe_bm PySem.F.plainAttrs_list PySem.F.slot_list_pop PySem.F.type_list_pop Qjo (pv 1) (QaL (QdU G1 (hr.mono (by decide)) (by rfl) m1 k1 b1 .nil pass0 (QaL (pv 2) (QaL (QbF Qba (by rfl) T.len Qbo (QaL (pv 1) Qaw)) Qaw))) Qaw))⟩)) Qaw)))),?_⟩
    refine ⟨_,rfl,m,rfl,fun r H1 s1 n1 e1=>⟨r,m,rfl,e1,by omega,by omega,fun l H2 s2 n2 e2=>?_⟩⟩
    have p2:=s2 _ _ (s1 _ _ hp)
    have nlp:l≠p:=Qjl (s1 _ _ hp) n2
    have el:H2 l=some (.lst ((QaT m.toNat).map V.int)):=by
      rw [e2]
      unfold QaT
      rw [List.map_map]
      rfl
    have nHl:H l=none:=s1.free n2
    refine ⟨_,rfl,m,rfl,by omega,by omega,fun pl hpl=>?_⟩
    have npl:pl≠p:=Qjl p2 hpl
    have npll:pl≠l:=Qjl el hpl
    refine QdX m.toNat (fun j H4=>∃ (n'':Int) (fs ls:List Int),H4 p=some (.lst [.int n''])/\H4 pl=some (.lst (fs.map V.int))/\H4 l=some (.lst (ls.map V.int))/\(fs++ls).Perm (QaT m.toNat)/\fs.length=j/\KX p H H4)
      ⟨n,[],QaT m.toNat,Qae hpl _ _ p2,Qad,Qae hpl _ _ el,List.Perm.refl _,rfl,KX.of ((s1.trans s2).trans (Qae hpl))⟩ (fun j H4 hj ⟨n'',fs,ls,p4,f4,l4,pm,lf,x4⟩=>?_) fun H4 ⟨n'',fs,ls,p4,f4,l4,pm,lf,x4⟩=>⟨by show _<=_;omega,?_⟩
    · have hlen:=pm.length_eq
      rw [List.length_append,QbE] at hlen
      refine ⟨by show j<_;omega,fun x H5 ⟨eH,ev⟩ kk hk=>?_⟩
      subst eH ev
      refine ⟨⟨rfl,rfl,trivial⟩,QlD ?_⟩
      refine ⟨_,rfl,.inl ⟨rfl,_,SqL.of l4⟩,_,rfl,_,rfl,l,_,rfl,.inl (SqL.of l4),p,n'',_,rfl,p4,by rw [List.length_map];omega,by rw [List.length_map];omega,fun r H6 n6 x6 p6 r0 r1=>?_⟩
      rw [List.length_map] at r1
      obtain ⟨k',rfl⟩:=Int.eq_ofNat_of_zero_le r0
      have hk':k'<ls.length:=by omega
      have l6:=x6 _ _ nlp l4
      have f6:=x6 _ _ npl f4
      refine ⟨l,ls.map V.int,_,k',.int (ls.getD k' 0),rfl,rfl,l6,by omega,by omega,?_,?_,?_⟩
      · rw [List.length_map]
        exact seqIndex_of (by omega) (by omega)
      · rw [List.getElem?_map,List.getD_eq_getElem?_getD,List.getElem?_eq_getElem hk']
        rfl
      · refine ⟨fs.map V.int,?_,?_,?_⟩
        · rw [Qai npll];exact f6
        · rw [List.length_map];exact QlF (by omega)
        · refine hk _ ⟨n6,fs++[ls.getD k' 0],ls.eraseIdx k',?_,?_,?_,?_,?_,?_⟩
          · rw [Qai npl.symm,Qai nlp.symm];exact p6
          · rw [Qad,List.map_append];rfl
          · rw [Qai npll.symm,Qad,QeF]
          · rw [List.append_assoc]
            exact ((Qdv ls k' 0 hk').append_left fs).trans pm
          · rw [List.length_append,lf];rfl
          · intro b o nb eb
            rw [Qai (Qao eb ((s1.trans s2).free hpl)),Qai (Qao eb nHl)]
            exact x6 b o nb (x4 b o nb eb)
    · have hlen:=pm.length_eq
      rw [List.length_append,QbE] at hlen
      have els:ls=[]:=List.length_eq_zero_iff.mp (by omega)
      rw [els,List.append_nil] at pm
      refine ⟨pl,_,rfl,.inl ⟨SqL.of f4,fun t ht=>?_⟩⟩
      have s5:=Qae (o:=.tup (fs.map V.int)) ht
      exact k t fs _ n'' (x4.trans (KX.of s5)) (s5 _ _ p4) (Qjl p4 ht) Qad pm
end
def toI5:PyData->Int
  | .int i=>i
  | _=>0
def srt5 (ns:List Int):List Int:=ns.mergeSort fun a b=>decide (a<=b)
theorem Qem (ns:List Int):(srt5 ns).Perm ns:=List.mergeSort_perm ns _
theorem QgM {ms ns:List Int} (p:ms.Perm ns) (s:ms.Pairwise (·<=·)):ms=srt5 ns:=by
  have h2:(srt5 ns).Pairwise (fun a b=>decide (a<=b)=true):=List.pairwise_mergeSort (fun a b c h1 h2=>by simp at *;omega) (fun a b=>by simp;omega) ns
  exact List.Perm.eq_of_pairwise (le:=fun a b=>a<=b) (fun a b _ _ h1 h2=>Int.le_antisymm h1 h2) s (h2.imp fun h=>of_decide_eq_true h) (p.trans (Qem ns).symm)
def rngL (n:Int):PyData:=.list ((List.range n.toNat).map fun (i:Nat)=>PyData.int i)
def isOr (n:Int):PyData->Bool
  | .tuple ds=>ds.all isW&&PyData.eqv (.list ((srt5 (ds.map toI5)).map PyData.int)) (rngL n)
  | _=>false
theorem Qd2 {ds:List PyData} (h:ds.all isW=true):ds=(ds.map toI5).map PyData.int:=by
  rw [List.map_map]
  conv=>lhs;rw [<- List.map_id ds]
  refine List.map_congr_left fun d hd=>?_
  have:=List.all_eq_true.mp h d hd
  cases d<;>first | rfl | cases this
theorem Qf5:∀ (ns ms:List Int),PyData.eqv (.list (ns.map PyData.int)) (.list (ms.map PyData.int))=true->ns=ms
  | [],[],_=>rfl
  | [],_::_,h=>by cases h
  | _::_,[],h=>by cases h
  | n::ns,m::ms,h=>by
    have h:=Bool.and_eq_true_iff.mp (show ((n == m)&&PyData.eqv (.list (ns.map PyData.int)) (.list (ms.map PyData.int)))=true from h)
    rw [eq_of_beq h.1,Qf5 ns ms h.2]
theorem Qhp {n:Int} {ds:List PyData} (h:isOr n (.tuple ds)=true):(ds.map toI5).Perm (QaT n.toNat)/\ds=(ds.map toI5).map PyData.int:=by
  have h:=Bool.and_eq_true_iff.mp (show (ds.all isW&&PyData.eqv (.list ((srt5 (ds.map toI5)).map PyData.int)) (rngL n))=true from h)
  have e:rngL n=.list ((QaT n.toNat).map PyData.int):=by unfold rngL QaT;rw [List.map_map];rfl
  rw [e] at h
  have:=Qf5 _ _ h.2
  exact ⟨by rw [<- this];exact (Qem _).symm,Qd2 h.1⟩
theorem Qhq {n:Int} (hn:0<=n) {ds:List PyData} (h:isOr n (.tuple ds)=true):(ds.length:Int)=n/\ds.all (fun d=>inW d 0 (n - 1))=true:=by
  obtain ⟨pm,e⟩:=Qhp h
  constructor
  · have:=pm.length_eq
    rw [List.length_map,QbE] at this
    omega
  · rw [e,List.all_map,List.all_eq_true]
    intro i hi
    have:=pm.mem_iff.mp hi
    unfold QaT at this
    obtain ⟨j,hj,rfl⟩:=List.mem_map.mp this
    have:=List.mem_range.mp hj
    show inW (.int (j:Int)) 0 (n - 1)=true
    exact inW_t (by omega) (by omega)
theorem Qkj (ns:List Int):(PyData.list (ns.map PyData.int)).depth<=50:=by
  show PyData.depthAll (ns.map PyData.int)+1<=50
  have:=Qa5 (n:=0) (ds:=ns.map PyData.int) fun d hd=>by obtain ⟨p,_,rfl⟩:=List.mem_map.mp hd;exact Nat.le_refl _
  omega
def sht (d:PyData):Prop:=∀ ds,d=.tuple ds->ds.length<=60
def orD:DF:=fun args R _=>∃ (n:Int) (d:PyData),args=[.v (.int n),.v d]/\0<=n/\n<=60/\sht d/\R (.bool (isOr n d))
def lorD:DF:=fun args R _=>∃ (n:Int) (d:PyData),args=[.v d,.v (.int n)]/\0<=n/\n<=60/\sht d/\R (.bool (isOr n d))
section
variable {P:Program} {w:World} {K:PySem.W.Frag} {mg:Str->Option Value} {base:Heap}
theorem QiH:FnScope ["thing"] ["thing"] (Qaa sWhole):=⟨rfl,rfl,rfl,by decide +kernel,rfl,by decide +kernel,by decide +kernel⟩
theorem Qje {f   : Addr} {fd  : FuncData} (F:Fun K "is_whole" "is_whole" sWhole f fd) (T:GlbA mg) :
    FnOk P w K mg base CX0 1 f fd ["thing"] (toSp false wholeD):=by
  refine okQ false F QiH (fun args R EX h=>?_) (fun cdv A outer s H E hr=>?_)
  · obtain ⟨d,rfl,_⟩:=h
    rfl
  · have hU:=Room.u60 hr
    have hI:=Room.i60 hr
    refine ⟨_,Qan (Qbe (QkW (Qah (Qb6 .int (by rfl) T.isinstance (qp 0) (by rfl) T.int Qkr)) (QkU (q_not (Qah (Qb6 .bool (by rfl) T.isinstance (qp 0) (by rfl) T.bool Qfz)))))),fun args R EX h=>?_⟩
    obtain ⟨d,rfl,hR⟩:=h
    cases d<;>exact hR
theorem QgY:FnScope ["_law_found"] ["_law_found"] (Qaa lWhole):=⟨rfl,rfl,rfl,by decide +kernel,rfl,by decide +kernel,by decide +kernel⟩
theorem Qhv {f   : Addr} {fd  : FuncData} (F:Fun K "_law_whole" "_law_whole" lWhole f fd) (T:GlbA mg) :
    FnOk P w K mg base CX0 1 f fd ["_law_found"] (toSp false wholeD):=by
  refine okQ false F QgY (fun args R EX h=>?_) (fun cdv A outer s H E hr=>?_)
  · obtain ⟨d,rfl,_⟩:=h
    rfl
  · have hU:=Room.u60 hr
    have hI:=Room.i60 hr
    refine ⟨_,Qan (Qbe (QkW (Qah (Qb6 .int (by rfl) T.isinstance (qp 0) (by rfl) T.int Qkr)) (QkU (q_not (Qah (Qb6 .bool (by rfl) T.isinstance (qp 0) (by rfl) T.bool Qfz)))))),fun args R EX h=>?_⟩
    obtain ⟨d,rfl,hR⟩:=h
    cases d<;>exact hR
theorem QgX:FnScope ["thing", "least", "most"] ["thing", "least", "most"] (Qaa sWithin):=⟨rfl,rfl,rfl,by decide +kernel,rfl,by decide +kernel,by decide +kernel⟩
theorem Qhr {f f1  : Addr} {fd fd1:FuncData} (F:Fun K "is_whole_within" "is_whole_within" sWithin f fd) (T:GlbA mg)
    (m1:mg "is_whole" = some (.ref f1)) (G1:FnOk P w K mg base CX0 1 f1 fd1 ["thing"] (toSp false wholeD)) (b1:Binds K fd1 ["thing"] []) (k1:PySem.W.keepIn K (.ref f1)=true) :
    FnOk P w K mg base CX0 2 f fd ["thing", "least", "most"] (toSp false Qe3):=by
  refine okQ false F QgX (fun args R EX h=>?_) (fun cdv A outer s H E hr=>?_)
  · obtain ⟨d,a,b,rfl,_⟩:=h
    rfl
  · have hU:=Room.u60 hr
    have hI:=Room.i60 hr
    refine ⟨_,Qan (Qbe (QkW (Qat (QaO G1 (hr.mono (by decide)) (by rfl) m1 k1 b1 QaI (qs_v (qv 0) Qas))) (QkU (Qak (q_ch op_le op_le (qp 1) (qp 0) (qp 2)))))),fun args R EX h=>?_⟩
    obtain ⟨d,a,b,rfl,hR⟩:=h
    refine ⟨d,rfl,?_⟩
    cases d with
    | int i=>exact iteT (and_if hR)
    | _=>exact hR
theorem Qjm:(["part", "many"]:List Str).Nodup:=by decide +kernel
theorem QkL:FnScope ["many", "thing"] ["many", "thing"] (Qaa sOrder):=⟨rfl,rfl,rfl,by decide +kernel,rfl,by decide +kernel,by decide +kernel⟩
theorem Qlz {f f1  : Addr} {fd fd1:FuncData} (F:Fun K "is_order" "is_order" sOrder f fd) (T:GlbA mg)
    (m1:mg "is_whole_within" = some (.ref f1)) (G1:FnOk P w K mg base CX0 2 f1 fd1 ["thing", "least", "most"] (toSp false Qe3)) (b1:Binds K fd1 ["thing", "least", "most"] []) (k1:PySem.W.keepIn K (.ref f1)=true) :
    FnOk P w K mg base CX0 3 f fd ["many", "thing"] (toSp false orD):=by
  refine okQ false F QkL (fun args R EX h=>?_) (fun cdv A outer s H E hr=>?_)
  · obtain ⟨n,d,rfl,_⟩:=h
    rfl
  · have hU:=Room.u60 hr
    have hI:=Room.i60 hr
    refine ⟨_,Qaf (Qes (q_pw (Qer (Qbu (Qbt (Qah (Qb6 .tuple (by rfl) T.isinstance (qp 1) (by rfl) T.tuple QaB)))) (QcU (Qb5 Qdo (Qgt hU) (Qah (QaC QaJ Qce (by rfl) T.len Qbo (qa_P (qp 1) Qac))) (qp 0) (Qbh _))))) (Qan (Qbe q_bl)) Qbv)
      (Qaf (Qes (Qbu (Qbt (Qah (QaC Qgh (Qkp rfl) (by rfl) T.all Qks (qa_P (Qah (Qeu ["part", "many"] [none,some 0] (Qg6 (qp 1)) (fun cl ex s3 H3 C=>⟨(Qbw 0 Qjm rfl (Or.inl rfl) (Or.inr rfl)),Qfb,(QaO G1 (hr.mono (by decide)) (by rfl) m1 k1 b1 QaI (qs_v (qv 0) (qs_v Qau (qs_v (Qak (QcY Qj5 od_ii0 (qp 1) (Qat Qau))) Qas))))⟩))) Qac))))) (Qan (Qbe q_bl)) Qbv)
      (Qan (QbR (QiP QfP (Qjh hU) (Qah (QaC Qdy Qij (by rfl) T.sorted Qdb (qa_P (qp 1) Qac))) (Qah (QfJ (by rfl) T.list (by rfl) T.range (qp 0))) (Qbh _))))),fun args R EX h=>?_⟩
    obtain ⟨n,d,rfl,n0,n60,hs,hR⟩:=h
    cases d with
    | tuple ds=>
      have hl:=hs ds rfl
      have no:(isOr n (.tuple ds)=true->False)->R (.bool false):=fun z=>by
        have:isOr n (.tuple ds)=false:=by
          cases h:isOr n (.tuple ds) with
          | false=>rfl
          | true=>exact (z h).elim
        rw [<- this];exact hR
      refine ifC (fun z=>no fun h=>?_) fun z=>?_
      · rw [decide_eq_true (Qhq n0 h).1] at z
        cases z
      · refine Qkm (fun d=>.bool (inW d 0 (n - 1))) (fun d hd k2 hk=>⟨_,_,_,rfl,hk⟩) (Qix (items:=ds) rfl ?_)
        refine ifC (fun z2=>no fun h=>?_) fun z2=>?_
        · have:=(Qhq n0 h).2
          rw [show ds.all (fun d=>inW d 0 (n - 1))=true from this] at z2
          cases z2
        have ew:ds.all isW=true:=by
          rw [List.all_eq_true]
          intro d hd
          have z3:ds.all (fun d=>inW d 0 (n - 1))=true:=by
            cases h:ds.all (fun d=>inW d 0 (n - 1)) with
            | true=>rfl
            | false=>rw [show ds.all (fun d=>inW d 0 (n - 1))=false from h] at z2;cases z2
          obtain ⟨i,rfl,_⟩:=inW_e (List.all_eq_true.mp z3 d hd)
          rfl
        have ei:=Qd2 ew
        have ea:Qbp ds=some (ds.map toI5):=by
          conv=>lhs;rw [ei]
          exact Qdz _
        rw [show isOr n (.tuple ds)=PyData.eqv (.list ((srt5 (ds.map toI5)).map PyData.int)) (rngL n) by show (ds.all isW&&_)=_;rw [ew];rfl] at hR
        refine (QgQ (ds:=ds) (ns:=ds.map toI5) ea (by rw [List.length_map];omega) fun ms pm pw=>?_).2
        rw [QgM pm pw]
        refine ⟨⟨by omega,by omega⟩,⟨?_,?_,?_⟩,hR⟩
        · exact QbH _
        · have:=QbH (QaT n.toNat)
          unfold QaT at this
          rw [List.map_map] at this
          exact this
        · exact .inl (Qkj _)
    | _=>exact hR
theorem QhC:(["_law_one"]:List Str).Nodup:=by decide +kernel
theorem QiI:FnScope ["_law_thing", "_law_many"] ["_law_thing", "_law_many"] (Qaa lIsO):=⟨rfl,rfl,rfl,by decide +kernel,rfl,by decide +kernel,by decide +kernel⟩
theorem Qjf {f f1  : Addr} {fd fd1:FuncData} (F:Fun K "_law_is_order" "_law_is_order" lIsO f fd) (T:GlbA mg)
    (m1:mg "_law_whole" = some (.ref f1)) (G1:FnOk P w K mg base CX0 1 f1 fd1 ["_law_found"] (toSp false wholeD)) (b1:Binds K fd1 ["_law_found"] []) (k1:PySem.W.keepIn K (.ref f1)=true) :
    FnOk P w K mg base CX0 2 f fd ["_law_thing", "_law_many"] (toSp false lorD):=by
  refine okQ false F QiI (fun args R EX h=>?_) (fun cdv A outer s H E hr=>?_)
  · obtain ⟨n,d,rfl,_⟩:=h
    rfl
  · have hU:=Room.u60 hr
    have hI:=Room.i60 hr
    refine ⟨_,Qaf (Qes (q_pw (Qer (Qbu (Qbt (Qah (Qb6 .tuple (by rfl) T.isinstance (qp 0) (by rfl) T.tuple QaB)))) (QcU (Qbu (Qbt (Qah (QaC Qgh (Qkp rfl) (by rfl) T.all Qks (qa_P (Qah (Qeu ["_law_one"] [none] (Qg6 (qp 0)) (fun cl ex s3 H3 C=>⟨(Qbw 0 QhC rfl (Or.inl rfl) (Or.inr rfl)),Qfb,(QaO G1 (hr.mono (by decide)) (by rfl) m1 k1 b1 QaI (qs_v (qv 0) Qas))⟩))) Qac)))))))) (Qan (Qbe q_bl)) Qbv)
      (Qan (QbR (QiP QfP (Qjh hU) (Qah (QaC Qdy Qij (by rfl) T.sorted Qdb (qa_P (qp 0) Qac))) (Qah (QfJ (by rfl) T.list (by rfl) T.range (qp 1))) (Qbh _)))),fun args R EX h=>?_⟩
    obtain ⟨n,d,rfl,n0,n60,hs,hR⟩:=h
    cases d with
    | tuple ds=>
      have hl:=hs ds rfl
      refine Qkm (fun d=>.bool (isW d)) (fun d hd k2 hk=>⟨_,rfl,hk⟩) (Qix (items:=ds) rfl ?_)
      cases ew:ds.all isW with
      | false=>
        rw [show isOr n (.tuple ds)=false by show (ds.all isW&&_)=_;rw [ew];rfl] at hR
        exact hR
      | true=>
        have ei:=Qd2 ew
        have ea:Qbp ds=some (ds.map toI5):=by
          conv=>lhs;rw [ei]
          exact Qdz _
        rw [show isOr n (.tuple ds)=PyData.eqv (.list ((srt5 (ds.map toI5)).map PyData.int)) (rngL n) by show (ds.all isW&&_)=_;rw [ew];rfl] at hR
        refine (QgQ (ds:=ds) (ns:=ds.map toI5) ea (by rw [List.length_map];omega) fun ms pm pw=>?_).2
        rw [QgM pm pw]
        refine ⟨⟨by omega,by omega⟩,⟨?_,?_,?_⟩,hR⟩
        · exact QbH _
        · have:=QbH (QaT n.toNat)
          unfold QaT at this
          rw [List.map_map] at this
          exact this
        · exact .inl (Qkj _)
    | _=>exact hR
end
def ledC (cs:List (Int×Int)) (cols:List Int) (r:Nat) (row:Int):List (Int×Int):=((List.range cols.length).filter fun c=>decide ((row,cols.getD c 0)∈cs)).map fun (c:Nat)=>((r:Int),(c:Int))
def ledL (cs:List (Int×Int)) (rows cols:List Int):List (Int×Int):=(List.range rows.length).flatMap fun r=>ledC cs cols r (rows.getD r 0)
def ledG (cs:List (Int×Int)) (r:Int) (i:Nat):PyData->Option PyData
  | .tuple [.int c,.int col]=>if (r,col)∈cs then some (pairD ((i:Int),c)) else none
  | _=>none
theorem Qka (cs:List (Int×Int)) (cols:List Int) (i:Nat) (r:Int):(Qd4 (cols.map PyData.int)).filterMap (ledG cs r i)=(ledC cs cols i r).map pairD:=by
  unfold Qd4 ledC
  rw [List.filterMap_map,List.length_map,List.map_map]
  have key:∀ l:List Nat,(∀ j∈l,j<cols.length)->l.filterMap (ledG cs r i∘fun (j:Nat)=>PyData.tuple [PyData.int j,(cols.map PyData.int).getD j .none])=(l.filter fun c=>decide ((r,cols.getD c 0)∈cs)).map (pairD∘fun (c:Nat)=>((i:Int),(c:Int))):=fun l=>by
    induction l with
    | nil=>intro _;rfl
    | cons j l ih=>
      intro hl
      have hj:=hl j (.head _)
      have e:(cols.map PyData.int).getD j .none=PyData.int (cols.getD j 0):=by
        rw [List.getD_eq_getElem?_getD,List.getElem?_map,List.getD_eq_getElem?_getD,List.getElem?_eq_getElem hj];rfl
      have e2:(ledG cs r i∘fun (j:Nat)=>PyData.tuple [PyData.int j,(cols.map PyData.int).getD j .none]) j=if (r,cols.getD j 0)∈cs then some (pairD ((i:Int),(j:Int))) else none:=by
        show ledG cs r i (PyData.tuple [PyData.int j,(cols.map PyData.int).getD j .none])=_
        rw [e];rfl
      rw [List.filterMap_cons,e2]
      by_cases z:(r,cols.getD j 0)∈cs
      · rw [if_pos z,List.filter_cons_of_pos (by simpa using z),List.map_cons,ih fun k hk=>hl k (.tail _ hk)];rfl
      · rw [if_neg z,List.filter_cons_of_neg (by simpa using z),ih fun k hk=>hl k (.tail _ hk)]
  exact key _ fun j hj=>List.mem_range.mp hj
theorem QfU (cs:List (Int×Int)) (cols:List Int) (i:Nat) (r:Int):(ledC cs cols i r).length<=cols.length:=by
  unfold ledC
  rw [List.length_map]
  have:=List.length_filter_le (fun c=>decide ((r,cols.getD c 0)∈cs)) (List.range cols.length)
  rw [List.length_range] at this
  exact this
theorem QcI (cs:List (Int×Int)) (cols:List Int) (g:Nat->Int):∀ n,((List.range n).flatMap fun r=>ledC cs cols r (g r)).length<=n*cols.length
  | 0=>by simp
  | n+1=>by
    rw [List.range_succ,List.flatMap_append,List.length_append]
    have h1:=QcI cs cols g n
    have h2:=QfU cs cols n (g n)
    have h3:([n].flatMap fun r=>ledC cs cols r (g r)).length=(ledC cs cols n (g n)).length:=by simp
    rw [h3,Nat.add_mul]
    omega
def Qk2 (cs:List (Int×Int)) (cols:List Int):PyData->List PyData
  | .tuple [.int i,.int r]=>(ledC cs cols i.toNat r).map pairD
  | _=>[]
theorem Qhd (cs:List (Int×Int)) (rows cols:List Int):(Qd4 (rows.map PyData.int)).flatMap (Qk2 cs cols)=(ledL cs rows cols).map pairD:=by
  unfold Qd4 ledL
  rw [List.length_map]
  have key:∀ l:List Nat,(∀ j∈l,j<rows.length)->(l.map fun (i:Nat)=>PyData.tuple [PyData.int i,(rows.map PyData.int).getD i .none]).flatMap (Qk2 cs cols)=(l.flatMap fun r=>ledC cs cols r (rows.getD r 0)).map pairD:=fun l=>by
    induction l with
    | nil=>intro _;rfl
    | cons j l ih=>
      intro hl
      have hj:=hl j (.head _)
      have e:(rows.map PyData.int).getD j .none=PyData.int (rows.getD j 0):=by
        rw [List.getD_eq_getElem?_getD,List.getElem?_map,List.getD_eq_getElem?_getD,List.getElem?_eq_getElem hj];rfl
      rw [List.map_cons,List.flatMap_cons,ih fun k hk=>hl k (.tail _ hk),e,List.flatMap_cons,List.map_append]
      rfl
  exact key _ fun j hj=>List.mem_range.mp hj
def Qk3:DF:=fun args R _=>∃ (h w:Int) (cs:List (Int×Int)) (rows cols:List Int),args=[.v (bdD h w cs),.v (tN rows),.v (tN cols)]/\rows.length<=60/\cols.length<=60/\R (bdD (rows.length:Int) (cols.length:Int) (ledL cs rows cols))
def Qjq:DF:=fun args R _=>∃ (h w:Int) (cs:List (Int×Int)) (rows cols:List Int),args=[.v (bdD h w cs),.v (tN rows),.v (tN cols)]/\rows.length<=6/\cols.length<=6/\R (bdD h w (ledL cs rows cols))
section
variable {P:Program} {w:World} {K:PySem.W.Frag} {mg:Str->Option Value} {base:Heap}
theorem QbI:(["new_row", "row", "new_column", "column", "cells", "columns"]:List Str).Nodup:=by decide +kernel
theorem QcT:FnScope ["board", "rows", "columns", "cells", "kept"] ["board", "rows", "columns"] (Qaa sPicked):=⟨rfl,rfl,rfl,by decide +kernel,rfl,by decide +kernel,by decide +kernel⟩
theorem Qht {f   : Addr} {fd  : FuncData} (F:Fun K "picked" "picked" sPicked f fd) (T:GlbA mg) :
    FnOk P w K mg base CX0 1 f fd ["board", "rows", "columns"] (toSp false Qk3):=by
  refine okQ false F QcT (fun args R EX h=>?_) (fun cdv A outer s H E hr=>?_)
  · obtain ⟨h,w,cs,rows,cols,rfl,_⟩:=h
    rfl
  · have hU:=Room.u60 hr
    have hI:=Room.i60 hr
    refine ⟨_,Qaf (Qbn 3 (q_ix QaG Qbg (qp 0) (Qat Qau) (fun _ _=>rfl)) QcT.nd)
      (Qaf (QiN ["new_row", "row", "new_column", "column", "cells", "columns"] [none,none,none,none,some 3,some 2] 4 QcT.nd (QlQ [0,1]) (QcG (by rfl) T.enumerate (qp 1)) (fun cl ex s3 H3 C=>⟨(Qdl rfl (QaR 0 (QaR 1 Qdm QbI rfl (Or.inl rfl) (Or.inr rfl)) QbI rfl (Or.inl rfl) (Or.inr rfl))),Qfb,(QcG (by rfl) T.enumerate (qv 5)),(Qdl rfl (QaR 2 (QaR 3 Qdm QbI rfl (Or.inl rfl) (Or.inr rfl)) QbI rfl (Or.inl rfl) (Or.inr rfl))),(QdP (Qb5 Qj7 (od_in hI) (Qah (QaH (qa_D (qv 1) (qa_D (qv 3) Qac)))) (qp 4) (by rfl))),(Qak (QaH (qa_D (qv 0) (qa_D (qv 2) Qac))))⟩))
      (Qan (QbR (QaH (qa_D (Qak (QaC QaJ Qce (by rfl) T.len Qbo (qa_P (qp 1) Qac))) (qa_D (Qak (QaC QaJ Qce (by rfl) T.len Qbo (qa_P (qp 2) Qac))) (qa_D (Qak (Qa7 Qax QbN (by rfl) T.tuple QaB (qa_P (qp 4) Qac))) Qac))))))),fun args R EX h=>?_⟩
    obtain ⟨h,w,cs,rows,cols,rfl,hr,hc,hR⟩:=h
    refine ⟨_,QaK (j:=2) rfl,?_⟩
    have lN:=QcI cs cols (fun r=>rows.getD r 0) rows.length
    have l36:rows.length*cols.length<=60*60:=Nat.mul_le_mul hr hc
    refine Ql1 (Qk2 cs cols) 3600 (by rw [Qhd,List.length_map];exact Nat.le_trans lN l36) (fun d hd acc N hb hN=>?_) ?_
    · obtain ⟨i,hi⟩:=List.mem_iff_getElem?.mp hd
      obtain ⟨e,he,rfl⟩:=Qca hi
      rw [List.getElem?_map] at he
      obtain ⟨r,er,rfl⟩:∃ r,rows[i]? = some r/\e=.int r:=by
        cases z:rows[i]? with
        | none=>rw [z] at he;cases he
        | some r=>rw [z] at he;cases he;exact ⟨r,rfl,rfl⟩
      have hN:N (acc++(ledC cs cols ((i:Int)).toNat r).map pairD):=hN
      rw [Int.toNat_natCast,<- Qka] at hN
      have la:acc.length<=3600:=by omega
      refine ⟨rfl,in_fm (ledG cs r i) (by rw [QcM,List.length_map];unfold Qjs;omega) (fun d hd k1 k2 h1 h2=>?_) hN⟩
      obtain ⟨j,hj⟩:=List.mem_iff_getElem?.mp hd
      obtain ⟨e2,he2,rfl⟩:=Qca hj
      rw [List.getElem?_map] at he2
      obtain ⟨c,ec,rfl⟩:∃ c,cols[j]? = some c/\e2=.int c:=by
        cases z:cols[j]? with
        | none=>rw [z] at he2;cases he2
        | some r=>rw [z] at he2;cases he2;exact ⟨r,rfl,rfl⟩
      refine ⟨rfl,⟨Qc1 cs,rfl,Nat.le_trans (Qbl (r,c)) (by decide)⟩,?_⟩
      show if ((cs.map pairD).any fun e=>PyData.eqv e (pairD (r,c)))=true then k2 (pairD ((i:Int),(j:Int))) else k1
      rw [QeV]
      have h1:(if (r,c)∈cs then some (pairD ((i:Int),(j:Int))) else none)=none->k1:=h1
      have h2:∀ e,(if (r,c)∈cs then some (pairD ((i:Int),(j:Int))) else none)=some e->k2 e:=h2
      by_cases z:(r,c)∈cs
      · rw [if_pos (decide_eq_true z)];exact h2 _ (if_pos z)
      · rw [if_neg (by simpa using z)];exact h1 (if_neg z)
    · rw [Qhd]
      have hR:R (.tuple [.int ((rows.map PyData.int).length:Int),.int ((cols.map PyData.int).length:Int),.tuple ((ledL cs rows cols).map pairD)]):=by
        rw [List.length_map,List.length_map];exact hR
      exact hR
theorem QhD:(["_law_place", "_law_column", "_law_board_here", "_law_line", "_law_row"]:List Str).Nodup:=by decide +kernel
theorem QfH:FnScope ["_law_board_here", "_law_rows", "_law_columns", "_law_cells", "_law_row", "_law_line"] ["_law_board_here", "_law_rows", "_law_columns"] (Qaa lLed):=⟨rfl,rfl,rfl,by decide +kernel,rfl,by decide +kernel,by decide +kernel⟩
theorem ok_led {f   : Addr} {fd  : FuncData} (F:Fun K "_law_led" "_law_led" lLed f fd) (T:GlbA mg) :
    FnOk P w K mg base CX0 1 f fd ["_law_board_here", "_law_rows", "_law_columns"] (toSp false Qjq):=by
  refine okQ false F QfH (fun args R EX h=>?_) (fun cdv A outer s H E hr=>?_)
  · obtain ⟨h,w,cs,rows,cols,rfl,_⟩:=h
    rfl
  · have hU:=Room.u60 hr
    have hI:=Room.i60 hr
    refine ⟨_,Qaf (Qfc 3 (QdQ Qac) QfH.nd)
      (Qaf (Qet PassesOwn.never rfl (QcG (by rfl) T.enumerate (qv 1)) (Qdl rfl (QaR 4 (QaR 5 Qdm QfH.nd rfl (by first | exact Or.inl rfl | exact Or.inr rfl)) QfH.nd rfl (by first | exact Or.inl rfl | exact Or.inr rfl)))
        (Qan (Qj0 3 (Qah (Qeu ["_law_place", "_law_column", "_law_board_here", "_law_line", "_law_row"] [none,none,some 0,some 5,some 4] (QcG (by rfl) T.enumerate (qp 2)) (fun cl ex s3 H3 C=>⟨(Qdl rfl (QaR 0 (QaR 1 Qdm QhD rfl (Or.inl rfl) (Or.inr rfl)) QhD rfl (Or.inl rfl) (Or.inr rfl))),(QdP (Qb5 Qj7 (od_in hI) (Qah (QaH (qa_D (qv 3) (qa_D (qv 1) Qac)))) (Qat (q_ix QaG Qbg (qp 2) (Qat Qau) (fun _ _=>rfl))) (by rfl))),(Qak (QaH (qa_D (qv 4) (qa_D (qv 0) Qac))))⟩))))))
      (Qan (QbR (QaH (qa_D (q_ix QaG Qbg (qp 0) (Qat Qau) (fun _ _=>rfl)) (qa_D (q_ix QaG Qbg (qp 0) (Qat Qau) (fun _ _=>rfl)) (qa_D (Qak (Qa7 Qax QbN (by rfl) T.tuple QaB (qa_P (qp 3) Qac))) Qac))))))),fun args R EX h=>?_⟩
    obtain ⟨h,w,cs,rows,cols,rfl,hr,hc,hR⟩:=h
    refine Qc6 (fun i δ=>∃ ds x4 x5,δ=[.v (bdD h w cs),.v (tN rows),.v (tN cols),.own ds,x4,x5]/\ds=((List.range i).flatMap fun r=>ledC cs cols r (rows.getD r 0)).map pairD) ⟨_,_,_,rfl,rfl⟩ ?_ ?_
    · rintro i d δ hd ⟨ds,x4,x5,rfl,rfl⟩
      obtain ⟨e,he,rfl⟩:=Qca hd
      rw [List.getElem?_map] at he
      obtain ⟨r,er,rfl⟩:∃ r,rows[i]? = some r/\e=.int r:=by
        cases z:rows[i]? with
        | none=>rw [z] at he;cases he
        | some r=>rw [z] at he;cases he;exact ⟨r,rfl,rfl⟩
      have hi:i<rows.length:=(List.getElem?_eq_some_iff.mp er).1
      have eg:rows.getD i 0=r:=by rw [List.getD_eq_getElem?_getD,er];rfl
      refine ⟨rfl,cm_fm (ledG cs r i) (fun d hd k1 k2 h1 h2=>?_) ?_⟩
      · obtain ⟨j,hj⟩:=List.mem_iff_getElem?.mp hd
        obtain ⟨e2,he2,rfl⟩:=Qca hj
        rw [List.getElem?_map] at he2
        obtain ⟨c,ec,rfl⟩:∃ c,cols[j]? = some c/\e2=.int c:=by
          cases z:cols[j]? with
          | none=>rw [z] at he2;cases he2
          | some r=>rw [z] at he2;cases he2;exact ⟨r,rfl,rfl⟩
        refine ⟨rfl,_,QaK (j:=2) rfl,⟨Qc1 cs,rfl,Nat.le_trans (Qbl (r,c)) (by decide)⟩,?_⟩
        show if ((cs.map pairD).any fun e=>PyData.eqv e (pairD (r,c)))=true then k2 (pairD ((i:Int),(j:Int))) else k1
        rw [QeV]
        have h1:(if (r,c)∈cs then some (pairD ((i:Int),(j:Int))) else none)=none->k1:=h1
        have h2:∀ e,(if (r,c)∈cs then some (pairD ((i:Int),(j:Int))) else none)=some e->k2 e:=h2
        by_cases z:(r,c)∈cs
        · rw [if_pos (decide_eq_true z)];exact h2 _ (if_pos z)
        · rw [if_neg (by simpa using z)];exact h1 (if_neg z)
      · rw [Qka]
        have l1:=QcI cs cols (fun r=>rows.getD r 0) i
        have l2:=QfU cs cols i r
        have l3:i*cols.length<=6*6:=Nat.mul_le_mul (by omega) hc
        refine ⟨by rw [List.length_map,List.length_map];omega,_,_,_,rfl,?_⟩
        rw [List.range_succ,List.flatMap_append,List.map_append]
        show _=_++(List.flatMap (fun r=>ledC cs cols r (rows.getD r 0)) [i]).map pairD
        rw [List.flatMap_singleton,eg]
    · rintro δ ⟨ds,x4,x5,rfl,rfl⟩
      refine ⟨_,QaK (j:=0) rfl,_,QaK (j:=1) rfl,?_⟩
      rw [QcM,List.length_map]
      exact hR
end
def wayL:PyData->List Int
  | .tuple ds=>ds.map toI5
  | _=>[]
def isWy (h w:Int) (cs:List (Int×Int)) (g:PyData):PyData->Bool
  | .tuple [a,b]=>isOr h a&&(isOr w b&&PyData.eqv (bdD h w (ledL cs (wayL a) (wayL b))) g)
  | _=>false
def sht2 (d:PyData):Prop:=∀ ds,d=.tuple ds->∀ e∈ds,sht e
def wayD:DF:=fun args R _=>∃ (h w:Int) (cs:List (Int×Int)) (h2 w2:Int) (cs2:List (Int×Int)) (d:PyData),args=[.v (bdD h w cs),.v (bdD h2 w2 cs2),.v d]/\0<=h/\h<=6/\0<=w/\w<=6/\sht2 d/\R (.bool (isWy h w cs (bdD h2 w2 cs2) d))
theorem Qf1 {n:Int} (hn:0<=n) {d:PyData} (h:isOr n d=true):∃ ns:List Int,d=tN ns/\wayL d=ns/\(ns.length:Int)=n:=by
  cases d<;>first | (cases h;done) | skip
  rename_i ds
  obtain ⟨_,e⟩:=Qhp h
  have hl:=(Qhq hn h).1
  refine ⟨ds.map toI5,?_,rfl,by rw [List.length_map];exact hl⟩
  show PyData.tuple ds=PyData.tuple ((ds.map toI5).map PyData.int)
  rw [<- e]
theorem Qjn (h w:Int) (cs:List (Int×Int)):nd (bdD h w cs)=true:=by
  show (true&&(true&&(nds (cs.map pairD)&&true)))=true
  rw [Qc1];rfl
theorem Qf7 (h w:Int) (cs:List (Int×Int)):(bdD h w cs).depth<=50:=by
  show PyData.depthAll [.int h,.int w,.tuple (cs.map pairD)]+1<=50
  have:=Qa5 (n:=2) (ds:=[.int h,.int w,.tuple (cs.map pairD)]) fun d hd=>by
    rcases List.mem_cons.mp hd with z | z
    · subst z;exact Nat.zero_le _
    · rcases List.mem_cons.mp z with z | z
      · subst z;exact Nat.zero_le _
      · rw [List.mem_singleton.mp z];exact Qfr cs
  omega
section
variable {P:Program} {w:World} {K:PySem.W.Frag} {mg:Str->Option Value} {base:Heap}
theorem QdM:FnScope ["one", "other", "thing", "rows", "columns"] ["one", "other", "thing"] (Qaa sWay):=⟨rfl,rfl,rfl,by decide +kernel,rfl,by decide +kernel,by decide +kernel⟩
theorem Qjg {f f1 f2  : Addr} {fd fd1 fd2:FuncData} (F:Fun K "is_way" "is_way" sWay f fd) (T:GlbA mg)
    (m1:mg "is_order" = some (.ref f1)) (G1:FnOk P w K mg base CX0 3 f1 fd1 ["many", "thing"] (toSp false orD)) (b1:Binds K fd1 ["many", "thing"] []) (k1:PySem.W.keepIn K (.ref f1)=true)
    (m2:mg "picked" = some (.ref f2)) (G2:FnOk P w K mg base CX0 1 f2 fd2 ["board", "rows", "columns"] (toSp false Qk3)) (b2:Binds K fd2 ["board", "rows", "columns"] []) (k2:PySem.W.keepIn K (.ref f2)=true) :
    FnOk P w K mg base CX0 4 f fd ["one", "other", "thing"] (toSp false wayD):=by
  refine okQ false F QdM (fun args R EX h=>?_) (fun cdv A outer s H E hr=>?_)
  · obtain ⟨h,w,cs,h2,w2,cs2,d,rfl,_⟩:=h
    rfl
  · have hU:=Room.u60 hr
    have hI:=Room.i60 hr
    refine ⟨_,Qaf (Qes (q_pw (Qer (Qbu (Qbt (Qah (Qb6 .tuple (by rfl) T.isinstance (qp 2) (by rfl) T.tuple QaB)))) (QcU (Qb5 Qdo (Qgt hU) (Qah (QaC QaJ Qce (by rfl) T.len Qbo (qa_P (qp 2) Qac))) (Qat Qau) (Qbh _))))) (Qan (Qbe q_bl)) Qbv)
      (Qaf (Qj1 (qv 2) (Qdl rfl (QaR 3 (QaR 4 Qdm QdM.nd rfl (by first | exact Or.inl rfl | exact Or.inr rfl)) QdM.nd rfl (by first | exact Or.inl rfl | exact Or.inr rfl))))
      (Qaf (Qes (q_pw (Qer (Qbu (Qbt (Qat (QaO G1 (hr.mono (by decide)) (by rfl) m1 k1 b1 QaI (qs_v (q_ix QaG Qbg (qp 0) (Qat Qau) (fun _ _=>rfl)) (qs_v (qv 3) Qas)))))) (QcU (Qbu (Qbt (Qat (QaO G1 (hr.mono (by decide)) (by rfl) m1 k1 b1 QaI (qs_v (q_ix QaG Qbg (qp 0) (Qat Qau) (fun _ _=>rfl)) (qs_v (qv 4) Qas))))))))) (Qan (Qbe q_bl)) Qbv)
      (Qan (QbR (QiP QfP (Qjh hU) (Qat (QaO G2 (hr.mono (by decide)) (by rfl) m2 k2 b2 QaI (qs_v (qv 0) (qs_v (qv 3) (qs_v (qv 4) Qas))))) (qp 1) (Qbh _)))))),fun args R EX h=>?_⟩
    obtain ⟨h,w,cs,h2,w2,cs2,d,rfl,h0,h6,w0,w6,hs,hR⟩:=h
    cases d with
    | tuple ds=>
      match ds,hs,hR with
      | [a,b],hs,hR=>
        have sa:sht a:=hs _ rfl a (.head _)
        have sb:sht b:=hs _ rfl b (.tail _ (.head _))
        have hR:R (.bool (isOr h a&&(isOr w b&&PyData.eqv (bdD h w (ledL cs (wayL a) (wayL b))) (bdD h2 w2 cs2)))):=hR
        refine ⟨rfl,_,QaK (j:=0) rfl,_,_,rfl,h0,by omega,sa,?_⟩
        cases za:isOr h a with
        | false=>rw [za,Bool.false_and] at hR;exact hR
        | true=>
          rw [za,Bool.true_and] at hR
          refine ⟨_,QaK (j:=1) rfl,_,_,rfl,w0,by omega,sb,?_⟩
          cases zb:isOr w b with
          | false=>rw [zb,Bool.false_and] at hR;exact hR
          | true=>
            rw [zb,Bool.true_and] at hR
            obtain ⟨rs,rfl,e1,l1⟩:=Qf1 h0 za
            obtain ⟨ms,rfl,e2,l2⟩:=Qf1 w0 zb
            rw [e1,e2] at hR
            refine ⟨_,_,_,rs,ms,rfl,by omega,by omega,⟨Qjn _ _ _,Qjn _ _ _,.inl (Qf7 _ _ _)⟩,?_⟩
            show R (.bool (PyData.eqv (bdD (rs.length:Int) (ms.length:Int) (ledL cs rs ms)) (bdD h2 w2 cs2)))
            rw [l1,l2]
            exact hR
      | [],_,hR=>exact hR
      | [_],_,hR=>exact hR
      | a::b::c::r,_,hR=>exact hR
    | _=>exact hR
theorem QgZ:FnScope ["_law_one", "_law_other", "_law_thing"] ["_law_one", "_law_other", "_law_thing"] (Qaa lIsWay):=⟨rfl,rfl,rfl,by decide +kernel,rfl,by decide +kernel,by decide +kernel⟩
theorem Qhw {f f1 f2  : Addr} {fd fd1 fd2:FuncData} (F:Fun K "_law_is_way" "_law_is_way" lIsWay f fd) (T:GlbA mg)
    (m1:mg "_law_is_order" = some (.ref f1)) (G1:FnOk P w K mg base CX0 2 f1 fd1 ["_law_thing", "_law_many"] (toSp false lorD)) (b1:Binds K fd1 ["_law_thing", "_law_many"] []) (k1:PySem.W.keepIn K (.ref f1)=true)
    (m2:mg "_law_led" = some (.ref f2)) (G2:FnOk P w K mg base CX0 1 f2 fd2 ["_law_board_here", "_law_rows", "_law_columns"] (toSp false Qjq)) (b2:Binds K fd2 ["_law_board_here", "_law_rows", "_law_columns"] []) (k2:PySem.W.keepIn K (.ref f2)=true) :
    FnOk P w K mg base CX0 3 f fd ["_law_one", "_law_other", "_law_thing"] (toSp false wayD):=by
  refine okQ false F QgZ (fun args R EX h=>?_) (fun cdv A outer s H E hr=>?_)
  · obtain ⟨h,w,cs,h2,w2,cs2,d,rfl,_⟩:=h
    rfl
  · have hU:=Room.u60 hr
    have hI:=Room.i60 hr
    refine ⟨_,Qaf (Qes (q_pw (Qer (Qbu (Qbt (Qah (Qb6 .tuple (by rfl) T.isinstance (qp 2) (by rfl) T.tuple QaB)))) (Qer (Qb5 Qdo (Qgt hU) (Qah (QaC QaJ Qce (by rfl) T.len Qbo (qa_P (qp 2) Qac))) (Qat Qau) (Qbh _)) (QcU (Qb5 Qdo (Qgt hU) (Qah (QcX (qp 0) QcW (QcV (Qat Qau)))) (Qah (QcX (qp 1) QcW (QcV (Qat Qau)))) (Qbh _)))))) (Qan (Qbe q_bl)) Qbv)
      (Qaf (Qes (q_pw (Qer (Qbu (Qbt (Qat (QaO G1 (hr.mono (by decide)) (by rfl) m1 k1 b1 QaI (qs_v (q_ix QaG Qbg (qp 2) (Qat Qau) (fun _ _=>rfl)) (qs_v (q_ix QaG Qbg (qp 0) (Qat Qau) (fun _ _=>rfl)) Qas)))))) (QcU (Qbu (Qbt (Qat (QaO G1 (hr.mono (by decide)) (by rfl) m1 k1 b1 QaI (qs_v (q_ix QaG Qbg (qp 2) (Qat Qau) (fun _ _=>rfl)) (qs_v (q_ix QaG Qbg (qp 0) (Qat Qau) (fun _ _=>rfl)) Qas))))))))) (Qan (Qbe q_bl)) Qbv)
      (Qan (QbR (QiP QfP (Qjh hU) (Qat (QaO G2 (hr.mono (by decide)) (by rfl) m2 k2 b2 QaI (qs_v (qv 0) (qs_v (q_ix QaG Qbg (qp 2) (Qat Qau) (fun _ _=>rfl)) (qs_v (q_ix QaG Qbg (qp 2) (Qat Qau) (fun _ _=>rfl)) Qas))))) (qp 1) (Qbh _))))),fun args R EX h=>?_⟩
    obtain ⟨h,w,cs,h2,w2,cs2,d,rfl,h0,h6,w0,w6,hs,hR⟩:=h
    cases d with
    | tuple ds=>
      match ds,hs,hR with
      | [a,b],hs,hR=>
        have sa:sht a:=hs _ rfl a (.head _)
        have sb:sht b:=hs _ rfl b (.tail _ (.head _))
        have hR:R (.bool (isOr h a&&(isOr w b&&PyData.eqv (bdD h w (ledL cs (wayL a) (wayL b))) (bdD h2 w2 cs2)))):=hR
        refine ⟨⟨rfl,rfl,.inl (by show 1<=_;decide)⟩,?_⟩
        have eb:∀ L,PyData.eqv (bdD h w L) (bdD h2 w2 cs2)=((h == h2)&&((w == w2)&&(PyData.eqv (.tuple (L.map pairD)) (.tuple (cs2.map pairD))&&true))):=fun L=>rfl
        refine ifC (fun z=>?_) fun z=>?_
        · have z:(!((h == h2)&&((w == w2)&&true)))=true:=z
          rw [eb] at hR
          have:∀ x y t:Bool,(x&&(y&&(((h == h2)&&((w == w2)&&t)))))=false:=fun x y t=>by
            cases q1:(h == h2)<;>cases q2:(w == w2)<;>cases x<;>cases y<;>cases t<;>first | rfl | (rw [q1,q2] at z;cases z)
          rw [this] at hR
          exact hR
        · refine ⟨_,rfl,_,QaK (j:=0) rfl,_,_,rfl,h0,by omega,sa,?_⟩
          cases za:isOr h a with
          | false=>rw [za,Bool.false_and] at hR;exact hR
          | true=>
            rw [za,Bool.true_and] at hR
            refine ⟨_,rfl,_,QaK (j:=1) rfl,_,_,rfl,w0,by omega,sb,?_⟩
            cases zb:isOr w b with
            | false=>rw [zb,Bool.false_and] at hR;exact hR
            | true=>
              rw [zb,Bool.true_and] at hR
              obtain ⟨rs,rfl,e1,l1⟩:=Qf1 h0 za
              obtain ⟨ms,rfl,e2,l2⟩:=Qf1 w0 zb
              rw [e1,e2] at hR
              exact ⟨_,rfl,_,rfl,_,_,_,rs,ms,rfl,by omega,by omega,⟨Qjn _ _ _,Qjn _ _ _,.inl (Qf7 _ _ _)⟩,hR⟩
      | [],_,hR=>exact hR
      | [_],_,hR=>exact hR
      | a::b::c::r,_,hR=>exact hR
    | _=>exact hR
end
def lb2D:DF:=fun args R _=>∃ h w:Nat,args=[.pot,.v (.int h),.v (.int w)]/\h<=6/\w<=6/\∀ f:Nat->Nat->Bool,R (bdD h w (Qa8 h w f))
theorem QdI {ds:List PyData} (h:ds.length<=60):sht (.tuple ds):=fun es e=>by cases e;exact h
theorem QgU {d:PyData} (h:(match d with | .tuple _=>false | _=>true)=true):sht d:=fun ls e=>by subst e;cases h
theorem QdJ {d:PyData} (h:(match d with | .tuple _=>false | _=>true)=true):sht2 d:=fun ls e=>by subst e;cases h
theorem Qb2 {a b:PyData} (ha:sht a) (hb:sht b):sht2 (.tuple [a,b]):=fun ds e=>by cases e;exact Qaj ha (Qaj hb QdA)
def QdZ:DF:=fun args R _=>∃ rs ms:List Int,args=[.pot,.v (.tuple [tN rs,tN ms])]/\1<=rs.length/\rs.length<=6/\ms.length<=6/\∀ d,sht2 d->R d
section
variable {P:Program} {w:World} {K:PySem.W.Frag} {mg:Str->Option Value} {base:Heap}
theorem Qgv:(["_law_column", "_law_pot_here", "_law_row", "_law_thick"]:List Str).Nodup:=by decide +kernel
theorem Qb3:FnScope ["_law_pot_here", "_law_high", "_law_wide", "_law_thick", "_law_cells", "_law_row"] ["_law_pot_here", "_law_high", "_law_wide"] (Qaa lBoard):=⟨rfl,rfl,rfl,by decide +kernel,rfl,by decide +kernel,by decide +kernel⟩
theorem Qhx {f f1  : Addr} {fd fd1:FuncData} (F:Fun K "_law_board" "_law_board" lBoard f fd) (T:GlbA mg)
    (m1:mg "_law_take" = some (.ref f1)) (G1:FnOk P w K mg base CX0 1 f1 fd1 ["_law_pot_here", "_law_far"] (toSp true takeD)) (b1:Binds K fd1 ["_law_pot_here", "_law_far"] []) (k1:PySem.W.keepIn K (.ref f1)=true) :
    FnOk P w K mg base CX0 2 f fd ["_law_pot_here", "_law_high", "_law_wide"] (toSp false lb2D):=by
  refine okQ false F Qb3 (fun args R EX h=>?_) (fun cdv A outer s H E hr=>?_)
  · obtain ⟨h,w,rfl,_⟩:=h
    rfl
  · have hU:=Room.u60 hr
    have hI:=Room.i60 hr
    refine ⟨_,Qaf (Qbn 3 (Qak (Qa0 G1 (hr.mono (by decide)) (by rfl) m1 k1 b1 QaI (QaZ 0 (qs_v Qau Qas)))) Qb3.nd)
      (Qaf (Qfc 4 (QdQ Qac) Qb3.nd)
      (Qaf (Qet PassesOwn.never rfl (Qfd (by rfl) T.range (qp 1)) (Qbw 5 Qb3.nd rfl (by first | exact Or.inl rfl | exact Or.inr rfl))
        (Qan (Qj0 4 (Qah (Qeu ["_law_column", "_law_pot_here", "_law_row", "_law_thick"] [none,some 0,some 5,some 3] (Qfd (by rfl) T.range (qp 2)) (fun cl ex s3 H3 C=>⟨(Qbw 0 Qgv rfl (Or.inl rfl) (Or.inr rfl)),(QdP (Qb5 op_lt od_ib0 (Qah (Qa0 G1 (hr.mono (by decide)) (by rfl) m1 k1 b1 QaI (QaZ 1 (qs_v Qau Qas)))) (qp 3) (Qbh _))),(Qak (QaH (qa_D (qv 2) (qa_D (qv 0) Qac))))⟩))))))
      (Qan (QbR (QaH (qa_D (qv 1) (qa_D (qv 2) (qa_D (Qak (Qa7 Qax QbN (by rfl) T.tuple QaB (qa_P (qp 4) Qac))) Qac)))))))),fun args R EX h=>?_⟩
    obtain ⟨h,w,rfl,h6,w6,hR⟩:=h
    refine ⟨_,rfl,by decide,by decide,fun th th0 th1=>⟨⟨by omega,by omega⟩,Qh0 (fun i δ=>∃ f ds x5,δ=[.pot,.v (.int h),.v (.int w),.v (.int th),.own ds,x5]/\ds=(Qa8 i w f).map pairD) ⟨fun _ _=>false,_,_,rfl,rfl⟩ ?_ ?_⟩⟩
    · rintro i δ hi ⟨f,ds,x5,rfl,rfl⟩
      rw [Int.toNat_natCast] at hi
      refine ⟨⟨by omega,by omega⟩,cm_any (fun d=>match d with | .int c=>pairD ((i:Int),c) | _=>.none) (fun d hd k1 k2 h1 h2=>?_) fun p=>?_⟩
      · obtain ⟨c,hc⟩:=List.mem_iff_getElem?.mp hd
        obtain ⟨hc2,rfl⟩:=Qfa hc
        refine ⟨_,rfl,by decide,by decide,fun r r0 r1=>?_⟩
        refine ifC (fun z=>?_) fun z=>?_
        · show k2 (pairD (0+(i:Int),0+(c:Int)))
          rw [show (0:Int)+(i:Int)=(i:Int) by omega]
          exact h2
        · exact h1
      · have er:((List.range (rngD 0 ((w:Nat):Int).toNat).length).filter p).map (fun q=>(match (rngD 0 ((w:Nat):Int).toNat).getD q .none with | .int c=>pairD ((i:Int),c) | _=>.none))=(rowF i w fun _=>p).map pairD:=by
          rw [QdN,Int.toNat_natCast]
          unfold rowF
          rw [List.map_map]
          refine List.map_congr_left fun c hc=>?_
          have hc:=List.mem_range.mp (List.mem_filter.mp hc).1
          have eg:(rngD 0 w).getD c .none=.int (0+(c:Int)):=by
            unfold rngD
            rw [List.getD_eq_getElem?_getD,List.getElem?_map,List.getElem?_range hc];rfl
          rw [eg]
          show pairD ((i:Int),0+(c:Int))=pairD ((i:Int),(c:Int))
          rw [show (0:Int)+(c:Int)=(c:Int) by omega]
        rw [er]
        have l1:=Qdx w f i
        have l2:=QfI i w (fun _=>p)
        have l3:i*w<=6*6:=Nat.mul_le_mul (by omega) w6
        refine ⟨by rw [List.length_map,List.length_map];omega,fun r c=>if r=i then p c else f r c,_,_,rfl,?_⟩
        rw [Qbm,List.map_append,QeM (f:=fun r c=>if r=i then p c else f r c) (g:=f) fun r c hr _=>if_neg (by omega),Qdk (f:=fun r c=>if r=i then p c else f r c) (g:=fun _=>p) fun c _=>if_pos rfl]
    · rintro δ ⟨f,ds,x5,rfl,rfl⟩
      rw [Int.toNat_natCast]
      exact hR f
theorem Qbs:FnScope ["_law_pot_here", "_law_way", "_law_rows", "_law_columns", "_law_spot", "_law_to", "_law_later", "_law_odd", "_law_some"] ["_law_pot_here", "_law_way"] (Qaa lBent):=⟨rfl,rfl,rfl,by decide +kernel,rfl,by decide +kernel,by decide +kernel⟩
theorem QlA {f f1  : Addr} {fd fd1:FuncData} (F:Fun K "_law_bent" "_law_bent" lBent f fd) (T:GlbA mg)
    (m1:mg "_law_take" = some (.ref f1)) (G1:FnOk P w K mg base CX0 1 f1 fd1 ["_law_pot_here", "_law_far"] (toSp true takeD)) (b1:Binds K fd1 ["_law_pot_here", "_law_far"] []) (k1:PySem.W.keepIn K (.ref f1)=true) :
    FnOk P w K mg base CX0 2 f fd ["_law_pot_here", "_law_way"] (toSp false QdZ):=by
  refine okQ false F Qbs (fun args R EX h=>?_) (fun cdv A outer s H E hr=>?_)
  · obtain ⟨rs,ms,rfl,_⟩:=h
    rfl
  · have hU:=Room.u60 hr
    have hI:=Room.i60 hr
    refine ⟨_,Qaf (Qj1 (qv 1) (Qdl rfl (QaR 2 (QaR 3 Qdm Qbs.nd rfl (by first | exact Or.inl rfl | exact Or.inr rfl)) Qbs.nd rfl (by first | exact Or.inl rfl | exact Or.inr rfl))))
      (Qaf (QjZ 4 5 (qa_D (Qak (Qa0 G1 (hr.mono (by decide)) (by rfl) m1 k1 b1 QaI (QaZ 0 (qs_v (Qak (QaC QaJ Qce (by rfl) T.len Qbo (qa_P (qp 2) Qac))) Qas)))) (qa_D (Qak (Qa0 G1 (hr.mono (by decide)) (by rfl) m1 k1 b1 QaI (QaZ 0 (qs_v (Qak (QaC QaJ Qce (by rfl) T.len Qbo (qa_P (qp 2) Qac))) Qas)))) Qac)) Qbs.nd)
      (Qaf (Qfc 6 (Qa7 Qcg Qik (by rfl) T.list Qea (qa_P (qp 2) Qac)) Qbs.nd)
      (Qaf (QkS 6 (Qak (QaH (qa_D (q_ix QaG Qbg (qp 6) (qp 5) (fun _ _=>rfl)) (qa_D (q_ix QaG Qbg (qp 6) (qp 4) (fun _ _=>rfl)) Qac)))) (qp 4) (qp 5))
      (Qaf (Qbn 7 (q_ix QaG Qbg (Qah (QdQ (qa_D (Qak (QaC QaJ Qce (by rfl) T.len Qbo (qa_P (qp 2) Qac))) (qa_D (Qak (q_neg (Qat Qau))) (qa_D q_bl (qa_D QkV (qa_D q_str (qa_D (Qak (QaH (qa_D Qau Qac))) (qa_D q_bl Qac))))))))) (Qah (Qa0 G1 (hr.mono (by decide)) (by rfl) m1 k1 b1 QaI (QaZ 0 (qs_v Qau Qas)))) (fun _ _=>rfl)) Qbs.nd)
      (Qaf (Qbn 8 (Qak (QdQ (qa_D (Qak (QaH (qa_D (Qak (Qa7 Qax QbN (by rfl) T.tuple QaB (qa_P (qp 6) Qac))) (qa_D (qv 3) Qac)))) (qa_D (Qak (QaH (qa_D (qv 2) (qa_D (Qak (q_rev (qp 3) (Qah (q_neg (Qat Qau))))) Qac)))) (qa_D (Qak (QaH (qa_D (qv 3) (qa_D (qv 2) Qac)))) (qa_D (Qak (QaH (qa_D (Qak (QcX (qp 2) (QcV (Qat Qau)) QcW)) (qa_D (qv 3) Qac)))) (qa_D (Qak (QaH (qa_D (qv 2) Qac))) (qa_D QkV Qac)))))))) Qbs.nd)
      (Qaf (Qbn 8 (Qak (QcY Qbj Qb9 (qp 8) (Qah (QdQ (qa_D (Qak (QaH (qa_D (Qak (QcY Qbj Qb9 (Qah (QcY Qbj Qb9 (Qah (QcX (qp 2) QcW (QcV (qp 4)))) (Qah (QaH (qa_D (qv 7) Qac))))) (Qah (QcX (qp 2) (QcV (Qah (QcY Qbj Qb9 (qp 4) (Qat Qau)))) QcW)))) (qa_D (qv 3) Qac)))) (qa_D (Qak (QaH (qa_D (Qak (Qa7 Qcg Qik (by rfl) T.list Qea (qa_P (qp 2) Qac))) (qa_D (qv 3) Qac)))) (qa_D (Qak (QdQ (qa_D (qv 2) (qa_D (qv 3) Qac)))) (qa_D q_dct Qac)))))))) Qbs.nd)
      (Qan (Qbe (q_ix QaG Qbg (Qah (QcY Qbj Qb9 (qp 8) (Qah (QdQ (qa_D (Qak (QaH (qa_D (qv 2) (qa_D (qv 3) (qa_D Qau Qac))))) (qa_D (Qak (QaH (qa_D (qv 2) (qa_D (Qak (QiO (by rfl) T.tuple (by rfl) T.range (Qah (QaC QaJ Qce (by rfl) T.len Qbo (qa_P (qp 3) Qac))))) Qac)))) (qa_D Qau (qa_D (Qak (QaH (qa_D (qv 2) (qa_D QkV Qac)))) Qac)))))))) (Qah (Qa0 G1 (hr.mono (by decide)) (by rfl) m1 k1 b1 QaI (QaZ 0 (qs_v Qau Qas)))) (fun _ _=>rfl)))))))))),fun args R EX h=>?_⟩
    obtain ⟨rs,ms,rfl,h1,h6,m6,hR⟩:=h
    have lr:(rs.map PyData.int).length=rs.length:=List.length_map _
    have lm:(ms.map PyData.int).length=ms.length:=List.length_map _
    refine ⟨rfl,_,rfl,by rw [lr];omega,by rw [lr];omega,fun r1 r10 r11=>⟨_,rfl,by rw [lr];omega,by rw [lr];omega,fun r2 r20 r21=>?_⟩⟩
    rw [lr] at r11 r21
    refine Qju r20 (by rw [lr];exact r21) fun u1 hu1=>Qju r10 (by rw [lr];exact r11) fun u2 hu2=>?_
    have n1:ixN (rs.map PyData.int).length r1=some r1.toNat:=by
      have:=QhP (n:=(rs.map PyData.int).length) (k:=r1.toNat) (by rw [lr];omega)
      rwa [Int.toNat_of_nonneg r10] at this
    have n2:ixN ((rs.map PyData.int).set r1.toNat u1).length r2=some r2.toNat:=by
      have:=QhP (n:=((rs.map PyData.int).set r1.toNat u1).length) (k:=r2.toNat) (by rw [List.length_set,lr];omega)
      rwa [Int.toNat_of_nonneg r20] at this
    refine ⟨_,n1,_,n2,?_⟩
    refine ⟨_,rfl,by decide,by decide,fun r3 r30 r31=>Qju r30 r31 fun oh hoh=>?_⟩
    have sr:sht (tN rs):=QdI (by rw [lr];omega)
    have sm:sht (tN ms):=QdI (by rw [lm];omega)
    have c1:=QbV (rs.map PyData.int) none (some r1)
    have c2:=QbV (rs.map PyData.int) (some (r1+1)) none
    have c3:=QbV (rs.map PyData.int) (some 1) none
    refine ⟨rfl,by show _+1<=_;omega,by rw [List.length_append];show _+1+_<=_;omega,by show 6+4<=_;decide,⟨by rw [lm];omega,by rw [lm];omega⟩,by show 10+4<=_;decide,_,rfl,by decide,by decide,fun r4 r40 r41=>Qju r40 r41 fun d hd=>hR d ?_⟩
    exact Qaj (p:=sht2) (Qb2 (QdI (by rw [List.length_set,List.length_set,lr];omega)) sm) (Qaj (Qb2 sr (QdI (by rw [List.length_reverse,lm];omega))) (Qaj (Qb2 sm sr) (Qaj (Qb2 (QdI (by omega)) sm) (Qaj (fun ds e=>by cases e;exact Qaj sr QdA) (Qaj (QdJ rfl) (Qaj (Qb2 (QdI (by rw [List.length_append,List.length_append];show _+1+_<=_;omega)) sm) (Qaj (Qb2 (QgU rfl) sm) (Qaj (QdJ rfl) (Qaj (QdJ rfl) (Qaj (fun ds e=>by cases e;exact Qaj sr (Qaj sm (Qaj (QgU rfl) QdA))) (Qaj (Qb2 sr (QdI (by rw [List.length_map,List.length_range,lm];omega))) (Qaj (QdJ rfl) (Qaj (Qb2 sr (QgU rfl)) QdA))))))))))))) d hd
end
section
variable {P:Program} {w:World} {K:PySem.W.Frag} {mg:Str->Option Value} {base:Heap}
theorem QlE:(["_law_cell", "_law_place"]:List Str).Nodup:=by decide +kernel
theorem Qbd:FnScope ["_law_script", "_law_at", "_law_pot_here", "_law_high", "_law_wide", "_law_board_here", "_law_way", "_law_other", "_law_place", "_law_near", "_law_more", "_law_goal", "_law_thing", "_law_found"] ["_law_script"] (Qaa sLaw):=⟨rfl,rfl,rfl,by decide +kernel,rfl,by decide +kernel,by decide +kernel⟩
theorem ok_law {f f1 f2 f3 f4 f5 f6 f7 f8 f9  : Addr} {fd fd1 fd2 fd3 fd4 fd5 fd6 fd7 fd8 fd9:FuncData} (F:Fun K "law" "law" sLaw f fd) (T:GlbA mg)
    (m1:mg "_law_cell_at" = some (.ref f1)) (G1:FnOk P w K mg base CX0 1 f1 fd1 ["_law_script", "_law_k"] (Qb1 K)) (b1:Binds K fd1 ["_law_script", "_law_k"] []) (k1:PySem.W.keepIn K (.ref f1)=true)
    (m2:mg "_law_pot" = some (.ref f2)) (G2:FnOk P w K mg base CX0 1 f2 fd2 ["_law_cell"] (toSp true potD)) (b2:Binds K fd2 ["_law_cell"] []) (k2:PySem.W.keepIn K (.ref f2)=true)
    (m3:mg "_law_take" = some (.ref f3)) (G3:FnOk P w K mg base CX0 1 f3 fd3 ["_law_pot_here", "_law_far"] (toSp true takeD)) (b3:Binds K fd3 ["_law_pot_here", "_law_far"] []) (k3:PySem.W.keepIn K (.ref f3)=true)
    (m4:mg "_law_board" = some (.ref f4)) (G4:FnOk P w K mg base CX0 2 f4 fd4 ["_law_pot_here", "_law_high", "_law_wide"] (toSp false lb2D)) (b4:Binds K fd4 ["_law_pot_here", "_law_high", "_law_wide"] []) (k4:PySem.W.keepIn K (.ref f4)=true)
    (m5:mg "_law_order" = some (.ref f5)) (G5:FnOk P w K mg base CX0 2 f5 fd5 ["_law_pot_here", "_law_many"] (toSp false Qfm)) (b5:Binds K fd5 ["_law_pot_here", "_law_many"] []) (k5:PySem.W.keepIn K (.ref f5)=true)
    (m6:mg "_law_led" = some (.ref f6)) (G6:FnOk P w K mg base CX0 1 f6 fd6 ["_law_board_here", "_law_rows", "_law_columns"] (toSp false Qjq)) (b6:Binds K fd6 ["_law_board_here", "_law_rows", "_law_columns"] []) (k6:PySem.W.keepIn K (.ref f6)=true)
    (m7:mg "_law_bent" = some (.ref f7)) (G7:FnOk P w K mg base CX0 2 f7 fd7 ["_law_pot_here", "_law_way"] (toSp false QdZ)) (b7:Binds K fd7 ["_law_pot_here", "_law_way"] []) (k7:PySem.W.keepIn K (.ref f7)=true)
    (m8:mg "is_way" = some (.ref f8)) (G8:FnOk P w K mg base CX0 4 f8 fd8 ["one", "other", "thing"] (toSp false wayD)) (b8:Binds K fd8 ["one", "other", "thing"] []) (k8:PySem.W.keepIn K (.ref f8)=true)
    (m9:mg "_law_is_way" = some (.ref f9)) (G9:FnOk P w K mg base CX0 3 f9 fd9 ["_law_one", "_law_other", "_law_thing"] (toSp false wayD)) (b9:Binds K fd9 ["_law_one", "_law_other", "_law_thing"] []) (k9:PySem.W.keepIn K (.ref f9)=true) :
    FnOk P w K mg base CX0 5 f fd ["_law_script"] (spLawD K):=by
  refine okQL F Qbd (fun cdv A outer s H E hr=>?_)
  have hU:=Room.u60 hr
  have hI:=Room.i60 hr
  refine ⟨_,Qaf (Qet PassesOwn.never rfl (Qfd (by rfl) T.range (Qah (QaC (Qin rfl) Ql4 (by rfl) T.max bt_max (qa_P (Qat Qau) (qa_P (Qah (QaC (Qim rfl) Ql3 (by rfl) T.min bt_min (qa_P (Qah (q_lenS 0 (by rfl) T.len)) (qa_P (Qat Qau) Qac)))) Qac))))) (Qbw 1 Qbd.nd rfl (by first | exact Or.inl rfl | exact Or.inr rfl))
        (Qaf (QkT 2 (Qa0 G2 (hr.mono (by decide)) (by rfl) m2 k2 b2 QaI (qs_v (Qak (q_cell 0 G1 (hr.mono (by decide)) (by rfl) m1 k1 b1 (qp 1))) Qas)) Qbd.nd)
      (Qaf (QjZ 3 4 (qa_D (Qak (QcY Qbj Qb9 (Qat Qau) (Qah (Qa0 G3 (hr.mono (by decide)) (by rfl) m3 k3 b3 QaI (QaZ 2 (qs_v Qau Qas)))))) (qa_D (Qak (QcY Qbj Qb9 (Qat Qau) (Qah (Qa0 G3 (hr.mono (by decide)) (by rfl) m3 k3 b3 QaI (QaZ 2 (qs_v Qau Qas)))))) Qac)) Qbd.nd)
      (Qaf (Qbn 5 (QaO G4 (hr.mono (by decide)) (by rfl) m4 k4 b4 QaI (QaZ 2 (qs_v (qv 3) (qs_v (qv 4) Qas)))) Qbd.nd)
      (Qaf (Qbn 6 (Qak (QaH (qa_D (QaO G5 (hr.mono (by decide)) (by rfl) m5 k5 b5 QaI (QaZ 2 (qs_v (qv 3) Qas))) (qa_D (QaO G5 (hr.mono (by decide)) (by rfl) m5 k5 b5 QaI (QaZ 2 (qs_v (qv 4) Qas))) Qac)))) Qbd.nd)
      (Qaf (Qbn 7 (QaO G6 (hr.mono (by decide)) (by rfl) m6 k6 b6 QaI (qs_v (qv 5) (qs_v (q_ix QaG Qbg (qp 6) (Qat Qau) (fun _ _=>rfl)) (qs_v (q_ix QaG Qbg (qp 6) (Qat Qau) (fun _ _=>rfl)) Qas)))) Qbd.nd)
      (Qaf (Qbn 8 (Qak (QaH (qa_D (Qak (Qa0 G3 (hr.mono (by decide)) (by rfl) m3 k3 b3 QaI (QaZ 2 (qs_v (qv 3) Qas)))) (qa_D (Qak (Qa0 G3 (hr.mono (by decide)) (by rfl) m3 k3 b3 QaI (QaZ 2 (qs_v (qv 4) Qas)))) Qac)))) Qbd.nd)
      (Qaf (Qbn 9 (Qak (QaH (qa_D (qv 3) (qa_D (qv 4) (qa_D (Qak (Qa7 Qax QbN (by rfl) T.tuple QaB (qa_P (Qah (Qeu ["_law_cell", "_law_place"] [none,some 8] (Qg6 (Qat (q_ix QaG Qbg (qp 7) (Qat Qau) (fun _ _=>rfl)))) (fun cl ex s3 H3 C=>⟨(Qbw 0 QlE rfl (Or.inl rfl) (Or.inr rfl)),(QdP (Qb5 Qdo (Qgt hU) (qp 0) (qp 1) (Qbh _))),(qv 0)⟩))) Qac))) Qac))))) Qbd.nd)
      (Qaf (Qbn 10 (Qak (QaH (qa_D (qv 3) (qa_D (qv 4) (qa_D (Qak (Qa7 Qax QbN (by rfl) T.tuple QaB (qa_P (Qah (Qgp hU (by rfl) T.sorted (by rfl) T.set (Qah (QcY Qbj Qb9 (Qat (q_ix QaG Qbg (qp 7) (Qat Qau) (fun _ _=>rfl))) (Qah (QaH (qa_D (qv 8) Qac))))))) Qac))) Qac))))) Qbd.nd)
      (Qan (Qet PassesOwn.never rfl (Qg7 (Qak (QdQ (qa_D (qv 7) (qa_D (qv 9) (qa_D (qv 10) (qa_D (qv 5) (qa_D (Qak (QaH (qa_D (Qak (QcY Qbj Qb9 (Qat Qau) (Qah (QcY Qex od_ii (qp 3) (Qat Qau))))) (qa_D (qv 4) (qa_D (Qak (QaH Qac)) Qac))))) (qa_D (Qak (QaH (qa_D (qv 4) (qa_D (qv 3) (qa_D (Qak (QaH Qac)) Qac))))) Qac))))))))) (Qbw 11 Qbd.nd rfl (by first | exact Or.inl rfl | exact Or.inr rfl))
        (Qan (Qet PassesOwn.never rfl (Qg7 (Qak (QdQ (qa_D (qv 6) (qa_D (QaO G7 (hr.mono (by decide)) (by rfl) m7 k7 b7 QaI (QaZ 2 (qs_v (qv 6) Qas))) (qa_D (QaO G7 (hr.mono (by decide)) (by rfl) m7 k7 b7 QaI (QaZ 2 (qs_v (qv 6) Qas))) Qac)))))) (Qbw 12 Qbd.nd rfl (by first | exact Or.inl rfl | exact Or.inr rfl))
        (Qaf (Qbn 13 (QaO G8 (hr.mono (by decide)) (by rfl) m8 k8 b8 QaI (qs_v (qv 5) (qs_v (qv 11) (qs_v (qv 12) Qas)))) Qbd.nd)
      (Qan (Qes (q_pw (Qer (Qbu (Qbt (Qah (Qb6 .bool (by rfl) T.isinstance (qp 13) (by rfl) T.bool Qfz)))) (QcU (Qb5 Qdo (Qgt hU) (qp 13) (Qat (QaO G9 (hr.mono (by decide)) (by rfl) m9 k9 b9 QaI (qs_v (qv 5) (qs_v (qv 11) (qs_v (qv 12) Qas))))) (Qbh _))))) (Qan (Qbe q_bl)) Qbv))))))))))))))))
      (Qan (Qbe q_bl)),?_⟩
  intro n0 n63
  refine ⟨⟨by split<;>split<;>omega,by split<;>split<;>omega⟩,Qh0 (fun i δ=>∃ x1 x2 x3 x4 x5 x6 x7 x8 x9 x10 x11 x12 x13,δ=[.scr,x1,x2,x3,x4,x5,x6,x7,x8,x9,x10,x11,x12,x13]) ⟨_,_,_,_,_,_,_,_,_,_,_,_,_,rfl⟩ ?_ ?_⟩
  · rintro i δ hi ⟨x1,x2,x3,x4,x5,x6,x7,x8,x9,x10,x11,x12,x13,rfl⟩
    refine ⟨by omega,fun c=>⟨c,rfl,fun n1=>?_⟩⟩
    refine ⟨_,rfl,by decide,by decide,fun a a0 a1=>⟨_,rfl,by decide,by decide,fun b b0 b1=>?_⟩⟩
    obtain ⟨h,hh⟩:∃ h:Nat,1+a=(h:Int):=⟨(1+a).toNat,by omega⟩
    obtain ⟨w,hw⟩:∃ w:Nat,1+b=(w:Int):=⟨(1+b).toNat,by omega⟩
    refine ⟨h,w,by rw [<- hh,<- hw],by omega,by omega,fun f=>?_⟩
    refine ⟨_,rfl,by omega,by omega,fun rs pr=>⟨_,rfl,by omega,by omega,fun ms pm=>?_⟩⟩
    have lr:=pr.length_eq
    have lm:=pm.length_eq
    rw [QbE] at lr lm
    refine ⟨_,QaK (j:=0) rfl,_,QaK (j:=1) rfl,_,_,_,rs,ms,rfl,by omega,by omega,?_⟩
    refine ⟨_,rfl,by omega,by omega,fun p p0 p1=>⟨_,rfl,by omega,by omega,fun q q0 q1=>?_⟩⟩
    have lL:=QcI (Qa8 h w f) ms (fun r=>rs.getD r 0) rs.length
    have lL2:rs.length*ms.length<=6*6:=Nat.mul_le_mul (by omega) (by omega)
    generalize hL:ledL (Qa8 h w f) rs ms=L
    have lL3:L.length<=36:=by rw [<- hL];exact Nat.le_trans lL lL2
    refine ⟨_,QaK (j:=2) rfl,cm_fm (fun d=>if PyData.eqv d (pairD (p,q))=true then none else some d) (fun d hd k1 k2 h1 h2=>?_) ?_⟩
    · obtain ⟨c,_,rfl⟩:=List.mem_map.mp hd
      refine ⟨⟨rfl,rfl,.inl (by have:=Qbl c;omega)⟩,?_⟩
      show if (!PyData.eqv (pairD c) (pairD (p,q)))=true then k2 (pairD c) else k1
      cases z:PyData.eqv (pairD c) (pairD (p,q)) with
      | true=>exact h1 (if_pos z)
      | false=>exact h2 _ (if_neg (by rw [z];exact Bool.false_ne_true))
    have en:∃ N:List (Int×Int),((L.map pairD).filterMap fun d=>if PyData.eqv d (pairD (p,q))=true then none else some d)=N.map pairD:=by
      refine ⟨L.filter fun c => !PyData.eqv (pairD c) (pairD (p,q)),?_⟩
      clear hL lL3
      induction L with
      | nil=>rfl
      | cons c L ih=>
        rw [List.map_cons,List.filterMap_cons,List.filter_cons]
        cases z:PyData.eqv (pairD c) (pairD (p,q)) with
        | true=>exact ih
        | false=>exact congrArg (pairD c::·) ih
    obtain ⟨N,eN⟩:=en
    rw [eN]
    refine ⟨_,QaK (j:=2) rfl,by rw [List.length_map];show _+1<=_;omega,?_⟩
    have er:PyData.tuple (L.map pairD++[pairD (p,q)])=.tuple ((L.map (fun c=>[c.1,c.2])++[[p,q]]).map tN):=by
      rw [List.map_append,List.map_map];rfl
    show Qdj (PyData.tuple (L.map pairD++[pairD (p,q)])) _
    rw [er]
    refine QiK _ (by rw [List.length_append,List.length_map];show _+1<=_;omega) fun Ms _ hM _=>?_
    have eM:∃ M:List (Int×Int),Ms.map tN=M.map pairD:=by
      refine ⟨Ms.map fun r=>(r.getD 0 0,r.getD 1 0),?_⟩
      rw [List.map_map]
      refine List.map_congr_left fun r hr=>?_
      rcases List.mem_append.mp ((hM r).mp hr) with z | z
      · obtain ⟨c,_,rfl⟩:=List.mem_map.mp z
        rfl
      · rw [List.mem_singleton.mp z];rfl
    obtain ⟨M,eM⟩:=eM
    rw [eM]
    refine ⟨(by decide:(0:Int)<6),?_⟩
    have sr:sht (tN rs):=QdI (by rw [List.length_map];omega)
    have sm:sht (tN ms):=QdI (by rw [List.length_map];omega)
    refine Qc6 (fun _ δ=>∃ x11 x12 x13,δ=[.scr,.v (.int (0+(i:Int))),.pot,.v (.int (1+a)),.v (.int (1+b)),.v (bdD h w (Qa8 h w f)),.v (.tuple [tN rs,tN ms]),.v (bdD h w L),.v (.tuple [.int p,.int q]),.v (.tuple [.int (1+a),.int (1+b),.tuple (N.map pairD)]),.v (.tuple [.int (1+a),.int (1+b),.tuple (M.map pairD)]),x11,x12,x13]) ⟨_,_,_,rfl⟩ ?_ ?_
    · rintro j d δ hd ⟨x11,x12,x13,rfl⟩
      obtain ⟨h2,w2,cs2,rfl⟩:=Qaj (p:=fun d=>∃ h2 w2 cs2,d=bdD h2 w2 cs2) ⟨_,_,_,rfl⟩ (Qaj ⟨_,_,N,rfl⟩ (Qaj ⟨_,_,M,rfl⟩ (Qaj ⟨_,_,_,rfl⟩ (Qaj ⟨_,_,[],rfl⟩ (Qaj ⟨_,_,[],rfl⟩ QdA))))) d (List.mem_of_getElem? hd)
      refine ⟨rs,ms,rfl,by omega,by omega,by omega,fun b1 s1=>⟨rs,ms,rfl,by omega,by omega,by omega,fun b2 s2=>?_⟩⟩
      refine Qc6 (fun _ δ=>∃ x12 x13,δ=[.scr,.v (.int (0+(i:Int))),.pot,.v (.int (1+a)),.v (.int (1+b)),.v (bdD h w (Qa8 h w f)),.v (.tuple [tN rs,tN ms]),.v (bdD h w L),.v (.tuple [.int p,.int q]),.v (.tuple [.int (1+a),.int (1+b),.tuple (N.map pairD)]),.v (.tuple [.int (1+a),.int (1+b),.tuple (M.map pairD)]),.v (bdD h2 w2 cs2),x12,x13]) ⟨_,_,rfl⟩ ?_ ?_
      · rintro j2 d2 δ hd2 ⟨x12,x13,rfl⟩
        have s0:sht2 d2:=Qaj (p:=sht2) (Qb2 sr sm) (Qaj s1 (Qaj s2 QdA)) d2 (List.mem_of_getElem? hd2)
        refine ⟨_,_,_,_,_,_,_,rfl,by omega,by omega,by omega,by omega,s0,⟨_,_,_,_,_,_,_,rfl,by omega,by omega,by omega,by omega,s0,ifF ?_ ⟨_,_,rfl⟩⟩⟩
        show (!decide (isWy h w (Qa8 h w f) (bdD h2 w2 cs2) d2=isWy h w (Qa8 h w f) (bdD h2 w2 cs2) d2))=false
        simp
      · rintro δ ⟨x12,x13,rfl⟩
        exact ⟨_,_,_,rfl⟩
    · rintro δ ⟨x11,x12,x13,rfl⟩
      exact ⟨_,_,_,_,_,_,_,_,_,_,_,_,_,rfl⟩
  · rintro δ ⟨x1,x2,x3,x4,x5,x6,x7,x8,x9,x10,x11,x12,x13,rfl⟩
    rfl
end
end Rk
def PySem.W.Fast.tw16023871300611710821:Nat:=0
def PySem.W.Fast.tw16364596957600886304:Nat:=0
def PySem.W.Fast.tw8767070253133716772:Nat:=0
def PySem.W.Fast.tw3457377532471400455:Nat:=0
def PySem.W.Fast.tw11508143567121629221:Nat:=0
def PySem.W.Fast.tw5616229568906684336:Nat:=0
def PySem.W.Fast.tw18310085043223501669:Nat:=0
def PySem.W.Fast.tw7213424830574309137:Nat:=0
def PySem.W.Fast.tw2386148567753752698:Nat:=0
def PySem.W.Fast.tw4489216575633388085:Nat:=0
def PySem.W.Fast.tw8197244914894779658:Nat:=0
def PySem.W.Fast.tw267930195014111197:Nat:=0
def PySem.W.Fast.tw5429923447748108418:Nat:=0
def PySem.W.Fast.tw2396345796599345417:Nat:=0
def PySem.W.Fast.tw9853072611505540616:Nat:=0
def PySem.W.Fast.tw5185935311728319395:Nat:=0
def PySem.W.Fast.tw8664634029645691318:Nat:=0
def PySem.W.Fast.tw11217961552390929666:Nat:=0
def PySem.W.Fast.tw8456923836438153851:Nat:=0
def PySem.W.Fast.tw4802723837303839465:Nat:=0
def PySem.W.Fast.tw7891454089058899993:Nat:=0
def PySem.W.Fast.tw12803853685396543000:Nat:=0
def PySem.W.Fast.tw13306318575599341608:Nat:=0
def PySem.W.Fast.tw5706710749060636604:Nat:=0
def PySem.W.Fast.tw5731988611102523655:Nat:=0
def PySem.W.Fast.tw11763979513160228843:Nat:=0
namespace Rk
open PySem PySem.Spec PyProof.Rows L2
theorem all_mk {l:PySem.W.OpenLaw} {w:World} {K:PySem.W.Frag} {h:Heap} {mg:Str->Option Value} {fa f1 f2 f3 f4 f5 f6 f7 f8 f9 f10 f11 f12 f13 f14 f15 f16:Addr} (X:K.In h) (G:h.Ns mainGlobals mg) (hfa:mg "law" = some (.ref fa))
    {od1 an1 od2 an2 od3 an3 od4 an4 od5 an5 od6 an6 od7 an7 od8 an8 od9 an9 od10 an10 od11 an11 od12 an12 od13 an13 od14 an14 od15 an15 od16 an16:Option Addr} {sl1 sl2 sl3 sl4 sl5 sl6 sl7 sl8 sl9 sl10 sl11 sl12 sl13 sl14 sl15 sl16:Array (Option Value)} {oc1 kV1 dc1 pm1 cd1 ct1 oc2 kV2 dc2 pm2 cd2 ct2 oc3 kV3 dc3 pm3 cd3 ct3 oc4 kV4 dc4 pm4 cd4 ct4 oc5 kV5 dc5 pm5 cd5 ct5 oc6 kV6 dc6 pm6 cd6 ct6 oc7 kV7 dc7 pm7 cd7 ct7 oc8 kV8 dc8 pm8 cd8 ct8 oc9 kV9 dc9 pm9 cd9 ct9 oc10 kV10 dc10 pm10 cd10 ct10 oc11 kV11 dc11 pm11 cd11 ct11 oc12 kV12 dc12 pm12 cd12 ct12 oc13 kV13 dc13 pm13 cd13 ct13 oc14 kV14 dc14 pm14 cd14 ct14 oc15 kV15 dc15 pm15 cd15 ct15 oc16 kV16 dc16 pm16 cd16 ct16:Value}
    (a1:PySem.W.nsIn K mainGlobals "is_whole" = some (some (.ref f1))) (l1:K.lookup f1=some ⟨oc1,od1,.func (PySem.W.fnOf "is_whole" "is_whole" (Qar sWhole) (Qal sWhole) (Qaa sWhole) .none kV1 dc1 pm1 an1 cd1 ct1),sl1⟩) (c1:PySem.W.codeIn K cd1 "is_whole" = true) (k1:PySem.W.keepIn K (.ref f1)=true)
    (a2:PySem.W.nsIn K mainGlobals "is_whole_within" = some (some (.ref f2))) (l2:K.lookup f2=some ⟨oc2,od2,.func (PySem.W.fnOf "is_whole_within" "is_whole_within" (Qar sWithin) (Qal sWithin) (Qaa sWithin) .none kV2 dc2 pm2 an2 cd2 ct2),sl2⟩) (c2:PySem.W.codeIn K cd2 "is_whole_within" = true) (k2:PySem.W.keepIn K (.ref f2)=true)
    (a3:PySem.W.nsIn K mainGlobals "is_order" = some (some (.ref f3))) (l3:K.lookup f3=some ⟨oc3,od3,.func (PySem.W.fnOf "is_order" "is_order" (Qar sOrder) (Qal sOrder) (Qaa sOrder) .none kV3 dc3 pm3 an3 cd3 ct3),sl3⟩) (c3:PySem.W.codeIn K cd3 "is_order" = true) (k3:PySem.W.keepIn K (.ref f3)=true)
    (a4:PySem.W.nsIn K mainGlobals "picked" = some (some (.ref f4))) (l4:K.lookup f4=some ⟨oc4,od4,.func (PySem.W.fnOf "picked" "picked" (Qar sPicked) (Qal sPicked) (Qaa sPicked) .none kV4 dc4 pm4 an4 cd4 ct4),sl4⟩) (c4:PySem.W.codeIn K cd4 "picked" = true) (k4:PySem.W.keepIn K (.ref f4)=true)
    (a5:PySem.W.nsIn K mainGlobals "is_way" = some (some (.ref f5))) (l5:K.lookup f5=some ⟨oc5,od5,.func (PySem.W.fnOf "is_way" "is_way" (Qar sWay) (Qal sWay) (Qaa sWay) .none kV5 dc5 pm5 an5 cd5 ct5),sl5⟩) (c5:PySem.W.codeIn K cd5 "is_way" = true) (k5:PySem.W.keepIn K (.ref f5)=true)
    (a6:PySem.W.nsIn K mainGlobals "_law_cell_at" = some (some (.ref f6))) (l6:K.lookup f6=some ⟨oc6,od6,.func (PySem.W.fnOf "_law_cell_at" "_law_cell_at" (Qar lCellAt) (Qal lCellAt) (Qaa lCellAt) .none kV6 dc6 pm6 an6 cd6 ct6),sl6⟩) (c6:PySem.W.codeIn K cd6 "_law_cell_at" = true) (k6:PySem.W.keepIn K (.ref f6)=true)
    (a7:PySem.W.nsIn K mainGlobals "_law_pot" = some (some (.ref f7))) (l7:K.lookup f7=some ⟨oc7,od7,.func (PySem.W.fnOf "_law_pot" "_law_pot" (Qar lPot) (Qal lPot) (Qaa lPot) .none kV7 dc7 pm7 an7 cd7 ct7),sl7⟩) (c7:PySem.W.codeIn K cd7 "_law_pot" = true) (k7:PySem.W.keepIn K (.ref f7)=true)
    (a8:PySem.W.nsIn K mainGlobals "_law_take" = some (some (.ref f8))) (l8:K.lookup f8=some ⟨oc8,od8,.func (PySem.W.fnOf "_law_take" "_law_take" (Qar lTake) (Qal lTake) (Qaa lTake) .none kV8 dc8 pm8 an8 cd8 ct8),sl8⟩) (c8:PySem.W.codeIn K cd8 "_law_take" = true) (k8:PySem.W.keepIn K (.ref f8)=true)
    (a9:PySem.W.nsIn K mainGlobals "_law_whole" = some (some (.ref f9))) (l9:K.lookup f9=some ⟨oc9,od9,.func (PySem.W.fnOf "_law_whole" "_law_whole" (Qar lWhole) (Qal lWhole) (Qaa lWhole) .none kV9 dc9 pm9 an9 cd9 ct9),sl9⟩) (c9:PySem.W.codeIn K cd9 "_law_whole" = true) (k9:PySem.W.keepIn K (.ref f9)=true)
    (a10:PySem.W.nsIn K mainGlobals "_law_board" = some (some (.ref f10))) (l10:K.lookup f10=some ⟨oc10,od10,.func (PySem.W.fnOf "_law_board" "_law_board" (Qar lBoard) (Qal lBoard) (Qaa lBoard) .none kV10 dc10 pm10 an10 cd10 ct10),sl10⟩) (c10:PySem.W.codeIn K cd10 "_law_board" = true) (k10:PySem.W.keepIn K (.ref f10)=true)
    (a11:PySem.W.nsIn K mainGlobals "_law_order" = some (some (.ref f11))) (l11:K.lookup f11=some ⟨oc11,od11,.func (PySem.W.fnOf "_law_order" "_law_order" (Qar lOrder) (Qal lOrder) (Qaa lOrder) .none kV11 dc11 pm11 an11 cd11 ct11),sl11⟩) (c11:PySem.W.codeIn K cd11 "_law_order" = true) (k11:PySem.W.keepIn K (.ref f11)=true)
    (a12:PySem.W.nsIn K mainGlobals "_law_is_order" = some (some (.ref f12))) (l12:K.lookup f12=some ⟨oc12,od12,.func (PySem.W.fnOf "_law_is_order" "_law_is_order" (Qar lIsO) (Qal lIsO) (Qaa lIsO) .none kV12 dc12 pm12 an12 cd12 ct12),sl12⟩) (c12:PySem.W.codeIn K cd12 "_law_is_order" = true) (k12:PySem.W.keepIn K (.ref f12)=true)
    (a13:PySem.W.nsIn K mainGlobals "_law_led" = some (some (.ref f13))) (l13:K.lookup f13=some ⟨oc13,od13,.func (PySem.W.fnOf "_law_led" "_law_led" (Qar lLed) (Qal lLed) (Qaa lLed) .none kV13 dc13 pm13 an13 cd13 ct13),sl13⟩) (c13:PySem.W.codeIn K cd13 "_law_led" = true) (k13:PySem.W.keepIn K (.ref f13)=true)
    (a14:PySem.W.nsIn K mainGlobals "_law_is_way" = some (some (.ref f14))) (l14:K.lookup f14=some ⟨oc14,od14,.func (PySem.W.fnOf "_law_is_way" "_law_is_way" (Qar lIsWay) (Qal lIsWay) (Qaa lIsWay) .none kV14 dc14 pm14 an14 cd14 ct14),sl14⟩) (c14:PySem.W.codeIn K cd14 "_law_is_way" = true) (k14:PySem.W.keepIn K (.ref f14)=true)
    (a15:PySem.W.nsIn K mainGlobals "_law_bent" = some (some (.ref f15))) (l15:K.lookup f15=some ⟨oc15,od15,.func (PySem.W.fnOf "_law_bent" "_law_bent" (Qar lBent) (Qal lBent) (Qaa lBent) .none kV15 dc15 pm15 an15 cd15 ct15),sl15⟩) (c15:PySem.W.codeIn K cd15 "_law_bent" = true) (k15:PySem.W.keepIn K (.ref f15)=true)
    (a16:PySem.W.nsIn K mainGlobals "law" = some (some (.ref f16))) (l16:K.lookup f16=some ⟨oc16,od16,.func (PySem.W.fnOf "law" "law" (Qar sLaw) (Qal sLaw) (Qaa sLaw) .none kV16 dc16 pm16 an16 cd16 ct16),sl16⟩) (c16:PySem.W.codeIn K cd16 "law" = true) (k16:PySem.W.keepIn K (.ref f16)=true)
    (z1:PySem.W.nsIn K mainGlobals "isinstance" = some none)
    (z2:PySem.W.nsIn K mainGlobals "int" = some none)
    (z3:PySem.W.nsIn K mainGlobals "bool" = some none)
    (z4:PySem.W.nsIn K mainGlobals "str" = some none)
    (z5:PySem.W.nsIn K mainGlobals "tuple" = some none)
    (z6:PySem.W.nsIn K mainGlobals "list" = some none)
    (z7:PySem.W.nsIn K mainGlobals "all" = some none)
    (z8:PySem.W.nsIn K mainGlobals "len" = some none)
    (z9:PySem.W.nsIn K mainGlobals "zip" = some none)
    (z10:PySem.W.nsIn K mainGlobals "enumerate" = some none)
    (z11:PySem.W.nsIn K mainGlobals "range" = some none)
    (z12:PySem.W.nsIn K mainGlobals "max" = some none)
    (z13:PySem.W.nsIn K mainGlobals "min" = some none)
    (z14:PySem.W.nsIn K mainGlobals "sorted" = some none)
    (z15:PySem.W.nsIn K mainGlobals "sum" = some none)
    (z16:PySem.W.nsIn K mainGlobals "set" = some none)
    (z17:PySem.W.nsIn K mainGlobals "any" = some none)
    (z18:PySem.W.nsIn K mainGlobals "reversed" = some none)
    (z19:PySem.W.nsIn K mainGlobals "divmod" = some none)
    :
    ∃ fd:FuncData,(∀ (s:Shared) (v:Value),BindsTo s fd ⟨[v],[]⟩ [("_law_script",v)])/\∀ base:Heap,K.In base->base.Ns mainGlobals mg->FnOk l.prog w K mg base CX0 5 fa fd ["_law_script"] (Dl.spLawD K):=by
  have e:=hfa.symm.trans (PySem.W.mg_of X G a16)
  cases e
  have T:=(⟨(PySem.W.mg_none_of X G z1),(PySem.W.mg_none_of X G z2),(PySem.W.mg_none_of X G z3),(PySem.W.mg_none_of X G z4),(PySem.W.mg_none_of X G z5),(PySem.W.mg_none_of X G z6),(PySem.W.mg_none_of X G z7),(PySem.W.mg_none_of X G z8),(PySem.W.mg_none_of X G z9),(PySem.W.mg_none_of X G z10),(PySem.W.mg_none_of X G z11),(PySem.W.mg_none_of X G z12),(PySem.W.mg_none_of X G z13),(PySem.W.mg_none_of X G z14),(PySem.W.mg_none_of X G z15),(PySem.W.mg_none_of X G z16),(PySem.W.mg_none_of X G z17),(PySem.W.mg_none_of X G z18),(PySem.W.mg_none_of X G z19)⟩:GlbA mg)
  have F1:=QaV (st:=sWhole) l1 c1 k1
  have b1:=F1.binds (ps:=["thing"]) fun _ _ _ _ _ _ us hl=>match us,hl with | [_],_=>rfl
  have m1:=PySem.W.mg_of X G a1
  have F2:=QaV (st:=sWithin) l2 c2 k2
  have b2:=F2.binds (ps:=["thing", "least", "most"]) fun _ _ _ _ _ _ us hl=>match us,hl with | [_,_,_],_=>rfl
  have m2:=PySem.W.mg_of X G a2
  have F3:=QaV (st:=sOrder) l3 c3 k3
  have b3:=F3.binds (ps:=["many", "thing"]) fun _ _ _ _ _ _ us hl=>match us,hl with | [_,_],_=>rfl
  have m3:=PySem.W.mg_of X G a3
  have F4:=QaV (st:=sPicked) l4 c4 k4
  have b4:=F4.binds (ps:=["board", "rows", "columns"]) fun _ _ _ _ _ _ us hl=>match us,hl with | [_,_,_],_=>rfl
  have m4:=PySem.W.mg_of X G a4
  have F5:=QaV (st:=sWay) l5 c5 k5
  have b5:=F5.binds (ps:=["one", "other", "thing"]) fun _ _ _ _ _ _ us hl=>match us,hl with | [_,_,_],_=>rfl
  have m5:=PySem.W.mg_of X G a5
  have F6:=QaV (st:=lCellAt) l6 c6 k6
  have b6:=F6.binds (ps:=["_law_script", "_law_k"]) fun _ _ _ _ _ _ us hl=>match us,hl with | [_,_],_=>rfl
  have m6:=PySem.W.mg_of X G a6
  have F7:=QaV (st:=lPot) l7 c7 k7
  have b7:=F7.binds (ps:=["_law_cell"]) fun _ _ _ _ _ _ us hl=>match us,hl with | [_],_=>rfl
  have m7:=PySem.W.mg_of X G a7
  have F8:=QaV (st:=lTake) l8 c8 k8
  have b8:=F8.binds (ps:=["_law_pot_here", "_law_far"]) fun _ _ _ _ _ _ us hl=>match us,hl with | [_,_],_=>rfl
  have m8:=PySem.W.mg_of X G a8
  have F9:=QaV (st:=lWhole) l9 c9 k9
  have b9:=F9.binds (ps:=["_law_found"]) fun _ _ _ _ _ _ us hl=>match us,hl with | [_],_=>rfl
  have m9:=PySem.W.mg_of X G a9
  have F10:=QaV (st:=lBoard) l10 c10 k10
  have b10:=F10.binds (ps:=["_law_pot_here", "_law_high", "_law_wide"]) fun _ _ _ _ _ _ us hl=>match us,hl with | [_,_,_],_=>rfl
  have m10:=PySem.W.mg_of X G a10
  have F11:=QaV (st:=lOrder) l11 c11 k11
  have b11:=F11.binds (ps:=["_law_pot_here", "_law_many"]) fun _ _ _ _ _ _ us hl=>match us,hl with | [_,_],_=>rfl
  have m11:=PySem.W.mg_of X G a11
  have F12:=QaV (st:=lIsO) l12 c12 k12
  have b12:=F12.binds (ps:=["_law_thing", "_law_many"]) fun _ _ _ _ _ _ us hl=>match us,hl with | [_,_],_=>rfl
  have m12:=PySem.W.mg_of X G a12
  have F13:=QaV (st:=lLed) l13 c13 k13
  have b13:=F13.binds (ps:=["_law_board_here", "_law_rows", "_law_columns"]) fun _ _ _ _ _ _ us hl=>match us,hl with | [_,_,_],_=>rfl
  have m13:=PySem.W.mg_of X G a13
  have F14:=QaV (st:=lIsWay) l14 c14 k14
  have b14:=F14.binds (ps:=["_law_one", "_law_other", "_law_thing"]) fun _ _ _ _ _ _ us hl=>match us,hl with | [_,_,_],_=>rfl
  have m14:=PySem.W.mg_of X G a14
  have F15:=QaV (st:=lBent) l15 c15 k15
  have b15:=F15.binds (ps:=["_law_pot_here", "_law_way"]) fun _ _ _ _ _ _ us hl=>match us,hl with | [_,_],_=>rfl
  have m15:=PySem.W.mg_of X G a15
  have F16:=QaV (st:=sLaw) l16 c16 k16
  refine ⟨PySem.W.fnOf "law" "law" (Qar sLaw) (Qal sLaw) (Qaa sLaw) .none kV16 dc16 pm16 an16 cd16 ct16,fun s v=>.of_eq rfl,fun base _ _=>?_⟩
  have G1:FnOk l.prog w K mg base CX0 1 f1 _ ["thing"] (Dl.toSp false Dl.wholeD):=Qje F1 T 
  have G2:FnOk l.prog w K mg base CX0 2 f2 _ ["thing", "least", "most"] (Dl.toSp false Qe3):=Qhr F2 T m1 G1 b1 k1
  have G3:FnOk l.prog w K mg base CX0 3 f3 _ ["many", "thing"] (Dl.toSp false orD):=Qlz F3 T m2 G2 b2 k2
  have G4:FnOk l.prog w K mg base CX0 1 f4 _ ["board", "rows", "columns"] (Dl.toSp false Qk3):=Qht F4 T 
  have G5:FnOk l.prog w K mg base CX0 4 f5 _ ["one", "other", "thing"] (Dl.toSp false wayD):=Qjg F5 T m3 G3 b3 k3 m4 G4 b4 k4
  have G6:FnOk l.prog w K mg base CX0 1 f6 _ ["_law_script", "_law_k"] (Qb1 K):=Qhy F6 T 
  have G7:FnOk l.prog w K mg base CX0 1 f7 _ ["_law_cell"] (Dl.toSp true Dl.potD):=(ok_pot F7 T).imp fun _ _ _ _ h=>Dl.pot_d h
  have G8:FnOk l.prog w K mg base CX0 1 f8 _ ["_law_pot_here", "_law_far"] (Dl.toSp true Dl.takeD):=(Qhs F8 T).imp fun _ _ _ _ h=>Dl.take_d h
  have G9:FnOk l.prog w K mg base CX0 1 f9 _ ["_law_found"] (Dl.toSp false Dl.wholeD):=Qhv F9 T 
  have G10:FnOk l.prog w K mg base CX0 2 f10 _ ["_law_pot_here", "_law_high", "_law_wide"] (Dl.toSp false lb2D):=Qhx F10 T m8 G8 b8 k8
  have G11:FnOk l.prog w K mg base CX0 2 f11 _ ["_law_pot_here", "_law_many"] (Dl.toSp false Qfm):=(Qhu F11 T m8 ((Qhs F8 T).imp fun _ _ _ _ h=>QkC h) b8 k8).imp fun _ _ _ _ h=>Qlv h
  have G12:FnOk l.prog w K mg base CX0 2 f12 _ ["_law_thing", "_law_many"] (Dl.toSp false lorD):=Qjf F12 T m9 G9 b9 k9
  have G13:FnOk l.prog w K mg base CX0 1 f13 _ ["_law_board_here", "_law_rows", "_law_columns"] (Dl.toSp false Qjq):=ok_led F13 T 
  have G14:FnOk l.prog w K mg base CX0 3 f14 _ ["_law_one", "_law_other", "_law_thing"] (Dl.toSp false wayD):=Qhw F14 T m12 G12 b12 k12 m13 G13 b13 k13
  have G15:FnOk l.prog w K mg base CX0 2 f15 _ ["_law_pot_here", "_law_way"] (Dl.toSp false QdZ):=QlA F15 T m8 G8 b8 k8
  exact ok_law F16 T m6 G6 b6 k6 m7 G7 b7 k7 m8 G8 b8 k8 m10 G10 b10 k10 m11 G11 b11 k11 m13 G13 b13 k13 m15 G15 b15 k15 m5 G5 b5 k5 m14 G14 b14 k14
theorem walk {l:PySem.W.OpenLaw} {q:Program} {loose:List Str} {XP:(Str->Option Value)->Heap->Prop} {YP:World->Heap->Prop} {d:DefRec} {K:Params->PySem.W.Frag} (hn:l.most=some 63) (hdf:d.params.defaults=[])
    (hY:∀ (w:World) (h:Heap),YP w h->(K w.params).In h)
    (F:∀ (w:World) (mg:Str->Option Value) (fa:Addr) (h:Heap),(K w.params).In h->h.Ns mainGlobals mg->mg d.name=some (.ref fa) ->
      ∃ fd:FuncData,(∀ (s:Shared) (u:Value),BindsTo s fd ⟨[u],[]⟩ [("_law_script",u)])/\∀ base:Heap,(K w.params).In base->base.Ns mainGlobals mg->FnOk l.prog w (K w.params) mg base CX0 5 fa fd ["_law_script"] (Dl.spLawD (K w.params))) :
    PySem.W.WalkO q loose XP YP l.row.toRowW d [] (fun f vs=>PySem.call f vs):=
  L2.walk_of (n:=63) (k:=5) (x := "_law_script") (CX:=fun _=>CX0) (sp:=fun w=>(Dl.spLawD (K w.params))) hn (by decide) hdf ⟨rfl,by decide,by decide⟩ hY F (fun _ _ a ns hl _ hS=>⟨a,ns,rfl,hS,hl,fun _=>rfl⟩) fun _ _ _ _ _ z=>z
end Rk
open PySem PySem.W PyProof.Rows
set_option maxRecDepth 100000 in
set_option maxHeartbeats 0 in
theorem PySem.Challenge.cw_rooklands_k85_ways_that_lead_holds : PySem.Challenge.rw_rooklands_k85_ways_that_lead.Holds := by
  w_on;o_law;k_head;(case hw=>w_witness2)
  k_fill
  refine Rk.walk (l:=PySem.Challenge.rw_rooklands_k85_ways_that_lead) rfl rfl (fun w h Y=>PySem.W.kIn_of Y) ?F
  case F=>
    intro w mg fa h KX G hmg
    refine' Rk.all_mk KX G hmg ?a1 ?l1 ?c1 ?k1 ?a2 ?l2 ?c2 ?k2 ?a3 ?l3 ?c3 ?k3 ?a4 ?l4 ?c4 ?k4 ?a5 ?l5 ?c5 ?k5 ?a6 ?l6 ?c6 ?k6 ?a7 ?l7 ?c7 ?k7 ?a8 ?l8 ?c8 ?k8 ?a9 ?l9 ?c9 ?k9 ?a10 ?l10 ?c10 ?k10 ?a11 ?l11 ?c11 ?k11 ?a12 ?l12 ?c12 ?k12 ?a13 ?l13 ?c13 ?k13 ?a14 ?l14 ?c14 ?k14 ?a15 ?l15 ?c15 ?k15 ?a16 ?l16 ?c16 ?k16 ?z1 ?z2 ?z3 ?z4 ?z5 ?z6 ?z7 ?z8 ?z9 ?z10 ?z11 ?z12 ?z13 ?z14 ?z15 ?z16 ?z17 ?z18 ?z19
    (case a1=>k_is)
    (case l1=>k_is)
    (case c1=>k_is)
    (case k1=>k_is)
    (case a2=>k_is)
    (case l2=>k_is)
    (case c2=>k_is)
    (case k2=>k_is)
    (case a3=>k_is)
    (case l3=>k_is)
    (case c3=>k_is)
    (case k3=>k_is)
    (case a4=>k_is)
    (case l4=>k_is)
    (case c4=>k_is)
    (case k4=>k_is)
    (case a5=>k_is)
    (case l5=>k_is)
    (case c5=>k_is)
    (case k5=>k_is)
    (case a6=>k_is)
    (case l6=>k_is)
    (case c6=>k_is)
    (case k6=>k_is)
    (case a7=>k_is)
    (case l7=>k_is)
    (case c7=>k_is)
    (case k7=>k_is)
    (case a8=>k_is)
    (case l8=>k_is)
    (case c8=>k_is)
    (case k8=>k_is)
    (case a9=>k_is)
    (case l9=>k_is)
    (case c9=>k_is)
    (case k9=>k_is)
    (case a10=>k_is)
    (case l10=>k_is)
    (case c10=>k_is)
    (case k10=>k_is)
    (case a11=>k_is)
    (case l11=>k_is)
    (case c11=>k_is)
    (case k11=>k_is)
    (case a12=>k_is)
    (case l12=>k_is)
    (case c12=>k_is)
    (case k12=>k_is)
    (case a13=>k_is)
    (case l13=>k_is)
    (case c13=>k_is)
    (case k13=>k_is)
    (case a14=>k_is)
    (case l14=>k_is)
    (case c14=>k_is)
    (case k14=>k_is)
    (case a15=>k_is)
    (case l15=>k_is)
    (case c15=>k_is)
    (case k15=>k_is)
    (case a16=>k_is)
    (case l16=>k_is)
    (case c16=>k_is)
    (case k16=>k_is)
    (case z1=>k_is)
    (case z2=>k_is)
    (case z3=>k_is)
    (case z4=>k_is)
    (case z5=>k_is)
    (case z6=>k_is)
    (case z7=>k_is)
    (case z8=>k_is)
    (case z9=>k_is)
    (case z10=>k_is)
    (case z11=>k_is)
    (case z12=>k_is)
    (case z13=>k_is)
    (case z14=>k_is)
    (case z15=>k_is)
    (case z16=>k_is)
    (case z17=>k_is)
    (case z18=>k_is)
    (case z19=>k_is)
