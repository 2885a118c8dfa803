import PyProof.Rows.All
import Wide.All
import OpenK.AllK
import Wide.FinOn
import Lean
import PyProof.EqAt
import PyProof.EqKinds
import PyProof.TupleCall
import PyProof.Rows.SortRuns
import PyProof.Rows.SortShellK
import PyProof.P3Eq
import PyProof.Draws
import PyProof.EnumMake
import PyProof.NeData
import KE.LcSums
import PyProof.WalkInts
import PyProof.SeqI3
import KE.KSortTup
import KE.KRevIter
import PyProof.FactsAll.range_2
import PyProof.MinMaxWalk
import PyProof.WalksMore
import PyProof.SetRoads
import PyProof.FactsAll.set_1
import PyProof.Rows.SetFrom
import PyProof.CollectWalk
import PyProof.Walks
import PyProof.TupleIter
import PyProof.TupleKey
import PySem.Challenge.RW_rooklands_k61_what_are_stairs
set_option Elab.async false
set_option linter.all false
set_option maxRecDepth 100000
namespace L2
open PySem PySem.Spec PyProof.Rows
abbrev Key:=Sum Int Str
def keyIs:Key->Value->Bool
  | .inl k,v=>Value.isInt k v
  | .inr x,v=>Value.isStrOf x v
def keyH (w:World):Key->Int
  | .inl k=>hashInt k
  | .inr x=>hashStr w x
theorem QaA:∀ {k:Key} {v:Value},keyIs k v=true->(∃ i t,k=Sum.inl i/\v=Value.int i t)∨(∃ x t,k=Sum.inr x/\v=Value.str x t)
  | .inl i,v,h=>by
    obtain ⟨t,e⟩:=Value.isInt_shape (k:=i) (v:=v) h
    exact .inl ⟨i,t,rfl,e⟩
  | .inr x,v,h=>by
    obtain ⟨t,e⟩:=Value.isStrOf_shape (x:=x) (v:=v) h
    exact .inr ⟨x,t,rfl,e⟩
theorem key_ll (a b:Int):decide ((Sum.inl a:Key)=Sum.inl b)=(a == b):=by
  by_cases e:a=b
  · subst e;simp
  · have h:¬ (Sum.inl a:Key)=Sum.inl b:=fun q=>e (Sum.inl.inj q)
    rw [decide_eq_false h]
    exact (beq_eq_false_iff_ne.mpr e).symm
theorem key_rr (a b:Str):decide ((Sum.inr a:Key)=Sum.inr b)=decide (a=b):=by
  by_cases e:a=b
  · subst e;simp
  · have h:¬ (Sum.inr a:Key)=Sum.inr b:=fun q=>e (Sum.inr.inj q)
    rw [decide_eq_false h,decide_eq_false e]
theorem key_lr (a:Int) (b:Str):decide ((Sum.inl a:Key)=Sum.inr b)=false:=decide_eq_false (fun q=>nomatch q)
theorem key_rl (a:Str) (b:Int):decide ((Sum.inr a:Key)=Sum.inl b)=false:=decide_eq_false (fun q=>nomatch q)
def QhU (prog:Program) (w:World):PySem.KeyKind prog w Key where
  is:=keyIs
  hash:=keyH w
  inj:=fun v a b ha hb=>by
    rcases QaA ha with ⟨i,t,rfl,rfl⟩ | ⟨x,t,rfl,rfl⟩
    · rcases QaA hb with ⟨j,u,rfl,e⟩ | ⟨y,u,rfl,e⟩
      · injection e with e1 _;rw [e1]
      · exact nomatch e
    · rcases QaA hb with ⟨j,u,rfl,e⟩ | ⟨y,u,rfl,e⟩
      · exact nomatch e
      · injection e with e1 _;rw [e1]
  byValue:=fun k v h=>by
    rcases QaA h with ⟨i,t,rfl,rfl⟩ | ⟨x,t,rfl,rfl⟩<;>rfl
  pyHash:=fun hv h=>by
    rcases QaA hv with ⟨i,t,rfl,rfl⟩ | ⟨x,t,rfl,rfl⟩
    · exact wpAny_pyHash_int h
    · exact wpAny_pyHash_str h
  eqBool:=fun hu hv h=>by
    rcases QaA hu with ⟨i,t,rfl,rfl⟩ | ⟨x,t,rfl,rfl⟩
    · rcases QaA hv with ⟨j,u,rfl,rfl⟩ | ⟨y,u,rfl,rfl⟩
      · rw [key_ll] at h;exact wpAny_eqBool_int h
      · rw [key_lr] at h;exact SeqAt.EqAt.int_str i t y u _ _ _ _ h
    · rcases QaA hv with ⟨j,u,rfl,rfl⟩ | ⟨y,u,rfl,rfl⟩
      · rw [key_rl] at h;exact SeqAt.EqAt.str_int x t j u _ _ _ _ h
      · rw [key_rr] at h;exact wpAny_eqBool_str h
  «strs» := fun k x t v h=>by
    rcases QaA h with ⟨i,u,rfl,e⟩ | ⟨y,u,rfl,e⟩
    · exact nomatch e
    · injection e with e1 _
      subst e1
      cases v<;>rfl
inductive V where
  | non | bl (b:Bool) | int (i:Int) | str (x:Str) | byt (b:Array UInt8) | flt (b:UInt64) | ref (a:Addr) | ty (n:String)
  deriving DecidableEq
def RelV:V->Value->Prop
  | .non,u=>u=Value.none
  | .bl b,u=>u=Value.bool b
  | .int i,u=>∃ t,u=Value.int i t
  | .str x,u=>∃ t,u=Value.str x t
  | .byt b,u=>∃ t,u=Value.bytes b t
  | .flt b,u=>∃ t,u=Value.float b t
  | .ref a,u=>u=Value.ref a
  | .ty n,u=>u=Value.type n
abbrev Vals:List V->List Value->Prop:=Paired RelV
theorem Vals.length {xs:List V} {us:List Value} (r:Vals xs us):xs.length=us.length:=Paired.length r
theorem Vals.get:∀ {xs:List V} {us:List Value} {i:Nat} {x:V},Vals xs us->xs[i]? = some x->∃ u,us[i]? = some u/\RelV x u
  | _,_,_,_,.nil,e=>by simp at e
  | _,_,0,_,.cons r _,e=>by simp at e;subst e;exact ⟨_,rfl,r⟩
  | _,_,i+1,x,.cons _ t,e=>by
    obtain ⟨u,h1,h2⟩:=Vals.get (i:=i) (x:=x) t (by simpa using e)
    exact ⟨u,by simpa using h1,h2⟩
theorem Vals.set {x:V} {u:Value} (r:RelV x u):∀ {xs:List V} {us:List Value} (i:Nat),Vals xs us->Vals (xs.set i x) (us.set i u)
  | _,_,_,.nil=>.nil
  | _,_,0,.cons _ t=>.cons r t
  | _,_,i+1,.cons q t=>.cons q (Vals.set r i t)
theorem Vals.append:∀ {xs ys:List V} {us ws:List Value},Vals xs us->Vals ys ws->Vals (xs++ys) (us++ws)
  | _,_,_,_,.nil,s=>s
  | _,_,_,_,.cons r t,s=>.cons r (Vals.append t s)
theorem Vals.take:∀ {xs:List V} {us:List Value} (n:Nat),Vals xs us->Vals (xs.take n) (us.take n)
  | _,_,0,_=>.nil
  | _,_,_+1,.nil=>.nil
  | _,_,n+1,.cons r t=>.cons r (Vals.take n t)
theorem Vals.drop:∀ {xs:List V} {us:List Value} (n:Nat),Vals xs us->Vals (xs.drop n) (us.drop n)
  | _,_,0,r=>r
  | _,_,_+1,.nil=>.nil
  | _,_,n+1,.cons _ t=>Vals.drop n t
def RelO:Option V->Option Value->Prop
  | some v,some u=>RelV v u
  | none,none=>True
  | _,_=>False
def KV {κ:Type}:List (κ×V)->List (κ×Value)->Prop:=Paired fun (p:κ×V) (q:κ×Value)=>p.1=q.1/\RelV p.2 q.2
def kV:Key->V
  | .inl i=>.int i
  | .inr x=>.str x
inductive HO where
  /-- a list -/
  | lst (xs:List V)
  /-- a tuple (never changes) -/
  | tup (xs:List V)
  /-- a dict whose keys are ints and texts;one whose keys are tuples of ints and texts (the empty one is both) -/
  | dK (kvs:List (Key×V)) | dT (kvs:List (List Key×V))
  /-- a set of ints: its members,its size -/
  | set (S:Int->Bool) (n:Nat)
  /-- an instance of the class at C,its dict at dx,its attributes -/
  | ins (C dx:Addr) (fs:List (Str×V))
  /-- the dict of the instance at x -/
  | own (x:Addr)
  /-- the dict of an exception -/
  | xd (fs:List (Str×V))
  /-- a bound method,f of x -/
  | met (f x:Addr)
  /-- a range object lo,lo+1,.. below hi -/
  | rng (lo hi:Int)
  /-- a thing that is known to the object (the script;a dict while a loop walks it): read,never written while it is so -/
  | frz (o:Obj) (u:HO)
  /-- a code object's table -/
  | tbl (ps:Array Value)
  /-- any other thing,by what is true of its one object (a def of one's own: SetO a S n:=HO.ext fun h=>..) -/
  | ext (φ:Heap->Prop)
abbrev Hp:=Addr->Option HO
def upd (H:Hp) (a:Addr) (o:HO):Hp:=fun b=>if b=a then some o else H b
theorem Qad {H:Hp} {a:Addr} {o:HO}:upd H a o a=some o:=by unfold upd;rw [if_pos rfl]
theorem Qai {H:Hp} {a b:Addr} {o:HO} (h:b≠a):upd H a o b=H b:=by unfold upd;rw [if_neg h]
theorem Qat {H:Hp} {a b:Addr} {o:HO} (h:H a=some o) (h':H b=none):a≠b:=by
  intro e;subst e;rw [h] at h';cases h'
section
variable (P:Program) (w:World)
def ObjOk (H:Hp) (h:Heap) (a:Addr):HO->Prop
  | .lst xs=>xs.length<=sizeLine/\∃ (its:List Value) (n:Nat),Vals xs its/\h.get? a=some { cls:=.type "list",data:=.seq its.toArray n }
  | .tup xs=>xs.length<=sizeLine/\∃ its:List Value,Vals xs its/\IsTup h a its.toArray
  | .dK kvs=>kvs.length<=sizeLine/\(a == sysModules)=false/\∃ vs,KV kvs vs/\h.DictOf (QhU P w) a vs
  | .dT kvs=>kvs.length<=sizeLine/\(a == sysModules)=false/\∃ xs:List (List Key×Addr×Value),
      Paired (fun (p:List Key×V) (q:List Key×Addr×Value)=>p.1=q.1/\H q.2.1=some (.tup (p.1.map kV))/\RelV p.2 q.2.2) kvs xs /\
      ∃ o es ep,h.get? a=some o/\o.ExactDict/\o.data=.dict es ep/\es.toList=xs.map (entryOfKey (tupleKind (QhU P w)))/\(xs.map (·.1)).Nodup
  | .set S n=>h.SetOf (intKind P w) a S n
  | .ins C dx fs=>H dx=some (.own a)/\fs.length<=1000/\dx≠a/\h.get? a=some (PySem.W.instObj C dx) /\
      ∃ mA,h.Ns1 dx mA/\(∀ f,RelO (fs.lookup f) (mA f))/\PySem.Within mA (fs.map (·.1))
  | .own _=>∃ o,h.get? a=some o
  | .xd fs=>∃ mA,h.Ns1 a mA/\∀ f,RelO (fs.lookup f) (mA f)
  | .rng lo hi=>∃ t u v,h.get? a=some { cls:=.type "range",data:=.fields #[.int lo t,.int hi u,.int 1 v] }
  | .frz o u=>h.get? a=some o/\ObjOk H h a u
  | .tbl ps=>h.get? a=some { cls:=.none,data:=.fields ps }
  | .met f x=>h.get? a=some (PySem.W.methodObj (.ref f) (.ref x))
  | .ext φ=>φ h/\(∃ o,h.get? a=some o)/\∀ h1 h2:Heap,φ h1->(∀ o,h1.get? a=some o->h2.get? a=some o)->φ h2
def HOk (H:Hp) (h:Heap):Prop:=∀ a o,H a=some o->ObjOk P w H h a o
end
section
variable {P:Program} {w:World} {H H':Hp} {h h':Heap} {a:Addr} {o:HO}
theorem ObjOk.lt (x:ObjOk P w H h a o):a<h.objs.size:=by
  cases o with
  | lst xs=>obtain ⟨_,_,_,_,e⟩:=x;exact Heap.lt_size e
  | tup xs=>obtain ⟨_,_,_,p⟩:=x;exact p.lt
  | dK kvs=>obtain ⟨_,_,_,_,o,_,_,e,_⟩:=x;exact Heap.lt_size e
  | dT kvs=>obtain ⟨_,_,_,_,o,_,_,e,_⟩:=x;exact Heap.lt_size e
  | set S n=>obtain ⟨o,_,_,_,e,_⟩:=x;exact Heap.lt_size e
  | ins C dx fs=>obtain ⟨_,_,_,e,_⟩:=x;exact Heap.lt_size e
  | own y=>obtain ⟨_,e⟩:=x;exact Heap.lt_size e
  | xd fs=>obtain ⟨_,⟨_,_,_,e,_⟩,_⟩:=x;exact Heap.lt_size e
  | rng lo hi=>obtain ⟨_,_,_,e⟩:=x;exact Heap.lt_size e
  | frz ob u=>obtain ⟨e,_⟩:=x;exact Heap.lt_size e
  | tbl ps=>exact Heap.lt_size (show h.get? a=some _ from x)
  | met f y=>exact Heap.lt_size (show h.get? a=some _ from x)
  | ext φ=>obtain ⟨_,⟨_,e⟩,_⟩:=x;exact Heap.lt_size e
theorem Paired.mapP {α β:Type} {F G:α->β->Prop}:∀ {l₁:List α} {l₂:List β},Paired F l₁ l₂->(∀ a b,F a b->G a b)->Paired G l₁ l₂
  | _,_,.nil,_=>.nil
  | _,_,.cons r t,f=>.cons (f _ _ r) (Paired.mapP t f)
theorem ObjOk.stay (x:ObjOk P w H h a o) (k:∀ b u,(b=a∨H b=some (.own a))->h.get? b=some u->h'.get? b=some u)
    (ho:∀ b,H b=some (.own a)->H' b=some (.own a)) (ht:∀ b xs,H b=some (.tup xs)->H' b=some (.tup xs)):ObjOk P w H' h' a o:=by
  induction o with
  | lst xs=>obtain ⟨z,its,n,r,e⟩:=x;exact ⟨z,its,n,r,k _ _ (.inl rfl) e⟩
  | tup xs=>obtain ⟨z,its,r,ob,e,c⟩:=x;exact ⟨z,its,r,ob,k _ _ (.inl rfl) e,c⟩
  | dK kvs=>obtain ⟨z,y,vs,r,ob,es,ep,e,c⟩:=x;exact ⟨z,y,vs,r,ob,es,ep,k _ _ (.inl rfl) e,c⟩
  | dT kvs=>
    obtain ⟨z,y,xs,r,ob,es,ep,e,c⟩:=x
    exact ⟨z,y,xs,Paired.mapP r fun p q z=>⟨z.1,ht _ _ z.2.1,z.2.2⟩,ob,es,ep,k _ _ (.inl rfl) e,c⟩
  | set S n=>obtain ⟨ob,es,ep,t,e,c⟩:=x;exact ⟨ob,es,ep,t,k _ _ (.inl rfl) e,c⟩
  | ins C dx fs=>
    obtain ⟨d,z,ne,e,mA,⟨od,es,ep,e2,c⟩,r⟩:=x
    exact ⟨ho _ d,z,ne,k _ _ (.inl rfl) e,mA,⟨od,es,ep,k _ _ (.inr d) e2,c⟩,r⟩
  | own y=>obtain ⟨ob,e⟩:=x;exact ⟨ob,k _ _ (.inl rfl) e⟩
  | xd fs=>obtain ⟨mA,⟨od,es,ep,e,c⟩,r⟩:=x;exact ⟨mA,⟨od,es,ep,k _ _ (.inl rfl) e,c⟩,r⟩
  | rng lo hi=>obtain ⟨t,u,v,e⟩:=x;exact ⟨t,u,v,k _ _ (.inl rfl) e⟩
  | frz ob u ih=>obtain ⟨e,q⟩:=x;exact ⟨k _ _ (.inl rfl) e,ih q⟩
  | tbl ps=>
    have e:h.get? a=some { cls:=.none,data:=.fields ps }:=x
    show h'.get? a=some { cls:=.none,data:=.fields ps }
    exact k a _ (.inl rfl) e
  | met f y=>
    have e:h.get? a=some (PySem.W.methodObj (.ref f) (.ref y)):=x
    show h'.get? a=some (PySem.W.methodObj (.ref f) (.ref y))
    exact k a _ (.inl rfl) e
  | ext φ=>obtain ⟨p,⟨o,e⟩,st⟩:=x;exact ⟨st _ _ p fun o q=>k _ _ (.inl rfl) q,⟨o,k _ _ (.inl rfl) e⟩,st⟩
theorem HOk.lt (x:HOk P w H h) (e:H a=some o):a<h.objs.size:=(x a o e).lt
theorem HOk.fresh (x:HOk P w H h) (e:h.objs.size<=a):H a=none:=by
  cases q:H a with
  | none=>rfl
  | some u=>exact absurd (Nat.lt_of_lt_of_le (x.lt q) e) (Nat.lt_irrefl _)
theorem HOk.kept (x:HOk P w H h) (k:∀ b u,h.get? b=some u->h'.get? b=some u):HOk P w H h':=fun a o e=>
  (x a o e).stay (fun b u _ q=>k b u q) (fun _ q=>q) fun _ _ q=>q
theorem HOk.laid (x:HOk P w H h) (k:∀ b u,h.get? b=some u->h'.get? b=some u) (hp:h.objs.size<=a) (new:ObjOk P w (upd H a o) h' a o):HOk P w (upd H a o) h':=fun b u e=>by
  have hn:=x.fresh hp
  by_cases hb:b=a
  · subst hb;rw [Qad] at e;cases e;exact new
  · rw [Qai hb] at e
    exact (x b u e).stay (fun c v _ q=>k c v q) (fun c q=>by rw [Qai (Qat q hn)];exact q) fun c xs q=>by rw [Qai (Qat q hn)];exact q
end
def Rd (H:Hp) (a:Addr) (u:HO):Prop:=H a=some u∨∃ o,H a=some (.frz o u)
theorem Rd.of {H:Hp} {a:Addr} {u:HO} (h:H a=some u):Rd H a u:=.inl h
theorem Rd.ok {P:Program} {w:World} {H:Hp} {h:Heap} {a:Addr} {u:HO} (r:Rd H a u) (x:HOk P w H h):ObjOk P w H h a u:=by
  rcases r with r | ⟨o,r⟩
  · exact x a u r
  · obtain ⟨_,q⟩:=x a _ r
    exact q
def Mut:Option HO->Prop
  | some (.lst _)=>True
  | some (.dK _)=>True
  | some (.dT _)=>True
  | some (.set _ _)=>True
  | some (.ins _ _ _)=>True
  | some (.ext _)=>True
  | _=>False
section
variable {P:Program} {w:World} {H:Hp} {h h':Heap} {x e:Addr} {o':HO}
theorem HOk.write (ok:HOk P w H h) (mu:Mut (H x)) (he:e=x∨H e=some (.own x)) (k:∀ b u,b≠e->h.get? b=some u->h'.get? b=some u) (heo:∃ u,h'.get? e=some u)
    (new:ObjOk P w (upd H x o') h' x o'):HOk P w (upd H x o') h':=fun b u q=>by
  have nown:∀ c y,H c=some (.own y)->c≠x:=fun c y r z=>by subst z;rw [r] at mu;exact mu
  have ntup:∀ c xs,H c=some (.tup xs)->c≠x:=fun c xs r z=>by subst z;rw [r] at mu;exact mu
  by_cases hb:b=x
  · subst hb;rw [Qad] at q;cases q;exact new
  · rw [Qai hb] at q
    by_cases hbe:b=e
    · have q':H b=some (.own x):=by
        rcases he with z | z
        · exact absurd (hbe.trans z) hb
        · rw [hbe];exact z
      rw [q] at q';cases q'
      obtain ⟨v,hv⟩:=heo
      exact ⟨v,by rw [hbe];exact hv⟩
    · refine (ok b u q).stay (fun c v hc r=>k c v ?_ r) (fun c r=>by rw [Qai (nown c b r)];exact r) fun c xs r=>by rw [Qai (ntup c xs r)];exact r
      rcases hc with rfl | hc
      · exact hbe
      · rintro rfl
        rcases he with z | z
        · exact nown c b hc z
        · rw [hc] at z;cases z;exact hb rfl
end
structure Un (fs ex:List Addr) (H H':Hp) (h h':Heap):Prop where
  keep:∀ b o,h.get? b=some o->H b=none->b∉fs->b∉ex->h'.get? b=some o
  slot:∀ b o,h.get? b=some o->H b=none->b∈fs->b∉ex->∃ sl,h'.get? b=some { o with slots:=sl }
  free:∀ b o,h.get? b=some o->H b=none->b∉ex->H' b=none
  there:∀ b o,h.get? b=some o->b∉ex->∃ o',h'.get? b=some o'
  tups:∀ b xs,H b=some (.tup xs)->H' b=some (.tup xs)
  frzs:∀ b o u,H b=some (.frz o u)->H' b=some (.frz o u)
  tbls:∀ b ps,H b=some (.tbl ps)->∃ more,H' b=some (.tbl (ps++more))
section
variable {fs fs' ex ex':List Addr} {H H1 H2:Hp} {h h1 h2 h':Heap} {a x e:Addr} {o:HO}
theorem Un.any (u:Un fs ex H H1 h h1) {b:Addr} {ob:Obj} (q:h.get? b=some ob) (n:H b=none) (hx:b∉ex):∃ sl,h1.get? b=some { ob with slots:=sl }:=by
  by_cases hb:b∈fs
  · exact u.slot b ob q n hb hx
  · exact ⟨ob.slots,u.keep b ob q n hb hx⟩
theorem Un.trans (a:Un fs ex H H1 h h1) (b:Un fs ex H1 H2 h1 h2):Un fs ex H H2 h h2 where
  keep:=fun c ob q n hc hx=>b.keep c ob (a.keep c ob q n hc hx) (a.free c ob q n hx) hc hx
  slot:=fun c ob q n hc hx=>by
    obtain ⟨sl,e1⟩:=a.slot c ob q n hc hx
    obtain ⟨sl',e2⟩:=b.slot c _ e1 (a.free c ob q n hx) hc hx
    exact ⟨sl',e2⟩
  free:=fun c ob q n hx=>by
    obtain ⟨o',e1⟩:=a.there c ob q hx
    exact b.free c o' e1 (a.free c ob q n hx) hx
  there:=fun c ob q hx=>by
    obtain ⟨o',e1⟩:=a.there c ob q hx
    exact b.there c o' e1 hx
  tups:=fun c xs q=>b.tups c xs (a.tups c xs q)
  frzs:=fun c ob xs q=>b.frzs c ob xs (a.frzs c ob xs q)
  tbls:=fun c ps q=>by
    obtain ⟨m1,e1⟩:=a.tbls c ps q
    obtain ⟨m2,e2⟩:=b.tbls c _ e1
    exact ⟨m1++m2,by rw [e2,Array.append_assoc]⟩
theorem Un.kept (k:∀ b u,h.get? b=some u->h'.get? b=some u):Un fs ex H H h h':=
  ⟨fun b ob q _ _ _=>k b ob q,fun b ob q _ _ _=>⟨ob.slots,k b ob q⟩,fun _ _ _ n _=>n,fun b ob q _=>⟨ob,k b ob q⟩,fun _ _ q=>q,fun _ _ _ q=>q,fun _ ps q=>⟨#[],by rw [q];simp⟩⟩
theorem Un.refl:Un fs ex H H h h:=Un.kept fun _ _ q=>q
theorem Un.laid (k:∀ b u,h.get? b=some u->h'.get? b=some u) (hp:h.objs.size<=a) (hn:H a=none):Un fs ex H (upd H a o) h h' where
  keep:=fun b u q _ _ _=>k b u q
  slot:=fun b u q _ _ _=>⟨u.slots,k b u q⟩
  free:=fun b u q n _=>by rw [Qai (Nat.ne_of_lt (Nat.lt_of_lt_of_le (Heap.lt_size q) hp))];exact n
  there:=fun b u q _=>⟨u,k b u q⟩
  tups:=fun b xs q=>by rw [Qai (Qat q hn)];exact q
  frzs:=fun b u xs q=>by rw [Qai (Qat q hn)];exact q
  tbls:=fun b ps q=>⟨#[],by rw [Qai (Qat q hn),q];simp⟩
theorem Un.write (mu:Mut (H x)) (he:e=x∨H e=some (.own x)) (k:∀ b u,b≠e->h.get? b=some u->h'.get? b=some u) (heo:∃ u,h'.get? e=some u):Un fs ex H (upd H x o) h h':=by
  have hx:∀ b,H b=none->b≠x:=fun b n z=>by subst z;rw [n] at mu;exact mu
  have hb:∀ b,H b=none->b≠e:=fun b n z=>by
    subst z
    rcases he with r | r
    · exact hx b n r
    · rw [n] at r;cases r
  have hm:∀ b u,H b=some u->¬ Mut (some u)->b≠x:=fun b u q nm z=>by subst z;rw [q] at mu;exact nm mu
  refine ⟨fun b u q n _ _=>k b u (hb b n) q,fun b u q n _ _=>⟨u.slots,k b u (hb b n) q⟩,fun b u q n _=>by rw [Qai (hx b n)];exact n,fun b u q _=>?_,
    fun b xs q=>by rw [Qai (hm b _ q fun z=>z)];exact q,fun b u xs q=>by rw [Qai (hm b _ q fun z=>z)];exact q,fun b ps q=>⟨#[],by rw [Qai (hm b _ q fun z=>z),q];simp⟩⟩
  by_cases hbe:b=e
  · subst hbe;exact heo
  · exact ⟨u,k b u hbe q⟩
theorem Un.mono (u:Un fs ex H H1 h h1) (hs:∀ b∈fs,b∈fs') (hx:∀ b∈ex,b∈ex'):Un fs' ex' H H1 h h1:=
  ⟨fun b ob q n hb he=>u.keep b ob q n (fun z=>hb (hs b z)) fun z=>he (hx b z),fun _ _ q n _ he=>u.any q n fun z=>he (hx _ z),fun b ob q n he=>u.free b ob q n fun z=>he (hx b z),fun b ob q he=>u.there b ob q fun z=>he (hx b z),u.tups,u.frzs,u.tbls⟩
end
def trk (h:Heap) (H:Hp):List Addr:=(List.range h.objs.size).filter fun a=>(H a).isSome
def hidT (h:Heap) (H:Hp):Heap:=PySem.W.hideAll h (trk h H)
theorem Qh9 (h:Heap) (H:Hp):(hidT h H).objs.size=h.objs.size:=PySem.W.hideAll_size _ _
theorem Qj6 {h:Heap} {H:Hp} {b:Addr} {o:Obj} (e:h.get? b=some o) (n:H b=none):(hidT h H).get? b=some o:=
  PySem.W.hideAll_get _ e fun hm=>by
    have q:(H b).isSome=true:=(List.mem_filter.mp hm).2
    rw [n] at q;simp at q
theorem Ql9 {h:Heap} {H:Hp} {b:Addr} {o:Obj} (e:(hidT h H).get? b=some o):h.get? b=some o/\H b=none:=by
  have e':h.get? b=some o:=PySem.W.of_hideAll (trk h H) e
  refine ⟨e',?_⟩
  cases q:H b with
  | none=>rfl
  | some x=>
    have hm:b∈trk h H:=List.mem_filter.mpr ⟨List.mem_range.mpr (Heap.lt_size e'),by simp [q]⟩
    have z:(hidT h H).get? b=none:=PySem.W.hideAll_none (trk h H) hm
    rw [z] at e;cases e
def QmL (g h:Heap) (L:Addr):List (Addr×Obj):=(List.range h.objs.size).filterMap fun a=>if a=L∨(g.get? a).isSome=true then none else (h.get? a).map fun o=>(a,o)
def rest (g h:Heap) (L d:Addr):List (Addr×Obj):=(QmL g h L).filter fun p=>decide (p.1≠d)
structure Mod (K:PySem.W.Frag) (mg:Str->Option Value) (base:Heap):Prop where
  kin:K.In base
  glob:base.Ns mainGlobals mg
  blt:∃ mb,base.Ns builtinsNs mb/\∀ x:Str,x ≠ "__name__" -> mb x=bootBuiltins x
  nolimit:base.NoLimit
structure Cx where
  prog:Program
  w:World
  K:PySem.W.Frag
  mg:Str->Option Value
  base:Heap
  A:Around
  N:List Str
  s₀:Shared
  H₀:Hp
  env:Env
  outer:List Env
  stack:List Env
  ex:List Addr
  fn:Str->Bool
  calm:Bool
  pn:List (Addr×Obj)
  xe:Value->Shared->Prop
def frs (l:List Env):List Addr:=l.filterMap (·.frame)
abbrev Cx.fs (X:Cx):List Addr:=frs X.outer
def Vis (sc:Scope) (x:Str):Prop:=sc.names.lookup x=some .local∨sc.names.lookup x=some .cell∨sc.names.lookup x=some .free
def Loc (sc:Scope) (x:Str):Prop:=sc.names.lookup x=some .local∨sc.names.lookup x=some .cell
def Look (env:Env) (h:Heap) (m:Str->Option Value) (x:Str) (u:Value):Prop:=
  (env.kindOf x=some .local/\m x=some u)∨((env.kindOf x=some .cell∨env.kindOf x=some .free)/\∃ c,env.cells.lookup x=some c/\h.IsCell c (some u))
structure Cx.Ok (X:Cx):Prop where
  mod:Mod X.K X.mg X.base
  kind:X.env.scope.kind=.function
  glob:X.env.globals=mainGlobals
  blt:X.env.builtins=builtinsNs
  above:X.s₀.heap.objs.size<=X.env.locals
  inj:∀ x y c,X.env.cells.lookup x=some c->X.env.cells.lookup y=some c->x=y
  has:∀ x,(X.env.kindOf x=some .cell∨X.env.kindOf x=some .free)->∃ c,X.env.cells.lookup x=some c
  cab:∀ x c,X.fn x=true->X.env.cells.lookup x=some c->X.s₀.heap.objs.size<=c
  hd:X.calm=true->X.A.handled=none
  frames:X.A.frames=some X.stack
  stk:X.stack=X.outer∨(X.stack=X.env::X.outer/\X.env.frame=some X.env.locals)
  exf:∀ b∈X.ex,b≠X.env.locals/\∀ x c,X.env.cells.lookup x=some c->c≠b
  bs:∀ b o,X.base.get? b=some o->X.s₀.heap.get? b=some o/\X.H₀ b=none
  bsz:X.base.objs.size<=X.s₀.heap.objs.size
  noex:∀ b o,X.base.get? b=some o->b∉X.ex
  exfs:∀ b∈X.ex,b∉X.fs
  funs:X.s₀.heap.FunFrames X.base X.outer
  frf:∀ b∈X.fs,X.H₀ b=none
structure Inv (X:Cx) (pins:List (Addr×Obj)) (σ:List (Option V)) (H:Hp) (s:Shared):Prop where
  ok:X.Ok
  os:s.os=X.s₀.os
  bare:AllBare s.gens
  base:Un X.fs X.ex X.H₀ H X.s₀.heap s.heap
  loc:∃ m,s.heap.Ns X.env.locals m/\∀ (i:Nat) (x:Str) (v:V),X.N[i]? = some x->σ[i]? = some (some v)->Vis X.env.scope x->∃ u,RelV v u/\Look X.env s.heap m x u
  cell:∀ x c,X.env.cells.lookup x=some c->∃ v,s.heap.IsCell c v
  free:H X.env.locals=none
  freeC:∀ x c,X.env.cells.lookup x=some c->H c=none
  pin:∀ p∈X.pn++pins,s.heap.get? p.1=some p.2/\H p.1=none/\p.1≠X.env.locals/\p.1∉X.fs/\∀ v,p.2.data≠.cell v
  hok:HOk X.prog X.w H s.heap
  len:σ.length=X.N.length
section
variable {X:Cx} {pins:List (Addr×Obj)} {σ:List (Option V)} {H H':Hp} {s:Shared} {h':Heap}
theorem Cx.Ok.nofr (ok:X.Ok) {b:Addr} {o:Obj} (e:X.base.get? b=some o):b∉X.fs:=fun hb=>by
  have:=(ok.funs.mem hb).1
  rw [e] at this;cases this
theorem Inv.bs (I:Inv X pins σ H s):∀ b o,X.base.get? b=some o->s.heap.get? b=some o/\H b=none:=fun b o e=>
  ⟨I.base.keep b o (I.ok.bs b o e).1 (I.ok.bs b o e).2 (I.ok.nofr e) (I.ok.noex b o e),I.base.free b o (I.ok.bs b o e).1 (I.ok.bs b o e).2 (I.ok.noex b o e)⟩
theorem Inv.bk (I:Inv X pins σ H s):∀ b o,X.base.get? b=some o->s.heap.get? b=some o:=fun b o e=>(I.bs b o e).1
theorem Inv.mod (I:Inv X pins σ H s):Mod X.K X.mg X.base:=I.ok.mod
theorem Inv.kIn (I:Inv X pins σ H s):X.K.In s.heap:=I.ok.mod.kin.keeps I.bk
theorem Inv.nolimit (I:Inv X pins σ H s):s.heap.NoLimit:=I.ok.mod.nolimit.keeps I.bk
theorem Inv.fr (I:Inv X pins σ H s):∃ m,Fr X.base X.env.locals s.heap m:=
  let ⟨m,hn,_⟩:=I.loc
  ⟨m,hn,I.bk,Nat.le_trans I.ok.bsz I.ok.above⟩
theorem Inv.lt (I:Inv X pins σ H s):X.env.locals<s.heap.objs.size:=let ⟨_,hn,_⟩:=I.loc;hn.lt
theorem Inv.sz (I:Inv X pins σ H s):X.s₀.heap.objs.size<=s.heap.objs.size:=Nat.le_trans I.ok.above (Nat.le_of_lt I.lt)
theorem Inv.nofs (I:Inv X pins σ H s) {a:Addr} (h:s.heap.objs.size<=a):a∉X.fs:=fun hb=>by
  obtain ⟨_,o,ho,_⟩:=I.ok.funs.mem hb
  exact absurd (Nat.lt_of_lt_of_le (Heap.lt_size ho) (Nat.le_trans I.sz h)) (Nat.lt_irrefl _)
theorem Inv.cne (I:Inv X pins σ H s):∀ x c,X.env.cells.lookup x=some c->c≠X.env.locals:=fun x c e z=>by
  obtain ⟨v,o,ho,hd⟩:=I.cell x c e
  obtain ⟨m,⟨o',es,ep,ho',hd',_⟩,_⟩:=I.loc
  rw [z,ho'] at ho;cases ho;rw [hd'] at hd;cases hd
theorem Inv.funs (I:Inv X pins σ H s):s.heap.FunFrames X.base X.outer:=by
  have all:∀ (l:List Env),(∀ b∈frs l,b∈X.fs)->X.s₀.heap.FunFrames X.base l->s.heap.FunFrames X.base l:=by
    intro l
    induction l with
    | nil=>intro _ _;trivial
    | cons env r ih=>
      intro hs hl
      obtain ⟨hk,⟨L,o,hf,hn,ho,hd⟩,hr⟩:=hl
      have hL:L∈X.fs:=hs L (by unfold frs;rw [List.filterMap_cons,hf];exact List.mem_cons_self)
      obtain ⟨sl,e⟩:=I.base.slot L o ho (I.ok.frf L hL) hL fun z=>I.ok.exfs L z hL
      exact ⟨hk,⟨L,_,hf,hn,e,hd⟩,ih (fun b hb=>hs b (by unfold frs;rw [List.filterMap_cons,hf];exact List.mem_cons_of_mem _ hb)) hr⟩
  exact all X.outer (fun _ hb=>hb) I.ok.funs
theorem Inv.stack (I:Inv X pins σ H s):s.heap.FunFrames X.base X.stack:=by
  rcases I.ok.stk with e | ⟨e,hf⟩
  · rw [e];exact I.funs
  · rw [e]
    obtain ⟨m,hn,_⟩:=I.loc
    refine .cons (by rw [I.ok.kind];decide) hf hn ?_ I.funs
    exact Heap.get?_none_of_le (Nat.le_trans I.ok.bsz I.ok.above)
theorem Inv.stkSub (I:Inv X pins σ H s):∀ b∈frs X.stack,b∈X.env.locals::X.fs:=fun b hb=>by
  rcases I.ok.stk with e | ⟨e,hf⟩
  · rw [e] at hb;exact List.mem_cons_of_mem _ hb
  · rw [e] at hb
    unfold frs at hb
    rw [List.filterMap_cons,hf] at hb
    exact hb
theorem Inv.stkFree (I:Inv X pins σ H s):∀ b∈frs X.stack,H b=none:=fun b hb=>by
  rcases List.mem_cons.mp (I.stkSub b hb) with e | hb
  · rw [e];exact I.free
  · obtain ⟨_,o,ho,_⟩:=I.ok.funs.mem hb
    exact I.base.free b o ho (I.ok.frf b hb) fun z=>I.ok.exfs b z hb
theorem Inv.step {g':Array GenState} {t':Nat} {d':Drawn} {ch:List Addr} (I:Inv X pins σ H s)
    (hch:∀ b∈ch,(b∈X.ex∨X.s₀.heap.objs.size<=b)/\b≠X.env.locals/\(∀ x c,X.env.cells.lookup x=some c->c≠b)/\∀ p∈X.pn++pins,p.1≠b)
    (keep:∀ b o,b≠X.env.locals->b∉X.fs->b∉ch->s.heap.get? b=some o->H b=none->h'.get? b=some o)
    (slot:∀ b o,b≠X.env.locals->b∈X.fs->b∉ch->s.heap.get? b=some o->H b=none->∃ sl,h'.get? b=some { o with slots:=sl }) (free:∀ b o,b∉ch->s.heap.get? b=some o->H b=none->H' b=none)
    (there:∀ b o,b∉ch->s.heap.get? b=some o->∃ o',h'.get? b=some o')
    (tups:∀ b xs,H b=some (.tup xs)->H' b=some (.tup xs)) (frzs:∀ b o u,H b=some (.frz o u)->H' b=some (.frz o u)) (tbls:∀ b ps,H b=some (.tbl ps)->∃ more,H' b=some (.tbl (ps++more)))
    (ns:∀ m,s.heap.Ns X.env.locals m->h'.Ns X.env.locals m) (hok:HOk X.prog X.w H' h') (hg:AllBare g') :
    Inv X pins σ H' { s with heap:=h',gens:=g',drawn:=d',toks:=t' }:=by
  have neL:∀ b o,X.s₀.heap.get? b=some o->b≠X.env.locals:=fun b o e=>Nat.ne_of_lt (Nat.lt_of_lt_of_le (Heap.lt_size e) I.ok.above)
  have neC:∀ b o,X.s₀.heap.get? b=some o->b∉X.ex->b∉ch:=fun b o e hx hb=>by
    rcases (hch b hb).1 with z | z
    · exact hx z
    · exact absurd (Nat.lt_of_lt_of_le (Heap.lt_size e) z) (Nat.lt_irrefl _)
  have cellK:∀ x c,X.env.cells.lookup x=some c->∀ v,s.heap.IsCell c v->h'.IsCell c v:=fun x c e v ⟨o,ho,hd⟩=>by
    have nch:c∉ch:=fun z=>(hch c z).2.2.1 x c e rfl
    by_cases hc:c∈X.fs
    · obtain ⟨sl,q⟩:=slot c o (I.cne x c e) hc nch ho (I.freeC x c e)
      exact ⟨_,q,hd⟩
    · exact ⟨o,keep c o (I.cne x c e) hc nch ho (I.freeC x c e),hd⟩
  refine ⟨I.ok,I.os,hg,⟨fun b o e n hb hx=>?_,fun b o e n hb hx=>?_,fun b o e n hx=>?_,fun b o e hx=>?_,fun b xs e=>tups b xs (I.base.tups b xs e),fun b o xs e=>frzs b o xs (I.base.frzs b o xs e),fun b ps e=>?_⟩,?_,fun x c e=>?_,?_,fun x c e=>?_,fun p hp=>?_,hok,I.len⟩
  · exact keep b o (neL b o e) hb (neC b o e hx) (I.base.keep b o e n hb hx) (I.base.free b o e n hx)
  · obtain ⟨sl,e1⟩:=I.base.slot b o e n hb hx
    obtain ⟨sl',e2⟩:=slot b _ (neL b o e) hb (neC b o e hx) e1 (I.base.free b o e n hx)
    exact ⟨sl',e2⟩
  · obtain ⟨o',e1⟩:=I.base.there b o e hx
    exact free b o' (neC b o e hx) e1 (I.base.free b o e n hx)
  · obtain ⟨o',e1⟩:=I.base.there b o e hx
    exact there b o' (neC b o e hx) e1
  · obtain ⟨m1,e1⟩:=I.base.tbls b ps e
    obtain ⟨m2,e2⟩:=tbls b _ e1
    exact ⟨m1++m2,by rw [e2,Array.append_assoc]⟩
  · obtain ⟨m,hn,hl⟩:=I.loc
    refine ⟨m,ns m hn,fun i x v e1 e2 e3=>?_⟩
    obtain ⟨u,r,l⟩:=hl i x v e1 e2 e3
    refine ⟨u,r,?_⟩
    rcases l with l | ⟨k,c,e,z⟩
    · exact .inl l
    · exact .inr ⟨k,c,e,cellK x c e _ z⟩
  · obtain ⟨v,z⟩:=I.cell x c e
    exact ⟨v,cellK x c e v z⟩
  · obtain ⟨m,⟨o,_,_,ho,_⟩,_⟩:=I.loc
    exact free _ o (fun z=>(hch _ z).2.1 rfl) ho I.free
  · obtain ⟨v,o,ho,hd⟩:=I.cell x c e
    exact free c o (fun z=>(hch c z).2.2.1 x c e rfl) ho (I.freeC x c e)
  · obtain ⟨e,n,ne,nf,d⟩:=I.pin p hp
    have nch:p.1∉ch:=fun z=>(hch p.1 z).2.2.2 p hp rfl
    exact ⟨keep p.1 p.2 ne nf nch e n,free p.1 p.2 nch e n,ne,nf,d⟩
theorem Inv.un {t':Nat} (I:Inv X pins σ H s) (u:Un X.fs [] H H' s.heap h') (hok:HOk X.prog X.w H' h'):Inv X pins σ H' { s with heap:=h',toks:=t' }:=by
  obtain ⟨m,⟨o,es,ep,ho,r⟩,_⟩:=id I.loc
  obtain ⟨sl,hL⟩:=u.any ho I.free (by simp)
  exact I.step (g':=s.gens) (d':=s.drawn) (ch:=[]) (fun _ z=>nomatch z) (fun b o _ hb _ e n=>u.keep b o e n hb (by simp)) (fun b o _ hb _ e n=>u.slot b o e n hb (by simp)) (fun b o _ e n=>u.free b o e n (by simp)) (fun b o _ e=>u.there b o e (by simp)) u.tups u.frzs u.tbls (fun m' hm=>by
    obtain ⟨o',es',ep',ho',r'⟩:=hm
    rw [ho] at ho';cases ho'
    exact ⟨_,es',ep',hL,r'⟩) hok I.bare
theorem Inv.call {g':Array GenState} {t':Nat} {d':Drawn} {ch:List Addr} (I:Inv X pins σ H s) (u:Un (frs X.stack) ch H H' s.heap h') (hok:HOk X.prog X.w H' h') (hg:AllBare g')
    (hch:∀ b∈ch,(b∈X.ex∨X.s₀.heap.objs.size<=b)/\b≠X.env.locals/\(∀ x c,X.env.cells.lookup x=some c->c≠b)/\∀ p∈X.pn++pins,p.1≠b) :
    Inv X pins σ H' { s with heap:=h',gens:=g',drawn:=d',toks:=t' }:=by
  obtain ⟨m,⟨o,es,ep,ho,r⟩,_⟩:=id I.loc
  obtain ⟨sl,hL⟩:=u.any ho I.free fun z=>(hch _ z).2.1 rfl
  exact I.step (ch:=ch) hch (fun b o hL hb hc e n=>u.keep b o e n (fun z=>(List.mem_cons.mp (I.stkSub b z)).elim hL hb) hc) (fun b o _ _ hc e n=>u.any e n hc) (fun b o hc e n=>u.free b o e n hc) (fun b o hc e=>u.there b o e hc) u.tups u.frzs u.tbls (fun m' hm=>by
    obtain ⟨o',es',ep',ho',r'⟩:=hm
    rw [ho] at ho';cases ho'
    exact ⟨_,es',ep',hL,r'⟩) hok hg
theorem Inv.turned {t':Nat} {it:Addr} (I:Inv X pins σ H s) (k:∀ b o,b≠it->s.heap.get? b=some o->h'.get? b=some o) (hn:H it=none) (hL:it≠X.env.locals)
    (h1:it∈X.ex∨X.s₀.heap.objs.size<=it) (h2:∀ x c,X.env.cells.lookup x=some c->c≠it) (h3:∀ p∈X.pn++pins,p.1≠it):Inv X pins σ H { s with heap:=h',toks:=t' }:=by
  have nit:∀ b u,H b=some u->b≠it:=fun b u e z=>by rw [z,hn] at e;cases e
  refine I.step (g':=s.gens) (d':=s.drawn) (ch:=[it]) (fun b hb=>?_) (fun b o _ _ hc e _=>k b o (fun z=>hc (by simp [z])) e) (fun b o _ _ hc e _=>⟨o.slots,k b o (fun z=>hc (by simp [z])) e⟩) (fun _ _ _ _ n=>n)
    (fun b o hc e=>⟨o,k b o (fun z=>hc (by simp [z])) e⟩) (fun _ _ e=>e) (fun _ _ _ e=>e) (fun b ps e=>⟨#[],by rw [e];simp⟩) (fun m hm=>?_) (fun b u e=>?_) I.bare
  · have e:b=it:=by simpa using hb
    subst e
    exact ⟨h1,hL,h2,h3⟩
  · obtain ⟨o,es,ep,ho,r⟩:=hm
    exact ⟨o,es,ep,k _ o (Ne.symm hL) ho,r⟩
  · refine (I.hok b u e).stay (fun c v hc q=>k c v ?_ q) (fun _ q=>q) fun _ _ q=>q
    rcases hc with z | z
    · rw [z];exact nit b u e
    · exact nit c _ z
theorem Inv.tok (I:Inv X pins σ H s) (t:Nat):Inv X pins σ H { s with toks:=t }:=I.un (h':=s.heap) (t':=t) Un.refl I.hok
theorem Inv.kept {t':Nat} (I:Inv X pins σ H s) (k:∀ b u,s.heap.get? b=some u->h'.get? b=some u):Inv X pins σ H { s with heap:=h',toks:=t' }:=I.un (Un.kept k) (I.hok.kept k)
theorem Inv.laid {a:Addr} {o:HO} {t':Nat} (I:Inv X pins σ H s) (k:∀ b u,s.heap.get? b=some u->h'.get? b=some u) (hp:s.heap.objs.size<=a) (new:ObjOk X.prog X.w (upd H a o) h' a o) :
    Inv X pins σ (upd H a o) { s with heap:=h',toks:=t' }:=I.un (Un.laid k hp (I.hok.fresh hp)) (I.hok.laid k hp new)
theorem Inv.write {x e:Addr} {o:HO} {t':Nat} (I:Inv X pins σ H s) (mu:Mut (H x)) (he:e=x∨H e=some (.own x)) (k:∀ b u,b≠e->s.heap.get? b=some u->h'.get? b=some u) (heo:∃ u,h'.get? e=some u)
    (new:ObjOk X.prog X.w (upd H x o) h' x o):Inv X pins σ (upd H x o) { s with heap:=h',toks:=t' }:=I.un (Un.write mu he k heo) (I.hok.write mu he k heo new)
theorem Inv.weak {σ':List (Option V)} (I:Inv X pins σ H s) (hl:σ'.length=σ.length) (w:∀ (i:Nat) v,σ'[i]? = some (some v)->σ[i]? = some (some v)):Inv X pins σ' H s:=
  ⟨I.ok,I.os,I.bare,I.base,let ⟨m,hn,hl'⟩:=I.loc;⟨m,hn,fun i x v e1 e2 e3=>hl' i x v e1 (w i v e2) e3⟩,I.cell,I.free,I.freeC,I.pin,I.hok,hl.trans I.len⟩
theorem Inv.pins_of {pins':List (Addr×Obj)} (I:Inv X pins σ H s) (h:∀ p∈pins',s.heap.get? p.1=some p.2/\H p.1=none/\p.1≠X.env.locals/\p.1∉X.fs/\∀ v,p.2.data≠.cell v):Inv X pins' σ H s:=
  ⟨I.ok,I.os,I.bare,I.base,I.loc,I.cell,I.free,I.freeC,fun p hp=>(List.mem_append.mp hp).elim (fun z=>I.pin p (List.mem_append_left _ z)) (h p),I.hok,I.len⟩
theorem QfJ {N:List Str} (hN:N.Nodup) {i j:Nat} {x:Str} (a:N[i]? = some x) (b:N[j]? = some x):i=j:=by
  obtain ⟨h1,e1⟩:=List.getElem?_eq_some_iff.mp a
  obtain ⟨h2,e2⟩:=List.getElem?_eq_some_iff.mp b
  exact (List.getElem_inj hN).mp (e1.trans e2.symm)
theorem Qec {M:Model} {A:Around} {E:Value->Shared->Prop} {i:Nat} {x:Str} {v:V} {u:Value} {Q:Unit->Shared->Prop} (I:Inv X pins σ H s) (hN:X.N.Nodup) (hi:X.N[i]? = some x) (hx:Loc X.env.scope x) (r:RelV v u)
    (h:∀ s',Inv X pins (σ.set i (some v)) H s'->(∃ a,Heap.SameBut a s.heap s'.heap/\(a=X.env.locals∨X.env.cells.lookup x=some a))->Q () s') (hf:X.fn x=true∨X.env.scope.names.lookup x=some .local:=by first | exact .inl rfl | exact .inr rfl | assumption):wpAny M A (storeName X.env x u) Q E s:=by
  obtain ⟨m,hn,hl⟩:=id I.loc
  have hcls:(X.env.scope.kind == .class||(X.env.scope.kind == .module&&X.env.locals != X.env.globals))=false:=by rw [I.ok.kind];rfl
  have hiσ:i < σ.length:=by rw [I.len];exact (List.getElem?_eq_some_iff.mp hi).1
  have cne:=I.cne
  have tracked:∀ {a:Addr} {h':Heap},(∃ o,s.heap.get? a=some o/\H a=none)->Heap.SameBut a s.heap h'->HOk X.prog X.w H h':=fun {a h'} ha hs b ob e=>by
    obtain ⟨_,_,hfree⟩:=ha
    refine (I.hok b ob e).stay (fun c w' hc q=>(hs.2 c ?_).trans q) (fun _ q=>q) fun _ _ q=>q
    rintro rfl
    rcases hc with rfl | hc
    · rw [hfree] at e;cases e
    · rw [hfree] at hc;cases hc
  rcases hx with hk | hk
  · refine wpAny_storeName_local hk hn (fun h' hn' hs=>?_) hcls
    obtain ⟨oL,_,_,hoL,_⟩:=id hn
    refine h _ ⟨I.ok,I.os,I.bare,⟨fun b o e n hb hx=>?_,fun b o e n hb hx=>?_,I.base.free,fun b o e hx=>?_,I.base.tups,I.base.frzs,I.base.tbls⟩,⟨_,hn',fun j y v' e1 e2 e3=>?_⟩,fun y c e=>?_,I.free,I.freeC,fun p hp=>?_,tracked ⟨oL,hoL,I.free⟩ hs,by simpa using I.len⟩ ⟨_,hs,.inl rfl⟩
    · exact (hs.2 b (Nat.ne_of_lt (Nat.lt_of_lt_of_le (Heap.lt_size e) I.ok.above))).trans (I.base.keep b o e n hb hx)
    · obtain ⟨sl,e1⟩:=I.base.slot b o e n hb hx
      exact ⟨sl,(hs.2 b (Nat.ne_of_lt (Nat.lt_of_lt_of_le (Heap.lt_size e) I.ok.above))).trans e1⟩
    · obtain ⟨o',e1⟩:=I.base.there b o e hx
      exact ⟨o',(hs.2 b (Nat.ne_of_lt (Nat.lt_of_lt_of_le (Heap.lt_size e) I.ok.above))).trans e1⟩
    · by_cases hj:j=i
      · subst hj
        rw [hi] at e1;cases e1
        rw [List.getElem?_set_self hiσ] at e2
        cases e2
        exact ⟨u,r,.inl ⟨hk,by simp⟩⟩
      · rw [List.getElem?_set_ne (Ne.symm hj)] at e2
        obtain ⟨u',r',q⟩:=hl j y v' e1 e2 e3
        refine ⟨u',r',?_⟩
        rcases q with ⟨k,e⟩ | ⟨k,c,e,z⟩
        · refine .inl ⟨k,?_⟩
          have:y≠x:=fun e=>hj (QfJ hN e1 (e ▸ hi))
          simp [this,e]
        · exact .inr ⟨k,c,e,z.sameBut hs (cne y c e)⟩
    · obtain ⟨w',z⟩:=I.cell y c e
      exact ⟨w',z.sameBut hs (cne y c e)⟩
    · obtain ⟨e,n,ne,nf,d⟩:=I.pin p hp
      exact ⟨(hs.2 p.1 ne).trans e,n,ne,nf,d⟩
  · have hfn:X.fn x=true:=by
      rcases hf with z | z
      · exact z
      · rw [z] at hk;cases hk
    obtain ⟨c,hc⟩:=I.ok.has x (.inl hk)
    obtain ⟨w',z⟩:=I.cell x c hc
    refine wpAny_storeName_cell I.ok.kind hk hc z (fun h' hc' hs=>?_)
    obtain ⟨oc,hoc,hocd⟩:=id z
    refine h { s with heap:=h' } ⟨I.ok,I.os,I.bare,⟨fun b o e n hb hx=>?_,fun b o e n hb hx=>?_,I.base.free,fun b o e hx=>?_,I.base.tups,I.base.frzs,I.base.tbls⟩,⟨m,hn.sameBut hs (Ne.symm (cne x c hc)),fun j y v' e1 e2 e3=>?_⟩,fun y c' e=>?_,I.free,I.freeC,fun p hp=>?_,tracked ⟨oc,hoc,I.freeC x c hc⟩ hs,by simpa using I.len⟩ ⟨c,hs,.inr hc⟩
    · exact (hs.2 b (Nat.ne_of_lt (Nat.lt_of_lt_of_le (Heap.lt_size e) (I.ok.cab x c hfn hc)))).trans (I.base.keep b o e n hb hx)
    · obtain ⟨sl,e1⟩:=I.base.slot b o e n hb hx
      exact ⟨sl,(hs.2 b (Nat.ne_of_lt (Nat.lt_of_lt_of_le (Heap.lt_size e) (I.ok.cab x c hfn hc)))).trans e1⟩
    · obtain ⟨o',e1⟩:=I.base.there b o e hx
      exact ⟨o',(hs.2 b (Nat.ne_of_lt (Nat.lt_of_lt_of_le (Heap.lt_size e) (I.ok.cab x c hfn hc)))).trans e1⟩
    · by_cases hj:j=i
      · subst hj
        rw [hi] at e1;cases e1
        rw [List.getElem?_set_self hiσ] at e2
        cases e2
        exact ⟨u,r,.inr ⟨.inl hk,c,hc,hc'⟩⟩
      · rw [List.getElem?_set_ne (Ne.symm hj)] at e2
        obtain ⟨u',r',q⟩:=hl j y v' e1 e2 e3
        refine ⟨u',r',?_⟩
        rcases q with q | ⟨k,c',e,z'⟩
        · exact .inl q
        · refine .inr ⟨k,c',e,z'.sameBut hs ?_⟩
          rintro rfl
          exact hj (QfJ hN e1 (I.ok.inj _ _ _ e hc ▸ hi))
    · by_cases hcc:c'=c
      · subst hcc;exact ⟨_,hc'⟩
      · obtain ⟨w2,z2⟩:=I.cell y c' e
        exact ⟨w2,z2.sameBut hs hcc⟩
    · obtain ⟨e,n,ne,nf,d⟩:=I.pin p hp
      refine ⟨(hs.2 p.1 ?_).trans e,n,ne,nf,d⟩
      intro q
      rw [q,hoc] at e
      have q':oc=p.2:=Option.some.inj e
      exact d w' (by rw [<- q'];exact hocd)
theorem Qfu {M:Model} {A:Around} {E:Value->Shared->Prop} {i:Nat} {x:Str} {v:V} {u:Value} {Q:Unit->Shared->Prop} (I:Inv X pins σ H s) (hN:X.N.Nodup) (hi:X.N[i]? = some x) (hx:Loc X.env.scope x) (r:RelV v u)
    (h:∀ s',Inv X pins (σ.set i (some v)) H s'->Q () s') (hf:X.fn x=true∨X.env.scope.names.lookup x=some .local:=by first | exact .inl rfl | exact .inr rfl | assumption):wpAny M A (storeName X.env x u) Q E s:=
  Qec I hN hi hx r (fun s' I' _=>h s' I') hf
theorem Inv.call' {s':Shared} {ch:List Addr} (I:Inv X pins σ H s) (ho:s'.os=s.os) (u:Un (frs X.stack) ch H H' s.heap s'.heap) (hok:HOk X.prog X.w H' s'.heap) (hg:AllBare s'.gens)
    (hch:∀ b∈ch,(b∈X.ex∨X.s₀.heap.objs.size<=b)/\b≠X.env.locals/\(∀ x c,X.env.cells.lookup x=some c->c≠b)/\∀ p∈X.pn++pins,p.1≠b):Inv X pins σ H' s':=by
  obtain ⟨h',g',d',t',o'⟩:=s'
  have e:o'=s.os:=ho
  subst e
  exact I.call (g':=g') (t':=t') (d':=d') u hok hg hch
end
abbrev XK:=Value->Option Addr->Hp->Prop
abbrev St:=List (Option V)
abbrev VK:=V->Hp->Prop
abbrev TE:=St->Hp->VK->Prop
abbrev TT:=St->Hp->(Bool->Hp->Prop)->Prop
abbrev TA:=St->Hp->(List V->Hp->Prop)->Prop
structure Ends where
  nx:St->Hp->Prop
  rt:VK
  bk:St->Hp->Prop:=fun _ _=>False
  ct:St->Hp->Prop:=fun _ _=>False
abbrev TS:=Ends->St->Hp->Prop
def EP (X:Cx) (pins:List (Addr×Obj)) (σ:St) (Q:VK) (u:Value) (s':Shared):Prop:=∃ v H',Inv X pins σ H' s'/\RelV v u/\Q v H'
def TP (X:Cx) (pins:List (Addr×Obj)) (σ:St) (Q:Bool->Hp->Prop) (b:Bool) (s':Shared):Prop:=∃ H',Inv X pins σ H' s'/\Q b H'
def AP (X:Cx) (pins:List (Addr×Obj)) (σ:St) (Q:List V->Hp->Prop) (us:List Value) (s':Shared):Prop:=∃ vs H',Inv X pins σ H' s'/\Vals vs us/\Q vs H'
def SP (X:Cx) (pins:List (Addr×Obj)) (D:Ends) (f:Flow) (s':Shared):Prop:=
  match f with
  | .next=>∃ σ' H',Inv X pins σ' H' s'/\D.nx σ' H'
  | .brk=>∃ σ' H',Inv X pins σ' H' s'/\D.bk σ' H'
  | .cont=>∃ σ' H',Inv X pins σ' H' s'/\D.ct σ' H'
  | .ret u=>∃ v σ' H',Inv X pins σ' H' s'/\RelV v u/\D.rt v H'
def PE (X:Cx) (e:Expr) (t:TE):Prop:=
  ∀ (pins:List (Addr×Obj)) (s:Shared) (σ:St) (H:Hp) (Q:VK),Inv X pins σ H s->t σ H Q->wpAny (model X.prog X.w) X.A (eval e X.env) (EP X pins σ Q) X.xe s
def PT (X:Cx) (e:Expr) (t:TT):Prop:=
  ∀ (pins:List (Addr×Obj)) (s:Shared) (σ:St) (H:Hp) (Q:Bool->Hp->Prop),Inv X pins σ H s->t σ H Q->wpAny (model X.prog X.w) X.A (isTrue e X.env (eval e X.env)) (TP X pins σ Q) X.xe s
def PW (X:Cx) (e:Expr) (t:TT):Prop:=
  ∀ (whole:Sem Value) (pins:List (Addr×Obj)) (s:Shared) (σ:St) (H:Hp) (Q:Bool->Hp->Prop),Inv X pins σ H s->t σ H Q->wpAny (model X.prog X.w) X.A (isTrue e X.env whole) (TP X pins σ Q) X.xe s
theorem PW.pt {X:Cx} {e:Expr} {t:TT} (h:PW X e t):PT X e t:=h _
def PA (X:Cx) (es:List Expr) (t:TA):Prop:=
  ∀ (pos:Pos) (pins:List (Addr×Obj)) (s:Shared) (σ:St) (H:Hp) (Q:List V->Hp->Prop),Inv X pins σ H s->t σ H Q->wpAny (model X.prog X.w) X.A (spliced (backTo pos (starEach es X.env))) (AP X pins σ Q) X.xe s
def PS (X:Cx) (st:Stmt) (t:TS):Prop:=
  ∀ (pins:List (Addr×Obj)) (s:Shared) (σ:St) (H:Hp) (D:Ends),Inv X pins σ H s->t D σ H->wpAny (model X.prog X.w) X.A (exec st X.env) (SP X pins D) X.xe s
def PSs (X:Cx) (st:List Stmt) (t:TS):Prop:=
  ∀ (pins:List (Addr×Obj)) (s:Shared) (σ:St) (H:Hp) (D:Ends),Inv X pins σ H s->t D σ H->wpAny (model X.prog X.w) X.A (execs st X.env) (SP X pins D) X.xe s
theorem thn {α:Type} {t:Sem α} {Q Q':α->Shared->Prop} {M:Model} {A:Around} {E:Value->Shared->Prop} {s:Shared} (h:wpAny M A t Q E s) (hQ:∀ a s,Q a s->Q' a s):wpAny M A t Q' E s:=wpAny_mono h hQ fun _ _ x=>x
section
variable {X:Cx}
theorem bin {a b:Expr} {ta tb:TE} (ha:PE X a ta) (hb:PE X b tb) {pins:List (Addr×Obj)} {s:Shared} {σ:St} {H:Hp} {R:V->V->Hp->Prop} (I:Inv X pins σ H s) (h:ta σ H fun x H1=>tb σ H1 fun y H2=>R x y H2)
    {α:Type} {Q:α->Shared->Prop} {f:Value->Value->Sem α}
    (hf:∀ v u s2 x y H2,Inv X pins σ H2 s2->RelV x v->RelV y u->R x y H2->wpAny (model X.prog X.w) X.A (f v u) Q X.xe s2) :
    wpAny (model X.prog X.w) X.A (eval a X.env) (fun v s₁=>wpAny (model X.prog X.w) X.A (eval b X.env) (fun u s₂=>wpAny (model X.prog X.w) X.A (f v u) Q X.xe s₂) X.xe s₁) X.xe s:=by
  refine thn (ha pins s σ H _ I h) fun v s1 ⟨x,H1,I1,r1,q1⟩=>?_
  refine thn (hb pins s1 σ H1 _ I1 q1) fun u s2 ⟨y,H2,I2,r2,q2⟩=>?_
  exact hf v u s2 x y H2 I2 r1 r2 q2
def tVar (i:Nat):TE:=fun σ H Q=>∃ v,σ[i]? = some (some v)/\Q v H
def tC (v:V):TE:=fun _ H Q=>Q v H
theorem pe_var {i:Nat} {x:Str} {pos:Pos} (hN:X.N[i]? = some x) (hv:Vis X.env.scope x) (hd:(x == ("__debug__" : Str))=false:=by decide) (hcd:(x == ("__classdict__" : Str))=false:=by decide):PE X (.Name x pos) (tVar i):=by
  intro pins s σ H Q I h
  obtain ⟨v,e,h⟩:=h
  obtain ⟨m,hn,hl⟩:=I.loc
  obtain ⟨u,r,l⟩:=hl i x v hN e hv
  have fin:EP X pins σ Q u s:=⟨v,H,I,r,h⟩
  rcases l with ⟨hk,hm⟩ | ⟨hk,c,hc,hcell⟩
  · exact wpAny_Name (wpAny_loadName_local I.ok.kind hk hn hm fin) hd
  · rcases hk with hk | hk
    · exact wpAny_Name (wpAny_loadName_cell I.ok.kind hk hc hcell fin) hd
    · exact wpAny_Name (wpAny_loadName_free I.ok.kind hk hc hcell fin hcd) hd
theorem QaR {i j pos}:PE X (.Constant (.int i) j pos) (tC (.int i)):=fun _ _ _ H _ I h=>wpAny_Constant_int ⟨.int i,H,I.tok _,⟨_,rfl⟩,h⟩
theorem pe_bl {b j pos}:PE X (.Constant (.bool b) j pos) (tC (.bl b)):=fun _ _ _ H _ I h=>Constant_bool ⟨.bl b,H,I,rfl,h⟩
theorem Qhp {j pos}:PE X (.Constant .none j pos) (tC .non):=fun _ _ _ H _ I h=>Constant_none ⟨.non,H,I,rfl,h⟩
theorem pe_str {x j pos}:PE X (.Constant (.str x) j pos) (tC (.str x)):=fun _ _ _ H _ I h=>Calls.Constant_str ⟨.str x,H,I.tok _,⟨_,rfl⟩,h⟩
def Gl (X:Cx) (x:Str):Prop:=X.env.kindOf x=some .globalImplicit
theorem QhY {E:Value->Shared->Prop} {pins:List (Addr×Obj)} {s:Shared} {σ:St} {H:Hp} {x:Str} {u:Value} {pos:Pos} {Q:Value->Shared->Prop} (I:Inv X pins σ H s) (hg:Gl X x) (hm:X.mg x=some u) (h:Q u s)
    (hd:(x == ("__debug__" : Str))=false:=by decide):wpAny (model X.prog X.w) X.A (eval (.Name x pos) X.env) Q E s:=
  Calls.Name_function_global I.ok.kind hg (Calls.loadGlobal_global (by rw [I.ok.glob];exact I.mod.glob.keeps I.bk) hm h) hd
theorem QcD {E:Value->Shared->Prop} {pins:List (Addr×Obj)} {s:Shared} {σ:St} {H:Hp} {x:Str} {u:Value} {pos:Pos} {Q:Value->Shared->Prop} (I:Inv X pins σ H s) (hg:Gl X x) (hm:X.mg x=none) (hv:bootBuiltins x=some u) (h:Q u s)
    (hn:x ≠ "__name__" := by decide) (hd:(x == ("__debug__" : Str))=false:=by decide):wpAny (model X.prog X.w) X.A (eval (.Name x pos) X.env) Q E s:=by
  obtain ⟨mb,h1,h2⟩:=I.mod.blt
  exact Calls.Name_function_global I.ok.kind hg (Calls.loadGlobal_builtin (by rw [I.ok.glob];exact I.mod.glob.keeps I.bk) hm (by rw [I.ok.blt];exact h1.keeps I.bk) ((h2 x hn).trans hv) h) hd
theorem Qly {x:Str} {v:V} {u:Value} {pos:Pos} (hg:Gl X x) (hm:X.mg x=some u) (r:RelV v u) (hd:(x == ("__debug__" : Str))=false:=by decide):PE X (.Name x pos) (tC v):=
  fun _ _ _ H _ I h=>QhY I hg hm ⟨v,H,I,r,h⟩ hd
theorem Qa3 {x:Str} {v:V} {u:Value} {pos:Pos} (hg:Gl X x) (hm:X.mg x=none) (hv:bootBuiltins x=some u) (r:RelV v u) (hn:x ≠ "__name__" := by decide) (hd:(x == ("__debug__" : Str))=false:=by decide):PE X (.Name x pos) (tC v):=
  fun _ _ _ H _ I h=>QcD I hg hm hv ⟨v,H,I,r,h⟩ hn hd
variable {a b:Expr} {ta tb:TE} {pos:Pos}
def PC (X:Cx) (op:CmpOp) (a b:Expr) (t:TE):Prop:=
  ∀ (pins:List (Addr×Obj)) (s:Shared) (σ:St) (H:Hp) (Q:VK),Inv X pins σ H s->t σ H Q ->
    wpAny (model X.prog X.w) X.A (eval a X.env) (fun v s₁=>wpAny (model X.prog X.w) X.A (eval b X.env) (fun u s₂=>wpAny (model X.prog X.w) X.A (compareOp op v u) (EP X pins σ Q) X.xe s₂) X.xe s₁) X.xe s
theorem QjS (b:Expr) {op:CmpOp} (h:op≠.In) (h2:op≠.NotIn):behindInMarks op b=false:=by
  have e1:(op == CmpOp.In)=false:=by cases op<;>first | rfl | exact absurd rfl h
  have e2:(op == CmpOp.NotIn)=false:=by cases op<;>first | rfl | exact absurd rfl h2
  cases b<;>simp [behindInMarks,e1,e2]
def tB (t:TE):TT:=fun σ H Q=>t σ H fun x H1=>∃ c,x=.bl c/\Q c H1
theorem pt_cmp {op:CmpOp} {t:TE} (h:PC X op a b t) (h1:behindInMarks op b=false:=by first | exact QjS _ (by decide) (by decide) | rfl):PT X (.Compare a [op] [b] pos) (tB t):=by
  intro pins s σ H Q I hw
  refine wpAny_isTrue_Compare1 (thn (h pins s σ H _ I hw) fun v s1 h1=>thn h1 fun u s2 h2=>thn h2 fun c s3 ⟨x,H1,I1,r1,q1⟩=>?_) h1
  obtain ⟨d,rfl,q⟩:=q1
  cases r1
  exact wpAny_truthy_bool ⟨H1,I1,q⟩
theorem QfD {e:Expr} {t:TE} (h:PE X e t) (he:∀ whole,isTrue e X.env whole=(do let v <- whole;standAt e.pos;holding [v] (truthy v)):=by intro _;rfl):PT X e (tB t):=by
  intro pins s σ H Q I hw
  refine isTrue_plain (thn (h pins s σ H _ I hw) fun v s1 ⟨x,H1,I1,r1,q1⟩=>?_) (he _)
  obtain ⟨d,rfl,q⟩:=q1
  cases r1
  exact wpAny_truthy_bool ⟨H1,I1,q⟩
variable {tA tB':TT} {rest:List Expr}
def tAnd (t u:TT):TT:=fun σ H Q=>t σ H fun c H1=>if c=true then u σ H1 Q else Q false H1
def tOr (t u:TT):TT:=fun σ H Q=>t σ H fun c H1=>if c=true then Q true H1 else u σ H1 Q
def tNot (t:TT):TT:=fun σ H Q=>t σ H fun c H1=>Q (!c) H1
theorem Qls (ha:PT X a tA):PW X (.BoolOp .And [a] pos) tA:=by
  intro wh pins s σ H Q I h
  refine isTrue_and (thn (ha pins s σ H Q I h) fun c s1 e=>?_)
  cases c with
  | true=>exact isTrue_and_nil e
  | false=>exact e
theorem QkF (ha:PT X a tA):PW X (.BoolOp .Or [a] pos) tA:=by
  intro wh pins s σ H Q I h
  refine isTrue_or (thn (ha pins s σ H Q I h) fun c s1 e=>?_)
  cases c with
  | false=>exact isTrue_or_nil e
  | true=>exact e
theorem pw_and (ha:PT X a tA) (hb:PW X (.BoolOp .And (b::rest) pos) tB'):PW X (.BoolOp .And (a::b::rest) pos) (tAnd tA tB'):=by
  intro wh pins s σ H Q I h
  refine isTrue_and (thn (ha pins s σ H _ I h) fun c s1 ⟨H1,I1,q1⟩=>?_)
  cases c with
  | true=>exact hb wh pins s1 σ H1 Q I1 q1
  | false=>exact ⟨H1,I1,q1⟩
theorem pw_or (ha:PT X a tA) (hb:PW X (.BoolOp .Or (b::rest) pos) tB'):PW X (.BoolOp .Or (a::b::rest) pos) (tOr tA tB'):=by
  intro wh pins s σ H Q I h
  refine isTrue_or (thn (ha pins s σ H _ I h) fun c s1 ⟨H1,I1,q1⟩=>?_)
  cases c with
  | true=>exact ⟨H1,I1,q1⟩
  | false=>exact hb wh pins s1 σ H1 Q I1 q1
theorem pt_not (ha:PT X a tA):PT X (.UnaryOp .Not a pos) (tNot tA):=by
  intro pins s σ H Q I h
  exact isTrue_not (ha pins s σ H (fun c H1=>Q (!c) H1) I h)
def tAndV (ta tb:TE):TE:=fun σ H Q=>ta σ H fun x H1=>∃ c,x=.bl c/\if c=true then tb σ H1 Q else Q (.bl false) H1
def tOrV (ta tb:TE):TE:=fun σ H Q=>ta σ H fun x H1=>∃ c,x=.bl c/\if c=true then Q (.bl true) H1 else tb σ H1 Q
def tNotV (ta:TE):TE:=fun σ H Q=>ta σ H fun x H1=>∃ c,x=.bl c/\Q (.bl (!c)) H1
theorem Qds {op} {t:TE} (h:PE X a t):PE X (.BoolOp op [a] pos) t:=fun pins s σ H Q I hw=>BoolOp_one (h pins s σ H Q I hw)
theorem Qdt (ha:PE X a ta) (hb:PE X (.BoolOp .And (b::rest) pos) tb):PE X (.BoolOp .And (a::b::rest) pos) (tAndV ta tb):=by
  intro pins s σ H Q I h
  refine BoolOp_and (thn (ha pins s σ H _ I h) fun v s1 ⟨x,H1,I1,r1,q1⟩=>?_)
  obtain ⟨c,rfl,q1⟩:=q1
  cases r1
  refine wpAny_truthy_bool ?_
  cases c with
  | true=>exact hb pins s1 σ H1 Q I1 q1
  | false=>exact ⟨.bl false,H1,I1,rfl,q1⟩
theorem pe_or (ha:PE X a ta) (hb:PE X (.BoolOp .Or (b::rest) pos) tb):PE X (.BoolOp .Or (a::b::rest) pos) (tOrV ta tb):=by
  intro pins s σ H Q I h
  refine BoolOp_or (thn (ha pins s σ H _ I h) fun v s1 ⟨x,H1,I1,r1,q1⟩=>?_)
  obtain ⟨c,rfl,q1⟩:=q1
  cases r1
  refine wpAny_truthy_bool ?_
  cases c with
  | false=>exact hb pins s1 σ H1 Q I1 q1
  | true=>exact ⟨.bl true,H1,I1,rfl,q1⟩
theorem QkK (ha:PE X a ta):PE X (.UnaryOp .Not a pos) (tNotV ta):=by
  intro pins s σ H Q I h
  refine UnaryOp_ (thn (ha pins s σ H _ I h) fun v s1 ⟨x,H1,I1,r1,q1⟩=>?_)
  obtain ⟨c,rfl,q1⟩:=q1
  cases r1
  exact not_of (wpAny_truthy_bool ⟨.bl (!c),H1,I1,rfl,q1⟩)
end
def SqL (K:PySem.W.Frag) (H:Hp) (a:Addr) (xs:List V):Prop:=
  Rd H a (.lst xs) ∨
    ∃ (o:Obj) (its:Array Value) (n:Nat),K.lookup a=some o/\o.cls=.type "list" /\ o.dict=none/\o.data=.seq its n/\its.size<=sizeLine/\Vals xs its.toList
def SqT (K:PySem.W.Frag) (H:Hp) (a:Addr) (xs:List V):Prop:=
  Rd H a (.tup xs) ∨
    ∃ (o:Obj) (its:Array Value) (n:Nat),K.lookup a=some o/\o.cls=.type "tuple" /\ o.data=.seq its n/\its.size<=sizeLine/\Vals xs its.toList
def absV:Value->Option V
  | .none=>some .non
  | .bool b=>some (.bl b)
  | .int i _=>some (.int i)
  | .str x _=>some (.str x)
  | .bytes b _=>some (.byt b)
  | .float b _=>some (.flt b)
  | .ref a=>some (.ref a)
  | .type n=>some (.ty n)
  | _=>none
theorem RelV.abs {x:V} {u:Value} (r:RelV x u):absV u=some x:=by
  cases x with
  | non=>cases r;rfl
  | bl _=>cases r;rfl
  | int _=>obtain ⟨t,rfl⟩:=r;rfl
  | str _=>obtain ⟨t,rfl⟩:=r;rfl
  | byt _=>obtain ⟨t,rfl⟩:=r;rfl
  | flt _=>obtain ⟨t,rfl⟩:=r;rfl
  | ref _=>cases r;rfl
  | ty _=>cases r;rfl
theorem RelV.inj {x y:V} {u:Value} (r:RelV x u) (q:RelV y u):x=y:=Option.some.inj (r.abs.symm.trans q.abs)
theorem Vals.inj:∀ {xs ys:List V} {us:List Value},Vals xs us->Vals ys us->xs=ys
  | _,_,_,.nil,.nil=>rfl
  | _,_,_,.cons r t,.cons r' t'=>by rw [r.inj r',Vals.inj t t']
section
variable {X:Cx} {pins:List (Addr×Obj)} {σ:St} {H:Hp} {s:Shared} {a:Addr} {xs ys:List V}
theorem SqL.of {K:PySem.W.Frag} (h:H a=some (.lst xs)):SqL K H a xs:=.inl (.inl h)
theorem SqT.of {K:PySem.W.Frag} (h:H a=some (.tup xs)):SqT K H a xs:=.inl (.inl h)
theorem Inv.list (I:Inv X pins σ H s) (h:SqL X.K H a xs):∃ its:List Value,Vals xs its/\PlainL s.heap a its.toArray/\xs.length<=sizeLine:=by
  rcases h with h | ⟨o,its,n,hk,hc,hd,hs,hz,r⟩
  · obtain ⟨z,its,n,r,e⟩:=h.ok I.hok
    exact ⟨its,r,⟨_,n,e,rfl,rfl,rfl⟩,z⟩
  · refine ⟨its.toList,r,⟨o,n,I.kIn a o hk,hc,hd,by simpa using hs⟩,?_⟩
    have e:=r.length
    simp only [Array.length_toList] at e
    omega
theorem Inv.tuple (I:Inv X pins σ H s) (h:SqT X.K H a xs):∃ its:List Value,Vals xs its/\IsTup s.heap a its.toArray/\xs.length<=sizeLine:=by
  rcases h with h | ⟨o,its,n,hk,hc,hs,hz,r⟩
  · obtain ⟨z,its,r,p⟩:=h.ok I.hok
    exact ⟨its,r,p,z⟩
  · refine ⟨its.toList,r,⟨o,I.kIn a o hk,hc,n,by simpa using hs⟩,?_⟩
    have e:=r.length
    simp only [Array.length_toList] at e
    omega
theorem Inv.list_inj (I:Inv X pins σ H s) (h:SqL X.K H a xs) (h':SqL X.K H a ys):xs=ys:=by
  obtain ⟨its,r,⟨o,n,e,_,_,d⟩,_⟩:=I.list h
  obtain ⟨its',r',⟨o',n',e',_,_,d'⟩,_⟩:=I.list h'
  rw [e] at e';cases e'
  rw [d] at d'
  injection d' with d1 _
  have:its=its':=by simpa using congrArg Array.toList d1
  subst this
  exact r.inj r'
theorem Inv.tuple_inj (I:Inv X pins σ H s) (h:SqT X.K H a xs) (h':SqT X.K H a ys):xs=ys:=by
  obtain ⟨its,r,⟨o,e,_,n,d⟩,_⟩:=I.tuple h
  obtain ⟨its',r',⟨o',e',_,n',d'⟩,_⟩:=I.tuple h'
  rw [e] at e';cases e'
  rw [d] at d'
  injection d' with d1 _
  have:its=its':=by simpa using congrArg Array.toList d1
  subst this
  exact r.inj r'
end
abbrev Cx.wish (X:Cx) (E:Value->Shared->Prop):Cx:={ X with xe:=E }
abbrev Cx.nox (X:Cx):Cx:=X.wish fun _ _=>False
theorem Cx.Ok.wish {X:Cx} (ok:X.Ok) (E:Value->Shared->Prop):(X.wish E).Ok:=
  ⟨ok.mod,ok.kind,ok.glob,ok.blt,ok.above,ok.inj,ok.has,ok.cab,ok.hd,ok.frames,ok.stk,ok.exf,ok.bs,ok.bsz,ok.noex,ok.exfs,ok.funs,ok.frf⟩
theorem Cx.Ok.unwish {X:Cx} {E:Value->Shared->Prop} (ok:(X.wish E).Ok):X.Ok:=
  ⟨ok.mod,ok.kind,ok.glob,ok.blt,ok.above,ok.inj,ok.has,ok.cab,ok.hd,ok.frames,ok.stk,ok.exf,ok.bs,ok.bsz,ok.noex,ok.exfs,ok.funs,ok.frf⟩
section
variable {X:Cx} {pins:List (Addr×Obj)} {σ:St} {H:Hp} {s:Shared} {E:Value->Shared->Prop}
theorem Inv.wish (I:Inv X pins σ H s) (E:Value->Shared->Prop):Inv (X.wish E) pins σ H s:=⟨I.ok.wish E,I.os,I.bare,I.base,I.loc,I.cell,I.free,I.freeC,I.pin,I.hok,I.len⟩
theorem Inv.unwish (I:Inv (X.wish E) pins σ H s):Inv X pins σ H s:=⟨I.ok.unwish,I.os,I.bare,I.base,I.loc,I.cell,I.free,I.freeC,I.pin,I.hok,I.len⟩
theorem SP.unwish {D:Ends} {f:Flow} {s':Shared} (h:SP (X.wish E) pins D f s'):SP X pins D f s':=by
  cases f with
  | next=>obtain ⟨σ',H',I,q⟩:=h;exact ⟨σ',H',I.unwish,q⟩
  | brk=>obtain ⟨σ',H',I,q⟩:=h;exact ⟨σ',H',I.unwish,q⟩
  | cont=>obtain ⟨σ',H',I,q⟩:=h;exact ⟨σ',H',I.unwish,q⟩
  | ret u=>obtain ⟨v,σ',H',I,r,q⟩:=h;exact ⟨v,σ',H',I.unwish,r,q⟩
theorem PE.nox {e:Expr} {t:TE} (h:PE X.nox e t):PE X e t:=fun pins s σ H Q I hw=>
  wpAny_mono (h pins s σ H Q (I.wish _) hw) (fun _ _ ⟨v,H',I',r,q⟩=>⟨v,H',I'.unwish,r,q⟩) fun _ _ z=>False.elim z
theorem PT.nox {e:Expr} {t:TT} (h:PT X.nox e t):PT X e t:=fun pins s σ H Q I hw=>
  wpAny_mono (h pins s σ H Q (I.wish _) hw) (fun _ _ ⟨H',I',q⟩=>⟨H',I'.unwish,q⟩) fun _ _ z=>False.elim z
theorem PSs.nox {st:List Stmt} {t:TS} (h:PSs X.nox st t):PSs X st t:=fun pins s σ H D I hw=>
  wpAny_mono (h pins s σ H D (I.wish _) hw) (fun _ _ q=>q.unwish) fun _ _ z=>False.elim z
end
section
variable {X:Cx} {st:Stmt} {rest:List Stmt} {t u:TS} {e:Expr} {te:TE} {pos:Pos}
def tNext:TS:=fun D σ H=>D.nx σ H
def tSeq (t u:TS):TS:=fun D σ H=>t { D with nx:=u D } σ H
theorem Qbv:PSs X [] tNext:=fun _ _ σ H _ I h=>wpAny_execs_nil ⟨σ,H,I,h⟩
theorem Qaz (h1:PS X st t) (h2:PSs X rest u):PSs X (st::rest) (tSeq t u):=by
  intro pins s σ H D I h
  refine wpAny_execs_cons (thn (h1 pins s σ H { D with nx:=u D } I h) fun f s1 q=>?_)
  cases f with
  | next=>
    obtain ⟨σ',H',I',q⟩:=q
    exact h2 pins s1 σ' H' D I' q
  | ret v=>exact q
  | brk=>exact q
  | cont=>exact q
theorem QaM (h1:PS X st t):PSs X [st] t:=by
  intro pins s σ H D I h
  refine wpAny_execs_cons (thn (h1 pins s σ H D I h) fun f s1 q=>?_)
  cases f with
  | next=>exact wpAny_execs_nil q
  | ret v=>exact q
  | brk=>exact q
  | cont=>exact q
theorem Inv.quiet {pins:List (Addr×Obj)} {σ:St} {H:Hp} {s:Shared} (I:Inv X pins σ H s):interactive X.env=false:=by simp [interactive,I.ok.kind]
def Qk9 (te:TE):TS:=fun D σ H=>te σ H fun _ H1=>D.nx σ H1
theorem Qhi (he:PE X e te) (hs:swapsWith e none pos.line X.env=pure false:=by rfl):PS X (.Expr e pos) (Qk9 te):=by
  intro pins s σ H D I h
  exact wpAny_Expr_any (thn (he pins s σ H _ I h) fun v s1 ⟨x,H1,I1,r1,q1⟩=>⟨σ,H1,I1,q1⟩) I.quiet hs
def tRet (te:TE):TS:=fun D σ H=>te σ H D.rt
theorem Qba (he:PE X e te):PS X (.Return (some e) pos) (tRet te):=by
  intro pins s σ H D I h
  exact wpAny_Return_some (thn (he pins s σ H _ I h) fun v s1 ⟨x,H1,I1,r1,q1⟩=>⟨x,σ,H1,I1,r1,q1⟩)
def tIfS (c:TT) (t u:TS):TS:=fun D σ H=>c σ H fun b H1=>if b=true then t D σ H1 else u D σ H1
theorem Qej {c:Expr} {a b:List Stmt} {tc:TT} (hc:PT X c tc) (ha:PSs X a t) (hb:PSs X b u):PS X (.If c a b pos) (tIfS tc t u):=by
  intro pins s σ H D I h
  refine wpAny_If (thn (hc pins s σ H _ I h) fun d s1 ⟨H1,I1,q1⟩=>?_)
  cases d with
  | true=>exact ha pins s1 σ H1 D I1 q1
  | false=>exact hb pins s1 σ H1 D I1 q1
end
abbrev TG:=V->St->Hp->(St->Hp->Prop)->Prop
abbrev TGs:=List V->St->Hp->(St->Hp->Prop)->Prop
def PG (X:Cx) (target:Expr) (t:TG):Prop:=
  ∀ (pins:List (Addr×Obj)) (s:Shared) (σ:St) (H:Hp) (v:V) (u:Value) (Q:St->Hp->Prop),Inv X pins σ H s->RelV v u->t v σ H Q ->
    wpAny (model X.prog X.w) X.A (assign target X.env u) (fun _ s'=>∃ σ' H',Inv X pins σ' H' s'/\Q σ' H') X.xe s
def PGs (X:Cx) (ts:List Expr) (t:TGs):Prop:=
  ∀ (pins:List (Addr×Obj)) (s:Shared) (σ:St) (H:Hp) (vs:List V) (us:List Value) (Q:St->Hp->Prop),Inv X pins σ H s->Vals vs us->t vs σ H Q ->
    wpAny (model X.prog X.w) X.A (assignInOrder ((assignEach ts X.env).map (·.2)) us) (fun _ s'=>∃ σ' H',Inv X pins σ' H' s'/\Q σ' H') X.xe s
abbrev TSet:=V->V->V->Hp->(Hp->Prop)->Prop
def PSet (X:Cx) (t:TSet):Prop:=
  ∀ (pins:List (Addr×Obj)) (s:Shared) (σ:St) (H:Hp) (o i v:V) (ov iv u:Value) (Q:Hp->Prop),Inv X pins σ H s->RelV o ov->RelV i iv->RelV v u->t o i v H Q ->
    wpAny (model X.prog X.w) X.A (setItem ov iv u) (fun _ s'=>∃ H',Inv X pins σ H' s'/\Q H') X.xe s
abbrev TIp:=V->V->Hp->VK->Prop
def PIp (X:Cx) (op:Operator) (t:TIp):Prop:=
  ∀ (pins:List (Addr×Obj)) (s:Shared) (σ:St) (H:Hp) (x y:V) (v u:Value) (Q:VK),Inv X pins σ H s->RelV x v->RelV y u->t x y H Q ->
    wpAny (model X.prog X.w) X.A (inplaceOp op v u) (EP X pins σ Q) X.xe s
section
variable {X:Cx} {pos:Pos}
def QcG (i:Nat):TG:=fun v σ H Q=>Q (σ.set i (some v)) H
theorem Qci {i:Nat} {x:Str} (hN:X.N.Nodup) (hi:X.N[i]? = some x) (hx:Loc X.env.scope x) (hf:X.fn x=true∨X.env.scope.names.lookup x=some .local:=by first | exact .inl rfl | exact .inr rfl | assumption):PG X (.Name x pos) (QcG i):=by
  intro pins s σ H v u Q I r h
  exact wpAny_assign_Name (Qfu I hN hi hx r (fun s' I'=>⟨_,H,I',h⟩) hf)
def gNil:TGs:=fun vs σ H Q=>vs=[]/\Q σ H
def Qkc (t:TG) (u:TGs):TGs:=fun vs σ H Q=>∃ v r,vs=v::r/\t v σ H fun σ' H'=>u r σ' H' Q
theorem Qhn:PGs X [] gNil:=by
  intro pins s σ H vs us Q I r h
  obtain ⟨e,h⟩:=h
  subst e
  cases r
  exact assignInOrder_nil ⟨σ,H,I,h⟩
theorem QdR {e:Expr} {es:List Expr} {t:TG} {u:TGs} (h1:PG X e t) (h2:PGs X es u)
    (hs:(assignEach (e::es) X.env).map (·.2)=assign e X.env::(assignEach es X.env).map (·.2):=by rfl):PGs X (e::es) (Qkc t u):=by
  intro pins s σ H vs us Q I r h
  obtain ⟨v,vr,e1,h⟩:=h
  subst e1
  cases r with
  | cons r rr=>
    rw [hs]
    refine assignInOrder_cons (thn (h1 pins s σ H _ _ _ I r h) fun _ s1 ⟨σ1,H1,I1,q1⟩=>?_)
    exact h2 pins s1 σ1 H1 _ _ Q I1 rr q1
def gTup (K:PySem.W.Frag) (n:Nat) (t:TGs):TG:=fun v σ H Q=>∃ a xs,v=.ref a/\SqT K H a xs/\xs.length=n/\t xs σ H Q
theorem QkI {es:List Expr} {k:Nat} {t:TGs} {n:Nat} (hc:X.calm=true) (h:PGs X es t)
    (hn:(assignEach es X.env).length=n:=by rfl) (hst:(assignEach es X.env).findIdx? (·.1)=none:=by rfl):PG X (.Tuple es k pos) (gTup X.K n t):=by
  intro pins s σ H v u Q I r hw
  obtain ⟨a,xs,e1,hq,hl,hw⟩:=hw
  subst e1
  cases r
  obtain ⟨its,rv,ht,hz⟩:=I.tuple hq
  refine assign_Tuple_tuple (I.ok.hd hc) ht (by simp [hn,<- hl,rv.length]) hst fun h' hx=>?_
  have I1:Inv X pins σ H { s with heap:=h' }:=I.kept (t':=s.toks) fun b o e=>hx b o (Nat.ne_of_lt (Heap.lt_size e)) e
  exact h pins _ σ H xs _ Q I1 (by simpa using rv) hw
def gSub (to ti:TE) (t:TSet):TG:=fun v σ H Q=>to σ H fun o H1=>ti σ H1 fun i H2=>t o i v H2 fun H3=>Q σ H3
theorem QkJ {o i:Expr} {to ti:TE} {t:TSet} (ho:PE X o to) (hi:PE X i ti) (hs:PSet X t)
    (ha:∀ v,assign (.Subscript o i pos) X.env v=(do
      let ov <- holding [v] (eval o X.env)
      let iv <- holding [v,ov] (eval i X.env)
      standAt pos
      holding [v,ov,iv] (setItem ov iv v)
      release [v,ov,iv] []):=by intro _;rfl):PG X (.Subscript o i pos) (gSub to ti t):=by
  intro pins s σ H v u Q I r h
  rw [ha]
  refine wpAny_bind (wpAny_holding (thn (ho pins s σ H _ I h) fun ov s1 ⟨x,H1,I1,r1,q1⟩=>?_))
  refine wpAny_bind (wpAny_holding (thn (hi pins s1 σ H1 _ I1 q1) fun iv s2 ⟨y,H2,I2,r2,q2⟩=>?_))
  refine wpAny_bind (wpAny_standAt (wpAny_bind (wpAny_holding (thn (hs pins s2 σ H2 x y v ov iv u _ I2 r1 r2 r q2) fun _ s3 ⟨H3,I3,q3⟩=>?_))))
  exact wpAny_release ⟨σ,H3,I3,q3⟩
def tAsg (te:TE) (g:TG):TS:=fun D σ H=>te σ H fun x H1=>g x σ H1 D.nx
theorem Qhj {tg e:Expr} {te:TE} {g:TG} (he:PE X e te) (hg:PG X tg g) (hs:swapsWithSole [tg] e pos.line X.env=pure false:=by rfl) (hw:swappedStores [tg] e X.env=pure none:=by rfl)
    (h1:(assignEach [tg] X.env).map (·.2)=[assign tg X.env]:=by rfl):PS X (.Assign [tg] e pos) (tAsg te g):=by
  intro pins s σ H D I h
  refine wpAny_Assign_stores (thn (he pins s σ H _ I h) fun v s1 ⟨x,H1,I1,r1,q1⟩=>?_) hs hw
  rw [h1]
  exact thn (hg pins s1 σ H1 x v _ I1 r1 q1) fun _ s2 q=>q
theorem Qb0 {i:Nat} {x:Str} {e:Expr} {te:TE} {pos':Pos} (hN:X.N.Nodup) (hi:X.N[i]? = some x) (hx:Loc X.env.scope x) (he:PE X e te) (hs:swapsWith e (some (.Name x pos')) pos.line X.env=pure false:=by rfl) (hf:X.fn x=true∨X.env.scope.names.lookup x=some .local:=by first | exact .inl rfl | exact .inr rfl | assumption) :
    PS X (.Assign [.Name x pos'] e pos) (tAsg te (QcG i)):=by
  intro pins s σ H D I h
  refine wpAny_Assign_Name (thn (he pins s σ H _ I h) fun v s1 ⟨y,H1,I1,r1,q1⟩=>?_) hs
  exact Qfu I1 hN hi hx r1 (fun s2 I2=>⟨_,H1,I2,q1⟩) hf
end
section
variable {X:Cx} {pos:Pos}
end
structure It where
  go:Nat->Hp->Prop
  yld:Nat->Hp->V->Hp->Prop
  stop:Nat->Hp->Prop
def FpOk (X:Cx) (pins:List (Addr×Obj)) (H:Hp) (b:Addr):Prop:=
  H b=none/\b≠X.env.locals/\b∉X.fs/\(b∈X.ex∨X.s₀.heap.objs.size<=b)/\(∀ x c,X.env.cells.lookup x=some c->c≠b)/\∀ p∈X.pn++pins,p.1≠b
theorem Inv.fpOk {X:Cx} {pins:List (Addr×Obj)} {σ:St} {H H':Hp} {s:Shared} {b:Addr} (I:Inv X pins σ H s) (hb:s.heap.objs.size<=b) (hn:H' b=none):FpOk X pins H' b:=by
  refine ⟨hn,Nat.ne_of_gt (Nat.lt_of_lt_of_le I.lt hb),I.nofs hb,.inr (Nat.le_trans I.sz hb),fun x c e z=>?_,fun p hp z=>?_⟩
  · obtain ⟨v,q⟩:=I.cell x c e
    exact absurd (Nat.lt_of_lt_of_le q.lt (by rw [z];exact hb)) (Nat.lt_irrefl _)
  · exact absurd (Nat.lt_of_lt_of_le (Heap.lt_size (I.pin p hp).1) (by rw [z];exact hb)) (Nat.lt_irrefl _)
structure Turn (P:Program) (w:World) (K:PySem.W.Frag) (tg:Expr) (J:It) (fp:List Addr) (it:Addr) (tn:Nat->Heap->Prop):Prop where
  mem:it∈fp
  obj:∀ i h,tn i h->∀ b∈fp,∃ o,h.get? b=some o/\∀ v,o.data≠.cell v
  keep:∀ i h h',tn i h->(∀ b∈fp,∀ o,h.get? b=some o->h'.get? b=some o)->tn i h'
  item:∀ (X:Cx),X.prog=P->X.w=w->X.K=K->X.calm=true->∀ (i:Nat) (pins:List (Addr×Obj)) (s:Shared) (σ:St) (H:Hp) (E:Value->Shared->Prop),Inv X pins σ H s->(∀ b∈fp,FpOk X pins H b)->tn i s.heap->J.go i H ->
    wpAny (model P w) X.A (pyNext (.ref it)) (fun r s1=>∃ u,r=some u /\
      wpAny (model P w) X.A (letOwnedTupleGo tg (.ref it) u) (fun _ s2=>∃ x H',Inv X pins σ H' s2/\RelV x u/\J.yld i H x H'/\tn (i+1) s2.heap/\∀ b∈fp,H' b=none) E s1) E s
  done:∀ (X:Cx),X.prog=P->X.w=w->X.K=K->X.calm=true->∀ (i:Nat) (pins:List (Addr×Obj)) (s:Shared) (σ:St) (H:Hp) (E:Value->Shared->Prop),Inv X pins σ H s->(∀ b∈fp,FpOk X pins H b)->tn i s.heap->J.stop i H ->
    wpAny (model P w) X.A (pyNext (.ref it)) (fun r s1=>r=none/\Inv X pins σ H s1) E s
  self:∀ (A:Around) (i:Nat) (s:Shared) (Q:Value->Shared->Prop) (E:Value->Shared->Prop),tn i s.heap->Q (.ref it) s->wpAny (model P w) A (pyIter (.ref it)) Q E s
abbrev TI:=St->Hp->(It->Hp->Prop)->Prop
def PIE (X:Cx) (pins:List (Addr×Obj)) (σ:St) (tg:Expr) (R:It->Hp->Prop) (itv:Value) (s2:Shared):Prop:=
  ∃ (it:Addr) (fp:List Addr) (tn:Nat->Heap->Prop) (J:It) (H':Hp),itv=.ref it/\Inv X pins σ H' s2/\Turn X.prog X.w X.K tg J fp it tn/\tn 0 s2.heap/\(∀ b∈fp,FpOk X pins H' b)/\R J H'
def PI (X:Cx) (tg iter:Expr) (wi:TI):Prop:=
  ∀ (pins:List (Addr×Obj)) (s:Shared) (σ:St) (H:Hp) (R:It->Hp->Prop),Inv X pins σ H s->wi σ H R ->
    wpAny (model X.prog X.w) X.A (eval iter X.env) (fun v s1=>wpAny (model X.prog X.w) X.A (pyIter v) (PIE X pins σ tg R) X.xe s1) X.xe s
theorem Qmu {M:Model} {A:Around} {E:Value->Shared->Prop} {s:Shared} {tg:Expr} {it:Addr} {u:Value} {o:Obj} {n:String} {vs:Array Value} {Q:Unit->Shared->Prop} (ho:s.heap.get? it=some o) (hc:o.cls=.type n) (hd:o.data=.fields vs)
    (hn:["enumerate", "zip", "dict_itemiterator", "dict_reverseitemiterator", "odict_iterator", "itertools.zip_longest", "itertools.pairwise"].contains n=false) (hQ:Q () s):wpAny M A (letOwnedTupleGo tg (.ref it) u) Q E s:=by
  unfold letOwnedTupleGo
  cases tg<;>first
    | exact wpAny_pure hQ
    | (cases u<;>first
        | exact wpAny_pure hQ
        | (refine wpAny_bind (wpAny_load ho ?_)
           rw [hc,hd]
           show wpAny M A (if (["enumerate", "zip", "dict_itemiterator", "dict_reverseitemiterator", "odict_iterator", "itertools.zip_longest", "itertools.pairwise"].contains n&&vs[0]? == some (rawInt _))=true then _ else _) Q E s
           rw [if_neg (by intro h;rw [hn,Bool.false_and] at h;cases h)]
           exact wpAny_pure hQ))
def Itl (K:PySem.W.Frag) (a:Addr):It:=
  ⟨fun i H=>∃ xs x,SqL K H a xs/\xs[i]? = some x,fun i H x H'=>H'=H/\∀ xs,SqL K H a xs->xs[i]? = some x,fun i H=>∃ xs,SqL K H a xs/\xs.length<=i⟩
def Itt (K:PySem.W.Frag) (a:Addr):It:=
  ⟨fun i H=>∃ xs x,SqT K H a xs/\xs[i]? = some x,fun i H x H'=>H'=H/\∀ xs,SqT K H a xs->xs[i]? = some x,fun i H=>∃ xs,SqT K H a xs/\xs.length<=i⟩
def Itr (lo:Int) (n:Nat):It:=⟨fun i _=>i<n,fun i H x H'=>H'=H/\x=.int (lo+i),fun i _=>n<=i⟩
theorem QgP {P:Program} {w:World} {K:PySem.W.Frag} {tg:Expr} (a it:Addr):Turn P w K tg (Itl K a) [it] it (fun i h=>h.IsListIter it a i) where
  mem:=by simp
  obj:=fun i h st b hb=>by
    have e:b=it:=by simpa using hb
    subst e
    obtain ⟨o,e,c,d⟩:=st
    exact ⟨o,e,fun v z=>by rw [d] at z;cases z⟩
  keep:=fun i h h' st k=>st.at fun o e=>k it (by simp) o e
  item:=by
    intro X hP hw hK hc i pins s σ H E I hf st hg
    subst hP hw hK
    obtain ⟨xs,x,hq,hx⟩:=hg
    obtain ⟨its,rv,p,hz⟩:=I.list hq
    obtain ⟨u,hu,ru⟩:=rv.get hx
    obtain ⟨f0,f1,f2,f3,f4,f5⟩:=hf it (by simp)
    refine wpAny_pyNext_list_item st p.isList (x:=u) (by simpa using hu) fun h' st' sb=>?_
    have I1:Inv X pins σ H { s with heap:=h' }:=I.turned (t':=s.toks) (fun b o hb e=>(sb.2 b hb).trans e) f0 f1 f3 f4 f5
    obtain ⟨o,e,c,d⟩:=id st'
    exact ⟨u,rfl,Qmu (s:={ s with heap:=h' }) e c d (by decide) ⟨x,H,I1,ru,⟨rfl,fun ys hy=>by rw [I.list_inj hy hq];exact hx⟩,st',fun b hb=>(hf b hb).1⟩⟩
  done:=by
    intro X hP hw hK hc i pins s σ H E I hf st hg
    subst hP hw hK
    obtain ⟨xs,hq,hx⟩:=hg
    obtain ⟨its,rv,p,hz⟩:=I.list hq
    obtain ⟨f0,f1,f2,f3,f4,f5⟩:=hf it (by simp)
    have hl:=rv.length
    exact wpAny_pyNext_list_end (I.ok.hd hc) st p.isList (by simp;omega) fun h' eb=>⟨rfl,I.turned (t':=s.toks) (fun b o hb e=>eb b o hb e) f0 f1 f3 f4 f5⟩
  self:=fun _ _ _ _ _ st h=>wpAny_pyIter_listiter st h
theorem Qge {P:Program} {w:World} {K:PySem.W.Frag} {tg:Expr} (a it:Addr):Turn P w K tg (Itt K a) [it] it (fun i h=>h.IsTupleIter it a i) where
  mem:=by simp
  obj:=fun i h st b hb=>by
    have e:b=it:=by simpa using hb
    subst e
    obtain ⟨o,e,c,d⟩:=st
    exact ⟨o,e,fun v z=>by rw [d] at z;cases z⟩
  keep:=fun i h h' st k=>st.at fun o e=>k it (by simp) o e
  item:=by
    intro X hP hw hK hc i pins s σ H E I hf st hg
    subst hP hw hK
    obtain ⟨xs,x,hq,hx⟩:=hg
    obtain ⟨its,rv,p,hz⟩:=I.tuple hq
    obtain ⟨u,hu,ru⟩:=rv.get hx
    obtain ⟨f0,f1,f2,f3,f4,f5⟩:=hf it (by simp)
    refine wpAny_pyNext_tuple_item st (show s.heap.IsTuple a its.toArray from p) (x:=u) (by simpa using hu) fun h' st' sb=>?_
    have I1:Inv X pins σ H { s with heap:=h' }:=I.turned (t':=s.toks) (fun b o hb e=>(sb.2 b hb).trans e) f0 f1 f3 f4 f5
    obtain ⟨o,e,c,d⟩:=id st'
    exact ⟨u,rfl,Qmu (s:={ s with heap:=h' }) e c d (by decide) ⟨x,H,I1,ru,⟨rfl,fun ys hy=>by rw [I.tuple_inj hy hq];exact hx⟩,st',fun b hb=>(hf b hb).1⟩⟩
  done:=by
    intro X hP hw hK hc i pins s σ H E I hf st hg
    subst hP hw hK
    obtain ⟨xs,hq,hx⟩:=hg
    obtain ⟨its,rv,p,hz⟩:=I.tuple hq
    obtain ⟨f0,f1,f2,f3,f4,f5⟩:=hf it (by simp)
    have hl:=rv.length
    exact wpAny_pyNext_tuple_end (I.ok.hd hc) st (show s.heap.IsTuple a its.toArray from p) (by simp;omega) fun h' eb=>⟨rfl,I.turned (t':=s.toks) (fun b o hb e=>eb b o hb e) f0 f1 f3 f4 f5⟩
  self:=fun _ _ _ _ _ st h=>wpAny_pyIter_tupleiter st h
theorem Qgf {P:Program} {w:World} {K:PySem.W.Frag} {tg:Expr} (it:Addr) (lo:Int) (n:Nat):Turn P w K tg (Itr lo n) [it] it (fun i h=>IsRangeIter h it (lo+(i:Nat)*1) ((n:Int) - (i:Nat)) 1) where
  mem:=by simp
  obj:=fun i h st b hb=>by
    have e:b=it:=by simpa using hb
    subst e
    exact ⟨_,st,fun v z=>by
      have z':Data.fields _=Data.cell v:=z
      cases z'⟩
  keep:=fun i h h' st k=>k it (by simp) _ st
  item:=by
    intro X hP hw hK hc i pins s σ H E I hf st hg
    subst hP hw hK
    obtain ⟨f0,f1,f2,f3,f4,f5⟩:=hf it (by simp)
    have W:=Walks.range (prog:=X.prog) (w:=X.w) (I.ok.hd hc) it lo 1 n
    refine W.item i s _ _ hg st fun v h' tk hv st' kk=>?_
    obtain ⟨t,rfl⟩:=hv
    have I1:Inv X pins σ H { s with heap:=h',toks:=tk }:=I.turned (fun b o hb e=>kk b o (by simpa using hb) e) f0 f1 f3 f4 f5
    refine ⟨_,rfl,Qmu (s:={ s with heap:=h',toks:=tk }) (n := "range_iterator") st' rfl rfl (by decide) ⟨.int (lo+i),H,I1,⟨t,?_⟩,⟨rfl,rfl⟩,st',fun b hb=>(hf b hb).1⟩⟩
    rw [Int.mul_one]
  done:=by
    intro X hP hw hK hc i pins s σ H E I hf st hg
    subst hP hw hK
    obtain ⟨f0,f1,f2,f3,f4,f5⟩:=hf it (by simp)
    exact wpAny_pyNext_range_end (I.ok.hd hc) st (by have:n<=i:=hg;omega) fun h' eb=>⟨rfl,I.turned (t':=s.toks) (fun b o hb e=>eb b o hb e) f0 f1 f3 f4 f5⟩
  self:=fun _ _ _ _ _ st h=>wpAny_pyIter_rangeiter st h
section
variable {X:Cx} {tg:Expr}
def iList (K:PySem.W.Frag) (tl:TE):TI:=fun σ H R=>tl σ H fun x H1=>∃ a,x=.ref a/\(∃ xs,SqL K H1 a xs)/\R (Itl K a) H1
def iTup (K:PySem.W.Frag) (tl:TE):TI:=fun σ H R=>tl σ H fun x H1=>∃ a,x=.ref a/\(∃ xs,SqT K H1 a xs)/\R (Itt K a) H1
theorem Qlv {l:Expr} {tl:TE} (hl:PE X l tl):PI X tg l (iList X.K tl):=by
  intro pins s σ H R I h
  refine thn (hl pins s σ H _ I h) fun v s1 ⟨x,H1,I1,r1,q1⟩=>?_
  obtain ⟨a,e,⟨xs,hq⟩,q⟩:=q1
  subst e
  cases r1
  obtain ⟨its,rv,p,hz⟩:=I1.list hq
  refine wpAny_pyIter_list p.isList ?_
  refine ⟨s1.heap.objs.size,[s1.heap.objs.size],_,_,H1,rfl,I1.kept (t':=s1.toks) fun b o e=>Heap.get?_push_of_some _ e,QgP a _,⟨_,Heap.get?_push_size _ rfl,rfl,rfl⟩,fun b hb=>?_,q⟩
  have e:b=s1.heap.objs.size:=by simpa using hb
  subst e
  exact I1.fpOk (Nat.le_refl _) (I1.hok.fresh (Nat.le_refl _))
theorem pi_tup {l:Expr} {tl:TE} (hl:PE X l tl):PI X tg l (iTup X.K tl):=by
  intro pins s σ H R I h
  refine thn (hl pins s σ H _ I h) fun v s1 ⟨x,H1,I1,r1,q1⟩=>?_
  obtain ⟨a,e,⟨xs,hq⟩,q⟩:=q1
  subst e
  cases r1
  obtain ⟨its,rv,p,hz⟩:=I1.tuple hq
  refine wpAny_pyIter_tuple (show s1.heap.IsTuple a its.toArray from p) ?_
  refine ⟨s1.heap.objs.size,[s1.heap.objs.size],_,_,H1,rfl,I1.kept (t':=s1.toks) fun b o e=>Heap.get?_push_of_some _ e,Qge a _,⟨_,Heap.get?_push_size _ rfl,rfl,rfl⟩,fun b hb=>?_,q⟩
  have e:b=s1.heap.objs.size:=by simpa using hb
  subst e
  exact I1.fpOk (Nat.le_refl _) (I1.hok.fresh (Nat.le_refl _))
theorem Qji {pins:List (Addr×Obj)} {σ:St} {H:Hp} {s:Shared} {R:It->Hp->Prop} {E:Value->Shared->Prop} {lo hi:Int} {t u v:Tok} {tk:Nat} (I:Inv X pins σ H s) (h1 : -(2^62)<=lo) (h2:lo<2^62) (h3 : -(2^62)<=hi) (h4:hi<2^62)
    (q:R (Itr lo (hi - lo).toNat) H):wpAny (model X.prog X.w) X.A (pyIter (.ref s.heap.objs.size)) (PIE X pins σ tg R) E { s with heap:=s.heap.push { cls:=.type "range",data:=.fields #[.int lo t,.int hi u,.int 1 v] },toks:=tk }:=by
  refine wpAny_pyIter_range (IsRange.new ..) (small_one h1 h2 h3 h4) ?_
  have I1:Inv X pins σ H { s with heap:=s.heap.push { cls:=.type "range",data:=.fields #[.int lo t,.int hi u,.int 1 v] },toks:=tk }:=I.kept fun b o e=>Heap.get?_push_of_some _ e
  refine ⟨(s.heap.push { cls:=.type "range",data:=.fields #[.int lo t,.int hi u,.int 1 v] }).objs.size,[(s.heap.push { cls:=.type "range",data:=.fields #[.int lo t,.int hi u,.int 1 v] }).objs.size],_,_,H,rfl,
    I1.kept (t':=tk) fun b o e=>Heap.get?_push_of_some _ e,Qgf _ lo (hi - lo).toNat,?_,fun b hb=>?_,q⟩
  · have e1:lo+((0:Nat):Int)*1=lo:=by simp
    have e2:(((hi - lo).toNat:Nat):Int) - ((0:Nat):Int)=Builtin.Range.rangeSize lo hi 1:=by rw [rangeSize_one];split<;>omega
    show IsRangeIter _ _ (lo+((0:Nat):Int)*1) ((((hi - lo).toNat:Nat):Int) - ((0:Nat):Int)) 1
    rw [e1,e2]
    exact Heap.get?_push_size _ rfl
  · have e:b=(s.heap.push { cls:=.type "range",data:=.fields #[.int lo t,.int hi u,.int 1 v] }).objs.size:=by simpa using hb
    subst e
    exact I1.fpOk (Nat.le_refl _) (I1.hok.fresh (Nat.le_refl _))
def iRng1 (ta:TA):TI:=fun σ H R=>ta σ H fun vs H1=>∃ j:Int,vs=[.int j] /\ -(2^62)<=j/\j<2^62/\R (Itr 0 j.toNat) H1
theorem QcZ {a:Expr} {ta:TA} {p pos:Pos} (hg:Gl X "range") (hm:X.mg "range" = none) (ha:PA X [a] ta) (hs:starEach [a] X.env=[(false,eval a X.env)]:=by rfl):PI X tg (.Call (.Name "range" p) [a] [] pos) (iRng1 ta):=by
  intro pins s σ H R I h
  refine Call_ (QcD I hg hm boot_range (PyProof.Rows.callWith_type1 (thn (ha pos pins s σ H _ I h) fun us s1 ⟨vs,H1,I1,r1,q1⟩=>?_) hs rfl))
  obtain ⟨j,e,q1,q2,q⟩:=q1
  subst e
  cases r1 with
  | cons r rr=>
    cases rr
    obtain ⟨t,rfl⟩:=r
    exact call_range_1 (Qji I1 (by omega) (by omega) q1 q2 (by simpa using q))
def tFor (wi:TI) (g:TG) (tb:TS):TS:=fun D σ H=>wi σ H fun J H1=>∃ W:Nat->Nat->St->Hp->Prop,(∃ m,W 0 m σ H1)/\∀ i m σ H,W i m σ H ->
  (J.stop i H/\D.nx σ H)∨(J.go i H/\∃ N:St->Hp->Prop,(∀ σ' H',N σ' H'->∃ m',m'<m/\W (i+1) m' σ' H')/\∀ x H',J.yld i H x H'->g x σ H' fun σ2 H2=>tb { D with nx:=N,ct:=N,bk:=D.nx } σ2 H2)
def QfE (fp:List Addr) (h:Heap):List (Addr×Obj):=fp.filterMap fun b=>(h.get? b).map fun o=>(b,o)
theorem QbB {fp:List Addr} {h:Heap} {b:Addr} {o:Obj} (hb:b∈fp) (e:h.get? b=some o):(b,o)∈QfE fp h:=List.mem_filterMap.mpr ⟨b,hb,by rw [e];rfl⟩
theorem QhL {fp:List Addr} {h:Heap} {p:Addr×Obj} (hp:p∈QfE fp h):p.1∈fp/\h.get? p.1=some p.2:=by
  obtain ⟨b,hb,e⟩:=List.mem_filterMap.mp hp
  cases q:h.get? b with
  | none=>rw [q] at e;cases e
  | some o=>
    rw [q] at e
    have e':(b,o)=p:=Option.some.inj e
    subst e'
    exact ⟨hb,q⟩
theorem Inv.pinned {pins:List (Addr×Obj)} {σ:St} {H:Hp} {s:Shared} {fp:List Addr} (I:Inv X pins σ H s) (hf:∀ b∈fp,FpOk X pins H b) (ho:∀ b∈fp,∃ o,s.heap.get? b=some o/\∀ v,o.data≠.cell v):Inv X (pins++QfE fp s.heap) σ H s:=
  I.pins_of fun p hp=>(List.mem_append.mp hp).elim (fun z=>I.pin p (List.mem_append_right _ z)) fun z=>by
    obtain ⟨hb,e⟩:=QhL z
    obtain ⟨f0,f1,f2,_⟩:=hf p.1 hb
    obtain ⟨o,e',d⟩:=ho p.1 hb
    rw [e] at e';cases e'
    exact ⟨e,f0,f1,f2,d⟩
theorem Inv.unpinned {pins pl:List (Addr×Obj)} {σ:St} {H:Hp} {s:Shared} (I:Inv X (pins++pl) σ H s):Inv X pins σ H s:=I.pins_of fun p hp=>I.pin p (List.mem_append_right _ (List.mem_append_left _ hp))
theorem QkG {iter:Expr} {body:List Stmt} {wi:TI} {g:TG} {tb:TS} {pos:Pos} (hp:PassesOwn (model X.prog X.w) X.A X.env X.xe) (hc:X.calm=true) (hi:PI X tg iter wi) (hg:PG X tg g) (hb:PSs X body tb)
    (hs:∀ x,foldedSetIterable iter X.env x=pure x:=by intro _;rfl):PS X (.For tg iter body [] pos) (tFor wi g tb):=by
  intro pins s σ H D I h
  refine wpAny_For (thn (hi pins s σ H _ I h) fun v s1 h1=>thn h1 fun itv s2 h2=>?_) hs
  obtain ⟨it,fp,tn,J,H2,e,I2,T,st2,f2,W,⟨m0,w0⟩,turn⟩:=h2
  subst e
  have stat:∀ {H':Hp},(∀ b∈fp,H' b=none)->∀ b∈fp,FpOk X pins H' b:=fun hn b hb=>⟨hn b hb,(f2 b hb).2⟩
  refine codeAny_forLoop_any (fun n s'=>∃ i σ' H',Inv X pins σ' H' s'/\tn i s'.heap/\(∀ b∈fp,H' b=none)/\W i n σ' H') ?_ m0 ⟨0,σ,H2,I2,st2,fun b hb=>(f2 b hb).1,w0⟩
  rintro n s3 ⟨i,σ3,H3,I3,st3,fr3,w3⟩
  rcases turn i n σ3 H3 w3 with ⟨stop,qn⟩ | ⟨go,N,hN,step⟩
  · refine wpAny_passesOwn hp (thn (T.done X rfl rfl rfl hc i pins s3 σ3 H3 X.xe I3 (stat fr3) st3 stop) fun r s4 ⟨hr,I4⟩=>?_)
    subst hr
    exact wpAny_execs_nil ⟨σ3,H3,I4,qn⟩
  · refine wpAny_passesOwn hp (thn (T.item X rfl rfl rfl hc i pins s3 σ3 H3 X.xe I3 (stat fr3) st3 go) fun r s4 ⟨u,hr,h4⟩=>?_)
    subst hr
    refine wpAny_passesOwn hp (thn h4 fun _ s5 ⟨x,H5,I5,r5,y5,st5,fr5⟩=>?_)
    have I5':=I5.pinned (stat fr5) (T.obj _ _ st5)
    refine wpAny_passesOwn hp (thn (hg _ s5 σ3 H5 x u _ I5' r5 (step x H5 y5)) fun _ s6 ⟨σ6,H6,I6,q6⟩=>?_)
    refine wpAny_passesOwn hp (thn (hb _ s6 σ6 H6 _ I6 q6) fun f s7 q7=>?_)
    have again:∀ {σ7:St} {H7:Hp},Inv X (pins++QfE fp s5.heap) σ7 H7 s7->N σ7 H7->∃ m,m<n/\∃ i σ' H',Inv X pins σ' H' s7/\tn i s7.heap/\(∀ b∈fp,H' b=none)/\W i m σ' H':=fun {σ7 H7} I7 n7=>by
      obtain ⟨m',hm,w7⟩:=hN σ7 H7 n7
      refine ⟨m',hm,i+1,σ7,H7,I7.unpinned,T.keep _ _ _ st5 fun b hb o e=>(I7.pin (b,o) (List.mem_append_right _ (List.mem_append_right _ (QbB hb e)))).1,fun b hb=>?_,w7⟩
      obtain ⟨o,e,d⟩:=T.obj _ _ st5 b hb
      exact (I7.pin (b,o) (List.mem_append_right _ (List.mem_append_right _ (QbB hb e)))).2.1
    cases f with
    | next=>obtain ⟨σ7,H7,I7,n7⟩:=q7;exact again I7 n7
    | cont=>obtain ⟨σ7,H7,I7,n7⟩:=q7;exact again I7 n7
    | brk=>obtain ⟨σ7,H7,I7,q7⟩:=q7;exact ⟨σ7,H7,I7.unpinned,q7⟩
    | ret v=>obtain ⟨x7,σ7,H7,I7,r7,q7⟩:=q7;exact ⟨x7,σ7,H7,I7.unpinned,r7,q7⟩
end
theorem Qii {lo:Int} {n:Nat} {g:TG} {tb:TS} {D:Ends} {σ:St} {H:Hp} (Pv:Nat->St->Hp->Prop) (h0:Pv 0 σ H)
    (hs:∀ i σ H,i<n->Pv i σ H->g (.int (lo+i)) σ H fun σ2 H2=>tb { D with nx:=Pv (i+1),ct:=Pv (i+1),bk:=D.nx } σ2 H2) (hd:∀ σ H,Pv n σ H->D.nx σ H) :
    ∃ W:Nat->Nat->St->Hp->Prop,(∃ m,W 0 m σ H)/\∀ i m σ H,W i m σ H ->
      ((Itr lo n).stop i H/\D.nx σ H)∨((Itr lo n).go i H/\∃ N:St->Hp->Prop,(∀ σ' H',N σ' H'->∃ m',m'<m/\W (i+1) m' σ' H')/\∀ x H',(Itr lo n).yld i H x H'->g x σ H' fun σ2 H2=>tb { D with nx:=N,ct:=N,bk:=D.nx } σ2 H2):=by
  refine ⟨fun i m σ H=>m=n - i/\i<=n/\Pv i σ H,⟨n,by simp,Nat.zero_le _,h0⟩,?_⟩
  rintro i m σ H ⟨rfl,hi,p⟩
  by_cases hlt:i<n
  · refine .inr ⟨hlt,Pv (i+1),fun σ' H' p'=>⟨n - (i+1),by omega,rfl,hlt,p'⟩,fun x H' y=>?_⟩
    obtain ⟨e,y⟩:=y
    subst e y
    exact hs i σ _ hlt p
  · have e:i=n:=by omega
    subst e
    exact .inl ⟨Nat.le_refl _,hd σ H p⟩
abbrev R2:=V->V->Hp->VK->Prop
def OpR (X:Cx) (f:Value->Value->Sem Value) (r:R2):Prop:=
  ∀ (pins:List (Addr×Obj)) (s:Shared) (σ:St) (H:Hp) (x y:V) (v u:Value) (Q:VK),Inv X pins σ H s->RelV x v->RelV y u->r x y H Q ->
    wpAny (model X.prog X.w) X.A (f v u) (EP X pins σ Q) X.xe s
def UnR (X:Cx) (f:Value->Sem Value) (r:V->Hp->VK->Prop):Prop:=
  ∀ (pins:List (Addr×Obj)) (s:Shared) (σ:St) (H:Hp) (x:V) (v:Value) (Q:VK),Inv X pins σ H s->RelV x v->r x H Q ->
    wpAny (model X.prog X.w) X.A (f v) (EP X pins σ Q) X.xe s
def CallR (X:Cx) (f:Value) (r:List V->Hp->VK->Prop):Prop:=
  ∀ (pins:List (Addr×Obj)) (s:Shared) (σ:St) (H:Hp) (xs:List V) (us:List Value) (Q:VK),Inv X pins σ H s->Vals xs us->r xs H Q ->
    wpAny (model X.prog X.w) X.A (call f us) (EP X pins σ Q) X.xe s
def tOp (r:R2) (ta tb:TE):TE:=fun σ H Q=>ta σ H fun x H1=>tb σ H1 fun y H2=>r x y H2 Q
def tUn (r:V->Hp->VK->Prop) (ta:TE):TE:=fun σ H Q=>ta σ H fun x H1=>r x H1 Q
def rI (C:Int->Int->Prop) (g:Int->Int->V):R2:=fun x y H Q=>∃ i j,x=.int i/\y=.int j/\C i j/\Q (g i j) H
def rI0 (g:Int->Int->V):R2:=fun x y H Q=>∃ i j,x=.int i/\y=.int j/\Q (g i j) H
def rU (g:Int->V):V->Hp->VK->Prop:=fun x H Q=>∃ i,x=.int i/\Q (g i) H
section
variable {X:Cx} {a b c:Expr} {ta tb tc:TE} {pos:Pos}
theorem binT (ha:PE X a ta) (hb:PE X b tb) {pins:List (Addr×Obj)} {s:Shared} {σ:St} {H:Hp} {R:V->V->Hp->Prop} (I:Inv X pins σ H s)
    (h:ta σ H fun x H1=>tb σ H1 fun y H2=>R x y H2) {Q:Value->Shared->Prop} {f:Value->Value->Sem Value}
    (hf:∀ v u s2 x y H2,Inv X pins σ H2 s2->RelV x v->RelV y u->R x y H2->wpAny (model X.prog X.w) X.A (f v u) Q X.xe s2) :
    wpAny (model X.prog X.w) X.A (eval a X.env) (fun v s₁=>wpAny (model X.prog X.w) X.A (eval b X.env) (fun u s₂=>wpAny (model X.prog X.w) X.A (f v u) Q X.xe s₂) X.xe s₁) X.xe s:=by
  refine thn (ha pins s σ H _ I h) fun v s1 ⟨x,H1,I1,r1,q1⟩=>?_
  refine thn (hb pins s1 σ H1 _ I1 q1) fun u s2 ⟨y,H2,I2,r2,q2⟩=>?_
  exact hf v u s2 x y H2 I2 r1 r2 q2
theorem Qbm {op:Operator} {r:R2} (ho:OpR X (binaryOp op) r) (ha:PE X a ta) (hb:PE X b tb):PE X (.BinOp a op b pos) (tOp r ta tb):=by
  intro pins s σ H Q I h
  exact wpAny_BinOp (binT ha hb I h fun v u s2 x y H2 I2 rx ry q=>ho pins s2 σ H2 x y v u Q I2 rx ry q)
theorem pe_un {op:UnaryOp} {r:V->Hp->VK->Prop} (ho:UnR X (unaryOp op) r) (ha:PE X a ta):PE X (.UnaryOp op a pos) (tUn r ta):=by
  intro pins s σ H Q I h
  exact UnaryOp_ (thn (ha pins s σ H _ I h) fun v s1 ⟨x,H1,I1,r1,q1⟩=>ho pins s1 σ H1 x v Q I1 r1 q1)
theorem opI {f:Value->Value->Sem Value} {C:Int->Int->Prop} {g:Int->Int->Int}
    (rule:∀ (i j:Int) (t u:Tok) (s:Shared) (Q:Value->Shared->Prop) (E:Value->Shared->Prop),C i j->Q (.int (g i j) s.toks) { s with toks:=s.toks+1 }->wpAny (model X.prog X.w) X.A (f (.int i t) (.int j u)) Q E s) :
    OpR X f (rI C fun i j=>.int (g i j)):=by
  intro pins s σ H x y v u Q I rx ry h
  obtain ⟨i,j,rfl,rfl,hc,q⟩:=h
  obtain ⟨t,rfl⟩:=rx
  obtain ⟨t',rfl⟩:=ry
  exact rule i j t t' s _ _ hc ⟨.int (g i j),H,I.tok _,⟨_,rfl⟩,q⟩
theorem opI0 {f:Value->Value->Sem Value} {g:Int->Int->Int}
    (rule:∀ (i j:Int) (t u:Tok) (s:Shared) (Q:Value->Shared->Prop) (E:Value->Shared->Prop),Q (.int (g i j) s.toks) { s with toks:=s.toks+1 }->wpAny (model X.prog X.w) X.A (f (.int i t) (.int j u)) Q E s) :
    OpR X f (rI0 fun i j=>.int (g i j)):=by
  intro pins s σ H x y v u Q I rx ry h
  obtain ⟨i,j,rfl,rfl,q⟩:=h
  obtain ⟨t,rfl⟩:=rx
  obtain ⟨t',rfl⟩:=ry
  exact rule i j t t' s _ _ ⟨.int (g i j),H,I.tok _,⟨_,rfl⟩,q⟩
theorem opB0 {f:Value->Value->Sem Value} {g:Int->Int->Bool}
    (rule:∀ (i j:Int) (t u:Tok) (s:Shared) (Q:Value->Shared->Prop) (E:Value->Shared->Prop),Q (.bool (g i j)) s->wpAny (model X.prog X.w) X.A (f (.int i t) (.int j u)) Q E s) :
    OpR X f (rI0 fun i j=>.bl (g i j)):=by
  intro pins s σ H x y v u Q I rx ry h
  obtain ⟨i,j,rfl,rfl,q⟩:=h
  obtain ⟨t,rfl⟩:=rx
  obtain ⟨t',rfl⟩:=ry
  exact rule i j t t' s _ _ ⟨.bl (g i j),H,I,rfl,q⟩
def CPow (i j:Int):Prop:=0<=j/\j<=1000000/\i.natAbs<2^64
def CMul (i j:Int):Prop:=(-(2^64)<i/\i<2^64)∨(-(2^64)<j/\j<2^64)
theorem CMul.ok {i j:Int} (h:CMul i j):IntMulOk i j:=by
  rcases h with ⟨h1,h2⟩ | ⟨h1,h2⟩
  · exact .of_left (intBits_le_64 h1 h2)
  · exact .of_right (intBits_le_64 h1 h2)
theorem Qdw:OpR X (binaryOp .Add) (rI0 fun i j=>.int (i+j)):=opI0 fun _ _ _ _ _ _ _ q=>add_int q
theorem QkM:OpR X (binaryOp .Sub) (rI0 fun i j=>.int (i - j)):=opI0 fun _ _ _ _ _ _ _ q=>sub_int q
theorem Qdv:OpR X (binaryOp .Mult) (rI CMul fun i j=>.int (i*j)):=opI fun _ _ _ _ _ _ _ hc q=>mul_int q hc.ok
theorem QfF:OpR X (binaryOp .Mod) (rI (fun _ j=>0<j) fun i j=>.int (i % j)):=opI fun i j _ _ _ _ _ hc q=>by
  have h1:(0:Int)<j:=hc
  exact mod_int' (by omega) (by rw [Int.fmod_eq_emod_of_nonneg i (by omega)];exact q)
theorem QkN:OpR X (binaryOp .Pow) (rI CPow fun i j=>.int (i^j.toNat)):=opI fun _ _ _ _ _ _ _ hc q=>pow_int_small hc.1 hc.2.1 hc.2.2 q
theorem unI {f:Value->Sem Value} {g:Int->Int}
    (rule:∀ (i:Int) (t:Tok) (s:Shared) (Q:Value->Shared->Prop) (E:Value->Shared->Prop),Q (.int (g i) s.toks) { s with toks:=s.toks+1 }->wpAny (model X.prog X.w) X.A (f (.int i t)) Q E s) :
    UnR X f (rU fun i=>.int (g i)):=by
  intro pins s σ H x v Q I rx h
  obtain ⟨i,rfl,q⟩:=h
  obtain ⟨t,rfl⟩:=rx
  exact rule i t s _ _ ⟨.int (g i),H,I.tok _,⟨_,rfl⟩,q⟩
theorem un_neg:UnR X (unaryOp .USub) (rU fun i=>.int (-i)):=unI fun _ _ _ _ _ q=>neg_int q
end
def scal:V->V->Bool
  | .non,.non=>true | .non,.int _=>true | .int _,.non=>true | .non,.bl _=>true | .bl _,.non=>true | .non,.str _=>true | .str _,.non=>true
  | .int _,.int _=>true | .bl _,.bl _=>true | .str _,.str _=>true | .byt _,.byt _=>true
  | .int _,.str _=>true | .str _,.int _=>true | .bl _,.str _=>true | .str _,.bl _=>true
  | _,_=>false
def rEq:R2:=fun x y H Q=>scal x y=true/\Q (.bl (decide (x=y))) H
def rNe:R2:=fun x y H Q=>scal x y=true/\Q (.bl (!decide (x=y))) H
theorem Qiq {i j:Int}:decide (V.int i=V.int j)=(i == j):=by
  rw [Bool.eq_iff_iff]
  simp
theorem QkV {i j:Bool}:decide (V.bl i=V.bl j)=(i == j):=by
  rw [Bool.eq_iff_iff]
  simp
theorem Qip {i j:Str}:decide (V.str i=V.str j)=(i == j):=by
  rw [Bool.eq_iff_iff]
  simp
theorem Qir {i j:Array UInt8}:decide (V.byt i=V.byt j)=(i.toList == j.toList):=by
  rw [Bool.eq_iff_iff]
  cases i
  cases j
  simp
section
variable {X:Cx} {a b c:Expr} {ta tb tc:TE} {pos:Pos}
theorem Qax {pins:List (Addr×Obj)} {σ:St} {H:Hp} {s:Shared} {Q:VK} {k k':Bool} (I:Inv X pins σ H s) (q:Q (.bl k) H) (e:k=k'):EP X pins σ Q (.bool k') s:=by
  subst e
  exact ⟨.bl k,H,I,rfl,q⟩
theorem op_eq:OpR X (compareOp .Eq) rEq:=by
  intro pins s σ H x y v u Q I rx ry h
  obtain ⟨hs,q⟩:=h
  cases x with
  | non=>
    cases rx
    cases y with
    | non=>cases ry;exact PySem.EqNone.eq_none_none (Qax I q (by simp))
    | bl j=>cases ry;exact PySem.EqNone.eq_none_bool (Qax I q (by simp))
    | int j=>obtain ⟨t',rfl⟩:=ry;exact PySem.EqNone.eq_none_int (Qax I q (by simp))
    | str j=>obtain ⟨t',rfl⟩:=ry;exact PySem.EqNone.eq_none_str (Qax I q (by simp))
    | _=>exact absurd (show false=true from hs) Bool.false_ne_true
  | bl i=>
    cases rx
    cases y with
    | non=>cases ry;exact PySem.EqNone.eq_bool_none (Qax I q (by simp))
    | bl j=>cases ry;exact eq_bool (Qax I q QkV)
    | str j=>obtain ⟨t',rfl⟩:=ry;exact PySem.EqMixed.eq_bool_str (Qax I q (by simp))
    | _=>exact absurd (show false=true from hs) Bool.false_ne_true
  | int i=>
    obtain ⟨t,rfl⟩:=rx
    cases y with
    | non=>cases ry;exact PySem.EqNone.eq_int_none (Qax I q (by simp))
    | int j=>obtain ⟨t',rfl⟩:=ry;exact eq_int (Qax I q Qiq)
    | str j=>obtain ⟨t',rfl⟩:=ry;exact PySem.EqMixed.eq_int_str (Qax I q (by simp))
    | _=>exact absurd (show false=true from hs) Bool.false_ne_true
  | str i=>
    obtain ⟨t,rfl⟩:=rx
    cases y with
    | non=>cases ry;exact PySem.EqNone.eq_str_none (Qax I q (by simp))
    | bl j=>cases ry;exact PySem.EqMixed.eq_str_bool (Qax I q (by simp))
    | int j=>obtain ⟨t',rfl⟩:=ry;exact PySem.EqMixed.eq_str_int (Qax I q (by simp))
    | str j=>obtain ⟨t',rfl⟩:=ry;exact eq_str (Qax I q Qip)
    | _=>exact absurd (show false=true from hs) Bool.false_ne_true
  | byt i=>
    obtain ⟨t,rfl⟩:=rx
    cases y with
    | byt j=>obtain ⟨t',rfl⟩:=ry;exact PySem.W.eq_bytes (Qax I q Qir)
    | _=>exact absurd (show false=true from hs) Bool.false_ne_true
  | _=>cases y<;>exact absurd (show false=true from hs) Bool.false_ne_true
theorem Ql0:OpR X (compareOp .NotEq) rNe:=by
  intro pins s σ H x y v u Q I rx ry h
  obtain ⟨hs,q⟩:=h
  cases x with
  | non=>
    cases rx
    cases y with
    | non=>cases ry;exact PySem.EqNone.ne_none_none (Qax I q (by simp))
    | bl j=>cases ry;exact PySem.EqNone.ne_none_bool (Qax I q (by simp))
    | int j=>obtain ⟨t',rfl⟩:=ry;exact PySem.EqNone.ne_none_int (Qax I q (by simp))
    | str j=>obtain ⟨t',rfl⟩:=ry;exact PySem.EqNone.ne_none_str (Qax I q (by simp))
    | _=>exact absurd (show false=true from hs) Bool.false_ne_true
  | bl i=>
    cases rx
    cases y with
    | non=>cases ry;exact PySem.EqNone.ne_bool_none (Qax I q (by simp))
    | bl j=>cases ry;exact ne_bool (Qax I q (congrArg not QkV))
    | str j=>obtain ⟨t',rfl⟩:=ry;exact PySem.EqMixed.ne_bool_str (Qax I q (by simp))
    | _=>exact absurd (show false=true from hs) Bool.false_ne_true
  | int i=>
    obtain ⟨t,rfl⟩:=rx
    cases y with
    | non=>cases ry;exact PySem.EqNone.ne_int_none (Qax I q (by simp))
    | int j=>obtain ⟨t',rfl⟩:=ry;exact ne_int (Qax I q (congrArg not Qiq))
    | str j=>obtain ⟨t',rfl⟩:=ry;exact PySem.EqMixed.ne_int_str (Qax I q (by simp))
    | _=>exact absurd (show false=true from hs) Bool.false_ne_true
  | str i=>
    obtain ⟨t,rfl⟩:=rx
    cases y with
    | non=>cases ry;exact PySem.EqNone.ne_str_none (Qax I q (by simp))
    | bl j=>cases ry;exact PySem.EqMixed.ne_str_bool (Qax I q (by simp))
    | int j=>obtain ⟨t',rfl⟩:=ry;exact PySem.EqMixed.ne_str_int (Qax I q (by simp))
    | str j=>obtain ⟨t',rfl⟩:=ry;exact ne_str (Qax I q (congrArg not Qip))
    | _=>exact absurd (show false=true from hs) Bool.false_ne_true
  | byt i=>
    obtain ⟨t,rfl⟩:=rx
    cases y with
    | byt j=>obtain ⟨t',rfl⟩:=ry;exact PySem.W.ne_bytes (Qax I q (congrArg not Qir))
    | _=>exact absurd (show false=true from hs) Bool.false_ne_true
  | _=>cases y<;>exact absurd (show false=true from hs) Bool.false_ne_true
theorem QjM:OpR X (compareOp .Lt) (rI0 fun i j=>.bl (decide (i<j))):=opB0 fun _ _ _ _ _ _ _ q=>lt_int q
theorem Qem:OpR X (compareOp .LtE) (rI0 fun i j=>.bl (decide (i<=j))):=opB0 fun _ _ _ _ _ _ _ q=>le_int q
theorem op_gt:OpR X (compareOp .Gt) (rI0 fun i j=>.bl (decide (j<i))):=opB0 fun _ _ _ _ _ _ _ q=>gt_int q
theorem op_ge:OpR X (compareOp .GtE) (rI0 fun i j=>.bl (decide (j<=i))):=opB0 fun _ _ _ _ _ _ _ q=>ge_int q
theorem Qhz:OpR X (compareOp .Is) (fun x y H Q=>y=.non/\Q (.bl (decide (x=.non))) H):=by
  intro pins s σ H x y v u Q I rx ry h
  obtain ⟨rfl,q⟩:=h
  cases ry
  refine is_none_gen (Qax I q ?_)
  cases x<;>first
    | (cases rx;rfl)
    | (obtain ⟨t,rfl⟩:=rx;rfl)
theorem OpR.or {f:Value->Value->Sem Value} {r r':R2} (h:OpR X f r) (h':OpR X f r'):OpR X f (fun x y H Q=>r x y H Q∨r' x y H Q):=by
  intro pins s σ H x y v u Q I rx ry q
  rcases q with q | q
  · exact h pins s σ H x y v u Q I rx ry q
  · exact h' pins s σ H x y v u Q I rx ry q
theorem Qay (b:Expr) {op:CmpOp} (h:op≠.In:=by decide) (h2:op≠.NotIn:=by decide):behindInMarks op b=false:=by
  have e1:(op == CmpOp.In)=false:=by cases op<;>first | rfl | exact absurd rfl h
  have e2:(op == CmpOp.NotIn)=false:=by cases op<;>first | rfl | exact absurd rfl h2
  cases b<;>simp [behindInMarks,e1,e2]
theorem Qcj {op:CmpOp} {r:R2} (ho:OpR X (compareOp op) r) (ha:PE X a ta) (hb:PE X b tb) (hm:behindInMarks op b=false):PE X (.Compare a [op] [b] pos) (tOp r ta tb):=by
  intro pins s σ H Q I h
  exact wpAny_Compare1 (binT ha hb I h fun v u s2 x y H2 I2 rx ry q=>ho pins s2 σ H2 x y v u Q I2 rx ry q) hm
def tTest (t:TE):TT:=fun σ H Q=>t σ H fun x H'=>∃ k,x=.bl k/\Q k H'
theorem Qch {op:CmpOp} {r:R2} (ho:OpR X (compareOp op) r) (ha:PE X a ta) (hb:PE X b tb) (hm:behindInMarks op b=false):PT X (.Compare a [op] [b] pos) (tTest (tOp r ta tb)):=by
  intro pins s σ H Q I h
  refine wpAny_isTrue_Compare1 (thn (ha pins s σ H _ I h) fun v s1 ⟨x,H1,I1,r1,q1⟩=>thn (hb pins s1 σ H1 _ I1 q1) fun u s2 ⟨y,H2,I2,r2,q2⟩=>
    thn (ho pins s2 σ H2 x y v u _ I2 r1 r2 q2) fun c s3 ⟨z,H3,I3,r3,k,e,q3⟩=>?_) hm
  subst e
  cases r3
  exact wpAny_truthy_bool ⟨H3,I3,q3⟩
def QgR (r r':R2) (ta tb tc:TE):TE:=fun σ H Q=>ta σ H fun x H1=>tb σ H1 fun y H2=>r x y H2 fun z H3=>∃ k,z=.bl k /\
  (if k=true then tc σ H3 fun w' H4=>r' y w' H4 Q else Q (.bl false) H3)
theorem Qjs {op op':CmpOp} {r r':R2} (ho:OpR X (compareOp op) r) (ho':OpR X (compareOp op') r') (ha:PE X a ta) (hb:PE X b tb) (hc:PE X c tc)
    (hm:lastMarks [op,op'] [b,c]=false:=by with_unfolding_all rfl):PE X (.Compare a [op,op'] [b,c] pos) (QgR r r' ta tb tc):=by
  intro pins s σ H Q I h
  refine Compare_chain (thn (ha pins s σ H _ I h) fun v s1 ⟨x,H1,I1,r1,q1⟩=>chain_link (thn (hb pins s1 σ H1 _ I1 q1) fun u s2 ⟨y,H2,I2,r2,q2⟩=>
    thn (ho pins s2 σ H2 x y v u _ I2 r1 r2 q2) fun d s3 ⟨z,H3,I3,r3,k,e,q3⟩=>?_)) hm
  subst e
  cases r3
  refine wpAny_truthy_bool ?_
  cases k with
  | false=>exact ite_ff ⟨.bl false,H3,I3,rfl,q3⟩
  | true=>exact ite_tt (chain_last (thn (hc pins s3 σ H3 _ I3 q3) fun w' s4 ⟨z',H4,I4,r4,q4⟩=>ho' pins s4 σ H4 y z' u w' Q I4 r2 r4 q4))
theorem Qjl {op op':CmpOp} {r r':R2} (ho:OpR X (compareOp op) r) (ho':OpR X (compareOp op') r') (ha:PE X a ta) (hb:PE X b tb) (hc:PE X c tc)
    (hm:lastMarks [op,op'] [b,c]=false:=by with_unfolding_all rfl):PT X (.Compare a [op,op'] [b,c] pos) (tTest (QgR r r' ta tb tc)):=by
  intro pins s σ H Q I h
  refine isTrue_chain (thn (ha pins s σ H _ I h) fun v s1 ⟨x,H1,I1,r1,q1⟩=>test_link (thn (hb pins s1 σ H1 _ I1 q1) fun u s2 ⟨y,H2,I2,r2,q2⟩=>
    thn (ho pins s2 σ H2 x y v u _ I2 r1 r2 q2) fun d s3 ⟨z,H3,I3,r3,k,e,q3⟩=>?_)) hm
  subst e
  cases r3
  refine wpAny_truthy_bool ?_
  cases k with
  | false=>
    obtain ⟨k',e',q'⟩:=q3
    cases e'
    exact ite_ff ⟨H3,I3,q'⟩
  | true=>
    refine ite_tt (test_last (thn (hc pins s3 σ H3 _ I3 q3) fun w' s4 ⟨z',H4,I4,r4,q4⟩=>thn (ho' pins s4 σ H4 y z' u w' _ I4 r2 r4 q4) fun d' s5 ⟨z2,H5,I5,r5,k2,e2,q5⟩=>?_))
    subst e2
    cases r5
    exact wpAny_truthy_bool ⟨H5,I5,q5⟩
theorem QfN:(sizeLine:Nat)<2^63:=by rw [sizeLine_eq];decide
theorem QbK {x:V} {us:List Value} (r:Vals [x] us):∃ u,us=[u]/\RelV x u:=by
  cases r with
  | cons r1 r2=>cases r2;exact ⟨_,rfl,r1⟩
theorem QgM {x y:V} {us:List Value} (r:Vals [x,y] us):∃ u w',us=[u,w']/\RelV x u/\RelV y w':=by
  cases r with
  | cons r1 r2=>
    cases r2 with
    | cons r3 r4=>cases r4;exact ⟨_,_,rfl,r1,r3⟩
theorem Qdf (hc:X.calm=true):CallR X (.builtin "max") (fun xs H Q=>∃ i j,xs=[.int i,.int j]/\Q (.int (if j > i then j else i)) H):=by
  intro pins s σ H xs us Q I r h
  obtain ⟨i,j,rfl,q⟩:=h
  obtain ⟨u,w',rfl,⟨t,rfl⟩,⟨t',rfl⟩⟩:=QgM r
  refine max_two_ints (I.ok.hd hc) fun h' tk k=>⟨_,H,I.kept k,?_,q⟩
  by_cases hj:j > i
  · rw [if_pos hj,if_pos hj];exact ⟨_,rfl⟩
  · rw [if_neg hj,if_neg hj];exact ⟨_,rfl⟩
theorem Qde (hc:X.calm=true):CallR X (.builtin "min") (fun xs H Q=>∃ i j,xs=[.int i,.int j]/\Q (.int (if j<i then j else i)) H):=by
  intro pins s σ H xs us Q I r h
  obtain ⟨i,j,rfl,q⟩:=h
  obtain ⟨u,w',rfl,⟨t,rfl⟩,⟨t',rfl⟩⟩:=QgM r
  refine min_two_ints (I.ok.hd hc) fun h' tk k=>⟨_,H,I.kept k,?_,q⟩
  by_cases hj:j<i
  · rw [if_pos hj,if_pos hj];exact ⟨_,rfl⟩
  · rw [if_neg hj,if_neg hj];exact ⟨_,rfl⟩
theorem QiK:CallR X (.type "int") (fun xs H Q=>(∃ i,xs=[.int i]/\Q (.int i) H)∨∃ k,xs=[.bl k]/\Q (.int (if k then 1 else 0)) H):=by
  intro pins s σ H xs us Q I r h
  rcases h with ⟨i,rfl,q⟩ | ⟨k,rfl,q⟩
  · obtain ⟨u,rfl,t,rfl⟩:=QbK r
    exact call_int_int ⟨.int i,H,I,⟨_,rfl⟩,q⟩
  · obtain ⟨u,rfl,r1⟩:=QbK r
    cases r1
    exact call_int_bool ⟨.int (if k then 1 else 0),H,I.tok _,⟨_,rfl⟩,q⟩
end
structure ObjM (h:Heap) (x dx C:Addr) (mA:Str->Option Value):Prop where
  obj:h.get? x=some (PySem.W.instObj C dx)
  ns:h.Ns1 dx mA
  ne:dx≠x
theorem QhW {h:Heap} {dx:Addr} {mA:Str->Option Value} (n:h.Ns1 dx mA):∃ od,h.get? dx=some od/\∀ name,PySem.W.lookIn name od=some (mA name):=by
  obtain ⟨o,es,ep,ho,hd,hk,_,hm⟩:=n
  refine ⟨o,ho,fun name=>?_⟩
  have e:=hm name
  unfold nsFind findBy at e
  rw [<- Array.find?_toList] at e
  unfold PySem.W.lookIn
  rw [hd]
  dsimp only
  split
  · rename_i y q
    rw [q] at e
    exact congrArg some e
  · rename_i q
    rw [q] at e
    have a:es.toList.any (·.refKey)=false:=by
      rw [List.any_eq_false]
      intro y hy
      obtain ⟨z,t,hkey⟩:=hk y (Array.mem_toList_iff.mp hy)
      simp [DictEntry.refKey,hkey]
    have a':¬ es.toList.any (·.refKey)=true:=by rw [a];exact Bool.false_ne_true
    rw [if_neg a']
    exact congrArg some e
theorem ObjM.look {h:Heap} {x dx C:Addr} {mA:Str->Option Value} (I:ObjM h x dx C mA):∃ od,PySem.W.InstAt h x (PySem.W.instObj C dx) C (some od)/\∀ name,PySem.W.lookIn name od=some (mA name):=
  let ⟨od,ho,hl⟩:=QhW I.ns
  ⟨od,⟨I.obj,rfl,rfl,ho⟩,hl⟩
section
variable {prog:Program} {w:World} {A:Around} {E:Value->Shared->Prop} {s:Shared} {K:PySem.W.Frag} {x dx C f:Addr} {mA:Str->Option Value} {name:Str} {v:Value}
end
section
variable {P:Program} {w:World} {H H':Hp} {h h':Heap} {a C dx:Addr} {fs fs':List (Str×V)}
theorem ins_get (hok:HOk P w H h) (e:H a=some (.ins C dx fs)):∃ mA,ObjM h a dx C mA/\(∀ f,RelO (fs.lookup f) (mA f))/\PySem.Within mA (fs.map (·.1))/\fs.length<=1000/\H dx=some (.own a):=by
  obtain ⟨d,z,ne,ob,mA,n,r,q⟩:=(show ObjOk P w H h a (.ins C dx fs) from hok a _ e)
  exact ⟨mA,⟨ob,n,ne⟩,r,q,z,d⟩
end
structure Cls (K:PySem.W.Frag) (C:Addr):Prop where
  pg:PySem.W.plainGet K C Str.empty=true
  hd:PySem.W.hasDictIn K C=true
  po:PySem.W.plainOver K C=true
  sa:PySem.W.findIn K (.ref C) "__setattr__" = some (some (.builtin "object.__setattr__"))
theorem Cls.get {K:PySem.W.Frag} {C:Addr} (c:Cls K C) (f:Str):PySem.W.plainGet K C f=true:=c.pg
section
variable {X:Cx} {pins:List (Addr×Obj)} {σ:St} {H:Hp} {s:Shared} {a C dx:Addr} {fs:List (Str×V)} {f:Str} {v:V} {A:Around} {E:Value->Shared->Prop}
theorem Inv.made (I:Inv X pins σ H s):Inv X pins σ (upd (upd H s.heap.objs.size (.own (s.heap.objs.size+1))) (s.heap.objs.size+1) (.ins C s.heap.objs.size []))
    { s with heap:=(s.heap.push PySem.W.emptyDict).push (PySem.W.instObj C s.heap.objs.size) }:=by
  have e1:(s.heap.push PySem.W.emptyDict).get? s.heap.objs.size=some PySem.W.emptyDict:=Heap.get?_push_size s.heap rfl
  have e2:((s.heap.push PySem.W.emptyDict).push (PySem.W.instObj C s.heap.objs.size)).get? (s.heap.objs.size+1)=some (PySem.W.instObj C s.heap.objs.size):=by
    have:=Heap.get?_push_size (s.heap.push PySem.W.emptyDict) (o:=PySem.W.instObj C s.heap.objs.size) rfl
    rwa [Heap.size_push] at this
  have e3:(s.heap.push PySem.W.emptyDict).Ns s.heap.objs.size (fun _=>none):=⟨PySem.W.emptyDict,#[],_,e1,rfl,(fun e he=>absurd he (by simp)),fun _=>rfl⟩
  have I1:=I.laid (a:=s.heap.objs.size) (o:=.own (s.heap.objs.size+1)) (h':=s.heap.push PySem.W.emptyDict) (t':=s.toks) (fun b u q=>Heap.get?_push_of_some _ q) (Nat.le_refl _) ⟨_,e1⟩
  refine I1.laid (a:=s.heap.objs.size+1) (o:=.ins C s.heap.objs.size []) (t':=s.toks) (fun b u q=>Heap.get?_push_of_some _ q) (Nat.le_of_eq (Heap.size_push _ _)) ?_
  have ne:s.heap.objs.size≠s.heap.objs.size+1:=Nat.ne_of_lt (Nat.lt_succ_self _)
  refine ⟨by rw [Qai ne,Qad],Nat.zero_le _,ne,e2,fun _=>none,(Heap.Ns1.of_empty e3).at fun o q=>Heap.get?_push_of_some _ q,fun _=>True.intro,fun y hy=>absurd rfl hy⟩
end
section
variable {X:Cx} {o e value:Expr} {f:Str} {pos pos' tpos:Pos} {ta tv:TE}
def rAdd:V->V->Hp->VK->Prop:=fun x y H Q=>∃ i j,x=.int i/\y=.int j/\Q (.int (i+j)) H
end
section
variable {X:Cx} {pins:List (Addr×Obj)} {σ:St} {H:Hp} {s:Shared} {A:Around} {E:Value->Shared->Prop} {Q:Value->Shared->Prop} {c:Value} {b:Bool}
inductive TyOf (K:PySem.W.Frag) (H:Hp):V->Value->Prop where
  | non:TyOf K H .non (.type "NoneType")
  | bl (x:Bool):TyOf K H (.bl x) (.type "bool")
  | int (i:Int):TyOf K H (.int i) (.type "int")
  | str (x:Str):TyOf K H (.str x) (.type "str")
  | flt (x:UInt64):TyOf K H (.flt x) (.type "float")
  | lst {a:Addr} {xs:List V} (e:H a=some (.lst xs)):TyOf K H (.ref a) (.type "list")
  | frz {a:Addr} {o:Obj} {xs:List V} (e:H a=some (.frz o (.lst xs))):TyOf K H (.ref a) (.type "list")
  | tup {a:Addr} {xs:List V} (e:H a=some (.tup xs)):TyOf K H (.ref a) (.type "tuple")
  | dK {a:Addr} {kvs:List (Key×V)} (e:H a=some (.dK kvs)):TyOf K H (.ref a) (.type "dict")
  | dT {a:Addr} {kvs:List (List Key×V)} (e:H a=some (.dT kvs)):TyOf K H (.ref a) (.type "dict")
  | ins {a C dx:Addr} {fs:List (Str×V)} (e:H a=some (.ins C dx fs)) (cl:Cls K C) (ha:PySem.W.findIn K (.ref C) "__class__" = some (some (.builtin "object.__class__")))
      (hn:PySem.W.specialIn K (.builtin "object.__class__") "__get__" = some (some (.builtin "getset_descriptor.__get__"))) (htk:PySem.W.takesIn K (.builtin "object.__class__")=some true)
      (hm:PySem.W.mroIn K C (.type "object")=some true):TyOf K H (.ref a) (.ref C)
theorem Qh4 {x:V} {u t:Value} (I:Inv X pins σ H s) (rx:RelV x u) (ty:TyOf X.K H x t) (e:PySem.W.kitOne X.K t c=some b) (h:∀ tk,Q (.bool b) { s with toks:=tk }) :
    wpAny (model X.prog X.w) A (call (.builtin "isinstance") [u,c]) Q E s:=by
  cases ty with
  | non=>cases (show u=Value.none from rx);exact PySem.W.kia_one PySem.W.kitx_none I.kIn True.intro e (fun z=>nomatch z) h
  | bl y=>cases (show u=Value.bool y from rx);exact PySem.W.kia_one PySem.W.kitx_bool I.kIn True.intro e (fun z=>nomatch z) h
  | int i=>obtain ⟨t,q⟩:=(show ∃ t,u=Value.int i t from rx);cases q;exact PySem.W.kia_one PySem.W.kitx_int I.kIn True.intro e (fun z=>nomatch z) h
  | str y=>obtain ⟨t,q⟩:=(show ∃ t,u=Value.str y t from rx);cases q;exact PySem.W.kia_one PySem.W.kitx_str I.kIn True.intro e (fun z=>nomatch z) h
  | flt y=>obtain ⟨t,q⟩:=(show ∃ t,u=Value.float y t from rx);cases q;exact PySem.W.kia_one PySem.W.kitx_float I.kIn True.intro e (fun z=>nomatch z) h
  | @lst a xs ea=>
    cases (show u=Value.ref a from rx)
    obtain ⟨_,_,n,_,h1⟩:=(show ObjOk X.prog X.w H s.heap a (.lst xs) from I.hok a _ ea)
    exact PySem.W.kia_one PySem.W.kitx_list I.kIn ⟨_,h1,rfl⟩ e (fun z=>nomatch z) h
  | @frz a ob xs ea=>
    cases (show u=Value.ref a from rx)
    obtain ⟨_,_,_,n,_,h1⟩:=(show ObjOk X.prog X.w H s.heap a (.frz ob (.lst xs)) from I.hok a _ ea)
    exact PySem.W.kia_one PySem.W.kitx_list I.kIn ⟨_,h1,rfl⟩ e (fun z=>nomatch z) h
  | @tup a xs ea=>
    cases (show u=Value.ref a from rx)
    obtain ⟨_,_,_,p⟩:=(show ObjOk X.prog X.w H s.heap a (.tup xs) from I.hok a _ ea)
    obtain ⟨o,h1,h2,_⟩:=p
    exact PySem.W.kia_one PySem.W.kitx_tuple I.kIn ⟨o,h1,h2⟩ e (fun z=>nomatch z) h
  | @dK a kvs ea=>
    cases (show u=Value.ref a from rx)
    obtain ⟨_,_,vs,_,p⟩:=(show ObjOk X.prog X.w H s.heap a (.dK kvs) from I.hok a _ ea)
    obtain ⟨o,es,ep,h1,h2,_⟩:=p
    exact PySem.W.kia_one PySem.W.kitx_dict I.kIn ⟨o,h1,h2.1⟩ e (fun z=>nomatch z) h
  | @dT a kvs ea=>
    cases (show u=Value.ref a from rx)
    obtain ⟨_,_,xs,_,o,es,ep,h1,h2,_⟩:=(show ObjOk X.prog X.w H s.heap a (.dT kvs) from I.hok a _ ea)
    exact PySem.W.kia_one PySem.W.kitx_dict I.kIn ⟨o,h1,h2.1⟩ e (fun z=>nomatch z) h
  | @ins a C dx fs ea cl ha hn htk hm=>
    cases (show u=Value.ref a from rx)
    obtain ⟨mA,O,_⟩:=ins_get I.hok ea
    obtain ⟨od,J,_⟩:=O.look
    exact PySem.W.kia_one (PySem.W.kitx_own (cl.get _) cl.hd ha hn htk hm) I.kIn J e (fun z=>nomatch z) h
end
structure Room (k:Nat) (A:Around):Prop where
  hd:A.handled=none
  dp:A.depth+3*k+5<recursionLimit
  un:A.units+16*k+200<cLine
theorem Room.mono {j k:Nat} {A:Around} (r:Room k A) (h:j<=k):Room j A:=⟨r.hd,by have:=r.dp;omega,by have:=r.un;omega⟩
theorem Room.deeper {k:Nat} {A:Around} (r:Room (k+1) A) (env:Env):Room k (A.deeper env):=
  ⟨r.hd,by have:=r.dp;show A.depth+1+3*k+5<_;omega,by have:=r.un;show A.units+3+16*k+200<_;omega⟩
theorem Room.in1 {k:Nat} {A:Around} (r:Room (k+1) A):Room k A.in1:=
  ⟨r.hd,by have:=r.dp;show A.depth+3*k+5<_;omega,by have:=r.un;show A.units+1+16*k+200<_;omega⟩
theorem Room.depth {k:Nat} {A:Around} (r:Room k A):A.depth<recursionLimit:=by have:=r.dp;omega
theorem Room.units {k:Nat} {A:Around} (r:Room k A):A.units+64<cLine:=by have:=r.un;omega
theorem Room.units0 {k:Nat} {A:Around} (r:Room k A):A.units<cLine:=by have:=r.un;omega
def tNil:TA:=fun _ H Q=>Q [] H
def Qca (ta:TE) (tr:TA):TA:=fun σ H Q=>ta σ H fun x H1=>tr σ H1 fun xs H2=>Q (x::xs) H2
section
variable {X:Cx} {e:Expr} {es:List Expr} {te:TE} {t:TA} {pos:Pos}
theorem Qam:PA X [] tNil:=fun _ _ _ _ H Q I h=>Calls.spliced_nil ⟨[],H,I,.nil,h⟩
theorem Qag (ha:PE X e te) (hr:PA X es t) (hs:starEach (e::es) X.env=(false,eval e X.env)::starEach es X.env:=by rfl):PA X (e::es) (Qca te t):=by
  intro pos pins s σ H Q I h
  rw [hs]
  show wpAny _ _ (spliced ((false,eval e X.env)::backTo pos (starEach es X.env))) _ _ s
  refine Calls.spliced_cons (thn (ha pins s σ H _ I h) fun u s1 ⟨x,H1,I1,r1,q1⟩=>?_)
  exact thn (hr pos pins s1 σ H1 _ I1 q1) fun us s2 ⟨xs,H2,I2,r2,q2⟩=>⟨x::xs,H2,I2,.cons r1 r2,q2⟩
def tLst (t:TA):TE:=fun σ H Q=>t σ H fun xs H1=>xs.length<=sizeLine/\∀ p,H1 p=none->Q (.ref p) (upd H1 p (.lst xs))
theorem QkL (h:PA X es t):PE X (.List es pos) (tLst t):=by
  intro pins s σ H Q I hq
  refine wpAny_List_spliced (thn (h pos pins s σ H _ I hq) fun us s1 ⟨xs,H1,I1,r,z,q⟩=>⟨by rw [<- r.length];exact z,?_⟩)
  have hf:H1 s1.heap.objs.size=none:=I1.hok.fresh (Nat.le_refl _)
  refine ⟨.ref s1.heap.objs.size,upd H1 s1.heap.objs.size (.lst xs),I1.laid (t':=s1.toks) (fun b u e=>Heap.get?_push_of_some _ e) (Nat.le_refl _) ?_,rfl,q _ hf⟩
  exact ⟨z,us,0,r,Heap.get?_push_size _ rfl⟩
end
abbrev Sp:=List V->Hp->VK->XK->Prop
abbrev CXT:=List Env->Hp->Shared->XK->Value->Shared->Prop
structure Env0 (P:Program) (w:World) (K:PySem.W.Frag) (mg:Str->Option Value) (base:Heap) (A:Around) (outer:List Env) (s:Shared) (H:Hp):Prop where
  frames:A.frames=some outer
  mod:Mod K mg base
  bs:∀ b o,base.get? b=some o->s.heap.get? b=some o/\H b=none
  bsz:base.objs.size<=s.heap.objs.size
  funs:s.heap.FunFrames base outer
  frf:∀ b∈frs outer,H b=none
  hok:HOk P w H s.heap
  bare:AllBare s.gens
def CE (outer:List Env) (P:Program) (w:World) (H:Hp) (s:Shared) (Q:VK) (u:Value) (s':Shared):Prop:=
  ∃ v H',s'.os=s.os/\AllBare s'.gens/\Un (frs outer) [] H H' s.heap s'.heap/\HOk P w H' s'.heap/\RelV v u/\Q v H'
def CR (CX:CXT) (outer:List Env) (P:Program) (w:World) (H:Hp) (s:Shared) (Q:VK) (E:XK) (r:Result) (s':Shared):Prop:=
  match r with
  | .ok (.ret u)=>CE outer P w H s Q u s'
  | .ok _=>False
  | .error e=>CX outer H s E e s'
structure FnOk (P:Program) (w:World) (K:PySem.W.Frag) (mg:Str->Option Value) (base:Heap) (CX:CXT) (k:Nat) (f:Addr) (fd:FuncData) (ps:List Str) (sp:Sp):Prop where
  len:∀ vs H Q E,sp vs H Q E->vs.length=ps.length
  run:∀ (A:Around) (outer:List Env) (s:Shared) (H:Hp) (args:Args) (us:List Value) (vs:List V) (Q:VK) (E:XK),Room k A->Env0 P w K mg base A outer s H->BindsTo s fd args (ps.zip us)->Vals vs us->sp vs H Q E ->
    codeAny (model P w) A (.call (.ref f) args) (CR CX outer P w H s Q E) s
theorem FnOk.mono {P:Program} {w:World} {K:PySem.W.Frag} {mg:Str->Option Value} {base:Heap} {CX:CXT} {j k:Nat} {f:Addr} {fd:FuncData} {ps:List Str} {sp:Sp} (F:FnOk P w K mg base CX j f fd ps sp) (h:j<=k) :
    FnOk P w K mg base CX k f fd ps sp:=⟨F.len,fun A outer s H args us vs Q E hr=>F.run A outer s H args us vs Q E (hr.mono h)⟩
theorem FnOk.imp {P:Program} {w:World} {K:PySem.W.Frag} {mg:Str->Option Value} {base:Heap} {CX:CXT} {k:Nat} {f:Addr} {fd:FuncData} {ps:List Str} {sp sp':Sp} (F:FnOk P w K mg base CX k f fd ps sp)
    (h:∀ vs H Q E,sp' vs H Q E->sp vs H Q E):FnOk P w K mg base CX k f fd ps sp':=
  ⟨fun vs H Q E q=>F.len vs H Q E (h _ _ _ _ q),fun A outer s H args us vs Q E hr he hb hv hs=>F.run A outer s H args us vs Q E hr he hb hv (h _ _ _ _ hs)⟩
theorem Env0.in1 {P:Program} {w:World} {K:PySem.W.Frag} {mg:Str->Option Value} {base:Heap} {A:Around} {outer:List Env} {s:Shared} {H:Hp} (e:Env0 P w K mg base A outer s H) :
    Env0 P w K mg base A.in1 outer s H:=⟨e.frames,e.mod,e.bs,e.bsz,e.funs,e.frf,e.hok,e.bare⟩
section
variable {X:Cx} {pins:List (Addr×Obj)} {σ:St} {H:Hp} {s s':Shared}
theorem Inv.env0 (I:Inv X pins σ H s):Env0 X.prog X.w X.K X.mg X.base X.A X.stack s H:=
  ⟨I.ok.frames,I.ok.mod,I.bs,Nat.le_trans I.ok.bsz I.sz,I.stack,I.stkFree,I.hok,I.bare⟩
theorem Inv.after {Q:VK} {u:Value} (I:Inv X pins σ H s) (h:CE X.stack X.prog X.w H s Q u s'):EP X pins σ Q u s':=by
  obtain ⟨v,H',os,bare,un,hok,r,q⟩:=h
  obtain ⟨hh,g,d,t,os'⟩:=s'
  obtain rfl:os'=s.os:=os
  exact ⟨v,H',I.call (h':=hh) (g':=g) (d':=d) (t':=t) (ch:=[]) un hok bare (fun b z=>absurd z (by simp)),r,q⟩
end
def Qi4 (sp:Sp) (dvs:List V) (E:XK) (t:TA):TE:=fun σ H Q=>t σ H fun vs H1=>sp (vs++dvs) H1 Q E
def Binds (K:PySem.W.Frag) (fd:FuncData) (ps:List Str) (ds:List Value):Prop:=
  ∀ (s:Shared) (us:List Value),K.In s.heap->(us++ds).length=ps.length->BindsTo s fd ⟨us,[]⟩ (ps.zip (us++ds))
theorem Binds.all {K:PySem.W.Frag} {fd:FuncData} {ps:List Str} (h:∀ us:List Value,us.length=ps.length->bindArgs fd ⟨us,[]⟩=pure (ps.zip us)):Binds K fd ps []:=fun s us _ hl=>by
  rw [List.append_nil] at hl ⊢
  exact .of_eq (h us hl)
def QcE (CX:CXT) (X:Cx) (E:XK):Prop:=∀ (pins:List (Addr×Obj)) (σ:St) (H:Hp) (s:Shared) (e:Value) (s':Shared),Inv X pins σ H s->CX X.stack H s E e s'->X.xe e s'
section
variable {X:Cx} {CX:CXT} {k:Nat} {f C:Addr} {fd:FuncData} {ps:List Str} {sp:Sp} {dvs:List V} {ds:List Value} {E:XK} {x m:Str} {p pos apos:Pos} {e o:Expr} {es:List Expr} {ta:TE} {t:TA}
theorem run_fn {pins:List (Addr×Obj)} {σ:St} {H:Hp} {s:Shared} {Q:VK} {us:List Value} {vs:List V} (F:FnOk X.prog X.w X.K X.mg X.base CX k f fd ps sp) (hr:Room k X.A) (hb:Binds X.K fd ps ds) (hd:Vals dvs ds) (hx:QcE CX X E)
    (I:Inv X pins σ H s) (r:Vals vs us) (h:sp (vs++dvs) H Q E):wpAny (model X.prog X.w) X.A (call (.ref f) us) (EP X pins σ Q) X.xe s:=by
  have r2:Vals (vs++dvs) (us++ds):=r.append hd
  have hl:(us++ds).length=ps.length:=by rw [<- r2.length];exact F.len _ _ _ _ h
  refine wpAny_call (codeAny_mono (F.run X.A X.stack s H ⟨us,[]⟩ (us++ds) (vs++dvs) Q E hr I.env0 (hb s us I.kIn hl) r2 h) fun r s' hq=>?_)
  cases r with
  | error e=>exact hx pins σ H s e s' I hq
  | ok fl=>
    cases fl with
    | ret u=>exact I.after hq
    | next=>exact False.elim hq
    | brk=>exact False.elim hq
    | cont=>exact False.elim hq
theorem Qck (F:FnOk X.prog X.w X.K X.mg X.base CX k f fd ps sp) (hr:Room k X.A) (hg:Gl X x) (hm:X.mg x=some (.ref f)) (hk:PySem.W.keepIn X.K (.ref f)=true) (hb:Binds X.K fd ps ds) (hd:Vals dvs ds) (hx:QcE CX X E)
    (ha:PA X (e::es) t) (hdb:(x == ("__debug__" : Str))=false:=by decide) (he:starEach (e::es) X.env=(false,eval e X.env)::starEach es X.env:=by rfl) (hpl:(backTo pos (starEach es X.env)).any (·.1)=false:=by rfl) :
    PE X (.Call (.Name x p) (e::es) [] pos) (Qi4 sp dvs E t):=by
  intro pins s σ H Q I h
  refine wpAny_Call_Name_kw (QhY I hg hm ?_ hdb)
  refine PySem.W.callWith_K (h₀:=X.base) I.ok.mod.kin hk (thn (ha pos pins s σ H _ I h) fun us s1 ⟨vs,H1,I1,r,q⟩=>⟨I1.kIn,?_⟩) he hpl
  exact run_fn F hr hb hd hx I1 r q
end
section
variable {X:Cx} {CX:CXT} {k:Nat} {f C:Addr} {fd:FuncData} {ps ks:List Str} {sp:Sp} {E:XK} {x m:Str} {p pos apos kpos:Pos} {e o:Expr} {es:List Expr} {kws:List Keyword} {te ta:TE} {t tk:TA} {nm:Option Str}
variable {g:List Value->List Value->List Value} {gV:List V->List V->List V}
end
structure FnScope (N P:List Str) (sc:Scope):Prop where
  kind:sc.kind=.function
  co:sc.isCoroutine=false
  gen:sc.isGenerator=false
  nd:N.Nodup
  pre:N.take P.length=P
  par:∀ x∈P,sc.names.lookup x=some .local∨sc.names.lookup x=some .cell
  nofree:∀ y∈sc.names,y.2≠.free
theorem QeN {kindOf:Str->Option NameKind} {x:Str}:∀ {binds:List (Str×Value)} {m:Str->Option Value},(∀ v,(x,v)∉binds)->bindL kindOf binds m x=m x
  | [],_,_=>rfl
  | (n,v)::r,m,h=>by
    unfold bindL
    rw [QeN fun w hw=>h w (List.mem_cons_of_mem _ hw)]
    split
    · have:x≠n:=by rintro rfl;exact h v List.mem_cons_self
      simp [this]
    · rfl
theorem QeP {kindOf:Str->Option NameKind} {x:Str}:∀ {binds:List (Str×Value)} {m:Str->Option Value},(∀ v,(x,v)∉binds)->bindC kindOf binds m x=m x
  | [],_,_=>rfl
  | (n,v)::r,m,h=>by
    unfold bindC
    rw [QeP fun w hw=>h w (List.mem_cons_of_mem _ hw)]
    split
    · rfl
    · have:x≠n:=by rintro rfl;exact h v List.mem_cons_self
      simp [this]
theorem QeO {kindOf:Str->Option NameKind} {x:Str} {v:Value}:∀ {P:List Str} {vs:List Value} {i:Nat} {m:Str->Option Value},P.Nodup->P[i]? = some x->vs[i]? = some v->kindOf x=some .local ->
    bindL kindOf (P.zip vs) m x=some v
  | [],_,_,_,_,h,_,_=>by simp at h
  | _::_,[],_,_,_,_,h,_=>by simp at h
  | p::P,w::vs,0,m,nd,h1,h2,hk=>by
    simp at h1 h2;subst h1;subst h2
    show bindL kindOf ((p,w)::P.zip vs) m p=_
    unfold bindL
    rw [QeN fun v hv=>(List.nodup_cons.mp nd).1 (List.of_mem_zip hv).1,if_pos hk]
    simp
  | p::P,w::vs,i+1,m,nd,h1,h2,hk=>by
    show bindL kindOf ((p,w)::P.zip vs) m x=_
    unfold bindL
    exact QeO (i:=i) (List.nodup_cons.mp nd).2 (by simpa using h1) (by simpa using h2) hk
theorem QeQ {kindOf:Str->Option NameKind} {x:Str} {v:Value}:∀ {P:List Str} {vs:List Value} {i:Nat} {m:Str->Option Value},P.Nodup->P[i]? = some x->vs[i]? = some v->kindOf x≠some .local ->
    bindC kindOf (P.zip vs) m x=some v
  | [],_,_,_,_,h,_,_=>by simp at h
  | _::_,[],_,_,_,_,h,_=>by simp at h
  | p::P,w::vs,0,m,nd,h1,h2,hk=>by
    simp at h1 h2;subst h1;subst h2
    show bindC kindOf ((p,w)::P.zip vs) m p=_
    unfold bindC
    rw [QeP fun v hv=>(List.nodup_cons.mp nd).1 (List.of_mem_zip hv).1,if_neg hk]
    simp
  | p::P,w::vs,i+1,m,nd,h1,h2,hk=>by
    show bindC kindOf ((p,w)::P.zip vs) m x=_
    unfold bindC
    exact QeQ (i:=i) (List.nodup_cons.mp nd).2 (by simpa using h1) (by simpa using h2) hk
def start (N:List Str) (vs:List V):St:=vs.map some++List.replicate (N.length - vs.length) none
def cxOf (CX:CXT) (P:Program) (w:World) (K:PySem.W.Frag) (mg:Str->Option Value) (base:Heap) (N:List Str) (qual:Str) (scope:Scope) (f:Addr) (cd:Value) (A:Around) (outer:List Env) (s:Shared) (H:Hp) (E:XK):Cx where
  prog:=P
  w:=w
  K:=K
  mg:=mg
  base:=base
  A:=A.deeper (envOfC qual scope s.heap.objs.size f cd)
  N:=N
  s₀:=s
  H₀:=H
  env:=envOfC qual scope s.heap.objs.size f cd
  outer:=outer
  stack:=envOfC qual scope s.heap.objs.size f cd::outer
  ex:=[]
  calm:=true
  fn:=fun _=>true
  pn:=[]
  xe:=fun e s'=>wpAny (model P w) (A.deeper (envOfC qual scope s.heap.objs.size f cd)) (leaving (envOfC qual scope s.heap.objs.size f cd) e) (fun _ s''=>CX outer H s E e s'') (fun e' s''=>CX outer H s E e' s'') s'
theorem Qf7 {sc:Scope} {n:Nat} {x:Str} (h:sc.names.lookup x=some .cell):∃ c,(cellsFrom n sc.names []).lookup x=some c:=by
  have q:=PySem.W.cellsFrom_some sc.names n [] (.inl h)
  exact Option.isSome_iff_exists.mp q
theorem Qh6 {CX:CXT} {P:Program} {w:World} {K:PySem.W.Frag} {mg:Str->Option Value} {base:Heap} {N ps:List Str} {qual:Str} {scope:Scope} {f:Addr} {cd:Value} {A:Around} {outer:List Env} {s s1:Shared} {H:Hp} {E:XK} {us:List Value} {vs:List V}
    (S:FnScope N ps scope) (hd:A.handled=none) (e0:Env0 P w K mg base A outer s H) (hl:vs.length=ps.length) (r:Vals vs us)
    (x:InCallC s s.heap.objs.size (bindL (envOfC qual scope s.heap.objs.size f cd).kindOf (ps.zip us) fun _=>none) (cellsFrom (s.heap.objs.size+1) scope.names []) (bindC (envOfC qual scope s.heap.objs.size f cd).kindOf (ps.zip us) fun _=>none) s1) :
    Inv (cxOf CX P w K mg base N qual scope f cd A outer s H E) [] (start N vs) H s1:=by
  have hpl:ps.length<=N.length:=by have:=congrArg List.length S.pre;rw [List.length_take] at this;omega
  obtain ⟨h1,tk,rfl,hk⟩:=x.done
  have noA:∀ b:Addr,b∉(cxOf CX P w K mg base N qual scope f cd A outer s H E).ex:=fun b z=>absurd (show b∈([]:List Addr) from z) (by simp)
  refine ⟨⟨e0.mod,S.kind,rfl,rfl,Nat.le_refl _,fun y z c h1 h2=>?_,fun y hy=>?_,fun y c _ h=>?_,fun _=>hd,Around.frames_deeper e0.frames,.inr ⟨rfl,rfl⟩,fun b z=>absurd z (noA b),e0.bs,e0.bsz,fun b _ _=>noA b,fun b z=>absurd z (noA b),e0.funs,e0.frf⟩,
    rfl,e0.bare,Un.kept hk,⟨_,x.toInCall.ns,fun i y v h1 h2 h3=>?_⟩,fun y c h=>⟨_,x.cell y c h⟩,e0.hok.fresh (Nat.le_refl _),fun y c h=>?_,fun p hp=>absurd (show p∈([]:List (Addr×Obj)) from hp) (by simp),e0.hok.kept hk,?_⟩
  · exact name_of_addr x.apart (PySem.mem_of_lookup h1) (PySem.mem_of_lookup h2)
  · have hy:scope.names.lookup y=some .cell∨scope.names.lookup y=some .free:=hy
    rcases hy with hy | hy
    · exact Qf7 hy
    · exact absurd rfl (S.nofree _ (PySem.mem_of_lookup hy))
  · exact Nat.le_of_lt (x.above y c (PySem.mem_of_lookup h))
  · have hi:i<vs.length:=by
      unfold start at h2
      by_cases hi:i<vs.length
      · exact hi
      · rw [List.getElem?_append_right (by simpa using hi)] at h2
        rw [List.getElem?_replicate] at h2
        split at h2<;>cases h2
    have ha:vs[i]? = some v:=by
      unfold start at h2
      rw [List.getElem?_append_left (by simpa using hi),List.getElem?_map] at h2
      cases e:vs[i]? with
      | none=>rw [e] at h2;cases h2
      | some a=>rw [e] at h2;cases h2;rfl
    obtain ⟨u,hu,rv⟩:=r.get ha
    have hp:ps[i]? = some y:=by
      rw [<- S.pre,List.getElem?_take_of_lt (by omega)];exact h1
    have ndP:ps.Nodup:=by rw [<- S.pre];exact S.nd.sublist (List.take_sublist _ _)
    refine ⟨u,rv,?_⟩
    rcases S.par y (List.mem_of_getElem? hp) with k | k
    · exact .inl ⟨k,QeO ndP hp hu k⟩
    · obtain ⟨c,e⟩:=Qf7 (n:=s.heap.objs.size+1) k
      refine .inr ⟨.inl k,c,e,?_⟩
      have q:=x.cell y c e
      rw [QeQ ndP hp hu (by show scope.names.lookup y≠_;rw [k];decide)] at q
      exact q
  · exact e0.hok.fresh (Nat.le_of_lt (x.above y c (PySem.mem_of_lookup h)))
  · unfold start
    show _=N.length
    rw [List.length_append,List.length_map,List.length_replicate]
    omega
theorem fn_of {CX:CXT} {P:Program} {w:World} {K:PySem.W.Frag} {mg:Str->Option Value} {base:Heap} {k:Nat} {f:Addr} {name qual:Str} {params:Arguments} {body:List Stmt} {scope:Scope} {dV kV doc pm cdv ct oc:Value} {an od:Option Addr}
    {osl:Array (Option Value)} {N ps:List Str} {sp:Sp} (lk:K.lookup f=some ⟨oc,od,.func (PySem.W.fnOf name qual params body scope dV kV doc pm an cdv ct),osl⟩) (hcd:PySem.W.codeIn K cdv qual=true) (S:FnScope N ps scope)
    (len:∀ vs H Q E,sp vs H Q E->vs.length=ps.length)
    (hbody:∀ (A:Around) (outer:List Env) (s:Shared) (H:Hp) (vs:List V) (Q:VK) (E:XK),Room k (A.deeper (envOfC qual scope s.heap.objs.size f cdv))->sp vs H Q E ->
      ∃ t,PSs (cxOf CX P w K mg base N qual scope f cdv A outer s H E) body t/\t { nx:=fun _ H'=>Q .non H',rt:=Q } (start N vs) H) :
    FnOk P w K mg base CX (k+1) f (PySem.W.fnOf name qual params body scope dV kV doc pm an cdv ct) ps sp:=by
  refine ⟨len,fun A outer s H args us vs Q E hr e0 hb r hsp=>?_⟩
  have hl:=len _ _ _ _ hsp
  have KX:K.In s.heap:=e0.mod.kin.keeps fun b o e=>(e0.bs b o e).1
  have lim:s.heap.NoLimit:=e0.mod.nolimit.keeps fun b o e=>(e0.bs b o e).1
  have hkind:∀ y∈ps.zip us,scope.names.lookup y.1=some .local∨(scope.names.lookup y.1=some .cell/\((cellsFrom (s.heap.objs.size+1) scope.names []).lookup y.1).isSome=true):=fun ⟨n,v⟩ hy=>by
    rcases S.par n (List.of_mem_zip hy).1 with q | q
    · exact .inl q
    · exact .inr ⟨q,PySem.W.cellsFrom_some _ _ _ (.inl q)⟩
  refine codeAny_call_function hr.depth (KX _ _ lk) rfl S.co S.gen rfl (PySem.W.codeRec_of KX hcd) (hb _ _ _ _ ?_)
  refine wpAny_newFunctionEnv_cells S.kind hkind fun env he s1 x=>?_
  subst he
  refine ⟨lim.keeps x.toInCall.keep,codeAny_func ?_⟩
  obtain ⟨t,ht,hq⟩:=hbody A outer s H vs Q E (hr.deeper _) hsp
  have I:Inv (cxOf CX P w K mg base N qual scope f cdv A outer s H E) [] (start N vs) H s1:=Qh6 S hr.hd e0 hl r x
  refine wpAny_mono (ht [] s1 (start N vs) H _ I hq) (fun fl s' hs=>?_) fun e s' hs=>hs
  have fin:∀ {σ':St} {H':Hp} {v:V} {u:Value},Inv (cxOf CX P w K mg base N qual scope f cdv A outer s H E) [] σ' H' s'->RelV v u->Q v H'->CE outer P w H s Q u s':=
    fun {σ' H' v u} J rv q=>⟨v,H',J.os,J.bare,J.base,J.hok,rv,q⟩
  cases fl with
  | ret u=>
    obtain ⟨v,σ',H',J,rv,q⟩:=hs
    exact fin J rv q
  | next=>
    obtain ⟨σ',H',J,q⟩:=hs
    exact fin (v:=V.non) (u:=Value.none) J rfl q
  | brk=>
    obtain ⟨_,_,_,q⟩:=hs
    exact False.elim q
  | cont=>
    obtain ⟨_,_,_,q⟩:=hs
    exact False.elim q
section
variable {X:Cx} {x:Str} {p pos:Pos} {e:Expr} {es:List Expr} {t:TA} {id T:String} {r:List V->Hp->VK->Prop}
def tCB (r:List V->Hp->VK->Prop) (t:TA):TE:=fun σ H Q=>t σ H fun vs H1=>r vs H1 Q
theorem Qas (hc:CallR X (.builtin id) r) (hg:Gl X x) (hm:X.mg x=none) (hv:bootBuiltins x=some (.builtin id)) (ha:PA X (e::es) t) (hn:x ≠ "__name__" := by decide) (hdb:(x == ("__debug__" : Str))=false:=by decide)
    (he:starEach (e::es) X.env=(false,eval e X.env)::starEach es X.env:=by rfl) (hpl:(backTo pos (starEach es X.env)).any (·.1)=false:=by rfl):PE X (.Call (.Name x p) (e::es) [] pos) (tCB r t):=by
  intro pins s σ H Q I h
  refine wpAny_Call_Name_kw (QcD I hg hm hv ?_ hn hdb)
  exact PyProof.Rows.callWith_builtin1 (thn (ha pos pins s σ H _ I h) fun us s1 ⟨vs,H1,I1,r1,q1⟩=>hc pins s1 σ H1 vs us Q I1 r1 q1) he hpl
theorem Qb1 (hc:CallR X (.type T) r) (hg:Gl X x) (hm:X.mg x=none) (hv:bootBuiltins x=some (.type T)) (ha:PA X (e::es) t) (hn:x ≠ "__name__" := by decide) (hdb:(x == ("__debug__" : Str))=false:=by decide)
    (he:starEach (e::es) X.env=(false,eval e X.env)::starEach es X.env:=by rfl) (hpl:(backTo pos (starEach es X.env)).any (·.1)=false:=by rfl):PE X (.Call (.Name x p) (e::es) [] pos) (tCB r t):=by
  intro pins s σ H Q I h
  refine wpAny_Call_Name_kw (QcD I hg hm hv ?_ hn hdb)
  exact PyProof.Rows.callWith_type1 (thn (ha pos pins s σ H _ I h) fun us s1 ⟨vs,H1,I1,r1,q1⟩=>hc pins s1 σ H1 vs us Q I1 r1 q1) he hpl
end
end L2
namespace HT
open PySem PyProof.Rows
section
open PySem.SeqAt
open PySem.AutoSeq1 (wpAny_loadPart')
open PySem.MeetsSeq PySem.MeetsSeq2 PySem.MeetsSeq3
end
section
variable {prog:Program} {w:World} {A:Around} {E:Value->Shared->Prop} {s:Shared}
theorem cat_tup {t b:Addr} {vs ws:List Value} {Q:Value->Shared->Prop} (ht:IsTup s.heap t vs.toArray) (hb:IsTup s.heap b ws.toArray) (hv:vs≠[])
    (h1:ws=[]->Q (.ref t) s) (h2:ws≠[]->Q (.ref s.heap.objs.size) { s with heap:=s.heap.push { cls:=.type "tuple",data:=.seq (vs++ws).toArray } })
    (hsz:vs.length+ws.length<=sizeLine):wpAny (model prog w) A (binaryOp .Add (.ref t) (.ref b)) Q E s:=by
  obtain ⟨⟨cls,dd,data,sl⟩,ho,hc,n,hd⟩:=id ht
  obtain ⟨⟨cls2,dd2,data2,sl2⟩,ho2,hc2,n2,hd2⟩:=id hb
  simp only at hc hd hc2 hd2
  subst hc hd hc2 hd2
  have e:vs.toArray++ws.toArray=(vs++ws).toArray:=by simp
  by_cases hw:ws=[]
  · exact concat_meets ⟨_,ho,rfl⟩ ⟨_,ho2,rfl⟩ noFill_tuple_add seq_tuple_add PySem.F.slot_tuple_add PySem.F.entry_tuple_add (PySem.F.args_tuple_add_2 _ _)
      (tuple_addW1 t b vs.toArray ws.toArray n n2 dd dd2 sl sl2 (by simpa using hv) (by simp [hw])) ⟨ho,ho2,h1 hw⟩
  · refine concat_meets ⟨_,ho,rfl⟩ ⟨_,ho2,rfl⟩ noFill_tuple_add seq_tuple_add PySem.F.slot_tuple_add PySem.F.entry_tuple_add (PySem.F.args_tuple_add_2 _ _)
      (tuple_addW2 t b vs.toArray ws.toArray n n2 dd dd2 sl sl2 (by simpa using hv) (by simpa using hw) (by rw [List.size_toArray,List.size_toArray];exact hsz)) ⟨ho,ho2,?_⟩
    rw [e]
    exact h2 hw
def sIx (n d:Nat):Option Int->Nat
  | none=>d
  | some v=>if v<0 then (v+(n:Int)).toNat else min v.toNat n
theorem sIx_none (n d:Nat):sIx n d none=d:=rfl
theorem sIx_nat (n d k:Nat):sIx n d (some (k:Int))=min k n:=by
  show (if (k:Int)<0 then ((k:Int)+(n:Int)).toNat else min (k:Int).toNat n)=min k n
  rw [if_neg (by omega),Int.toNat_natCast]
theorem sIx_le (n d:Nat) (hd:d<=n) (o:Option Int):sIx n d o<=n:=by
  cases o with
  | none=>exact hd
  | some v=>
    show (if v<0 then (v+(n:Int)).toNat else min v.toNat n)<=n
    by_cases hv:v<0
    · rw [if_pos hv];omega
    · rw [if_neg hv];exact Nat.min_le_right _ _
theorem QiB (v:Int) (n d:Nat):(if v<0 then max (v+(n:Int)) 0 else min v (n:Int))=((sIx n d (some v):Nat):Int):=by
  show (if v<0 then max (v+(n:Int)) 0 else min v (n:Int))=(((if v<0 then (v+(n:Int)).toNat else min v.toNat n):Nat):Int)
  by_cases hv:v<0
  · simp only [if_pos hv];omega
  · simp only [if_neg hv];omega
theorem QgH (lo hi:Option Int) (n:Nat):Builtin.Slice.sliceAdjust lo hi 1 (n:Int)=(((sIx n 0 lo:Nat):Int),((sIx n n hi:Nat):Int)):=by
  have h1:¬ ((1:Int)<0):=by omega
  unfold Builtin.Slice.sliceAdjust
  simp only [h1,if_false]
  refine Prod.ext ?_ ?_
  · cases lo with
    | none=>rfl
    | some v=>exact QiB v n 0
  · cases hi with
    | none=>rfl
    | some v=>exact QiB v n n
theorem Qgn (i j:Nat):Builtin.Slice.slicePlaces (i:Int) (j:Int) 1=j - i:=by
  unfold Builtin.Slice.slicePlaces
  have h1:(1:Int) > 0:=by omega
  simp only [h1,if_true,Int.ediv_one]
  split<;>omega
theorem Qdp {v:Value} {o:Option Int} {Q:Option Int->Shared->Prop} (p:IsPart v o) (h:Q o s):wpAny (model prog w) A (Builtin.Slice.slicePartIndex v) Q E s:=by
  cases p with
  | none=>exact slicePart_none h
  | int i t=>exact slicePart_int h
theorem sliceApplied_gen {sl:Addr} {vl vu:Value} {lo hi:Option Int} {n:Nat} {Q:Int×Int×Nat->Shared->Prop} (hs:s.heap.IsSliceOf sl vl vu .none) (pl:IsPart vl lo) (pu:IsPart vu hi)
    (h:Q (((sIx n 0 lo:Nat):Int),1,sIx n n hi - sIx n 0 lo) s):wpAny (model prog w) A (Builtin.Slice.sliceApplied (.ref sl) (pure (n:Int))) Q E s:=by
  obtain ⟨os,hos,hcs,hds⟩:=id hs
  unfold Builtin.Slice.sliceApplied Builtin.Slice.sliceFields
  refine wpAny_bind (wpAny_bind (wpAny_field hos hds (x:=vl) rfl (wpAny_bind (wpAny_field hos hds (x:=vu) rfl (wpAny_bind (wpAny_field hos hds (x:=.none) rfl (wpAny_pure ?_)))))))
  refine wpAny_bind (slicePart_none ?_)
  show wpAny _ _ (if ((1:Int) == 0)=true then _ else _) _ _ s
  rw [if_neg (by decide)]
  refine wpAny_bind (Qdp pl (wpAny_bind (Qdp pu (wpAny_bind (wpAny_pure ?_)))))
  show wpAny _ _ (match Builtin.Slice.sliceAdjust lo hi 1 (n:Int) with | (lo,hi)=>pure (lo,(1:Int),Builtin.Slice.slicePlaces lo hi 1)) _ _ s
  rw [QgH lo hi n]
  show wpAny _ _ (pure (((sIx n 0 lo:Nat):Int),(1:Int),Builtin.Slice.slicePlaces ((sIx n 0 lo:Nat):Int) ((sIx n n hi:Nat):Int) 1)) _ _ s
  rw [Qgn]
  exact wpAny_pure h
theorem Qjn (xs:Array Value) (i k:Nat):((List.range k).filterMap fun (m:Nat)=>xs[((i:Int)+(m:Int)*1).toNat]?).toArray=((xs.toList.drop i).take k).toArray:=by
  have e:(fun (m:Nat)=>xs[((i:Int)+(m:Int)*1).toNat]?)=fun m=>xs[i+m]? := by
    funext m
    have:((i:Int)+(m:Int)*1).toNat=i+m:=by omega
    rw [this]
  rw [e]
  have:=pick_run xs i k
  rw [List.filterMap_map] at this
  have e2:((fun x=>xs[x]?)∘fun x=>i+x)=fun m=>xs[i+m]? := rfl
  rw [e2] at this
  rw [this]
theorem getItem_tuple_cut {t sl:Addr} {items:Array Value} {vl vu:Value} {lo hi:Option Int} {Q:Value->Shared->Prop} (ht:IsTup s.heap t items) (hs:s.heap.IsSliceOf sl vl vu .none) (pl:IsPart vl lo) (pu:IsPart vu hi)
    (hw:¬ (sIx items.size 0 lo=0/\sIx items.size items.size hi=items.size))
    (h:Q (.ref s.heap.objs.size) { s with heap:=s.heap.push { cls:=.type "tuple",data:=.seq ((items.toList.drop (sIx items.size 0 lo)).take (sIx items.size items.size hi - sIx items.size 0 lo)).toArray } })
    (hsz:items.size<=sizeLine):wpAny (model prog w) A (getItem (.ref t) (.ref sl)) Q E s:=by
  have htake:sizeOk (.seq ((items.toList.drop (sIx items.size 0 lo)).take (sIx items.size items.size hi - sIx items.size 0 lo)).toArray):=by
    show ((items.toList.drop (sIx items.size 0 lo)).take (sIx items.size items.size hi - sIx items.size 0 lo)).toArray.size<=sizeLine
    rw [List.size_toArray,List.length_take,List.length_drop,Array.length_toList]
    omega
  have hj:sIx items.size items.size hi<=items.size:=sIx_le _ _ (Nat.le_refl _) hi
  obtain ⟨os,hos,hcs,hds⟩:=id hs
  have hTs:s.TypeIs (.ref sl) "slice" := ⟨os,hos,hcs⟩
  unfold getItem
  try with_reducible refine wpAny_holding ?_
  first | refine wpAny_bind (wpAny_pure ?_) | skip
  refine wpAny_bind (wpAny_sequenceKey ht.typeIs (by decide) ?_)
  refine wpAny_bind (wpAny_callSpecial?_slot (name:=Str.ofString "__getitem__") ht.typeIs PyProof.Rows.slot_tuple_getitem
    (wpAny_call_entry PyProof.Rows.slot_tuple_getitem ht.typeIs entry_tuple_getitem ?_ (args_tuple_getitem _ _)))
  show wpAny _ _ (Builtin.Tuple.tupleItemsOf (.ref t) >>= _) _ _ s
  refine wpAny_bind (tupleItemsOf_ ht ?_)
  refine wpAny_bind (wpAny_typeOf hTs ?_)
  rw [if_pos (by decide)]
  refine wpAny_bind (sliceApplied_gen hs pl pu ?_)
  have hno:¬ ((((sIx items.size 0 lo:Nat):Int) == 0&&(1:Int) == 1&&(sIx items.size items.size hi - sIx items.size 0 lo) == items.size)=true):=by
    intro q
    rw [Bool.and_eq_true,Bool.and_eq_true] at q
    have q1:((sIx items.size 0 lo:Nat):Int)=0:=eq_of_beq q.1.1
    have q2:sIx items.size items.size hi - sIx items.size 0 lo=items.size:=eq_of_beq q.2
    exact hw ⟨by omega,by omega⟩
  show wpAny _ _ (if (((sIx items.size 0 lo:Nat):Int) == 0&&(1:Int) == 1&&(sIx items.size items.size hi - sIx items.size 0 lo) == items.size)=true then _ else _) _ _ s
  rw [if_neg hno,Qjn]
  first
    | exact wpAny_bind (m:=Builtin.Tuple.tupleExact _) (wpAny_newObj_type (wpAny_pure ⟨_,rfl,wpAny_pure h⟩) htake)
    | exact wpAny_bind (m:=Builtin.Tuple.tupleExact _) (wpAny_newObj_type (wpAny_bind (wpAny_pure (wpAny_pure ⟨_,rfl,wpAny_pure h⟩))) htake)
    | exact wpAny_bind (wpAny_bind (m:=Builtin.Tuple.tupleExact _) (wpAny_newObj_type (wpAny_pure (wpAny_pure ⟨_,rfl,wpAny_pure h⟩)) htake))
    | exact wpAny_bind (wpAny_bind (m:=Builtin.Tuple.tupleExact _) (wpAny_newObj_type (wpAny_pure ⟨_,rfl,wpAny_pure h⟩) htake))
end
end HT
namespace L2
open PySem PySem.Spec PyProof.Rows
abbrev TO:=St->Hp->(Option Int->Hp->Prop)->Prop
def PO (X:Cx) (e:Option Expr) (t:TO):Prop:=
  ∀ (pins:List (Addr×Obj)) (s:Shared) (σ:St) (H:Hp) (Q:Option Int->Hp->Prop),Inv X pins σ H s->t σ H Q ->
    wpAny (model X.prog X.w) X.A (evalPart e X.env) (fun u s'=>∃ o H',Inv X pins σ H' s'/\IsPart u o/\Q o H') X.xe s
def Qk8:TO:=fun _ H Q=>Q none H
def tPart (t:TE):TO:=fun σ H Q=>t σ H fun x H1=>∃ i,x=.int i/\Q (some i) H1
theorem Qco {ns:List Int}:∀ {us:List Value},Vals (ns.map V.int) us->IntsAre us ns:=by
  induction ns with
  | nil=>intro us r;rw [List.map_nil] at r;cases r;exact .nil
  | cons n ns ih=>
    intro us r
    rw [List.map_cons] at r
    cases r with
    | cons r1 r2=>
      obtain ⟨t,e⟩:=r1
      subst e
      exact .cons n t (ih r2)
section
variable {X:Cx} {e:Expr} {te:TE} {lo hi:Option Expr} {tl th:TO} {pos p2:Pos}
theorem Qlu:PO X none Qk8:=by
  intro pins s σ H Q I h
  rw [evalPart_none]
  exact wpAny_pure ⟨none,H,I,.none,h⟩
theorem Qhl (h:PE X e te):PO X (some e) (tPart te):=by
  intro pins s σ H Q I hw
  rw [evalPart_some]
  refine thn (h pins s σ H _ I hw) fun u s1 ⟨x,H1,I1,r1,q1⟩=>?_
  obtain ⟨i,rfl,q⟩:=q1
  obtain ⟨t,rfl⟩:=r1
  exact ⟨some i,H1,I1,.int i t,q⟩
def SlR (X:Cx) (r:V->Option Int->Option Int->Hp->VK->Prop):Prop:=
  ∀ (pins:List (Addr×Obj)) (s:Shared) (σ:St) (H:Hp) (x:V) (v vl vu:Value) (lo hi:Option Int) (sl:Addr) (Q:VK),Inv X pins σ H s->RelV x v->s.heap.IsSliceOf sl vl vu .none->IsPart vl lo->IsPart vu hi->r x lo hi H Q ->
    ∃ T id,typeLookup (.type T) "__getitem__" = pure (some (.builtin id))/\s.TypeIs v T/\wpAny (model X.prog X.w) X.A (getItem v (.ref sl)) (EP X pins σ Q) X.xe s
theorem SlR.or {r r':V->Option Int->Option Int->Hp->VK->Prop} (h:SlR X r) (h':SlR X r'):SlR X (fun x lo hi H Q=>r x lo hi H Q∨r' x lo hi H Q):=by
  intro pins s σ H x v vl vu lo hi sl Q I rx hs pl pu q
  rcases q with q | q
  · exact h pins s σ H x v vl vu lo hi sl Q I rx hs pl pu q
  · exact h' pins s σ H x v vl vu lo hi sl Q I rx hs pl pu q
def tSl (r:V->Option Int->Option Int->Hp->VK->Prop) (te:TE) (tl th:TO):TE:=fun σ H Q=>te σ H fun x H1=>tl σ H1 fun l H2=>th σ H2 fun u H3=>r x l u H3 Q
theorem Qjp {r:V->Option Int->Option Int->Hp->VK->Prop} (hr:SlR X r) (he:PE X e te) (hl:PO X lo tl) (hu:PO X hi th):PE X (.Subscript e (.Slice lo hi none p2) pos) (tSl r te tl th):=by
  intro pins s σ H Q I h
  refine Subscript_ (thn (he pins s σ H _ I h) fun v s1 ⟨x,H1,I1,r1,q1⟩=>?_)
  refine wpAny_Slice (thn (hl pins s1 σ H1 _ I1 q1) fun vl s2 ⟨l,H2,I2,pl,q2⟩=>thn (hu pins s2 σ H2 _ I2 q2) fun vu s3 ⟨u,H3,I3,pu,q3⟩=>?_)
  rw [evalPart_none]
  refine wpAny_pure ?_
  have I4:Inv X pins σ H3 { s3 with heap:=s3.heap.push { cls:=.type "slice",data:=.fields #[vl,vu,.none] } }:=I3.kept (t':=s3.toks) fun b ob q=>Heap.get?_push_of_some _ q
  obtain ⟨T,id,hT,ht,hg⟩:=hr pins { s3 with heap:=s3.heap.push { cls:=.type "slice",data:=.fields #[vl,vu,.none] } } σ H3 x v vl vu l u s3.heap.objs.size Q I4 r1 (Heap.IsSliceOf.new ..) pl pu q3
  show wpAny (model X.prog X.w) X.A (subscriptTail e (.Slice lo hi none p2) v (.ref s3.heap.objs.size)) (EP X pins σ Q) X.xe { s3 with heap:=s3.heap.push { cls:=.type "slice",data:=.fields #[vl,vu,.none] } }
  exact tail_any (ops:=[.ref s3.heap.objs.size,v]) ht hT hg (by with_unfolding_all rfl)
def cutV (xs:List V) (lo hi:Option Int):List V:=(xs.drop (HT.sIx xs.length 0 lo)).take (HT.sIx xs.length xs.length hi - HT.sIx xs.length 0 lo)
theorem Qdd (xs:List V) (lo hi:Option Int):(cutV xs lo hi).length<=xs.length:=by
  unfold cutV
  rw [List.length_take,List.length_drop]
  omega
def rSlT (K:PySem.W.Frag):V->Option Int->Option Int->Hp->VK->Prop:=fun x lo hi H Q=>∃ a xs,x=.ref a/\SqT K H a xs /\
  ¬ (HT.sIx xs.length 0 lo=0/\HT.sIx xs.length xs.length hi=xs.length)/\∀ p,H p=none->Q (.ref p) (upd H p (.tup (cutV xs lo hi)))
theorem sl_tup:SlR X (rSlT X.K):=by
  intro pins s σ H x v vl vu lo hi sl Q I rx hs pl pu h
  obtain ⟨a,xs,rfl,hx,hw,q⟩:=h
  cases rx
  obtain ⟨its,r,ht,hz⟩:=I.tuple hx
  have hlen:its.toArray.size=xs.length:=by rw [List.size_toArray];exact r.length.symm
  refine ⟨"tuple",_,PyProof.Rows.slot_tuple_getitem.lookup,ht.typeIs,?_⟩
  refine HT.getItem_tuple_cut ht hs pl pu (by rw [hlen];exact hw) ?_ (by rw [hlen];exact hz)
  rw [hlen]
  refine ⟨.ref s.heap.objs.size,_,I.laid (t':=s.toks) (o:=.tup (cutV xs lo hi)) (fun b ob q=>Heap.get?_push_of_some _ q) (Nat.le_refl _) ?_,rfl,q _ (I.hok.fresh (Nat.le_refl _))⟩
  exact ⟨Nat.le_trans (Qdd xs lo hi) hz,_,(r.drop (HT.sIx xs.length 0 lo)).take (HT.sIx xs.length xs.length hi - HT.sIx xs.length 0 lo),IsTup.new _ _⟩
def rCatT (K:PySem.W.Frag):R2:=fun x y H Q=>∃ a b xs ys,x=.ref a/\y=.ref b/\SqT K H a xs/\SqT K H b ys/\xs≠[]/\xs.length+ys.length<=sizeLine /\
  (ys=[]->Q (.ref a) H)/\(ys≠[]->∀ p,H p=none->Q (.ref p) (upd H p (.tup (xs++ys))))
theorem Vals.nil_iff {xs:List V} {us:List Value} (r:Vals xs us):us=[]↔xs=[]:=by
  cases r with
  | nil=>simp
  | cons _ _=>simp
theorem Ql3:OpR X (binaryOp .Add) (rCatT X.K):=by
  intro pins s σ H x y v u Q I rx ry h
  obtain ⟨a,b,xs,ys,rfl,rfl,ha,hb,hx,hz,q1,q2⟩:=h
  cases rx
  cases ry
  obtain ⟨its,r1,p1,_⟩:=I.tuple ha
  obtain ⟨its2,r2,p2,_⟩:=I.tuple hb
  refine HT.cat_tup p1 p2 (fun z=>hx (r1.nil_iff.mp z)) (fun z=>⟨.ref a,H,I,rfl,q1 (r2.nil_iff.mp z)⟩) (fun z=>?_) (by rw [<- r1.length,<- r2.length];exact hz)
  refine ⟨.ref s.heap.objs.size,_,I.laid (t':=s.toks) (o:=.tup (xs++ys)) (fun b ob q=>Heap.get?_push_of_some _ q) (Nat.le_refl _) ?_,rfl,q2 (fun w=>z (r2.nil_iff.mpr w)) _ (I.hok.fresh (Nat.le_refl _))⟩
  exact ⟨by rw [List.length_append];exact hz,_,r1.append r2,IsTup.new _ _⟩
end
def ixN (n:Nat) (i:Int):Option Nat:=if 0<=i then (if i<n then some i.toNat else none) else if -(n:Int)<=i then some (i+n).toNat else none
def atI {α:Type} (xs:List α) (i:Int):Option α:=(ixN xs.length i).bind fun j=>xs[j]?
theorem Qh3 {n:Nat} {i:Int} {j:Nat} (h:ixN n i=some j):seqIndex? i n=some j/\j<n /\ -(n:Int)<=i/\i<n:=by
  unfold ixN at h
  by_cases h0:0<=i
  · rw [if_pos h0] at h
    by_cases h1:i<n
    · rw [if_pos h1] at h
      have e:i.toNat=j:=Option.some.inj h
      exact ⟨by rw [seqIndex_of h0 h1,e],by omega,by omega,h1⟩
    · rw [if_neg h1] at h;cases h
  · rw [if_neg h0] at h
    by_cases h1 : -(n:Int)<=i
    · rw [if_pos h1] at h
      have e:(i+n).toNat=j:=Option.some.inj h
      exact ⟨by rw [seqIndex_neg (by omega) h1,e],by omega,h1,by omega⟩
    · rw [if_neg h1] at h;cases h
theorem QiS {α:Type} {xs:List α} {i:Int} {v:α} (h:atI xs i=some v):∃ j,seqIndex? i xs.length=some j/\xs[j]? = some v/\j<xs.length /\ -(xs.length:Int)<=i/\i<xs.length:=by
  unfold atI at h
  cases e:ixN xs.length i with
  | none=>rw [e] at h;cases h
  | some j=>
    rw [e] at h
    obtain ⟨h1,h2,h3,h4⟩:=Qh3 e
    exact ⟨j,h1,h,h2,h3,h4⟩
theorem Qbh {α:Type} {xs:List α} {j:Nat} {v:α} (h:xs[j]? = some v):atI xs (j:Int)=some v:=by
  have hj:j<xs.length:=(List.getElem?_eq_some_iff.mp h).1
  have e:ixN xs.length (j:Int)=some j:=by
    unfold ixN
    rw [if_pos (by omega),if_pos (by omega)];simp
  unfold atI;rw [e];exact h
theorem Qkp {α:Type} (xs:List α) (v:α):atI (xs++[v]) (-1)=some v:=by
  have hl:(xs++[v]).length=xs.length+1:=by simp
  have e:ixN (xs++[v]).length (-1)=some xs.length:=by
    unfold ixN
    rw [hl,if_neg (by decide),if_pos (by omega)]
    congr 1
    omega
  unfold atI
  rw [e]
  show (xs++[v])[xs.length]? = some v
  simp
def Qfp (b:Expr):Prop:=∀ o i,subscripted b false o i=operate [o,i] (getItem o i)
def IxR (X:Cx) (r:R2):Prop:=
  ∀ (value slice:Expr) (pins:List (Addr×Obj)) (s:Shared) (σ:St) (H:Hp) (x y:V) (v u:Value) (Q:VK),Inv X pins σ H s->RelV x v->RelV y u->r x y H Q ->
    subscripted slice false v u=operate [v,u] (getItem v u)->wpAny (model X.prog X.w) X.A (subscriptTail value slice v u) (EP X pins σ Q) X.xe s
def MtR (X:Cx) (id:String) (r:V->List V->Hp->VK->Prop):Prop:=
  ∀ (pins:List (Addr×Obj)) (s:Shared) (σ:St) (H:Hp) (x:V) (xs:List V) (v:Value) (us:List Value) (Q:VK),Inv X pins σ H s->RelV x v->Vals xs us->r x xs H Q ->
    wpAny (model X.prog X.w) X.A (call (.builtin id) (v::us)) (EP X pins σ Q) X.xe s
section
variable {X:Cx} {a b:Expr} {ta tb:TE} {pos:Pos}
theorem IxR.or {r r':R2} (h:IxR X r) (h':IxR X r'):IxR X (fun x y H Q=>r x y H Q∨r' x y H Q):=by
  intro value slice pins s σ H x y v u Q I rx ry q hs
  rcases q with q | q
  · exact h value slice pins s σ H x y v u Q I rx ry q hs
  · exact h' value slice pins s σ H x y v u Q I rx ry q hs
theorem MtR.or {id:String} {r r':V->List V->Hp->VK->Prop} (h:MtR X id r) (h':MtR X id r'):MtR X id (fun x xs H Q=>r x xs H Q∨r' x xs H Q):=by
  intro pins s σ H x xs v us Q I rx rs q
  rcases q with q | q
  · exact h pins s σ H x xs v us Q I rx rs q
  · exact h' pins s σ H x xs v us Q I rx rs q
theorem Qjr {r:R2} (hr:IxR X r) (ha:PE X a ta) (hb:PE X b tb) (hs:Qfp b):PE X (.Subscript a b pos) (tOp r ta tb):=by
  intro pins s σ H Q I h
  exact Subscript_ (binT ha hb I h fun v u s2 x y H2 I2 rx ry q=>hr a b pins s2 σ H2 x y v u Q I2 rx ry q (hs _ _))
def rIxL (K:PySem.W.Frag):R2:=fun x y H Q=>∃ p xs i v,x=.ref p/\y=.int i/\SqL K H p xs/\atI xs i=some v/\Q v H
def rIxT (K:PySem.W.Frag):R2:=fun x y H Q=>∃ p xs i v,x=.ref p/\y=.int i/\SqT K H p xs/\atI xs i=some v/\Q v H
theorem QdX:IxR X (rIxL X.K):=by
  intro value slice pins s σ H x y v u Q I rx ry h hs
  obtain ⟨p,xs,i,z,rfl,rfl,hq,he,q⟩:=h
  cases rx
  obtain ⟨t,rfl⟩:=ry
  obtain ⟨its,r,pl,hz⟩:=I.list hq
  obtain ⟨j,h1,h2,h3,h4,h5⟩:=QiS he
  obtain ⟨w,ew,rw'⟩:=r.get h2
  have hl:=r.length
  have hn:=QfN
  have fin:EP X pins σ Q w s:=⟨z,H,I,rw',q⟩
  by_cases h0:0<=i
  · have hj:i.toNat=j:=by
      rw [seqIndex_of h0 h5] at h1
      exact Option.some.inj h1
    exact item_listR pl.isList h0 (by omega) (by rw [hj];simpa using ew) fin hs
  · have hj:(i+(its.toArray.size:Int)).toNat=j:=by
      rw [seqIndex_neg (by omega) h4] at h1
      rw [List.size_toArray,<- hl]
      exact Option.some.inj h1
    exact subscriptTail_builtinR (x:=w) pl.isList.typeIs slot_list_getitem.lookup
      (wpAny_getItem_list_neg (Q:=fun r s'=>r=w/\EP X pins σ Q r s') pl.isList (by omega) (by rw [List.size_toArray]<;>omega) (by omega) (by rw [hj];simpa using ew) ⟨rfl,fin⟩) hs
theorem ix_tup:IxR X (rIxT X.K):=by
  intro value slice pins s σ H x y v u Q I rx ry h hs
  obtain ⟨p,xs,i,z,rfl,rfl,hq,he,q⟩:=h
  cases rx
  obtain ⟨t,rfl⟩:=ry
  obtain ⟨its,r,pl,hz⟩:=I.tuple hq
  obtain ⟨j,h1,h2,h3,h4,h5⟩:=QiS he
  obtain ⟨w,ew,rw'⟩:=r.get h2
  have hl:=r.length
  have hn:=QfN
  have fin:EP X pins σ Q w s:=⟨z,H,I,rw',q⟩
  exact subscriptTail_builtinR (x:=w) pl.typeIs slot_tuple_getitem.lookup
    (getItem_tuple (j:=j) (Q:=fun r s'=>r=w/\EP X pins σ Q r s') pl (by omega) (by omega) (by rw [List.size_toArray,<- hl];exact h1) (by simpa using ew) ⟨rfl,fin⟩) hs
theorem Qgx (its:List Value) (n j:Nat) (u:Value):Obj.mapSeq (·.setIfInBounds j u) { cls:=.type "list",data:=.seq its.toArray n }={ cls:=.type "list",data:=.seq (its.set j u).toArray n }:=by
  simp [Obj.mapSeq]
theorem Inv.lst {pins:List (Addr×Obj)} {σ:St} {H:Hp} {s:Shared} {p:Addr} {xs:List V} (I:Inv X pins σ H s) (h:H p=some (.lst xs)) :
    ∃ (its:List Value) (n:Nat),Vals xs its/\s.heap.get? p=some { cls:=.type "list",data:=.seq its.toArray n }/\xs.length<=sizeLine:=by
  obtain ⟨z,its,n,r,e⟩:=I.hok p _ h
  exact ⟨its,n,r,e,z⟩
theorem Inv.lstUpd {pins:List (Addr×Obj)} {σ:St} {H:Hp} {s:Shared} {p:Addr} {xs ys:List V} {its its':List Value} {n n':Nat} {f:Obj->Obj} (I:Inv X pins σ H s) (h:H p=some (.lst xs))
    (ho:s.heap.get? p=some { cls:=.type "list",data:=.seq its.toArray n }) (hf:f { cls:=.type "list",data:=.seq its.toArray n }={ cls:=.type "list",data:=.seq its'.toArray n' }) (r:Vals ys its') (hz:ys.length<=sizeLine) (t:Nat) :
    Inv X pins σ (upd H p (.lst ys)) { s with heap:=s.heap.update p f,toks:=t }:=by
  have e:(s.heap.update p f).get? p=some { cls:=.type "list",data:=.seq its'.toArray n' }:=by
    rw [Heap.get?_update_self f ho (by rw [hf]<;>rfl),hf]
  refine I.write (x:=p) (e:=p) (by rw [h];trivial) (.inl rfl) (fun b u hb q=>(Heap.get?_update_other _ _ (Ne.symm hb)).trans q) ⟨_,e⟩ ?_
  exact ⟨hz,its',n',r,e⟩
def rSetL:V->V->V->Hp->(Hp->Prop)->Prop:=fun o i v H Q=>∃ p xs k j,o=.ref p/\i=.int k/\H p=some (.lst xs)/\ixN xs.length k=some j/\Q (upd H p (.lst (xs.set j v)))
theorem Qfx:PSet X rSetL:=by
  intro pins s σ H o i v ov iv u Q I ro ri rv h
  obtain ⟨p,xs,k,j,rfl,rfl,hp,hj,q⟩:=h
  cases ro
  obtain ⟨t,rfl⟩:=ri
  obtain ⟨its,n,r,ho,hz⟩:=I.lst hp
  obtain ⟨h1,h2,h3,h4⟩:=Qh3 hj
  have hl:=r.length
  have hn:=QfN
  have I':Inv X pins σ (upd H p (.lst (xs.set j v))) { s with heap:=s.heap.update p (Obj.mapSeq (·.setIfInBounds j u)) }:=
    I.lstUpd hp ho (Qgx its n j u) (r.set rv j) (by rw [List.length_set];exact hz) s.toks
  by_cases h0:0<=k
  · have hk:k.toNat=j:=by
      rw [seqIndex_of h0 h4] at h1
      exact Option.some.inj h1
    exact PySem.W.ki_setAt ho h0 (by omega) (by rw [List.size_toArray,<- hl];exact h4) (by rw [hk];exact ⟨_,I',q⟩)
  · have hk:(k+(its.toArray.size:Int)).toNat=j:=by
      rw [seqIndex_neg (by omega) h3] at h1
      rw [List.size_toArray,<- hl]
      exact Option.some.inj h1
    exact PySem.W.ki_setBack ho (by omega) (by rw [List.size_toArray,<- hl];exact h3) (by omega) (by rw [hk];exact ⟨_,I',q⟩)
theorem Qee (lo hi:Option Int) (n:Nat):(sliceBounds lo hi none n).1=((HT.sIx n 0 lo:Nat):Int)/\(sliceBounds lo hi none n).2.1=((HT.sIx n n hi:Nat):Int)/\(sliceBounds lo hi none n).2.2=1:=by
  refine ⟨?_,?_,rfl⟩
  · cases lo with
    | none=>simp [sliceBounds,HT.sIx]
    | some i=>
      simp only [sliceBounds,HT.sIx,Option.getD_none,show (1:Int) > 0 by decide,if_true]
      by_cases h:i<0
      · simp only [h,if_true]<;>omega
      · simp only [h,if_false]<;>omega
  · cases hi with
    | none=>simp [sliceBounds,HT.sIx]
    | some i=>
      simp only [sliceBounds,HT.sIx,Option.getD_none,show (1:Int) > 0 by decide,if_true]
      by_cases h:i<0
      · simp only [h,if_true]<;>omega
      · simp only [h,if_false]<;>omega
theorem QdJ (its:List Value) (lo hi:Option Int):slicePick its.toArray lo hi none=((its.drop (HT.sIx its.length 0 lo)).take (HT.sIx its.length its.length hi - HT.sIx its.length 0 lo)).toArray:=by
  obtain ⟨h1,h2,h3⟩:=Qee lo hi its.toArray.size
  unfold slicePick
  rw [h1,h2,h3]
  simp only [sliceRange_one,pick_run,List.size_toArray]<;>rfl
def rSlL (K:PySem.W.Frag):V->Option Int->Option Int->Hp->VK->Prop:=fun x lo hi H Q=>∃ a xs,x=.ref a/\SqL K H a xs/\∀ p,H p=none->Q (.ref p) (upd H p (.lst (cutV xs lo hi)))
theorem Qlc:SlR X (rSlL X.K):=by
  intro pins s σ H x v vl vu lo hi sl Q I rx hs pl pu h
  obtain ⟨a,xs,rfl,hx,q⟩:=h
  cases rx
  obtain ⟨its,r,ht,hz⟩:=I.list hx
  have hlen:=r.length
  refine ⟨"list",_,slot_list_getitem.lookup,ht.isList.typeIs,?_⟩
  refine wpAny_getItem_list_slice ht.isList hs pl pu .none (by simp) ?_ (by rw [List.size_toArray]<;>omega)
  rw [QdJ,<- hlen]
  refine ⟨.ref s.heap.objs.size,_,I.laid (t':=s.toks) (o:=.lst (cutV xs lo hi)) (fun b ob q=>Heap.get?_push_of_some _ q) (Nat.le_refl _) ?_,rfl,q _ (I.hok.fresh (Nat.le_refl _))⟩
  exact ⟨Nat.le_trans (Qdd xs lo hi) hz,_,0,(r.drop (HT.sIx xs.length 0 lo)).take (HT.sIx xs.length xs.length hi - HT.sIx xs.length 0 lo),Heap.get?_push_size _ rfl⟩
theorem QaS:CallR X (.builtin "len") (fun xs H Q=>∃ p ys,xs=[.ref p]/\(SqL X.K H p ys∨SqT X.K H p ys)/\Q (.int ys.length) H):=by
  intro pins s σ H xs us Q I r h
  obtain ⟨p,ys,rfl,hq,q⟩:=h
  obtain ⟨u,rfl,rx⟩:=QbK r
  cases rx
  have hn:=QfN
  rcases hq with hq | hq
  · obtain ⟨its,r',pl,hz⟩:=I.list hq
    have hlen:=r'.length
    exact Calls.call_len_list pl.isList (by simp only [List.size_toArray]<;>omega) ⟨.int ys.length,H,I.tok _,⟨s.toks+1,by rw [List.size_toArray,hlen]⟩,q⟩
  · obtain ⟨its,r',pl,hz⟩:=I.tuple hq
    have hlen:=r'.length
    exact len_tuple pl (by simp only [List.size_toArray]<;>omega) ⟨.int ys.length,H,I.tok _,⟨s.toks+1,by rw [List.size_toArray,hlen]⟩,q⟩
theorem CallR.or {f:Value} {r r':List V->Hp->VK->Prop} (h:CallR X f r) (h':CallR X f r'):CallR X f (fun xs H Q=>r xs H Q∨r' xs H Q):=by
  intro pins s σ H xs us Q I rs q
  rcases q with q | q
  · exact h pins s σ H xs us Q I rs q
  · exact h' pins s σ H xs us Q I rs q
theorem QeJ:CallR X (.type "list") (fun xs H Q=>∃ p ys,xs=[.ref p]/\(SqL X.K H p ys∨SqT X.K H p ys)/\∀ l,H l=none->Q (.ref l) (upd H l (.lst ys))):=by
  intro pins s σ H xs us Q I r h
  obtain ⟨p,ys,rfl,hq,q⟩:=h
  obtain ⟨u,rfl,rx⟩:=QbK r
  cases rx
  have fin:∀ (its:List Value),Vals ys its->ys.length<=sizeLine->∀ (h':Heap) (c':Nat),(∀ b o',s.heap.get? b=some o'->h'.get? b=some o') ->
      h'.get? s.heap.objs.size=some { cls:=.type "list",dict:=none,data:=.seq its.toArray c',slots:=#[] }->EP X pins σ Q (.ref s.heap.objs.size) { s with heap:=h' }:=fun its r' hz h' c' kp e=>
    ⟨.ref s.heap.objs.size,_,I.laid (t':=s.toks) kp (Nat.le_refl _) (show ObjOk X.prog X.w _ h' _ (.lst ys) from ⟨hz,its,c',r',e⟩),rfl,q _ (I.hok.fresh (Nat.le_refl _))⟩
  rcases hq with hq | hq
  · obtain ⟨its,r',pl,hz⟩:=I.list hq
    have hlen:=r'.length
    obtain ⟨o,ho,hc,n,hd⟩:=pl.isList
    exact call_list_seq p (.inl rfl) ho hc hd (fun h' c' kp e=>fin its r' hz h' c' kp e) (by simp only [List.size_toArray]<;>omega)
  · obtain ⟨its,r',pl,hz⟩:=I.tuple hq
    have hlen:=r'.length
    obtain ⟨o,ho,hc,n,hd⟩:=pl
    exact call_list_seq p (.inr rfl) ho hc hd (fun h' c' kp e=>fin its r' hz h' c' kp e) (by simp only [List.size_toArray]<;>omega)
theorem Qb8:CallR X (.type "tuple") (fun xs H Q=>∃ p ys,xs=[.ref p]/\((SqL X.K H p ys/\∀ l,H l=none->Q (.ref l) (upd H l (.tup ys)))∨(SqT X.K H p ys/\Q (.ref p) H))):=by
  intro pins s σ H xs us Q I r h
  obtain ⟨p,ys,rfl,h⟩:=h
  obtain ⟨u,rfl,rx⟩:=QbK r
  cases rx
  rcases h with ⟨hq,q⟩ | ⟨hq,q⟩
  · obtain ⟨its,r',pl,hz⟩:=I.list hq
    have hlen:=r'.length
    refine call_tuple_list pl.isList (fun h' kp=>?_) (by simp only [List.size_toArray]<;>omega)
    have I1:Inv X pins σ H { s with heap:=h' }:=I.kept (t':=s.toks) kp
    have I2:Inv X pins σ (upd H h'.objs.size (.tup ys)) { s with heap:=h'.push { cls:=.type "tuple",data:=.seq its.toArray } }:=
      I1.laid (t':=s.toks) (fun b o e=>Heap.get?_push_of_some _ e) (Nat.le_refl _) (show ObjOk X.prog X.w _ _ _ (.tup ys) from ⟨hz,its,r',IsTup.new _ _⟩)
    exact ⟨.ref h'.objs.size,_,I2,rfl,q _ (I1.hok.fresh (Nat.le_refl _))⟩
  · obtain ⟨its,r',pl,hz⟩:=I.tuple hq
    exact call_tuple_same pl ⟨.ref p,H,I,rfl,q⟩
def tyV (K:PySem.W.Frag) (T:String) (x:V) (H:Hp):Prop:=match x with
  | .str _=>T = "str"
  | .int _=>T = "int"
  | .ref p=>(T = "list" /\ ∃ xs,SqL K H p xs)∨(T = "tuple" /\ ∃ o,K.lookup p=some o/\o.cls=.type "tuple" /\ o.dict=none) ∨
      (T = "dict" /\ ((∃ kvs,H p=some (.dK kvs))∨∃ kvs,H p=some (.dT kvs)))∨(T = "set" /\ ∃ S n,H p=some (.set S n))
  | _=>False
theorem tyV_is {pins:List (Addr×Obj)} {σ:St} {H:Hp} {s:Shared} {T:String} {x:V} {v:Value} (I:Inv X pins σ H s) (r:RelV x v) (ty:tyV X.K T x H) :
    s.TypeIs v T/\∀ a,v=.ref a->∃ ob,s.heap.get? a=some ob/\ob.dict=none:=by
  cases x with
  | str z=>
    obtain ⟨t,rfl⟩:=r
    cases (show T = "str" from ty)
    exact ⟨typeIs_str s z t,fun _ e=>nomatch e⟩
  | int i=>
    obtain ⟨t,rfl⟩:=r
    cases (show T = "int" from ty)
    exact ⟨typeIs_int s i t,fun _ e=>nomatch e⟩
  | ref p=>
    cases r
    rcases ty with ⟨rfl,xs,hq⟩ | ⟨rfl,o,hk,hc,hd⟩ | ⟨rfl,hk⟩ | ⟨rfl,S,n,hk⟩
    · obtain ⟨its,_,pl,_⟩:=I.list hq
      refine ⟨pl.isList.typeIs,fun a e=>?_⟩
      cases e
      obtain ⟨o,n,e,c,hd,_⟩:=pl
      exact ⟨o,e,hd⟩
    · refine ⟨⟨o,I.kIn p o hk,hc⟩,fun a e=>?_⟩
      cases e
      exact ⟨o,I.kIn _ o hk,hd⟩
    · have z:∃ o,s.heap.get? p=some o/\o.ExactDict:=by
        rcases hk with ⟨kvs,hk⟩ | ⟨kvs,hk⟩
        · obtain ⟨_,_,_,_,o,_,_,e,ex,_⟩:=I.hok p _ hk
          exact ⟨o,e,ex⟩
        · obtain ⟨_,_,_,_,o,_,_,e,ex,_⟩:=I.hok p _ hk
          exact ⟨o,e,ex⟩
      obtain ⟨o,e,ex⟩:=z
      refine ⟨⟨o,e,ex.1⟩,fun a e2=>?_⟩
      cases e2
      exact ⟨o,e,ex.2.1⟩
    · obtain ⟨o,_,_,_,e,ex,_⟩:=I.hok p _ hk
      refine ⟨⟨o,e,ex.1⟩,fun a e2=>?_⟩
      cases e2
      exact ⟨o,e,ex.2.1⟩
  | _=>exact False.elim ty
def tBM (K:PySem.W.Frag) (T:String) (r:V->List V->Hp->VK->Prop) (to:TE) (t:TA):TE:=fun σ H Q=>to σ H fun x H1=>tyV K T x H1/\t σ H1 fun xs H2=>r x xs H2 Q
variable {o e:Expr} {es:List Expr} {to:TE} {t:TA} {name:Str} {apos cpos:Pos} {T id:String} {r:V->List V->Hp->VK->Prop}
theorem QlA (pa:PlainAttrs T) (slot:Slot T name id) (hty:typeOf (.builtin id)=pure (.type "method_descriptor")) (hm:MtR X id r) (ho:PE X o to) (ha:PA X (e::es) t)
    (hbase:attributeBase o name X.env (eval o X.env)=eval o X.env:=by rfl)
    (hfew:((backTo cpos (starEach (e::es) X.env)).all (fun x => !x.1)&&(backToKw cpos (keywordEach [] X.env)).all (fun x=>x.1.isSome)
      && decide ((e::es).length+([]:List Keyword).length+(if ([]:List Keyword).isEmpty then 0 else 1)<30))=true:=by rfl)
    (hline:(apos.endLine == cpos.line)=true:=by rfl) (hs:starEach (e::es) X.env=(false,eval e X.env)::starEach es X.env:=by rfl) (hplain:(backTo cpos (starEach es X.env)).any (·.1)=false:=by rfl) :
    PE X (.Call (.Attribute o name apos) (e::es) [] cpos) (tBM X.K T r to t):=by
  intro pins s σ H Q I h
  refine wpAny_Call_method_late hbase hfew hline rfl (thn (ho pins s σ H _ I h) fun v s1 ⟨x,H1,I1,r1,ty,q1⟩=>?_)
  obtain ⟨h1,h2⟩:=tyV_is I1 r1 ty
  refine ⟨T,id,pa,slot,hty,h1,h2,?_⟩
  have hA:=ha cpos pins s1 σ H1 _ I1 q1
  rw [hs] at hA ⊢
  refine Calls.callWith_builtin (by show (false||(backTo cpos (starEach es X.env)).any (·.1))=false;rw [hplain]<;>rfl) (Calls.evalArgs_plain ?_)
  exact thn hA fun us s2 ⟨vs,H2,I2,r2,q2⟩=>hm pins s2 σ H2 x vs v us Q I2 r1 r2 q2
end
def MtM (X:Cx) (id:String) (r:V->List V->Hp->VK->Prop):Prop:=
  ∀ (pins:List (Addr×Obj)) (s:Shared) (σ:St) (H:Hp) (x:V) (xs:List V) (v:Value) (us:List Value) (Q:VK),Inv X pins σ H s->RelV x v->Vals xs us->r x xs H Q ->
    wpAny (model X.prog X.w) X.A (call (.builtin id) (v::us)) (EP X pins σ Q) X.xe s
theorem Vals.one:∀ {x:V} {us:List Value},Vals [x] us->∃ u,us=[u]/\RelV x u
  | _,_,.cons r .nil=>⟨_,rfl,r⟩
theorem Vals.two:∀ {x y:V} {us:List Value},Vals [x,y] us->∃ u v,us=[u,v]/\RelV x u/\RelV y v
  | _,_,_,.cons r (.cons q .nil)=>⟨_,_,rfl,r,q⟩
theorem Vals.zero:∀ {us:List Value},Vals [] us->us=[]
  | _,.nil=>rfl
theorem Vals.eraseIdx:∀ {xs:List V} {us:List Value} (i:Nat),Vals xs us->Vals (xs.eraseIdx i) (us.eraseIdx i)
  | _,_,_,.nil=>.nil
  | _,_,0,.cons _ t=>t
  | _,_,i+1,.cons r t=>.cons r (Vals.eraseIdx i t)
theorem Vals.reverse {xs:List V} {us:List Value} (h:Vals xs us):Vals xs.reverse us.reverse:=by
  induction h with
  | nil=>exact .nil
  | cons r t ih=>rw [List.reverse_cons,List.reverse_cons];exact Vals.append ih (.cons r .nil)
theorem Vals.rep {xs:List V} {us:List Value} (h:Vals xs us):∀ k:Nat,Vals (List.replicate k xs).flatten (List.replicate k us).flatten
  | 0=>.nil
  | k+1=>by
    rw [List.replicate_succ,List.replicate_succ,List.flatten_cons,List.flatten_cons]
    exact Vals.append h (Vals.rep h k)
theorem Qer {α:Type}:∀ (l:List α) (i:Nat),(l.eraseIdx i).length<=l.length
  | [],_=>Nat.le_refl _
  | _::_,0=>Nat.le_succ _
  | _::r,i+1=>Nat.succ_le_succ (Qer r i)
theorem Qc9 (its:List Value):∀ (k:Nat) (acc:List Value),
    List.foldl (fun x1 x2=>x1++x2) acc.toArray (List.replicate k its.toArray)=(acc++(List.replicate k its).flatten).toArray
  | 0,acc=>by simp
  | k+1,acc=>by
    have e:acc.toArray++its.toArray=(acc++its).toArray:=by simp
    have e2:(acc++its)++(List.replicate k its).flatten=acc++(List.replicate (k+1) its).flatten:=by
      rw [List.replicate_succ,List.flatten_cons,List.append_assoc]
    rw [<- e2,<- Qc9 its k (acc++its),<- e,List.replicate_succ,List.foldl_cons]
section
variable {X:Cx} {pins:List (Addr×Obj)} {σ:St} {H:Hp} {s:Shared} {l b:Addr} {xs ys zs:List V}
theorem Inv.lset {its its':List Value} {n:Nat} {f:Array Value->Array Value} {t':Nat} (I:Inv X pins σ H s) (hH:H l=some (.lst xs))
    (e:s.heap.get? l=some { cls:=.type "list",data:=.seq its.toArray n }) (hf:f its.toArray=its'.toArray) (hv:Vals ys its') (hz:ys.length<=sizeLine) :
    Inv X pins σ (upd H l (.lst ys)) { s with heap:=s.heap.update l (Obj.mapSeq f),toks:=t' }:=by
  have q:=PySem.IsL.update e f
  rw [hf] at q
  refine I.write (x:=l) (e:=l) (by rw [hH];exact trivial) (.inl rfl) (fun b' u hb hu=>(Heap.get?_update_other s.heap (Obj.mapSeq f) (Ne.symm hb)).trans hu) ⟨_,q⟩ ?_
  exact ⟨hz,its',_,hv,q⟩
theorem Inv.lnew {its:List Value} {t':Nat} (I:Inv X pins σ H s) (hv:Vals ys its) (hz:ys.length<=sizeLine) :
    Inv X pins σ (upd H s.heap.objs.size (.lst ys)) { s with heap:=s.heap.push { cls:=.type "list",data:=.seq its.toArray },toks:=t' }:=
  I.laid (fun _ _ q=>Heap.get?_push_of_some _ q) (Nat.le_refl _) ⟨hz,its,0,hv,Heap.get?_push_size _ rfl⟩
theorem Inv.fresh (I:Inv X pins σ H s):H s.heap.objs.size=none:=I.hok.fresh (Nat.le_refl _)
theorem Inv.lstM (I:Inv X pins σ H s) (hH:H l=some (.lst xs)):xs.length<=sizeLine/\∃ (its:List Value) (n:Nat),Vals xs its/\xs.length=its.length/\s.heap.get? l=some { cls:=.type "list",data:=.seq its.toArray n }:=by
  obtain ⟨z,its,n,r,e⟩:=I.hok l _ hH
  exact ⟨z,its,n,r,r.length,e⟩
theorem QfI {n:Nat} (h:n<=sizeLine):Builtin.List.listTooLong n=false:=by
  unfold Builtin.List.listTooLong
  exact decide_eq_false (by omega)
end
section
variable {X:Cx}
def Qlo:V->List V->Hp->VK->Prop:=fun x vs H Q=>∃ l xs y,x=.ref l/\vs=[y]/\H l=some (.lst xs)/\xs.length<sizeLine/\Q .non (upd H l (.lst (xs++[y])))
theorem QhT:MtM X "list.append" Qlo:=by
  intro pins s σ H x vs v us Q I rx rv h
  obtain ⟨l,xs,y,rfl,rfl,hH,hz,q⟩:=h
  cases rx
  obtain ⟨u,rfl,ru⟩:=rv.one
  obtain ⟨z,its,n,r,hl,e⟩:=I.lstM hH
  refine call_meets F.slot_list_append ⟨_,e,rfl⟩ F.entry_list_append (F.args_list_append_2 _ _) (PySem.list_append l its.toArray n u (by rw [List.size_toArray];omega)) ⟨e,?_⟩
  refine ⟨.non,_,I.lset (its':=its++[u]) hH e (by simp) (r.append (.cons ru .nil)) ?_,rfl,q⟩
  rw [List.length_append,List.length_singleton]
  omega
def Qha:V->List V->Hp->VK->Prop:=fun x vs H Q=>∃ l b xs zs,x=.ref l/\vs=[.ref b]/\H l=some (.lst xs)/\H b=some (.lst zs)/\xs.length+zs.length<=sizeLine/\Q .non (upd H l (.lst (xs++zs)))
theorem QhS:MtM X "list.extend" Qha:=by
  intro pins s σ H x vs v us Q I rx rv h
  obtain ⟨l,b,xs,zs,rfl,rfl,hH,hB,hz,q⟩:=h
  cases rx
  obtain ⟨u,rfl,ru⟩:=rv.one
  cases ru
  obtain ⟨z,its,n,r,hl,e⟩:=I.lstM hH
  obtain ⟨z2,its2,n2,r2,hl2,e2⟩:=I.lstM hB
  have hsz:its.toArray.size+its2.toArray.size<=sizeLine:=by rw [List.size_toArray,List.size_toArray];omega
  have hlong:¬ (!its.toArray.isEmpty&&Builtin.List.listTooLong (its.toArray.size+its2.toArray.size))=true:=by
    rw [QfI hsz,Bool.and_false]
    exact Bool.false_ne_true
  refine call_meets F.slot_list_extend ⟨_,e,rfl⟩ F.entry_list_extend (F.args_list_extend_2 _ _)
    (AutoSeq1.list_extend_list_list_0 l its.toArray n b its2.toArray n2 hlong (by rw [List.size_toArray];omega) (by omega)) ⟨e,e2,?_⟩
  refine ⟨.non,_,I.lset (its':=its++its2) hH e (by simp) (r.append r2) ?_,rfl,q⟩
  rw [List.length_append]
  omega
def QkD:V->List V->Hp->VK->Prop:=fun x vs H Q=>∃ l xs i k y,x=.ref l/\vs=[.int i]/\H l=some (.lst xs) /\ -(2^63)<=i/\i<2^63/\seqIndex? i xs.length=some k/\xs[k]? = some y/\Q y (upd H l (.lst (xs.eraseIdx k)))
theorem QjW:MtM X "list.pop" QkD:=by
  intro pins s σ H x vs v us Q I rx rv h
  obtain ⟨l,xs,i,k,y,rfl,rfl,hH,h1,h2,hk,hy,q⟩:=h
  cases rx
  obtain ⟨u,rfl,ru⟩:=rv.one
  obtain ⟨t,rfl⟩:=ru
  obtain ⟨z,its,n,r,hl,e⟩:=I.lstM hH
  obtain ⟨w,hw,rw'⟩:=r.get hy
  refine call_meets F.slot_list_pop ⟨_,e,rfl⟩ F.entry_list_pop (F.args_list_pop_2 _ _)
    (MeetsSeq.list_pop_at l its.toArray n i t k w (fitsIndex_both h1 h2) (by rw [List.size_toArray,<- hl];exact hk) (by rw [<- Array.getElem?_toList];exact hw) (by rw [List.size_toArray];omega)) ⟨e,?_⟩
  refine ⟨y,_,I.lset (its':=its.eraseIdx k) hH e ?_ (r.eraseIdx k) ?_,rw',q⟩
  · show its.toArray.eraseIdxIfInBounds k=(its.eraseIdx k).toArray
    rw [List.eraseIdxIfInBounds_toArray]
  · have:=Qer xs k
    omega
def rCat:R2:=fun x y H Q=>∃ l b xs zs,x=.ref l/\y=.ref b/\H l=some (.lst xs)/\H b=some (.lst zs)/\xs.length+zs.length<=sizeLine/\∀ p,H p=none->Q (.ref p) (upd H p (.lst (xs++zs)))
theorem op_cat:OpR X (binaryOp .Add) rCat:=by
  intro pins s σ H x y v u Q I rx ry h
  obtain ⟨l,b,xs,zs,rfl,rfl,hH,hB,hz,q⟩:=h
  cases rx
  cases ry
  obtain ⟨z,its,n,r,hl,e⟩:=I.lstM hH
  obtain ⟨z2,its2,n2,r2,hl2,e2⟩:=I.lstM hB
  refine PySem.P.add_list e e2 ?_ (by rw [List.size_toArray,List.size_toArray];omega)
  have ea:its.toArray++its2.toArray=(its++its2).toArray:=by simp
  rw [ea]
  exact ⟨.ref _,_,I.lnew (t':=s.toks) (r.append r2) (by rw [List.length_append];omega),rfl,q _ I.fresh⟩
def rRep:R2:=fun x y H Q=>∃ l k xs,x=.ref l/\y=.int k/\H l=some (.lst xs) /\ -(2^63)<=k/\k<2^63/\xs.length*k.toNat<=sizeLine /\
  ∀ p,H p=none->Q (.ref p) (upd H p (.lst (List.replicate k.toNat xs).flatten))
theorem QdV {α:Type} (xs:List α) (k:Nat):(List.replicate k xs).flatten.length=k*xs.length:=by
  induction k with
  | zero=>simp
  | succ k ih=>rw [List.replicate_succ,List.flatten_cons,List.length_append,ih,Nat.succ_mul,Nat.add_comm]
theorem op_rep:OpR X (binaryOp .Mult) rRep:=by
  intro pins s σ H x y v u Q I rx ry h
  obtain ⟨l,k,xs,rfl,rfl,hH,h1,h2,hz,q⟩:=h
  cases rx
  obtain ⟨t,rfl⟩:=ry
  obtain ⟨z,its,n,r,hl,e⟩:=I.lstM hH
  have hlen:its.toArray.size*k.toNat<=sizeLine:=by rw [List.size_toArray,<- hl];exact hz
  have hcap:¬ its.toArray.size*k.toNat > (2^63 - 1) / 8:=by
    have:(sizeLine:Nat)<=(2^63 - 1) / 8:=by decide
    omega
  have hfit:¬ (!Builtin.List.listFitsIndex k)=true:=by
    rw [fitsIndex_both h1 h2]
    exact Bool.false_ne_true
  have hlong:¬ Builtin.List.listTooLong (its.toArray.size*k.toNat)=true:=by
    rw [QfI hlen]
    exact Bool.false_ne_true
  have hnew:List.foldl (fun x1 x2=>x1++x2) #[] (List.replicate (if its.toArray.isEmpty=true then 0 else k.toNat) its.toArray)=(List.replicate k.toNat its).flatten.toArray:=by
    have f0:∀ m:Nat,List.foldl (fun x1 x2=>x1++x2) #[] (List.replicate m its.toArray)=(List.replicate m its).flatten.toArray:=fun m=>by
      have:=Qc9 its m []
      rw [List.nil_append] at this
      exact this
    rw [f0]
    cases its with
    | nil=>simp
    | cons a r'=>rw [if_neg (by simp)]
  refine wpAny_binaryOp_repeat_ref (T := "list") (U := "int") (by decide) ⟨_,e,rfl⟩ (fun s'=>typeIs_int s' k t) noFill_list_mul F.fills_int_mul F.slot_int_rmul repeat_list F.slot_int_index.lookup
    (call_meets F.slot_int_rmul (typeIs_int s k t) F.entry_int_rmul (F.args_int_rmul_2 _ _) (int___rmul___int_list k t l its.toArray n)
      ⟨e,rfl,⟨_,e,rfl⟩,call_meets F.slot_list_mul ⟨_,e,rfl⟩ F.entry_list_mul (F.args_list_mul_2 _ _) (AutoListH.list___mul___list_int_3 l its.toArray n k t hfit hcap hlong) ⟨e,?_⟩⟩)
  rw [hnew]
  exact ⟨.ref _,_,I.lnew (t':=s.toks) (r.rep k.toNat) (by rw [QdV,Nat.mul_comm];exact hz),rfl,q _ I.fresh⟩
end
section
variable {prog:Program} {w:World} {A:Around} {E:Value->Shared->Prop} {s:Shared}
end
section
variable {X:Cx}
end
end L2
namespace Att
open PySem PySem.W PySem.Calls PyProof.Rows
theorem Qc7 {P:Params} {h:Heap}:∀ (ns:List Int) (vs:List Value),WellAll P h vs (ns.map WData.int)->IntsAre vs ns:=by
  intro ns
  induction ns with
  | nil=>
    intro vs w
    rw [List.map_nil] at w
    cases w
    exact .nil
  | cons n ns ih=>
    intro vs w
    rw [List.map_cons] at w
    cases w with
    | cons a b=>
      cases a
      exact .cons _ _ (ih _ b)
theorem Qg0 {l:OpenLaw} {n:Nat} (hn:l.most=some n) {P:Params} {h:Heap} {args:List WData} {vals:List Value}
    (hpre:l.row.toRowW.claim.pre args=true) (hwl:WellAll P h vals args) :
    ∃ a vs ns,vals=[Value.ref a]/\args=[WData.list (ns.map WData.int)]/\h.get? a=some { cls:=.type "list",data:=.seq vs.toArray }/\IntsAre vs ns/\ns.length<=n:=by
  have hsh:WShape.hasAll [] args [.list .int]=true:=(pre_splitW hpre).1
  have hc:l.pre.holds [] { args:=args }=true:=(pre_splitW hpre).2
  obtain ⟨d,r,rfl,h1,h2⟩:=hasAllW_cons hsh
  obtain rfl:=hasAllW_nil h2
  obtain ⟨xs,rfl,h3⟩:=hasW_list h1
  obtain ⟨ns,rfl⟩:=items_int h3
  have hlen:ns.length<=n:=by
    unfold OpenLaw.pre at hc
    have h4:(WTm.not (.lt (.lit (.int (n:Int))) (.len (.arg 0)))).holds [] { args:=[.list (ns.map .int)] }=true:=by
      have h4:=(holds_andW hc).1
      rw [hn] at h4
      exact h4
    have h5:=condW_of h4 (w_not (w_lt w_lit (w_len_list (w_arg rfl))))
    rw [List.length_map] at h5
    refine Nat.le_of_not_lt fun q=>?_
    have q':(n:Int)<((ns.length:Nat):Int):=by omega
    first
      | (rw [decide_eq_true q'] at h5;exact absurd h5 (by decide))
      | (simp at h5;omega)
  cases hwl with
  | cons w1 w2=>
    cases w2
    cases w1 with
    | list ho hall=>exact ⟨_,_,ns,rfl,rfl,ho,Qc7 ns _ hall,hlen⟩
theorem Qhk (l:OpenLaw) (args:List WData):l.row.toRowW.claim.post args (.bool true) args=true:=
  postW_of (r:=l.row.toRowW) (X:=(true == true))
    (show WShape.has [] (.bool true) .bool=true by first | rfl | decide | simp [WShape.has,WShape.arms,WShape.armsAll])
    (show (WTm.eq .res (.lit (.bool true))).value [] { args:=args,res:=some (.bool true),after:=args }=some (.bool (true == true)) from w_eq_bool (w_res rfl) w_lit) rfl
theorem attach_call {l:OpenLaw} {n:Nat} {q:Program} {loose:List Str} {XP:(Str->Option Value)->Heap->Prop} {YP:World->Heap->Prop} {d:DefRec}
    (hn:l.most=some n) (hdf:d.params.defaults=[])
    (call:∀ (w:World) (s₀ s₁:Shared) (mg mb:Str->Option Value) (fa:Addr) (o:Obj) (pm cd doc:Value) (a:Addr) (vs:List Value) (ns:List Int),
      Ground q loose [] XP w s₀ mg mb s₁.heap->YP w s₁.heap ->
      s₁.heap.get? fa=some o->o.data=.func (docDef d.name d.params d.body d.scope pm cd doc)->s₁.heap.CodeRec cd d.name->mg d.name=some (.ref fa) ->
      s₁.heap.get? a=some { cls:=.type "list",data:=.seq vs.toArray }->IntsAre vs ns->ns.length<=n->s₁.gens=#[] ->
      codeAny (model l.prog w) callerA (.call (.ref fa) ⟨[.ref a],[]⟩) (fun r s'=>r=.ok (.ret (.bool true))/\OldK s₁.heap s'.heap/\s'.os=s₁.os/\AllBare s'.gens) s₁) :
    WalkO q loose XP YP l.row.toRowW d [] (fun f vs=>PySem.call f vs):=by
  intro w s₀ s₁ mg mb G Y fa o pm cd doc dV kV ho hd hcd hD hmg hg args vals as hpre hlay hrd hwl hlo
  obtain rfl:dV=.none:=Dflts.none hD hdf
  obtain rfl:kV=.none:=Dflts.noKw hD
  obtain ⟨a,vs,ns,rfl,rfl,hobj,hints,hlen⟩:=Qg0 hn hpre hwl
  refine enter_call (codeAny_mono (call w s₀ s₁ mg mb fa o pm cd doc a vs ns G Y ho (fd_plain hd) hcd hmg hobj hints hlen hg) fun r s' hq=>?_)
  obtain ⟨rfl,h2,h3,h4⟩:=hq
  exact ⟨.inl ⟨.bool true,.bool true,[],rfl,fun _=>rfl,.bool true,Qhk l _,fun _=>⟨List.Pairwise.nil,fun _ hm=>(nomatch hm)⟩⟩,h2,h3,h4⟩
section
variable {prog:Program} {w:World} {A:Around} {E:Value->Shared->Prop} {s:Shared} {K:Frag}
end
end Att
namespace L2
open PySem PySem.Spec PyProof.Rows
theorem Qd9:∀ {vs:List Value} {ns:List Int},IntsAre vs ns->Vals (ns.map V.int) vs
  | _,_,.nil=>.nil
  | _,_,.cons n t h=>.cons ⟨t,rfl⟩ (Qd9 h)
def Only (H:Hp):Prop:=∀ b,H b=none∨∃ o xs,H b=some (.frz o (.lst xs))
theorem Qj3 {P:Program} {w:World} {K:PySem.W.Frag} {mg mb:Str->Option Value} {CX:CXT} {k:Nat} {fa a:Addr} {fd:FuncData} {x:Str} {sp:Sp} {s₁:Shared} {vs:List Value} {ns:List Int}
    (KX:K.In s₁.heap) (hns:s₁.heap.Ns mainGlobals mg) (hb:s₁.heap.Ns builtinsNs mb) (hbb:∀ x:Str,x ≠ "__name__" -> mb x=bootBuiltins x) (hlim:s₁.heap.NoLimit) (hg:s₁.gens=#[])
    (ha:s₁.heap.get? a=some { cls:=.type "list",data:=.seq vs.toArray }) (hi:IntsAre vs ns) (hl:ns.length<=sizeLine) (hr:Room k callerA)
    (F:∀ base:Heap,K.In base->base.Ns mainGlobals mg->FnOk P w K mg base CX k fa fd [x] sp) (hbind:∀ (s:Shared) (u:Value),BindsTo s fd ⟨[u],[]⟩ [(x,u)])
    (hsp:∀ H:Hp,Only H->SqL K H a (ns.map V.int)->sp [.ref a] H (fun v _=>v=.bl true) fun _ _ _=>False)
    (hCX:∀ H e s',CX [] H s₁ (fun _ _ _=>False) e s'->False) :
    codeAny (model P w) callerA (.call (.ref fa) ⟨[.ref a],[]⟩) (fun r s'=>r=.ok (.ret (.bool true))/\OldK s₁.heap s'.heap/\s'.os=s₁.os/\AllBare s'.gens) s₁:=by
  have rv:=Qd9 hi
  have lenV:=hi.length
  have core:∀ H:Hp,Only H->SqL K H a (ns.map V.int)->HOk P w H s₁.heap->(∀ b,H b≠none->b=a)->(H a≠none->K.lookup a=none) ->
      codeAny (model P w) callerA (.call (.ref fa) ⟨[.ref a],[]⟩) (fun r s'=>r=.ok (.ret (.bool true))/\OldK s₁.heap s'.heap/\s'.os=s₁.os/\AllBare s'.gens) s₁:=by
    intro H hO hS hok hA hK
    have base_of:∀ {b:Addr} {o:Obj},s₁.heap.get? b=some o->H b=none->(hidT s₁.heap H).get? b=some o:=fun e n=>Qj6 e n
    have noA:∀ {b:Addr} {o:Obj} {es:Array DictEntry} {ep:Nat},s₁.heap.get? b=some o->o.data=.dict es ep->H b=none:=fun {b o es ep} e d=>by
      cases q:H b with
      | none=>rfl
      | some u=>
        have e':b=a:=hA b (by rw [q];simp)
        subst e'
        rw [ha] at e;cases e
        have d':Data.seq vs.toArray _=Data.dict es ep:=d
        cases d'
    have nsK:∀ {b:Addr} {m:Str->Option Value},s₁.heap.Ns b m->(hidT s₁.heap H).Ns b m:=fun {b m} ⟨o,es,ep,e,d,r⟩=>⟨o,es,ep,base_of e (noA e d),d,r⟩
    have hKb:K.In (hidT s₁.heap H):=fun b o e=>base_of (KX b o e) (by
      cases q:H b with
      | none=>rfl
      | some u=>
        have e':b=a:=hA b (by rw [q];simp)
        subst e'
        rw [hK (by rw [q];simp)] at e;cases e)
    have hM:Mod K mg (hidT s₁.heap H):=⟨hKb,nsK hns,⟨mb,nsK hb,hbb⟩,let ⟨mc,h1,h2⟩:=hlim;⟨mc,nsK h1,h2⟩⟩
    have e0:Env0 P w K mg (hidT s₁.heap H) callerA [] s₁ H:=⟨rfl,hM,fun b o e=>Ql9 e,Nat.le_of_eq (Qh9 _ _),trivial,fun b hb=>absurd (show b∈([]:List Addr) from hb) (by simp),hok,.of_eq hg⟩
    refine codeAny_mono ((F _ hKb (nsK hns)).run callerA [] s₁ H ⟨[.ref a],[]⟩ [.ref a] [.ref a] _ _ hr e0 (hbind s₁ (.ref a)) (.cons rfl .nil) (hsp H hO hS)) fun r s' h=>?_
    cases r with
    | error e=>exact (hCX H e s' h).elim
    | ok fl=>
      cases fl with
      | next=>exact False.elim h
      | brk=>exact False.elim h
      | cont=>exact False.elim h
      | ret u=>
        obtain ⟨v,H',os,bare,un,hok',r',q⟩:=h
        have q':v=.bl true:=q
        subst q'
        obtain rfl:u=Value.bool true:=r'
        refine ⟨rfl,OldK.of_keep fun b o e=>?_,os,bare⟩
        cases q:H b with
        | none=>exact un.keep b o e q (by intro z;exact absurd (show b∈([]:List Addr) from z) (by simp)) (by simp)
        | some u=>
          rcases hO b with z | ⟨ob,xs,z⟩
          · rw [q] at z;cases z
          · have z2:=un.frzs b ob _ z
            obtain ⟨e1,_⟩:=hok b _ z
            obtain ⟨e2,_⟩:=hok' b _ z2
            rw [e] at e1;cases e1
            exact e2
  cases hk:K.lookup a with
  | some o=>
    have e:=KX a o hk
    rw [ha] at e
    cases e
    refine core (fun _=>none) (fun _=>.inl rfl) (.inr ⟨_,vs.toArray,_,hk,rfl,rfl,rfl,by rw [List.size_toArray,lenV];exact hl,by simpa using rv⟩) (fun b u z=>by have z':(none:Option HO)=some u:=z;cases z') (fun b z=>absurd rfl z) fun z=>absurd rfl z
  | none=>
    refine core (fun b=>if b=a then some (.frz { cls:=.type "list",data:=.seq vs.toArray } (.lst (ns.map V.int))) else none) (fun b=>?_) (.inl (.inr ⟨{ cls:=.type "list",data:=.seq vs.toArray },if_pos rfl⟩)) (fun b u z=>?_) (fun b z=>?_) fun _=>hk
    · by_cases hb:b=a
      · exact .inr ⟨_,_,if_pos hb⟩
      · exact .inl (if_neg hb)
    · by_cases hb:b=a
      · have z':=(if_pos hb).symm.trans z
        cases z'
        subst hb
        exact ⟨ha,by rw [List.length_map];exact hl,vs,_,rv,ha⟩
      · have z':=(if_neg hb).symm.trans z
        cases z'
    · by_cases hb:b=a
      · exact hb
      · exact absurd (if_neg hb) z
theorem walk_of {l:PySem.W.OpenLaw} {n k:Nat} {q:Program} {loose:List Str} {XP:(Str->Option Value)->Heap->Prop} {YP:World->Heap->Prop} {d:DefRec} {K:Params->PySem.W.Frag} {CX:World->CXT} {sp:World->Sp} {x:Str}
    (hn:l.most=some n) (hn2:n<=sizeLine) (hdf:d.params.defaults=[]) (hr:Room k callerA)
    (hY:∀ (w:World) (h:Heap),YP w h->(K w.params).In h)
    (F:∀ (w:World) (mg:Str->Option Value) (fa:Addr) (h:Heap),(K w.params).In h->h.Ns mainGlobals mg->mg d.name=some (.ref fa) ->
      ∃ fd:FuncData,(∀ (s:Shared) (u:Value),BindsTo s fd ⟨[u],[]⟩ [(x,u)]) /\
        ∀ base:Heap,(K w.params).In base->base.Ns mainGlobals mg->FnOk l.prog w (K w.params) mg base (CX w) k fa fd [x] (sp w))
    (hsp:∀ (w:World) (H:Hp) (a:Addr) (ns:List Int),ns.length<=n->Only H->SqL (K w.params) H a (ns.map V.int)->sp w [.ref a] H (fun v _=>v=.bl true) fun _ _ _=>False)
    (hCX:∀ (w:World) (H:Hp) (s:Shared) (e:Value) (s':Shared),CX w [] H s (fun _ _ _=>False) e s'->False) :
    PySem.W.WalkO q loose XP YP l.row.toRowW d [] (fun f vs=>PySem.call f vs):=by
  refine Att.attach_call hn hdf fun w s₀ s₁ mg mb fa o pm cd doc a vs ns G Y ho hd hcd hmg hobj hints hlen hg=>?_
  have KX:=hY w _ Y
  obtain ⟨fd,hb,hF⟩:=F w mg fa _ KX G.T.g hmg
  exact Qj3 KX G.T.g G.T.b G.T.builtins G.T.nolimit hg hobj hints (Nat.le_trans hlen hn2) hr hF hb (fun H hO hS=>hsp w H a ns hlen hO hS) fun H e s'=>hCX w H s₁ e s'
def Qaq (s:Stmt):Arguments:=match s with
  | .FunctionDef _ a _ _ _ _ _ _ _ _=>a
  | _=>{ posonlyargs:=[],args:=[],vararg:=none,kwonlyargs:=[],kw_defaults:=[],kwarg:=none,defaults:=[] }
def Qan (s:Stmt):List Stmt:=match s with
  | .FunctionDef _ _ b _ _ _ _ _ _ _=>b
  | _=>[]
def Qaa (s:Stmt):Scope:=match s with
  | .FunctionDef _ _ _ _ _ _ sc _ _ _=>sc
  | _=>{ kind:=.function,names:=[],isGenerator:=false,isCoroutine:=false }
abbrev CX0:CXT:=fun _ _ _ _ _ _=>False
abbrev E0:XK:=fun _ _ _=>False
theorem QlW {X:Cx}:QcE CX0 X E0:=fun _ _ _ _ _ _ _ h=>h.elim
structure Fun (K:PySem.W.Frag) (x qual:Str) (st:Stmt) (f:Addr) (fd:FuncData):Prop where
  ex:∃ (oc:Value) (od:Option Addr) (kV doc pm:Value) (an:Option Addr) (cdv ct:Value) (osl:Array (Option Value)),
    fd=PySem.W.fnOf x qual (Qaq st) (Qan st) (Qaa st) .none kV doc pm an cdv ct/\K.lookup f=some ⟨oc,od,.func fd,osl⟩/\PySem.W.codeIn K cdv qual=true
  kp:PySem.W.keepIn K (.ref f)=true
section
variable {P:Program} {w:World} {K:PySem.W.Frag} {mg:Str->Option Value} {base:Heap}
theorem Fun.ok {x qual:Str} {st:Stmt} {f:Addr} {fd:FuncData} {N ps:List Str} {k:Nat} {sp:Sp} (F:Fun K x qual st f fd) (S:FnScope N ps (Qaa st)) (len:∀ vs H Q E,sp vs H Q E->vs.length=ps.length)
    (hbody:∀ (cdv:Value) (A:Around) (outer:List Env) (s:Shared) (H:Hp) (vs:List V) (Q:VK) (E:XK),Room k (A.deeper (envOfC qual (Qaa st) s.heap.objs.size f cdv))->sp vs H Q E ->
      ∃ t,PSs (cxOf CX0 P w K mg base N qual (Qaa st) f cdv A outer s H E).nox (Qan st) t/\t { nx:=fun _ H'=>Q .non H',rt:=Q } (start N vs) H):FnOk P w K mg base CX0 (k+1) f fd ps sp:=by
  obtain ⟨oc,od,kV,doc,pm,an,cdv,ct,osl,rfl,lk,hcd⟩:=F.ex
  refine fn_of lk hcd S len fun A outer s H vs Q E hr hsp=>?_
  obtain ⟨t,h,q⟩:=hbody cdv A outer s H vs Q E hr hsp
  exact ⟨t,h.nox,q⟩
theorem Fun.binds {x qual:Str} {st:Stmt} {f:Addr} {fd:FuncData} {ps:List Str} (F:Fun K x qual st f fd)
    (h:∀ (kV doc pm:Value) (an:Option Addr) (cdv ct:Value) (us:List Value),us.length=ps.length->bindArgs (PySem.W.fnOf x qual (Qaq st) (Qan st) (Qaa st) .none kV doc pm an cdv ct) ⟨us,[]⟩=pure (ps.zip us)):Binds K fd ps []:=by
  obtain ⟨oc,od,kV,doc,pm,an,cdv,ct,osl,rfl,lk,hcd⟩:=F.ex
  exact .all (h kV doc pm an cdv ct)
theorem QaH {x qual:Str} {st:Stmt} {f:Addr} {oc:Value} {od an:Option Addr} {osl:Array (Option Value)} {kV doc pm cdv ct:Value} (l:K.lookup f=some ⟨oc,od,.func (PySem.W.fnOf x qual (Qaq st) (Qan st) (Qaa st) .none kV doc pm an cdv ct),osl⟩)
    (c:PySem.W.codeIn K cdv qual=true) (k:PySem.W.keepIn K (.ref f)=true):Fun K x qual st f (PySem.W.fnOf x qual (Qaq st) (Qan st) (Qaa st) .none kV doc pm an cdv ct):=⟨⟨oc,od,kV,doc,pm,an,cdv,ct,osl,rfl,l,c⟩,k⟩
end
section
variable {X:Cx}
theorem pv (i:Nat) {x:Str} {pos:Pos} (hN:X.N[i]? = some x:=by rfl) (hv:Vis X.env.scope x:=by first | exact Or.inl rfl | exact Or.inr (Or.inl rfl) | exact Or.inr (Or.inr rfl)) (hd:(x == ("__debug__" : Str))=false:=by decide)
    (hcd:(x == ("__classdict__" : Str))=false:=by decide):PE X (.Name x pos) (tVar i):=pe_var hN hv hd hcd
end
theorem iteF {A B:Prop} (h:B):if false=true then A else B:=by
  rw [if_neg Bool.false_ne_true]
  exact h
theorem iteT {A B:Prop} (h:A):if true=true then A else B:=by
  rw [if_pos rfl]
  exact h
theorem ite2 {c A B:Prop} [Decidable c] (h1:c->A) (h2:¬ c->B):if c then A else B:=by
  by_cases h:c
  · rw [if_pos h]
    exact h1 h
  · rw [if_neg h]
    exact h2 h
theorem Qj5 {c A B:Prop} [Decidable c] (hc:c) (h:B):if (!decide c)=true then A else B:=by
  rw [decide_eq_true hc]
  exact iteF h
def Same (H H':Hp):Prop:=∀ b o,H b=some o->H' b=some o
theorem Same.refl (H:Hp):Same H H:=fun _ _ h=>h
theorem Same.trans {H H1 H2:Hp} (a:Same H H1) (b:Same H1 H2):Same H H2:=fun c o h=>b c o (a c o h)
theorem Same.free {H H':Hp} (e:Same H H') {l:Addr} (h:H' l=Option.none):H l=Option.none:=by
  cases q:H l with
  | none=>rfl
  | some o=>
    rw [e l o q] at h
    cases h
theorem Same.seq {K:PySem.W.Frag} {H H':Hp} {a:Addr} {xs:List V} (e:Same H H') (h:SqL K H a xs):SqL K H' a xs:=by
  rcases h with (h | ⟨o,h⟩) | h
  · exact .inl (.inl (e _ _ h))
  · exact .inl (.inr ⟨o,e _ _ h⟩)
  · exact .inr h
end L2
set_option maxHeartbeats 4000000
namespace Rt
open PySem PyProof.Rows
abbrev le (c:Keyed->Keyed->Bool) (x y:Keyed):Prop:=c y x=false
section
variable {c:Keyed->Keyed->Bool}
end
def kx (xs:Array Keyed) (i:Nat):Keyed:=(xs[i]?).getD (Value.none,Value.none)
def Sg (c:Keyed->Keyed->Bool) (xs:Array Keyed) (lo hi:Nat):Prop:=∀ i j,lo<=i->i<=j->j<hi->le c (kx xs i) (kx xs j)
structure SB (κ:SortKind) (a₀:Array Keyed) (st:SortSt):Prop where
  perm:(arrOf st).Perm a₀
  kind:kindOf st=κ
  failed:failedOf st=none
theorem SB.size {κ:SortKind} {a₀:Array Keyed} {st:SortSt} (h:SB κ a₀ st):(arrOf st).size=a₀.size:=h.perm.size_eq
theorem SB.mem {κ:SortKind} {a₀:Array Keyed} {st:SortSt} (h:SB κ a₀ st) {p:Keyed} (e:p∈(arrOf st).toList):p∈a₀.toList:=(Array.perm_iff_toList_perm.mp h.perm).mem_iff.mp e
section
variable {prog:Program} {w:World} {A:Around} {E:Value->Shared->Prop} {s:Shared} {a₀:Array Keyed} {κ:SortKind} {c:Keyed->Keyed->Bool}
structure Fb (κ:SortKind) (a₀:Array Keyed) (lo:Nat) (st st':SortSt):Prop where
  sb:SB κ a₀ st'
  pend:pendingOf st'=pendingOf st
  low:∀ k,k<lo->kx (arrOf st') k=kx (arrOf st) k
theorem Fb.refl {st:SortSt} {lo:Nat} (h:SB κ a₀ st):Fb κ a₀ lo st st:=⟨h,rfl,fun _ _=>rfl⟩
end
section
variable {c:Keyed->Keyed->Bool}
abbrev Pw (c:Keyed->Keyed->Bool) (l:List Keyed):Prop:=l.Pairwise (le c)
def Out (c:Keyed->Keyed->Bool) (a b z:Array Keyed):Prop:=Pw c z.toList/\z.toList.Perm (a.toList++b.toList)
variable {a b r:Array Keyed} {i j k:Nat}
end
structure Sm (st st':SortSt):Prop where
  kind:kindOf st'=kindOf st
  arr:arrOf st'=arrOf st
  pend:pendingOf st'=pendingOf st
  failed:failedOf st'=failedOf st
theorem Sm.refl (st:SortSt):Sm st st:=⟨rfl,rfl,rfl,rfl⟩
section
variable {prog:Program} {w:World} {A:Around} {E:Value->Shared->Prop} {s:Shared} {a₀:Array Keyed} {κ:SortKind} {c:Keyed->Keyed->Bool}
end
section
variable {c:Keyed->Keyed->Bool}
variable {a b r:Array Keyed} {i j t:Nat}
end
section
variable {prog:Program} {w:World} {A:Around} {E:Value->Shared->Prop} {s:Shared} {a₀:Array Keyed} {κ:SortKind} {c:Keyed->Keyed->Bool}
end
section
variable {c:Keyed->Keyed->Bool}
end
section
variable {prog:Program} {w:World} {A:Around} {E:Value->Shared->Prop} {s:Shared} {a₀:Array Keyed} {κ:SortKind} {c:Keyed->Keyed->Bool}
end
def RunsOk:List (Nat×Nat)->Nat->Nat->Prop
  | [],s,e=>s=e
  | (s',n)::r,s,e=>s'=s/\1<=n/\RunsOk r (s+n) e
theorem RunsOk.app:∀ {l1 l2:List (Nat×Nat)} {s e:Nat},RunsOk (l1++l2) s e↔∃ m,RunsOk l1 s m/\RunsOk l2 m e
  | [],l2,s,e=>⟨fun h=>⟨s,rfl,h⟩,fun ⟨m,h1,h2⟩=>by cases (show s=m from h1);exact h2⟩
  | (s',n)::l1,l2,s,e=>by
    constructor
    · rintro ⟨h1,h2,h3⟩
      obtain ⟨m,a,b⟩:=RunsOk.app.mp h3
      exact ⟨m,⟨h1,h2,a⟩,b⟩
    · rintro ⟨m,⟨h1,h2,a⟩,b⟩
      exact ⟨h1,h2,RunsOk.app.mpr ⟨m,a,b⟩⟩
theorem RunsOk.le:∀ {l:List (Nat×Nat)} {s e:Nat},RunsOk l s e->s+l.length<=e
  | [],s,e,h=>by cases (show s=e from h);exact Nat.le_refl _
  | (s',n)::l,s,e,⟨_,h2,h3⟩=>by
    have:=RunsOk.le h3
    rw [List.length_cons]
    omega
theorem RunsOk.mem:∀ {l:List (Nat×Nat)} {s e:Nat},RunsOk l s e->∀ p∈l,s<=p.1/\p.1+p.2<=e
  | (s',n)::l,s,e,⟨h1,h2,h3⟩,p,hp=>by
    have hl:=RunsOk.le h3
    rcases List.mem_cons.mp hp with z | z
    · subst z
      show s<=s'/\s'+n<=e
      omega
    · have:=RunsOk.mem h3 p z
      omega
section
variable {prog:Program} {w:World} {A:Around} {E:Value->Shared->Prop} {s:Shared} {a₀:Array Keyed} {κ:SortKind} {c:Keyed->Keyed->Bool}
theorem Sg.same {xs ys:Array Keyed} {u v:Nat} (h:Sg c xs u v) (k:∀ n,u<=n->n<v->kx ys n=kx xs n):Sg c ys u v:=fun i j hi hij hj=>by
  rw [k i hi (by omega),k j (by omega) hj]
  exact h i j hi hij hj
end
end Rt
namespace L2
open PySem PySem.Spec PyProof.Rows
def blk (X:Cx) (M:List Str) (scope:Scope) (cl:List (Str×Addr)) (ex:List Addr) (s3:Shared) (H3:Hp) (C:Addr):Cx where
  prog:=X.prog
  w:=X.w
  K:=X.K
  mg:=X.mg
  base:=X.base
  A:=X.A
  N:=M
  s₀:=s3
  H₀:=H3
  env:=compEnvC scope cl C X.env
  outer:=X.stack
  stack:=X.stack
  ex:=ex
  fn:=fun _=>false
  calm:=X.calm
  pn:=[]
  xe:=fun _ _=>False
def clOf (env:Env):List (Str×NameKind)->List (Str×Addr)->List (Str×Addr)
  | [],acc=>acc
  | (n,k)::r,acc=>clOf env r (if k=.free then (n,(env.cells.lookup n).getD 0)::acc else acc)
theorem Qfi {env:Env}:∀ (l:List (Str×NameKind)) (acc:List (Str×Addr)),(∀ x∈l,x.2=.free->∃ c,env.cells.lookup x.1=some c) ->
    (forIn (m:=Sem) l acc fun x cs=>(if (x.2 == NameKind.free)=true then do let a <- cellOf env x.1;pure (ForInStep.yield ((x.1,a)::cs)) else pure (ForInStep.yield cs)))=pure (clOf env l acc)
  | [],acc,_=>rfl
  | (n,k)::r,acc,h=>by
    rw [List.forIn_cons]
    by_cases hk:k=.free
    · subst hk
      obtain ⟨c,hc⟩:=h (n,.free) List.mem_cons_self rfl
      have e1:cellOf env n=pure c:=by unfold cellOf;rw [hc]
      have e2:clOf env ((n,.free)::r) acc=clOf env r ((n,c)::acc):=by
        show clOf env r (if NameKind.free=.free then (n,(env.cells.lookup n).getD 0)::acc else acc)=_
        rw [if_pos rfl,hc];rfl
      rw [e2]
      show ((if (NameKind.free == NameKind.free)=true then do let a <- cellOf env n;pure (ForInStep.yield ((n,a)::acc)) else pure (ForInStep.yield acc)) >>= _)=_
      rw [if_pos (show (NameKind.free == NameKind.free)=true by decide),e1]
      exact Qfi r _ fun x hx=>h x (List.mem_cons_of_mem _ hx)
    · have hb:(k == NameKind.free)=false:=by simpa using hk
      have e2:clOf env ((n,k)::r) acc=clOf env r acc:=by
        show clOf env r (if k=.free then (n,(env.cells.lookup n).getD 0)::acc else acc)=_
        rw [if_neg hk]
      rw [e2]
      show ((if (k == NameKind.free)=true then _ else pure (ForInStep.yield acc)) >>= _)=_
      rw [hb,if_neg Bool.false_ne_true]
      exact Qfi r _ fun x hx=>h x (List.mem_cons_of_mem _ hx)
theorem Qfj {scope:Scope} {env:Env} (h:∀ x∈scope.names,x.2=.free->∃ c,env.cells.lookup x.1=some c):closureFor scope env=pure (clOf env scope.names []):=by
  have e:=Qfi (env:=env) scope.names [] h
  unfold closureFor
  show (forIn scope.names [] _ >>= _)=_
  have e':(forIn (m:=Sem) scope.names ([]:List (Str×Addr)) fun x cs=>match x with | (name,kind)=>(if (kind == NameKind.free)=true then do let a <- cellOf env name;pure (ForInStep.yield ((name,a)::cs)) else pure (ForInStep.yield cs)))=pure (clOf env scope.names []):=e
  first
    | (rw [e'];rfl)
    | (refine Eq.trans (congrArg (fun t=>t >>= _) e') ?_;rfl)
theorem Qfk {env:Env}:∀ (l:List (Str×NameKind)) (acc:List (Str×Addr)),(∀ x∈l,x.2=.free->∃ c,env.cells.lookup x.1=some c)->(∀ x c,acc.lookup x=some c->env.cells.lookup x=some c) ->
    (∀ x c,(clOf env l acc).lookup x=some c->env.cells.lookup x=some c)/\(∀ x c,acc.lookup x=some c->(clOf env l acc).lookup x=some c)/\∀ x,(x,NameKind.free)∈l->∃ c,(clOf env l acc).lookup x=some c
  | [],acc,_,ha=>⟨ha,fun _ _ h=>h,fun _ h=>nomatch h⟩
  | (n,k)::r,acc,h,ha=>by
    have hr:∀ x∈r,x.2=.free->∃ c,env.cells.lookup x.1=some c:=fun x hx=>h x (List.mem_cons_of_mem _ hx)
    by_cases hk:k=.free
    · subst hk
      obtain ⟨c,hc⟩:=h (n,.free) List.mem_cons_self rfl
      have e2:clOf env ((n,.free)::r) acc=clOf env r ((n,c)::acc):=by
        show clOf env r (if NameKind.free=.free then (n,(env.cells.lookup n).getD 0)::acc else acc)=_
        rw [if_pos rfl,hc];rfl
      rw [e2]
      have ha':∀ x c',((n,c)::acc).lookup x=some c'->env.cells.lookup x=some c':=fun x c' q=>by
        rw [List.lookup_cons] at q
        cases hx:x == n with
        | true=>
          rw [hx] at q
          have z:c=c':=Option.some.inj q
          have y:x=n:=by simpa using hx
          rw [y,<- z];exact hc
        | false=>rw [hx] at q;exact ha x c' q
      obtain ⟨i1,i2,i3⟩:=Qfk r ((n,c)::acc) hr ha'
      refine ⟨i1,fun x c' q=>?_,fun x hx=>?_⟩
      · refine i2 x c' ?_
        rw [List.lookup_cons]
        cases hx:x == n with
        | true=>
          have y:x=n:=by simpa using hx
          have:=ha x c' q
          rw [y,hc] at this
          exact this
        | false=>exact q
      · rcases List.mem_cons.mp hx with z | z
        · cases z
          exact ⟨c,i2 n c (by rw [List.lookup_cons,beq_self_eq_true])⟩
        · exact i3 x z
    · have e2:clOf env ((n,k)::r) acc=clOf env r acc:=by
        show clOf env r (if k=.free then (n,(env.cells.lookup n).getD 0)::acc else acc)=_
        rw [if_neg hk]
      rw [e2]
      obtain ⟨i1,i2,i3⟩:=Qfk r acc hr ha
      refine ⟨i1,i2,fun x hx=>?_⟩
      rcases List.mem_cons.mp hx with z | z
      · cases z;exact absurd rfl hk
      · exact i3 x z
theorem QbC {l:List (Str×NameKind)} {x:Str} {k:NameKind} (h:l.lookup x=some k):(x,k)∈l:=by
  induction l with
  | nil=>cases h
  | cons p r ih=>
    obtain ⟨n,q⟩:=p
    rw [List.lookup_cons] at h
    cases hx:x == n with
    | true=>
      rw [hx] at h
      have y:x=n:=by simpa using hx
      have z:q=k:=Option.some.inj h
      subst y z;exact List.mem_cons_self
    | false=>rw [hx] at h;exact List.mem_cons_of_mem _ (ih h)
theorem Qbf {env:Env}:∀ {names:List (Str×NameKind)} {x:Str} {k:NameKind},(names.map fun (n,k)=>if (k == NameKind.free&&env.scope.kind == .function&&env.kindOf n == some .cell) then (n,NameKind.cell) else (n,k)).lookup x=some k ->
    names.lookup x=some k∨(k=.cell/\names.lookup x=some .free)
  | [],x,k,h=>by cases h
  | (n,q)::r,x,k,h=>by
    have ih:=@Qbf env r x k
    rw [List.map_cons] at h
    have h':List.lookup x ((if (q == NameKind.free&&env.scope.kind == .function&&env.kindOf n == some .cell)=true then (n,NameKind.cell) else (n,q))::_)=some k:=h
    cases hx:x == n with
    | true=>
      by_cases hc:(q == NameKind.free&&env.scope.kind == .function&&env.kindOf n == some .cell)=true
      · rw [if_pos hc,List.lookup_cons,hx] at h'
        have z:NameKind.cell=k:=Option.some.inj h'
        have y:q=.free:=by simp at hc;exact hc.1.1
        refine .inr ⟨z.symm,?_⟩
        rw [List.lookup_cons,hx,y]
      · rw [if_neg hc,List.lookup_cons,hx] at h'
        refine .inl ?_
        rw [List.lookup_cons,hx];exact h'
    | false=>
      have h2:List.lookup x (r.map fun (n,k)=>if (k == NameKind.free&&env.scope.kind == .function&&env.kindOf n == some .cell) then (n,NameKind.cell) else (n,k))=some k:=by
        by_cases hc:(q == NameKind.free&&env.scope.kind == .function&&env.kindOf n == some .cell)=true
        · rw [if_pos hc,List.lookup_cons,hx] at h';exact h'
        · rw [if_neg hc,List.lookup_cons,hx] at h';exact h'
      rw [List.lookup_cons,hx]
      exact ih h2
theorem Qcw {env:Env}:∀ {names:List (Str×NameKind)} {x:Str},names.lookup x=some .free->(names.map fun (n,k)=>if (k == NameKind.free&&env.scope.kind == .function&&env.kindOf n == some .cell) then (n,NameKind.cell) else (n,k)).lookup x=some .cell ∨
      (names.map fun (n,k)=>if (k == NameKind.free&&env.scope.kind == .function&&env.kindOf n == some .cell) then (n,NameKind.cell) else (n,k)).lookup x=some .free
  | [],x,h=>by cases h
  | (n,q)::r,x,h=>by
    have ih:=@Qcw env r x
    rw [List.map_cons]
    show List.lookup x ((if (q == NameKind.free&&env.scope.kind == .function&&env.kindOf n == some .cell)=true then (n,NameKind.cell) else (n,q))::_)=some .cell∨List.lookup x ((if (q == NameKind.free&&env.scope.kind == .function&&env.kindOf n == some .cell)=true then (n,NameKind.cell) else (n,q))::_)=some .free
    cases hx:x == n with
    | true=>
      rw [List.lookup_cons,hx] at h
      have z:q=NameKind.free:=Option.some.inj h
      subst z
      by_cases hc:(NameKind.free == NameKind.free&&env.scope.kind == .function&&env.kindOf n == some .cell)=true
      · rw [if_pos hc,List.lookup_cons,hx];exact .inl rfl
      · rw [if_neg hc,List.lookup_cons,hx];exact .inr rfl
    | false=>
      rw [List.lookup_cons,hx] at h
      by_cases hc:(q == NameKind.free&&env.scope.kind == .function&&env.kindOf n == some .cell)=true
      · rw [if_pos hc,List.lookup_cons,hx];exact ih h
      · rw [if_neg hc,List.lookup_cons,hx];exact ih h
def QeH (N:List Str) (sc:Scope) (M:List Str) (scope:Scope) (cap:List (Option Nat)):Bool:=
  cap.length == M.length&&(M.zip cap).all (fun (x,o)=>match o with
    | none=>scope.names.lookup x == some .local
    | some j=>N[j]? == some x&&(scope.names.lookup x == some .free&&(sc.names.lookup x == some .cell||sc.names.lookup x == some .free))) &&
  (scope.kind == .function&&scope.names.all fun y=>y.2 != .cell&&((y.2 != .free||(sc.names.lookup y.1 == some .cell||sc.names.lookup y.1 == some .free))&&(y.2 != .local||scope.names.lookup y.1 == some .local)))
def capS (cap:List (Option Nat)) (σ:St):St:=cap.map fun o=>match o with
  | none=>none
  | some j=>(σ[j]?).getD none
structure CapOk (N:List Str) (sc:Scope) (M:List Str) (scope:Scope) (cap:List (Option Nat)):Prop where
  len:cap.length=M.length
  own:∀ (i j:Nat) (x:Str),M[i]? = some x->cap[i]? = some (some j)->N[j]? = some x/\scope.names.lookup x=some .free/\(sc.names.lookup x=some .cell∨sc.names.lookup x=some .free)
  kind:scope.kind=.function
  cell:∀ y∈scope.names,y.2≠.cell
  free:∀ y∈scope.names,y.2=.free->sc.names.lookup y.1=some .cell∨sc.names.lookup y.1=some .free
  loc:∀ y∈scope.names,y.2=.local->scope.names.lookup y.1=some .local
theorem CapOk.of {N:List Str} {sc:Scope} {M:List Str} {scope:Scope} {cap:List (Option Nat)} (h:QeH N sc M scope cap=true):CapOk N sc M scope cap:=by
  unfold QeH at h
  simp only [Bool.and_eq_true,List.all_eq_true,beq_iff_eq] at h
  obtain ⟨⟨h1,h2⟩,h3,h4⟩:=h
  refine ⟨h1,fun i j x e1 e2=>?_,h3,fun y hy z=>?_,fun y hy z=>?_,fun y hy z=>?_⟩
  · have hm:(x,some j)∈M.zip cap:=by
      have:(M.zip cap)[i]? = some (x,some j):=by rw [List.getElem?_zip_eq_some];exact ⟨e1,e2⟩
      exact List.mem_of_getElem? this
    have:=h2 _ hm
    simp only [Bool.and_eq_true,beq_iff_eq,Bool.or_eq_true] at this
    exact this
  · have:=(h4 y hy).1
    simp [z] at this
  · have:=(h4 y hy).2.1
    simpa [z] using this
  · have:=(h4 y hy).2.2
    simpa [z] using this
section
variable {X:Cx} {pins:List (Addr×Obj)} {σ:St} {H H3:Hp} {s3:Shared} {M:List Str} {scope:Scope} {cap:List (Option Nat)} {fp:List Addr} {h4:Heap} {t4:Nat}
theorem Cx.Ok.cells (ok:X.Ok) {N:List Str} (c:CapOk N X.env.scope M scope cap):∀ y∈scope.names,y.2=.free->∃ d,X.env.cells.lookup y.1=some d:=fun y hy z=>ok.has y.1 (c.free y hy z)
theorem Qdh (I:Inv X pins σ H3 s3) (c:CapOk X.N X.env.scope M scope cap) (hf:∀ b∈fp,FpOk X pins H3 b) (hb:∀ b∈fp,b<s3.heap.objs.size)
    (hn:h4.Ns s3.heap.objs.size fun _=>none) (hk:∀ b o,s3.heap.get? b=some o->h4.get? b=some o) :
    Inv (blk X M scope (clOf X.env scope.names []) fp s3 H3 s3.heap.objs.size) [] (capS cap σ) H3 { s3 with heap:=h4,toks:=t4 }:=by
  obtain ⟨c1,c2,c3⟩:=Qfk scope.names [] (I.ok.cells c) (fun x d q=>by cases q)
  refine ⟨⟨I.ok.mod,c.kind,I.ok.glob,I.ok.blt,Nat.le_refl _,fun x y d e1 e2=>I.ok.inj x y d (c1 x d e1) (c1 y d e2),fun x hx=>?_,(fun x d z=>nomatch z),I.ok.hd,I.ok.frames,.inl rfl,fun b hb'=>?_,I.bs,
    Nat.le_trans I.ok.bsz I.sz,fun b o e z=>?_,fun b hb' z=>?_,I.stack,I.stkFree⟩,rfl,I.bare,Un.kept hk,⟨_,hn,fun i x v e1 e2 e3=>?_⟩,fun x d e=>?_,I.hok.fresh (Nat.le_refl _),fun x d e=>I.freeC x d (c1 x d e),fun p hp=>(nomatch hp),I.hok.kept hk,?_⟩
  · have hx':(relabel scope X.env).names.lookup x=some .cell∨(relabel scope X.env).names.lookup x=some .free:=hx
    rcases hx' with q | q
    · rcases Qbf q with z | ⟨_,z⟩
      · exact absurd rfl (c.cell _ (QbC z))
      · exact c3 x (QbC z)
    · rcases Qbf q with z | ⟨z,_⟩
      · exact c3 x (QbC z)
      · cases z
  · obtain ⟨f0,f1,f2,f3,f4,f5⟩:=hf b hb'
    exact ⟨Nat.ne_of_lt (hb b hb'),fun x d e=>f4 x d (c1 x d e)⟩
  · obtain ⟨f0,f1,f2,f3,f4,f5⟩:=hf b z
    rcases f3 with q | q
    · exact I.ok.noex b o e q
    · exact absurd (Nat.lt_of_lt_of_le (Heap.lt_size e) (Nat.le_trans I.ok.bsz q)) (Nat.lt_irrefl _)
  · obtain ⟨f0,f1,f2,f3,f4,f5⟩:=hf b hb'
    rcases List.mem_cons.mp (I.stkSub b z) with q | q
    · exact f1 q
    · exact f2 q
  · have e2':(cap.map fun o=>match o with | none=>none | some j=>(σ[j]?).getD none)[i]? = some (some v):=e2
    rw [List.getElem?_map] at e2'
    cases q:cap[i]? with
    | none=>rw [q] at e2';cases e2'
    | some o=>
      rw [q] at e2'
      cases o with
      | none=>cases e2'
      | some j=>
        have e4:(σ[j]?).getD none=some v:=Option.some.inj e2'
        have e5:σ[j]? = some (some v):=by
          cases r:σ[j]? with
          | none=>rw [r] at e4;cases e4
          | some o=>rw [r] at e4;exact congrArg some e4
        obtain ⟨n1,n2,n3⟩:=c.own i j x e1 q
        obtain ⟨m,hm,hl⟩:=I.loc
        obtain ⟨u,ru,lk⟩:=hl j x v n1 e5 (n3.elim (fun z=>.inr (.inl z)) fun z=>.inr (.inr z))
        refine ⟨u,ru,.inr ?_⟩
        rcases lk with ⟨k1,_⟩ | ⟨_,d,k2,k3⟩
        · have k1':X.env.scope.names.lookup x=some .local:=k1
          rcases n3 with z | z<;>(rw [z] at k1';cases k1')
        · obtain ⟨d',hd'⟩:=c3 x (QbC n2)
          have ed:d'=d:=by
            have:=c1 x d' hd'
            rw [k2] at this
            exact (Option.some.inj this).symm
          subst ed
          exact ⟨(Qcw n2:(relabel scope X.env).names.lookup x=some .cell∨(relabel scope X.env).names.lookup x=some .free),d',hd',k3.keeps hk⟩
  · obtain ⟨v,q⟩:=I.cell x d (c1 x d e)
    exact ⟨v,q.keeps hk⟩
  · show (cap.map _).length=M.length
    rw [List.length_map];exact c.len
theorem QiQ {σ':St} {s':Shared} {h':Heap} (I:Inv X pins σ H3 s3) (hf:∀ b∈fp,FpOk X pins H3 b) (J:Inv (blk X M scope (clOf X.env scope.names []) fp s3 H3 s3.heap.objs.size) [] σ' H s') (hs:Heap.SameBut s3.heap.objs.size s'.heap h') :
    Inv X pins σ H { s' with heap:=h' }:=by
  have u:Un (frs X.stack) fp H3 H s3.heap s'.heap:=J.base
  have ne:∀ b o,s3.heap.get? b=some o->b≠s3.heap.objs.size:=fun b o e=>Nat.ne_of_lt (Heap.lt_size e)
  have hC:H s3.heap.objs.size=none:=J.free
  refine I.call' (ch:=fp) (s':={ s' with heap:=h' }) J.os ⟨fun b o e n hb hx=>(hs.2 b (ne b o e)).trans (u.keep b o e n hb hx),fun b o e n hb hx=>?_,u.free,fun b o e hx=>?_,u.tups,u.frzs,u.tbls⟩ (fun b o e=>?_) J.bare fun b hb=>?_
  · obtain ⟨sl,q⟩:=u.slot b o e n hb hx
    exact ⟨sl,(hs.2 b (ne b o e)).trans q⟩
  · obtain ⟨o',q⟩:=u.there b o e hx
    exact ⟨o',(hs.2 b (ne b o e)).trans q⟩
  · refine (J.hok b o e).stay (fun c v hc q=>(hs.2 c ?_).trans q) (fun _ q=>q) fun _ _ q=>q
    rintro rfl
    rcases hc with z | z
    · rw [<- z,hC] at e;cases e
    · rw [hC] at z;cases z
  · obtain ⟨f0,f1,f2,f3,f4,f5⟩:=hf b hb
    exact ⟨f3,f1,f4,f5⟩
end
def Wk:St->St->Prop
  | [],[]=>True
  | none::a,_::b=>Wk a b
  | some v::a,some u::b=>v=u/\Wk a b
  | _,_=>False
theorem Wk.len:∀ {a b:St},Wk a b->a.length=b.length
  | [],[],_=>rfl
  | none::a,_::b,h=>congrArg (·+1) (Wk.len (a:=a) (b:=b) h)
  | some v::a,some u::b,h=>congrArg (·+1) (Wk.len (a:=a) (b:=b) h.2)
  | [],_::_,h=>h.elim
  | some _::_,[],h=>h.elim
  | none::_,[],h=>h.elim
  | some _::_,none::_,h=>h.elim
theorem Wk.get:∀ {a b:St},Wk a b->∀ (i:Nat) v,a[i]? = some (some v)->b[i]? = some (some v)
  | [],[],_,i,v,h=>by simp at h
  | none::a,x::b,h,0,v,e=>by simp at e
  | none::a,x::b,h,i+1,v,e=>by
    simp only [List.getElem?_cons_succ] at e ⊢
    exact Wk.get (a:=a) (b:=b) h i v e
  | some q::a,some u::b,h,0,v,e=>by
    simp only [List.getElem?_cons_zero] at e ⊢
    rw [<- h.1];exact e
  | some q::a,some u::b,h,i+1,v,e=>by
    simp only [List.getElem?_cons_succ] at e ⊢
    exact Wk.get (a:=a) (b:=b) h.2 i v e
  | [],_::_,h,_,_,_=>h.elim
  | some _::_,[],h,_,_,_=>h.elim
  | none::_,[],h,_,_,_=>h.elim
  | some _::_,none::_,h,_,_,_=>h.elim
theorem Inv.wk {X:Cx} {pins:List (Addr×Obj)} {σ σ':St} {H:Hp} {s:Shared} (I:Inv X pins σ H s) (h:Wk σ' σ):Inv X pins σ' H s:=I.weak h.len h.get
def Qgi (J:It) (body:V->Hp->(Hp->Prop)->Prop) (Qn:Hp->Prop) (H:Hp):Prop:=
  ∃ W:Nat->Nat->Hp->Prop,(∃ m,W 0 m H)/\∀ i m H2,W i m H2->(J.stop i H2/\Qn H2)∨(J.go i H2/\∀ x H3,J.yld i H2 x H3->body x H3 fun H6=>∃ m',m'<m/\W (i+1) m' H6)
abbrev Act:=(Shared->Prop)->Shared->Prop
def QeT (Y:Cx) (σ:St) (act:Act) (b:Hp->(Hp->Prop)->Prop):Prop:=
  ∀ (pins:List (Addr×Obj)) (s:Shared) (H:Hp) (k:Hp->Prop) (Q:Shared->Prop),Inv Y pins σ H s->b H k->(∀ s' H',Inv Y pins σ H' s'->k H'->Q s')->act Q s
theorem Qb7 {Y:Cx} {σ:St} {tg:Expr} {elt:Expr} {gens:List Comprehension} {scope:Scope} {cpos:Pos} {d:Nat} {it D:Addr} {fp:List Addr} {tn:Nat->Heap->Prop} {J:It} {pins:List (Addr×Obj)} {s:Shared} {H:Hp} {body:V->Hp->(Hp->Prop)->Prop} {Qn:Hp->Prop} {R:Result->Shared->Prop} {act:Value->Act}
    (hc:Y.calm=true) (T:Turn Y.prog Y.w Y.K tg J fp it tn) (st:tn 0 s.heap) (hf:∀ b∈fp,FpOk Y pins H b)
    (hturn:∀ (Q:PySem.Fin->Shared->Prop) (E:Value->Shared->Prop) (s:Shared),wpAny (model Y.prog Y.w) Y.A (pyNext (.ref it)) (fun r s1=>match r with
      | none=>Q (.done .next) s1
      | some v=>wpAny (model Y.prog Y.w) Y.A (letOwnedTupleGo tg (.ref it) v) (fun _ s2=>act v (fun s3=>Q (.again (.compLoop (.ListComp elt gens scope cpos) d (.ref it) (.ref D) Y.env)) s3) s2) E s1) E s ->
      wpAny (model Y.prog Y.w) Y.A (compTurn (.ListComp elt gens scope cpos) d (.ref it) (.ref D) Y.env) Q E s)
    (hact:∀ (x:V) (u:Value),RelV x u->QeT Y σ (act u) (body x))
    (I:Inv Y pins σ H s) (h:Qgi J body Qn H) (hR:∀ s' H',Inv Y pins σ H' s'->Qn H'->R (.ok .next) s') :
    codeAny (model Y.prog Y.w) Y.A (.compLoop (.ListComp elt gens scope cpos) d (.ref it) (.ref D) Y.env) R s:=by
  obtain ⟨W,⟨m0,w0⟩,turn⟩:=h
  have stat:∀ {H':Hp},(∀ b∈fp,H' b=none)->∀ b∈fp,FpOk Y pins H' b:=fun hn b hb=>⟨hn b hb,(hf b hb).2⟩
  refine codeAny_loop rfl (fun n s'=>∃ i H',Inv Y pins σ H' s'/\tn i s'.heap/\(∀ b∈fp,H' b=none)/\W i n H') (fun n s3 hI=>?_) m0 ⟨0,H,I,st,fun b hb=>(hf b hb).1,w0⟩
  show wpAny _ Y.A ((compTurn (.ListComp elt gens scope cpos) d (.ref it) (.ref D) Y.env).onRaise (fun x=>do noteFrame x Y.env;theTreesLotGoes x)) _ _ s3
  refine wpAny_noted (hturn _ _ _ ?_)
  obtain ⟨i,H3,I3,st3,fr3,w3⟩:=hI
  rcases turn i n H3 w3 with ⟨stop,qn⟩ | ⟨go,step⟩
  · refine thn (T.done Y rfl rfl rfl hc i pins s3 σ H3 _ I3 (stat fr3) st3 stop) fun r s4 ⟨hr,I4⟩=>?_
    subst hr
    exact hR s4 H3 I4 qn
  · refine thn (T.item Y rfl rfl rfl hc i pins s3 σ H3 _ I3 (stat fr3) st3 go) fun r s4 ⟨u,hr,h4⟩=>?_
    subst hr
    refine thn h4 fun _ s5 ⟨x,H5,I5,r5,y5,st5,fr5⟩=>?_
    have I5':=I5.pinned (stat fr5) (T.obj _ _ st5)
    refine hact x u r5 _ s5 H5 _ _ I5' (step x H5 y5) fun s7 H7 I7 ⟨m',hm,w7⟩=>?_
    refine ⟨rfl,m',hm,i+1,H7,I7.unpinned,T.keep _ _ _ st5 fun b hb o e=>(I7.pin (b,o) (List.mem_append_right _ (List.mem_append_right _ (QbB hb e)))).1,fun b hb=>?_,w7⟩
    obtain ⟨o,e,dd⟩:=T.obj _ _ st5 b hb
    exact (I7.pin (b,o) (List.mem_append_right _ (List.mem_append_right _ (QbB hb e)))).2.1
abbrev testsOf (ifs:List Expr) (env:Env):Sem Bool:=forIn ifs true fun c r=>if r=true then do let ok <- isTrue c env (eval c env);pure (ForInStep.yield ok) else pure (ForInStep.yield r)
def PTs (Y:Cx) (ifs:List Expr) (t:TT):Prop:=
  ∀ (pins:List (Addr×Obj)) (s:Shared) (σ:St) (H:Hp) (Q:Bool->Hp->Prop),Inv Y pins σ H s->t σ H Q->wpAny (model Y.prog Y.w) Y.A (testsOf ifs Y.env) (TP Y pins σ Q) Y.xe s
def QcS:TT:=fun _ H Q=>Q true H
theorem Qe6 {Y:Cx}:PTs Y [] QcS:=fun pins s σ H Q I h=>wpAny_tests_nil ⟨H,I,h⟩
theorem Qlt {Y:Cx} {c:Expr} {t:TT} (h:PT Y c t):PTs Y [c] t:=fun pins s σ H Q I q=>wpAny_tests_one (h pins s σ H Q I q)
def Qkr (Y:Cx) (tg:Expr) (ifs:List Expr) (inner:Act):Value->Act:=fun u Q s=>
  wpAny (model Y.prog Y.w) Y.A (assign tg Y.env u) (fun _ s4=>wpAny (model Y.prog Y.w) Y.A (testsOf ifs Y.env) (fun ok s5=>if ok=true then inner Q s5 else Q s5) (fun _ _=>False) s4) (fun _ _=>False) s
def bOf (σ:St) (g:TG) (tc:TT) (inner:St->Hp->(Hp->Prop)->Prop):V->Hp->(Hp->Prop)->Prop:=fun x H k=>g x σ H fun σ4 H4=>Wk σ σ4/\tc σ4 H4 fun b H5=>
  if b=true then inner σ4 H5 k else k H5
theorem Qd5 {Y:Cx} {σ:St} {tg:Expr} {ifs:List Expr} {g:TG} {tc:TT} {inner:Act} {ri:St->Hp->(Hp->Prop)->Prop} (hx:Y.xe=fun _ _=>False) (hg:PG Y tg g) (ht:PTs Y ifs tc) (he:∀ σ4,QeT Y σ4 inner (ri σ4)) (x:V) (u:Value) (r:RelV x u) :
    QeT Y σ (Qkr Y tg ifs inner u) (bOf σ g tc ri x):=by
  intro pins s H k Q I h hQ
  have hx':∀ (v:Value) (s':Shared),Y.xe v s'->False:=fun v s' z=>by rw [hx] at z;exact z
  refine wpAny_mono (hg pins s σ H x u _ I r h) (fun _ s4 ⟨σ4,H4,I4,wk,q4⟩=>?_) hx'
  refine wpAny_mono (ht pins s4 σ4 H4 _ I4 q4) (fun b s5 ⟨H5,I5,q5⟩=>?_) hx'
  cases b with
  | false=>
    rw [if_neg Bool.false_ne_true] at q5
    rw [if_neg Bool.false_ne_true]
    exact hQ s5 H5 (I5.wk wk) q5
  | true=>
    rw [if_pos rfl] at q5
    rw [if_pos rfl]
    exact he σ4 pins s5 H5 k Q I5 q5 fun s' H' I' k'=>hQ s' H' (I'.wk wk) k'
def QiY (Y:Cx) (elt:Expr) (D:Addr):Act:=fun Q s=>wpAny (model Y.prog Y.w) Y.A (eval elt Y.env) (fun v s6=>wpAny (model Y.prog Y.w) Y.A (call (.builtin "list.append") [.ref D,v]) (fun _ s7=>Q s7) (fun _ _=>False) s6) (fun _ _=>False) s
def bElt (p:Addr) (te:TE):St->Hp->(Hp->Prop)->Prop:=fun σ H k=>te σ H fun v H6=>∃ ys,H6 p=some (.lst ys)/\ys.length<sizeLine/\k (upd H6 p (.lst (ys++[v])))
theorem Qd6 {Y:Cx} {σ:St} {elt:Expr} {te:TE} {D:Addr} (hx:Y.xe=fun _ _=>False) (he:PE Y elt te):QeT Y σ (QiY Y elt D) (bElt D te σ):=by
  intro pins s H k Q I h hQ
  have hx':∀ (v:Value) (s':Shared),Y.xe v s'->False:=fun v s' z=>by rw [hx] at z;exact z
  refine wpAny_mono (he pins s σ H _ I h) (fun v s6 ⟨y,H6,I6,r6,ys,e,hz,q⟩=>?_) hx'
  exact wpAny_mono (QhT (X:=Y) pins s6 σ H6 (.ref D) [y] (.ref D) [v] (fun _ H'=>k H') I6 rfl (.cons r6 .nil) ⟨D,ys,y,rfl,rfl,e,hz,q⟩) (fun _ s7 ⟨_,H7,I7,_,q7⟩=>hQ s7 H7 I7 q7) hx'
theorem Qfs {Y:Cx} {elt tg iter:Expr} {ifs:List Expr} {scope:Scope} {cpos:Pos} {it D:Addr} (Q:PySem.Fin->Shared->Prop) (E:Value->Shared->Prop) (s:Shared)
    (h:wpAny (model Y.prog Y.w) Y.A (pyNext (.ref it)) (fun r s1=>match r with
      | none=>Q (.done .next) s1
      | some v=>wpAny (model Y.prog Y.w) Y.A (letOwnedTupleGo tg (.ref it) v) (fun _ s2=>Qkr Y tg ifs (QiY Y elt D) v (fun s3=>Q (.again (.compLoop (.ListComp elt [⟨tg,iter,ifs,0⟩] scope cpos) 0 (.ref it) (.ref D) Y.env)) s3) s2) E s1) E s) :
    wpAny (model Y.prog Y.w) Y.A (compTurn (.ListComp elt [⟨tg,iter,ifs,0⟩] scope cpos) 0 (.ref it) (.ref D) Y.env) Q E s:=by
  rw [compTurn_list]
  refine wpAny_bind (wpAny_standAt (wpAny_bind (thn h fun r s1 h1=>?_)))
  cases r with
  | none=>exact wpAny_pure h1
  | some v=>
    refine wpAny_bind (thn h1 fun _ s2 h2=>?_)
    refine wpAny_bind (wpAny_mono h2 (fun _ s4 h4=>wpAny_bind (wpAny_mono h4 (fun ok s5 h5=>?_) fun _ _ f=>f.elim)) fun _ _ f=>f.elim)
    cases ok with
    | false=>exact wpAny_pure h5
    | true=>exact wpAny_bind (wpAny_bind (wpAny_mono h5 (fun x s6 h6=>wpAny_bind (wpAny_mono h6 (fun _ s7 h7=>wpAny_pure (wpAny_pure h7)) fun _ _ f=>f.elim)) fun _ _ f=>f.elim))
def tComp (cap:List (Option Nat)) (wi:TI) (g:TG) (tc:TT) (te:TE):TE:=fun σ H Q=>wi σ H fun J H1=>∀ p,H1 p=none->Qgi J (bOf (capS cap σ) g tc (bElt p te)) (Q (.ref p)) (upd H1 p (.lst []))
theorem FpOk.upd {X:Cx} {pins:List (Addr×Obj)} {H:Hp} {b a:Addr} {o:HO} (h:FpOk X pins H b) (hne:b≠a):FpOk X pins (upd H a o) b:=⟨by rw [Qai hne];exact h.1,h.2⟩
theorem QdS {X:Cx} {M:List Str} {cap:List (Option Nat)} {elt tg iter:Expr} {ifs:List Expr} {scope:Scope} {pos:Pos} {wi:TI} {g:TG} {tc:TT} {te:TE} (hc:X.calm=true) (ok:QeH X.N X.env.scope M scope cap=true)
    (hi:PI X tg iter wi) (hb:∀ cl ex s3 H3 C,PG (blk X M scope cl ex s3 H3 C) tg g/\PTs (blk X M scope cl ex s3 H3 C) ifs tc/\PE (blk X M scope cl ex s3 H3 C) elt te)
    (hs:∀ x,foldedSetIterable iter X.env x=pure x:=by intro _;rfl):PE X (.ListComp elt [⟨tg,iter,ifs,0⟩] scope pos) (tComp cap wi g tc te):=by
  intro pins s σ H Q I h
  have c:=CapOk.of ok
  rw [eval_ListComp]
  refine wpAny_comprehension_free (use:=none) rfl hs (Qfj (I.ok.cells c)) c.kind c.loc ?_
  refine thn (hi pins s σ H _ I h) fun v s1 h1=>thn h1 fun itv s2 h2=>?_
  obtain ⟨it,fp,tn,J,H2,e,I2,T,st2,f2,hW⟩:=h2
  subst e
  refine wpAny_newObj_type (wpAny_newFunctionEnv c.cell (by intro y hy;simp at hy) (fun h₁ hns₁ hsb₁=>?_) c.kind)
  have I3:Inv X pins σ (upd H2 s2.heap.objs.size (.lst [])) { s2 with heap:=s2.heap.push { cls:=.type "list",data:=.seq ([]:List Value).toArray } }:=I2.lnew (t':=s2.toks) (ys:=[]) .nil (Nat.zero_le _)
  have lt2:∀ b∈fp,b<s2.heap.objs.size:=fun b hb=>by obtain ⟨o,e,_⟩:=T.obj _ _ st2 b hb;exact Heap.lt_size e
  have f3:∀ b∈fp,FpOk X pins (upd H2 s2.heap.objs.size (.lst [])) b:=fun b hb=>(f2 b hb).upd (Nat.ne_of_lt (lt2 b hb))
  generalize hs3:({ s2 with heap:=s2.heap.push { cls:=.type "list",data:=.seq ([]:List Value).toArray } }:Shared)=s3 at I3
  have e3:s3.heap=s2.heap.push { cls:=.type "list",data:=.seq ([]:List Value).toArray }:=by rw [<- hs3]
  have z3:s3.heap.objs.size=s2.heap.objs.size+1:=by rw [e3,Heap.size_push]
  have hk:∀ b o,s3.heap.get? b=some o->h₁.get? b=some o:=fun b o e=>hsb₁.extBut b o (by
    have:=Heap.lt_size e
    rw [e3] at this
    exact Nat.ne_of_lt this) (Heap.get?_push_of_some _ (e3 ▸ e))
  have hn₁:h₁.Ns s3.heap.objs.size fun _=>none:=by rw [e3];exact hns₁
  have B:=Qdh (t4:=s3.toks+([]:List (Str×Value)).length) (fp:=fp) I3 c f3 (fun b hb=>by rw [z3];exact Nat.lt_succ_of_lt (lt2 b hb)) hn₁ hk
  have st4:tn 0 h₁:=T.keep _ _ _ st2 fun b hb o e=>hk b o (by rw [e3];exact Heap.get?_push_of_some _ e)
  have fp4:∀ b∈fp,FpOk (blk X M scope (clOf X.env scope.names []) fp s3 (upd H2 s2.heap.objs.size (.lst [])) s3.heap.objs.size) [] (upd H2 s2.heap.objs.size (.lst [])) b:=fun b hb=>by
    refine ⟨(f3 b hb).1,(B.ok.exf b hb).1,B.ok.exfs b hb,.inl hb,(B.ok.exf b hb).2,fun p hp=>(nomatch hp)⟩
  obtain ⟨hg,ht,he⟩:=hb (clOf X.env scope.names []) fp s3 (upd H2 s2.heap.objs.size (.lst [])) s3.heap.objs.size
  have loop:codeAny (model X.prog X.w) X.A (.compLoop (.ListComp elt [⟨tg,iter,ifs,0⟩] scope pos) 0 (.ref it) (.ref s2.heap.objs.size) (compEnvC scope (clOf X.env scope.names []) s3.heap.objs.size X.env))
      (compPost (model X.prog X.w) X.A X.xe none (EP X pins σ Q) (.ref s2.heap.objs.size) s3.heap.objs.size) { s3 with heap:=h₁,toks:=s3.toks+([]:List (Str×Value)).length }:=by
    refine Qb7 (Y:=blk X M scope (clOf X.env scope.names []) fp s3 (upd H2 s2.heap.objs.size (.lst [])) s3.heap.objs.size) (gens:=[⟨tg,iter,ifs,0⟩]) (d:=0) hc T st4 fp4
      (fun Q E s h=>Qfs Q E s h) (fun x u r=>Qd5 rfl hg ht (fun σ4=>Qd6 rfl he) x u r) B (hW _ (I2.hok.fresh (Nat.le_refl _))) fun s' H' I' q=>?_
    obtain ⟨m,hn,_⟩:=I'.loc
    exact ⟨m,hn,fun h' hs'=>⟨.ref s2.heap.objs.size,H',QiQ I3 f3 I' hs',rfl,q⟩⟩
  exact codeAny_compStart_list loop (T.self _ 0 _ _ _ st4 loop)
section
variable {X:Cx}
theorem Qau:CallR X (.builtin "isinstance") (fun xs H Q=>∃ x t T b,xs=[x,.ty T]/\TyOf X.K H x t/\PySem.W.kitOne X.K t (.type T)=some b/\Q (.bl b) H):=by
  intro pins s σ H xs us Q I r h
  obtain ⟨x,t,T,b,rfl,ty,e,q⟩:=h
  obtain ⟨u,v,rfl,ru,rv⟩:=QgM r
  cases (show v=Value.type T from rv)
  exact Qh4 I ru ty e fun tk=>⟨.bl b,H,I.tok tk,rfl,q⟩
theorem Qkm {bs:List Bool}:∀ {us:List Value},Vals (bs.map V.bl) us->LSm.BoolsAre us bs:=by
  induction bs with
  | nil=>intro us r;cases r;exact .nil
  | cons b bs ih=>
    intro us r
    cases r with
    | cons r t=>
      cases (show _=Value.bool b from r)
      exact .cons b (ih t)
theorem QcP:CallR X (.builtin "all") (fun xs H Q=>∃ (p:Addr) (bs:List Bool),xs=[.ref p]/\SqL X.K H p (bs.map V.bl)/\X.calm=true/\Q (.bl (bs.all id)) H):=by
  intro pins s σ H xs us Q I r h
  obtain ⟨p,bs,rfl,hp,hc,q⟩:=h
  obtain ⟨u,rfl,ru⟩:=QbK r
  cases ru
  obtain ⟨its,rv,pl,hz⟩:=I.list hp
  have hl:=pl.isList
  have hb:=Qkm rv
  have hlt:p<s.heap.objs.size:=by obtain ⟨_,e,_⟩:=hl;exact Heap.lt_size e
  refine call_all_walk (wpAny_pyIter_list hl ?_)
  refine ⟨s.heap.objs.size,[s.heap.objs.size,p],[s.heap.objs.size],its.toArray.size,_,_,fun i=>(bs[i]?).getD true,rfl,Walks.list (A:=X.A.in1) (I.ok.hd hc) _ p (Nat.ne_of_lt hlt) its.toArray,
    ⟨⟨_,Heap.get?_push_size _ rfl,rfl,rfl⟩,hl.push _⟩,fun i v s' Q' E' hP hQ=>?_,fun h' tk hk=>?_⟩
  · obtain ⟨b,e,rfl⟩:=hb.get i v (by simpa using hP)
    simp only [e,Option.getD_some] at hQ
    exact wpAny_truthy_bool hQ
  · have e:((List.range its.toArray.size).all fun i=>(bs[i]?).getD true)=bs.all id:=by
      rw [List.size_toArray,hb.length];exact LSm.range_all bs
    rw [e]
    exact ⟨.bl _,H,I.kept (LSm.kept_iter hk),rfl,q⟩
theorem QjN:OpR X (compareOp .Is) (fun x y H Q=>∃ a b,x=.bl a/\y=.bl b/\Q (.bl (a == b)) H):=by
  intro pins s σ H x y v u Q I rx ry h
  obtain ⟨a,b,rfl,rfl,q⟩:=h
  cases (show v=Value.bool a from rx)
  cases (show u=Value.bool b from ry)
  refine is_bool ?_
  exact ⟨.bl _,H,I,rfl,q⟩
def rSlA:V->Option Int->Option Int->Hp->VK->Prop:=fun x lo hi H Q=>∃ a xs,x=.ref a/\H a=some (.tup xs)/\∀ p H',Same H H'->H' p=some (.tup (cutV xs lo hi))->Q (.ref p) H'
theorem Qab {H:Hp} {p:Addr} {o:HO} (h:H p=none):Same H (upd H p o):=fun b u e=>by rw [Qai (Qat e h)];exact e
theorem QbP {prog:Program} {w:World} {A:Around} {E:Value->Shared->Prop} {s:Shared} {t sl:Addr} {items:Array Value} {vl vu:Value} {lo hi:Option Int} {Q:Value->Shared->Prop} (ht:IsTup s.heap t items) (hs:s.heap.IsSliceOf sl vl vu .none) (pl:IsPart vl lo) (pu:IsPart vu hi)
    (h1:HT.sIx items.size 0 lo=0) (h2:HT.sIx items.size items.size hi=items.size) (h:Q (.ref t) s):wpAny (model prog w) A (getItem (.ref t) (.ref sl)) Q E s:=by
  obtain ⟨os,hos,hcs,hds⟩:=id hs
  have hTs:s.TypeIs (.ref sl) "slice" := ⟨os,hos,hcs⟩
  unfold getItem
  try with_reducible refine wpAny_holding ?_
  first | refine wpAny_bind (wpAny_pure ?_) | skip
  refine wpAny_bind (wpAny_sequenceKey ht.typeIs (by decide) ?_)
  refine wpAny_bind (wpAny_callSpecial?_slot (name:=Str.ofString "__getitem__") ht.typeIs PyProof.Rows.slot_tuple_getitem
    (wpAny_call_entry PyProof.Rows.slot_tuple_getitem ht.typeIs entry_tuple_getitem ?_ (args_tuple_getitem _ _)))
  show wpAny _ _ (Builtin.Tuple.tupleItemsOf (.ref t) >>= _) _ _ s
  refine wpAny_bind (tupleItemsOf_ ht ?_)
  refine wpAny_bind (wpAny_typeOf hTs ?_)
  rw [if_pos (by decide)]
  refine wpAny_bind (HT.sliceApplied_gen hs pl pu ?_)
  show wpAny _ _ (if (((HT.sIx items.size 0 lo:Nat):Int) == 0&&(1:Int) == 1&&(HT.sIx items.size items.size hi - HT.sIx items.size 0 lo) == items.size)=true then _ else _) _ _ s
  rw [if_pos (by rw [h1,h2];simp)]
  refine wpAny_bind (m:=Builtin.Tuple.tupleIsExact _) (wpAny_bind (wpAny_typeOf ht.typeIs (wpAny_pure ?_)))
  rw [if_pos (by decide)]
  exact wpAny_bind (wpAny_rule (wpAny_pure ⟨_,rfl,wpAny_pure h⟩))
theorem sl_any:SlR X rSlA:=by
  intro pins s σ H x v vl vu lo hi sl Q I rx hs pl pu h
  obtain ⟨a,xs,rfl,hx,q⟩:=h
  by_cases hw:HT.sIx xs.length 0 lo=0/\HT.sIx xs.length xs.length hi=xs.length
  · cases rx
    obtain ⟨its,r,ht,hz⟩:=I.tuple (SqT.of hx)
    have hlen:its.toArray.size=xs.length:=by rw [List.size_toArray];exact r.length.symm
    refine ⟨"tuple",_,PyProof.Rows.slot_tuple_getitem.lookup,ht.typeIs,?_⟩
    refine QbP ht hs pl pu (by rw [hlen];exact hw.1) (by rw [hlen];exact hw.2) ?_
    refine ⟨.ref a,H,I,rfl,q a H (Same.refl H) ?_⟩
    have e:cutV xs lo hi=xs:=by
      unfold cutV
      rw [hw.1,hw.2];simp
    rw [e];exact hx
  · exact sl_tup pins s σ H (.ref a) v vl vu lo hi sl Q I rx hs pl pu ⟨a,xs,rfl,SqT.of hx,hw,fun p hp=>q p _ (Qab hp) Qad⟩
def tRev (te ts:TE):TE:=fun σ H Q=>te σ H fun x H1=>tPart ts σ H1 fun o H2=>o=some (-1)/\∃ a xs,x=.ref a/\H2 a=some (.tup xs)/\∀ p H',Same H2 H'->H' p=some (.tup xs.reverse)->Q (.ref p) H'
theorem QkU {α β:Type} (f:α->Option β) (g:α->β):∀ (l:List α),(∀ m∈l,f m=some (g m))->l.filterMap f=l.map g
  | [],_=>rfl
  | a::l,h=>by
    rw [List.filterMap_cons,h a List.mem_cons_self,List.map_cons,QkU f g l fun m hm=>h m (List.mem_cons_of_mem _ hm)]
theorem Qjm (xs:List Value):((List.range xs.length).filterMap fun (m:Nat)=>xs.toArray[((xs.length:Int) - 1+(m:Int)*(-1)).toNat]?)=xs.reverse:=by
  have e:∀ m∈List.range xs.length,(xs.toArray[((xs.length:Int) - 1+(m:Int)*(-1)).toNat]?)=some (xs.reverse.getD m .none):=by
    intro m hm
    have hm':m<xs.length:=List.mem_range.mp hm
    have e1:((xs.length:Int) - 1+(m:Int)*(-1)).toNat=xs.length - 1 - m:=by omega
    rw [e1]
    have e2:xs.reverse[m]? = xs[xs.length - 1 - m]? := List.getElem?_reverse hm'
    rw [List.getElem?_toArray,List.getD_eq_getElem?_getD,e2]
    have:xs.length - 1 - m<xs.length:=by omega
    rw [List.getElem?_eq_getElem this];rfl
  have e3:((List.range xs.length).filterMap fun (m:Nat)=>xs.toArray[((xs.length:Int) - 1+(m:Int)*(-1)).toNat]?)=(List.range xs.length).map fun m=>xs.reverse.getD m .none:=by
    exact QkU _ _ _ e
  rw [e3]
  refine List.ext_getElem? fun i=>?_
  rw [List.getElem?_map]
  by_cases hi:i<xs.length
  · rw [List.getElem?_range hi]
    have:i<xs.reverse.length:=by rw [List.length_reverse];exact hi
    show some (xs.reverse.getD i .none)=_
    rw [List.getElem?_eq_getElem this,List.getD_eq_getElem?_getD,List.getElem?_eq_getElem this];rfl
  · have h1:(List.range xs.length)[i]? = none:=List.getElem?_eq_none (by rw [List.length_range];omega)
    have h2:xs.reverse[i]? = none:=List.getElem?_eq_none (by rw [List.length_reverse];omega)
    rw [h1,h2];rfl
theorem Qcp {prog:Program} {w:World} {A:Around} {E:Value->Shared->Prop} {s:Shared} {t sl:Addr} {items:List Value} {tk:Tok} {Q:Value->Shared->Prop} (ht:IsTup s.heap t items.toArray) (hs:s.heap.IsSliceOf sl .none .none (.int (-1) tk))
    (h:Q (.ref s.heap.objs.size) { s with heap:=s.heap.push { cls:=.type "tuple",data:=.seq items.reverse.toArray } }) (hsz:items.length<=sizeLine):wpAny (model prog w) A (getItem (.ref t) (.ref sl)) Q E s:=by
  have htake:sizeOk (.seq items.reverse.toArray):=by
    show items.reverse.toArray.size<=sizeLine
    rw [List.size_toArray,List.length_reverse];exact hsz
  obtain ⟨os,hos,hcs,hds⟩:=id hs
  have hTs:s.TypeIs (.ref sl) "slice" := ⟨os,hos,hcs⟩
  unfold getItem
  try with_reducible refine wpAny_holding ?_
  first | refine wpAny_bind (wpAny_pure ?_) | skip
  refine wpAny_bind (wpAny_sequenceKey ht.typeIs (by decide) ?_)
  refine wpAny_bind (wpAny_callSpecial?_slot (name:=Str.ofString "__getitem__") ht.typeIs PyProof.Rows.slot_tuple_getitem
    (wpAny_call_entry PyProof.Rows.slot_tuple_getitem ht.typeIs entry_tuple_getitem ?_ (args_tuple_getitem _ _)))
  show wpAny _ _ (Builtin.Tuple.tupleItemsOf (.ref t) >>= _) _ _ s
  refine wpAny_bind (tupleItemsOf_ ht ?_)
  refine wpAny_bind (wpAny_typeOf hTs ?_)
  rw [if_pos (by decide)]
  have app:∀ {Q:Int×Int×Nat->Shared->Prop} {A:Around} {E:Value->Shared->Prop},Q ((items.length:Int) - 1,-1,items.length) s->wpAny (model prog w) A (Builtin.Slice.sliceApplied (.ref sl) (pure (items.toArray.size:Int))) Q E s:=by
    intro Q A E h
    unfold Builtin.Slice.sliceApplied Builtin.Slice.sliceFields
    refine wpAny_bind (wpAny_bind (wpAny_field hos hds (x:=.none) rfl (wpAny_bind (wpAny_field hos hds (x:=.none) rfl (wpAny_bind (wpAny_field hos hds (x:=.int (-1) tk) rfl (wpAny_pure ?_)))))))
    refine wpAny_bind (slicePart_int ?_)
    show wpAny _ _ (if ((-1:Int) == 0)=true then _ else _) _ _ s
    rw [if_neg (by decide)]
    refine wpAny_bind (slicePart_none (wpAny_bind (slicePart_none (wpAny_bind (wpAny_pure ?_)))))
    have e1:Builtin.Slice.sliceAdjust none none (-1) (items.toArray.size:Int)=((items.length:Int) - 1,-1):=by
      unfold Builtin.Slice.sliceAdjust
      simp
    show wpAny _ _ (match Builtin.Slice.sliceAdjust none none (-1) (items.toArray.size:Int) with | (lo,hi)=>pure (lo,(-1:Int),Builtin.Slice.slicePlaces lo hi (-1))) _ _ s
    rw [e1]
    have e2:Builtin.Slice.slicePlaces ((items.length:Int) - 1) (-1) (-1)=items.length:=by
      unfold Builtin.Slice.slicePlaces
      simp only [show ¬ ((-1:Int) > 0) by decide,if_false]
      by_cases hn:items.length=0
      · rw [hn];decide
      · rw [if_pos (by omega)]
        have:((items.length:Int) - 1 - -1 - 1) / - -1=(items.length:Int) - 1:=by
          have:(- (-1:Int))=1:=by decide
          rw [this,Int.ediv_one];omega
        rw [this];omega
    show wpAny _ _ (pure ((items.length:Int) - 1,(-1:Int),Builtin.Slice.slicePlaces ((items.length:Int) - 1) (-1) (-1))) _ _ s
    rw [e2]
    exact wpAny_pure h
  refine wpAny_bind (app ?_)
  show wpAny _ _ (if (((items.length:Int) - 1) == 0&&(-1:Int) == 1&&items.length == items.toArray.size)=true then _ else _) _ _ s
  rw [if_neg (by simp),Qjm]
  first
    | exact wpAny_bind (m:=Builtin.Tuple.tupleExact _) (wpAny_newObj_type (wpAny_pure ⟨_,rfl,wpAny_pure h⟩) htake)
    | exact wpAny_bind (m:=Builtin.Tuple.tupleExact _) (wpAny_newObj_type (wpAny_bind (wpAny_pure (wpAny_pure ⟨_,rfl,wpAny_pure h⟩))) htake)
    | exact wpAny_bind (wpAny_bind (m:=Builtin.Tuple.tupleExact _) (wpAny_newObj_type (wpAny_pure (wpAny_pure ⟨_,rfl,wpAny_pure h⟩)) htake))
    | exact wpAny_bind (wpAny_bind (m:=Builtin.Tuple.tupleExact _) (wpAny_newObj_type (wpAny_pure ⟨_,rfl,wpAny_pure h⟩) htake))
theorem pe_rev {e st:Expr} {te ts:TE} {pos p2:Pos} (he:PE X e te) (hst:PE X st ts):PE X (.Subscript e (.Slice none none (some st) p2) pos) (tRev te ts):=by
  intro pins s σ H Q I h
  refine Subscript_ (thn (he pins s σ H _ I h) fun v s1 ⟨x,H1,I1,r1,q1⟩=>?_)
  refine wpAny_Slice ?_
  rw [evalPart_none]
  refine wpAny_pure (wpAny_pure ?_)
  refine thn (Qhl hst pins s1 σ H1 _ I1 q1) fun vs s2 ⟨o,H2,I2,po,eo,a,xs,ex,hx,q⟩=>?_
  subst eo ex
  cases r1
  cases po with
  | int _ tk=>
    have I4:Inv X pins σ H2 { s2 with heap:=s2.heap.push { cls:=.type "slice",data:=.fields #[.none,.none,.int (-1) tk] } }:=I2.kept (t':=s2.toks) fun b ob q=>Heap.get?_push_of_some _ q
    obtain ⟨its,r,ht,hz⟩:=I4.tuple (SqT.of hx)
    show wpAny (model X.prog X.w) X.A (subscriptTail e (.Slice none none (some st) p2) (.ref a) (.ref s2.heap.objs.size)) (EP X pins σ Q) X.xe { s2 with heap:=s2.heap.push { cls:=.type "slice",data:=.fields #[.none,.none,.int (-1) tk] } }
    refine tail_any (ops:=[.ref a,.ref s2.heap.objs.size]) ht.typeIs PyProof.Rows.slot_tuple_getitem.lookup (Qcp ht (Heap.IsSliceOf.new ..) ?_ (by rw [<- r.length];exact hz)) (by with_unfolding_all rfl)
    have fr:H2 (s2.heap.push { cls:=.type "slice",data:=.fields #[.none,.none,.int (-1) tk] }).objs.size=none:=I4.hok.fresh (Nat.le_refl _)
    refine ⟨.ref _,_,I4.laid (t':=s2.toks) (o:=.tup xs.reverse) (fun b ob q=>Heap.get?_push_of_some _ q) (Nat.le_refl _) ?_,rfl,q _ _ (Qab fr) Qad⟩
    exact ⟨by rw [List.length_reverse];exact hz,_,r.reverse,IsTup.new _ _⟩
def rCatA:R2:=fun x y H Q=>∃ a b xs ys,x=.ref a/\y=.ref b/\H a=some (.tup xs)/\H b=some (.tup ys)/\xs.length+ys.length<=sizeLine/\∀ p H',Same H H'->H' p=some (.tup (xs++ys))->Q (.ref p) H'
theorem Ql4:OpR X (binaryOp .Add) rCatA:=by
  intro pins s σ H x y v u Q I rx ry h
  obtain ⟨a,b,xs,ys,rfl,rfl,ha,hb,hz,q⟩:=h
  by_cases hx:xs=[]
  · subst hx
    cases rx
    cases ry
    obtain ⟨its,r1,p1,_⟩:=I.tuple (SqT.of ha)
    obtain ⟨its2,r2,p2,_⟩:=I.tuple (SqT.of hb)
    cases r1
    obtain ⟨⟨cls,dd,data,sl⟩,ho,hc,n,hd⟩:=id p1
    obtain ⟨⟨cls2,dd2,data2,sl2⟩,ho2,hc2,n2,hd2⟩:=id p2
    simp only at hc hd hc2 hd2
    subst hc hd hc2 hd2
    exact concat_meets ⟨_,ho,rfl⟩ ⟨_,ho2,rfl⟩ noFill_tuple_add seq_tuple_add PySem.F.slot_tuple_add PySem.F.entry_tuple_add (PySem.F.args_tuple_add_2 _ _)
      (tuple_addW0 a b #[] its2.toArray n n2 dd dd2 sl sl2 rfl) ⟨ho,ho2,⟨.ref b,H,I,rfl,q b H (Same.refl H) hb⟩⟩
  · exact Ql3 pins s σ H _ _ v u Q I rx ry ⟨a,b,xs,ys,rfl,rfl,SqT.of ha,SqT.of hb,hx,hz,fun e=>q a H (Same.refl H) (by rw [e,List.append_nil];exact ha),fun _ p hp=>q p _ (Qab hp) Qad⟩
def tDNew:TE:=fun _ H Q=>∀ p,H p=none->Q (.ref p) (upd H p (.dK []))
theorem Qlz {pos:Pos}:PE X (.Dict [] [] pos) tDNew:=fun pins s σ H Q I h=>by
  refine wpAny_Dict_empty ⟨.ref s.heap.objs.size,_,I.laid (a:=s.heap.objs.size) (o:=.dK []) (t':=s.toks) (fun _ _ q=>Heap.get?_push_of_some _ q) (Nat.le_refl _) ?_,rfl,h _ (I.hok.fresh (Nat.le_refl _))⟩
  have hb:sysModules<s.heap.objs.size:=Nat.lt_trans (by decide) (I.mod.glob.keeps I.bk).lt
  exact ⟨Nat.zero_le _,beq_eq_false_iff_ne.mpr (Ne.symm (Nat.ne_of_lt hb)),[],.nil,Heap.DictOf.new s.heap⟩
end
end L2
namespace Rz
open PySem PyProof.Rows
open Sem (wp)
section
variable {prog:Program} {w:World} {A:Around} {E:Value->Shared->Prop} {s:Shared}
theorem nxt_item {it t:Addr} {i:Nat} {items:Array Value} {x:Value} {Q:Value->Shared->Prop} (hit:s.heap.IsTupleIter it t i) (ht:s.heap.IsTuple t items) (hx:items[i]? = some x)
    (hQ:∀ h',h'.IsTupleIter it t (i+1)->Heap.SameBut it s.heap h'->Q x { s with heap:=h' }):wpAny (model prog w) A (Builtin.SmallTypes.nextOf (.ref it)) Q E s:=by
  obtain ⟨o,ho,hc,hd⟩:=id hit
  obtain ⟨ol,hol,_,nl,hdl⟩:=ht
  unfold Builtin.SmallTypes.nextOf
  refine wpAny_bind (wpAny_callSpecial?_slot (name:=Str.ofString "__next__") hit.typeIs F.slot_tuple_iterator_next
    (wpAny_call_entry F.slot_tuple_iterator_next hit.typeIs F.entry_tuple_iterator_next ?_ (F.args_tuple_iterator_next_1 _)))
  show wpAny _ _ (field (.ref it) 0 >>= _) _ _ s
  refine wpAny_bind (wpAny_field ho hd (x:=.ref t) rfl ?_)
  show wpAny _ _ (if (Value.ref t == Value.none)=true then _ else _) _ _ s
  rw [if_neg (show ¬ ((Value.ref t == Value.none)=true) from Bool.false_ne_true)]
  show wpAny _ _ (field (.ref it) 1 >>= _) _ _ s
  refine wpAny_bind (wpAny_field ho hd (x:=.int i 0) rfl ?_)
  show wpAny _ _ (seqItems? (.ref t) >>= _) _ _ s
  refine wpAny_bind (wpAny_seqItems hol hdl ?_)
  simp only [Int.toNat_natCast,hx]
  refine wpAny_bind (wpAny_setField ho hd (by simp) (wpAny_pure ⟨x,rfl,wpAny_pure (hQ _ ?_ (Heap.SameBut.update ..))⟩))
  exact ⟨_,Heap.get?_update_self _ ho (Obj.isFreed_of_fields (Obj.data_mapFields hd _)),(Obj.cls_mapFields ..).trans hc,by
    rw [Obj.data_mapFields hd];simp [rawInt]⟩
theorem nxt_end {it t:Addr} {i:Nat} {items:Array Value} {Q:Value->Shared->Prop} (hh:A.handled=none) (hit:s.heap.IsTupleIter it t i) (ht:s.heap.IsTuple t items) (hx:items[i]? = none)
    (hE:∀ h' e,Heap.ExtBut it s.heap h'->(∃ o,h'.get? e=some o/\o.cls=.type "StopIteration")->E (.ref e) { s with heap:=h' }):wpAny (model prog w) A (Builtin.SmallTypes.nextOf (.ref it)) Q E s:=by
  obtain ⟨o,ho,hc,hd⟩:=id hit
  obtain ⟨ol,hol,_,nl,hdl⟩:=ht
  unfold Builtin.SmallTypes.nextOf
  refine wpAny_bind (wpAny_callSpecial?_slot (name:=Str.ofString "__next__") hit.typeIs F.slot_tuple_iterator_next
    (wpAny_call_entry F.slot_tuple_iterator_next hit.typeIs F.entry_tuple_iterator_next ?_ (F.args_tuple_iterator_next_1 _)))
  show wpAny _ _ (field (.ref it) 0 >>= _) _ _ s
  refine wpAny_bind (wpAny_field ho hd (x:=.ref t) rfl ?_)
  show wpAny _ _ (if (Value.ref t == Value.none)=true then _ else _) _ _ s
  rw [if_neg (show ¬ ((Value.ref t == Value.none)=true) from Bool.false_ne_true)]
  show wpAny _ _ (field (.ref it) 1 >>= _) _ _ s
  refine wpAny_bind (wpAny_field ho hd (x:=.int i 0) rfl ?_)
  show wpAny _ _ (seqItems? (.ref t) >>= _) _ _ s
  refine wpAny_bind (wpAny_seqItems hol hdl ?_)
  simp only [Int.toNat_natCast,hx]
  refine wpAny_bind (wpAny_rule (wpAny_bind (wpAny_setField ho hd (by simp) ?_)))
  show wpAny _ _ (newExc (.type "StopIteration") [] >>= _) _ _ _
  refine wpAny_bind ?_
  simp only [newExc,newTuple]
  refine wpAny_bind (wpAny_newObj_type ?_ (by size_fits))
  refine wpAny_bind (m:=firstArgMember _ _) (wpAny_of_eq (a:=Value.none) (by first | rfl | (simp only [firstArgMember];rfl)) ?_)
  refine wpAny_newObj_type ?_ (by size_fits)
  simp only [raiseNew]
  refine wpAny_bind (wpAny_handled ?_)
  first | rw [show A.in1.handled=none from hh] | rw [hh]
  refine wpAny_bind (wpAny_pure (wpAny_throw ?_))
  exact hE _ _ (((Heap.SameBut.update ..).extBut.push _).push _) ⟨_,Heap.get?_push_size _ rfl,rfl⟩
structure Apart (z TI TO i1 i2 t1 t2:Addr):Prop where
  a1:TI≠z
  a2:TO≠z
  a3:i1≠z
  a4:i2≠z
  a5:TI≠TO
  a6:TI≠i1
  a7:TI≠i2
  a8:TO≠i1
  a9:TO≠i2
  b1:i1≠i2
  b2:t1≠z/\t1≠TO/\t1≠i1/\t1≠i2
  b3:t2≠z/\t2≠TO/\t2≠i1/\t2≠i2
structure ZipAt (h:Heap) (z TI TO i1 i2 t1 t2:Addr) (f:Value) (k:Nat):Prop where
  zp:IsZip h z TI TO f
  ti:IsPair h TI (.ref i1) (.ref i2)
  to:∃ a b,IsPair h TO a b
  i1:h.IsTupleIter i1 t1 k
  i2:h.IsTupleIter i2 t2 k
theorem next_item {z TI TO i1 i2 t1 t2:Addr} {k:Nat} {xs ys:Array Value} {x y:Value} {Q:Option Value->Shared->Prop} (D:Apart z TI TO i1 i2 t1 t2) (Z:ZipAt s.heap z TI TO i1 i2 t1 t2 .none k)
    (hl1:s.heap.IsTuple t1 xs) (hl2:s.heap.IsTuple t2 ys) (hx:xs[k]? = some x) (hy:ys[k]? = some y)
    (hQ:∀ h',ZipAt h' z TI TO i1 i2 t1 t2 (rawInt s.heap.objs.size) (k+1)->IsPair h' s.heap.objs.size x y->(∀ c o,c≠z->c≠TO->c≠i1->c≠i2->s.heap.get? c=some o->h'.get? c=some o)->Q (some (.ref s.heap.objs.size)) { s with heap:=h' }) :
    wpAny (model prog w) A (pyNext (.ref z)) Q E s:=by
  obtain ⟨hz,hTI,⟨a,b,hTO⟩,h1,h2⟩:=Z
  have hT:s.TypeIs (.ref z) "zip" := ⟨_,hz,rfl⟩
  unfold pyNext
  refine wpAny_bind (wpAny_attempt (wpAny_callSpecial?_slot (name:=Str.ofString "__next__") hT F.slot_zip_next (wpAny_call_entry F.slot_zip_next hT F.entry_zip_next ?_ (F.args_zip_next_1 _))))
  show wpAny _ _ (field (.ref z) 2 >>= _) _ _ _
  refine wpAny_bind (wpAny_field hz rfl (x:=.bool false) rfl ?_)
  show wpAny _ _ (field (.ref z) 3 >>= _) _ _ _
  refine wpAny_bind (wpAny_field hz rfl (x:=.ref TI) rfl (wpAny_bind (wpAny_seqItems hTI rfl ?_)))
  show wpAny _ _ (Builtin.SmallTypes.ownedTupleIsFree (.ref z) >>= _) _ _ _
  refine wpAny_bind ?_
  unfold Builtin.SmallTypes.ownedTupleIsFree
  refine wpAny_bind (wpAny_field hz rfl (x:=.none) rfl (wpAny_pure ?_))
  simp only [if_true]
  refine wpAny_bind (wpAny_rule (wpAny_bind (wpAny_field hz rfl (x:=.ref TO) rfl (wpAny_bind (wpAny_setField_rec hz (by simp) fun g1 z1 s1=>?_)))))
  replace z1:IsZip g1 z TI TO .ellipsis:=z1
  refine wpAny_bind ?_
  simp only [List.zipIdx_cons,List.zipIdx_nil,List.forIn_cons,List.forIn_nil]
  refine wpAny_bind (wpAny_bind (wpAny_onRaise ?_))
  show wpAny _ _ (Builtin.SmallTypes.nextOf (.ref i1) >>= _) _ _ _
  refine wpAny_bind (nxt_item (h1.extBut s1.extBut D.a3) (hl1.extBut s1.extBut D.b2.1) hx fun g2 p2 s2=>wpAny_pure ?_)
  have o2:IsPair g2 TO a b:=s2.extBut _ _ D.a8 (s1.extBut _ _ D.a2 hTO)
  refine wpAny_bind (wpAny_seqItems o2 rfl (wpAny_bind (wpAny_updateSeq_pair o2 fun g3 o3 s3=>wpAny_bind (wpAny_letGo (wpAny_pure ?_)))))
  replace o3:IsPair g3 TO x b:=o3
  refine wpAny_bind (wpAny_bind (wpAny_onRaise ?_))
  show wpAny _ _ (Builtin.SmallTypes.nextOf (.ref i2) >>= _) _ _ _
  refine wpAny_bind (nxt_item (((h2.extBut s1.extBut D.a4).extBut s2.extBut D.b1.symm).extBut s3.extBut D.a9.symm)
    (((hl2.extBut s1.extBut D.b3.1).extBut s2.extBut D.b3.2.2.1).extBut s3.extBut D.b3.2.1) hy fun g4 p4 s4=>wpAny_pure ?_)
  have o4:IsPair g4 TO x b:=s4.extBut _ _ D.a9 o3
  refine wpAny_bind (wpAny_seqItems o4 rfl (wpAny_bind (wpAny_updateSeq_pair o4 fun g5 o5 s5=>wpAny_bind (wpAny_letGo (wpAny_pure (wpAny_pure ?_))))))
  replace o5:IsPair g5 TO x y:=o5
  refine wpAny_bind (wpAny_seqItems o5 rfl (wpAny_bind (wpAny_newTuple ?_)))
  have sz:g5.objs.size=s.heap.objs.size:=by rw [s5.1,s4.1,s3.1,s2.1,s1.1]
  have kp:∀ c o,c≠z->c≠TO->c≠i1->c≠i2->s.heap.get? c=some o->g5.get? c=some o:=fun c o c1 c2 c3 c4 e=>
    s5.extBut _ _ c2 (s4.extBut _ _ c4 (s3.extBut _ _ c2 (s2.extBut _ _ c3 (s1.extBut _ _ c1 e))))
  have z5:IsZip g5 z TI TO .ellipsis:=s5.extBut _ _ D.a2.symm (s4.extBut _ _ D.a4.symm (s3.extBut _ _ D.a2.symm (s2.extBut _ _ D.a3.symm z1)))
  have q1:g5.IsTupleIter i1 t1 (k+1):=((p2.extBut s3.extBut D.a8.symm).extBut s4.extBut D.b1).extBut s5.extBut D.a8.symm
  have q2:g5.IsTupleIter i2 t2 (k+1):=p4.extBut s5.extBut D.a9.symm
  show wpAny _ _ (Builtin.SmallTypes.ownedTupleHandOut (.ref z) (.ref g5.objs.size) >>= _) _ _ _
  refine wpAny_bind ?_
  unfold Builtin.SmallTypes.ownedTupleHandOut
  have z6:IsZip (g5.push { cls:=.type "tuple",data:=.seq #[x,y] }) z TI TO .ellipsis:=Heap.get?_push_of_some _ z5
  refine wpAny_bind (wpAny_setField_rec z6 (by simp) fun g7 z7 s7=>?_)
  replace z7:IsZip g7 z TI TO (rawInt g5.objs.size):=z7
  refine wpAny_setField_rec z7 (by simp) fun g8 z8 s8=>?_
  replace z8:IsZip g8 z TI TO (rawInt g5.objs.size):=z8
  have up:∀ c o,c≠z->g5.get? c=some o->g8.get? c=some o:=fun c o c1 e=>s8.extBut _ _ c1 (s7.extBut _ _ c1 (Heap.get?_push_of_some _ e))
  have ne:g5.objs.size≠z:=Nat.ne_of_gt (Heap.lt_size z5)
  have t8:IsPair g8 g5.objs.size x y:=s8.extBut _ _ ne (s7.extBut _ _ ne (Heap.get?_push_size _ rfl))
  rw [sz] at z8 t8
  refine wpAny_pure ⟨_,rfl,wpAny_pure ?_⟩
  show Q (some (.ref g5.objs.size)) _
  rw [sz]
  exact hQ g8 ⟨z8,up _ _ D.a1 (kp _ _ D.a1 D.a5 D.a6 D.a7 hTI),⟨x,y,up _ _ D.a2 o5⟩,q1.at fun o e=>up _ o D.a3 e,q2.at fun o e=>up _ o D.a4 e⟩ t8 fun c o c1 c2 c3 c4 e=>up c o c1 (kp c o c1 c2 c3 c4 e)
theorem next_end {z TI TO i1 i2 t1 t2:Addr} {k:Nat} {xs ys:Array Value} {Q:Option Value->Shared->Prop} (hh:A.handled=none) (D:Apart z TI TO i1 i2 t1 t2) (Z:ZipAt s.heap z TI TO i1 i2 t1 t2 .none k)
    (hl1:s.heap.IsTuple t1 xs) (hl2:s.heap.IsTuple t2 ys) (hend:xs[k]? = none∨ys[k]? = none)
    (hQ:∀ h',(∀ c o,c≠z->c≠TO->c≠i1->c≠i2->s.heap.get? c=some o->h'.get? c=some o)->Q none { s with heap:=h' }):wpAny (model prog w) A (pyNext (.ref z)) Q E s:=by
  obtain ⟨hz,hTI,⟨a,b,hTO⟩,h1,h2⟩:=Z
  have hT:s.TypeIs (.ref z) "zip" := ⟨_,hz,rfl⟩
  have fin:∀ (h':Heap) (e:Addr),(∀ c o,c≠z->c≠TO->c≠i1->c≠i2->s.heap.get? c=some o->h'.get? c=some o)->(∃ o,h'.get? e=some o/\o.cls=.type "StopIteration") ->
      wpAny (model prog w) A (isInstance (.ref e) (.type "StopIteration") >>= fun x=>if x=true then pure none else throw (.ref e)) Q E { s with heap:=h' }:=fun h' e hk he=>by
    obtain ⟨o,ho,hc⟩:=he
    refine wpAny_bind (wpAny_isInstance (T := "StopIteration") (b:=true) ⟨o,ho,hc⟩ isSubtype_stop ?_)
    exact wpAny_pure (hQ _ hk)
  unfold pyNext
  refine wpAny_bind (wpAny_attempt (wpAny_callSpecial?_slot (name:=Str.ofString "__next__") hT F.slot_zip_next (wpAny_call_entry F.slot_zip_next hT F.entry_zip_next ?_ (F.args_zip_next_1 _))))
  show wpAny _ _ (field (.ref z) 2 >>= _) _ _ _
  refine wpAny_bind (wpAny_field hz rfl (x:=.bool false) rfl ?_)
  show wpAny _ _ (field (.ref z) 3 >>= _) _ _ _
  refine wpAny_bind (wpAny_field hz rfl (x:=.ref TI) rfl (wpAny_bind (wpAny_seqItems hTI rfl ?_)))
  show wpAny _ _ (Builtin.SmallTypes.ownedTupleIsFree (.ref z) >>= _) _ _ _
  refine wpAny_bind ?_
  unfold Builtin.SmallTypes.ownedTupleIsFree
  refine wpAny_bind (wpAny_field hz rfl (x:=.none) rfl (wpAny_pure ?_))
  simp only [if_true]
  refine wpAny_bind (wpAny_rule (wpAny_bind (wpAny_field hz rfl (x:=.ref TO) rfl (wpAny_bind (wpAny_setField_rec hz (by simp) fun g1 z1 s1=>?_)))))
  replace z1:IsZip g1 z TI TO .ellipsis:=z1
  refine wpAny_bind ?_
  simp only [List.zipIdx_cons,List.zipIdx_nil,List.forIn_cons,List.forIn_nil]
  refine wpAny_bind (wpAny_bind (wpAny_onRaise ?_))
  show wpAny _ _ (Builtin.SmallTypes.nextOf (.ref i1) >>= _) _ _ _
  cases hx:xs[k]? with
  | none=>
    refine wpAny_bind (nxt_end hh (h1.extBut s1.extBut D.a3) (hl1.extBut s1.extBut D.b2.1) hx fun g2 e s2 he=>?_)
    obtain ⟨oe,hoe,hce⟩:=he
    have z2:IsZip g2 z TI TO .ellipsis:=s2 _ _ D.a3.symm z1
    have hez:e≠z:=fun q=>by subst q;rw [z2] at hoe;cases hoe;simp at hce
    refine wpAny_setField_rec z2 (by simp) fun g3 _ s3=>?_
    exact fin g3 e (fun c o c1 _ c3 _ q=>s3.extBut _ _ c1 (s2 _ _ c3 (s1.extBut _ _ c1 q))) ⟨oe,s3.extBut _ _ hez hoe,hce⟩
  | some x=>
    have hy:ys[k]? = none:=by
      rcases hend with q | q
      · rw [hx] at q;cases q
      · exact q
    refine wpAny_bind (nxt_item (h1.extBut s1.extBut D.a3) (hl1.extBut s1.extBut D.b2.1) hx fun g2 p2 s2=>wpAny_pure ?_)
    have o2:IsPair g2 TO a b:=s2.extBut _ _ D.a8 (s1.extBut _ _ D.a2 hTO)
    refine wpAny_bind (wpAny_seqItems o2 rfl (wpAny_bind (wpAny_updateSeq_pair o2 fun g3 o3 s3=>wpAny_bind (wpAny_letGo (wpAny_pure ?_)))))
    refine wpAny_bind (wpAny_bind (wpAny_onRaise ?_))
    show wpAny _ _ (Builtin.SmallTypes.nextOf (.ref i2) >>= _) _ _ _
    refine wpAny_bind (nxt_end hh (((h2.extBut s1.extBut D.a4).extBut s2.extBut D.b1.symm).extBut s3.extBut D.a9.symm)
      (((hl2.extBut s1.extBut D.b3.1).extBut s2.extBut D.b3.2.2.1).extBut s3.extBut D.b3.2.1) hy fun g4 e s4 he=>?_)
    obtain ⟨oe,hoe,hce⟩:=he
    have z4:IsZip g4 z TI TO .ellipsis:=s4 _ _ D.a4.symm (s3.extBut _ _ D.a2.symm (s2.extBut _ _ D.a3.symm z1))
    have hez:e≠z:=fun q=>by subst q;rw [z4] at hoe;cases hoe;simp at hce
    refine wpAny_setField_rec z4 (by simp) fun g5 _ s5=>?_
    exact fin g5 e (fun c o c1 c2 c3 c4 q=>s5.extBut _ _ c1 (s4 _ _ c4 (s3.extBut _ _ c2 (s2.extBut _ _ c3 (s1.extBut _ _ c1 q))))) ⟨oe,s5.extBut _ _ hez hoe,hce⟩
end
abbrev zh1 (h:Heap) (t1:Addr):Heap:=h.push { cls:=.type "tuple_iterator",data:=.fields #[.ref t1,.int 0 0] }
abbrev zh2 (h:Heap) (t1 t2:Addr):Heap:=(zh1 h t1).push { cls:=.type "tuple_iterator",data:=.fields #[.ref t2,.int 0 0] }
abbrev zh3 (h:Heap) (t1 t2:Addr):Heap:=(zh2 h t1 t2).push { cls:=.type "tuple",data:=.seq #[.ref h.objs.size,.ref (zh1 h t1).objs.size] }
abbrev zh4 (h:Heap) (t1 t2:Addr):Heap:=(zh3 h t1 t2).push { cls:=.type "tuple",data:=.seq #[.none,.none] }
abbrev zh5 (h:Heap) (t1 t2:Addr):Heap:=(zh4 h t1 t2).push { cls:=.type "zip",data:=.fields #[.none,.bool false,.bool false,.ref (zh2 h t1 t2).objs.size,.ref (zh3 h t1 t2).objs.size] }
theorem made (t1 t2:Addr) (xs ys:Array Value) :
    Meets (Builtin.«zip.__new__» ⟨[.type "zip",.ref t1,.ref t2],[]⟩) (fun _ R s=>s.heap.IsTuple t1 xs/\s.heap.IsTuple t2 ys/\R (.ok (.ret (.ref (zh4 s.heap t1 t2).objs.size))) { s with heap:=zh5 s.heap t1 t2 }):=
  .of_wp fun prog w A R s h=>by
    obtain ⟨hp,g,d,tk,os⟩:=s;obtain ⟨hl1,hl2,h⟩:=h
    have hsub:=sub_zip
    have k1:Heap.IsTuple (Shared.heap ⟨hp,g,d,tk,os⟩) t1 xs:=hl1
    have k2:Heap.IsTuple (Shared.heap ⟨hp.push { cls:=.type "tuple_iterator",data:=.fields #[.ref t1,.int 0 0] },g,d,tk,os⟩) t2 ys:=hl2.at fun o e=>Heap.get?_push_of_some _ e
    wp_walk using wpAny_pyIter_tuple k1,wpAny_pyIter_tuple k2
    exact ⟨_,rfl,h⟩
section
variable {prog:Program} {w:World} {A:Around} {E:Value->Shared->Prop} {s:Shared}
theorem call_two {t1 t2:Addr} {xs ys:Array Value} {Q:Value->Shared->Prop} (hl1:s.heap.IsTuple t1 xs) (hl2:s.heap.IsTuple t2 ys)
    (h:∀ h',ZipAt h' (s.heap.objs.size+4) (s.heap.objs.size+2) (s.heap.objs.size+3) s.heap.objs.size (s.heap.objs.size+1) t1 t2 .none 0->(∀ c o,s.heap.get? c=some o->h'.get? c=some o)->Q (.ref (s.heap.objs.size+4)) { s with heap:=h' }) :
    wpAny (model prog w) A (call (.type "zip") [.ref t1,.ref t2]) Q E s:=by
  refine callType_new F.called_zip (by decide) (F.typeCall_zip_2 _ _) (F.newCall_zip_2 _ _) (fun obj=>F.args_object_init_3 obj _ _) F.entry_zip_new (made t1 t2 xs ys) ⟨hl1,hl2,?_⟩
  have z1:(zh1 s.heap t1).objs.size=s.heap.objs.size+1:=Heap.size_push ..
  have z2:(zh2 s.heap t1 t2).objs.size=s.heap.objs.size+2:=by rw [Heap.size_push,z1]
  have z3:(zh3 s.heap t1 t2).objs.size=s.heap.objs.size+3:=by rw [Heap.size_push,z2]
  have z4:(zh4 s.heap t1 t2).objs.size=s.heap.objs.size+4:=by rw [Heap.size_push,z3]
  have g5:(zh5 s.heap t1 t2).get? (zh4 s.heap t1 t2).objs.size=some _:=Heap.get?_push_size _ rfl
  have g4:(zh5 s.heap t1 t2).get? (zh3 s.heap t1 t2).objs.size=some _:=Heap.get?_push_of_some _ (Heap.get?_push_size _ rfl)
  have g3:(zh5 s.heap t1 t2).get? (zh2 s.heap t1 t2).objs.size=some _:=Heap.get?_push_of_some _ (Heap.get?_push_of_some _ (Heap.get?_push_size _ rfl))
  have g2:(zh5 s.heap t1 t2).get? (zh1 s.heap t1).objs.size=some _:=Heap.get?_push_of_some _ (Heap.get?_push_of_some _ (Heap.get?_push_of_some _ (Heap.get?_push_size _ rfl)))
  have g1:(zh5 s.heap t1 t2).get? s.heap.objs.size=some _:=Heap.get?_push_of_some _ (Heap.get?_push_of_some _ (Heap.get?_push_of_some _ (Heap.get?_push_of_some _ (Heap.get?_push_size _ rfl))))
  show _/\_
  rw [z2,z3,z4] at g5
  rw [z1,z2] at g3
  rw [z3] at g4
  rw [z1] at g2
  rw [z4]
  exact ⟨⟨_,g5,rfl⟩,h _ ⟨g5,g3,⟨_,_,g4⟩,⟨_,g1,rfl,rfl⟩,⟨_,g2,rfl,rfl⟩⟩ fun c o x=>Heap.get?_push_of_some _ (Heap.get?_push_of_some _ (Heap.get?_push_of_some _ (Heap.get?_push_of_some _ (Heap.get?_push_of_some _ x))))⟩
end
end Rz
namespace L2
open PySem PySem.Spec PyProof.Rows
section
variable {X:Cx} {pins:List (Addr×Obj)} {σ:St} {H:Hp} {s:Shared} {h':Heap}
theorem Inv.turnedNew {t':Nat} {ch:List Addr} {a:Addr} {o:HO} (I:Inv X pins σ H s) (hch:∀ b∈ch,FpOk X pins H b) (k:∀ b u,b∉ch->s.heap.get? b=some u->h'.get? b=some u) (hp:s.heap.objs.size<=a)
    (new:ObjOk X.prog X.w (upd H a o) h' a o):Inv X pins σ (upd H a o) { s with heap:=h',toks:=t' }:=by
  have hn:H a=none:=I.hok.fresh hp
  have nch:∀ b u,H b=some u->b∉ch:=fun b u e z=>by rw [(hch b z).1] at e;cases e
  refine I.step (g':=s.gens) (d':=s.drawn) (ch:=ch) (fun b hb=>?_) (fun b u _ _ hc e _=>k b u hc e) (fun b u _ _ hc e _=>⟨u.slots,k b u hc e⟩) (fun b u hc e n=>?_) (fun b u hc e=>⟨u,k b u hc e⟩)
    (fun b xs e=>by rw [Qai (Qat e hn)];exact e) (fun b u v e=>by rw [Qai (Qat e hn)];exact e) (fun b ps e=>⟨#[],by rw [Qai (Qat e hn),e];simp⟩) (fun m hm=>?_) (fun b u e=>?_) I.bare
  · obtain ⟨f0,f1,f2,f3,f4,f5⟩:=hch b hb
    exact ⟨f3,f1,f4,f5⟩
  · rw [Qai (Nat.ne_of_lt (Nat.lt_of_lt_of_le (Heap.lt_size e) hp))];exact n
  · obtain ⟨u,es,ep,ho,r⟩:=hm
    exact ⟨u,es,ep,k _ u (fun z=>(hch _ z).2.1 rfl) ho,r⟩
  · by_cases hb:b=a
    · subst hb;rw [Qad] at e;cases e;exact new
    · rw [Qai hb] at e
      refine (I.hok b u e).stay (fun c v hc q=>k c v ?_ q) (fun c q=>by rw [Qai (Qat q hn)];exact q) fun c xs q=>by rw [Qai (Qat q hn)];exact q
      rcases hc with z | z
      · rw [z];exact nch b u e
      · exact nch c _ z
theorem Inv.turnedAll {t':Nat} {ch:List Addr} (I:Inv X pins σ H s) (hch:∀ b∈ch,FpOk X pins H b) (k:∀ b u,b∉ch->s.heap.get? b=some u->h'.get? b=some u):Inv X pins σ H { s with heap:=h',toks:=t' }:=by
  have nch:∀ b u,H b=some u->b∉ch:=fun b u e z=>by rw [(hch b z).1] at e;cases e
  refine I.step (g':=s.gens) (d':=s.drawn) (ch:=ch) (fun b hb=>?_) (fun b u _ _ hc e _=>k b u hc e) (fun b u _ _ hc e _=>⟨u.slots,k b u hc e⟩) (fun b u hc e n=>n) (fun b u hc e=>⟨u,k b u hc e⟩)
    (fun b xs e=>e) (fun b u v e=>e) (fun b ps e=>⟨#[],by rw [e];simp⟩) (fun m hm=>?_) (fun b u e=>?_) I.bare
  · obtain ⟨f0,f1,f2,f3,f4,f5⟩:=hch b hb
    exact ⟨f3,f1,f4,f5⟩
  · obtain ⟨u,es,ep,ho,r⟩:=hm
    exact ⟨u,es,ep,k _ u (fun z=>(hch _ z).2.1 rfl) ho,r⟩
  · refine (I.hok b u e).stay (fun c v hc q=>k c v ?_ q) (fun c q=>q) fun c xs q=>q
    rcases hc with z | z
    · rw [z];exact nch b u e
    · exact nch c _ z
end
def Itz (t1 t2:Addr):It:=
  ⟨fun i H=>∃ xs ys x y,H t1=some (.tup xs)/\H t2=some (.tup ys)/\xs[i]? = some x/\ys[i]? = some y,
   fun i H v H'=>∃ p x y,H p=none/\(∀ xs,H t1=some (.tup xs)->xs[i]? = some x)/\(∀ ys,H t2=some (.tup ys)->ys[i]? = some y)/\v=.ref p/\H'=upd H p (.tup [x,y]),
   fun i H=>∃ xs ys,H t1=some (.tup xs)/\H t2=some (.tup ys)/\(xs.length<=i∨ys.length<=i)⟩
theorem Qi2 {P:Program} {w:World} {K:PySem.W.Frag} {elts:List Expr} {x1} {tpos:Pos} {z TI TO i1 i2 t1 t2:Addr} (D:Rz.Apart z TI TO i1 i2 t1 t2) :
    Turn P w K (.Tuple elts x1 tpos) (Itz t1 t2) [z,TI,TO,i1,i2] z (fun i h=>Rz.ZipAt h z TI TO i1 i2 t1 t2 .none i) where
  mem:=by simp
  obj:=fun i h st b hb=>by
    obtain ⟨a1,a2,⟨_,_,a3⟩,⟨o4,a4,_,d4⟩,⟨o5,a5,_,d5⟩⟩:=st
    simp only [List.mem_cons,List.not_mem_nil,or_false] at hb
    rcases hb with rfl | rfl | rfl | rfl | rfl
    · exact ⟨_,a1,fun v q=>nomatch q⟩
    · exact ⟨_,a2,fun v q=>nomatch q⟩
    · exact ⟨_,a3,fun v q=>nomatch q⟩
    · exact ⟨_,a4,fun v q=>by rw [d4] at q;cases q⟩
    · exact ⟨_,a5,fun v q=>by rw [d5] at q;cases q⟩
  keep:=fun i h h' st k=>by
    obtain ⟨a1,a2,⟨a,b,a3⟩,a4,a5⟩:=st
    exact ⟨k z (by simp) _ a1,k TI (by simp) _ a2,⟨a,b,k TO (by simp) _ a3⟩,a4.at fun o e=>k i1 (by simp) o e,a5.at fun o e=>k i2 (by simp) o e⟩
  item:=by
    intro X hP hw hK hc i pins s σ H E I hf st hg
    subst hP hw hK
    obtain ⟨xs,ys,x,y,h1,h2,hx,hy⟩:=hg
    obtain ⟨its1,r1,p1,_⟩:=I.tuple (SqT.of h1)
    obtain ⟨its2,r2,p2,_⟩:=I.tuple (SqT.of h2)
    obtain ⟨u1,hu1,ru1⟩:=r1.get hx
    obtain ⟨u2,hu2,ru2⟩:=r2.get hy
    refine Rz.next_item D st (show s.heap.IsTuple t1 its1.toArray from p1) (show s.heap.IsTuple t2 its2.toArray from p2) (by simpa using hu1) (by simpa using hu2) fun h' st' tp kp=>?_
    have hlt:∀ b∈[z,TI,TO,i1,i2],b≠s.heap.objs.size:=fun b hb=>by
      obtain ⟨a1,a2,⟨_,_,a3⟩,⟨o4,a4,_,d4⟩,⟨o5,a5,_,d5⟩⟩:=st
      simp only [List.mem_cons,List.not_mem_nil,or_false] at hb
      rcases hb with rfl | rfl | rfl | rfl | rfl
      · exact Nat.ne_of_lt (Heap.lt_size a1)
      · exact Nat.ne_of_lt (Heap.lt_size a2)
      · exact Nat.ne_of_lt (Heap.lt_size a3)
      · exact Nat.ne_of_lt (Heap.lt_size a4)
      · exact Nat.ne_of_lt (Heap.lt_size a5)
    have fr:H s.heap.objs.size=none:=I.hok.fresh (Nat.le_refl _)
    refine ⟨_,rfl,wpAny_letOwnedTupleGo_zip st'.zp fun h2' z2 s2=>?_⟩
    have I1:Inv X pins σ (upd H s.heap.objs.size (.tup [x,y])) { s with heap:=h2',toks:=s.toks }:=by
      refine I.turnedNew (ch:=[z,TI,TO,i1,i2]) hf (fun b u hb e=>?_) (Nat.le_refl _) ⟨by show 2<=sizeLine;decide,[u1,u2],.cons ru1 (.cons ru2 .nil),?_⟩
      · simp only [List.mem_cons,List.not_mem_nil,or_false,not_or] at hb
        exact s2.extBut _ _ hb.1 (kp b u hb.1 hb.2.2.1 hb.2.2.2.1 hb.2.2.2.2 e)
      · exact ⟨_,s2.extBut _ _ (hlt z (by simp)).symm tp,rfl,0,rfl⟩
    refine ⟨.ref s.heap.objs.size,_,I1,rfl,⟨_,x,y,fr,fun xs' e=>?_,fun ys' e=>?_,rfl,rfl⟩,?_,fun b hb=>?_⟩
    · rw [h1] at e;cases e;exact hx
    · rw [h2] at e;cases e;exact hy
    · obtain ⟨a1,a2,⟨a,b,a3⟩,a4,a5⟩:=st'
      exact ⟨z2,s2.extBut _ _ D.a1 a2,⟨a,b,s2.extBut _ _ D.a2 a3⟩,a4.extBut s2.extBut D.a3,a5.extBut s2.extBut D.a4⟩
    · rw [Qai (hlt b hb)];exact (hf b hb).1
  done:=by
    intro X hP hw hK hc i pins s σ H E I hf st hg
    subst hP hw hK
    obtain ⟨xs,ys,h1,h2,he⟩:=hg
    obtain ⟨its1,r1,p1,_⟩:=I.tuple (SqT.of h1)
    obtain ⟨its2,r2,p2,_⟩:=I.tuple (SqT.of h2)
    have l1:=r1.length
    have l2:=r2.length
    refine Rz.next_end (I.ok.hd hc) D st (show s.heap.IsTuple t1 its1.toArray from p1) (show s.heap.IsTuple t2 its2.toArray from p2) ?_ fun h' kp=>⟨rfl,I.turnedAll (t':=s.toks) (ch:=[z,TI,TO,i1,i2]) hf fun b u hb e=>?_⟩
    · rcases he with q | q
      · exact .inl (by simp;omega)
      · exact .inr (by simp;omega)
    · simp only [List.mem_cons,List.not_mem_nil,or_false,not_or] at hb
      exact kp b u hb.1 hb.2.2.1 hb.2.2.2.1 hb.2.2.2.2 e
  self:=fun _ _ _ _ _ st h=>wpAny_pyIter_zip st.zp h
section
variable {X:Cx}
theorem QiV (n t1 t2:Nat) (h1:t1<n) (h2:t2<n):Rz.Apart (n+4) (n+2) (n+3) n (n+1) t1 t2 where
  a1:=by show ¬ (n+2=n+4);omega
  a2:=by show ¬ (n+3=n+4);omega
  a3:=by show ¬ (n=n+4);omega
  a4:=by show ¬ (n+1=n+4);omega
  a5:=by show ¬ (n+2=n+3);omega
  a6:=by show ¬ (n+2=n);omega
  a7:=by show ¬ (n+2=n+1);omega
  a8:=by show ¬ (n+3=n);omega
  a9:=by show ¬ (n+3=n+1);omega
  b1:=by show ¬ (n=n+1);omega
  b2:=⟨by show ¬ (t1=n+4);omega,by show ¬ (t1=n+3);omega,by show ¬ (t1=n);omega,by show ¬ (t1=n+1);omega⟩
  b3:=⟨by show ¬ (t2=n+4);omega,by show ¬ (t2=n+3);omega,by show ¬ (t2=n);omega,by show ¬ (t2=n+1);omega⟩
def iZip (ta:TA):TI:=fun σ H R=>ta σ H fun vs H1=>∃ t1 t2 xs ys,vs=[.ref t1,.ref t2]/\H1 t1=some (.tup xs)/\H1 t2=some (.tup ys)/\R (Itz t1 t2) H1
theorem QiM:bootBuiltins "zip" = some (.type "zip"):=by decide +kernel
theorem QkH {a b:Expr} {elts:List Expr} {x1} {tpos:Pos} {ta:TA} {p pos:Pos} (hg:Gl X "zip") (hm:X.mg "zip" = none) (ha:PA X [a,b] ta) (hs:starEach [a,b] X.env=[(false,eval a X.env),(false,eval b X.env)]:=by rfl) (hs2:starEach [b] X.env=[(false,eval b X.env)]:=by rfl) :
    PI X (.Tuple elts x1 tpos) (.Call (.Name "zip" p) [a,b] [] pos) (iZip ta):=by
  intro pins s σ H R I h
  refine Call_ (QcD I hg hm QiM (PyProof.Rows.callWith_type1 (thn (ha pos pins s σ H _ I h) fun us s1 ⟨vs,H1,I1,r1,q1⟩=>?_) (by rw [hs,hs2]) (by rw [hs2];rfl)))
  obtain ⟨t1,t2,xs,ys,e,h1,h2,q⟩:=q1
  subst e
  obtain ⟨u,v,rfl,ru,rv⟩:=QgM r1
  cases (show u=Value.ref t1 from ru)
  cases (show v=Value.ref t2 from rv)
  obtain ⟨its1,w1,p1,_⟩:=I1.tuple (SqT.of h1)
  obtain ⟨its2,w2,p2,_⟩:=I1.tuple (SqT.of h2)
  have n1:t1<s1.heap.objs.size:=I1.hok.lt h1
  have n2:t2<s1.heap.objs.size:=I1.hok.lt h2
  refine Rz.call_two (show s1.heap.IsTuple t1 its1.toArray from p1) (show s1.heap.IsTuple t2 its2.toArray from p2) fun h' st kp=>?_
  refine wpAny_pyIter_zip (s:={ s1 with heap:=h' }) st.zp ?_
  have D:=QiV s1.heap.objs.size t1 t2 n1 n2
  refine ⟨s1.heap.objs.size+4,_,_,_,H1,rfl,I1.kept (t':=s1.toks) kp,Qi2 D,st,fun b hb=>?_,q⟩
  have hb':s1.heap.objs.size<=b:=by
    simp only [List.mem_cons,List.not_mem_nil,or_false] at hb
    rcases hb with rfl | rfl | rfl | rfl | rfl<;>omega
  exact I1.fpOk hb' (I1.hok.fresh hb')
end
end L2
namespace Rk
open PySem PySem.Spec PyProof.Rows L2
def tupO:Option HO->Option (List V)
  | some (.tup xs)=>some xs
  | _=>none
def QbU (H:Hp):V->Option (List V)
  | .ref a=>tupO (H a)
  | _=>none
theorem tupOf_at (H:Hp) (a:Addr):QbU H (.ref a)=tupO (H a):=rfl
def isT (H:Hp) (x:V):Bool:=(QbU H x).isSome
def isI:V->Bool
  | .int _=>true
  | _=>false
def isB:V->Bool
  | .bl _=>true
  | _=>false
def Kn (p:Addr) (H:Hp):V->Prop
  | .non=>True
  | .bl _=>True
  | .int _=>True
  | .str _=>True
  | .ref a=>a≠p/\((∃ xs,H a=some (.tup xs))∨(∃ xs,H a=some (.lst xs))∨∃ kvs,H a=some (.dK kvs))
  | _=>False
def KnD (p:Addr):Nat->Hp->V->Prop
  | 0,H,x=>Kn p H x
  | n+1,H,x=>Kn p H x/\∀ xs,QbU H x=some xs->∀ y∈xs,KnD p n H y
def KX (p:Addr) (H H':Hp):Prop:=∀ b o,b≠p->H b=some o->H' b=some o
theorem KX.refl (p:Addr) (H:Hp):KX p H H:=fun _ _ _ e=>e
theorem KX.trans {p:Addr} {H H1 H2:Hp} (a:KX p H H1) (b:KX p H1 H2):KX p H H2:=fun c o h e=>b c o h (a c o h e)
theorem KX.of {p:Addr} {H H':Hp} (h:Same H H'):KX p H H':=fun b o _ e=>h b o e
theorem KX.upd {p:Addr} {H:Hp} {o:HO}:KX p H (upd H p o):=fun b u n e=>by rw [Qai n];exact e
theorem KX.new {p q:Addr} {H:Hp} {o:HO} (h:H q=none):KX p H (L2.upd H q o):=KX.of (Qab h)
theorem Kn.keep {p:Addr} {H H':Hp} (k:KX p H H'):∀ {x:V},Kn p H x->Kn p H' x
  | .non,h=>h
  | .bl _,h=>h
  | .int _,h=>h
  | .str _,h=>h
  | .ref a,⟨n,h⟩=>⟨n,by
    rcases h with ⟨xs,e⟩ | ⟨xs,e⟩ | ⟨xs,e⟩
    · exact .inl ⟨xs,k a _ n e⟩
    · exact .inr (.inl ⟨xs,k a _ n e⟩)
    · exact .inr (.inr ⟨xs,k a _ n e⟩)⟩
  | .byt _,h=>h.elim
  | .flt _,h=>h.elim
  | .ty _,h=>h.elim
theorem Qby {p:Addr} {H H':Hp} (k:KX p H H'):∀ {x:V},Kn p H x->QbU H' x=QbU H x
  | .non,h=>rfl
  | .bl _,h=>rfl
  | .int _,h=>rfl
  | .str _,h=>rfl
  | .ref a,⟨n,h⟩=>by
    rcases h with ⟨xs,e⟩ | ⟨xs,e⟩ | ⟨xs,e⟩<;>rw [tupOf_at,tupOf_at,e,k a _ n e]
  | .byt _,h=>h.elim
  | .flt _,h=>h.elim
  | .ty _,h=>h.elim
theorem KnD.kn {p:Addr} {H:Hp} {x:V}:∀ {n:Nat},KnD p n H x->Kn p H x
  | 0,h=>h
  | _+1,h=>h.1
theorem KnD.keep {p:Addr} {H H':Hp} (k:KX p H H'):∀ {n:Nat} {x:V},KnD p n H x->KnD p n H' x
  | 0,x,h=>Kn.keep k h
  | n+1,x,h=>⟨Kn.keep k h.1,fun xs e y hy=>KnD.keep k (h.2 xs (by rw [<- Qby k h.1];exact e) y hy)⟩
theorem KnD.low {p:Addr} {H:Hp}:∀ {n:Nat} {x:V},KnD p (n+1) H x->KnD p n H x
  | 0,x,h=>h.1
  | n+1,x,h=>⟨h.1,fun xs e y hy=>KnD.low (h.2 xs e y hy)⟩
theorem KnD.tup {p:Addr} {H:Hp} {n:Nat} {a:Addr} {xs:List V} (hp:a≠p) (e:H a=some (.tup xs)) (h:∀ y∈xs,KnD p n H y):KnD p (n+1) H (.ref a):=
  ⟨⟨hp,.inl ⟨xs,e⟩⟩,fun ys z y hy=>h y (by
    have z':some xs=some ys:=by rw [<- z,tupOf_at,e];rfl
    cases z';exact hy)⟩
theorem KnD.int {p:Addr} {H:Hp} (i:Int):∀ (n:Nat),KnD p n H (.int i)
  | 0=>trivial
  | n+1=>⟨trivial,fun _ e=>nomatch e⟩
theorem KnD.bl {p:Addr} {H:Hp} (i:Bool):∀ (n:Nat),KnD p n H (.bl i)
  | 0=>trivial
  | n+1=>⟨trivial,fun _ e=>nomatch e⟩
theorem KnD.str {p:Addr} {H:Hp} (i:Str):∀ (n:Nat),KnD p n H (.str i)
  | 0=>trivial
  | n+1=>⟨trivial,fun _ e=>nomatch e⟩
theorem KnD.non {p:Addr} {H:Hp}:∀ (n:Nat),KnD p n H .non
  | 0=>trivial
  | n+1=>⟨trivial,fun _ e=>nomatch e⟩
theorem KnD.lst {p:Addr} {H:Hp} {a:Addr} {xs:List V} (hp:a≠p) (e:H a=some (.lst xs)):∀ (n:Nat),KnD p n H (.ref a)
  | 0=>⟨hp,.inr (.inl ⟨xs,e⟩)⟩
  | n+1=>⟨⟨hp,.inr (.inl ⟨xs,e⟩)⟩,fun ys z=>by rw [tupOf_at,e] at z;cases z⟩
theorem KnD.dct {p:Addr} {H:Hp} {a:Addr} {kvs:List (Key×V)} (hp:a≠p) (e:H a=some (.dK kvs)):∀ (n:Nat),KnD p n H (.ref a)
  | 0=>⟨hp,.inr (.inr ⟨kvs,e⟩)⟩
  | n+1=>⟨⟨hp,.inr (.inr ⟨kvs,e⟩)⟩,fun ys z=>by rw [tupOf_at,e] at z;cases z⟩
theorem Qea {H:Hp} {a:Addr} {xs:List V} (e:H a=some (.tup xs)):QbU H (.ref a)=some xs:=by rw [tupOf_at,e];rfl
theorem QfU {K:PySem.W.Frag} {p:Addr} {H:Hp}:∀ {x:V},Kn p H x->∃ t,TyOf K H x t/\PySem.W.kitOne K t (.type "int")=some (isI x||isB x)
  | .non,h=>⟨_,.non,rfl⟩
  | .bl _,h=>⟨_,.bl _,rfl⟩
  | .int _,h=>⟨_,.int _,rfl⟩
  | .str _,h=>⟨_,.str _,rfl⟩
  | .ref a,⟨_,h⟩=>by
    rcases h with ⟨xs,e⟩ | ⟨xs,e⟩ | ⟨xs,e⟩
    · exact ⟨_,.tup e,rfl⟩
    · exact ⟨_,.lst e,rfl⟩
    · exact ⟨_,.dK e,rfl⟩
  | .byt _,h=>h.elim
  | .flt _,h=>h.elim
  | .ty _,h=>h.elim
theorem Qh7 {K:PySem.W.Frag} {p:Addr} {H:Hp}:∀ {x:V},Kn p H x->∃ t,TyOf K H x t/\PySem.W.kitOne K t (.type "bool")=some (isB x)
  | .non,h=>⟨_,.non,rfl⟩
  | .bl _,h=>⟨_,.bl _,rfl⟩
  | .int _,h=>⟨_,.int _,rfl⟩
  | .str _,h=>⟨_,.str _,rfl⟩
  | .ref a,⟨_,h⟩=>by
    rcases h with ⟨xs,e⟩ | ⟨xs,e⟩ | ⟨xs,e⟩
    · exact ⟨_,.tup e,rfl⟩
    · exact ⟨_,.lst e,rfl⟩
    · exact ⟨_,.dK e,rfl⟩
  | .byt _,h=>h.elim
  | .flt _,h=>h.elim
  | .ty _,h=>h.elim
def QkQ (H:Hp) (x:V):List Int:=((QbU H x).getD []).map fun y=>match y with
  | .int i=>i
  | _=>0
def IntsT (H:Hp) (x:V) (ns:List Int):Prop:=∃ a,x=.ref a/\H a=some (.tup (ns.map V.int))
theorem IntsT.eq {H:Hp} {x:V} {ns:List Int} (h:IntsT H x ns):QkQ H x=ns:=by
  obtain ⟨a,rfl,e⟩:=h
  unfold QkQ
  rw [Qea e]
  show (ns.map V.int).map _=ns
  rw [List.map_map]
  exact List.map_id _
theorem IntsT.keep {H H':Hp} (s:Same H H') {x:V} {ns:List Int} (h:IntsT H x ns):IntsT H' x ns:=by
  obtain ⟨a,e,q⟩:=h
  exact ⟨a,e,s a _ q⟩
theorem Qap:bootBuiltins "isinstance" = some (.builtin "isinstance"):=by decide +kernel
theorem QeL:bootBuiltins "int" = some (.type "int"):=by decide +kernel
theorem Qct:bootBuiltins "bool" = some (.type "bool"):=by decide +kernel
theorem QaC:bootBuiltins "tuple" = some (.type "tuple"):=by decide +kernel
theorem Qdg:bootBuiltins "list" = some (.type "list"):=by decide +kernel
theorem QkZ:bootBuiltins "str" = some (.type "str"):=by decide +kernel
theorem Qgc:bootBuiltins "all" = some (.builtin "all"):=by decide +kernel
theorem Qbw:bootBuiltins "len" = some (.builtin "len"):=by decide +kernel
theorem Qgb:bootBuiltins "max" = some (.builtin "max"):=by decide +kernel
theorem Qga:bootBuiltins "min" = some (.builtin "min"):=by decide +kernel
end Rk
namespace L2
open PySem PySem.Spec PyProof.Rows
theorem Qc4 {J:It} {body:V->Hp->(Hp->Prop)->Prop} {Qn:Hp->Prop} {H:Hp} (n:Nat) (Pv:Nat->Hp->Prop) (h0:Pv 0 H)
    (hs:∀ i H2,i<n->Pv i H2->J.go i H2/\∀ x H3,J.yld i H2 x H3->∀ k:Hp->Prop,(∀ H6,Pv (i+1) H6->k H6)->body x H3 k) (hd:∀ H2,Pv n H2->J.stop n H2/\Qn H2):Qgi J body Qn H:=by
  refine ⟨fun i m H=>m=n - i/\i<=n/\Pv i H,⟨n,by simp,Nat.zero_le _,h0⟩,?_⟩
  rintro i m H2 ⟨rfl,hi,p⟩
  by_cases hlt:i<n
  · obtain ⟨go,st⟩:=hs i H2 hlt p
    exact .inr ⟨go,fun x H3 y=>st x H3 y _ fun H6 p6=>⟨n - (i+1),by omega,rfl,hlt,p6⟩⟩
  · have e:i=n:=by omega
    subst e
    exact .inl (hd H2 p)
theorem QdA {J:It} {σ:St} {g:TG} {te:TE} {p:Addr} {H1:Hp} {Qn:Hp->Prop} (n:Nat) (hn:n<sizeLine) (F:Nat->Bool) (hp:H1 p=none)
    (hs:∀ i H2,i<n->Same H1 H2->J.go i H2/\∀ x H3,J.yld i H2 x H3->∀ k:VK,(∀ H6,Same H2 H6->k (.bl (F i)) H6)->g x σ H3 fun σ4 H4=>Wk σ σ4/\te σ4 H4 k)
    (hst:∀ H2,Same H1 H2->J.stop n H2) (hq:∀ H2,Same H1 H2->H2 p=some (.lst (((List.range n).map F).map V.bl))->Qn H2) :
    Qgi J (bOf σ g QcS (bElt p te)) Qn (upd H1 p (.lst [])):=by
  refine Qc4 n (fun i H2=>Same H1 H2/\H2 p=some (.lst (((List.range i).map F).map V.bl))) ⟨Qab hp,Qad⟩ (fun i H2 hi ⟨s2,e2⟩=>?_) fun H2 ⟨s2,e2⟩=>⟨hst H2 s2,hq H2 s2 e2⟩
  obtain ⟨go,st⟩:=hs i H2 hi s2
  refine ⟨go,fun x H3 y k hk=>?_⟩
  refine st x H3 y (fun v H6=>∃ ys,H6 p=some (.lst ys)/\ys.length<sizeLine/\k (upd H6 p (.lst (ys++[v])))) fun H6 s6=>?_
  have e6:=s6 p _ e2
  refine ⟨_,e6,?_,hk _ ⟨fun b o e=>?_,?_⟩⟩
  · rw [List.length_map,List.length_map,List.length_range];omega
  · have hb:b≠p:=Qat e hp
    rw [Qai hb];exact s6 b o (s2 b o e)
  · rw [Qad,List.range_succ,List.map_append,List.map_append];rfl
end L2
namespace Rk
open PySem PySem.Spec PyProof.Rows L2
theorem range_getD {α:Type} (L:List α) (d:α):(List.range L.length).map (fun i=>L.getD i d)=L:=by
  refine List.ext_getElem? fun i=>?_
  rw [List.getElem?_map]
  by_cases hi:i<L.length
  · rw [List.getElem?_range hi]
    show some (L.getD i d)=L[i]?
    rw [List.getD_eq_getElem?_getD,List.getElem?_eq_getElem hi];rfl
  · have h1:(List.range L.length)[i]? = none:=List.getElem?_eq_none (by rw [List.length_range];omega)
    have h2:L[i]? = none:=List.getElem?_eq_none (by omega)
    rw [h1,h2];rfl
def QbV (K:PySem.W.Frag):Sp:=fun vs H Q _=>∃ a ns k,vs=[.ref a,.int k]/\SqL K H a ((ns:List Int).map V.int)/\ns.length<2^20/\0<=k/\∀ c,Q (.int c) H
def spPot:Sp:=fun vs H Q _=>∃ c,vs=[.int c]/\∀ p n,H p=none->Q (.ref p) (upd H p (.lst [.int n]))
def Cs (p:Addr) (H:Hp):List V->List (Int×Int)->Prop:=Paired fun x ij=>∃ d,d≠p/\x=.ref d/\H d=some (.tup [.int ij.1,.int ij.2])
theorem Cs.keep {p:Addr} {H H':Hp} (k:∀ d xs,d≠p->H d=some (.tup xs)->H' d=some (.tup xs)):∀ {ps:List V} {L:List (Int×Int)},Cs p H ps L->Cs p H' ps L:=fun h=>Paired.mapP h fun x ij ⟨d,n,e,q⟩=>⟨d,n,e,k d _ n q⟩
theorem Cs.kx {p:Addr} {H H':Hp} (k:KX p H H') {ps:List V} {L:List (Int×Int)} (h:Cs p H ps L):Cs p H' ps L:=h.keep fun d xs n e=>k d _ n e
theorem Cs.upd {p cl:Addr} {H:Hp} {xs:List V} {o:HO} (e:H cl=some (.lst xs)) {ps:List V} {L:List (Int×Int)} (h:Cs p H ps L):Cs p (L2.upd H cl o) ps L:=h.keep fun d ys n q=>by
  rw [Qai]
  · exact q
  · intro z;rw [z,e] at q;cases q
theorem Cs.len {p:Addr} {H:Hp} {ps:List V} {L:List (Int×Int)} (h:Cs p H ps L):ps.length=L.length:=Paired.length h
theorem Cs.mem {p:Addr} {H:Hp}:∀ {ps:List V} {L:List (Int×Int)},Cs p H ps L->∀ x∈ps,∃ ij∈L,∃ d,d≠p/\x=.ref d/\H d=some (.tup [.int ij.1,.int ij.2])
  | _,_,.nil,x,h=>nomatch h
  | _,_,.cons r t,x,h=>by
    rcases List.mem_cons.mp h with e | e
    · subst e;exact ⟨_,List.mem_cons_self,r⟩
    · obtain ⟨ij,m,q⟩:=Cs.mem t x e;exact ⟨ij,List.mem_cons_of_mem _ m,q⟩
def Before (a b:Int×Int):Prop:=a.1<b.1∨(a.1=b.1/\a.2<b.2)
structure Good (h w:Int) (L:List (Int×Int)):Prop where
  asc:L.Pairwise Before
  ins:∀ x∈L,0<=x.1/\x.1<h/\0<=x.2/\x.2<w
  len:L.length<=36
structure BoardAt (p:Addr) (H:Hp) (q:Addr) (h w:Int) (L:List (Int×Int)):Prop where
  ne:q≠p
  it:∃ c ps,c≠p/\H q=some (.tup [.int h,.int w,.ref c])/\H c=some (.tup ps)/\Cs p H ps L
  h1:1<=h
  h6:h<=6
  w1:1<=w
  w6:w<=6
  good:Good h w L
theorem BoardAt.kx {p:Addr} {H H':Hp} {q:Addr} {h w:Int} {L:List (Int×Int)} (B:BoardAt p H q h w L) (k:KX p H H'):BoardAt p H' q h w L:=by
  obtain ⟨ne,⟨c,ps,nc,e1,e2,cs⟩,h1,h6,w1,w6,g⟩:=B
  exact ⟨ne,⟨c,ps,nc,k q _ ne e1,k c _ nc e2,cs.kx k⟩,h1,h6,w1,w6,g⟩
theorem QfZ (x:Int) {m:Int} (h:0<m):0<=x % m/\x % m<m:=⟨Int.emod_nonneg _ (by omega),Int.emod_lt_of_pos _ h⟩
def notStar:Expr->Bool
  | .Starred _ _=>false
  | _=>true
theorem QaD {e:Expr} {es:List Expr} {env:Env} (h:notStar e=true):starEach (e::es) env=(false,eval e env)::starEach es env:=by
  cases e<;>first | rfl | cases h
section
variable {X:Cx}
theorem pa_c {e:Expr} {es:List Expr} {te:TE} {t:TA} (ha:PE X e te) (hr:PA X es t) (hs:notStar e=true:=by rfl):PA X (e::es) (Qca te t):=Qag ha hr (QaD hs)
inductive PEs (X:Cx):List Expr->List TE->Prop
  | nil:PEs X [] []
  | cons {e es te ts}:PE X e te->notStar e=true->PEs X es ts->PEs X (e::es) (te::ts)
def tAll:List TE->TA
  | []=>tNil
  | t::ts=>Qca t (tAll ts)
theorem PEs.pa {es:List Expr} {ts:List TE} (h:PEs X es ts):PA X es (tAll ts):=by
  induction h with
  | nil=>exact Qam
  | cons a s _ ih=>exact pa_c a ih s
end
theorem KnD.mono {p:Addr} {H:Hp} {x:V} {n m:Nat} (h:m<=n) (k:KnD p n H x):KnD p m H x:=by
  induction n with
  | zero=>
            have:m=0:=by omega
            subst this;exact k
  | succ n ih=>
    by_cases e:m=n+1
    · subst e;exact k
    · exact ih (by omega) k.low
def Sm (H:Hp) (x:V):Prop:=∀ ps,QbU H x=some ps->ps.length<sizeLine
def Part (p:Addr) (H:Hp) (x:V):Prop:=KnD p 2 H x/\Sm H x
def Thing (p:Addr) (H:Hp) (x:V):Prop:=KnD p 3 H x/\Sm H x/\∀ xs,QbU H x=some xs->∀ y∈xs,Sm H y
theorem Sm.keep {p:Addr} {H H':Hp} (k:KX p H H') {x:V} (n:Kn p H x) (h:Sm H x):Sm H' x:=fun ps e=>h ps (by rw [<- Qby k n];exact e)
theorem Part.keep {p:Addr} {H H':Hp} (k:KX p H H') {x:V} (h:Part p H x):Part p H' x:=⟨h.1.keep k,h.2.keep k h.1.kn⟩
theorem Thing.keep {p:Addr} {H H':Hp} (k:KX p H H') {x:V} (h:Thing p H x):Thing p H' x:=
  ⟨h.1.keep k,h.2.1.keep k h.1.kn,fun xs e y hy=>by
    have e':QbU H x=some xs:=by rw [<- Qby k h.1.kn];exact e
    exact Sm.keep k (h.1.2 xs e' y hy).kn (h.2.2 xs e' y hy)⟩
theorem Thing.int {p:Addr} {H:Hp} (i:Int):Thing p H (.int i):=⟨KnD.int i 3,(fun _ e=>nomatch e),(fun _ e=>nomatch e)⟩
theorem Thing.bl {p:Addr} {H:Hp} (i:Bool):Thing p H (.bl i):=⟨KnD.bl i 3,(fun _ e=>nomatch e),(fun _ e=>nomatch e)⟩
theorem Thing.str {p:Addr} {H:Hp} (i:Str):Thing p H (.str i):=⟨KnD.str i 3,(fun _ e=>nomatch e),(fun _ e=>nomatch e)⟩
theorem Thing.non {p:Addr} {H:Hp}:Thing p H .non:=⟨KnD.non 3,(fun _ e=>nomatch e),(fun _ e=>nomatch e)⟩
theorem QfK {H:Hp} {a:Addr} {o:HO} (e:H a=some o) (h:tupO (some o)=none) {xs:List V} (z:QbU H (.ref a)=some xs):False:=by
  rw [tupOf_at,e,h] at z;cases z
theorem Thing.lst {p:Addr} {H:Hp} {a:Addr} {xs:List V} (hp:a≠p) (e:H a=some (.lst xs)):Thing p H (.ref a):=⟨KnD.lst hp e 3,(fun _ z=>(QfK e rfl z).elim),(fun _ z=>(QfK e rfl z).elim)⟩
theorem Thing.dct {p:Addr} {H:Hp} {a:Addr} {xs:List (Key×V)} (hp:a≠p) (e:H a=some (.dK xs)):Thing p H (.ref a):=⟨KnD.dct hp e 3,(fun _ z=>(QfK e rfl z).elim),(fun _ z=>(QfK e rfl z).elim)⟩
theorem Qdm {H:Hp} {a:Addr} {xs ys:List V} (e:H a=some (.tup xs)) (z:QbU H (.ref a)=some ys):ys=xs:=by
  rw [Qea e] at z;cases z;rfl
theorem Thing.tup {p:Addr} {H:Hp} {a:Addr} {xs:List V} (hp:a≠p) (e:H a=some (.tup xs)) (hl:xs.length<sizeLine) (h:∀ y∈xs,Part p H y):Thing p H (.ref a):=
  ⟨KnD.tup hp e fun y hy=>(h y hy).1,(fun ps z=>by rw [Qdm e z];exact hl),fun ys z y hy=>by rw [Qdm e z] at hy;exact (h y hy).2⟩
theorem Part.tup {p:Addr} {H:Hp} {a:Addr} {xs:List V} (hp:a≠p) (e:H a=some (.tup xs)) (hl:xs.length<sizeLine) (h:∀ y∈xs,KnD p 1 H y):Part p H (.ref a):=
  ⟨KnD.tup hp e h,fun ps z=>by rw [Qdm e z];exact hl⟩
theorem Thing.part {p:Addr} {H:Hp} {x:V} (h:Thing p H x):Part p H x:=⟨h.1.low,h.2.1⟩
theorem fm_nil {P:V->Prop}:∀ y∈([]:List V),P y:=fun _ h=>nomatch h
theorem Qik {P:V->Prop} {a:V} {l:List V} (h:P a) (k:∀ y∈l,P y):∀ y∈a::l,P y:=fun y hy=>by
  rcases List.mem_cons.mp hy with e | e
  · subst e;exact h
  · exact k y e
theorem Cs.kn {p:Addr} {H:Hp} {ps:List V} {L:List (Int×Int)} (h:Cs p H ps L):∀ x∈ps,KnD p 1 H x:=fun x hx=>by
  obtain ⟨ij,_,d,n,rfl,e⟩:=h.mem x hx
  exact KnD.tup n e (Qik (KnD.int _ 0) (Qik (KnD.int _ 0) fm_nil))
theorem Cs.part {p:Addr} {H:Hp} {c:Addr} {ps:List V} {L:List (Int×Int)} (n:c≠p) (e:H c=some (.tup ps)) (hl:ps.length<sizeLine) (h:Cs p H ps L):Part p H (.ref c):=Part.tup n e hl h.kn
theorem QjT {H:Hp} {p q:Addr} {o:HO} (e:H p=some o) (h:H q=none):q≠p:=fun z=>by rw [z,e] at h;cases h
theorem lt_line {n:Nat} (h:n<=1000):n<sizeLine:=Nat.lt_of_le_of_lt h (by decide)
def Fine (p:Addr):Nat->Hp->V->Prop
  | 0,H,x=>Kn p H x/\Sm H x
  | n+1,H,x=>Kn p H x/\Sm H x/\∀ xs,QbU H x=some xs->∀ y∈xs,Fine p n H y
theorem Fine.kn {p:Addr} {H:Hp} {x:V}:∀ {n:Nat},Fine p n H x->Kn p H x
  | 0,h=>h.1
  | _+1,h=>h.1
theorem Fine.sm {p:Addr} {H:Hp} {x:V}:∀ {n:Nat},Fine p n H x->Sm H x
  | 0,h=>h.2
  | _+1,h=>h.2.1
theorem Fine.knd {p:Addr} {H:Hp}:∀ {n:Nat} {x:V},Fine p n H x->KnD p n H x
  | 0,_,h=>h.1
  | _+1,_,h=>⟨h.1,fun xs e y hy=>(h.2.2 xs e y hy).knd⟩
theorem Fine.keep {p:Addr} {H H':Hp} (k:KX p H H'):∀ {n:Nat} {x:V},Fine p n H x->Fine p n H' x
  | 0,x,h=>⟨h.1.keep k,h.2.keep k h.1⟩
  | n+1,x,h=>⟨h.1.keep k,h.2.1.keep k h.1,fun xs e y hy=>(h.2.2 xs (by rw [<- Qby k h.1];exact e) y hy).keep k⟩
theorem Fine.thing {p:Addr} {H:Hp} {x:V} (h:∀ n,Fine p n H x):Thing p H x:=⟨(h 3).knd,(h 0).2,fun xs e y hy=>((h 1).2.2 xs e y hy).2⟩
theorem Qcs {p:Addr} {H:Hp} {x:V} (k:Kn p H x) (t:QbU H x=none):∀ n,Fine p n H x
  | 0=>⟨k,fun ps e=>by rw [t] at e;cases e⟩
  | _+1=>⟨k,(fun ps e=>by rw [t] at e;cases e),fun ps e=>by rw [t] at e;cases e⟩
theorem Qkf {p a:Addr} {H:Hp} {xs:List V} (hp:a≠p) (e:H a=some (.tup xs)) (hl:xs.length<sizeLine) (h:∀ y∈xs,∀ n,Fine p n H y):∀ n,Fine p n H (.ref a)
  | 0=>⟨⟨hp,.inl ⟨xs,e⟩⟩,fun ps z=>by rw [Qdm e z];exact hl⟩
  | n+1=>⟨⟨hp,.inl ⟨xs,e⟩⟩,(fun ps z=>by rw [Qdm e z];exact hl),fun ys z y hy=>h y (by rw [Qdm e z] at hy;exact hy) n⟩
theorem Qkg {p a:Addr} {H:Hp} {xs:List V} (hp:a≠p) (e:H a=some (.lst xs)):∀ n,Fine p n H (.ref a):=Qcs ⟨hp,.inr (.inl ⟨xs,e⟩)⟩ (by rw [tupOf_at,e];rfl)
section
variable {X:Cx}
end
def QeX:Sp:=fun vs H Q _=>∃ p n f,vs=[.ref p,.int f]/\H p=some (.lst [.int n])/\0<f/\f<1073741824/\∀ r H' m,KX p H H'->H' p=some (.lst [.int m])->0<=r->r<f->Q (.int r) H'
def tTupW (t:TA):TE:=fun σ H Q=>t σ H fun xs H1=>xs.length<=1000/\∀ a H2,Same H1 H2->H1 a=none->H2 a=some (.tup xs)->Q (.ref a) H2
def tLstW (t:TA):TE:=fun σ H Q=>t σ H fun xs H1=>xs.length<=1000/\∀ a H2,Same H1 H2->H1 a=none->H2 a=some (.lst xs)->Q (.ref a) H2
section
variable {X:Cx}
theorem Qlw {es:List Expr} {t:TA} {x1} {pos:Pos} (h:PA X es t):PE X (.Tuple es x1 pos) (tTupW t):=by
  intro pins s σ H Q I hq
  refine wpAny_Tuple_spliced (thn (h pos pins s σ H _ I hq) fun us s1 ⟨xs,H1,I1,r,z,q⟩=>⟨by rw [<- r.length];exact Nat.le_of_lt (lt_line z),?_⟩)
  have hf:H1 s1.heap.objs.size=none:=I1.hok.fresh (Nat.le_refl _)
  refine ⟨.ref s1.heap.objs.size,upd H1 s1.heap.objs.size (.tup xs),I1.laid (t':=s1.toks) (fun b u e=>Heap.get?_push_of_some _ e) (Nat.le_refl _) ?_,rfl,q _ _ (Qab hf) hf Qad⟩
  exact ⟨Nat.le_of_lt (lt_line z),us,r,⟨_,Heap.get?_push_size _ rfl,rfl,_,rfl⟩⟩
theorem Qlx {es:List Expr} {t:TA} {pos:Pos} (h:PA X es t):PE X (.List es pos) (tLstW t):=by
  intro pins s σ H Q I hq
  refine wpAny_List_spliced (thn (h pos pins s σ H _ I hq) fun us s1 ⟨xs,H1,I1,r,z,q⟩=>⟨by rw [<- r.length];exact Nat.le_of_lt (lt_line z),?_⟩)
  have hf:H1 s1.heap.objs.size=none:=I1.hok.fresh (Nat.le_refl _)
  refine ⟨.ref s1.heap.objs.size,upd H1 s1.heap.objs.size (.lst xs),I1.laid (t':=s1.toks) (fun b u e=>Heap.get?_push_of_some _ e) (Nat.le_refl _) ?_,rfl,q _ _ (Qab hf) hf Qad⟩
  exact ⟨Nat.le_of_lt (lt_line z),us,0,r,Heap.get?_push_size _ rfl⟩
end
def FineA (p:Addr) (H:Hp) (x:V):Prop:=∀ n,Fine p n H x
theorem FineA.keep {p:Addr} {H H':Hp} {x:V} (h:FineA p H x) (k:KX p H H'):FineA p H' x:=fun n=>(h n).keep k
theorem FineA.int {p:Addr} {H:Hp} (i:Int):FineA p H (.int i):=Qcs trivial rfl
theorem FineA.bl {p:Addr} {H:Hp} (i:Bool):FineA p H (.bl i):=Qcs trivial rfl
theorem FineA.tup {p a:Addr} {H:Hp} {xs:List V} (hp:a≠p) (e:H a=some (.tup xs)) (hl:xs.length<=1000) (h:∀ y∈xs,FineA p H y):FineA p H (.ref a):=Qkf hp e (lt_line hl) h
theorem FineA.lst {p a:Addr} {H:Hp} {xs:List V} (hp:a≠p) (e:H a=some (.lst xs)):FineA p H (.ref a):=Qkg hp e
theorem FineA.thing {p:Addr} {H:Hp} {x:V} (h:FineA p H x):Thing p H x:=Fine.thing h
theorem FineA.part {p:Addr} {H:Hp} {x:V} (h:FineA p H x):Part p H x:=(Fine.thing h).part
end Rk
namespace Rx
open PySem PySem.Spec PySem.Calls PyProof.Rows L2 PySem.W Builtin Builtin.ObjectAttr Builtin.Getset_descriptor
def ExAt (a C:Addr) (h:Heap):Prop:=∃ o vs,h.get? a=some o/\o.cls=.ref C/\o.data=.fields vs
theorem ExAt.ty {M:Model} {h:Heap} {a C:Addr} (x:ExAt a C h):Looks M h (typeOf (.ref a)) (.ref C):=by
  obtain ⟨o,vs,e,c,_⟩:=x
  exact c ▸ (Looks.ld e).andThen .now
structure ExC (K:PySem.W.Frag) (C:Addr):Prop where
  ga:findIn K (.ref C) "__getattribute__" = some (some (.builtin "BaseException.__getattribute__"))
  hk:findIn K (.ref C) "__getattr__" = some none
  bas:mroIn K C (.type "BaseException")=some true
  cls:(clsIn K C).isSome=true
  att:findIn K (.ref C) "__class__" = some (some (.builtin "object.__class__"))
  spc:specialIn K (.builtin "object.__class__") "__get__" = some (some (.builtin "getset_descriptor.__get__"))
  tks:takesIn K (.builtin "object.__class__")=some true
  mro:mroIn K C (.type "object")=some true
section
variable {prog:Program} {w:World} {A:Around} {E:Value->Shared->Prop} {s:Shared} {K:PySem.W.Frag} {a C:Addr}
end
end Rx
namespace Rx
open PySem PySem.Spec PySem.Calls PyProof.Rows L2
section
variable {X:Cx} {E:XK} {C:Addr} {x:Str} {e0:Expr} {te:TE} {np cpos pos:Pos}
end
def exO (a C:Addr):HO:=.ext (ExAt a C)
structure ByC (K:PySem.W.Frag) (C R:Addr):Prop where
  ty:PySem.W.typeIn K (.ref R)=some (.type "type")
  cls:(PySem.W.clsIn K R).isSome=true
  base:PySem.W.mroIn K R (.type "BaseException")=some true
  sub:PySem.W.mroIn K C (.ref R)=some true
section
variable {X:Cx} {pins:List (Addr×Obj)} {σ:L2.St} {H:Hp} {s:Shared}
end
def XP (X:Cx) (pins:List (Addr×Obj)) (Ex:L2.St->Addr->Hp->Prop) (e:Value) (s1:Shared):Prop:=
  ∃ (σ:L2.St) (C:Addr) (H':Hp) (a t:Addr) (B:Heap),e=.ref a/\Heap.FlyingW B X.stack a (.ref C) (.ref t) s1.heap/\H' a=none/\X.s₀.heap.get? a=none/\(∀ p∈X.pn++pins,p.1≠a) /\
    (∀ (h2:Heap) (tk:Nat),B.StaysIn h2->s1.heap.UpToSlots h2->Inv X pins σ H' { s1 with heap:=h2,toks:=tk })/\Ex σ C H'
abbrev TX:=L2.St->Hp->VK->(Addr->Hp->Prop)->Prop
def PEX (X:Cx) (e:Expr) (t:TX):Prop:=∀ (pins:List (Addr×Obj)) (s:Shared) (σ:L2.St) (H:Hp) (Q:VK) (Ex:Addr->Hp->Prop),Inv X pins σ H s->t σ H Q Ex ->
  wpAny (model X.prog X.w) X.A (eval e X.env) (EP X pins σ Q) (XP X pins fun σ1 C H1=>σ1=σ/\Ex C H1) s
section
variable {X:Cx} {k:Nat} {f:Addr} {fd:FuncData} {ps:List Str} {sp:Sp} {x:Str} {p pos:Pos} {e:Expr} {es:List Expr} {t:TA}
end
section
variable {X:Cx} {R:Addr} {i:Nat} {n r:Str} {call hx:Expr} {tc:TX} {th:TE} {rp np hp hpos pos:Pos}
end
structure RoomM (k:Nat) (A:Around):Prop where
  dp:A.depth+3*k+5<recursionLimit
  un:A.units+16*k+200<cLine
theorem RoomM.mono {j k:Nat} {A:Around} (r:RoomM k A) (h:j<=k):RoomM j A:=⟨by have:=r.dp;omega,by have:=r.un;omega⟩
section
variable {P:Program} {w:World} {K:PySem.W.Frag} {mg:Str->Option Value} {base:Heap}
end
section
variable {X:Cx} {k:Nat} {f:Addr} {fd:FuncData} {ps:List Str} {sp:Sp} {x:Str} {p pos:Pos} {e:Expr} {es:List Expr} {t:TA}
end
section
variable {X:Cx}
theorem bools_eq {bs:List Bool} {us:List Value} (r:Vals (bs.map V.bl) us):us=bs.map Value.bool:=by
  induction bs generalizing us with
  | nil=>cases r;rfl
  | cons b bs ih=>
    cases r with
    | cons r t=>
      cases (show _=Value.bool b from r)
      rw [ih t]
      rfl
def Qfe:Value->Bool
  | .bool b=>b
  | _=>false
theorem QgB (bs:List Bool):(bs.map Value.bool).countP Qfe=bs.countP id:=by
  rw [List.countP_map]
  exact List.countP_congr fun b _=>Iff.rfl
def Qln:V->List V->Hp->VK->Prop:=fun x vs H Q=>∃ (l:Addr) (bs:List Bool),x=.ref l/\vs=[.bl true]/\H l=some (.lst (bs.map V.bl))/\Q (.int (bs.countP id:Nat)) H
theorem mt_count:MtR X "list.count" Qln:=by
  intro pins s σ H x vs v us Q I rx rv h
  obtain ⟨l,bs,rfl,rfl,hH,q⟩:=h
  cases rx
  obtain ⟨u,rfl,ru⟩:=rv.one
  cases (show u=Value.bool true from ru)
  obtain ⟨z,its,n,r,hl,e⟩:=I.lstM hH
  have hi:=bools_eq r
  subst hi
  refine call_meets F.slot_list_count ⟨_,e,rfl⟩ F.entry_list_count (F.args_list_count_2 _ _) (SeqAt.list_countAt l (bs.map Value.bool).toArray n none #[] (.bool true) Qfe) ⟨e,fun y hy=>?_,?_⟩
  · obtain ⟨b,_,rfl⟩:=List.mem_map.mp (List.mem_toArray.mp hy)
    have:=SeqAt.EqAt.bool_bool (A:=X.A.in1) (s:=s) b true
    rw [show (b == true)=b by cases b<;>rfl] at this
    exact this
  · have e2:((bs.map Value.bool).toArray.toList.countP Qfe:Nat)=bs.countP id:=QgB bs
    rw [e2]
    exact ⟨.int (bs.countP id:Nat),H,I.tok _,⟨_,rfl⟩,q⟩
end
end Rx
namespace Rd
open PySem PySem.Spec PyProof.Rows L2
mutual
inductive Dat (H:Hp):V->PyData->Prop
  | non:Dat H .non .none
  | bl (b:Bool):Dat H (.bl b) (.bool b)
  | int (i:Int):Dat H (.int i) (.int i)
  | str (x:Str):PyData.canLay0 (.str x)=true->Dat H (.str x) (.str x)
  | tup {a:Addr} {xs:List V} {ds:List PyData}:H a=some (.tup xs)->Dats H xs ds->Dat H (.ref a) (.tuple ds)
  | lst {a:Addr} {xs:List V} {ds:List PyData}:H a=some (.lst xs)->Dats H xs ds->Dat H (.ref a) (.list ds)
inductive Dats (H:Hp):List V->List PyData->Prop
  | nil:Dats H [] []
  | cons {x:V} {xs:List V} {d:PyData} {ds:List PyData}:Dat H x d->Dats H xs ds->Dats H (x::xs) (d::ds)
end
mutual
theorem QaZ {P:Program} {w:World} {H:Hp} {h:Heap} (ok:HOk P w H h):∀ (d:PyData) (x:V) (v:Value),Dat H x d->RelV x v->(∃ as,Reads h v d as)/\d.canLay0=true
  | .none,_,v,.non,r=>by cases r;exact ⟨⟨_,.none⟩,rfl⟩
  | .bool b,_,v,.bl _,r=>by cases r;exact ⟨⟨_,.bool b⟩,rfl⟩
  | .int i,_,v,.int _,r=>by obtain ⟨t,rfl⟩:=r;exact ⟨⟨_,.int i t⟩,rfl⟩
  | .str z,_,v,.str _ c,r=>by obtain ⟨t,rfl⟩:=r;exact ⟨⟨_,.str z t⟩,c⟩
  | .tuple ds,_,v,.tup (a:=a) (xs:=xs) e q,r=>by
    cases r
    obtain ⟨_,its,rv,o,ho,hc,n,hd⟩:=ok a _ e
    obtain ⟨⟨as,ra⟩,cl⟩:=Qa7 ok ds xs its q rv
    exact ⟨⟨as,.tuple ho hc hd ra⟩,cl⟩
  | .list ds,_,v,.lst (a:=a) (xs:=xs) e q,r=>by
    cases r
    obtain ⟨_,its,n,rv,ho⟩:=ok a _ e
    obtain ⟨⟨as,ra⟩,cl⟩:=Qa7 ok ds xs its q rv
    exact ⟨⟨a::as,.list ho rfl rfl ra⟩,cl⟩
  | .dict _,_,_,q,_=>nomatch q
theorem Qa7 {P:Program} {w:World} {H:Hp} {h:Heap} (ok:HOk P w H h):∀ (ds:List PyData) (xs:List V) (vs:List Value),Dats H xs ds->Vals xs vs->(∃ as,ReadsAll h vs ds as)/\PyData.canLayAll0 ds=true
  | [],_,vs,.nil,r=>by cases r;exact ⟨⟨_,.nil⟩,rfl⟩
  | d::ds,_,vs,.cons (x:=x) (xs:=xs) q qs,r=>by
    cases r with
    | cons r rs=>
      obtain ⟨⟨a1,r1⟩,c1⟩:=QaZ ok d x _ q r
      obtain ⟨⟨a2,r2⟩,c2⟩:=Qa7 ok ds xs _ qs rs
      exact ⟨⟨_,.cons r1 r2⟩,by simp [PyData.canLayAll0,c1,c2]⟩
end
mutual
theorem Qf3 {H H':Hp} (s:Same H H'):∀ (d:PyData) (x:V),Dat H x d->Dat H' x d
  | .none,_,.non=>.non
  | .bool _,_,.bl _=>.bl _
  | .int _,_,.int _=>.int _
  | .str _,_,.str _ c=>.str _ c
  | .tuple ds,_,.tup (xs:=xs) e q=>.tup (s _ _ e) (Qb6 s ds xs q)
  | .list ds,_,.lst (xs:=xs) e q=>.lst (s _ _ e) (Qb6 s ds xs q)
  | .dict _,_,q=>nomatch q
theorem Qb6 {H H':Hp} (s:Same H H'):∀ (ds:List PyData) (xs:List V),Dats H xs ds->Dats H' xs ds
  | [],_,.nil=>.nil
  | d::ds,_,.cons (x:=x) (xs:=xs) q qs=>.cons (Qf3 s d x q) (Qb6 s ds xs qs)
end
theorem Dat.same {H H':Hp} {x:V} {d:PyData} (q:Dat H x d) (s:Same H H'):Dat H' x d:=Qf3 s d x q
theorem Dats.same {H H':Hp} {xs:List V} {ds:List PyData} (q:Dats H xs ds) (s:Same H H'):Dats H' xs ds:=Qb6 s ds xs q
theorem Dats.length {H:Hp}:∀ {xs:List V} {ds:List PyData},Dats H xs ds->xs.length=ds.length
  | _,_,.nil=>rfl
  | _,_,.cons _ q=>by rw [List.length_cons,List.length_cons,q.length]
theorem Dats.get {H:Hp}:∀ {xs:List V} {ds:List PyData},Dats H xs ds->∀ (i:Nat) (x:V),xs[i]? = some x->∃ d,ds[i]? = some d/\Dat H x d
  | _,_,.nil,i,x,e=>by simp at e
  | _,_,.cons q qs,0,x,e=>by simp at e;subst e;exact ⟨_,rfl,q⟩
  | _,_,.cons q qs,i+1,x,e=>qs.get i x (by simpa using e)
theorem Dats.app {H:Hp}:∀ {xs ys:List V} {ds es:List PyData},Dats H xs ds->Dats H ys es->Dats H (xs++ys) (ds++es)
  | _,_,_,_,.nil,q=>q
  | _,_,_,_,.cons a b,q=>.cons a (b.app q)
section
variable {X:Cx}
def rEqD (X:Cx):R2:=fun x y H Q=>∃ dx dy,Dat H x dx/\Dat H y dy/\X.A.units+min dx.depth dy.depth<cLine/\Q (.bl (PyData.eqv dx dy)) H
theorem op_eqD:OpR X (compareOp .Eq) (rEqD X):=by
  intro pins s σ H x y v u Q I rx ry h
  obtain ⟨dx,dy,qx,qy,hu,q⟩:=h
  obtain ⟨⟨as,ra⟩,ca⟩:=QaZ I.hok dx x v qx rx
  obtain ⟨⟨bs,rb⟩,cb⟩:=QaZ I.hok dy y u qy ry
  exact SeqAt.compareEq_reads ra rb ca cb hu ⟨.bl _,H,I,rfl,q⟩
open Classical in
noncomputable def eqH (h:Heap) (d:PyData) (y:Value):Bool:=decide (∃ e as,Reads h y e as/\e.canLay0=true/\PyData.eqv e d=true)
open Classical in
theorem eqH_t {h:Heap} {d:PyData} {y:Value} (q:∃ e as,Reads h y e as/\e.canLay0=true/\PyData.eqv e d=true):eqH h d y=true:=by
  unfold eqH
  exact decide_eq_true q
open Classical in
theorem eqH_f {h:Heap} {d:PyData} {y:Value} (q:¬ ∃ e as,Reads h y e as/\e.canLay0=true/\PyData.eqv e d=true):eqH h d y=false:=by
  unfold eqH
  exact decide_eq_false q
theorem Qin {h:Heap} {d e:PyData} {y:Value} {as:List Addr} (r:Reads h y e as) (c:e.canLay0=true):eqH h d y=PyData.eqv e d:=by
  cases q:PyData.eqv e d with
  | true=>exact eqH_t ⟨e,as,r,c,q⟩
  | false=>
    refine eqH_f fun ⟨e',as',r',c',q'⟩=>?_
    rw [<- SeqAt.Reads.unique e e' y as as' c r r',q] at q'
    cases q'
theorem Qfn {h:Heap} {d:PyData}:∀ {vs:List Value} {ds:List PyData} {as:List Addr},ReadsAll h vs ds as->PyData.canLayAll0 ds=true->vs.any (eqH h d)=ds.any fun e=>PyData.eqv e d
  | _,_,_,.nil,_=>rfl
  | _,_,_,.cons r rs,c=>by
    simp only [PyData.canLayAll0,Bool.and_eq_true] at c
    rw [List.any_cons,List.any_cons,Qin r c.1,Qfn rs c.2]
theorem QdT {A:Around} {s:Shared} {d:PyData} {v:Value} {bs:List Addr} (rv:Reads s.heap v d bs) (cv:d.canLay0=true):∀ {vs:List Value} {ds:List PyData} {as:List Addr},ReadsAll s.heap vs ds as->PyData.canLayAll0 ds=true->A.units+d.depth<cLine ->
    ∀ u∈vs,SeqAt.EqAt A s u v (eqH s.heap d u)
  | _,_,_,.nil,_,_=>fun u hu=>nomatch hu
  | _,_,_,.cons (d:=e) r rs,c,hu=>fun u hm=>by
    simp only [PyData.canLayAll0,Bool.and_eq_true] at c
    rcases List.mem_cons.mp hm with z | z
    · subst z
      rw [Qin r c.1]
      exact SeqAt.eqAt_reads e d A s _ v _ bs r rv c.1 cv (Nat.lt_of_le_of_lt (Nat.add_le_add_left (Nat.min_le_right _ _) _) hu)
    · exact QdT rv cv rs c.2 hu u z
def rInD (X:Cx) (neg:Bool):R2:=fun x y H Q=>∃ c ps ds d,y=.ref c/\H c=some (.tup ps)/\Dats H ps ds/\Dat H x d/\X.A.in1.units+d.depth<cLine/\Q (.bl (if neg then !(ds.any fun e=>PyData.eqv e d) else ds.any fun e=>PyData.eqv e d)) H
theorem op_inD:OpR X (compareOp .In) (rInD X false):=by
  intro pins s σ H x y v u Q I rx ry h
  obtain ⟨c,ps,ds,d,rfl,hc,qs,qx,hu,q⟩:=h
  cases ry
  obtain ⟨⟨as,ra⟩,ca⟩:=QaZ I.hok d x v qx rx
  obtain ⟨_,its,rv,tp⟩:=I.hok c _ hc
  obtain ⟨⟨bs,rb⟩,cb⟩:=Qa7 I.hok ds ps its qs rv
  refine SeqAt.in_tupleAt (eqH s.heap d) tp (fun w hw=>QdT ra ca rb cb hu w (List.mem_toArray.mp hw)) ⟨.bl _,H,I,rfl,?_⟩
  rw [show its.toArray.any (eqH s.heap d)=its.any (eqH s.heap d) by simp,Qfn rb cb]
  exact q
end
section
variable {X:Cx}
end
end Rd
namespace L2
open PySem PySem.Spec PyProof.Rows
theorem QiN:bootBuiltins "enumerate" = some (.type "enumerate"):=by decide +kernel
section
variable {X:Cx}
end
section
variable {prog:Program} {w:World} {A:Around} {R:Result->Shared->Prop} {s:Shared}
theorem Qed {elt tg iter:Expr} {ifs:List Expr} {g0:Comprehension} {scope:Scope} {pos:Pos} {it acc:Value} {env:Env}
    (h0:codeAny (model prog w) A (.compLoop (.ListComp elt [g0,⟨tg,iter,ifs,0⟩] scope pos) 1 it acc env) R s)
    (h:wpAny (model prog w) A (pyIter it) (fun it' s'=>codeAny (model prog w) A (.compLoop (.ListComp elt [g0,⟨tg,iter,ifs,0⟩] scope pos) 1 it' acc env) R s') (notedBy (model prog w) A env fun x s'=>R (.error x) s') s) :
    codeAny (model prog w) A (.compStart (.ListComp elt [g0,⟨tg,iter,ifs,0⟩] scope pos) 1 it acc env) R s:=by
  refine codeAny_of_tree ?_
  show wpAny _ _ ((compStart (.ListComp elt [g0,⟨tg,iter,ifs,0⟩] scope pos) 1 it acc env).onRaise (fun x=>do noteFrame x env;standAt theWindowsPlace)) _ _ s
  refine wpAny_notedAt ?_
  unfold compStart
  show wpAny _ _ (ask >>= _) _ _ s
  refine wpAny_bind (wpAny_askSetting (wpAny_ite ?_))
  split
  · first
      | exact wpAny_bind (wpAny_pure (wpAny_pure ⟨rfl,h0⟩))
      | exact wpAny_pure ⟨rfl,h0⟩
  · first
      | exact wpAny_bind (wpAny_rule (wpAny_bind (wpAny_standAt (wpAny_bind (wpAny_mono h (fun it' s' h'=>wpAny_pure ⟨rfl,h'⟩) fun _ _ x=>x)))))
      | exact wpAny_bind (wpAny_rule (wpAny_bind (wpAny_standAt (wpAny_bind (wpAny_mono h (fun it' s' h'=>wpAny_pure (wpAny_pure ⟨rfl,h'⟩)) fun _ _ x=>x)))))
end
theorem QgQ {Y:Cx} {elt tg iter:Expr} {ifs:List Expr} {g0:Comprehension} {scope:Scope} {cpos:Pos} {it D:Addr} (Q:PySem.Fin->Shared->Prop) (E:Value->Shared->Prop) (s:Shared)
    (h:wpAny (model Y.prog Y.w) Y.A (pyNext (.ref it)) (fun r s1=>match r with
      | none=>Q (.done .next) s1
      | some v=>wpAny (model Y.prog Y.w) Y.A (letOwnedTupleGo tg (.ref it) v) (fun _ s2=>Qkr Y tg ifs (QiY Y elt D) v (fun s3=>Q (.again (.compLoop (.ListComp elt [g0,⟨tg,iter,ifs,0⟩] scope cpos) 1 (.ref it) (.ref D) Y.env)) s3) s2) E s1) E s) :
    wpAny (model Y.prog Y.w) Y.A (compTurn (.ListComp elt [g0,⟨tg,iter,ifs,0⟩] scope cpos) 1 (.ref it) (.ref D) Y.env) Q E s:=by
  have e:compTurn (.ListComp elt [g0,⟨tg,iter,ifs,0⟩] scope cpos) 1 (.ref it) (.ref D) Y.env=(do
      standAt iter.pos
      match <- pyNext (.ref it) with
      | none=>pure (.done .next)
      | some v=>
        letOwnedTupleGo tg (.ref it) v
        assign tg Y.env v
        let mut ok:=true
        for c in ifs do
          if ok then ok <- isTrue c Y.env (eval c Y.env)
        if ok then
          (do let _ <- call (.builtin "list.append") [.ref D,<- eval elt Y.env])
        again (.compLoop (.ListComp elt [g0,⟨tg,iter,ifs,0⟩] scope cpos) 1 (.ref it) (.ref D) Y.env)):=by rfl
  rw [e]
  refine wpAny_bind (wpAny_standAt (wpAny_bind (thn h fun r s1 h1=>?_)))
  cases r with
  | none=>exact wpAny_pure h1
  | some v=>
    refine wpAny_bind (thn h1 fun _ s2 h2=>?_)
    refine wpAny_bind (wpAny_mono h2 (fun _ s4 h4=>wpAny_bind (wpAny_mono h4 (fun ok s5 h5=>?_) fun _ _ f=>f.elim)) fun _ _ f=>f.elim)
    cases ok with
    | false=>exact wpAny_pure h5
    | true=>exact wpAny_bind (wpAny_bind (wpAny_mono h5 (fun x s6 h6=>wpAny_bind (wpAny_mono h6 (fun _ s7 h7=>wpAny_pure (wpAny_pure h7)) fun _ _ f=>f.elim)) fun _ _ f=>f.elim))
def QiX (Y:Cx) (e:Expr) (iter:Expr) (D:Addr):Act:=fun Q s=>wpAny (model Y.prog Y.w) Y.A (eval iter Y.env) (fun x s1=>wpAny (model Y.prog Y.w) Y.A (pyIter x)
  (fun itv s2=>codeAny (model Y.prog Y.w) Y.A (.compStart e 1 itv (.ref D) Y.env) (fun r s3=>match r with | .ok _=>Q s3 | .error _=>False) s2) (fun _ _=>False) s1) (fun _ _=>False) s
def bNest (wi:TI) (g:TG) (tc:TT) (p:Addr) (te:TE):St->Hp->(Hp->Prop)->Prop:=fun σ H k=>wi σ H fun J H1=>Qgi J (bOf σ g tc (bElt p te)) k H1
theorem QiP {Y:Cx} {σ:St} {elt tg iter:Expr} {ifs:List Expr} {g0:Comprehension} {scope:Scope} {cpos:Pos} {D:Addr} {wi:TI} {g:TG} {tc:TT} {te:TE} (hx:Y.xe=fun _ _=>False) (hc:Y.calm=true)
    (hi:PI Y tg iter wi) (hg:PG Y tg g) (ht:PTs Y ifs tc) (he:PE Y elt te):QeT Y σ (QiX Y (.ListComp elt [g0,⟨tg,iter,ifs,0⟩] scope cpos) iter D) (bNest wi g tc D te σ):=by
  intro pins s H k Q I h hQ
  have hx':∀ (v:Value) (s':Shared),Y.xe v s'->False:=fun v s' z=>by rw [hx] at z;exact z
  refine wpAny_mono (hi pins s σ H _ I h) (fun v s1 h1=>wpAny_mono h1 (fun itv s2 h2=>?_) hx') hx'
  obtain ⟨it,fp,tn,J,H2,e,I2,T,st2,f2,hW⟩:=h2
  subst e
  have loop:codeAny (model Y.prog Y.w) Y.A (.compLoop (.ListComp elt [g0,⟨tg,iter,ifs,0⟩] scope cpos) 1 (.ref it) (.ref D) Y.env) (fun r s3=>match r with | .ok _=>Q s3 | .error _=>False) s2:=
    Qb7 (Y:=Y) (gens:=[g0,⟨tg,iter,ifs,0⟩]) (d:=1) hc T st2 f2 (fun Q E s h=>QgQ Q E s h) (fun x u r=>Qd5 hx hg ht (fun σ4=>Qd6 hx he) x u r) I2 hW fun s' H' I' q=>hQ s' H' I' q
  exact Qed loop (T.self _ 0 _ _ _ st2 loop)
theorem Qgg {Y:Cx} {elt tg iter tg2 iter2:Expr} {ifs ifs2:List Expr} {scope:Scope} {cpos:Pos} {it D:Addr} (hs:∀ x,foldedSetIterable iter2 Y.env x=pure x) (Q:PySem.Fin->Shared->Prop) (E:Value->Shared->Prop) (s:Shared)
    (h:wpAny (model Y.prog Y.w) Y.A (pyNext (.ref it)) (fun r s1=>match r with
      | none=>Q (.done .next) s1
      | some v=>wpAny (model Y.prog Y.w) Y.A (letOwnedTupleGo tg (.ref it) v) (fun _ s2=>Qkr Y tg ifs (QiX Y (.ListComp elt [⟨tg,iter,ifs,0⟩,⟨tg2,iter2,ifs2,0⟩] scope cpos) iter2 D) v (fun s3=>Q (.again (.compLoop (.ListComp elt [⟨tg,iter,ifs,0⟩,⟨tg2,iter2,ifs2,0⟩] scope cpos) 0 (.ref it) (.ref D) Y.env)) s3) s2) E s1) E s) :
    wpAny (model Y.prog Y.w) Y.A (compTurn (.ListComp elt [⟨tg,iter,ifs,0⟩,⟨tg2,iter2,ifs2,0⟩] scope cpos) 0 (.ref it) (.ref D) Y.env) Q E s:=by
  have e:compTurn (.ListComp elt [⟨tg,iter,ifs,0⟩,⟨tg2,iter2,ifs2,0⟩] scope cpos) 0 (.ref it) (.ref D) Y.env=(do
      standAt iter.pos
      match <- pyNext (.ref it) with
      | none=>pure (.done .next)
      | some v=>
        letOwnedTupleGo tg (.ref it) v
        assign tg Y.env v
        let mut ok:=true
        for c in ifs do
          if ok then ok <- isTrue c Y.env (eval c Y.env)
        if ok then
          let x <- eval iter2 Y.env
          standAt iter2.pos
          let x <- foldedSetIterable iter2 Y.env x
          let _ <- runOwn (.compStart (.ListComp elt [⟨tg,iter,ifs,0⟩,⟨tg2,iter2,ifs2,0⟩] scope cpos) 1 (<- holding [x] (pyIter x)) (.ref D) Y.env) Y.env
        again (.compLoop (.ListComp elt [⟨tg,iter,ifs,0⟩,⟨tg2,iter2,ifs2,0⟩] scope cpos) 0 (.ref it) (.ref D) Y.env)):=by rfl
  rw [e]
  refine wpAny_bind (wpAny_standAt (wpAny_bind (thn h fun r s1 h1=>?_)))
  cases r with
  | none=>exact wpAny_pure h1
  | some v=>
    refine wpAny_bind (thn h1 fun _ s2 h2=>?_)
    refine wpAny_bind (wpAny_mono h2 (fun _ s4 h4=>wpAny_bind (wpAny_mono h4 (fun ok s5 h5=>?_) fun _ _ f=>f.elim)) fun _ _ f=>f.elim)
    cases ok with
    | false=>exact wpAny_pure h5
    | true=>
      refine wpAny_bind (wpAny_mono h5 (fun x s6 h6=>wpAny_bind (wpAny_standAt ?_)) fun _ _ f=>f.elim)
      rw [hs x]
      refine wpAny_bind (wpAny_pure (wpAny_bind (wpAny_holding (wpAny_mono h6 (fun itv s7 h7=>?_) fun _ _ f=>f.elim))))
      refine wpAny_bind (wpAny_runOwn (h:=none) (codeAny_mono h7 fun r s8 h8=>?_))
      cases r with
      | error z=>exact h8.elim
      | ok fl=>exact wpAny_pure h8
def Qkv (cap:List (Option Nat)) (wi:TI) (g:TG) (tc:TT) (wi2:TI) (g2:TG) (tc2:TT) (te:TE):TE:=fun σ H Q=>wi σ H fun J H1=>∀ p,H1 p=none->Qgi J (bOf (capS cap σ) g tc (bNest wi2 g2 tc2 p te)) (Q (.ref p)) (upd H1 p (.lst []))
end L2
namespace Rk
open PySem PySem.Spec PyProof.Rows L2 Rd
def pairD (ij:Int×Int):PyData:=.tuple [.int ij.1,.int ij.2]
end Rk
namespace Rr
open PySem PyProof.Rows
section
variable {prog:Program} {w:World} {A:Around} {E:Value->Shared->Prop} {s:Shared}
end
end Rr
namespace L2
open PySem PySem.Spec PyProof.Rows
def tRange (ta:TA):TE:=fun σ H Q=>ta σ H fun vs H1=>∃ j,vs=[.int j]/\∀ r H2,Same H1 H2->H1 r=none->H2 r=some (.rng 0 j)->Q (.ref r) H2
section
variable {X:Cx}
theorem Qjq {a:Expr} {ta:TA} {p pos:Pos} (hg:Gl X "range") (hm:X.mg "range" = none) (ha:PA X [a] ta) (hs:starEach [a] X.env=[(false,eval a X.env)]:=by rfl):PE X (.Call (.Name "range" p) [a] [] pos) (tRange ta):=by
  intro pins s σ H Q I h
  refine wpAny_Call_Name_kw (QcD I hg hm boot_range ?_)
  refine PyProof.Rows.callWith_type1 (thn (ha pos pins s σ H _ I h) fun us s1 ⟨vs,H1,I1,r1,q1⟩=>?_) hs rfl
  obtain ⟨j,e,q⟩:=q1
  subst e
  obtain ⟨u,rfl,ru⟩:=QbK r1
  obtain ⟨t,rfl⟩:=ru
  refine call_range_1 ?_
  have hf:H1 s1.heap.objs.size=none:=I1.hok.fresh (Nat.le_refl _)
  refine ⟨.ref s1.heap.objs.size,upd H1 s1.heap.objs.size (.rng 0 j),I1.laid (t':=s1.toks+1+1) (fun b u e=>Heap.get?_push_of_some _ e) (Nat.le_refl _) ⟨_,_,_,Heap.get?_push_size _ rfl⟩,rfl,q _ _ (Qab hf) hf Qad⟩
theorem QgA {acc:Array Value} {n:Nat} (h:ItemsOf (fun i v=>∃ t,v=Value.int ((0:Int)+i*1) t) acc n):Vals ((List.range n).map fun i=>V.int (i:Nat)) acc.toList:=by
  obtain ⟨hs,hi⟩:=h
  have key:∀ (m:Nat) (l:List Value) (o:Nat),l.length=m->(∀ i v,l[i]? = some v->∃ t,v=Value.int ((0:Int)+((o+i:Nat):Int)*1) t)->Vals ((List.range' o m).map fun i=>V.int (i:Nat)) l:=by
    intro m
    induction m with
    | zero=>intro l o hl _;cases l with
      | nil=>exact .nil
      | cons a b=>cases hl
    | succ m ih=>
      intro l o hl hv
      cases l with
      | nil=>cases hl
      | cons a b=>
        rw [List.range'_succ,List.map_cons]
        refine .cons ?_ (ih b (o+1) (by simpa using hl) fun i v e=>?_)
        · obtain ⟨t,rfl⟩:=hv 0 a rfl
          exact ⟨t,by simp⟩
        · obtain ⟨t,rfl⟩:=hv (i+1) v (by simpa using e)
          exact ⟨t,by congr 3;omega⟩
  rw [List.range_eq_range']
  refine key n acc.toList 0 (by simpa using hs) fun i v e=>?_
  have:=hi i v (by simpa using e)
  simpa using this
end
end L2
namespace Rs
open PySem PySem.W PyProof.Rows
def sp {α:Type} (n:Nat) (c:Nat->Nat->Bool):KasT α->(α->Prop)->Prop
  | .ret a,Q=>Q a
  | .ask i j f,Q=>i<n/\j<n/\sp n c (f (c i j)) Q
theorem Qa8 {α:Type} {n:Nat} {c:Nat->Nat->Bool} {Q Q':α->Prop} (h:∀ a,Q a->Q' a):∀ {t:KasT α},sp n c t Q->sp n c t Q'
  | .ret a,q=>h a q
  | .ask i j f,q=>⟨q.1,q.2.1,Qa8 h (t:=f (c i j)) q.2.2⟩
theorem Qcb {α β:Type} {n:Nat} {c:Nat->Nat->Bool} {f:α->KasT β} {Q:β->Prop}:∀ {t:KasT α},sp n c t (fun a=>sp n c (f a) Q)->sp n c (t.bind f) Q
  | .ret a,q=>q
  | .ask i j g,q=>⟨q.1,q.2.1,Qcb (t:=g (c i j)) q.2.2⟩
theorem Qfq {α:Type} {n:Nat} {c:Nat->Nat->Bool} {cmp:Nat->Nat->(Bool->Shared->Prop)->Shared->Prop} {s:Shared} {Q:α->Shared->Prop} (hc:∀ i j (C:Bool->Shared->Prop),i<n->j<n->C (c i j) s->cmp i j C s) :
    ∀ {t:KasT α},sp n c t (fun a=>Q a s)->t.kasWp cmp Q s
  | .ret a,q=>q
  | .ask i j f,q=>hc i j _ q.1 q.2.1 (Qfq hc (t:=f (c i j)) q.2.2)
section
variable {n:Nat} {K:Nat->Int}
abbrev cK (K:Nat->Int) (i j:Nat):Bool:=decide (K i<K j)
structure Good (n:Nat) (p:Array Nat):Prop where
  perm:p.toList.Perm (List.range n)
theorem Good.size {p:Array Nat} (g:Good n p):p.size=n:=by
  have:=g.perm.length_eq
  rw [List.length_range,Array.length_toList] at this
  exact this
def at_ (p:Array Nat) (i:Nat):Nat:=p.getD i 0
theorem QeR {p:Array Nat} {i:Nat} (h:i<p.size):p[i]? = some (at_ p i):=by
  unfold at_
  rw [Array.getD_eq_getD_getElem?,Array.getElem?_eq_getElem h]
  rfl
theorem Qko {p q:Array Nat} {i j:Nat} (h:p[i]? = q[j]?):at_ p i=at_ q j:=by
  unfold at_
  rw [Array.getD_eq_getD_getElem?,Array.getD_eq_getD_getElem?,h]
theorem Good.lt {p:Array Nat} (g:Good n p) (h0:0<n) (i:Nat):at_ p i<n:=by
  by_cases h:i<p.size
  · have e:=QeR h
    have m:at_ p i∈p.toList:=by
      have:=Array.mem_of_getElem? e
      exact Array.mem_toList_iff.mpr this
    exact List.mem_range.mp (g.perm.mem_iff.mp m)
  · unfold at_
    rw [Array.getD_eq_getD_getElem?,Array.getElem?_eq_none (by omega)]
    exact h0
theorem Good.inj {p:Array Nat} (g:Good n p) {i j:Nat} (hi:i<n) (hj:j<n) (e:at_ p i=at_ p j):i=j:=by
  have nd:p.toList.Nodup:=g.perm.nodup_iff.mpr List.nodup_range
  have hs:=g.size
  have hi':i<p.toList.length:=by rw [Array.length_toList];omega
  have hj':j<p.toList.length:=by rw [Array.length_toList];omega
  have ei:p.toList[i]=at_ p i:=by
    have:=QeR (p:=p) (i:=i) (by omega)
    rw [Array.getElem?_eq_getElem (by omega)] at this
    rw [Array.getElem_toList]
    exact Option.some.inj this
  have ej:p.toList[j]=at_ p j:=by
    have:=QeR (p:=p) (i:=j) (by omega)
    rw [Array.getElem?_eq_getElem (by omega)] at this
    rw [Array.getElem_toList]
    exact Option.some.inj this
  have pw:=List.pairwise_iff_getElem.mp nd
  rcases Nat.lt_trichotomy i j with h | h | h
  · exact absurd (ei.trans (e.trans ej.symm)) (pw i j hi' hj' h)
  · exact h
  · exact absurd (ej.trans (e.symm.trans ei.symm)) (pw j i hj' hi' h)
def kk (K:Nat->Int) (p:Array Nat) (i:Nat):Int:=K (at_ p i)
def Adj (K:Nat->Int) (p:Array Nat) (m:Nat):Prop:=∀ i,i+1<m->kk K p i<=kk K p (i+1)
def Dsc (K:Nat->Int) (p:Array Nat) (m:Nat):Prop:=∀ i,i+1<m->kk K p (i+1)<kk K p i
theorem Adj.le {p:Array Nat} {m:Nat} (h:Adj K p m) {i:Nat}:∀ {j:Nat},i<=j->j<m->kk K p i<=kk K p j
  | 0,hij,_=>by cases Nat.le_zero.mp hij;exact Int.le_refl _
  | j+1,hij,hj=>by
    by_cases e:i=j+1
    · rw [e];exact Int.le_refl _
    · exact Int.le_trans (h.le (i:=i) (j:=j) (by omega) (by omega)) (h j hj)
theorem Qjh {p:Array Nat} (g:Good n p) (i j:Nat):Good n (kas_rev p i j):=⟨(Array.perm_iff_toList_perm.mp (mirror_perm p i j _)).trans g.perm⟩
theorem QkA {p:Array Nat} {m k:Nat} (hm:m<=p.size) (hk:k<m):at_ (kas_rev p 0 m) k=at_ p (m - 1 - k):=by
  refine Qko ?_
  have:=getElem?_mirror_all (xs:=p) (i:=0) (j:=m) hm k
  rw [if_pos ⟨Nat.zero_le _,hk⟩,Nat.zero_add] at this
  exact this
theorem Qlj {p:Array Nat} {m:Nat} (hm:m<=p.size) (d:Dsc K p m):Adj K (kas_rev p 0 m) m:=by
  intro i hi
  unfold kk
  rw [QkA hm (by omega),QkA hm hi]
  have:=d (m - 1 - (i+1)) (by omega)
  have e:m - 1 - (i+1)+1=m - 1 - i:=by omega
  rw [e] at this
  exact Int.le_of_lt this
theorem QgU {p:Array Nat} (g:Good n p) (h0:0<n):∀ (f a:Nat),1<=a->Adj K p a ->
    sp n (cK K) (kas_asc p f a) (fun m=>a<=m/\m<=a+f/\Adj K p m/\(m=a+f∨kk K p m<kk K p (m - 1)))
  | 0,a,_,h=>⟨Nat.le_refl _,Nat.le_refl _,h,.inl rfl⟩
  | f+1,a,ha,h=>by
    refine ⟨g.lt h0 a,g.lt h0 (a - 1),?_⟩
    show sp n (cK K) (if decide (kk K p a<kk K p (a - 1))=true then .ret a else kas_asc p f (a+1)) _
    by_cases e:kk K p a<kk K p (a - 1)
    · rw [decide_eq_true e,if_pos rfl]
      exact ⟨Nat.le_refl _,Nat.le_add_right _ _,h,.inr e⟩
    · rw [decide_eq_false e,if_neg (by simp)]
      refine Qa8 ?_ (QgU g h0 f (a+1) (by omega) ?_)
      · rintro m ⟨h1,h2,h3,h4⟩
        exact ⟨by omega,by omega,h3,h4.imp (fun q=>by omega) id⟩
      · intro i hi
        by_cases q:i+1<a
        · exact h i q
        · have e1:i=a - 1:=by omega
          have e2:i+1=a:=by omega
          rw [e2,e1]
          exact Int.not_lt.mp e
theorem Qmo (inj:∀ i j,i<n->j<n->K i=K j->i=j) {p:Array Nat} (g:Good n p) {i j:Nat} (hi:i<n) (hj:j<n) (h:i≠j):kk K p i≠kk K p j:=
  fun e=>h (g.inj hi hj (inj _ _ (g.lt (by omega) i) (g.lt (by omega) j) e))
theorem QgT (inj:∀ i j,i<n->j<n->K i=K j->i=j) {p:Array Nat} (g:Good n p) (h0:0<n):∀ (f a:Nat),1<=a->a+f<=n->Dsc K p a ->
    sp n (cK K) (kas_desc f p a 0) (fun r=>r.1=p/\r.2.2=0/\a<=r.2.1/\r.2.1<=a+f/\Dsc K p r.2.1)
  | 0,a,_,_,h=>⟨rfl,rfl,Nat.le_refl _,Nat.le_refl _,h⟩
  | f+1,a,ha,haf,h=>by
    refine ⟨g.lt h0 a,g.lt h0 (a - 1),?_⟩
    show sp n (cK K) (if decide (kk K p a<kk K p (a - 1))=true then (if 0 > 0 then kas_desc f (kas_rev p (a - (0+1)) a) (a+1) 0 else kas_desc f p (a+1) 0) else _) _
    by_cases e:kk K p a<kk K p (a - 1)
    · rw [decide_eq_true e,if_pos rfl,if_neg (by omega)]
      refine Qa8 ?_ (QgT inj g h0 f (a+1) (by omega) (by omega) ?_)
      · rintro r ⟨h1,h2,h3,h4,h5⟩
        exact ⟨h1,h2,by omega,by omega,h5⟩
      · intro i hi
        by_cases q:i+1<a
        · exact h i q
        · have e1:i=a - 1:=by omega
          have e2:i+1=a:=by omega
          rw [e2,e1]
          exact e
    · rw [decide_eq_false e,if_neg (by simp)]
      refine ⟨g.lt h0 (a - 1),g.lt h0 a,?_⟩
      show sp n (cK K) (if decide (kk K p (a - 1)<kk K p a)=true then .ret (p,a,0) else _) _
      have ne:=Qmo (K:=K) inj g (i:=a - 1) (j:=a) (by omega) (by omega) (by omega)
      rw [decide_eq_true (by omega),if_pos rfl]
      exact ⟨rfl,rfl,Nat.le_refl _,Nat.le_add_right _ _,h⟩
def Run (K:Nat->Int) (n:Nat) (r:Nat×Array Nat):Prop:=Good n r.2/\1<=r.1/\r.1<=n/\Adj K r.2 r.1
theorem Qi6 {p:Array Nat} (g:Good n p) {m:Nat} (h1:1<=m) (hm:m<=n) (d:Dsc K p m):sp n (cK K) (kas_tail3 m n p) (Run K n):=by
  refine Qcb ?_
  have hs:=g.size
  have g':=Qjh g 0 m
  refine Qa8 ?_ (QgU g' (by omega) (n - m) m h1 (Qlj (by omega) d))
  rintro k ⟨a,b,c,_⟩
  exact ⟨g',by omega,by omega,c⟩
theorem QeW (inj:∀ i j,i<n->j<n->K i=K j->i=j) {p:Array Nat} (g:Good n p) {m:Nat} (hm:m+1<=n) (d:Dsc K p (m+1)):sp n (cK K) (kas_descPart m n p) (Run K n):=by
  refine Qcb ?_
  refine Qa8 ?_ (QgT inj g (by omega) (n - (m+1)) (m+1) (by omega) (by omega) d)
  rintro ⟨p',k,q⟩ ⟨e1,e2,h3,h4,h5⟩
  have e1:p'=p:=e1
  have e2:q=0:=e2
  subst e1 e2
  show sp n (cK K) (if 0 > 0 then _ else kas_tail3 k n p') _
  rw [if_neg (by omega)]
  have h3:m+1<=k:=h3
  have h4:k<=m+1+(n - (m+1)):=h4
  exact Qi6 g (by omega) (by omega) h5
theorem Qi7 (inj:∀ i j,i<n->j<n->K i=K j->i=j) {p:Array Nat} (g:Good n p) (h0:0<n):sp n (cK K) (kas_count n p) (Run K n):=by
  refine Qcb ?_
  refine Qa8 ?_ (QgU g h0 (n - 1) 1 (Nat.le_refl _) (fun i hi=>by omega))
  rintro m ⟨h1,h2,h3,h4⟩
  show sp n (cK K) (if (m == n)=true then .ret (m,p) else if m > 1 then _ else kas_descPart m n p) _
  by_cases e:m=n
  · rw [if_pos (beq_iff_eq.mpr e)]
    exact ⟨g,h1,by omega,h3⟩
  · rw [if_neg (fun q=>e (beq_iff_eq.mp q))]
    by_cases e2:m > 1
    · rw [if_pos e2]
      refine ⟨g.lt h0 0,g.lt h0 (m - 1),?_⟩
      show sp n (cK K) (if decide (kk K p 0<kk K p (m - 1))=true then .ret (m,p) else _) _
      have le:=h3.le (i:=0) (j:=m - 1) (by omega) (by omega)
      have ne:=Qmo (K:=K) inj g (i:=0) (j:=m - 1) (by omega) (by omega) (by omega)
      rw [decide_eq_true (by omega),if_pos rfl]
      exact ⟨g,h1,by omega,h3⟩
    · rw [if_neg e2]
      have em:m=1:=by omega
      subst em
      refine QeW inj g (by omega) fun i hi=>?_
      have ei:i=0:=by omega
      subst ei
      rcases h4 with q | q
      · omega
      · exact q
theorem QdH {p:Array Nat} (g:Good n p) (h0:0<n) {k:Nat} (A:Adj K p k):∀ (f l r:Nat),l<=r->r<=k->r - l<=f->(∀ i,i<l->kk K p i<=kk K p k)->(∀ i,r<=i->i<k->kk K p k<kk K p i) ->
    sp n (cK K) (kas_place p k f l r) (fun m=>m<=k/\(∀ i,i<m->kk K p i<=kk K p k)/\∀ i,m<=i->i<k->kk K p k<kk K p i)
  | 0,l,r,h1,h2,h3,a,b=>⟨by omega,a,fun i hi hk=>b i (by omega) hk⟩
  | f+1,l,r,h1,h2,h3,a,b=>by
    show sp n (cK K) (if l≥r then .ret l else _) _
    by_cases e:l≥r
    · rw [if_pos e]
      exact ⟨by omega,a,fun i hi hk=>b i (by omega) hk⟩
    · rw [if_neg e]
      refine ⟨g.lt h0 k,g.lt h0 ((l+r) / 2),?_⟩
      show sp n (cK K) (if decide (kk K p k<kk K p ((l+r) / 2))=true then kas_place p k f l ((l+r) / 2) else kas_place p k f ((l+r) / 2+1) r) _
      by_cases q:kk K p k<kk K p ((l+r) / 2)
      · rw [decide_eq_true q,if_pos rfl]
        refine QdH g h0 A f l ((l+r) / 2) (by omega) (by omega) (by omega) a fun i hi hk=>?_
        exact Int.lt_of_lt_of_le q (A.le hi hk)
      · rw [decide_eq_false q,if_neg (by simp)]
        refine QdH g h0 A f ((l+r) / 2+1) r (by omega) h2 (by omega) (fun i hi=>?_) b
        exact Int.le_trans (A.le (i:=i) (j:=(l+r) / 2) (by omega) (by omega)) (Int.not_lt.mp q)
theorem Qkx (h0:0<n):∀ (f k:Nat) {p:Array Nat},Good n p->k+f<=n->Adj K p k->sp n (cK K) (kas_bin f p k) (fun p'=>Good n p'/\Adj K p' (k+f))
  | 0,k,p,g,_,A=>⟨g,A⟩
  | f+1,k,p,g,hk,A=>by
    refine Qcb ?_
    refine Qa8 ?_ (QdH g h0 A k 0 k (Nat.zero_le _) (Nat.le_refl _) (by omega) (fun i hi=>by omega) (fun i hi hk=>by omega))
    rintro l ⟨hl,lo,hi⟩
    have hs:=g.size
    have bb:∀ j,at_ (bubble p k (k - l)) j=if j=l then at_ p k else if l<j/\j<=k then at_ p (j - 1) else at_ p j:=by
      intro j
      have:=getElem?_bubble (xs:=p) (src:=k) (by omega) (k - l) (by omega) j
      have e:k - (k - l)=l:=by omega
      rw [e] at this
      split
      · rename_i q;rw [if_pos q] at this;exact Qko this
      · rename_i q
        rw [if_neg q] at this
        split
        · rename_i q2;rw [if_pos q2] at this;exact Qko this
        · rename_i q2;rw [if_neg q2] at this;exact Qko this
    refine Qa8 ?_ (Qkx h0 f (k+1) (p:=bubble p k (k - l)) ⟨(Array.perm_iff_toList_perm.mp (bubble_perm p k (k - l))).trans g.perm⟩ (by omega) ?_)
    · rintro p' ⟨a,b⟩
      exact ⟨a,by rw [show k+(f+1)=k+1+f by omega];exact b⟩
    · intro i hik
      unfold kk
      rw [bb,bb]
      by_cases c1:i+1<l
      · rw [if_neg (by omega),if_neg (by omega),if_neg (by omega),if_neg (by omega)]
        exact A i (by omega)
      · by_cases c2:i+1=l
        · rw [if_neg (by omega),if_neg (by omega),if_pos c2]
          exact lo i (by omega)
        · by_cases c3:i=l
          · rw [if_pos c3,if_neg (by omega),if_pos ⟨by omega,by omega⟩]
            exact Int.le_of_lt (hi (i+1 - 1) (by omega) (by omega))
          · rw [if_neg c3,if_pos ⟨by omega,by omega⟩,if_neg (by omega),if_pos ⟨by omega,by omega⟩]
            have:=A (i - 1) (by omega)
            rw [show i - 1+1=i+1 - 1 by omega] at this
            exact this
theorem Qla (inj:∀ i j,i<n->j<n->K i=K j->i=j) (h0:0<n):sp n (cK K) (kas_sort n) (fun p=>Good n p/\Adj K p n):=by
  have g:Good n (List.toArray (List.range n)):=⟨List.Perm.refl _⟩
  refine Qcb ?_
  refine Qa8 ?_ (Qi7 inj g h0)
  rintro ⟨m,p⟩ ⟨g',h1,h2,A⟩
  show sp n (cK K) (if m<n then kas_bin (n - max m 1) p (max m 1) else .ret p) _
  have e:max m 1=m:=by have:1<=m:=h1;omega
  rw [e]
  by_cases q:m<n
  · rw [if_pos q]
    refine Qa8 ?_ (Qkx h0 (n - m) m g' (by omega) A)
    rintro p' ⟨a,b⟩
    exact ⟨a,by rw [show m+(n - m)=n by omega] at b;exact b⟩
  · rw [if_neg q]
    have h2:m<=n:=h2
    have e2:m=n:=by omega
    subst e2
    exact ⟨g',A⟩
end
end Rs
namespace Rs
open PySem PySem.W PySem.Calls PyProof.Rows
section
variable {prog:Program} {w:World} {A:Around} {E:Value->Shared->Prop} {s:Shared}
def Kept (a:Addr) (h h':Heap):Prop:=∀ b x,b≠a->h.get? b=some x->h'.get? b=some x
theorem QdE {h:Heap} {a:Addr} (f:Obj->Obj):Kept a h (h.update a f):=fun b x hb e=>(Heap.get?_update_ne _ _ _ _ hb).trans e
theorem Qei {h:Heap} {a:Addr} (o:Obj):Kept a h (h.push o):=fun b x _ e=>Heap.get?_push_of_some _ e
theorem Kept.trans {a:Addr} {h h1 h2:Heap} (k:Kept a h h1) (k':Kept a h1 h2):Kept a h h2:=fun b x hb e=>k' b x hb (k b x hb e)
theorem Qg6 (vs:List Value):(List.range vs.length).map (fun i=>vs.getD i Value.none)=vs:=by
  apply List.ext_getElem?
  intro i
  rw [List.getElem?_map]
  by_cases h:i<vs.length
  · rw [List.getElem?_range h,List.getElem?_eq_getElem h]
    show some (vs.getD i Value.none)=_
    rw [List.getD_eq_getElem?_getD,List.getElem?_eq_getElem h]
    rfl
  · rw [List.getElem?_eq_none (by simpa using h),List.getElem?_eq_none (by omega)]
    rfl
theorem Qdj {a:Addr} {vs:List Value} {n:Nat} {P:PySem.Fin->Shared->Prop} (ho:s.heap.get? a=some (seqObj "list" vs.toArray n)) (h64:vs.length<64) (K:Nat->Int) (κ:SortKind)
    (inj:∀ i j,i<vs.length->j<vs.length->K i=K j->i=j)
    (hkind:2<=vs.length->∀ h':Heap,Kept a s.heap h'->∀ (Q':SortKind->Shared->Prop) (E':Value->Shared->Prop),Q' κ { s with heap:=h' }->wpAny (model prog w) A (keyKind' vs.toArray) Q' E' { s with heap:=h' })
    (hcmp:∀ h':Heap,Kept a s.heap h'->∀ (i j:Nat) (C:Bool->Shared->Prop),i<vs.length->j<vs.length->C (decide (K i<K j)) { s with heap:=h' }->wpAny (model prog w) A (keyLt' κ (vs.getD i Value.none) (vs.getD j Value.none)) C (fun _ _=>False) { s with heap:=h' })
    (h:∀ p:Array Nat,Good vs.length p->Adj K p vs.length->∀ (h':Heap) (e:Nat),Kept a s.heap h'->h'.get? a=some (seqObj "list" (List.toArray (p.toList.map fun i=>vs.getD i Value.none)) e)->P (.done (.ret .none)) { s with heap:=h' }) :
    wpAny (model prog w) A (Builtin.«list.sort» ⟨[.ref a],[]⟩) P E s:=by
  have ha:a<s.heap.objs.size:=Heap.lt_size ho
  obtain ⟨e1,ho1⟩:∃ e1,(s.heap.update a (Obj.mapSeq fun _=>(#[]:Array Value))).get? a=some (seqObj "list" #[] e1):=⟨_,get?_update_seq ho fun _=>#[]⟩
  have K3:Kept a s.heap (((s.heap.update a (Obj.mapSeq fun _=>(#[]:Array Value))).push (seqObj "tuple" vs.toArray 0)).push (seqObj "list" #[] 0)):=(QdE _).trans ((Qei _).trans (Qei _))
  have ho6:(((s.heap.update a (Obj.mapSeq fun _=>(#[]:Array Value))).push (seqObj "tuple" vs.toArray 0)).push (seqObj "list" #[] 0)).get? a=some (seqObj "list" #[] e1):=Heap.get?_push_of_some _ (Heap.get?_push_of_some _ ho1)
  rw [list_sort_plain]
  refine wpAny_bind (listItems_at ho rfl ?_)
  refine wpAny_bind (listUpdate_at ho rfl ?_ (by rw [List.size_toArray,sizeLine_eq];omega) (Nat.zero_le _))
  refine wpAny_bind (seqEpoch_at ho1 rfl ?_)
  refine wpAny_bind (wpAny_newTuple ?_ (by show vs.length<=_;rw [sizeLine_eq];omega))
  refine wpAny_bind (wpAny_newList ?_ (Nat.zero_le _))
  refine wpAny_holding ?_
  show wpAny (model prog w) A _ P E { s with heap:=((s.heap.update a (Obj.mapSeq fun _=>(#[]:Array Value))).push (seqObj "tuple" vs.toArray 0)).push (seqObj "list" #[] 0) }
  dsimp only
  generalize (((s.heap.update a (Obj.mapSeq fun _=>(#[]:Array Value))).push (seqObj "tuple" vs.toArray 0)).push (seqObj "list" #[] 0))=h3 at K3 ho6 ⊢
  have fin:∀ p:Array Nat,Good vs.length p->Adj K p vs.length->∀ st':SortSt,(arrOf st').map (·.2)=List.toArray (p.toList.map fun i=>vs.getD i Value.none)->failedOf st'=none ->
      ∃ e2,(h3.update a (Obj.mapSeq fun _=>List.toArray (p.toList.map fun i=>vs.getD i Value.none))).get? a=some (seqObj "list" (List.toArray (p.toList.map fun i=>vs.getD i Value.none)) e2):=fun p _ _ _ _ _=>⟨_,get?_update_seq ho6 fun _=>_⟩
  by_cases h2:vs.toArray.size<2
  · rw [if_pos h2,if_pos h2]
    refine wpAny_bind (wpAny_pure ?_)
    rw [StateT.run_pure]
    refine wpAny_bind (wpAny_pure ?_)
    dsimp only
    have gg:Good vs.length (List.toArray (List.range vs.length)):=⟨List.Perm.refl _⟩
    have aa:Adj K (List.toArray (List.range vs.length)) vs.length:=fun i hi=>by rw [List.size_toArray] at h2;omega
    have out:(arrOf (SortSt.mk' general' (vs.toArray.zip vs.toArray) #[] 7 none)).map (·.2)=List.toArray ((List.toArray (List.range vs.length)).toList.map fun i=>vs.getD i Value.none):=by
      show (vs.toArray.zip vs.toArray).map (·.2)=_
      rw [List.toList_toArray,Qg6]
      apply Array.toList_inj.mp
      rw [Array.toList_map,Array.toList_zip]
      show (vs.zip vs).map (·.2)=vs
      exact List.map_snd_zip (Nat.le_refl _)
    obtain ⟨e2,he2⟩:=fin _ gg aa _ out rfl
    rw [out]
    refine wpAny_bind (seqEpoch_at ho6 rfl ?_)
    refine wpAny_bind (listUpdate_at ho6 rfl ?_ (Nat.zero_le _) (by rw [List.size_toArray,List.length_map,List.toList_toArray,List.length_range,sizeLine_eq];omega))
    simp only [bne_self_eq_false,Bool.false_eq_true,if_false]
    exact wpAny_pure (h _ gg aa _ e2 (K3.trans (QdE _)) he2)
  · rw [if_neg h2,if_neg h2]
    have h2':2<=vs.length:=by rw [List.size_toArray] at h2;omega
    refine wpAny_bind (hkind h2' h3 K3 _ _ ?_)
    refine wpAny_bind (wpAny_mono (kat_run (Q:=fun st' s'=>∃ p:Array Nat,Good vs.length p/\Adj K p vs.length/\arrOf st'=p.map (kas_item (vs.toArray.zip vs.toArray))/\failedOf st'=none/\s'={ s with heap:=h3 })
      (G:=fun p s'=>Good vs.length p/\Adj K p vs.length/\s'={ s with heap:=h3 }) rfl h2' h64 (fun p' st' s' a1 a2 a3 a4=>⟨p',a4.1,a4.2.1,a2,a3,a4.2.2⟩)
      (Qfq (c:=cK K) (fun i j C hi hj hC=>hcmp h3 K3 i j C hi hj hC) (Qa8 (fun p q=>⟨q.1,q.2,rfl⟩) (Qla inj (by omega))))) ?_ fun _ _ e=>e)
    rintro ⟨⟨⟩,st'⟩ s' ⟨p,gg,aa,har,hf,rfl⟩
    dsimp only
    have out:=kat_snds (ks:=vs) rfl har
    obtain ⟨e2,he2⟩:=fin p gg aa st' out hf
    rw [out]
    refine wpAny_bind (seqEpoch_at ho6 rfl ?_)
    refine wpAny_bind (listUpdate_at ho6 rfl ?_ (Nat.zero_le _) (by rw [List.size_toArray,List.length_map,Array.length_toList,gg.size,sizeLine_eq];omega))
    rw [hf]
    simp only [bne_self_eq_false,Bool.false_eq_true,if_false]
    exact wpAny_pure (h p gg aa _ e2 (K3.trans (QdE _)) he2)
theorem Qcu {Q:Value->Shared->Prop} {l:Addr} {T:String} {o:Obj} {vs:List Value} {n:Nat} (hT:T = "list" ∨ T = "tuple") (ho:s.heap.get? l=some o) (hc:o.cls=.type T) (hd:o.data=.seq vs.toArray n) (h64:vs.length<64)
    (h:∀ h':Heap,(∀ b x,s.heap.get? b=some x->h'.get? b=some x)->∀ (P:PySem.Fin->Shared->Prop) (E':Value->Shared->Prop),(∀ s2,Q (.ref h'.objs.size) s2->P (.done (.ret .none)) s2) ->
      wpAny (model prog w) A.in1.in1 (Builtin.«list.sort» ⟨[.ref h'.objs.size],[]⟩) P E' { s with heap:=h'.push (seqObj "list" vs.toArray 0) }) :
    wpAny (model prog w) A (call (.builtin "sorted") [.ref l]) Q E s:=by
  refine Calls.call_function_entry kind_sorted plain_sorted entry_sorted (args_sorted1 _) ?_
  unfold Builtin.«sorted»
  refine wpAny_bind (m:=checkCount "sorted" 1 1 _) (wpAny_pure ?_)
  refine wpAny_bind (wpAny_collect_seq (items:=vs.toArray) l hT ho hc hd (fun h' kp=>?_) (by rw [List.size_toArray,sizeLine_eq];omega))
  refine wpAny_bind (wpAny_newList ?_ (by rw [List.toList_toArray,sizeLine_eq];omega))
  have hoL:(h'.push (seqObj "list" vs.toArray 0)).get? h'.objs.size=some (seqObj "list" vs.toArray 0):=Heap.get?_push_size _ rfl
  show wpAny _ _ _ _ _ { s with heap:=h'.push (seqObj "list" vs.toArray 0) }
  refine wpAny_bind (wpAny_holding (wpAny_call_entry slot_list_sort ⟨_,hoL,rfl⟩ entry_list_sort ?body (args_list_sort _)))
  exact h h' kp _ _ fun s2 hq=>⟨_,rfl,wpAny_pure ⟨_,rfl,hq⟩⟩
end
structure PairV (h:Heap) (v:Value) (ij:Int×Int):Prop where
  it:∃ (a:Addr) (o:Obj) (n:Nat) (t u:Tok),v=.ref a/\h.get? a=some o/\o.cls=.type "tuple" /\ o.data=.seq #[.int ij.1 t,.int ij.2 u] n
theorem PairV.keep {h h':Heap} {v:Value} {ij:Int×Int} (q:PairV h v ij) (k:∀ b x,h.get? b=some x->h'.get? b=some x):PairV h' v ij:=by
  obtain ⟨a,o,n,t,u,e,g,c,d⟩:=q.it
  exact ⟨a,o,n,t,u,e,k _ _ g,c,d⟩
inductive PairsV (h:Heap):List Value->List (Int×Int)->Prop
  | nil:PairsV h [] []
  | cons {v:Value} {vs:List Value} {ij:Int×Int} {L:List (Int×Int)}:PairV h v ij->PairsV h vs L->PairsV h (v::vs) (ij::L)
theorem PairsV.keep {h h':Heap} (k:∀ b x,h.get? b=some x->h'.get? b=some x):∀ {vs:List Value} {L:List (Int×Int)},PairsV h vs L->PairsV h' vs L
  | _,_,.nil=>.nil
  | _,_,.cons q r=>.cons (q.keep k) (r.keep k)
theorem PairsV.len {h:Heap}:∀ {vs:List Value} {L:List (Int×Int)},PairsV h vs L->vs.length=L.length
  | _,_,.nil=>rfl
  | _,_,.cons _ r=>by rw [List.length_cons,List.length_cons,r.len]
theorem PairsV.at_ {h:Heap}:∀ {vs:List Value} {L:List (Int×Int)},PairsV h vs L->∀ i,i<vs.length->PairV h (vs.getD i Value.none) (L.getD i (0,0))
  | _,_,.nil,i,hi=>by simp at hi
  | _,_,.cons q r,0,hi=>q
  | _,_,.cons q r,i+1,hi=>by
    have:=r.at_ i (by simpa using hi)
    simpa using this
theorem PairsV.firsts {h:Heap}:∀ {vs:List Value} {L:List (Int×Int)},PairsV h vs L->∃ fs,KatTups h vs fs/\fs.length=vs.length/\∀ v∈fs,∃ i t,v=Value.int i t
  | _,_,.nil=>⟨[],.nil,rfl,fun v hv=>nomatch hv⟩
  | _,_,.cons q r=>by
    obtain ⟨fs,k,l,f⟩:=r.firsts
    obtain ⟨a,o,n,t,u,e,g,c,d⟩:=q.it
    subst e
    refine ⟨_::fs,KatTups.cons g c d rfl k,by rw [List.length_cons,List.length_cons,l],fun v hv=>?_⟩
    rcases List.mem_cons.mp hv with z | z
    · exact ⟨_,_,z⟩
    · exact f v z
def code (ij:Int×Int):Int:=64*ij.1+ij.2
section
variable {prog:Program} {w:World} {A:Around} {E:Value->Shared->Prop} {s:Shared}
theorem QmE {a b:Int×Int} (ha:0<=a.2/\a.2<64) (hb:0<=b.2/\b.2<64):decide (code a<code b)=if a.1=b.1 then (if a.2=b.2 then false else decide (a.2<b.2)) else decide (a.1<b.1):=by
  unfold code
  split
  · split
    · exact decide_eq_false (by omega)
    · by_cases q:a.2<b.2
      · rw [decide_eq_true q];exact decide_eq_true (by omega)
      · rw [decide_eq_false q];exact decide_eq_false (by omega)
  · by_cases q:a.1<b.1
    · rw [decide_eq_true q];exact decide_eq_true (by omega)
    · rw [decide_eq_false q];exact decide_eq_false (by omega)
theorem QlX {v v':Value} {a b:Int×Int} {C:Bool->Shared->Prop} (pa:PairV s.heap v a) (pb:PairV s.heap v' b) (ha:0<=a.2/\a.2<64) (hb:0<=b.2/\b.2<64) (h:C (decide (code a<code b)) s) :
    wpAny (model prog w) A (keyLt' (tuples' true) v v') C E s:=by
  obtain ⟨x,ox,n,t,u,rfl,gx,cx,dx⟩:=pa.it
  obtain ⟨y,oy,m,t',u',rfl,gy,cy,dy⟩:=pb.it
  rw [QmE ha hb] at h
  refine kat_lt gx dx gy dy ?_
  show KatLex prog w A true false C [(.int a.1 t,.int b.1 t'),(.int a.2 u,.int b.2 u')] 0 s
  refine kat_cons (wpAny_eqBool_int ?_)
  by_cases e:a.1=b.1
  · rw [if_pos e] at h
    rw [show (a.1 == b.1)=true from beq_iff_eq.mpr e]
    refine kat_yes (kat_cons (wpAny_eqBool_int ?_))
    by_cases e2:a.2=b.2
    · rw [if_pos e2] at h
      rw [show (a.2 == b.2)=true from beq_iff_eq.mpr e2]
      exact kat_yes (kat_nil h)
    · rw [if_neg e2] at h
      rw [show (a.2 == b.2)=false from beq_eq_false_iff_ne.mpr e2]
      exact kat_no (kat_one _ _ (lt_int h))
  · rw [if_neg e] at h
    rw [show (a.1 == b.1)=false from beq_eq_false_iff_ne.mpr e]
    exact kat_no (oneLt_int h)
theorem Qhw {vs:List Value} {L:List (Int×Int)} {Q:SortKind->Shared->Prop} (r:PairsV s.heap vs L) (h2:2<=vs.length) (h:Q (tuples' true) s):wpAny (model prog w) A (keyKind' vs.toArray) Q E s:=by
  obtain ⟨fs,k,l,f⟩:=r.firsts
  refine kat_kind (T:=.type "int") k (by omega) (fun v hv=>?_) (by decide +kernel) ?_
  · obtain ⟨i,t,rfl⟩:=f v hv
    exact Looks.of_pure rfl
  · rw [show (Value.type "int" != Value.type "tuple")=true by decide +kernel]
    exact h
theorem Qc5 {a:Addr} {vs:List Value} {L:List (Int×Int)} {n:Nat} {P:PySem.Fin->Shared->Prop} (ho:s.heap.get? a=some (seqObj "list" vs.toArray n)) (h64:vs.length<64) (r:∀ h',Kept a s.heap h'->PairsV h' vs L) (nd:L.Nodup) (hb:∀ ij∈L,0<=ij.2/\ij.2<64)
    (h:∀ p:Array Nat,Good vs.length p->Adj (fun i=>code (L.getD i (0,0))) p vs.length->∀ (h':Heap) (e:Nat),Kept a s.heap h'->h'.get? a=some (seqObj "list" (List.toArray (p.toList.map fun i=>vs.getD i Value.none)) e)->P (.done (.ret .none)) { s with heap:=h' }) :
    wpAny (model prog w) A (Builtin.«list.sort» ⟨[.ref a],[]⟩) P E s:=by
  have hl:vs.length=L.length:=(r s.heap (fun b x _ e=>e)).len
  have hb':∀ i,i<vs.length->0<=(L.getD i (0,0)).2/\(L.getD i (0,0)).2<64:=fun i hi=>by
    rw [List.getD_eq_getElem?_getD,List.getElem?_eq_getElem (by omega)]
    exact hb _ (List.getElem_mem _)
  refine Qdj ho h64 (fun i=>code (L.getD i (0,0))) (tuples' true) (fun i j hi hj e=>?_) (fun h2 h' k Q' E' q=>Qhw (s:={ s with heap:=h' }) (r h' k) h2 q) (fun h' k i j C hi hj q=>QlX (s:={ s with heap:=h' }) ((r h' k).at_ i hi) ((r h' k).at_ j hj) (hb' i hi) (hb' j hj) q) h
  have bi:=hb' i hi
  have bj:=hb' j hj
  have e:code (L.getD i (0,0))=code (L.getD j (0,0)):=e
  unfold code at e
  have e':L.getD i (0,0)=L.getD j (0,0):=Prod.ext (by omega) (by omega)
  rw [List.getD_eq_getElem?_getD,List.getD_eq_getElem?_getD,List.getElem?_eq_getElem (by omega),List.getElem?_eq_getElem (by omega)] at e'
  have pw:=List.pairwise_iff_getElem.mp nd
  rcases Nat.lt_trichotomy i j with q | q | q
  · exact absurd e' (pw i j (by omega) (by omega) q)
  · exact q
  · exact absurd e'.symm (pw j i (by omega) (by omega) q)
end
theorem Qid {α:Type} {L:List α} {d:α} {p:Array Nat} (g:Good L.length p):(p.toList.map fun i=>L.getD i d).Perm L:=by
  have e:(List.range L.length).map (fun i=>L.getD i d)=L:=by
    apply List.ext_getElem?
    intro i
    rw [List.getElem?_map]
    by_cases h:i<L.length
    · rw [List.getElem?_range h,List.getElem?_eq_getElem h]
      show some (L.getD i d)=_
      rw [List.getD_eq_getElem?_getD,List.getElem?_eq_getElem h]
      rfl
    · rw [List.getElem?_eq_none (by simpa using h),List.getElem?_eq_none (by omega)]
      rfl
  have:=g.perm.map fun i=>L.getD i d
  rwa [e] at this
theorem Qic {L:List (Int×Int)} {p:Array Nat} (g:Good L.length p) (ad:Adj (fun i=>code (L.getD i (0,0))) p L.length) (inj:∀ i j,i<L.length->j<L.length->code (L.getD i (0,0))=code (L.getD j (0,0))->i=j) :
    (p.toList.map fun i=>L.getD i (0,0)).Pairwise fun a b=>code a<code b:=by
  rw [List.pairwise_iff_getElem]
  intro i j hi hj hij
  rw [List.length_map,Array.length_toList] at hi hj
  have hs:=g.size
  rw [List.getElem_map,List.getElem_map,Array.getElem_toList,Array.getElem_toList]
  have ei:p[i]=at_ p i:=by have:=QeR (p:=p) (i:=i) (by omega);rw [Array.getElem?_eq_getElem (by omega)] at this;exact Option.some.inj this
  have ej:p[j]=at_ p j:=by have:=QeR (p:=p) (i:=j) (by omega);rw [Array.getElem?_eq_getElem (by omega)] at this;exact Option.some.inj this
  rw [ei,ej]
  have le:=ad.le (i:=i) (j:=j) (by omega) (by omega)
  have ne:=Qmo (K:=fun i=>code (L.getD i (0,0))) inj g (i:=i) (j:=j) (by omega) (by omega) (by omega)
  have le:code (L.getD (at_ p i) (0,0))<=code (L.getD (at_ p j) (0,0)):=le
  have ne:code (L.getD (at_ p i) (0,0))≠code (L.getD (at_ p j) (0,0)):=ne
  omega
end Rs
namespace L2
open PySem PySem.Spec PyProof.Rows _root_.Rd _root_.Rk _root_.Rs
section
variable {X:Cx}
theorem Qel {P:Program} {w:World} {H:Hp} {h:Heap} (ok:HOk P w H h):∀ {xs:List V} {L:List (Int×Int)} {vs:List Value},Dats H xs (L.map Rk.pairD)->Vals xs vs->PairsV h vs L
  | _,[],vs,.nil,r=>by cases r;exact .nil
  | _,ij::L,vs,.cons (x:=x) (xs:=xs) q qs,r=>by
    cases r with
    | cons r rs=>
      refine .cons ?_ (Qel ok qs rs)
      cases q with
      | @tup a ys ds e q2=>
        cases r
        obtain ⟨_,its,rv,o,ho,hc,n,hd⟩:=ok a _ e
        cases q2 with
        | cons q3 q4=>
          cases q4 with
          | cons q5 q6=>
            cases q6
            cases q3
            cases q5
            cases rv with
            | cons r1 r2=>
              cases r2 with
              | cons r3 r4=>
                cases r4
                obtain ⟨t,rfl⟩:=r1
                obtain ⟨u,rfl⟩:=r3
                exact ⟨_,o,n,t,u,rfl,ho,hc,hd⟩
theorem Qis {H:Hp}:∀ {xs:List V} {L:List (Int×Int)},Dats H xs (L.map Rk.pairD)->∀ i,i<xs.length->Dat H (xs.getD i .non) (Rk.pairD (L.getD i (0,0)))
  | _,[],.nil,i,hi=>by simp at hi
  | _,ij::L,.cons q qs,0,hi=>q
  | _,ij::L,.cons q qs,i+1,hi=>by
    have:=Qis (L:=L) qs i (by simpa using hi)
    simpa using this
theorem QgL:∀ {xs:List V} {vs:List Value},Vals xs vs->∀ i,i<xs.length->RelV (xs.getD i .non) (vs.getD i Value.none)
  | _,_,.nil,i,hi=>by simp at hi
  | _,_,.cons q qs,0,hi=>q
  | _,_,.cons q qs,i+1,hi=>by
    have:=QgL qs i (by simpa using hi)
    simpa using this
theorem Qf1 {H:Hp} {f:Nat->V} {g:Nat->Int×Int}:∀ {is:List Nat},(∀ i∈is,Dat H (f i) (Rk.pairD (g i)))->Dats H (is.map f) ((is.map g).map Rk.pairD)
  | [],_=>.nil
  | i::is,h=>.cons (h i (.head _)) (Qf1 fun j hj=>h j (.tail _ hj))
theorem Qfr {f:Nat->V} {g:Nat->Value}:∀ {is:List Nat},(∀ i∈is,RelV (f i) (g i))->Vals (is.map f) (is.map g)
  | [],_=>.nil
  | i::is,h=>.cons (h i (.head _)) (Qfr fun j hj=>h j (.tail _ hj))
theorem QdZ:∀ {ns:List Int} {vs:List Value},Vals (ns.map V.int) vs->IntsAre vs ns
  | [],_,.nil=>.nil
  | i::ns,_,.cons ⟨t,e⟩ r=>by subst e;exact .cons _ _ (QdZ r)
theorem Qd7:∀ {ns:List Int} {vs:List Value},IntsAre vs ns->Vals (ns.map V.int) vs
  | _,_,.nil=>.nil
  | _,_,.cons n t r=>.cons ⟨t,rfl⟩ (Qd7 r)
def QkB (K:PySem.W.Frag):List V->Hp->VK->Prop:=fun xs H Q=>∃ l ns,xs=[.ref l]/\SqT K H l ((ns:List Int).map V.int)/\ns.length<64 /\
  ∀ t ms H2,Same H H2->H t=none->H2 t=some (.lst ((ms:List Int).map V.int))->ms.Perm ns->ms.Pairwise (·<=·)->Q (.ref t) H2
theorem QgD:CallR X (.builtin "sorted") (QkB X.K):=by
  intro pins s σ H xs us Q I r h
  obtain ⟨l,ns,rfl,hl,h64,q⟩:=h
  obtain ⟨u,rfl,ru⟩:=QbK r
  cases ru
  obtain ⟨its,rv,tp,hz⟩:=I.tuple hl
  obtain ⟨o,ho,hc,n,hd⟩:=tp
  have li:=rv.length
  rw [List.length_map] at li
  refine Qcu (.inr rfl) ho hc hd (by omega) fun h' kp P E' hP=>?_
  have hn:(h'.push (seqObj "list" its.toArray 0)).get? h'.objs.size=some (seqObj "list" its.toArray 0):=Heap.get?_push_size _ rfl
  refine list_sort_tree (s:={ s with heap:=h'.push (seqObj "list" its.toArray 0) }) hn (QdZ rv) (by omega) fun out ns' ia pm pw=>hP _ ?_
  have I1:Inv X pins σ H { s with heap:=h' }:=I.kept (t':=s.toks) kp
  have hf:H h'.objs.size=none:=I1.hok.fresh (Nat.le_refl _)
  obtain ⟨e,he⟩:∃ e,(sortedHeap (h'.push (seqObj "list" its.toArray 0)) h'.objs.size its out).get? h'.objs.size=some (seqObj "list" out e):=sortedHeap_at hn
  have rv':=Qd7 ia
  have lp:=pm.length_eq
  have I2:Inv X pins σ (upd H h'.objs.size (.lst (ns'.map V.int))) { s with heap:=sortedHeap (h'.push (seqObj "list" its.toArray 0)) h'.objs.size its out }:=
    I1.laid (t':=s.toks) (fun b x e'=>(sortedHeap_old (Nat.ne_of_lt (Heap.lt_size e')) (Nat.lt_of_lt_of_le (Heap.lt_size e') (by rw [size_push'];exact Nat.le_succ _))).trans (Heap.get?_push_of_some _ e')) (Nat.le_refl _) (show ObjOk X.prog X.w _ _ _ (.lst _) from ⟨by rw [List.length_map];exact Nat.le_of_lt (Rk.lt_line (by omega)),out.toList,e,rv',by rw [he]⟩)
  exact ⟨.ref h'.objs.size,_,I2,rfl,q _ ns' _ (Qab hf) hf Qad pm pw⟩
end
end L2
namespace Re
open PySem PyProof.Rows
open AutoSeq1 (wpAny_loadPart')
theorem drawsT {prog:Program} {w:World} {A:Around} {it t:Addr} {items:Array Value} (hh:A.handled=none) (hti:t≠it) :
    Draws prog w A it [it,t] items.size (fun i x=>items[i]? = some x) (fun i h=>h.IsTupleIter it t i/\h.IsTuple t items) where
  live:=fun i h st=>by
    obtain ⟨⟨o,ho,_⟩,_⟩:=st
    exact ⟨o,ho⟩
  frame:=fun i h h' st k=>by
    obtain ⟨⟨o,ho,c⟩,⟨o2,h2,c2⟩⟩:=st
    exact ⟨⟨o,k it (by simp) _ ho,c⟩,⟨o2,k t (by simp) _ h2,c2⟩⟩
  item:=fun i s Q E hi st hQ=>by
    refine Rz.nxt_item st.1 st.2 (x:=items[i]) (by simp [hi]) fun h' hit' hs'=>?_
    refine hQ _ h' s.toks (by simp [hi]) ⟨hit',?_⟩ hs'
    obtain ⟨o2,h2,c2⟩:=st.2
    exact ⟨o2,(hs'.2 t hti).trans h2,c2⟩
  done:=fun s Q E st hE=>Rz.nxt_end hh st.1 st.2 (by simp) hE
theorem Qgw (l:Addr) (items:Array Value) (n:Nat) (dct:Option Addr) (sl:Array (Option Value)) :
    Meets (Builtin.«enumerate.__new__» ⟨[.type "enumerate",.ref l],[]⟩) (fun _ R s=>s.heap.get? l=some { cls:=.type "tuple",dict:=dct,data:=.seq items n,slots:=sl } /\
      R (.ok (.ret (.ref (s.heap.push { cls:=.type "tuple_iterator",data:=.fields #[.ref l,.int 0 0] }).objs.size)))
        { s with heap:=(s.heap.push { cls:=.type "tuple_iterator",data:=.fields #[.ref l,.int 0 0] }).push { cls:=.type "enumerate",data:=.fields #[.none,.bool false,.ref s.heap.objs.size,rawInt 0,.none,.none] } }):=
  .of_wp fun prog w A R s h=>by
    obtain ⟨hp,g,d,tk,os⟩:=s
    obtain ⟨hl,h⟩:=h
    have hsub:=sub_enumerate
    have hL:Heap.IsTuple (Shared.heap ⟨hp,g,d,tk,os⟩) l items:=⟨_,hl,rfl,n,rfl⟩
    wp_walk using wpAny_loadPart' hl
    refine wpAny_stack_any fun st=>wpAny_pure ?_
    split
    · rename_i c _ _ _ _ _
      cases (c == Value.type "enumerate")
      · wp_walk using wpAny_loadPart' hl,wpAny_pyIter_tuple hL
        exact ⟨_,rfl,h⟩
      · wp_walk using wpAny_loadPart' hl,wpAny_pyIter_tuple hL
        exact ⟨_,rfl,h⟩
    · wp_walk using wpAny_loadPart' hl,wpAny_pyIter_tuple hL
      exact ⟨_,rfl,h⟩
theorem call_enumT {prog:Program} {w:World} {A:Around} {E:Value->Shared->Prop} {s:Shared} {l:Addr} {items:Array Value} {Q:Value->Shared->Prop} (hL:s.heap.IsTuple l items)
    (h:∀ h',IsEnum h' (s.heap.objs.size+1) s.heap.objs.size 0 .none->h'.IsTupleIter s.heap.objs.size l 0->(∀ b o,s.heap.get? b=some o->h'.get? b=some o)->Q (.ref (s.heap.objs.size+1)) { s with heap:=h' }) :
    wpAny (model prog w) A (call (.type "enumerate") [.ref l]) Q E s:=by
  obtain ⟨⟨c,dct,dt,sl⟩,hl,hc,n,hd⟩:=hL
  replace hc:c=.type "tuple" := hc
  replace hd:dt=.seq items n:=hd
  subst hc hd
  refine callType_new F.called_enumerate (by decide) (F.typeCall_enumerate_1 _) (F.newCall_enumerate_1 _) (fun obj=>F.args_object_init_2 obj _) F.entry_enumerate_new (Qgw l items n dct sl) ⟨hl,?_⟩
  have hz:(s.heap.push { cls:=.type "tuple_iterator",data:=.fields #[.ref l,.int 0 0] }).objs.size=s.heap.objs.size+1:=Heap.size_push ..
  show _/\_
  rw [hz]
  have he:=Heap.get?_push_size (s.heap.push { cls:=.type "tuple_iterator",data:=.fields #[.ref l,.int 0 0] }) (o:={ cls:=.type "enumerate",data:=.fields #[.none,.bool false,.ref s.heap.objs.size,rawInt 0,.none,.none] }) rfl
  rw [hz] at he
  exact ⟨⟨_,he,rfl⟩,h _ he ⟨_,Heap.get?_push_of_some _ (Heap.get?_push_size _ rfl),rfl,rfl⟩ fun b o x=>Heap.get?_push_of_some _ (Heap.get?_push_of_some _ x)⟩
end Re
namespace L2
open PySem PySem.Spec PyProof.Rows
def Iet (l:Addr):It:=
  ⟨fun i H=>∃ xs x,H l=some (.tup xs)/\xs[i]? = some x,
   fun i H v H'=>∃ p x,H p=none/\(∀ xs,H l=some (.tup xs)->xs[i]? = some x)/\v=.ref p/\H'=upd H p (.tup [.int (i:Nat),x]),
   fun i H=>∃ xs,H l=some (.tup xs)/\xs.length=i⟩
theorem Qgh {P:Program} {w:World} {K:PySem.W.Frag} {elts:List Expr} {x1} {tpos:Pos} {e it l:Addr} (hne:e≠it) :
    Turn P w K (.Tuple elts x1 tpos) (Iet l) [e,it] e (fun i h=>(∃ old,IsEnum h e it (i:Nat) old)/\h.IsTupleIter it l i) where
  mem:=by simp
  obj:=fun i h st b hb=>by
    obtain ⟨⟨old,a1⟩,⟨o2,a2,_,d2⟩⟩:=st
    simp only [List.mem_cons,List.not_mem_nil,or_false] at hb
    rcases hb with rfl | rfl
    · exact ⟨_,a1,fun v q=>nomatch q⟩
    · exact ⟨_,a2,fun v q=>by rw [d2] at q;cases q⟩
  keep:=fun i h h' st k=>by
    obtain ⟨⟨old,a1⟩,⟨o2,a2,c2⟩⟩:=st
    exact ⟨⟨old,k e (by simp) _ a1⟩,o2,k it (by simp) _ a2,c2⟩
  item:=by
    intro X hP hw hK hc i pins s σ H E I hf st hg
    subst hP hw hK
    obtain ⟨xs,x,h1,hx⟩:=hg
    obtain ⟨⟨old,a1⟩,a2⟩:=st
    obtain ⟨its,r1,p1,_⟩:=I.tuple (SqT.of h1)
    obtain ⟨u,hu,ru⟩:=r1.get hx
    have nel:e≠l:=fun z=>by have q:=(hf e (by simp)).1;rw [z,h1] at q;cases q
    have nil:l≠it:=fun z=>by have q:=(hf it (by simp)).1;rw [<- z,h1] at q;cases q
    have hi:i<its.toArray.size:=by
      have:=(List.getElem?_eq_some_iff.mp hu).1
      simpa using this
    refine wpAny_pyNext_enum_itemD (Re.drawsT (A:=X.A.in1) (t:=l) (I.ok.hd hc) nil) a1 ⟨a2,p1⟩ hi hne (by simp [hne,nel]) fun y h' tk hy o' l' tp sz kp=>?_
    have ey:y=u:=by
      have e1:its.toArray[i]? = some u:=by simpa using hu
      rw [e1] at hy
      exact (Option.some.inj hy).symm
    subst ey
    obtain ⟨l',tq⟩:=l'
    have fr:H s.heap.objs.size=none:=I.hok.fresh (Nat.le_refl _)
    have n1:e≠s.heap.objs.size:=Nat.ne_of_lt (Heap.lt_size a1)
    have n2:it≠s.heap.objs.size:=by
      obtain ⟨o2,a2,_⟩:=a2
      exact Nat.ne_of_lt (Heap.lt_size a2)
    refine ⟨_,rfl,wpAny_letOwnedTupleGo_enum o' fun h2 e2 s2=>?_⟩
    have I1:Inv X pins σ (upd H s.heap.objs.size (.tup [.int (i:Nat),x])) { s with heap:=h2,toks:=tk+1 }:=by
      refine I.turnedNew (ch:=[e,it]) hf (fun b v hb q=>?_) (Nat.le_refl _) ⟨by show 2<=sizeLine;decide,[.int (i:Nat) tk,y],.cons ⟨_,rfl⟩ (.cons ru .nil),?_⟩
      · simp only [List.mem_cons,List.not_mem_nil,or_false,not_or] at hb
        exact s2.extBut _ _ hb.1 (kp b v hb.1 hb.2 q)
      · exact ⟨_,s2.extBut _ _ n1.symm tp,rfl,0,rfl⟩
    refine ⟨.ref s.heap.objs.size,_,I1,rfl,⟨_,x,fr,fun xs' q=>?_,rfl,rfl⟩,⟨⟨y,e2⟩,?_⟩,fun b hb=>?_⟩
    · rw [h1] at q;cases q;exact hx
    · exact l'.extBut s2.extBut hne.symm
    · simp only [List.mem_cons,List.not_mem_nil,or_false] at hb
      rcases hb with rfl | rfl
      · rw [Qai n1];exact (hf _ (by simp)).1
      · rw [Qai n2];exact (hf _ (by simp)).1
  done:=by
    intro X hP hw hK hc i pins s σ H E I hf st hg
    subst hP hw hK
    obtain ⟨xs,h1,he⟩:=hg
    obtain ⟨⟨old,a1⟩,a2⟩:=st
    obtain ⟨its,r1,p1,_⟩:=I.tuple (SqT.of h1)
    have l1:=r1.length
    have nel:e≠l:=fun z=>by have q:=(hf e (by simp)).1;rw [z,h1] at q;cases q
    have nil:l≠it:=fun z=>by have q:=(hf it (by simp)).1;rw [<- z,h1] at q;cases q
    have e0:its.toArray.size=i:=by rw [List.size_toArray];omega
    have D:=Re.drawsT (prog:=X.prog) (w:=X.w) (A:=X.A.in1) (t:=l) (items:=its.toArray) (I.ok.hd hc) nil
    rw [e0] at D
    refine wpAny_pyNext_enum_endD D a1 ⟨a2,p1⟩ fun h' kp=>⟨rfl,I.turnedAll (t':=s.toks) (ch:=[e,it]) hf fun b v hb q=>?_⟩
    simp only [List.mem_cons,List.not_mem_nil,or_false,not_or] at hb
    exact kp b v hb.2 q
  self:=fun _ _ _ _ _ st h=>by
    obtain ⟨⟨old,a1⟩,_⟩:=st
    exact wpAny_pyIter_enum a1 h
def iEnumT (ta:TA):TI:=fun σ H R=>ta σ H fun vs H1=>∃ l xs,vs=[.ref l]/\H1 l=some (.tup xs)/\R (Iet l) H1
section
variable {X:Cx}
theorem Qjo {a:Expr} {elts:List Expr} {x1} {tpos:Pos} {ta:TA} {p pos:Pos} (hg:Gl X "enumerate") (hm:X.mg "enumerate" = none) (ha:PA X [a] ta) (hs:starEach [a] X.env=[(false,eval a X.env)]:=by rfl) :
    PI X (.Tuple elts x1 tpos) (.Call (.Name "enumerate" p) [a] [] pos) (iEnumT ta):=by
  intro pins s σ H R I h
  refine Call_ (QcD I hg hm QiN (PyProof.Rows.callWith_type1 (thn (ha pos pins s σ H _ I h) fun us s1 ⟨vs,H1,I1,r1,q1⟩=>?_) hs rfl))
  obtain ⟨l,xs,e,h1,q⟩:=q1
  subst e
  obtain ⟨u,rfl,ru⟩:=QbK r1
  cases (show u=Value.ref l from ru)
  obtain ⟨its,w1,p1,_⟩:=I1.tuple (SqT.of h1)
  refine Re.call_enumT p1 fun h' e1 i1 kp=>?_
  refine wpAny_pyIter_enum (s:={ s1 with heap:=h' }) e1 ?_
  refine ⟨s1.heap.objs.size+1,_,_,_,H1,rfl,I1.kept (t':=s1.toks) kp,Qgh (by show ¬ (s1.heap.objs.size+1=s1.heap.objs.size);omega),⟨⟨_,e1⟩,i1⟩,fun b hb=>?_,q⟩
  have hb':s1.heap.objs.size<=b:=by
    simp only [List.mem_cons,List.not_mem_nil,or_false] at hb
    rcases hb with rfl | rfl<;>omega
  exact I1.fpOk hb' (I1.hok.fresh hb')
def Qll:List V->Hp->VK->Prop:=fun xs H Q=>∃ r j,xs=[.ref r]/\H r=some (.rng 0 j) /\ -1000<=j/\j<=1000/\∀ t H2,Same H H2->H t=none->H2 t=some (.lst ((List.range j.toNat).map fun i=>V.int (i:Nat)))->Q (.ref t) H2
theorem Qfm (hc:X.calm=true):CallR X (.type "list") Qll:=by
  intro pins s σ H xs us Q I r h
  obtain ⟨a,j,rfl,ha,h1,h2,q⟩:=h
  obtain ⟨u,rfl,ru⟩:=QbK r
  cases (show u=Value.ref a from ru)
  obtain ⟨t1,t2,t3,e⟩:=I.hok a _ ha
  have hn:Builtin.Range.rangeSize 0 j 1=((j.toNat:Nat):Int):=by rw [rangeSize_one];split<;>omega
  refine call_list_range (n:=j.toNat) (I.ok.hd hc) (show IsRange s.heap a 0 j 1 t1 t2 t3 from e) (small_one (by omega) (by omega) (by omega) (by omega)) hn (Nat.le_trans (show j.toNat<=1000 by omega) (by decide)) fun h' tk acc c' kp hS hacc=>?_
  have hz:acc.size=j.toNat:=hacc.1
  have rv:=QgA hacc
  have hf:H s.heap.objs.size=none:=I.hok.fresh (Nat.le_refl _)
  refine ⟨.ref s.heap.objs.size,upd H s.heap.objs.size (.lst ((List.range j.toNat).map fun i=>V.int (i:Nat))),I.laid (t':=tk) kp (Nat.le_refl _) ⟨?_,acc.toList,c',rv,by rw [hS]⟩,rfl,q _ _ (Qab hf) hf Qad⟩
  rw [List.length_map,List.length_range]
  exact Nat.le_of_lt (Rk.lt_line (by omega))
end
end L2
namespace Rk
open PySem PySem.Spec PyProof.Rows L2
def Qcx (m:Nat):List Int:=(List.range m).map fun (i:Nat)=>(i:Int)
theorem Qcd (m:Nat):(Qcx m).length=m:=by
  unfold Qcx
  rw [List.length_map,List.length_range]
end Rk
namespace L2
open PySem PySem.Spec PyProof.Rows
section
variable {X:Cx} {pins:List (Addr×Obj)} {σ:St} {H:Hp}
theorem QbH {M:List Str} {scope:Scope} {fp:List Addr} {σ':St} {H3:Hp} {s3 s':Shared} {D:Addr} {i:Nat} {y:Str} {py:Pos} {Mo:Model} {A:Around} {E:Value->Shared->Prop} {Q:Value->Shared->Prop}
    (I3:Inv X pins σ H3 s3) (f3:∀ b∈fp,FpOk X pins H3 b) (J:Inv (blk X M scope (clOf X.env scope.names []) fp s3 H3 s3.heap.objs.size) [] σ' H s')
    (hN:X.N.Nodup) (hi:X.N[i]? = some y) (hl:X.env.scope.names.lookup y=some .local) (hq:∀ s2,Inv X pins (σ.set i (some (.ref D))) H s2->Q .none s2) :
    wpAny Mo A (assign (.Name y py) X.env (.ref D)) (fun _ s2=>∃ m,s2.heap.Ns s3.heap.objs.size m/\∀ h',Heap.SameBut s3.heap.objs.size s2.heap h'->Q .none { s2 with heap:=h' }) E s':=by
  have J0:Inv X pins σ H s':=QiQ I3 f3 J (Heap.SameBut.refl ..)
  obtain ⟨m,hn,_⟩:=J.loc
  have hC:H s3.heap.objs.size=none:=J.free
  have lt:X.env.locals<s3.heap.objs.size:=I3.lt
  refine wpAny_assign_Name (Qec J0 hN hi (Or.inl hl) (show RelV (.ref D) (.ref D) from rfl) (fun s2 J2 ⟨a,sb,ha⟩=>?_) (.inr hl))
  have ea:a=X.env.locals∨X.env.cells.lookup y=some a:=ha
  have na:s3.heap.objs.size≠a:=by
    rcases ea with z | z
    · rw [z];exact Nat.ne_of_gt lt
    · obtain ⟨v,o,ho,_⟩:=I3.cell y a z
      exact Nat.ne_of_gt (Heap.lt_size ho)
  refine ⟨m,hn.sameBut sb na,fun h' hs=>hq _ ?_⟩
  refine J2.turned (t':=s2.toks) (it:=s3.heap.objs.size) (fun b o hb e=>hs.extBut b o hb e) hC (Nat.ne_of_gt lt) (.inr I3.sz) (fun x c e z=>?_) fun p hp z=>?_
  · obtain ⟨v,o,ho,_⟩:=I3.cell x c e
    exact absurd (z ▸ Heap.lt_size ho) (Nat.lt_irrefl _)
  · have e:=(I3.pin p hp).1
    exact absurd (z ▸ Heap.lt_size e) (Nat.lt_irrefl _)
end
theorem ps_lcomp {X:Cx} {M:List Str} {cap:List (Option Nat)} {elt tg iter:Expr} {ifs:List Expr} {scope:Scope} {pos:Pos} {wi:TI} {g:TG} {tc:TT} {te:TE} {i:Nat} {y:Str} {py spos:Pos} (hN:X.N.Nodup) (hiy:X.N[i]? = some y) (hly:X.env.scope.names.lookup y=some .local) (hc:X.calm=true) (ok:QeH X.N X.env.scope M scope cap=true)
    (hi:PI X tg iter wi) (hb:∀ cl ex s3 H3 C,PG (blk X M scope cl ex s3 H3 C) tg g/\PTs (blk X M scope cl ex s3 H3 C) ifs tc/\PE (blk X M scope cl ex s3 H3 C) elt te)
    (hs:∀ x,foldedSetIterable iter X.env x=pure x:=by intro _;rfl)  (hsw:swapsWith (.ListComp elt [⟨tg,iter,ifs,0⟩] scope pos) (some (.Name y py)) spos.line X.env=pure true:=by rfl):PS X (.Assign [.Name y py] (.ListComp elt [⟨tg,iter,ifs,0⟩] scope pos) spos) (tAsg (tComp cap wi g tc te) (QcG i)):=by
  intro pins s σ H D I h
  have c:=CapOk.of ok
  rw [exec_Assign_Name_used _ _ _ _ hsw]
  refine wpAny_bind (wpAny_standAt (wpAny_bind ?_))
  show wpAny _ X.A (do let _ <- comprehension (.ListComp elt [⟨tg,iter,ifs,0⟩] scope pos) scope X.env _ (newList []) false (eval iter X.env) (some (assign (.Name y py) X.env))) _ _ s
  refine wpAny_bind (wpAny_mono (wpAny_comprehension_free (use:=some (assign (.Name y py) X.env)) (Q:=fun _ s'=>SP X pins D .next s') rfl hs (Qfj (I.ok.cells c)) c.kind c.loc ?_) (fun _ s' hq=>wpAny_pure (wpAny_pure hq)) fun _ _ e=>e)
  refine thn (hi pins s σ H _ I h) fun v s1 h1=>thn h1 fun itv s2 h2=>?_
  obtain ⟨it,fp,tn,J,H2,e,I2,T,st2,f2,hW⟩:=h2
  subst e
  refine wpAny_newObj_type (wpAny_newFunctionEnv c.cell (by intro y hy;simp at hy) (fun h₁ hns₁ hsb₁=>?_) c.kind)
  have I3:Inv X pins σ (upd H2 s2.heap.objs.size (.lst [])) { s2 with heap:=s2.heap.push { cls:=.type "list",data:=.seq ([]:List Value).toArray } }:=I2.lnew (t':=s2.toks) (ys:=[]) .nil (Nat.zero_le _)
  have lt2:∀ b∈fp,b<s2.heap.objs.size:=fun b hb=>by obtain ⟨o,e,_⟩:=T.obj _ _ st2 b hb;exact Heap.lt_size e
  have f3:∀ b∈fp,FpOk X pins (upd H2 s2.heap.objs.size (.lst [])) b:=fun b hb=>(f2 b hb).upd (Nat.ne_of_lt (lt2 b hb))
  generalize hs3:({ s2 with heap:=s2.heap.push { cls:=.type "list",data:=.seq ([]:List Value).toArray } }:Shared)=s3 at I3
  have e3:s3.heap=s2.heap.push { cls:=.type "list",data:=.seq ([]:List Value).toArray }:=by rw [<- hs3]
  have z3:s3.heap.objs.size=s2.heap.objs.size+1:=by rw [e3,Heap.size_push]
  have hk:∀ b o,s3.heap.get? b=some o->h₁.get? b=some o:=fun b o e=>hsb₁.extBut b o (by
    have:=Heap.lt_size e
    rw [e3] at this
    exact Nat.ne_of_lt this) (Heap.get?_push_of_some _ (e3 ▸ e))
  have hn₁:h₁.Ns s3.heap.objs.size fun _=>none:=by rw [e3];exact hns₁
  have B:=Qdh (t4:=s3.toks+([]:List (Str×Value)).length) (fp:=fp) I3 c f3 (fun b hb=>by rw [z3];exact Nat.lt_succ_of_lt (lt2 b hb)) hn₁ hk
  have st4:tn 0 h₁:=T.keep _ _ _ st2 fun b hb o e=>hk b o (by rw [e3];exact Heap.get?_push_of_some _ e)
  have fp4:∀ b∈fp,FpOk (blk X M scope (clOf X.env scope.names []) fp s3 (upd H2 s2.heap.objs.size (.lst [])) s3.heap.objs.size) [] (upd H2 s2.heap.objs.size (.lst [])) b:=fun b hb=>by
    refine ⟨(f3 b hb).1,(B.ok.exf b hb).1,B.ok.exfs b hb,.inl hb,(B.ok.exf b hb).2,fun p hp=>(nomatch hp)⟩
  obtain ⟨hg,ht,he⟩:=hb (clOf X.env scope.names []) fp s3 (upd H2 s2.heap.objs.size (.lst [])) s3.heap.objs.size
  have loop:codeAny (model X.prog X.w) X.A (.compLoop (.ListComp elt [⟨tg,iter,ifs,0⟩] scope pos) 0 (.ref it) (.ref s2.heap.objs.size) (compEnvC scope (clOf X.env scope.names []) s3.heap.objs.size X.env))
      (compPost (model X.prog X.w) X.A X.xe (some (assign (.Name y py) X.env)) (fun _ s'=>SP X pins D .next s') (.ref s2.heap.objs.size) s3.heap.objs.size) { s3 with heap:=h₁,toks:=s3.toks+([]:List (Str×Value)).length }:=by
    refine Qb7 (Y:=blk X M scope (clOf X.env scope.names []) fp s3 (upd H2 s2.heap.objs.size (.lst [])) s3.heap.objs.size) (gens:=[⟨tg,iter,ifs,0⟩]) (d:=0) hc T st4 fp4
      (fun Q E s h=>Qfs Q E s h) (fun x u r=>Qd5 rfl hg ht (fun σ4=>Qd6 rfl he) x u r) B (hW _ (I2.hok.fresh (Nat.le_refl _))) fun s' H' I' q=>?_
    exact QbH (Q:=fun _ s'=>SP X pins D .next s') I3 f3 I' hN hiy hly fun s2' J2=>⟨_,H',J2,q⟩
  exact codeAny_compStart_list loop (T.self _ 0 _ _ _ st4 loop)
theorem Qhh {X:Cx} {M:List Str} {cap:List (Option Nat)} {elt tg iter tg2 iter2:Expr} {ifs ifs2:List Expr} {scope:Scope} {pos:Pos} {wi wi2:TI} {g g2:TG} {tc tc2:TT} {te:TE} {i:Nat} {y:Str} {py spos:Pos} (hN:X.N.Nodup) (hiy:X.N[i]? = some y) (hly:X.env.scope.names.lookup y=some .local) (hc:X.calm=true) (ok:QeH X.N X.env.scope M scope cap=true)
    (hi:PI X tg iter wi) (hb:∀ cl ex s3 H3 C,PG (blk X M scope cl ex s3 H3 C) tg g/\PTs (blk X M scope cl ex s3 H3 C) ifs tc/\PI (blk X M scope cl ex s3 H3 C) tg2 iter2 wi2/\PG (blk X M scope cl ex s3 H3 C) tg2 g2/\PTs (blk X M scope cl ex s3 H3 C) ifs2 tc2/\PE (blk X M scope cl ex s3 H3 C) elt te)
    (hs:∀ x,foldedSetIterable iter X.env x=pure x:=by intro _;rfl) (hs2:∀ env x,foldedSetIterable iter2 env x=pure x:=by intro _ _;rfl)  (hsw:swapsWith (.ListComp elt [⟨tg,iter,ifs,0⟩,⟨tg2,iter2,ifs2,0⟩] scope pos) (some (.Name y py)) spos.line X.env=pure true:=by rfl):PS X (.Assign [.Name y py] (.ListComp elt [⟨tg,iter,ifs,0⟩,⟨tg2,iter2,ifs2,0⟩] scope pos) spos) (tAsg (Qkv cap wi g tc wi2 g2 tc2 te) (QcG i)):=by
  intro pins s σ H D I h
  have c:=CapOk.of ok
  rw [exec_Assign_Name_used _ _ _ _ hsw]
  refine wpAny_bind (wpAny_standAt (wpAny_bind ?_))
  show wpAny _ X.A (do let _ <- comprehension (.ListComp elt [⟨tg,iter,ifs,0⟩,⟨tg2,iter2,ifs2,0⟩] scope pos) scope X.env _ (newList []) false (eval iter X.env) (some (assign (.Name y py) X.env))) _ _ s
  refine wpAny_bind (wpAny_mono (wpAny_comprehension_free (use:=some (assign (.Name y py) X.env)) (Q:=fun _ s'=>SP X pins D .next s') rfl hs (Qfj (I.ok.cells c)) c.kind c.loc ?_) (fun _ s' hq=>wpAny_pure (wpAny_pure hq)) fun _ _ e=>e)
  refine thn (hi pins s σ H _ I h) fun v s1 h1=>thn h1 fun itv s2 h2=>?_
  obtain ⟨it,fp,tn,J,H2,e,I2,T,st2,f2,hW⟩:=h2
  subst e
  refine wpAny_newObj_type (wpAny_newFunctionEnv c.cell (by intro y hy;simp at hy) (fun h₁ hns₁ hsb₁=>?_) c.kind)
  have I3:Inv X pins σ (upd H2 s2.heap.objs.size (.lst [])) { s2 with heap:=s2.heap.push { cls:=.type "list",data:=.seq ([]:List Value).toArray } }:=I2.lnew (t':=s2.toks) (ys:=[]) .nil (Nat.zero_le _)
  have lt2:∀ b∈fp,b<s2.heap.objs.size:=fun b hb=>by obtain ⟨o,e,_⟩:=T.obj _ _ st2 b hb;exact Heap.lt_size e
  have f3:∀ b∈fp,FpOk X pins (upd H2 s2.heap.objs.size (.lst [])) b:=fun b hb=>(f2 b hb).upd (Nat.ne_of_lt (lt2 b hb))
  generalize hs3:({ s2 with heap:=s2.heap.push { cls:=.type "list",data:=.seq ([]:List Value).toArray } }:Shared)=s3 at I3
  have e3:s3.heap=s2.heap.push { cls:=.type "list",data:=.seq ([]:List Value).toArray }:=by rw [<- hs3]
  have z3:s3.heap.objs.size=s2.heap.objs.size+1:=by rw [e3,Heap.size_push]
  have hk:∀ b o,s3.heap.get? b=some o->h₁.get? b=some o:=fun b o e=>hsb₁.extBut b o (by
    have:=Heap.lt_size e
    rw [e3] at this
    exact Nat.ne_of_lt this) (Heap.get?_push_of_some _ (e3 ▸ e))
  have hn₁:h₁.Ns s3.heap.objs.size fun _=>none:=by rw [e3];exact hns₁
  have B:=Qdh (t4:=s3.toks+([]:List (Str×Value)).length) (fp:=fp) I3 c f3 (fun b hb=>by rw [z3];exact Nat.lt_succ_of_lt (lt2 b hb)) hn₁ hk
  have st4:tn 0 h₁:=T.keep _ _ _ st2 fun b hb o e=>hk b o (by rw [e3];exact Heap.get?_push_of_some _ e)
  have fp4:∀ b∈fp,FpOk (blk X M scope (clOf X.env scope.names []) fp s3 (upd H2 s2.heap.objs.size (.lst [])) s3.heap.objs.size) [] (upd H2 s2.heap.objs.size (.lst [])) b:=fun b hb=>by
    refine ⟨(f3 b hb).1,(B.ok.exf b hb).1,B.ok.exfs b hb,.inl hb,(B.ok.exf b hb).2,fun p hp=>(nomatch hp)⟩
  obtain ⟨hg,ht,hi2,hg2,ht2,he⟩:=hb (clOf X.env scope.names []) fp s3 (upd H2 s2.heap.objs.size (.lst [])) s3.heap.objs.size
  have loop:codeAny (model X.prog X.w) X.A (.compLoop (.ListComp elt [⟨tg,iter,ifs,0⟩,⟨tg2,iter2,ifs2,0⟩] scope pos) 0 (.ref it) (.ref s2.heap.objs.size) (compEnvC scope (clOf X.env scope.names []) s3.heap.objs.size X.env))
      (compPost (model X.prog X.w) X.A X.xe (some (assign (.Name y py) X.env)) (fun _ s'=>SP X pins D .next s') (.ref s2.heap.objs.size) s3.heap.objs.size) { s3 with heap:=h₁,toks:=s3.toks+([]:List (Str×Value)).length }:=by
    refine Qb7 (Y:=blk X M scope (clOf X.env scope.names []) fp s3 (upd H2 s2.heap.objs.size (.lst [])) s3.heap.objs.size) (gens:=[⟨tg,iter,ifs,0⟩,⟨tg2,iter2,ifs2,0⟩]) (d:=0) hc T st4 fp4
      (fun Q E s h=>Qgg (hs2 _) Q E s h) (fun x u r=>Qd5 rfl hg ht (fun σ4=>QiP rfl hc hi2 hg2 ht2 he) x u r) B (hW _ (I2.hok.fresh (Nat.le_refl _))) fun s' H' I' q=>?_
    exact QbH (Q:=fun _ s'=>SP X pins D .next s') I3 f3 I' hN hiy hly fun s2' J2=>⟨_,H',J2,q⟩
  exact codeAny_compStart_list loop (T.self _ 0 _ _ _ st4 loop)
end L2
namespace Rk
open PySem PySem.Spec PyProof.Rows L2 _root_.Rd
theorem Cs.get {p:Addr} {H:Hp}:∀ {ps:List V} {L:List (Int×Int)},Cs p H ps L->∀ (i:Nat) (x:V),ps[i]? = some x->∃ ij,L[i]? = some ij/\∃ d,d≠p/\x=.ref d/\H d=some (.tup [.int ij.1,.int ij.2])
  | _,_,.nil,i,x,e=>by simp at e
  | _,_,.cons r t,0,x,e=>by simp at e;subst e;exact ⟨_,rfl,r⟩
  | _,_,.cons r t,i+1,x,e=>by
    obtain ⟨ij,h1,h2⟩:=Cs.get t i x (by simpa using e)
    exact ⟨ij,by simpa using h1,h2⟩
section
variable {X:Cx}
def rNeD (X:Cx):R2:=fun x y H Q=>∃ dx dy,Dat H x dx/\Dat H y dy/\X.A.units+min dx.depth dy.depth<cLine/\Q (.bl (!PyData.eqv dx dy)) H
theorem op_neD:OpR X (compareOp .NotEq) (rNeD X):=by
  intro pins s σ H x y v u Q I rx ry h
  obtain ⟨dx,dy,qx,qy,hu,q⟩:=h
  obtain ⟨⟨as,ra⟩,ca⟩:=QaZ I.hok dx x v qx rx
  obtain ⟨⟨bs,rb⟩,cb⟩:=QaZ I.hok dy y u qy ry
  exact SeqAt.compareNe_reads ra rb ca cb hu ⟨.bl _,H,I,rfl,q⟩
end
theorem Cs.re {p p':Addr} {H:Hp} {zs:List V} (e:H p'=some (.lst zs)):∀ {ps:List V} {L:List (Int×Int)},Cs p H ps L->Cs p' H ps L
  | _,_,.nil=>.nil
  | _,_,.cons ⟨d,_,ev,h⟩ t=>.cons ⟨d,(fun z=>by rw [z,e] at h;cases h),ev,h⟩ (Cs.re e t)
theorem Cs.app {p:Addr} {H:Hp}:∀ {ps qs:List V} {L M:List (Int×Int)},Cs p H ps L->Cs p H qs M->Cs p H (ps++qs) (L++M)
  | _,_,_,_,.nil,h=>h
  | _,_,_,_,.cons r t,h=>.cons r (Cs.app t h)
end Rk
namespace Rk
open PySem PySem.Spec PyProof.Rows L2
def Qkt:List Str:=["text", "order", "lines", "few", "size", "many", "number", "stand", "cell", "square", "hits", "counts", "stairs", "alike", "parting", "place", "double", "deed", "row"]
def spKind (K:PySem.W.Frag) (cs:List Addr):Sp:=fun vs H Q _=>∃ (a C:Addr) (bs:List Bool) (j:Nat) (wd:Str),vs=[.ref a]/\H a=some (Rx.exO a C)/\Rx.ExC K C/\Paired (fun c b=>PySem.W.kitOne K (.ref C) (.ref c)=some b) cs bs/\PySem.W.kitOne K (.ref C) (.type "ValueError")=some true /\
  bs.countP id=1/\bs[j]? = some true/\(∀ m,m<j->bs[m]? = some false)/\Qkt[j]? = some wd/\∀ H',Same H H'->Q (.str wd) H'
end Rk
namespace Rx
open PySem PySem.Spec PySem.Calls PyProof.Rows L2
section
variable {X:Cx} {E:XK}
end
section
variable {X:Cx} {tf:TE} {fe:Expr} {pos:Pos} {e:Expr} {es:List Expr} {t:TA} {M:Addr->Sp->Prop}
end
end Rx
namespace Rk
open PySem PySem.Spec PyProof.Rows L2 _root_.Rd
structure GlbA (mg:Str->Option Value):Prop where
  isinstance:mg "isinstance" = none
  int:mg "int" = none
  bool:mg "bool" = none
  str:mg "str" = none
  tuple:mg "tuple" = none
  list:mg "list" = none
  all:mg "all" = none
  len:mg "len" = none
  zip:mg "zip" = none
  enumerate:mg "enumerate" = none
  range:mg "range" = none
  max:mg "max" = none
  min:mg "min" = none
  sorted:mg "sorted" = none
  sum:mg "sum" = none
  set:mg "set" = none
  any:mg "any" = none
  reversed:mg "reversed" = none
  divmod:mg "divmod" = none
structure KOk (K:PySem.W.Frag) (cs:List Addr) (R C:Addr) (wd:Str):Prop where
  by_:Rx.ByC K C R
  ex:∃ (bs:List Bool) (j:Nat),Rx.ExC K C/\Paired (fun c b=>PySem.W.kitOne K (.ref C) (.ref c)=some b) cs bs/\PySem.W.kitOne K (.ref C) (.type "ValueError")=some true/\bs.countP id=1/\bs[j]? = some true/\(∀ m,m<j->bs[m]? = some false)/\Qkt[j]? = some wd
def rInU (u:Nat) (neg:Bool):R2:=fun x y H Q=>∃ c ps ds d,y=.ref c/\H c=some (.tup ps)/\Dats H ps ds/\Dat H x d/\u+d.depth<cLine/\Q (.bl (if neg then !(ds.any fun e=>PyData.eqv e d) else ds.any fun e=>PyData.eqv e d)) H
theorem op_inU {X:Cx}:OpR X (compareOp .In) (rInU X.A.in1.units false):=op_inD
end Rk
namespace Rx
open PySem PySem.Spec PySem.Calls PyProof.Rows L2
section
variable {P:Program} {w:World} {K:PySem.W.Frag} {mg:Str->Option Value} {base:Heap}
end
end Rx
namespace Rk
open PySem PySem.Spec PyProof.Rows L2 _root_.Rd
def FinV (is js:List Nat) (p:Addr) (σ:L2.St) (H:Hp):Prop:=(∃ o,H p=some o)/\(∀ i∈is,∃ v,σ[i]? = some (some v)/\FineA p H v)/\∀ j∈js,∃ k,σ[j]? = some (some (.int k))
theorem FinV.same {is js:List Nat} {p:Addr} {σ:L2.St} {H H':Hp} (h:FinV is js p σ H) (s:Same H H'):FinV is js p σ H':=by
  obtain ⟨⟨o,ho⟩,h1,h2⟩:=h
  refine ⟨⟨o,s _ _ ho⟩,fun i hi=>?_,h2⟩
  obtain ⟨v,e,f⟩:=h1 i hi
  exact ⟨v,e,f.keep (KX.of s)⟩
section
variable {X:Cx} {is js:List Nat}
end
theorem handled {K:PySem.W.Frag} {cs:List Addr} {R C:Addr} {wd:Str} (o:KOk K cs R C wd) {H1:Hp} {Q:VK} {σ:L2.St} {i:Nat} (hi:i < σ.length) (k:∀ H',Same H1 H'->Q (.str wd) H') :
    Rx.ByC K C R/\∀ a,H1 a=none->(Qca (tVar i) tNil) (σ.set i (some (.ref a))) (upd H1 a (Rx.exO a C)) fun vs H2=>spKind K cs vs H2 Q E0:=by
  refine ⟨o.by_,fun a ha=>?_⟩
  obtain ⟨bs,j,hx,pb,eV,hc,hj,hm,hw⟩:=o.ex
  exact ⟨_,List.getElem?_set_self hi,a,C,bs,j,wd,rfl,Qad,hx,pb,eV,hc,hj,hm,hw,fun H2 s2=>k H2 ((Qab ha).trans s2)⟩
end Rk
namespace L2
open PySem PySem.Spec PyProof.Rows
theorem QaQ {h:Heap} {a:Addr} {its:Array Value} (p:PlainL h a its):h.IsList a its:=by
  obtain ⟨o,n,h1,h2,_,h3⟩:=p
  exact ⟨o,h1,h2,n,h3⟩
structure ZipLAt (h:Heap) (z TI TO i1 i2 t1 t2:Addr) (f:Value) (k:Nat):Prop where
  zp:IsZip h z TI TO f
  ti:IsPair h TI (.ref i1) (.ref i2)
  to:∃ a b,IsPair h TO a b
  i1:h.IsListIter i1 t1 k
  i2:h.IsListIter i2 t2 k
section
variable {prog:Program} {w:World} {A:Around} {E:Value->Shared->Prop} {s:Shared}
theorem QgJ {z TI TO i1 i2 t1 t2:Addr} {k:Nat} {xs ys:Array Value} {x y:Value} {Q:Option Value->Shared->Prop} (D:ZipApart z TI TO i1 i2 t1 t2) (Z:ZipLAt s.heap z TI TO i1 i2 t1 t2 .none k)
    (hl1:s.heap.IsList t1 xs) (hl2:s.heap.IsList t2 ys) (hx:xs[k]? = some x) (hy:ys[k]? = some y)
    (hQ:∀ h',ZipLAt h' z TI TO i1 i2 t1 t2 (rawInt s.heap.objs.size) (k+1)->IsPair h' s.heap.objs.size x y->(∀ c o,c≠z->c≠TO->c≠i1->c≠i2->s.heap.get? c=some o->h'.get? c=some o)->Q (some (.ref s.heap.objs.size)) { s with heap:=h' }) :
    wpAny (model prog w) A (pyNext (.ref z)) Q E s:=by
  obtain ⟨hz,hTI,⟨a,b,hTO⟩,h1,h2⟩:=Z
  exact wpAny_pyNext_zip_item D hz hTI hTO h1 h2 hl1 hl2 hx hy fun h' a1 a2 a3 a4 a5 a6 a7=>hQ h' ⟨a1,a7 _ _ D.TIz D.TITO D.TIi1 D.TIi2 hTI,⟨x,y,a2⟩,a3,a4⟩ a5 a7
theorem QiZ {z TI TO i1 i2 t1 t2:Addr} {k:Nat} {xs ys:Array Value} {Q:Option Value->Shared->Prop} (hh:A.handled=none) (D:ZipApart z TI TO i1 i2 t1 t2) (Z:ZipLAt s.heap z TI TO i1 i2 t1 t2 .none k)
    (hl1:s.heap.IsList t1 xs) (hl2:s.heap.IsList t2 ys) (hend:xs[k]? = none∨ys[k]? = none)
    (hQ:∀ h',(∀ c o,c≠z->c≠TO->c≠i1->c≠i2->s.heap.get? c=some o->h'.get? c=some o)->Q none { s with heap:=h' }):wpAny (model prog w) A (pyNext (.ref z)) Q E s:=by
  obtain ⟨hz,hTI,⟨a,b,hTO⟩,h1,h2⟩:=Z
  exact wpAny_pyNext_zip_end hh D hz hTI hTO h1 h2 hl1 hl2 hend hQ
theorem QgK {t1 t2:Addr} {xs ys:Array Value} {Q:Value->Shared->Prop} (hl1:s.heap.IsList t1 xs) (hl2:s.heap.IsList t2 ys)
    (h:∀ h',ZipLAt h' (s.heap.objs.size+4) (s.heap.objs.size+2) (s.heap.objs.size+3) s.heap.objs.size (s.heap.objs.size+1) t1 t2 .none 0->(∀ c o,s.heap.get? c=some o->h'.get? c=some o)->Q (.ref (s.heap.objs.size+4)) { s with heap:=h' }) :
    wpAny (model prog w) A (call (.type "zip") [.ref t1,.ref t2]) Q E s:=
  call_zip_2 hl1 hl2 fun h' a1 a2 a3 a4 a5 a6 a7=>h h' ⟨a1,a2,⟨_,_,a3⟩,a4,a5⟩ a7
end
def ItzL (t1 t2:Addr):It:=
  ⟨fun i H=>∃ xs ys x y,H t1=some (.lst xs)/\H t2=some (.lst ys)/\xs[i]? = some x/\ys[i]? = some y,
   fun i H v H'=>∃ p x y,H p=none/\(∀ xs,H t1=some (.lst xs)->xs[i]? = some x)/\(∀ ys,H t2=some (.lst ys)->ys[i]? = some y)/\v=.ref p/\H'=upd H p (.tup [x,y]),
   fun i H=>∃ xs ys,H t1=some (.lst xs)/\H t2=some (.lst ys)/\(xs.length<=i∨ys.length<=i)⟩
theorem QgO {P:Program} {w:World} {K:PySem.W.Frag} {elts:List Expr} {x1} {tpos:Pos} {z TI TO i1 i2 t1 t2:Addr} (D:ZipApart z TI TO i1 i2 t1 t2) :
    Turn P w K (.Tuple elts x1 tpos) (ItzL t1 t2) [z,TI,TO,i1,i2] z (fun i h=>ZipLAt h z TI TO i1 i2 t1 t2 .none i) where
  mem:=by simp
  obj:=fun i h st b hb=>by
    obtain ⟨a1,a2,⟨_,_,a3⟩,⟨o4,a4,_,d4⟩,⟨o5,a5,_,d5⟩⟩:=st
    simp only [List.mem_cons,List.not_mem_nil,or_false] at hb
    rcases hb with rfl | rfl | rfl | rfl | rfl
    · exact ⟨_,a1,fun v q=>nomatch q⟩
    · exact ⟨_,a2,fun v q=>nomatch q⟩
    · exact ⟨_,a3,fun v q=>nomatch q⟩
    · exact ⟨_,a4,fun v q=>by rw [d4] at q;cases q⟩
    · exact ⟨_,a5,fun v q=>by rw [d5] at q;cases q⟩
  keep:=fun i h h' st k=>by
    obtain ⟨a1,a2,⟨a,b,a3⟩,a4,a5⟩:=st
    exact ⟨k z (by simp) _ a1,k TI (by simp) _ a2,⟨a,b,k TO (by simp) _ a3⟩,a4.at fun o e=>k i1 (by simp) o e,a5.at fun o e=>k i2 (by simp) o e⟩
  item:=by
    intro X hP hw hK hc i pins s σ H E I hf st hg
    subst hP hw hK
    obtain ⟨xs,ys,x,y,h1,h2,hx,hy⟩:=hg
    obtain ⟨its1,r1,p1,_⟩:=I.list (SqL.of h1)
    obtain ⟨its2,r2,p2,_⟩:=I.list (SqL.of h2)
    obtain ⟨u1,hu1,ru1⟩:=r1.get hx
    obtain ⟨u2,hu2,ru2⟩:=r2.get hy
    refine QgJ D st (QaQ p1) (QaQ p2) (by simpa using hu1) (by simpa using hu2) fun h' st' tp kp=>?_
    have hlt:∀ b∈[z,TI,TO,i1,i2],b≠s.heap.objs.size:=fun b hb=>by
      obtain ⟨a1,a2,⟨_,_,a3⟩,⟨o4,a4,_,d4⟩,⟨o5,a5,_,d5⟩⟩:=st
      simp only [List.mem_cons,List.not_mem_nil,or_false] at hb
      rcases hb with rfl | rfl | rfl | rfl | rfl
      · exact Nat.ne_of_lt (Heap.lt_size a1)
      · exact Nat.ne_of_lt (Heap.lt_size a2)
      · exact Nat.ne_of_lt (Heap.lt_size a3)
      · exact Nat.ne_of_lt (Heap.lt_size a4)
      · exact Nat.ne_of_lt (Heap.lt_size a5)
    have fr:H s.heap.objs.size=none:=I.hok.fresh (Nat.le_refl _)
    refine ⟨_,rfl,wpAny_letOwnedTupleGo_zip st'.zp fun h2' z2 s2=>?_⟩
    have I1:Inv X pins σ (upd H s.heap.objs.size (.tup [x,y])) { s with heap:=h2',toks:=s.toks }:=by
      refine I.turnedNew (ch:=[z,TI,TO,i1,i2]) hf (fun b u hb e=>?_) (Nat.le_refl _) ⟨by show 2<=sizeLine;decide,[u1,u2],.cons ru1 (.cons ru2 .nil),?_⟩
      · simp only [List.mem_cons,List.not_mem_nil,or_false,not_or] at hb
        exact s2.extBut _ _ hb.1 (kp b u hb.1 hb.2.2.1 hb.2.2.2.1 hb.2.2.2.2 e)
      · exact ⟨_,s2.extBut _ _ (hlt z (by simp)).symm tp,rfl,0,rfl⟩
    refine ⟨.ref s.heap.objs.size,_,I1,rfl,⟨_,x,y,fr,fun xs' e=>?_,fun ys' e=>?_,rfl,rfl⟩,?_,fun b hb=>?_⟩
    · rw [h1] at e;cases e;exact hx
    · rw [h2] at e;cases e;exact hy
    · obtain ⟨a1,a2,⟨a,b,a3⟩,a4,a5⟩:=st'
      exact ⟨z2,s2.extBut _ _ D.TIz a2,⟨a,b,s2.extBut _ _ D.TOz a3⟩,a4.extBut s2.extBut D.i1z,a5.extBut s2.extBut D.i2z⟩
    · rw [Qai (hlt b hb)];exact (hf b hb).1
  done:=by
    intro X hP hw hK hc i pins s σ H E I hf st hg
    subst hP hw hK
    obtain ⟨xs,ys,h1,h2,he⟩:=hg
    obtain ⟨its1,r1,p1,_⟩:=I.list (SqL.of h1)
    obtain ⟨its2,r2,p2,_⟩:=I.list (SqL.of h2)
    have l1:=r1.length
    have l2:=r2.length
    refine QiZ (I.ok.hd hc) D st (QaQ p1) (QaQ p2) ?_ fun h' kp=>⟨rfl,I.turnedAll (t':=s.toks) (ch:=[z,TI,TO,i1,i2]) hf fun b u hb e=>?_⟩
    · rcases he with q | q
      · exact .inl (by simp;omega)
      · exact .inr (by simp;omega)
    · simp only [List.mem_cons,List.not_mem_nil,or_false,not_or] at hb
      exact kp b u hb.1 hb.2.2.1 hb.2.2.2.1 hb.2.2.2.2 e
  self:=fun _ _ _ _ _ st h=>wpAny_pyIter_zip st.zp h
section
variable {X:Cx}
theorem QgG (n t1 t2:Nat) (h1:t1<n) (h2:t2<n):ZipApart (n+4) (n+2) (n+3) n (n+1) t1 t2 where
  TIz:=by show ¬ (n+2=n+4);omega
  TOz:=by show ¬ (n+3=n+4);omega
  i1z:=by show ¬ (n=n+4);omega
  i2z:=by show ¬ (n+1=n+4);omega
  TITO:=by show ¬ (n+2=n+3);omega
  TIi1:=by show ¬ (n+2=n);omega
  TIi2:=by show ¬ (n+2=n+1);omega
  TOi1:=by show ¬ (n+3=n);omega
  TOi2:=by show ¬ (n+3=n+1);omega
  i12:=by show ¬ (n=n+1);omega
  l1z:=by show ¬ (t1=n+4);omega
  l1TO:=by show ¬ (t1=n+3);omega
  l1i1:=by show ¬ (t1=n);omega
  l1i2:=by show ¬ (t1=n+1);omega
  l2z:=by show ¬ (t2=n+4);omega
  l2TO:=by show ¬ (t2=n+3);omega
  l2i1:=by show ¬ (t2=n);omega
  l2i2:=by show ¬ (t2=n+1);omega
def iZipL (ta:TA):TI:=fun σ H R=>ta σ H fun vs H1=>∃ t1 t2 xs ys,vs=[.ref t1,.ref t2]/\H1 t1=some (.lst xs)/\H1 t2=some (.lst ys)/\R (ItzL t1 t2) H1
theorem QiL:bootBuiltins "zip" = some (.type "zip"):=by decide +kernel
theorem Qhm {a b:Expr} {elts:List Expr} {x1} {tpos:Pos} {ta:TA} {p pos:Pos} (hg:Gl X "zip") (hm:X.mg "zip" = none) (ha:PA X [a,b] ta) (hs:starEach [a,b] X.env=[(false,eval a X.env),(false,eval b X.env)]:=by rfl) (hs2:starEach [b] X.env=[(false,eval b X.env)]:=by rfl) :
    PI X (.Tuple elts x1 tpos) (.Call (.Name "zip" p) [a,b] [] pos) (iZipL ta):=by
  intro pins s σ H R I h
  refine Call_ (QcD I hg hm QiL (PyProof.Rows.callWith_type1 (thn (ha pos pins s σ H _ I h) fun us s1 ⟨vs,H1,I1,r1,q1⟩=>?_) (by rw [hs,hs2]) (by rw [hs2];rfl)))
  obtain ⟨t1,t2,xs,ys,e,h1,h2,q⟩:=q1
  subst e
  obtain ⟨u,v,rfl,ru,rv⟩:=QgM r1
  cases (show u=Value.ref t1 from ru)
  cases (show v=Value.ref t2 from rv)
  obtain ⟨its1,w1,p1,_⟩:=I1.list (SqL.of h1)
  obtain ⟨its2,w2,p2,_⟩:=I1.list (SqL.of h2)
  have n1:t1<s1.heap.objs.size:=I1.hok.lt h1
  have n2:t2<s1.heap.objs.size:=I1.hok.lt h2
  refine QgK (QaQ p1) (QaQ p2) fun h' st kp=>?_
  refine wpAny_pyIter_zip (s:={ s1 with heap:=h' }) st.zp ?_
  have D:=QgG s1.heap.objs.size t1 t2 n1 n2
  refine ⟨s1.heap.objs.size+4,_,_,_,H1,rfl,I1.kept (t':=s1.toks) kp,QgO D,st,fun b hb=>?_,q⟩
  have hb':s1.heap.objs.size<=b:=by
    simp only [List.mem_cons,List.not_mem_nil,or_false] at hb
    rcases hb with rfl | rfl | rfl | rfl | rfl<;>omega
  exact I1.fpOk hb' (I1.hok.fresh hb')
end
def Qlm (K:PySem.W.Frag):List V->Hp->VK->Prop:=fun xs H Q=>∃ p ys,xs=[.ref p]/\(SqL K H p ys∨SqT K H p ys)/\Q (.int ys.length) H
def rInt1:List V->Hp->VK->Prop:=fun xs H Q=>(∃ i,xs=[.int i]/\Q (.int i) H)∨∃ k,xs=[.bl k]/\Q (.int (if k then 1 else 0)) H
theorem bt_set:bootBuiltins "set" = some (.type "set"):=by decide +kernel
theorem QeK:bootBuiltins "sorted" = some (.builtin "sorted"):=by decide +kernel
def CMulB (i j:Int):Prop:=∃ k:Nat,k<=1000000/\i.natAbs<2^k/\j.natAbs<2^k
theorem QiR {i:Int} {k:Nat} (h:i.natAbs<2^k):Builtin.Int.intBits i<=k:=by
  unfold Builtin.Int.intBits
  split
  · exact Nat.zero_le _
  · rename_i z
    have hz:i.natAbs≠0:=by
      intro q
      apply z
      have:i=0:=by omega
      subst this
      rfl
    have:=(Nat.log2_lt hz).mpr h
    omega
theorem CMulB.ok {i j:Int} (h:CMulB i j):IntMulOk i j:=by
  obtain ⟨k,hk,h1,h2⟩:=h
  have a:=QiR h1
  have b:=QiR h2
  unfold IntMulOk
  have c:Builtin.Int.intTooBig (Builtin.Int.intBits i+Builtin.Int.intBits j:Nat)=false:=by
    unfold Builtin.Int.intTooBig
    rw [decide_eq_false]
    have:bitsLine=134217728:=by decide +kernel
    rw [this]
    omega
  intro z
  rw [Bool.and_eq_true] at z
  have z2:=z.2
  have e:((Builtin.Int.intBits i+Builtin.Int.intBits j:Nat):Int)=(Builtin.Int.intBits i:Int)+(Builtin.Int.intBits j:Int):=by omega
  rw [e] at c
  rw [c] at z2
  cases z2
section
variable {X:Cx}
theorem Ql1:OpR X (binaryOp .Mult) (rI CMulB fun i j=>.int (i*j)):=opI fun _ _ _ _ _ _ _ hc q=>mul_int q hc.ok
def iOr (a b:TI):TI:=fun σ H R=>a σ H R∨b σ H R
theorem pi_or {tg e:Expr} {a b:TI} (h1:PI X tg e a) (h2:PI X tg e b):PI X tg e (iOr a b):=by
  intro pins s σ H R I h
  rcases h with h | h
  · exact h1 pins s σ H R I h
  · exact h2 pins s σ H R I h
end
end L2
namespace Rk
open PySem PySem.Spec PyProof.Rows L2 _root_.Rd
def rNeU (u:Nat):R2:=fun x y H Q=>∃ dx dy,Dat H x dx/\Dat H y dy/\u+min dx.depth dy.depth<cLine/\Q (.bl (!PyData.eqv dx dy)) H
theorem op_neU {X:Cx}:OpR X (compareOp .NotEq) (rNeU X.A.units):=op_neD
def rEqU (u:Nat):R2:=fun x y H Q=>∃ dx dy,Dat H x dx/\Dat H y dy/\u+min dx.depth dy.depth<cLine/\Q (.bl (PyData.eqv dx dy)) H
theorem QfG {X:Cx}:OpR X (compareOp .Eq) (rEqU X.A.units):=op_eqD
def QbQ:Nat->PyData->Bool
  | _,.none=>true
  | _,.bool _=>true
  | _,.int _=>true
  | _,.str _=>true
  | n+1,.tuple ds=>decide (ds.length<=1000)&&ds.all (QbQ n)
  | n+1,.list ds=>decide (ds.length<=1000)&&ds.all (QbQ n)
  | _,_=>false
def QeY:Nat->Sp
  | 0=>fun _ _ _ _=>False
  | n+1=>fun vs H Q _=>∃ x y d,vs=[x,y]/\Dat H x d/\Dat H y d/\QbQ n d=true/\∀ H',Same H H'->Q (.bl true) H'
theorem Qmc {σ:L2.St} {H:Hp} {A B:Hp->Prop} (h:A H):QcS σ H fun b H5=>if b=true then A H5 else B H5:=by
  show (if true=true then A H else B H)
  exact iteT h
theorem Qez {H:Hp}:∀ (ns:List Int),Dats H (ns.map V.int) (ns.map PyData.int)
  | []=>.nil
  | n::ns=>.cons (.int n) (Qez ns)
end Rk
namespace Rx
open PySem PySem.Spec PySem.Calls PyProof.Rows L2
end Rx
namespace Rk
open PySem PySem.Spec PyProof.Rows L2 _root_.Rd
theorem Qmk {n:Nat} (h:n<=1000000):n<sizeLine:=Nat.lt_of_le_of_lt h (by decide)
theorem Qmp {n k:Nat} (h:k<n):ixN n (k:Nat)=some k:=by
  unfold ixN
  rw [if_pos (by omega),if_pos (by omega)]
  simp
end Rk
namespace HT
open PySem PyProof.Rows
section
open PySem.SeqAt
open PySem.AutoSeq1 (wpAny_loadPart')
open PySem.MeetsSeq PySem.MeetsSeq2 PySem.MeetsSeq3
end
section
variable {prog:Program} {w:World} {A:Around} {E:Value->Shared->Prop} {s:Shared}
end
end HT
namespace L2
open PySem PySem.Spec PyProof.Rows
def rSlLW (K:PySem.W.Frag):V->Option Int->Option Int->Hp->VK->Prop:=fun x lo hi H Q=>∃ a xs,x=.ref a/\SqL K H a xs/\∀ p H',Same H H'->H p=none->H' p=some (.lst (cutV xs lo hi))->Q (.ref p) H'
theorem Qi8 {X:Cx}:SlR X (rSlLW X.K):=by
  intro pins s σ H x v vl vu lo hi sl Q I rx hs pl pu h
  obtain ⟨a,xs,e,hx,q⟩:=h
  exact Qlc pins s σ H x v vl vu lo hi sl Q I rx hs pl pu ⟨a,xs,e,hx,fun p hp=>q p _ (Qab hp) hp Qad⟩
end L2
namespace Rk
open PySem PySem.Spec PyProof.Rows L2 _root_.Rd
end Rk
namespace L2
open PySem PySem.Spec PyProof.Rows
section
variable {X:Cx}
def Qg7 (K:PySem.W.Frag):List V->Hp->VK->Prop:=fun xs H Q=>∃ p ys,xs=[.ref p]/\((SqL K H p ys/\∀ l H',Same H H'->H l=none->H' l=some (.tup ys)->Q (.ref l) H')∨(SqT K H p ys/\Q (.ref p) H))
theorem Qar:CallR X (.type "tuple") (Qg7 X.K):=by
  intro pins s σ H xs us Q I r h
  obtain ⟨p,ys,e,h⟩:=h
  refine Qb8 pins s σ H xs us Q I r ⟨p,ys,e,?_⟩
  rcases h with ⟨h1,h2⟩ | h
  · exact .inl ⟨h1,fun l hl=>h2 l _ (Qab hl) hl Qad⟩
  · exact .inr h
def Qg9 (K:PySem.W.Frag):List V->Hp->VK->Prop:=fun xs H Q=>∃ p ys,xs=[.ref p]/\(SqL K H p ys∨SqT K H p ys)/\∀ l H',Same H H'->H l=none->H' l=some (.lst ys)->Q (.ref l) H'
theorem Qb9:CallR X (.type "list") (Qg9 X.K):=by
  intro pins s σ H xs us Q I r h
  obtain ⟨p,ys,e,h1,h2⟩:=h
  exact QeJ pins s σ H xs us Q I r ⟨p,ys,e,h1,fun l hl=>h2 l _ (Qab hl) hl Qad⟩
end
end L2
namespace Rk
open PySem PySem.Spec PyProof.Rows L2 _root_.Rd
theorem map_set {n:Nat} (f:Nat->Int) {j:Nat} (v:Int):((List.range n).map f).set j v=(List.range n).map fun k=>if k=j then v else f k:=by
  refine List.ext_getElem? fun k=>?_
  rw [List.getElem?_set,List.getElem?_map,List.getElem?_map]
  by_cases hk:k<n
  · rw [List.getElem?_range hk]
    by_cases z:j=k
    · subst z
      rw [if_pos rfl,if_pos (by rw [List.length_map,List.length_range];exact hk)]
      simp
    · rw [if_neg z]
      simp only [Option.map_some]
      rw [if_neg (fun y=>z y.symm)]
  · rw [List.getElem?_eq_none (by rw [List.length_range];omega)]
    by_cases z:j=k
    · subst z
      rw [if_pos rfl,if_neg (by rw [List.length_map,List.length_range];exact hk)]
      rfl
    · rw [if_neg z]
      rfl
end Rk
namespace L2
open PySem PySem.Spec PyProof.Rows
section
variable {X:Cx}
end
section
variable {X:Cx}
end
end L2
namespace Rk
open PySem PySem.Spec PyProof.Rows L2 _root_.Rd
end Rk
namespace Rx
open PySem PySem.Spec PySem.Calls PyProof.Rows L2
abbrev TSX:=L2.Ends->L2.St->Hp->(Addr->Hp->Prop)->Prop
def PSX (X:Cx) (st:Stmt) (t:TSX):Prop:=∀ (pins:List (Addr×Obj)) (s:Shared) (σ:L2.St) (H:Hp) (D:L2.Ends) (Ex:Addr->Hp->Prop),Inv X pins σ H s->t D σ H Ex ->
  wpAny (model X.prog X.w) X.A (exec st X.env) (SP X pins D) (XP X pins fun σ1 C H1=>σ1=σ/\Ex C H1) s
def PSXs (X:Cx) (sts:List Stmt) (t:TSX):Prop:=∀ (pins:List (Addr×Obj)) (s:Shared) (σ:L2.St) (H:Hp) (D:L2.Ends) (Ex:Addr->Hp->Prop),Inv X pins σ H s->t D σ H Ex ->
  wpAny (model X.prog X.w) X.A (execs sts X.env) (SP X pins D) (XP X pins fun σ1 C H1=>σ1=σ/\Ex C H1) s
section
variable {X:Cx} {e:Expr} {st:Stmt} {pos:Pos} {te:TX} {t u:TSX} {tc:TT} {c:Expr} {a b:List Stmt}
end
section
variable {X:Cx} {R:Addr} {i:Nat} {n r:Str} {body:List Stmt} {hx:Expr} {tb:TSX} {th:TE} {np hp hpos pos:Pos}
end
end Rx
namespace L2
open PySem PySem.Spec PyProof.Rows
theorem FnOk.or {P:Program} {w:World} {K:PySem.W.Frag} {mg:Str->Option Value} {base:Heap} {CX:CXT} {k:Nat} {f:Addr} {fd:FuncData} {ps:List Str} {sp sp':Sp} (F:FnOk P w K mg base CX k f fd ps sp) (G:FnOk P w K mg base CX k f fd ps sp') :
    FnOk P w K mg base CX k f fd ps (fun vs H Q E=>sp vs H Q E∨sp' vs H Q E):=
  ⟨fun vs H Q E q=>q.elim (F.len vs H Q E) (G.len vs H Q E),fun A outer s H args us vs Q E hr he hb hv hs=>hs.elim (fun z=>F.run A outer s H args us vs Q E hr he hb hv z) fun z=>G.run A outer s H args us vs Q E hr he hb hv z⟩
theorem FnOk.ex {P:Program} {w:World} {K:PySem.W.Frag} {mg:Str->Option Value} {base:Heap} {CX:CXT} {k:Nat} {f:Addr} {fd:FuncData} {ps:List Str} {sp:Sp} (F:FnOk P w K mg base CX0 k f fd ps sp) :
    FnOk P w K mg base CX k f fd ps sp:=
  ⟨F.len,fun A outer s H args us vs Q E hr he hb hv hs=>codeAny_mono (F.run A outer s H args us vs Q E hr he hb hv hs) fun r s' z=>by
    cases r with
    | error e=>exact False.elim z
    | ok fl=>cases fl<;>exact z⟩
section
variable {X:Cx}
end
end L2
namespace Rk
open PySem PySem.Spec PyProof.Rows L2 _root_.Rd
def isLV (H:Hp):V->Bool
  | .ref a=>match H a with
    | some (.lst _)=>true
    | _=>false
  | _=>false
theorem Qff (H:Hp) (a:Addr):isLV H (.ref a)=(match H a with | some (.lst _)=>true | _=>false):=rfl
def NotNum (p:Addr) (H:Hp) (x:V):Prop:=isLV H x=false∨∃ l xs,x=.ref l/\H l=some (.lst xs)/\xs.length<=20/\(¬ (2<=xs.length/\xs.length<=13)∨(∀ y∈xs,Kn p H y)/\xs.all isI=false)
theorem NotNum.keep {p:Addr} {H H':Hp} {x:V} (k:Kn p H x) (s:Same H H') (h:NotNum p H x):NotNum p H' x:=by
  rcases h with z | ⟨l,xs,rfl,e,hl,z⟩
  · refine .inl ?_
    cases x with
    | ref a=>
      obtain ⟨_,⟨xs,e⟩ | ⟨xs,e⟩ | ⟨xs,e⟩⟩:=k
      · rw [Qff,s _ _ e]
      · rw [Qff,e] at z;cases z
      · rw [Qff,s _ _ e]
    | _=>exact z
  · refine .inr ⟨l,xs,rfl,s _ _ e,hl,?_⟩
    rcases z with z | ⟨z1,z2⟩
    · exact .inl z
    · exact .inr ⟨fun y hy=>(z1 y hy).keep (KX.of s),z2⟩
end Rk
namespace Dl
open PySem PySem.Spec PyProof.Rows L2 _root_.Rd Rk
mutual
inductive DA (A:Addr->Prop) (H:Hp):V->PyData->Prop
  | non:DA A H .non .none
  | bl (b:Bool):DA A H (.bl b) (.bool b)
  | int (i:Int):DA A H (.int i) (.int i)
  | str (x:Str):PyData.canLay0 (.str x)=true->DA A H (.str x) (.str x)
  | tup {a:Addr} {xs:List V} {ds:List PyData}:¬ A a->H a=some (.tup xs)->DAs A H xs ds->DA A H (.ref a) (.tuple ds)
  | lst {a:Addr} {xs:List V} {ds:List PyData}:¬ A a->H a=some (.lst xs)->DAs A H xs ds->DA A H (.ref a) (.list ds)
  | dct {a:Addr}:¬ A a->H a=some (.dK [])->DA A H (.ref a) (.dict [])
inductive DAs (A:Addr->Prop) (H:Hp):List V->List PyData->Prop
  | nil:DAs A H [] []
  | cons {x:V} {xs:List V} {d:PyData} {ds:List PyData}:DA A H x d->DAs A H xs ds->DAs A H (x::xs) (d::ds)
end
mutual
theorem da_mv {A A':Addr->Prop} {H H':Hp} (k:∀ a o,¬ A a->H a=some o->H' a=some o) (m:∀ a,A' a->A a∨H a=none):∀ (d:PyData) (x:V),DA A H x d->DA A' H' x d
  | .none,_,.non=>.non
  | .bool _,_,.bl _=>.bl _
  | .int _,_,.int _=>.int _
  | .str _,_,.str _ c=>.str _ c
  | .tuple ds,_,.tup (xs:=xs) n e q=>.tup (fun z=>(m _ z).elim n fun z=>by rw [z] at e;cases e) (k _ _ n e) (Qf5 k m ds xs q)
  | .list ds,_,.lst (xs:=xs) n e q=>.lst (fun z=>(m _ z).elim n fun z=>by rw [z] at e;cases e) (k _ _ n e) (Qf5 k m ds xs q)
  | .dict _,_,.dct n e=>.dct (fun z=>(m _ z).elim n fun z=>by rw [z] at e;cases e) (k _ _ n e)
theorem Qf5 {A A':Addr->Prop} {H H':Hp} (k:∀ a o,¬ A a->H a=some o->H' a=some o) (m:∀ a,A' a->A a∨H a=none):∀ (ds:List PyData) (xs:List V),DAs A H xs ds->DAs A' H' xs ds
  | [],_,.nil=>.nil
  | d::ds,_,.cons (x:=x) (xs:=xs) q qs=>.cons (da_mv k m d x q) (Qf5 k m ds xs qs)
end
theorem DA.mv {A A':Addr->Prop} {H H':Hp} {x:V} {d:PyData} (q:DA A H x d) (k:∀ a o,¬ A a->H a=some o->H' a=some o) (m:∀ a,A' a->A a∨H a=none):DA A' H' x d:=da_mv k m d x q
theorem DAs.mv {A A':Addr->Prop} {H H':Hp} {x:List V} {d:List PyData} (q:DAs A H x d) (k:∀ a o,¬ A a->H a=some o->H' a=some o) (m:∀ a,A' a->A a∨H a=none):DAs A' H' x d:=Qf5 k m d x q
theorem DA.same {A:Addr->Prop} {H H':Hp} {x:V} {d:PyData} (q:DA A H x d) (s:Same H H'):DA A H' x d:=q.mv (fun a o _ e=>s a o e) fun a z=>.inl z
theorem DAs.same {A:Addr->Prop} {H H':Hp} {x:List V} {d:List PyData} (q:DAs A H x d) (s:Same H H'):DAs A H' x d:=q.mv (fun a o _ e=>s a o e) fun a z=>.inl z
theorem DAs.length {A:Addr->Prop} {H:Hp}:∀ {xs:List V} {ds:List PyData},DAs A H xs ds->xs.length=ds.length
  | _,_,.nil=>rfl
  | _,_,.cons _ q=>by rw [List.length_cons,List.length_cons,q.length]
theorem DAs.get {A:Addr->Prop} {H:Hp}:∀ {xs:List V} {ds:List PyData},DAs A H xs ds->∀ (i:Nat) (d:PyData),ds[i]? = some d->∃ x,xs[i]? = some x/\DA A H x d
  | _,_,.nil,i,x,e=>by simp at e
  | _,_,.cons q qs,0,x,e=>by simp at e;subst e;exact ⟨_,rfl,q⟩
  | _,_,.cons q qs,i+1,x,e=>qs.get i x (by simpa using e)
theorem DAs.getV {A:Addr->Prop} {H:Hp}:∀ {xs:List V} {ds:List PyData},DAs A H xs ds->∀ (i:Nat) (x:V),xs[i]? = some x->∃ d,ds[i]? = some d/\DA A H x d
  | _,_,.nil,i,x,e=>by simp at e
  | _,_,.cons q qs,0,x,e=>by simp at e;subst e;exact ⟨_,rfl,q⟩
  | _,_,.cons q qs,i+1,x,e=>qs.getV i x (by simpa using e)
theorem DAs.app {A:Addr->Prop} {H:Hp}:∀ {xs ys:List V} {ds es:List PyData},DAs A H xs ds->DAs A H ys es->DAs A H (xs++ys) (ds++es)
  | _,_,_,_,.nil,q=>q
  | _,_,_,_,.cons a b,q=>.cons a (b.app q)
theorem DAs.take {A:Addr->Prop} {H:Hp}:∀ {xs:List V} {ds:List PyData},DAs A H xs ds->∀ n:Nat,DAs A H (xs.take n) (ds.take n)
  | _,_,.nil,n=>by rw [List.take_nil,List.take_nil];exact .nil
  | _,_,.cons a b,0=>.nil
  | _,_,.cons a b,n+1=>.cons a (b.take n)
theorem DAs.drop {A:Addr->Prop} {H:Hp}:∀ {xs:List V} {ds:List PyData},DAs A H xs ds->∀ n:Nat,DAs A H (xs.drop n) (ds.drop n)
  | _,_,.nil,n=>by rw [List.drop_nil,List.drop_nil];exact .nil
  | _,_,.cons a b,0=>.cons a b
  | _,_,.cons a b,n+1=>b.drop n
theorem DAs.set {A:Addr->Prop} {H:Hp} {x:V} {d:PyData} (q:DA A H x d):∀ {xs:List V} {ds:List PyData},DAs A H xs ds->∀ n:Nat,DAs A H (xs.set n x) (ds.set n d)
  | _,_,.nil,n=>.nil
  | _,_,.cons a b,0=>.cons q b
  | _,_,.cons a b,n+1=>.cons a (b.set q n)
theorem DAs.rev {A:Addr->Prop} {H:Hp}:∀ {xs:List V} {ds:List PyData},DAs A H xs ds->DAs A H xs.reverse ds.reverse
  | _,_,.nil=>.nil
  | _,_,.cons a b=>by rw [List.reverse_cons,List.reverse_cons];exact b.rev.app (.cons a .nil)
mutual
def nd:PyData->Bool
  | .dict _=>false
  | .tuple ds=>nds ds
  | .list ds=>nds ds
  | _=>true
def nds:List PyData->Bool
  | []=>true
  | d::ds=>nd d&&nds ds
end
mutual
theorem QeC {A:Addr->Prop} {H:Hp}:∀ (d:PyData) (x:V),nd d=true->DA A H x d->Dat H x d
  | .none,_,_,.non=>.non
  | .bool _,_,_,.bl _=>.bl _
  | .int _,_,_,.int _=>.int _
  | .str _,_,_,.str _ c=>.str _ c
  | .tuple ds,_,n,.tup (xs:=xs) _ e q=>.tup e (Qbp ds xs n q)
  | .list ds,_,n,.lst (xs:=xs) _ e q=>.lst e (Qbp ds xs n q)
theorem Qbp {A:Addr->Prop} {H:Hp}:∀ (ds:List PyData) (xs:List V),nds ds=true->DAs A H xs ds->Dats H xs ds
  | [],_,_,.nil=>.nil
  | d::ds,_,n,.cons (x:=x) (xs:=xs) q qs=>by
    have n':=Bool.and_eq_true_iff.mp (show (nd d&&nds ds)=true from n)
    exact .cons (QeC d x n'.1 q) (Qbp ds xs n'.2 qs)
end
theorem QhO {ds:List PyData}:nds ds=true↔∀ d∈ds,nd d=true:=by
  induction ds with
  | nil=>exact ⟨(fun _ _ h=>nomatch h),fun _=>rfl⟩
  | cons d ds ih=>
    rw [show nds (d::ds)=(nd d&&nds ds) from rfl,Bool.and_eq_true_iff,ih]
    constructor
    · rintro ⟨a,b⟩ e he
      rcases List.mem_cons.mp he with z | z
      · rw [z];exact a
      · exact b e z
    · intro h
      exact ⟨h d (by simp),fun e he=>h e (by simp [he])⟩
def DP (A P:Addr->Prop) (H:Hp) (v:V) (d:PyData):Prop:=DA A H v d∨∃ l xs ds,v=.ref l/\d=.list ds/\¬ P l/\H l=some (.lst xs)/\DAs A H xs ds
theorem DP.dat {A P:Addr->Prop} {H:Hp} {v:V} {d:PyData} (h:DP A P H v d) (n:nd d=true):Dat H v d:=by
  rcases h with h | ⟨l,xs,ds,rfl,rfl,_,e,q⟩
  · exact QeC d v n h
  · exact .lst e (Qbp ds xs n q)
theorem DP.list {A P:Addr->Prop} {H:Hp} {v:V} {ds:List PyData} (h:DP A P H v (.list ds)):∃ l xs,v=.ref l/\H l=some (.lst xs)/\DAs A H xs ds:=by
  rcases h with h | ⟨l,xs,ds',rfl,e,_,h2,q⟩
  · cases h with | lst n e q=>exact ⟨_,_,rfl,e,q⟩
  · cases e;exact ⟨l,xs,rfl,h2,q⟩
theorem DP.tuple {A P:Addr->Prop} {H:Hp} {v:V} {ds:List PyData} (h:DP A P H v (.tuple ds)):∃ l xs,v=.ref l/\H l=some (.tup xs)/\DAs A H xs ds:=by
  rcases h with h | ⟨l,xs,ds',rfl,e,_⟩
  · cases h with | tup n e q=>exact ⟨_,_,rfl,e,q⟩
  · cases e
theorem DP.int {A P:Addr->Prop} {H:Hp} {v:V} {i:Int} (h:DP A P H v (.int i)):v=.int i:=by
  rcases h with h | ⟨l,xs,ds',rfl,e,_⟩
  · cases h;rfl
  · cases e
theorem DP.bool {A P:Addr->Prop} {H:Hp} {v:V} {i:Bool} (h:DP A P H v (.bool i)):v=.bl i:=by
  rcases h with h | ⟨l,xs,ds',rfl,e,_⟩
  · cases h;rfl
  · cases e
theorem DP.none {A P:Addr->Prop} {H:Hp} {v:V} (h:DP A P H v .none):v=.non:=by
  rcases h with h | ⟨l,xs,ds',rfl,e,_⟩
  · cases h;rfl
  · cases e
theorem DP.str {A P:Addr->Prop} {H:Hp} {v:V} {x:Str} (h:DP A P H v (.str x)):v=.str x/\PyData.canLay0 (.str x)=true:=by
  rcases h with h | ⟨l,xs,ds',rfl,e,_⟩
  · cases h with | str _ c=>exact ⟨rfl,c⟩
  · cases e
inductive Sl where
  | no | pot | scr
  | v (d:PyData)
  | own (ds:List PyData)
  | pk (ds:List PyData)
abbrev Sts:=List Sl
structure Fm where
  H0:Hp
  A0:Addr->Prop
  pt:Addr->Prop
def OwAt (σ:L2.St) (δ:Sts) (i:Nat) (a:Addr):Prop:=σ[i]? = some (some (.ref a))/\(δ[i]? = some .pot∨∃ ds,δ[i]? = some (.own ds))
def Av (F:Fm) (σ:L2.St) (δ:Sts) (a:Addr):Prop:=F.A0 a∨∃ i,OwAt σ δ i a
def PotA (σ:L2.St) (δ:Sts) (a:Addr):Prop:=∃ i:Nat,σ[i]? = some (some (.ref a))/\δ[i]? = some .pot
def SlOk (K:PySem.W.Frag) (F:Fm) (H:Hp) (A:Addr->Prop) (o:Option V):Sl->Prop
  | .no=>True
  | .v d=>∃ v,o=some v/\DA A H v d
  | .own ds=>∃ l xs,o=some (.ref l)/\H l=some (.lst xs)/\DAs A H xs ds/\F.H0 l=none
  | .pk ds=>∃ l xs,o=some (.ref l)/\H l=some (.lst xs)/\DAs A H xs ds/\∃ ys,F.H0 l=some (.lst ys)/\¬ F.pt l
  | .pot=>∃ p n,o=some (.ref p)/\H p=some (.lst [.int n])/\(F.pt p∨F.H0 p=none)
  | .scr=>∃ a ns,o=some (.ref a)/\SqL K F.H0 a ((ns:List Int).map V.int)/\¬ F.pt a/\ns.length<=63
structure Rel (K:PySem.W.Frag) (F:Fm) (σ:L2.St) (H:Hp) (δ:Sts):Prop where
  len:σ.length=δ.length
  dom:∀ a,F.A0 a->∃ xs,H a=some (.lst xs)
  dom0:∀ a,F.A0 a->∃ xs,F.H0 a=some (.lst xs)
  pt0:∀ p,F.pt p->F.A0 p/\∃ n,H p=some (.lst [.int n])
  kx:∀ b o,¬ F.pt b->F.H0 b=some o->H b=some o
  sl:∀ (i:Nat) o x,σ[i]? = some o->δ[i]? = some x->SlOk K F H (Av F σ δ) o x
  inj:∀ (i j:Nat) a ds,δ[i]? = some (.own ds)->σ[i]? = some (some (.ref a))->OwAt σ δ j a->i=j
def Kp (σ:L2.St) (δ:Sts) (H H':Hp):Prop:=(∀ b o,¬ PotA σ δ b->H b=some o->H' b=some o)/\∀ b,PotA σ δ b->∃ n,H' b=some (.lst [.int n])
def Stp (F:Fm) (σ:L2.St) (H:Hp) (δ:Sts) (σ':L2.St) (H':Hp) (δ':Sts):Prop:=(∀ b o,¬ Av F σ δ b->H b=some o->H' b=some o)/\∀ b,Av F σ' δ' b->Av F σ δ b∨H b=none
def Ke (F:Fm) (H':Hp):Prop:=(∀ b o,¬ F.pt b->F.H0 b=some o->H' b=some o)/\∀ p,F.pt p->∃ n,H' p=some (.lst [.int n])
theorem Qa5 {F:Fm} {σ:L2.St} {δ:Sts} {a:Addr} (h:PotA σ δ a):Av F σ δ a:=let ⟨i,h1,h2⟩:=h;.inr ⟨i,h1,.inl h2⟩
theorem Rel.ke {K:PySem.W.Frag} {F:Fm} {σ:L2.St} {H:Hp} {δ:Sts} (r:Rel K F σ H δ):Ke F H:=⟨r.kx,fun p hp=>(r.pt0 p hp).2⟩
theorem Rel.isl {K:PySem.W.Frag} {F:Fm} {σ:L2.St} {H:Hp} {δ:Sts} (r:Rel K F σ H δ) {a:Addr} (h:Av F σ δ a):∃ xs,H a=some (.lst xs):=by
  rcases h with h | ⟨i,h1,h2⟩
  · exact r.dom a h
  · rcases h2 with h2 | ⟨ds,h2⟩
    · obtain ⟨p,n,e,h,_⟩:=r.sl i _ _ h1 h2
      cases e
      exact ⟨_,h⟩
    · obtain ⟨l,xs,e,h,_⟩:=r.sl i _ _ h1 h2
      cases e
      exact ⟨_,h⟩
theorem Kp.refl {K:PySem.W.Frag} {F:Fm} {σ:L2.St} {H:Hp} {δ:Sts} (r:Rel K F σ H δ):Kp σ δ H H:=⟨fun _ _ _ e=>e,fun b ⟨i,h1,h2⟩=>by
  obtain ⟨p,n,e,h,_⟩:=r.sl i _ _ h1 h2
  cases e
  exact ⟨n,h⟩⟩
theorem Kp.trans {σ:L2.St} {δ:Sts} {H H1 H2:Hp} (a:Kp σ δ H H1) (b:Kp σ δ H1 H2):Kp σ δ H H2:=⟨fun c o n e=>b.1 c o n (a.1 c o n e),b.2⟩
theorem Kp.same {K:PySem.W.Frag} {F:Fm} {σ:L2.St} {H H':Hp} {δ:Sts} (r:Rel K F σ H δ) (s:Same H H'):Kp σ δ H H':=⟨fun b o _ e=>s b o e,fun b hb=>let ⟨n,h⟩:=(Kp.refl r).2 b hb;⟨n,s _ _ h⟩⟩
theorem Kp.da {F:Fm} {σ:L2.St} {H H':Hp} {δ:Sts} {v:V} {d:PyData} (k:Kp σ δ H H') (h:DA (Av F σ δ) H v d):DA (Av F σ δ) H' v d:=h.mv (fun a o n e=>k.1 a o (fun z=>n (Qa5 z)) e) fun a z=>.inl z
theorem Kp.das {F:Fm} {σ:L2.St} {H H':Hp} {δ:Sts} {v:List V} {d:List PyData} (k:Kp σ δ H H') (h:DAs (Av F σ δ) H v d):DAs (Av F σ δ) H' v d:=h.mv (fun a o n e=>k.1 a o (fun z=>n (Qa5 z)) e) fun a z=>.inl z
theorem Kp.dp {F:Fm} {σ:L2.St} {H H':Hp} {δ:Sts} {v:V} {d:PyData} (k:Kp σ δ H H') (h:DP (Av F σ δ) (PotA σ δ) H v d):DP (Av F σ δ) (PotA σ δ) H' v d:=by
  rcases h with h | ⟨l,xs,ds,e1,e2,n,e,q⟩
  · exact .inl (k.da h)
  · exact .inr ⟨l,xs,ds,e1,e2,n,k.1 _ _ n e,k.das q⟩
theorem Rel.own_pot {K:PySem.W.Frag} {F:Fm} {σ:L2.St} {H:Hp} {δ:Sts} (r:Rel K F σ H δ) {i:Nat} {ds:List PyData} {l:Addr} (h:δ[i]? = some (.own ds)) (e:σ[i]? = some (some (.ref l))):¬ PotA σ δ l:=by
  rintro ⟨j,h1,h2⟩
  have:=r.inj i j l _ h e ⟨h1,.inl h2⟩
  subst this
  rw [h] at h2
  cases h2
theorem Rel.pt_pot {K:PySem.W.Frag} {F:Fm} {σ:L2.St} {H H':Hp} {δ:Sts} (r:Rel K F σ H δ) (k:Kp σ δ H H') {p:Addr} (hp:F.pt p):∃ n,H' p=some (.lst [.int n]):=by
  by_cases z:PotA σ δ p
  · exact k.2 p z
  · obtain ⟨n,e⟩:=(r.pt0 p hp).2
    exact ⟨n,k.1 _ _ z e⟩
theorem Rel.kp {K:PySem.W.Frag} {F:Fm} {σ:L2.St} {H H':Hp} {δ:Sts} (r:Rel K F σ H δ) (k:Kp σ δ H H'):Rel K F σ H' δ where
  len:=r.len
  dom:=fun a ha=>by
    by_cases z:PotA σ δ a
    · exact ⟨_,(k.2 a z).choose_spec⟩
    · obtain ⟨xs,e⟩:=r.dom a ha
      exact ⟨xs,k.1 _ _ z e⟩
  dom0:=r.dom0
  pt0:=fun p hp=>⟨(r.pt0 p hp).1,r.pt_pot k hp⟩
  kx:=fun b o n e=>by
    by_cases z:PotA σ δ b
    · obtain ⟨i,h1,h2⟩:=z
      obtain ⟨p,m,e1,h,q⟩:=r.sl i _ _ h1 h2
      cases e1
      rcases q with q | q
      · exact absurd q n
      · rw [q] at e;cases e
    · exact k.1 _ _ z (r.kx b o n e)
  sl:=fun i o x h1 h2=>by
    have h:=r.sl i o x h1 h2
    cases x with
    | no=>trivial
    | v d=>obtain ⟨v,e,q⟩:=h;exact ⟨v,e,k.da q⟩
    | own ds=>obtain ⟨l,xs,rfl,e,q,f⟩:=h;exact ⟨l,xs,rfl,k.1 _ _ (r.own_pot h2 h1) e,k.das q,f⟩
    | pk ds=>
      obtain ⟨l,xs,rfl,e,q,ys,f,f2⟩:=h
      refine ⟨l,xs,rfl,k.1 _ _ ?_ e,k.das q,ys,f,f2⟩
      rintro ⟨j,j1,j2⟩
      obtain ⟨p,m,e1,_,w⟩:=r.sl j _ _ j1 j2
      cases e1
      rcases w with w | w
      · exact f2 w
      · rw [w] at f;cases f
    | pot=>
      obtain ⟨p,n,rfl,e,q⟩:=h
      obtain ⟨m,e'⟩:=k.2 p ⟨i,h1,h2⟩
      exact ⟨p,m,rfl,e',q⟩
    | scr=>exact h
  inj:=r.inj
theorem Rel.same {K:PySem.W.Frag} {F:Fm} {σ:L2.St} {H H':Hp} {δ:Sts} (r:Rel K F σ H δ) (s:Same H H'):Rel K F σ H' δ:=r.kp (Kp.same r s)
theorem Stp.refl {F:Fm} {σ:L2.St} {H:Hp} {δ:Sts}:Stp F σ H δ σ H δ:=⟨fun _ _ _ e=>e,fun _ z=>.inl z⟩
theorem Stp.trans {F:Fm} {σ σ1 σ2:L2.St} {H H1 H2:Hp} {δ δ1 δ2:Sts} (a:Stp F σ H δ σ1 H1 δ1) (b:Stp F σ1 H1 δ1 σ2 H2 δ2):Stp F σ H δ σ2 H2 δ2:=by
  refine ⟨fun c o n e=>?_,fun c z=>?_⟩
  · refine b.1 c o (fun z=>?_) (a.1 c o n e)
    rcases a.2 c z with q | q
    · exact n q
    · rw [q] at e;cases e
  · rcases b.2 c z with q | q
    · exact a.2 c q
    · by_cases y:Av F σ δ c
      · exact .inl y
      · right
        cases e:H c with
        | none=>rfl
        | some o=>rw [a.1 c o y e] at q;cases q
theorem Stp.kp {F:Fm} {σ:L2.St} {H H':Hp} {δ:Sts} (k:Kp σ δ H H'):Stp F σ H δ σ H' δ:=⟨fun b o n e=>k.1 b o (fun z=>n (Qa5 z)) e,fun _ z=>.inl z⟩
theorem Stp.da {F:Fm} {σ σ':L2.St} {H H':Hp} {δ δ':Sts} {v:V} {d:PyData} (k:Stp F σ H δ σ' H' δ') (h:DA (Av F σ δ) H v d):DA (Av F σ' δ') H' v d:=h.mv k.1 k.2
theorem Stp.das {F:Fm} {σ σ':L2.St} {H H':Hp} {δ δ':Sts} {v:List V} {d:List PyData} (k:Stp F σ H δ σ' H' δ') (h:DAs (Av F σ δ) H v d):DAs (Av F σ' δ') H' v d:=h.mv k.1 k.2
abbrev XP:=Addr->Prop
abbrev DE:=Sts->(PyData->Prop)->XP->Prop
abbrev DT:=Sts->(Bool->Prop)->XP->Prop
abbrev DAr:=Sts->(List PyData->Prop)->XP->Prop
abbrev DSl:=Sts->(List Sl->Prop)->XP->Prop
inductive Md where | D | P | F
def FrV (H H':Hp) (v:V):Prop:=∀ l,v=.ref l->(∃ xs,H' l=some (.lst xs))->H l=none
def Vok (m:Md) (F:Fm) (σ:L2.St) (δ:Sts) (H H':Hp) (v:V) (d:PyData):Prop:=
  match m with
  | .D=>DA (Av F σ δ) H' v d
  | .P=>DP (Av F σ δ) (PotA σ δ) H' v d
  | .F=>DA (Av F σ δ) H' v d/\FrV H H' v
def Out (F:Fm) (E:XK) (EX:XP):Prop:=∀ C,EX C->∀ H',Ke F H'->E (.ref C) none H'
def tX (m:Md) (K:PySem.W.Frag) (E:XK) (w:DE):TE:=fun σ H Q=>∃ (F:Fm) (δ:Sts) (R:PyData->Prop) (EX:XP),Rel K F σ H δ/\w δ R EX/\(∀ d,R d->∀ v H',Rel K F σ H' δ->Kp σ δ H H'->Vok m F σ δ H H' v d->Q v H')/\Out F E EX
def tT (K:PySem.W.Frag) (E:XK) (w:DT):TT:=fun σ H Q=>∃ (F:Fm) (δ:Sts) (R:Bool->Prop) (EX:XP),Rel K F σ H δ/\w δ R EX/\(∀ b,R b->∀ H',Rel K F σ H' δ->Kp σ δ H H'->Q b H')/\Out F E EX
def VD (m:Md) (A P:Addr->Prop) (H:Hp) (v:V) (d:PyData):Prop:=
  match m with
  | .P=>DP A P H v d
  | _=>DA A H v d
def tAr (n:Nat) (m:Md) (K:PySem.W.Frag) (E:XK) (w:DAr):TA:=fun σ H Q=>∃ (F:Fm) (δ:Sts) (R:List PyData->Prop) (EX:XP),Rel K F σ H δ/\w δ R EX/\(∀ ds,R ds->ds.length=n->∀ vs H',Rel K F σ H' δ->Kp σ δ H H'->Paired (VD m (Av F σ δ) (PotA σ δ) H') vs ds->Q vs H')/\Out F E EX
def QgI (A pt:Addr->Prop) (H:Hp) (v:V):Sl->Prop
  | .v d=>DA A H v d
  | .pot=>∃ p,v=.ref p/\pt p
  | _=>False
def tAs (K:PySem.W.Frag) (E:XK) (w:DSl):TA:=fun σ H Q=>∃ (F:Fm) (δ:Sts) (R:List Sl->Prop) (EX:XP),Rel K F σ H δ/\w δ R EX/\(∀ ds,R ds->∀ vs H',Rel K F σ H' δ->Kp σ δ H H'->Paired (QgI (Av F σ δ) (PotA σ δ) H') vs ds->Q vs H')/\Out F E EX
theorem Kp.vd {m:Md} {F:Fm} {σ:L2.St} {H H':Hp} {δ:Sts} {v:V} {d:PyData} (k:Kp σ δ H H') (h:VD m (Av F σ δ) (PotA σ δ) H v d):VD m (Av F σ δ) (PotA σ δ) H' v d:=by
  cases m
  · exact k.da h
  · exact k.dp h
  · exact k.da h
theorem Kp.arg {F:Fm} {σ:L2.St} {H H':Hp} {δ:Sts} {v:V} {d:Sl} (k:Kp σ δ H H') (h:QgI (Av F σ δ) (PotA σ δ) H v d):QgI (Av F σ δ) (PotA σ δ) H' v d:=by
  cases d with
  | v d=>exact k.da h
  | pot=>exact h
  | _=>exact h.elim
def QbT (H:Hp):Prop:=∀ a xs,H a=some (.lst xs)∨H a=some (.tup xs)->xs.length<=sizeLine
section
variable {X:Cx} {E:XK}
theorem Inv.lens {pins:List (Addr×Obj)} {σ:L2.St} {H:Hp} {s:Shared} (I:Inv X pins σ H s):QbT H:=fun a xs h=>by
  rcases h with h | h
  · exact (I.hok a _ h).1
  · exact (I.hok a _ h).1
theorem PE.imp {e:Expr} {t t':TE} (h:PE X e t) (i:∀ σ H Q,t' σ H Q->t σ H Q):PE X e t':=fun pins s σ H Q I q=>h pins s σ H Q I (i σ H Q q)
theorem PT.imp {e:Expr} {t t':TT} (h:PT X e t) (i:∀ σ H Q,t' σ H Q->t σ H Q):PT X e t':=fun pins s σ H Q I q=>h pins s σ H Q I (i σ H Q q)
theorem PW.imp {e:Expr} {t t':TT} (h:PW X e t) (i:∀ σ H Q,t' σ H Q->t σ H Q):PW X e t':=fun wh pins s σ H Q I q=>h wh pins s σ H Q I (i σ H Q q)
theorem PA.imp {e:List Expr} {t t':TA} (h:PA X e t) (i:∀ σ H Q,t' σ H Q->t σ H Q):PA X e t':=fun pos pins s σ H Q I q=>h pos pins s σ H Q I (i σ H Q q)
theorem OpR.len {f:Value->Value->Sem Value} {r:R2} (h:OpR X f r):OpR X f (fun x y H Q=>QbT H->r x y H Q):=fun pins s σ H x y v u Q I rx ry q=>h pins s σ H x y v u Q I rx ry (q (Inv.lens I))
theorem CallR.len {f:Value} {r:List V->Hp->VK->Prop} (h:CallR X f r):CallR X f (fun xs H Q=>QbT H->r xs H Q):=fun pins s σ H xs us Q I rx q=>h pins s σ H xs us Q I rx (q (Inv.lens I))
theorem UnR.len {f:Value->Sem Value} {r:V->Hp->VK->Prop} (h:UnR X f r):UnR X f (fun x H Q=>QbT H->r x H Q):=fun pins s σ H x v Q I rx q=>h pins s σ H x v Q I rx (q (Inv.lens I))
theorem IxR.len {r:R2} (h:IxR X r):IxR X (fun x y H Q=>QbT H->r x y H Q):=fun a b pins s σ H x y v u Q I rx ry q hs=>h a b pins s σ H x y v u Q I rx ry (q (Inv.lens I)) hs
theorem SlR.len {r:V->Option Int->Option Int->Hp->VK->Prop} (h:SlR X r):SlR X (fun x a b H Q=>QbT H->r x a b H Q):=fun pins s σ H x v vl vu lo hi sl Q I rx hs pl pu q=>h pins s σ H x v vl vu lo hi sl Q I rx hs pl pu (q (Inv.lens I))
theorem OpR.or2 {f:Value->Value->Sem Value} {r r':R2} (h:OpR X f r) (h':OpR X f r'):OpR X f (fun x y H Q=>r x y H Q∨r' x y H Q):=OpR.or h h'
theorem CallR.or2 {f:Value} {r r':List V->Hp->VK->Prop} (h:CallR X f r) (h':CallR X f r'):CallR X f (fun x H Q=>r x H Q∨r' x H Q):=fun pins s σ H xs us Q I rx q=>q.elim (h pins s σ H xs us Q I rx) (h' pins s σ H xs us Q I rx)
theorem IxR.or2 {r r':R2} (h:IxR X r) (h':IxR X r'):IxR X (fun x y H Q=>r x y H Q∨r' x y H Q):=fun a b pins s σ H x y v u Q I rx ry q hs=>q.elim (fun q=>h a b pins s σ H x y v u Q I rx ry q hs) fun q=>h' a b pins s σ H x y v u Q I rx ry q hs
theorem SlR.or2 {r r':V->Option Int->Option Int->Hp->VK->Prop} (h:SlR X r) (h':SlR X r'):SlR X (fun x a b H Q=>r x a b H Q∨r' x a b H Q):=fun pins s σ H x v vl vu lo hi sl Q I rx hs pl pu q=>q.elim (h pins s σ H x v vl vu lo hi sl Q I rx hs pl pu) (h' pins s σ H x v vl vu lo hi sl Q I rx hs pl pu)
theorem toD {e:Expr} {w:DE} (h:PE X e (tX .F X.K E w)):PE X e (tX .D X.K E w):=PE.imp h fun σ H Q ⟨F,δ,R,EX,r,hw,k,o⟩=>⟨F,δ,R,EX,r,hw,fun d hd v H' r' kp vk=>k d hd v H' r' kp vk.1,o⟩
theorem toP {e:Expr} {w:DE} (h:PE X e (tX .D X.K E w)):PE X e (tX .P X.K E w):=PE.imp h fun σ H Q ⟨F,δ,R,EX,r,hw,k,o⟩=>⟨F,δ,R,EX,r,hw,fun d hd v H' r' kp vk=>k d hd v H' r' kp (.inl vk),o⟩
theorem toPF {e:Expr} {w:DE} (h:PE X e (tX .F X.K E w)):PE X e (tX .P X.K E w):=toP (toD h)
def dVar (i:Nat):DE:=fun δ Q _=>match δ[i]? with
  | some (.v d)=>Q d
  | _=>False
def dPk (i:Nat):DE:=fun δ Q _=>match δ[i]? with
  | some (.v d)=>Q d
  | some (.own ds)=>Q (.list ds)
  | some (.pk ds)=>Q (.list ds)
  | _=>False
def dC (d:PyData):DE:=fun _ Q _=>Q d
theorem Rel.lt {K:PySem.W.Frag} {F:Fm} {σ:L2.St} {H:Hp} {δ:Sts} (r:Rel K F σ H δ) {i:Nat} {x:Sl} (h:δ[i]? = some x):∃ o,σ[i]? = some o:=by
  have:=(List.getElem?_eq_some_iff.mp h).1
  exact ⟨σ[i]'(by rw [r.len];exact this),List.getElem?_eq_getElem _⟩
theorem pd_var {e:Expr} {i:Nat} (h:PE X e (tVar i)):PE X e (tX .D X.K E (dVar i)):=PE.imp h fun σ H Q ⟨F,δ,R,EX,r,hw,k,o⟩=>by
  unfold dVar at hw
  split at hw
  · rename_i d hd
    obtain ⟨x,hx⟩:=r.lt hd
    obtain ⟨v,rfl,q⟩:=r.sl i _ _ hx hd
    exact ⟨v,hx,k d hw v H r (Kp.refl r) q⟩
  · exact hw.elim
theorem pd_pk {e:Expr} {i:Nat} (h:PE X e (tVar i)):PE X e (tX .P X.K E (dPk i)):=PE.imp h fun σ H Q ⟨F,δ,R,EX,r,hw,k,o⟩=>by
  unfold dPk at hw
  split at hw
  · rename_i d hd
    obtain ⟨x,hx⟩:=r.lt hd
    obtain ⟨v,rfl,q⟩:=r.sl i _ _ hx hd
    exact ⟨v,hx,k d hw v H r (Kp.refl r) (.inl q)⟩
  · rename_i d hd
    obtain ⟨x,hx⟩:=r.lt hd
    obtain ⟨l,xs,rfl,e,q,_⟩:=r.sl i _ _ hx hd
    exact ⟨_,hx,k _ hw _ H r (Kp.refl r) (.inr ⟨l,xs,d,rfl,rfl,r.own_pot hd hx,e,q⟩)⟩
  · rename_i d hd
    obtain ⟨x,hx⟩:=r.lt hd
    obtain ⟨l,xs,rfl,e,q,ys,f,f2⟩:=r.sl i _ _ hx hd
    refine ⟨_,hx,k _ hw _ H r (Kp.refl r) (.inr ⟨l,xs,d,rfl,rfl,?_,e,q⟩)⟩
    rintro ⟨j,j1,j2⟩
    obtain ⟨p,m,e1,_,w⟩:=r.sl j _ _ j1 j2
    cases e1
    rcases w with w | w
    · exact f2 w
    · rw [w] at f;cases f
  · exact hw.elim
theorem pd_c {e:Expr} {v:V} {d:PyData} (h:PE X e (tC v)) (q:∀ (A:Addr->Prop) (H:Hp),DA A H v d):PE X e (tX .D X.K E (dC d)):=PE.imp h fun σ H Q ⟨F,δ,R,EX,r,hw,k,o⟩=>k d hw v H r (Kp.refl r) (q _ _)
theorem pd_int {i:Int} {j pos}:PE X (.Constant (.int i) j pos) (tX .D X.K E (dC (.int i))):=pd_c QaR fun _ _=>.int i
theorem pd_bl {b:Bool} {j pos}:PE X (.Constant (.bool b) j pos) (tX .D X.K E (dC (.bool b))):=pd_c pe_bl fun _ _=>.bl b
theorem pd_non {j pos}:PE X (.Constant .none j pos) (tX .D X.K E (dC .none)):=pd_c Qhp fun _ _=>.non
theorem pd_str {x:Str} {j pos} (h:PyData.canLay0 (.str x)=true:=by decide +kernel):PE X (.Constant (.str x) j pos) (tX .D X.K E (dC (.str x))):=pd_c pe_str fun _ _=>.str x h
def OpD (r:R2) (rD:PyData->PyData->(PyData->Prop)->Prop):Prop:=∀ (A P:Addr->Prop) (H:Hp) (x y:V) (d1 d2:PyData) (R:PyData->Prop) (Q:VK),QbT H->(∀ a,A a->∃ xs,H a=some (.lst xs))->DP A P H x d1->DP A P H y d2->rD d1 d2 R ->
  (∀ d,R d->∀ v H',Same H H'->DA A H' v d->FrV H H' v->Q v H')->r x y H Q
def OpDn (r:R2) (rD:PyData->PyData->(PyData->Prop)->Prop):Prop:=∀ (A P:Addr->Prop) (H:Hp) (x y:V) (d1 d2:PyData) (R:PyData->Prop) (Q:VK),QbT H->(∀ a,A a->∃ xs,H a=some (.lst xs))->DP A P H x d1->DP A P H y d2->rD d1 d2 R ->
  (∀ d,R d->∀ v H',Same H H'->DA A H' v d->Q v H')->r x y H Q
def dOp (rD:PyData->PyData->(PyData->Prop)->Prop) (wa wb:DE):DE:=fun δ Q EX=>wa δ (fun d1=>wb δ (fun d2=>rD d1 d2 Q) EX) EX
theorem Qe9 {K:PySem.W.Frag} {r:R2} {rD:PyData->PyData->(PyData->Prop)->Prop} {wa wb:DE} (hd:OpD r rD) (σ:L2.St) (H:Hp) (Q:VK) (h:tX .F K E (dOp rD wa wb) σ H Q) :
    tOp (fun x y H Q=>QbT H->r x y H Q) (tX .P K E wa) (tX .P K E wb) σ H Q:=by
  obtain ⟨F,δ,R,EX,rel,hw,k,o⟩:=h
  refine ⟨F,δ,_,EX,rel,hw,fun d1 h1 x H1 rel1 kp1 x1=>⟨F,δ,_,EX,rel1,h1,fun d2 h2 y H2 rel2 kp2 y2=>fun ln=>?_,o⟩,o⟩
  refine hd (Av F σ δ) (PotA σ δ) H2 x y d1 d2 R Q ln (fun a ha=>rel2.isl ha) (kp2.dp x1) y2 h2 fun d hR v H' s q f=>?_
  refine k d hR v H' (rel2.same s) ((kp1.trans kp2).trans (Kp.same rel2 s)) ⟨q,fun l e1 e2=>?_⟩
  have f2:=f l e1 e2
  cases e:H l with
  | none=>rfl
  | some ob=>
    by_cases z:PotA σ δ l
    · obtain ⟨n,en⟩:=kp2.2 l z
      rw [en] at f2;cases f2
    · rw [(kp1.trans kp2).1 _ _ z e] at f2;cases f2
theorem QjL {K:PySem.W.Frag} {r:R2} {rD:PyData->PyData->(PyData->Prop)->Prop} {wa wb:DE} (hd:OpDn r rD) (σ:L2.St) (H:Hp) (Q:VK) (h:tX .D K E (dOp rD wa wb) σ H Q) :
    tOp (fun x y H Q=>QbT H->r x y H Q) (tX .P K E wa) (tX .P K E wb) σ H Q:=by
  obtain ⟨F,δ,R,EX,rel,hw,k,o⟩:=h
  refine ⟨F,δ,_,EX,rel,hw,fun d1 h1 x H1 rel1 kp1 x1=>⟨F,δ,_,EX,rel1,h1,fun d2 h2 y H2 rel2 kp2 y2=>fun ln=>?_,o⟩,o⟩
  refine hd (Av F σ δ) (PotA σ δ) H2 x y d1 d2 R Q ln (fun a ha=>rel2.isl ha) (kp2.dp x1) y2 h2 fun d hR v H' s q=>?_
  exact k d hR v H' (rel2.same s) ((kp1.trans kp2).trans (Kp.same rel2 s)) q
variable {a b:Expr} {wa wb:DE} {pos:Pos} {r:R2} {rD:PyData->PyData->(PyData->Prop)->Prop}
theorem pd_bin {op:Operator} (ho:OpR X (binaryOp op) r) (hd:OpD r rD) (ha:PE X a (tX .P X.K E wa)) (hb:PE X b (tX .P X.K E wb)):PE X (.BinOp a op b pos) (tX .F X.K E (dOp rD wa wb)):=PE.imp (Qbm (OpR.len ho) ha hb) (Qe9 hd)
theorem pd_cmp {op:CmpOp} (ho:OpR X (compareOp op) r) (hd:OpD r rD) (ha:PE X a (tX .P X.K E wa)) (hb:PE X b (tX .P X.K E wb)) (hm:behindInMarks op b=false):PE X (.Compare a [op] [b] pos) (tX .F X.K E (dOp rD wa wb)):=PE.imp (Qcj (OpR.len ho) ha hb hm) (Qe9 hd)
theorem pd_ix {r:R2} {rD:PyData->PyData->(PyData->Prop)->Prop} (ho:IxR X r) (hd:OpDn r rD) (ha:PE X a (tX .P X.K E wa)) (hb:PE X b (tX .P X.K E wb)) (hs:Qfp b):PE X (.Subscript a b pos) (tX .D X.K E (dOp rD wa wb)):=PE.imp (Qjr (IxR.len ho) ha hb hs) (QjL hd)
def dTst (w:DE):DT:=fun δ Q EX=>w δ (fun d=>match d with
  | .bool k=>Q k
  | _=>False) EX
theorem QlF {op:CmpOp} (ho:OpR X (compareOp op) r) (hd:OpD r rD) (ha:PE X a (tX .P X.K E wa)) (hb:PE X b (tX .P X.K E wb)) (hm:behindInMarks op b=false):PT X (.Compare a [op] [b] pos) (tT X.K E (dTst (dOp rD wa wb))):=by
  refine PT.imp (Qch (OpR.len ho) ha hb hm) fun σ H Q ⟨F,δ,R,EX,rel,hw,k,o⟩=>?_
  refine Qe9 hd σ H (fun x H'=>∃ k,x=.bl k/\Q k H') ⟨F,δ,_,EX,rel,hw,fun d hd2 v H' rel' kp vk=>?_,o⟩
  split at hd2
  · rename_i b
    have:v=.bl b:=by cases vk.1;rfl
    exact ⟨b,this,k b hd2 H' rel' kp⟩
  · exact hd2.elim
theorem QlD {e:Expr} {w:DE} (h:PE X e (tX .P X.K E w)) (he:∀ whole,isTrue e X.env whole=(do let v <- whole;standAt e.pos;holding [v] (truthy v)):=by intro _;rfl):PT X e (tT X.K E (dTst w)):=by
  refine PT.imp (QfD h he) fun σ H Q ⟨F,δ,R,EX,rel,hw,k,o⟩=>?_
  refine ⟨F,δ,_,EX,rel,hw,fun d hd v H' rel' kp vk=>?_,o⟩
  split at hd
  · exact ⟨_,DP.bool vk,k _ hd H' rel' kp⟩
  · exact hd.elim
def dAnd (wa wb:DT):DT:=fun δ Q EX=>wa δ (fun c=>if c=true then wb δ Q EX else Q false) EX
def dOr (wa wb:DT):DT:=fun δ Q EX=>wa δ (fun c=>if c=true then Q true else wb δ Q EX) EX
def dNot (wa:DT):DT:=fun δ Q EX=>wa δ (fun c=>Q (!c)) EX
theorem Qb3 {c:Prop} [Decidable c] {p q p' q':Prop} (h:if c then p else q) (h1:p->p') (h2:q->q'):if c then p' else q':=by
  split at h
  · rw [if_pos (by assumption)];exact h1 h
  · rw [if_neg (by assumption)];exact h2 h
variable {rest:List Expr} {ta tb:DT}
theorem Qjt (ha:PT X a (tT X.K E ta)):PW X (.BoolOp .And [a] pos) (tT X.K E ta):=Qls ha
theorem QlB (ha:PT X a (tT X.K E ta)):PW X (.BoolOp .Or [a] pos) (tT X.K E ta):=QkF ha
theorem QlC (ha:PT X a (tT X.K E ta)) (hb:PW X (.BoolOp .And (b::rest) pos) (tT X.K E tb)):PW X (.BoolOp .And (a::b::rest) pos) (tT X.K E (dAnd ta tb)):=by
  refine PW.imp (pw_and ha hb) fun σ H Q ⟨F,δ,R,EX,rel,hw,k,o⟩=>?_
  refine ⟨F,δ,_,EX,rel,hw,fun c hc H' rel' kp=>?_,o⟩
  exact Qb3 hc (fun z=>⟨F,δ,R,EX,rel',z,fun c hc H2 rel2 kp2=>k c hc H2 rel2 (kp.trans kp2),o⟩) fun z=>k _ z H' rel' kp
theorem pdw_or (ha:PT X a (tT X.K E ta)) (hb:PW X (.BoolOp .Or (b::rest) pos) (tT X.K E tb)):PW X (.BoolOp .Or (a::b::rest) pos) (tT X.K E (dOr ta tb)):=by
  refine PW.imp (pw_or ha hb) fun σ H Q ⟨F,δ,R,EX,rel,hw,k,o⟩=>?_
  refine ⟨F,δ,_,EX,rel,hw,fun c hc H' rel' kp=>?_,o⟩
  exact Qb3 hc (fun z=>k _ z H' rel' kp) (fun z=>⟨F,δ,R,EX,rel',z,fun c hc H2 rel2 kp2=>k c hc H2 rel2 (kp.trans kp2),o⟩)
theorem QlE (ha:PT X a (tT X.K E ta)):PT X (.UnaryOp .Not a pos) (tT X.K E (dNot ta)):=by
  refine PT.imp (pt_not ha) fun σ H Q ⟨F,δ,R,EX,rel,hw,k,o⟩=>?_
  exact ⟨F,δ,_,EX,rel,hw,fun c hc H' rel' kp=>k _ hc H' rel' kp,o⟩
def dAndV (wa wb:DE):DE:=fun δ Q EX=>wa δ (fun d=>match d with
  | .bool c=>if c=true then wb δ Q EX else Q (.bool false)
  | _=>False) EX
def dOrV (wa wb:DE):DE:=fun δ Q EX=>wa δ (fun d=>match d with
  | .bool c=>if c=true then Q (.bool true) else wb δ Q EX
  | _=>False) EX
def dNotV (wa:DE):DE:=fun δ Q EX=>wa δ (fun d=>match d with
  | .bool c=>Q (.bool (!c))
  | _=>False) EX
theorem pd_one {op} {w:DE} (h:PE X a (tX .D X.K E w)):PE X (.BoolOp op [a] pos) (tX .D X.K E w):=Qds h
theorem pd_and (ha:PE X a (tX .P X.K E wa)) (hb:PE X (.BoolOp .And (b::rest) pos) (tX .D X.K E wb)):PE X (.BoolOp .And (a::b::rest) pos) (tX .D X.K E (dAndV wa wb)):=by
  refine PE.imp (Qdt ha hb) fun σ H Q ⟨F,δ,R,EX,rel,hw,k,o⟩=>?_
  refine ⟨F,δ,_,EX,rel,hw,fun d hd v H' rel' kp vk=>?_,o⟩
  split at hd
  · exact ⟨_,DP.bool vk,Qb3 hd (fun z=>⟨F,δ,R,EX,rel',z,fun d hd v H2 rel2 kp2=>k d hd v H2 rel2 (kp.trans kp2),o⟩) fun z=>k _ z _ H' rel' kp (.bl _)⟩
  · exact hd.elim
theorem pd_or (ha:PE X a (tX .P X.K E wa)) (hb:PE X (.BoolOp .Or (b::rest) pos) (tX .D X.K E wb)):PE X (.BoolOp .Or (a::b::rest) pos) (tX .D X.K E (dOrV wa wb)):=by
  refine PE.imp (pe_or ha hb) fun σ H Q ⟨F,δ,R,EX,rel,hw,k,o⟩=>?_
  refine ⟨F,δ,_,EX,rel,hw,fun d hd v H' rel' kp vk=>?_,o⟩
  split at hd
  · exact ⟨_,DP.bool vk,Qb3 hd (fun z=>k _ z _ H' rel' kp (.bl _)) (fun z=>⟨F,δ,R,EX,rel',z,fun d hd v H2 rel2 kp2=>k d hd v H2 rel2 (kp.trans kp2),o⟩)⟩
  · exact hd.elim
theorem pd_not (ha:PE X a (tX .P X.K E wa)):PE X (.UnaryOp .Not a pos) (tX .D X.K E (dNotV wa)):=by
  refine PE.imp (QkK ha) fun σ H Q ⟨F,δ,R,EX,rel,hw,k,o⟩=>?_
  refine ⟨F,δ,_,EX,rel,hw,fun d hd v H' rel' kp vk=>?_,o⟩
  split at hd
  · exact ⟨_,DP.bool vk,k _ hd _ H' rel' kp (.bl _)⟩
  · exact hd.elim
end
theorem QcC {A:Addr->Prop} {H H':Hp} {l:Addr} {xs:List V} {ds:List PyData} (dm:∀ a,A a->∃ xs,H a=some (.lst xs)) (s:Same H H') (n:H l=none) (e:H' l=some (.lst xs)) (q:DAs A H xs ds):DA A H' (.ref l) (.list ds):=
  .lst (fun z=>by obtain ⟨ys,e'⟩:=dm l z;rw [n] at e';cases e') e (q.same s)
theorem QcR {A:Addr->Prop} {H H':Hp} {l:Addr} {xs:List V} {ds:List PyData} (dm:∀ a,A a->∃ xs,H a=some (.lst xs)) (s:Same H H') (e:H' l=some (.tup xs)) (q:DAs A H xs ds):DA A H' (.ref l) (.tuple ds):=
  .tup (fun z=>by obtain ⟨ys,e'⟩:=dm l z;rw [s _ _ e'] at e;cases e) e (q.same s)
theorem Qbb {H H':Hp} {l:Addr} (n:H l=none):FrV H H' (.ref l):=fun l' e _=>by cases e;exact n
theorem Qcq {H H':Hp} {l:Addr} {xs:List V} (e:H' l=some (.tup xs)):FrV H H' (.ref l):=fun l' e1 ⟨ys,e2⟩=>by cases e1;rw [e] at e2;cases e2
theorem QaJ {H H':Hp} {i:Int}:FrV H H' (.int i):=fun l' e _=>by cases e
theorem QaY {H H':Hp} {i:Bool}:FrV H H' (.bl i):=fun l' e _=>by cases e
theorem Qmv {H H':Hp}:FrV H H' .non:=fun l' e _=>by cases e
theorem DAs.rep {A:Addr->Prop} {H:Hp} {xs:List V} {ds:List PyData} (q:DAs A H xs ds):∀ k:Nat,DAs A H (List.replicate k xs).flatten (List.replicate k ds).flatten
  | 0=>.nil
  | k+1=>by rw [List.replicate_succ,List.replicate_succ,List.flatten_cons,List.flatten_cons];exact q.app (DAs.rep q k)
def addD:PyData->PyData->(PyData->Prop)->Prop
  | .int i,.int j,Q=>Q (.int (i+j))
  | .tuple a,.tuple b,Q=>a.length+b.length<=1000000/\Q (.tuple (a++b))
  | .list a,.list b,Q=>a.length+b.length<=1000000/\Q (.list (a++b))
  | _,_,_=>False
def iiD (C:Int->Int->Prop) (f:Int->Int->PyData):PyData->PyData->(PyData->Prop)->Prop
  | .int i,.int j,Q=>C i j/\Q (f i j)
  | _,_,_=>False
def ii0 (f:Int->Int->PyData):PyData->PyData->(PyData->Prop)->Prop
  | .int i,.int j,Q=>Q (f i j)
  | _,_,_=>False
def mulD:PyData->PyData->(PyData->Prop)->Prop
  | .int i,.int j,Q=>(CMul i j∨CMulB i j)/\Q (.int (i*j))
  | .list a,.int k,Q=>(k<1000000 /\ -1000000<k/\a.length*k.toNat<=1000000)/\Q (.list (List.replicate k.toNat a).flatten)
  | _,_,_=>False
theorem Qgy:1000000<=sizeLine:=by show 1000000<=2^24;decide
section
variable {X:Cx} {E:XK}
theorem od_ii0 {g:Int->Int->Int}:OpD (rI0 fun i j=>.int (g i j)) (ii0 fun i j=>.int (g i j)):=fun A P H x y d1 d2 R Q ln dm hx hy h k=>by
  cases d1<;>cases d2<;>first | exact h.elim | skip
  rw [hx.int,hy.int]
  exact ⟨_,_,rfl,rfl,k _ h _ H (Same.refl H) (.int _) QaJ⟩
theorem Qc0 {g:Int->Int->Bool}:OpD (rI0 fun i j=>.bl (g i j)) (ii0 fun i j=>.bool (g i j)):=fun A P H x y d1 d2 R Q ln dm hx hy h k=>by
  cases d1<;>cases d2<;>first | exact h.elim | skip
  rw [hx.int,hy.int]
  exact ⟨_,_,rfl,rfl,k _ h _ H (Same.refl H) (.bl _) QaY⟩
def rAdd:R2:=fun x y H Q=>(rI0 (fun i j=>.int (i+j)) x y H Q∨rCatA x y H Q)∨rCat x y H Q
theorem QaF:OpR X (binaryOp .Add) rAdd:=OpR.or2 (OpR.or2 Qdw Ql4) op_cat
theorem QaX:OpD rAdd addD:=fun A P H x y d1 d2 R Q ln dm hx hy h k=>by
  cases d1<;>cases d2<;>first | exact h.elim | skip
  · rw [hx.int,hy.int]
    exact .inl (.inl ⟨_,_,rfl,rfl,k _ h _ H (Same.refl H) (.int _) QaJ⟩)
  · obtain ⟨l1,xs,rfl,e1,q1⟩:=hx.list
    obtain ⟨l2,ys,rfl,e2,q2⟩:=hy.list
    refine .inr ⟨l1,l2,xs,ys,rfl,rfl,e1,e2,Nat.le_trans (by rw [q1.length,q2.length];exact h.1) Qgy,fun p hp=>?_⟩
    exact k _ h.2 _ _ (Qab hp) (QcC dm (Qab hp) hp Qad (q1.app q2)) (Qbb hp)
  · obtain ⟨l1,xs,rfl,e1,q1⟩:=hx.tuple
    obtain ⟨l2,ys,rfl,e2,q2⟩:=hy.tuple
    refine .inl (.inr ⟨l1,l2,xs,ys,rfl,rfl,e1,e2,Nat.le_trans (by rw [q1.length,q2.length];exact h.1) Qgy,fun p H' s e=>?_⟩)
    exact k _ h.2 _ _ s (QcR dm s e (q1.app q2)) (Qcq e)
def rMulA:R2:=fun x y H Q=>(rI CMul (fun i j=>.int (i*j)) x y H Q∨rI CMulB (fun i j=>.int (i*j)) x y H Q)∨rRep x y H Q
theorem Qhy:OpR X (binaryOp .Mult) rMulA:=OpR.or2 (OpR.or2 Qdv Ql1) op_rep
theorem QkP:OpD rMulA mulD:=fun A P H x y d1 d2 R Q ln dm hx hy h k=>by
  cases d1<;>cases d2<;>first | exact h.elim | skip
  · rw [hx.int,hy.int]
    rcases h.1 with c | c
    · exact .inl (.inl ⟨_,_,rfl,rfl,c,k _ h.2 _ H (Same.refl H) (.int _) QaJ⟩)
    · exact .inl (.inr ⟨_,_,rfl,rfl,c,k _ h.2 _ H (Same.refl H) (.int _) QaJ⟩)
  · obtain ⟨l1,xs,rfl,e1,q1⟩:=hx.list
    rw [hy.int]
    obtain ⟨⟨h1,h2,h3⟩,h4⟩:=h
    refine .inr ⟨l1,_,xs,rfl,rfl,e1,by omega,by omega,Nat.le_trans (by rw [q1.length];exact h3) Qgy,fun p hp=>?_⟩
    exact k _ h4 _ _ (Qab hp) (QcC dm (Qab hp) hp Qad (q1.rep _)) (Qbb hp)
def eqD:PyData->PyData->(PyData->Prop)->Prop
  | .int i,.int j,Q=>Q (.bool (decide (i=j)))
  | .bool i,.bool j,Q=>Q (.bool (decide (i=j)))
  | .str i,.str j,Q=>Q (.bool (decide (i=j)))
  | a,b,Q=>(nd a=true/\nd b=true/\(a.depth<=50∨b.depth<=50))/\Q (.bool (PyData.eqv a b))
def neD:PyData->PyData->(PyData->Prop)->Prop
  | .int i,.int j,Q=>Q (.bool (!decide (i=j)))
  | .bool i,.bool j,Q=>Q (.bool (!decide (i=j)))
  | .str i,.str j,Q=>Q (.bool (!decide (i=j)))
  | a,b,Q=>(nd a=true/\nd b=true/\(a.depth<=50∨b.depth<=50))/\Q (.bool (!PyData.eqv a b))
theorem min50 {a b:PyData} (h:a.depth<=50∨b.depth<=50):min a.depth b.depth<=50:=by rcases h with h | h<;>omega
def rEqA (u:Nat):R2:=fun x y H Q=>rEq x y H Q∨rEqU u x y H Q
def rNeA (u:Nat):R2:=fun x y H Q=>rNe x y H Q∨rNeU u x y H Q
theorem QcB:OpR X (compareOp .Eq) (rEqA X.A.units):=OpR.or2 op_eq QfG
theorem QkO:OpR X (compareOp .NotEq) (rNeA X.A.units):=OpR.or2 Ql0 op_neU
theorem dec_i {i j:Int}:decide (V.int i=V.int j)=decide (i=j):=by
  by_cases h:i=j
  · subst h;simp
  · rw [decide_eq_false h,decide_eq_false (fun z=>h (V.int.inj z))]
theorem dec_b {i j:Bool}:decide (V.bl i=V.bl j)=decide (i=j):=by
  by_cases h:i=j
  · subst h;simp
  · rw [decide_eq_false h,decide_eq_false (fun z=>h (V.bl.inj z))]
theorem dec_s {i j:Str}:decide (V.str i=V.str j)=decide (i=j):=by
  by_cases h:i=j
  · subst h;simp
  · rw [decide_eq_false h,decide_eq_false (fun z=>h (V.str.inj z))]
theorem Qen {u:Nat} (hu:u+60<cLine):OpD (rEqA u) eqD:=fun A P H x y d1 d2 R Q ln dm hx hy h k=>by
  unfold eqD at h
  split at h
  · rw [hx.int,hy.int]
    exact .inl ⟨rfl,k (.bool (decide (V.int _=V.int _))) (by rw [dec_i];exact h) _ H (Same.refl H) (.bl _) QaY⟩
  · rw [hx.bool,hy.bool]
    exact .inl ⟨rfl,k (.bool (decide (V.bl _=V.bl _))) (by rw [dec_b];exact h) _ H (Same.refl H) (.bl _) QaY⟩
  · rw [hx.str.1,hy.str.1]
    exact .inl ⟨rfl,k (.bool (decide (V.str _=V.str _))) (by rw [dec_s];exact h) _ H (Same.refl H) (.bl _) QaY⟩
  · obtain ⟨⟨n1,n2,dp⟩,hR⟩:=h
    have:=min50 dp
    exact .inr ⟨_,_,hx.dat n1,hy.dat n2,by omega,k _ hR _ H (Same.refl H) (.bl _) QaY⟩
theorem od_ne {u:Nat} (hu:u+60<cLine):OpD (rNeA u) neD:=fun A P H x y d1 d2 R Q ln dm hx hy h k=>by
  unfold neD at h
  split at h
  · rw [hx.int,hy.int]
    exact .inl ⟨rfl,k (.bool (!decide (V.int _=V.int _))) (by rw [dec_i];exact h) _ H (Same.refl H) (.bl _) QaY⟩
  · rw [hx.bool,hy.bool]
    exact .inl ⟨rfl,k (.bool (!decide (V.bl _=V.bl _))) (by rw [dec_b];exact h) _ H (Same.refl H) (.bl _) QaY⟩
  · rw [hx.str.1,hy.str.1]
    exact .inl ⟨rfl,k (.bool (!decide (V.str _=V.str _))) (by rw [dec_s];exact h) _ H (Same.refl H) (.bl _) QaY⟩
  · obtain ⟨⟨n1,n2,dp⟩,hR⟩:=h
    have:=min50 dp
    exact .inr ⟨_,_,hx.dat n1,hy.dat n2,by omega,k _ hR _ H (Same.refl H) (.bl _) QaY⟩
def rInLU (u:Nat) (neg:Bool):R2:=fun x y H Q=>∃ c ps ds d,y=.ref c/\H c=some (.lst ps)/\Dats H ps ds/\Dat H x d/\u+d.depth<cLine/\Q (.bl (if neg then !(ds.any fun e=>PyData.eqv e d) else ds.any fun e=>PyData.eqv e d)) H
theorem Ql2:OpR X (compareOp .In) (rInLU X.A.in1.units false):=by
  intro pins s σ H x y v u Q I rx ry h
  obtain ⟨c,ps,ds,d,rfl,hc,qs,qx,hu,q⟩:=h
  cases ry
  obtain ⟨⟨as,ra⟩,ca⟩:=QaZ I.hok d x v qx rx
  obtain ⟨its,rv,pl,hz⟩:=I.list (SqL.of hc)
  obtain ⟨⟨bs,rb⟩,cb⟩:=Qa7 I.hok ds ps its qs rv
  refine SeqAt.in_listAt (eqH s.heap d) pl.isList (fun w hw=>QdT ra ca rb cb hu w (List.mem_toArray.mp hw)) ⟨.bl _,H,I,rfl,?_⟩
  rw [show its.toArray.any (eqH s.heap d)=its.any (eqH s.heap d) by simp,Qfn rb cb]
  exact q
def inD (neg:Bool) (d:PyData):PyData->(PyData->Prop)->Prop
  | .list ds,Q=>(nds ds=true/\nd d=true/\d.depth<=50)/\Q (.bool (if neg then !(ds.any fun e=>PyData.eqv e d) else ds.any fun e=>PyData.eqv e d))
  | .tuple ds,Q=>(nds ds=true/\nd d=true/\d.depth<=50)/\Q (.bool (if neg then !(ds.any fun e=>PyData.eqv e d) else ds.any fun e=>PyData.eqv e d))
  | _,_=>False
def rInA (u:Nat) (neg:Bool):R2:=fun x y H Q=>rInU u neg x y H Q∨rInLU u neg x y H Q
theorem op_inA:OpR X (compareOp .In) (rInA X.A.in1.units false):=OpR.or2 op_inU Ql2
theorem od_in {u:Nat} {neg:Bool} (hu:u+60<cLine):OpD (rInA u neg) (inD neg):=fun A P H x y d1 d2 R Q ln dm hx hy h k=>by
  cases d2<;>first | exact h.elim | skip
  · obtain ⟨l,xs,rfl,e,q⟩:=hy.list
    obtain ⟨⟨n1,n2,n3⟩,hR⟩:=h
    exact .inr ⟨l,xs,_,d1,rfl,e,Qbp _ _ n1 q,hx.dat n2,by omega,k _ hR _ H (Same.refl H) (.bl _) QaY⟩
  · obtain ⟨l,xs,rfl,e,q⟩:=hy.tuple
    obtain ⟨⟨n1,n2,n3⟩,hR⟩:=h
    exact .inl ⟨l,xs,_,d1,rfl,e,Qbp _ _ n1 q,hx.dat n2,by omega,k _ hR _ H (Same.refl H) (.bl _) QaY⟩
def isNo:PyData->Bool
  | .none=>true
  | _=>false
def isD:PyData->PyData->(PyData->Prop)->Prop
  | .bool a,.bool b,Q=>Q (.bool (a == b))
  | a,.none,Q=>Q (.bool (isNo a))
  | _,_,_=>False
def rIsA:R2:=fun x y H Q=>(∃ a b,x=.bl a/\y=.bl b/\Q (.bl (a == b)) H)∨(y=.non/\Q (.bl (decide (x=.non))) H)
theorem op_isA:OpR X (compareOp .Is) rIsA:=OpR.or2 QjN Qhz
theorem dp_non {A P:Addr->Prop} {H:Hp} {v:V} {d:PyData} (h:DP A P H v d):decide (v=.non)=isNo d:=by
  rcases h with h | ⟨l,xs,ds',rfl,rfl,_⟩
  · cases h<;>first | rfl | exact decide_eq_false (fun z=>by cases z)
  · exact decide_eq_false (fun z=>by cases z)
theorem od_is:OpD rIsA isD:=fun A P H x y d1 d2 R Q ln dm hx hy h k=>by
  unfold isD at h
  split at h
  · rw [hx.bool,hy.bool]
    exact .inl ⟨_,_,rfl,rfl,k _ h _ H (Same.refl H) (.bl _) QaY⟩
  · refine .inr ⟨hy.none,?_⟩
    rw [dp_non hx]
    exact k _ h _ H (Same.refl H) (.bl _) QaY
  · exact h.elim
def ixD:PyData->PyData->(PyData->Prop)->Prop
  | .list ds,.int i,Q=>∃ d,atI ds i=some d/\Q d
  | .tuple ds,.int i,Q=>∃ d,atI ds i=some d/\Q d
  | _,_,_=>False
theorem Qk1 {A:Addr->Prop} {H:Hp} {xs:List V} {ds:List PyData} {i:Int} {d:PyData} (q:DAs A H xs ds) (h:atI ds i=some d):∃ v,atI xs i=some v/\DA A H v d:=by
  unfold atI at h ⊢
  rw [q.length]
  cases e:ixN ds.length i with
  | none=>rw [e] at h;cases h
  | some j=>
    rw [e] at h
    exact q.get j d h
def rIxA (K:PySem.W.Frag):R2:=fun x y H Q=>rIxL K x y H Q∨rIxT K x y H Q
theorem Qbd:IxR X (rIxA X.K):=IxR.or2 QdX ix_tup
theorem Qb2 {K:PySem.W.Frag}:OpDn (rIxA K) ixD:=fun A P H x y d1 d2 R Q ln dm hx hy h k=>by
  cases d1<;>cases d2<;>first | exact h.elim | skip
  · obtain ⟨l,xs,rfl,e,q⟩:=hx.list
    obtain ⟨d,hd,hR⟩:=h
    obtain ⟨v,hv,dv⟩:=Qk1 q hd
    rw [hy.int]
    exact .inl ⟨l,xs,_,v,rfl,rfl,SqL.of e,hv,k d hR v H (Same.refl H) dv⟩
  · obtain ⟨l,xs,rfl,e,q⟩:=hx.tuple
    obtain ⟨d,hd,hR⟩:=h
    obtain ⟨v,hv,dv⟩:=Qk1 q hd
    rw [hy.int]
    exact .inr ⟨l,xs,_,v,rfl,rfl,SqT.of e,hv,k d hR v H (Same.refl H) dv⟩
def dUn (rD:PyData->(PyData->Prop)->Prop) (wa:DE):DE:=fun δ Q EX=>wa δ (fun d=>rD d Q) EX
def negD:PyData->(PyData->Prop)->Prop
  | .int i,Q=>Q (.int (-i))
  | _,_=>False
variable {a b c:Expr} {wa wb wc:DE} {pos:Pos}
theorem pd_neg (ha:PE X a (tX .P X.K E wa)):PE X (.UnaryOp .USub a pos) (tX .F X.K E (dUn negD wa)):=by
  refine PE.imp (pe_un un_neg ha) fun σ H Q ⟨F,δ,R,EX,rel,hw,k,o⟩=>?_
  refine ⟨F,δ,_,EX,rel,hw,fun d hd v H' rel' kp vk=>?_,o⟩
  cases d<;>first | exact (show False from hd).elim | skip
  exact ⟨_,DP.int vk,k _ hd _ H' rel' kp ⟨.int _,QaJ⟩⟩
def dCh (p q:Int->Int->Bool) (wa wb wc:DE):DE:=fun δ Q EX=>wa δ (fun x=>wb δ (fun y=>match x,y with
  | .int i,.int j=>if p i j=true then wc δ (fun z=>match z with
    | .int k=>Q (.bool (q j k))
    | _=>False) EX else Q (.bool false)
  | _,_=>False) EX) EX
theorem QiC {K:PySem.W.Frag} {p q:Int->Int->Bool} (σ:L2.St) (H:Hp) (Q:VK) (h:tX .F K E (dCh p q wa wb wc) σ H Q) :
    QgR (rI0 fun i j=>.bl (p i j)) (rI0 fun i j=>.bl (q i j)) (tX .P K E wa) (tX .P K E wb) (tX .P K E wc) σ H Q:=by
  obtain ⟨F,δ,R,EX,rel,hw,k,o⟩:=h
  refine ⟨F,δ,_,EX,rel,hw,fun d1 h1 x H1 rel1 kp1 x1=>⟨F,δ,_,EX,rel1,h1,fun d2 h2 y H2 rel2 kp2 y2=>?_,o⟩,o⟩
  cases d1<;>cases d2<;>first | exact (show False from h2).elim | skip
  rw [DP.int x1,DP.int y2]
  refine ⟨_,_,rfl,rfl,_,rfl,Qb3 h2 (fun z=>⟨F,δ,_,EX,rel2,z,fun d3 h3 v H3 rel3 kp3 v3=>?_,o⟩) fun z=>k _ z _ H2 rel2 (kp1.trans kp2) ⟨.bl _,QaY⟩⟩
  cases d3<;>first | exact (show False from h3).elim | skip
  rw [DP.int v3]
  exact ⟨_,_,rfl,rfl,k _ h3 _ H3 rel3 ((kp1.trans kp2).trans kp3) ⟨.bl _,QaY⟩⟩
theorem pd_ch {op op':CmpOp} {p q:Int->Int->Bool} (ho:OpR X (compareOp op) (rI0 fun i j=>.bl (p i j))) (ho':OpR X (compareOp op') (rI0 fun i j=>.bl (q i j))) (ha:PE X a (tX .P X.K E wa)) (hb:PE X b (tX .P X.K E wb)) (hc:PE X c (tX .P X.K E wc)) (hm:lastMarks [op,op'] [b,c]=false:=by with_unfolding_all rfl) :
    PE X (.Compare a [op,op'] [b,c] pos) (tX .F X.K E (dCh p q wa wb wc)):=PE.imp (Qjs ho ho' ha hb hc (hm:=hm)) QiC
theorem pdt_ch {op op':CmpOp} {p q:Int->Int->Bool} (ho:OpR X (compareOp op) (rI0 fun i j=>.bl (p i j))) (ho':OpR X (compareOp op') (rI0 fun i j=>.bl (q i j))) (ha:PE X a (tX .P X.K E wa)) (hb:PE X b (tX .P X.K E wb)) (hc:PE X c (tX .P X.K E wc)) (hm:lastMarks [op,op'] [b,c]=false:=by with_unfolding_all rfl) :
    PT X (.Compare a [op,op'] [b,c] pos) (tT X.K E (dTst (dCh p q wa wb wc))):=by
  refine PT.imp (Qjl ho ho' ha hb hc (hm:=hm)) fun σ H Q ⟨F,δ,R,EX,rel,hw,k,o⟩=>?_
  refine QiC σ H (fun x H'=>∃ k,x=.bl k/\Q k H') ⟨F,δ,_,EX,rel,hw,fun d hd2 v H' rel' kp vk=>?_,o⟩
  split at hd2
  · rename_i b
    have:v=.bl b:=by cases vk.1;rfl
    exact ⟨b,this,k b hd2 H' rel' kp⟩
  · exact hd2.elim
def dNil:DAr:=fun _ Q _=>Q []
def Qiu (we:DE) (wr:DAr):DAr:=fun δ Q EX=>we δ (fun d=>wr δ (fun ds=>Q (d::ds)) EX) EX
theorem QlQ {m:Md}:PA X [] (tAr 0 m X.K E dNil):=PA.imp Qam fun σ H Q ⟨F,δ,R,EX,rel,hw,k,o⟩=>k [] hw rfl [] H rel (Kp.refl rel) .nil
theorem QiT {n:Nat} {m:Md} {K:PySem.W.Frag} {we:DE} {wr:DAr} (hm:∀ {F:Fm} {σ:L2.St} {δ:Sts} {H H':Hp} {v:V} {d:PyData},Vok m F σ δ H H' v d->VD m (Av F σ δ) (PotA σ δ) H' v d) (σ:L2.St) (H:Hp) (Q:List V->Hp->Prop) (h:tAr (n+1) m K E (Qiu we wr) σ H Q):Qca (tX m K E we) (tAr n m K E wr) σ H Q:=by
  obtain ⟨F,δ,R,EX,rel,hw,k,o⟩:=h
  refine ⟨F,δ,_,EX,rel,hw,fun d hd v H' rel' kp vk=>⟨F,δ,_,EX,rel',hd,fun ds hds hl vs H2 rel2 kp2 vks=>?_,o⟩,o⟩
  exact k _ hds (by rw [List.length_cons,hl]) (v::vs) H2 rel2 (kp.trans kp2) (.cons (kp2.vd (hm vk)) vks)
theorem Qhu {n:Nat} {e:Expr} {es:List Expr} {we:DE} {wr:DAr} (he:PE X e (tX .D X.K E we)) (hr:PA X es (tAr n .D X.K E wr)) (hs:notStar e=true:=by rfl):PA X (e::es) (tAr (n+1) .D X.K E (Qiu we wr)):=PA.imp (pa_c he hr hs) (QiT fun h=>h)
theorem Qht {n:Nat} {e:Expr} {es:List Expr} {we:DE} {wr:DAr} (he:PE X e (tX .P X.K E we)) (hr:PA X es (tAr n .P X.K E wr)) (hs:notStar e=true:=by rfl):PA X (e::es) (tAr (n+1) .P X.K E (Qiu we wr)):=PA.imp (pa_c he hr hs) (QiT fun h=>h)
theorem Qcl {A P:Addr->Prop} {H:Hp}:∀ {vs:List V} {ds:List PyData},Paired (VD .D A P H) vs ds->DAs A H vs ds
  | _,_,.nil=>.nil
  | _,_,.cons a b=>.cons a (Qcl b)
def dTup (w:DAr):DE:=fun δ Q EX=>w δ (fun ds=>Q (.tuple ds)) EX
def dLst (w:DAr):DE:=fun δ Q EX=>w δ (fun ds=>Q (.list ds)) EX
theorem pd_tup {n:Nat} {es:List Expr} {w:DAr} {x1} (h:PA X es (tAr n .D X.K E w)) (hn:n<=1000:=by decide):PE X (.Tuple es x1 pos) (tX .F X.K E (dTup w)):=by
  refine PE.imp (Qlw h) fun σ H Q ⟨F,δ,R,EX,rel,hw,k,o⟩=>?_
  refine ⟨F,δ,_,EX,rel,hw,fun ds hds hl vs H' rel' kp q=>?_,o⟩
  have q':=Qcl q
  refine ⟨by rw [q'.length,hl];exact hn,fun a H2 s n e=>k _ hds _ H2 (rel'.same s) (kp.trans (Kp.same rel' s)) ⟨QcR (fun a ha=>rel'.isl ha) s e q',Qcq e⟩⟩
theorem QbO {σ:L2.St} {δ:Sts} {H H':Hp} {l:Addr} (k:Kp σ δ H H') (n:H' l=none):H l=none:=by
  cases e:H l with
  | none=>rfl
  | some ob=>
    by_cases z:PotA σ δ l
    · obtain ⟨m,em⟩:=k.2 l z
      rw [em] at n;cases n
    · rw [k.1 _ _ z e] at n;cases n
theorem pd_lst {n:Nat} {es:List Expr} {w:DAr} (h:PA X es (tAr n .D X.K E w)) (hn:n<=1000:=by decide):PE X (.List es pos) (tX .F X.K E (dLst w)):=by
  refine PE.imp (Qlx h) fun σ H Q ⟨F,δ,R,EX,rel,hw,k,o⟩=>?_
  refine ⟨F,δ,_,EX,rel,hw,fun ds hds hl vs H' rel' kp q=>?_,o⟩
  have q':=Qcl q
  refine ⟨by rw [q'.length,hl];exact hn,fun a H2 s n e=>k _ hds _ H2 (rel'.same s) (kp.trans (Kp.same rel' s)) ⟨QcC (fun a ha=>rel'.isl ha) s n e q',Qbb (QbO kp n)⟩⟩
theorem pd_dct {pos:Pos}:PE X (.Dict [] [] pos) (tX .D X.K E (dC (.dict []))):=by
  refine PE.imp Qlz fun σ H Q ⟨F,δ,R,EX,rel,hw,k,o⟩=>fun p hp=>?_
  refine k _ hw _ _ (rel.same (Qab hp)) (Kp.same rel (Qab hp)) (.dct (fun z=>?_) Qad)
  obtain ⟨xs,e⟩:=rel.isl z
  rw [hp] at e;cases e
def Qbx (r:List V->Hp->VK->Prop) (rD:List PyData->(PyData->Prop)->Prop):Prop:=∀ (A P:Addr->Prop) (H:Hp) (vs:List V) (ds:List PyData) (R:PyData->Prop) (Q:VK),QbT H->(∀ a,A a->∃ xs,H a=some (.lst xs))->Paired (DP A P H) vs ds->rD ds R ->
  (∀ d,R d->∀ v H',Same H H'->DA A H' v d->FrV H H' v->Q v H')->r vs H Q
def dCB (rD:List PyData->(PyData->Prop)->Prop) (wa:DAr):DE:=fun δ Q EX=>wa δ (fun ds=>rD ds Q) EX
theorem QiH {n:Nat} {K:PySem.W.Frag} {r:List V->Hp->VK->Prop} {rD:List PyData->(PyData->Prop)->Prop} {wa:DAr} (hd:Qbx r rD) (σ:L2.St) (H:Hp) (Q:VK) (h:tX .F K E (dCB rD wa) σ H Q) :
    tCB (fun xs H Q=>QbT H->r xs H Q) (tAr n .P K E wa) σ H Q:=by
  obtain ⟨F,δ,R,EX,rel,hw,k,o⟩:=h
  refine ⟨F,δ,_,EX,rel,hw,fun ds hds hl vs H' rel' kp q ln=>?_,o⟩
  refine hd (Av F σ δ) (PotA σ δ) H' vs ds R Q ln (fun a ha=>rel'.isl ha) q hds fun d hR v H2 s dv fr=>?_
  exact k d hR v H2 (rel'.same s) (kp.trans (Kp.same rel' s)) ⟨dv,fun l e1 e2=>QbO kp (fr l e1 e2)⟩
variable {x:Str} {bid T:String} {p:Pos} {e:Expr} {es:List Expr} {n:Nat} {wr:DAr} {r:List V->Hp->VK->Prop} {rD:List PyData->(PyData->Prop)->Prop}
theorem QjK (hc:CallR X (.builtin bid) r) (hd:Qbx r rD) (hg:Gl X x) (hm:X.mg x=none) (hv:bootBuiltins x=some (.builtin bid)) (ha:PA X (e::es) (tAr n .P X.K E wr)) (hn:x ≠ "__name__" := by decide) (hdb:(x == ("__debug__" : Str))=false:=by decide)
    (he:starEach (e::es) X.env=(false,eval e X.env)::starEach es X.env:=by rfl) (hpl:(backTo pos (starEach es X.env)).any (·.1)=false:=by rfl):PE X (.Call (.Name x p) (e::es) [] pos) (tX .F X.K E (dCB rD wr)):=
  PE.imp (Qas (CallR.len hc) hg hm hv ha hn hdb he hpl) (QiH hd)
theorem Qhv (hc:CallR X (.type T) r) (hd:Qbx r rD) (hg:Gl X x) (hm:X.mg x=none) (hv:bootBuiltins x=some (.type T)) (ha:PA X (e::es) (tAr n .P X.K E wr)) (hn:x ≠ "__name__" := by decide) (hdb:(x == ("__debug__" : Str))=false:=by decide)
    (he:starEach (e::es) X.env=(false,eval e X.env)::starEach es X.env:=by rfl) (hpl:(backTo pos (starEach es X.env)).any (·.1)=false:=by rfl):PE X (.Call (.Name x p) (e::es) [] pos) (tX .F X.K E (dCB rD wr)):=
  PE.imp (Qb1 (CallR.len hc) hg hm hv ha hn hdb he hpl) (QiH hd)
theorem pd1 {A P:Addr->Prop} {H:Hp} {vs:List V} {d:PyData} (q:Paired (DP A P H) vs [d]):∃ v,vs=[v]/\DP A P H v d:=by
  cases q with
  | cons a b=>cases b;exact ⟨_,rfl,a⟩
theorem pd2 {A P:Addr->Prop} {H:Hp} {vs:List V} {d d':PyData} (q:Paired (DP A P H) vs [d,d']):∃ v v',vs=[v,v']/\DP A P H v d/\DP A P H v' d':=by
  cases q with
  | cons a b=>cases b with | cons b c=>cases c;exact ⟨_,_,rfl,a,b⟩
def lenD:List PyData->(PyData->Prop)->Prop
  | [.list ds],Q=>Q (.int ds.length)
  | [.tuple ds],Q=>Q (.int ds.length)
  | _,_=>False
theorem QdC {K:PySem.W.Frag}:Qbx (Qlm K) lenD:=fun A P H vs ds R Q ln dm q h k=>by
  unfold lenD at h
  split at h
  · obtain ⟨v,rfl,hv⟩:=pd1 q
    obtain ⟨l,xs,rfl,e,qq⟩:=hv.list
    exact ⟨l,xs,rfl,.inl (SqL.of e),by rw [qq.length];exact k _ h _ H (Same.refl H) (.int _) QaJ⟩
  · obtain ⟨v,rfl,hv⟩:=pd1 q
    obtain ⟨l,xs,rfl,e,qq⟩:=hv.tuple
    exact ⟨l,xs,rfl,.inr (SqT.of e),by rw [qq.length];exact k _ h _ H (Same.refl H) (.int _) QaJ⟩
  · exact h.elim
theorem Qbj:CallR X (.builtin "len") (Qlm X.K):=QaS
def Qmg:List PyData->(PyData->Prop)->Prop
  | [.int i,.int j],Q=>Q (.int (if j<i then j else i))
  | _,_=>False
def Qmi:List PyData->(PyData->Prop)->Prop
  | [.int i,.int j],Q=>Q (.int (if j > i then j else i))
  | _,_=>False
theorem QiD:Qbx (fun xs H Q=>∃ i j,xs=[.int i,.int j]/\Q (.int (if j<i then j else i)) H) Qmg:=fun A P H vs ds R Q ln dm q h k=>by
  unfold Qmg at h
  split at h
  · obtain ⟨v,v',rfl,h1,h2⟩:=pd2 q
    rw [h1.int,h2.int]
    exact ⟨_,_,rfl,k _ h _ H (Same.refl H) (.int _) QaJ⟩
  · exact h.elim
theorem QiE:Qbx (fun xs H Q=>∃ i j,xs=[.int i,.int j]/\Q (.int (if j > i then j else i)) H) Qmi:=fun A P H vs ds R Q ln dm q h k=>by
  unfold Qmi at h
  split at h
  · obtain ⟨v,v',rfl,h1,h2⟩:=pd2 q
    rw [h1.int,h2.int]
    exact ⟨_,_,rfl,k _ h _ H (Same.refl H) (.int _) QaJ⟩
  · exact h.elim
def QbS:List PyData->Option (List Bool)
  | []=>some []
  | .bool b::ds=>(QbS ds).map (b::·)
  | _::_=>none
def Qbs:List PyData->Option (List Int)
  | []=>some []
  | .int b::ds=>(Qbs ds).map (b::·)
  | _::_=>none
theorem QiO (bs:List Bool):QbS (bs.map PyData.bool)=some bs:=by
  induction bs with
  | nil=>rfl
  | cons b bs ih=>rw [List.map_cons,QbS,ih];rfl
theorem ints_map (bs:List Int):Qbs (bs.map PyData.int)=some bs:=by
  induction bs with
  | nil=>rfl
  | cons b bs ih=>rw [List.map_cons,Qbs,ih];rfl
theorem bools_eq:∀ {ds:List PyData} {bs:List Bool},QbS ds=some bs->ds=bs.map PyData.bool
  | [],bs,h=>by cases h;rfl
  | d::ds,bs,h=>by
    cases d<;>first | (unfold QbS at h;cases h;done) | skip
    rw [QbS] at h
    obtain ⟨cs,h1,rfl⟩:=Option.map_eq_some_iff.mp h
    rw [bools_eq h1];rfl
theorem Qc8:∀ {ds:List PyData} {bs:List Int},Qbs ds=some bs->ds=bs.map PyData.int
  | [],bs,h=>by cases h;rfl
  | d::ds,bs,h=>by
    cases d<;>first | (unfold Qbs at h;cases h;done) | skip
    rw [Qbs] at h
    obtain ⟨cs,h1,rfl⟩:=Option.map_eq_some_iff.mp h
    rw [Qc8 h1];rfl
theorem QeA {A:Addr->Prop} {H:Hp}:∀ {bs:List Bool} {xs:List V},DAs A H xs (bs.map PyData.bool)->xs=bs.map V.bl
  | [],_,.nil=>rfl
  | b::bs,_,.cons (.bl _) r=>by rw [QeA r];rfl
theorem QbE {A:Addr->Prop} {H:Hp}:∀ {bs:List Int} {xs:List V},DAs A H xs (bs.map PyData.int)->xs=bs.map V.int
  | [],_,.nil=>rfl
  | b::bs,_,.cons (.int _) r=>by rw [QbE r];rfl
@[irreducible] def allD:List PyData->(PyData->Prop)->Prop
  | [.list ds],Q=>∃ bs,QbS ds=some bs/\Q (.bool (bs.all id))
  | _,_=>False
theorem QiG {K:PySem.W.Frag} {cm:Bool} (hc:cm=true):Qbx (fun xs H Q=>∃ (p:Addr) (bs:List Bool),xs=[.ref p]/\SqL K H p (bs.map V.bl)/\cm=true/\Q (.bl (bs.all id)) H) allD:=fun A P H vs ds R Q ln dm q h k=>by
  unfold allD at h
  split at h
  · obtain ⟨v,rfl,hv⟩:=pd1 q
    obtain ⟨bs,hb,hR⟩:=h
    rw [bools_eq hb] at hv
    obtain ⟨l,xs,rfl,e,qq⟩:=hv.list
    rw [QeA qq] at e
    exact ⟨l,bs,rfl,SqL.of e,hc,k _ hR _ H (Same.refl H) (.bl _) QaY⟩
  · exact h.elim
def Qku:List PyData->(PyData->Prop)->Prop
  | [.list ds],Q=>Q (.tuple ds)
  | [.tuple ds],Q=>Q (.tuple ds)
  | _,_=>False
def listD:List PyData->(PyData->Prop)->Prop
  | [.list ds],Q=>Q (.list ds)
  | [.tuple ds],Q=>Q (.list ds)
  | _,_=>False
theorem Qa6 {K:PySem.W.Frag}:Qbx (Qg7 K) Qku:=fun A P H vs ds R Q ln dm q h k=>by
  unfold Qku at h
  split at h
  · obtain ⟨v,rfl,hv⟩:=pd1 q
    obtain ⟨l,xs,rfl,e,qq⟩:=hv.list
    exact ⟨l,xs,rfl,.inl ⟨SqL.of e,fun l' H' s n e'=>k _ h _ H' s (QcR dm s e' qq) (Qcq e')⟩⟩
  · obtain ⟨v,rfl,hv⟩:=pd1 q
    obtain ⟨l,xs,rfl,e,qq⟩:=hv.tuple
    exact ⟨l,xs,rfl,.inr ⟨SqT.of e,k _ h _ H (Same.refl H) (QcR dm (Same.refl H) e qq) (Qcq e)⟩⟩
  · exact h.elim
theorem QiF {K:PySem.W.Frag}:Qbx (Qg9 K) listD:=fun A P H vs ds R Q ln dm q h k=>by
  unfold listD at h
  split at h
  · obtain ⟨v,rfl,hv⟩:=pd1 q
    obtain ⟨l,xs,rfl,e,qq⟩:=hv.list
    exact ⟨l,xs,rfl,.inl (SqL.of e),fun l' H' s n e'=>k _ h _ H' s (QcC dm s n e' qq) (Qbb n)⟩
  · obtain ⟨v,rfl,hv⟩:=pd1 q
    obtain ⟨l,xs,rfl,e,qq⟩:=hv.tuple
    exact ⟨l,xs,rfl,.inr (SqT.of e),fun l' H' s n e'=>k _ h _ H' s (QcC dm s n e' qq) (Qbb n)⟩
  · exact h.elim
def intD:List PyData->(PyData->Prop)->Prop
  | [.int i],Q=>Q (.int i)
  | [.bool k],Q=>Q (.int (if k then 1 else 0))
  | _,_=>False
theorem cd_int:Qbx rInt1 intD:=fun A P H vs ds R Q ln dm q h k=>by
  unfold intD at h
  split at h
  · obtain ⟨v,rfl,hv⟩:=pd1 q
    rw [hv.int]
    exact .inl ⟨_,rfl,k _ h _ H (Same.refl H) (.int _) QaJ⟩
  · obtain ⟨v,rfl,hv⟩:=pd1 q
    rw [hv.bool]
    exact .inr ⟨_,rfl,k _ h _ H (Same.refl H) (.int _) QaJ⟩
  · exact h.elim
end
section
variable {X:Cx} {E:XK}
inductive Tn where | int | bool | str | tuple | list
def Tn.s:Tn->String
  | .int => "int"
  | .bool => "bool"
  | .str => "str"
  | .tuple => "tuple"
  | .list => "list"
def isT:Tn->PyData->Bool
  | .int,.int _=>true
  | .int,.bool _=>true
  | .bool,.bool _=>true
  | .str,.str _=>true
  | .tuple,.tuple _=>true
  | .list,.list _=>true
  | _,_=>false
theorem Qmq {K:PySem.W.Frag} {A P:Addr->Prop} {H:Hp} {v:V} {d:PyData} (tn:Tn) (h:DP A P H v d):∃ t,TyOf K H v t/\PySem.W.kitOne K t (.type tn.s)=some (isT tn d):=by
  rcases h with h | ⟨l,xs,ds,rfl,rfl,_,e,q⟩
  · cases h with
    | non=>exact ⟨_,.non,by cases tn<;>rfl⟩
    | bl b=>exact ⟨_,.bl _,by cases tn<;>rfl⟩
    | int i=>exact ⟨_,.int _,by cases tn<;>rfl⟩
    | str x c=>exact ⟨_,.str _,by cases tn<;>rfl⟩
    | tup n e q=>exact ⟨_,.tup e,by cases tn<;>rfl⟩
    | lst n e q=>exact ⟨_,.lst e,by cases tn<;>rfl⟩
    | dct n e=>exact ⟨_,.dK e,by cases tn<;>rfl⟩
  · exact ⟨_,.lst e,by cases tn<;>rfl⟩
def dInst (tn:Tn) (we:DE):DE:=fun δ Q EX=>we δ (fun d=>Q (.bool (isT tn d))) EX
theorem QlS {e f:Expr} {we:DE} {p pos:Pos} (tn:Tn) (hg:Gl X "isinstance") (hm:X.mg "isinstance" = none) (he:PE X e (tX .P X.K E we)) (hf:PE X f (tC (.ty tn.s))) (h1:notStar e=true:=by rfl) (h2:notStar f=true:=by rfl) :
    PE X (.Call (.Name "isinstance" p) [e,f] [] pos) (tX .F X.K E (dInst tn we)):=by
  refine PE.imp (Qas Qau hg hm Qap (pa_c he (pa_c hf Qam h2) h1) (he:=QaD h1) (hpl:=by rw [QaD h2];rfl)) fun σ H Q ⟨F,δ,R,EX,rel,hw,k,o⟩=>?_
  refine ⟨F,δ,_,EX,rel,hw,fun d hd v H' rel' kp vk=>?_,o⟩
  obtain ⟨t,ty,et⟩:=Qmq (K:=X.K) tn vk
  exact ⟨v,t,tn.s,_,rfl,ty,et,k _ hd _ H' rel' kp ⟨.bl _,QaY⟩⟩
theorem pb_ty {x:Str} {pos:Pos} (tn:Tn) (hg:Gl X x) (hm:X.mg x=none) (hv:bootBuiltins x=some (.type tn.s)) (hn:x ≠ "__name__" := by decide) (hd:(x == ("__debug__" : Str))=false:=by decide):PE X (.Name x pos) (tC (.ty tn.s)):=Qa3 (v:=.ty tn.s) hg hm hv rfl hn hd
abbrev DO:=Sts->(Option Int->Prop)->XP->Prop
def tO (K:PySem.W.Frag) (E:XK) (w:DO):TO:=fun σ H Q=>∃ (F:Fm) (δ:Sts) (R:Option Int->Prop) (EX:XP),Rel K F σ H δ/\w δ R EX/\(∀ d,R d->∀ H',Rel K F σ H' δ->Kp σ δ H H'->Q d H')/\Out F E EX
def dNo:DO:=fun _ Q _=>Q none
def dSo (we:DE):DO:=fun δ Q EX=>we δ (fun d=>match d with
  | .int i=>Q (some i)
  | _=>False) EX
theorem PO.imp {e:Option Expr} {t t':TO} (h:PO X e t) (i:∀ σ H Q,t' σ H Q->t σ H Q):PO X e t':=fun pins s σ H Q I q=>h pins s σ H Q I (i σ H Q q)
theorem QjD:PO X none (tO X.K E dNo):=PO.imp Qlu fun σ H Q ⟨F,δ,R,EX,rel,hw,k,o⟩=>k _ hw H rel (Kp.refl rel)
theorem QjC {e:Expr} {we:DE} (he:PE X e (tX .P X.K E we)):PO X (some e) (tO X.K E (dSo we)):=by
  refine PO.imp (Qhl he) fun σ H Q ⟨F,δ,R,EX,rel,hw,k,o⟩=>?_
  refine ⟨F,δ,_,EX,rel,hw,fun d hd v H' rel' kp vk=>?_,o⟩
  cases d<;>first | exact (show False from hd).elim | skip
  exact ⟨_,DP.int vk,k _ hd H' rel' kp⟩
def cutD (xs:List PyData) (lo hi:Option Int):List PyData:=(xs.drop (HT.sIx xs.length 0 lo)).take (HT.sIx xs.length xs.length hi - HT.sIx xs.length 0 lo)
theorem Qix {A:Addr->Prop} {H:Hp} {xs:List V} {ds:List PyData} (q:DAs A H xs ds) (lo hi:Option Int):DAs A H (cutV xs lo hi) (cutD ds lo hi):=by
  unfold cutV cutD
  rw [q.length]
  exact (q.drop _).take _
def slD (d:PyData) (lo hi:Option Int) (Q:PyData->Prop):Prop:=
  match d with
  | .list ds=>Q (.list (cutD ds lo hi))
  | .tuple ds=>Q (.tuple (cutD ds lo hi))
  | _=>False
def dSl (we:DE) (wl wh:DO):DE:=fun δ Q EX=>we δ (fun d=>wl δ (fun lo=>wh δ (fun hi=>slD d lo hi Q) EX) EX) EX
def rSlAny (K:PySem.W.Frag):V->Option Int->Option Int->Hp->VK->Prop:=fun x a b H Q=>rSlA x a b H Q∨rSlLW K x a b H Q
theorem QjI {e:Expr} {lo hi:Option Expr} {we:DE} {wl wh:DO} {p2 pos:Pos} (he:PE X e (tX .P X.K E we)) (hl:PO X lo (tO X.K E wl)) (hh:PO X hi (tO X.K E wh)):PE X (.Subscript e (.Slice lo hi none p2) pos) (tX .F X.K E (dSl we wl wh)):=by
  refine PE.imp (Qjp (r:=rSlAny X.K) (SlR.or2 sl_any Qi8) he hl hh) fun σ H Q ⟨F,δ,R,EX,rel,hw,k,o⟩=>?_
  refine ⟨F,δ,_,EX,rel,hw,fun d hd v H1 rel1 kp1 vk=>⟨F,δ,_,EX,rel1,hd,fun a ha H2 rel2 kp2=>⟨F,δ,_,EX,rel2,ha,fun b hb H3 rel3 kp3=>?_,o⟩,o⟩,o⟩
  have v3:=kp3.dp (kp2.dp vk)
  have K3:=(kp1.trans kp2).trans kp3
  cases d<;>first | exact (show False from hb).elim | skip
  · obtain ⟨l,xs,rfl,e,q⟩:=DP.list v3
    exact .inr ⟨l,xs,rfl,SqL.of e,fun p H' s n e'=>k _ hb _ H' (rel3.same s) (K3.trans (Kp.same rel3 s)) ⟨QcC (fun a ha=>rel3.isl ha) s n e' (Qix q _ _),Qbb (QbO K3 n)⟩⟩
  · obtain ⟨l,xs,rfl,e,q⟩:=DP.tuple v3
    exact .inl ⟨l,xs,rfl,e,fun p H' s e'=>k _ hb _ H' (rel3.same s) (K3.trans (Kp.same rel3 s)) ⟨QcR (fun a ha=>rel3.isl ha) s e' (Qix q _ _),Qcq e'⟩⟩
def revD (d:PyData) (Q:PyData->Prop):Prop:=
  match d with
  | .tuple ds=>Q (.tuple ds.reverse)
  | _=>False
def dRev (we ws:DE):DE:=fun δ Q EX=>we δ (fun d=>ws δ (fun s=>(match s with | .int i=>i = -1 | _=>False)/\revD d Q) EX) EX
theorem pd_rev {e st:Expr} {we ws:DE} {p2 pos:Pos} (he:PE X e (tX .P X.K E we)) (hs:PE X st (tX .P X.K E ws)):PE X (.Subscript e (.Slice none none (some st) p2) pos) (tX .F X.K E (dRev we ws)):=by
  refine PE.imp (pe_rev he hs) fun σ H Q ⟨F,δ,R,EX,rel,hw,k,o⟩=>?_
  refine ⟨F,δ,_,EX,rel,hw,fun d hd v H1 rel1 kp1 vk=>⟨F,δ,_,EX,rel1,hd,fun s hs y H2 rel2 kp2 yk=>?_,o⟩,o⟩
  have v2:=kp2.dp vk
  have K2:=kp1.trans kp2
  obtain ⟨h1,h2⟩:=hs
  cases s<;>first | exact (show False from h1).elim | skip
  rename_i i
  cases (show i = -1 from h1)
  rw [DP.int yk]
  cases d<;>first | exact (show False from h2).elim | skip
  obtain ⟨l,xs,rfl,e,q⟩:=DP.tuple v2
  exact ⟨_,rfl,rfl,l,xs,rfl,e,fun p H' s e'=>k _ h2 _ H' (rel2.same s) (K2.trans (Kp.same rel2 s)) ⟨QcR (fun a ha=>rel2.isl ha) s e' q.rev,Qcq e'⟩⟩
abbrev DF:=List Sl->(PyData->Prop)->XP->Prop
def Kq (pt:Addr->Prop) (H H':Hp):Prop:=(∀ b o,¬ pt b->H b=some o->H' b=some o)/\∀ p,pt p->∃ n,H' p=some (.lst [.int n])
def toSp (fr:Bool) (f:DF):Sp:=fun vs H Q Ex=>∃ (A pt:Addr->Prop) (args:List Sl) (R:PyData->Prop) (EX:XP),(∀ a,A a->∃ xs,H a=some (.lst xs))/\(∀ p,pt p->A p/\∃ n,H p=some (.lst [.int n]))/\Paired (QgI A pt H) vs args/\f args R EX /\
  (∀ d,R d->∀ v H',Kq pt H H'->DA A H' v d->(fr=true->FrV H H' v)->Q v H')/\∀ C,EX C->∀ H',Kq pt H H'->Ex (.ref C) none H'
def sNil:DSl:=fun _ Q _=>Q []
def sV (we:DE) (wr:DSl):DSl:=fun δ Q EX=>we δ (fun d=>wr δ (fun ds=>Q (.v d::ds)) EX) EX
def sPot (i:Nat) (wr:DSl):DSl:=fun δ Q EX=>match δ[i]? with
  | some .pot=>wr δ (fun ds=>Q (.pot::ds)) EX
  | _=>False
theorem QlK:PA X [] (tAs X.K E sNil):=PA.imp Qam fun σ H Q ⟨F,δ,R,EX,rel,hw,k,o⟩=>k [] hw [] H rel (Kp.refl rel) .nil
theorem pds_v {e:Expr} {es:List Expr} {we:DE} {wr:DSl} (he:PE X e (tX .D X.K E we)) (hr:PA X es (tAs X.K E wr)) (hs:notStar e=true:=by rfl):PA X (e::es) (tAs X.K E (sV we wr)):=by
  refine PA.imp (pa_c he hr hs) fun σ H Q ⟨F,δ,R,EX,rel,hw,k,o⟩=>?_
  refine ⟨F,δ,_,EX,rel,hw,fun d hd v H' rel' kp vk=>⟨F,δ,_,EX,rel',hd,fun ds hds vs H2 rel2 kp2 vks=>?_,o⟩,o⟩
  exact k _ hds (v::vs) H2 rel2 (kp.trans kp2) (.cons (kp2.da vk) vks)
theorem QlI {e:Expr} {es:List Expr} {i:Nat} {wr:DSl} (he:PE X e (tVar i)) (hr:PA X es (tAs X.K E wr)) (hs:notStar e=true:=by rfl):PA X (e::es) (tAs X.K E (sPot i wr)):=by
  refine PA.imp (pa_c he hr hs) fun σ H Q ⟨F,δ,R,EX,rel,hw,k,o⟩=>?_
  unfold sPot at hw
  split at hw
  · rename_i hd
    obtain ⟨x,hx⟩:=rel.lt hd
    obtain ⟨p,n,rfl,e,q⟩:=rel.sl i _ _ hx hd
    refine ⟨.ref p,hx,F,δ,_,EX,rel,hw,fun ds hds vs H2 rel2 kp2 vks=>?_,o⟩
    exact k _ hds (.ref p::vs) H2 rel2 kp2 (.cons ⟨p,rfl,i,hx,hd⟩ vks)
  · exact hw.elim
def Qiv (f:DF) (wa:DSl):DE:=fun δ Q EX=>wa δ (fun args=>f args Q EX) EX
theorem Kq.kp {K:PySem.W.Frag} {F:Fm} {σ:L2.St} {δ:Sts} {H H':Hp} (k:Kq (PotA σ δ) H H'):Kp σ δ H H':=k
theorem QeI {m:Md} {fr:Bool} {K:PySem.W.Frag} {f:DF} {wa:DSl} (hm:∀ {F:Fm} {σ:L2.St} {δ:Sts} {H H':Hp} {v:V} {d:PyData},DA (Av F σ δ) H' v d->(fr=true->FrV H H' v)->Vok m F σ δ H H' v d) (σ:L2.St) (H:Hp) (Q:VK) (h:tX m K E (Qiv f wa) σ H Q):Qi4 (toSp fr f) [] E (tAs K E wa) σ H Q:=by
  obtain ⟨F,δ,R,EX,rel,hw,k,o⟩:=h
  refine ⟨F,δ,_,EX,rel,hw,fun args ha vs H1 rel1 kp1 q=>?_,o⟩
  show toSp fr f (vs++[]) H1 Q E
  rw [List.append_nil]
  refine ⟨Av F σ δ,PotA σ δ,args,R,EX,fun a ha=>rel1.isl ha,fun p hp=>⟨Qa5 hp,(Kp.refl rel1).2 p hp⟩,q,ha,fun d hd v H' kq dv fr=>?_,fun C hC H' kq=>o C hC H' (rel1.kp kq).ke⟩
  exact k d hd v H' (rel1.kp kq) (kp1.trans kq) (hm dv fun z l e1 e2=>QbO kp1 (fr z l e1 e2))
variable {CX:CXT} {k:Nat} {f:Addr} {fd:FuncData} {ps:List Str} {x:Str} {p pos:Pos} {e:Expr} {es:List Expr} {fD:DF} {wa:DSl}
theorem QlV (G:FnOk X.prog X.w X.K X.mg X.base CX k f fd ps (toSp false fD)) (hr:Room k X.A) (hg:Gl X x) (hm:X.mg x=some (.ref f)) (hk:PySem.W.keepIn X.K (.ref f)=true) (hb:Binds X.K fd ps []) (hx:QcE CX X E)
    (ha:PA X (e::es) (tAs X.K E wa)) (hdb:(x == ("__debug__" : Str))=false:=by decide) (he:starEach (e::es) X.env=(false,eval e X.env)::starEach es X.env:=by rfl) (hpl:(backTo pos (starEach es X.env)).any (·.1)=false:=by rfl) :
    PE X (.Call (.Name x p) (e::es) [] pos) (tX .D X.K E (Qiv fD wa)):=PE.imp (Qck G hr hg hm hk hb .nil hx ha hdb he hpl) (QeI fun h _=>h)
theorem QjJ (G:FnOk X.prog X.w X.K X.mg X.base CX k f fd ps (toSp true fD)) (hr:Room k X.A) (hg:Gl X x) (hm:X.mg x=some (.ref f)) (hk:PySem.W.keepIn X.K (.ref f)=true) (hb:Binds X.K fd ps []) (hx:QcE CX X E)
    (ha:PA X (e::es) (tAs X.K E wa)) (hdb:(x == ("__debug__" : Str))=false:=by decide) (he:starEach (e::es) X.env=(false,eval e X.env)::starEach es X.env:=by rfl) (hpl:(backTo pos (starEach es X.env)).any (·.1)=false:=by rfl) :
    PE X (.Call (.Name x p) (e::es) [] pos) (tX .F X.K E (Qiv fD wa)):=PE.imp (Qck G hr hg hm hk hb .nil hx ha hdb he hpl) (QeI fun h z=>⟨h,z rfl⟩)
end
abbrev DG:=PyData->Sts->(Sts->Prop)->Prop
def tG (ix:List Nat) (K:PySem.W.Frag) (w:DG):TG:=fun v σ H Q=>∃ (F:Fm) (δ:Sts) (d:PyData) (R:Sts->Prop),Rel K F σ H δ/\DA (Av F σ δ) H v d/\w d δ R /\
  ∀ δ',R δ'->∀ σ',Rel K F σ' H δ'->Stp F σ H δ σ' H δ'->σ'.length=σ.length->(∀ j,j∉ix->σ'[j]? = σ[j]?)->Q σ' H
theorem Qa4 {α:Type} {l:List α} {i j:Nat} {x:α} (h:j≠i):(l.set i x)[j]? = l[j]? := List.getElem?_set_ne (Ne.symm h)
theorem set_eq {α:Type} {l:List α} {i:Nat} {x y:α} (h:(l.set i x)[i]? = some y):y=x:=by
  rw [List.getElem?_set] at h
  simp only [if_true] at h
  split at h
  · exact (Option.some.inj h).symm
  · cases h
theorem Qdi {F:Fm} {σ:L2.St} {δ:Sts} {i:Nat} {o:Option V} {d:PyData} {a:Addr} (h:Av F (σ.set i o) (δ.set i (.v d)) a):Av F σ δ a:=by
  rcases h with h | ⟨j,h1,h2⟩
  · exact .inl h
  · by_cases z:j=i
    · subst z
      rcases h2 with h2 | ⟨ds,h2⟩<;>cases set_eq h2
    · rw [Qa4 z] at h1 h2
      exact .inr ⟨j,h1,h2⟩
theorem Rel.setv {K:PySem.W.Frag} {F:Fm} {σ:L2.St} {H:Hp} {δ:Sts} (r:Rel K F σ H δ) {i:Nat} {v:V} {d:PyData} (q:DA (Av F σ δ) H v d):Rel K F (σ.set i (some v)) H (δ.set i (.v d)) where
  len:=by rw [List.length_set,List.length_set];exact r.len
  dom:=r.dom
  dom0:=r.dom0
  pt0:=r.pt0
  kx:=r.kx
  sl:=fun j o x h1 h2=>by
    have wk:∀ {v:V} {d':PyData},DA (Av F σ δ) H v d'->DA (Av F (σ.set i (some v)) (δ.set i (.v d))) H v d':=fun h=>h.mv (fun _ _ _ e=>e) fun a z=>.inl (Qdi z)
    by_cases z:j=i
    · subst z
      cases set_eq h1
      cases set_eq h2
      exact ⟨v,rfl,q.mv (fun _ _ _ e=>e) fun a z=>.inl (Qdi z)⟩
    · rw [Qa4 z] at h1 h2
      have h:=r.sl j o x h1 h2
      cases x with
      | no=>trivial
      | v d=>obtain ⟨v',e,q'⟩:=h;exact ⟨v',e,q'.mv (fun _ _ _ e=>e) fun a z=>.inl (Qdi z)⟩
      | own ds=>obtain ⟨l,xs,e,e2,q',f⟩:=h;exact ⟨l,xs,e,e2,q'.mv (fun _ _ _ e=>e) fun a z=>.inl (Qdi z),f⟩
      | pk ds=>obtain ⟨l,xs,e,e2,q',f⟩:=h;exact ⟨l,xs,e,e2,q'.mv (fun _ _ _ e=>e) fun a z=>.inl (Qdi z),f⟩
      | pot=>exact h
      | scr=>exact h
  inj:=fun j k a ds h1 h2 ⟨h3,h4⟩=>by
    by_cases z:j=i
    · subst z;cases set_eq h1
    · rw [Qa4 z] at h1 h2
      by_cases z2:k=i
      · subst z2
        rcases h4 with h4 | ⟨ds,h4⟩<;>cases set_eq h4
      · rw [Qa4 z2] at h3 h4
        exact r.inj j k a ds h1 h2 ⟨h3,h4⟩
theorem Stp.setv {F:Fm} {σ:L2.St} {H:Hp} {δ:Sts} {i:Nat} {o:Option V} {d:PyData}:Stp F σ H δ (σ.set i o) H (δ.set i (.v d)):=⟨fun _ _ _ e=>e,fun a z=>.inl (Qdi z)⟩
def gN (i:Nat):DG:=fun d δ Q=>Q (δ.set i (.v d))
def Qfy:Sts->List Nat->List PyData->Sts
  | δ,i::is,d::ds=>Qfy (δ.set i (.v d)) is ds
  | δ,_,_=>δ
def gTN (is:List Nat):DG:=fun d δ Q=>match d with
  | .tuple ds=>ds.length=is.length/\Q (Qfy δ is ds)
  | _=>False
section
variable {X:Cx} {E:XK}
theorem PG.imp {e:Expr} {t t':TG} (h:PG X e t) (i:∀ v σ H Q,t' v σ H Q->t v σ H Q):PG X e t':=fun pins s σ H v u Q I r q=>h pins s σ H v u Q I r (i v σ H Q q)
theorem QjH {e:Expr} {i:Nat} (h:PG X e (QcG i)):PG X e (tG [i] X.K (gN i)):=PG.imp h fun v σ H Q ⟨F,δ,d,R,rel,dv,hw,k⟩=>
  k _ hw _ (rel.setv dv) Stp.setv (List.length_set ..) fun j hj=>Qa4 fun z=>hj (by rw [z];exact List.mem_singleton.mpr rfl)
def gNs:List Nat->TGs
  | []=>gNil
  | i::is=>Qkc (QcG i) (gNs is)
theorem QfW {K:PySem.W.Frag} {F:Fm} {H:Hp} {Q:L2.St->Hp->Prop}:∀ (is:List Nat) (vs:List V) (ds:List PyData) (σ:L2.St) (δ:Sts),ds.length=is.length->Rel K F σ H δ->DAs (Av F σ δ) H vs ds ->
    (∀ σ',Rel K F σ' H (Qfy δ is ds)->Stp F σ H δ σ' H (Qfy δ is ds)->σ'.length=σ.length->(∀ j,j∉is->σ'[j]? = σ[j]?)->Q σ' H)->gNs is vs σ H Q
  | [],vs,ds,σ,δ,hl,rel,q,k=>by
    cases ds with
    | nil=>cases q;exact ⟨rfl,k σ rel Stp.refl rfl fun _ _=>rfl⟩
    | cons d ds=>cases hl
  | i::is,vs,ds,σ,δ,hl,rel,q,k=>by
    cases ds with
    | nil=>cases hl
    | cons d ds=>
      cases q with
      | @cons v vs _ _ q qs=>
        refine ⟨v,vs,rfl,?_⟩
        refine QfW is vs ds _ _ (by simpa using hl) (rel.setv q) (qs.mv (fun _ _ _ e=>e) fun a z=>.inl (Qdi z)) fun σ' r' st hl' hj=>?_
        refine k σ' r' (Stp.setv.trans st) (by rw [hl',List.length_set]) fun j hn=>?_
        rw [hj j (fun z=>hn (List.mem_cons_of_mem _ z)),Qa4 (fun z=>hn (by rw [z];exact List.mem_cons_self))]
theorem QlP {e:Expr} {n:Nat} {is:List Nat} (h:PG X e (gTup X.K n (gNs is))) (hn:is.length=n:=by rfl):PG X e (tG is X.K (gTN is)):=PG.imp h fun v σ H Q ⟨F,δ,d,R,rel,dv,hw,k⟩=>by
  unfold gTN at hw
  split at hw
  · obtain ⟨hl,hR⟩:=hw
    cases dv with
    | @tup a xs ds na e q=>
      exact ⟨a,xs,rfl,SqT.of e,by rw [q.length,hl,hn],QfW is xs _ σ δ hl rel q fun σ' r' st hl' hj=>k _ hR σ' r' st hl' hj⟩
  · exact hw.elim
def ItD (A S:Addr->Prop) (J:It) (items:List PyData) (H1:Hp):Prop:=items.length<=sizeLine/\∀ (H2:Hp) (A':Addr->Prop),(∀ b o,S b->H1 b=some o->H2 b=some o)->(∀ b,A' b->A b∨H1 b=none)->(∀ a,A' a->∃ xs,H2 a=some (.lst xs)) ->
  (∀ (i:Nat) d,items[i]? = some d->J.go i H2/\∀ x H3,J.yld i H2 x H3->Same H2 H3/\DA A' H3 x d)/\J.stop items.length H2
def Sx (m:Md) (F:Fm) (σ:L2.St) (δ:Sts) (b:Addr):Prop:=
  match m with
  | .P=>¬ PotA σ δ b
  | _=>¬ Av F σ δ b
abbrev DI:=Sts->(List PyData->Prop)->XP->Prop
def tI (m:Md) (K:PySem.W.Frag) (E:XK) (w:DI):TI:=fun σ H R=>∃ (F:Fm) (δ:Sts) (R':List PyData->Prop) (EX:XP),Rel K F σ H δ/\w δ R' EX/\(∀ items,R' items->∀ J H',Rel K F σ H' δ->Kp σ δ H H'->ItD (Av F σ δ) (Sx m F σ δ) J items H'->R J H')/\Out F E EX
theorem PI.imp {tg e:Expr} {t t':TI} (h:PI X tg e t) (i:∀ σ H R,QbT H->t' σ H R->t σ H R):PI X tg e t':=fun pins s σ H R I q=>h pins s σ H R I (i σ H R (Inv.lens I) q)
theorem PI.len {tg e:Expr} {t:TI} (h:PI X tg e t):PI X tg e (fun σ H R=>t σ H fun J H1=>QbT H1->R J H1):=fun pins s σ H R I q=>by
  refine thn (h pins s σ H _ I q) fun v s1 h1=>thn h1 fun itv s2 h2=>?_
  obtain ⟨it,fp,tn,J,H',e,I',T,t0,fo,hR⟩:=h2
  exact ⟨it,fp,tn,J,H',e,I',T,t0,fo,hR (Inv.lens I')⟩
def dItL (w:DE):DI:=fun δ Q EX=>w δ (fun d=>match d with
  | .list ds=>Q ds
  | _=>False) EX
def dItT (w:DE):DI:=fun δ Q EX=>w δ (fun d=>match d with
  | .tuple ds=>Q ds
  | _=>False) EX
theorem Qbk {A S:Addr->Prop} {H H2:Hp} {A':Addr->Prop} {xs:List V} {ds:List PyData} (sA:∀ b,¬ A b->S b) (k:∀ b o,S b->H b=some o->H2 b=some o) (m:∀ b,A' b->A b∨H b=none) (q:DAs A H xs ds):DAs A' H2 xs ds:=q.mv (fun a o n e=>k a o (sA a n) e) m
theorem itl_d {K:PySem.W.Frag} {A S:Addr->Prop} {H:Hp} {l:Addr} {xs:List V} {ds:List PyData} (sA:∀ b,¬ A b->S b) (sl:S l) (e:H l=some (.lst xs)) (q:DAs A H xs ds) (ln:xs.length<=sizeLine):ItD A S (Itl K l) ds H:=by
  refine ⟨by rw [<- q.length];exact ln,fun H2 A' k m dm=>⟨fun i d hd=>?_,xs,SqL.of (k _ _ sl e),by rw [q.length];exact Nat.le_refl _⟩⟩
  obtain ⟨x,hx,dx⟩:=(Qbk sA k m q).get i d hd
  refine ⟨⟨xs,x,SqL.of (k _ _ sl e),hx⟩,fun y H3 ⟨e3,hy⟩=>?_⟩
  subst e3
  have:=hy xs (SqL.of (k _ _ sl e))
  rw [hx] at this
  cases this
  exact ⟨Same.refl _,dx⟩
theorem itt_d {K:PySem.W.Frag} {A S:Addr->Prop} {H:Hp} {l:Addr} {xs:List V} {ds:List PyData} (sA:∀ b,¬ A b->S b) (sl:S l) (e:H l=some (.tup xs)) (q:DAs A H xs ds) (ln:xs.length<=sizeLine):ItD A S (Itt K l) ds H:=by
  refine ⟨by rw [<- q.length];exact ln,fun H2 A' k m dm=>⟨fun i d hd=>?_,xs,SqT.of (k _ _ sl e),by rw [q.length];exact Nat.le_refl _⟩⟩
  obtain ⟨x,hx,dx⟩:=(Qbk sA k m q).get i d hd
  refine ⟨⟨xs,x,SqT.of (k _ _ sl e),hx⟩,fun y H3 ⟨e3,hy⟩=>?_⟩
  subst e3
  have:=hy xs (SqT.of (k _ _ sl e))
  rw [hx] at this
  cases this
  exact ⟨Same.refl _,dx⟩
theorem QdF {m:Md} {F:Fm} {σ:L2.St} {δ:Sts} {b:Addr} (h:¬ Av F σ δ b):Sx m F σ δ b:=by
  cases m
  · exact h
  · exact fun z=>h (Qa5 z)
  · exact h
theorem stL {m:Md} {F:Fm} {σ:L2.St} {δ:Sts} {H H':Hp} {v:V} {ds:List PyData} (h:VD m (Av F σ δ) (PotA σ δ) H v (.list ds)):∃ l xs,v=.ref l/\Sx m F σ δ l/\H l=some (.lst xs)/\DAs (Av F σ δ) H xs ds:=by
  cases m
  · cases h with | @lst a xs _ n e q=>exact ⟨a,xs,rfl,n,e,q⟩
  · rcases h with h | ⟨l,xs,ds',rfl,e,n,e2,q⟩
    · cases h with | @lst a xs _ n e q=>exact ⟨a,xs,rfl,QdF n,e,q⟩
    · cases e;exact ⟨l,xs,rfl,n,e2,q⟩
  · cases h with | @lst a xs _ n e q=>exact ⟨a,xs,rfl,n,e,q⟩
theorem stT {m:Md} {F:Fm} {σ:L2.St} {δ:Sts} {H H':Hp} {v:V} {ds:List PyData} (h:VD m (Av F σ δ) (PotA σ δ) H v (.tuple ds)):∃ l xs,v=.ref l/\Sx m F σ δ l/\H l=some (.tup xs)/\DAs (Av F σ δ) H xs ds:=by
  cases m
  · cases h with | @tup a xs _ n e q=>exact ⟨a,xs,rfl,n,e,q⟩
  · rcases h with h | ⟨l,xs,ds',rfl,e,n,e2,q⟩
    · cases h with | @tup a xs _ n e q=>exact ⟨a,xs,rfl,QdF n,e,q⟩
    · cases e
  · cases h with | @tup a xs _ n e q=>exact ⟨a,xs,rfl,n,e,q⟩
theorem QcQ {m:Md} {F:Fm} {σ:L2.St} {δ:Sts} {H H':Hp} {v:V} {d:PyData} (h:Vok m F σ δ H H' v d):VD m (Av F σ δ) (PotA σ δ) H' v d:=by
  cases m
  · exact h
  · exact h
  · exact h.1
variable {m:Md} {tg e e':Expr} {w w':DE} {p pos tpos:Pos}
theorem QjG (h:PE X e (tX m X.K E w)):PI X tg e (tI m X.K E (dItL w)):=by
  refine PI.imp (PI.len (Qlv h)) fun σ H R _ ⟨F,δ,R',EX,rel,hw,k,o⟩=>?_
  refine ⟨F,δ,_,EX,rel,hw,fun d hd v H' rel' kp vk=>?_,o⟩
  cases d<;>first | exact (show False from hd).elim | skip
  obtain ⟨l,xs,rfl,sl,e,q⟩:=stL (H':=H') (QcQ vk)
  exact ⟨l,rfl,⟨xs,SqL.of e⟩,fun ln=>k _ hd _ H' rel' kp (itl_d (fun b=>QdF) sl e q (ln _ _ (.inl e)))⟩
theorem QlO (h:PE X e (tX m X.K E w)):PI X tg e (tI m X.K E (dItT w)):=by
  refine PI.imp (PI.len (pi_tup h)) fun σ H R _ ⟨F,δ,R',EX,rel,hw,k,o⟩=>?_
  refine ⟨F,δ,_,EX,rel,hw,fun d hd v H' rel' kp vk=>?_,o⟩
  cases d<;>first | exact (show False from hd).elim | skip
  obtain ⟨l,xs,rfl,sl,e,q⟩:=stT (H':=H') (QcQ vk)
  exact ⟨l,rfl,⟨xs,SqT.of e⟩,fun ln=>k _ hd _ H' rel' kp (itt_d (fun b=>QdF) sl e q (ln _ _ (.inr e)))⟩
def rngD (lo:Int) (n:Nat):List PyData:=(List.range n).map fun (i:Nat)=>.int (lo+i)
theorem QcX {lo:Int} {n i:Nat} {d:PyData} (h:(rngD lo n)[i]? = some d):i<n/\d=.int (lo+i):=by
  unfold rngD at h
  rw [List.getElem?_map] at h
  by_cases z:i<n
  · rw [List.getElem?_range z] at h
    exact ⟨z,(Option.some.inj h).symm⟩
  · rw [List.getElem?_eq_none (by rw [List.length_range];omega)] at h
    cases h
theorem QcW {lo:Int} {n:Nat}:(rngD lo n).length=n:=by unfold rngD;rw [List.length_map,List.length_range]
theorem itr_d {A S:Addr->Prop} {H:Hp} {lo:Int} {n:Nat} (hn:n<=1000000):ItD A S (Itr lo n) (rngD lo n) H:=by
  refine ⟨by rw [QcW];exact Nat.le_trans hn Qgy,fun H2 A' k m dm=>⟨fun i d hd=>?_,by rw [QcW];exact Nat.le_refl _⟩⟩
  obtain ⟨hi,rfl⟩:=QcX hd
  exact ⟨hi,fun x H3 ⟨e1,e2⟩=>by subst e1 e2;exact ⟨Same.refl _,.int _⟩⟩
def dRng1 (w:DE):DI:=fun δ Q EX=>w δ (fun d=>match d with
  | .int j=>(-1000000<=j/\j<=1000000)/\Q (rngD 0 j.toNat)
  | _=>False) EX
theorem QjF (hg:Gl X "range") (hm:X.mg "range" = none) (h:PE X e (tX .P X.K E w)) (hs:notStar e=true:=by rfl):PI X tg (.Call (.Name "range" p) [e] [] pos) (tI m X.K E (dRng1 w)):=by
  refine PI.imp (QcZ hg hm (pa_c h Qam hs) (by rw [QaD hs];rfl)) fun σ H R _ ⟨F,δ,R',EX,rel,hw,k,o⟩=>?_
  refine ⟨F,δ,_,EX,rel,hw,fun d hd v H' rel' kp vk=>?_,o⟩
  cases d<;>first | exact (show False from hd).elim | skip
  obtain ⟨⟨h1,h2⟩,hR⟩:=hd
  rw [DP.int vk]
  exact ⟨_,rfl,by omega,by omega,k _ hR _ H' rel' kp (itr_d (by omega))⟩
theorem Qe8 {A':Addr->Prop} {H2:Hp} {r:Addr} {x y:V} {d d':PyData} (dm:∀ a,A' a->∃ xs,H2 a=some (.lst xs)) (n:H2 r=none) (q:DA A' H2 x d) (q':DA A' H2 y d'):DA A' (upd H2 r (.tup [x,y])) (.ref r) (.tuple [d,d']):=
  .tup (fun z=>by obtain ⟨xs,e⟩:=dm r z;rw [n] at e;cases e) Qad (.cons (q.same (Qab n)) (.cons (q'.same (Qab n)) .nil))
def Qdk (ds:List PyData):List PyData:=(List.range ds.length).map fun (i:Nat)=>.tuple [.int i,ds.getD i .none]
theorem Qb5 {ds:List PyData} {i:Nat} {d:PyData} (h:(Qdk ds)[i]? = some d):∃ e,ds[i]? = some e/\d=.tuple [.int i,e]:=by
  unfold Qdk at h
  rw [List.getElem?_map] at h
  by_cases z:i<ds.length
  · rw [List.getElem?_range z] at h
    refine ⟨ds[i],List.getElem?_eq_getElem z,?_⟩
    rw [<- Option.some.inj h]
    show PyData.tuple [.int i,ds.getD i .none]=_
    rw [List.getD_eq_getElem?_getD,List.getElem?_eq_getElem z]
    rfl
  · rw [List.getElem?_eq_none (by rw [List.length_range];omega)] at h
    cases h
theorem QcN {ds:List PyData}:(Qdk ds).length=ds.length:=by unfold Qdk;rw [List.length_map,List.length_range]
def dEnT (w:DE):DI:=fun δ Q EX=>w δ (fun d=>match d with
  | .tuple ds=>Q (Qdk ds)
  | _=>False) EX
variable {elts:List Expr}
theorem Qhs {x1} (hg:Gl X "enumerate") (hm:X.mg "enumerate" = none) (h:PE X e (tX m X.K E w)) (hs:notStar e=true:=by rfl):PI X (.Tuple elts x1 tpos) (.Call (.Name "enumerate" p) [e] [] pos) (tI m X.K E (dEnT w)):=by
  refine PI.imp (PI.len (Qjo hg hm (pa_c h Qam hs) (by rw [QaD hs];rfl))) fun σ H R _ ⟨F,δ,R',EX,rel,hw,k,o⟩=>?_
  refine ⟨F,δ,_,EX,rel,hw,fun d hd v H' rel' kp vk=>?_,o⟩
  cases d<;>first | exact (show False from hd).elim | skip
  obtain ⟨l,xs,rfl,sl,e,q⟩:=stT (H':=H') (QcQ vk)
  refine ⟨l,xs,rfl,e,fun ln=>k _ hd _ H' rel' kp ⟨by rw [QcN,<- q.length];exact ln _ _ (.inr e),fun H2 A' kk mm dm=>⟨fun i d hd'=>?_,xs,kk _ _ sl e,by rw [QcN,q.length]⟩⟩⟩
  obtain ⟨d',hd2,rfl⟩:=Qb5 hd'
  obtain ⟨x,hx,dx⟩:=(Qbk (S:=Sx m F σ δ) (fun b=>QdF) kk mm q).get i d' hd2
  refine ⟨⟨xs,x,kk _ _ sl e,hx⟩,fun y H3 ⟨r,x',nr,hx',e1,e2⟩=>?_⟩
  subst e1 e2
  have:=hx' xs (kk _ _ sl e)
  rw [hx] at this
  cases this
  exact ⟨Qab nr,Qe8 dm nr (.int _) dx⟩
def zipD (ds es:List PyData):List PyData:=List.zipWith (fun d e=>.tuple [d,e]) ds es
theorem zip_get {ds es:List PyData} {i:Nat} {d:PyData} (h:(zipD ds es)[i]? = some d):∃ a b,ds[i]? = some a/\es[i]? = some b/\d=.tuple [a,b]:=by
  unfold zipD at h
  rw [List.getElem?_zipWith] at h
  cases h1:ds[i]? with
  | none=>rw [h1] at h;cases h
  | some a=>
    cases h2:es[i]? with
    | none=>rw [h1,h2] at h;cases h
    | some b=>rw [h1,h2] at h;exact ⟨a,b,rfl,rfl,(Option.some.inj h).symm⟩
theorem QdD {ds es:List PyData}:(zipD ds es).length=min ds.length es.length:=by unfold zipD;rw [List.length_zipWith]
def dZiL (w w':DE):DI:=fun δ Q EX=>w δ (fun d=>w' δ (fun d'=>match d,d' with
  | .list ds,.list es=>Q (zipD ds es)
  | _,_=>False) EX) EX
def dZiT (w w':DE):DI:=fun δ Q EX=>w δ (fun d=>w' δ (fun d'=>match d,d' with
  | .tuple ds,.tuple es=>Q (zipD ds es)
  | _,_=>False) EX) EX
theorem pdi_zipL {x1} (hg:Gl X "zip") (hm:X.mg "zip" = none) (h:PE X e (tX m X.K E w)) (h':PE X e' (tX m X.K E w')) (hs:notStar e=true:=by rfl) (hs':notStar e'=true:=by rfl):PI X (.Tuple elts x1 tpos) (.Call (.Name "zip" p) [e,e'] [] pos) (tI m X.K E (dZiL w w')):=by
  refine PI.imp (PI.len (Qhm hg hm (pa_c h (pa_c h' Qam hs') hs) (by rw [QaD hs,QaD hs'];rfl) (hs2:=by rw [QaD hs'];rfl))) fun σ H R _ ⟨F,δ,R',EX,rel,hw,k,o⟩=>?_
  refine ⟨F,δ,_,EX,rel,hw,fun d hd v H1 rel1 kp1 vk=>⟨F,δ,_,EX,rel1,hd,fun d2 hd2 v2 H2 rel2 kp2 vk2=>?_,o⟩,o⟩
  cases d<;>cases d2<;>first | exact (show False from hd2).elim | skip
  obtain ⟨l,xs,rfl,sl,e,q⟩:=stL (H':=H2) (kp2.vd (QcQ vk))
  obtain ⟨l2,ys,rfl,sl2,e2,q2⟩:=stL (H':=H2) (QcQ vk2)
  refine ⟨l,l2,xs,ys,rfl,e,e2,fun ln=>k _ hd2 _ H2 rel2 (kp1.trans kp2) ⟨?_,fun H3 A' kk mm dm=>⟨fun i d hd'=>?_,xs,ys,kk _ _ sl e,kk _ _ sl2 e2,by rw [QdD,q.length,q2.length];omega⟩⟩⟩
  · rw [QdD,<- q.length]
    exact Nat.le_trans (Nat.min_le_left _ _) (ln _ _ (.inl e))
  obtain ⟨a,b,ha,hb,rfl⟩:=zip_get hd'
  obtain ⟨x,hx,dx⟩:=(Qbk (S:=Sx m F σ δ) (fun b=>QdF) kk mm q).get i a ha
  obtain ⟨y,hy,dy⟩:=(Qbk (S:=Sx m F σ δ) (fun b=>QdF) kk mm q2).get i b hb
  refine ⟨⟨xs,ys,x,y,kk _ _ sl e,kk _ _ sl2 e2,hx,hy⟩,fun z H4 ⟨r,x',y',nr,hx',hy',e1,e3⟩=>?_⟩
  subst e1 e3
  have h1:=hx' xs (kk _ _ sl e)
  have h2:=hy' ys (kk _ _ sl2 e2)
  rw [hx] at h1
  rw [hy] at h2
  cases h1
  cases h2
  exact ⟨Qab nr,Qe8 dm nr dx dy⟩
theorem QjE {x1} (hg:Gl X "zip") (hm:X.mg "zip" = none) (h:PE X e (tX m X.K E w)) (h':PE X e' (tX m X.K E w')) (hs:notStar e=true:=by rfl) (hs':notStar e'=true:=by rfl):PI X (.Tuple elts x1 tpos) (.Call (.Name "zip" p) [e,e'] [] pos) (tI m X.K E (dZiT w w')):=by
  refine PI.imp (PI.len (QkH hg hm (pa_c h (pa_c h' Qam hs') hs) (by rw [QaD hs,QaD hs'];rfl) (hs2:=by rw [QaD hs'];rfl))) fun σ H R _ ⟨F,δ,R',EX,rel,hw,k,o⟩=>?_
  refine ⟨F,δ,_,EX,rel,hw,fun d hd v H1 rel1 kp1 vk=>⟨F,δ,_,EX,rel1,hd,fun d2 hd2 v2 H2 rel2 kp2 vk2=>?_,o⟩,o⟩
  cases d<;>cases d2<;>first | exact (show False from hd2).elim | skip
  obtain ⟨l,xs,rfl,sl,e,q⟩:=stT (H':=H2) (kp2.vd (QcQ vk))
  obtain ⟨l2,ys,rfl,sl2,e2,q2⟩:=stT (H':=H2) (QcQ vk2)
  refine ⟨l,l2,xs,ys,rfl,e,e2,fun ln=>k _ hd2 _ H2 rel2 (kp1.trans kp2) ⟨?_,fun H3 A' kk mm dm=>⟨fun i d hd'=>?_,xs,ys,kk _ _ sl e,kk _ _ sl2 e2,by rw [QdD,q.length,q2.length];omega⟩⟩⟩
  · rw [QdD,<- q.length]
    exact Nat.le_trans (Nat.min_le_left _ _) (ln _ _ (.inr e))
  obtain ⟨a,b,ha,hb,rfl⟩:=zip_get hd'
  obtain ⟨x,hx,dx⟩:=(Qbk (S:=Sx m F σ δ) (fun b=>QdF) kk mm q).get i a ha
  obtain ⟨y,hy,dy⟩:=(Qbk (S:=Sx m F σ δ) (fun b=>QdF) kk mm q2).get i b hb
  refine ⟨⟨xs,ys,x,y,kk _ _ sl e,kk _ _ sl2 e2,hx,hy⟩,fun z H4 ⟨r,x',y',nr,hx',hy',e1,e3⟩=>?_⟩
  subst e1 e3
  have h1:=hx' xs (kk _ _ sl e)
  have h2:=hy' ys (kk _ _ sl2 e2)
  rw [hx] at h1
  rw [hy] at h2
  cases h1
  cases h2
  exact ⟨Qab nr,Qe8 dm nr dx dy⟩
end
def QmJ:Option Sl->Sl
  | some (.v d)=>.v d
  | some (.own ds)=>.pk ds
  | some (.pk ds)=>.pk ds
  | some .pot=>.pot
  | _=>.no
def capD (cap:List (Option Nat)) (δ:Sts):Sts:=cap.map fun o=>match o with
  | none=>.no
  | some j=>QmJ δ[j]?
theorem Qd3 {cap:List (Option Nat)} {σ:L2.St} {i:Nat} {o:Option V} (h:(capS cap σ)[i]? = some o):(cap[i]? = some none/\o=none)∨∃ j,cap[i]? = some (some j)/\o=(σ[j]?).getD none:=by
  unfold capS at h
  rw [List.getElem?_map] at h
  obtain ⟨c,hc,rfl⟩:=Option.map_eq_some_iff.mp h
  cases c with
  | none=>exact .inl ⟨hc,rfl⟩
  | some j=>exact .inr ⟨j,hc,rfl⟩
theorem Qd4 {cap:List (Option Nat)} {δ:Sts} {i:Nat} {x:Sl} (h:(capD cap δ)[i]? = some x):(cap[i]? = some none/\x=.no)∨∃ j,cap[i]? = some (some j)/\x=QmJ δ[j]? := by
  unfold capD at h
  rw [List.getElem?_map] at h
  obtain ⟨c,hc,rfl⟩:=Option.map_eq_some_iff.mp h
  cases c with
  | none=>exact .inl ⟨hc,rfl⟩
  | some j=>exact .inr ⟨j,hc,rfl⟩
theorem Qbe {cap:List (Option Nat)} {σ:L2.St} {δ:Sts} {i:Nat} {o:Option V} {x:Sl} (h1:(capS cap σ)[i]? = some o) (h2:(capD cap δ)[i]? = some x) (hx:x≠.no):∃ (j:Nat) (y:Sl),δ[j]? = some y/\x=QmJ (some y)/\o=(σ[j]?).getD none:=by
  rcases Qd4 h2 with ⟨_,e⟩ | ⟨j,hj,e⟩
  · exact absurd e hx
  · rcases Qd3 h1 with ⟨z,_⟩ | ⟨j',hj',e'⟩
    · rw [hj] at z;cases z
    · rw [hj] at hj'
      cases hj'
      cases e2:δ[j]? with
      | none=>rw [e2] at e;exact absurd e hx
      | some y=>exact ⟨j,y,e2,by rw [e,e2],e'⟩
theorem QbR {cap:List (Option Nat)} {σ:L2.St} {δ:Sts} {a:Addr} (h:PotA (capS cap σ) (capD cap δ) a):PotA σ δ a:=by
  obtain ⟨i,h1,h2⟩:=h
  obtain ⟨j,y,hy,e,eo⟩:=Qbe h1 h2 (fun z=>by cases z)
  cases y<;>first | (cases e;done) | skip
  refine ⟨j,?_,hy⟩
  cases e2:σ[j]? with
  | none=>rw [e2] at eo;cases eo
  | some o'=>rw [e2] at eo;exact congrArg some eo.symm
def inF (A1:Addr->Prop) (cap:List (Option Nat)) (σ:L2.St) (δ:Sts) (H:Hp):Fm:=⟨H,A1,PotA (capS cap σ) (capD cap δ)⟩
theorem QfV {A1:Addr->Prop} {cap:List (Option Nat)} {σ:L2.St} {δ:Sts} {H:Hp} (h:∀ a,PotA σ δ a->A1 a) {a:Addr}:Av (inF A1 cap σ δ H) (capS cap σ) (capD cap δ) a↔A1 a:=by
  constructor
  · rintro (z | ⟨i,h1,h2⟩)
    · exact z
    · rcases h2 with h2 | ⟨ds,h2⟩
      · exact h a (QbR ⟨i,h1,h2⟩)
      · obtain ⟨j,y,hy,e,eo⟩:=Qbe h1 h2 (fun z=>by cases z)
        cases y<;>cases e
  · exact .inl
theorem Qh8 {K:PySem.W.Frag} {F:Fm} {σ:L2.St} {δ:Sts} {H1 H3:Hp} {A1:Addr->Prop} {cap:List (Option Nat)} (rel:Rel K F σ H1 δ) (hA:∀ a,Av F σ δ a->A1 a) (hN:∀ a,A1 a->Av F σ δ a∨H1 a=none)
    (dm:∀ a,A1 a->∃ xs,H3 a=some (.lst xs)) (kp:Kp σ δ H1 H3):Rel K (inF A1 cap σ δ H3) (capS cap σ) H3 (capD cap δ) where
  len:=by unfold capS capD;rw [List.length_map,List.length_map]
  dom:=dm
  dom0:=dm
  pt0:=fun p hp=>⟨hA p (Qa5 (QbR hp)),kp.2 p (QbR hp)⟩
  kx:=fun b o _ e=>e
  sl:=fun i o x h1 h2=>by
    have iv:∀ {a:Addr},Av (inF A1 cap σ δ H3) (capS cap σ) (capD cap δ) a->A1 a:=fun {a}=>(QfV fun a z=>hA a (Qa5 z)).mp
    have mv:∀ {v:V} {d:PyData},DA (Av F σ δ) H1 v d->DA (Av (inF A1 cap σ δ H3) (capS cap σ) (capD cap δ)) H3 v d:=fun q=>q.mv (fun a o n e=>kp.1 a o (fun z=>n (Qa5 z)) e) fun a z=>hN a (iv z)
    have mvs:∀ {v:List V} {d:List PyData},DAs (Av F σ δ) H1 v d->DAs (Av (inF A1 cap σ δ H3) (capS cap σ) (capD cap δ)) H3 v d:=fun q=>q.mv (fun a o n e=>kp.1 a o (fun z=>n (Qa5 z)) e) fun a z=>hN a (iv z)
    cases x with
    | no=>trivial
    | own ds=>
      obtain ⟨j,y,hy,e,eo⟩:=Qbe h1 h2 (fun z=>by cases z)
      cases y<;>cases e
    | scr=>
      obtain ⟨j,y,hy,e,eo⟩:=Qbe h1 h2 (fun z=>by cases z)
      cases y<;>cases e
    | v d=>
      obtain ⟨j,y,hy,e,eo⟩:=Qbe h1 h2 (fun z=>by cases z)
      cases y<;>first | (cases e;done) | skip
      cases e
      obtain ⟨x,hx⟩:=rel.lt hy
      obtain ⟨v,rfl,q⟩:=rel.sl j _ _ hx hy
      rw [hx] at eo
      exact ⟨v,eo,mv q⟩
    | pk ds=>
      obtain ⟨j,y,hy,e,eo⟩:=Qbe h1 h2 (fun z=>by cases z)
      cases y<;>first | (cases e;done) | skip
      · cases e
        obtain ⟨x,hx⟩:=rel.lt hy
        obtain ⟨l,xs,rfl,e,q,f⟩:=rel.sl j _ _ hx hy
        rw [hx] at eo
        have np:=rel.own_pot hy hx
        exact ⟨l,xs,eo,kp.1 _ _ np e,mvs q,xs,kp.1 _ _ np e,fun z=>np (QbR z)⟩
      · cases e
        obtain ⟨x,hx⟩:=rel.lt hy
        obtain ⟨l,xs,rfl,e,q,ys,f,f2⟩:=rel.sl j _ _ hx hy
        rw [hx] at eo
        have np:¬ PotA σ δ l:=by
          rintro ⟨j,j1,j2⟩
          obtain ⟨p,m,e1,_,w⟩:=rel.sl j _ _ j1 j2
          cases e1
          rcases w with w | w
          · exact f2 w
          · rw [w] at f;cases f
        exact ⟨l,xs,eo,kp.1 _ _ np e,mvs q,xs,kp.1 _ _ np e,fun z=>np (QbR z)⟩
    | pot=>
      obtain ⟨j,y,hy,e,eo⟩:=Qbe h1 h2 (fun z=>by cases z)
      cases y<;>first | (cases e;done) | skip
      obtain ⟨x,hx⟩:=rel.lt hy
      obtain ⟨p,n,rfl,e,q⟩:=rel.sl j _ _ hx hy
      rw [hx] at eo
      obtain ⟨m,em⟩:=kp.2 p ⟨j,hx,hy⟩
      have eo':o=some (.ref p):=eo
      subst eo'
      exact ⟨p,m,rfl,em,.inl ⟨i,h1,h2⟩⟩
  inj:=fun i j a ds h1 h2 _=>by
    obtain ⟨j,y,hy,e,eo⟩:=Qbe h2 h1 (fun z=>by cases z)
    cases y<;>cases e
theorem Qi0:∀ {σ σ':L2.St},σ'.length=σ.length->(∀ (i:Nat) v,σ[i]? = some (some v)->σ'[i]? = some (some v))->Wk σ σ'
  | [],[],_,_=>trivial
  | [],_::_,h,_=>by cases h
  | _::_,[],h,_=>by cases h
  | none::a,x::b,h,g=>Qi0 (σ:=a) (σ':=b) (by simpa using h) fun i v e=>by simpa using g (i+1) v (by simpa using e)
  | some u::a,x::b,h,g=>by
    have h0:=g 0 u rfl
    simp only [List.getElem?_cons_zero,Option.some.injEq] at h0
    subst h0
    exact ⟨rfl,Qi0 (σ:=a) (σ':=b) (by simpa using h) fun i v e=>by simpa using g (i+1) v (by simpa using e)⟩
def Qcr (cap:List (Option Nat)) (ix:List Nat):Bool:=ix.all fun i=>match cap[i]? with
  | some none=>true
  | _=>false
theorem QkY {cap:List (Option Nat)} {ix:List Nat} (hf:Qcr cap ix=true) {σ σ4:L2.St} (hl:σ4.length=(capS cap σ).length) (hj:∀ j,j∉ix->σ4[j]? = (capS cap σ)[j]?):Wk (capS cap σ) σ4:=by
  refine Qi0 hl fun i v e=>?_
  by_cases z:i∈ix
  · have:=List.all_eq_true.mp hf i z
    rcases Qd3 e with ⟨_,e2⟩ | ⟨j,hj2,_⟩
    · cases e2
    · rw [hj2] at this;cases this
  · rw [hj i z];exact e
def XF:XP:=fun _=>False
@[irreducible] def Qdl (items:List PyData) (wg:DG) (wt:DT) (we:DE) (δ:Sts) (Q:PyData->Prop):Prop:=∃ Iv:Nat->List PyData->Prop,Iv 0 [] /\
  (∀ (i:Nat) acc d,items[i]? = some d->Iv i acc->wg d δ fun δ4=>wt δ4 (fun b=>if b=true then we δ4 (fun e=>Iv (i+1) (acc++[e])) XF else Iv (i+1) acc) XF)/\∀ acc,Iv items.length acc->Q (.list acc)
def dComp (cap:List (Option Nat)) (wi:DI) (wg:DG) (wt:DT) (we:DE):DE:=fun δ Q EX=>wi δ (fun items=>Qdl items wg wt we (capD cap δ) Q) EX
def dNoT:DT:=fun _ Q _=>Q true
section
variable {X:Cx} {E:XK}
theorem outF {F:Fm} {E:XK}:Out F E XF:=fun _ z=>z.elim
theorem PTs.imp {es:List Expr} {t t':TT} (h:PTs X es t) (i:∀ σ H Q,t' σ H Q->t σ H Q):PTs X es t':=fun pins s σ H Q I q=>h pins s σ H Q I (i σ H Q q)
theorem Qjv:PTs X [] (tT X.K E dNoT):=PTs.imp Qe6 fun σ H Q ⟨F,δ,R,EX,rel,hw,k,o⟩=>k _ hw H rel (Kp.refl rel)
theorem Qju {c:Expr} {t:DT} (h:PT X c (tT X.K E t)):PTs X [c] (tT X.K E t):=Qlt h
theorem Qfg {K:PySem.W.Frag} {A1:Addr->Prop} {cap:List (Option Nat)} {σ σ4:L2.St} {δ δ4:Sts} {H3 H4:Hp} (r:Rel K (inF A1 cap σ δ H3) σ4 H4 δ4) (hk:∀ b o,¬ PotA σ δ b->H4 b=some o->H3 b=none->False) {b:Addr} (h:PotA σ4 δ4 b):PotA σ δ b:=by
  obtain ⟨i,h1,h2⟩:=h
  obtain ⟨p,n,e,hp,w⟩:=r.sl i _ _ h1 h2
  cases e
  rcases w with w | w
  · exact QbR w
  · by_cases z:PotA σ δ b
    · exact z
    · exact (hk b _ z hp w).elim
theorem Qk5 {K:PySem.W.Frag} {F:Fm} {σ:L2.St} {δ:Sts} {H1 H3:Hp} {cap:List (Option Nat)} {ix:List Nat} {wg:DG} {wt:DT} {A1:Addr->Prop} {x:V} {d:PyData} {inner:L2.St->Hp->(Hp->Prop)->Prop} {kk:Hp->Prop} {T:Sts->Prop} {N:Prop}
    (hf:Qcr cap ix=true) (rel:Rel K F σ H1 δ) (hA:∀ a,Av F σ δ a->A1 a) (hN:∀ a,A1 a->Av F σ δ a∨H1 a=none) (dm:∀ a,A1 a->∃ xs,H3 a=some (.lst xs)) (kp:Kp σ δ H1 H3) (dx:DA A1 H3 x d)
    (h:wg d (capD cap δ) fun δ4=>wt δ4 (fun b=>if b=true then T δ4 else N) XF)
    (hT:∀ σ4 δ4 H5,T δ4->Rel K (inF A1 cap σ δ H3) σ4 H5 δ4->Kp σ δ H3 H5->(∀ b,PotA σ4 δ4 b->PotA σ δ b)->inner σ4 H5 kk) (hF:N->∀ H5,Kp σ δ H3 H5->kk H5) :
    bOf (capS cap σ) (tG ix K wg) (tT K E0 wt) inner x H3 kk:=by
  have ri:=Qh8 (cap:=cap) rel hA hN dm kp
  have iv:∀ {a:Addr},Av (inF A1 cap σ δ H3) (capS cap σ) (capD cap δ) a->A1 a:=fun {a}=>(QfV fun a z=>hA a (Qa5 z)).mp
  refine ⟨inF A1 cap σ δ H3,capD cap δ,d,_,ri,dx.mv (fun _ _ _ e=>e) fun a z=>.inl (iv z),h,fun δ4 h4 σ4 r4 st4 l4 j4=>⟨QkY hf l4 j4,inF A1 cap σ δ H3,δ4,_,XF,r4,h4,fun b hb H5 r5 kp5=>?_,outF⟩⟩
  have pots:∀ {b:Addr},PotA σ4 δ4 b->PotA σ δ b:=fun z=>Qfg r4 (fun b o _ e1 e2=>by rw [e2] at e1;cases e1) z
  have K5:Kp σ δ H3 H5:=by
    refine ⟨fun b o n e=>kp5.1 b o (fun z=>n (pots z)) e,fun b hb=>?_⟩
    by_cases z:PotA σ4 δ4 b
    · exact kp5.2 b z
    · obtain ⟨n,e⟩:=kp.2 b hb
      exact ⟨n,kp5.1 _ _ z e⟩
  exact Qb3 hb (fun z=>hT σ4 δ4 H5 z r5 K5 fun b=>pots) fun z=>hF z H5 K5
structure Lp (σ:L2.St) (δ:Sts) (A1:Addr->Prop) (p:Addr) (H1 H2:Hp) (acc:List PyData):Prop where
  kp:Kp σ δ H1 H2
  at_:∃ ys,H2 p=some (.lst ys)/\DAs A1 H2 ys acc
theorem Lp.step {σ:L2.St} {δ:Sts} {A1:Addr->Prop} {p:Addr} {H1 H2 H3:Hp} {acc:List PyData} (hpA:∀ a,PotA σ δ a->A1 a) (hpn:¬ PotA σ δ p) (h:Lp σ δ A1 p H1 H2 acc) (k:Kp σ δ H2 H3):Lp σ δ A1 p H1 H3 acc:=by
  obtain ⟨ys,e,q⟩:=h.at_
  exact ⟨h.kp.trans k,ys,k.1 _ _ hpn e,q.mv (fun a o n e=>k.1 a o (fun z=>n (hpA a z)) e) fun a z=>.inl z⟩
theorem elt_in {K:PySem.W.Frag} {σ σ4:L2.St} {δ δ4:Sts} {H1 H3 H5:Hp} {cap:List (Option Nat)} {we:DE} {A1:Addr->Prop} {p:Addr} {acc:List PyData} {kk:Hp->Prop} {G:PyData->Prop}
    (hpA:A1 p) (hP:∀ a,PotA σ δ a->A1 a) (hp1:H1 p=none) (hpn:¬ PotA σ δ p) (lp:Lp σ δ A1 p H1 H5 acc) (hl:acc.length<sizeLine) (r5:Rel K (inF A1 cap σ δ H3) σ4 H5 δ4) (pots:∀ b,PotA σ4 δ4 b->PotA σ δ b)
    (h:we δ4 G XF) (hk:∀ e,G e->∀ H',Lp σ δ A1 p H1 H' (acc++[e])->kk H'):bElt p (tX .D K E0 we) σ4 H5 kk:=by
  refine ⟨inF A1 cap σ δ H3,δ4,G,XF,r5,h,fun e he v H6 r6 kp6 dv=>?_,outF⟩
  have k56:Kp σ δ H5 H6:=by
    refine ⟨fun b o n e=>kp6.1 b o (fun z=>n (pots b z)) e,fun b hb=>?_⟩
    by_cases z:PotA σ4 δ4 b
    · exact kp6.2 b z
    · obtain ⟨n,e⟩:=lp.kp.2 b hb
      exact ⟨n,kp6.1 _ _ z e⟩
  obtain ⟨k6,ys,e6,q6⟩:=lp.step hP hpn k56
  have up:∀ {b:Addr} {o:HO},¬ A1 b->H6 b=some o->upd H6 p (.lst (ys++[v])) b=some o:=fun {b o} n e=>by rw [Qai (fun z=>n (by rw [z];exact hpA))];exact e
  refine ⟨ys,e6,by rw [q6.length];exact hl,hk e he _ ⟨⟨fun b o n e=>?_,fun b hb=>?_⟩,ys++[v],Qad,DAs.app (q6.mv (fun _ _=>up) fun a z=>.inl z) (.cons (DA.mv dv (fun a o n e=>up (fun z=>n (.inl z)) e) fun a z=>.inl (.inl z)) .nil)⟩⟩
  · rw [Qai (fun z=>by rw [z,hp1] at e;cases e)]
    exact k6.1 b o n e
  · rw [Qai (fun z=>hpn (by rw [<- z];exact hb))]
    exact k6.2 b hb
theorem QlT {M:List Str} {cap:List (Option Nat)} {elt tg iter:Expr} {ifs:List Expr} {scope:Scope} {pos:Pos} {ix:List Nat} {wi:DI} {wg:DG} {wt:DT} {we:DE} (hc:X.calm=true) (ok:QeH X.N X.env.scope M scope cap=true) (hf:Qcr cap ix=true)
    (hi:PI X tg iter (tI .P X.K E wi)) (hb:∀ cl ex s3 H3 C,PG (blk X M scope cl ex s3 H3 C) tg (tG ix X.K wg)/\PTs (blk X M scope cl ex s3 H3 C) ifs (tT X.K E0 wt)/\PE (blk X M scope cl ex s3 H3 C) elt (tX .D X.K E0 we))
    (hs:∀ x,foldedSetIterable iter X.env x=pure x:=by intro _;rfl):PE X (.ListComp elt [⟨tg,iter,ifs,0⟩] scope pos) (tX .F X.K E (dComp cap wi wg wt we)):=by
  refine PE.imp (QdS hc ok hi hb hs) fun σ H Q ⟨F,δ,R,EX,rel,hw,k,o⟩=>?_
  refine ⟨F,δ,_,EX,rel,hw,fun items hC J H1 rel1 kp1 ⟨ln,it⟩ p hp=>?_,o⟩
  unfold Qdl at hC
  obtain ⟨Iv,i0,step,fin⟩:=hC
  have hpn:¬ PotA σ δ p:=fun z=>by obtain ⟨xs,e⟩:=rel1.isl (Qa5 (F:=F) z);rw [hp] at e;cases e
  let A1:Addr->Prop:=fun a=>Av F σ δ a∨a=p
  have hP:∀ a,PotA σ δ a->A1 a:=fun a z=>.inl (Qa5 z)
  have hN:∀ a,A1 a->Av F σ δ a∨H1 a=none:=fun a z=>z.elim .inl fun z=>.inr (by rw [z];exact hp)
  have dmK:∀ {H2:Hp},Kp σ δ H1 H2->(∃ ys,H2 p=some (.lst ys))->∀ a,A1 a->∃ xs,H2 a=some (.lst xs):=fun {H2} k2 e2 a z=>by
    rcases z with z | z
    · exact (rel1.kp k2).isl z
    · rw [z];exact e2
  refine Qc4 items.length (fun i H2=>i<=items.length/\∃ acc,Iv i acc/\acc.length<=i/\Lp σ δ A1 p H1 H2 acc) ⟨Nat.zero_le _,[],i0,Nat.le_refl _,Kp.same rel1 (Qab hp),[],Qad,.nil⟩ (fun i H2 hi ⟨_,acc,iv,hl,lp⟩=>?_) fun H2 ⟨_,acc,iv,hl,lp⟩=>?_
  · obtain ⟨k2,ys,e2,q2⟩:=lp
    obtain ⟨go,_⟩:=it H2 A1 (fun b o n e=>k2.1 b o n e) hN (dmK k2 ⟨ys,e2⟩)
    have hd:items[i]? = some items[i]:=List.getElem?_eq_getElem hi
    obtain ⟨g1,g2⟩:=go i _ hd
    refine ⟨g1,fun x H3 y kk hk=>?_⟩
    obtain ⟨s3,dx⟩:=g2 x H3 y
    have k23:=Kp.same (rel1.kp k2) s3
    have lp3:Lp σ δ A1 p H1 H3 acc:=Lp.step hP hpn ⟨k2,ys,e2,q2⟩ k23
    refine Qk5 hf rel1 (fun a z=>.inl z) hN (dmK lp3.kp ⟨ys,s3 _ _ e2⟩) lp3.kp dx (step i acc _ hd iv) (fun σ4 δ4 H5 h5 r5 k5 pots=>?_) fun h5 H5 k5=>hk _ ⟨hi,acc,h5,by omega,lp3.step hP hpn k5⟩
    exact elt_in (.inr rfl) hP hp hpn (lp3.step hP hpn k5) (by omega) r5 pots h5 fun e he H' lp'=>hk _ ⟨hi,acc++[e],he,by rw [List.length_append];show _+1<=_;omega,lp'⟩
  · obtain ⟨k2,ys,e2,q2⟩:=lp
    obtain ⟨_,st⟩:=it H2 A1 (fun b o n e=>k2.1 b o n e) hN (dmK k2 ⟨ys,e2⟩)
    refine ⟨st,k _ (fin acc iv) (.ref p) H2 (rel1.kp k2) (kp1.trans k2) ⟨.lst (fun z=>?_) e2 (q2.mv (fun _ _ _ e=>e) fun a z=>.inl (.inl z)),fun l e1 _=>?_⟩⟩
    · obtain ⟨xs,e⟩:=rel1.isl z
      rw [hp] at e;cases e
    · cases e1
      exact QbO kp1 hp
theorem cm_fm {items:List PyData} {wg:DG} {wt:DT} {we:DE} {δ:Sts} {Q:PyData->Prop} (G:PyData->Option PyData)
    (h:∀ d∈items,∀ (k1:Prop) (k2:PyData->Prop),(G d=none->k1)->(∀ e,G d=some e->k2 e)->wg d δ fun δ4=>wt δ4 (fun b=>if b=true then we δ4 k2 XF else k1) XF) (q:Q (.list (items.filterMap G))) :
    Qdl items wg wt we δ Q:=by
  unfold Qdl
  refine ⟨fun i acc=>acc=(items.take i).filterMap G,by simp,fun i acc d hd e=>?_,fun acc e=>by rw [e,List.take_length];exact q⟩
  have hs:(items.take (i+1)).filterMap G=(items.take i).filterMap G++(G d).toList:=by
    rw [List.take_add_one,hd,List.filterMap_append]
    cases e2:G d<;>simp [e2]
  have e:acc=(items.take i).filterMap G:=e
  refine h d (List.mem_of_getElem? hd) _ _ (fun e2=>?_) fun e' e2=>?_
  · show acc=(items.take (i+1)).filterMap G
    rw [hs,e2,e];simp
  · show acc++[e']=(items.take (i+1)).filterMap G
    rw [hs,e2,e];rfl
theorem QeE {items:List PyData} {wg:DG} {we:DE} {δ:Sts} {Q:PyData->Prop} (G:PyData->PyData)
    (h:∀ d∈items,∀ (k2:PyData->Prop),k2 (G d)->wg d δ fun δ4=>we δ4 k2 XF) (q:Q (.list (items.map G))) :
    Qdl items wg dNoT we δ Q:=by
  unfold Qdl
  refine ⟨fun i acc=>acc=(items.take i).map G,by simp,fun i acc d hd e=>?_,fun acc e=>by rw [e,List.take_length];exact q⟩
  have hs:(items.take (i+1)).map G=(items.take i).map G++[G d]:=by
    rw [List.take_add_one,hd,List.map_append]
    simp
  have e:acc=(items.take i).map G:=e
  have hh:=h d (List.mem_of_getElem? hd) (fun e=>acc++[e]=(items.take (i+1)).map G) (by show acc++[G d]=_;rw [hs,e])
  simp only [dNoT,if_true]
  exact hh
end
mutual
theorem Qit {A B:Addr->Prop} {H:Hp}:∀ (d d':PyData) (x:V),DA A H x d->DA B H x d'->d=d'
  | .none,d',_,.non,h=>by cases h;rfl
  | .bool _,d',_,.bl _,h=>by cases h;rfl
  | .int _,d',_,.int _,h=>by cases h;rfl
  | .str _,d',_,.str _ _,h=>by cases h;rfl
  | .tuple ds,d',_,.tup (xs:=xs) n e q,h=>by
    cases h with
    | @tup a ys es n' e' q'=>
      rw [e] at e'
      cases e'
      rw [Qd1 ds es xs q q']
    | @lst a ys es n' e' q'=>rw [e] at e';cases e'
    | @dct a n' e'=>rw [e] at e';cases e'
  | .list ds,d',_,.lst (xs:=xs) n e q,h=>by
    cases h with
    | @tup a ys es n' e' q'=>rw [e] at e';cases e'
    | @lst a ys es n' e' q'=>
      rw [e] at e'
      cases e'
      rw [Qd1 ds es xs q q']
    | @dct a n' e'=>rw [e] at e';cases e'
  | .dict _,d',_,.dct n e,h=>by
    cases h with
    | @tup a ys es n' e' q'=>rw [e] at e';cases e'
    | @lst a ys es n' e' q'=>rw [e] at e';cases e'
    | @dct a n' e'=>rfl
theorem Qd1 {A B:Addr->Prop} {H:Hp}:∀ (ds es:List PyData) (xs:List V),DAs A H xs ds->DAs B H xs es->ds=es
  | [],es,_,.nil,h=>by cases h;rfl
  | d::ds,es,_,.cons q qs,h=>by
    cases h with
    | @cons x xs e es q' qs'=>rw [Qit d e _ q q',Qd1 ds es _ qs qs']
end
mutual
theorem da_off {A:Addr->Prop} {H:Hp} {l:Addr} {rs:List PyData} (root:DA A H (.ref l) (.list rs)):∀ (d:PyData) (x:V),sizeOf d<sizeOf (PyData.list rs)->DA A H x d->DA (fun a=>A a∨a=l) H x d
  | .none,_,_,.non=>.non
  | .bool _,_,_,.bl _=>.bl _
  | .int _,_,_,.int _=>.int _
  | .str _,_,_,.str _ c=>.str _ c
  | .tuple ds,_,hs,.tup (a:=a) (xs:=xs) n e q=>.tup (fun z=>z.elim n fun z=>by subst z;cases root with | @lst _ ys _ n' e' q'=>(rw [e] at e';cases e')) e (Qd2 root ds xs (by simp at hs ⊢;omega) q)
  | .list ds,_,hs,.lst (a:=a) (xs:=xs) n e q=>.lst (fun z=>z.elim n fun z=>by
      subst z
      have:=Qit _ _ _ root (.lst n e q)
      rw [this] at hs
      omega) e (Qd2 root ds xs (by simp at hs ⊢;omega) q)
  | .dict _,_,hs,.dct (a:=a) n e=>.dct (fun z=>z.elim n fun z=>by subst z;cases root with | @lst _ ys _ n' e' q'=>(rw [e] at e';cases e')) e
theorem Qd2 {A:Addr->Prop} {H:Hp} {l:Addr} {rs:List PyData} (root:DA A H (.ref l) (.list rs)):∀ (ds:List PyData) (xs:List V),sizeOf ds<sizeOf (PyData.list rs)->DAs A H xs ds->DAs (fun a=>A a∨a=l) H xs ds
  | [],_,_,.nil=>.nil
  | d::ds,_,hs,.cons q qs=>.cons (da_off root d _ (by simp at hs ⊢;omega) q) (Qd2 root ds _ (by simp at hs ⊢;omega) qs)
end
theorem DA.items {A:Addr->Prop} {H:Hp} {l:Addr} {ds:List PyData} (root:DA A H (.ref l) (.list ds)):∃ xs,H l=some (.lst xs)/\DAs (fun a=>A a∨a=l) H xs ds:=by
  have root':=root
  cases root with
  | @lst _ xs _ n e q=>exact ⟨xs,e,Qd2 root' ds xs (by simp) q⟩
structure DEnds where
  nx:Sts->Prop
  rt:PyData->Prop
  rtF:PyData->Prop
  bk:Sts->Prop
  ct:Sts->Prop
  ex:XP
abbrev DS:=DEnds->Sts->Prop
structure Nx (K:PySem.W.Frag) (F:Fm) (σ:L2.St) (H:Hp) (δ:Sts) (R:Sts->Prop) (T:L2.St->Hp->Prop):Prop where
  go:∀ δ',R δ'->∀ σ' H',Rel K F σ' H' δ'->Stp F σ H δ σ' H' δ'->T σ' H'
structure Ends1 (K:PySem.W.Frag) (E:XK) (F:Fm) (σ:L2.St) (H:Hp) (δ:Sts) (DD:DEnds) (D:Ends):Prop where
  nx:Nx K F σ H δ DD.nx D.nx
  rt:∀ d,DD.rt d->∀ v H',Ke F H'->DA F.A0 H' v d->D.rt v H'
  rtF:∀ d,DD.rtF d->∀ v H',Ke F H'->DA F.A0 H' v d->FrV F.H0 H' v->D.rt v H'
  bk:Nx K F σ H δ DD.bk D.bk
  ct:Nx K F σ H δ DD.ct D.ct
  ex:Out F E DD.ex
def tS (K:PySem.W.Frag) (E:XK) (w:DS):TS:=fun D σ H=>∃ (F:Fm) (δ:Sts) (DD:DEnds),Rel K F σ H δ/\w DD δ/\Ends1 K E F σ H δ DD D
theorem Nx.step {K:PySem.W.Frag} {F:Fm} {σ σ1:L2.St} {H H1:Hp} {δ δ1:Sts} {R:Sts->Prop} {T:L2.St->Hp->Prop} (h:Nx K F σ H δ R T) (s:Stp F σ H δ σ1 H1 δ1):Nx K F σ1 H1 δ1 R T:=⟨fun δ' hR σ' H' r st=>h.go δ' hR σ' H' r (s.trans st)⟩
theorem Ends1.step {K:PySem.W.Frag} {E:XK} {F:Fm} {σ σ1:L2.St} {H H1:Hp} {δ δ1:Sts} {DD:DEnds} {D:Ends} (h:Ends1 K E F σ H δ DD D) (s:Stp F σ H δ σ1 H1 δ1):Ends1 K E F σ1 H1 δ1 DD D:=⟨h.nx.step s,h.rt,h.rtF,h.bk.step s,h.ct.step s,h.ex⟩
section
variable {X:Cx} {E:XK}
theorem PS.imp {e:Stmt} {t t':TS} (h:PS X e t) (i:∀ D σ H,t' D σ H->t D σ H):PS X e t':=fun pins s σ H D I q=>h pins s σ H D I (i D σ H q)
theorem PSs.imp {e:List Stmt} {t t':TS} (h:PSs X e t) (i:∀ D σ H,t' D σ H->t D σ H):PSs X e t':=fun pins s σ H D I q=>h pins s σ H D I (i D σ H q)
def dSeq (a b:DS):DS:=fun D δ=>a { D with nx:=b D } δ
def dSkip:DS:=fun D δ=>D.nx δ
theorem Qjw:PSs X [] (tS X.K E dSkip):=PSs.imp Qbv fun D σ H ⟨F,δ,DD,rel,hw,en⟩=>en.nx.go δ hw σ H rel Stp.refl
theorem QlJ {st:Stmt} {w:DS} (h:PS X st (tS X.K E w)):PSs X [st] (tS X.K E w):=QaM h
theorem QjB {st:Stmt} {rest:List Stmt} {w w':DS} (h:PS X st (tS X.K E w)) (h':PSs X rest (tS X.K E w')):PSs X (st::rest) (tS X.K E (dSeq w w')):=by
  refine PSs.imp (Qaz h h') fun D σ H ⟨F,δ,DD,rel,hw,en⟩=>?_
  exact ⟨F,δ,_,rel,hw,⟨fun δ' h' σ' H' r st=>⟨F,δ',DD,r,h',en.step st⟩⟩,en.rt,en.rtF,en.bk,en.ct,en.ex⟩
def dSet (i:Nat) (we:DE):DS:=fun D δ=>we δ (fun d=>D.nx (δ.set i (.v d))) D.ex
def dSetF (i:Nat) (we:DE):DS:=fun D δ=>we δ (fun d=>match d with
  | .list ds=>D.nx (δ.set i (.own ds))
  | _=>False) D.ex
def dSetP (i:Nat) (we:DE):DS:=fun D δ=>we δ (fun d=>match d with
  | .list [.int _]=>D.nx (δ.set i .pot)
  | _=>False) D.ex
variable {i:Nat} {e:Expr} {st:Stmt} {we wi:DE}
theorem Qhq (h:PS X st (tAsg (tX .D X.K E we) (QcG i))):PS X st (tS X.K E (dSet i we)):=by
  refine PS.imp h fun D σ H ⟨F,δ,DD,rel,hw,en⟩=>?_
  refine ⟨F,δ,_,DD.ex,rel,hw,fun d hd v H' rel' kp vk=>?_,en.ex⟩
  exact en.nx.go _ hd _ H' (rel'.setv vk) ((Stp.kp kp).trans Stp.setv)
theorem Qk0 {F:Fm} {σ:L2.St} {δ:Sts} {i:Nat} {l:Addr} {x:Sl} {a:Addr} (h:Av F (σ.set i (some (.ref l))) (δ.set i x) a):Av F σ δ a∨a=l:=by
  rcases h with h | ⟨j,h1,h2⟩
  · exact .inl (.inl h)
  · by_cases z:j=i
    · subst z
      cases set_eq h1
      exact .inr rfl
    · rw [Qa4 z] at h1 h2
      exact .inl (.inr ⟨j,h1,h2⟩)
theorem Rel.seto {K:PySem.W.Frag} {F:Fm} {σ:L2.St} {H H':Hp} {δ:Sts} {l:Addr} {x:Sl} (r:Rel K F σ H δ) (r':Rel K F σ H' δ) (kp:Kp σ δ H H') (n:H l=none) (hx:∀ A:Addr->Prop,(∀ a,A a->Av F σ δ a∨H a=none)->(∀ a,A a->Av F σ δ a∨a=l)->SlOk K F H' A (some (.ref l)) x) :
    Rel K F (σ.set i (some (.ref l))) H' (δ.set i x)/\Stp F σ H δ (σ.set i (some (.ref l))) H' (δ.set i x):=by
  have nA:∀ a,Av F (σ.set i (some (.ref l))) (δ.set i x) a->Av F σ δ a∨H a=none:=fun a z=>(Qk0 z).elim .inl fun z=>.inr (by rw [z];exact n)
  have kk:∀ a o,¬ Av F σ δ a->H a=some o->H' a=some o:=fun a o m e=>kp.1 a o (fun z=>m (Qa5 z)) e
  refine ⟨?_,⟨kk,nA⟩⟩
  exact {
    len:=by rw [List.length_set,List.length_set];exact r.len
    dom:=r'.dom
    dom0:=r'.dom0
    pt0:=r'.pt0
    kx:=r'.kx
    sl:=fun j o y h1 h2=>by
      by_cases z:j=i
      · subst z
        cases set_eq h1
        cases set_eq h2
        exact hx _ nA fun a z=>Qk0 z
      · rw [Qa4 z] at h1 h2
        have h:=r.sl j o y h1 h2
        have h':=r'.sl j o y h1 h2
        cases y with
        | no=>trivial
        | v d=>obtain ⟨v',e,q'⟩:=h;exact ⟨v',e,q'.mv kk nA⟩
        | own ds=>obtain ⟨l',xs,rfl,e2,q',f⟩:=h;exact ⟨l',xs,rfl,kp.1 _ _ (r.own_pot h2 h1) e2,q'.mv kk nA,f⟩
        | pk ds=>
          obtain ⟨l',xs,rfl,e2,q',ys,f,f2⟩:=h
          refine ⟨l',xs,rfl,kp.1 _ _ ?_ e2,q'.mv kk nA,ys,f,f2⟩
          rintro ⟨j,j1,j2⟩
          obtain ⟨p,m,e1,_,w⟩:=r.sl j _ _ j1 j2
          cases e1
          rcases w with w | w
          · exact f2 w
          · rw [w] at f;cases f
        | pot=>exact h'
        | scr=>exact h'
    inj:=fun j k a ds h1 h2 ⟨h3,h4⟩=>by
      have ne:∀ (k:Nat),k≠i->σ[k]? = some (some (.ref l))->(δ[k]? = some .pot∨∃ ds,δ[k]? = some (.own ds))->False:=fun k _ h3 h4=>by
        obtain ⟨xs,e⟩:=r.isl (a:=l) (.inr ⟨k,h3,h4⟩)
        rw [n] at e;cases e
      by_cases z:j=i
      · subst z
        cases set_eq h2
        by_cases z2:k=j
        · exact z2.symm
        · rw [Qa4 z2] at h3 h4
          exact (ne k z2 h3 h4).elim
      · rw [Qa4 z] at h1 h2
        by_cases z2:k=i
        · subst z2
          cases set_eq h3
          exact (ne j z h2 (.inr ⟨ds,h1⟩)).elim
        · rw [Qa4 z2] at h3 h4
          exact r.inj j k a ds h1 h2 ⟨h3,h4⟩ }
theorem Qif {K:PySem.W.Frag} {F:Fm} {σ:L2.St} {H:Hp} {δ:Sts} (r:Rel K F σ H δ) {l:Addr} (n:H l=none):F.H0 l=none:=by
  cases e:F.H0 l with
  | none=>rfl
  | some o=>
    by_cases z:F.pt l
    · obtain ⟨_,m,e'⟩:=r.pt0 l z
      rw [n] at e';cases e'
    · rw [r.kx l o z e] at n;cases n
theorem Qjy (h:PS X st (tAsg (tX .F X.K E we) (QcG i))):PS X st (tS X.K E (dSetF i we)):=by
  refine PS.imp h fun D σ H ⟨F,δ,DD,rel,hw,en⟩=>?_
  refine ⟨F,δ,_,DD.ex,rel,hw,fun d hd v H' rel' kp ⟨vk,fr⟩=>?_,en.ex⟩
  obtain ⟨ds,rfl⟩:∃ ds,d=.list ds:=by cases d<;>first | exact ⟨_,rfl⟩ | exact (show False from hd).elim
  obtain ⟨l,rfl⟩:∃ l,v=.ref l:=by cases vk;exact ⟨_,rfl⟩
  obtain ⟨xs,e,q⟩:=DA.items vk
  have n:=fr l rfl ⟨xs,e⟩
  obtain ⟨r2,st⟩:=rel.seto (i:=i) (x:=.own ds) rel' kp n fun A hA hB=>⟨l,xs,rfl,e,q.mv (fun _ _ _ e=>e) fun a z=>.inl (hB a z),Qif rel n⟩
  exact en.nx.go _ hd _ H' r2 st
theorem Qjx (h:PS X st (tAsg (tX .F X.K E we) (QcG i))):PS X st (tS X.K E (dSetP i we)):=by
  refine PS.imp h fun D σ H ⟨F,δ,DD,rel,hw,en⟩=>?_
  refine ⟨F,δ,_,DD.ex,rel,hw,fun d hd v H' rel' kp ⟨vk,fr⟩=>?_,en.ex⟩
  split at hd
  · cases vk with
    | @lst l xs ds na e q=>
      have n:=fr l rfl ⟨xs,e⟩
      cases q with
      | cons q1 q2=>
        cases q1
        cases q2
        obtain ⟨r2,st⟩:=rel.seto (i:=i) (x:=.pot) rel' kp n fun A hA hB=>⟨l,_,rfl,e,.inr (Qif rel n)⟩
        exact en.nx.go _ hd _ H' r2 st
  · exact hd.elim
def dAsg (we:DE) (wg:DG):DS:=fun D δ=>we δ (fun d=>wg d δ D.nx) D.ex
theorem QlN {ix:List Nat} {wg:DG} (h:PS X st (tAsg (tX .D X.K E we) (tG ix X.K wg))):PS X st (tS X.K E (dAsg we wg)):=by
  refine PS.imp h fun D σ H ⟨F,δ,DD,rel,hw,en⟩=>?_
  refine ⟨F,δ,_,DD.ex,rel,hw,fun d hd v H' rel' kp vk=>?_,en.ex⟩
  exact ⟨F,δ,d,_,rel',vk,hd,fun δ' h' σ' r' st' _ _=>en.nx.go _ h' _ H' r' ((Stp.kp kp).trans st')⟩
def dRet (we:DE):DS:=fun D δ=>we δ D.rt D.ex
def dRetF (we:DE):DS:=fun D δ=>we δ D.rtF D.ex
theorem da_a0 {F:Fm} {σ:L2.St} {δ:Sts} {H:Hp} {v:V} {d:PyData} (h:DA (Av F σ δ) H v d):DA F.A0 H v d:=h.mv (fun _ _ _ e=>e) fun a z=>.inl (.inl z)
theorem QlG {e:Expr} {pos:Pos} (h:PE X e (tX .D X.K E we)):PS X (.Return (some e) pos) (tS X.K E (dRet we)):=by
  refine PS.imp (Qba h) fun D σ H ⟨F,δ,DD,rel,hw,en⟩=>?_
  exact ⟨F,δ,_,DD.ex,rel,hw,fun d hd v H' rel' kp vk=>en.rt d hd v H' rel'.ke (da_a0 vk),en.ex⟩
theorem Qjz {e:Expr} {pos:Pos} (h:PE X e (tX .F X.K E we)):PS X (.Return (some e) pos) (tS X.K E (dRetF we)):=by
  refine PS.imp (Qba h) fun D σ H ⟨F,δ,DD,rel,hw,en⟩=>?_
  exact ⟨F,δ,_,DD.ex,rel,hw,fun d hd v H' rel' kp vk=>en.rtF d hd v H' rel'.ke (da_a0 vk.1) fun l e1 e2=>Qif rel (vk.2 l e1 e2),en.ex⟩
def dRetO (i:Nat):DS:=fun D δ=>match δ[i]? with
  | some (.own ds)=>D.rtF (.list ds)
  | some (.v d)=>D.rt d
  | _=>False
def dIf (t:DT) (a b:DS):DS:=fun D δ=>t δ (fun c=>if c=true then a D δ else b D δ) D.ex
theorem pds_if {c:Expr} {a b:List Stmt} {pos:Pos} {t:DT} {w w':DS} (hc:PT X c (tT X.K E t)) (ha:PSs X a (tS X.K E w)) (hb:PSs X b (tS X.K E w')):PS X (.If c a b pos) (tS X.K E (dIf t w w')):=by
  refine PS.imp (Qej hc ha hb) fun D σ H ⟨F,δ,DD,rel,hw,en⟩=>?_
  exact ⟨F,δ,_,DD.ex,rel,hw,fun b hb H' rel' kp=>Qb3 hb (fun z=>⟨F,δ,DD,rel',z,en.step (Stp.kp kp)⟩) fun z=>⟨F,δ,DD,rel',z,en.step (Stp.kp kp)⟩,en.ex⟩
theorem Qhr {sts:List Stmt}:PSs X sts (tS X.K E fun _ _=>False):=fun pins s σ H D I ⟨F,δ,DD,rel,hw,en⟩=>hw.elim
theorem PIp.len {op:Operator} {t:TIp} (h:PIp X op t):PIp X op (fun x y H Q=>QbT H->t x y H Q):=fun pins s σ H x y v u Q I rx ry q=>h pins s σ H x y v u Q I rx ry (q (Inv.lens I))
theorem Rel.mut {K:PySem.W.Frag} {F:Fm} {σ:L2.St} {H:Hp} {δ:Sts} (r:Rel K F σ H δ) {l:Addr} {ds ds':List PyData} {ys:List V} (h:δ[i]? = some (.own ds)) (hx:σ[i]? = some (some (.ref l))) (q:DAs (Av F σ δ) H ys ds') :
    Rel K F σ (upd H l (.lst ys)) (δ.set i (.own ds'))/\Stp F σ H δ σ (upd H l (.lst ys)) (δ.set i (.own ds')):=by
  have hl:Av F σ δ l:=.inr ⟨i,hx,.inr ⟨ds,h⟩⟩
  obtain ⟨l',xs0,e0,el,_,f⟩:=r.sl i _ _ hx h
  cases e0
  have lt:i < δ.length:=(List.getElem?_eq_some_iff.mp h).1
  have ge:(δ.set i (.own ds'))[i]? = some (.own ds'):=by rw [List.getElem?_set_self lt]
  have kk:∀ a o,¬ Av F σ δ a->H a=some o->upd H l (.lst ys) a=some o:=fun a o n e=>by rw [Qai (fun z=>n (by rw [z];exact hl))];exact e
  have av:∀ a,Av F σ (δ.set i (.own ds')) a->Av F σ δ a:=fun a z=>by
    rcases z with z | ⟨j,h1,h2⟩
    · exact .inl z
    · by_cases z:j=i
      · subst z;exact .inr ⟨j,h1,.inr ⟨ds,h⟩⟩
      · rw [Qa4 z] at h2;exact .inr ⟨j,h1,h2⟩
  have up:∀ {b:Addr} {o:HO},b≠l->H b=some o->upd H l (.lst ys) b=some o:=fun n e=>by rw [Qai n];exact e
  refine ⟨?_,⟨kk,fun a z=>.inl (av a z)⟩⟩
  exact {
    len:=by rw [List.length_set];exact r.len
    dom:=fun a ha=>by
      by_cases z:a=l
      · rw [z];exact ⟨_,Qad⟩
      · obtain ⟨xs,e⟩:=r.dom a ha;exact ⟨xs,up z e⟩
    dom0:=r.dom0
    pt0:=fun p hp=>by
      obtain ⟨h1,n,e⟩:=r.pt0 p hp
      refine ⟨h1,n,up (fun z=>?_) e⟩
      obtain ⟨xs,e'⟩:=r.dom0 p h1
      rw [z,f] at e';cases e'
    kx:=fun b o n e=>up (fun z=>by rw [z,f] at e;cases e) (r.kx b o n e)
    sl:=fun j o y h1 h2=>by
      by_cases z:j=i
      · subst z
        rw [ge] at h2
        cases h2
        rw [hx] at h1
        cases h1
        exact ⟨l,ys,rfl,Qad,q.mv kk fun a z=>.inl (av a z),f⟩
      · rw [Qa4 z] at h2
        have hh:=r.sl j o y h1 h2
        cases y with
        | no=>trivial
        | v d=>obtain ⟨v',e,q'⟩:=hh;exact ⟨v',e,q'.mv kk fun a z=>.inl (av a z)⟩
        | own es=>
          obtain ⟨l',xs,rfl,e2,q',f'⟩:=hh
          exact ⟨l',xs,rfl,up (fun z2=>z (r.inj j i l' es h2 h1 ⟨by rw [z2];exact hx,.inr ⟨ds,h⟩⟩)) e2,q'.mv kk fun a z=>.inl (av a z),f'⟩
        | pk es=>
          obtain ⟨l',xs,rfl,e2,q',ys',f',f2⟩:=hh
          exact ⟨l',xs,rfl,up (fun z2=>by rw [z2,f] at f';cases f') e2,q'.mv kk fun a z=>.inl (av a z),ys',f',f2⟩
        | pot=>
          obtain ⟨p,n,rfl,e2,w⟩:=hh
          refine ⟨p,n,rfl,up (fun z2=>?_) e2,w⟩
          subst z2
          exact r.own_pot h hx ⟨j,h1,h2⟩
        | scr=>exact hh
    inj:=fun j k a es h1 h2 ⟨h3,h4⟩=>by
      have h4':δ[k]? = some .pot∨∃ ds,δ[k]? = some (.own ds):=by
        by_cases z:k=i
        · subst z;exact .inr ⟨ds,h⟩
        · rw [Qa4 z] at h4;exact h4
      by_cases z:j=i
      · subst z;exact r.inj j k a ds h h2 ⟨h3,h4'⟩
      · rw [Qa4 z] at h1;exact r.inj j k a es h1 h2 ⟨h3,h4'⟩ }
def dApp (i:Nat) (we:DE):DS:=fun D δ=>match δ[i]? with
  | some (.own ds)=>we δ (fun d=>ds.length<1000000/\D.nx (δ.set i (.own (ds++[d])))) D.ex
  | _=>False
def dExt (i:Nat) (we:DE):DS:=fun D δ=>match δ[i]? with
  | some (.own ds)=>we δ (fun d=>match d with
    | .list es=>ds.length+es.length<=1000000/\D.nx (δ.set i (.own (ds++es)))
    | _=>False) D.ex
  | _=>False
theorem QlM (h:PS X st (Qk9 (tBM X.K "list" Qha (tVar i) (Qca (tX .P X.K E we) tNil)))):PS X st (tS X.K E (dExt i we)):=by
  refine PS.imp h fun D σ H ⟨F,δ,DD,rel,hw,en⟩=>?_
  unfold dExt at hw
  split at hw
  · rename_i ds hd
    obtain ⟨x,hx⟩:=rel.lt hd
    obtain ⟨l,xs,rfl,e,q,f⟩:=rel.sl i _ _ hx hd
    have np:=rel.own_pot hd hx
    refine ⟨.ref l,hx,.inl ⟨rfl,_,SqL.of e⟩,F,δ,_,DD.ex,rel,hw,fun d hd2 v H' rel' kp vk=>?_,en.ex⟩
    cases d<;>first | exact (show False from hd2).elim | skip
    obtain ⟨hl,hn⟩:=hd2
    obtain ⟨l2,ys,rfl,e2,q2⟩:=DP.list vk
    have q':=kp.das q
    refine ⟨l,l2,xs,ys,rfl,rfl,kp.1 _ _ np e,e2,Nat.le_trans (by rw [q.length,q2.length];exact hl) Qgy,?_⟩
    obtain ⟨r2,st⟩:=rel'.mut hd hx (q'.app q2)
    exact en.nx.go _ hn _ _ r2 ((Stp.kp kp).trans st)
  · exact hw.elim
def dPut (i:Nat) (wi we:DE):DS:=fun D δ=>we δ (fun d=>match δ[i]? with
  | some (.own ds)=>wi δ (fun z=>match z with
    | .int k=>∃ j,ixN ds.length k=some j/\D.nx (δ.set i (.own (ds.set j d)))
    | _=>False) D.ex
  | _=>False) D.ex
theorem QlH (h:PS X st (tAsg (tX .D X.K E we) (gSub (tVar i) (tX .P X.K E wi) rSetL))):PS X st (tS X.K E (dPut i wi we)):=by
  refine PS.imp h fun D σ H ⟨F,δ,DD,rel,hw,en⟩=>?_
  refine ⟨F,δ,_,DD.ex,rel,hw,fun d hd v H1 rel1 kp1 vk=>?_,en.ex⟩
  split at hd
  · rename_i ds hds
    obtain ⟨x,hx⟩:=rel1.lt hds
    obtain ⟨l,xs,rfl,e,q,f⟩:=rel1.sl i _ _ hx hds
    have np:=rel1.own_pot hds hx
    refine ⟨.ref l,hx,F,δ,_,DD.ex,rel1,hd,fun z hz y H2 rel2 kp2 yk=>?_,en.ex⟩
    cases z<;>first | exact (show False from hz).elim | skip
    obtain ⟨j,hj,hn⟩:=hz
    refine ⟨l,xs,_,j,rfl,DP.int yk,kp2.1 _ _ np e,by rw [q.length];exact hj,?_⟩
    obtain ⟨r2,st⟩:=rel2.mut hds hx ((kp2.das q).set (kp2.da vk) j)
    exact en.nx.go _ hn _ _ r2 (((Stp.kp kp1).trans (Stp.kp kp2)).trans st)
  · exact hd.elim
@[irreducible] def ForR (items:List PyData) (wg:DG) (wb:DS) (D:DEnds) (δ:Sts):Prop:=∃ Iv:Nat->Sts->Prop,Iv 0 δ/\(∀ (i:Nat) d δ,items[i]? = some d->Iv i δ->wg d δ fun δ2=>wb { D with nx:=Iv (i+1),ct:=Iv (i+1),bk:=D.nx } δ2)/\∀ δ,Iv items.length δ->D.nx δ
def dFor (wi:DI) (wg:DG) (wb:DS):DS:=fun D δ=>wi δ (fun items=>ForR items wg wb D δ) D.ex
theorem QlL {tg iter:Expr} {body:List Stmt} {pos:Pos} {ix:List Nat} {wi:DI} {wg:DG} {wb:DS} (hp:PassesOwn (model X.prog X.w) X.A X.env X.xe) (hc:X.calm=true) (hi:PI X tg iter (tI .D X.K E wi)) (hg:PG X tg (tG ix X.K wg)) (hb:PSs X body (tS X.K E wb))
    (hs:∀ x,foldedSetIterable iter X.env x=pure x:=by intro _;rfl):PS X (.For tg iter body [] pos) (tS X.K E (dFor wi wg wb)):=by
  refine PS.imp (QkG hp hc hi hg hb hs) fun D σ H ⟨F,δ,DD,rel,hw,en⟩=>?_
  refine ⟨F,δ,_,DD.ex,rel,hw,fun items hC J H1 rel1 kp1 ⟨ln,it⟩=>?_,en.ex⟩
  unfold ForR at hC
  obtain ⟨Iv,i0,step,fin⟩:=hC
  have en1:=en.step (Stp.kp (F:=F) kp1)
  refine ⟨fun i m σ' H'=>m=items.length - i/\i<=items.length/\∃ δ',Iv i δ'/\Rel X.K F σ' H' δ'/\Stp F σ H1 δ σ' H' δ',⟨_,rfl,Nat.zero_le _,δ,i0,rel1,Stp.refl⟩,?_⟩
  rintro i m σ' H' ⟨rfl,hi',δ',iv,r',st'⟩
  obtain ⟨go,stop⟩:=it H' (Av F σ' δ') st'.1 st'.2 fun a ha=>r'.isl ha
  by_cases hlt:i<items.length
  · have hd:items[i]? = some items[i]:=List.getElem?_eq_getElem hlt
    obtain ⟨g1,g2⟩:=go i _ hd
    refine .inr ⟨g1,fun σ2 H2=>∃ δ2,Iv (i+1) δ2/\Rel X.K F σ2 H2 δ2/\Stp F σ H1 δ σ2 H2 δ2,fun σ2 H2 ⟨δ2,h2,r2,s2⟩=>⟨_,by omega,rfl,hlt,δ2,h2,r2,s2⟩,fun x H3 y=>?_⟩
    obtain ⟨s3,dx⟩:=g2 x H3 y
    have r3:=r'.same s3
    have st3:Stp F σ H1 δ σ' H3 δ':=st'.trans (Stp.kp (Kp.same r' s3))
    refine ⟨F,δ',_,_,r3,dx,step i _ δ' hd iv,fun δ4 h4 σ4 r4 st4 _ _=>⟨F,δ4,_,r4,h4,?_⟩⟩
    have st5:=st3.trans st4
    exact ⟨⟨fun δ6 h6 σ6 H6 r6 s6=>⟨δ6,h6,r6,st5.trans s6⟩⟩,en.rt,en.rtF,(en1.step st5).nx,⟨fun δ6 h6 σ6 H6 r6 s6=>⟨δ6,h6,r6,st5.trans s6⟩⟩,en.ex⟩
  · have e:i=items.length:=by omega
    subst e
    exact .inl ⟨stop,(en1.step st').nx.go δ' (fin δ' iv) σ' H' r' Stp.refl⟩
theorem Qd0 {lo:Int} {n:Nat} {wg:DG} {wb:DS} {D:DEnds} {δ:Sts} (Iv:Nat->Sts->Prop) (h0:Iv 0 δ)
    (hs:∀ (i:Nat) δ,i<n->Iv i δ->wg (.int (lo+i)) δ fun δ2=>wb { D with nx:=Iv (i+1),ct:=Iv (i+1),bk:=D.nx } δ2) (hd:∀ δ,Iv n δ->D.nx δ):ForR (rngD lo n) wg wb D δ:=by
  unfold ForR
  exact ⟨Iv,h0,fun i d δ hd iv=>by obtain ⟨hi,rfl⟩:=QcX hd;exact hs i δ hi iv,fun δ iv=>hd δ (by rw [QcW] at iv;exact iv)⟩
theorem Qb4 {items:List PyData} {wg:DG} {wb:DS} {D:DEnds} {δ:Sts} (Iv:Nat->Sts->Prop) (h0:Iv 0 δ)
    (hs:∀ (i:Nat) d δ,items[i]? = some d->Iv i δ->wg d δ fun δ2=>wb { D with nx:=Iv (i+1),ct:=Iv (i+1),bk:=D.nx } δ2) (hd:∀ δ,Iv items.length δ->D.nx δ):ForR items wg wb D δ:=by
  unfold ForR
  exact ⟨Iv,h0,hs,hd⟩
def dExpr (we:DE):DS:=fun D δ=>we δ (fun _=>D.nx δ) D.ex
theorem QjA (h:PS X st (Qk9 (tX .P X.K E we))):PS X st (tS X.K E (dExpr we)):=by
  refine PS.imp h fun D σ H ⟨F,δ,DD,rel,hw,en⟩=>?_
  exact ⟨F,δ,_,DD.ex,rel,hw,fun d hd v H' rel' kp vk=>en.nx.go δ hd σ H' rel' (Stp.kp kp),en.ex⟩
end
def stD (N:List Str) (args:List Sl):Sts:=args++List.replicate (N.length - args.length) .no
theorem Qdu {α β:Type} {R:α->β->Prop}:∀ {xs:List α} {ys:List β},Paired R xs ys->∀ (i:Nat) x y,xs[i]? = some x->ys[i]? = some y->R x y
  | _,_,.nil,i,x,y,h,_=>by simp at h
  | _,_,.cons a b,0,x,y,h,h'=>by simp at h h';subst h h';exact a
  | _,_,.cons a b,i+1,x,y,h,h'=>Qdu b i x y (by simpa using h) (by simpa using h')
theorem QgS {K:PySem.W.Frag} {N:List Str} {A pt:Addr->Prop} {H:Hp} {vs:List V} {args:List Sl} (dm:∀ a,A a->∃ xs,H a=some (.lst xs)) (hp:∀ p,pt p->A p/\∃ n,H p=some (.lst [.int n])) (q:Paired (QgI A pt H) vs args):Rel K ⟨H,A,pt⟩ (L2.start N vs) H (stD N args):=by
  have hl:vs.length=args.length:=q.length
  have no:∀ (i:Nat) x,(stD N args)[i]? = some x->(i<args.length/\args[i]? = some x)∨x=.no:=fun i x h=>by
    unfold stD at h
    by_cases z:i<args.length
    · rw [List.getElem?_append_left z] at h;exact .inl ⟨z,h⟩
    · rw [List.getElem?_append_right (by omega),List.getElem?_replicate] at h
      split at h
      · exact .inr (Option.some.inj h).symm
      · cases h
  have arg:∀ (i:Nat) o x,(L2.start N vs)[i]? = some o->(stD N args)[i]? = some x->x≠.no->∃ v,o=some v/\QgI A pt H v x:=fun i o x h1 h2 hx=>by
    rcases no i x h2 with ⟨z,e⟩ | e
    · unfold L2.start at h1
      rw [List.getElem?_append_left (by rw [List.length_map];omega),List.getElem?_map] at h1
      obtain ⟨v,hv,rfl⟩:=Option.map_eq_some_iff.mp h1
      exact ⟨v,rfl,Qdu q i v x hv e⟩
    · exact absurd e hx
  have av:∀ a,Av ⟨H,A,pt⟩ (L2.start N vs) (stD N args) a->A a:=fun a z=>by
    rcases z with z | ⟨i,h1,h2⟩
    · exact z
    · rcases h2 with h2 | ⟨ds,h2⟩
      · obtain ⟨v,e,p,rfl,hp'⟩:=arg i _ _ h1 h2 (fun z=>by cases z)
        cases e
        exact (hp _ hp').1
      · obtain ⟨v,e,hh⟩:=arg i _ _ h1 h2 (fun z=>by cases z)
        exact hh.elim
  exact {
    len:=by unfold L2.start stD;rw [List.length_append,List.length_append,List.length_map,List.length_replicate,List.length_replicate,hl]
    dom:=dm
    dom0:=dm
    pt0:=hp
    kx:=fun _ _ _ e=>e
    sl:=fun i o x h1 h2=>by
      cases x with
      | no=>trivial
      | v d=>
        obtain ⟨v,e,hh⟩:=arg i _ _ h1 h2 (fun z=>by cases z)
        exact ⟨v,e,DA.mv hh (fun _ _ _ e=>e) fun a z=>.inl (av a z)⟩
      | pot=>
        obtain ⟨v,e,p,rfl,hp'⟩:=arg i _ _ h1 h2 (fun z=>by cases z)
        obtain ⟨_,n,en⟩:=hp p hp'
        exact ⟨p,n,e,en,.inl hp'⟩
      | own ds=>obtain ⟨v,e,hh⟩:=arg i _ _ h1 h2 (fun z=>by cases z);exact hh.elim
      | pk ds=>obtain ⟨v,e,hh⟩:=arg i _ _ h1 h2 (fun z=>by cases z);exact hh.elim
      | scr=>obtain ⟨v,e,hh⟩:=arg i _ _ h1 h2 (fun z=>by cases z);exact hh.elim
    inj:=fun i j a ds h1 h2 _=>by
      obtain ⟨v,e,hh⟩:=arg i _ _ h2 h1 (fun z=>by cases z)
      exact hh.elim }
def notL:PyData->Bool
  | .list _=>false
  | _=>true
def rtD:Bool->(PyData->Prop)->PyData->Prop
  | true,R,d=>notL d=true/\R d
  | false,R,d=>R d
def Qmy (fr:Bool) (R:PyData->Prop) (EX:XP):DEnds:=⟨fun _=>R .none,rtD fr R,R,fun _=>False,fun _=>False,EX⟩
theorem Qmx {K:PySem.W.Frag} {E Ex:XK} {fr:Bool} {A pt:Addr->Prop} {H:Hp} {R:PyData->Prop} {EX EX':XP} {Q:VK} {σ:L2.St} {δ:Sts} (k:∀ d,R d->∀ v H',Kq pt H H'->DA A H' v d->(fr=true->FrV H H' v)->Q v H') (o:Out ⟨H,A,pt⟩ E EX') :
    Ends1 K E ⟨H,A,pt⟩ σ H δ (Qmy fr R EX') { nx:=fun _ H'=>Q .non H',rt:=Q } where
  nx:=⟨fun δ' hR σ' H' r st=>k _ hR _ H' r.ke .non fun _=>Qmv⟩
  rt:=fun d h v H' ke dv=>by
    cases fr with
    | false=>exact k d h v H' ke dv fun z=>by cases z
    | true=>
      obtain ⟨h1,h2⟩:=h
      refine k d h2 v H' ke dv fun z l e1 ⟨xs,e2⟩=>?_
      subst e1
      cases dv with
      | @tup a ys ds n e q=>rw [e] at e2;cases e2
      | @lst a ys ds n e q=>cases h1
      | @dct a n e=>rw [e] at e2;cases e2
  rtF:=fun d h v H' ke dv fr'=>k d h v H' ke dv fun _=>fr'
  bk:=⟨fun _ h=>h.elim⟩
  ct:=⟨fun _ h=>h.elim⟩
  ex:=o
section
variable {P:Program} {w:World} {K:PySem.W.Frag} {mg:Str->Option Value} {base:Heap}
theorem okD {x qual:Str} {st:Stmt} {f:Addr} {fd:FuncData} {N ps:List Str} {k:Nat} {fD:DF} (fr:Bool) (F:Fun K x qual st f fd) (S:FnScope N ps (Qaa st)) (len:∀ args R EX,fD args R EX->args.length=ps.length)
    (hbody:∀ (cdv:Value) (A:Around) (outer:List Env) (s:Shared) (H:Hp) (E:XK),Room k (A.deeper (envOfC qual (Qaa st) s.heap.objs.size f cdv)) ->
      ∃ wd,PSs (cxOf CX0 P w K mg base N qual (Qaa st) f cdv A outer s H E).nox (Qan st) (tS K E0 wd)/\∀ args R EX,fD args R EX->wd (Qmy fr R XF) (stD N args)):FnOk P w K mg base CX0 (k+1) f fd ps (toSp fr fD):=by
  refine F.ok S (fun vs H Q E h=>?_) fun cdv A outer s H vs Q E hr h=>?_
  · obtain ⟨A,pt,args,R,EX,_,_,q,h,_⟩:=h
    rw [q.length];exact len _ _ _ h
  · obtain ⟨wd,hp,hw⟩:=hbody cdv A outer s H E hr
    obtain ⟨A',pt,args,R,EX,dm,hpt,q,h,k,_⟩:=h
    exact ⟨_,hp,⟨H,A',pt⟩,_,_,QgS dm hpt q,hw args R EX h,Qmx (Ex:=E) (EX:=EX) k outF⟩
end
end Dl
namespace L2
open PySem PySem.Spec PyProof.Rows
def CDivC (i j:Int):Prop:=0<j/\j<=10^40
theorem QjO {X:Cx}:OpR X (binaryOp .FloorDiv) (rI CDivC fun i j=>.int (i / j)):=opI fun i j _ _ _ _ _ hc q=>by
  have h1:(0:Int)<j:=hc.1
  have h2:j<=10^40:=hc.2
  refine floordiv_int (by omega) (by rw [Int.fdiv_eq_ediv_of_nonneg i (by omega)];exact q) (.inl (PyProof.noPylong_of_log2 ?_))
  have h3:j.natAbs<2^200:=by
    have:(10:Int)^40<2^200:=by decide
    omega
  have:=(Nat.log2_lt (by omega:j.natAbs≠0)).mpr h3
  omega
end L2
namespace Rk
open PySem PySem.Spec PyProof.Rows L2 _root_.Rd
def QdI:Sp:=fun vs H Q _=>∃ p n f,vs=[.ref p,.int f]/\H p=some (.lst [.int n])/\0<f/\f<=10^40/\∀ r m,0<=r->r<f->Q (.int r) (upd H p (.lst [.int m]))
end Rk
namespace Dl
open PySem PySem.Spec PyProof.Rows L2 _root_.Rd Rk
theorem Qav {X:Cx} {E:XK}:QcE CX0 X E:=fun _ _ _ _ _ _ _ h=>h.elim
theorem Room.u60 {k:Nat} {A:Around} (r:Room k A):A.units+60<cLine:=by have:=r.un;omega
theorem Room.i60 {k:Nat} {A:Around} (r:Room k A):A.in1.units+60<cLine:=by
  have:=r.un
  show A.units+1+60<cLine
  omega
section
variable {X:Cx} {E:XK} {CX:CXT} {k:Nat} {f:Addr} {fd:FuncData} {ps:List Str} {x:Str} {p pos:Pos} {e:Expr} {es:List Expr} {fD:DF}
def takeD:DF:=fun args R _=>∃ f,args=[.pot,.v (.int f)]/\0<f/\f<=10^40/\∀ r,0<=r->r<f->R (.int r)
theorem take_d {vs:List V} {H:Hp} {Q:VK} {Ex:XK} (h:toSp true takeD vs H Q Ex):QdI vs H Q Ex:=by
  obtain ⟨A,pt,args,R,EX,dm,hp,q,⟨f,rfl,f0,f1,hR⟩,k,_⟩:=h
  cases q with
  | cons q1 q2=>cases q2 with
    | cons q2 q3=>
      cases q3
      obtain ⟨p,rfl,pp⟩:=q1
      cases q2
      obtain ⟨_,n,e⟩:=hp p pp
      refine ⟨p,n,f,rfl,e,f0,f1,fun r m r0 r1=>k _ (hR r r0 r1) _ _ ⟨fun b o nb eb=>?_,fun z hz=>?_⟩ (.int _) fun _=>QaJ⟩
      · rw [Qai (fun z=>nb (by rw [z];exact pp))];exact eb
      · by_cases y:z=p
        · rw [y];exact ⟨m,Qad⟩
        · obtain ⟨_,n',e'⟩:=hp z hz
          exact ⟨n',by rw [Qai y];exact e'⟩
def potD:DF:=fun args R _=>∃ c,args=[.v (.int c)]/\∀ n,R (.list [.int n])
theorem pot_d {vs:List V} {H:Hp} {Q:VK} {Ex:XK} (h:toSp true potD vs H Q Ex):spPot vs H Q Ex:=by
  obtain ⟨A,pt,args,R,EX,dm,hp,q,⟨c,rfl,hR⟩,k,_⟩:=h
  cases q with
  | cons q1 q2=>
    cases q2
    cases q1
    refine ⟨c,rfl,fun p n hn=>k _ (hR n) _ _ ⟨fun b o _ eb=>Qab hn b o eb,fun z hz=>?_⟩ (.lst (fun z=>?_) Qad (.cons (.int _) .nil)) fun _=>Qbb hn⟩
    · obtain ⟨_,n',e'⟩:=hp z hz
      exact ⟨n',Qab hn _ _ e'⟩
    · obtain ⟨xs,e⟩:=dm p z
      rw [hn] at e;cases e
def isW:PyData->Bool
  | .int _=>true
  | _=>false
def wholeD:DF:=fun args R _=>∃ d,args=[.v d]/\R (.bool (isW d))
def sameD (n:Nat):DF:=fun args R _=>∃ d,args=[.v d,.v d]/\nd d=true/\QbQ n d=true/\R (.bool true)
theorem same_d {n:Nat} {vs:List V} {H:Hp} {Q:VK} {Ex:XK} (h:toSp false (sameD n) vs H Q Ex):QeY (n+1) vs H Q Ex:=by
  obtain ⟨A,pt,args,R,EX,dm,hp,q,⟨d,rfl,hn,hf,hR⟩,k,_⟩:=h
  cases q with
  | cons q1 q2=>cases q2 with
    | cons q2 q3=>
      cases q3
      exact ⟨_,_,d,rfl,QeC d _ hn q1,QeC d _ hn q2,hf,fun H' s=>k _ hR _ H' ⟨fun b o _ e=>s b o e,fun p hp'=>let ⟨_,n,e⟩:=hp p hp';⟨n,s _ _ e⟩⟩ (.bl _) fun z=>by cases z⟩
theorem Qg1 {K:PySem.W.Frag} {F:Fm} {σ:L2.St} {H:Hp} {δ:Sts} (r:Rel K F σ H δ) {a:Addr} {xs:List V} (h:SqL K F.H0 a xs) (n:¬ F.pt a):SqL K H a xs:=by
  rcases h with h | h
  · rcases h with h | ⟨o,h⟩
    · exact .inl (.inl (r.kx _ _ n h))
    · exact .inl (.inr ⟨o,r.kx _ _ n h⟩)
  · exact .inr h
def QmB (i:Nat):DE:=fun δ Q _=>match δ[i]? with
  | some .scr=>∀ n:Nat,n<=63->Q (.int n)
  | _=>False
theorem QlR {i:Nat} {a:Expr} (hg:Gl X "len") (hm:X.mg "len" = none) (h:PE X a (tVar i)) (hs:notStar a=true:=by rfl):PE X (.Call (.Name "len" p) [a] [] pos) (tX .F X.K E (QmB i)):=by
  refine PE.imp (Qas QaS hg hm Qbw (pa_c h Qam hs) (he:=by rw [QaD hs])) fun σ H Q ⟨F,δ,R,EX,rel,hw,k,o⟩=>?_
  unfold QmB at hw
  split at hw
  · rename_i hd
    obtain ⟨x,hx⟩:=rel.lt hd
    obtain ⟨l,ns,rfl,sq,np,n63⟩:=rel.sl i _ _ hx hd
    refine ⟨_,hx,l,_,rfl,.inl (Qg1 rel sq np),?_⟩
    rw [List.length_map]
    exact k _ (hw _ n63) _ H rel (Kp.refl rel) ⟨.int _,QaJ⟩
  · exact hw.elim
def QmC (i:Nat) (wb:DE):DE:=fun δ Q EX=>match δ[i]? with
  | some .scr=>wb δ (fun d=>match d with
    | .int k=>0<=k/\∀ c,Q (.int c)
    | _=>False) EX
  | _=>False
theorem QlU {i:Nat} {a b:Expr} {wb:DE} (G:FnOk X.prog X.w X.K X.mg X.base CX0 k f fd ps (QbV X.K)) (hr:Room k X.A) (hg:Gl X x) (hm:X.mg x=some (.ref f)) (hk:PySem.W.keepIn X.K (.ref f)=true) (hb:Binds X.K fd ps [])
    (ha:PE X a (tVar i)) (h:PE X b (tX .P X.K E wb)) (h1:notStar a=true:=by rfl) (h2:notStar b=true:=by rfl) (hdb:(x == ("__debug__" : Str))=false:=by decide) :
    PE X (.Call (.Name x p) [a,b] [] pos) (tX .F X.K E (QmC i wb)):=by
  refine PE.imp (Qck (E:=E) G hr hg hm hk hb .nil Qav (pa_c ha (pa_c h Qam h2) h1) hdb (QaD h1) (by rw [QaD h2];rfl)) fun σ H Q ⟨F,δ,R,EX,rel,hw,k,o⟩=>?_
  unfold QmC at hw
  split at hw
  · rename_i hd
    obtain ⟨x,hx⟩:=rel.lt hd
    obtain ⟨l,ns,rfl,sq,np,n63⟩:=rel.sl i _ _ hx hd
    refine ⟨_,hx,F,δ,_,EX,rel,hw,fun d hd2 v H' rel' kp vk=>?_,o⟩
    cases d<;>first | exact (show False from hd2).elim | skip
    rw [DP.int vk]
    exact ⟨l,ns,_,rfl,Qg1 rel' sq np,Nat.lt_of_le_of_lt n63 (by decide),hd2.1,fun c=>k _ (hd2.2 c) _ H' rel' kp ⟨.int _,QaJ⟩⟩
  · exact hw.elim
end
section
variable {P:Program} {w:World} {K:PySem.W.Frag} {mg:Str->Option Value} {base:Heap}
def spLawD (K:PySem.W.Frag):Sp:=fun vs H Q _=>∃ (a:Addr) (ns:List Int),vs=[.ref a]/\SqL K H a (ns.map V.int)/\ns.length<=63/\∀ H',Q (.bl true) H'
def endsL:DEnds:=⟨fun _=>False,fun d=>d=.bool true,fun d=>d=.bool true,fun _=>False,fun _=>False,XF⟩
theorem okLaw {x qual:Str} {st:Stmt} {f:Addr} {fd:FuncData} {N:List Str} {p:Str} {k:Nat} (F:Fun K x qual st f fd) (S:FnScope N [p] (Qaa st))
    (hbody:∀ (cdv:Value) (A:Around) (outer:List Env) (s:Shared) (H:Hp) (E:XK),Room k (A.deeper (envOfC qual (Qaa st) s.heap.objs.size f cdv)) ->
      ∃ wd,PSs (cxOf CX0 P w K mg base N qual (Qaa st) f cdv A outer s H E).nox (Qan st) (tS K E0 wd)/\wd endsL (stD N [.scr])):FnOk P w K mg base CX0 (k+1) f fd [p] (spLawD K):=by
  refine F.ok S (fun vs H Q E h=>?_) fun cdv A outer s H vs Q E hr h=>?_
  · obtain ⟨a,ns,rfl,_⟩:=h
    rfl
  · obtain ⟨wd,hp,hw⟩:=hbody cdv A outer s H E hr
    obtain ⟨a,ns,rfl,sq,n63,k⟩:=h
    have get0:∀ (i:Nat) o y,(L2.start N [V.ref a])[i]? = some o->(stD N [.scr])[i]? = some y->y≠.no->o=some (.ref a)/\y=.scr:=fun i o y h1 h2 hy=>by
      cases i with
      | zero=>cases h1;cases h2;exact ⟨rfl,rfl⟩
      | succ i=>
        unfold stD at h2
        rw [List.getElem?_append_right (by simp),List.getElem?_replicate] at h2
        split at h2
        · exact absurd (Option.some.inj h2).symm hy
        · cases h2
    have noav:∀ b,¬ Av (⟨H,fun _=>False,fun _=>False⟩:Fm) (L2.start N [V.ref a]) (stD N [.scr]) b:=fun b z=>by
      rcases z with z | ⟨i,h1,h2⟩
      · exact z
      · rcases h2 with h2 | ⟨ds,h2⟩
        · cases (get0 i _ _ h1 h2 (fun z=>by cases z)).2
        · cases (get0 i _ _ h1 h2 (fun z=>by cases z)).2
    refine ⟨_,hp,⟨H,fun _=>False,fun _=>False⟩,_,_,?_,hw,?_⟩
    · exact {
        len:=by unfold L2.start stD;simp
        dom:=fun _ h=>h.elim
        dom0:=fun _ h=>h.elim
        pt0:=fun _ h=>h.elim
        kx:=fun _ _ _ e=>e
        sl:=fun i o y h1 h2=>by
          cases y with
          | no=>trivial
          | scr=>
            obtain ⟨rfl,_⟩:=get0 i _ _ h1 h2 (fun z=>by cases z)
            exact ⟨a,ns,rfl,sq,fun z=>z,n63⟩
          | v d=>cases (get0 i _ _ h1 h2 (fun z=>by cases z)).2
          | own d=>cases (get0 i _ _ h1 h2 (fun z=>by cases z)).2
          | pk d=>cases (get0 i _ _ h1 h2 (fun z=>by cases z)).2
          | pot=>cases (get0 i _ _ h1 h2 (fun z=>by cases z)).2
        inj:=fun i j b ds h1 h2 _=>by cases (get0 i _ _ h2 h1 (fun z=>by cases z)).2 }
    · exact {
        nx:=⟨fun _ h=>h.elim⟩
        rt:=fun d h v H' ke dv=>by cases (show d=.bool true from h);cases dv;exact k H'
        rtF:=fun d h v H' ke dv _=>by cases (show d=.bool true from h);cases dv;exact k H'
        bk:=⟨fun _ h=>h.elim⟩
        ct:=⟨fun _ h=>h.elim⟩
        ex:=outF }
end
theorem Qk2 {α:Type} {p:α->Prop}:∀ x∈([]:List α),p x:=fun _ h=>nomatch h
theorem QaN {α:Type} {p:α->Prop} {a:α} {l:List α} (h:p a) (t:∀ x∈l,p x):∀ x∈a::l,p x:=fun x hx=>by
  rcases List.mem_cons.mp hx with z | z
  · rw [z];exact h
  · exact t x z
theorem and_if {b c:Bool} {R:PyData->Prop} (h:R (.bool (b&&c))):if b=true then R (.bool c) else R (.bool false):=by
  cases b
  · exact iteF h
  · exact iteT h
theorem QmK {b c:Bool} {R:PyData->Prop} {Pk:Prop} (h:R (.bool (b&&c))) (k:b=true->R (.bool c)->Pk):if b=true then Pk else R (.bool false):=by
  cases b
  · exact iteF h
  · exact iteT (k rfl h)
theorem ifF {c:Bool} {A B:Prop} (h:c=false) (k:B):if c=true then A else B:=by subst h;exact k
theorem ifC {c:Bool} {A B:Prop} (t:c=true->A) (f:c=false->B):if c=true then A else B:=by
  cases c
  · exact f rfl
  · exact t rfl
theorem all_map {α:Type} (l:List α) (g:α->Bool):(l.map g).all id=l.all g:=by
  rw [List.all_map];rfl
theorem Qfo {ds:List PyData} {Q:PyData->Prop} {g:PyData->Bool} {items:List PyData} (h:ds=[.list (items.map fun d=>.bool (g d))]) (q:Q (.bool (items.all g))):allD ds Q:=by
  subst h
  unfold allD
  refine ⟨items.map g,?_,by rw [all_map];exact q⟩
  rw [show items.map (fun d=>PyData.bool (g d))=(items.map g).map PyData.bool by rw [List.map_map];rfl,QiO]
theorem cm_all {items:List PyData} {wg:DG} {we:DE} {δ:Sts} {Q:PyData->Prop} (Pd:PyData->Prop) (h:∀ d∈items,∀ (k2:PyData->Prop),(∀ e,Pd e->k2 e)->wg d δ fun δ4=>we δ4 k2 XF) (q:∀ acc,acc.length=items.length->(∀ e∈acc,Pd e)->Q (.list acc)) :
    Qdl items wg dNoT we δ Q:=by
  unfold Qdl
  refine ⟨fun i acc=>acc.length=i/\∀ e∈acc,Pd e,⟨rfl,fun _ h=>nomatch h⟩,fun i acc d hd ⟨hl,ha⟩=>?_,fun acc ⟨hl,ha⟩=>q acc hl ha⟩
  have hh:=h d (List.mem_of_getElem? hd) (fun e=>(acc++[e]).length=i+1/\∀ x∈acc++[e],Pd x) fun e he=>⟨by rw [List.length_append,hl];rfl,fun x hx=>by
    rcases List.mem_append.mp hx with z | z
    · exact ha x z
    · rw [List.mem_singleton.mp z];exact he⟩
  simp only [dNoT,if_true]
  exact hh
end Dl
namespace L2
open PySem PySem.Spec PyProof.Rows
section
variable {X:Cx}
end
end L2
namespace Dl
open PySem PySem.Spec PyProof.Rows L2 _root_.Rd Rk
section
variable {X:Cx} {E:XK}
variable {e:Expr} {w:DE} {p p2 pos pos2:Pos}
end
theorem at_mem {ds:List PyData} {i:Int} (h0:0<=i) (h1:i<ds.length):∃ d,d∈ds/\atI ds i=some d:=by
  obtain ⟨j,rfl⟩:∃ j:Nat,i=j:=⟨i.toNat,by omega⟩
  have hj:j<ds.length:=by omega
  exact ⟨ds[j],List.getElem_mem hj,Qbh (List.getElem?_eq_getElem hj)⟩
theorem Qj4 {ds:List PyData} {i:Int} {Q:PyData->Prop} (h0:0<=i) (h1:i<ds.length) (q:∀ d∈ds,Q d):∃ d,atI ds i=some d/\Q d:=by
  obtain ⟨d,hd,e⟩:=at_mem h0 h1
  exact ⟨d,e,q d hd⟩
theorem Qbq (xs:List PyData) (lo hi:Option Int):(cutD xs lo hi).length<=xs.length:=by
  unfold cutD
  rw [List.length_take,List.length_drop]
  omega
theorem Qki {xs:List PyData} {lo hi:Option Int} {d:PyData} (h:d∈cutD xs lo hi):d∈xs:=List.mem_of_mem_drop (List.mem_of_mem_take h)
structure QE (m:Md) (X:Cx) (E:XK) (e:Expr) (w:DE):Prop where h:PE X e (tX m X.K E w)
structure QT (X:Cx) (E:XK) (e:Expr) (w:DT):Prop where h:PT X e (tT X.K E w)
structure QW (X:Cx) (E:XK) (e:Expr) (w:DT):Prop where h:PW X e (tT X.K E w)
structure QTs (X:Cx) (E:XK) (es:List Expr) (w:DT):Prop where h:PTs X es (tT X.K E w)
structure QA (n:Nat) (m:Md) (X:Cx) (E:XK) (es:List Expr) (w:DAr):Prop where h:PA X es (tAr n m X.K E w)
structure QAs (X:Cx) (E:XK) (es:List Expr) (w:DSl):Prop where h:PA X es (tAs X.K E w)
structure QO (X:Cx) (E:XK) (o:Option Expr) (w:DO):Prop where h:PO X o (tO X.K E w)
structure QG (ix:List Nat) (X:Cx) (tg:Expr) (w:DG):Prop where h:PG X tg (tG ix X.K w)
structure QI (m:Md) (X:Cx) (E:XK) (tg it:Expr) (w:DI):Prop where h:PI X tg it (tI m X.K E w)
structure QS (X:Cx) (E:XK) (st:Stmt) (w:DS):Prop where h:PS X st (tS X.K E w)
structure QSs (X:Cx) (E:XK) (sts:List Stmt) (w:DS):Prop where h:PSs X sts (tS X.K E w)
section
variable {X:Cx} {E:XK}
theorem Qao {e:Expr} {w:DE} (h:QE .F X E e w):QE .D X E e w:=⟨toD h.h⟩
theorem Qal {e:Expr} {w:DE} (h:QE .D X E e w):QE .P X E e w:=⟨toP h.h⟩
theorem Qaf {e:Expr} {w:DE} (h:QE .F X E e w):QE .P X E e w:=⟨toPF h.h⟩
theorem qv (i:Nat) {x:Str} {pos:Pos} (hN:X.N[i]? = some x:=by rfl) (hv:Vis X.env.scope x:=by first | exact Or.inl rfl | exact Or.inr (Or.inl rfl) | exact Or.inr (Or.inr rfl)) (hd:(x == ("__debug__" : Str))=false:=by decide) (hcd:(x == ("__classdict__" : Str))=false:=by decide):QE .D X E (.Name x pos) (dVar i):=⟨pd_var (pv i hN hv hd hcd)⟩
theorem qp (i:Nat) {x:Str} {pos:Pos} (hN:X.N[i]? = some x:=by rfl) (hv:Vis X.env.scope x:=by first | exact Or.inl rfl | exact Or.inr (Or.inl rfl) | exact Or.inr (Or.inr rfl)) (hd:(x == ("__debug__" : Str))=false:=by decide) (hcd:(x == ("__classdict__" : Str))=false:=by decide):QE .P X E (.Name x pos) (dPk i):=⟨pd_pk (pv i hN hv hd hcd)⟩
theorem Qak {i:Int} {j pos}:QE .D X E (.Constant (.int i) j pos) (dC (.int i)):=⟨pd_int⟩
theorem q_bl {b:Bool} {j pos}:QE .D X E (.Constant (.bool b) j pos) (dC (.bool b)):=⟨pd_bl⟩
theorem Qhg {j pos}:QE .D X E (.Constant .none j pos) (dC .none):=⟨pd_non⟩
theorem q_str {x:Str} {j pos} (h:PyData.canLay0 (.str x)=true:=by decide +kernel):QE .D X E (.Constant (.str x) j pos) (dC (.str x)):=⟨pd_str h⟩
theorem QkE {x:Str} (i:Int) {u:Value} {pos:Pos} (hg:Gl X x) (hm:X.mg x=some u) (r:RelV (.int i) u) (hd:(x == ("__debug__" : Str))=false:=by decide):QE .D X E (.Name x pos) (dC (.int i)):=⟨pd_c (Qly hg hm r hd) fun _ _=>.int i⟩
theorem Qbg {a b:Expr} {wa wb:DE} {pos:Pos} {r:R2} {rD:PyData->PyData->(PyData->Prop)->Prop} {op:Operator} (ho:OpR X (binaryOp op) r) (hd:OpD r rD) (ha:QE .P X E a wa) (hb:QE .P X E b wb):QE .F X E (.BinOp a op b pos) (dOp rD wa wb):=⟨pd_bin ho hd ha.h hb.h⟩
theorem Qe4 {a b:Expr} {wa wb:DE} {pos:Pos} {r:R2} {rD:PyData->PyData->(PyData->Prop)->Prop} {op:CmpOp} (ho:OpR X (compareOp op) r) (hd:OpD r rD) (ha:QE .P X E a wa) (hb:QE .P X E b wb) (hm:behindInMarks op b=false):QE .F X E (.Compare a [op] [b] pos) (dOp rD wa wb):=⟨pd_cmp ho hd ha.h hb.h hm⟩
theorem Qbr {a b:Expr} {wa wb:DE} {pos:Pos} {r:R2} {rD:PyData->PyData->(PyData->Prop)->Prop} {op:CmpOp} (ho:OpR X (compareOp op) r) (hd:OpD r rD) (ha:QE .P X E a wa) (hb:QE .P X E b wb) (hm:behindInMarks op b=false):QT X E (.Compare a [op] [b] pos) (dTst (dOp rD wa wb)):=⟨QlF ho hd ha.h hb.h hm⟩
theorem q_ix {a b:Expr} {wa wb:DE} {pos:Pos} {r:R2} {rD:PyData->PyData->(PyData->Prop)->Prop} (ho:IxR X r) (hd:OpDn r rD) (ha:QE .P X E a wa) (hb:QE .P X E b wb) (hs:Qfp b):QE .D X E (.Subscript a b pos) (dOp rD wa wb):=⟨pd_ix ho hd ha.h hb.h hs⟩
theorem Qjk {a:Expr} {wa:DE} {pos:Pos} (ha:QE .P X E a wa):QE .F X E (.UnaryOp .USub a pos) (dUn negD wa):=⟨pd_neg ha.h⟩
theorem q_ch {a b c:Expr} {wa wb wc:DE} {pos:Pos} {op op':CmpOp} {p q:Int->Int->Bool} (ho:OpR X (compareOp op) (rI0 fun i j=>.bl (p i j))) (ho':OpR X (compareOp op') (rI0 fun i j=>.bl (q i j))) (ha:QE .P X E a wa) (hb:QE .P X E b wb) (hc:QE .P X E c wc) (hm:lastMarks [op,op'] [b,c]=false:=by with_unfolding_all rfl):QE .F X E (.Compare a [op,op'] [b,c] pos) (dCh p q wa wb wc):=⟨pd_ch ho ho' ha.h hb.h hc.h hm⟩
theorem qt_ch {a b c:Expr} {wa wb wc:DE} {pos:Pos} {op op':CmpOp} {p q:Int->Int->Bool} (ho:OpR X (compareOp op) (rI0 fun i j=>.bl (p i j))) (ho':OpR X (compareOp op') (rI0 fun i j=>.bl (q i j))) (ha:QE .P X E a wa) (hb:QE .P X E b wb) (hc:QE .P X E c wc) (hm:lastMarks [op,op'] [b,c]=false:=by with_unfolding_all rfl):QT X E (.Compare a [op,op'] [b,c] pos) (dTst (dCh p q wa wb wc)):=⟨pdt_ch ho ho' ha.h hb.h hc.h hm⟩
theorem QbI {e:Expr} {w:DE} (h:QE .P X E e w) (he:∀ whole,isTrue e X.env whole=(do let v <- whole;standAt e.pos;holding [v] (truthy v)):=by intro _;rfl):QT X E e (dTst w):=⟨QlD h.h he⟩
theorem Qe2 {a:Expr} {pos:Pos} {ta:DT} (ha:QT X E a ta):QW X E (.BoolOp .And [a] pos) ta:=⟨Qjt ha.h⟩
theorem Qhc {a b:Expr} {rest:List Expr} {pos:Pos} {ta tb:DT} (ha:QT X E a ta) (hb:QW X E (.BoolOp .And (b::rest) pos) tb):QW X E (.BoolOp .And (a::b::rest) pos) (dAnd ta tb):=⟨QlC ha.h hb.h⟩
theorem Qe5 {a b:Expr} {rest:List Expr} {pos:Pos} {wa wb:DE} (ha:QE .P X E a wa) (hb:QE .D X E (.BoolOp .And (b::rest) pos) wb):QE .D X E (.BoolOp .And (a::b::rest) pos) (dAndV wa wb):=⟨pd_and ha.h hb.h⟩
theorem QfB {a:Expr} {pos:Pos} {ta:DT} (ha:QT X E a ta):QW X E (.BoolOp .Or [a] pos) ta:=⟨QlB ha.h⟩
theorem Qhb {a b:Expr} {rest:List Expr} {pos:Pos} {ta tb:DT} (ha:QT X E a ta) (hb:QW X E (.BoolOp .Or (b::rest) pos) tb):QW X E (.BoolOp .Or (a::b::rest) pos) (dOr ta tb):=⟨pdw_or ha.h hb.h⟩
theorem q_or {a b:Expr} {rest:List Expr} {pos:Pos} {wa wb:DE} (ha:QE .P X E a wa) (hb:QE .D X E (.BoolOp .Or (b::rest) pos) wb):QE .D X E (.BoolOp .Or (a::b::rest) pos) (dOrV wa wb):=⟨pd_or ha.h hb.h⟩
theorem q_pw {e:Expr} {t:DT} (h:QW X E e t):QT X E e t:=⟨PW.pt h.h⟩
theorem QbJ {a:Expr} {pos:Pos} {ta:DT} (ha:QT X E a ta):QT X E (.UnaryOp .Not a pos) (dNot ta):=⟨QlE ha.h⟩
theorem Qe3 {op} {a:Expr} {pos:Pos} {w:DE} (h:QE .D X E a w):QE .D X E (.BoolOp op [a] pos) w:=⟨pd_one h.h⟩
theorem q_not {a:Expr} {pos:Pos} {wa:DE} (ha:QE .P X E a wa):QE .D X E (.UnaryOp .Not a pos) (dNotV wa):=⟨pd_not ha.h⟩
theorem Qae {m:Md}:QA 0 m X E [] dNil:=⟨QlQ⟩
theorem qa_D {n:Nat} {e:Expr} {es:List Expr} {we:DE} {wr:DAr} (he:QE .D X E e we) (hr:QA n .D X E es wr) (hs:notStar e=true:=by rfl):QA (n+1) .D X E (e::es) (Qiu we wr):=⟨Qhu he.h hr.h hs⟩
theorem qa_P {n:Nat} {e:Expr} {es:List Expr} {we:DE} {wr:DAr} (he:QE .P X E e we) (hr:QA n .P X E es wr) (hs:notStar e=true:=by rfl):QA (n+1) .P X E (e::es) (Qiu we wr):=⟨Qht he.h hr.h hs⟩
theorem QaU {n:Nat} {es:List Expr} {w:DAr} {x1} {pos:Pos} (h:QA n .D X E es w) (hn:n<=1000:=by decide):QE .F X E (.Tuple es x1 pos) (dTup w):=⟨pd_tup h.h hn⟩
theorem QdQ {n:Nat} {es:List Expr} {w:DAr} {pos:Pos} (h:QA n .D X E es w) (hn:n<=1000:=by decide):QE .F X E (.List es pos) (dLst w):=⟨pd_lst h.h hn⟩
theorem q_dct {pos:Pos}:QE .D X E (.Dict [] [] pos) (dC (.dict [])):=⟨pd_dct⟩
theorem QaB {x:Str} {bid:String} {p pos:Pos} {e:Expr} {es:List Expr} {n:Nat} {wr:DAr} {r:List V->Hp->VK->Prop} {rD:List PyData->(PyData->Prop)->Prop} (hc:CallR X (.builtin bid) r) (hd:Qbx r rD) (hg:Gl X x) (hm:X.mg x=none) (hv:bootBuiltins x=some (.builtin bid)) (ha:QA n .P X E (e::es) wr) (hn:x ≠ "__name__" := by decide) (hdb:(x == ("__debug__" : Str))=false:=by decide) (he:starEach (e::es) X.env=(false,eval e X.env)::starEach es X.env:=by rfl) (hpl:(backTo pos (starEach es X.env)).any (·.1)=false:=by rfl):QE .F X E (.Call (.Name x p) (e::es) [] pos) (dCB rD wr):=⟨QjK hc hd hg hm hv ha.h hn hdb he hpl⟩
theorem QaL {x:Str} {T:String} {p pos:Pos} {e:Expr} {es:List Expr} {n:Nat} {wr:DAr} {r:List V->Hp->VK->Prop} {rD:List PyData->(PyData->Prop)->Prop} (hc:CallR X (.type T) r) (hd:Qbx r rD) (hg:Gl X x) (hm:X.mg x=none) (hv:bootBuiltins x=some (.type T)) (ha:QA n .P X E (e::es) wr) (hn:x ≠ "__name__" := by decide) (hdb:(x == ("__debug__" : Str))=false:=by decide) (he:starEach (e::es) X.env=(false,eval e X.env)::starEach es X.env:=by rfl) (hpl:(backTo pos (starEach es X.env)).any (·.1)=false:=by rfl):QE .F X E (.Call (.Name x p) (e::es) [] pos) (dCB rD wr):=⟨Qhv hc hd hg hm hv ha.h hn hdb he hpl⟩
theorem QcY {e:Expr} {we:DE} {p pos pos2:Pos} {x:Str} (tn:Tn) (hg:Gl X "isinstance") (hm:X.mg "isinstance" = none) (he:QE .P X E e we) (hg2:Gl X x) (hm2:X.mg x=none) (hv:bootBuiltins x=some (.type tn.s)) (hn:x ≠ "__name__" := by decide) (hd:(x == ("__debug__" : Str))=false:=by decide) (h1:notStar e=true:=by rfl):QE .F X E (.Call (.Name "isinstance" p) [e,.Name x pos2] [] pos) (dInst tn we):=⟨QlS tn hg hm he.h (pb_ty tn hg2 hm2 hv hn hd) h1 rfl⟩
theorem Qcf  : QO X E none dNo:=⟨QjD⟩
theorem Qce {e:Expr} {we:DE} (he:QE .P X E e we):QO X E (some e) (dSo we):=⟨QjC he.h⟩
theorem Qcg {e:Expr} {lo hi:Option Expr} {we:DE} {wl wh:DO} {p2 pos:Pos} (he:QE .P X E e we) (hl:QO X E lo wl) (hh:QO X E hi wh):QE .F X E (.Subscript e (.Slice lo hi none p2) pos) (dSl we wl wh):=⟨QjI he.h hl.h hh.h⟩
theorem q_rev {e st:Expr} {we ws:DE} {p2 pos:Pos} (he:QE .P X E e we) (hs:QE .P X E st ws):QE .F X E (.Subscript e (.Slice none none (some st) p2) pos) (dRev we ws):=⟨pd_rev he.h hs.h⟩
theorem Qaj  : QAs X E [] sNil:=⟨QlK⟩
theorem qs_v {e:Expr} {es:List Expr} {we:DE} {wr:DSl} (he:QE .D X E e we) (hr:QAs X E es wr) (hs:notStar e=true:=by rfl):QAs X E (e::es) (sV we wr):=⟨pds_v he.h hr.h hs⟩
theorem QaG (i:Nat) {x:Str} {pos:Pos} {es:List Expr} {wr:DSl} (hr:QAs X E es wr) (hN:X.N[i]? = some x:=by rfl) (hv:Vis X.env.scope x:=by first | exact Or.inl rfl | exact Or.inr (Or.inl rfl) | exact Or.inr (Or.inr rfl)) (hd:(x == ("__debug__" : Str))=false:=by decide) (hcd:(x == ("__classdict__" : Str))=false:=by decide):QAs X E (.Name x pos::es) (sPot i wr):=⟨QlI (pv i hN hv hd hcd) hr.h rfl⟩
theorem Qaw {CX:CXT} {k:Nat} {f:Addr} {fd:FuncData} {ps:List Str} {x:Str} {p pos:Pos} {e:Expr} {es:List Expr} {fD:DF} {wa:DSl} (G:FnOk X.prog X.w X.K X.mg X.base CX k f fd ps (toSp false fD)) (hr:Room k X.A) (hg:Gl X x) (hm:X.mg x=some (.ref f)) (hk:PySem.W.keepIn X.K (.ref f)=true) (hb:Binds X.K fd ps []) (hx:QcE CX X E) (ha:QAs X E (e::es) wa) (hdb:(x == ("__debug__" : Str))=false:=by decide) (he:starEach (e::es) X.env=(false,eval e X.env)::starEach es X.env:=by rfl) (hpl:(backTo pos (starEach es X.env)).any (·.1)=false:=by rfl):QE .D X E (.Call (.Name x p) (e::es) [] pos) (Qiv fD wa):=⟨QlV G hr hg hm hk hb hx ha.h hdb he hpl⟩
theorem QaI {CX:CXT} {k:Nat} {f:Addr} {fd:FuncData} {ps:List Str} {x:Str} {p pos:Pos} {e:Expr} {es:List Expr} {fD:DF} {wa:DSl} (G:FnOk X.prog X.w X.K X.mg X.base CX k f fd ps (toSp true fD)) (hr:Room k X.A) (hg:Gl X x) (hm:X.mg x=some (.ref f)) (hk:PySem.W.keepIn X.K (.ref f)=true) (hb:Binds X.K fd ps []) (hx:QcE CX X E) (ha:QAs X E (e::es) wa) (hdb:(x == ("__debug__" : Str))=false:=by decide) (he:starEach (e::es) X.env=(false,eval e X.env)::starEach es X.env:=by rfl) (hpl:(backTo pos (starEach es X.env)).any (·.1)=false:=by rfl):QE .F X E (.Call (.Name x p) (e::es) [] pos) (Qiv fD wa):=⟨QjJ G hr hg hm hk hb hx ha.h hdb he hpl⟩
theorem q_cell {k:Nat} {f:Addr} {fd:FuncData} {ps:List Str} {x y:Str} {p pos pos2:Pos} {b:Expr} {wb:DE} (i:Nat) (G:FnOk X.prog X.w X.K X.mg X.base CX0 k f fd ps (QbV X.K)) (hr:Room k X.A) (hg:Gl X x) (hm:X.mg x=some (.ref f)) (hk:PySem.W.keepIn X.K (.ref f)=true) (hb:Binds X.K fd ps []) (h:QE .P X E b wb) (hN:X.N[i]? = some y:=by rfl) (hv:Vis X.env.scope y:=by first | exact Or.inl rfl | exact Or.inr (Or.inl rfl) | exact Or.inr (Or.inr rfl)) (hd:(y == ("__debug__" : Str))=false:=by decide) (hcd:(y == ("__classdict__" : Str))=false:=by decide) (h2:notStar b=true:=by rfl) (hdb:(x == ("__debug__" : Str))=false:=by decide):QE .F X E (.Call (.Name x p) [.Name y pos2,b] [] pos) (QmC i wb):=⟨QlU G hr hg hm hk hb (pv i hN hv hd hcd) h.h rfl h2 hdb⟩
theorem q_lenS {y:Str} {p pos pos2:Pos} (i:Nat) (hg:Gl X "len") (hm:X.mg "len" = none) (hN:X.N[i]? = some y:=by rfl) (hv:Vis X.env.scope y:=by first | exact Or.inl rfl | exact Or.inr (Or.inl rfl) | exact Or.inr (Or.inr rfl)) (hd:(y == ("__debug__" : Str))=false:=by decide) (hcd:(y == ("__classdict__" : Str))=false:=by decide):QE .F X E (.Call (.Name "len" p) [.Name y pos2] [] pos) (QmB i):=⟨QlR hg hm (pv i hN hv hd hcd) rfl⟩
theorem Qa2 (i:Nat) {x:Str} {pos:Pos} (hN:X.N.Nodup) (hi:X.N[i]? = some x) (hx:Loc X.env.scope x) (hf:X.fn x=true∨X.env.scope.names.lookup x=some .local:=by first | exact .inl rfl | exact .inr rfl | assumption):QG [i] X (.Name x pos) (gN i):=⟨QjH (Qci hN hi hx hf)⟩
structure QGs (X:Cx) (es:List Expr) (is:List Nat):Prop where h:PGs X es (gNs is)
theorem QcA  : QGs X [] []:=⟨Qhn⟩
theorem QaE (i:Nat) {is:List Nat} {x:Str} {pos:Pos} {es:List Expr} (h:QGs X es is) (hN:X.N.Nodup) (hi:X.N[i]? = some x) (hx:Loc X.env.scope x) (hf:X.fn x=true∨X.env.scope.names.lookup x=some .local:=by first | exact .inl rfl | exact .inr rfl | assumption) (hs:(assignEach (.Name x pos::es) X.env).map (·.2)=assign (.Name x pos) X.env::(assignEach es X.env).map (·.2):=by rfl):QGs X (.Name x pos::es) (i::is):=⟨QdR (Qci hN hi hx hf) h.h hs⟩
theorem Qcz {es:List Expr} {k:Nat} {pos:Pos} {is:List Nat} (hc:X.calm=true) (h:QGs X es is) (hn:(assignEach es X.env).length=is.length:=by rfl) (hst:(assignEach es X.env).findIdx? (·.1)=none:=by rfl):QG is X (.Tuple es k pos) (gTN is):=⟨QlP (QkI hc h.h hn hst) rfl⟩
theorem Qhf {m:Md} {tg e:Expr} {w:DE} (h:QE m X E e w):QI m X E tg e (dItL w):=⟨QjG h.h⟩
theorem QfC {m:Md} {tg e:Expr} {w:DE} (h:QE m X E e w):QI m X E tg e (dItT w):=⟨QlO h.h⟩
theorem Qbu {m:Md} {tg e:Expr} {w:DE} {p pos:Pos} (hg:Gl X "range") (hm:X.mg "range" = none) (h:QE .P X E e w) (hs:notStar e=true:=by rfl):QI m X E tg (.Call (.Name "range" p) [e] [] pos) (dRng1 w):=⟨QjF hg hm h.h hs⟩
theorem QcJ {m:Md} {e:Expr} {w:DE} {p pos tpos:Pos} {elts:List Expr} {x1} (hg:Gl X "enumerate") (hm:X.mg "enumerate" = none) (h:QE m X E e w) (hs:notStar e=true:=by rfl):QI m X E (.Tuple elts x1 tpos) (.Call (.Name "enumerate" p) [e] [] pos) (dEnT w):=⟨Qhs hg hm h.h hs⟩
theorem Qlr {m:Md} {e e':Expr} {w w':DE} {p pos tpos:Pos} {elts:List Expr} {x1} (hg:Gl X "zip") (hm:X.mg "zip" = none) (h:QE m X E e w) (h':QE m X E e' w') (hs:notStar e=true:=by rfl) (hs':notStar e'=true:=by rfl):QI m X E (.Tuple elts x1 tpos) (.Call (.Name "zip" p) [e,e'] [] pos) (dZiT w w'):=⟨QjE hg hm h.h h'.h hs hs'⟩
theorem QbM  : QTs X E [] dNoT:=⟨Qjv⟩
theorem QdO {c:Expr} {t:DT} (h:QT X E c t):QTs X E [c] t:=⟨Qju h.h⟩
theorem QbZ (M:List Str) (cap:List (Option Nat)) {elt tg iter:Expr} {ifs:List Expr} {scope:Scope} {pos:Pos} {ix:List Nat} {wi:DI} {wg:DG} {wt:DT} {we:DE} (hi:QI .P X E tg iter wi) (hb:∀ cl ex s3 H3 C,QG ix (blk X M scope cl ex s3 H3 C) tg wg/\QTs (blk X M scope cl ex s3 H3 C) E0 ifs wt/\QE .D (blk X M scope cl ex s3 H3 C) E0 elt we) (hc:X.calm=true:=by rfl) (ok:QeH X.N X.env.scope M scope cap=true:=by rfl) (hf:Qcr cap ix=true:=by rfl) (hs:∀ x,foldedSetIterable iter X.env x=pure x:=by intro _;rfl):QE .F X E (.ListComp elt [⟨tg,iter,ifs,0⟩] scope pos) (dComp cap wi wg wt we):=⟨QlT hc ok hf hi.h (fun cl ex s3 H3 C=>⟨(hb cl ex s3 H3 C).1.h,(hb cl ex s3 H3 C).2.1.h,(hb cl ex s3 H3 C).2.2.h⟩) hs⟩
theorem Qa1  : QSs X E [] dSkip:=⟨Qjw⟩
theorem Qah {st:Stmt} {w:DS} (h:QS X E st w):QSs X E [st] w:=⟨QlJ h.h⟩
theorem Qac {st:Stmt} {rest:List Stmt} {w w':DS} (h:QS X E st w) (h':QSs X E rest w'):QSs X E (st::rest) (dSeq w w'):=⟨QjB h.h h'.h⟩
theorem Qhd {sts:List Stmt}:QSs X E sts (fun _ _=>False):=⟨Qhr⟩
theorem QaP (i:Nat) {x:Str} {e:Expr} {pos pos':Pos} {we:DE} (he:QE .D X E e we) (hN:X.N.Nodup) (hi:X.N[i]? = some x:=by rfl) (hx:Loc X.env.scope x:=by first | exact Or.inl rfl | exact Or.inr rfl) (hs:swapsWith e (some (.Name x pos')) pos.line X.env=pure false:=by rfl) (hf:X.fn x=true∨X.env.scope.names.lookup x=some .local:=by first | exact .inl rfl | exact .inr rfl | assumption):QS X E (.Assign [.Name x pos'] e pos) (dSet i we):=⟨Qhq (Qb0 hN hi hx he.h hs hf)⟩
theorem QdP (i:Nat) {x:Str} {e:Expr} {pos pos':Pos} {we:DE} (he:QE .F X E e we) (hN:X.N.Nodup) (hi:X.N[i]? = some x:=by rfl) (hx:Loc X.env.scope x:=by first | exact Or.inl rfl | exact Or.inr rfl) (hs:swapsWith e (some (.Name x pos')) pos.line X.env=pure false:=by rfl) (hf:X.fn x=true∨X.env.scope.names.lookup x=some .local:=by first | exact .inl rfl | exact .inr rfl | assumption):QS X E (.Assign [.Name x pos'] e pos) (dSetF i we):=⟨Qjy (Qb0 hN hi hx he.h hs hf)⟩
theorem Qlp (i:Nat) {x:Str} {e:Expr} {pos pos':Pos} {we:DE} (he:QE .F X E e we) (hN:X.N.Nodup) (hi:X.N[i]? = some x:=by rfl) (hx:Loc X.env.scope x:=by first | exact Or.inl rfl | exact Or.inr rfl) (hs:swapsWith e (some (.Name x pos')) pos.line X.env=pure false:=by rfl) (hf:X.fn x=true∨X.env.scope.names.lookup x=some .local:=by first | exact .inl rfl | exact .inr rfl | assumption):QS X E (.Assign [.Name x pos'] e pos) (dSetP i we):=⟨Qjx (Qb0 hN hi hx he.h hs hf)⟩
theorem qs_asg {tg e:Expr} {pos:Pos} {ix:List Nat} {we:DE} {wg:DG} (he:QE .D X E e we) (hg:QG ix X tg wg) (hs:swapsWithSole [tg] e pos.line X.env=pure false:=by rfl) (hw:swappedStores [tg] e X.env=pure none:=by rfl) (h1:(assignEach [tg] X.env).map (·.2)=[assign tg X.env]:=by rfl):QS X E (.Assign [tg] e pos) (dAsg we wg):=⟨QlN (Qhj he.h hg.h hs hw h1)⟩
theorem QaW {e:Expr} {pos:Pos} {we:DE} (h:QE .D X E e we):QS X E (.Return (some e) pos) (dRet we):=⟨QlG h.h⟩
theorem Qbl {e:Expr} {pos:Pos} {we:DE} (h:QE .F X E e we):QS X E (.Return (some e) pos) (dRetF we):=⟨Qjz h.h⟩
theorem QcF {c:Expr} {a b:List Stmt} {pos:Pos} {t:DT} {w w':DS} (hc:QT X E c t) (ha:QSs X E a w) (hb:QSs X E b w'):QS X E (.If c a b pos) (dIf t w w'):=⟨pds_if hc.h ha.h hb.h⟩
theorem Qhe {y:Str} {e:Expr} {we:DE} {apos cpos pos npos:Pos} (i:Nat) (he:QE .P X E e we) (hN:X.N[i]? = some y:=by rfl) (hv:Vis X.env.scope y:=by first | exact Or.inl rfl | exact Or.inr (Or.inl rfl) | exact Or.inr (Or.inr rfl)) (hd:(y == ("__debug__" : Str))=false:=by decide) (hcd:(y == ("__classdict__" : Str))=false:=by decide) (hst:notStar e=true:=by rfl) (hbase:attributeBase (.Name y npos) "extend" X.env (eval (.Name y npos) X.env)=eval (.Name y npos) X.env:=by rfl) (hfew:((backTo cpos (starEach [e] X.env)).all (fun x => !x.1)&&(backToKw cpos (keywordEach [] X.env)).all (fun x=>x.1.isSome)&&decide ([e].length+([]:List Keyword).length+(if ([]:List Keyword).isEmpty then 0 else 1)<30))=true:=by rfl) (hline:(apos.endLine == cpos.line)=true:=by rfl) (hsw:swapsWith (.Call (.Attribute (.Name y npos) "extend" apos) [e] [] cpos) none pos.line X.env=pure false:=by rfl):QS X E (.Expr (.Call (.Attribute (.Name y npos) "extend" apos) [e] [] cpos) pos) (dExt i we):=⟨QlM (Qhi (QlA PySem.F.plainAttrs_list PySem.F.slot_list_extend PySem.F.type_list_extend QhS (pv i hN hv hd hcd) (pa_c he.h Qam hst) hbase hfew hline (QaD hst) rfl) hsw)⟩
theorem qs_put {y:Str} {e k:Expr} {we wk:DE} {pos spos npos:Pos} (i:Nat) (he:QE .D X E e we) (hk:QE .P X E k wk) (hN:X.N[i]? = some y:=by rfl) (hv:Vis X.env.scope y:=by first | exact Or.inl rfl | exact Or.inr (Or.inl rfl) | exact Or.inr (Or.inr rfl)) (hd:(y == ("__debug__" : Str))=false:=by decide) (hcd:(y == ("__classdict__" : Str))=false:=by decide) (ha:∀ v,assign (.Subscript (.Name y npos) k spos) X.env v=(do
      let ov <- holding [v] (eval (.Name y npos) X.env)
      let iv <- holding [v,ov] (eval k X.env)
      standAt spos
      holding [v,ov,iv] (setItem ov iv v)
      release [v,ov,iv] []):=by intro _;rfl) (hs:swapsWithSole [.Subscript (.Name y npos) k spos] e pos.line X.env=pure false:=by rfl) (hw:swappedStores [.Subscript (.Name y npos) k spos] e X.env=pure none:=by rfl) (h1:(assignEach [.Subscript (.Name y npos) k spos] X.env).map (·.2)=[assign (.Subscript (.Name y npos) k spos) X.env]:=by rfl):QS X E (.Assign [.Subscript (.Name y npos) k spos] e pos) (dPut i wk we):=⟨QlH (Qhj he.h (QkJ (pv i hN hv hd hcd) hk.h Qfx ha) hs hw h1)⟩
theorem Qcy {tg iter:Expr} {body:List Stmt} {pos:Pos} {ix:List Nat} {wi:DI} {wg:DG} {wb:DS} (hp:PassesOwn (model X.prog X.w) X.A X.env X.xe) (hc:X.calm=true) (hi:QI .D X E tg iter wi) (hg:QG ix X tg wg) (hb:QSs X E body wb) (hs:∀ x,foldedSetIterable iter X.env x=pure x:=by intro _;rfl):QS X E (.For tg iter body [] pos) (dFor wi wg wb):=⟨QlL hp hc hi.h hg.h hb.h hs⟩
theorem Qlq {e:Expr} {we:DE} {pos:Pos} (he:QE .P X E e we) (hs:swapsWith e none pos.line X.env=pure false:=by rfl):QS X E (.Expr e pos) (dExpr we):=⟨QjA (Qhi he.h hs)⟩
end
section
variable {P:Program} {w:World} {K:PySem.W.Frag} {mg:Str->Option Value} {base:Heap}
theorem okQ {x qual:Str} {st:Stmt} {f:Addr} {fd:FuncData} {N ps:List Str} {k:Nat} {fD:DF} (fr:Bool) (F:Fun K x qual st f fd) (S:FnScope N ps (Qaa st)) (len:∀ args R EX,fD args R EX->args.length=ps.length)
    (hbody:∀ (cdv:Value) (A:Around) (outer:List Env) (s:Shared) (H:Hp) (E:XK),Room k (A.deeper (envOfC qual (Qaa st) s.heap.objs.size f cdv)) ->
      ∃ wd,QSs (cxOf CX0 P w K mg base N qual (Qaa st) f cdv A outer s H E).nox E0 (Qan st) wd/\∀ args R EX,fD args R EX->wd (Qmy fr R XF) (stD N args)):FnOk P w K mg base CX0 (k+1) f fd ps (toSp fr fD):=
  okD fr F S len fun cdv A outer s H E hr=>let ⟨wd,h,q⟩:=hbody cdv A outer s H E hr;⟨wd,h.h,q⟩
theorem okQL {x qual:Str} {st:Stmt} {f:Addr} {fd:FuncData} {N:List Str} {p:Str} {k:Nat} (F:Fun K x qual st f fd) (S:FnScope N [p] (Qaa st))
    (hbody:∀ (cdv:Value) (A:Around) (outer:List Env) (s:Shared) (H:Hp) (E:XK),Room k (A.deeper (envOfC qual (Qaa st) s.heap.objs.size f cdv)) ->
      ∃ wd,QSs (cxOf CX0 P w K mg base N qual (Qaa st) f cdv A outer s H E).nox E0 (Qan st) wd/\wd endsL (stD N [.scr])):FnOk P w K mg base CX0 (k+1) f fd [p] (spLawD K):=
  okLaw F S fun cdv A outer s H E hr=>let ⟨wd,h,q⟩:=hbody cdv A outer s H E hr;⟨wd,h.h,q⟩
end
structure GOk (wg:DG):Prop where h:∀ d δ Q,wg d δ Q->wg d δ fun δ'=>(∀ (j:Nat) x,δ'[j]? = some x->(∃ e,x=.v e)∨δ[j]? = some x)/\Q δ'
theorem Qka (i:Nat):GOk (gN i):=⟨fun d δ Q h=>⟨fun j x e=>by
  by_cases z:j=i
  · subst z;exact .inl ⟨d,set_eq e⟩
  · rw [Qa4 z] at e;exact .inr e,h⟩⟩
theorem Qih {cap:List (Option Nat)} {ix:List Nat} (hf:Qcr cap ix=true) {i:Nat} (hi:i∈ix):cap[i]? = some none:=by
  have:=List.all_eq_true.mp hf i hi
  split at this
  · assumption
  · cases this
theorem QcM {cap:List (Option Nat)} {ix:List Nat} (hf:Qcr cap ix=true) {δ:Sts} {i:Nat} {x:Sl} (h:(capD cap δ)[i]? = some x) (hx:x≠.no):i∉ix:=fun z=>by
  rcases Qd4 h with ⟨_,e⟩ | ⟨j,hj,_⟩
  · exact hx e
  · rw [Qih hf z] at hj;cases hj
section
variable {K:PySem.W.Frag} {σ σ4:L2.St} {δ δ4:Sts} {cap:List (Option Nat)} {ix:List Nat} {A1:Addr->Prop} {H3 H5 H6:Hp}
theorem QkR (hP:∀ a,PotA σ δ a->A1 a) (hf:Qcr cap ix=true) (j4:∀ j,j∉ix->σ4[j]? = (capS cap σ)[j]?) (gk:∀ (j:Nat) x,δ4[j]? = some x->(∃ e,x=.v e)∨(capD cap δ)[j]? = some x) {a:Addr} (h:Av (inF A1 cap σ δ H3) σ4 δ4 a):A1 a:=by
  rcases h with z | ⟨i,h1,h2⟩
  · exact z
  · refine (QfV (cap:=cap) (H:=H3) hP).mp ?_
    rcases h2 with h2 | ⟨ds,h2⟩
    · rcases gk i _ h2 with ⟨e,z⟩ | z
      · cases z
      · exact .inr ⟨i,by rw [<- j4 i (QcM hf z (fun z=>by cases z))];exact h1,.inl z⟩
    · rcases gk i _ h2 with ⟨e,z⟩ | z
      · cases z
      · exact .inr ⟨i,by rw [<- j4 i (QcM hf z (fun z=>by cases z))];exact h1,.inr ⟨ds,z⟩⟩
theorem Qmr (hP:∀ a,PotA σ δ a->A1 a) (hf:Qcr cap ix=true) (j4:∀ j,j∉ix->σ4[j]? = (capS cap σ)[j]?) (gk:∀ (j:Nat) x,δ4[j]? = some x->(∃ e,x=.v e)∨(capD cap δ)[j]? = some x)
    (ri:Rel K (inF A1 cap σ δ H6) (capS cap σ) H6 (capD cap δ)) (r5:Rel K (inF A1 cap σ δ H3) σ4 H5 δ4) (kk:∀ a o,¬ A1 a->H5 a=some o->H6 a=some o):Rel K (inF A1 cap σ δ H6) σ4 H6 δ4 where
  len:=r5.len
  dom:=ri.dom
  dom0:=ri.dom0
  pt0:=ri.pt0
  kx:=ri.kx
  sl:=fun i o x h1 h2=>by
    have iv:∀ {a:Addr},Av (inF A1 cap σ δ H6) σ4 δ4 a->A1 a:=fun {a} z=>QkR hP hf j4 gk z
    rcases gk i x h2 with ⟨d,rfl⟩ | hx
    · obtain ⟨v,e,q⟩:=r5.sl i o _ h1 h2
      exact ⟨v,e,q.mv (fun a o n e=>kk a o (fun z=>n (.inl z)) e) fun a z=>.inl (.inl (iv z))⟩
    · by_cases hn:x=.no
      · subst hn;trivial
      · have h1':(capS cap σ)[i]? = some o:=by rw [<- j4 i (QcM hf hx hn)];exact h1
        have h:=ri.sl i o x h1' hx
        cases x with
        | no=>trivial
        | v d=>obtain ⟨v',e,q'⟩:=h;exact ⟨v',e,q'.mv (fun _ _ _ e=>e) fun a z=>.inl (.inl (iv z))⟩
        | own ds=>obtain ⟨l,xs,e,e2,q',f⟩:=h;exact ⟨l,xs,e,e2,q'.mv (fun _ _ _ e=>e) fun a z=>.inl (.inl (iv z)),f⟩
        | pk ds=>obtain ⟨l,xs,e,e2,q',f⟩:=h;exact ⟨l,xs,e,e2,q'.mv (fun _ _ _ e=>e) fun a z=>.inl (.inl (iv z)),f⟩
        | pot=>exact h
        | scr=>exact h
  inj:=fun i j a ds h1 h2 _=>by
    rcases gk i _ h1 with ⟨e,z⟩ | z
    · cases z
    · rcases Qd4 z with ⟨_,e⟩ | ⟨j,hj,e⟩
      · cases e
      · exfalso
        cases e2:δ[j]? with
        | none=>rw [e2] at e;cases e
        | some y=>rw [e2] at e;cases y<;>cases e
end
theorem Qi3 {K:PySem.W.Frag} {F:Fm} {σ:L2.St} {δ:Sts} {H1 H3:Hp} {cap:List (Option Nat)} {ix:List Nat} {wg:DG} {wt:DT} {A1:Addr->Prop} {x:V} {d:PyData} {inner:L2.St->Hp->(Hp->Prop)->Prop} {kk:Hp->Prop} {T:Sts->Prop} {N:Prop} (gok:GOk wg)
    (hf:Qcr cap ix=true) (rel:Rel K F σ H1 δ) (hA:∀ a,Av F σ δ a->A1 a) (hN:∀ a,A1 a->Av F σ δ a∨H1 a=none) (dm:∀ a,A1 a->∃ xs,H3 a=some (.lst xs)) (kp:Kp σ δ H1 H3) (dx:DA A1 H3 x d)
    (h:wg d (capD cap δ) fun δ4=>wt δ4 (fun b=>if b=true then T δ4 else N) XF)
    (hT:∀ σ4 δ4 H5,T δ4->Rel K (inF A1 cap σ δ H3) σ4 H5 δ4->Kp σ δ H3 H5->(∀ j,j∉ix->σ4[j]? = (capS cap σ)[j]?)->σ4.length=(capS cap σ).length->(∀ (j:Nat) x,δ4[j]? = some x->(∃ e,x=.v e)∨(capD cap δ)[j]? = some x)->inner σ4 H5 kk) (hF:N->∀ H5,Kp σ δ H3 H5->kk H5) :
    bOf (capS cap σ) (tG ix K wg) (tT K E0 wt) inner x H3 kk:=by
  have ri:=Qh8 (cap:=cap) rel hA hN dm kp
  have iv:∀ {a:Addr},Av (inF A1 cap σ δ H3) (capS cap σ) (capD cap δ) a->A1 a:=fun {a}=>(QfV fun a z=>hA a (Qa5 z)).mp
  refine ⟨inF A1 cap σ δ H3,capD cap δ,d,_,ri,dx.mv (fun _ _ _ e=>e) fun a z=>.inl (iv z),gok.h _ _ _ h,fun δ4 ⟨g4,h4⟩ σ4 r4 st4 l4 j4=>⟨QkY hf l4 j4,inF A1 cap σ δ H3,δ4,_,XF,r4,h4,fun b hb H5 r5 kp5=>?_,outF⟩⟩
  have pots:∀ {b:Addr},PotA σ4 δ4 b->PotA σ δ b:=fun z=>Qfg r4 (fun b o _ e1 e2=>by rw [e2] at e1;cases e1) z
  have K5:Kp σ δ H3 H5:=by
    refine ⟨fun b o n e=>kp5.1 b o (fun z=>n (pots z)) e,fun b hb=>?_⟩
    by_cases z:PotA σ4 δ4 b
    · exact kp5.2 b z
    · obtain ⟨n,e⟩:=kp.2 b hb
      exact ⟨n,kp5.1 _ _ z e⟩
  exact Qb3 hb (fun z=>hT σ4 δ4 H5 z r5 K5 j4 l4 g4) fun z=>hF z H5 K5
theorem QmA {K:PySem.W.Frag} {σ σ4:L2.St} {δ δ4:Sts} {H1 H3 H5:Hp} {cap:List (Option Nat)} {we:DE} {A1:Addr->Prop} {p:Addr} {acc:List PyData} {kk:Hp->Prop} {G:PyData->Prop}
    (hpA:A1 p) (hP:∀ a,PotA σ δ a->A1 a) (hp1:H1 p=none) (hpn:¬ PotA σ δ p) (lp:Lp σ δ A1 p H1 H5 acc) (hl:acc.length<sizeLine) (r5:Rel K (inF A1 cap σ δ H3) σ4 H5 δ4) (pots:∀ b,PotA σ4 δ4 b->PotA σ δ b)
    (h:we δ4 G XF) (hk:∀ e,G e->∀ H',Lp σ δ A1 p H1 H' (acc++[e])->(∀ b o,¬ A1 b->H5 b=some o->H' b=some o)->kk H'):bElt p (tX .D K E0 we) σ4 H5 kk:=by
  refine ⟨inF A1 cap σ δ H3,δ4,G,XF,r5,h,fun e he v H6 r6 kp6 dv=>?_,outF⟩
  have k56:Kp σ δ H5 H6:=by
    refine ⟨fun b o n e=>kp6.1 b o (fun z=>n (pots b z)) e,fun b hb=>?_⟩
    by_cases z:PotA σ4 δ4 b
    · exact kp6.2 b z
    · obtain ⟨n,e⟩:=lp.kp.2 b hb
      exact ⟨n,kp6.1 _ _ z e⟩
  obtain ⟨k6,ys,e6,q6⟩:=lp.step hP hpn k56
  have up:∀ {b:Addr} {o:HO},¬ A1 b->H6 b=some o->upd H6 p (.lst (ys++[v])) b=some o:=fun {b o} n e=>by rw [Qai (fun z=>n (by rw [z];exact hpA))];exact e
  refine ⟨ys,e6,by rw [q6.length];exact hl,hk e he _ ⟨⟨fun b o n e=>?_,fun b hb=>?_⟩,ys++[v],Qad,DAs.app (q6.mv (fun _ _=>up) fun a z=>.inl z) (.cons (DA.mv dv (fun a o n e=>up (fun z=>n (.inl z)) e) fun a z=>.inl (.inl z)) .nil)⟩ fun b o n e=>up n (kp6.1 b o (fun z=>n (hP b (pots b z))) e)⟩
  · rw [Qai (fun z=>by rw [z,hp1] at e;cases e)]
    exact k6.1 b o n e
  · rw [Qai (fun z=>hpn (by rw [<- z];exact hb))]
    exact k6.2 b hb
def Qml:Nat:=1000000
@[irreducible] def InR (items2:List PyData) (wg2:DG) (wt2:DT) (we:DE) (δ4:Sts) (acc:List PyData) (N:List PyData->Prop):Prop:=∃ Jv:Nat->List PyData->Prop,Jv 0 acc /\
  (∀ (j:Nat) acc2 d2,items2[j]? = some d2->Jv j acc2->acc2.length<Qml/\wg2 d2 δ4 fun δ5=>wt2 δ5 (fun b=>if b=true then we δ5 (fun e=>Jv (j+1) (acc2++[e])) XF else Jv (j+1) acc2) XF)/\∀ acc2,Jv items2.length acc2->N acc2
@[irreducible] def Qgd (items:List PyData) (wg:DG) (wt:DT) (wi2:DI) (wg2:DG) (wt2:DT) (we:DE) (δ:Sts) (Q:PyData->Prop):Prop:=∃ Iv:Nat->List PyData->Prop,Iv 0 [] /\
  (∀ (i:Nat) acc d,items[i]? = some d->Iv i acc->wg d δ fun δ4=>wt δ4 (fun b=>if b=true then wi2 δ4 (fun items2=>InR items2 wg2 wt2 we δ4 acc (Iv (i+1))) XF else Iv (i+1) acc) XF)/\∀ acc,Iv items.length acc->Q (.list acc)
def QkW (cap:List (Option Nat)) (wi:DI) (wg:DG) (wt:DT) (wi2:DI) (wg2:DG) (wt2:DT) (we:DE):DE:=fun δ Q EX=>wi δ (fun items=>Qgd items wg wt wi2 wg2 wt2 we (capD cap δ) Q) EX
section
variable {X:Cx} {E:XK}
theorem Qj2:Qml<=sizeLine:=Nat.le_trans (by decide) Qgy
end
section
variable {X:Cx} {E:XK}
end
theorem in_fm {items2:List PyData} {wg2:DG} {wt2:DT} {we:DE} {δ4:Sts} {acc:List PyData} {N:List PyData->Prop} (G:PyData->Option PyData) (hl:acc.length+items2.length<Qml)
    (h:∀ d∈items2,∀ (k1:Prop) (k2:PyData->Prop),(G d=none->k1)->(∀ e,G d=some e->k2 e)->wg2 d δ4 fun δ5=>wt2 δ5 (fun b=>if b=true then we δ5 k2 XF else k1) XF) (q:N (acc++items2.filterMap G)) :
    InR items2 wg2 wt2 we δ4 acc N:=by
  unfold InR
  refine ⟨fun i acc2=>acc2=acc++(items2.take i).filterMap G,by simp,fun i acc2 d hd e=>?_,fun acc2 e=>by rw [e,List.take_length];exact q⟩
  have e:acc2=acc++(items2.take i).filterMap G:=e
  have hs:(items2.take (i+1)).filterMap G=(items2.take i).filterMap G++(G d).toList:=by
    rw [List.take_add_one,hd,List.filterMap_append]
    cases e2:G d<;>simp [e2]
  refine ⟨?_,h d (List.mem_of_getElem? hd) _ _ (fun e2=>?_) fun e' e2=>?_⟩
  · have:=List.length_filterMap_le G (items2.take i)
    have h2:(items2.take i).length<=items2.length:=by rw [List.length_take];exact Nat.min_le_right _ _
    rw [e,List.length_append]
    omega
  · show acc2=acc++(items2.take (i+1)).filterMap G
    rw [hs,e2,e];simp
  · show acc2++[e']=acc++(items2.take (i+1)).filterMap G
    rw [hs,e2,e];simp
def Qg8:List V->Hp->VK->Prop:=fun xs H Q=>∃ l ns,xs=[.ref l]/\H l=some (.lst ((ns:List Int).map V.int))/\ns.length<64 /\
  ∀ t ms H2,Same H H2->H t=none->H2 t=some (.lst ((ms:List Int).map V.int))->ms.Perm ns->ms.Pairwise (·<=·)->Q (.ref t) H2
section
open Rs PySem.W PySem.Calls
variable {X:Cx}
theorem Qfl:CallR X (.builtin "sorted") Qg8:=by
  intro pins s σ H xs us Q I r h
  obtain ⟨l,ns,rfl,hl,h64,q⟩:=h
  obtain ⟨u,rfl,ru⟩:=QbK r
  cases ru
  obtain ⟨hz,its,n,rv,ho⟩:=I.hok l _ hl
  have li:=rv.length
  rw [List.length_map] at li
  refine Qcu (.inl rfl) ho rfl rfl (by omega) fun h' kp P E' hP=>?_
  have hn:(h'.push (seqObj "list" its.toArray 0)).get? h'.objs.size=some (seqObj "list" its.toArray 0):=Heap.get?_push_size _ rfl
  refine list_sort_tree (s:={ s with heap:=h'.push (seqObj "list" its.toArray 0) }) hn (QdZ rv) (by omega) fun out ns' ia pm pw=>hP _ ?_
  have I1:Inv X pins σ H { s with heap:=h' }:=I.kept (t':=s.toks) kp
  have hf:H h'.objs.size=none:=I1.hok.fresh (Nat.le_refl _)
  obtain ⟨e,he⟩:∃ e,(sortedHeap (h'.push (seqObj "list" its.toArray 0)) h'.objs.size its out).get? h'.objs.size=some (seqObj "list" out e):=sortedHeap_at hn
  have rv':=Qd7 ia
  have lp:=pm.length_eq
  have I2:Inv X pins σ (upd H h'.objs.size (.lst (ns'.map V.int))) { s with heap:=sortedHeap (h'.push (seqObj "list" its.toArray 0)) h'.objs.size its out }:=
    I1.laid (t':=s.toks) (fun b x e'=>(sortedHeap_old (Nat.ne_of_lt (Heap.lt_size e')) (Nat.lt_of_lt_of_le (Heap.lt_size e') (by rw [size_push'];exact Nat.le_succ _))).trans (Heap.get?_push_of_some _ e')) (Nat.le_refl _) (show ObjOk X.prog X.w _ _ _ (.lst _) from ⟨by rw [List.length_map];exact Nat.le_of_lt (Rk.lt_line (by omega)),out.toList,e,rv',by rw [he]⟩)
  exact ⟨.ref h'.objs.size,_,I2,rfl,q _ ns' _ (Qab hf) hf Qad pm pw⟩
def QkC (K:PySem.W.Frag):List V->Hp->VK->Prop:=fun xs H Q=>QkB K xs H Q∨Qg8 xs H Q
theorem QgE:CallR X (.builtin "sorted") (QkC X.K):=by
  intro pins s σ H xs us Q I r h
  rcases h with h | h
  · exact QgD pins s σ H xs us Q I r h
  · exact Qfl pins s σ H xs us Q I r h
end
@[irreducible] def QgW:List PyData->(PyData->Prop)->Prop
  | [.list ds],Q=>∃ ns,Qbs ds=some ns/\ns.length<64/\∀ ms:List Int,ms.Perm ns->ms.Pairwise (·<=·)->Q (.list (ms.map .int))
  | [.tuple ds],Q=>∃ ns,Qbs ds=some ns/\ns.length<64/\∀ ms:List Int,ms.Perm ns->ms.Pairwise (·<=·)->Q (.list (ms.map .int))
  | _,_=>False
theorem QcL {A:Addr->Prop} {H:Hp}:∀ ms:List Int,DAs A H (ms.map V.int) (ms.map .int)
  | []=>.nil
  | m::ms=>.cons (.int m) (QcL ms)
theorem QmG {K:PySem.W.Frag}:Qbx (QkC K) QgW:=fun A P H vs ds R Q ln dm q h k=>by
  unfold QgW at h
  split at h
  · obtain ⟨v,rfl,hv⟩:=pd1 q
    obtain ⟨bs,hb,h64,hR⟩:=h
    rw [Qc8 hb] at hv
    obtain ⟨l,xs,rfl,e,qq⟩:=hv.list
    rw [QbE qq] at e
    exact .inr ⟨l,bs,rfl,e,h64,fun t ms H2 s n e2 pm pw=>k _ (hR ms pm pw) _ H2 s (QcC dm s n e2 (QcL ms)) (Qbb n)⟩
  · obtain ⟨v,rfl,hv⟩:=pd1 q
    obtain ⟨bs,hb,h64,hR⟩:=h
    rw [Qc8 hb] at hv
    obtain ⟨l,xs,rfl,e,qq⟩:=hv.tuple
    rw [QbE qq] at e
    exact .inl ⟨l,bs,rfl,SqT.of e,h64,fun t ms H2 s n e2 pm pw=>k _ (hR ms pm pw) _ H2 s (QcC dm s n e2 (QcL ms)) (Qbb n)⟩
  · exact h.elim
theorem Qlb {ds:List PyData} {Q:PyData->Prop} {ns:List Int} (h:Qbs ds=some ns) (h64:ns.length<64) (k:∀ ms:List Int,ms.Perm ns->ms.Pairwise (·<=·)->Q (.list (ms.map .int))):QgW [.list ds] Q/\QgW [.tuple ds] Q:=by
  unfold QgW
  exact ⟨⟨ns,h,h64,k⟩,ns,h,h64,k⟩
end Dl
namespace PySem
namespace AutoSeq1
open PyProof PyProof.Rows
end AutoSeq1
end PySem
namespace L2
open PySem PySem.Spec PyProof.Rows
end L2
namespace Dl
open PySem PySem.Spec PyProof.Rows L2 _root_.Rd Rk
section
variable {X:Cx} {E:XK}
end
theorem fToD {K:PySem.W.Frag} {E:XK} {w:DE} (σ:L2.St) (H:Hp) (Q:VK) (h:tX .D K E w σ H Q):tX .F K E w σ H Q:=by
  obtain ⟨F,δ,R,EX,rel,hw,k,o⟩:=h
  exact ⟨F,δ,R,EX,rel,hw,fun d hd v H' r kp vk=>k d hd v H' r kp vk.1,o⟩
section
variable {X:Cx} {E:XK}
end
theorem QgC {K:PySem.W.Frag} {E:XK} {cap:List (Option Nat)} {ix ix2:List Nat} {wi wi2:DI} {wg wg2:DG} {wt wt2:DT} {we:DE} (gok:GOk wg) (hf:Qcr cap ix=true) (hf2:Qcr cap ix2=true) (hd:ix2.all (fun i => !ix.contains i)=true) (σ:L2.St) (H:Hp) (Q:VK) (h:tX .F K E (QkW cap wi wg wt wi2 wg2 wt2 we) σ H Q) :
    Qkv cap (tI .P K E wi) (tG ix K wg) (tT K E0 wt) (tI .D K E0 wi2) (tG ix2 K wg2) (tT K E0 wt2) (tX .D K E0 we) σ H Q:=by
  obtain ⟨F,δ,R,EX,rel,hw,k,o⟩:=h
  refine ⟨F,δ,_,EX,rel,hw,fun items hC J H1 rel1 kp1 ⟨ln,it⟩ p hp=>?_,o⟩
  unfold Qgd at hC
  obtain ⟨Iv,i0,step,fin⟩:=hC
  have hpn:¬ PotA σ δ p:=fun z=>by obtain ⟨xs,e⟩:=rel1.isl (Qa5 (F:=F) z);rw [hp] at e;cases e
  let A1:Addr->Prop:=fun a=>Av F σ δ a∨a=p
  have hP:∀ a,PotA σ δ a->A1 a:=fun a z=>.inl (Qa5 z)
  have hN:∀ a,A1 a->Av F σ δ a∨H1 a=none:=fun a z=>z.elim .inl fun z=>.inr (by rw [z];exact hp)
  have dmK:∀ {H2:Hp},Kp σ δ H1 H2->(∃ ys,H2 p=some (.lst ys))->∀ a,A1 a->∃ xs,H2 a=some (.lst xs):=fun {H2} k2 e2 a z=>by
    rcases z with z | z
    · exact (rel1.kp k2).isl z
    · rw [z];exact e2
  refine Qc4 items.length (fun i H2=>i<=items.length/\∃ acc,Iv i acc/\Lp σ δ A1 p H1 H2 acc) ⟨Nat.zero_le _,[],i0,Kp.same rel1 (Qab hp),[],Qad,.nil⟩ (fun i H2 hi ⟨_,acc,iv,lp⟩=>?_) fun H2 ⟨_,acc,iv,lp⟩=>?_
  · obtain ⟨k2,ys,e2,q2⟩:=lp
    obtain ⟨go,_⟩:=it H2 A1 (fun b o n e=>k2.1 b o n e) hN (dmK k2 ⟨ys,e2⟩)
    have hd':items[i]? = some items[i]:=List.getElem?_eq_getElem hi
    obtain ⟨g1,g2⟩:=go i _ hd'
    refine ⟨g1,fun x H3 y kk hk=>?_⟩
    obtain ⟨s3,dx⟩:=g2 x H3 y
    have k23:=Kp.same (rel1.kp k2) s3
    have lp3:Lp σ δ A1 p H1 H3 acc:=Lp.step hP hpn ⟨k2,ys,e2,q2⟩ k23
    refine Qi3 gok hf rel1 (fun a z=>.inl z) hN (dmK lp3.kp ⟨ys,s3 _ _ e2⟩) lp3.kp dx (step i acc _ hd' iv) (fun σ4 δ4 H5 h5 r5 k5 j4 l4 g4=>?_) fun h5 H5 k5=>hk _ ⟨hi,acc,h5,lp3.step hP hpn k5⟩
    have av4:∀ {H:Hp} {a:Addr},Av (inF A1 cap σ δ H) σ4 δ4 a->A1 a:=fun {H a} z=>QkR hP hf j4 g4 z
    refine ⟨inF A1 cap σ δ H3,δ4,_,XF,r5,h5,fun items2 hJ J2 H7 rel7 kp7 ⟨ln2,it2⟩=>?_,outF⟩
    unfold InR at hJ
    obtain ⟨Jv,z0,step2,fin2⟩:=hJ
    have pots4:∀ {b:Addr},PotA σ4 δ4 b->PotA σ δ b:=fun {b} z=>by
      obtain ⟨j,z1,z2⟩:=z
      rcases g4 j _ z2 with ⟨e,z⟩ | z
      · cases z
      · exact QbR ⟨j,by rw [<- j4 j (QcM hf z (fun z=>by cases z))];exact z1,z⟩
    have k57:Kp σ δ H5 H7:=by
      refine ⟨fun b o n e=>kp7.1 b o (fun z=>n (pots4 z)) e,fun b hb=>?_⟩
      by_cases z:PotA σ4 δ4 b
      · exact kp7.2 b z
      · obtain ⟨n,e⟩:=k5.2 b hb
        exact ⟨n,kp7.1 _ _ z e⟩
    refine Qc4 items2.length (fun j H8=>j<=items2.length/\∃ acc2,Jv j acc2/\Lp σ δ A1 p H1 H8 acc2/\∀ b o,¬ A1 b->H7 b=some o->H8 b=some o) ⟨Nat.zero_le _,acc,z0,(lp3.step hP hpn k5).step hP hpn k57,fun _ _ _ e=>e⟩ (fun j H8 hj ⟨_,acc2,jv,lp8,s78⟩=>?_) fun H8 ⟨_,acc2,jv,lp8,s78⟩=>?_
    · obtain ⟨ys8,e8,q8⟩:=lp8.at_
      obtain ⟨go2,_⟩:=it2 H8 A1 (fun b o n e=>s78 b o (fun z=>n (.inl z)) e) (fun b z=>.inl (.inl z)) (dmK lp8.kp ⟨ys8,e8⟩)
      have hd2:items2[j]? = some items2[j]:=List.getElem?_eq_getElem hj
      obtain ⟨g3,g5⟩:=go2 j _ hd2
      refine ⟨g3,fun x2 H9 y2 kk2 hk2=>?_⟩
      obtain ⟨s9,dx2⟩:=g5 x2 H9 y2
      have k89:=Kp.same (rel1.kp lp8.kp) s9
      have lp9:Lp σ δ A1 p H1 H9 acc2:=lp8.step hP hpn k89
      have ri:=Qh8 (cap:=cap) rel1 (fun a z=>.inl z) hN (dmK lp9.kp ⟨ys8,s9 _ _ e8⟩) lp9.kp
      have r9:=Qmr hP hf j4 g4 ri r5 fun a o n e=>s9 _ _ (s78 a o n (k57.1 a o (fun z=>n (hP a z)) e))
      obtain ⟨hl2,hw2⟩:=step2 j acc2 _ hd2 jv
      refine ⟨inF A1 cap σ δ H9,δ4,_,_,r9,dx2.mv (fun _ _ _ e=>e) fun a z=>.inl (av4 z),hw2,fun δ5 h6 σ5 r10 st5 l5 j5=>⟨Qi0 l5 fun i v e=>?_,inF A1 cap σ δ H9,δ5,_,XF,r10,h6,fun b hb H10 r11 kp11=>?_,outF⟩⟩
      · by_cases z:i∈ix2
        · have n1:i∉ix:=fun z2=>by
            have:=List.all_eq_true.mp hd i z
            simp [z2] at this
          rw [j4 i n1] at e
          rcases Qd3 e with ⟨_,e2⟩ | ⟨j,hj2,_⟩
          · cases e2
          · rw [Qih hf2 z] at hj2;cases hj2
        · rw [j5 i z];exact e
      · have pots:∀ {b:Addr},PotA σ5 δ5 b->PotA σ δ b:=fun z=>Qfg r10 (fun b o _ e1 e2=>by rw [e2] at e1;cases e1) z
        have K10:Kp σ δ H9 H10:=by
          refine ⟨fun b o n e=>kp11.1 b o (fun z=>n (pots z)) e,fun b hb=>?_⟩
          by_cases z:PotA σ5 δ5 b
          · exact kp11.2 b z
          · obtain ⟨n,e⟩:=lp9.kp.2 b hb
            exact ⟨n,kp11.1 _ _ z e⟩
        have s710:∀ b o,¬ A1 b->H7 b=some o->H10 b=some o:=fun b o n e=>K10.1 b o (fun z=>n (hP b z)) (s9 _ _ (s78 b o n e))
        refine Qb3 hb (fun z=>?_) fun z=>hk2 _ ⟨hj,acc2,z,lp9.step hP hpn K10,s710⟩
        exact QmA (.inr rfl) hP hp hpn (lp9.step hP hpn K10) (Nat.lt_of_lt_of_le hl2 Qj2) r11 (fun b=>pots) z fun e he H' lp' kk'=>hk2 _ ⟨hj,acc2++[e],he,lp',fun b o n e=>kk' b o n (s710 b o n e)⟩
    · obtain ⟨ys8,e8,q8⟩:=lp8.at_
      obtain ⟨_,st2⟩:=it2 H8 A1 (fun b o n e=>s78 b o (fun z=>n (.inl z)) e) (fun b z=>.inl (.inl z)) (dmK lp8.kp ⟨ys8,e8⟩)
      exact ⟨st2,hk _ ⟨hi,acc2,fin2 acc2 jv,lp8⟩⟩
  · obtain ⟨k2,ys,e2,q2⟩:=lp
    obtain ⟨_,st⟩:=it H2 A1 (fun b o n e=>k2.1 b o n e) hN (dmK k2 ⟨ys,e2⟩)
    refine ⟨st,k _ (fin acc iv) (.ref p) H2 (rel1.kp k2) (kp1.trans k2) ⟨.lst (fun z=>?_) e2 (q2.mv (fun _ _ _ e=>e) fun a z=>.inl (.inl z)),fun l e1 _=>?_⟩⟩
    · obtain ⟨xs,e⟩:=rel1.isl z
      rw [hp] at e;cases e
    · cases e1
      exact QbO kp1 hp
section
variable {X:Cx} {E:XK}
theorem Qjj (M:List Str) (cap:List (Option Nat)) (i:Nat) {elt tg iter tg2 iter2:Expr} {ifs ifs2:List Expr} {scope:Scope} {pos py spos:Pos} {y:Str} {ix ix2:List Nat} {wi wi2:DI} {wg wg2:DG} {wt wt2:DT} {we:DE} (hN:X.N.Nodup) (gok:GOk wg) (hi:QI .P X E tg iter wi) (hb:∀ cl ex s3 H3 C,QG ix (blk X M scope cl ex s3 H3 C) tg wg/\QTs (blk X M scope cl ex s3 H3 C) E0 ifs wt/\QI .D (blk X M scope cl ex s3 H3 C) E0 tg2 iter2 wi2/\QG ix2 (blk X M scope cl ex s3 H3 C) tg2 wg2/\QTs (blk X M scope cl ex s3 H3 C) E0 ifs2 wt2/\QE .D (blk X M scope cl ex s3 H3 C) E0 elt we) (hiy:X.N[i]? = some y:=by rfl) (hly:X.env.scope.names.lookup y=some .local:=by rfl) (hc:X.calm=true:=by rfl) (ok:QeH X.N X.env.scope M scope cap=true:=by rfl) (hf:Qcr cap ix=true:=by rfl) (hf2:Qcr cap ix2=true:=by rfl) (hd:ix2.all (fun i => !ix.contains i)=true:=by rfl) (hs:∀ x,foldedSetIterable iter X.env x=pure x:=by intro _;rfl) (hs2:∀ env x,foldedSetIterable iter2 env x=pure x:=by intro _ _;rfl) (hsw:swapsWith (.ListComp elt [⟨tg,iter,ifs,0⟩,⟨tg2,iter2,ifs2,0⟩] scope pos) (some (.Name y py)) spos.line X.env=pure true:=by rfl):QS X E (.Assign [.Name y py] (.ListComp elt [⟨tg,iter,ifs,0⟩,⟨tg2,iter2,ifs2,0⟩] scope pos) spos) (dSet i (QkW cap wi wg wt wi2 wg2 wt2 we)):=
  ⟨Qhq (PS.imp (PS.imp (Qhh hN hiy hly hc ok hi.h (fun cl ex s3 H3 C=>⟨(hb cl ex s3 H3 C).1.h,(hb cl ex s3 H3 C).2.1.h,(hb cl ex s3 H3 C).2.2.1.h,(hb cl ex s3 H3 C).2.2.2.1.h,(hb cl ex s3 H3 C).2.2.2.2.1.h,(hb cl ex s3 H3 C).2.2.2.2.2.h⟩) hs hs2 hsw) fun D σ H q=>QgC (E:=E) gok hf hf2 hd σ H _ q) fun D σ H q=>fToD σ H _ q)⟩
end
theorem Qc1 (L:List (Int×Int)):nds (L.map Rk.pairD)=true:=QhO.mpr fun d hd=>by
  obtain ⟨i,_,rfl⟩:=List.mem_map.mp hd
  rfl
def rkD:PyData->Nat
  | .int _=>0
  | .tuple _=>1
  | _=>2
def cmpI (i j:Int):Ordering:=if i<j then .lt else if i=j then .eq else .gt
def cmpN (i j:Nat):Ordering:=if i<j then .lt else if i=j then .eq else .gt
def thn (o:Ordering) (p:Ordering):Ordering:=match o with
  | .eq=>p
  | o=>o
mutual
def cmpD:PyData->PyData->Ordering
  | .int i,.int j=>cmpI i j
  | .tuple a,.tuple b=>cmpDs a b
  | x,y=>cmpN (rkD x) (rkD y)
def cmpDs:List PyData->List PyData->Ordering
  | [],[]=>.eq
  | [],_::_=>.lt
  | _::_,[]=>.gt
  | x::xs,y::ys=>thn (cmpD x y) (cmpDs xs ys)
end
def isL:Ordering->Bool
  | .lt=>true
  | _=>false
def ltD (x y:PyData):Bool:=isL (cmpD x y)
end Dl
namespace Rt
open PySem PySem.Spec PySem.Calls PyProof.Rows Dl
section
open PySem.SeqAt
open PySem.AutoSeq1 (wpAny_loadPart')
open PySem.MeetsSeq PySem.MeetsSeq2 PySem.MeetsSeq3
end
end Rt
namespace Rt
open PySem PySem.Spec PySem.Calls PySem.W PyProof.Rows Dl
mutual
def okK:PyData->Bool
  | .int _=>true
  | .tuple ds=>okKs ds
  | _=>false
def okKs:List PyData->Bool
  | []=>true
  | d::ds=>okK d&&okKs ds
end
section
variable {prog:Program} {w:World} {A:Around} {E:Value->Shared->Prop} {s:Shared}
end
section
variable {M:Model} {A:Around} {E:Value->Shared->Prop} {s:Shared}
end
section
variable {prog:Program} {w:World} {A:Around} {E:Value->Shared->Prop} {s:Shared}
end
end Rt
namespace Rt
open PySem PySem.Spec PySem.Calls PySem.W PyProof.Rows Dl Rs
section
variable {prog:Program} {w:World} {A:Around} {E:Value->Shared->Prop} {s:Shared}
end
mutual
theorem QhK:∀ (d:PyData),okK d=true->d.canLay0=true
  | .int _,_=>rfl
  | .tuple ds,h=>QfH ds h
  | .none,h=>by cases h
  | .bool _,h=>by cases h
  | .str _,h=>by cases h
  | .list _,h=>by cases h
  | .dict _,h=>by cases h
theorem QfH:∀ (ds:List PyData),okKs ds=true->PyData.canLayAll0 ds=true
  | [],_=>rfl
  | d::ds,h=>by
    have h:=Bool.and_eq_true_iff.mp (show (okK d&&okKs ds)=true from h)
    simp only [PyData.canLayAll0,QhK d h.1,QfH ds h.2,Bool.and_self]
end
end Rt
namespace L2
open PySem PySem.Spec PySem.Calls PyProof.Rows _root_.Rd _root_.Rk _root_.Rs Rt Dl
section
variable {X:Cx}
end
end L2
namespace Dl
open PySem PySem.Spec PyProof.Rows L2 _root_.Rd Rk Rt
theorem das_at {A:Addr->Prop} {H:Hp} {xs:List V} {ds:List PyData} (q:DAs A H xs ds) {v:V} (hv:v∈xs):∃ d∈ds,DA A H v d:=by
  obtain ⟨i,hi⟩:=List.mem_iff_getElem?.mp hv
  obtain ⟨d,hd,h⟩:=q.getV i v hi
  exact ⟨d,List.mem_of_getElem? hd,h⟩
theorem QeB {A:Addr->Prop} {H:Hp}:∀ {ys:List V} {es:List PyData},Dats H ys es->(∀ y∈ys,∃ d,DA A H y d/\nd d=true/\d.canLay0=true/\Dat H y d)->(∀ y d e,y∈ys->Dat H y d->Dat H y e->d=e)->DAs A H ys es
  | _,_,.nil,_,_=>.nil
  | _,_,.cons (x:=x) (d:=d) q qs,h,u=>by
    obtain ⟨d',h1,_,_,h4⟩:=h x (.head _)
    have:d=d':=u x d d' (.head _) q h4
    subst this
    exact .cons h1 (QeB qs (fun y hy=>h y (.tail _ hy)) fun y d e hy=>u y d e (.tail _ hy))
mutual
theorem Qf2 {H:Hp}:∀ (d e:PyData) (x:V),Dat H x d->Dat H x e->d=e
  | .none,e,_,.non,h=>by cases h;rfl
  | .bool _,e,_,.bl _,h=>by cases h;rfl
  | .int _,e,_,.int _,h=>by cases h;rfl
  | .str _,e,_,.str _ _,h=>by cases h;rfl
  | .tuple ds,e,_,.tup (xs:=xs) e1 q,h=>by
    cases h with
    | @tup a ys es e2 q'=>
      rw [e1] at e2
      cases e2
      rw [Qdc ds es xs q q']
    | @lst a ys es e2 q'=>rw [e1] at e2;cases e2
  | .list ds,e,_,.lst (xs:=xs) e1 q,h=>by
    cases h with
    | @tup a ys es e2 q'=>rw [e1] at e2;cases e2
    | @lst a ys es e2 q'=>
      rw [e1] at e2
      cases e2
      rw [Qdc ds es xs q q']
  | .dict _,_,_,q,_=>nomatch q
theorem Qdc {H:Hp}:∀ (ds es:List PyData) (xs:List V),Dats H xs ds->Dats H xs es->ds=es
  | [],es,_,.nil,h=>by cases h;rfl
  | d::ds,es,_,.cons q qs,h=>by
    cases h with
    | @cons x xs e es q' qs'=>rw [Qf2 d e _ q q',Qdc ds es _ qs qs']
end
end Dl
namespace L2
open PySem PySem.Spec PySem.Calls PyProof.Rows _root_.Rd _root_.Rk Rt
section
variable {X:Cx}
end
end L2
namespace Dl
open PySem PySem.Spec PyProof.Rows L2 _root_.Rd Rk Rt
theorem any_map {α:Type} (l:List α) (g:α->Bool):(l.map g).any id=l.any g:=by rw [List.any_map];rfl
section
variable {X:Cx} {E:XK}
theorem bt_set:bootBuiltins "set" = some (.type "set"):=by decide +kernel
end
end Dl
namespace Rk
open PySem PySem.Spec PyProof.Rows L2 _root_.Rd Dl
def inW (d:PyData) (a b:Int):Bool:=match d with
  | .int i=>decide (a<=i)&&decide (i<=b)
  | _=>false
theorem inW_t {i a b:Int} (h1:a<=i) (h2:i<=b):inW (.int i) a b=true:=by
  show (decide (a<=i)&&decide (i<=b))=true
  rw [decide_eq_true h1,decide_eq_true h2];rfl
theorem Qms {d:PyData} {a b:Int} (h:inW d a b=true):∃ i,d=.int i/\a<=i/\i<=b:=by
  cases d<;>first | (cases h;done) | skip
  rename_i i
  have h:=Bool.and_eq_true_iff.mp (show (decide (a<=i)&&decide (i<=b))=true from h)
  exact ⟨i,rfl,of_decide_eq_true h.1,of_decide_eq_true h.2⟩
def QeU:DF:=fun args R _=>∃ d a b,args=[.v d,.v (.int a),.v (.int b)]/\R (.bool (inW d a b))
theorem Qbn (ns:List Int):nds (ns.map PyData.int)=true:=QhO.mpr fun d hd=>by
  obtain ⟨i,_,rfl⟩:=List.mem_map.mp hd
  rfl
theorem Qkh (xs:List PyData) (k:Int) (h:0<=k):Dl.cutD xs none (some k)=xs.take k.toNat:=by
  unfold Dl.cutD
  obtain ⟨j,rfl⟩:∃ j:Nat,k=j:=⟨k.toNat,by omega⟩
  rw [HT.sIx_none,HT.sIx_nat,List.drop_zero,Nat.sub_zero,Int.toNat_natCast]
  by_cases z:j<=xs.length
  · rw [Nat.min_eq_left z]
  · rw [Nat.min_eq_right (by omega),List.take_length,List.take_of_length_le (by omega)]
end Rk
namespace Rx
open PySem PySem.Spec PySem.Calls PyProof.Rows L2
section
variable {X:Cx} {e:Expr} {st:Stmt} {rest:List Stmt} {pos:Pos} {te:TX} {t u:TSX}
end
end Rx
namespace L2
open PySem PySem.Spec PyProof.Rows Dl
end L2
namespace Dl
open PySem PySem.Spec PyProof.Rows L2 _root_.Rd Rk
section
variable {X:Cx}
theorem PEX.imp {e:Expr} {t t':Rx.TX} (h:Rx.PEX X e t) (i:∀ σ H Q Ex,t' σ H Q Ex->t σ H Q Ex):Rx.PEX X e t':=fun pins s σ H Q Ex I q=>h pins s σ H Q Ex I (i σ H Q Ex q)
theorem PSX.imp {e:Stmt} {t t':Rx.TSX} (h:Rx.PSX X e t) (i:∀ D σ H Ex,t' D σ H Ex->t D σ H Ex):Rx.PSX X e t':=fun pins s σ H D Ex I q=>h pins s σ H D Ex I (i D σ H Ex q)
theorem PSXs.imp {e:List Stmt} {t t':Rx.TSX} (h:Rx.PSXs X e t) (i:∀ D σ H Ex,t' D σ H Ex->t D σ H Ex):Rx.PSXs X e t':=fun pins s σ H D Ex I q=>h pins s σ H D Ex I (i D σ H Ex q)
variable {k:Nat} {f:Addr} {fd:FuncData} {ps:List Str} {x:Str} {p pos:Pos} {e:Expr} {es:List Expr} {fD:DF} {wa:DSl}
end
end Dl
namespace Rk
open PySem PySem.Spec PyProof.Rows L2 _root_.Rd Dl Rt
def riseD:List PyData->Bool
  | x::y::r=>ltD x y&&riseD (y::r)
  | _=>true
def ltP2:PyData->Bool
  | .tuple [a,b]=>ltD a b
  | _=>false
theorem cut1D (d:PyData) (ds:List PyData):Dl.cutD (d::ds) (some 1) none=ds:=by
  unfold Dl.cutD
  rw [HT.sIx_none,show (1:Int)=((1:Nat):Int) from rfl,HT.sIx_nat]
  rw [Nat.min_eq_left (by rw [List.length_cons];omega),List.drop_one,List.tail_cons,List.length_cons,Nat.add_sub_cancel,List.take_length]
def isPl (h w:Int):PyData->Bool
  | .tuple [a,b]=>inW a 0 (h - 1)&&inW b 0 (w - 1)
  | _=>false
def toP:PyData->Int×Int
  | .tuple [.int a,.int b]=>(a,b)
  | _=>(0,0)
theorem Qdb (p:Int×Int):(pairD p).depth<=1:=by
  show PyData.depthAll [.int p.1,.int p.2]+1<=1
  simp [PyData.depthAll,PyData.depth]
theorem Qbo {n:Nat}:∀ {ds:List PyData},(∀ d∈ds,d.depth<=n)->PyData.depthAll ds<=n
  | [],_=>Nat.zero_le _
  | d::ds,h=>by
    show max d.depth (PyData.depthAll ds)<=n
    exact Nat.max_le.mpr ⟨h d (.head _),Qbo fun d hd=>h d (.tail _ hd)⟩
theorem Qda (L:List (Int×Int)):(PyData.tuple (L.map pairD)).depth<=2:=by
  show PyData.depthAll (L.map pairD)+1<=2
  have:=Qbo (n:=1) (ds:=L.map pairD) fun d hd=>by obtain ⟨p,_,rfl⟩:=List.mem_map.mp hd;exact Qdb p
  omega
def plt (p q:Int×Int):Prop:=p.1<q.1∨(p.1=q.1/\p.2<q.2)
theorem Qex (p q:Int×Int):PyData.eqv (pairD p) (pairD q)=decide (p=q):=by
  show ((p.1 == q.1)&&((p.2 == q.2)&&true))=_
  obtain ⟨a,b⟩:=p
  obtain ⟨c,d⟩:=q
  by_cases h1:a=c
  · by_cases h2:b=d
    · subst h1 h2;simp
    · simp [h1,h2]
  · simp [h1]
theorem QiW (cs:List (Int×Int)) (p:Int×Int):((cs.map pairD).any fun c=>PyData.eqv c (pairD p))=decide (p∈cs):=by
  rw [List.any_map,Bool.eq_iff_iff,List.any_eq_true,decide_eq_true_iff]
  constructor
  · rintro ⟨c,hc,h⟩
    have:c=p:=of_decide_eq_true (by rw [<- Qex];exact h)
    rw [<- this];exact hc
  · intro h
    refine ⟨p,h,?_⟩
    show PyData.eqv (pairD p) (pairD p)=true
    rw [Qex];simp
def isCl (h w:Int):PyData->Bool
  | .tuple ds=>ds.all (isPl h w)&&riseD ds
  | _=>false
def bdD (h w:Int) (cs:List (Int×Int)):PyData:=.tuple [.int h,.int w,.tuple (cs.map pairD)]
def QbX (d:PyData):Prop:=∀ ds,d=.tuple ds->ds.length<=1000
theorem QbW {d:PyData} (h:(match d with | .tuple _=>false | _=>true)=true):QbX d:=fun ls e=>by subst e;cases h
theorem Qe0 {ds:List PyData} (h:ds.length<=1000):QbX (.tuple ds):=fun ls e=>by cases e;exact h
theorem QgF (ns:List Int):Qbs (ns.map PyData.int)=some ns:=Dl.ints_map ns
theorem Qiw (xs:List PyData) (k:Nat):Dl.cutD xs (some (k:Int)) none=xs.drop k:=by
  unfold Dl.cutD
  rw [HT.sIx_none,HT.sIx_nat]
  by_cases z:k<=xs.length
  · rw [Nat.min_eq_left z,List.take_of_length_le (by rw [List.length_drop];exact Nat.le_refl _)]
  · rw [Nat.min_eq_right (by omega),List.drop_length,List.drop_of_length_le (by omega),List.take_nil]
def rowF (r n:Nat) (f:Nat->Nat->Bool):List (Int×Int):=((List.range n).filter (f r)).map fun (c:Nat)=>((r:Int),(c:Int))
def Qa0 (h w:Nat) (f:Nat->Nat->Bool):List (Int×Int):=(List.range h).flatMap fun r=>rowF r w f
theorem QaV (h w:Nat) (f:Nat->Nat->Bool):Qa0 (h+1) w f=Qa0 h w f++rowF h w f:=by
  unfold Qa0
  rw [List.range_succ,List.flatMap_append]
  simp
theorem Qdr {r n:Nat} {f g:Nat->Nat->Bool} (h:∀ c,c<n->f r c=g r c):rowF r n f=rowF r n g:=by
  unfold rowF
  congr 1
  exact List.filter_congr fun c hc=>h c (List.mem_range.mp hc)
theorem QeF {h w:Nat} {f g:Nat->Nat->Bool} (q:∀ r c,r<h->c<w->f r c=g r c):Qa0 h w f=Qa0 h w g:=by
  induction h with
  | zero=>rfl
  | succ h ih=>rw [QaV,QaV,ih fun r c hr=>q r c (by omega),Qdr fun c hc=>q h c (by omega) hc]
theorem QfM {r n:Nat} {f:Nat->Nat->Bool} {p:Int×Int}:p∈rowF r n f↔∃ c:Nat,c<n/\f r c=true/\p=((r:Int),(c:Int)):=by
  unfold rowF
  rw [List.mem_map]
  constructor
  · rintro ⟨c,hc,rfl⟩
    have hc:=List.mem_filter.mp hc
    exact ⟨c,List.mem_range.mp hc.1,hc.2,rfl⟩
  · rintro ⟨c,hc,hf,rfl⟩
    exact ⟨c,List.mem_filter.mpr ⟨List.mem_range.mpr hc,hf⟩,rfl⟩
theorem Qgv {h w:Nat} {f:Nat->Nat->Bool} {p:Int×Int}:p∈Qa0 h w f↔∃ r c:Nat,r<h/\c<w/\f r c=true/\p=((r:Int),(c:Int)):=by
  unfold Qa0
  rw [List.mem_flatMap]
  constructor
  · rintro ⟨r,hr,hp⟩
    obtain ⟨c,hc,hf,rfl⟩:=QfM.mp hp
    exact ⟨r,c,List.mem_range.mp hr,hc,hf,rfl⟩
  · rintro ⟨r,c,hr,hc,hf,rfl⟩
    exact ⟨r,List.mem_range.mpr hr,QfM.mpr ⟨c,hc,hf,rfl⟩⟩
theorem QeG {h w:Nat} {f:Nat->Nat->Bool} {p:Int×Int} (q:p∈Qa0 h w f):0<=p.1/\p.1<h/\0<=p.2/\p.2<w:=by
  obtain ⟨r,c,hr,hc,_,rfl⟩:=Qgv.mp q
  exact ⟨Int.natCast_nonneg _,by show (r:Int)<h;omega,Int.natCast_nonneg _,by show (c:Int)<w;omega⟩
theorem QdM (r n:Nat) (f:Nat->Nat->Bool):(rowF r n f).length<=n:=by
  unfold rowF
  rw [List.length_map]
  exact Nat.le_trans (List.length_filter_le _ _) (by rw [List.length_range];exact Nat.le_refl _)
theorem Qbi (w:Nat) (f:Nat->Nat->Bool):∀ h,(Qa0 h w f).length<=h*w
  | 0=>Nat.zero_le _
  | h+1=>by
    have:=Qbi w f h
    have:=QdM h w f
    rw [QaV,List.length_append,Nat.succ_mul]
    omega
def rowC (cs:List (Int×Int)) (r:Int):List (Int×Int):=cs.filter fun p=>decide (p.1=r)
def extS (cells L:List (Int×Int)):List (List (Int×Int)):=(cells.filter fun c => !decide (c.2∈L.map (·.2))).map fun c=>L++[c]
def stsN (cs:List (Int×Int)):Nat->List (List (Int×Int))
  | 0=>[[]]
  | i+1=>stsN cs i++(stsN cs i).flatMap (extS (rowC cs i))
theorem Qa9 {ds:List PyData} {k:Nat} (h:ds.length<=k) (hk:k<=1000):QbX (.tuple ds):=Qe0 (Nat.le_trans h hk)
def toI:PyData->Int
  | .int i=>i
  | _=>0
theorem QfT {ds:List PyData} {a b:Int} (h:ds.all (fun d=>inW d a b)=true):ds=(ds.map toI).map PyData.int/\∀ i∈ds.map toI,a<=i/\i<=b:=by
  constructor
  · rw [List.map_map]
    conv=>lhs;rw [<- List.map_id ds]
    refine List.map_congr_left fun d hd=>?_
    obtain ⟨i,rfl,_⟩:=Qms (List.all_eq_true.mp h d hd)
    rfl
  · intro i hi
    obtain ⟨d,hd,rfl⟩:=List.mem_map.mp hi
    obtain ⟨i,rfl,h1,h2⟩:=Qms (List.all_eq_true.mp h d hd)
    exact ⟨h1,h2⟩
theorem QcH (ns:List Int):(ns.map PyData.int).map toI=ns:=by
  rw [List.map_map]
  conv=>rhs;rw [<- List.map_id ns]
  rfl
def nfI:List Int->Bool
  | x::y::r=>decide (x<=y)&&nfI (y::r)
  | _=>true
def leP2:PyData->Bool
  | .tuple [.int a,.int b]=>decide (a<=b)
  | _=>false
theorem Qks:∀ ns:List Int,(zipD (ns.map PyData.int) (Dl.cutD (ns.map PyData.int) (some 1) none)).all leP2=nfI ns
  | []=>by
    have h:(zipD ([]:List PyData) (Dl.cutD [] (some 1) none))=[]:=by unfold zipD;rfl
    rw [List.map_nil,h];rfl
  | [x]=>by rw [List.map_cons,cut1D];rfl
  | x::y::r=>by
    have ih:=Qks (y::r)
    rw [List.map_cons,cut1D] at ih ⊢
    show (leP2 (.tuple [.int x,.int y])&&(zipD (PyData.int y::r.map PyData.int) (r.map PyData.int)).all leP2)=_
    rw [ih];rfl
theorem Qfa:∀ {ns:List Int} {a:Int},nfI ns=true->(∀ b,ns.getLast? = some b->b<=a)->nfI (ns++[a])=true
  | [],_,_,_=>rfl
  | [x],a,_,h=>by
    show (decide (x<=a)&&true)=true
    rw [decide_eq_true (h x rfl)];rfl
  | x::y::r,a,hn,h=>by
    have hn:=Bool.and_eq_true_iff.mp (show (decide (x<=y)&&nfI (y::r))=true from hn)
    show (decide (x<=y)&&nfI (y::r++[a]))=true
    rw [hn.1,Qfa hn.2 fun b hb=>h b (by rw [List.getLast?_cons_cons];exact hb)];rfl
def QaT:PyData->Bool
  | .tuple ds=>(decide ((1:Int)<=ds.length)&&decide ((ds.length:Int)<=6))&&(ds.all (fun d=>inW d 0 6)&&nfI (ds.map toI))
  | _=>false
structure Stairs (ns:List Int):Prop where
  l1:1<=ns.length
  l6:ns.length<=6
  bd:∀ i∈ns,0<=i/\i<=6
  nf:nfI ns=true
def tI (ns:List Int):PyData:=.tuple (ns.map PyData.int)
theorem Qi5 {d:PyData} (h:QaT d=true):∃ ns,d=tI ns/\Stairs ns:=by
  cases d<;>first | (cases h;done) | skip
  rename_i ds
  have h:=Bool.and_eq_true_iff.mp (show ((decide ((1:Int)<=ds.length)&&decide ((ds.length:Int)<=6))&&(ds.all (fun d=>inW d 0 6)&&nfI (ds.map toI)))=true from h)
  have h1:=Bool.and_eq_true_iff.mp h.1
  have h2:=Bool.and_eq_true_iff.mp h.2
  obtain ⟨e,b⟩:=QfT h2.1
  refine ⟨ds.map toI,by rw [tI,<- e],?_,?_,b,h2.2⟩
  · rw [List.length_map];have:=of_decide_eq_true h1.1;omega
  · rw [List.length_map];have:=of_decide_eq_true h1.2;omega
theorem QcI {ns:List Int} (h:Stairs ns):QaT (tI ns)=true:=by
  show ((decide ((1:Int)<=(ns.map PyData.int).length)&&decide (((ns.map PyData.int).length:Int)<=6))&&((ns.map PyData.int).all (fun d=>inW d 0 6)&&nfI ((ns.map PyData.int).map toI)))=true
  have a:=h.l1
  have b:=h.l6
  have e:(ns.map PyData.int).all (fun d=>inW d 0 6)=true:=List.all_eq_true.mpr fun d hd=>by
    obtain ⟨i,hi,rfl⟩:=List.mem_map.mp hd
    exact inW_t (h.bd i hi).1 (h.bd i hi).2
  rw [List.length_map,QcH,h.nf,decide_eq_true (by omega),decide_eq_true (by omega),e]
  rfl
def sH (ns:List Int):Nat:=(max (ns.getLastD 0) 1).toNat
def stF (ns:List Int):Nat->Nat->Bool:=fun r c=>decide ((r:Int)<ns.getD c 0)
def stC (ns:List Int):List (Int×Int):=Qa0 (sH ns) ns.length (stF ns)
def sBd (ns:List Int):PyData:=bdD (sH ns) ns.length (stC ns)
def isLf (L:List (Int×Int)) (p:Int×Int):Bool := !(L.any fun q=>(decide (q.2=p.2)&&decide (q.1≥p.1))||(decide (q.1=p.1)&&decide (q.2<p.2)))
def QhN:DF:=fun args R _=>∃ ns:List Int,args=[.v (tI ns)]/\R (.bool (nfI ns))
def QcT:DF:=fun args R _=>∃ d,args=[.v d]/\R (.bool (QaT d))
def QdU:DF:=fun args R _=>∃ n:Int,args=[.pot,.v (.int n),.v (.int 6)]/\1<=n/\n<=6/\∀ ns,Stairs ns->R (tI ns)
def QcK:DF:=fun args R _=>∃ ns,args=[.v (tI ns)]/\Stairs ns/\R (sBd ns)
theorem Qjf {ns:List Int} (h:Stairs ns):1<=sH ns/\sH ns<=6:=by
  unfold sH
  have:ns.getLastD 0<=6:=by
    cases e:ns.getLast? with
    | none=>rw [List.getLastD_eq_getLast?,e];decide
    | some b=>rw [List.getLastD_eq_getLast?,e];exact (h.bd b (List.mem_of_getLast? e)).2
  omega
theorem QcU {ns:List Int} (h:Stairs ns):(stC ns).length<=36:=by
  have a:=Qbi ns.length (stF ns) (sH ns)
  have b:sH ns*ns.length<=6*6:=Nat.mul_le_mul (Qjf h).2 h.l6
  unfold stC
  omega
theorem fm_if {α β:Type} {g:α->Option β} {p:α->Bool} {k:α->β}:∀ {xs:List α},(∀ x∈xs,g x=if p x=true then some (k x) else none)->xs.filterMap g=(xs.filter p).map k
  | [],_=>rfl
  | x::xs,h=>by
    have ih:=fm_if (xs:=xs) fun y hy=>h y (.tail _ hy)
    by_cases z:p x=true
    · rw [List.filterMap_cons_some (by rw [h x (.head _),if_pos z]),ih,List.filter_cons_of_pos z];rfl
    · rw [List.filterMap_cons_none (by rw [h x (.head _),if_neg z]),ih,List.filter_cons_of_neg z]
def rowG (r:Int):PyData->Option PyData
  | .tuple [.int c,.int m]=>if r<m then some (pairD (r,c)) else none
  | _=>none
theorem QfY (ns:List Int) (r:Nat):(Qdk (ns.map PyData.int)).filterMap (rowG r)=(rowF r ns.length (stF ns)).map pairD:=by
  unfold Qdk rowF
  rw [List.filterMap_map,List.length_map,List.map_map]
  refine fm_if fun c hc=>?_
  have hc:=List.mem_range.mp hc
  show rowG r (.tuple [.int c,(ns.map PyData.int).getD c .none])=_
  have e1:(ns.map PyData.int).getD c .none=.int (ns.getD c 0):=by
    rw [List.getD_eq_getElem?_getD,List.getElem?_map,List.getD_eq_getElem?_getD,List.getElem?_eq_getElem hc];rfl
  rw [e1]
  show (if (r:Int)<ns.getD c 0 then some (pairD ((r:Int),(c:Int))) else none)=if decide ((r:Int)<ns.getD c 0)=true then _ else _
  by_cases z:(r:Int)<ns.getD c 0
  · rw [if_pos z,if_pos (decide_eq_true z)];rfl
  · rw [if_neg z,if_neg (by simpa using z)]
theorem Qh2 {ns:List Int} (h:1<=ns.length):atI (ns.map PyData.int) (-1)=some (.int (ns.getLastD 0)):=by
  cases e:ns.getLast? with
  | none=>rw [List.getLast?_eq_none_iff] at e;subst e;exact absurd h (by decide)
  | some b=>
    obtain ⟨xs,rfl⟩:=List.getLast?_eq_some_iff.mp e
    rw [List.map_append,List.getLastD_eq_getLast?,e]
    exact Qkp _ _
@[irreducible] def Qj0:List PyData->(PyData->Prop)->Prop:=Qmi
@[irreducible] def QjY:List PyData->(PyData->Prop)->Prop:=Qmg
theorem Qf9:Qbx (fun xs H Q=>∃ i j,xs=[.int i,.int j]/\Q (.int (if j > i then j else i)) H) Qj0:=by unfold Qj0;exact QiE
theorem Qf8:Qbx (fun xs H Q=>∃ i j,xs=[.int i,.int j]/\Q (.int (if j<i then j else i)) H) QjY:=by unfold QjY;exact QiD
theorem QhV {i j k:Int} {Q:PyData->Prop} (e:(if j > i then j else i)=k) (h:Q (.int k)):Qj0 [.int i,.int j] Q:=by
  unfold Qj0
  show Q (.int (if j > i then j else i))
  rw [e];exact h
theorem Qc3 {i j k:Int} {Q:PyData->Prop} (e:(if j<i then j else i)=k) (h:Q (.int k)):QjY [.int i,.int j] Q:=by
  unfold QjY
  show Q (.int (if j<i then j else i))
  rw [e];exact h
def Qli (ns:List Int):PyData->List PyData
  | .int r=>(rowF r.toNat ns.length (stF ns)).map pairD
  | _=>[]
theorem QfA (ns:List Int) (h:Nat):(rngD 0 h).flatMap (Qli ns)=(Qa0 h ns.length (stF ns)).map pairD:=by
  unfold rngD Qa0
  rw [List.flatMap_map,List.map_flatMap]
  congr 1
  funext r
  show (rowF (0+(r:Int)).toNat ns.length (stF ns)).map pairD=_
  rw [show (0+(r:Int)).toNat=r by omega]
theorem sH_hi {ns:List Int}:(if (1:Int) > ns.getLastD 0 then 1 else ns.getLastD 0)=(sH ns:Int):=by
  unfold sH
  split<;>omega
theorem sH_hi2 {ns:List Int}:(if ns.getLastD 0 > 1 then ns.getLastD 0 else (1:Int))=(sH ns:Int):=by
  unfold sH
  split<;>omega
theorem QmF {items:List PyData} {wg wg2:DG} {wt wt2:DT} {wi2:DI} {we:DE} {δ:Sts} {Q:PyData->Prop} (G:PyData->List PyData) (k:Nat) (hl:(items.flatMap G).length<=k)
    (h:∀ d∈items,∀ (acc:List PyData) (N:List PyData->Prop),acc.length+(G d).length<=k->N (acc++G d)->wg d δ fun δ4=>wt δ4 (fun b=>if b=true then wi2 δ4 (fun items2=>InR items2 wg2 wt2 we δ4 acc N) XF else N acc) XF) (q:Q (.list (items.flatMap G))) :
    Qgd items wg wt wi2 wg2 wt2 we δ Q:=by
  unfold Qgd
  refine ⟨fun i acc=>acc=(items.take i).flatMap G,by simp,fun i acc d hd e=>?_,fun acc e=>by rw [e,List.take_length];exact q⟩
  have e:acc=(items.take i).flatMap G:=e
  have hs:(items.take (i+1)).flatMap G=(items.take i).flatMap G++G d:=by
    rw [List.take_add_one,hd,List.flatMap_append]
    simp
  refine h d (List.mem_of_getElem? hd) acc _ ?_ (by show acc++G d=_;rw [hs,e])
  have h1:(items.flatMap G).length=((items.take (i+1)).flatMap G).length+((items.drop (i+1)).flatMap G).length:=by
    rw [<- List.length_append,<- List.flatMap_append,List.take_append_drop]
  rw [hs,<- e,List.length_append] at h1
  omega
end Rk
namespace L2
open PySem PySem.Spec PyProof.Rows
section
variable {X:Cx}
end
end L2
namespace Dl
open PySem PySem.Spec PyProof.Rows L2 _root_.Rd Rk
end Dl
namespace Rv
open PySem PySem.Spec PyProof.Rows
section
variable {prog:Program} {w:World} {A:Around} {E:Value->Shared->Prop} {s:Shared}
end
end Rv
namespace L2
open PySem PySem.Spec PyProof.Rows
section
variable {X:Cx} {tg:Expr}
end
section
variable {X:Cx}
end
end L2
namespace Dl
open PySem PySem.Spec PyProof.Rows L2 _root_.Rd Rk
section
variable {X:Cx} {E:XK} {st:Stmt} {i:Nat} {we:DE}
end
end Dl
namespace Rk
open PySem PySem.Spec PyProof.Rows L2 _root_.Rd Dl Rt
def wo (cs:List (Int×Int)) (c:Int×Int):List (Int×Int):=cs.filter fun p => !decide (p=c)
def Bds (h w:Nat) (cs:List (Int×Int)):Prop:=h<=6/\w<=6/\∀ p∈cs,0<=p.1/\p.1<h/\0<=p.2/\p.2<w
theorem Bds.wo {h w:Nat} {cs:List (Int×Int)} (b:Bds h w cs) (c:Int×Int):Bds h w (wo cs c):=⟨b.1,b.2.1,fun p hp=>b.2.2 p (List.mem_filter.mp hp).1⟩
theorem Bds.col {h w:Nat} {cs:List (Int×Int)} (b:Bds h w cs):∀ p∈cs,0<=p.2/\p.2<(w:Int):=fun p hp=>(b.2.2 p hp).2.2
theorem Bds.nn {h w:Nat} {cs:List (Int×Int)} (b:Bds h w cs):∀ p∈cs,0<=p.2:=fun p hp=>(b.2.2 p hp).2.2.1
structure Std (cs L:List (Int×Int)):Prop where
  sub:∀ p∈L,p∈cs
  rows:L.Pairwise fun p q=>p.1<q.1
  cols:(L.map (·.2)).Nodup
theorem Std.nil {cs:List (Int×Int)}:Std cs []:=⟨fun p hp=>(nomatch hp),.nil,.nil⟩
end Rk
namespace Dl
open PySem PySem.Spec PyProof.Rows L2 _root_.Rd Rk
section
variable {X:Cx} {E:XK} {st:Stmt} {we:DE}
end
end Dl
namespace Rk
open PySem PySem.Spec PyProof.Rows L2 _root_.Rd Dl Rt
structure GB (h w:Nat) (cs:List (Int×Int)):Prop where
  bds:Bds h w cs
  srt:cs.Pairwise plt
  few:(stsN cs h).length<=200000
theorem GB.r0 {h w:Nat} {cs:List (Int×Int)} (g:GB h w cs):∀ p∈cs,0<=p.1:=fun p hp=>(g.bds.2.2 p hp).1
end Rk
namespace L2
open PySem PySem.Spec PyProof.Rows
section
variable {X:Cx}
end
end L2
namespace Dl
open PySem PySem.Spec PyProof.Rows L2 _root_.Rd Rk Rt
end Dl
namespace L2
open PySem PySem.Spec PyProof.Rows
open Sem (wp)
open Builtin
theorem Qcm:fillsNumberSlot (.type "tuple") "mul" = pure false:=
  PySem.fillsNumberSlot_seq (id := "tuple.__mul__") (r:=some (.builtin "tuple.__rmul__")) F.slot_tuple_mul.lookup (by decide +kernel) F.slot_tuple_rmul.lookup (by decide +kernel)
theorem QdN:seqRepeat? (.type "tuple")=pure (some (.builtin "tuple.__mul__")):=by
  unfold seqRepeat?
  rw [PySem.seqSlot_of (T := "tuple") (name := "__mul__") (id := "tuple.__mul__") F.slot_tuple_mul.lookup (by decide +kernel),PySem.seqSlot_of (T := "tuple") (name := "__rmul__") (id := "tuple.__rmul__") F.slot_tuple_rmul.lookup (by decide +kernel)]
  rfl
theorem Qe1 (a:Int) (t:Tok) (l:Addr) (items:Array Value) (n:Nat) (dd:Option Addr) (sl:Array (Option Value)) :
    Meets (Builtin.«int.__rmul__» ⟨[.int a t,.ref l],[]⟩) (fun _ R s=>s.heap.get? l=some { cls:=.type "tuple",dict:=dd,data:=.seq items n,slots:=sl }/\R (.ok (.ret Value.notImplemented)) s):=
  .of_wp fun prog w A R s h=>by obtain ⟨hp,g,d,tk,os⟩:=s;obtain ⟨hl,h⟩:=h;wp_walk;exact ⟨_,rfl,h⟩
theorem Qgu (l:Addr) (items:Array Value) (n:Nat) (dd:Option Addr) (sl:Array (Option Value)) (x:Int) (u:Tok) (h0:¬(x < -(2^63)||x≥2^63)=true) (h1:¬(items.isEmpty||x == 1)=true) (h2:¬(decide (x<=0)||items.isEmpty)=true) (h3:¬(items.size*x > (2^63 - 1) / 8)) (h4:¬Builtin.Tuple.tupleTooMany (items.size*x)=true) (h5:((List.replicate x.toNat items).foldl (·++·) #[]).size<=sizeLine) :
    Meets (Builtin.«tuple.__mul__» ⟨[.ref l,.int x u],[]⟩) (fun _ R s=>s.heap.get? l=some { cls:=.type "tuple",dict:=dd,data:=.seq items n,slots:=sl }/\R (.ok (.ret (Value.ref s.heap.objs.size))) { s with heap:=s.heap.push { cls:=Value.type "tuple",data:=Data.seq ((List.replicate x.toNat items).foldl (·++·) #[]) },toks:=s.toks }):=
  .of_wp fun prog w A R s h=>by
    obtain ⟨hp,g,d,tk,os⟩:=s;obtain ⟨hl,h⟩:=h;have f1:=AutoSeq1.idx_int
    wp_walk using wpAny_loadPart' hl
    rw [if_neg h0]
    wp_walk using wpAny_loadPart' hl
    rw [if_neg h3]
    wp_walk using wpAny_loadPart' hl
    exact ⟨_,rfl,h⟩
section
variable {X:Cx}
def rRepT (K:PySem.W.Frag):R2:=fun x y H Q=>∃ a k xs,x=.ref a/\y=.int k/\SqT K H a xs/\xs≠[]/\2<=k/\k<=1000/\xs.length*k.toNat<=1000000/\∀ p,H p=none->Q (.ref p) (upd H p (.tup (List.replicate k.toNat xs).flatten))
theorem QlZ:OpR X (binaryOp .Mult) (rRepT X.K):=by
  intro pins s σ H x y v u Q I rx ry h
  obtain ⟨a,k,xs,rfl,rfl,ha,hx,k2,kM,hz,q⟩:=h
  cases rx
  obtain ⟨t,rfl⟩:=ry
  obtain ⟨its,r,p1,_⟩:=I.tuple ha
  obtain ⟨⟨cls,dd,data,sl⟩,ho,hc,n,hd⟩:=id p1
  simp only at hc hd
  subst hc hd
  have hl:=r.length
  have hne:its≠[]:=fun z=>hx (r.nil_iff.mp z)
  have hem:its.toArray.isEmpty=false:=by simpa using hne
  have hnew:List.foldl (fun x1 x2=>x1++x2) #[] (List.replicate k.toNat its.toArray)=(List.replicate k.toNat its).flatten.toArray:=by
    have:=Qc9 its k.toNat []
    rw [List.nil_append] at this
    exact this
  have hlen:(List.replicate k.toNat its).flatten.length<=1000000:=by rw [QdV,Nat.mul_comm,<- hl];exact hz
  have hM:(1000000:Nat)<=sizeLine:=by show 1000000<=2^24;decide
  have hk:((its.toArray.size:Int))*k<=1000000:=by
    rw [List.size_toArray,<- hl]
    have:((xs.length*k.toNat:Nat):Int)<=1000000:=by omega
    rw [Int.natCast_mul,Int.toNat_of_nonneg (by omega)] at this
    exact this
  refine wpAny_binaryOp_repeat_ref (T := "tuple") (U := "int") (by decide) ⟨_,ho,rfl⟩ (fun s'=>typeIs_int s' k t) Qcm F.fills_int_mul F.slot_int_rmul QdN F.slot_int_index.lookup
    (call_meets F.slot_int_rmul (typeIs_int s k t) F.entry_int_rmul (F.args_int_rmul_2 _ _) (Qe1 k t a its.toArray n dd sl)
      ⟨ho,rfl,⟨_,ho,rfl⟩,call_meets F.slot_tuple_mul ⟨_,ho,rfl⟩ F.entry_tuple_mul (F.args_tuple_mul_2 _ _) (Qgu a its.toArray n dd sl k t (by simp;omega) (by rw [hem];simp;omega) (by rw [hem];simp;omega) (by omega) (by unfold Tuple.tupleTooMany;rw [decide_eq_true_eq];omega) (by rw [hnew,List.size_toArray];omega)) ⟨ho,?_⟩⟩)
  rw [hnew]
  refine ⟨.ref s.heap.objs.size,_,I.laid (t':=s.toks) (o:=.tup (List.replicate k.toNat xs).flatten) (fun b ob q=>Heap.get?_push_of_some _ q) (Nat.le_refl _) ?_,rfl,q _ (I.hok.fresh (Nat.le_refl _))⟩
  exact ⟨by rw [QdV,Nat.mul_comm];omega,_,r.rep k.toNat,IsTup.new _ _⟩
def rMinT (K:PySem.W.Frag):List V->Hp->VK->Prop:=fun xs H Q=>∃ (p:Addr) (ns:List Int),xs=[.ref p]/\SqT K H p (ns.map V.int)/\0<ns.length/\∀ m,m∈ns->(∀ y∈ns,m<=y)->Q (.int m) H
def rMaxT (K:PySem.W.Frag):List V->Hp->VK->Prop:=fun xs H Q=>∃ (p:Addr) (ns:List Int),xs=[.ref p]/\SqT K H p (ns.map V.int)/\0<ns.length/\∀ m,m∈ns->(∀ y∈ns,y<=m)->Q (.int m) H
theorem QiJ (hc:X.calm=true):CallR X (.builtin "max") (rMaxT X.K):=by
  intro pins s σ H xs us Q I r h
  obtain ⟨p,ns,rfl,hp,hn,q⟩:=h
  obtain ⟨u,rfl,ru⟩:=QbK r
  cases ru
  obtain ⟨its,rv,pl,hz⟩:=I.tuple hp
  have hl:s.heap.IsTuple p its.toArray:=pl
  have hi:IntsAre its ns:=Qco rv
  obtain ⟨ys,hx⟩:=hi.allInts.items
  have hlt:p<s.heap.objs.size:=by obtain ⟨_,e,_⟩:=hl;exact Heap.lt_size e
  have hsz:its.toArray.size=ns.length:=by rw [List.size_toArray,hi.length]
  have num:∀ j m,ns[j]? = some m->numAt ys j=m:=fun j m e=>by
    obtain ⟨w,hw,rw'⟩:=rv.get (i:=j) (x:=V.int m) (by rw [List.getElem?_map,e];rfl)
    have h2:(intItems ys)[j]? = some w:=by rw [<- hx,List.getElem?_toArray];exact hw
    unfold intItems at h2
    rw [Array.getElem?_map] at h2
    obtain ⟨y,hy,ey⟩:=Option.map_eq_some_iff.mp h2
    unfold numAt
    rw [hy]
    subst ey
    obtain ⟨t,et⟩:=rw'
    cases et
    rfl
  refine call_max_walk (wpAny_pyIter_tuple hl ?_)
  refine ⟨s.heap.objs.size,[s.heap.objs.size,p],[s.heap.objs.size],its.toArray.size,_,_,fun i j=>decide (numAt ys i > numAt ys j),rfl,Walks.tuple (A:=X.A.in1) (I.ok.hd hc) _ p (Nat.ne_of_lt hlt) its.toArray,⟨⟨_,Heap.get?_push_size _ rfl,rfl,rfl⟩,?_⟩,?_,by omega,CmpOf.ints_gt (numAt ys) ?_,fun v h' tk hv hk=>?_⟩
  · obtain ⟨o,e,r⟩:=hl
    exact ⟨o,Heap.get?_push_of_some _ e,r⟩
  · intro b hb
    have:(s.heap.push { cls:=.type "tuple_iterator",data:=.fields #[.ref p,.int 0 0] }).objs.size=s.heap.objs.size+1:=by simp [Heap.push]
    show b<(s.heap.push { cls:=.type "tuple_iterator",data:=.fields #[.ref p,.int 0 0] }).objs.size
    rw [this]
    rcases List.mem_cons.mp hb with e | e
    · rw [e];exact Nat.lt_succ_self _
    · rw [List.mem_singleton.mp e];exact Nat.lt_succ_of_lt hlt
  · intro i v hv
    rw [hx] at hv
    exact intItems_at hv
  · have ab:=argBest_gt (numAt ys) (its.toArray.size - 1)
    generalize argBest (fun i j=>decide (numAt ys i > numAt ys j)) (its.toArray.size - 1)=b at *
    rw [List.getElem?_toArray] at hv
    obtain ⟨x,hx2,rx⟩:∃ x,(ns.map V.int)[b]? = some x/\RelV x v:=by
      have hlen:=rv.length
      have hlt:=(List.getElem?_eq_some_iff.mp hv).1
      cases e:(ns.map V.int)[b]? with
      | none=>
        have:=List.getElem?_eq_none_iff.mp e
        omega
      | some x=>
        obtain ⟨w,hw,rw'⟩:=rv.get e
        rw [hw] at hv
        cases hv
        exact ⟨x,rfl,rw'⟩
    rw [List.getElem?_map] at hx2
    obtain ⟨m,hm,rfl⟩:=Option.map_eq_some_iff.mp hx2
    refine ⟨.int m,H,I.kept (LSm.kept_iter hk),rx,q m (List.mem_of_getElem? hm) fun y hy=>?_⟩
    obtain ⟨j,hj⟩:=List.mem_iff_getElem?.mp hy
    have hjl:=(List.getElem?_eq_some_iff.mp hj).1
    have:=ab.2 j (by omega)
    rw [num b m hm,num j y hj] at this
    exact this
theorem QiI (hc:X.calm=true):CallR X (.builtin "min") (rMinT X.K):=by
  intro pins s σ H xs us Q I r h
  obtain ⟨p,ns,rfl,hp,hn,q⟩:=h
  obtain ⟨u,rfl,ru⟩:=QbK r
  cases ru
  obtain ⟨its,rv,pl,hz⟩:=I.tuple hp
  have hl:s.heap.IsTuple p its.toArray:=pl
  have hi:IntsAre its ns:=Qco rv
  obtain ⟨ys,hx⟩:=hi.allInts.items
  have hlt:p<s.heap.objs.size:=by obtain ⟨_,e,_⟩:=hl;exact Heap.lt_size e
  have hsz:its.toArray.size=ns.length:=by rw [List.size_toArray,hi.length]
  have num:∀ j m,ns[j]? = some m->numAt ys j=m:=fun j m e=>by
    obtain ⟨w,hw,rw'⟩:=rv.get (i:=j) (x:=V.int m) (by rw [List.getElem?_map,e];rfl)
    have h2:(intItems ys)[j]? = some w:=by rw [<- hx,List.getElem?_toArray];exact hw
    unfold intItems at h2
    rw [Array.getElem?_map] at h2
    obtain ⟨y,hy,ey⟩:=Option.map_eq_some_iff.mp h2
    unfold numAt
    rw [hy]
    subst ey
    obtain ⟨t,et⟩:=rw'
    cases et
    rfl
  refine call_min_walk (wpAny_pyIter_tuple hl ?_)
  refine ⟨s.heap.objs.size,[s.heap.objs.size,p],[s.heap.objs.size],its.toArray.size,_,_,fun i j=>decide (numAt ys i<numAt ys j),rfl,Walks.tuple (A:=X.A.in1) (I.ok.hd hc) _ p (Nat.ne_of_lt hlt) its.toArray,⟨⟨_,Heap.get?_push_size _ rfl,rfl,rfl⟩,?_⟩,?_,by omega,CmpOf.ints_lt (numAt ys) ?_,fun v h' tk hv hk=>?_⟩
  · obtain ⟨o,e,r⟩:=hl
    exact ⟨o,Heap.get?_push_of_some _ e,r⟩
  · intro b hb
    have:(s.heap.push { cls:=.type "tuple_iterator",data:=.fields #[.ref p,.int 0 0] }).objs.size=s.heap.objs.size+1:=by simp [Heap.push]
    show b<(s.heap.push { cls:=.type "tuple_iterator",data:=.fields #[.ref p,.int 0 0] }).objs.size
    rw [this]
    rcases List.mem_cons.mp hb with e | e
    · rw [e];exact Nat.lt_succ_self _
    · rw [List.mem_singleton.mp e];exact Nat.lt_succ_of_lt hlt
  · intro i v hv
    rw [hx] at hv
    exact intItems_at hv
  · have ab:=argBest_lt (numAt ys) (its.toArray.size - 1)
    generalize argBest (fun i j=>decide (numAt ys i<numAt ys j)) (its.toArray.size - 1)=b at *
    rw [List.getElem?_toArray] at hv
    obtain ⟨x,hx2,rx⟩:∃ x,(ns.map V.int)[b]? = some x/\RelV x v:=by
      have hlen:=rv.length
      have hlt:=(List.getElem?_eq_some_iff.mp hv).1
      cases e:(ns.map V.int)[b]? with
      | none=>
        have:=List.getElem?_eq_none_iff.mp e
        omega
      | some x=>
        obtain ⟨w,hw,rw'⟩:=rv.get e
        rw [hw] at hv
        cases hv
        exact ⟨x,rfl,rw'⟩
    rw [List.getElem?_map] at hx2
    obtain ⟨m,hm,rfl⟩:=Option.map_eq_some_iff.mp hx2
    refine ⟨.int m,H,I.kept (LSm.kept_iter hk),rx,q m (List.mem_of_getElem? hm) fun y hy=>?_⟩
    obtain ⟨j,hj⟩:=List.mem_iff_getElem?.mp hy
    have hjl:=(List.getElem?_eq_some_iff.mp hj).1
    have:=ab.2 j (by omega)
    rw [num b m hm,num j y hj] at this
    exact this
end
end L2
namespace Dl
open PySem PySem.Spec PyProof.Rows L2 _root_.Rd Rk Rt
def repTD:PyData->PyData->(PyData->Prop)->Prop
  | .tuple a,.int k,Q=>(a≠[]/\2<=k/\k<=1000/\a.length*k.toNat<=1000000)/\Q (.tuple (List.replicate k.toNat a).flatten)
  | _,_,_=>False
theorem Qma {K:PySem.W.Frag}:OpD (rRepT K) repTD:=fun A P H x y d1 d2 R Q ln dm hx hy h k=>by
  cases d1<;>cases d2<;>first | exact h.elim | skip
  obtain ⟨l1,xs,rfl,e1,q1⟩:=hx.tuple
  rw [hy.int]
  obtain ⟨⟨h1,h2,h3,h4⟩,h5⟩:=h
  have ql:=q1.length
  refine ⟨l1,_,xs,rfl,rfl,SqT.of e1,fun z=>h1 ?_,h2,h3,by rw [ql];exact h4,fun p hp=>?_⟩
  · subst z
    exact List.length_eq_zero_iff.mp ql.symm
  · exact k _ h5 _ _ (Qab hp) (QcR dm (Qab hp) Qad (q1.rep _)) (Qbb hp)
@[irreducible] def QjX:List PyData->(PyData->Prop)->Prop
  | [.tuple ds],Q=>∃ ns,Qbs ds=some ns/\0<ns.length/\∀ m,m∈ns->(∀ y∈ns,m<=y)->Q (.int m)
  | _,_=>False
@[irreducible] def QjZ:List PyData->(PyData->Prop)->Prop
  | [.tuple ds],Q=>∃ ns,Qbs ds=some ns/\0<ns.length/\∀ m,m∈ns->(∀ y∈ns,y<=m)->Q (.int m)
  | _,_=>False
theorem QmI {K:PySem.W.Frag}:Qbx (rMaxT K) QjZ:=fun A P H vs ds R Q ln dm q h k=>by
  unfold QjZ at h
  split at h
  · obtain ⟨v,rfl,hv⟩:=pd1 q
    obtain ⟨bs,hb,h0,hR⟩:=h
    rw [Qc8 hb] at hv
    obtain ⟨l,xs,rfl,e,qq⟩:=hv.tuple
    rw [QbE qq] at e
    exact ⟨l,bs,rfl,SqT.of e,h0,fun m h1 h2=>k _ (hR m h1 h2) _ H (Same.refl H) (.int _) QaJ⟩
  · exact h.elim
theorem Qmh {ns:List Int} {Q:PyData->Prop} (h:0<ns.length) (k:∀ m,m∈ns->(∀ y∈ns,y<=m)->Q (.int m)):QjZ [.tuple (ns.map PyData.int)] Q:=by
  unfold QjZ
  exact ⟨ns,ints_map ns,h,k⟩
theorem QmH {K:PySem.W.Frag}:Qbx (rMinT K) QjX:=fun A P H vs ds R Q ln dm q h k=>by
  unfold QjX at h
  split at h
  · obtain ⟨v,rfl,hv⟩:=pd1 q
    obtain ⟨bs,hb,h0,hR⟩:=h
    rw [Qc8 hb] at hv
    obtain ⟨l,xs,rfl,e,qq⟩:=hv.tuple
    rw [QbE qq] at e
    exact ⟨l,bs,rfl,SqT.of e,h0,fun m h1 h2=>k _ (hR m h1 h2) _ H (Same.refl H) (.int _) QaJ⟩
  · exact h.elim
theorem Qmf {ns:List Int} {Q:PyData->Prop} (h:0<ns.length) (k:∀ m,m∈ns->(∀ y∈ns,m<=y)->Q (.int m)):QjX [.tuple (ns.map PyData.int)] Q:=by
  unfold QjX
  exact ⟨ns,ints_map ns,h,k⟩
end Dl
namespace Rk
open PySem PySem.Spec PyProof.Rows L2 _root_.Rd Dl Rt
theorem QhM:∀ {ns:List Int},nfI ns=true->∀ x∈ns,x<=ns.getLastD 0
  | [],_,_,h=>(nomatch h)
  | [a],_,x,h=>by rw [List.mem_singleton.mp h];exact Int.le_refl _
  | a::b::r,hn,x,hx=>by
    have h2:=Bool.and_eq_true_iff.mp (show (decide (a<=b)&&nfI (b::r))=true from hn)
    have ih:=QhM (ns:=b::r) h2.2
    have e:(a::b::r).getLastD 0=(b::r).getLastD 0:=by rw [List.getLastD_eq_getLast?,List.getLastD_eq_getLast?,List.getLast?_cons_cons]
    rw [e]
    rcases List.mem_cons.mp hx with z | z
    · rw [z];exact Int.le_trans (of_decide_eq_true h2.1) (ih b (.head _))
    · exact ih x z
theorem Qiz (p:Nat->Bool) (h:Nat):(List.range (h+1)).countP p=(List.range h).countP p+if p h=true then 1 else 0:=by
  rw [List.range_succ,List.countP_append,List.countP_singleton]
theorem QkX (m:Int) (h0:0<=m):∀ h:Nat,m<=(h:Int)->(((List.range h).countP fun (r:Nat)=>decide ((r:Int)<m):Nat):Int)=m
  | 0,hm=>by show (0:Int)=m;omega
  | h+1,hm=>by
    rw [Qiz]
    by_cases z:(h:Int)<m
    · have e:(List.range h).countP (fun (r:Nat)=>decide ((r:Int)<m))=h:=by
        have:(List.range h).countP (fun (r:Nat)=>decide ((r:Int)<m))=(List.range h).length:=List.countP_eq_length.mpr fun r hr=>decide_eq_true (by have:=List.mem_range.mp hr;omega)
        rw [this,List.length_range]
      rw [e,if_pos (decide_eq_true z)];omega
    · rw [if_neg (by simpa using z),Nat.add_zero]
      exact QkX m h0 h (by omega)
def wt (cs L:List (Int×Int)):Nat:=(cs.filter (isLf L)).length
def Qlk:DF:=fun args R _=>∃ ns,args=[.v (tI ns)]/\Stairs ns/\R .none
def sb0D:DF:=fun args R _=>∃ ns,args=[.v (tI ns)]/\Stairs ns/\R (sBd ns)
end Rk
namespace Zt
open PySem
def f5 (M x:Nat):Nat:=(x*5+1) % M
def it5 (M:Nat):Nat->Nat->Nat
  | 0,x=>x
  | n+1,x=>it5 M n (f5 M x)
theorem QdY (M:Nat):∀ (m n x:Nat),it5 M (m+n) x=it5 M n (it5 M m x)
  | 0,n,x=>by rw [Nat.zero_add];rfl
  | m+1,n,x=>by rw [Nat.succ_add];exact QdY M m n (f5 M x)
def cov5 (M:Nat):Nat->Nat->Nat->Nat
  | 0,_,acc=>acc
  | n+1,x,acc=>cov5 M n (f5 M x) (acc ||| 2^x)
theorem Qf6 (M j:Nat):∀ (n x acc:Nat),(cov5 M n x acc).testBit j=true->acc.testBit j=true∨∃ b,b<n/\it5 M b x=j
  | 0,_,_,h=>.inl h
  | n+1,x,acc,h=>by
    rcases Qf6 M j n (f5 M x) (acc ||| 2^x) h with z | ⟨b,hb,e⟩
    · rw [Nat.testBit_or,Bool.or_eq_true,Nat.testBit_two_pow] at z
      rcases z with z | z
      · exact .inl z
      · exact .inr ⟨0,by omega,by show x=j;simpa using z⟩
    · exact .inr ⟨b+1,by omega,e⟩
def QbG (M:Nat):Bool:=decide (cov5 M M 0 0=2^M - 1)&&decide (it5 M M 0=0)
theorem QkS:QbG 8=true:=by decide +kernel
theorem Qmt:QbG 32=true:=by decide +kernel
theorem Qj9:QbG 128=true:=by decide +kernel
theorem Qj8:QbG 512=true:=by decide +kernel
theorem Qj7 {M:Nat} (h:QbG M=true) {i j:Nat} (hi:i<M) (hj:j<M):∃ n,n<M/\it5 M n i=j:=by
  have h:=Bool.and_eq_true_iff.mp h
  have h1:cov5 M M 0 0=2^M - 1:=of_decide_eq_true h.1
  have h2:it5 M M 0=0:=of_decide_eq_true h.2
  have all:∀ k,k<M->∃ b,b<M/\it5 M b 0=k:=fun k hk=>by
    have:(cov5 M M 0 0).testBit k=true:=by rw [h1,Nat.testBit_two_pow_sub_one];exact decide_eq_true hk
    rcases Qf6 M k M 0 0 this with z | z
    · simp at z
    · exact z
  obtain ⟨a,ha,rfl⟩:=all i hi
  obtain ⟨b,hb,rfl⟩:=all j hj
  by_cases z:a<=b
  · exact ⟨b - a,by omega,by rw [<- QdY,show a+(b - a)=b by omega]⟩
  · refine ⟨M - a+b,by omega,?_⟩
    rw [<- QdY,show a+(M - a+b)=M+b by omega,QdY,h2]
def QbN (mask:Nat):Nat->Nat×Nat->Nat×Nat
  | 0,p=>p
  | n+1,p=>QbN mask n (SetTable.leap mask p.1 p.2)
theorem Qeu (mask:Nat):∀ (m n:Nat) (p:Nat×Nat),QbN mask (m+n) p=QbN mask n (QbN mask m p)
  | 0,n,p=>by rw [Nat.zero_add];rfl
  | m+1,n,p=>by rw [Nat.succ_add];exact Qeu mask m n _
theorem Qes (mask:Nat):∀ (n:Nat) (p:Nat×Nat),(QbN mask n p).2=p.2 / 32^n
  | 0,p=>by show p.2=p.2 / 1;omega
  | n+1,p=>by
    show (QbN mask n (SetTable.leap mask p.1 p.2)).2=_
    rw [Qes mask n]
    show p.2 / 32 / 32^n=_
    rw [Nat.div_div_eq_div_mul,Nat.pow_succ,Nat.mul_comm]
theorem Qet (mask:Nat):∀ (n i:Nat),QbN mask n (i,0)=(it5 (mask+1) n i,0)
  | 0,i=>rfl
  | n+1,i=>by
    show QbN mask n (SetTable.leap mask i 0)=_
    have:SetTable.leap mask i 0=(f5 (mask+1) i,0):=by
      show ((i*5+1+0 / 32) % (mask+1),0 / 32)=_
      simp [f5]
    rw [this,Qet mask n]
    rfl
theorem QfP {mask:Nat}:∀ (n:Nat) (p:Nat×Nat),p.1<mask+1->(QbN mask n p).1<mask+1
  | 0,_,h=>h
  | n+1,p,_=>QfP n _ (Nat.mod_lt _ (Nat.succ_pos _))
theorem Qdy {mask:Nat} (hg:QbG (mask+1)=true) {i perturb j:Nat} (hi:i<mask+1) (hp:perturb<2^64) (hj:j<mask+1):∃ n,n<mask+14/\(QbN mask n (i,perturb)).1=j:=by
  have h13:=Qes mask 13 (i,perturb)
  have:perturb / 32^13=0:=Nat.div_eq_of_lt (Nat.lt_of_lt_of_le hp (by decide))
  rw [show (i,perturb).2=perturb from rfl,this] at h13
  have hl:=QfP 13 (i,perturb) hi
  obtain ⟨n,hn,e⟩:=Qj7 hg hl hj
  refine ⟨13+n,by omega,?_⟩
  rw [Qeu,show QbN mask 13 (i,perturb)=((QbN mask 13 (i,perturb)).1,0) from Prod.ext rfl h13,Qet]
  exact e
def stps (t:SetTable):Nat->SetTable.Probe->SetTable.Probe
  | 0,p=>p
  | n+1,p=>stps t n (t.advance p)
theorem QaK (t:SetTable):∀ (m n:Nat) (p:SetTable.Probe),stps t (m+n) p=stps t n (stps t m p)
  | 0,n,p=>by rw [Nat.zero_add];rfl
  | m+1,n,p=>by rw [Nat.succ_add];exact QaK t m n _
def runP (t:SetTable) (i perturb:Nat) (d:Option Nat):SetTable.Probe:={ j:=i,more:=SetTable.runEnd t.mask i - i,i:=i,perturb:=perturb,dummy:=d }
theorem Qeb (t:SetTable):∀ (m j i perturb:Nat) (d:Option Nat),stps t m { j:=j,more:=m,i:=i,perturb:=perturb,dummy:=d }={ j:=j+m,more:=0,i:=i,perturb:=perturb,dummy:=d }
  | 0,_,_,_,_=>rfl
  | m+1,j,i,perturb,d=>by
    show stps t m (t.advance _)=_
    have:t.advance { j:=j,more:=m+1,i:=i,perturb:=perturb,dummy:=d }={ j:=j+1,more:=m,i:=i,perturb:=perturb,dummy:=d }:=by
      unfold SetTable.advance
      rw [if_pos (by show m+1 > 0;omega)]
      rfl
    rw [this,Qeb t m,show j+1+m=j+(m+1) by omega]
theorem run_le (mask i:Nat):SetTable.runEnd mask i - i<=9:=by unfold SetTable.runEnd;split<;>omega
theorem QdG (t:SetTable) (i perturb:Nat) (d:Option Nat):stps t (SetTable.runEnd t.mask i - i+1) (runP t i perturb d)=runP t (SetTable.leap t.mask i perturb).1 (SetTable.leap t.mask i perturb).2 d:=by
  rw [QaK]
  unfold runP
  rw [Qeb]
  simp only [stps]
  unfold SetTable.advance
  rw [if_neg (by show ¬ (0:Nat) > 0;omega)]
theorem Qdn (t:SetTable) (d:Option Nat):∀ (n i perturb:Nat),∃ m,m<=10*n/\stps t m (runP t i perturb d)=runP t (QbN t.mask n (i,perturb)).1 (QbN t.mask n (i,perturb)).2 d
  | 0,i,perturb=>⟨0,by omega,rfl⟩
  | n+1,i,perturb=>by
    obtain ⟨m,hm,e⟩:=Qdn t d n (SetTable.leap t.mask i perturb).1 (SetTable.leap t.mask i perturb).2
    have:=run_le t.mask i
    refine ⟨SetTable.runEnd t.mask i - i+1+m,by omega,?_⟩
    rw [QaK,QdG,e]
    rfl
theorem QeM (h:Int):SetTable.bits h<2^64:=by
  unfold SetTable.bits
  have:=Int.emod_lt_of_pos h (show (0:Int)<2^64 by decide)
  have:=Int.emod_nonneg h (show (2^64:Int)≠0 by decide)
  omega
theorem Qgj (t:SetTable) (hg:QbG (t.mask+1)=true) (h:Int) {j:Nat} (hj:j<t.mask+1):∃ m,m<10*SetTable.turns t.mask/\(stps t m (t.probeStart h)).j=j:=by
  obtain ⟨n,hn,e⟩:=Qdy (mask:=t.mask) hg (i:=SetTable.bits h % (t.mask+1)) (Nat.mod_lt _ (Nat.succ_pos _)) (QeM h) hj
  obtain ⟨m,hm,e2⟩:=Qdn t none n (SetTable.bits h % (t.mask+1)) (SetTable.bits h)
  refine ⟨m,by unfold SetTable.turns;omega,?_⟩
  have:t.probeStart h=runP t (SetTable.bits h % (t.mask+1)) (SetTable.bits h) none:=rfl
  rw [this,e2]
  exact e
theorem Qft:∀ {P Q:List Nat},P.Nodup->(∀ p∈P,p∈Q)->P.length<=Q.length
  | [],_,_,_=>Nat.zero_le _
  | p::P,Q,nd,h=>by
    have nd:=List.nodup_cons.mp nd
    have hp:=h p (.head _)
    have:=Qft (P:=P) (Q:=Q.erase p) nd.2 fun x hx=>(List.mem_erase_of_ne (show x≠p from fun e=>nd.1 (e ▸ hx))).mpr (h x (.tail _ hx))
    rw [List.length_erase_of_mem hp] at this
    have:=List.length_pos_of_mem hp
    rw [List.length_cons]
    omega
theorem Qkn {xs:Array Nat} {j:Nat} (pw:xs.toList.Pairwise (· < ·)):∀ (fuel lo hi:Nat),hi - lo<=fuel->lo<=hi->hi<=xs.size->(∀ k (hk:k<xs.size),k<lo->xs[k]<j)->(∀ k (hk:k<xs.size),hi<=k->j<=xs[k]) ->
    SetTable.below.go xs j fuel lo hi<=xs.size/\(∀ k (hk:k<xs.size),k<SetTable.below.go xs j fuel lo hi->xs[k]<j)/\∀ k (hk:k<xs.size),SetTable.below.go xs j fuel lo hi<=k->j<=xs[k]:=by
  have mono:∀ a b (ha:a<xs.size) (hb:b<xs.size),a<=b->xs[a]<=xs[b]:=fun a b ha hb h=>by
    by_cases e:a=b
    · subst e;exact Nat.le_refl _
    · have:=List.pairwise_iff_getElem.mp pw a b (by simpa using ha) (by simpa using hb) (by omega)
      simp only [Array.getElem_toList] at this
      omega
  intro fuel
  induction fuel with
  | zero=>
    intro lo hi h1 h2 h3 h4 h5
    have:lo=hi:=by omega
    subst this
    exact ⟨h3,h4,h5⟩
  | succ fuel ih=>
    intro lo hi h1 h2 h3 h4 h5
    unfold SetTable.below.go
    by_cases z:lo<hi
    · rw [if_pos z]
      dsimp only
      have hm:(lo+hi) / 2<xs.size:=by omega
      have eg:xs.getD ((lo+hi) / 2) j=xs[(lo+hi) / 2]:=by simp [Array.getD,hm]
      rw [eg]
      by_cases y:xs[(lo+hi) / 2]<j
      · rw [if_pos y]
        refine ih _ _ (by omega) (by omega) h3 (fun k hk hlt=>?_) h5
        have:=mono k ((lo+hi) / 2) hk hm (by omega)
        omega
      · rw [if_neg y]
        refine ih _ _ (by omega) (by omega) (by omega) h4 fun k hk hle=>?_
        have:=mono ((lo+hi) / 2) k hm hk hle
        omega
    · rw [if_neg z]
      have:lo=hi:=by omega
      subst this
      exact ⟨h3,h4,h5⟩
theorem QbF {xs:Array Nat} (pw:xs.toList.Pairwise (· < ·)) (j:Nat):SetTable.below xs j<=xs.size/\(∀ k (hk:k<xs.size),k<SetTable.below xs j->xs[k]<j)/\∀ k (hk:k<xs.size),SetTable.below xs j<=k->j<=xs[k]:=
  Qkn pw _ 0 xs.size (by omega) (Nat.zero_le _) (Nat.le_refl _) (fun k hk h=>by omega) fun k hk h=>by omega
structure Tab (t:SetTable):Prop where
  pw:t.place.toList.Pairwise (· < ·)
  le:∀ x∈t.place.toList,x<=t.mask
  dm:t.dummies=#[]
  gd:QbG (t.mask+1)=true
  pl:t.plain=true
  od:t.mask % 2=1
theorem Tab.slot_no {t:SetTable} (x:Tab t) {j:Nat} (h:j∉t.place.toList):t.slot j=.empty:=by
  unfold SetTable.slot
  dsimp only
  rw [if_neg,x.dm]
  · rfl
  · intro z
    have z:=eq_of_beq z
    exact h (Array.mem_toList_iff.mpr (Array.mem_of_getElem? z))
theorem Tab.slot_dm {t:SetTable} (x:Tab t) (j:Nat):t.slot j≠.dummy:=by
  unfold SetTable.slot
  dsimp only
  split
  · exact fun e=>by cases e
  · rw [x.dm,if_neg (by simp [SetTable.has])]
    exact fun e=>by cases e
theorem Tab.slot_e {t:SetTable} (x:Tab t) {j:Nat} (h:t.slot j=.empty):j∉t.place.toList:=fun hj=>by
  obtain ⟨i,hi,e⟩:=List.mem_iff_getElem.mp hj
  have hi':i<t.place.size:=by simpa using hi
  have e':t.place[i]=j:=by simpa using e
  obtain ⟨b1,b2,b3⟩:=QbF x.pw j
  have hb:SetTable.below t.place j=i:=by
    rcases Nat.lt_trichotomy (SetTable.below t.place j) i with z | z | z
    · have hb':SetTable.below t.place j<t.place.size:=by omega
      have h1:=b3 _ hb' (Nat.le_refl _)
      have:=List.pairwise_iff_getElem.mp x.pw (SetTable.below t.place j) i (by simpa using hb') hi z
      simp only [Array.getElem_toList] at this
      omega
    · exact z
    · have:=b2 i hi' z
      omega
  unfold SetTable.slot at h
  dsimp only at h
  rw [hb,if_pos (by simp [hi',e'])] at h
  cases h
theorem Tab.room {t:SetTable} (x:Tab t) (hs:t.place.size<=t.mask):∃ j,j<t.mask+1/\j∉t.place.toList:=by
  apply Classical.byContradiction
  intro hn
  have:∀ p∈List.range (t.mask+1),p∈t.place.toList:=fun p hp=>by
    apply Classical.byContradiction
    intro h
    exact hn ⟨p,List.mem_range.mp hp,h⟩
  have:=Qft List.nodup_range this
  rw [List.length_range,Array.length_toList] at this
  omega
theorem QeS (t:SetTable) (p:SetTable.Probe):(t.advance p).dummy=p.dummy:=by
  unfold SetTable.advance
  split<;>rfl
theorem Tab.put {t:SetTable} (x:Tab t) {j:Nat} (hj:j∉t.place.toList) (hm:j<=t.mask):Tab (t.put j).1/\(t.put j).1.place.toList=t.place.toList.take (t.put j).2++j::t.place.toList.drop (t.put j).2/\(t.put j).1.mask=t.mask/\(t.put j).1.led=t.led/\(t.put j).1.moves=t.moves/\(t.put j).1.dummies=#[]:=by
  obtain ⟨b1,b2,b3⟩:=QbF x.pw j
  have hp:(t.put j).2=SetTable.below t.place j:=rfl
  have hl:(t.put j).1.place.toList=t.place.toList.take (t.put j).2++j::t.place.toList.drop (t.put j).2:=SetTable.toList_insertAt _ _ _
  have hd:(t.put j).1.dummies=#[]:=by
    show (if SetTable.has t.dummies j=true then _ else t.dummies)=#[]
    rw [x.dm,if_neg (by simp [SetTable.has])]
  have lo:∀ a∈t.place.toList.take (SetTable.below t.place j),a<j:=fun a ha=>by
    obtain ⟨k,hk,e⟩:=List.mem_iff_getElem.mp ha
    rw [List.length_take] at hk
    rw [List.getElem_take] at e
    have hk2:k<t.place.size:=by rw [Array.length_toList] at hk;omega
    have:=b2 k hk2 (by omega)
    rw [Array.getElem_toList] at e
    omega
  have hi:∀ a∈t.place.toList.drop (SetTable.below t.place j),j<a:=fun a ha=>by
    have hne:a≠j:=fun e=>hj (e ▸ List.mem_of_mem_drop ha)
    obtain ⟨k,hk,e⟩:=List.mem_iff_getElem.mp ha
    rw [List.length_drop,Array.length_toList] at hk
    rw [List.getElem_drop,Array.getElem_toList] at e
    have:=b3 (SetTable.below t.place j+k) (by omega) (by omega)
    omega
  refine ⟨⟨?_,?_,hd,x.gd,x.pl,x.od⟩,hl,rfl,rfl,rfl,hd⟩
  · rw [hl,hp,List.pairwise_append,List.pairwise_cons]
    refine ⟨x.pw.sublist (List.take_sublist _ _),⟨hi,x.pw.sublist (List.drop_sublist _ _)⟩,fun a ha b hb=>?_⟩
    rcases List.mem_cons.mp hb with z | z
    · subst z;exact lo a ha
    · have:=lo a ha
      have:=hi b z
      omega
  · intro a ha
    rw [hl] at ha
    rcases List.mem_append.mp ha with z | z
    · exact x.le a (List.mem_of_mem_take z)
    · rcases List.mem_cons.mp z with z | z
      · subst z;exact hm
      · exact x.le a (List.mem_of_mem_drop z)
theorem Qig {mask:Nat} {owner:Array (Option Nat)}:∀ (n fuel i perturb:Nat),n<fuel->owner.getD (QbN mask n (i,perturb)).1 (some 0)=none->∃ j,SetTable.layClean.free mask owner fuel i perturb=some j/\owner.getD j (some 0)=none:=by
  intro n
  induction n with
  | zero=>
    intro fuel i perturb hf he
    obtain ⟨fuel,rfl⟩:∃ m,fuel=m+1:=⟨fuel - 1,by omega⟩
    unfold SetTable.layClean.free
    cases hfd:(List.range (SetTable.runEnd mask i+1 - i)).find? fun k=>(owner.getD (i+k) (some 0)).isNone with
    | some k=>
      have:=List.find?_some hfd
      exact ⟨i+k,rfl,by simpa using this⟩
    | none=>
      have:=List.find?_eq_none.mp hfd 0 (List.mem_range.mpr (by unfold SetTable.runEnd;split<;>omega))
      rw [Nat.add_zero,show owner.getD i (some 0)=none from he] at this
      exact absurd rfl this
  | succ n ih=>
    intro fuel i perturb hf he
    obtain ⟨fuel,rfl⟩:∃ m,fuel=m+1:=⟨fuel - 1,by omega⟩
    unfold SetTable.layClean.free
    cases hfd:(List.range (SetTable.runEnd mask i+1 - i)).find? fun k=>(owner.getD (i+k) (some 0)).isNone with
    | some k=>
      have:=List.find?_some hfd
      exact ⟨i+k,rfl,by simpa using this⟩
    | none=>exact ih fuel _ _ (by omega) he
theorem QbD {f g:Nat->Option Nat}:∀ {l:List Nat},(∀ x∈l,f x=g x)->l.filterMap f=l.filterMap g
  | [],_=>rfl
  | x::l,h=>by
    rw [List.filterMap_cons,List.filterMap_cons,h x (.head _),QbD fun y hy=>h y (.tail _ hy)]
theorem QkT (f:Nat->Option Nat) (j k:Nat) (hf:f j=none):∀ M,j<M->((List.range M).filterMap fun x=>if x=j then some k else f x).Perm (k::(List.range M).filterMap f)
  | 0,h=>absurd h (Nat.not_lt_zero _)
  | M+1,h=>by
    rw [List.range_succ,List.filterMap_append,List.filterMap_append]
    by_cases z:M=j
    · subst z
      have e:((List.range M).filterMap fun x=>if x=M then some k else f x)=(List.range M).filterMap f:=QbD fun x hx=>if_neg (by have:=List.mem_range.mp hx;omega)
      rw [e]
      have e2:([M].filterMap fun x=>if x=M then some k else f x)=[k]:=by simp
      have e3:[M].filterMap f=[]:=by simp [hf]
      rw [e2,e3,List.append_nil]
      exact List.perm_append_comm
    · have ih:=QkT f j k hf M (by omega)
      have e2:([M].filterMap fun x=>if x=j then some k else f x)=[M].filterMap f:=QbD fun x hx=>by
        rw [List.mem_singleton.mp hx,if_neg z]
      rw [e2]
      exact ih.append_right _
def Lv (mask:Nat) (owner:Array (Option Nat)):List Nat:=(List.range (mask+1)).filterMap fun j=>owner.getD j none
theorem Qij {f:Nat->Option Nat}:∀ {M:Nat},(∀ j,j<M->f j≠none)->((List.range M).filterMap f).length=M
  | 0,_=>rfl
  | M+1,h=>by
    rw [List.range_succ,List.filterMap_append,List.length_append,Qij fun j hj=>h j (by omega)]
    cases e:f M with
    | none=>exact absurd e (h M (by omega))
    | some y=>simp [e]
structure Own (mask:Nat) (owner:Array (Option Nat)) (k:Nat):Prop where
  sz:owner.size=mask+1
  pm:(Lv mask owner).Perm (List.range k)
theorem QfQ {mask:Nat} (hg:QbG (mask+1)=true) {owner:Array (Option Nat)} {k:Nat} (x:Own mask owner k) (hk:k<=mask) (h:Int):∃ j,SetTable.layClean.free mask owner (SetTable.turns mask) (SetTable.bits h % (mask+1)) (SetTable.bits h)=some j/\Own mask (owner.setIfInBounds j (some k)) (k+1):=by
  obtain ⟨e,he,hn⟩:∃ e,e<mask+1/\owner.getD e none=none:=by
    apply Classical.byContradiction
    intro hno
    have:=Qij (f:=fun j=>owner.getD j none) (M:=mask+1) fun j hj z=>hno ⟨j,hj,z⟩
    have h2:=x.pm.length_eq
    rw [List.length_range] at h2
    unfold Lv at h2
    omega
  have gd:∀ j,j<mask+1->owner.getD j (some 0)=owner.getD j none:=fun j hj=>by
    have:j<owner.size:=by rw [x.sz];exact hj
    simp [Array.getD,this]
  obtain ⟨n,hn',e2⟩:=Qdy hg (i:=SetTable.bits h % (mask+1)) (perturb:=SetTable.bits h) (Nat.mod_lt _ (Nat.succ_pos _)) (QeM h) he
  obtain ⟨j,hj,hj0⟩:=Qig (mask:=mask) (owner:=owner) n (SetTable.turns mask) (SetTable.bits h % (mask+1)) (SetTable.bits h) (by unfold SetTable.turns;omega) (by rw [e2,gd e he];exact hn)
  have hjs:j<owner.size:=by
    apply Classical.byContradiction
    intro z
    simp [Array.getD,z] at hj0
  refine ⟨j,hj,by rw [Array.size_setIfInBounds];exact x.sz,?_⟩
  have e3:Lv mask (owner.setIfInBounds j (some k))=(List.range (mask+1)).filterMap fun y=>if y=j then some k else owner.getD y none:=QbD fun y hy=>by
    have hy:=List.mem_range.mp hy
    have hys:y<owner.size:=by rw [x.sz];exact hy
    by_cases z:y=j
    · subst z;simp [Array.getD,hys]
    · rw [if_neg z]
      simp [Array.getD,hys,Array.getElem_setIfInBounds,Ne.symm z]
  rw [e3]
  refine (QkT _ j k (by rw [<- gd j (by rw [<- x.sz];exact hjs)];exact hj0) _ (by rw [<- x.sz];exact hjs)).trans ?_
  refine (show (k::(List.range (mask+1)).filterMap fun y=>owner.getD y none).Perm (k::List.range k) from x.pm.cons k).trans ?_
  rw [show List.range (k+1)=List.range k++[k] from List.range_succ]
  exact List.perm_append_comm (l₁:=[k])
theorem Qh1 {mask:Nat} (hg:QbG (mask+1)=true):∀ (hs:List Int) (owner:Array (Option Nat)) (k:Nat),Own mask owner k->k+hs.length<=mask+1->∃ owner',hs.foldl (fun acc h=>do
    let (owner,k) <- acc
    let j <- SetTable.layClean.free mask owner (SetTable.turns mask) (SetTable.bits h % (mask+1)) (SetTable.bits h)
    pure (owner.setIfInBounds j (some k),k+1)) (some (owner,k))=some (owner',k+hs.length)/\Own mask owner' (k+hs.length)
  | [],owner,k,x,_=>⟨owner,rfl,x⟩
  | h::hs,owner,k,x,hl=>by
    rw [List.length_cons] at hl
    obtain ⟨j,hj,y⟩:=QfQ hg x (by omega) h
    obtain ⟨o',e,z⟩:=Qh1 hg hs _ (k+1) y (by omega)
    refine ⟨o',?_,by rw [List.length_cons,show k+(hs.length+1)=k+1+hs.length by omega];exact z⟩
    rw [List.foldl_cons,List.length_cons,show k+(hs.length+1)=k+1+hs.length by omega,<- e]
    congr 1
    show (SetTable.layClean.free mask owner (SetTable.turns mask) (SetTable.bits h % (mask+1)) (SetTable.bits h)).bind _=_
    rw [hj]
    rfl
theorem Qhx (mask:Nat):Own mask (Array.replicate (mask+1) none) 0:=by
  refine ⟨by simp,?_⟩
  have:Lv mask (Array.replicate (mask+1) none)=[]:=by
    unfold Lv
    rw [List.filterMap_eq_nil_iff]
    intro j hj
    have:=List.mem_range.mp hj
    simp [Array.getD,this]
  rw [this]
  exact List.Perm.refl _
theorem Qmn {mask finger moves:Nat} {led:Bool} (hg:QbG (mask+1)=true) (ho:mask % 2=1) (hashes:Array Int) (hl:hashes.size<=mask) :
    ∃ t order,SetTable.laid mask finger moves led true hashes=some (t,order)/\Tab t/\t.mask=mask/\t.led=led/\t.place.size=hashes.size/\order.toList.Perm (List.range hashes.size):=by
  obtain ⟨owner,e,x⟩:=Qh1 hg hashes.toList (Array.replicate (mask+1) none) 0 (Qhx mask) (by rw [Array.length_toList];omega)
  rw [Nat.zero_add,Array.length_toList] at e x
  have ec:SetTable.layClean mask hashes=some owner:=by
    unfold SetTable.layClean
    rw [<- Array.foldl_toList]
    exact congrArg (fun z=>z.map (·.1)) e
  have el:SetTable.laid mask finger moves led true hashes=some ({ mask:=mask,place:=(((List.range (mask+1)).filterMap fun j=>(owner.getD j none).map (j,·)).map (·.1)).toArray,dummies:=#[],finger:=finger,led:=led,moves:=moves,plain:=true },(((List.range (mask+1)).filterMap fun j=>(owner.getD j none).map (j,·)).map (·.2)).toArray):=by
    unfold SetTable.laid
    rw [ec]
    rfl
  have e2:((List.range (mask+1)).filterMap fun j=>(owner.getD j none).map (j,·)).map (·.2)=Lv mask owner:=by
    unfold Lv
    rw [List.map_filterMap]
    exact QbD fun y _=>by cases owner.getD y none<;>rfl
  have e1:((List.range (mask+1)).filterMap fun j=>(owner.getD j none).map (j,·)).map (·.1)=(List.range (mask+1)).filterMap fun j=>(owner.getD j none).map fun _=>j:=by
    rw [List.map_filterMap]
    exact QbD fun y _=>by cases owner.getD y none<;>rfl
  have len:(((List.range (mask+1)).filterMap fun j=>(owner.getD j none).map (j,·)).map (·.1)).length=hashes.size:=by
    rw [List.length_map]
    have h1:=congrArg List.length e2
    rw [List.length_map,x.pm.length_eq,List.length_range] at h1
    exact h1
  refine ⟨_,_,el,⟨?_,?_,rfl,hg,rfl,ho⟩,rfl,rfl,by rw [List.size_toArray];exact len,by rw [List.toList_toArray,e2];exact x.pm⟩
  · show List.Pairwise (· < ·) (List.toArray _).toList
    rw [List.toList_toArray,e1,List.pairwise_filterMap]
    refine List.pairwise_lt_range.imp fun {a b} h=>?_
    intro c hc d hd
    cases hoa:owner.getD a none with
    | none=>rw [hoa] at hc;cases hc
    | some _=>
      cases hob:owner.getD b none with
      | none=>rw [hob] at hd;cases hd
      | some _=>rw [hoa] at hc;rw [hob] at hd;cases hc;cases hd;exact h
  · intro y hy
    have hy:y∈(((List.range (mask+1)).filterMap fun j=>(owner.getD j none).map (j,·)).map (·.1)).toArray.toList:=hy
    rw [List.toList_toArray,e1] at hy
    obtain ⟨a,ha,e⟩:=List.mem_filterMap.mp hy
    have:=List.mem_range.mp ha
    cases hoa:owner.getD a none with
    | none=>rw [hoa] at e;cases e
    | some _=>
      rw [hoa] at e
      cases e
      show a<=mask
      omega
theorem Qgo {α:Type} {es:Array α} {order:Array Nat} (h:order.toList.Perm (List.range es.size)):(order.filterMap (es[·]?)).toList.Perm es.toList:=by
  rw [Array.toList_filterMap]
  refine (h.filterMap _).trans ?_
  have:(List.range es.size).filterMap (es[·]?)=es.toList:=by
    apply List.ext_getElem?
    intro i
    have key:∀ n,n<=es.size->(List.range n).filterMap (es[·]?)=es.toList.take n:=fun n=>by
      induction n with
      | zero=>intro _;rfl
      | succ n ih=>
        intro hn
        rw [List.range_succ,List.filterMap_append,ih (by omega),List.take_add_one]
        have:es[n]? = some es[n]:=by simp [show n<es.size by omega]
        simp [this]
    rw [key _ (Nat.le_refl _),<- Array.length_toList,List.take_length]
  rw [this]
theorem Qkq {t t':SetTable} (h:t'.mask=t.mask) (p:SetTable.Probe):t'.advance p=t.advance p:=by
  unfold SetTable.advance
  rw [h]
theorem Qbt {t t':SetTable} (h:t'.mask=t.mask):∀ (n:Nat) (p:SetTable.Probe),stps t' n p=stps t n p
  | 0,_=>rfl
  | n+1,p=>by
    show stps t' n (t'.advance p)=stps t n (t.advance p)
    rw [Qkq h,Qbt h n]
theorem Qbz {t t':SetTable} (h:t'.mask=t.mask) (x:Int):t'.probeStart x=t.probeStart x:=by
  unfold SetTable.probeStart
  rw [h]
structure PIn (t:SetTable) (p:SetTable.Probe):Prop where
  a:p.j+p.more<=t.mask
  b:p.i<=t.mask
theorem Qeg {mask i:Nat} (h:i<=mask):i+(SetTable.runEnd mask i - i)<=mask:=by unfold SetTable.runEnd;split<;>omega
theorem PIn.adv {t:SetTable} {p:SetTable.Probe} (x:PIn t p):PIn t (t.advance p):=by
  unfold SetTable.advance
  split
  · exact ⟨by show p.j+1+(p.more - 1)<=_;have:=x.a;omega,x.b⟩
  · have:(SetTable.leap t.mask p.i p.perturb).1<=t.mask:=Nat.le_of_lt_succ (Nat.mod_lt _ (Nat.succ_pos _))
    exact ⟨Qeg this,this⟩
theorem PIn.stps {t:SetTable}:∀ (n:Nat) {p:SetTable.Probe},PIn t p->PIn t (stps t n p)
  | 0,_,x=>x
  | n+1,_,x=>PIn.stps n x.adv
theorem PIn.start (t:SetTable) (h:Int):PIn t (t.probeStart h):=by
  have:SetTable.bits h % (t.mask+1)<=t.mask:=Nat.le_of_lt_succ (Nat.mod_lt _ (Nat.succ_pos _))
  exact ⟨Qeg this,this⟩
theorem QeV (t:SetTable) (h:Int) (n:Nat):(stps t n (t.probeStart h)).j<=t.mask:=by
  have:=(PIn.stps n (PIn.start t h)).a
  omega
def Rch (t:SetTable) (j:Nat) (h:Int):Prop:=∃ n,(stps t n (t.probeStart h)).j=j/\∀ m,m<n->(stps t m (t.probeStart h)).j∈t.place.toList
theorem Rch.mono {t t':SetTable} {j:Nat} {h:Int} (x:Rch t j h) (hm:t'.mask=t.mask) (hs:∀ y∈t.place.toList,y∈t'.place.toList):Rch t' j h:=by
  obtain ⟨n,e,k⟩:=x
  refine ⟨n,by rw [Qbz hm,Qbt hm];exact e,fun m hlt=>?_⟩
  rw [Qbz hm,Qbt hm]
  exact hs _ (k m hlt)
theorem Tab.slot_l {t:SetTable} {j i:Nat} (h:t.slot j=.live i):t.place[i]? = some j:=by
  unfold SetTable.slot at h
  dsimp only at h
  split at h
  · rename_i e
    cases h
    exact eq_of_beq e
  · split at h<;>cases h
theorem Tab.slot_at {t:SetTable} (x:Tab t) {i:Nat} {j:Nat} (h:t.place[i]? = some j):t.slot j=.live i:=by
  have hj:j∈t.place.toList:=Array.mem_toList_iff.mpr (Array.mem_of_getElem? h)
  cases hs:t.slot j with
  | empty=>exact absurd hj (x.slot_e hs)
  | dummy=>exact absurd hs (x.slot_dm j)
  | live i'=>
    have h':=Tab.slot_l hs
    obtain ⟨h1,e1⟩:=Array.getElem?_eq_some_iff.mp h
    obtain ⟨h2,e2⟩:=Array.getElem?_eq_some_iff.mp h'
    congr 1
    rcases Nat.lt_trichotomy i' i with z | z | z
    · have:=List.pairwise_iff_getElem.mp x.pw i' i (by simpa using h2) (by simpa using h1) z
      simp only [Array.getElem_toList] at this
      omega
    · exact z
    · have:=List.pairwise_iff_getElem.mp x.pw i i' (by simpa using h1) (by simpa using h2) z
      simp only [Array.getElem_toList] at this
      omega
theorem Qkb {t:SetTable} (x:Tab t) (hashAt:Nat->Int) (h:Int):∀ (n fuel:Nat) (p:SetTable.Probe),n<fuel->t.slot (stps t n p).j=.empty->p.dummy=none ->
    ∃ k,k<=n/\(∀ m,m<k->∃ i,t.slot (stps t m p).j=.live i/\hashAt i≠h)/\((SetTable.probe.go t hashAt h fuel p=some (.empty (stps t k p).j none)/\t.slot (stps t k p).j=.empty)∨(k<n/\∃ i,SetTable.probe.go t hashAt h fuel p=some (.candidate (stps t k p).j i (stps t (k+1) p))/\t.slot (stps t k p).j=.live i/\hashAt i=h)):=by
  intro n
  induction n with
  | zero=>
    intro fuel p hf he hd
    obtain ⟨fuel,rfl⟩:∃ m,fuel=m+1:=⟨fuel - 1,by omega⟩
    refine ⟨0,Nat.le_refl _,fun m hm=>absurd hm (Nat.not_lt_zero _),.inl ⟨?_,he⟩⟩
    unfold SetTable.probe.go
    rw [show t.slot p.j=.empty from he]
    dsimp only
    rw [hd]
    rfl
  | succ n ih=>
    intro fuel p hf he hd
    obtain ⟨fuel,rfl⟩:∃ m,fuel=m+1:=⟨fuel - 1,by omega⟩
    cases hs:t.slot p.j with
    | empty=>
      refine ⟨0,Nat.zero_le _,fun m hm=>absurd hm (Nat.not_lt_zero _),.inl ⟨?_,hs⟩⟩
      unfold SetTable.probe.go
      rw [hs]
      dsimp only
      rw [hd]
      rfl
    | dummy=>exact absurd hs (x.slot_dm _)
    | live i=>
      by_cases z:hashAt i=h
      · refine ⟨0,Nat.zero_le _,fun m hm=>absurd hm (Nat.not_lt_zero _),.inr ⟨Nat.succ_pos _,i,?_,hs,z⟩⟩
        unfold SetTable.probe.go
        rw [hs]
        dsimp only
        rw [if_pos (by simp [z])]
        rfl
      · obtain ⟨k,hk,ps,q⟩:=ih fuel (t.advance p) (by omega) he (by rw [QeS];exact hd)
        have eg:SetTable.probe.go t hashAt h (fuel+1) p=SetTable.probe.go t hashAt h fuel (t.advance p):=by
          conv=>lhs;unfold SetTable.probe.go
          rw [hs]
          dsimp only
          rw [if_neg (by simp [z])]
        have ps':∀ m,m<k+1->∃ i,t.slot (stps t m p).j=.live i/\hashAt i≠h:=fun m hm=>by
          cases m with
          | zero=>exact ⟨i,hs,z⟩
          | succ m=>exact ps m (by omega)
        rcases q with ⟨q1,q2⟩ | ⟨q0,i',q1,q2,q3⟩
        · exact ⟨k+1,by omega,ps',.inl ⟨by rw [eg];exact q1,q2⟩⟩
        · exact ⟨k+1,by omega,ps',.inr ⟨by omega,i',by rw [eg];exact q1,q2,q3⟩⟩
theorem Qkw (t:SetTable):∀ (k m j i perturb:Nat) (d:Option Nat),k<=m->(stps t k { j:=j,more:=m,i:=i,perturb:=perturb,dummy:=d }).j=j+k
  | 0,_,_,_,_,_,_=>rfl
  | k+1,m,j,i,perturb,d,h=>by
    obtain ⟨m,rfl⟩:∃ m',m=m'+1:=⟨m - 1,by omega⟩
    show (stps t k (t.advance _)).j=_
    have:t.advance { j:=j,more:=m+1,i:=i,perturb:=perturb,dummy:=d }={ j:=j+1,more:=m,i:=i,perturb:=perturb,dummy:=d }:=by
      unfold SetTable.advance
      rw [if_pos (by show m+1 > 0;omega)]
      rfl
    rw [this,Qkw t k m _ _ _ _ (by omega)]
    omega
theorem Qkd {t:SetTable} {owner:Array (Option Nat)}:∀ (fuel i perturb j:Nat),SetTable.layClean.free t.mask owner fuel i perturb=some j->∃ n,(stps t n (runP t i perturb none)).j=j/\∀ m,m<n->owner.getD (stps t m (runP t i perturb none)).j (some 0)≠none:=by
  intro fuel
  induction fuel with
  | zero=>intro i perturb j h;cases h
  | succ fuel ih=>
    intro i perturb j h
    unfold SetTable.layClean.free at h
    have jr:∀ k,k<=SetTable.runEnd t.mask i - i->(stps t k (runP t i perturb none)).j=i+k:=fun k hk=>Qkw t k _ _ _ _ _ hk
    have re:SetTable.runEnd t.mask i+1 - i=SetTable.runEnd t.mask i - i+1:=by unfold SetTable.runEnd;split<;>omega
    cases hfd:(List.range (SetTable.runEnd t.mask i+1 - i)).find? fun k=>(owner.getD (i+k) (some 0)).isNone with
    | some k=>
      rw [hfd] at h
      cases h
      obtain ⟨_,hk,hb⟩:=List.find?_range_eq_some.mp hfd
      have hk:=List.mem_range.mp hk
      rw [re] at hk
      refine ⟨k,jr k (by omega),fun m hm=>?_⟩
      rw [jr m (by omega)]
      have:=hb m hm
      intro z
      rw [z] at this
      cases this
    | none=>
      rw [hfd] at h
      obtain ⟨n,e,w⟩:=ih _ _ _ h
      have all:=List.find?_eq_none.mp hfd
      refine ⟨SetTable.runEnd t.mask i - i+1+n,by rw [QaK,QdG];exact e,fun m hm=>?_⟩
      by_cases z:m<SetTable.runEnd t.mask i - i+1
      · rw [jr m (by omega)]
        have:=all m (List.mem_range.mpr (by omega))
        intro y
        rw [y] at this
        exact this rfl
      · obtain ⟨m',rfl⟩:∃ m',m=SetTable.runEnd t.mask i - i+1+m':=⟨m - (SetTable.runEnd t.mask i - i+1),by omega⟩
        rw [QaK,QdG]
        exact w m' (by omega)
def tM (mask:Nat):SetTable:={ mask:=mask,place:=#[],dummies:=#[],finger:=0,led:=true,moves:=0,plain:=true }
def OwnW (mask:Nat) (owner:Array (Option Nat)) (H:Nat->Int):Prop:=∀ j k,owner.getD j none=some k->∃ n,(stps (tM mask) n ((tM mask).probeStart (H k))).j=j/\∀ m,m<n->owner.getD (stps (tM mask) m ((tM mask).probeStart (H k))).j none≠none
theorem Qh0 {mask:Nat} (hg:QbG (mask+1)=true) {owner:Array (Option Nat)} {k:Nat} {H:Nat->Int} (x:Own mask owner k) (w:OwnW mask owner H) (hk:k<=mask):∃ j,SetTable.layClean.free mask owner (SetTable.turns mask) (SetTable.bits (H k) % (mask+1)) (SetTable.bits (H k))=some j/\Own mask (owner.setIfInBounds j (some k)) (k+1)/\OwnW mask (owner.setIfInBounds j (some k)) H:=by
  obtain ⟨j,hj,y⟩:=QfQ hg x hk (H k)
  refine ⟨j,hj,y,?_⟩
  have gr:∀ z,owner.getD z none≠none->(owner.setIfInBounds j (some k)).getD z none≠none:=fun z hz=>by
    have hs:z<owner.size:=by
      apply Classical.byContradiction
      intro c
      exact hz (by simp [Array.getD,c])
    by_cases e:j=z
    · subst e;simp [Array.getD,hs]
    · have:(owner.setIfInBounds j (some k)).getD z none=owner.getD z none:=by simp [Array.getD,hs,Array.getElem_setIfInBounds,e]
      rw [this];exact hz
  obtain ⟨n,e,way⟩:=Qkd (t:=tM mask) _ _ _ _ hj
  intro j' k' h'
  by_cases z:j=j'
  · subst z
    have hs:j<owner.size:=by
      apply Classical.byContradiction
      intro c
      simp [Array.getD,c] at h'
    have ek:k'=k:=by
      simp [Array.getD,hs] at h'
      exact h'.symm
    subst ek
    refine ⟨n,e,fun m hm=>gr _ ?_⟩
    have h1:=way m hm
    have h2:(stps (tM mask) m ((tM mask).probeStart (H k'))).j<=mask:=QeV (tM mask) (H k') m
    have h3:(stps (tM mask) m ((tM mask).probeStart (H k'))).j<owner.size:=by rw [x.sz];omega
    have h1:owner.getD (stps (tM mask) m ((tM mask).probeStart (H k'))).j (some 0)≠none:=h1
    simpa [Array.getD,h3] using h1
  · have h2:owner.getD j' none=some k':=by
      have hs:j'<owner.size:=by
        apply Classical.byContradiction
        intro c
        simp [Array.getD,c] at h'
      rw [<- h']
      simp [Array.getD,hs,Array.getElem_setIfInBounds,z]
    obtain ⟨n',e',way'⟩:=w j' k' h2
    exact ⟨n',e',fun m hm=>gr _ (way' m hm)⟩
theorem QfR {mask:Nat} (hg:QbG (mask+1)=true) (H:Nat->Int):∀ (hs:List Int) (owner:Array (Option Nat)) (k:Nat),Own mask owner k->OwnW mask owner H->(∀ i (hi:i<hs.length),H (k+i)=hs[i])->k+hs.length<=mask+1->∃ owner',hs.foldl (fun acc h=>do
    let (owner,k) <- acc
    let j <- SetTable.layClean.free mask owner (SetTable.turns mask) (SetTable.bits h % (mask+1)) (SetTable.bits h)
    pure (owner.setIfInBounds j (some k),k+1)) (some (owner,k))=some (owner',k+hs.length)/\Own mask owner' (k+hs.length)/\OwnW mask owner' H
  | [],owner,k,x,w,_,_=>⟨owner,rfl,x,w⟩
  | h::hs,owner,k,x,w,hH,hl=>by
    rw [List.length_cons] at hl
    have e0:H k=h:=hH 0 (by simp)
    obtain ⟨j,hj,y,y2⟩:=Qh0 hg x w (by omega)
    rw [e0] at hj
    obtain ⟨o',e,z,z2⟩:=QfR hg H hs _ (k+1) y y2 (fun i hi=>by
      have:=hH (i+1) (by rw [List.length_cons];omega)
      rw [show k+1+i=k+(i+1) by omega,this];rfl) (by omega)
    refine ⟨o',?_,by rw [List.length_cons,show k+(hs.length+1)=k+1+hs.length by omega];exact z,z2⟩
    rw [List.foldl_cons,List.length_cons,show k+(hs.length+1)=k+1+hs.length by omega,<- e]
    congr 1
    show (SetTable.layClean.free mask owner (SetTable.turns mask) (SetTable.bits h % (mask+1)) (SetTable.bits h)).bind _=_
    rw [hj]
    rfl
theorem Qgz {mask finger moves:Nat} {led:Bool} (hg:QbG (mask+1)=true) (ho:mask % 2=1) (hashes:Array Int) (hl:hashes.size<=mask) :
    ∃ t order,SetTable.laid mask finger moves led true hashes=some (t,order)/\Tab t/\t.mask=mask/\t.led=led/\t.place.size=hashes.size/\order.toList.Perm (List.range hashes.size)/\∀ (i j k:Nat),t.place[i]? = some j->order[i]? = some k->Rch t j (hashes.getD k 0):=by
  obtain ⟨owner,e,x,w⟩:=QfR hg (fun k=>hashes.getD k 0) hashes.toList (Array.replicate (mask+1) none) 0 (Qhx mask) (fun j k h=>by
      have:(Array.replicate (mask+1) (none:Option Nat)).getD j none=none:=by
        by_cases c:j<mask+1<;>simp [Array.getD,c]
      rw [this] at h;cases h) (fun i hi=>by
      have hi':i<hashes.size:=by simpa using hi
      simp [Array.getD,hi']) (by rw [Array.length_toList];omega)
  rw [Nat.zero_add,Array.length_toList] at e x
  have ec:SetTable.layClean mask hashes=some owner:=by
    unfold SetTable.layClean
    rw [<- Array.foldl_toList]
    exact congrArg (fun z=>z.map (·.1)) e
  have el:SetTable.laid mask finger moves led true hashes=some ({ mask:=mask,place:=(((List.range (mask+1)).filterMap fun j=>(owner.getD j none).map (j,·)).map (·.1)).toArray,dummies:=#[],finger:=finger,led:=led,moves:=moves,plain:=true },(((List.range (mask+1)).filterMap fun j=>(owner.getD j none).map (j,·)).map (·.2)).toArray):=by
    unfold SetTable.laid
    rw [ec]
    rfl
  obtain ⟨t,order,e2,T,m1,m2,m3,m4⟩:=Qmn (finger:=finger) (moves:=moves) (led:=led) hg ho hashes hl
  rw [el] at e2
  have e2:=Option.some.inj e2
  have et:_=t:=congrArg Prod.fst e2
  have eo:_=order:=congrArg Prod.snd e2
  refine ⟨t,order,by rw [el,e2],T,m1,m2,m3,m4,fun i j k hj hk=>?_⟩
  have live:∀ y z,(y,z)∈((List.range (mask+1)).filterMap fun j=>(owner.getD j none).map (j,·))↔y<=mask/\owner.getD y none=some z:=fun y z=>by
    rw [List.mem_filterMap]
    constructor
    · rintro ⟨a,ha,e⟩
      have:=List.mem_range.mp ha
      cases hoa:owner.getD a none with
      | none=>rw [hoa] at e;cases e
      | some b=>rw [hoa] at e;cases e;exact ⟨by omega,hoa⟩
    · rintro ⟨h1,h2⟩
      exact ⟨y,List.mem_range.mpr (by omega),by rw [h2];rfl⟩
  have pl:∀ y,owner.getD y none≠none->y<=mask->y∈t.place.toList:=fun y hy hm=>by
    rw [<- et]
    show y∈(List.toArray _).toList
    rw [List.toList_toArray,List.mem_map]
    cases hoy:owner.getD y none with
    | none=>exact absurd hoy hy
    | some z=>exact ⟨(y,z),(live y z).mpr ⟨hm,hoy⟩,rfl⟩
  have hjk:(j,k)∈((List.range (mask+1)).filterMap fun j=>(owner.getD j none).map (j,·)):=by
    rw [<- et] at hj
    rw [<- eo] at hk
    have hj:(((List.range (mask+1)).filterMap fun j=>(owner.getD j none).map (j,·)).map (·.1)).toArray[i]? = some j:=hj
    have hk:(((List.range (mask+1)).filterMap fun j=>(owner.getD j none).map (j,·)).map (·.2)).toArray[i]? = some k:=hk
    rw [List.getElem?_toArray,List.getElem?_map] at hj hk
    cases hz:((List.range (mask+1)).filterMap fun j=>(owner.getD j none).map (j,·))[i]? with
    | none=>rw [hz] at hj;cases hj
    | some q=>
      rw [hz] at hj hk
      have h1:q.1=j:=Option.some.inj hj
      have h2:q.2=k:=Option.some.inj hk
      rw [<- h1,<- h2]
      exact List.mem_of_getElem? hz
  obtain ⟨hjm,hjo⟩:=(live j k).mp hjk
  obtain ⟨n,e3,way⟩:=w j k hjo
  have hm:t.mask=(tM mask).mask:=m1
  refine ⟨n,by rw [Qbz hm,Qbt hm];exact e3,fun m hlt=>?_⟩
  rw [Qbz hm,Qbt hm]
  exact pl _ (way m hlt) (QeV (tM mask) _ m)
theorem Qcc:Slot "set_iterator" "__next__" "set_iterator.__next__" :=
  .of (owner := "set_iterator") (n := "__next__") (by rw [typeLookup_type,builtinLookup_eq_fast];kernel_rfl) (by decide +kernel) (by decide +kernel) (by decide +kernel) (by first | exact .inl (by decide +kernel) | exact .inr (by decide +kernel)) (by rw [isSubtype_type];kernel_rfl)
theorem Qio:entryFor table "set_iterator.__next__" = some Builtin.«set_iterator.__next__» := entryFor_of_fast (by kernel_rfl)
theorem ow_si:Manifest.owners.lookup (String.ofList ['r', 'o', 't', 'a', 'r', 'e', 't', 'i', '_', 't', 'e', 's'].reverse)=some Manifest.sig_set_iterator:=by kernel_rfl
theorem QiU (a:Value):argsOk "set_iterator.__next__" ⟨[a],[]⟩:=by
  unfold argsOk;rw [signature?_of (id := "set_iterator.__next__") (n:=['_', '_', 't', 'x', 'e', 'n', '_', '_']) (o:=['r', 'o', 't', 'a', 'r', 'e', 't', 'i', '_', 't', 'e', 's']) (by kernel_rfl) ow_si];kernel_rfl
theorem Qmz:entryFor table "set.__iter__" = some Builtin.«frozenset.__iter__» := entryFor_alias (id' := "frozenset.__iter__") (by kernel_rfl) (by first | rfl | decide +kernel | (unfold String.splitOn;simp +decide [String.splitOnAux])) (by decide +kernel) (by kernel_rfl)
def IsSI (h:Heap) (I:Addr) (first:Value) (i a n ep:Nat):Prop:=∃ o,h.get? I=some o/\o.cls=.type "set_iterator" /\ o.data=.fields #[first,.int i 0,.ref a,.int n 0,.int ep 0]
theorem IsSI.typeIs {s:Shared} {I:Addr} {first:Value} {i a n ep:Nat} (x:IsSI s.heap I first i a n ep):s.TypeIs (.ref I) "set_iterator" := let ⟨o,h,c,_⟩:=x;⟨o,h,c⟩
structure SetAt (h:Heap) (a:Addr) (es:Array (Int×Value)) (ep:Nat) (t:SetTable):Prop where
  at_:∃ o,h.get? a=some o/\o.ExactSet/\o.data=.set es ep t
  ft:t.fits es.size=true
section
variable {prog:Program} {w:World} {A:Around} {E:Value->Shared->Prop} {s:Shared}
theorem Qmb {I a:Addr} {i ep slot nx:Nat} {es:Array (Int×Value)} {t:SetTable} {x:Value} {Q:Option Value->Shared->Prop} (hit:IsSI s.heap I (.int slot 0) i a es.size ep) (ha:SetAt s.heap a es ep t)
    (hN:∀ (A:Around) (E:Value->Shared->Prop) (Q':Option (Value×Nat)->Shared->Prop),Q' (some (x,nx)) s->wpAny (model prog w) A (setNext a slot i ep) Q' E s)
    (hQ:∀ h',IsSI h' I (.int nx 0) (i+1) a es.size ep->Heap.SameBut I s.heap h'->Q (some x) { s with heap:=h' }):wpAny (model prog w) A (pyNext (.ref I)) Q E s:=by
  obtain ⟨o,ho,hc,hd⟩:=id hit
  obtain ⟨os,hos,hex,hds⟩:=ha.at_
  unfold pyNext
  refine wpAny_bind (wpAny_attempt (wpAny_callSpecial?_slot (name:=Str.ofString "__next__") hit.typeIs Qcc (wpAny_call_entry Qcc hit.typeIs Qio ?_ (QiU _))))
  unfold Builtin.«set_iterator.__next__»
  wp_walk
  rw [hd]
  refine wpAny_pure ?_
  dsimp only
  refine wpAny_bind (wpAny_setEntries_of hos hds ha.ft ?_)
  rw [if_neg (by simp)]
  refine wpAny_bind ?_
  refine hN _ _ _ ?_
  dsimp only
  refine wpAny_bind (wpAny_setField ho hd (by simp) ?_)
  have g1:(s.heap.update I (Obj.mapFields fun x=>x.setIfInBounds 0 (rawInt ↑nx))).get? I=some (Obj.mapFields (fun x=>x.setIfInBounds 0 (rawInt ↑nx)) o):=Heap.get?_update_self _ ho (Obj.isFreed_of_fields (Obj.data_mapFields hd _))
  have d1:(Obj.mapFields (fun x=>x.setIfInBounds 0 (rawInt ↑nx)) o).data=.fields #[.int nx 0,.int i 0,.ref a,.int es.size 0,.int ep 0]:=by rw [Obj.data_mapFields hd];simp [rawInt]
  refine wpAny_bind (wpAny_setField g1 d1 (by simp) (wpAny_pure ⟨x,rfl,wpAny_pure (hQ _ ?_ ((Heap.SameBut.update ..).trans (Heap.SameBut.update ..)))⟩))
  exact ⟨_,Heap.get?_update_self _ g1 (Obj.isFreed_of_fields (Obj.data_mapFields d1 _)),(Obj.cls_mapFields ..).trans ((Obj.cls_mapFields ..).trans hc),by rw [Obj.data_mapFields d1];simp [rawInt]⟩
theorem nx_end {I a:Addr} {i ep slot:Nat} {es:Array (Int×Value)} {t:SetTable} {Q:Option Value->Shared->Prop} (hh:A.handled=none) (hit:IsSI s.heap I (.int slot 0) i a es.size ep) (ha:SetAt s.heap a es ep t)
    (hN:∀ (A:Around) (E:Value->Shared->Prop) (Q':Option (Value×Nat)->Shared->Prop),Q' none s->wpAny (model prog w) A (setNext a slot i ep) Q' E s)
    (hQ:∀ h',Heap.ExtBut I s.heap h'->Q none { s with heap:=h' }):wpAny (model prog w) A (pyNext (.ref I)) Q E s:=by
  obtain ⟨o,ho,hc,hd⟩:=id hit
  obtain ⟨os,hos,hex,hds⟩:=ha.at_
  unfold pyNext
  refine wpAny_bind (wpAny_attempt (wpAny_callSpecial?_slot (name:=Str.ofString "__next__") hit.typeIs Qcc (wpAny_call_entry Qcc hit.typeIs Qio ?_ (QiU _))))
  unfold Builtin.«set_iterator.__next__»
  wp_walk
  rw [hd]
  refine wpAny_pure ?_
  dsimp only
  refine wpAny_bind (wpAny_setEntries_of hos hds ha.ft ?_)
  rw [if_neg (by simp)]
  refine wpAny_bind ?_
  refine hN _ _ _ ?_
  dsimp only
  refine wpAny_bind (wpAny_setField ho hd (by simp) ?_)
  refine wpAny_bind ?_
  simp only [newExc,newTuple]
  refine wpAny_bind (wpAny_newObj_type ?_ (by size_fits))
  refine wpAny_bind (m:=firstArgMember _ _) (wpAny_of_eq (a:=Value.none) (by first | rfl | (simp only [firstArgMember];rfl)) ?_)
  refine wpAny_newObj_type ?_ (by size_fits)
  simp only [raiseNew]
  refine wpAny_bind (wpAny_handled ?_)
  first | rw [show A.in1.handled=none from hh] | rw [hh]
  refine wpAny_bind (wpAny_pure (wpAny_throw ?_))
  refine wpAny_bind (wpAny_isInstance (T := "StopIteration") (b:=true) ⟨_,Heap.get?_push_size _ rfl,rfl⟩ (by rw [isSubtype_type];kernel_rfl) ?_)
  exact wpAny_pure (hQ _ (((Heap.SameBut.update ..).extBut.push _).push _))
theorem Qky {a:Addr} {ep slot given:Nat} {es:Array (Int×Value)} {t:SetTable} {Q:Option (Value×Nat)->Shared->Prop} (hb:w.params.followText "set-order" = false) (ha:SetAt s.heap a es ep t) (hp:t.plain=true) (hl:t.led=true)
    (h:Q (match es[SetTable.below t.place slot]?,t.place[SetTable.below t.place slot]? with | some (_,x),some j=>some (x,j+1) | _,_=>none) s):wpAny (model prog w) A (setNext a slot given ep) Q E s:=by
  obtain ⟨os,hos,hex,hds⟩:=ha.at_
  unfold setNext
  refine wpAny_bind (wpAny_setState_of hos hds ha.ft ?_)
  dsimp only
  unfold setsByText
  refine wpAny_bind (wpAny_bind (wpAny_askSetting (wpAny_pure ?_)))
  rw [show (model prog w).w.params.followText "set-order" = false from hb,if_neg Bool.false_ne_true]
  split
  · rename_i hdr
    exact absurd (show (!t.plain&&decide (es.size > 1))=true from hdr) (by rw [hp];simp)
  · refine wpAny_bind ?_
    show wpAny (model prog w) A (if (!t.led && !es.isEmpty)=true then unsupported "set:maker-not-led" else pure ()) _ E s
    rw [if_neg (by rw [hl];simp)]
    exact wpAny_pure (wpAny_pure h)
theorem QgY {a:Addr} {ep slot given:Nat} {es:Array (Int×Value)} {t:SetTable} {Q:Option (Value×Nat)->Shared->Prop} (hb:w.params.followText "set-order" = true) (ha:SetAt s.heap a es ep t)
    (h:Q (((pickOrder (w.params.setOrder a ep) es)[given]?).map fun e=>(e.2,slot)) s):wpAny (model prog w) A (setNext a slot given ep) Q E s:=by
  obtain ⟨os,hos,hex,hds⟩:=ha.at_
  unfold setNext
  refine wpAny_bind (wpAny_setState_of hos hds ha.ft ?_)
  dsimp only
  unfold setsByText
  refine wpAny_bind (wpAny_bind (wpAny_askSetting (wpAny_pure ?_)))
  rw [show (model prog w).w.params.followText "set-order" = true from hb,if_pos rfl,if_neg (by simp)]
  refine wpAny_bind ?_
  unfold setWalk
  refine wpAny_bind (wpAny_setState_of hos hds ha.ft ?_)
  dsimp only
  unfold setsByText
  refine wpAny_bind (wpAny_bind (wpAny_askSetting (wpAny_pure ?_)))
  rw [show (model prog w).w.params.followText "set-order" = true from hb,if_pos rfl]
  refine wpAny_bind (wpAny_askSetting (wpAny_pure ?_))
  exact wpAny_pure h
theorem Qek {α:Type} (next:Nat->Nat) (xs:Array α):(pickOrder next xs).toList.Perm xs.toList:=by
  unfold pickOrder
  have go:∀ (n k:Nat) (left:List α) (out:Array α),left.length=n->(pickOrder.go next n k left out).toList.Perm (out.toList++left):=fun n=>by
    induction n with
    | zero=>
      intro k left out hl
      rw [List.length_eq_zero_iff.mp hl,List.append_nil]
      exact List.Perm.refl _
    | succ n ih=>
      intro k left out hl
      have hi:next k % left.length<left.length:=Nat.mod_lt _ (by omega)
      unfold pickOrder.go
      rw [List.getElem?_eq_getElem hi]
      dsimp only
      refine (ih (k+1) _ _ (by rw [List.length_eraseIdx,if_pos hi];omega)).trans ?_
      rw [Array.toList_push,List.append_assoc]
      refine List.Perm.append_left _ ?_
      have sp:left=left.take (next k % left.length)++left[next k % left.length]::left.drop (next k % left.length+1):=by rw [<- List.drop_eq_getElem_cons hi,List.take_append_drop]
      have pm:=(List.perm_middle (a:=left[next k % left.length]) (l₁:=left.take (next k % left.length)) (l₂:=left.drop (next k % left.length+1))).symm
      rw [<- sp,<- List.eraseIdx_eq_take_drop_succ] at pm
      exact pm
  have:=go xs.size 0 xs.toList #[] (by simp)
  simpa using this
theorem it_led {a:Addr} {ep:Nat} {es:Array (Int×Value)} {t:SetTable} {Q:Value->Shared->Prop} (ha:SetAt s.heap a es ep t) (hp:t.plain=true)
    (hQ:Q (.ref s.heap.objs.size) { s with heap:=s.heap.push { cls:=.type "set_iterator",data:=.fields #[.int 0 0,.int 0 0,.ref a,.int es.size 0,.int ep 0] } }):wpAny (model prog w) A (pyIter (.ref a)) Q E s:=by
  obtain ⟨os,hos,hex,hds⟩:=ha.at_
  have hT:s.TypeIs (.ref a) "set" := ⟨os,hos,hex.1⟩
  refine wpAny_pyIter_slot hT PySem.F.slot_set_iter (wpAny_call_entry PySem.F.slot_set_iter hT Qmz ?_ (PySem.F.args_set_iter_1 _))
  unfold Builtin.«frozenset.__iter__»
  wp_walk
  have nf:¬ (t.place.size != es.size||decide (t.fill > t.mask))=true:=by
    have hf:=ha.ft
    simp only [SetTable.fits,Bool.and_eq_true,beq_iff_eq,decide_eq_true_eq] at hf
    simp [hf.1,Nat.not_lt.mpr hf.2]
  rw [hds]
  dsimp only
  rw [if_neg nf]
  refine wpAny_pure (wpAny_pure (wpAny_pure ?_))
  refine wpAny_bind ?_
  unfold setDrawn
  refine wpAny_bind (wpAny_setState_of hos hds ha.ft ?_)
  dsimp only
  unfold setsByText
  refine wpAny_bind (wpAny_bind (wpAny_askSetting (wpAny_pure ?_)))
  refine wpAny_pure ?_
  split
  · rename_i hdr
    have hdr:(!(w.params.followText "set-order")&&(!t.plain&&decide (es.size > 1)))=true:=hdr
    rw [hp] at hdr
    simp at hdr
  · refine wpAny_bind (wpAny_pure ?_)
    refine wpAny_bind (wpAny_setEpoch_of hos hds ha.ft ?_)
    exact wpAny_bind (wpAny_newObj_type (wpAny_pure ⟨_,rfl, "set_iterator",_,⟨_,Heap.get?_push_size _ rfl,rfl⟩,Qcc.lookup,hQ⟩))
theorem SetAt.at' {h h':Heap} {a:Addr} {es:Array (Int×Value)} {ep:Nat} {t:SetTable} (x:SetAt h a es ep t) (k:∀ o,h.get? a=some o->h'.get? a=some o):SetAt h' a es ep t:=let ⟨o,h1,h2⟩:=x.at_;⟨⟨o,k o h1,h2⟩,x.ft⟩
theorem IsSI.at' {h h':Heap} {I:Addr} {first:Value} {i a n ep:Nat} (x:IsSI h I first i a n ep) (k:∀ o,h.get? I=some o->h'.get? I=some o):IsSI h' I first i a n ep:=let ⟨o,h1,h2⟩:=x;⟨o,k o h1,h2⟩
end
structure Way (prog:Program) (w:World) (a:Addr) (es:Array (Int×Value)) (ep:Nat) (t:SetTable) (so:Nat->Nat) (vs:Array (Int×Value)):Prop where
  pm:vs.toList.Perm es.toList
  s0:so 0=0
  item:∀ (s:Shared) (A:Around) (E:Value->Shared->Prop) (Q:Option (Value×Nat)->Shared->Prop) (i:Nat) (e:Int×Value),SetAt s.heap a es ep t->vs[i]? = some e->Q (some (e.2,so (i+1))) s->wpAny (model prog w) A (setNext a (so i) i ep) Q E s
  fin:∀ (s:Shared) (A:Around) (E:Value->Shared->Prop) (Q:Option (Value×Nat)->Shared->Prop),SetAt s.heap a es ep t->Q none s->wpAny (model prog w) A (setNext a (so es.size) es.size ep) Q E s
theorem Way.walks {prog:Program} {w:World} {A:Around} (hh:A.handled=none) {a:Addr} {es:Array (Int×Value)} {ep:Nat} {t:SetTable} {so:Nat->Nat} {vs:Array (Int×Value)} (W:Way prog w a es ep t so vs) (I:Addr) (hne:a≠I) (self:∀ (s:Shared) (Q:Value->Shared->Prop) (E:Value->Shared->Prop) (i:Nat),IsSI s.heap I (.int (so i) 0) i a es.size ep->Q (.ref I) s->wpAny (model prog w) A (pyIter (.ref I)) Q E s) :
    Walks prog w A I [I,a] [I] es.size (fun i v=>(vs[i]?).map (·.2)=some v) (fun i h=>IsSI h I (.int (so i) 0) i a es.size ep/\SetAt h a es ep t) where
  sub:=fun b hb=>by simp at hb;simp [hb]
  frame:=fun _ _ _ st hk=>⟨st.1.at' fun o e=>hk I (by simp) o e,st.2.at' fun o e=>hk a (by simp) o e⟩
  item:=fun i s Q E hi st hQ=>by
    have hl:vs.size=es.size:=by rw [<- Array.length_toList,W.pm.length_eq,Array.length_toList]
    have hv:vs[i]? = some vs[i]:=by simp [hl,hi]
    refine Qmb st.1 st.2 (x:=vs[i].2) (nx:=so (i+1)) (fun A E Q' q=>W.item s A E Q' i _ st.2 hv q) fun h' hit' hs'=>?_
    refine hQ _ h' s.toks (by rw [hv];rfl) ⟨hit',st.2.at' fun o e=>hs'.extBut a o (fun z=>hne z) e⟩ fun b o hb e=>hs'.extBut b o (fun z=>hb (by simp [z])) e
  done:=fun s Q E st hQ=>nx_end hh st.1 st.2 (fun A E Q' q=>W.fin s A E Q' st.2 q) fun h' he'=>hQ h' s.toks fun b o hb e=>he' b o (fun z=>hb (by simp [z])) e
  self:=fun i s Q E st hQ=>self s Q E i st.1 hQ
theorem Qi1 {prog:Program} {w:World} (hb:w.params.followText "set-order" = true) (a:Addr) (es:Array (Int×Value)) (ep:Nat) (t:SetTable):Way prog w a es ep t (fun _=>0) (pickOrder (w.params.setOrder a ep) es) where
  pm:=Qek _ _
  s0:=rfl
  item:=fun s A E Q i e ha hv q=>QgY hb ha (by rw [hv];exact q)
  fin:=fun s A E Q ha q=>QgY hb ha (by
    have hl:(pickOrder (w.params.setOrder a ep) es).size=es.size:=by rw [<- Array.length_toList,(Qek _ _).length_eq,Array.length_toList]
    rw [Array.getElem?_eq_none (by omega)];exact q)
theorem Qk4 {prog:Program} {w:World} (hb:w.params.followText "set-order" = false) (a:Addr) (es:Array (Int×Value)) (ep:Nat) (t:SetTable) (hp:t.plain=true) (hl:t.led=true) (hz:t.place.size=es.size) (so:Nat->Nat) (s0:so 0=0) (hs:∀ i,i<t.place.size->so (i+1)=t.place.getD i 0+1) (hbel:∀ i,i<=t.place.size->SetTable.below t.place (so i)=i):Way prog w a es ep t so es where
  pm:=List.Perm.refl _
  s0:=s0
  item:=fun s A E Q i e ha hv q=>Qky hb ha hp hl (by
    have hi:i<es.size:=by
      by_cases z:i<es.size
      · exact z
      · rw [Array.getElem?_eq_none (by omega)] at hv;cases hv
    rw [hbel i (by omega),hv,show t.place[i]? = some (t.place.getD i 0) by simp [Array.getD,show i<t.place.size by omega]]
    dsimp only
    rw [<- hs i (by omega)]
    exact q)
  fin:=fun s A E Q ha q=>Qky hb ha hp hl (by
    rw [hbel es.size (by omega),Array.getElem?_eq_none (Nat.le_refl _)]
    exact q)
section
variable {prog:Program} {w:World} {A:Around} {E:Value->Shared->Prop} {s:Shared}
theorem Qib (n:Nat) {k:Int} {v:Value} (h:(intKind prog w).is k v=true):hashByValue n v=pure true/\∀ d,ofAClassStatement d v=pure false:=by
  cases v<;>first | (cases h;done) | skip
  all_goals first | exact ⟨by cases n<;>rfl,fun d=>by cases d<;>rfl⟩ | (simp [intKind] at h)
theorem Qev {ks:List Int} {vs:List Value} (h:ItemsAre (intKind prog w) ks vs):∀ v∈vs,∃ k,(intKind prog w).is k v=true:=by
  induction h with
  | nil=>intro v hv;cases hv
  | cons h1 _ ih=>
    intro v hv
    rcases List.mem_cons.mp hv with z | z
    · subst z;exact ⟨_,h1⟩
    · exact ih v z
theorem Qia {ks:List Int} {a:Addr} {Q:Bool->Shared->Prop} (hk:IsTupleKey (intKind prog w) s.heap ks a) (h:Q true s):wpAny (model prog w) A (hashByValue 8 (.ref a)) Q E s:=by
  have hT:=hk.typeIs
  obtain ⟨o,items,n,ho,_,hd,hi⟩:=hk
  have ha:=Qev hi
  unfold hashByValue
  refine wpAny_bind (wpAny_specialOf hT F.slot_tuple_hash.lookup ?_)
  dsimp only
  refine wpAny_bind (wpAny_seqItems ho hd ?_)
  refine wpAny_bind ?_
  show wpAny _ _ (forIn items _ _) _ _ s
  rw [<- Array.forIn_toList]
  refine wpAny_forIn_list _ (fun rest r s'=>r.1=none/\s'=s/\∀ v∈rest,∃ k,(intKind prog w).is k v=true) _ ?_ ?_ _ _ ⟨rfl,rfl,ha⟩
  · rintro v rest r s' ⟨hr,rfl,hall⟩
    obtain ⟨k,hk⟩:=hall v List.mem_cons_self
    rw [(Qib _ hk).1]
    refine wpAny_bind (wpAny_pure ?_)
    simp only [Bool.not_true,Bool.false_eq_true,if_false]
    exact wpAny_pure ⟨rfl,rfl,fun u hu'=>hall u (List.mem_cons_of_mem _ hu')⟩
  · rintro ⟨r1,r2⟩ s' ⟨hr,rfl,_⟩
    simp only at hr
    subst hr
    exact wpAny_pure h
theorem Qeo {ks:List Int} {a:Addr} {Q:Bool->Shared->Prop} (hk:IsTupleKey (intKind prog w) s.heap ks a) (h:Q false s):wpAny (model prog w) A (ofAClassStatement 8 (.ref a)) Q E s:=by
  have hT:=hk.typeIs
  obtain ⟨o,items,n,ho,_,hd,hi⟩:=hk
  have ha:=Qev hi
  unfold ofAClassStatement
  refine wpAny_bind (wpAny_typeOf hT ?_)
  dsimp only
  rw [if_pos (by decide)]
  refine wpAny_bind (wpAny_pure ?_)
  rw [if_neg (by decide)]
  refine wpAny_bind (wpAny_seqItems ho hd ?_)
  dsimp only
  refine wpAny_bind ?_
  show wpAny _ _ (forIn items _ _) _ _ s
  rw [<- Array.forIn_toList]
  refine wpAny_forIn_list _ (fun rest r s'=>r.1=none/\s'=s/\∀ v∈rest,∃ k,(intKind prog w).is k v=true) _ ?_ ?_ _ _ ⟨rfl,rfl,ha⟩
  · rintro v rest r s' ⟨hr,rfl,hall⟩
    obtain ⟨k,hk⟩:=hall v List.mem_cons_self
    rw [(Qib 0 hk).2]
    refine wpAny_bind (wpAny_pure ?_)
    rw [if_neg (by decide)]
    exact wpAny_pure ⟨rfl,rfl,fun u hu'=>hall u (List.mem_cons_of_mem _ hu')⟩
  · rintro ⟨r1,r2⟩ s' ⟨hr,rfl,_⟩
    simp only at hr
    subst hr
    exact wpAny_pure h
theorem Qlf {ks:List Int} {a:Addr} {stored:List Value} {Q:Bool->Shared->Prop} (hk:IsTupleKey (intKind prog w) s.heap ks a) (hs:∀ v∈stored,∃ ks' b,v=.ref b/\IsTupleKey (intKind prog w) s.heap ks' b) (h:Q false s):wpAny (model prog w) A (searchCouldBeSeen (.ref a) stored) Q E s:=by
  unfold searchCouldBeSeen
  refine wpAny_bind ?_
  refine wpAny_forIn_list _ (fun rest r s'=>r.1=none/\s'=s/\∀ v∈rest,∃ ks' b,v=.ref b/\IsTupleKey (intKind prog w) s.heap ks' b) _ ?_ ?_ _ _ ⟨rfl,rfl,hs⟩
  · rintro v rest r s' ⟨hr,rfl,hall⟩
    obtain ⟨ks',b,rfl,hb⟩:=hall v List.mem_cons_self
    dsimp only
    split
    · exact wpAny_pure ⟨rfl,rfl,fun u hu'=>hall u (List.mem_cons_of_mem _ hu')⟩
    · refine wpAny_bind (wpAny_eqIsQuiet_tuple hk ?_)
      rw [if_neg (by decide)]
      refine wpAny_bind (wpAny_eqIsQuiet_tuple hb ?_)
      rw [if_neg (by decide)]
      refine wpAny_bind (Qeo hk ?_)
      rw [if_neg (by decide)]
      refine wpAny_bind (Qeo hb ?_)
      rw [if_neg (by decide)]
      exact wpAny_pure ⟨rfl,rfl,fun u hu'=>hall u (List.mem_cons_of_mem _ hu')⟩
  · rintro ⟨r1,r2⟩ s' ⟨hr,rfl,_⟩
    simp only at hr
    subst hr
    exact wpAny_pure h
end
theorem Qdo (t:SetTable):∀ (n:Nat) (p:SetTable.Probe),(stps t n p).dummy=p.dummy
  | 0,_=>rfl
  | n+1,p=>by
    show (stps t n (t.advance p)).dummy=_
    rw [Qdo t n,QeS]
section
variable {prog:Program} {w:World} {A:Around} {E:Value->Shared->Prop} {s:Shared}
structure TS (prog:Program) (w:World) (h:Heap) (a:Addr) (es:Array (Int×Value)) (ep:Nat) (t:SetTable) (ps:List (List Int×Addr)):Prop where
  at_:SetAt h a es ep t
  tab:Tab t
  ent:es.toList=ps.map fun p=>(tupleKeyHash (intKind prog w) p.1,Value.ref p.2)
  key:∀ p∈ps,IsTupleKey (intKind prog w) h p.1 p.2
  nd:(ps.map (·.1)).Nodup
  rch:∀ (i j:Nat) (e:Int×Value),t.place[i]? = some j->es[i]? = some e->Rch t j e.1
  mks:t.mask=7∨t.mask=31∨t.mask=127∨t.mask=511
  few:t.place.size*5<t.mask*3
variable {a:Addr} {es:Array (Int×Value)} {ep:Nat} {t:SetTable} {ps:List (List Int×Addr)}
theorem TS.es_at (x:TS prog w s.heap a es ep t ps) (i:Nat):es[i]? = (ps[i]?).map fun p=>(tupleKeyHash (intKind prog w) p.1,Value.ref p.2):=by
  rw [<- Array.getElem?_toList,x.ent,List.getElem?_map]
theorem TS.size (x:TS prog w s.heap a es ep t ps):es.size=ps.length:=by rw [<- Array.length_toList,x.ent,List.length_map]
theorem TS.psize (x:TS prog w s.heap a es ep t ps):t.place.size=ps.length:=by
  have:=x.at_.ft
  unfold SetTable.fits at this
  have:=(Bool.and_eq_true_iff.mp this).1
  rw [<- x.size]
  exact eq_of_beq this
theorem srch (x:TS prog w s.heap a es ep t ps) (hu:A.units<cLine) {ks:List Int} {b:Addr} (hk:IsTupleKey (intKind prog w) s.heap ks b) {n:Nat} (hn:n<10*SetTable.turns t.mask) (he:t.slot (stps t n (t.probeStart (tupleKeyHash (intKind prog w) ks))).j=.empty) {Q:SetFound->Shared->Prop}
    (hThere:ks∈ps.map (·.1)->Q (.there none) s) (hFree:ks∉ps.map (·.1)->∀ j,j∉t.place.toList->j<=t.mask->Rch t j (tupleKeyHash (intKind prog w) ks)->Q (.free j false) s) :
    ∀ (fuel k0:Nat) (stand:Option SetTable.Probe),k0<=n->n - k0<fuel->stand.getD (t.probeStart (tupleKeyHash (intKind prog w) ks))=stps t k0 (t.probeStart (tupleKeyHash (intKind prog w) ks))->(∀ m,m<k0->∃ i,t.slot (stps t m (t.probeStart (tupleKeyHash (intKind prog w) ks))).j=.live i/\∀ p,ps[i]? = some p->p.1≠ks) ->
      wpAny (model prog w) A (setSearchFrom a (.ref b) (tupleKeyHash (intKind prog w) ks) true fuel stand) Q E s:=by
  obtain ⟨o,ho,hex,hd⟩:=x.at_.at_
  have hf:=x.at_.ft
  intro fuel
  induction fuel with
  | zero=>intro k0 stand _ h;exact absurd h (Nat.not_lt_zero _)
  | succ fuel ih=>
    intro k0 stand h1 h2 h3 h4
    generalize hH:tupleKeyHash (intKind prog w) ks=H at *
    unfold setSearchFrom
    refine wpAny_bind (wpAny_setState_of ho hd hf ?_)
    dsimp only
    rw [if_neg (by unfold SetTable.gaveWay;rw [x.tab.od];decide)]
    obtain ⟨k,hkn,pass,met⟩:=Qkb x.tab (fun i=>(es[i]?.map (·.1)).getD 0) H (n - k0) (10*SetTable.turns t.mask) (stps t k0 (t.probeStart H)) (by omega) (by rw [<- QaK,show k0+(n - k0)=n by omega];exact he) (by rw [Qdo];rfl)
    have eh:∀ (i:Nat) (p:List Int×Addr),ps[i]? = some p->(es[i]?.map (·.1)).getD 0=tupleKeyHash (intKind prog w) p.1:=fun i p hp=>by rw [x.es_at,hp];rfl
    have pass':∀ m,m<k0+k->∃ i,t.slot (stps t m (t.probeStart H)).j=.live i/\∀ p,ps[i]? = some p->p.1≠ks:=fun m hm=>by
      by_cases z:m<k0
      · exact h4 m z
      · obtain ⟨i,hi,hne⟩:=pass (m - k0) (by omega)
        rw [<- QaK,show k0+(m - k0)=m by omega] at hi
        refine ⟨i,hi,fun p hp e=>hne ?_⟩
        rw [eh i p hp,e];exact hH
    rcases met with ⟨m1,m2⟩ | ⟨m0,i,m1,m2,m3⟩
    · split
      · rename_i mt hpb
        rw [h3] at hpb
        have hpb:SetTable.probe.go t (fun i=>(es[i]?.map (·.1)).getD 0) H (10*SetTable.turns t.mask) (stps t k0 (t.probeStart H))=some mt:=hpb
        rw [m1] at hpb
        cases hpb
        dsimp only
        rw [<- QaK] at m2 ⊢
        have nin:=x.tab.slot_e m2
        refine wpAny_pure (hFree (fun hin=>?_) _ nin (QeV t H _) ⟨k0+k,rfl,fun m hm=>?_⟩)
        · obtain ⟨p,hp,rfl⟩:=List.mem_map.mp hin
          obtain ⟨ix,hix⟩:=List.mem_iff_getElem?.mp hp
          have hlt:ix<t.place.size:=by rw [x.psize];exact (List.getElem?_eq_some_iff.mp hix).1
          have hpl:t.place[ix]? = some t.place[ix]:=by simp [hlt]
          obtain ⟨nn,e1,e2⟩:=x.rch ix _ _ hpl (by rw [x.es_at,hix];rfl)
          dsimp only at e1 e2
          rw [hH] at e1 e2
          have hlive:=x.tab.slot_at hpl
          rw [<- e1] at hlive
          rcases Nat.lt_trichotomy nn (k0+k) with z | z | z
          · obtain ⟨i',hi',hne⟩:=pass' nn z
            rw [hlive] at hi'
            cases hi'
            exact hne p hix rfl
          · rw [z,m2] at hlive;cases hlive
          · exact nin (e2 _ z)
        · obtain ⟨i',hi',_⟩:=pass' m hm
          have:=Tab.slot_l hi'
          exact Array.mem_toList_iff.mpr (Array.mem_of_getElem? this)
      · rename_i hpb
        rw [h3] at hpb
        exact absurd (show SetTable.probe.go t (fun i=>(es[i]?.map (·.1)).getD 0) H (10*SetTable.turns t.mask) (stps t k0 (t.probeStart H))=none from by
          cases hz:SetTable.probe.go t (fun i=>(es[i]?.map (·.1)).getD 0) H (10*SetTable.turns t.mask) (stps t k0 (t.probeStart H)) with
          | none=>rfl
          | some q=>exact absurd hz (hpb q)) (by rw [m1];exact fun e=>by cases e)
    · split
      · rename_i mt hpb
        rw [h3] at hpb
        have hpb:SetTable.probe.go t (fun i=>(es[i]?.map (·.1)).getD 0) H (10*SetTable.turns t.mask) (stps t k0 (t.probeStart H))=some mt:=hpb
        rw [m1] at hpb
        cases hpb
        dsimp only
        have hpi:=Tab.slot_l m2
        have hlt:i<ps.length:=by rw [<- x.psize];exact (Array.getElem?_eq_some_iff.mp hpi).1
        obtain ⟨p,hp⟩:∃ p,ps[i]? = some p:=⟨ps[i],by simp [hlt]⟩
        have hpm:=List.mem_of_getElem? hp
        have hei:es[i]? = some (tupleKeyHash (intKind prog w) p.1,Value.ref p.2):=by rw [x.es_at,hp];rfl
        have hst:∀ v∈(List.map (fun x=>x.2) (Array.filter (fun x=>x.1 == H) es).toList),∃ ks' b,v=Value.ref b/\IsTupleKey (intKind prog w) s.heap ks' b:=fun v hv=>by
          obtain ⟨e,he',rfl⟩:=List.mem_map.mp hv
          have he':e∈es.toList:=by
            rw [Array.toList_filter] at he'
            exact (List.mem_filter.mp he').1
          rw [x.ent] at he'
          obtain ⟨q,hq,rfl⟩:=List.mem_map.mp he'
          exact ⟨q.1,q.2,rfl,x.key q hq⟩
        have sm:t.sameMemory t.moves t.mask=some true:=by unfold SetTable.sameMemory;rw [if_pos (by simp)]
        split
        · refine wpAny_bind (Qlf hk hst ?_)
          rw [if_neg (by decide)]
          rw [hei]
          dsimp only
          refine wpAny_bind (wpAny_holding (wpAny_eqBool_tuple hu (x.key p hpm) hk ?_))
          refine wpAny_bind (wpAny_setState_of ho hd hf ?_)
          dsimp only
          by_cases z:p.1=ks
          · rw [if_pos (by simp [z])]
            exact wpAny_pure (hThere (List.mem_map.mpr ⟨p,hpm,z⟩))
          · rw [if_neg (by simp [z]),sm]
            dsimp only
            rw [if_pos rfl,m2]
            dsimp only
            rw [hei]
            dsimp only
            refine wpAny_bind ?_
            unfold isSame
            dsimp only
            rw [if_pos (by simp)]
            refine wpAny_pure (wpAny_bind (wpAny_pure ?_))
            rw [if_pos rfl]
            dsimp only
            rw [if_neg (by simp [z])]
            refine ih (k0+k+1) _ (by omega) (by omega) (by rw [<- QaK];rfl) fun m hm=>?_
            by_cases y:m<k0+k
            · exact pass' m y
            · obtain rfl:m=k0+k:=by omega
              refine ⟨i,by rw [QaK];exact m2,fun q hq=>?_⟩
              rw [hp] at hq
              cases hq
              exact z
        · rw [hei]
          dsimp only
          refine wpAny_bind (wpAny_holding (wpAny_eqBool_tuple hu (x.key p hpm) hk ?_))
          refine wpAny_bind (wpAny_setState_of ho hd hf ?_)
          dsimp only
          by_cases z:p.1=ks
          · rw [if_pos (by simp [z])]
            exact wpAny_pure (hThere (List.mem_map.mpr ⟨p,hpm,z⟩))
          · rw [if_neg (by simp [z]),sm]
            dsimp only
            rw [if_pos rfl,m2]
            dsimp only
            rw [hei]
            dsimp only
            refine wpAny_bind ?_
            unfold isSame
            dsimp only
            rw [if_pos (by simp)]
            refine wpAny_pure (wpAny_bind (wpAny_pure ?_))
            rw [if_pos rfl]
            dsimp only
            rw [if_neg (by simp [z])]
            refine ih (k0+k+1) _ (by omega) (by omega) (by rw [<- QaK];rfl) fun m hm=>?_
            by_cases y:m<k0+k
            · exact pass' m y
            · obtain rfl:m=k0+k:=by omega
              refine ⟨i,by rw [QaK];exact m2,fun q hq=>?_⟩
              rw [hp] at hq
              cases hq
              exact z
      · rename_i hpb
        rw [h3] at hpb
        exact absurd (show SetTable.probe.go t (fun i=>(es[i]?.map (·.1)).getD 0) H (10*SetTable.turns t.mask) (stps t k0 (t.probeStart H))=none from by
          cases hz:SetTable.probe.go t (fun i=>(es[i]?.map (·.1)).getD 0) H (10*SetTable.turns t.mask) (stps t k0 (t.probeStart H)) with
          | none=>rfl
          | some q=>exact absurd hz (hpb q)) (by rw [m1];exact fun e=>by cases e)
end
def Sm (m:Nat):List Nat:=(List.range 6).filter m.testBit
def tb (m:Nat) (led:Bool):SetTable:={ mask:=if 5<=(Sm m).length then 31 else 7,place:=(Sm m).toArray,dummies:=#[],finger:=0,led:=led,moves:=if 5<=(Sm m).length then 1 else 0,plain:=true }
def so (m i:Nat):Nat:=match i with
  | 0=>0
  | i+1=>(Sm m).toArray.getD i 0+1
def EsOk (es:Array (Int×Value)) (S:List Nat):Prop:=∃ tks:List Tok,tks.length=S.length/\es.toList=List.zipWith (fun (v:Nat) (tk:Tok)=>((v:Int),Value.int (v:Int) tk)) S tks
theorem EsOk.size {es:Array (Int×Value)} {S:List Nat} (h:EsOk es S):es.size=S.length:=by
  obtain ⟨tks,hl,e⟩:=h
  rw [<- Array.length_toList,e,List.length_zipWith,hl,Nat.min_self]
structure Sml (h:Heap) (a:Addr) (m:Nat) (led:Bool):Prop where
  ex:∃ es ep,SetAt h a es ep (tb m led)/\EsOk es (Sm m)
theorem Sml.at' {h h':Heap} {a:Addr} {m:Nat} {led:Bool} (x:Sml h a m led) (k:∀ o,h.get? a=some o->h'.get? a=some o):Sml h' a m led:=by
  obtain ⟨es,ep,sa,eo⟩:=x.ex
  exact ⟨es,ep,sa.at' k,eo⟩
theorem SetAt.store {h:Heap} {a:Addr} {es es':Array (Int×Value)} {ep:Nat} {t t':SetTable} (x:SetAt h a es ep t) (hf:t'.fits es'.size=true):SetAt (h.update a (Obj.putSet es' t')) a es' (ep+1) t':=by
  obtain ⟨o,ho,hex,hd⟩:=x.at_
  have hg:=Heap.get?_update_self (Obj.putSet es' t') ho (by rw [putSet_of es' t' hd];rfl)
  rw [putSet_of es' t' hd] at hg
  exact ⟨⟨_,hg,hex,rfl⟩,hf⟩
section
variable {prog:Program} {w:World} {A:Around} {E:Value->Shared->Prop} {s:Shared}
end
section
variable {prog:Program} {w:World} {A:Around} {R:Result->Shared->Prop} {I:Addr} {fp wr:List Addr} {n:Nat} {P:Nat->Value->Prop} {St:Nat->Heap->Prop}
end
theorem ins_get {α β:Type} {l1:List α} {l2:List β} (hl:l1.length=l2.length) {p:Nat} (hp:p<=l1.length) {x:α} {y:β} {i:Nat} {u:α} {v:β} (h1:(l1.take p++x::l1.drop p)[i]? = some u) (h2:(l2.take p++y::l2.drop p)[i]? = some v):(u=x/\v=y)∨∃ k:Nat,l1[k]? = some u/\l2[k]? = some v:=by
  have t1:(l1.take p).length=p:=by rw [List.length_take];omega
  have t2:(l2.take p).length=p:=by rw [List.length_take];omega
  rcases Nat.lt_trichotomy i p with z | z | z
  · rw [List.getElem?_append_left (by omega),List.getElem?_take_of_lt z] at h1 h2
    exact .inr ⟨i,h1,h2⟩
  · subst z
    rw [List.getElem?_append_right (by omega),t1,Nat.sub_self] at h1
    rw [List.getElem?_append_right (by omega),t2,Nat.sub_self] at h2
    exact .inl ⟨(Option.some.inj h1).symm,(Option.some.inj h2).symm⟩
  · rw [List.getElem?_append_right (by omega),t1,show i - p=(i - p - 1)+1 by omega,List.getElem?_cons_succ,List.getElem?_drop] at h1
    rw [List.getElem?_append_right (by omega),t2,show i - p=(i - p - 1)+1 by omega,List.getElem?_cons_succ,List.getElem?_drop] at h2
    exact .inr ⟨_,h1,h2⟩
section
variable {prog:Program} {w:World} {A:Around} {E:Value->Shared->Prop} {s:Shared} {a:Addr} {es:Array (Int×Value)} {ep:Nat} {t:SetTable} {ps:List (List Int×Addr)}
theorem TS.other (x:TS prog w s.heap a es ep t ps) {ks:List Int} {b:Addr} (hk:IsTupleKey (intKind prog w) s.heap ks b):b≠a:=fun e=>by
  subst e
  obtain ⟨o,ho,hex,hd⟩:=x.at_.at_
  obtain ⟨o',it,n,ho',hc,_⟩:=hk
  rw [ho] at ho'
  cases ho'
  rw [hex.1] at hc
  exact absurd hc (by decide)
theorem Qfd {h:Heap} {f:Obj->Obj} {ks:List Int} {b:Addr} (hk:IsTupleKey (intKind prog w) h ks b) (hne:b≠a):IsTupleKey (intKind prog w) (h.update a f) ks b:=by
  obtain ⟨o',it,n,ho',r⟩:=hk
  exact ⟨o',it,n,(Heap.get?_update_other _ _ (Ne.symm hne)).trans ho',r⟩
theorem TS.put (x:TS prog w s.heap a es ep t ps) {ks:List Int} {b:Addr} (hk:IsTupleKey (intKind prog w) s.heap ks b) (hnew:ks∉ps.map (·.1)) {j:Nat} (hj:j∉t.place.toList) (hm:j<=t.mask) (hr:Rch t j (tupleKeyHash (intKind prog w) ks)) :
    SetAt (s.heap.update a (Obj.putSet (SetTable.insertAt es (t.put j).2 (tupleKeyHash (intKind prog w) ks,Value.ref b)) (t.put j).1)) a (SetTable.insertAt es (t.put j).2 (tupleKeyHash (intKind prog w) ks,Value.ref b)) (ep+1) (t.put j).1 /\
    Tab (t.put j).1/\(SetTable.insertAt es (t.put j).2 (tupleKeyHash (intKind prog w) ks,Value.ref b)).toList=(ps.take (t.put j).2++(ks,b)::ps.drop (t.put j).2).map (fun p=>(tupleKeyHash (intKind prog w) p.1,Value.ref p.2)) /\
    (∀ p∈ps.take (t.put j).2++(ks,b)::ps.drop (t.put j).2,IsTupleKey (intKind prog w) (s.heap.update a (Obj.putSet (SetTable.insertAt es (t.put j).2 (tupleKeyHash (intKind prog w) ks,Value.ref b)) (t.put j).1)) p.1 p.2) /\
    (ps.take (t.put j).2++(ks,b)::ps.drop (t.put j).2).Perm ((ks,b)::ps) /\
    (∀ (i j':Nat) (e:Int×Value),(t.put j).1.place[i]? = some j'->(SetTable.insertAt es (t.put j).2 (tupleKeyHash (intKind prog w) ks,Value.ref b))[i]? = some e->Rch (t.put j).1 j' e.1) /\
    (t.put j).1.place.size=ps.length+1:=by
  obtain ⟨T,pl,m1,m2,m3,m4⟩:=x.tab.put hj hm
  have hle:(t.put j).2<=t.place.toList.length:=by
    rw [Array.length_toList]
    exact (QbF x.tab.pw j).1
  have hsz:(t.put j).1.place.size=ps.length+1:=by
    rw [<- Array.length_toList,pl,<- x.psize,<- Array.length_toList,List.length_append,List.length_cons,List.length_take,List.length_drop]
    omega
  have hes:(SetTable.insertAt es (t.put j).2 (tupleKeyHash (intKind prog w) ks,Value.ref b)).toList=es.toList.take (t.put j).2++(tupleKeyHash (intKind prog w) ks,Value.ref b)::es.toList.drop (t.put j).2:=SetTable.toList_insertAt _ _ _
  have hent:(SetTable.insertAt es (t.put j).2 (tupleKeyHash (intKind prog w) ks,Value.ref b)).toList=(ps.take (t.put j).2++(ks,b)::ps.drop (t.put j).2).map (fun p=>(tupleKeyHash (intKind prog w) p.1,Value.ref p.2)):=by
    rw [hes,x.ent,List.map_append,List.map_cons,List.map_take,List.map_drop]
  have hpm:(ps.take (t.put j).2++(ks,b)::ps.drop (t.put j).2).Perm ((ks,b)::ps):=by
    refine List.perm_middle.trans ?_
    rw [List.take_append_drop]
  have hs1:(SetTable.insertAt es (t.put j).2 (tupleKeyHash (intKind prog w) ks,Value.ref b)).size=ps.length+1:=by
    rw [<- Array.length_toList,hent,List.length_map,hpm.length_eq,List.length_cons]
  have hfew:(t.put j).1.place.size<=(t.put j).1.mask:=by
    rw [hsz,m1,<- x.psize]
    have:=x.few
    have:=x.mks
    omega
  refine ⟨x.at_.store ?_,T,hent,fun p hp=>?_,hpm,fun i j' e h1 h2=>?_,hsz⟩
  · unfold SetTable.fits SetTable.fill
    rw [m4,hsz,hs1]
    rw [hsz] at hfew
    simp [hfew]
  · rcases List.mem_cons.mp (hpm.mem_iff.mp hp) with z | z
    · subst z;exact Qfd hk (x.other hk)
    · exact Qfd (x.key p z) (x.other (x.key p z))
  · rw [<- Array.getElem?_toList,pl] at h1
    rw [<- Array.getElem?_toList,hes] at h2
    have hl:t.place.toList.length=es.toList.length:=by rw [Array.length_toList,Array.length_toList,x.psize,x.size]
    have grow:∀ y∈t.place.toList,y∈(t.put j).1.place.toList:=fun y hy=>by
      rw [pl]
      rw [<- List.take_append_drop (t.put j).2 t.place.toList] at hy
      rcases List.mem_append.mp hy with z | z
      · exact List.mem_append_left _ z
      · exact List.mem_append_right _ (.tail _ z)
    rcases ins_get hl hle h1 h2 with ⟨rfl,rfl⟩ | ⟨k,q1,q2⟩
    · exact hr.mono m1 grow
    · exact (x.rch k j' e (by rw [<- Array.getElem?_toList];exact q1) (by rw [<- Array.getElem?_toList];exact q2)).mono m1 grow
end
theorem Qie {t:SetTable} (h:t.mask=7∨t.mask=31∨t.mask=127∨t.mask=511):QbG (t.mask+1)=true:=by
  rcases h with h | h | h | h<;>rw [h]
  · exact QkS
  · exact Qmt
  · exact Qj9
  · exact Qj8
section
variable {prog:Program} {w:World} {A:Around} {E:Value->Shared->Prop} {s:Shared} {a:Addr} {es:Array (Int×Value)} {ep:Nat} {t:SetTable} {ps:List (List Int×Addr)}
theorem relay {m wanted:Nat} {ps:List (List Int×Addr)} (hA:SetAt s.heap a es ep t) (hpl:t.plain=true) (hent:es.toList=ps.map fun p=>(tupleKeyHash (intKind prog w) p.1,Value.ref p.2)) (hkey:∀ p∈ps,IsTupleKey (intKind prog w) s.heap p.1 p.2) (hoth:∀ p∈ps,p.2≠a) (hnd:(ps.map (·.1)).Nodup)
    (hw:SetTable.sizeAbove wanted=m+1) (hm:m=7∨m=31∨m=127∨m=511) (hf:ps.length*5<m*3) {Q:Unit->Shared->Prop}
    (h:∀ h' es' t' ps',TS prog w h' a es' (ep+1) t' ps'->ps'.Perm ps->t'.led=t.led->Heap.SameBut a s.heap h'->Q () { s with heap:=h' }):wpAny (model prog w) A (setRelay a wanted) Q E s:=by
  obtain ⟨o,ho,hex,hd⟩:=hA.at_
  have hsz:es.size=ps.length:=by rw [<- Array.length_toList,hent,List.length_map]
  have hg:QbG (m+1)=true:=Qie (t:=tM m) hm
  obtain ⟨t2,order,el,T,m1,m2,m3,m4,m5⟩:=Qgz (finger:=t.finger) (moves:=t.movedTo m) (led:=t.led) hg (by omega) (es.map (·.1)) (by rw [Array.size_map,hsz];omega)
  rw [Array.size_map] at m3 m4
  have pe:=Qgo (es:=es) m4
  have sz2:(order.filterMap (es[·]?)).size=es.size:=by rw [<- Array.length_toList,pe.length_eq,Array.length_toList]
  unfold setRelay
  refine wpAny_bind (wpAny_setState_of ho hd hA.ft ?_)
  dsimp only
  rw [if_neg (by rw [hw,sizeLine_eq];omega)]
  refine wpAny_bind ?_
  have erl:t.relaid (es.map (·.1)) wanted=some (t2,order):=by
    unfold SetTable.relaid
    rw [hw,Nat.add_sub_cancel,hpl]
    exact el
  rw [erl]
  show wpAny (model prog w) A (if ((order.filterMap (es[·]?)).size != es.size)=true then _ else _) _ E s
  rw [if_neg (by rw [sz2];simp)]
  refine wpAny_pure ?_
  dsimp only
  have fit:t2.fits (order.filterMap (es[·]?)).size=true:=by
    unfold SetTable.fits SetTable.fill
    rw [T.dm,m3,sz2,hsz,m1]
    simp
    omega
  refine wpAny_storeSet_of ho hd ?_ (by rw [sz2,hsz,sizeLine_eq];omega)
  obtain ⟨ps',pp,ep'⟩:∃ ps':List (List Int×Addr),ps'.Perm ps/\(order.filterMap (es[·]?)).toList=ps'.map fun p=>(tupleKeyHash (intKind prog w) p.1,Value.ref p.2):=by
    rw [hent] at pe
    have key:∀ {l k:List (Int×Value)},l.Perm k->∀ {T:List (List Int×Addr)},k=T.map (fun p=>(tupleKeyHash (intKind prog w) p.1,Value.ref p.2))->∃ T':List (List Int×Addr),T'.Perm T/\l=T'.map fun p=>(tupleKeyHash (intKind prog w) p.1,Value.ref p.2):=by
      intro l k p
      induction p with
      | nil=>intro T e;exact ⟨T,List.Perm.refl _,e⟩
      | @cons x l1 l2 _ ih=>
        intro T e
        cases T with
        | nil=>cases e
        | cons y T=>
          injection e with e1 e2
          obtain ⟨T',p',e'⟩:=ih e2
          exact ⟨y::T',p'.cons y,by rw [e1,e'];rfl⟩
      | swap x y l=>
        intro T e
        match T,e with
        | u::v::T,e=>
          injection e with e1 e2
          injection e2 with e2 e3
          exact ⟨v::u::T,List.Perm.swap _ _ _,by rw [e1,e2,e3];rfl⟩
      | trans _ _ ih1 ih2=>
        intro T e
        obtain ⟨T1,p1,e1⟩:=ih2 e
        obtain ⟨T2,p2,e2⟩:=ih1 e1
        exact ⟨T2,p2.trans p1,e2⟩
    exact key pe rfl
  refine h _ _ t2 ps' ⟨hA.store fit,T,ep',fun p hp=>Qfd (hkey p (pp.mem_iff.mp hp)) (hoth p (pp.mem_iff.mp hp)),(pp.map (·.1)).nodup_iff.mpr hnd,fun i j e h1 h2=>?_,by rw [m1];exact hm,by rw [m3,hsz,m1];exact hf⟩ pp m2 (Heap.SameBut.update ..)
  have hlt:i<order.size:=by
    have:order.size=es.size:=by
      have:=m4.length_eq
      rw [Array.length_toList,List.length_range] at this
      exact this
    rw [this,<- m3]
    exact (Array.getElem?_eq_some_iff.mp h1).1
  have hok:order[i]? = some order[i]:=by simp [hlt]
  have hr:=m5 i j order[i] h1 hok
  have hin:order[i]<es.size:=List.mem_range.mp (m4.mem_iff.mp (Array.mem_toList_iff.mpr (Array.getElem_mem hlt)))
  have e2:e=es[order[i]]:=by
    have key:∀ (l:List Nat),(∀ x∈l,x<es.size)->∀ i:Nat,(l.filterMap (es[·]?))[i]? = (l[i]?).bind (es[·]?):=fun l=>by
      induction l with
      | nil=>intro _ i;rfl
      | cons x l ih=>
        intro hx i
        have hx1:x<es.size:=hx x (.head _)
        have hx0:es[x]? = some es[x]:=by simp [hx1]
        rw [List.filterMap_cons,hx0]
        cases i with
        | zero=>simp [hx0]
        | succ i=>exact ih (fun y hy=>hx y (.tail _ hy)) i
    rw [<- Array.getElem?_toList,Array.toList_filterMap,key order.toList fun y hy=>List.mem_range.mp (m4.mem_iff.mp hy)] at h2
    rw [Array.getElem?_toList,hok] at h2
    simp [hin] at h2
    exact h2.symm
  have e3:(es.map (·.1)).getD order[i] 0=e.1:=by rw [e2];simp [Array.getD,hin]
  rw [e3] at hr
  exact hr
theorem addT (x:TS prog w s.heap a es ep t ps) (hu:A.units<cLine) {ks:List Int} {b:Addr} (hk:IsTupleKey (intKind prog w) s.heap ks b) (h300:ps.length<300) {Q:Bool->Shared->Prop}
    (h1:ks∈ps.map (·.1)->∀ tk,Q false { s with toks:=tk })
    (h2:ks∉ps.map (·.1)->∀ h' es' ep' t' ps' tk,TS prog w h' a es' ep' t' ps'->ps'.Perm ((ks,b)::ps)->t'.led=t.led->Heap.SameBut a s.heap h'->Q true { s with heap:=h',toks:=tk }):wpAny (model prog w) A (setAdd a (.ref b)) Q E s:=by
  obtain ⟨o,ho,hex,hd⟩:=x.at_.at_
  unfold setAdd
  refine wpAny_holding (wpAny_bind (wpAny_pyHash_tuple hu hk ?_))
  unfold setAddHashed
  refine wpAny_holding ?_
  unfold setAddHashedIn
  refine wpAny_bind (wpAny_setState_of (s:={ s with toks:=s.toks+(ks.length+1) }) ho hd x.at_.ft ?_)
  dsimp only
  rw [if_neg (by unfold byScan Value.scannable;simp)]
  have hsm:t.place.size<=t.mask:=by
    have:=x.few
    omega
  obtain ⟨j0,hj0,hj1⟩:=x.tab.room hsm
  obtain ⟨n,hn,en⟩:=Qgj t (Qie x.mks) (tupleKeyHash (intKind prog w) ks) hj0
  have x':TS prog w ({ s with toks:=s.toks+(ks.length+1) }:Shared).heap a es ep t ps:=x
  have hn2:n<100000:=by
    have:=x.mks
    unfold SetTable.turns at hn
    omega
  refine wpAny_bind (srch (s:={ s with toks:=s.toks+(ks.length+1) }) x' hu hk hn (by rw [en];exact x.tab.slot_no hj1) (fun hin=>?_) (fun hnot j hj hjm hr=>?_) 100000 0 none (Nat.zero_le _) (by omega) rfl fun m hm=>absurd hm (Nat.not_lt_zero _))
  · exact wpAny_pure (h1 hin _)
  · dsimp only
    refine wpAny_bind (wpAny_setState_of (s:={ s with toks:=s.toks+(ks.length+1) }) ho hd x.at_.ft ?_)
    dsimp only
    obtain ⟨q1,q2,q3,q4,q5,q6,q7⟩:=TS.put (s:={ s with toks:=s.toks+(ks.length+1) }) x' hk hnot hj hjm hr
    obtain ⟨T,pl,m1,m2,m3,m4⟩:=x.tab.put hj hjm
    generalize hpt:t.put j=pt at *
    obtain ⟨t1,p1⟩:=pt
    dsimp only at *
    have hsz1:(SetTable.insertAt es p1 (tupleKeyHash (intKind prog w) ks,Value.ref b)).size=ps.length+1:=by rw [<- Array.length_toList,q3,List.length_map,q5.length_eq,List.length_cons]
    have hfill:t1.fill=ps.length+1:=by unfold SetTable.fill;rw [m4,q7];rfl
    have hfew:=x.few
    have hmk:=x.mks
    have hps:=x.psize
    have hes:=x.size
    have hoth:∀ p∈ps.take p1++(ks,b)::ps.drop p1,p.2≠a:=fun p hp=>by
      rcases List.mem_cons.mp (q5.mem_iff.mp hp) with z | z
      · subst z;exact x.other hk
      · exact x.other (x.key p z)
    have hnd:((ps.take p1++(ks,b)::ps.drop p1).map (·.1)).Nodup:=(q5.map (·.1)).nodup_iff.mpr (by rw [List.map_cons];exact List.nodup_cons.mpr ⟨hnot,x.nd⟩)
    rw [if_pos q2.pl]
    refine wpAny_bind (Qia hk ?_)
    simp only [↓reduceIte,Bool.not_false,Bool.true_and]
    refine wpAny_bind (wpAny_storeSet_of (s:={ s with toks:=s.toks+(ks.length+1) }) ho hd ?_ (by rw [hsz1,sizeLine_eq];omega))
    by_cases z:t1.tooFull=true
    · rw [if_pos z]
      have z':t1.fill*5≥t1.mask*3:=of_decide_eq_true z
      rw [hfill,m1] at z'
      obtain ⟨m,hw,hm,hf⟩:∃ m,SetTable.sizeAbove (SetTable.grown (es.size+1))=m+1/\(m=7∨m=31∨m=127∨m=511)/\(ps.length+1)*5<m*3:=by
        rw [hes]
        rcases hmk with e | e | e | e
        · have:ps.length=4:=by omega
          rw [this];exact ⟨31,by decide,by decide,by decide⟩
        · have:ps.length=18:=by omega
          rw [this];exact ⟨127,by decide,by decide,by decide⟩
        · have:ps.length=76:=by omega
          rw [this];exact ⟨511,by decide,by decide,by decide⟩
        · omega
      refine wpAny_bind (relay q1 q2.pl q3 q4 hoth hnd hw hm (by rw [q5.length_eq,List.length_cons];exact hf) fun h' es' t' ps' ts pp led sb=>wpAny_pure (h2 hnot h' es' _ t' ps' _ ts (pp.trans q5) (led.trans m2) ((Heap.SameBut.update ..).trans sb)))
    · rw [if_neg z]
      have z':¬ t1.fill*5≥t1.mask*3:=fun c=>z (decide_eq_true c)
      rw [hfill] at z'
      exact wpAny_pure (h2 hnot _ _ _ _ _ _ ⟨q1,q2,q3,q4,hnd,q6,by rw [m1];exact hmk,by rw [q7];omega⟩ q5 m2 (Heap.SameBut.update ..))
end
section
variable {prog:Program} {w:World} {A:Around} {E:Value->Shared->Prop} {s:Shared}
def Qbc (w:World):Bool := !w.params.followText "set-order"
theorem Qle (a:Value) {Q:Value->Shared->Prop} (h:Q (.ref s.heap.objs.size) { s with heap:=s.heap.push { cls:=.type "set",dict:=none,data:=.set #[] 0 (.fresh 0 0 (Qbc w)) } }):codeAny (model prog w) A (.call (.builtin "set.__new__") ⟨[.type "set",a],[]⟩) (wants Q E) s:=by
  refine codeAny_of_tree (by
    show wpAny _ A.in1 (do checkBuiltinCall "set.__new__" ⟨[.type "set",a],[]⟩;again (.builtin "set.__new__" ⟨[.type "set",a],[]⟩)) _ _ s
    refine wpAny_bind (wpAny_of_eq (PySem.F.newCall_set_1 a) (wpAny_pure ⟨plainId_quiet F.plain_set_new _,codeAny_builtin F.entry_set_new ?_⟩))
    rw [Around.under_plainId F.plain_set_new _];unfold Builtin.«set.__new__» Builtin.Frozenset.newClass
    have hsub:=sub_set_self;obtain ⟨hp,g,d,tk,os⟩:=s
    dsimp only;wp_walk
    refine wpAny_askSetting (wpAny_pure ?_);dsimp only
    simp only [newObj];refine wpAny_bind (wpAny_alloc (wpAny_pure ?_))
    exact wpAny_pure h)
end
section
variable {prog:Program} {w:World} {s:Shared} {a:Addr} {es:Array (Int×Value)} {ep:Nat} {t:SetTable} {ps:List (List Int×Addr)}
theorem QfS {h h':Heap} {ks:List Int} {b:Addr} (hk:IsTupleKey (intKind prog w) h ks b) (k:∀ o,h.get? b=some o->h'.get? b=some o):IsTupleKey (intKind prog w) h' ks b:=by
  obtain ⟨o',it,n,ho',r⟩:=hk
  exact ⟨o',it,n,k o' ho',r⟩
theorem TS.at' {h h':Heap} (x:TS prog w h a es ep t ps) (k:∀ o,h.get? a=some o->h'.get? a=some o) (k2:∀ p∈ps,∀ o,h.get? p.2=some o->h'.get? p.2=some o):TS prog w h' a es ep t ps:=
  ⟨x.at_.at' k,x.tab,x.ent,fun p hp=>QfS (x.key p hp) (k2 p hp),x.nd,x.rch,x.mks,x.few⟩
structure TSt (prog:Program) (w:World) (h:Heap) (a:Addr) (ys:List (List Int×Addr)) (led:Bool):Prop where
  ex:∃ es ep t ps,TS prog w h a es ep t ps/\t.led=led/\ps.length<=ys.length/\(∀ p∈ps,p∈ys)/\∀ y∈ys,y.1∈ps.map (·.1)
theorem Qk7 (led:Bool):Tab (SetTable.fresh 0 0 led):=⟨by simp [SetTable.fresh],by simp [SetTable.fresh],rfl,QkS,rfl,by show 7 % 2=1;decide⟩
variable {A:Around} {R:Result->Shared->Prop} {I:Addr} {fp wr:List Addr} {n:Nat} {P:Nat->Value->Prop} {St:Nat->Heap->Prop}
theorem QgN (W:Walks prog w A.in1 I fp wr n P St) (S:Addr) (hSf:S∉fp) {led:Bool} (hu:A.in1.units<cLine) (f:Nat->List Int×Addr) (hval:∀ i v,P i v->v=.ref (f i).2) (hwr:∀ i,i<n->(f i).2∉wr) (h300:n<=300) :
    ∀ (k i:Nat) (s:Shared),n - i=k->i<=n->St i s.heap->(∀ j,j<n->IsTupleKey (intKind prog w) s.heap (f j).1 (f j).2)->TSt prog w s.heap S ((List.range i).map f) led ->
      (∀ h' tk,(∀ b o,b∉S::wr->s.heap.get? b=some o->h'.get? b=some o)->TSt prog w h' S ((List.range n).map f) led->R (.ok (.ret .none)) { s with heap:=h',toks:=tk }) ->
      codeAny (model prog w) A (.builtin "set.update.loop" ⟨[.ref S,.ref I],[]⟩) R s:=by
  have hSw:S∉wr:=fun z=>hSf (W.sub _ z)
  have adr:∀ {i:Nat},i<=n->∀ p∈(List.range i).map f,p.2∉wr:=fun {i} hi p hp=>by
    obtain ⟨j,hj,rfl⟩:=List.mem_map.mp hp
    exact hwr j (by have:=List.mem_range.mp hj;omega)
  intro k
  induction k with
  | zero=>
    intro i s hk hi hst hK hS hR
    obtain rfl:i=n:=by omega
    refine codeAny_builtin PyProof.Rows.F.entry_set_update_loop ?_
    rw [Around.under_plainId PyProof.Rows.F.plain_set_update_loop _]
    show wpAny _ A.in1 (pyNext (.ref I) >>= _) _ _ s
    refine wpAny_bind (W.done s _ _ hst fun h' tk hk'=>wpAny_pure (hR h' tk (fun b o hb e=>hk' b o (fun z=>hb (List.mem_cons_of_mem _ z)) e) ?_))
    obtain ⟨es,ep,t,ps,x,hl,hn,hsub,hall⟩:=hS.ex
    exact ⟨es,ep,t,ps,x.at' (fun o e=>hk' S o hSw e) (fun p hp o e=>hk' _ o (adr (Nat.le_refl _) p (hsub p hp)) e),hl,hn,hsub,hall⟩
  | succ k ih=>
    intro i s hk hi hst hK hS hR
    have hlt:i<n:=by omega
    refine codeAny_builtin PyProof.Rows.F.entry_set_update_loop ?_
    rw [Around.under_plainId PyProof.Rows.F.plain_set_update_loop _]
    show wpAny _ A.in1 (pyNext (.ref I) >>= _) _ _ s
    refine wpAny_bind (W.item i s _ _ hlt hst fun v h' tk hP hst' hk'=>?_)
    obtain rfl:=hval i v hP
    obtain ⟨es,ep,t,ps,x,hl,hn,hsub,hall⟩:=hS.ex
    have x':TS prog w h' S es ep t ps:=x.at' (fun o e=>hk' S o hSw e) (fun p hp o e=>hk' _ o (adr hi p (hsub p hp)) e)
    have hK':∀ j,j<n->IsTupleKey (intKind prog w) h' (f j).1 (f j).2:=fun j hj=>QfS (hK j hj) fun o e=>hk' _ o (hwr j hj) e
    rw [List.length_map,List.length_range] at hn
    have er:(List.range (i+1)).map f=(List.range i).map f++[f i]:=by rw [List.range_succ,List.map_append];rfl
    show wpAny _ A.in1 (holding [_] (setAdd S _) >>= _) _ _ _
    refine wpAny_bind (wpAny_holding (addT (s:={ s with heap:=h',toks:=tk }) x' hu (hK' i hlt) (by omega) (fun hin tk'=>?_) fun hnot h2 es2 ep2 t2 ps2 tk' x2 pp hl2 sb=>?_))
    · refine wpAny_pure ⟨plainId_quiet PyProof.Rows.F.plain_set_update_loop _,ih (i+1) _ (by omega) hlt hst' hK' ⟨es,ep,t,ps,x',hl,by rw [List.length_map,List.length_range];omega,fun p hp=>?_,fun y hy=>?_⟩ fun h3 tk3 hk3 hS3=>hR h3 tk3 (fun b o hb e=>?_) hS3⟩
      · rw [er];exact List.mem_append_left _ (hsub p hp)
      · rw [er] at hy
        rcases List.mem_append.mp hy with z | z
        · exact hall y z
        · rw [List.mem_singleton.mp z];exact hin
      · exact hk3 b o hb (hk' b o (fun z=>hb (List.mem_cons_of_mem _ z)) e)
    · have oth:∀ b o,b≠S->h'.get? b=some o->h2.get? b=some o:=fun b o hb e=>by
        rw [sb.2 b hb];exact e
      refine wpAny_pure ⟨plainId_quiet PyProof.Rows.F.plain_set_update_loop _,ih (i+1) _ (by omega) hlt (W.frame _ h' _ hst' fun b hb o e=>oth b o (fun z:b=S=>hSf (by rw [<- z];exact hb)) e) (fun j hj=>QfS (hK' j hj) fun o e=>oth _ o (x'.other (s:={ s with heap:=h' }) (hK' j hj)) e) ⟨es2,ep2,t2,ps2,x2,hl2.trans hl,by rw [pp.length_eq,List.length_cons,List.length_map,List.length_range];omega,fun p hp=>?_,fun y hy=>?_⟩ fun h3 tk3 hk3 hS3=>hR h3 tk3 (fun b o hb e=>?_) hS3⟩
      · rw [er]
        rcases List.mem_cons.mp (pp.mem_iff.mp hp) with z | z
        · rw [z];exact List.mem_append_right _ (.head _)
        · exact List.mem_append_left _ (hsub p z)
      · have pm:=pp.map (·.1)
        rw [er] at hy
        rcases List.mem_append.mp hy with z | z
        · exact pm.mem_iff.mpr (.tail _ (hall y z))
        · rw [List.mem_singleton.mp z];exact pm.mem_iff.mpr (.head _)
      · exact hk3 b o hb (oth b o (fun z:b=S=>hb (by rw [z];exact List.mem_cons_self)) (hk' b o (fun z=>hb (List.mem_cons_of_mem _ z)) e))
end
section
variable {prog:Program} {w:World} {A:Around} {E:Value->Shared->Prop} {s:Shared}
end
theorem QgZ:Slot "set_iterator" "__iter__" "set_iterator.__iter__" :=
  .of (owner := "set_iterator") (n := "__iter__") (by rw [typeLookup_type,builtinLookup_eq_fast];kernel_rfl) (by decide +kernel) (by decide +kernel) (by decide +kernel) (by first | exact .inl (by decide +kernel) | exact .inr (by decide +kernel)) (by rw [isSubtype_type];kernel_rfl)
theorem en_si:entryFor table "set_iterator.__iter__" = some Builtin.«dict_keyiterator.__iter__» := entryFor_alias (id' := "dict_keyiterator.__iter__") (by kernel_rfl) (by first | rfl | decide +kernel | (unfold String.splitOn;simp +decide [String.splitOnAux])) (by decide +kernel) (by kernel_rfl)
theorem ar_si (a:Value):argsOk "set_iterator.__iter__" ⟨[a],[]⟩:=by
  unfold argsOk;rw [signature?_of (id := "set_iterator.__iter__") (n:=['_', '_', 'r', 'e', 't', 'i', '_', '_']) (o:=['r', 'o', 't', 'a', 'r', 'e', 't', 'i', '_', 't', 'e', 's']) (by kernel_rfl) ow_si];kernel_rfl
theorem Qmm:typeLookup (.type "set") "__len__" = pure (some (.builtin "set.__len__")):=by rw [typeLookup_type,builtinLookup_eq_fast];kernel_rfl
section
variable {prog:Program} {w:World} {A:Around} {E:Value->Shared->Prop} {s:Shared}
theorem Qld {I a:Addr} {first:Value} {i n ep:Nat} {Q:Value->Shared->Prop} (hit:IsSI s.heap I first i a n ep) (h:Q (.ref I) s):wpAny (model prog w) A (pyIter (.ref I)) Q E s:=by
  refine wpAny_pyIter_slot hit.typeIs QgZ (wpAny_call_entry QgZ hit.typeIs en_si ?_ (ar_si _))
  show wpAny _ _ (ret (.ref I)) _ _ s
  exact wpAny_pure ⟨_,rfl, "set_iterator",_,hit.typeIs,Qcc.lookup,h⟩
theorem Qfh {a:Addr} {es vs:Array (Int×Value)} {ep:Nat} {t:SetTable} {so:Nat->Nat} {Q:List Value->Shared->Prop} (hh:A.handled=none) (W:Way prog w a es ep t so vs) (ha:SetAt s.heap a es ep t) (hp:t.plain=true) (hn:es.size<=sizeLine)
    (hQ:∀ (h':Heap) (tk:Nat),(∀ b o,s.heap.get? b=some o->h'.get? b=some o)->Q (vs.toList.map (·.2)) { s with heap:=h',toks:=tk }):wpAny (model prog w) A (collect (.ref a)) Q E s:=by
  have hlt:a<s.heap.objs.size:=let ⟨o,ho,_⟩:=ha.at_;Heap.lt_size ho
  unfold collect
  refine wpAny_bind (wpAny_runValue (codeAny_builtin F.entry_proto_collect ?_))
  rw [Around.under_plainId F.plain_proto_collect _]
  show wpAny _ A.in1 (newList [] >>= fun l=>again (.builtin "list.__iadd__" ⟨[l,.ref a],[]⟩)) _ _ s
  refine wpAny_bind (wpAny_newObj_type (wpAny_pure ⟨plainId_quiet F.plain_list_iadd _,codeAny_builtin F.entry_list_iadd ?_⟩))
  rw [Around.under_plainId F.plain_list_iadd _]
  generalize hH:s.heap.push { cls:=.type "list",data:=.seq ([]:List Value).toArray }=H
  have hHs:H.objs.size=s.heap.objs.size+1:=by rw [<- hH,Heap.size_push]
  have keep:∀ b o,s.heap.get? b=some o->H.get? b=some o:=fun b o e=>hH ▸ Heap.get?_push_of_some _ e
  have hS:H.get? s.heap.objs.size=some { cls:=.type "list",data:=.seq ([]:List Value).toArray }:=hH ▸ Heap.get?_push_size _ rfl
  have ha1:SetAt H a es ep t:=ha.at' fun o e=>keep a o e
  have hT:Shared.TypeIs { s with heap:=H } (.ref a) "set" := let ⟨o,ho,hx,_⟩:=ha1.at_;⟨o,ho,hx.1⟩
  show wpAny _ A.in1 (Builtin.List.listExtendWith (.ref s.heap.objs.size) (.ref a) (.ref s.heap.objs.size)) _ _ { s with heap:=H }
  unfold Builtin.List.listExtendWith
  refine wpAny_bind (wpAny_typeOf hT ?_)
  have h1:Builtin.List.listSameRef (.ref s.heap.objs.size) (.ref a)=false:=by simp [Builtin.List.listSameRef,Nat.ne_of_gt hlt]
  have h2:(Value.type "set" == Value.type "list")=false:=by decide
  have h3:(Value.type "set" == Value.type "tuple")=false:=by decide
  simp only [h1,h2,h3,Bool.or_false,Bool.false_eq_true,if_false]
  refine wpAny_bind (it_led ha1 hp ?_)
  generalize hH2:Heap.push H { cls:=.type "set_iterator",data:=.fields #[.int 0 0,.int 0 0,.ref a,.int es.size 0,.int ep 0] }=H2
  have keep2:∀ b o,H.get? b=some o->H2.get? b=some o:=fun b o e=>hH2 ▸ Heap.get?_push_of_some _ e
  have hT2:Shared.TypeIs { s with heap:=H2 } (.ref a) "set" := let ⟨o,ho,hc⟩:=hT;⟨o,keep2 a o ho,hc⟩
  have hI:IsSI H2 H.objs.size (.int (so 0) 0) 0 a es.size ep:=⟨_,hH2 ▸ Heap.get?_push_size _ rfl,rfl,by rw [W.s0];rfl⟩
  refine wpAny_bind (wpAny_holding ?_)
  show wpAny _ A.in1 _ _ _ { s with heap:=H2 }
  unfold Builtin.List.listLengthHint
  refine wpAny_bind (wpAny_specialOf hT2 Qmm ?_)
  wp_delta
  refine wpAny_bind (wpAny_isInstance (b:=true) hT2 (by rw [isSubtype_type];kernel_rfl) ?_)
  show wpAny _ A.in1 (typeOf (Value.ref a) >>= _) _ _ _
  refine wpAny_bind (wpAny_typeOf hT2 (wpAny_pure ?_))
  show wpAny _ A.in1 (rule "list.extend.makes-room" >>= fun _=>Builtin.List.listTouch (.ref s.heap.objs.size) >>= fun _=>again (.builtin "list.extend.loop" ⟨[.ref s.heap.objs.size,.ref H.objs.size,.ref s.heap.objs.size],[]⟩)) _ _ _
  refine wpAny_bind (wpAny_rule (wpAny_bind ?_))
  show wpAny _ A.in1 (updateSeq s.heap.objs.size (·.push .none) >>= fun _=>updateSeq s.heap.objs.size (·.pop)) _ _ _
  have hS1:=keep2 _ _ hS
  refine wpAny_bind (wpAny_updateSeq hS1 rfl ?_)
  have hS2:=Heap.get?_update_self (Obj.mapSeq (·.push Value.none)) hS1 rfl
  refine wpAny_updateSeq hS2 rfl ?_
  have hS3:=Heap.get?_update_self (Obj.mapSeq (·.pop)) hS2 rfl
  generalize hH3:(H2.update s.heap.objs.size (Obj.mapSeq (·.push Value.none))).update s.heap.objs.size (Obj.mapSeq (·.pop))=H3 at hS3 ⊢
  have oth:∀ b o,b≠s.heap.objs.size->H2.get? b=some o->H3.get? b=some o:=fun b o hb e=>hH3 ▸ (Heap.get?_update_other _ _ (Ne.symm hb)).trans ((Heap.get?_update_other _ _ (Ne.symm hb)).trans e)
  have hIS:H.objs.size≠s.heap.objs.size:=by omega
  have hne:a≠H.objs.size:=by rw [hHs];exact Nat.ne_of_lt (Nat.lt_succ_of_lt hlt)
  have hSf:s.heap.objs.size∉[H.objs.size,a]:=by simp only [List.mem_cons,List.not_mem_nil,or_false,not_or];exact ⟨by omega,Nat.ne_of_gt hlt⟩
  have WW:=(Way.walks (A:=A.in1) hh W H.objs.size hne fun s Q E i st q=>Qld st q).toS
  refine wpAny_pure ⟨plainId_quiet F.plain_extend_loop _,codeAny_extend_loopS WW hn _ hSf _ es.size 0 { s with heap:=H3 } _ _ rfl (Nat.zero_le _) ⟨hI.at' fun o e=>oth _ o hIS e,ha1.at' fun o e=>oth a o (Nat.ne_of_lt hlt) (keep2 a o e)⟩ hS3 (ItemsOf.nil _) fun s' acc' c' hm hS' hacc=>?_⟩
  show wpAny _ A (load s.heap.objs.size >>= _) _ _ s'
  refine wpAny_bind (wpAny_load hS' (wpAny_pure ?_))
  have hl:vs.size=es.size:=by rw [<- Array.length_toList,W.pm.length_eq,Array.length_toList]
  have he:acc'.toList=vs.toList.map (·.2):=by
    apply List.ext_getElem?
    intro j
    rw [List.getElem?_map,Array.getElem?_toList,Array.getElem?_toList]
    by_cases z:j<acc'.size
    · have:=hacc.2 j acc'[j] (by simp [z])
      rw [this];simp [z]
    · rw [Array.getElem?_eq_none (by omega),Array.getElem?_eq_none (by have:=hacc.1;omega)];rfl
  show Q acc'.toList s'
  rw [he]
  have es':s'={ s with heap:=s'.heap,toks:=s'.toks }:=by
    obtain ⟨hp',g',d',tk',os'⟩:=s'
    have e1:=hm.gens;have e2:=hm.drawn;have e3:=hm.os
    simp only at e1 e2 e3
    rw [e1,e2,e3]
  rw [es']
  refine hQ _ _ fun b o e=>?_
  have hb:=Heap.lt_size e
  refine hm.heap b o ?_ (oth b o (Nat.ne_of_lt hb) (keep2 b o (keep b o e)))
  simp only [List.mem_cons,List.not_mem_nil,or_false,not_or];exact ⟨Nat.ne_of_lt hb,by rw [hHs];exact Nat.ne_of_lt (Nat.lt_succ_of_lt hb)⟩
end
end Zt
namespace Zt
open PySem PyProof.Rows PySem.W PySem.Calls Rs
section
variable {prog:Program} {w:World} {A:Around} {E:Value->Shared->Prop} {s:Shared}
end
end Zt
namespace L2
open PySem PySem.Spec PyProof.Rows Zt
section
variable {X:Cx}
end
end L2
namespace Dl
open PySem PySem.Spec PyProof.Rows L2 _root_.Rd Rk Zt
section
variable {X:Cx} {E:XK}
end
end Dl
namespace L2
open PySem PySem.Spec PySem.Calls PyProof.Rows _root_.Rd _root_.Rk _root_.Rs Rt Dl
section
variable {X:Cx}
end
end L2
namespace Zt
open PySem
def setP (prog:Program) (w:World) (a:Addr) (ps:List (List Int×Addr)) (led:Bool) (h:Heap):Prop:=∃ es ep t,SetAt h a es ep t/\Tab t/\t.led=led/\es.toList=ps.map fun p=>(tupleKeyHash (intKind prog w) p.1,Value.ref p.2)
section
variable {prog:Program} {w:World} {A:Around} {E:Value->Shared->Prop} {s:Shared}
theorem Qk3 {a:Addr} {es:Array (Int×Value)} {ep:Nat} {t:SetTable} (hs:SetAt s.heap a es ep t) (T:Tab t) (hl:t.led=Qbc w):∃ so vs,Way prog w a es ep t so vs:=by
  have hz:t.place.size=es.size:=by
    have:=hs.ft
    unfold SetTable.fits at this
    exact eq_of_beq (Bool.and_eq_true_iff.mp this).1
  cases hb:w.params.followText "set-order" with
  | true=>exact ⟨_,_,Qi1 hb a es ep _⟩
  | false=>
    have hl:t.led=true:=by rw [hl];unfold Qbc;rw [hb];rfl
    let so:Nat->Nat:=fun i=>match i with
      | 0=>0
      | i+1=>t.place.getD i 0+1
    refine ⟨so,es,Qk4 hb a es ep t T.pl hl hz so rfl (fun i hi=>rfl) (fun i hi=>?_)⟩
    obtain ⟨b1,b2,b3⟩:=QbF T.pw (so i)
    cases i with
    | zero=>
      cases hB:SetTable.below t.place (so 0) with
      | zero=>rfl
      | succ k=>
        have:=b2 0 (by omega) (by omega)
        exact absurd this (Nat.not_lt_zero _)
    | succ i=>
      have e:so (i+1)=t.place[i]+1:=by show t.place.getD i 0+1=_;simp [Array.getD,show i<t.place.size by omega]
      rcases Nat.lt_trichotomy (SetTable.below t.place (so (i+1))) (i+1) with z | z | z
      · have h1:=b3 i (by omega) (by omega)
        omega
      · exact z
      · have hi2:i+1<t.place.size:=by omega
        have h1:=b2 (i+1) hi2 z
        have:=List.pairwise_iff_getElem.mp T.pw i (i+1) (by simp;omega) (by simp;omega) (by omega)
        simp only [Array.getElem_toList] at this
        omega
theorem Qho {ps:List (List Int×Addr)}:∀ {l k:List (Int×Value)},l.Perm k->∀ {T:List (List Int×Addr)},k=T.map (fun p=>(tupleKeyHash (intKind prog w) p.1,Value.ref p.2))->∃ T':List (List Int×Addr),T'.Perm T/\l=T'.map fun p=>(tupleKeyHash (intKind prog w) p.1,Value.ref p.2):=by
  intro l k p
  induction p with
  | nil=>intro T e;exact ⟨T,List.Perm.refl _,e⟩
  | @cons x l1 l2 _ ih=>
    intro T e
    cases T with
    | nil=>cases e
    | cons y T=>
      injection e with e1 e2
      obtain ⟨T',p',e'⟩:=ih e2
      exact ⟨y::T',p'.cons y,by rw [e1,e'];rfl⟩
  | swap x y l=>
    intro T e
    match T,e with
    | u::v::T,e=>
      injection e with e1 e2
      injection e2 with e2 e3
      exact ⟨v::u::T,List.Perm.swap _ _ _,by rw [e1,e2,e3];rfl⟩
  | trans _ _ ih1 ih2=>
    intro T e
    obtain ⟨T1,p1,e1⟩:=ih2 e
    obtain ⟨T2,p2,e2⟩:=ih1 e1
    exact ⟨T2,p2.trans p1,e2⟩
open PyProof.Rows PySem.W PySem.Calls Rs in
theorem QeZ {Q:Value->Shared->Prop} {a:Addr} {ps:List (List Int×Addr)} (hh:A.handled=none) (hl:ps.length<=1000) (x:setP prog w a ps (Qbc w) s.heap)
    (h:∀ (h':Heap) (tk:Nat) (ps':List (List Int×Addr)),ps'.Perm ps->(∀ b x,s.heap.get? b=some x->h'.get? b=some x)->∀ (P:PySem.Fin->Shared->Prop) (E':Value->Shared->Prop),(∀ s2,Q (.ref h'.objs.size) s2->P (.done (.ret .none)) s2) ->
      wpAny (model prog w) A.in1.in1 (Builtin.«list.sort» ⟨[.ref h'.objs.size],[]⟩) P E' { s with heap:=h'.push (seqObj "list" (ps'.map fun p=>Value.ref p.2).toArray 0),toks:=tk }) :
    wpAny (model prog w) A (call (.builtin "sorted") [.ref a]) Q E s:=by
  obtain ⟨es,ep,t,sa,T,led,ent⟩:=x
  have hsz:es.size=ps.length:=by rw [<- Array.length_toList,ent,List.length_map]
  obtain ⟨so,vs,W⟩:=Qk3 (prog:=prog) (w:=w) sa T led
  obtain ⟨ps',pp,e'⟩:=Qho (prog:=prog) (w:=w) (ps:=ps) W.pm ent
  refine Calls.call_function_entry kind_sorted plain_sorted entry_sorted (args_sorted1 _) ?_
  unfold Builtin.«sorted»
  refine wpAny_bind (m:=checkCount "sorted" 1 1 _) (wpAny_pure ?_)
  refine wpAny_bind (Qfh (A:=A.in1) hh W sa T.pl (by rw [hsz,sizeLine_eq];omega) fun h' tk kp=>?_)
  have ev:vs.toList.map (·.2)=ps'.map fun p=>Value.ref p.2:=by rw [e',List.map_map];rfl
  rw [ev]
  refine wpAny_bind (wpAny_newList ?_ (by rw [sizeLine_eq,List.length_map,pp.length_eq];omega))
  have hoL:(h'.push (seqObj "list" (ps'.map fun p=>Value.ref p.2).toArray 0)).get? h'.objs.size=some (seqObj "list" (ps'.map fun p=>Value.ref p.2).toArray 0):=Heap.get?_push_size _ rfl
  show wpAny _ _ _ _ _ { s with heap:=h'.push (seqObj "list" (ps'.map fun p=>Value.ref p.2).toArray 0),toks:=tk }
  refine wpAny_bind (wpAny_holding (wpAny_call_entry slot_list_sort ⟨_,hoL,rfl⟩ entry_list_sort ?body (args_list_sort _)))
  exact h h' tk ps' pp kp _ _ fun s2 hq=>⟨_,rfl,wpAny_pure ⟨_,rfl,hq⟩⟩
end
end Zt
namespace Rk
open PySem PySem.Spec PyProof.Rows L2 _root_.Rd Dl Rt
theorem cm_any {items:List PyData} {wg:DG} {wt:DT} {we:DE} {δ:Sts} {Q:PyData->Prop} (G:PyData->PyData)
    (h:∀ d∈items,∀ (k1:Prop) (k2:PyData->Prop),k1->k2 (G d)->wg d δ fun δ4=>wt δ4 (fun b=>if b=true then we δ4 k2 XF else k1) XF) (q:∀ p:Nat->Bool,Q (.list (((List.range items.length).filter p).map fun i=>G (items.getD i .none)))):Qdl items wg wt we δ Q:=by
  unfold Qdl
  refine ⟨fun i acc=>∃ p:Nat->Bool,acc=((List.range i).filter p).map fun i=>G (items.getD i .none),⟨fun _=>false,rfl⟩,fun i acc d hd ⟨p,e⟩=>?_,fun acc ⟨p,e⟩=>by rw [e];exact q p⟩
  have ed:items.getD i .none=d:=by rw [List.getD_eq_getElem?_getD,hd];rfl
  have same:∀ b,(List.range i).filter (fun n=>if n=i then b else p n)=(List.range i).filter p:=fun b=>List.filter_congr fun n hn=>if_neg (by have:=List.mem_range.mp hn;omega)
  refine h d (List.mem_of_getElem? hd) _ _ ⟨fun n=>if n=i then false else p n,?_⟩ ⟨fun n=>if n=i then true else p n,?_⟩
  · rw [List.range_succ,List.filter_append,same,List.filter_cons_of_neg (by simp),List.filter_nil,List.append_nil];exact e
  · rw [List.range_succ,List.filter_append,same,List.filter_cons_of_pos (by simp),List.filter_nil,List.map_append,<- e]
    show acc++[G d]=acc++[G (items.getD i .none)]
    rw [ed]
def tN (ns:List Int):PyData:=.tuple (ns.map PyData.int)
end Rk
namespace L2
open PySem PySem.Spec PyProof.Rows Zt _root_.Rd _root_.Rk Dl Rt
section
variable {X:Cx}
theorem Qd8:∀ {L:List (List Int×Addr)} {its:List Value},Vals (L.map fun p=>V.ref p.2) its->its=L.map fun p=>Value.ref p.2
  | [],_,.nil=>rfl
  | p::L,_,.cons r rs=>by
    cases r
    rw [Qd8 rs];rfl
theorem Qeh:∀ (L:List (List Int×Addr)),Vals (L.map fun p=>V.ref p.2) (L.map fun p=>Value.ref p.2)
  | []=>.nil
  | p::L=>.cons rfl (Qeh L)
theorem Qc6 {prog:Program} {w:World}:∀ {r:List Int} {its:List Value},IntsAre its r->ItemsAre (intKind prog w) r its
  | _,_,.nil=>.nil
  | _,_,.cons n t h=>.cons (intKind_is _ _ _ _) (Qc6 h)
theorem key_of {pins:List (Addr×Obj)} {s:Shared} {σ:L2.St} {H:Hp} (I:Inv X pins σ H s) {r:List Int} {b:Addr} (h:H b=some (.tup (r.map V.int))):IsTupleKey (intKind X.prog X.w) s.heap r b:=by
  obtain ⟨hz,its,rv,o,ho,hc,n,hd⟩:=I.hok b _ h
  exact ⟨o,its.toArray,n,ho,hc,hd,by simpa using Qc6 (Qco rv)⟩
theorem range_getD {α:Type} (L:List α) (d:α):(List.range L.length).map (fun i=>L.getD i d)=L:=by
  apply List.ext_getElem?
  intro i
  rw [List.getElem?_map]
  by_cases h:i<L.length
  · rw [List.getElem?_range h,List.getElem?_eq_getElem h]
    show some (L.getD i d)=_
    rw [List.getD_eq_getElem?_getD,List.getElem?_eq_getElem h];rfl
  · rw [List.getElem?_eq_none (by simpa using h),List.getElem?_eq_none (by omega)];rfl
theorem Qey {H:Hp}:∀ {ps:List (List Int×Addr)},(∀ p∈ps,H p.2=some (.tup (p.1.map V.int)))->Dats H (ps.map fun p=>V.ref p.2) (ps.map fun p=>tN p.1)
  | [],_=>.nil
  | p::ps,h=>.cons (Dat.tup (h p (.head _)) (Qez p.1)) (Qey fun q hq=>h q (.tail _ hq))
end
end L2
namespace Dl
open PySem PySem.Spec PyProof.Rows L2 _root_.Rd Rk Zt Rt
section
variable {X:Cx} {E:XK}
theorem Qdx:∀ L:List Int,okKs (L.map PyData.int)=true
  | []=>rfl
  | _::L=>by show (true&&okKs (L.map PyData.int))=true;rw [Qdx L];rfl
theorem Qf4 {A:Addr->Prop} {H:Hp}:∀ {rows:List (List Int)} {xs:List V},DAs A H xs (rows.map tN)->∃ L:List (List Int×Addr),xs=L.map (fun p=>V.ref p.2)/\rows=L.map (·.1)/\∀ p∈L,H p.2=some (.tup (p.1.map V.int))
  | [],_,.nil=>⟨[],rfl,rfl,fun _ h=>nomatch h⟩
  | r::rows,_,.cons q qs=>by
    obtain ⟨L,rfl,rfl,hL⟩:=Qf4 qs
    have q:DA A H _ (.tuple (r.map PyData.int)):=q
    cases q with
    | @tup l ys _ na e qq=>
      rw [QbE qq] at e
      refine ⟨(r,l)::L,rfl,rfl,fun p hp=>?_⟩
      rcases List.mem_cons.mp hp with z | z
      · rw [z];exact e
      · exact hL p z
end
end Dl
namespace Zt
open PySem
section
variable {prog:Program} {w:World} {A:Around} {E:Value->Shared->Prop} {s:Shared}
theorem call_setU {l:Addr} {items:Array Value} {n:Nat} {f:Nat->List Int×Addr} {Q:Value->Shared->Prop} (hh:A.handled=none) (hu:A.units+60<cLine) (hl:s.heap.IsTuple l items) (hn:items.size=n) (h300:n<=300) (hval:∀ (i:Nat) (v:Value),items[i]? = some v->v=Value.ref (f i).2) (hK:∀ j,j<n->IsTupleKey (intKind prog w) s.heap (f j).1 (f j).2)
    (h:∀ (h':Heap) (tk:Nat),TSt prog w h' s.heap.objs.size ((List.range n).map f) (Qbc w)->(∀ b o,b<s.heap.objs.size->s.heap.get? b=some o->h'.get? b=some o)->Q (.ref s.heap.objs.size) { s with heap:=h',toks:=tk }):wpAny (model prog w) A (call (.type "set") [.ref l]) Q E s:=by
  obtain ⟨c,tl,hmro⟩:=F.called_set.mro
  have hmade:=F.called_set.made;have hsub:=F.called_set.sub
  refine wpAny_call (codeAny_of_tree (by
    show wpAny _ _ (callAny (.type "set") _) _ _ _
    refine wpAny_pure ⟨Code.quiet_builtin _ (by decide +kernel),codeAny_builtin F.entry_type_call ?_⟩
    rw [Around.under_plain (weight_type_call_type "set" [.ref l] []) rfl];have h1:=F.called_set.notType
    have h2:=F.called_set.canCreate;have hct:=F.typeCall_set_1 (.ref l)
    repeat (any_goals (first | assumption | wp_step))
    refine codeAny_mono (Qle (.ref l) (E:=E) (Q:=fun obj s₁=>obj=.ref s.heap.objs.size/\s₁={ s with heap:=s.heap.push { cls:=.type "set",dict:=none,data:=.set #[] 0 (.fresh 0 0 (Qbc w)) } }) ⟨rfl,rfl⟩) fun r s₁ hr=>?_
    cases r with
    | error e=>exact hr
    | ok fl=>
      cases fl with
      | ret obj=>
        obtain ⟨rfl,rfl⟩:=hr
        have hS:(s.heap.push { cls:=.type "set",dict:=none,data:=.set #[] 0 (.fresh 0 0 (Qbc w)) }).get? s.heap.objs.size=some { cls:=.type "set",dict:=none,data:=.set #[] 0 (.fresh 0 0 (Qbc w)) }:=Heap.get?_push_size _ rfl
        have hT:Shared.TypeIs { s with heap:=s.heap.push { cls:=.type "set",dict:=none,data:=.set #[] 0 (.fresh 0 0 (Qbc w)) } } (.ref s.heap.objs.size) "set" := ⟨_,hS,rfl⟩
        have hli:=F.called_set.init.lookup;have hbi:=F.called_set.init.bind (.ref s.heap.objs.size)
        repeat (any_goals (first | assumption | wp_step))
        refine codeAny_mono (codeAny_call_builtin (R:=wants (fun r s₂=>r=.none/\∃ h' tk,s₂={ s with heap:=h',toks:=tk }/\TSt prog w h' s.heap.objs.size ((List.range n).map f) (Qbc w)/\(∀ b o,b<s.heap.objs.size->s.heap.get? b=some o->h'.get? b=some o)) E) F.called_set.init.plain F.entry_set_init (check_set_init_1 hT ?_)) fun r₂ s₂ hr₂=>?_
        · obtain ⟨⟨ocls,odict,odata,oslots⟩,hol,hcl,nl,hdl⟩:=hl
          simp only at hcl hdl
          subst hcl hdl
          have hol':(s.heap.push { cls:=.type "set",dict:=none,data:=.set #[] 0 (.fresh 0 0 (Qbc w)) }).get? l=some { cls:=.type "tuple",dict:=odict,data:=.seq items nl,slots:=oslots }:=Heap.get?_push_of_some _ hol
          have hsls:=F.sub_tuple_set;have hslf:=F.sub_tuple_frozenset
          have hne:(Value.type "tuple" == Value.type "dict")=false:=by decide
          have hl1:(s.heap.push { cls:=.type "set",dict:=none,data:=.set #[] 0 (.fresh 0 0 (Qbc w)) }).IsTuple l items:=⟨_,hol',rfl,nl,rfl⟩
          unfold Builtin.«set.__init__» noKeywords Builtin.Frozenset.updateFrom
          generalize hPI:pyIter=PI;wp_walk;subst hPI
          refine wpAny_pyIter_tuple hl1 (wpAny_bind (wpAny_runValue ?_))
          have hlS:l<s.heap.objs.size:=Heap.lt_size hol
          have hneI:l≠(s.heap.push { cls:=.type "set",dict:=none,data:=.set #[] 0 (.fresh 0 0 (Qbc w)) }).objs.size:=by rw [Heap.size_push];exact Nat.ne_of_lt (Nat.lt_succ_of_lt hlS)
          have hSf:s.heap.objs.size∉[(s.heap.push { cls:=.type "set",dict:=none,data:=.set #[] 0 (.fresh 0 0 (Qbc w)) }).objs.size,l]:=by
            rw [Heap.size_push];simp only [List.mem_cons,List.not_mem_nil,or_false,not_or];exact ⟨Nat.ne_of_lt (Nat.lt_succ_self _),Nat.ne_of_gt hlS⟩
          have w0:=Walks.tuple (prog:=prog) (w:=w) (A:=A.in1.in1.in1) (by simp [hh]) (s.heap.push { cls:=.type "set",dict:=none,data:=.set #[] 0 (.fresh 0 0 (Qbc w)) }).objs.size l hneI items
          rw [hn] at w0
          have klt:∀ j,j<n->(f j).2<s.heap.objs.size:=fun j hj=>by
            obtain ⟨o',it,nn,ho',r⟩:=hK j hj
            exact Heap.lt_size ho'
          refine QgN (led:=Qbc w) w0 s.heap.objs.size hSf (by show A.units+1+1+1<cLine;omega) f (fun i v hv=>hval i v hv) (fun i hi hm=>?hW) h300 n 0 _ (by omega) (Nat.zero_le _) ⟨⟨_,Heap.get?_push_size _ rfl,rfl,rfl⟩,hl1.push _⟩ (fun j hj=>QfS (hK j hj) fun o e=>Heap.get?_push_of_some _ (Heap.get?_push_of_some _ e)) ?hS0 ?hR
          case hW=>
            have:=klt i hi
            rw [List.mem_singleton.mp hm,Heap.size_push] at this
            exact absurd this (Nat.not_lt.mpr (Nat.le_succ _))
          case hS0=>
            refine ⟨#[],0,SetTable.fresh 0 0 (Qbc w),[],⟨⟨⟨_,Heap.get?_push_of_some _ hS,⟨rfl,rfl,rfl⟩,rfl⟩,by cases Qbc w<;>rfl⟩,Qk7 _,rfl,(fun p hp=>nomatch hp),List.nodup_nil,(fun i j e h1=>by simp [SetTable.fresh] at h1),.inl rfl,by show 0*5<7*3;decide⟩,rfl,Nat.zero_le _,(fun p hp=>nomatch hp),(fun y hy=>nomatch hy)⟩
          case hR=>
            intro h' tk hk hS'
            refine wpAny_pure ?_
            refine wpAny_pure ⟨rfl,h',tk,rfl,hS',fun b o hb e=>?_⟩
            have hb2:b≠(s.heap.push { cls:=.type "set",dict:=none,data:=.set #[] 0 (.fresh 0 0 (Qbc w)) }).objs.size:=by rw [Heap.size_push];exact Nat.ne_of_lt (Nat.lt_succ_of_lt hb)
            exact hk b o (by simp only [List.mem_cons,List.not_mem_nil,or_false,not_or];exact ⟨Nat.ne_of_lt hb,hb2⟩) (Heap.get?_push_of_some _ (Heap.get?_push_of_some _ e))
        · cases r₂ with
          | error e=>exact hr₂
          | ok fl₂=>
            cases fl₂ with
            | ret r=>
              obtain ⟨rfl,h',tk,rfl,hS',hk'⟩:=hr₂
              repeat (any_goals (first | assumption | wp_step))
              exact h _ _ hS' hk'
            | _=>exact hr₂
      | _=>exact hr))
end
end Zt
namespace L2
open PySem PySem.Spec PyProof.Rows Zt _root_.Rd _root_.Rk Dl Rt
section
variable {X:Cx}
def rSetU (prog:Program) (w:World) (K:PySem.W.Frag):List V->Hp->VK->Prop:=fun xs H Q=>∃ (l:Addr) (L:List (List Int×Addr)),xs=[.ref l]/\SqT K H l (L.map fun p=>V.ref p.2)/\(∀ p∈L,H p.2=some (.tup (p.1.map V.int)))/\L.length<=300 /\
  ∀ (t:Addr) (H2:Hp) (ps:List (List Int×Addr)),(ps.map (·.1)).Nodup->ps.length<=L.length->(∀ p∈ps,p∈L)->(∀ p∈L,p.1∈ps.map (·.1))->Same H H2->H t=none->H2 t=some (.ext (setP prog w t ps (Qbc w)))->Q (.ref t) H2
theorem call_setU (hc:X.calm=true) (hu:X.A.units+60<cLine):CallR X (.type "set") (rSetU X.prog X.w X.K):=by
  intro pins s σ H xs us Q I r h
  obtain ⟨p,L,rfl,hp,hL,h300,q⟩:=h
  obtain ⟨u,rfl,ru⟩:=QbK r
  cases ru
  obtain ⟨its,rv,pl,hz⟩:=I.tuple hp
  obtain rfl:=Qd8 rv
  have hget:∀ i,i<L.length->L.getD i ([],0)∈L:=fun i hi=>by
    rw [List.getD_eq_getElem?_getD,List.getElem?_eq_getElem hi]
    exact List.getElem_mem hi
  refine Zt.call_setU (items:=(L.map fun p=>Value.ref p.2).toArray) (n:=L.length) (f:=fun i=>L.getD i ([],0)) (I.ok.hd hc) hu (let ⟨o,h1,h2,n,h3⟩:=pl;⟨o,h1,h2,n,h3⟩) (by rw [List.size_toArray,List.length_map]) h300 (fun i v hv=>?_) (fun j hj=>key_of I (hL _ (hget j hj))) fun h' tk hS hk=>?_
  · rw [List.getElem?_toArray,List.getElem?_map] at hv
    cases e:L[i]? with
    | none=>rw [e] at hv;cases hv
    | some y=>
      rw [e] at hv
      cases hv
      show _=Value.ref (L.getD i ([],0)).2
      rw [List.getD_eq_getElem?_getD,e];rfl
  · rw [range_getD] at hS
    obtain ⟨es,ep,t,ps,x,hl,hn,hsub,hall⟩:=hS.ex
    have hf:H s.heap.objs.size=none:=I.hok.fresh (Nat.le_refl _)
    refine ⟨.ref s.heap.objs.size,upd H s.heap.objs.size (.ext (setP X.prog X.w s.heap.objs.size ps (Qbc X.w))),I.laid (t':=tk) (fun b x e=>hk b x (Heap.lt_size e) e) (Nat.le_refl _) ⟨⟨es,ep,t,x.at_,x.tab,hl,x.ent⟩,?_,fun h1 h2 a b=>?_⟩,rfl,q _ _ ps x.nd hn hsub hall (Qab hf) hf Qad⟩
    · obtain ⟨o,ho,_⟩:=x.at_.at_
      exact ⟨o,ho⟩
    · obtain ⟨es,ep,t,sa,r⟩:=a
      exact ⟨es,ep,t,sa.at' b,r⟩
end
end L2
namespace Dl
open PySem PySem.Spec PyProof.Rows L2 _root_.Rd Rk Zt Rt
section
variable {X:Cx} {E:XK}
end
end Dl
namespace L2
open PySem PySem.Spec PySem.Calls PyProof.Rows Zt _root_.Rd _root_.Rk _root_.Rs Dl Rt
section
variable {X:Cx}
theorem Qgk {pins:List (Addr×Obj)} {s:Shared} {σ:L2.St} {H:Hp} (I:Inv X pins σ H s) {vs:List V} {L:List (Int×Int)} {its:List Value} (rv:Vals vs its) (ds:Dats H vs (L.map Rk.pairD)) (nd:L.Nodup) (h64:L.length<64) (hb:∀ ij∈L,0<=ij.2/\ij.2<64) {Q:VK}
    (q:∀ (t:Addr) (ys:List V) (M:List (Int×Int)) (H2:Hp),Same H H2->H t=none->H2 t=some (.lst ys)->Dats H2 ys (M.map Rk.pairD)->M.Perm L->M.Pairwise (fun a b=>Rs.code a<Rs.code b)->(∀ y∈ys,y∈vs)->Q (.ref t) H2) (h':Heap) (tk:Nat) (kp:∀ b x,s.heap.get? b=some x->h'.get? b=some x) (P:PySem.Fin->Shared->Prop) (E':Value->Shared->Prop)
    (hP:∀ s2,(∃ v H',Inv X pins σ H' s2/\RelV v (.ref h'.objs.size)/\Q v H')->P (.done (.ret .none)) s2) :
    wpAny (model X.prog X.w) X.A.in1.in1 (Builtin.«list.sort» ⟨[.ref h'.objs.size],[]⟩) P E' { s with heap:=h'.push (seqObj "list" its.toArray 0),toks:=tk }:=by
  have pv:=Qel I.hok ds rv
  have lv:=ds.length
  rw [List.length_map] at lv
  have li:=rv.length
  have lp:=pv.len
  refine Qc5 (s:={ s with heap:=h'.push (seqObj "list" its.toArray 0),toks:=tk }) (vs:=its) (L:=L) (Heap.get?_push_size _ rfl) (by omega) (fun h2 k2=>?_) nd hb fun p g ad h2 e k2 e2=>hP _ ?_
  · exact (pv.keep kp).keep fun b x e=>k2 b x (Nat.ne_of_lt (Heap.lt_size e)) (Heap.get?_push_of_some _ e)
  · have I1:Inv X pins σ H { s with heap:=h',toks:=tk }:=I.kept (t':=tk) kp
    have hf:H h'.objs.size=none:=I1.hok.fresh (Nat.le_refl _)
    have hp:∀ i∈p.toList,i<vs.length:=fun i hi=>by have:=List.mem_range.mp (g.perm.mem_iff.mp hi);omega
    have I2:Inv X pins σ (upd H h'.objs.size (.lst (p.toList.map fun i=>vs.getD i .non))) { s with heap:=h2,toks:=tk }:=
      I1.laid (t':=tk) (fun b x e'=>k2 b x (Nat.ne_of_lt (Heap.lt_size e')) (Heap.get?_push_of_some _ e')) (Nat.le_refl _) (show ObjOk X.prog X.w _ _ _ (.lst _) from ⟨by rw [List.length_map,Array.length_toList,g.size];exact Nat.le_of_lt (Rk.lt_line (by omega)),_,e,Qfr fun i hi=>QgL rv i (hp i hi),e2⟩)
    have g':Good L.length p:=by rw [<- lp];exact g
    have ad':Adj (fun i=>Rs.code (L.getD i (0,0))) p L.length:=by rw [<- lp];exact ad
    refine ⟨.ref h'.objs.size,_,I2,rfl,q _ _ (p.toList.map fun i=>L.getD i (0,0)) _ (Qab hf) hf Qad (Qf1 fun i hi=>(Qis ds i (hp i hi)).same (Qab hf)) (Qid g') (Qic g' ad' fun i j hi hj e=>?_) fun y hy=>?_⟩
    · have bi:0<=(L.getD i (0,0)).2/\(L.getD i (0,0)).2<64:=by rw [List.getD_eq_getElem?_getD,List.getElem?_eq_getElem hi];exact hb _ (List.getElem_mem _)
      have bj:0<=(L.getD j (0,0)).2/\(L.getD j (0,0)).2<64:=by rw [List.getD_eq_getElem?_getD,List.getElem?_eq_getElem hj];exact hb _ (List.getElem_mem _)
      unfold Rs.code at e
      have e':L.getD i (0,0)=L.getD j (0,0):=Prod.ext (by omega) (by omega)
      rw [List.getD_eq_getElem?_getD,List.getD_eq_getElem?_getD,List.getElem?_eq_getElem hi,List.getElem?_eq_getElem hj] at e'
      have pw:=List.pairwise_iff_getElem.mp nd
      rcases Nat.lt_trichotomy i j with z | z | z
      · exact absurd e' (pw i j hi hj z)
      · exact z
      · exact absurd e'.symm (pw j i hj hi z)
    · obtain ⟨i,hi,rfl⟩:=List.mem_map.mp hy
      rw [List.getD_eq_getElem?_getD,List.getElem?_eq_getElem (hp i hi)]
      exact List.getElem_mem _
def prOf (r:List Int):Int×Int:=(r.getD 0 0,r.getD 1 0)
def rSortV (prog:Program) (w:World):List V->Hp->VK->Prop:=fun xs H Q=>∃ (a:Addr) (ps:List (List Int×Addr)),xs=[.ref a]/\ps.length<64/\H a=some (.ext (setP prog w a ps (Qbc w)))/\(∀ p∈ps,H p.2=some (.tup (p.1.map V.int)))/\(ps.map (·.1)).Nodup/\(∀ p∈ps,∃ i j:Int,p.1=[i,j]/\0<=j/\j<64) /\
  ∀ (t:Addr) (ys:List V) (M:List (Int×Int)) (H2:Hp),Same H H2->H t=none->H2 t=some (.lst ys)->Dats H2 ys (M.map Rk.pairD)->M.Perm (ps.map fun p=>prOf p.1)->M.Pairwise (fun a b=>Rs.code a<Rs.code b)->(∀ y∈ys,y∈ps.map fun p=>V.ref p.2)->Q (.ref t) H2
theorem Qep:∀ {ps:List (List Int×Addr)},(ps.map (·.1)).Nodup->(∀ p∈ps,∃ i j:Int,p.1=[i,j]/\0<=j/\j<64)->(ps.map fun p=>prOf p.1).Nodup
  | [],_,_=>.nil
  | p::ps,nd,h=>by
    have nd:=List.nodup_cons.mp nd
    refine List.nodup_cons.mpr ⟨fun hm=>nd.1 ?_,Qep nd.2 fun q hq=>h q (.tail _ hq)⟩
    obtain ⟨q,hq,e⟩:=List.mem_map.mp hm
    obtain ⟨i,j,e1,_⟩:=h p (.head _)
    obtain ⟨i',j',e2,_⟩:=h q (.tail _ hq)
    refine List.mem_map.mpr ⟨q,hq,?_⟩
    have e:prOf q.1=prOf p.1:=e
    rw [e1,e2] at e
    injection e with a b
    have a:i'=i:=a
    have b:j'=j:=b
    show q.1=p.1
    rw [e1,e2,a,b]
theorem call_sortV (hc:X.calm=true):CallR X (.builtin "sorted") (rSortV X.prog X.w):=by
  intro pins s σ H xs us Q I r h
  obtain ⟨a,ps,rfl,h64,ha,hps,nd,hb,q⟩:=h
  obtain ⟨u,rfl,ru⟩:=QbK r
  cases ru
  obtain ⟨hS,_⟩:=I.hok a _ ha
  refine QeZ (I.ok.hd hc) (by omega) hS fun h' tk ps' pp kp P E' hP=>?_
  have hps':∀ p∈ps',H p.2=some (.tup (p.1.map V.int)):=fun p hp=>hps p (pp.mem_iff.mp hp)
  have hb':∀ p∈ps',∃ i j:Int,p.1=[i,j]/\0<=j/\j<64:=fun p hp=>hb p (pp.mem_iff.mp hp)
  have nd':(ps'.map (·.1)).Nodup:=(pp.map _).nodup_iff.mpr nd
  have dr:=Qey hps'
  have er:(ps'.map fun p=>tN p.1)=(ps'.map fun p=>prOf p.1).map Rk.pairD:=by
    rw [List.map_map]
    refine List.map_congr_left fun p hp=>?_
    obtain ⟨i,j,e,_⟩:=hb' p hp
    show tN p.1=Rk.pairD (prOf p.1)
    rw [e];rfl
  rw [er] at dr
  refine Qgk I (Qeh ps') dr (Qep nd' hb') (by rw [List.length_map,pp.length_eq];exact h64) (fun ij hij=>?_) (fun t ys M H2 s2 n2 e2 dt pe pw hy=>?_) h' tk kp P E' hP
  · obtain ⟨p,hp,rfl⟩:=List.mem_map.mp hij
    obtain ⟨i,j,e,h0,h1⟩:=hb' p hp
    rw [e]
    exact ⟨h0,h1⟩
  · exact q t ys M H2 s2 n2 e2 dt (pe.trans (pp.map _)) pw fun y hy'=>(pp.map _).mem_iff.mp (hy y hy')
end
end L2
namespace Dl
open PySem PySem.Spec PyProof.Rows L2 _root_.Rd Rk Zt Rt
section
variable {X:Cx} {E:XK}
@[irreducible] def Qdq:PyData->(PyData->Prop)->Prop
  | .tuple ds,Q=>∃ L:List (Int×Int),ds=L.map Rk.pairD/\L.length<64/\(∀ p∈L,0<=p.2/\p.2<64)/\∀ M:List (Int×Int),M.length<=L.length->(∀ x,x∈M↔x∈L)->M.Pairwise (fun a b=>Rs.code a<Rs.code b)->Q (.list (M.map Rk.pairD))
  | _,_=>False
theorem Qje {Q:PyData->Prop} (L:List (Int×Int)) (hl:L.length<64) (hb:∀ p∈L,0<=p.2/\p.2<64) (h:∀ M:List (Int×Int),M.length<=L.length->(∀ x,x∈M↔x∈L)->M.Pairwise (fun a b=>Rs.code a<Rs.code b)->Q (.list (M.map Rk.pairD))):Qdq (.tuple (L.map Rk.pairD)) Q:=by
  unfold Qdq
  exact ⟨L,rfl,hl,hb,h⟩
def QeD (w:DE):DE:=fun δ Q EX=>w δ (fun d=>Qdq d Q) EX
theorem Qe7 {e:Expr} {w:DE} {p p2 pos pos2:Pos} (hu:X.A.units+60<cLine) (hg:Gl X "sorted") (hm:X.mg "sorted" = none) (hg2:Gl X "set") (hm2:X.mg "set" = none) (h:PE X e (tX .P X.K E w)) (hc:X.calm=true) (hs:notStar e=true):PE X (.Call (.Name "sorted" p) [.Call (.Name "set" p2) [e] [] pos2] [] pos) (tX .F X.K E (QeD w)):=by
  refine PE.imp (Qas (L2.call_sortV hc) hg hm QeK (pa_c (Qb1 (L2.call_setU hc hu) hg2 hm2 bt_set (pa_c h Qam hs) (he:=QaD hs)) Qam)) fun σ H Q ⟨F,δ,R,EX,rel,hw,k,o⟩=>?_
  refine ⟨F,δ,_,EX,rel,hw,fun d hd v H1 rel1 kp1 vk=>?_,o⟩
  have hd:Qdq d _:=hd
  unfold Qdq at hd
  split at hd
  · obtain ⟨C,rfl,h64,hb,hR⟩:=hd
    obtain ⟨l,xs,rfl,e,q⟩:=DP.tuple vk
    have er:C.map Rk.pairD=(C.map fun c=>[c.1,c.2]).map tN:=by rw [List.map_map];rfl
    rw [er] at q
    obtain ⟨L,rfl,eC,hL⟩:=Qf4 q
    have hC:C.length=L.length:=by have:=congrArg List.length eC;rwa [List.length_map,List.length_map] at this
    have two:∀ p∈L,∃ c∈C,p.1=[c.1,c.2]:=fun p hp=>by
      have:p.1∈C.map fun c=>[c.1,c.2]:=by rw [eC];exact List.mem_map.mpr ⟨p,hp,rfl⟩
      obtain ⟨c,hc,e⟩:=List.mem_map.mp this
      exact ⟨c,hc,e.symm⟩
    refine ⟨l,L,rfl,SqT.of e,hL,by omega,fun t H2 ps nd hn hsub hall s2 n2 e2=>⟨t,ps,rfl,by omega,e2,fun p hp=>s2 _ _ (hL p (hsub p hp)),nd,fun p hp=>?_,fun t3 ys M H3 s3 n3 e3 dt pe pw hy=>?_⟩⟩
    · obtain ⟨c,hc,e⟩:=two p (hsub p hp)
      exact ⟨c.1,c.2,e,hb c hc⟩
    have s13:=s2.trans s3
    have n13:H1 t3=none:=by
      cases z:H1 t3 with
      | none=>rfl
      | some o=>rw [s2 _ _ z] at n3;cases n3
    refine k _ (hR M ?_ (fun x=>?_) pw) _ H3 (rel1.same s13) (kp1.trans (Kp.same rel1 s13)) ?_
    · have:=pe.length_eq
      rw [List.length_map] at this
      omega
    · rw [pe.mem_iff]
      constructor
      · intro hx
        obtain ⟨p,hp,rfl⟩:=List.mem_map.mp hx
        obtain ⟨c,hc,e⟩:=two p (hsub p hp)
        rw [e]
        exact hc
      · intro hx
        have:[x.1,x.2]∈L.map (·.1):=by rw [<- eC];exact List.mem_map.mpr ⟨x,hx,rfl⟩
        obtain ⟨p,hp,e⟩:=List.mem_map.mp this
        have e:p.1=[x.1,x.2]:=e
        obtain ⟨p',hp',e'⟩:=List.mem_map.mp (hall p hp)
        refine List.mem_map.mpr ⟨p',hp',?_⟩
        have e':p'.1=p.1:=e'
        rw [e',e];rfl
    · refine ⟨.lst (fun z=>by obtain ⟨xs,e⟩:=rel1.isl z;rw [n13] at e;cases e) e3 (QeB dt (fun y hy'=>?_) fun y d e _=>Qf2 d e y),Qbb (QbO kp1 n13)⟩
      obtain ⟨p,hp,rfl⟩:=List.mem_map.mp (hy y hy')
      have hp1:=hL p (hsub p hp)
      obtain ⟨d,hd,da⟩:=das_at q (List.mem_map.mpr ⟨p,hsub p hp,rfl⟩)
      obtain ⟨r,_,rfl⟩:=List.mem_map.mp hd
      exact ⟨tN r,da.same s13,Qbn r,QhK _ (Qdx r),QeC _ _ (Qbn r) (da.same s13)⟩
  · exact hd.elim
theorem Qgm {e:Expr} {w:DE} {p p2 pos pos2:Pos} (hu:X.A.units+60<cLine) (hg:Gl X "sorted") (hm:X.mg "sorted" = none) (hg2:Gl X "set") (hm2:X.mg "set" = none) (h:QE .P X E e w) (hc:X.calm=true:=by rfl) (hs:notStar e=true:=by rfl):QE .F X E (.Call (.Name "sorted" p) [.Call (.Name "set" p2) [e] [] pos2] [] pos) (QeD w):=⟨Qe7 hu hg hm hg2 hm2 h.h hc hs⟩
end
end Dl
namespace L2
open PySem PySem.Spec PyProof.Rows _root_.Rd
section
variable {X:Cx}
theorem QiA {h:Heap} {d:PyData}:∀ {vs:List Value} {ds:List PyData} {as:List Addr},ReadsAll h vs ds as->PyData.canLayAll0 ds=true->vs.countP (eqH h d)=ds.countP fun e=>PyData.eqv e d
  | _,_,_,.nil,_=>rfl
  | _,_,_,.cons r rs,c=>by
    simp only [PyData.canLayAll0,Bool.and_eq_true] at c
    rw [List.countP_cons,List.countP_cons,Qin r c.1,QiA rs c.2]
def rCnt (u:Nat):V->List V->Hp->VK->Prop:=fun x vs H Q=>∃ l ps ds y d,x=.ref l/\vs=[y]/\H l=some (.lst ps)/\Dats H ps ds/\Dat H y d/\u+d.depth<cLine/\Q (.int (ds.countP fun e=>PyData.eqv e d:Nat)) H
theorem mt_count:MtR X "list.count" (rCnt X.A.in1.units):=by
  intro pins s σ H x vs v us Q I rx rv h
  obtain ⟨l,ps,ds,y,d,rfl,rfl,hH,qs,qy,hu,q⟩:=h
  cases rx
  obtain ⟨u,rfl,ru⟩:=rv.one
  obtain ⟨⟨as,ra⟩,ca⟩:=QaZ I.hok d y u qy ru
  obtain ⟨z,its,n,r,hl',e⟩:=I.lstM hH
  obtain ⟨⟨bs,rb⟩,cb⟩:=Qa7 I.hok ds ps its qs r
  refine call_meets F.slot_list_count ⟨_,e,rfl⟩ F.entry_list_count (F.args_list_count_2 _ _) (SeqAt.list_countAt l its.toArray n _ _ u (eqH s.heap d)) ⟨e,fun y hy=>QdT ra ca rb cb hu y (List.mem_toArray.mp hy),?_⟩
  rw [show its.toArray.toList=its from rfl,QiA rb cb]
  exact ⟨.int _,H,I.kept fun _ _ e=>e,⟨_,rfl⟩,q⟩
end
end L2
namespace Dl
open PySem PySem.Spec PyProof.Rows L2 _root_.Rd Rk Rt
section
variable {X:Cx} {E:XK}
def dMth (rD:List PyData->PyData->(PyData->Prop)->Prop) (wa wb:DE):DE:=fun δ Q EX=>wa δ (fun d1=>match d1 with
  | .list ds=>wb δ (fun d2=>rD ds d2 Q) EX
  | _=>False) EX
def MthD (r:V->List V->Hp->VK->Prop) (rD:List PyData->PyData->(PyData->Prop)->Prop):Prop:=∀ (A P:Addr->Prop) (H:Hp) (l:Addr) (y:V) (ds:List PyData) (d2:PyData) (R:PyData->Prop) (Q:VK),DP A P H (.ref l) (.list ds)->DP A P H y d2->rD ds d2 R->(∀ i:Int,R (.int i)->Q (.int i) H)->r (.ref l) [y] H Q
theorem QjV {r:V->List V->Hp->VK->Prop} {rD:List PyData->PyData->(PyData->Prop)->Prop} {wa wb:DE} {K:PySem.W.Frag} (hd:MthD r rD) (σ:L2.St) (H:Hp) (Q:VK) (h:tX .F K E (dMth rD wa wb) σ H Q):tBM K "list" r (tX .P K E wa) (Qca (tX .P K E wb) tNil) σ H Q:=by
  obtain ⟨F,δ,R,EX,rel,hw,k,o⟩:=h
  refine ⟨F,δ,_,EX,rel,hw,fun d1 h1 x H1 rel1 kp1 x1=>?_,o⟩
  cases d1<;>first | exact (show False from h1).elim | skip
  rename_i ds
  obtain ⟨l,xs,rfl,e,q⟩:=DP.list x1
  refine ⟨.inl ⟨rfl,xs,SqL.of e⟩,F,δ,_,EX,rel1,h1,fun d2 h2 y H2 rel2 kp2 y2=>?_,o⟩
  refine hd (Av F σ δ) (PotA σ δ) H2 l y ds d2 R Q (kp2.dp x1) y2 h2 fun i hR=>?_
  exact k _ hR _ H2 rel2 (kp1.trans kp2) ⟨.int i,fun l e1 e2=>nomatch e1⟩
def cntLD (ds:List PyData) (d:PyData) (Q:PyData->Prop):Prop:=(nds ds=true/\nd d=true/\d.depth<=50)/\Q (.int (ds.countP fun e=>PyData.eqv e d:Nat))
theorem md_cnt {u:Nat} (hu:u+60<cLine):MthD (rCnt u) cntLD:=fun A P H l y ds d2 R Q hx hy h k=>by
  obtain ⟨⟨n1,n2,n3⟩,hR⟩:=h
  obtain ⟨l',xs,e0,e,q⟩:=DP.list hx
  cases e0
  exact ⟨l,xs,ds,y,d2,rfl,rfl,e,Qbp _ _ n1 q,hy.dat n2,by omega,k _ hR⟩
theorem q_cnt {o e:Expr} {wo we:DE} {apos cpos:Pos} (hu:X.A.in1.units+60<cLine) (ho:QE .P X E o wo) (he:QE .P X E e we) (hst:notStar e=true:=by rfl) (hbase:attributeBase o "count" X.env (eval o X.env)=eval o X.env:=by rfl) (hfew:((backTo cpos (starEach [e] X.env)).all (fun x => !x.1)&&(backToKw cpos (keywordEach [] X.env)).all (fun x=>x.1.isSome)&&decide ([e].length+([]:List Keyword).length+(if ([]:List Keyword).isEmpty then 0 else 1)<30))=true:=by rfl) (hline:(apos.endLine == cpos.line)=true:=by rfl):QE .F X E (.Call (.Attribute o "count" apos) [e] [] cpos) (dMth cntLD wo we):=
  ⟨PE.imp (QlA PySem.F.plainAttrs_list PySem.F.slot_list_count PySem.F.type_list_count mt_count ho.h (pa_c he.h Qam hst) hbase hfew hline (QaD hst) rfl) (QjV (md_cnt hu))⟩
end
end Dl
namespace Rk
open PySem PySem.Spec PyProof.Rows L2 _root_.Rd Dl Rt
end Rk
namespace Rk
open PySem PySem.Spec PyProof.Rows L2 _root_.Rd
def top (i:Nat):Stmt:=PySem.Challenge.pw_rooklands_k61_what_are_stairs.main.body.getD i (.Pass ⟨0,0,0,0⟩)
abbrev sWhole:Stmt:=top 4
abbrev sWithin:Stmt:=top 5
abbrev sNever:Stmt:=top 6
abbrev sStairs:Stmt:=top 9
abbrev sRefS:Stmt:=top 10
abbrev sSBoard:Stmt:=top 11
abbrev sSOf:Stmt:=top 12
abbrev lCellAt:Stmt:=top 14
abbrev lPot:Stmt:=top 15
abbrev lTake:Stmt:=top 16
abbrev lWhole:Stmt:=top 17
abbrev lSame:Stmt:=top 18
abbrev lBoard:Stmt:=top 19
abbrev lOrder:Stmt:=top 20
abbrev lLed:Stmt:=top 21
abbrev lStairs:Stmt:=top 22
abbrev lSBoard:Stmt:=top 23
abbrev lIsS:Stmt:=top 24
abbrev lBent:Stmt:=top 25
abbrev lSOf:Stmt:=top 26
abbrev lNear:Stmt:=top 27
abbrev sLaw:Stmt:=top 28
section
variable {P:Program} {w:World} {K:PySem.W.Frag} {mg:Str->Option Value} {base:Heap}
theorem Qjd:FnScope ["_law_script", "_law_k"] ["_law_script", "_law_k"] (Qaa lCellAt):=⟨rfl,rfl,rfl,by decide +kernel,rfl,by decide +kernel,by decide +kernel⟩
theorem QhJ {f:Addr} {fd:FuncData} (F:Fun K "_law_cell_at" "_law_cell_at" lCellAt f fd) (T:GlbA mg):FnOk P w K mg base CX0 1 f fd ["_law_script", "_law_k"] (QbV K):=by
  refine F.ok Qjd (fun vs H Q E h=>?_) (fun cdv A outer s H vs Q E hr h=>?_)
  · obtain ⟨a,ns,k,rfl,_⟩:=h
    rfl
  · obtain ⟨a,ns,n,rfl,hs,hl,h0,k⟩:=h
    refine ⟨_,Qaz (Qej (Qch QjM (pv 1) (Qas QaS (by rfl) T.len Qbw (Qag (pv 0) Qam)) (Qay _)) (QaM (Qba (Qjr QdX (pv 0) (pv 1) (fun _ _=>rfl)))) Qbv) (QaM (Qba QaR)),?_⟩
    refine ⟨_,rfl,_,rfl,a,_,rfl,.inl hs,_,_,rfl,rfl,_,rfl,?_⟩
    refine ite2 (fun hlt=>?_) (fun _=>k 0)
    have hlt':n<(ns.map V.int).length:=of_decide_eq_true hlt
    rw [List.length_map] at hlt'
    obtain ⟨j,rfl⟩:=Int.eq_ofNat_of_zero_le h0
    have hj:j<ns.length:=by omega
    refine ⟨_,rfl,_,rfl,a,_,_,.int ns[j],rfl,rfl,hs,Qbh ?_,k _⟩
    rw [List.getElem?_map,List.getElem?_eq_getElem hj];rfl
theorem Qgl:FnScope ["_law_cell", "_law_number", "_law_j", "_law_more"] ["_law_cell"] (Qaa lPot):=⟨rfl,rfl,rfl,by decide +kernel,rfl,by decide +kernel,by decide +kernel⟩
theorem ok_pot {f:Addr} {fd:FuncData} (F:Fun K "_law_pot" "_law_pot" lPot f fd) (T:GlbA mg):FnOk P w K mg base CX0 1 f fd ["_law_cell"] spPot:=by
  refine F.ok Qgl (fun vs H Q E h=>?_) (fun cdv A outer s H vs Q E hr h=>?_)
  · obtain ⟨c,rfl,_⟩:=h
    rfl
  · obtain ⟨c,rfl,k⟩:=h
    refine ⟨_,Qaz (Qej (Qch op_ge (pv 0) (Qbm QkN QaR QaR) (Qay _)) (QaM (Qba (QkL (Qag (Qbm QkM (pv 0) (Qbm QkN QaR QaR)) Qam)))) Qbv)
      (Qaz (Qb0 (i:=1) Qgl.nd rfl (Or.inl rfl) QaR)
      (Qaz (QkG PassesOwn.never rfl (QcZ (by rfl) T.range (Qag QaR Qam)) (Qci (i:=2) Qgl.nd rfl (Or.inl rfl))
        (Qaz (Qb0 (i:=3) Qgl.nd rfl (Or.inl rfl) (Qbm QfF (Qbm Qdv (Qbm Qdw (Qbm Qdw (Qbm QfF (pv 0) QaR) (Qbm Qdv QaR (pv 2))) QaR) QaR) QaR))
        (Qaz (Qb0 (i:=3) Qgl.nd rfl (Or.inl rfl) (Qbm QfF (Qbm Qdw (Qbm Qdw (Qbm Qdv (pv 3) (pv 3)) (Qbm Qdv QaR (pv 2))) QaR) QaR))
        (QaM (Qb0 (i:=1) Qgl.nd rfl (Or.inl rfl) (Qbm Qdw (Qbm Qdv (pv 1) QaR) (pv 3)))))))
      (QaM (Qba (QkL (Qag (pv 1) Qam)))))),?_⟩
    refine ⟨_,rfl,_,_,rfl,rfl,⟨by decide,by decide,by decide⟩,_,_,rfl,rfl,_,rfl,?_⟩
    refine ite2 (fun _=>?_) (fun _=>?_)
    · exact ⟨_,rfl,_,_,rfl,rfl,⟨by decide,by decide,by decide⟩,_,_,rfl,rfl,by show 1<=sizeLine;decide,fun p hp=>k p _ hp⟩
    · refine ⟨64,rfl,by decide,by decide,Qii (n:=64) (fun i σ H2=>∃ n v u,σ=[some (.int c),some (.int n),v,u]/\H2=H) ⟨0,none,none,rfl,rfl⟩ ?_ ?_⟩
      · rintro i σ H2 hi ⟨n,v,u,rfl,rfl⟩
        have b1:=QfZ ((c % 2147483629+7919*(0+(i:Int))+1)*48271) (m:=2147483647) (by decide)
        refine ⟨_,rfl,_,_,rfl,rfl,by show (0:Int)<2147483629;decide,_,rfl,_,_,rfl,rfl,.inl ⟨by decide,by decide⟩,_,_,rfl,rfl,_,_,rfl,rfl,_,_,rfl,rfl,.inr ⟨by decide,by decide⟩,_,_,rfl,rfl,by show (0:Int)<2147483647;decide,?_⟩
        refine ⟨_,rfl,_,rfl,_,_,rfl,rfl,.inl ⟨by omega,by omega⟩,_,rfl,_,_,rfl,rfl,.inl ⟨by decide,by decide⟩,_,_,rfl,rfl,_,_,rfl,rfl,_,_,rfl,rfl,by show (0:Int)<2147483587;decide,?_⟩
        exact ⟨_,rfl,_,_,rfl,rfl,.inr ⟨by decide,by decide⟩,_,rfl,_,_,rfl,rfl,_,_,_,rfl,rfl⟩
      · rintro σ H2 ⟨n,v,u,rfl,rfl⟩
        exact ⟨_,rfl,by show 1<=sizeLine;decide,fun p hp=>k p _ hp⟩
theorem Qkz:FnScope ["_law_pot_here", "_law_far", "_law_found"] ["_law_pot_here", "_law_far"] (Qaa lTake):=⟨rfl,rfl,rfl,by decide +kernel,rfl,by decide +kernel,by decide +kernel⟩
theorem QhC {f:Addr} {fd:FuncData} (F:Fun K "_law_take" "_law_take" lTake f fd) (T:GlbA mg):FnOk P w K mg base CX0 1 f fd ["_law_pot_here", "_law_far"] QdI:=by
  refine F.ok Qkz (fun vs H Q E h=>?_) (fun cdv A outer s H vs Q E hr h=>?_)
  · obtain ⟨p,n,m,rfl,_⟩:=h
    rfl
  · obtain ⟨p,n,m,rfl,hp,h0,h1,k⟩:=h
    refine ⟨_,Qaz (Qb0 (i:=2) Qkz.nd rfl (Or.inl rfl) (Qbm QfF (Qjr QdX (pv 0) QaR (fun _ _=>rfl)) (pv 1)))
      (Qaz (Qhj (Qbm QjO (Qjr QdX (pv 0) QaR (fun _ _=>rfl)) (pv 1)) (QkJ (pv 0) QaR Qfx))
      (QaM (Qba (pv 2)))),?_⟩
    have b:=QfZ n h0
    exact ⟨_,rfl,p,_,_,_,rfl,rfl,SqL.of hp,rfl,_,rfl,_,_,rfl,rfl,h0,_,rfl,p,_,_,_,rfl,rfl,SqL.of hp,rfl,_,rfl,_,_,rfl,rfl,⟨h0,h1⟩,_,rfl,p,_,_,_,rfl,rfl,hp,rfl,_,rfl,k _ _ b.1 b.2⟩
end
end Rk
namespace Rk
open PySem PySem.Spec PyProof.Rows L2 _root_.Rd
open Dl
open Rt
def Qfv:Sp:=fun vs H Q _=>∃ p n m,vs=[.ref p,.int m]/\H p=some (.lst [.int n])/\1<=m/\m<=6/\∀ t (o:List Int) H' n',KX p H H'->H' p=some (.lst [.int n'])->t≠p->H' t=some (.tup (o.map V.int))->o.Perm (Qcx m.toNat)->Q (.ref t) H'
theorem Qew {α β:Type} (f:α->β):∀ (xs:List α) (k:Nat),(xs.map f).eraseIdx k=(xs.eraseIdx k).map f
  | [],k=>by cases k<;>rfl
  | x::xs,0=>rfl
  | x::xs,k+1=>by
    show f x::(xs.map f).eraseIdx k=f x::(xs.eraseIdx k).map f
    rw [Qew f xs k]
theorem Qdz {α:Type}:∀ (xs:List α) (k:Nat) (d:α),k<xs.length->(xs.getD k d::xs.eraseIdx k).Perm xs
  | [],k,d,h=>absurd h (Nat.not_lt_zero _)
  | x::xs,0,d,h=>List.Perm.refl _
  | x::xs,k+1,d,h=>by
    have ih:=Qdz xs k d (by simpa using h)
    show (xs.getD k d::x::xs.eraseIdx k).Perm (x::xs)
    exact (List.Perm.swap _ _ _).trans (ih.cons x)
theorem Qk6 {vs:List V} {H:Hp} {Q:VK} {E:XK} (h:QeX vs H Q E):QdI vs H Q E:=by
  obtain ⟨p,n,f,rfl,hp,h0,h1,k⟩:=h
  exact ⟨p,n,f,rfl,hp,h0,Int.le_trans (Int.le_of_lt h1) (by decide),fun r m r0 r1=>k r _ m KX.upd Qad r0 r1⟩
def Qfc:DF:=fun args R _=>∃ m:Int,args=[.pot,.v (.int m)]/\1<=m/\m<=6/\∀ o:List Int,o.Perm (Qcx m.toNat)->R (tN o)
theorem QlY {vs:List V} {H:Hp} {Q:VK} {Ex:XK} (h:toSp false Qfc vs H Q Ex):Qfv vs H Q Ex:=by
  obtain ⟨A,pt,args,R,EX,dm,hp,q,⟨m,rfl,m1,m6,hR⟩,k,_⟩:=h
  cases q with
  | cons q1 q2=>cases q2 with
    | cons q2 q3=>
      cases q3
      obtain ⟨p,rfl,pp⟩:=q1
      cases q2
      obtain ⟨pA,n,e⟩:=hp p pp
      refine ⟨p,n,m,rfl,e,m1,m6,fun t o H' n' kx ep ne et po=>k _ (hR o po) _ _ ⟨fun b u nb eb=>kx b u (fun z=>nb (by rw [z];exact pp)) eb,fun z hz=>?_⟩ (.tup (fun z=>?_) et (QcL o)) fun h=>by cases h⟩
      · by_cases y:z=p
        · rw [y];exact ⟨n',ep⟩
        · obtain ⟨_,n2,e'⟩:=hp z hz
          exact ⟨n2,kx z _ y e'⟩
      · obtain ⟨xs,e'⟩:=dm t z
        rw [kx t _ ne e'] at et
        cases et
section
variable {P:Program} {w:World} {K:PySem.W.Frag} {mg:Str->Option Value} {base:Heap}
theorem Qgs:(["_law_turn", "_law_left", "_law_pot_here"]:List Str).Nodup:=by decide +kernel
theorem Qef:FnScope ["_law_pot_here", "_law_many", "_law_left"] ["_law_pot_here", "_law_many"] (Qaa lOrder):=⟨rfl,rfl,rfl,by decide +kernel,rfl,by decide +kernel,by decide +kernel⟩
theorem QhG {f f1  : Addr} {fd fd1:FuncData} (F:Fun K "_law_order" "_law_order" lOrder f fd) (T:GlbA mg)
    (m1:mg "_law_take" = some (.ref f1)) (G1:FnOk P w K mg base CX0 1 f1 fd1 ["_law_pot_here", "_law_far"] QeX) (b1:Binds K fd1 ["_law_pot_here", "_law_far"] []) (k1:PySem.W.keepIn K (.ref f1)=true) :
    FnOk P w K mg base CX0 2 f fd ["_law_pot_here", "_law_many"] Qfv:=by
  refine F.ok Qef (fun vs H Q E h=>?_) (fun cdv A outer s H vs Q E hr h=>?_)
  · obtain ⟨p,n,m,rfl,_⟩:=h
    rfl
  · obtain ⟨p,n,m,rfl,hp,hm1,hm6,k⟩:=h
    have un:=hr.units
    refine ⟨_,Qaz (Qb0 (i:=2) Qef.nd rfl (by first | exact Or.inl rfl | exact Or.inr rfl) (Qb1 (Qfm rfl) (by rfl) T.list Qdg (Qag (Qjq (by rfl) T.range (Qag (pv 1) Qam)) Qam)))
      (QaM (Qba (Qb1 Qb8 (by rfl) T.tuple QaC (Qag (QdS (M:=["_law_turn", "_law_left", "_law_pot_here"]) (cap:=[none,some 2,some 0]) (g:=(QcG 0)) (tc:=QcS) (te:=(tBM K "list" QkD (tVar 1) (Qca (Qi4 QeX [] E0 (Qca (tVar 2) (Qca (tCB (Qlm K) (Qca (tVar 1) tNil)) tNil))) tNil))) rfl (by rfl) (QcZ (by rfl) T.range (Qag (pv 1) Qam)) (fun cl ex s3 H3 C=>⟨(Qci (i:=0) Qgs rfl (Or.inl rfl) (Or.inr rfl)),Qe6,(QlA PySem.F.plainAttrs_list PySem.F.slot_list_pop PySem.F.type_list_pop QjW (pv 1) (Qag (Qck G1 (hr.mono (by decide)) (by rfl) m1 k1 b1 .nil QlW (Qag (pv 2) (Qag (Qas QaS (by rfl) T.len Qbw (Qag (pv 1) Qam)) Qam))) Qam))⟩)) Qam)))),?_⟩
    refine ⟨_,rfl,m,rfl,fun r H1 s1 n1 e1=>⟨r,m,rfl,e1,by omega,by omega,fun l H2 s2 n2 e2=>?_⟩⟩
    have p2:=s2 _ _ (s1 _ _ hp)
    have nlp:l≠p:=QjT (s1 _ _ hp) n2
    have el:H2 l=some (.lst ((Qcx m.toNat).map V.int)):=by
      rw [e2]
      unfold Qcx
      rw [List.map_map]
      rfl
    have nHl:H l=none:=s1.free n2
    refine ⟨_,rfl,m,rfl,by omega,by omega,fun pl hpl=>?_⟩
    have npl:pl≠p:=QjT p2 hpl
    have npll:pl≠l:=QjT el hpl
    refine Qc4 m.toNat (fun j H4=>∃ (n'':Int) (fs ls:List Int),H4 p=some (.lst [.int n''])/\H4 pl=some (.lst (fs.map V.int))/\H4 l=some (.lst (ls.map V.int))/\(fs++ls).Perm (Qcx m.toNat)/\fs.length=j/\KX p H H4)
      ⟨n,[],Qcx m.toNat,Qab hpl _ _ p2,Qad,Qab hpl _ _ el,List.Perm.refl _,rfl,KX.of ((s1.trans s2).trans (Qab hpl))⟩ (fun j H4 hj ⟨n'',fs,ls,p4,f4,l4,pm,lf,x4⟩=>?_) fun H4 ⟨n'',fs,ls,p4,f4,l4,pm,lf,x4⟩=>⟨by show _<=_;omega,?_⟩
    · have hlen:=pm.length_eq
      rw [List.length_append,Qcd] at hlen
      refine ⟨by show j<_;omega,fun x H5 ⟨eH,ev⟩ kk hk=>?_⟩
      subst eH ev
      refine ⟨⟨rfl,rfl,trivial⟩,Qmc ?_⟩
      refine ⟨_,rfl,.inl ⟨rfl,_,SqL.of l4⟩,_,rfl,_,rfl,l,_,rfl,.inl (SqL.of l4),p,n'',_,rfl,p4,by rw [List.length_map];omega,by rw [List.length_map];omega,fun r H6 n6 x6 p6 r0 r1=>?_⟩
      rw [List.length_map] at r1
      obtain ⟨k',rfl⟩:=Int.eq_ofNat_of_zero_le r0
      have hk':k'<ls.length:=by omega
      have l6:=x6 _ _ nlp l4
      have f6:=x6 _ _ npl f4
      refine ⟨l,ls.map V.int,_,k',.int (ls.getD k' 0),rfl,rfl,l6,by omega,by omega,?_,?_,?_⟩
      · rw [List.length_map]
        exact seqIndex_of (by omega) (by omega)
      · rw [List.getElem?_map,List.getD_eq_getElem?_getD,List.getElem?_eq_getElem hk']
        rfl
      · refine ⟨fs.map V.int,?_,?_,?_⟩
        · rw [Qai npll];exact f6
        · rw [List.length_map];exact Qmk (by omega)
        · refine hk _ ⟨n6,fs++[ls.getD k' 0],ls.eraseIdx k',?_,?_,?_,?_,?_,?_⟩
          · rw [Qai npl.symm,Qai nlp.symm];exact p6
          · rw [Qad,List.map_append];rfl
          · rw [Qai npll.symm,Qad,Qew]
          · rw [List.append_assoc]
            exact ((Qdz ls k' 0 hk').append_left fs).trans pm
          · rw [List.length_append,lf];rfl
          · intro b o nb eb
            rw [Qai (Qat eb ((s1.trans s2).free hpl)),Qai (Qat eb nHl)]
            exact x6 b o nb (x4 b o nb eb)
    · have hlen:=pm.length_eq
      rw [List.length_append,Qcd] at hlen
      have els:ls=[]:=List.length_eq_zero_iff.mp (by omega)
      rw [els,List.append_nil] at pm
      refine ⟨pl,_,rfl,.inl ⟨SqL.of f4,fun t ht=>?_⟩⟩
      have s5:=Qab (o:=.tup (fs.map V.int)) ht
      exact k t fs _ n'' (x4.trans (KX.of s5)) (s5 _ _ p4) (QjT p4 ht) Qad pm
end
def lb2D:DF:=fun args R _=>∃ h w:Nat,args=[.pot,.v (.int h),.v (.int w)]/\h<=6/\w<=6/\∀ f:Nat->Nat->Bool,R (bdD h w (Qa0 h w f))
def colC (w:Nat) (cs:List (Int×Int)):List Int:=(List.range w).map fun (c:Nat)=>(((cs.map (·.2)).count (c:Int):Nat):Int)
def sofR (h w:Int) (cs:List (Int×Int)):PyData:=if (QaT (tI (colC w.toNat cs))&&PyData.eqv (sBd (colC w.toNat cs)) (bdD h w cs))=true then tI (colC w.toNat cs) else .none
structure GdB (w:Int) (cs:List (Int×Int)):Prop where
  w0:0<=w
  w6:w<=6
  cl:cs.length<=100
  bd:∀ p∈cs,0<=p.2/\p.2<w
def sofD:DF:=fun args R _=>∃ (h w:Int) (cs:List (Int×Int)),args=[.v (bdD h w cs)]/\GdB w cs/\R (sofR h w cs)
def QhZ:DF:=fun args R _=>∃ ns:List Int,args=[.pot,.v (tI ns)]/\Stairs ns/\∀ d,QbX d->R d
def Qj1:DF:=fun args R _=>∃ d,args=[.v d]/\QbX d/\R (.bool (QaT d))
def QhX:DF:=fun args R _=>∃ ns:List Int,args=[.pot,.v (sBd ns)]/\Stairs ns/\∀ (h w:Int) (cs:List (Int×Int)),GdB w cs->R (bdD h w cs)
def ledC (cs:List (Int×Int)) (cols:List Int) (r:Nat) (row:Int):List (Int×Int):=((List.range cols.length).filter fun c=>decide ((row,cols.getD c 0)∈cs)).map fun (c:Nat)=>((r:Int),(c:Int))
def ledL (cs:List (Int×Int)) (rows cols:List Int):List (Int×Int):=(List.range rows.length).flatMap fun r=>ledC cs cols r (rows.getD r 0)
def ledG (cs:List (Int×Int)) (r:Int) (i:Nat):PyData->Option PyData
  | .tuple [.int c,.int col]=>if (r,col)∈cs then some (pairD ((i:Int),c)) else none
  | _=>none
theorem led_fm (cs:List (Int×Int)) (cols:List Int) (i:Nat) (r:Int):(Qdk (cols.map PyData.int)).filterMap (ledG cs r i)=(ledC cs cols i r).map pairD:=by
  unfold Qdk ledC
  rw [List.filterMap_map,List.length_map,List.map_map]
  have key:∀ l:List Nat,(∀ j∈l,j<cols.length)->l.filterMap (ledG cs r i∘fun (j:Nat)=>PyData.tuple [PyData.int j,(cols.map PyData.int).getD j .none])=(l.filter fun c=>decide ((r,cols.getD c 0)∈cs)).map (pairD∘fun (c:Nat)=>((i:Int),(c:Int))):=fun l=>by
    induction l with
    | nil=>intro _;rfl
    | cons j l ih=>
      intro hl
      have hj:=hl j (.head _)
      have e:(cols.map PyData.int).getD j .none=PyData.int (cols.getD j 0):=by
        rw [List.getD_eq_getElem?_getD,List.getElem?_map,List.getD_eq_getElem?_getD,List.getElem?_eq_getElem hj];rfl
      have e2:(ledG cs r i∘fun (j:Nat)=>PyData.tuple [PyData.int j,(cols.map PyData.int).getD j .none]) j=if (r,cols.getD j 0)∈cs then some (pairD ((i:Int),(j:Int))) else none:=by
        show ledG cs r i (PyData.tuple [PyData.int j,(cols.map PyData.int).getD j .none])=_
        rw [e];rfl
      rw [List.filterMap_cons,e2]
      by_cases z:(r,cols.getD j 0)∈cs
      · rw [if_pos z,List.filter_cons_of_pos (by simpa using z),List.map_cons,ih fun k hk=>hl k (.tail _ hk)];rfl
      · rw [if_neg z,List.filter_cons_of_neg (by simpa using z),ih fun k hk=>hl k (.tail _ hk)]
  exact key _ fun j hj=>List.mem_range.mp hj
theorem QfO (cs:List (Int×Int)) (cols:List Int) (i:Nat) (r:Int):(ledC cs cols i r).length<=cols.length:=by
  unfold ledC
  rw [List.length_map]
  have:=List.length_filter_le (fun c=>decide ((r,cols.getD c 0)∈cs)) (List.range cols.length)
  rw [List.length_range] at this
  exact this
theorem QdW (cs:List (Int×Int)) (cols:List Int) (g:Nat->Int):∀ n,((List.range n).flatMap fun r=>ledC cs cols r (g r)).length<=n*cols.length
  | 0=>by simp
  | n+1=>by
    rw [List.range_succ,List.flatMap_append,List.length_append]
    have h1:=QdW cs cols g n
    have h2:=QfO cs cols n (g n)
    have h3:([n].flatMap fun r=>ledC cs cols r (g r)).length=(ledC cs cols n (g n)).length:=by simp
    rw [h3,Nat.add_mul]
    omega
def Qmj:DF:=fun args R _=>∃ (h w:Int) (cs:List (Int×Int)) (rows cols:List Int),args=[.v (bdD h w cs),.v (tN rows),.v (tN cols)]/\rows.length<=6/\cols.length<=6/\R (bdD h w (ledL cs rows cols))
section
variable {P:Program} {w:World} {K:PySem.W.Frag} {mg:Str->Option Value} {base:Heap}
theorem Qi9:FnScope ["thing"] ["thing"] (Qaa sWhole):=⟨rfl,rfl,rfl,by decide +kernel,rfl,by decide +kernel,by decide +kernel⟩
theorem QjP {f   : Addr} {fd  : FuncData} (F:Fun K "is_whole" "is_whole" sWhole f fd) (T:GlbA mg) :
    FnOk P w K mg base CX0 1 f fd ["thing"] (toSp false wholeD):=by
  refine okQ false F Qi9 (fun args R EX h=>?_) (fun cdv A outer s H E hr=>?_)
  · obtain ⟨d,rfl,_⟩:=h
    rfl
  · have hU:=Room.u60 hr
    have hI:=Room.i60 hr
    refine ⟨_,Qah (QaW (Qe5 (Qaf (QcY .int (by rfl) T.isinstance (qp 0) (by rfl) T.int QeL)) (Qe3 (q_not (Qaf (QcY .bool (by rfl) T.isinstance (qp 0) (by rfl) T.bool Qct)))))),fun args R EX h=>?_⟩
    obtain ⟨d,rfl,hR⟩:=h
    cases d<;>exact hR
theorem Qg5:FnScope ["_law_found"] ["_law_found"] (Qaa lWhole):=⟨rfl,rfl,rfl,by decide +kernel,rfl,by decide +kernel,by decide +kernel⟩
theorem QhH {f   : Addr} {fd  : FuncData} (F:Fun K "_law_whole" "_law_whole" lWhole f fd) (T:GlbA mg) :
    FnOk P w K mg base CX0 1 f fd ["_law_found"] (toSp false wholeD):=by
  refine okQ false F Qg5 (fun args R EX h=>?_) (fun cdv A outer s H E hr=>?_)
  · obtain ⟨d,rfl,_⟩:=h
    rfl
  · have hU:=Room.u60 hr
    have hI:=Room.i60 hr
    refine ⟨_,Qah (QaW (Qe5 (Qaf (QcY .int (by rfl) T.isinstance (qp 0) (by rfl) T.int QeL)) (Qe3 (q_not (Qaf (QcY .bool (by rfl) T.isinstance (qp 0) (by rfl) T.bool Qct)))))),fun args R EX h=>?_⟩
    obtain ⟨d,rfl,hR⟩:=h
    cases d<;>exact hR
theorem Qg2:FnScope ["thing", "least", "most"] ["thing", "least", "most"] (Qaa sWithin):=⟨rfl,rfl,rfl,by decide +kernel,rfl,by decide +kernel,by decide +kernel⟩
theorem QhA {f f1  : Addr} {fd fd1:FuncData} (F:Fun K "is_whole_within" "is_whole_within" sWithin f fd) (T:GlbA mg)
    (m1:mg "is_whole" = some (.ref f1)) (G1:FnOk P w K mg base CX0 1 f1 fd1 ["thing"] (toSp false wholeD)) (b1:Binds K fd1 ["thing"] []) (k1:PySem.W.keepIn K (.ref f1)=true) :
    FnOk P w K mg base CX0 2 f fd ["thing", "least", "most"] (toSp false QeU):=by
  refine okQ false F Qg2 (fun args R EX h=>?_) (fun cdv A outer s H E hr=>?_)
  · obtain ⟨d,a,b,rfl,_⟩:=h
    rfl
  · have hU:=Room.u60 hr
    have hI:=Room.i60 hr
    refine ⟨_,Qah (QaW (Qe5 (Qal (Qaw G1 (hr.mono (by decide)) (by rfl) m1 k1 b1 Qav (qs_v (qv 0) Qaj))) (Qe3 (Qao (q_ch Qem Qem (qp 1) (qp 0) (qp 2)))))),fun args R EX h=>?_⟩
    obtain ⟨d,a,b,rfl,hR⟩:=h
    refine ⟨d,rfl,?_⟩
    cases d with
    | int i=>exact iteT (and_if hR)
    | _=>exact hR
theorem Qeq:(["one", "other"]:List Str).Nodup:=by decide +kernel
theorem Qjb:FnScope ["things"] ["things"] (Qaa sNever):=⟨rfl,rfl,rfl,by decide +kernel,rfl,by decide +kernel,by decide +kernel⟩
theorem QjR {f   : Addr} {fd  : FuncData} (F:Fun K "is_never_falling" "is_never_falling" sNever f fd) (T:GlbA mg) :
    FnOk P w K mg base CX0 1 f fd ["things"] (toSp false QhN):=by
  refine okQ false F Qjb (fun args R EX h=>?_) (fun cdv A outer s H E hr=>?_)
  · obtain ⟨ns,rfl,_⟩:=h
    rfl
  · have hU:=Room.u60 hr
    have hI:=Room.i60 hr
    refine ⟨_,Qah (Qbl (QaB QcP (QiG rfl) (by rfl) T.all Qgc (qa_P (Qaf (QbZ ["one", "other"] [none,none] (Qlr (by rfl) T.zip (qp 0) (Qaf (Qcg (qp 0) (Qce (Qal Qak)) Qcf))) (fun cl ex s3 H3 C=>⟨(Qcz rfl (QaE 0 (QaE 1 QcA Qeq rfl (Or.inl rfl) (Or.inr rfl)) Qeq rfl (Or.inl rfl) (Or.inr rfl))),QbM,(Qao (Qe4 Qem Qc0 (qp 0) (qp 1) (Qay _)))⟩))) Qae))),fun args R EX h=>?_⟩
    obtain ⟨ns,rfl,hR⟩:=h
    refine QeE (fun d=>.bool (leP2 d)) (fun d hd k2 hk=>?_) (Qfo (items:=zipD (ns.map PyData.int) (Dl.cutD (ns.map PyData.int) (some 1) none)) rfl (by rw [Qks];exact hR))
    obtain ⟨i,hi⟩:=List.mem_iff_getElem?.mp hd
    obtain ⟨a,b,ha,hb,rfl⟩:=Dl.zip_get hi
    obtain ⟨x,_,rfl⟩:=List.mem_map.mp (List.mem_of_getElem? ha)
    obtain ⟨y,_,rfl⟩:=List.mem_map.mp (Qki (List.mem_of_getElem? hb))
    exact ⟨rfl,hk⟩
theorem Qgr:(["part"]:List Str).Nodup:=by decide +kernel
theorem Qg3:FnScope ["thing"] ["thing"] (Qaa sStairs):=⟨rfl,rfl,rfl,by decide +kernel,rfl,by decide +kernel,by decide +kernel⟩
theorem QhD {f f1 f2  : Addr} {fd fd1 fd2:FuncData} (hA:∃ t,mg "MOST_LINES" = some (.int 6 t)) (F:Fun K "is_stairs" "is_stairs" sStairs f fd) (T:GlbA mg)
    (m1:mg "is_whole_within" = some (.ref f1)) (G1:FnOk P w K mg base CX0 2 f1 fd1 ["thing", "least", "most"] (toSp false QeU)) (b1:Binds K fd1 ["thing", "least", "most"] []) (k1:PySem.W.keepIn K (.ref f1)=true)
    (m2:mg "is_never_falling" = some (.ref f2)) (G2:FnOk P w K mg base CX0 1 f2 fd2 ["things"] (toSp false QhN)) (b2:Binds K fd2 ["things"] []) (k2:PySem.W.keepIn K (.ref f2)=true) :
    FnOk P w K mg base CX0 3 f fd ["thing"] (toSp false QcT):=by
  refine okQ false F Qg3 (fun args R EX h=>?_) (fun cdv A outer s H E hr=>?_)
  · obtain ⟨d,rfl,_⟩:=h
    rfl
  · obtain ⟨tA,mA⟩:=hA
    have hU:=Room.u60 hr
    have hI:=Room.i60 hr
    refine ⟨_,Qac (QcF (q_pw (Qhb (QbJ (QbI (Qaf (QcY .tuple (by rfl) T.isinstance (qp 0) (by rfl) T.tuple QaC)))) (QfB (QbJ (qt_ch Qem Qem (Qal Qak) (Qaf (QaB Qbj QdC (by rfl) T.len Qbw (qa_P (qp 0) Qae))) (Qal (QkE 6 (by rfl) mA ⟨_,rfl⟩))))))) (Qah (QaW q_bl)) Qa1)
      (Qah (QaW (Qe5 (Qaf (QaB QcP (QiG rfl) (by rfl) T.all Qgc (qa_P (Qaf (QbZ ["part"] [none] (QfC (qp 0)) (fun cl ex s3 H3 C=>⟨(Qa2 0 Qgr rfl (Or.inl rfl) (Or.inr rfl)),QbM,(Qaw G1 (hr.mono (by decide)) (by rfl) m1 k1 b1 Qav (qs_v (qv 0) (qs_v Qak (qs_v (QkE 6 (by rfl) mA ⟨_,rfl⟩) Qaj))))⟩))) Qae))) (Qe3 (Qaw G2 (hr.mono (by decide)) (by rfl) m2 k2 b2 Qav (qs_v (qv 0) Qaj)))))),fun args R EX h=>?_⟩
    obtain ⟨d,rfl,hR⟩:=h
    cases d with
    | tuple ds=>
      have hR:R (.bool ((decide ((1:Int)<=ds.length)&&decide ((ds.length:Int)<=6))&&(ds.all (fun d=>inW d 0 6)&&nfI (ds.map toI)))):=hR
      refine ifC (fun z1=>?_) fun z1=>?_
      · rw [show decide ((1:Int)<=ds.length)=true from z1,Bool.true_and] at hR
        show if (!decide ((ds.length:Int)<=6))=true then _ else _
        cases z2:decide ((ds.length:Int)<=6) with
        | false=>rw [z2] at hR;exact hR
        | true=>
          rw [z2,Bool.true_and] at hR
          refine QeE (fun d=>.bool (inW d 0 6)) (fun d hd k2 hk=>⟨_,_,_,rfl,hk⟩) (Qfo (items:=ds) rfl ?_)
          refine QmK hR fun ha hR=>⟨ds.map toI,?_,hR⟩
          rw [tI,<- (QfT ha).1]
      · rw [show decide ((1:Int)<=ds.length)=false from z1] at hR
        exact hR
    | _=>exact hR
theorem Qja:FnScope ["stairs"] ["stairs"] (Qaa sRefS):=⟨rfl,rfl,rfl,by decide +kernel,rfl,by decide +kernel,by decide +kernel⟩
theorem QjQ {f f1  : Addr} {fd fd1:FuncData} (F:Fun K "refuse_no_stairs" "refuse_no_stairs" sRefS f fd) (T:GlbA mg)
    (m1:mg "is_stairs" = some (.ref f1)) (G1:FnOk P w K mg base CX0 3 f1 fd1 ["thing"] (toSp false QcT)) (b1:Binds K fd1 ["thing"] []) (k1:PySem.W.keepIn K (.ref f1)=true) :
    FnOk P w K mg base CX0 4 f fd ["stairs"] (toSp false Qlk):=by
  refine okQ false F Qja (fun args R EX h=>?_) (fun cdv A outer s H E hr=>?_)
  · obtain ⟨ns,rfl,_⟩:=h
    rfl
  · have hU:=Room.u60 hr
    have hI:=Room.i60 hr
    refine ⟨_,Qah (QcF (QbJ (QbI (Qal (Qaw G1 (hr.mono (by decide)) (by rfl) m1 k1 b1 Qav (qs_v (qv 0) Qaj))))) Qhd Qa1),fun args R EX h=>?_⟩
    obtain ⟨ns,rfl,hs,hR⟩:=h
    refine ⟨_,rfl,?_⟩
    rw [QcI hs]
    exact hR
theorem Qcn:(["row", "column", "many", "stairs"]:List Str).Nodup:=by decide +kernel
theorem QcV:FnScope ["stairs", "high", "cells"] ["stairs"] (Qaa sSBoard):=⟨rfl,rfl,rfl,by decide +kernel,rfl,by decide +kernel,by decide +kernel⟩
theorem QhE {f f1  : Addr} {fd fd1:FuncData} (F:Fun K "stair_board" "stair_board" sSBoard f fd) (T:GlbA mg)
    (m1:mg "refuse_no_stairs" = some (.ref f1)) (G1:FnOk P w K mg base CX0 4 f1 fd1 ["stairs"] (toSp false Qlk)) (b1:Binds K fd1 ["stairs"] []) (k1:PySem.W.keepIn K (.ref f1)=true) :
    FnOk P w K mg base CX0 5 f fd ["stairs"] (toSp false sb0D):=by
  refine okQ false F QcV (fun args R EX h=>?_) (fun cdv A outer s H E hr=>?_)
  · obtain ⟨ns,rfl,_⟩:=h
    rfl
  · have hU:=Room.u60 hr
    have hI:=Room.i60 hr
    refine ⟨_,Qac (Qlq (Qal (Qaw G1 (hr.mono (by decide)) (by rfl) m1 k1 b1 Qav (qs_v (qv 0) Qaj))))
      (Qac (QaP 1 (Qao (QaB (Qdf rfl) Qf9 (by rfl) T.max Qgb (qa_P (Qal (q_ix Qbd Qb2 (qp 0) (Qaf (Qjk (Qal Qak))) (fun _ _=>rfl))) (qa_P (Qal Qak) Qae)))) QcV.nd)
      (Qac (Qjj ["row", "column", "many", "stairs"] [none,none,none,some 0] 2 QcV.nd (Qka 0) (Qbu (by rfl) T.range (qp 1)) (fun cl ex s3 H3 C=>⟨(Qa2 0 Qcn rfl (Or.inl rfl) (Or.inr rfl)),QbM,(QcJ (by rfl) T.enumerate (qv 3)),(Qcz rfl (QaE 1 (QaE 2 QcA Qcn rfl (Or.inl rfl) (Or.inr rfl)) Qcn rfl (Or.inl rfl) (Or.inr rfl))),(QdO (Qbr QjM Qc0 (qp 0) (qp 2) (Qay _))),(Qao (QaU (qa_D (qv 0) (qa_D (qv 1) Qae))))⟩))
      (Qah (Qbl (QaU (qa_D (qv 1) (qa_D (Qao (QaB Qbj QdC (by rfl) T.len Qbw (qa_P (qp 0) Qae))) (qa_D (Qao (QaL Qar Qa6 (by rfl) T.tuple QaC (qa_P (qp 2) Qae))) Qae)))))))),fun args R EX h=>?_⟩
    obtain ⟨ns,rfl,hs,hR⟩:=h
    have hh:=Qjf hs
    have h6:=hs.l6
    refine ⟨_,rfl,hs,_,Qh2 hs.l1,QhV sH_hi ⟨⟨by omega,by omega⟩,QmF (Qli ns) 36 ?_ (fun d hd acc N hb hN=>?_) ?_⟩⟩
    · rw [QfA,List.length_map]
      exact QcU hs
    · obtain ⟨i,hi⟩:=List.mem_iff_getElem?.mp hd
      obtain ⟨hi,rfl⟩:=QcX hi
      have er:Qli ns (.int (0+(i:Int)))=(Qdk (ns.map PyData.int)).filterMap (rowG (i:Int)):=by
        rw [QfY]
        show (rowF (0+(i:Int)).toNat ns.length (stF ns)).map pairD=_
        rw [show (0+(i:Int)).toNat=i by omega]
      refine in_fm (rowG (i:Int)) ?_ (fun d hd k1 k2 h1 h2=>?_) (by rw [<- er];exact hN)
      · rw [QcN,List.length_map]
        exact Nat.lt_of_le_of_lt (show acc.length+ns.length<=42 by omega) (by decide)
      · obtain ⟨c,hc⟩:=List.mem_iff_getElem?.mp hd
        obtain ⟨e,he,rfl⟩:=Qb5 hc
        obtain ⟨m,_,rfl⟩:=List.mem_map.mp (List.mem_of_getElem? he)
        have h1:(if (i:Int)<m then some (pairD ((i:Int),(c:Int))) else none)=none->k1:=h1
        have h2:∀ e,(if (i:Int)<m then some (pairD ((i:Int),(c:Int))) else none)=some e->k2 e:=h2
        refine ⟨rfl,?_⟩
        show if decide (0+(i:Int)<m)=true then k2 (.tuple [.int (0+(i:Int)),.int (c:Int)]) else k1
        rw [show (0:Int)+(i:Int)=(i:Int) by omega]
        by_cases z:(i:Int)<m
        · rw [if_pos (decide_eq_true z)];exact h2 _ (if_pos z)
        · rw [if_neg (by simpa using z)];exact h1 (if_neg z)
    · rw [QfA,Int.toNat_natCast]
      have hR:R (.tuple [.int (sH ns),.int ns.length,.tuple ((stC ns).map pairD)]):=hR
      rw [<- List.length_map (f:=PyData.int)] at hR
      exact hR
theorem QaO:FnScope ["_law_pot_here", "_law_columns", "_law_most", "_law_found", "_law_least", "_law_column", "_law_step"] ["_law_pot_here", "_law_columns", "_law_most"] (Qaa lStairs):=⟨rfl,rfl,rfl,by decide +kernel,rfl,by decide +kernel,by decide +kernel⟩
theorem Qgp {f f1  : Addr} {fd fd1:FuncData} (F:Fun K "_law_stairs" "_law_stairs" lStairs f fd) (T:GlbA mg)
    (m1:mg "_law_take" = some (.ref f1)) (G1:FnOk P w K mg base CX0 1 f1 fd1 ["_law_pot_here", "_law_far"] (toSp true takeD)) (b1:Binds K fd1 ["_law_pot_here", "_law_far"] []) (k1:PySem.W.keepIn K (.ref f1)=true) :
    FnOk P w K mg base CX0 2 f fd ["_law_pot_here", "_law_columns", "_law_most"] (toSp false QdU):=by
  refine okQ false F QaO (fun args R EX h=>?_) (fun cdv A outer s H E hr=>?_)
  · obtain ⟨n,rfl,_⟩:=h
    rfl
  · have hU:=Room.u60 hr
    have hI:=Room.i60 hr
    refine ⟨_,Qac (QaP 3 (Qao (QaU Qae)) QaO.nd)
      (Qac (QaP 4 Qak QaO.nd)
      (Qac (Qcy PassesOwn.never rfl (Qbu (by rfl) T.range (qp 1)) (Qa2 5 QaO.nd rfl (by first | exact Or.inl rfl | exact Or.inr rfl))
        (Qac (QaP 6 (Qao (QaI G1 (hr.mono (by decide)) (by rfl) m1 k1 b1 Qav (QaG 0 (qs_v Qak Qaj)))) QaO.nd)
      (Qac (QcF (Qbr QcB (Qen hU) (Qaf (QaI G1 (hr.mono (by decide)) (by rfl) m1 k1 b1 Qav (QaG 0 (qs_v Qak Qaj)))) (Qal Qak) (Qay _)) (Qah (QaP 6 (Qao (QaI G1 (hr.mono (by decide)) (by rfl) m1 k1 b1 Qav (QaG 0 (qs_v (Qao (Qbg QaF QaX (qp 2) (Qal Qak))) Qaj)))) QaO.nd)) Qa1)
      (Qac (QaP 4 (Qao (QaB (Qde rfl) Qf8 (by rfl) T.min Qga (qa_P (qp 2) (qa_P (Qaf (Qbg QaF QaX (qp 4) (Qaf (Qbg Qhy QkP (qp 6) (Qaf (QaL QiK cd_int (by rfl) T.int QeL (qa_P (Qal (q_or (Qaf (Qe4 op_gt Qc0 (qp 5) (Qal Qak) (Qay _))) (Qe3 (Qao (Qe4 QcB (Qen hU) (Qaf (QaI G1 (hr.mono (by decide)) (by rfl) m1 k1 b1 Qav (QaG 0 (qs_v Qak Qaj)))) (Qal Qak) (Qay _)))))) Qae))))))) Qae)))) QaO.nd)
      (Qah (QaP 3 (Qao (Qbg QaF QaX (qp 3) (Qaf (QaU (qa_D (qv 4) Qae))))) QaO.nd))))))
      (Qah (QaW (qv 3))))),fun args R EX h=>?_⟩
    obtain ⟨n,rfl,n1,n6,hR⟩:=h
    refine ⟨⟨by omega,by omega⟩,Qd0 (fun i δ=>∃ ns x4 x5 x6,δ=[.pot,.v (.int n),.v (.int 6),.v (tI ns),.v (.int x4),x5,x6]/\ns.length=i/\(∀ j∈ns,0<=j/\j<=6)/\nfI ns=true/\0<=x4/\x4<=6/\∀ b,ns.getLast? = some b->b<=x4) ⟨[],0,_,_,rfl,rfl,fun j hj=>(nomatch hj),rfl,by decide,by decide,fun b hb=>(nomatch hb)⟩ ?_ ?_⟩
    · rintro i δ hi ⟨ns,x4,x5,x6,rfl,hl,hb,hn,h0,h6,hlast⟩
      refine ⟨_,rfl,by decide,by decide,fun r1 r10 r11=>⟨_,rfl,by decide,by decide,fun r2 r20 r21=>?_⟩⟩
      refine ifC (fun zz=>?_) fun zz=>?_
      · refine ⟨_,rfl,by decide,by decide,fun r3 r30 r31=>?_⟩
        have fin:∀ v:Int,x4<=v->v<=6->∃ ns' x4' x5' x6',[Sl.pot,.v (.int n),.v (.int 6),.v (.tuple (ns.map PyData.int++[.int v])),.v (.int v),.v (.int (0+(i:Int))),.v (.int r3)]=[.pot,.v (.int n),.v (.int 6),.v (tI ns'),.v (.int x4'),x5',x6']/\ns'.length=i+1/\(∀ j∈ns',0<=j/\j<=6)/\nfI ns'=true/\0<=x4'/\x4'<=6/\∀ b,ns'.getLast? = some b->b<=x4':=fun v v0 v6=>by
          refine ⟨ns++[v],v,_,_,by rw [tI,List.map_append];rfl,by rw [List.length_append,hl];rfl,fun j hj=>?_,Qfa hn fun b hb'=>Int.le_trans (hlast b hb') v0,by omega,v6,fun b hb'=>?_⟩
          · rcases List.mem_append.mp hj with z | z
            · exact hb j z
            · rw [List.mem_singleton.mp z];omega
          · rw [List.getLast?_append] at hb'
            have:v=b:=by simpa using hb'
            omega
        have fin2:∀ t:Int,0<=t->∃ v,(if x4+t<6 then x4+t else 6)=v/\x4<=v/\v<=6:=fun t t0=>⟨_,rfl,by split<;>omega,by split<;>omega⟩
        refine ifC (fun z=>?_) fun z=>?_
        · refine ⟨.inl (.inr (by decide)),?_⟩
          obtain ⟨v,ev,v0,v6⟩:=fin2 (r3*1) (by omega)
          refine Qc3 ev ⟨by rw [List.length_map];show _+1<=_;omega,fin v v0 v6⟩
        · refine ⟨_,rfl,by decide,by decide,fun rb rb0 rb1=>?_⟩
          refine ⟨.inl (.inr (by show -(2^64:Int)<(if decide (rb=0)=true then 1 else 0)/\(if decide (rb=0)=true then (1:Int) else 0)<2^64;split<;>decide)),?_⟩
          obtain ⟨v,ev,v0,v6⟩:=fin2 (r3*(if decide (rb=0)=true then 1 else 0)) (by split<;>omega)
          refine Qc3 ev ⟨by rw [List.length_map];show _+1<=_;omega,fin v v0 v6⟩
      · skip
        have fin:∀ v:Int,x4<=v->v<=6->∃ ns' x4' x5' x6',[Sl.pot,.v (.int n),.v (.int 6),.v (.tuple (ns.map PyData.int++[.int v])),.v (.int v),.v (.int (0+(i:Int))),.v (.int r1)]=[.pot,.v (.int n),.v (.int 6),.v (tI ns'),.v (.int x4'),x5',x6']/\ns'.length=i+1/\(∀ j∈ns',0<=j/\j<=6)/\nfI ns'=true/\0<=x4'/\x4'<=6/\∀ b,ns'.getLast? = some b->b<=x4':=fun v v0 v6=>by
          refine ⟨ns++[v],v,_,_,by rw [tI,List.map_append];rfl,by rw [List.length_append,hl];rfl,fun j hj=>?_,Qfa hn fun b hb'=>Int.le_trans (hlast b hb') v0,by omega,v6,fun b hb'=>?_⟩
          · rcases List.mem_append.mp hj with z | z
            · exact hb j z
            · rw [List.mem_singleton.mp z];omega
          · rw [List.getLast?_append] at hb'
            have:v=b:=by simpa using hb'
            omega
        have fin2:∀ t:Int,0<=t->∃ v,(if x4+t<6 then x4+t else 6)=v/\x4<=v/\v<=6:=fun t t0=>⟨_,rfl,by split<;>omega,by split<;>omega⟩
        refine ifC (fun z=>?_) fun z=>?_
        · refine ⟨.inl (.inr (by decide)),?_⟩
          obtain ⟨v,ev,v0,v6⟩:=fin2 (r1*1) (by omega)
          refine Qc3 ev ⟨by rw [List.length_map];show _+1<=_;omega,fin v v0 v6⟩
        · refine ⟨_,rfl,by decide,by decide,fun rb rb0 rb1=>?_⟩
          refine ⟨.inl (.inr (by show -(2^64:Int)<(if decide (rb=0)=true then 1 else 0)/\(if decide (rb=0)=true then (1:Int) else 0)<2^64;split<;>decide)),?_⟩
          obtain ⟨v,ev,v0,v6⟩:=fin2 (r1*(if decide (rb=0)=true then 1 else 0)) (by split<;>omega)
          refine Qc3 ev ⟨by rw [List.length_map];show _+1<=_;omega,fin v v0 v6⟩
    · rintro δ ⟨ns,x4,x5,x6,rfl,hl,hb,hn,h0,h6,hlast⟩
      exact hR ns ⟨by omega,by omega,hb,hn⟩
theorem Qc2:(["_law_column", "_law_number", "_law_row"]:List Str).Nodup:=by decide +kernel
theorem QbA:FnScope ["_law_stairs_here", "_law_high", "_law_cells", "_law_row"] ["_law_stairs_here"] (Qaa lSBoard):=⟨rfl,rfl,rfl,by decide +kernel,rfl,by decide +kernel,by decide +kernel⟩
theorem Qgq {f   : Addr} {fd  : FuncData} (F:Fun K "_law_stair_board" "_law_stair_board" lSBoard f fd) (T:GlbA mg) :
    FnOk P w K mg base CX0 1 f fd ["_law_stairs_here"] (toSp false QcK):=by
  refine okQ false F QbA (fun args R EX h=>?_) (fun cdv A outer s H E hr=>?_)
  · obtain ⟨ns,rfl,_⟩:=h
    rfl
  · have hU:=Room.u60 hr
    have hI:=Room.i60 hr
    refine ⟨_,Qac (QaP 1 (Qao (QaB (Qdf rfl) Qf9 (by rfl) T.max Qgb (qa_P (Qal Qak) (qa_P (Qal (q_ix Qbd Qb2 (qp 0) (Qaf (Qjk (Qal Qak))) (fun _ _=>rfl))) Qae)))) QbA.nd)
      (Qac (QdP 2 (QdQ Qae) QbA.nd)
      (Qac (Qcy PassesOwn.never rfl (Qbu (by rfl) T.range (qp 1)) (Qa2 3 QbA.nd rfl (by first | exact Or.inl rfl | exact Or.inr rfl))
        (Qah (Qhe 2 (Qaf (QbZ ["_law_column", "_law_number", "_law_row"] [none,none,some 3] (QcJ (by rfl) T.enumerate (qp 0)) (fun cl ex s3 H3 C=>⟨(Qcz rfl (QaE 0 (QaE 1 QcA Qc2 rfl (Or.inl rfl) (Or.inr rfl)) Qc2 rfl (Or.inl rfl) (Or.inr rfl))),(QdO (Qbr QjM Qc0 (qp 2) (qp 1) (Qay _))),(Qao (QaU (qa_D (qv 2) (qa_D (qv 0) Qae))))⟩))))))
      (Qah (Qbl (QaU (qa_D (qv 1) (qa_D (Qao (QaB Qbj QdC (by rfl) T.len Qbw (qa_P (qp 0) Qae))) (qa_D (Qao (QaL Qar Qa6 (by rfl) T.tuple QaC (qa_P (qp 2) Qae))) Qae)))))))),fun args R EX h=>?_⟩
    obtain ⟨ns,rfl,hs,hR⟩:=h
    have hh:=Qjf hs
    have h6:=hs.l6
    have hc:=QcU hs
    refine ⟨_,Qh2 hs.l1,QhV sH_hi2 ⟨⟨by omega,by omega⟩,Qd0 (fun i δ=>∃ ds x3,δ=[.v (tI ns),.v (.int (sH ns)),.own ds,x3]/\ds=(Qa0 i ns.length (stF ns)).map pairD) ⟨_,_,rfl,rfl⟩ ?_ ?_⟩⟩
    · rintro i δ hi ⟨ds,x3,rfl,rfl⟩
      rw [Int.toNat_natCast] at hi
      refine cm_fm (rowG (i:Int)) (fun d hd k1 k2 h1 h2=>?_) ?_
      · obtain ⟨c,hc⟩:=List.mem_iff_getElem?.mp hd
        obtain ⟨e,he,rfl⟩:=Qb5 hc
        obtain ⟨m,_,rfl⟩:=List.mem_map.mp (List.mem_of_getElem? he)
        have h1:(if (i:Int)<m then some (pairD ((i:Int),(c:Int))) else none)=none->k1:=h1
        have h2:∀ e,(if (i:Int)<m then some (pairD ((i:Int),(c:Int))) else none)=some e->k2 e:=h2
        refine ⟨rfl,?_⟩
        show if decide (0+(i:Int)<m)=true then k2 (.tuple [.int (0+(i:Int)),.int (c:Int)]) else k1
        rw [show (0:Int)+(i:Int)=(i:Int) by omega]
        by_cases z:(i:Int)<m
        · rw [if_pos (decide_eq_true z)];exact h2 _ (if_pos z)
        · rw [if_neg (by simpa using z)];exact h1 (if_neg z)
      · rw [QfY]
        have l1:=Qbi ns.length (stF ns) i
        have l2:=QdM i ns.length (stF ns)
        have l3:i*ns.length<=6*6:=Nat.mul_le_mul (by omega) h6
        refine ⟨by rw [List.length_map,List.length_map];omega,_,_,rfl,?_⟩
        rw [QaV,List.map_append]
    · rintro δ ⟨ds,x3,rfl,rfl⟩
      rw [Int.toNat_natCast]
      have hR:R (.tuple [.int (sH ns),.int ns.length,.tuple ((stC ns).map pairD)]):=hR
      rw [<- List.length_map (f:=PyData.int)] at hR
      exact hR
theorem Qgt:(["_law_column", "_law_pot_here", "_law_row", "_law_thick"]:List Str).Nodup:=by decide +kernel
theorem QbY:FnScope ["_law_pot_here", "_law_high", "_law_wide", "_law_thick", "_law_cells", "_law_row"] ["_law_pot_here", "_law_high", "_law_wide"] (Qaa lBoard):=⟨rfl,rfl,rfl,by decide +kernel,rfl,by decide +kernel,by decide +kernel⟩
theorem QhI {f f1  : Addr} {fd fd1:FuncData} (F:Fun K "_law_board" "_law_board" lBoard f fd) (T:GlbA mg)
    (m1:mg "_law_take" = some (.ref f1)) (G1:FnOk P w K mg base CX0 1 f1 fd1 ["_law_pot_here", "_law_far"] (toSp true takeD)) (b1:Binds K fd1 ["_law_pot_here", "_law_far"] []) (k1:PySem.W.keepIn K (.ref f1)=true) :
    FnOk P w K mg base CX0 2 f fd ["_law_pot_here", "_law_high", "_law_wide"] (toSp false lb2D):=by
  refine okQ false F QbY (fun args R EX h=>?_) (fun cdv A outer s H E hr=>?_)
  · obtain ⟨h,w,rfl,_⟩:=h
    rfl
  · have hU:=Room.u60 hr
    have hI:=Room.i60 hr
    refine ⟨_,Qac (QaP 3 (Qao (QaI G1 (hr.mono (by decide)) (by rfl) m1 k1 b1 Qav (QaG 0 (qs_v Qak Qaj)))) QbY.nd)
      (Qac (QdP 4 (QdQ Qae) QbY.nd)
      (Qac (Qcy PassesOwn.never rfl (Qbu (by rfl) T.range (qp 1)) (Qa2 5 QbY.nd rfl (by first | exact Or.inl rfl | exact Or.inr rfl))
        (Qah (Qhe 4 (Qaf (QbZ ["_law_column", "_law_pot_here", "_law_row", "_law_thick"] [none,some 0,some 5,some 3] (Qbu (by rfl) T.range (qp 2)) (fun cl ex s3 H3 C=>⟨(Qa2 0 Qgt rfl (Or.inl rfl) (Or.inr rfl)),(QdO (Qbr QjM Qc0 (Qaf (QaI G1 (hr.mono (by decide)) (by rfl) m1 k1 b1 Qav (QaG 1 (qs_v Qak Qaj)))) (qp 3) (Qay _))),(Qao (QaU (qa_D (qv 2) (qa_D (qv 0) Qae))))⟩))))))
      (Qah (Qbl (QaU (qa_D (qv 1) (qa_D (qv 2) (qa_D (Qao (QaL Qar Qa6 (by rfl) T.tuple QaC (qa_P (qp 4) Qae))) Qae)))))))),fun args R EX h=>?_⟩
    obtain ⟨h,w,rfl,h6,w6,hR⟩:=h
    refine ⟨_,rfl,by decide,by decide,fun th th0 th1=>⟨⟨by omega,by omega⟩,Qd0 (fun i δ=>∃ f ds x5,δ=[.pot,.v (.int h),.v (.int w),.v (.int th),.own ds,x5]/\ds=(Qa0 i w f).map pairD) ⟨fun _ _=>false,_,_,rfl,rfl⟩ ?_ ?_⟩⟩
    · rintro i δ hi ⟨f,ds,x5,rfl,rfl⟩
      rw [Int.toNat_natCast] at hi
      refine ⟨⟨by omega,by omega⟩,cm_any (fun d=>match d with | .int c=>pairD ((i:Int),c) | _=>.none) (fun d hd k1 k2 h1 h2=>?_) fun p=>?_⟩
      · obtain ⟨c,hc⟩:=List.mem_iff_getElem?.mp hd
        obtain ⟨hc2,rfl⟩:=QcX hc
        refine ⟨_,rfl,by decide,by decide,fun r r0 r1=>?_⟩
        refine ifC (fun z=>?_) fun z=>?_
        · show k2 (pairD (0+(i:Int),0+(c:Int)))
          rw [show (0:Int)+(i:Int)=(i:Int) by omega]
          exact h2
        · exact h1
      · have er:((List.range (rngD 0 ((w:Nat):Int).toNat).length).filter p).map (fun q=>(match (rngD 0 ((w:Nat):Int).toNat).getD q .none with | .int c=>pairD ((i:Int),c) | _=>.none))=(rowF i w fun _=>p).map pairD:=by
          rw [QcW,Int.toNat_natCast]
          unfold rowF
          rw [List.map_map]
          refine List.map_congr_left fun c hc=>?_
          have hc:=List.mem_range.mp (List.mem_filter.mp hc).1
          have eg:(rngD 0 w).getD c .none=.int (0+(c:Int)):=by
            unfold rngD
            rw [List.getD_eq_getElem?_getD,List.getElem?_map,List.getElem?_range hc];rfl
          rw [eg]
          show pairD ((i:Int),0+(c:Int))=pairD ((i:Int),(c:Int))
          rw [show (0:Int)+(c:Int)=(c:Int) by omega]
        rw [er]
        have l1:=Qbi w f i
        have l2:=QdM i w (fun _=>p)
        have l3:i*w<=6*6:=Nat.mul_le_mul (by omega) w6
        refine ⟨by rw [List.length_map,List.length_map];omega,fun r c=>if r=i then p c else f r c,_,_,rfl,?_⟩
        rw [QaV,List.map_append,QeF (f:=fun r c=>if r=i then p c else f r c) (g:=f) fun r c hr _=>if_neg (by omega),Qdr (f:=fun r c=>if r=i then p c else f r c) (g:=fun _=>p) fun c _=>if_pos rfl]
    · rintro δ ⟨f,ds,x5,rfl,rfl⟩
      rw [Int.toNat_natCast]
      exact hR f
theorem QhQ:(["_law_place", "_law_column", "_law_board_here", "_law_line", "_law_row"]:List Str).Nodup:=by decide +kernel
theorem Qfz:FnScope ["_law_board_here", "_law_rows", "_law_columns", "_law_cells", "_law_row", "_law_line"] ["_law_board_here", "_law_rows", "_law_columns"] (Qaa lLed):=⟨rfl,rfl,rfl,by decide +kernel,rfl,by decide +kernel,by decide +kernel⟩
theorem ok_led {f   : Addr} {fd  : FuncData} (F:Fun K "_law_led" "_law_led" lLed f fd) (T:GlbA mg) :
    FnOk P w K mg base CX0 1 f fd ["_law_board_here", "_law_rows", "_law_columns"] (toSp false Qmj):=by
  refine okQ false F Qfz (fun args R EX h=>?_) (fun cdv A outer s H E hr=>?_)
  · obtain ⟨h,w,cs,rows,cols,rfl,_⟩:=h
    rfl
  · have hU:=Room.u60 hr
    have hI:=Room.i60 hr
    refine ⟨_,Qac (QdP 3 (QdQ Qae) Qfz.nd)
      (Qac (Qcy PassesOwn.never rfl (QcJ (by rfl) T.enumerate (qv 1)) (Qcz rfl (QaE 4 (QaE 5 QcA Qfz.nd rfl (by first | exact Or.inl rfl | exact Or.inr rfl)) Qfz.nd rfl (by first | exact Or.inl rfl | exact Or.inr rfl)))
        (Qah (Qhe 3 (Qaf (QbZ ["_law_place", "_law_column", "_law_board_here", "_law_line", "_law_row"] [none,none,some 0,some 5,some 4] (QcJ (by rfl) T.enumerate (qp 2)) (fun cl ex s3 H3 C=>⟨(Qcz rfl (QaE 0 (QaE 1 QcA QhQ rfl (Or.inl rfl) (Or.inr rfl)) QhQ rfl (Or.inl rfl) (Or.inr rfl))),(QdO (Qbr op_inA (od_in hI) (Qaf (QaU (qa_D (qv 3) (qa_D (qv 1) Qae)))) (Qal (q_ix Qbd Qb2 (qp 2) (Qal Qak) (fun _ _=>rfl))) (by rfl))),(Qao (QaU (qa_D (qv 4) (qa_D (qv 0) Qae))))⟩))))))
      (Qah (Qbl (QaU (qa_D (q_ix Qbd Qb2 (qp 0) (Qal Qak) (fun _ _=>rfl)) (qa_D (q_ix Qbd Qb2 (qp 0) (Qal Qak) (fun _ _=>rfl)) (qa_D (Qao (QaL Qar Qa6 (by rfl) T.tuple QaC (qa_P (qp 3) Qae))) Qae))))))),fun args R EX h=>?_⟩
    obtain ⟨h,w,cs,rows,cols,rfl,hr,hc,hR⟩:=h
    refine Qb4 (fun i δ=>∃ ds x4 x5,δ=[.v (bdD h w cs),.v (tN rows),.v (tN cols),.own ds,x4,x5]/\ds=((List.range i).flatMap fun r=>ledC cs cols r (rows.getD r 0)).map pairD) ⟨_,_,_,rfl,rfl⟩ ?_ ?_
    · rintro i d δ hd ⟨ds,x4,x5,rfl,rfl⟩
      obtain ⟨e,he,rfl⟩:=Qb5 hd
      rw [List.getElem?_map] at he
      obtain ⟨r,er,rfl⟩:∃ r,rows[i]? = some r/\e=.int r:=by
        cases z:rows[i]? with
        | none=>rw [z] at he;cases he
        | some r=>rw [z] at he;cases he;exact ⟨r,rfl,rfl⟩
      have hi:i<rows.length:=(List.getElem?_eq_some_iff.mp er).1
      have eg:rows.getD i 0=r:=by rw [List.getD_eq_getElem?_getD,er];rfl
      refine ⟨rfl,cm_fm (ledG cs r i) (fun d hd k1 k2 h1 h2=>?_) ?_⟩
      · obtain ⟨j,hj⟩:=List.mem_iff_getElem?.mp hd
        obtain ⟨e2,he2,rfl⟩:=Qb5 hj
        rw [List.getElem?_map] at he2
        obtain ⟨c,ec,rfl⟩:∃ c,cols[j]? = some c/\e2=.int c:=by
          cases z:cols[j]? with
          | none=>rw [z] at he2;cases he2
          | some r=>rw [z] at he2;cases he2;exact ⟨r,rfl,rfl⟩
        refine ⟨rfl,_,Qbh (j:=2) rfl,⟨Qc1 cs,rfl,Nat.le_trans (Qdb (r,c)) (by decide)⟩,?_⟩
        show if ((cs.map pairD).any fun e=>PyData.eqv e (pairD (r,c)))=true then k2 (pairD ((i:Int),(j:Int))) else k1
        rw [QiW]
        have h1:(if (r,c)∈cs then some (pairD ((i:Int),(j:Int))) else none)=none->k1:=h1
        have h2:∀ e,(if (r,c)∈cs then some (pairD ((i:Int),(j:Int))) else none)=some e->k2 e:=h2
        by_cases z:(r,c)∈cs
        · rw [if_pos (decide_eq_true z)];exact h2 _ (if_pos z)
        · rw [if_neg (by simpa using z)];exact h1 (if_neg z)
      · rw [led_fm]
        have l1:=QdW cs cols (fun r=>rows.getD r 0) i
        have l2:=QfO cs cols i r
        have l3:i*cols.length<=6*6:=Nat.mul_le_mul (by omega) hc
        refine ⟨by rw [List.length_map,List.length_map];omega,_,_,_,rfl,?_⟩
        rw [List.range_succ,List.flatMap_append,List.map_append]
        show _=_++(List.flatMap (fun r=>ledC cs cols r (rows.getD r 0)) [i]).map pairD
        rw [List.flatMap_singleton,eg]
    · rintro δ ⟨ds,x4,x5,rfl,rfl⟩
      refine ⟨_,Qbh (j:=0) rfl,_,Qbh (j:=1) rfl,?_⟩
      rw [QcN,List.length_map]
      exact hR
end
theorem QhR (h w:Int) (cs:List (Int×Int)):nd (bdD h w cs)=true:=by
  show (true&&(true&&(nds (cs.map pairD)&&true)))=true
  rw [Qc1];rfl
theorem Qf0 (h w:Int) (cs:List (Int×Int)):(bdD h w cs).depth<=50:=by
  show PyData.depthAll [.int h,.int w,.tuple (cs.map pairD)]+1<=50
  have:=Qbo (n:=2) (ds:=[.int h,.int w,.tuple (cs.map pairD)]) fun d hd=>by
    rcases List.mem_cons.mp hd with z | z
    · subst z;exact Nat.zero_le _
    · rcases List.mem_cons.mp z with z | z
      · subst z;exact Nat.zero_le _
      · rw [List.mem_singleton.mp z];exact Qda cs
  omega
theorem Qh5 {ds:List PyData} (h:ds.all isW=true):ds=(ds.map toI).map PyData.int:=by
  rw [List.map_map]
  conv=>lhs;rw [<- List.map_id ds]
  refine List.map_congr_left fun d hd=>?_
  have:=List.all_eq_true.mp h d hd
  cases d<;>first | rfl | cases this
theorem nf_pw:∀ {ns:List Int},nfI ns=true->ns.Pairwise (·<=·)
  | [],_=>.nil
  | [x],_=>List.pairwise_singleton _ _
  | x::y::r,h=>by
    have h:=Bool.and_eq_true_iff.mp (show (decide (x<=y)&&nfI (y::r))=true from h)
    have ih:=nf_pw h.2
    refine List.pairwise_cons.mpr ⟨fun z hz=>?_,ih⟩
    have hx:=of_decide_eq_true h.1
    rcases List.mem_cons.mp hz with rfl | hz
    · exact hx
    · exact Int.le_trans hx ((List.pairwise_cons.mp ih).1 z hz)
theorem pw_nf:∀ {ns:List Int},ns.Pairwise (·<=·)->nfI ns=true
  | [],_=>rfl
  | [x],_=>rfl
  | x::y::r,h=>by
    have h:=List.pairwise_cons.mp h
    show (decide (x<=y)&&nfI (y::r))=true
    rw [decide_eq_true (h.1 y (.head _)),pw_nf h.2];rfl
theorem QfX:∀ (ns ms:List Int),PyData.eqv (.list (ns.map PyData.int)) (.list (ms.map PyData.int))=decide (ns=ms)
  | [],[]=>rfl
  | [],_::_=>rfl
  | _::_,[]=>rfl
  | n::ns,m::ms=>by
    show ((n == m)&&PyData.eqv (.list (ns.map PyData.int)) (.list (ms.map PyData.int)))=_
    rw [QfX ns ms,Bool.eq_iff_iff]
    simp
theorem srt_nf {ns ms:List Int} (p:ms.Perm ns) (s:ms.Pairwise (·<=·)):decide (ns=ms)=nfI ns:=by
  rw [Bool.eq_iff_iff,decide_eq_true_eq]
  constructor
  · intro e;rw [e];exact pw_nf s
  · intro e
    exact (List.Perm.eq_of_pairwise (le:=fun a b=>a<=b) (fun a b _ _ h1 h2=>Int.le_antisymm h1 h2) s (nf_pw e) p).symm
theorem depthI (ns:List Int):(PyData.list (ns.map PyData.int)).depth<=50:=by
  show PyData.depthAll (ns.map PyData.int)+1<=50
  have:=Qbo (n:=0) (ds:=ns.map PyData.int) fun d hd=>by obtain ⟨p,_,rfl⟩:=List.mem_map.mp hd;exact Nat.le_refl _
  omega
theorem Qkl (ns:List Int) (c:Int):((ns.map PyData.int).countP fun e=>PyData.eqv e (.int c))=ns.count c:=by
  rw [List.countP_map];rfl
theorem Qfb (g:Nat->Int) (w c:Nat) (v:Int):((List.range w).map g).set c v=(List.range w).map fun j=>if j=c then v else g j:=by
  refine List.ext_getElem (by simp) fun j h1 h2=>?_
  rw [List.getElem_set,List.getElem_map,List.getElem_map,List.getElem_range]
  by_cases z:c=j
  · rw [if_pos z,if_pos z.symm]
  · rw [if_neg z,if_neg (Ne.symm z)]
theorem Qkj {w:Nat} {cs:List (Int×Int)} {p:Int×Int} {c:Nat} (e:p.2=(c:Int)):((colC w cs).map PyData.int).set c (.int ((((cs.map (·.2)).count (c:Int):Nat):Int)+1))=(colC w (cs++[p])).map PyData.int:=by
  rw [<- List.map_set]
  unfold colC
  rw [Qfb]
  refine congrArg _ (List.map_congr_left fun j _=>?_)
  rw [List.map_append,List.count_append,List.map_singleton,e]
  by_cases z:j=c
  · rw [if_pos z,z,List.count_singleton_self];omega
  · have:List.count (j:Int) [(c:Int)]=0:=List.count_eq_zero.mpr fun h=>z (by have:=List.mem_singleton.mp h;omega)
    rw [if_neg z,this];rfl
theorem Qkk (w:Nat):(List.replicate w [PyData.int 0]).flatten=(colC w []).map PyData.int:=by
  unfold colC
  rw [List.map_map]
  induction w with
  | zero=>rfl
  | succ w ih=>rw [List.replicate_succ',List.flatten_append,ih,List.range_succ,List.map_append];rfl
theorem QcO (w:Nat) (cs:List (Int×Int)):(colC w cs).length=w:=by unfold colC;rw [List.length_map,List.length_range]
theorem Qiy {w:Nat} {cs:List (Int×Int)} {c:Nat} (h:c<w):(colC w cs)[c]? = some (((cs.map (·.2)).count (c:Int):Nat):Int):=by
  unfold colC
  rw [List.getElem?_map,List.getElem?_range h];rfl
theorem Qjg (i w:Nat) (f:Nat->Nat->Bool) {c:Nat} (hc:c<w):((rowF i w f).map (·.2)).count (c:Int)=if f i c=true then 1 else 0:=by
  unfold rowF
  rw [List.map_map,List.count,List.countP_map]
  have e:((fun x=>x == (c:Int))∘((fun p:Int×Int=>p.2)∘fun (c:Nat)=>((i:Int),(c:Int))))=fun x:Nat=>x == c:=by
    funext x
    show ((x:Int) == (c:Int))=(x == c)
    rw [Bool.eq_iff_iff,beq_iff_eq,beq_iff_eq];omega
  rw [e]
  show List.count c _=_
  by_cases z:f i c=true
  · rw [List.count_filter z,if_pos z]
    rw [List.Nodup.count List.nodup_range,if_pos (List.mem_range.mpr hc)]
  · rw [if_neg z]
    exact List.count_eq_zero.mpr fun h=>z (List.mem_filter.mp h).2
theorem QdB (w:Nat) (f:Nat->Nat->Bool) {c:Nat} (hc:c<w):∀ h,((Qa0 h w f).map (·.2)).count (c:Int)=(List.range h).countP fun r=>f r c
  | 0=>rfl
  | h+1=>by rw [QaV,List.map_append,List.count_append,QdB w f hc h,Qjg h w f hc,Qiz]
theorem QmD {ns:List Int} (hs:Stairs ns):colC ns.length (stC ns)=ns:=by
  refine List.ext_getElem (QcO _ _) fun c h1 h2=>?_
  have a:=Qiy (cs:=stC ns) h2
  rw [List.getElem?_eq_getElem h1] at a
  rw [Option.some.inj a]
  unfold stC
  rw [QdB _ _ h2]
  have e:ns.getD c 0=ns[c]:=by rw [List.getD_eq_getElem?_getD,List.getElem?_eq_getElem h2];rfl
  have m:ns[c]∈ns:=List.getElem_mem h2
  have:=QkX (ns.getD c 0) (by rw [e];exact (hs.bd _ m).1) (sH ns) (by
    rw [e]
    have:=QhM hs.nf _ m
    unfold sH
    omega)
  rw [<- e]
  exact this
theorem Qim:∀ cs:List (Int×Int),PyData.eqv (.tuple (cs.map pairD)) (.tuple (cs.map pairD))=true
  | []=>rfl
  | p::cs=>by
    show (((p.1 == p.1)&&((p.2 == p.2)&&true))&&PyData.eqv (.tuple (cs.map pairD)) (.tuple (cs.map pairD)))=true
    rw [Qim cs,beq_self_eq_true,beq_self_eq_true];rfl
theorem eqv_bd (h w:Int) (cs:List (Int×Int)):PyData.eqv (bdD h w cs) (bdD h w cs)=true:=by
  show ((h == h)&&((w == w)&&(PyData.eqv (.tuple (cs.map pairD)) (.tuple (cs.map pairD))&&true)))=true
  rw [Qim cs,beq_self_eq_true,beq_self_eq_true];rfl
theorem sof_st {ns:List Int} (hs:Stairs ns):sofR (sH ns:Int) (ns.length:Int) (stC ns)=tI ns:=by
  unfold sofR
  rw [Int.toNat_natCast,QmD hs,QcI hs]
  rw [if_pos (by show (true&&PyData.eqv (sBd ns) (sBd ns))=true;unfold sBd;rw [eqv_bd];rfl)]
theorem gd_st {ns:List Int} (hs:Stairs ns):GdB (ns.length:Int) (stC ns):=by
  have:=QcU hs
  have:=hs.l6
  exact ⟨by omega,by omega,by omega,fun p hp=>(QeG hp).2.2⟩
theorem QgX {h w:Int} {cs:List (Int×Int)} {R:PyData->Prop} (hR:R (sofR h w cs)):(QaT (.tuple ((colC w.toNat cs).map PyData.int))=false/\R .none)∨∃ ns,Stairs ns/\colC w.toNat cs=ns/\R (if PyData.eqv (sBd ns) (bdD h w cs)=true then tI ns else .none):=by
  unfold sofR at hR
  cases z:QaT (tI (colC w.toNat cs)) with
  | false=>rw [z] at hR;exact .inl ⟨z,hR⟩
  | true=>
    rw [z,Bool.true_and] at hR
    obtain ⟨ns,e,hs⟩:=Qi5 z
    have e2:(colC w.toNat cs)=ns:=by
      have:=PyData.tuple.inj e
      have:=congrArg (List.map toI) this
      rwa [QcH,QcH] at this
    rw [e2] at hR
    exact .inr ⟨ns,hs,e2,hR⟩
section
variable {P:Program} {w:World} {K:PySem.W.Frag} {mg:Str->Option Value} {base:Heap}
theorem QhP:(["row", "column"]:List Str).Nodup:=by decide +kernel
theorem Qmd:(["column", "columns"]:List Str).Nodup:=by decide +kernel
theorem Qg4:FnScope ["board", "columns", "told"] ["board"] (Qaa sSOf):=⟨rfl,rfl,rfl,by decide +kernel,rfl,by decide +kernel,by decide +kernel⟩
theorem ok_sof {f f1 f2  : Addr} {fd fd1 fd2:FuncData} (F:Fun K "stairs_of" "stairs_of" sSOf f fd) (T:GlbA mg)
    (m1:mg "is_stairs" = some (.ref f1)) (G1:FnOk P w K mg base CX0 3 f1 fd1 ["thing"] (toSp false QcT)) (b1:Binds K fd1 ["thing"] []) (k1:PySem.W.keepIn K (.ref f1)=true)
    (m2:mg "stair_board" = some (.ref f2)) (G2:FnOk P w K mg base CX0 5 f2 fd2 ["stairs"] (toSp false sb0D)) (b2:Binds K fd2 ["stairs"] []) (k2:PySem.W.keepIn K (.ref f2)=true) :
    FnOk P w K mg base CX0 6 f fd ["board"] (toSp false sofD):=by
  refine okQ false F Qg4 (fun args R EX h=>?_) (fun cdv A outer s H E hr=>?_)
  · obtain ⟨h,w,cs,rfl,_⟩:=h
    rfl
  · have hU:=Room.u60 hr
    have hI:=Room.i60 hr
    refine ⟨_,Qac (QaP 1 (Qao (QbZ ["row", "column"] [none,none] (QfC (Qal (q_ix Qbd Qb2 (qp 0) (Qal Qak) (fun _ _=>rfl)))) (fun cl ex s3 H3 C=>⟨(Qcz rfl (QaE 0 (QaE 1 QcA QhP rfl (Or.inl rfl) (Or.inr rfl)) QhP rfl (Or.inl rfl) (Or.inr rfl))),QbM,(qv 1)⟩))) Qg4.nd)
      (Qac (QaP 2 (Qao (QaL Qar Qa6 (by rfl) T.tuple QaC (qa_P (Qaf (QbZ ["column", "columns"] [none,some 1] (Qbu (by rfl) T.range (Qal (q_ix Qbd Qb2 (qp 0) (Qal Qak) (fun _ _=>rfl)))) (fun cl ex s3 H3 C=>⟨(Qa2 0 Qmd rfl (Or.inl rfl) (Or.inr rfl)),QbM,(Qao (q_cnt hI (qp 1) (qp 0)))⟩))) Qae))) Qg4.nd)
      (Qac (QcF (q_pw (Qhc (QbI (Qal (Qaw G1 (hr.mono (by decide)) (by rfl) m1 k1 b1 Qav (qs_v (qv 2) Qaj)))) (Qe2 (Qbr QcB (Qen hU) (Qal (Qaw G2 (hr.mono (by decide)) (by rfl) m2 k2 b2 Qav (qs_v (qv 2) Qaj))) (qp 0) (Qay _))))) (Qah (QaW (qv 2))) Qa1)
      (Qah (QaW Qhg)))),fun args R EX h=>?_⟩
    obtain ⟨h,w,cs,rfl,g,hR⟩:=h
    have hw0:=g.w0
    have hw6:=g.w6
    refine ⟨_,Qbh (j:=2) rfl,QeE (fun d=>.int (toP d).2) (fun d hd k2 hk=>?_) ?_⟩
    · obtain ⟨q,_,rfl⟩:=List.mem_map.mp hd
      exact ⟨rfl,hk⟩
    have e2:(cs.map pairD).map (fun d=>PyData.int (toP d).2)=(cs.map (·.2)).map PyData.int:=by rw [List.map_map,List.map_map];rfl
    rw [e2]
    refine ⟨_,Qbh (j:=1) rfl,⟨by omega,by omega⟩,QeE (fun d=>.int (((cs.map (·.2)).map PyData.int).countP fun e=>PyData.eqv e d:Nat)) (fun d hd k2 hk=>?_) ?_⟩
    · obtain ⟨c,hc⟩:=List.mem_iff_getElem?.mp hd
      obtain ⟨hc2,rfl⟩:=QcX hc
      exact ⟨⟨Qbn _,rfl,Nat.zero_le _⟩,hk⟩
    have e3:(rngD 0 w.toNat).map (fun d=>PyData.int (((cs.map (·.2)).map PyData.int).countP fun e=>PyData.eqv e d:Nat))=(colC w.toNat cs).map PyData.int:=by
      unfold rngD colC
      generalize cs.map (fun p=>p.2)=js
      rw [List.map_map,List.map_map]
      refine List.map_congr_left fun c _=>?_
      show PyData.int ((js.map PyData.int).countP fun e=>PyData.eqv e (.int (0+(c:Int))):Nat)=_
      rw [show (0:Int)+(c:Int)=(c:Int) by omega,Qkl];rfl
    rw [e3]
    refine ⟨_,rfl,?_⟩
    rcases QgX hR with ⟨z,hR⟩ | ⟨ns,hs,ens,hR⟩
    · rw [z];exact hR
    · rw [ens,show QaT (.tuple (ns.map PyData.int))=true from QcI hs]
      refine ⟨ns,rfl,hs,⟨QhR _ _ _,QhR _ _ _,.inl (Qf0 _ _ _)⟩,?_⟩
      show if PyData.eqv (sBd ns) (bdD h w cs)=true then R (tI ns) else R .none
      cases z:PyData.eqv (sBd ns) (bdD h w cs) with
      | false=>rw [z] at hR;exact hR
      | true=>rw [z] at hR;exact hR
theorem QjU:(["_law_one"]:List Str).Nodup:=by decide +kernel
theorem Qlh:FnScope ["_law_thing"] ["_law_thing"] (Qaa lIsS):=⟨rfl,rfl,rfl,by decide +kernel,rfl,by decide +kernel,by decide +kernel⟩
theorem Ql7 {f f1  : Addr} {fd fd1:FuncData} (F:Fun K "_law_is_stairs" "_law_is_stairs" lIsS f fd) (T:GlbA mg)
    (m1:mg "_law_whole" = some (.ref f1)) (G1:FnOk P w K mg base CX0 1 f1 fd1 ["_law_found"] (toSp false wholeD)) (b1:Binds K fd1 ["_law_found"] []) (k1:PySem.W.keepIn K (.ref f1)=true) :
    FnOk P w K mg base CX0 2 f fd ["_law_thing"] (toSp false Qj1):=by
  refine okQ false F Qlh (fun args R EX h=>?_) (fun cdv A outer s H E hr=>?_)
  · obtain ⟨d,rfl,_⟩:=h
    rfl
  · have hU:=Room.u60 hr
    have hI:=Room.i60 hr
    refine ⟨_,Qac (QcF (q_pw (Qhb (QbJ (QbI (Qaf (QcY .tuple (by rfl) T.isinstance (qp 0) (by rfl) T.tuple QaC)))) (Qhb (QbJ (qt_ch Qem Qem (Qal Qak) (Qaf (QaB Qbj QdC (by rfl) T.len Qbw (qa_P (qp 0) Qae))) (Qal Qak))) (QfB (QbJ (QbI (Qaf (QaB QcP (QiG rfl) (by rfl) T.all Qgc (qa_P (Qaf (QbZ ["_law_one"] [none] (QfC (qp 0)) (fun cl ex s3 H3 C=>⟨(Qa2 0 QjU rfl (Or.inl rfl) (Or.inr rfl)),QbM,(Qaw G1 (hr.mono (by decide)) (by rfl) m1 k1 b1 Qav (qs_v (qv 0) Qaj))⟩))) Qae))))))))) (Qah (QaW q_bl)) Qa1)
      (Qah (QaW (Qe5 (Qaf (Qe4 op_ge Qc0 (Qaf (QaB (QiI rfl) QmH (by rfl) T.min Qga (qa_P (qp 0) Qae))) (Qal Qak) (Qay _))) (Qe5 (Qaf (Qe4 Qem Qc0 (Qaf (QaB (QiJ rfl) QmI (by rfl) T.max Qgb (qa_P (qp 0) Qae))) (Qal Qak) (Qay _))) (Qe3 (Qao (Qe4 QcB (Qen hU) (Qaf (QaL Qb9 QiF (by rfl) T.list Qdg (qa_P (qp 0) Qae))) (Qaf (QaB QgE QmG (by rfl) T.sorted QeK (qa_P (qp 0) Qae))) (Qay _)))))))),fun args R EX h=>?_⟩
    obtain ⟨d,rfl,hs,hR⟩:=h
    cases d with
    | tuple ds=>
      have hR:R (.bool ((decide ((1:Int)<=ds.length)&&decide ((ds.length:Int)<=6))&&(ds.all (fun d=>inW d 0 6)&&nfI (ds.map toI)))):=hR
      refine ifC (fun z1=>?_) fun z1=>?_
      · rw [show decide ((1:Int)<=ds.length)=true from z1,Bool.true_and] at hR
        have z1:=of_decide_eq_true z1
        show if (!decide ((ds.length:Int)<=6))=true then _ else _
        cases z2:decide ((ds.length:Int)<=6) with
        | false=>rw [z2] at hR;exact hR
        | true=>
          rw [z2,Bool.true_and] at hR
          have z2:=of_decide_eq_true z2
          refine QeE (fun d=>.bool (isW d)) (fun d hd k2 hk=>⟨_,rfl,hk⟩) (Qfo (items:=ds) rfl ?_)
          cases ew:ds.all isW with
          | false=>
            have:ds.all (fun d=>inW d 0 6)=false:=by
              cases zz:ds.all (fun d=>inW d 0 6) with
              | false=>rfl
              | true=>
                have:ds.all isW=true:=List.all_eq_true.mpr fun d hd=>by
                  obtain ⟨i,rfl,_⟩:=Qms (List.all_eq_true.mp zz d hd)
                  rfl
                rw [this] at ew;cases ew
            rw [this] at hR
            exact hR
          | true=>
            obtain ⟨ns,rfl⟩:∃ ns:List Int,ds=ns.map PyData.int:=⟨_,Qh5 ew⟩
            rw [List.length_map] at z1 z2
            rw [QcH] at hR
            have ea:(ns.map PyData.int).all (fun d=>inW d 0 6)=ns.all fun i=>decide (0<=i)&&decide (i<=6):=by rw [List.all_map];rfl
            rw [ea] at hR
            refine Qmf (by omega) fun m m1 m2=>?_
            have no:(∃ y∈ns,¬ (0<=y/\y<=6))->R (.bool false):=fun ⟨y,hy,q⟩=>by
              have:(ns.all fun i=>decide (0<=i)&&decide (i<=6))=false:=by
                cases zz:ns.all fun i=>decide (0<=i)&&decide (i<=6) with
                | false=>rfl
                | true=>
                  have:=Bool.and_eq_true_iff.mp (List.all_eq_true.mp zz y hy)
                  exact absurd ⟨of_decide_eq_true this.1,of_decide_eq_true this.2⟩ q
              rw [this] at hR
              exact hR
            refine ifC (fun z3=>?_) fun z3=>?_
            · refine Qmh (by omega) fun m' m1' m2'=>?_
              refine ifC (fun z4=>?_) fun z4=>?_
              · have z3:=of_decide_eq_true z3
                have z4:=of_decide_eq_true z4
                have:(ns.all fun i=>decide (0<=i)&&decide (i<=6))=true:=List.all_eq_true.mpr fun y hy=>by
                  have a:=m2 y hy
                  have b:=m2' y hy
                  rw [decide_eq_true (by omega),decide_eq_true (by omega)];rfl
                rw [this,Bool.true_and] at hR
                refine (Qlb (ds:=ns.map PyData.int) (ns:=ns) (QgF _) (by omega) fun ms pm pw=>?_).2
                refine ⟨⟨Qbn _,Qbn _,.inl (depthI _)⟩,?_⟩
                rw [QfX,srt_nf pm pw]
                exact hR
              · exact no ⟨m',m1',fun q=>by rw [show decide (m'<=6)=true from decide_eq_true q.2] at z4;cases z4⟩
            · exact no ⟨m,m1,fun q=>by rw [show decide (0<=m)=true from decide_eq_true q.1] at z3;cases z3⟩
      · rw [show decide ((1:Int)<=ds.length)=false from z1] at hR
        exact hR
    | _=>exact hR
end
section
variable {P:Program} {w:World} {K:PySem.W.Frag} {mg:Str->Option Value} {base:Heap}
theorem QdL:FnScope ["_law_pot_here", "_law_stairs_here", "_law_spot", "_law_odd", "_law_some"] ["_law_pot_here", "_law_stairs_here"] (Qaa lBent):=⟨rfl,rfl,rfl,by decide +kernel,rfl,by decide +kernel,by decide +kernel⟩
theorem Ql8 {f f1  : Addr} {fd fd1:FuncData} (F:Fun K "_law_bent" "_law_bent" lBent f fd) (T:GlbA mg)
    (m1:mg "_law_take" = some (.ref f1)) (G1:FnOk P w K mg base CX0 1 f1 fd1 ["_law_pot_here", "_law_far"] (toSp true takeD)) (b1:Binds K fd1 ["_law_pot_here", "_law_far"] []) (k1:PySem.W.keepIn K (.ref f1)=true) :
    FnOk P w K mg base CX0 2 f fd ["_law_pot_here", "_law_stairs_here"] (toSp false QhZ):=by
  refine okQ false F QdL (fun args R EX h=>?_) (fun cdv A outer s H E hr=>?_)
  · obtain ⟨ns,rfl,_⟩:=h
    rfl
  · have hU:=Room.u60 hr
    have hI:=Room.i60 hr
    refine ⟨_,Qac (QaP 2 (Qao (QaI G1 (hr.mono (by decide)) (by rfl) m1 k1 b1 Qav (QaG 0 (qs_v (Qao (QaB Qbj QdC (by rfl) T.len Qbw (qa_P (qp 1) Qae))) Qaj)))) QdL.nd)
      (Qac (QaP 3 (q_ix Qbd Qb2 (Qaf (QdQ (qa_D (Qao (Qbg QaF QaX (Qal (q_ix Qbd Qb2 (qp 1) (qp 2) (fun _ _=>rfl))) (Qal Qak))) (qa_D (Qao (Qbg QkM od_ii0 (Qal (q_ix Qbd Qb2 (qp 1) (qp 2) (fun _ _=>rfl))) (Qal Qak))) (qa_D Qak (qa_D (Qao (Qjk (Qal Qak))) (qa_D q_bl (qa_D Qhg (qa_D q_str (qa_D (Qao (QaU (qa_D Qak Qae))) (qa_D Qak (qa_D Qak Qae)))))))))))) (Qaf (QaI G1 (hr.mono (by decide)) (by rfl) m1 k1 b1 Qav (QaG 0 (qs_v Qak Qaj)))) (fun _ _=>rfl)) QdL.nd)
      (Qac (QaP 4 (Qao (QdQ (qa_D (Qao (Qbg QaF QaX (Qaf (Qbg QaF QaX (Qaf (Qcg (qp 1) Qcf (Qce (qp 2)))) (Qaf (QaU (qa_D (qv 3) Qae))))) (Qaf (Qcg (qp 1) (Qce (Qaf (Qbg QaF QaX (qp 2) (Qal Qak)))) Qcf)))) (qa_D (Qao (Qbg QaF QaX (qp 1) (Qaf (QaU (qa_D Qak Qae))))) (qa_D (Qao (Qcg (qp 1) (Qce (Qal Qak)) Qcf)) (qa_D (Qao (q_rev (qp 1) (Qaf (Qjk (Qal Qak))))) (qa_D (Qao (QaL Qb9 QiF (by rfl) T.list Qdg (qa_P (qp 1) Qae))) (qa_D Qhg Qae)))))))) QdL.nd)
      (Qah (QaW (q_ix Qbd Qb2 (Qaf (Qbg QaF QaX (qp 4) (Qaf (QdQ (qa_D (Qao (QaU Qae)) (qa_D q_dct (qa_D Qak (qa_D q_str (qa_D (Qao (QaU (qa_D (qv 1) Qae))) (qa_D (Qao (Qbg QlZ Qma (qp 1) (Qal Qak))) Qae)))))))))) (Qaf (QaI G1 (hr.mono (by decide)) (by rfl) m1 k1 b1 Qav (QaG 0 (qs_v Qak Qaj)))) (fun _ _=>rfl)))))),fun args R EX h=>?_⟩
    obtain ⟨ns,rfl,hs,hR⟩:=h
    have l1:=hs.l1
    have l6:=hs.l6
    have lm:(ns.map PyData.int).length=ns.length:=List.length_map _
    refine ⟨_,rfl,by rw [lm];omega,by rw [lm];omega,fun r r0 r1=>?_⟩
    refine Qj4 r0 r1 fun e he=>?_
    obtain ⟨x,_,rfl⟩:=List.mem_map.mp he
    refine Qj4 r0 r1 fun e2 he2=>?_
    obtain ⟨x2,_,rfl⟩:=List.mem_map.mp he2
    refine ⟨_,rfl,by decide,by decide,fun r2 r20 r21=>Qj4 r20 r21 fun oh hoh=>?_⟩
    have c1:=Qbq (ns.map PyData.int) none (some r)
    have c2:=Qbq (ns.map PyData.int) (some (r+1)) none
    have c3:=Qbq (ns.map PyData.int) (some 1) none
    refine ⟨by show _+1<=_;omega,by rw [List.length_append];show _+1+_<=_;omega,by show _+1<=_;rw [lm];omega,rfl,⟨fun e=>by rw [e] at lm;simp at lm;omega,by decide,by decide,by rw [lm];show _*3<=_;omega⟩,by show 6+6<=_;decide,_,rfl,by decide,by decide,fun r3 r30 r31=>Qj4 r30 r31 fun d hd=>hR d ?_⟩
    exact QaN (p:=QbX) (Qa9 (k:=20) (by rw [List.length_append,List.length_append];show _+1+_<=_;omega) (by decide)) (QaN (Qa9 (k:=20) (by rw [List.length_append,lm];show _+1<=_;omega) (by decide)) (QaN (Qa9 (k:=20) (by omega) (by decide)) (QaN (Qa9 (k:=20) (by rw [List.length_reverse,lm];omega) (by decide)) (QaN (QbW rfl) (QaN (QbW rfl) (QaN (Qe0 (by decide)) (QaN (QbW rfl) (QaN (QbW rfl) (QaN (QbW rfl) (QaN (Qe0 (by show 1<=1000;decide)) (QaN (Qa9 (k:=20) (by show (List.replicate 3 _).flatten.length<=20;rw [QdV,lm];omega) (by decide)) Qk2))))))))))) d hd
theorem QdK:FnScope ["_law_board_here", "_law_numbers", "_law_row", "_law_column"] ["_law_board_here"] (Qaa lSOf):=⟨rfl,rfl,rfl,by decide +kernel,rfl,by decide +kernel,by decide +kernel⟩
theorem Ql6 {f f1 f2  : Addr} {fd fd1 fd2:FuncData} (F:Fun K "_law_stairs_of" "_law_stairs_of" lSOf f fd) (T:GlbA mg)
    (m1:mg "_law_is_stairs" = some (.ref f1)) (G1:FnOk P w K mg base CX0 2 f1 fd1 ["_law_thing"] (toSp false Qj1)) (b1:Binds K fd1 ["_law_thing"] []) (k1:PySem.W.keepIn K (.ref f1)=true)
    (m2:mg "_law_stair_board" = some (.ref f2)) (G2:FnOk P w K mg base CX0 1 f2 fd2 ["_law_stairs_here"] (toSp false QcK)) (b2:Binds K fd2 ["_law_stairs_here"] []) (k2:PySem.W.keepIn K (.ref f2)=true) :
    FnOk P w K mg base CX0 3 f fd ["_law_board_here"] (toSp false sofD):=by
  refine okQ false F QdK (fun args R EX h=>?_) (fun cdv A outer s H E hr=>?_)
  · obtain ⟨h,w,cs,rfl,_⟩:=h
    rfl
  · have hU:=Room.u60 hr
    have hI:=Room.i60 hr
    refine ⟨_,Qac (QdP 1 (Qbg Qhy QkP (Qaf (QdQ (qa_D Qak Qae))) (Qal (q_ix Qbd Qb2 (qp 0) (Qal Qak) (fun _ _=>rfl)))) QdK.nd)
      (Qac (Qcy PassesOwn.never rfl (QfC (q_ix Qbd Qb2 (qp 0) (Qal Qak) (fun _ _=>rfl))) (Qcz rfl (QaE 2 (QaE 3 QcA QdK.nd rfl (by first | exact Or.inl rfl | exact Or.inr rfl)) QdK.nd rfl (by first | exact Or.inl rfl | exact Or.inr rfl)))
        (Qah (qs_put 1 (Qao (Qbg QaF QaX (Qal (q_ix Qbd Qb2 (qp 1) (qp 3) (fun _ _=>rfl))) (Qal Qak))) (qp 3))))
      (Qac (QcF (q_pw (Qhc (QbI (Qal (Qaw G1 (hr.mono (by decide)) (by rfl) m1 k1 b1 Qav (qs_v (Qao (QaL Qar Qa6 (by rfl) T.tuple QaC (qa_P (qp 1) Qae))) Qaj)))) (Qe2 (Qbr QcB (Qen hU) (Qal (Qaw G2 (hr.mono (by decide)) (by rfl) m2 k2 b2 Qav (qs_v (Qao (QaL Qar Qa6 (by rfl) T.tuple QaC (qa_P (qp 1) Qae))) Qaj))) (qp 0) (Qay _))))) (Qah (Qbl (QaL Qar Qa6 (by rfl) T.tuple QaC (qa_P (qp 1) Qae)))) Qa1)
      (Qah (QaW Qhg)))),fun args R EX h=>?_⟩
    obtain ⟨h,w,cs,rfl,g,hR⟩:=h
    have hw0:=g.w0
    have hw6:=g.w6
    refine ⟨_,Qbh (j:=1) rfl,⟨by omega,by omega,by show 1*_<=_;omega⟩,_,Qbh (j:=2) rfl,?_⟩
    refine Qb4 (fun i δ=>∃ x2 x3,δ=[.v (bdD h w cs),.own ((colC w.toNat (cs.take i)).map PyData.int),x2,x3]) ⟨_,_,by rw [Qkk];rfl⟩ ?_ ?_
    · rintro i d δ hd ⟨x2,x3,rfl⟩
      rw [List.getElem?_map] at hd
      obtain ⟨p,ep,rfl⟩:∃ p,cs[i]? = some p/\d=pairD p:=by
        cases z:cs[i]? with
        | none=>rw [z] at hd;cases hd
        | some r=>rw [z] at hd;cases hd;exact ⟨r,rfl,rfl⟩
      have hp:=g.bd p (List.mem_of_getElem? ep)
      obtain ⟨c,hc⟩:=Int.eq_ofNat_of_zero_le hp.1
      have hcw:c<w.toNat:=by omega
      have hl:((colC w.toNat (cs.take i)).map PyData.int).length=w.toNat:=by rw [List.length_map,QcO]
      refine ⟨rfl,.int ((((cs.take i).map (·.2)).count (c:Int):Nat):Int),?_,⟨c,?_,?_⟩⟩
      · rw [hc]
        exact Qbh (j:=c) (by rw [List.getElem?_map,Qiy hcw];rfl)
      · rw [hc]
        exact Qmp (by rw [hl];exact hcw)
      · refine ⟨.v (.int p.1),.v (.int p.2),?_⟩
        rw [Qkj (p:=p) hc,List.take_add_one,ep]
        rfl
    · rintro δ ⟨x2,x3,rfl⟩
      rw [List.length_map,List.take_length]
      have sT:QbX (tI (colC w.toNat cs)):=Qa9 (k:=6) (by rw [List.length_map,QcO];omega) (by decide)
      refine ⟨_,rfl,sT,?_⟩
      rcases QgX hR with ⟨z,hR⟩ | ⟨ns,hs,ens,hR⟩
      · rw [z];exact hR
      · rw [ens,show QaT (.tuple (ns.map PyData.int))=true from QcI hs]
        refine ⟨ns,rfl,hs,⟨QhR _ _ _,QhR _ _ _,.inl (Qf0 _ _ _)⟩,?_⟩
        show if PyData.eqv (sBd ns) (bdD h w cs)=true then R (tI ns) else R .none
        cases z:PyData.eqv (sBd ns) (bdD h w cs) with
        | false=>rw [z] at hR;exact hR
        | true=>rw [z] at hR;exact hR
end
theorem led_bd {cs:List (Int×Int)} {rows cols:List Int} {p:Int×Int} (h:p∈ledL cs rows cols):0<=p.2/\p.2<(cols.length:Int):=by
  unfold ledL at h
  obtain ⟨r,_,h⟩:=List.mem_flatMap.mp h
  unfold ledC at h
  obtain ⟨c,hc,rfl⟩:=List.mem_map.mp h
  have:=List.mem_range.mp (List.mem_filter.mp hc).1
  exact ⟨by show 0<=(c:Int);omega,by show (c:Int)<_;omega⟩
section
variable {P:Program} {w:World} {K:PySem.W.Frag} {mg:Str->Option Value} {base:Heap}
theorem QbL:FnScope ["_law_pot_here", "_law_board_here", "_law_high", "_law_wide", "_law_cells", "_law_way", "_law_spot", "_law_place"] ["_law_pot_here", "_law_board_here"] (Qaa lNear):=⟨rfl,rfl,rfl,by decide +kernel,rfl,by decide +kernel,by decide +kernel⟩
theorem Ql5 {f f1 f2 f3  : Addr} {fd fd1 fd2 fd3:FuncData} (F:Fun K "_law_near" "_law_near" lNear f fd) (T:GlbA mg)
    (m1:mg "_law_take" = some (.ref f1)) (G1:FnOk P w K mg base CX0 1 f1 fd1 ["_law_pot_here", "_law_far"] (toSp true takeD)) (b1:Binds K fd1 ["_law_pot_here", "_law_far"] []) (k1:PySem.W.keepIn K (.ref f1)=true)
    (m2:mg "_law_led" = some (.ref f2)) (G2:FnOk P w K mg base CX0 1 f2 fd2 ["_law_board_here", "_law_rows", "_law_columns"] (toSp false Qmj)) (b2:Binds K fd2 ["_law_board_here", "_law_rows", "_law_columns"] []) (k2:PySem.W.keepIn K (.ref f2)=true)
    (m3:mg "_law_order" = some (.ref f3)) (G3:FnOk P w K mg base CX0 2 f3 fd3 ["_law_pot_here", "_law_many"] (toSp false Qfc)) (b3:Binds K fd3 ["_law_pot_here", "_law_many"] []) (k3:PySem.W.keepIn K (.ref f3)=true) :
    FnOk P w K mg base CX0 3 f fd ["_law_pot_here", "_law_board_here"] (toSp false QhX):=by
  refine okQ false F QbL (fun args R EX h=>?_) (fun cdv A outer s H E hr=>?_)
  · obtain ⟨ns,rfl,_⟩:=h
    rfl
  · have hU:=Room.u60 hr
    have hI:=Room.i60 hr
    refine ⟨_,Qac (qs_asg (qv 1) (Qcz rfl (QaE 2 (QaE 3 (QaE 4 QcA QbL.nd rfl (by first | exact Or.inl rfl | exact Or.inr rfl)) QbL.nd rfl (by first | exact Or.inl rfl | exact Or.inr rfl)) QbL.nd rfl (by first | exact Or.inl rfl | exact Or.inr rfl))))
      (Qac (QaP 5 (Qao (QaI G1 (hr.mono (by decide)) (by rfl) m1 k1 b1 Qav (QaG 0 (qs_v Qak Qaj)))) QbL.nd)
      (Qac (QcF (Qbr QcB (Qen hU) (qp 5) (Qal Qak) (Qay _)) (Qah (Qbl (QaU (qa_D (Qao (QaB (Qde rfl) Qf8 (by rfl) T.min Qga (qa_P (Qal Qak) (qa_P (Qaf (Qbg QaF QaX (qp 2) (Qal Qak))) Qae)))) (qa_D (qv 3) (qa_D (qv 4) Qae)))))) Qa1)
      (Qac (QcF (q_pw (Qhc (Qbr QcB (Qen hU) (qp 5) (Qal Qak) (Qay _)) (Qe2 (Qbr QkO (od_ne hU) (qp 4) (Qaf (QaU Qae)) (Qay _))))) (Qac (QaP 6 (Qao (QaI G1 (hr.mono (by decide)) (by rfl) m1 k1 b1 Qav (QaG 0 (qs_v (Qao (QaB Qbj QdC (by rfl) T.len Qbw (qa_P (qp 4) Qae))) Qaj)))) QbL.nd)
      (Qah (Qbl (QaU (qa_D (qv 2) (qa_D (qv 3) (qa_D (Qao (Qbg QaF QaX (Qaf (Qcg (qp 4) Qcf (Qce (qp 6)))) (Qaf (Qcg (qp 4) (Qce (Qaf (Qbg QaF QaX (qp 6) (Qal Qak)))) Qcf)))) Qae))))))) Qa1)
      (Qac (QcF (Qbr QcB (Qen hU) (qp 5) (Qal Qak) (Qay _)) (Qac (QaP 7 (Qao (QaU (qa_D (Qao (QaI G1 (hr.mono (by decide)) (by rfl) m1 k1 b1 Qav (QaG 0 (qs_v (qv 2) Qaj)))) (qa_D (Qao (QaI G1 (hr.mono (by decide)) (by rfl) m1 k1 b1 Qav (QaG 0 (qs_v (qv 3) Qaj)))) Qae)))) QbL.nd)
      (Qah (Qbl (QaU (qa_D (qv 2) (qa_D (qv 3) (qa_D (Qao (QaL Qar Qa6 (by rfl) T.tuple QaC (qa_P (Qaf (Qgm hU (by rfl) T.sorted (by rfl) T.set (Qaf (Qbg QaF QaX (qp 4) (Qaf (QaU (qa_D (qv 7) Qae))))))) Qae))) Qae))))))) Qa1)
      (Qah (QaW (Qaw G2 (hr.mono (by decide)) (by rfl) m2 k2 b2 Qav (qs_v (qv 1) (qs_v (Qaw G3 (hr.mono (by decide)) (by rfl) m3 k3 b3 Qav (QaG 0 (qs_v (qv 2) Qaj))) (qs_v (Qaw G3 (hr.mono (by decide)) (by rfl) m3 k3 b3 Qav (QaG 0 (qs_v (qv 3) Qaj))) Qaj)))))))))),fun args R EX h=>?_⟩
    obtain ⟨ns,rfl,hs,hR⟩:=h
    have g:=gd_st hs
    have hh:=Qjf hs
    have l6:=hs.l6
    have l1:=hs.l1
    have cl:=QcU hs
    refine ⟨rfl,_,rfl,by decide,by decide,fun y y0 y1=>?_⟩
    refine ifC (fun z=>?_) fun z=>?_
    · exact Qc3 rfl (hR _ _ _ g)
    have nc:nd (.tuple ((stC ns).map pairD))=true:=Qc1 (stC ns)
    have lc:((stC ns).map pairD).length=(stC ns).length:=List.length_map _
    refine ifC (fun z1=>⟨⟨nc,rfl,.inl (Nat.le_trans (Qda (stC ns)) (by decide))⟩,ifC (fun z2=>?_) fun z2=>?_⟩) fun z1=>ifF rfl ?_
    · have ne:stC ns≠[]:=fun e=>by rw [e] at z2;cases z2
      have ne1:0<(stC ns).length:=List.length_pos_iff.mpr ne
      have c1:=Qbq ((stC ns).map pairD)
      refine ⟨_,rfl,by rw [lc];omega,by rw [lc];omega,fun r r0 r1=>⟨by have a:=c1 none (some r);have b:=c1 (some (r+1)) none;omega,?_⟩⟩
      show R (.tuple [.int _,.int _,.tuple (Dl.cutD _ none (some r)++Dl.cutD _ (some (r+1)) none)])
      rw [Qkh _ _ r0,show r+1=((r.toNat+1:Nat):Int) by omega,Qiw,<- List.map_take,<- List.map_drop,<- List.map_append]
      refine hR _ _ _ ⟨g.w0,g.w6,by rw [List.length_append,List.length_take,List.length_drop];omega,fun p hp=>g.bd p ?_⟩
      rcases List.mem_append.mp hp with y | y
      · exact List.mem_of_mem_take y
      · exact List.mem_of_mem_drop y
    all_goals
      refine ifC (fun z3=>?_) fun z3=>?_
      · refine ⟨_,rfl,by omega,by omega,fun p p0 p1=>⟨_,rfl,by omega,by omega,fun q q0 q1=>⟨by rw [lc];show _+1<=_;omega,?_⟩⟩⟩
        have er:PyData.tuple ((stC ns).map pairD++[pairD (p,q)])=.tuple ((stC ns++[(p,q)]).map pairD):=by
          rw [List.map_append];rfl
        show Qdq (PyData.tuple ((stC ns).map pairD++[pairD (p,q)])) _
        rw [er]
        have hbd:∀ c∈stC ns++[(p,q)],0<=c.2/\c.2<(ns.length:Int):=fun c hc=>by
          rcases List.mem_append.mp hc with z | z
          · exact g.bd c z
          · rw [List.mem_singleton.mp z];exact ⟨q0,q1⟩
        have ll:(stC ns++[(p,q)]).length<=37:=by rw [List.length_append];show _+1<=_;omega
        refine Qje _ (by omega) (fun c hc=>by have:=hbd c hc;omega) fun M lM hM _=>?_
        exact hR _ _ _ ⟨g.w0,g.w6,by omega,fun c hc=>hbd c ((hM c).mp hc)⟩
      · refine ⟨_,rfl,by omega,by omega,fun rs pr=>⟨_,rfl,by omega,by omega,fun ms pm=>?_⟩⟩
        have lr:=pr.length_eq
        have lm:=pm.length_eq
        rw [Qcd] at lr lm
        refine ⟨_,_,_,rs,ms,rfl,by omega,by omega,hR _ _ _ ⟨g.w0,g.w6,?_,fun c hc=>?_⟩⟩
        · have lL:=QdW (stC ns) ms (fun r=>rs.getD r 0) rs.length
          have lL2:rs.length*ms.length<=6*6:=Nat.mul_le_mul (by omega) (by omega)
          exact Nat.le_trans lL (Nat.le_trans lL2 (by decide))
        · have:=led_bd hc
          omega
end
theorem Qke (cs:List (Int×Int)):(cs.map pairD).all (QbQ 1)=true:=List.all_eq_true.mpr fun d hd=>by
  obtain ⟨p,_,rfl⟩:=List.mem_map.mp hd
  rfl
theorem Qmw {cs:List (Int×Int)} (h w:Int) (hl:cs.length<=36):QbQ 3 (bdD h w cs)=true:=by
  show (true&&(true&&(true&&((decide ((cs.map pairD).length<=1000)&&(cs.map pairD).all (QbQ 1))&&true))))=true
  rw [Qke,List.length_map,decide_eq_true (by omega)];rfl
theorem Qil {ns:List Int} (hl:ns.length<=36):QbQ 3 (tI ns)=true:=by
  show (decide ((ns.map PyData.int).length<=1000)&&(ns.map PyData.int).all (QbQ 2))=true
  rw [List.length_map,decide_eq_true (by omega),show (ns.map PyData.int).all (QbQ 2)=true from List.all_eq_true.mpr fun d hd=>by
    obtain ⟨p,_,rfl⟩:=List.mem_map.mp hd
    rfl];rfl
theorem Qfw {h w:Int} {cs:List (Int×Int)} (g:GdB w cs):nd (sofR h w cs)=true/\QbQ 3 (sofR h w cs)=true:=by
  unfold sofR
  split
  · exact ⟨Qbn _,Qil (by rw [QcO];have:=g.w0;have:=g.w6;omega)⟩
  · exact ⟨rfl,rfl⟩
section
variable {P:Program} {w:World} {K:PySem.W.Frag} {mg:Str->Option Value} {base:Heap}
theorem Qme:(["_law_turn", "_law_pot_here", "_law_stairs_here"]:List Str).Nodup:=by decide +kernel
theorem Qcv:FnScope ["_law_script", "_law_at", "_law_pot_here", "_law_stairs_here", "_law_thing", "_law_found", "_law_board_here", "_law_other"] ["_law_script"] (Qaa sLaw):=⟨rfl,rfl,rfl,by decide +kernel,rfl,by decide +kernel,by decide +kernel⟩
theorem ok_law {f f1 f2 f3 f4 f5 f6 f7 f8 f9 f10 f11 f12 f13 f14  : Addr} {fd fd1 fd2 fd3 fd4 fd5 fd6 fd7 fd8 fd9 fd10 fd11 fd12 fd13 fd14:FuncData} (F:Fun K "law" "law" sLaw f fd) (T:GlbA mg)
    (m1:mg "_law_cell_at" = some (.ref f1)) (G1:FnOk P w K mg base CX0 1 f1 fd1 ["_law_script", "_law_k"] (QbV K)) (b1:Binds K fd1 ["_law_script", "_law_k"] []) (k1:PySem.W.keepIn K (.ref f1)=true)
    (m2:mg "_law_pot" = some (.ref f2)) (G2:FnOk P w K mg base CX0 1 f2 fd2 ["_law_cell"] (toSp true potD)) (b2:Binds K fd2 ["_law_cell"] []) (k2:PySem.W.keepIn K (.ref f2)=true)
    (m3:mg "_law_take" = some (.ref f3)) (G3:FnOk P w K mg base CX0 1 f3 fd3 ["_law_pot_here", "_law_far"] (toSp true takeD)) (b3:Binds K fd3 ["_law_pot_here", "_law_far"] []) (k3:PySem.W.keepIn K (.ref f3)=true)
    (m4:mg "_law_stairs" = some (.ref f4)) (G4:FnOk P w K mg base CX0 2 f4 fd4 ["_law_pot_here", "_law_columns", "_law_most"] (toSp false QdU)) (b4:Binds K fd4 ["_law_pot_here", "_law_columns", "_law_most"] []) (k4:PySem.W.keepIn K (.ref f4)=true)
    (m5:mg "_law_bent" = some (.ref f5)) (G5:FnOk P w K mg base CX0 2 f5 fd5 ["_law_pot_here", "_law_stairs_here"] (toSp false QhZ)) (b5:Binds K fd5 ["_law_pot_here", "_law_stairs_here"] []) (k5:PySem.W.keepIn K (.ref f5)=true)
    (m6:mg "is_stairs" = some (.ref f6)) (G6:FnOk P w K mg base CX0 3 f6 fd6 ["thing"] (toSp false QcT)) (b6:Binds K fd6 ["thing"] []) (k6:PySem.W.keepIn K (.ref f6)=true)
    (m7:mg "_law_is_stairs" = some (.ref f7)) (G7:FnOk P w K mg base CX0 2 f7 fd7 ["_law_thing"] (toSp false Qj1)) (b7:Binds K fd7 ["_law_thing"] []) (k7:PySem.W.keepIn K (.ref f7)=true)
    (m8:mg "_law_stair_board" = some (.ref f8)) (G8:FnOk P w K mg base CX0 1 f8 fd8 ["_law_stairs_here"] (toSp false QcK)) (b8:Binds K fd8 ["_law_stairs_here"] []) (k8:PySem.W.keepIn K (.ref f8)=true)
    (m9:mg "_law_same" = some (.ref f9)) (G9:FnOk P w K mg base CX0 5 f9 fd9 ["_law_found", "_law_due"] (toSp false (sameD 3))) (b9:Binds K fd9 ["_law_found", "_law_due"] []) (k9:PySem.W.keepIn K (.ref f9)=true)
    (m10:mg "stair_board" = some (.ref f10)) (G10:FnOk P w K mg base CX0 5 f10 fd10 ["stairs"] (toSp false sb0D)) (b10:Binds K fd10 ["stairs"] []) (k10:PySem.W.keepIn K (.ref f10)=true)
    (m11:mg "stairs_of" = some (.ref f11)) (G11:FnOk P w K mg base CX0 6 f11 fd11 ["board"] (toSp false sofD)) (b11:Binds K fd11 ["board"] []) (k11:PySem.W.keepIn K (.ref f11)=true)
    (m12:mg "_law_stairs_of" = some (.ref f12)) (G12:FnOk P w K mg base CX0 3 f12 fd12 ["_law_board_here"] (toSp false sofD)) (b12:Binds K fd12 ["_law_board_here"] []) (k12:PySem.W.keepIn K (.ref f12)=true)
    (m13:mg "_law_near" = some (.ref f13)) (G13:FnOk P w K mg base CX0 3 f13 fd13 ["_law_pot_here", "_law_board_here"] (toSp false QhX)) (b13:Binds K fd13 ["_law_pot_here", "_law_board_here"] []) (k13:PySem.W.keepIn K (.ref f13)=true)
    (m14:mg "_law_board" = some (.ref f14)) (G14:FnOk P w K mg base CX0 2 f14 fd14 ["_law_pot_here", "_law_high", "_law_wide"] (toSp false lb2D)) (b14:Binds K fd14 ["_law_pot_here", "_law_high", "_law_wide"] []) (k14:PySem.W.keepIn K (.ref f14)=true) :
    FnOk P w K mg base CX0 7 f fd ["_law_script"] (spLawD K):=by
  refine okQL F Qcv (fun cdv A outer s H E hr=>?_)
  have hU:=Room.u60 hr
  have hI:=Room.i60 hr
  refine ⟨_,Qac (Qcy PassesOwn.never rfl (Qbu (by rfl) T.range (Qaf (QaB (Qdf rfl) QiE (by rfl) T.max Qgb (qa_P (Qal Qak) (qa_P (Qaf (QaB (Qde rfl) QiD (by rfl) T.min Qga (qa_P (Qaf (q_lenS 0 (by rfl) T.len)) (qa_P (Qal Qak) Qae)))) Qae))))) (Qa2 1 Qcv.nd rfl (by first | exact Or.inl rfl | exact Or.inr rfl))
        (Qac (Qlp 2 (QaI G2 (hr.mono (by decide)) (by rfl) m2 k2 b2 Qav (qs_v (Qao (q_cell 0 G1 (hr.mono (by decide)) (by rfl) m1 k1 b1 (qp 1))) Qaj)) Qcv.nd)
      (Qac (QaP 3 (Qaw G4 (hr.mono (by decide)) (by rfl) m4 k4 b4 Qav (QaG 2 (qs_v (Qao (Qbg QaF QaX (Qal Qak) (Qaf (QaI G3 (hr.mono (by decide)) (by rfl) m3 k3 b3 Qav (QaG 2 (qs_v Qak Qaj)))))) (qs_v Qak Qaj)))) Qcv.nd)
      (Qac (Qcy PassesOwn.never rfl (Qhf (Qao (Qbg QaF QaX (Qaf (QdQ (qa_D (qv 3) Qae))) (Qaf (QbZ ["_law_turn", "_law_pot_here", "_law_stairs_here"] [none,some 2,some 3] (Qbu (by rfl) T.range (Qal Qak)) (fun cl ex s3 H3 C=>⟨(Qa2 0 Qme rfl (Or.inl rfl) (Or.inr rfl)),QbM,(Qaw G5 (hr.mono (by decide)) (by rfl) m5 k5 b5 Qav (QaG 1 (qs_v (qv 2) Qaj)))⟩)))))) (Qa2 4 Qcv.nd rfl (by first | exact Or.inl rfl | exact Or.inr rfl))
        (Qac (QaP 5 (Qaw G6 (hr.mono (by decide)) (by rfl) m6 k6 b6 Qav (qs_v (qv 4) Qaj)) Qcv.nd)
      (Qah (QcF (q_pw (Qhb (QbJ (QbI (Qaf (QcY .bool (by rfl) T.isinstance (qp 5) (by rfl) T.bool Qct)))) (QfB (Qbr QkO (od_ne hU) (qp 5) (Qal (Qaw G7 (hr.mono (by decide)) (by rfl) m7 k7 b7 Qav (qs_v (qv 4) Qaj))) (Qay _))))) (Qah (QaW q_bl)) Qa1))))
      (Qac (QaP 6 (Qaw G8 (hr.mono (by decide)) (by rfl) m8 k8 b8 Qav (qs_v (qv 3) Qaj)) Qcv.nd)
      (Qac (QcF (q_pw (Qhb (QbJ (QbI (Qal (Qaw G9 (hr.mono (by decide)) (by rfl) m9 k9 b9 Qav (qs_v (Qaw G10 (hr.mono (by decide)) (by rfl) m10 k10 b10 Qav (qs_v (qv 3) Qaj)) (qs_v (qv 6) Qaj)))))) (QfB (QbJ (QbI (Qal (Qaw G9 (hr.mono (by decide)) (by rfl) m9 k9 b9 Qav (qs_v (Qaw G11 (hr.mono (by decide)) (by rfl) m11 k11 b11 Qav (qs_v (qv 6) Qaj)) (qs_v (qv 3) Qaj))))))))) (Qah (QaW q_bl)) Qa1)
      (Qah (Qcy PassesOwn.never rfl (Qhf (Qao (QdQ (qa_D (Qaw G13 (hr.mono (by decide)) (by rfl) m13 k13 b13 Qav (QaG 2 (qs_v (qv 6) Qaj))) (qa_D (Qaw G13 (hr.mono (by decide)) (by rfl) m13 k13 b13 Qav (QaG 2 (qs_v (qv 6) Qaj))) (qa_D (Qaw G14 (hr.mono (by decide)) (by rfl) m14 k14 b14 Qav (QaG 2 (qs_v (Qao (Qbg QaF QaX (Qal Qak) (Qaf (QaI G3 (hr.mono (by decide)) (by rfl) m3 k3 b3 Qav (QaG 2 (qs_v Qak Qaj)))))) (qs_v Qak Qaj)))) Qae)))))) (Qa2 7 Qcv.nd rfl (by first | exact Or.inl rfl | exact Or.inr rfl))
        (Qah (QcF (QbJ (QbI (Qal (Qaw G9 (hr.mono (by decide)) (by rfl) m9 k9 b9 Qav (qs_v (Qaw G11 (hr.mono (by decide)) (by rfl) m11 k11 b11 Qav (qs_v (qv 7) Qaj)) (qs_v (Qaw G12 (hr.mono (by decide)) (by rfl) m12 k12 b12 Qav (qs_v (qv 7) Qaj)) Qaj)))))) (Qah (QaW q_bl)) Qa1))))))))))
      (Qah (QaW (Qe5 (Qal (Qaw G9 (hr.mono (by decide)) (by rfl) m9 k9 b9 Qav (qs_v (Qaw G10 (hr.mono (by decide)) (by rfl) m10 k10 b10 Qav (qs_v (Qao (QaU (qa_D Qak (qa_D Qak Qae)))) Qaj)) (qs_v (Qao (QaU (qa_D Qak (qa_D Qak (qa_D (Qao (QaU Qae)) Qae))))) Qaj)))) (Qe3 (Qao (Qe4 op_isA od_is (Qal (Qaw G11 (hr.mono (by decide)) (by rfl) m11 k11 b11 Qav (qs_v (Qao (QaU (qa_D Qak (qa_D Qak (qa_D (Qao (QaU Qae)) Qae))))) Qaj))) (Qal Qhg) (Qay _))))))),?_⟩
  intro n0 n63
  refine ⟨⟨by split<;>split<;>omega,by split<;>split<;>omega⟩,Qd0 (fun i δ=>∃ x1 x2 x3 x4 x5 x6 x7,δ=[.scr,x1,x2,x3,x4,x5,x6,x7]) ⟨_,_,_,_,_,_,_,rfl⟩ ?_ ?_⟩
  · rintro i δ hi ⟨x1,x2,x3,x4,x5,x6,x7,rfl⟩
    refine ⟨by omega,fun c=>⟨c,rfl,fun n1=>?_⟩⟩
    refine ⟨_,rfl,by decide,by decide,fun a a0 a1=>⟨_,rfl,by omega,by omega,fun ns hs=>?_⟩⟩
    refine ⟨⟨by decide,by decide⟩,cm_all QbX (fun d hd k2 hk=>⟨_,rfl,hs,fun d hd=>hk d hd⟩) fun acc hl ha=>?_⟩
    rw [QcW] at hl
    have hl:acc.length=4:=hl
    refine ⟨by show 1+acc.length<=_;omega,?_⟩
    refine Qb4 (fun _ δ=>∃ x4 x5 x6 x7,δ=[.scr,.v (.int (0+(i:Int))),.pot,.v (tI ns),x4,x5,x6,x7]) ⟨_,_,_,_,rfl⟩ ?_ ?_
    · rintro j d δ hd ⟨x4,x5,x6,x7,rfl⟩
      have sd:QbX d:=by
        rcases List.mem_append.mp (List.mem_of_getElem? hd) with z | z
        · rw [List.mem_singleton.mp z]
          exact Qa9 (k:=6) (by rw [List.length_map];exact hs.l6) (by decide)
        · exact ha d z
      refine ⟨_,rfl,⟨_,rfl,sd,ifF ?_ ⟨_,_,_,_,rfl⟩⟩⟩
      show (!decide (QaT d=QaT d))=false
      simp
    · rintro δ ⟨x4,x5,x6,x7,rfl⟩
      refine ⟨ns,rfl,hs,⟨ns,rfl,hs,⟨sBd ns,rfl,QhR _ _ _,Qmw _ _ (QcU hs),?_⟩⟩⟩
      refine ⟨(sH ns:Int),(ns.length:Int),stC ns,rfl,gd_st hs,?_⟩
      rw [sof_st hs]
      refine ⟨_,rfl,Qbn ns,Qil (by have:=hs.l6;omega),?_⟩
      refine ⟨ns,rfl,hs,fun h1 w1 c1 g1=>⟨ns,rfl,hs,fun h2 w2 c2 g2=>⟨_,rfl,by decide,by decide,fun b b0 b1=>?_⟩⟩⟩
      obtain ⟨h,hh⟩:∃ h:Nat,1+b=(h:Int):=⟨(1+b).toNat,by omega⟩
      refine ⟨h,2,by rw [<- hh];rfl,by omega,by decide,fun f=>?_⟩
      have g3:GdB ((2:Nat):Int) (Qa0 h 2 f):=⟨by decide,by decide,by have:=Qbi 2 f h;omega,fun p hp=>(QeG hp).2.2⟩
      refine Qb4 (fun _ δ=>∃ x4 x5 x7,δ=[.scr,.v (.int (0+(i:Int))),.pot,.v (tI ns),x4,x5,.v (sBd ns),x7]) ⟨_,_,_,rfl⟩ ?_ ?_
      · rintro j d δ hd ⟨x4,x5,x7,rfl⟩
        obtain ⟨hq,wq,cq,rfl,gq⟩:=QaN (p:=fun d=>∃ (h w:Int) (cs:List (Int×Int)),d=bdD h w cs/\GdB w cs) ⟨_,_,_,rfl,g1⟩ (QaN ⟨_,_,_,rfl,g2⟩ (QaN ⟨_,_,_,rfl,g3⟩ Qk2)) d (List.mem_of_getElem? hd)
        exact ⟨_,_,_,rfl,gq,⟨_,_,_,rfl,gq,⟨_,rfl,(Qfw gq).1,(Qfw gq).2,⟨_,_,_,rfl⟩⟩⟩⟩
      · rintro δ ⟨x4,x5,x7,rfl⟩
        exact ⟨_,_,_,_,_,_,_,rfl⟩
  · rintro δ ⟨x1,x2,x3,x4,x5,x6,x7,rfl⟩
    refine ⟨[0,0],rfl,⟨by decide,by decide,by decide,rfl⟩,⟨.tuple [.int 1,.int 2,.tuple []],rfl,rfl,rfl,?_⟩⟩
    exact ⟨2,1,[],rfl,⟨by decide,by decide,by decide,fun p hp=>nomatch hp⟩,rfl⟩
end
end Rk
namespace Rk
open PySem PySem.Spec PyProof.Rows L2 _root_.Rd
def isSeqD:PyData->Bool
  | .tuple _=>true
  | .list _=>true
  | _=>false
def isLD:PyData->Bool
  | .list _=>true
  | _=>false
def isTD:PyData->Bool
  | .tuple _=>true
  | _=>false
def isBD:PyData->Bool
  | .bool _=>true
  | _=>false
def isSD:PyData->Bool
  | .str _=>true
  | _=>false
theorem ty_of {K:PySem.W.Frag} {H:Hp}:∀ {x:V} {d:PyData},Dat H x d->∃ t,TyOf K H x t/\PySem.W.kitAny K t [.type "list",.type "tuple"]=some (isSeqD d)/\PySem.W.kitOne K t (.type "list")=some (isLD d)/\PySem.W.kitOne K t (.type "tuple")=some (isTD d) /\
    PySem.W.kitOne K t (.type "bool")=some (isBD d)/\PySem.W.kitOne K t (.type "str")=some (isSD d)
  | _,_,.non=>⟨_,.non,rfl,rfl,rfl,rfl,rfl⟩
  | _,_,.bl _=>⟨_,.bl _,rfl,rfl,rfl,rfl,rfl⟩
  | _,_,.int _=>⟨_,.int _,rfl,rfl,rfl,rfl,rfl⟩
  | _,_,.str _ _=>⟨_,.str _,rfl,rfl,rfl,rfl,rfl⟩
  | _,_,.tup e _=>⟨_,.tup e,rfl,rfl,rfl,rfl,rfl⟩
  | _,_,.lst e _=>⟨_,.lst e,rfl,rfl,rfl,rfl,rfl⟩
def QgV:Sp:=fun vs H Q _=>∃ p x,vs=[x]/\Kn p H x/\Q (.bl (isI x)) H
section
variable {P:Program} {w:World} {K:PySem.W.Frag} {mg:Str->Option Value} {base:Heap}
theorem Qjc:FnScope ["_law_found"] ["_law_found"] (Qaa lWhole):=⟨rfl,rfl,rfl,by decide +kernel,rfl,by decide +kernel,by decide +kernel⟩
theorem QhB {f:Addr} {fd:FuncData} (F:Fun K "_law_whole" "_law_whole" lWhole f fd) (T:GlbA mg):FnOk P w K mg base CX0 1 f fd ["_law_found"] QgV:=by
  refine F.ok Qjc (fun vs H Q E h=>?_) (fun cdv A outer s H vs Q E hr h=>?_)
  · obtain ⟨p,x,rfl,_⟩:=h
    rfl
  · obtain ⟨p,x,rfl,kn,k⟩:=h
    refine ⟨_,QaM (Qba (Qdt (Qas Qau (by rfl) T.isinstance Qap (Qag (pv 0) (Qag (Qa3 (v:=.ty "int") (by rfl) T.int QeL rfl) Qam)))
      (Qds (QkK (Qas Qau (by rfl) T.isinstance Qap (Qag (pv 0) (Qag (Qa3 (v:=.ty "bool") (by rfl) T.bool Qct rfl) Qam))))))),?_⟩
    obtain ⟨t,ty,e⟩:=QfU (K:=K) kn
    obtain ⟨t2,ty2,e2⟩:=Qh7 (K:=K) kn
    refine ⟨_,rfl,_,t,_,_,rfl,ty,e,_,rfl,?_⟩
    cases x with
    | int i=>exact iteT ⟨_,rfl,_,t2,_,_,rfl,ty2,e2,_,rfl,k⟩
    | bl i=>exact iteT ⟨_,rfl,_,t2,_,_,rfl,ty2,e2,_,rfl,k⟩
    | _=>exact iteF k
theorem kn_dat {H:Hp}:∀ {x:V} {d:PyData},Dat H x d->∃ p,Kn p H x
  | _,_,.non=>⟨0,trivial⟩
  | _,_,.bl _=>⟨0,trivial⟩
  | _,_,.int _=>⟨0,trivial⟩
  | _,_,.str _ _=>⟨0,trivial⟩
  | _,_,.tup (a:=a) e _=>⟨(a+1:Nat),Nat.ne_of_lt (Nat.lt_succ_self a),.inl ⟨_,e⟩⟩
  | _,_,.lst (a:=a) e _=>⟨(a+1:Nat),Nat.ne_of_lt (Nat.lt_succ_self a),.inr (.inl ⟨_,e⟩)⟩
theorem QfL:(["_law_one", "_law_other"]:List Str).Nodup:=by decide +kernel
theorem Qlg:FnScope ["_law_found", "_law_due"] ["_law_found", "_law_due"] (Qaa lSame):=⟨rfl,rfl,rfl,by decide +kernel,rfl,by decide +kernel,by decide +kernel⟩
theorem QhF {f f1:Addr} {fd fd1:FuncData} (F:Fun K "_law_same" "_law_same" lSame f fd) (T:GlbA mg) (mf:mg "_law_same" = some (.ref f)) (bf:Binds K fd ["_law_found", "_law_due"] []) (kf:PySem.W.keepIn K (.ref f)=true)
    (m1:mg "_law_whole" = some (.ref f1)) (G1:FnOk P w K mg base CX0 1 f1 fd1 ["_law_found"] QgV) (b1:Binds K fd1 ["_law_found"] []) (k1:PySem.W.keepIn K (.ref f1)=true) :
    ∀ n:Nat,FnOk P w K mg base CX0 (n+1) f fd ["_law_found", "_law_due"] (QeY n)
  | 0=>⟨fun _ _ _ _ h=>h.elim,fun _ _ _ _ _ _ _ _ _ _ _ _ _ h=>h.elim⟩
  | n+1=>by
    have IH:=QhF F T mf bf kf m1 G1 b1 k1 n
    refine F.ok Qlg (fun vs H Q E h=>?_) (fun cdv A outer s H vs Q E hr h=>?_)
    · obtain ⟨x,y,d,rfl,_⟩:=h
      rfl
    · obtain ⟨x,y,d,rfl,qx,qy,fl,k⟩:=h
      have hr1:Room 1 _:=hr.mono (by omega)
      refine ⟨_,Qaz (Qej (Qch Qhz (pv 1) Qhp (Qay _)) (QaM (Qba (Qcj Qhz (pv 0) Qhp (Qay _)))) Qbv)
        (Qaz (Qej (QfD (Qas Qau (by rfl) T.isinstance Qap (Qag (pv 1) (Qag (Qa3 (v:=.ty "bool") (by rfl) T.bool Qct rfl) Qam)))) (QaM (Qba (Qdt (Qas Qau (by rfl) T.isinstance Qap (Qag (pv 0) (Qag (Qa3 (v:=.ty "bool") (by rfl) T.bool Qct rfl) Qam))) (Qds (Qcj QfG (pv 0) (pv 1) (Qay _)))))) Qbv)
        (Qaz (Qej (QfD (Qas Qau (by rfl) T.isinstance Qap (Qag (pv 1) (Qag (Qa3 (v:=.ty "int") (by rfl) T.int QeL rfl) Qam)))) (QaM (Qba (Qdt (Qck G1 hr1 (by rfl) m1 k1 b1 .nil QlW (Qag (pv 0) Qam)) (Qds (Qcj QfG (pv 0) (pv 1) (Qay _)))))) Qbv)
        (Qaz (Qej (QfD (Qas Qau (by rfl) T.isinstance Qap (Qag (pv 1) (Qag (Qa3 (v:=.ty "str") (by rfl) T.str QkZ rfl) Qam)))) (QaM (Qba (Qdt (Qas Qau (by rfl) T.isinstance Qap (Qag (pv 0) (Qag (Qa3 (v:=.ty "str") (by rfl) T.str QkZ rfl) Qam))) (Qds (Qcj QfG (pv 0) (pv 1) (Qay _)))))) Qbv)
        (Qaz (Qej (PW.pt (pw_or (Qch Ql0 (Qas Qau (by rfl) T.isinstance Qap (Qag (pv 1) (Qag (Qa3 (v:=.ty "tuple") (by rfl) T.tuple QaC rfl) Qam))) (Qas Qau (by rfl) T.isinstance Qap (Qag (pv 0) (Qag (Qa3 (v:=.ty "tuple") (by rfl) T.tuple QaC rfl) Qam))) (Qay _)) (QkF (Qch Ql0 (Qas Qau (by rfl) T.isinstance Qap (Qag (pv 1) (Qag (Qa3 (v:=.ty "list") (by rfl) T.list Qdg rfl) Qam))) (Qas Qau (by rfl) T.isinstance Qap (Qag (pv 0) (Qag (Qa3 (v:=.ty "list") (by rfl) T.list Qdg rfl) Qam))) (Qay _))))) (QaM (Qba pe_bl)) Qbv)
        (QaM (Qba (Qdt (Qcj op_eq (Qas QaS (by rfl) T.len Qbw (Qag (pv 0) Qam)) (Qas QaS (by rfl) T.len Qbw (Qag (pv 1) Qam)) (Qay _)) (Qds (Qas QcP (by rfl) T.all Qgc (Qag (QdS (M:=["_law_one", "_law_other"]) (cap:=[none,none]) (g:=(gTup K 2 (Qkc (QcG 0) (Qkc (QcG 1) gNil)))) (tc:=QcS) (te:=(Qi4 (QeY n) [] E0 (Qca (tVar 0) (Qca (tVar 1) tNil)))) rfl (by rfl) (pi_or (QkH (by rfl) T.zip (Qag (pv 0) (Qag (pv 1) Qam))) (Qhm (by rfl) T.zip (Qag (pv 0) (Qag (pv 1) Qam)))) (fun cl ex s3 H3 C=>⟨(QkI rfl (QdR (Qci (i:=0) QfL rfl (Or.inl rfl) (Or.inr rfl)) (QdR (Qci (i:=1) QfL rfl (Or.inl rfl) (Or.inr rfl)) Qhn))),Qe6,(Qck IH (hr.mono (Nat.le_refl _)) (by rfl) mf kf bf .nil QlW (Qag (pv 0) (Qag (pv 1) Qam)))⟩)) Qam)))))))))),?_⟩
      obtain ⟨t,ty,a1,a2,a3,a4,a5⟩:=ty_of (K:=K) qy
      obtain ⟨t',ty',a1',a2',a3',a4',a5'⟩:=ty_of (K:=K) qx
      obtain ⟨p0,kn⟩:=kn_dat qy
      obtain ⟨tI,tyI,eI⟩:=QfU (K:=K) kn
      cases d with
      | none=>
        have hy:y=.non:=by cases qy;rfl
        have hx:x=.non:=by cases qx;rfl
        subst hy hx
        exact ⟨_,rfl,rfl,_,rfl,iteT ⟨_,rfl,rfl,k H (Same.refl H)⟩⟩
      | bool v=>
        have hy:y=.bl v:=by cases qy;rfl
        have hx:x=.bl v:=by cases qx;rfl
        subst hy hx
        refine ⟨_,rfl,rfl,_,rfl,iteF ⟨_,rfl,_,t,_,_,rfl,ty,a4,_,rfl,iteT ⟨_,rfl,_,t',_,_,rfl,ty',a4',_,rfl,iteT ?_⟩⟩⟩
        refine ⟨_,rfl,_,rfl,(PyData.bool v),(PyData.bool v),qx,qy,by rw [Nat.min_self];show _+PyData.depth (PyData.bool v)<cLine;rw [show PyData.depth (PyData.bool v)=0 from by simp [PyData.depth]];exact hr.units0,?_⟩
        rw [SeqAt.eqv_refl (PyData.bool v) rfl]
        exact k H (Same.refl H)
      | int i=>
        have hy:y=.int i:=by cases qy;rfl
        have hx:x=.int i:=by cases qx;rfl
        subst hy hx
        refine ⟨_,rfl,rfl,_,rfl,iteF ⟨_,rfl,_,t,_,_,rfl,ty,a4,_,rfl,iteF ⟨_,rfl,_,tI,_,_,rfl,tyI,eI,_,rfl,iteT ⟨_,rfl,0,.int i,rfl,trivial,_,rfl,iteT ?_⟩⟩⟩⟩
        refine ⟨_,rfl,_,rfl,.int i,.int i,qx,qy,by rw [Nat.min_self];show _+PyData.depth (.int i)<cLine;rw [show PyData.depth (.int i)=0 from by simp [PyData.depth]];exact hr.units0,?_⟩
        rw [SeqAt.eqv_refl (.int i) rfl]
        exact k H (Same.refl H)
      | str v=>
        have cl:PyData.canLay0 (.str v)=true:=by cases qy with | str _ c=>exact c
        have hy:y=.str v:=by cases qy;rfl
        have hx:x=.str v:=by cases qx;rfl
        subst hy hx
        refine ⟨_,rfl,rfl,_,rfl,iteF ⟨_,rfl,_,t,_,_,rfl,ty,a4,_,rfl,iteF ⟨_,rfl,_,tI,_,_,rfl,tyI,eI,_,rfl,iteF ⟨_,rfl,_,t,_,_,rfl,ty,a5,_,rfl,iteT ⟨_,rfl,_,t',_,_,rfl,ty',a5',_,rfl,iteT ?_⟩⟩⟩⟩⟩
        refine ⟨_,rfl,_,rfl,(PyData.str v),(PyData.str v),qx,qy,by rw [Nat.min_self];show _+PyData.depth (PyData.str v)<cLine;rw [show PyData.depth (PyData.str v)=0 from by simp [PyData.depth]];exact hr.units0,?_⟩
        rw [SeqAt.eqv_refl (PyData.str v) cl]
        exact k H (Same.refl H)
      | tuple ds=>
        obtain ⟨m,rfl⟩:∃ m,n=m+1:=by
          cases n with
          | zero=>cases fl
          | succ m=>exact ⟨m,rfl⟩
        have fl':=Bool.and_eq_true_iff.mp (show (decide (ds.length<=1000)&&ds.all (QbQ m))=true from fl)
        have hdl:ds.length<=1000:=of_decide_eq_true fl'.1
        cases qy with
        | @tup b ys _ eb qs=>
        cases qx with
        | @tup a xs _ ea ps=>
        refine ⟨_,rfl,rfl,_,rfl,iteF ⟨_,rfl,_,t,_,_,rfl,ty,a4,_,rfl,iteF ⟨_,rfl,_,tI,_,_,rfl,tyI,eI,_,rfl,iteF ⟨_,rfl,_,t,_,_,rfl,ty,a5,_,rfl,iteF ?_⟩⟩⟩⟩
        refine ⟨_,rfl,_,t,_,_,rfl,ty,a3,_,rfl,_,t',_,_,rfl,ty',a3',rfl,_,rfl,Qj5 rfl ?_⟩
        refine ⟨_,rfl,_,t,_,_,rfl,ty,a2,_,rfl,_,t',_,_,rfl,ty',a2',rfl,_,rfl,Qj5 rfl ?_⟩
        have hxl:=ps.length
        have hyl:=qs.length
        refine ⟨_,rfl,a,xs,rfl,.inr (SqT.of ea),_,rfl,b,ys,rfl,.inr (SqT.of eb),rfl,_,rfl,?_⟩
        rw [show decide (V.int (xs.length:Nat)=V.int (ys.length:Nat))=true from decide_eq_true (by rw [hxl,hyl])]
        refine iteT (.inl ⟨_,rfl,_,rfl,a,b,xs,ys,rfl,ea,eb,fun p hp=>?_⟩)
        refine QdA ds.length (lt_line hdl) (fun _=>true) hp (fun i H2 hi2 s2=>?_) (fun H2 s2=>?_) fun H2 s2 e2=>?_
        · have hx:xs[i]? = some xs[i]:=List.getElem?_eq_getElem (by omega)
          have hy:ys[i]? = some ys[i]:=List.getElem?_eq_getElem (by omega)
          have ea2:=s2 a _ ea
          have eb2:=s2 b _ eb
          refine ⟨⟨xs,ys,_,_,ea2,eb2,hx,hy⟩,fun v H3 ⟨r,x',y',hr0,ex,ey,ev,eH⟩ kk hk=>?_⟩
          have ex':=ex xs ea2
          have ey':=ey ys eb2
          rw [hx] at ex'
          rw [hy] at ey'
          cases ex'
          cases ey'
          subst ev eH
          obtain ⟨d1,hd1,q1⟩:=ps.get i _ hx
          obtain ⟨d2,hd2,q2⟩:=qs.get i _ hy
          rw [hd1] at hd2
          cases hd2
          have fd1:QbQ m d1=true:=List.all_eq_true.mp fl'.2 d1 (List.mem_of_getElem? hd1)
          refine ⟨r,[xs[i],ys[i]],rfl,SqT.of Qad,rfl,xs[i],[ys[i]],rfl,ys[i],[],rfl,rfl,⟨trivial,?_⟩⟩
          exact ⟨_,rfl,_,rfl,xs[i],ys[i],d1,rfl,(q1.same s2).same (Qab hr0),(q2.same s2).same (Qab hr0),fd1,fun H' s'=>hk H' ((Qab hr0).trans s')⟩
        · refine ⟨xs,ys,s2 a _ ea,s2 b _ eb,?_⟩
          omega
        · refine ⟨p,_,rfl,SqL.of e2,rfl,?_⟩
          have e3:((List.range ds.length).map fun _=>true).all id=true:=by
            rw [List.all_eq_true]
            intro z hz
            obtain ⟨_,_,rfl⟩:=List.mem_map.mp hz
            rfl
          rw [e3]
          exact k H2 s2
      | list ds=>
        obtain ⟨m,rfl⟩:∃ m,n=m+1:=by
          cases n with
          | zero=>cases fl
          | succ m=>exact ⟨m,rfl⟩
        have fl':=Bool.and_eq_true_iff.mp (show (decide (ds.length<=1000)&&ds.all (QbQ m))=true from fl)
        have hdl:ds.length<=1000:=of_decide_eq_true fl'.1
        cases qy with
        | @lst b ys _ eb qs=>
        cases qx with
        | @lst a xs _ ea ps=>
        refine ⟨_,rfl,rfl,_,rfl,iteF ⟨_,rfl,_,t,_,_,rfl,ty,a4,_,rfl,iteF ⟨_,rfl,_,tI,_,_,rfl,tyI,eI,_,rfl,iteF ⟨_,rfl,_,t,_,_,rfl,ty,a5,_,rfl,iteF ?_⟩⟩⟩⟩
        refine ⟨_,rfl,_,t,_,_,rfl,ty,a3,_,rfl,_,t',_,_,rfl,ty',a3',rfl,_,rfl,Qj5 rfl ?_⟩
        refine ⟨_,rfl,_,t,_,_,rfl,ty,a2,_,rfl,_,t',_,_,rfl,ty',a2',rfl,_,rfl,Qj5 rfl ?_⟩
        have hxl:=ps.length
        have hyl:=qs.length
        refine ⟨_,rfl,a,xs,rfl,.inl (SqL.of ea),_,rfl,b,ys,rfl,.inl (SqL.of eb),rfl,_,rfl,?_⟩
        rw [show decide (V.int (xs.length:Nat)=V.int (ys.length:Nat))=true from decide_eq_true (by rw [hxl,hyl])]
        refine iteT (.inr ⟨_,rfl,_,rfl,a,b,xs,ys,rfl,ea,eb,fun p hp=>?_⟩)
        refine QdA ds.length (lt_line hdl) (fun _=>true) hp (fun i H2 hi2 s2=>?_) (fun H2 s2=>?_) fun H2 s2 e2=>?_
        · have hx:xs[i]? = some xs[i]:=List.getElem?_eq_getElem (by omega)
          have hy:ys[i]? = some ys[i]:=List.getElem?_eq_getElem (by omega)
          have ea2:=s2 a _ ea
          have eb2:=s2 b _ eb
          refine ⟨⟨xs,ys,_,_,ea2,eb2,hx,hy⟩,fun v H3 ⟨r,x',y',hr0,ex,ey,ev,eH⟩ kk hk=>?_⟩
          have ex':=ex xs ea2
          have ey':=ey ys eb2
          rw [hx] at ex'
          rw [hy] at ey'
          cases ex'
          cases ey'
          subst ev eH
          obtain ⟨d1,hd1,q1⟩:=ps.get i _ hx
          obtain ⟨d2,hd2,q2⟩:=qs.get i _ hy
          rw [hd1] at hd2
          cases hd2
          have fd1:QbQ m d1=true:=List.all_eq_true.mp fl'.2 d1 (List.mem_of_getElem? hd1)
          refine ⟨r,[xs[i],ys[i]],rfl,SqT.of Qad,rfl,xs[i],[ys[i]],rfl,ys[i],[],rfl,rfl,⟨trivial,?_⟩⟩
          exact ⟨_,rfl,_,rfl,xs[i],ys[i],d1,rfl,(q1.same s2).same (Qab hr0),(q2.same s2).same (Qab hr0),fd1,fun H' s'=>hk H' ((Qab hr0).trans s')⟩
        · refine ⟨xs,ys,s2 a _ ea,s2 b _ eb,?_⟩
          omega
        · refine ⟨p,_,rfl,SqL.of e2,rfl,?_⟩
          have e3:((List.range ds.length).map fun _=>true).all id=true:=by
            rw [List.all_eq_true]
            intro z hz
            obtain ⟨_,_,rfl⟩:=List.mem_map.mp hz
            rfl
          rw [e3]
          exact k H2 s2
      | dict ds=>cases qx
end
end Rk
def PySem.W.Fast.tw9251754278745608194:Nat:=0
def PySem.W.Fast.tw3523530907622564519:Nat:=0
def PySem.W.Fast.tw8148270049523733048:Nat:=0
def PySem.W.Fast.tw16162350268298836240:Nat:=0
def PySem.W.Fast.tw4083823574076958577:Nat:=0
def PySem.W.Fast.tw3259810925782900629:Nat:=0
def PySem.W.Fast.tw386202484207934589:Nat:=0
def PySem.W.Fast.tw8563074546760036065:Nat:=0
def PySem.W.Fast.tw11577717863185514611:Nat:=0
def PySem.W.Fast.tw15818518301821415506:Nat:=0
def PySem.W.Fast.tw3427399707165909931:Nat:=0
def PySem.W.Fast.tw17709043370405924230:Nat:=0
def PySem.W.Fast.tw1830753214273525051:Nat:=0
def PySem.W.Fast.tw9495384620596252656:Nat:=0
def PySem.W.Fast.tw12483810825156666892:Nat:=0
def PySem.W.Fast.tw3262198345238392862:Nat:=0
def PySem.W.Fast.tw12141197534819148874:Nat:=0
def PySem.W.Fast.tw1371646901788382453:Nat:=0
def PySem.W.Fast.tw14102632910183685439:Nat:=0
def PySem.W.Fast.tw4799188404662375492:Nat:=0
def PySem.W.Fast.tw2505419439218485851:Nat:=0
def PySem.W.Fast.tw5591552610956029949:Nat:=0
def PySem.W.Fast.tw8697451661076536281:Nat:=0
def PySem.W.Fast.tw5822814655992329795:Nat:=0
def PySem.W.Fast.tw15931231797228195861:Nat:=0
def PySem.W.Fast.tw1604814015336219723:Nat:=0
def PySem.W.Fast.tw11632400977331924248:Nat:=0
def PySem.W.Fast.tw5943350814676903129:Nat:=0
def PySem.W.Fast.tw16369033515452193117:Nat:=0
def PySem.W.Fast.tw17747808957227748454:Nat:=0
def PySem.W.Fast.tw12365408865593587819:Nat:=0
def PySem.W.Fast.tw18304453079215398135:Nat:=0
def PySem.W.Fast.tw6892495100060052099:Nat:=0
def PySem.W.Fast.tw656240686946156879:Nat:=0
def PySem.W.Fast.tw3071624990704222606:Nat:=0
def PySem.W.Fast.tw17923080298831435553:Nat:=0
namespace Rk
open PySem PySem.Spec PyProof.Rows L2
theorem all_mk {l:PySem.W.OpenLaw} {w:World} {K:PySem.W.Frag} {h:Heap} {mg:Str->Option Value} {fa f1 f2 f3 f4 f5 f6 f7 f8 f9 f10 f11 f12 f13 f14 f15 f16 f17 f18 f19 f20 f21 f22:Addr} (X:K.In h) (G:h.Ns mainGlobals mg) (hfa:mg "law" = some (.ref fa))
    {od1 an1 od2 an2 od3 an3 od4 an4 od5 an5 od6 an6 od7 an7 od8 an8 od9 an9 od10 an10 od11 an11 od12 an12 od13 an13 od14 an14 od15 an15 od16 an16 od17 an17 od18 an18 od19 an19 od20 an20 od21 an21 od22 an22:Option Addr} {sl1 sl2 sl3 sl4 sl5 sl6 sl7 sl8 sl9 sl10 sl11 sl12 sl13 sl14 sl15 sl16 sl17 sl18 sl19 sl20 sl21 sl22:Array (Option Value)} {oc1 kV1 dc1 pm1 cd1 ct1 oc2 kV2 dc2 pm2 cd2 ct2 oc3 kV3 dc3 pm3 cd3 ct3 oc4 kV4 dc4 pm4 cd4 ct4 oc5 kV5 dc5 pm5 cd5 ct5 oc6 kV6 dc6 pm6 cd6 ct6 oc7 kV7 dc7 pm7 cd7 ct7 oc8 kV8 dc8 pm8 cd8 ct8 oc9 kV9 dc9 pm9 cd9 ct9 oc10 kV10 dc10 pm10 cd10 ct10 oc11 kV11 dc11 pm11 cd11 ct11 oc12 kV12 dc12 pm12 cd12 ct12 oc13 kV13 dc13 pm13 cd13 ct13 oc14 kV14 dc14 pm14 cd14 ct14 oc15 kV15 dc15 pm15 cd15 ct15 oc16 kV16 dc16 pm16 cd16 ct16 oc17 kV17 dc17 pm17 cd17 ct17 oc18 kV18 dc18 pm18 cd18 ct18 oc19 kV19 dc19 pm19 cd19 ct19 oc20 kV20 dc20 pm20 cd20 ct20 oc21 kV21 dc21 pm21 cd21 ct21 oc22 kV22 dc22 pm22 cd22 ct22:Value}
    (a1:PySem.W.nsIn K mainGlobals "is_whole" = some (some (.ref f1))) (l1:K.lookup f1=some ⟨oc1,od1,.func (PySem.W.fnOf "is_whole" "is_whole" (Qaq sWhole) (Qan sWhole) (Qaa sWhole) .none kV1 dc1 pm1 an1 cd1 ct1),sl1⟩) (c1:PySem.W.codeIn K cd1 "is_whole" = true) (k1:PySem.W.keepIn K (.ref f1)=true)
    (a2:PySem.W.nsIn K mainGlobals "is_whole_within" = some (some (.ref f2))) (l2:K.lookup f2=some ⟨oc2,od2,.func (PySem.W.fnOf "is_whole_within" "is_whole_within" (Qaq sWithin) (Qan sWithin) (Qaa sWithin) .none kV2 dc2 pm2 an2 cd2 ct2),sl2⟩) (c2:PySem.W.codeIn K cd2 "is_whole_within" = true) (k2:PySem.W.keepIn K (.ref f2)=true)
    (a3:PySem.W.nsIn K mainGlobals "is_never_falling" = some (some (.ref f3))) (l3:K.lookup f3=some ⟨oc3,od3,.func (PySem.W.fnOf "is_never_falling" "is_never_falling" (Qaq sNever) (Qan sNever) (Qaa sNever) .none kV3 dc3 pm3 an3 cd3 ct3),sl3⟩) (c3:PySem.W.codeIn K cd3 "is_never_falling" = true) (k3:PySem.W.keepIn K (.ref f3)=true)
    (a4:PySem.W.nsIn K mainGlobals "is_stairs" = some (some (.ref f4))) (l4:K.lookup f4=some ⟨oc4,od4,.func (PySem.W.fnOf "is_stairs" "is_stairs" (Qaq sStairs) (Qan sStairs) (Qaa sStairs) .none kV4 dc4 pm4 an4 cd4 ct4),sl4⟩) (c4:PySem.W.codeIn K cd4 "is_stairs" = true) (k4:PySem.W.keepIn K (.ref f4)=true)
    (a5:PySem.W.nsIn K mainGlobals "refuse_no_stairs" = some (some (.ref f5))) (l5:K.lookup f5=some ⟨oc5,od5,.func (PySem.W.fnOf "refuse_no_stairs" "refuse_no_stairs" (Qaq sRefS) (Qan sRefS) (Qaa sRefS) .none kV5 dc5 pm5 an5 cd5 ct5),sl5⟩) (c5:PySem.W.codeIn K cd5 "refuse_no_stairs" = true) (k5:PySem.W.keepIn K (.ref f5)=true)
    (a6:PySem.W.nsIn K mainGlobals "stair_board" = some (some (.ref f6))) (l6:K.lookup f6=some ⟨oc6,od6,.func (PySem.W.fnOf "stair_board" "stair_board" (Qaq sSBoard) (Qan sSBoard) (Qaa sSBoard) .none kV6 dc6 pm6 an6 cd6 ct6),sl6⟩) (c6:PySem.W.codeIn K cd6 "stair_board" = true) (k6:PySem.W.keepIn K (.ref f6)=true)
    (a7:PySem.W.nsIn K mainGlobals "stairs_of" = some (some (.ref f7))) (l7:K.lookup f7=some ⟨oc7,od7,.func (PySem.W.fnOf "stairs_of" "stairs_of" (Qaq sSOf) (Qan sSOf) (Qaa sSOf) .none kV7 dc7 pm7 an7 cd7 ct7),sl7⟩) (c7:PySem.W.codeIn K cd7 "stairs_of" = true) (k7:PySem.W.keepIn K (.ref f7)=true)
    (a8:PySem.W.nsIn K mainGlobals "_law_cell_at" = some (some (.ref f8))) (l8:K.lookup f8=some ⟨oc8,od8,.func (PySem.W.fnOf "_law_cell_at" "_law_cell_at" (Qaq lCellAt) (Qan lCellAt) (Qaa lCellAt) .none kV8 dc8 pm8 an8 cd8 ct8),sl8⟩) (c8:PySem.W.codeIn K cd8 "_law_cell_at" = true) (k8:PySem.W.keepIn K (.ref f8)=true)
    (a9:PySem.W.nsIn K mainGlobals "_law_pot" = some (some (.ref f9))) (l9:K.lookup f9=some ⟨oc9,od9,.func (PySem.W.fnOf "_law_pot" "_law_pot" (Qaq lPot) (Qan lPot) (Qaa lPot) .none kV9 dc9 pm9 an9 cd9 ct9),sl9⟩) (c9:PySem.W.codeIn K cd9 "_law_pot" = true) (k9:PySem.W.keepIn K (.ref f9)=true)
    (a10:PySem.W.nsIn K mainGlobals "_law_take" = some (some (.ref f10))) (l10:K.lookup f10=some ⟨oc10,od10,.func (PySem.W.fnOf "_law_take" "_law_take" (Qaq lTake) (Qan lTake) (Qaa lTake) .none kV10 dc10 pm10 an10 cd10 ct10),sl10⟩) (c10:PySem.W.codeIn K cd10 "_law_take" = true) (k10:PySem.W.keepIn K (.ref f10)=true)
    (a11:PySem.W.nsIn K mainGlobals "_law_whole" = some (some (.ref f11))) (l11:K.lookup f11=some ⟨oc11,od11,.func (PySem.W.fnOf "_law_whole" "_law_whole" (Qaq lWhole) (Qan lWhole) (Qaa lWhole) .none kV11 dc11 pm11 an11 cd11 ct11),sl11⟩) (c11:PySem.W.codeIn K cd11 "_law_whole" = true) (k11:PySem.W.keepIn K (.ref f11)=true)
    (a12:PySem.W.nsIn K mainGlobals "_law_same" = some (some (.ref f12))) (l12:K.lookup f12=some ⟨oc12,od12,.func (PySem.W.fnOf "_law_same" "_law_same" (Qaq lSame) (Qan lSame) (Qaa lSame) .none kV12 dc12 pm12 an12 cd12 ct12),sl12⟩) (c12:PySem.W.codeIn K cd12 "_law_same" = true) (k12:PySem.W.keepIn K (.ref f12)=true)
    (a13:PySem.W.nsIn K mainGlobals "_law_board" = some (some (.ref f13))) (l13:K.lookup f13=some ⟨oc13,od13,.func (PySem.W.fnOf "_law_board" "_law_board" (Qaq lBoard) (Qan lBoard) (Qaa lBoard) .none kV13 dc13 pm13 an13 cd13 ct13),sl13⟩) (c13:PySem.W.codeIn K cd13 "_law_board" = true) (k13:PySem.W.keepIn K (.ref f13)=true)
    (a14:PySem.W.nsIn K mainGlobals "_law_order" = some (some (.ref f14))) (l14:K.lookup f14=some ⟨oc14,od14,.func (PySem.W.fnOf "_law_order" "_law_order" (Qaq lOrder) (Qan lOrder) (Qaa lOrder) .none kV14 dc14 pm14 an14 cd14 ct14),sl14⟩) (c14:PySem.W.codeIn K cd14 "_law_order" = true) (k14:PySem.W.keepIn K (.ref f14)=true)
    (a15:PySem.W.nsIn K mainGlobals "_law_led" = some (some (.ref f15))) (l15:K.lookup f15=some ⟨oc15,od15,.func (PySem.W.fnOf "_law_led" "_law_led" (Qaq lLed) (Qan lLed) (Qaa lLed) .none kV15 dc15 pm15 an15 cd15 ct15),sl15⟩) (c15:PySem.W.codeIn K cd15 "_law_led" = true) (k15:PySem.W.keepIn K (.ref f15)=true)
    (a16:PySem.W.nsIn K mainGlobals "_law_stairs" = some (some (.ref f16))) (l16:K.lookup f16=some ⟨oc16,od16,.func (PySem.W.fnOf "_law_stairs" "_law_stairs" (Qaq lStairs) (Qan lStairs) (Qaa lStairs) .none kV16 dc16 pm16 an16 cd16 ct16),sl16⟩) (c16:PySem.W.codeIn K cd16 "_law_stairs" = true) (k16:PySem.W.keepIn K (.ref f16)=true)
    (a17:PySem.W.nsIn K mainGlobals "_law_stair_board" = some (some (.ref f17))) (l17:K.lookup f17=some ⟨oc17,od17,.func (PySem.W.fnOf "_law_stair_board" "_law_stair_board" (Qaq lSBoard) (Qan lSBoard) (Qaa lSBoard) .none kV17 dc17 pm17 an17 cd17 ct17),sl17⟩) (c17:PySem.W.codeIn K cd17 "_law_stair_board" = true) (k17:PySem.W.keepIn K (.ref f17)=true)
    (a18:PySem.W.nsIn K mainGlobals "_law_is_stairs" = some (some (.ref f18))) (l18:K.lookup f18=some ⟨oc18,od18,.func (PySem.W.fnOf "_law_is_stairs" "_law_is_stairs" (Qaq lIsS) (Qan lIsS) (Qaa lIsS) .none kV18 dc18 pm18 an18 cd18 ct18),sl18⟩) (c18:PySem.W.codeIn K cd18 "_law_is_stairs" = true) (k18:PySem.W.keepIn K (.ref f18)=true)
    (a19:PySem.W.nsIn K mainGlobals "_law_bent" = some (some (.ref f19))) (l19:K.lookup f19=some ⟨oc19,od19,.func (PySem.W.fnOf "_law_bent" "_law_bent" (Qaq lBent) (Qan lBent) (Qaa lBent) .none kV19 dc19 pm19 an19 cd19 ct19),sl19⟩) (c19:PySem.W.codeIn K cd19 "_law_bent" = true) (k19:PySem.W.keepIn K (.ref f19)=true)
    (a20:PySem.W.nsIn K mainGlobals "_law_stairs_of" = some (some (.ref f20))) (l20:K.lookup f20=some ⟨oc20,od20,.func (PySem.W.fnOf "_law_stairs_of" "_law_stairs_of" (Qaq lSOf) (Qan lSOf) (Qaa lSOf) .none kV20 dc20 pm20 an20 cd20 ct20),sl20⟩) (c20:PySem.W.codeIn K cd20 "_law_stairs_of" = true) (k20:PySem.W.keepIn K (.ref f20)=true)
    (a21:PySem.W.nsIn K mainGlobals "_law_near" = some (some (.ref f21))) (l21:K.lookup f21=some ⟨oc21,od21,.func (PySem.W.fnOf "_law_near" "_law_near" (Qaq lNear) (Qan lNear) (Qaa lNear) .none kV21 dc21 pm21 an21 cd21 ct21),sl21⟩) (c21:PySem.W.codeIn K cd21 "_law_near" = true) (k21:PySem.W.keepIn K (.ref f21)=true)
    (a22:PySem.W.nsIn K mainGlobals "law" = some (some (.ref f22))) (l22:K.lookup f22=some ⟨oc22,od22,.func (PySem.W.fnOf "law" "law" (Qaq sLaw) (Qan sLaw) (Qaa sLaw) .none kV22 dc22 pm22 an22 cd22 ct22),sl22⟩) (c22:PySem.W.codeIn K cd22 "law" = true) (k22:PySem.W.keepIn K (.ref f22)=true)
    (z1:PySem.W.nsIn K mainGlobals "isinstance" = some none)
    (z2:PySem.W.nsIn K mainGlobals "int" = some none)
    (z3:PySem.W.nsIn K mainGlobals "bool" = some none)
    (z4:PySem.W.nsIn K mainGlobals "str" = some none)
    (z5:PySem.W.nsIn K mainGlobals "tuple" = some none)
    (z6:PySem.W.nsIn K mainGlobals "list" = some none)
    (z7:PySem.W.nsIn K mainGlobals "all" = some none)
    (z8:PySem.W.nsIn K mainGlobals "len" = some none)
    (z9:PySem.W.nsIn K mainGlobals "zip" = some none)
    (z10:PySem.W.nsIn K mainGlobals "enumerate" = some none)
    (z11:PySem.W.nsIn K mainGlobals "range" = some none)
    (z12:PySem.W.nsIn K mainGlobals "max" = some none)
    (z13:PySem.W.nsIn K mainGlobals "min" = some none)
    (z14:PySem.W.nsIn K mainGlobals "sorted" = some none)
    (z15:PySem.W.nsIn K mainGlobals "sum" = some none)
    (z16:PySem.W.nsIn K mainGlobals "set" = some none)
    (z17:PySem.W.nsIn K mainGlobals "any" = some none)
    (z18:PySem.W.nsIn K mainGlobals "reversed" = some none)
    (z19:PySem.W.nsIn K mainGlobals "divmod" = some none)
    {tA:_} (aA:PySem.W.nsIn K mainGlobals "MOST_LINES" = some (some (.int 6 tA)))
    :
    ∃ fd:FuncData,(∀ (s:Shared) (v:Value),BindsTo s fd ⟨[v],[]⟩ [("_law_script",v)])/\∀ base:Heap,K.In base->base.Ns mainGlobals mg->FnOk l.prog w K mg base CX0 7 fa fd ["_law_script"] (Dl.spLawD K):=by
  have e:=hfa.symm.trans (PySem.W.mg_of X G a22)
  cases e
  have T:=(⟨(PySem.W.mg_none_of X G z1),(PySem.W.mg_none_of X G z2),(PySem.W.mg_none_of X G z3),(PySem.W.mg_none_of X G z4),(PySem.W.mg_none_of X G z5),(PySem.W.mg_none_of X G z6),(PySem.W.mg_none_of X G z7),(PySem.W.mg_none_of X G z8),(PySem.W.mg_none_of X G z9),(PySem.W.mg_none_of X G z10),(PySem.W.mg_none_of X G z11),(PySem.W.mg_none_of X G z12),(PySem.W.mg_none_of X G z13),(PySem.W.mg_none_of X G z14),(PySem.W.mg_none_of X G z15),(PySem.W.mg_none_of X G z16),(PySem.W.mg_none_of X G z17),(PySem.W.mg_none_of X G z18),(PySem.W.mg_none_of X G z19)⟩:GlbA mg)
  have F1:=QaH (st:=sWhole) l1 c1 k1
  have b1:=F1.binds (ps:=["thing"]) fun _ _ _ _ _ _ us hl=>match us,hl with | [_],_=>rfl
  have m1:=PySem.W.mg_of X G a1
  have F2:=QaH (st:=sWithin) l2 c2 k2
  have b2:=F2.binds (ps:=["thing", "least", "most"]) fun _ _ _ _ _ _ us hl=>match us,hl with | [_,_,_],_=>rfl
  have m2:=PySem.W.mg_of X G a2
  have F3:=QaH (st:=sNever) l3 c3 k3
  have b3:=F3.binds (ps:=["things"]) fun _ _ _ _ _ _ us hl=>match us,hl with | [_],_=>rfl
  have m3:=PySem.W.mg_of X G a3
  have F4:=QaH (st:=sStairs) l4 c4 k4
  have b4:=F4.binds (ps:=["thing"]) fun _ _ _ _ _ _ us hl=>match us,hl with | [_],_=>rfl
  have m4:=PySem.W.mg_of X G a4
  have F5:=QaH (st:=sRefS) l5 c5 k5
  have b5:=F5.binds (ps:=["stairs"]) fun _ _ _ _ _ _ us hl=>match us,hl with | [_],_=>rfl
  have m5:=PySem.W.mg_of X G a5
  have F6:=QaH (st:=sSBoard) l6 c6 k6
  have b6:=F6.binds (ps:=["stairs"]) fun _ _ _ _ _ _ us hl=>match us,hl with | [_],_=>rfl
  have m6:=PySem.W.mg_of X G a6
  have F7:=QaH (st:=sSOf) l7 c7 k7
  have b7:=F7.binds (ps:=["board"]) fun _ _ _ _ _ _ us hl=>match us,hl with | [_],_=>rfl
  have m7:=PySem.W.mg_of X G a7
  have F8:=QaH (st:=lCellAt) l8 c8 k8
  have b8:=F8.binds (ps:=["_law_script", "_law_k"]) fun _ _ _ _ _ _ us hl=>match us,hl with | [_,_],_=>rfl
  have m8:=PySem.W.mg_of X G a8
  have F9:=QaH (st:=lPot) l9 c9 k9
  have b9:=F9.binds (ps:=["_law_cell"]) fun _ _ _ _ _ _ us hl=>match us,hl with | [_],_=>rfl
  have m9:=PySem.W.mg_of X G a9
  have F10:=QaH (st:=lTake) l10 c10 k10
  have b10:=F10.binds (ps:=["_law_pot_here", "_law_far"]) fun _ _ _ _ _ _ us hl=>match us,hl with | [_,_],_=>rfl
  have m10:=PySem.W.mg_of X G a10
  have F11:=QaH (st:=lWhole) l11 c11 k11
  have b11:=F11.binds (ps:=["_law_found"]) fun _ _ _ _ _ _ us hl=>match us,hl with | [_],_=>rfl
  have m11:=PySem.W.mg_of X G a11
  have F12:=QaH (st:=lSame) l12 c12 k12
  have b12:=F12.binds (ps:=["_law_found", "_law_due"]) fun _ _ _ _ _ _ us hl=>match us,hl with | [_,_],_=>rfl
  have m12:=PySem.W.mg_of X G a12
  have F13:=QaH (st:=lBoard) l13 c13 k13
  have b13:=F13.binds (ps:=["_law_pot_here", "_law_high", "_law_wide"]) fun _ _ _ _ _ _ us hl=>match us,hl with | [_,_,_],_=>rfl
  have m13:=PySem.W.mg_of X G a13
  have F14:=QaH (st:=lOrder) l14 c14 k14
  have b14:=F14.binds (ps:=["_law_pot_here", "_law_many"]) fun _ _ _ _ _ _ us hl=>match us,hl with | [_,_],_=>rfl
  have m14:=PySem.W.mg_of X G a14
  have F15:=QaH (st:=lLed) l15 c15 k15
  have b15:=F15.binds (ps:=["_law_board_here", "_law_rows", "_law_columns"]) fun _ _ _ _ _ _ us hl=>match us,hl with | [_,_,_],_=>rfl
  have m15:=PySem.W.mg_of X G a15
  have F16:=QaH (st:=lStairs) l16 c16 k16
  have b16:=F16.binds (ps:=["_law_pot_here", "_law_columns", "_law_most"]) fun _ _ _ _ _ _ us hl=>match us,hl with | [_,_,_],_=>rfl
  have m16:=PySem.W.mg_of X G a16
  have F17:=QaH (st:=lSBoard) l17 c17 k17
  have b17:=F17.binds (ps:=["_law_stairs_here"]) fun _ _ _ _ _ _ us hl=>match us,hl with | [_],_=>rfl
  have m17:=PySem.W.mg_of X G a17
  have F18:=QaH (st:=lIsS) l18 c18 k18
  have b18:=F18.binds (ps:=["_law_thing"]) fun _ _ _ _ _ _ us hl=>match us,hl with | [_],_=>rfl
  have m18:=PySem.W.mg_of X G a18
  have F19:=QaH (st:=lBent) l19 c19 k19
  have b19:=F19.binds (ps:=["_law_pot_here", "_law_stairs_here"]) fun _ _ _ _ _ _ us hl=>match us,hl with | [_,_],_=>rfl
  have m19:=PySem.W.mg_of X G a19
  have F20:=QaH (st:=lSOf) l20 c20 k20
  have b20:=F20.binds (ps:=["_law_board_here"]) fun _ _ _ _ _ _ us hl=>match us,hl with | [_],_=>rfl
  have m20:=PySem.W.mg_of X G a20
  have F21:=QaH (st:=lNear) l21 c21 k21
  have b21:=F21.binds (ps:=["_law_pot_here", "_law_board_here"]) fun _ _ _ _ _ _ us hl=>match us,hl with | [_,_],_=>rfl
  have m21:=PySem.W.mg_of X G a21
  have F22:=QaH (st:=sLaw) l22 c22 k22
  refine ⟨PySem.W.fnOf "law" "law" (Qaq sLaw) (Qan sLaw) (Qaa sLaw) .none kV22 dc22 pm22 an22 cd22 ct22,fun s v=>.of_eq rfl,fun base _ _=>?_⟩
  have G1:FnOk l.prog w K mg base CX0 1 f1 _ ["thing"] (Dl.toSp false Dl.wholeD):=QjP F1 T 
  have G2:FnOk l.prog w K mg base CX0 2 f2 _ ["thing", "least", "most"] (Dl.toSp false QeU):=QhA F2 T m1 G1 b1 k1
  have G3:FnOk l.prog w K mg base CX0 1 f3 _ ["things"] (Dl.toSp false QhN):=QjR F3 T 
  have G4:FnOk l.prog w K mg base CX0 3 f4 _ ["thing"] (Dl.toSp false QcT):=QhD ⟨_,PySem.W.mg_of X G aA⟩ F4 T m2 G2 b2 k2 m3 G3 b3 k3
  have G5:FnOk l.prog w K mg base CX0 4 f5 _ ["stairs"] (Dl.toSp false Qlk):=QjQ F5 T m4 G4 b4 k4
  have G6:FnOk l.prog w K mg base CX0 5 f6 _ ["stairs"] (Dl.toSp false sb0D):=QhE F6 T m5 G5 b5 k5
  have G7:FnOk l.prog w K mg base CX0 6 f7 _ ["board"] (Dl.toSp false sofD):=ok_sof F7 T m4 G4 b4 k4 m6 G6 b6 k6
  have G8:FnOk l.prog w K mg base CX0 1 f8 _ ["_law_script", "_law_k"] (QbV K):=QhJ F8 T 
  have G9:FnOk l.prog w K mg base CX0 1 f9 _ ["_law_cell"] (Dl.toSp true Dl.potD):=(ok_pot F9 T).imp fun _ _ _ _ h=>Dl.pot_d h
  have G10:FnOk l.prog w K mg base CX0 1 f10 _ ["_law_pot_here", "_law_far"] (Dl.toSp true Dl.takeD):=(QhC F10 T).imp fun _ _ _ _ h=>Dl.take_d h
  have G11:FnOk l.prog w K mg base CX0 1 f11 _ ["_law_found"] (Dl.toSp false Dl.wholeD):=QhH F11 T 
  have G12:FnOk l.prog w K mg base CX0 5 f12 _ ["_law_found", "_law_due"] (Dl.toSp false (Dl.sameD 3)):=(QhF F12 T m12 b12 k12 m11 (QhB F11 T) b11 k11 4).imp fun _ _ _ _ h=>Dl.same_d h
  have G13:FnOk l.prog w K mg base CX0 2 f13 _ ["_law_pot_here", "_law_high", "_law_wide"] (Dl.toSp false lb2D):=QhI F13 T m10 G10 b10 k10
  have G14:FnOk l.prog w K mg base CX0 2 f14 _ ["_law_pot_here", "_law_many"] (Dl.toSp false Qfc):=(QhG F14 T m10 ((QhC F10 T).imp fun _ _ _ _ h=>Qk6 h) b10 k10).imp fun _ _ _ _ h=>QlY h
  have G15:FnOk l.prog w K mg base CX0 1 f15 _ ["_law_board_here", "_law_rows", "_law_columns"] (Dl.toSp false Qmj):=ok_led F15 T 
  have G16:FnOk l.prog w K mg base CX0 2 f16 _ ["_law_pot_here", "_law_columns", "_law_most"] (Dl.toSp false QdU):=Qgp F16 T m10 G10 b10 k10
  have G17:FnOk l.prog w K mg base CX0 1 f17 _ ["_law_stairs_here"] (Dl.toSp false QcK):=Qgq F17 T 
  have G18:FnOk l.prog w K mg base CX0 2 f18 _ ["_law_thing"] (Dl.toSp false Qj1):=Ql7 F18 T m11 G11 b11 k11
  have G19:FnOk l.prog w K mg base CX0 2 f19 _ ["_law_pot_here", "_law_stairs_here"] (Dl.toSp false QhZ):=Ql8 F19 T m10 G10 b10 k10
  have G20:FnOk l.prog w K mg base CX0 3 f20 _ ["_law_board_here"] (Dl.toSp false sofD):=Ql6 F20 T m18 G18 b18 k18 m17 G17 b17 k17
  have G21:FnOk l.prog w K mg base CX0 3 f21 _ ["_law_pot_here", "_law_board_here"] (Dl.toSp false QhX):=Ql5 F21 T m10 G10 b10 k10 m15 G15 b15 k15 m14 G14 b14 k14
  exact ok_law F22 T m8 G8 b8 k8 m9 G9 b9 k9 m10 G10 b10 k10 m16 G16 b16 k16 m19 G19 b19 k19 m4 G4 b4 k4 m18 G18 b18 k18 m17 G17 b17 k17 m12 G12 b12 k12 m6 G6 b6 k6 m7 G7 b7 k7 m20 G20 b20 k20 m21 G21 b21 k21 m13 G13 b13 k13
theorem walk {l:PySem.W.OpenLaw} {q:Program} {loose:List Str} {XP:(Str->Option Value)->Heap->Prop} {YP:World->Heap->Prop} {d:DefRec} {K:Params->PySem.W.Frag} (hn:l.most=some 63) (hdf:d.params.defaults=[])
    (hY:∀ (w:World) (h:Heap),YP w h->(K w.params).In h)
    (F:∀ (w:World) (mg:Str->Option Value) (fa:Addr) (h:Heap),(K w.params).In h->h.Ns mainGlobals mg->mg d.name=some (.ref fa) ->
      ∃ fd:FuncData,(∀ (s:Shared) (u:Value),BindsTo s fd ⟨[u],[]⟩ [("_law_script",u)])/\∀ base:Heap,(K w.params).In base->base.Ns mainGlobals mg->FnOk l.prog w (K w.params) mg base CX0 7 fa fd ["_law_script"] (Dl.spLawD (K w.params))) :
    PySem.W.WalkO q loose XP YP l.row.toRowW d [] (fun f vs=>PySem.call f vs):=
  L2.walk_of (n:=63) (k:=7) (x := "_law_script") (CX:=fun _=>CX0) (sp:=fun w=>(Dl.spLawD (K w.params))) hn (by decide) hdf ⟨rfl,by decide,by decide⟩ hY F (fun _ _ a ns hl _ hS=>⟨a,ns,rfl,hS,hl,fun _=>rfl⟩) fun _ _ _ _ _ z=>z
end Rk
open PySem PySem.W PyProof.Rows
set_option maxRecDepth 100000 in
set_option maxHeartbeats 0 in
theorem PySem.Challenge.cw_rooklands_k61_what_are_stairs_holds : PySem.Challenge.rw_rooklands_k61_what_are_stairs.Holds := by
  w_on;o_law;k_head;(case hw=>w_witness2)
  k_fill
  refine Rk.walk (l:=PySem.Challenge.rw_rooklands_k61_what_are_stairs) rfl rfl (fun w h Y=>PySem.W.kIn_of Y) ?F
  case F=>
    intro w mg fa h KX G hmg
    refine' Rk.all_mk KX G hmg ?a1 ?l1 ?c1 ?k1 ?a2 ?l2 ?c2 ?k2 ?a3 ?l3 ?c3 ?k3 ?a4 ?l4 ?c4 ?k4 ?a5 ?l5 ?c5 ?k5 ?a6 ?l6 ?c6 ?k6 ?a7 ?l7 ?c7 ?k7 ?a8 ?l8 ?c8 ?k8 ?a9 ?l9 ?c9 ?k9 ?a10 ?l10 ?c10 ?k10 ?a11 ?l11 ?c11 ?k11 ?a12 ?l12 ?c12 ?k12 ?a13 ?l13 ?c13 ?k13 ?a14 ?l14 ?c14 ?k14 ?a15 ?l15 ?c15 ?k15 ?a16 ?l16 ?c16 ?k16 ?a17 ?l17 ?c17 ?k17 ?a18 ?l18 ?c18 ?k18 ?a19 ?l19 ?c19 ?k19 ?a20 ?l20 ?c20 ?k20 ?a21 ?l21 ?c21 ?k21 ?a22 ?l22 ?c22 ?k22 ?z1 ?z2 ?z3 ?z4 ?z5 ?z6 ?z7 ?z8 ?z9 ?z10 ?z11 ?z12 ?z13 ?z14 ?z15 ?z16 ?z17 ?z18 ?z19 ?aA
    (case a1=>k_is)
    (case l1=>k_is)
    (case c1=>k_is)
    (case k1=>k_is)
    (case a2=>k_is)
    (case l2=>k_is)
    (case c2=>k_is)
    (case k2=>k_is)
    (case a3=>k_is)
    (case l3=>k_is)
    (case c3=>k_is)
    (case k3=>k_is)
    (case a4=>k_is)
    (case l4=>k_is)
    (case c4=>k_is)
    (case k4=>k_is)
    (case a5=>k_is)
    (case l5=>k_is)
    (case c5=>k_is)
    (case k5=>k_is)
    (case a6=>k_is)
    (case l6=>k_is)
    (case c6=>k_is)
    (case k6=>k_is)
    (case a7=>k_is)
    (case l7=>k_is)
    (case c7=>k_is)
    (case k7=>k_is)
    (case a8=>k_is)
    (case l8=>k_is)
    (case c8=>k_is)
    (case k8=>k_is)
    (case a9=>k_is)
    (case l9=>k_is)
    (case c9=>k_is)
    (case k9=>k_is)
    (case a10=>k_is)
    (case l10=>k_is)
    (case c10=>k_is)
    (case k10=>k_is)
    (case a11=>k_is)
    (case l11=>k_is)
    (case c11=>k_is)
    (case k11=>k_is)
    (case a12=>k_is)
    (case l12=>k_is)
    (case c12=>k_is)
    (case k12=>k_is)
    (case a13=>k_is)
    (case l13=>k_is)
    (case c13=>k_is)
    (case k13=>k_is)
    (case a14=>k_is)
    (case l14=>k_is)
    (case c14=>k_is)
    (case k14=>k_is)
    (case a15=>k_is)
    (case l15=>k_is)
    (case c15=>k_is)
    (case k15=>k_is)
    (case a16=>k_is)
    (case l16=>k_is)
    (case c16=>k_is)
    (case k16=>k_is)
    (case a17=>k_is)
    (case l17=>k_is)
    (case c17=>k_is)
    (case k17=>k_is)
    (case a18=>k_is)
    (case l18=>k_is)
    (case c18=>k_is)
    (case k18=>k_is)
    (case a19=>k_is)
    (case l19=>k_is)
    (case c19=>k_is)
    (case k19=>k_is)
    (case a20=>k_is)
    (case l20=>k_is)
    (case c20=>k_is)
    (case k20=>k_is)
    (case a21=>k_is)
    (case l21=>k_is)
    (case c21=>k_is)
    (case k21=>k_is)
    (case a22=>k_is)
    (case l22=>k_is)
    (case c22=>k_is)
    (case k22=>k_is)
    (case z1=>k_is)
    (case z2=>k_is)
    (case z3=>k_is)
    (case z4=>k_is)
    (case z5=>k_is)
    (case z6=>k_is)
    (case z7=>k_is)
    (case z8=>k_is)
    (case z9=>k_is)
    (case z10=>k_is)
    (case z11=>k_is)
    (case z12=>k_is)
    (case z13=>k_is)
    (case z14=>k_is)
    (case z15=>k_is)
    (case z16=>k_is)
    (case z17=>k_is)
    (case z18=>k_is)
    (case z19=>k_is)
    (case aA=>k_is)
