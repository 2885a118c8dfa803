import PyProof.Rows.All
import Wide.All
import OpenK.AllK
import Wide.FinOn
import Lean
import PyProof.EqAt
import PyProof.EqKinds
import PyProof.TupleCall
import PyProof.FactsAll.set_1
import PyProof.SetRoads
import PyProof.Rows.SetFrom
import PyProof.CollectWalk
import PyProof.Walks
import PyProof.TupleIter
import PyProof.P3Eq
import PyProof.Draws
import PyProof.EnumMake
import PyProof.NeData
import KE.LcSums
import PyProof.WalkInts
import PyProof.SeqI3
import PyProof.Rows.SortRuns
import PyProof.Rows.SortShellK
import KE.KSortTup
import PySem.Challenge.RW_rooklands_k22_showings_looked_at
set_option Elab.async false
set_option linter.all false
set_option maxRecDepth 100000
namespace L2
open PySem PySem.Spec PyProof.Rows
abbrev Key:=Sum Int Str
def keyIs:Key->Value->Bool
  | .inl k,v=>Value.isInt k v
  | .inr x,v=>Value.isStrOf x v
def keyH (w:World):Key->Int
  | .inl k=>hashInt k
  | .inr x=>hashStr w x
theorem QaN:∀ {k:Key} {v:Value},keyIs k v=true->(∃ i t,k=Sum.inl i/\v=Value.int i t)∨(∃ x t,k=Sum.inr x/\v=Value.str x t)
  | .inl i,v,h=>by
    obtain ⟨t,e⟩:=Value.isInt_shape (k:=i) (v:=v) h
    exact .inl ⟨i,t,rfl,e⟩
  | .inr x,v,h=>by
    obtain ⟨t,e⟩:=Value.isStrOf_shape (x:=x) (v:=v) h
    exact .inr ⟨x,t,rfl,e⟩
theorem key_ll (a b:Int):decide ((Sum.inl a:Key)=Sum.inl b)=(a == b):=by
  by_cases e:a=b
  · subst e;simp
  · have h:¬ (Sum.inl a:Key)=Sum.inl b:=fun q=>e (Sum.inl.inj q)
    rw [decide_eq_false h]
    exact (beq_eq_false_iff_ne.mpr e).symm
theorem key_rr (a b:Str):decide ((Sum.inr a:Key)=Sum.inr b)=decide (a=b):=by
  by_cases e:a=b
  · subst e;simp
  · have h:¬ (Sum.inr a:Key)=Sum.inr b:=fun q=>e (Sum.inr.inj q)
    rw [decide_eq_false h,decide_eq_false e]
theorem key_lr (a:Int) (b:Str):decide ((Sum.inl a:Key)=Sum.inr b)=false:=decide_eq_false (fun q=>nomatch q)
theorem key_rl (a:Str) (b:Int):decide ((Sum.inr a:Key)=Sum.inl b)=false:=decide_eq_false (fun q=>nomatch q)
def mixKind (prog:Program) (w:World):PySem.KeyKind prog w Key where
  is:=keyIs
  hash:=keyH w
  inj:=fun v a b ha hb=>by
    rcases QaN ha with ⟨i,t,rfl,rfl⟩ | ⟨x,t,rfl,rfl⟩
    · rcases QaN hb with ⟨j,u,rfl,e⟩ | ⟨y,u,rfl,e⟩
      · injection e with e1 _;rw [e1]
      · exact nomatch e
    · rcases QaN hb with ⟨j,u,rfl,e⟩ | ⟨y,u,rfl,e⟩
      · exact nomatch e
      · injection e with e1 _;rw [e1]
  byValue:=fun k v h=>by
    rcases QaN h with ⟨i,t,rfl,rfl⟩ | ⟨x,t,rfl,rfl⟩<;>rfl
  pyHash:=fun hv h=>by
    rcases QaN hv with ⟨i,t,rfl,rfl⟩ | ⟨x,t,rfl,rfl⟩
    · exact wpAny_pyHash_int h
    · exact wpAny_pyHash_str h
  eqBool:=fun hu hv h=>by
    rcases QaN hu with ⟨i,t,rfl,rfl⟩ | ⟨x,t,rfl,rfl⟩
    · rcases QaN hv with ⟨j,u,rfl,rfl⟩ | ⟨y,u,rfl,rfl⟩
      · rw [key_ll] at h;exact wpAny_eqBool_int h
      · rw [key_lr] at h;exact SeqAt.EqAt.int_str i t y u _ _ _ _ h
    · rcases QaN hv with ⟨j,u,rfl,rfl⟩ | ⟨y,u,rfl,rfl⟩
      · rw [key_rl] at h;exact SeqAt.EqAt.str_int x t j u _ _ _ _ h
      · rw [key_rr] at h;exact wpAny_eqBool_str h
  «strs» := fun k x t v h=>by
    rcases QaN h with ⟨i,u,rfl,e⟩ | ⟨y,u,rfl,e⟩
    · exact nomatch e
    · injection e with e1 _
      subst e1
      cases v<;>rfl
inductive V where
  | non | bl (b:Bool) | int (i:Int) | str (x:Str) | byt (b:Array UInt8) | flt (b:UInt64) | ref (a:Addr) | ty (n:String)
  deriving DecidableEq
def RelV:V->Value->Prop
  | .non,u=>u=Value.none
  | .bl b,u=>u=Value.bool b
  | .int i,u=>∃ t,u=Value.int i t
  | .str x,u=>∃ t,u=Value.str x t
  | .byt b,u=>∃ t,u=Value.bytes b t
  | .flt b,u=>∃ t,u=Value.float b t
  | .ref a,u=>u=Value.ref a
  | .ty n,u=>u=Value.type n
abbrev Vals:List V->List Value->Prop:=Paired RelV
theorem Vals.length {xs:List V} {us:List Value} (r:Vals xs us):xs.length=us.length:=Paired.length r
theorem Vals.get:∀ {xs:List V} {us:List Value} {i:Nat} {x:V},Vals xs us->xs[i]? = some x->∃ u,us[i]? = some u/\RelV x u
  | _,_,_,_,.nil,e=>by simp at e
  | _,_,0,_,.cons r _,e=>by simp at e;subst e;exact ⟨_,rfl,r⟩
  | _,_,i+1,x,.cons _ t,e=>by
    obtain ⟨u,h1,h2⟩:=Vals.get (i:=i) (x:=x) t (by simpa using e)
    exact ⟨u,by simpa using h1,h2⟩
theorem Vals.set {x:V} {u:Value} (r:RelV x u):∀ {xs:List V} {us:List Value} (i:Nat),Vals xs us->Vals (xs.set i x) (us.set i u)
  | _,_,_,.nil=>.nil
  | _,_,0,.cons _ t=>.cons r t
  | _,_,i+1,.cons q t=>.cons q (Vals.set r i t)
theorem Vals.append:∀ {xs ys:List V} {us ws:List Value},Vals xs us->Vals ys ws->Vals (xs++ys) (us++ws)
  | _,_,_,_,.nil,s=>s
  | _,_,_,_,.cons r t,s=>.cons r (Vals.append t s)
theorem Vals.take:∀ {xs:List V} {us:List Value} (n:Nat),Vals xs us->Vals (xs.take n) (us.take n)
  | _,_,0,_=>.nil
  | _,_,_+1,.nil=>.nil
  | _,_,n+1,.cons r t=>.cons r (Vals.take n t)
theorem Vals.drop:∀ {xs:List V} {us:List Value} (n:Nat),Vals xs us->Vals (xs.drop n) (us.drop n)
  | _,_,0,r=>r
  | _,_,_+1,.nil=>.nil
  | _,_,n+1,.cons _ t=>Vals.drop n t
def RelO:Option V->Option Value->Prop
  | some v,some u=>RelV v u
  | none,none=>True
  | _,_=>False
def KV {κ:Type}:List (κ×V)->List (κ×Value)->Prop:=Paired fun (p:κ×V) (q:κ×Value)=>p.1=q.1/\RelV p.2 q.2
def kV:Key->V
  | .inl i=>.int i
  | .inr x=>.str x
inductive HO where
  /-- a list -/
  | lst (xs:List V)
  /-- a tuple (never changes) -/
  | tup (xs:List V)
  /-- a dict whose keys are ints and texts;one whose keys are tuples of ints and texts (the empty one is both) -/
  | dK (kvs:List (Key×V)) | dT (kvs:List (List Key×V))
  /-- a set of ints: its members,its size -/
  | set (S:Int->Bool) (n:Nat)
  /-- an instance of the class at C,its dict at dx,its attributes -/
  | ins (C dx:Addr) (fs:List (Str×V))
  /-- the dict of the instance at x -/
  | own (x:Addr)
  /-- the dict of an exception -/
  | xd (fs:List (Str×V))
  /-- a bound method,f of x -/
  | met (f x:Addr)
  /-- a range object lo,lo+1,.. below hi -/
  | rng (lo hi:Int)
  /-- a thing that is known to the object (the script;a dict while a loop walks it): read,never written while it is so -/
  | frz (o:Obj) (u:HO)
  /-- a code object's table -/
  | tbl (ps:Array Value)
  /-- any other thing,by what is true of its one object (a def of one's own: SetO a S n:=HO.ext fun h=>..) -/
  | ext (φ:Heap->Prop)
abbrev Hp:=Addr->Option HO
def upd (H:Hp) (a:Addr) (o:HO):Hp:=fun b=>if b=a then some o else H b
theorem Qaq {H:Hp} {a:Addr} {o:HO}:upd H a o a=some o:=by unfold upd;rw [if_pos rfl]
theorem Qay {H:Hp} {a b:Addr} {o:HO} (h:b≠a):upd H a o b=H b:=by unfold upd;rw [if_neg h]
theorem QaK {H:Hp} {a b:Addr} {o:HO} (h:H a=some o) (h':H b=none):a≠b:=by
  intro e;subst e;rw [h] at h';cases h'
section
variable (P:Program) (w:World)
def ObjOk (H:Hp) (h:Heap) (a:Addr):HO->Prop
  | .lst xs=>xs.length<=sizeLine/\∃ (its:List Value) (n:Nat),Vals xs its/\h.get? a=some { cls:=.type "list",data:=.seq its.toArray n }
  | .tup xs=>xs.length<=sizeLine/\∃ its:List Value,Vals xs its/\IsTup h a its.toArray
  | .dK kvs=>kvs.length<=sizeLine/\(a == sysModules)=false/\∃ vs,KV kvs vs/\h.DictOf (mixKind P w) a vs
  | .dT kvs=>kvs.length<=sizeLine/\(a == sysModules)=false/\∃ xs:List (List Key×Addr×Value),
      Paired (fun (p:List Key×V) (q:List Key×Addr×Value)=>p.1=q.1/\H q.2.1=some (.tup (p.1.map kV))/\RelV p.2 q.2.2) kvs xs /\
      ∃ o es ep,h.get? a=some o/\o.ExactDict/\o.data=.dict es ep/\es.toList=xs.map (entryOfKey (tupleKind (mixKind P w)))/\(xs.map (·.1)).Nodup
  | .set S n=>h.SetOf (intKind P w) a S n
  | .ins C dx fs=>H dx=some (.own a)/\fs.length<=1000/\dx≠a/\h.get? a=some (PySem.W.instObj C dx) /\
      ∃ mA,h.Ns1 dx mA/\(∀ f,RelO (fs.lookup f) (mA f))/\PySem.Within mA (fs.map (·.1))
  | .own _=>∃ o,h.get? a=some o
  | .xd fs=>∃ mA,h.Ns1 a mA/\∀ f,RelO (fs.lookup f) (mA f)
  | .rng lo hi=>∃ t u v,h.get? a=some { cls:=.type "range",data:=.fields #[.int lo t,.int hi u,.int 1 v] }
  | .frz o u=>h.get? a=some o/\ObjOk H h a u
  | .tbl ps=>h.get? a=some { cls:=.none,data:=.fields ps }
  | .met f x=>h.get? a=some (PySem.W.methodObj (.ref f) (.ref x))
  | .ext φ=>φ h/\(∃ o,h.get? a=some o)/\∀ h1 h2:Heap,φ h1->(∀ o,h1.get? a=some o->h2.get? a=some o)->φ h2
def HOk (H:Hp) (h:Heap):Prop:=∀ a o,H a=some o->ObjOk P w H h a o
end
section
variable {P:Program} {w:World} {H H':Hp} {h h':Heap} {a:Addr} {o:HO}
theorem ObjOk.lt (x:ObjOk P w H h a o):a<h.objs.size:=by
  cases o with
  | lst xs=>obtain ⟨_,_,_,_,e⟩:=x;exact Heap.lt_size e
  | tup xs=>obtain ⟨_,_,_,p⟩:=x;exact p.lt
  | dK kvs=>obtain ⟨_,_,_,_,o,_,_,e,_⟩:=x;exact Heap.lt_size e
  | dT kvs=>obtain ⟨_,_,_,_,o,_,_,e,_⟩:=x;exact Heap.lt_size e
  | set S n=>obtain ⟨o,_,_,_,e,_⟩:=x;exact Heap.lt_size e
  | ins C dx fs=>obtain ⟨_,_,_,e,_⟩:=x;exact Heap.lt_size e
  | own y=>obtain ⟨_,e⟩:=x;exact Heap.lt_size e
  | xd fs=>obtain ⟨_,⟨_,_,_,e,_⟩,_⟩:=x;exact Heap.lt_size e
  | rng lo hi=>obtain ⟨_,_,_,e⟩:=x;exact Heap.lt_size e
  | frz ob u=>obtain ⟨e,_⟩:=x;exact Heap.lt_size e
  | tbl ps=>exact Heap.lt_size (show h.get? a=some _ from x)
  | met f y=>exact Heap.lt_size (show h.get? a=some _ from x)
  | ext φ=>obtain ⟨_,⟨_,e⟩,_⟩:=x;exact Heap.lt_size e
theorem Paired.mapP {α β:Type} {F G:α->β->Prop}:∀ {l₁:List α} {l₂:List β},Paired F l₁ l₂->(∀ a b,F a b->G a b)->Paired G l₁ l₂
  | _,_,.nil,_=>.nil
  | _,_,.cons r t,f=>.cons (f _ _ r) (Paired.mapP t f)
theorem ObjOk.stay (x:ObjOk P w H h a o) (k:∀ b u,(b=a∨H b=some (.own a))->h.get? b=some u->h'.get? b=some u)
    (ho:∀ b,H b=some (.own a)->H' b=some (.own a)) (ht:∀ b xs,H b=some (.tup xs)->H' b=some (.tup xs)):ObjOk P w H' h' a o:=by
  induction o with
  | lst xs=>obtain ⟨z,its,n,r,e⟩:=x;exact ⟨z,its,n,r,k _ _ (.inl rfl) e⟩
  | tup xs=>obtain ⟨z,its,r,ob,e,c⟩:=x;exact ⟨z,its,r,ob,k _ _ (.inl rfl) e,c⟩
  | dK kvs=>obtain ⟨z,y,vs,r,ob,es,ep,e,c⟩:=x;exact ⟨z,y,vs,r,ob,es,ep,k _ _ (.inl rfl) e,c⟩
  | dT kvs=>
    obtain ⟨z,y,xs,r,ob,es,ep,e,c⟩:=x
    exact ⟨z,y,xs,Paired.mapP r fun p q z=>⟨z.1,ht _ _ z.2.1,z.2.2⟩,ob,es,ep,k _ _ (.inl rfl) e,c⟩
  | set S n=>obtain ⟨ob,es,ep,t,e,c⟩:=x;exact ⟨ob,es,ep,t,k _ _ (.inl rfl) e,c⟩
  | ins C dx fs=>
    obtain ⟨d,z,ne,e,mA,⟨od,es,ep,e2,c⟩,r⟩:=x
    exact ⟨ho _ d,z,ne,k _ _ (.inl rfl) e,mA,⟨od,es,ep,k _ _ (.inr d) e2,c⟩,r⟩
  | own y=>obtain ⟨ob,e⟩:=x;exact ⟨ob,k _ _ (.inl rfl) e⟩
  | xd fs=>obtain ⟨mA,⟨od,es,ep,e,c⟩,r⟩:=x;exact ⟨mA,⟨od,es,ep,k _ _ (.inl rfl) e,c⟩,r⟩
  | rng lo hi=>obtain ⟨t,u,v,e⟩:=x;exact ⟨t,u,v,k _ _ (.inl rfl) e⟩
  | frz ob u ih=>obtain ⟨e,q⟩:=x;exact ⟨k _ _ (.inl rfl) e,ih q⟩
  | tbl ps=>
    have e:h.get? a=some { cls:=.none,data:=.fields ps }:=x
    show h'.get? a=some { cls:=.none,data:=.fields ps }
    exact k a _ (.inl rfl) e
  | met f y=>
    have e:h.get? a=some (PySem.W.methodObj (.ref f) (.ref y)):=x
    show h'.get? a=some (PySem.W.methodObj (.ref f) (.ref y))
    exact k a _ (.inl rfl) e
  | ext φ=>obtain ⟨p,⟨o,e⟩,st⟩:=x;exact ⟨st _ _ p fun o q=>k _ _ (.inl rfl) q,⟨o,k _ _ (.inl rfl) e⟩,st⟩
theorem HOk.lt (x:HOk P w H h) (e:H a=some o):a<h.objs.size:=(x a o e).lt
theorem HOk.fresh (x:HOk P w H h) (e:h.objs.size<=a):H a=none:=by
  cases q:H a with
  | none=>rfl
  | some u=>exact absurd (Nat.lt_of_lt_of_le (x.lt q) e) (Nat.lt_irrefl _)
theorem HOk.kept (x:HOk P w H h) (k:∀ b u,h.get? b=some u->h'.get? b=some u):HOk P w H h':=fun a o e=>
  (x a o e).stay (fun b u _ q=>k b u q) (fun _ q=>q) fun _ _ q=>q
theorem HOk.laid (x:HOk P w H h) (k:∀ b u,h.get? b=some u->h'.get? b=some u) (hp:h.objs.size<=a) (new:ObjOk P w (upd H a o) h' a o):HOk P w (upd H a o) h':=fun b u e=>by
  have hn:=x.fresh hp
  by_cases hb:b=a
  · subst hb;rw [Qaq] at e;cases e;exact new
  · rw [Qay hb] at e
    exact (x b u e).stay (fun c v _ q=>k c v q) (fun c q=>by rw [Qay (QaK q hn)];exact q) fun c xs q=>by rw [Qay (QaK q hn)];exact q
end
def Rd (H:Hp) (a:Addr) (u:HO):Prop:=H a=some u∨∃ o,H a=some (.frz o u)
theorem Rd.of {H:Hp} {a:Addr} {u:HO} (h:H a=some u):Rd H a u:=.inl h
theorem Rd.ok {P:Program} {w:World} {H:Hp} {h:Heap} {a:Addr} {u:HO} (r:Rd H a u) (x:HOk P w H h):ObjOk P w H h a u:=by
  rcases r with r | ⟨o,r⟩
  · exact x a u r
  · obtain ⟨_,q⟩:=x a _ r
    exact q
def Mut:Option HO->Prop
  | some (.lst _)=>True
  | some (.dK _)=>True
  | some (.dT _)=>True
  | some (.set _ _)=>True
  | some (.ins _ _ _)=>True
  | some (.ext _)=>True
  | _=>False
section
variable {P:Program} {w:World} {H:Hp} {h h':Heap} {x e:Addr} {o':HO}
theorem HOk.write (ok:HOk P w H h) (mu:Mut (H x)) (he:e=x∨H e=some (.own x)) (k:∀ b u,b≠e->h.get? b=some u->h'.get? b=some u) (heo:∃ u,h'.get? e=some u)
    (new:ObjOk P w (upd H x o') h' x o'):HOk P w (upd H x o') h':=fun b u q=>by
  have nown:∀ c y,H c=some (.own y)->c≠x:=fun c y r z=>by subst z;rw [r] at mu;exact mu
  have ntup:∀ c xs,H c=some (.tup xs)->c≠x:=fun c xs r z=>by subst z;rw [r] at mu;exact mu
  by_cases hb:b=x
  · subst hb;rw [Qaq] at q;cases q;exact new
  · rw [Qay hb] at q
    by_cases hbe:b=e
    · have q':H b=some (.own x):=by
        rcases he with z | z
        · exact absurd (hbe.trans z) hb
        · rw [hbe];exact z
      rw [q] at q';cases q'
      obtain ⟨v,hv⟩:=heo
      exact ⟨v,by rw [hbe];exact hv⟩
    · refine (ok b u q).stay (fun c v hc r=>k c v ?_ r) (fun c r=>by rw [Qay (nown c b r)];exact r) fun c xs r=>by rw [Qay (ntup c xs r)];exact r
      rcases hc with rfl | hc
      · exact hbe
      · rintro rfl
        rcases he with z | z
        · exact nown c b hc z
        · rw [hc] at z;cases z;exact hb rfl
end
structure Un (fs ex:List Addr) (H H':Hp) (h h':Heap):Prop where
  keep:∀ b o,h.get? b=some o->H b=none->b∉fs->b∉ex->h'.get? b=some o
  slot:∀ b o,h.get? b=some o->H b=none->b∈fs->b∉ex->∃ sl,h'.get? b=some { o with slots:=sl }
  free:∀ b o,h.get? b=some o->H b=none->b∉ex->H' b=none
  there:∀ b o,h.get? b=some o->b∉ex->∃ o',h'.get? b=some o'
  tups:∀ b xs,H b=some (.tup xs)->H' b=some (.tup xs)
  frzs:∀ b o u,H b=some (.frz o u)->H' b=some (.frz o u)
  tbls:∀ b ps,H b=some (.tbl ps)->∃ more,H' b=some (.tbl (ps++more))
section
variable {fs fs' ex ex':List Addr} {H H1 H2:Hp} {h h1 h2 h':Heap} {a x e:Addr} {o:HO}
theorem Un.any (u:Un fs ex H H1 h h1) {b:Addr} {ob:Obj} (q:h.get? b=some ob) (n:H b=none) (hx:b∉ex):∃ sl,h1.get? b=some { ob with slots:=sl }:=by
  by_cases hb:b∈fs
  · exact u.slot b ob q n hb hx
  · exact ⟨ob.slots,u.keep b ob q n hb hx⟩
theorem Un.trans (a:Un fs ex H H1 h h1) (b:Un fs ex H1 H2 h1 h2):Un fs ex H H2 h h2 where
  keep:=fun c ob q n hc hx=>b.keep c ob (a.keep c ob q n hc hx) (a.free c ob q n hx) hc hx
  slot:=fun c ob q n hc hx=>by
    obtain ⟨sl,e1⟩:=a.slot c ob q n hc hx
    obtain ⟨sl',e2⟩:=b.slot c _ e1 (a.free c ob q n hx) hc hx
    exact ⟨sl',e2⟩
  free:=fun c ob q n hx=>by
    obtain ⟨o',e1⟩:=a.there c ob q hx
    exact b.free c o' e1 (a.free c ob q n hx) hx
  there:=fun c ob q hx=>by
    obtain ⟨o',e1⟩:=a.there c ob q hx
    exact b.there c o' e1 hx
  tups:=fun c xs q=>b.tups c xs (a.tups c xs q)
  frzs:=fun c ob xs q=>b.frzs c ob xs (a.frzs c ob xs q)
  tbls:=fun c ps q=>by
    obtain ⟨m1,e1⟩:=a.tbls c ps q
    obtain ⟨m2,e2⟩:=b.tbls c _ e1
    exact ⟨m1++m2,by rw [e2,Array.append_assoc]⟩
theorem Un.kept (k:∀ b u,h.get? b=some u->h'.get? b=some u):Un fs ex H H h h':=
  ⟨fun b ob q _ _ _=>k b ob q,fun b ob q _ _ _=>⟨ob.slots,k b ob q⟩,fun _ _ _ n _=>n,fun b ob q _=>⟨ob,k b ob q⟩,fun _ _ q=>q,fun _ _ _ q=>q,fun _ ps q=>⟨#[],by rw [q];simp⟩⟩
theorem Un.refl:Un fs ex H H h h:=Un.kept fun _ _ q=>q
theorem Un.laid (k:∀ b u,h.get? b=some u->h'.get? b=some u) (hp:h.objs.size<=a) (hn:H a=none):Un fs ex H (upd H a o) h h' where
  keep:=fun b u q _ _ _=>k b u q
  slot:=fun b u q _ _ _=>⟨u.slots,k b u q⟩
  free:=fun b u q n _=>by rw [Qay (Nat.ne_of_lt (Nat.lt_of_lt_of_le (Heap.lt_size q) hp))];exact n
  there:=fun b u q _=>⟨u,k b u q⟩
  tups:=fun b xs q=>by rw [Qay (QaK q hn)];exact q
  frzs:=fun b u xs q=>by rw [Qay (QaK q hn)];exact q
  tbls:=fun b ps q=>⟨#[],by rw [Qay (QaK q hn),q];simp⟩
theorem Un.write (mu:Mut (H x)) (he:e=x∨H e=some (.own x)) (k:∀ b u,b≠e->h.get? b=some u->h'.get? b=some u) (heo:∃ u,h'.get? e=some u):Un fs ex H (upd H x o) h h':=by
  have hx:∀ b,H b=none->b≠x:=fun b n z=>by subst z;rw [n] at mu;exact mu
  have hb:∀ b,H b=none->b≠e:=fun b n z=>by
    subst z
    rcases he with r | r
    · exact hx b n r
    · rw [n] at r;cases r
  have hm:∀ b u,H b=some u->¬ Mut (some u)->b≠x:=fun b u q nm z=>by subst z;rw [q] at mu;exact nm mu
  refine ⟨fun b u q n _ _=>k b u (hb b n) q,fun b u q n _ _=>⟨u.slots,k b u (hb b n) q⟩,fun b u q n _=>by rw [Qay (hx b n)];exact n,fun b u q _=>?_,
    fun b xs q=>by rw [Qay (hm b _ q fun z=>z)];exact q,fun b u xs q=>by rw [Qay (hm b _ q fun z=>z)];exact q,fun b ps q=>⟨#[],by rw [Qay (hm b _ q fun z=>z),q];simp⟩⟩
  by_cases hbe:b=e
  · subst hbe;exact heo
  · exact ⟨u,k b u hbe q⟩
theorem Un.mono (u:Un fs ex H H1 h h1) (hs:∀ b∈fs,b∈fs') (hx:∀ b∈ex,b∈ex'):Un fs' ex' H H1 h h1:=
  ⟨fun b ob q n hb he=>u.keep b ob q n (fun z=>hb (hs b z)) fun z=>he (hx b z),fun _ _ q n _ he=>u.any q n fun z=>he (hx _ z),fun b ob q n he=>u.free b ob q n fun z=>he (hx b z),fun b ob q he=>u.there b ob q fun z=>he (hx b z),u.tups,u.frzs,u.tbls⟩
end
def trk (h:Heap) (H:Hp):List Addr:=(List.range h.objs.size).filter fun a=>(H a).isSome
def hidT (h:Heap) (H:Hp):Heap:=PySem.W.hideAll h (trk h H)
theorem Qid (h:Heap) (H:Hp):(hidT h H).objs.size=h.objs.size:=PySem.W.hideAll_size _ _
theorem QjQ {h:Heap} {H:Hp} {b:Addr} {o:Obj} (e:h.get? b=some o) (n:H b=none):(hidT h H).get? b=some o:=
  PySem.W.hideAll_get _ e fun hm=>by
    have q:(H b).isSome=true:=(List.mem_filter.mp hm).2
    rw [n] at q;simp at q
theorem QlM {h:Heap} {H:Hp} {b:Addr} {o:Obj} (e:(hidT h H).get? b=some o):h.get? b=some o/\H b=none:=by
  have e':h.get? b=some o:=PySem.W.of_hideAll (trk h H) e
  refine ⟨e',?_⟩
  cases q:H b with
  | none=>rfl
  | some x=>
    have hm:b∈trk h H:=List.mem_filter.mpr ⟨List.mem_range.mpr (Heap.lt_size e'),by simp [q]⟩
    have z:(hidT h H).get? b=none:=PySem.W.hideAll_none (trk h H) hm
    rw [z] at e;cases e
def Qmm (g h:Heap) (L:Addr):List (Addr×Obj):=(List.range h.objs.size).filterMap fun a=>if a=L∨(g.get? a).isSome=true then none else (h.get? a).map fun o=>(a,o)
def rest (g h:Heap) (L d:Addr):List (Addr×Obj):=(Qmm g h L).filter fun p=>decide (p.1≠d)
structure Mod (K:PySem.W.Frag) (mg:Str->Option Value) (base:Heap):Prop where
  kin:K.In base
  glob:base.Ns mainGlobals mg
  blt:∃ mb,base.Ns builtinsNs mb/\∀ x:Str,x ≠ "__name__" -> mb x=bootBuiltins x
  nolimit:base.NoLimit
structure Cx where
  prog:Program
  w:World
  K:PySem.W.Frag
  mg:Str->Option Value
  base:Heap
  A:Around
  N:List Str
  s₀:Shared
  H₀:Hp
  env:Env
  outer:List Env
  stack:List Env
  ex:List Addr
  fn:Str->Bool
  calm:Bool
  pn:List (Addr×Obj)
  xe:Value->Shared->Prop
def frs (l:List Env):List Addr:=l.filterMap (·.frame)
abbrev Cx.fs (X:Cx):List Addr:=frs X.outer
def Vis (sc:Scope) (x:Str):Prop:=sc.names.lookup x=some .local∨sc.names.lookup x=some .cell∨sc.names.lookup x=some .free
def Loc (sc:Scope) (x:Str):Prop:=sc.names.lookup x=some .local∨sc.names.lookup x=some .cell
def Look (env:Env) (h:Heap) (m:Str->Option Value) (x:Str) (u:Value):Prop:=
  (env.kindOf x=some .local/\m x=some u)∨((env.kindOf x=some .cell∨env.kindOf x=some .free)/\∃ c,env.cells.lookup x=some c/\h.IsCell c (some u))
structure Cx.Ok (X:Cx):Prop where
  mod:Mod X.K X.mg X.base
  kind:X.env.scope.kind=.function
  glob:X.env.globals=mainGlobals
  blt:X.env.builtins=builtinsNs
  above:X.s₀.heap.objs.size<=X.env.locals
  inj:∀ x y c,X.env.cells.lookup x=some c->X.env.cells.lookup y=some c->x=y
  has:∀ x,(X.env.kindOf x=some .cell∨X.env.kindOf x=some .free)->∃ c,X.env.cells.lookup x=some c
  cab:∀ x c,X.fn x=true->X.env.cells.lookup x=some c->X.s₀.heap.objs.size<=c
  hd:X.calm=true->X.A.handled=none
  frames:X.A.frames=some X.stack
  stk:X.stack=X.outer∨(X.stack=X.env::X.outer/\X.env.frame=some X.env.locals)
  exf:∀ b∈X.ex,b≠X.env.locals/\∀ x c,X.env.cells.lookup x=some c->c≠b
  bs:∀ b o,X.base.get? b=some o->X.s₀.heap.get? b=some o/\X.H₀ b=none
  bsz:X.base.objs.size<=X.s₀.heap.objs.size
  noex:∀ b o,X.base.get? b=some o->b∉X.ex
  exfs:∀ b∈X.ex,b∉X.fs
  funs:X.s₀.heap.FunFrames X.base X.outer
  frf:∀ b∈X.fs,X.H₀ b=none
structure Inv (X:Cx) (pins:List (Addr×Obj)) (σ:List (Option V)) (H:Hp) (s:Shared):Prop where
  ok:X.Ok
  os:s.os=X.s₀.os
  bare:AllBare s.gens
  base:Un X.fs X.ex X.H₀ H X.s₀.heap s.heap
  loc:∃ m,s.heap.Ns X.env.locals m/\∀ (i:Nat) (x:Str) (v:V),X.N[i]? = some x->σ[i]? = some (some v)->Vis X.env.scope x->∃ u,RelV v u/\Look X.env s.heap m x u
  cell:∀ x c,X.env.cells.lookup x=some c->∃ v,s.heap.IsCell c v
  free:H X.env.locals=none
  freeC:∀ x c,X.env.cells.lookup x=some c->H c=none
  pin:∀ p∈X.pn++pins,s.heap.get? p.1=some p.2/\H p.1=none/\p.1≠X.env.locals/\p.1∉X.fs/\∀ v,p.2.data≠.cell v
  hok:HOk X.prog X.w H s.heap
  len:σ.length=X.N.length
section
variable {X:Cx} {pins:List (Addr×Obj)} {σ:List (Option V)} {H H':Hp} {s:Shared} {h':Heap}
theorem Cx.Ok.nofr (ok:X.Ok) {b:Addr} {o:Obj} (e:X.base.get? b=some o):b∉X.fs:=fun hb=>by
  have:=(ok.funs.mem hb).1
  rw [e] at this;cases this
theorem Inv.bs (I:Inv X pins σ H s):∀ b o,X.base.get? b=some o->s.heap.get? b=some o/\H b=none:=fun b o e=>
  ⟨I.base.keep b o (I.ok.bs b o e).1 (I.ok.bs b o e).2 (I.ok.nofr e) (I.ok.noex b o e),I.base.free b o (I.ok.bs b o e).1 (I.ok.bs b o e).2 (I.ok.noex b o e)⟩
theorem Inv.bk (I:Inv X pins σ H s):∀ b o,X.base.get? b=some o->s.heap.get? b=some o:=fun b o e=>(I.bs b o e).1
theorem Inv.mod (I:Inv X pins σ H s):Mod X.K X.mg X.base:=I.ok.mod
theorem Inv.kIn (I:Inv X pins σ H s):X.K.In s.heap:=I.ok.mod.kin.keeps I.bk
theorem Inv.nolimit (I:Inv X pins σ H s):s.heap.NoLimit:=I.ok.mod.nolimit.keeps I.bk
theorem Inv.fr (I:Inv X pins σ H s):∃ m,Fr X.base X.env.locals s.heap m:=
  let ⟨m,hn,_⟩:=I.loc
  ⟨m,hn,I.bk,Nat.le_trans I.ok.bsz I.ok.above⟩
theorem Inv.lt (I:Inv X pins σ H s):X.env.locals<s.heap.objs.size:=let ⟨_,hn,_⟩:=I.loc;hn.lt
theorem Inv.sz (I:Inv X pins σ H s):X.s₀.heap.objs.size<=s.heap.objs.size:=Nat.le_trans I.ok.above (Nat.le_of_lt I.lt)
theorem Inv.nofs (I:Inv X pins σ H s) {a:Addr} (h:s.heap.objs.size<=a):a∉X.fs:=fun hb=>by
  obtain ⟨_,o,ho,_⟩:=I.ok.funs.mem hb
  exact absurd (Nat.lt_of_lt_of_le (Heap.lt_size ho) (Nat.le_trans I.sz h)) (Nat.lt_irrefl _)
theorem Inv.cne (I:Inv X pins σ H s):∀ x c,X.env.cells.lookup x=some c->c≠X.env.locals:=fun x c e z=>by
  obtain ⟨v,o,ho,hd⟩:=I.cell x c e
  obtain ⟨m,⟨o',es,ep,ho',hd',_⟩,_⟩:=I.loc
  rw [z,ho'] at ho;cases ho;rw [hd'] at hd;cases hd
theorem Inv.funs (I:Inv X pins σ H s):s.heap.FunFrames X.base X.outer:=by
  have all:∀ (l:List Env),(∀ b∈frs l,b∈X.fs)->X.s₀.heap.FunFrames X.base l->s.heap.FunFrames X.base l:=by
    intro l
    induction l with
    | nil=>intro _ _;trivial
    | cons env r ih=>
      intro hs hl
      obtain ⟨hk,⟨L,o,hf,hn,ho,hd⟩,hr⟩:=hl
      have hL:L∈X.fs:=hs L (by unfold frs;rw [List.filterMap_cons,hf];exact List.mem_cons_self)
      obtain ⟨sl,e⟩:=I.base.slot L o ho (I.ok.frf L hL) hL fun z=>I.ok.exfs L z hL
      exact ⟨hk,⟨L,_,hf,hn,e,hd⟩,ih (fun b hb=>hs b (by unfold frs;rw [List.filterMap_cons,hf];exact List.mem_cons_of_mem _ hb)) hr⟩
  exact all X.outer (fun _ hb=>hb) I.ok.funs
theorem Inv.stack (I:Inv X pins σ H s):s.heap.FunFrames X.base X.stack:=by
  rcases I.ok.stk with e | ⟨e,hf⟩
  · rw [e];exact I.funs
  · rw [e]
    obtain ⟨m,hn,_⟩:=I.loc
    refine .cons (by rw [I.ok.kind];decide) hf hn ?_ I.funs
    exact Heap.get?_none_of_le (Nat.le_trans I.ok.bsz I.ok.above)
theorem Inv.stkSub (I:Inv X pins σ H s):∀ b∈frs X.stack,b∈X.env.locals::X.fs:=fun b hb=>by
  rcases I.ok.stk with e | ⟨e,hf⟩
  · rw [e] at hb;exact List.mem_cons_of_mem _ hb
  · rw [e] at hb
    unfold frs at hb
    rw [List.filterMap_cons,hf] at hb
    exact hb
theorem Inv.stkFree (I:Inv X pins σ H s):∀ b∈frs X.stack,H b=none:=fun b hb=>by
  rcases List.mem_cons.mp (I.stkSub b hb) with e | hb
  · rw [e];exact I.free
  · obtain ⟨_,o,ho,_⟩:=I.ok.funs.mem hb
    exact I.base.free b o ho (I.ok.frf b hb) fun z=>I.ok.exfs b z hb
theorem Inv.step {g':Array GenState} {t':Nat} {d':Drawn} {ch:List Addr} (I:Inv X pins σ H s)
    (hch:∀ b∈ch,(b∈X.ex∨X.s₀.heap.objs.size<=b)/\b≠X.env.locals/\(∀ x c,X.env.cells.lookup x=some c->c≠b)/\∀ p∈X.pn++pins,p.1≠b)
    (keep:∀ b o,b≠X.env.locals->b∉X.fs->b∉ch->s.heap.get? b=some o->H b=none->h'.get? b=some o)
    (slot:∀ b o,b≠X.env.locals->b∈X.fs->b∉ch->s.heap.get? b=some o->H b=none->∃ sl,h'.get? b=some { o with slots:=sl }) (free:∀ b o,b∉ch->s.heap.get? b=some o->H b=none->H' b=none)
    (there:∀ b o,b∉ch->s.heap.get? b=some o->∃ o',h'.get? b=some o')
    (tups:∀ b xs,H b=some (.tup xs)->H' b=some (.tup xs)) (frzs:∀ b o u,H b=some (.frz o u)->H' b=some (.frz o u)) (tbls:∀ b ps,H b=some (.tbl ps)->∃ more,H' b=some (.tbl (ps++more)))
    (ns:∀ m,s.heap.Ns X.env.locals m->h'.Ns X.env.locals m) (hok:HOk X.prog X.w H' h') (hg:AllBare g') :
    Inv X pins σ H' { s with heap:=h',gens:=g',drawn:=d',toks:=t' }:=by
  have neL:∀ b o,X.s₀.heap.get? b=some o->b≠X.env.locals:=fun b o e=>Nat.ne_of_lt (Nat.lt_of_lt_of_le (Heap.lt_size e) I.ok.above)
  have neC:∀ b o,X.s₀.heap.get? b=some o->b∉X.ex->b∉ch:=fun b o e hx hb=>by
    rcases (hch b hb).1 with z | z
    · exact hx z
    · exact absurd (Nat.lt_of_lt_of_le (Heap.lt_size e) z) (Nat.lt_irrefl _)
  have cellK:∀ x c,X.env.cells.lookup x=some c->∀ v,s.heap.IsCell c v->h'.IsCell c v:=fun x c e v ⟨o,ho,hd⟩=>by
    have nch:c∉ch:=fun z=>(hch c z).2.2.1 x c e rfl
    by_cases hc:c∈X.fs
    · obtain ⟨sl,q⟩:=slot c o (I.cne x c e) hc nch ho (I.freeC x c e)
      exact ⟨_,q,hd⟩
    · exact ⟨o,keep c o (I.cne x c e) hc nch ho (I.freeC x c e),hd⟩
  refine ⟨I.ok,I.os,hg,⟨fun b o e n hb hx=>?_,fun b o e n hb hx=>?_,fun b o e n hx=>?_,fun b o e hx=>?_,fun b xs e=>tups b xs (I.base.tups b xs e),fun b o xs e=>frzs b o xs (I.base.frzs b o xs e),fun b ps e=>?_⟩,?_,fun x c e=>?_,?_,fun x c e=>?_,fun p hp=>?_,hok,I.len⟩
  · exact keep b o (neL b o e) hb (neC b o e hx) (I.base.keep b o e n hb hx) (I.base.free b o e n hx)
  · obtain ⟨sl,e1⟩:=I.base.slot b o e n hb hx
    obtain ⟨sl',e2⟩:=slot b _ (neL b o e) hb (neC b o e hx) e1 (I.base.free b o e n hx)
    exact ⟨sl',e2⟩
  · obtain ⟨o',e1⟩:=I.base.there b o e hx
    exact free b o' (neC b o e hx) e1 (I.base.free b o e n hx)
  · obtain ⟨o',e1⟩:=I.base.there b o e hx
    exact there b o' (neC b o e hx) e1
  · obtain ⟨m1,e1⟩:=I.base.tbls b ps e
    obtain ⟨m2,e2⟩:=tbls b _ e1
    exact ⟨m1++m2,by rw [e2,Array.append_assoc]⟩
  · obtain ⟨m,hn,hl⟩:=I.loc
    refine ⟨m,ns m hn,fun i x v e1 e2 e3=>?_⟩
    obtain ⟨u,r,l⟩:=hl i x v e1 e2 e3
    refine ⟨u,r,?_⟩
    rcases l with l | ⟨k,c,e,z⟩
    · exact .inl l
    · exact .inr ⟨k,c,e,cellK x c e _ z⟩
  · obtain ⟨v,z⟩:=I.cell x c e
    exact ⟨v,cellK x c e v z⟩
  · obtain ⟨m,⟨o,_,_,ho,_⟩,_⟩:=I.loc
    exact free _ o (fun z=>(hch _ z).2.1 rfl) ho I.free
  · obtain ⟨v,o,ho,hd⟩:=I.cell x c e
    exact free c o (fun z=>(hch c z).2.2.1 x c e rfl) ho (I.freeC x c e)
  · obtain ⟨e,n,ne,nf,d⟩:=I.pin p hp
    have nch:p.1∉ch:=fun z=>(hch p.1 z).2.2.2 p hp rfl
    exact ⟨keep p.1 p.2 ne nf nch e n,free p.1 p.2 nch e n,ne,nf,d⟩
theorem Inv.un {t':Nat} (I:Inv X pins σ H s) (u:Un X.fs [] H H' s.heap h') (hok:HOk X.prog X.w H' h'):Inv X pins σ H' { s with heap:=h',toks:=t' }:=by
  obtain ⟨m,⟨o,es,ep,ho,r⟩,_⟩:=id I.loc
  obtain ⟨sl,hL⟩:=u.any ho I.free (by simp)
  exact I.step (g':=s.gens) (d':=s.drawn) (ch:=[]) (fun _ z=>nomatch z) (fun b o _ hb _ e n=>u.keep b o e n hb (by simp)) (fun b o _ hb _ e n=>u.slot b o e n hb (by simp)) (fun b o _ e n=>u.free b o e n (by simp)) (fun b o _ e=>u.there b o e (by simp)) u.tups u.frzs u.tbls (fun m' hm=>by
    obtain ⟨o',es',ep',ho',r'⟩:=hm
    rw [ho] at ho';cases ho'
    exact ⟨_,es',ep',hL,r'⟩) hok I.bare
theorem Inv.call {g':Array GenState} {t':Nat} {d':Drawn} {ch:List Addr} (I:Inv X pins σ H s) (u:Un (frs X.stack) ch H H' s.heap h') (hok:HOk X.prog X.w H' h') (hg:AllBare g')
    (hch:∀ b∈ch,(b∈X.ex∨X.s₀.heap.objs.size<=b)/\b≠X.env.locals/\(∀ x c,X.env.cells.lookup x=some c->c≠b)/\∀ p∈X.pn++pins,p.1≠b) :
    Inv X pins σ H' { s with heap:=h',gens:=g',drawn:=d',toks:=t' }:=by
  obtain ⟨m,⟨o,es,ep,ho,r⟩,_⟩:=id I.loc
  obtain ⟨sl,hL⟩:=u.any ho I.free fun z=>(hch _ z).2.1 rfl
  exact I.step (ch:=ch) hch (fun b o hL hb hc e n=>u.keep b o e n (fun z=>(List.mem_cons.mp (I.stkSub b z)).elim hL hb) hc) (fun b o _ _ hc e n=>u.any e n hc) (fun b o hc e n=>u.free b o e n hc) (fun b o hc e=>u.there b o e hc) u.tups u.frzs u.tbls (fun m' hm=>by
    obtain ⟨o',es',ep',ho',r'⟩:=hm
    rw [ho] at ho';cases ho'
    exact ⟨_,es',ep',hL,r'⟩) hok hg
theorem Inv.turned {t':Nat} {it:Addr} (I:Inv X pins σ H s) (k:∀ b o,b≠it->s.heap.get? b=some o->h'.get? b=some o) (hn:H it=none) (hL:it≠X.env.locals)
    (h1:it∈X.ex∨X.s₀.heap.objs.size<=it) (h2:∀ x c,X.env.cells.lookup x=some c->c≠it) (h3:∀ p∈X.pn++pins,p.1≠it):Inv X pins σ H { s with heap:=h',toks:=t' }:=by
  have nit:∀ b u,H b=some u->b≠it:=fun b u e z=>by rw [z,hn] at e;cases e
  refine I.step (g':=s.gens) (d':=s.drawn) (ch:=[it]) (fun b hb=>?_) (fun b o _ _ hc e _=>k b o (fun z=>hc (by simp [z])) e) (fun b o _ _ hc e _=>⟨o.slots,k b o (fun z=>hc (by simp [z])) e⟩) (fun _ _ _ _ n=>n)
    (fun b o hc e=>⟨o,k b o (fun z=>hc (by simp [z])) e⟩) (fun _ _ e=>e) (fun _ _ _ e=>e) (fun b ps e=>⟨#[],by rw [e];simp⟩) (fun m hm=>?_) (fun b u e=>?_) I.bare
  · have e:b=it:=by simpa using hb
    subst e
    exact ⟨h1,hL,h2,h3⟩
  · obtain ⟨o,es,ep,ho,r⟩:=hm
    exact ⟨o,es,ep,k _ o (Ne.symm hL) ho,r⟩
  · refine (I.hok b u e).stay (fun c v hc q=>k c v ?_ q) (fun _ q=>q) fun _ _ q=>q
    rcases hc with z | z
    · rw [z];exact nit b u e
    · exact nit c _ z
theorem Inv.tok (I:Inv X pins σ H s) (t:Nat):Inv X pins σ H { s with toks:=t }:=I.un (h':=s.heap) (t':=t) Un.refl I.hok
theorem Inv.kept {t':Nat} (I:Inv X pins σ H s) (k:∀ b u,s.heap.get? b=some u->h'.get? b=some u):Inv X pins σ H { s with heap:=h',toks:=t' }:=I.un (Un.kept k) (I.hok.kept k)
theorem Inv.laid {a:Addr} {o:HO} {t':Nat} (I:Inv X pins σ H s) (k:∀ b u,s.heap.get? b=some u->h'.get? b=some u) (hp:s.heap.objs.size<=a) (new:ObjOk X.prog X.w (upd H a o) h' a o) :
    Inv X pins σ (upd H a o) { s with heap:=h',toks:=t' }:=I.un (Un.laid k hp (I.hok.fresh hp)) (I.hok.laid k hp new)
theorem Inv.write {x e:Addr} {o:HO} {t':Nat} (I:Inv X pins σ H s) (mu:Mut (H x)) (he:e=x∨H e=some (.own x)) (k:∀ b u,b≠e->s.heap.get? b=some u->h'.get? b=some u) (heo:∃ u,h'.get? e=some u)
    (new:ObjOk X.prog X.w (upd H x o) h' x o):Inv X pins σ (upd H x o) { s with heap:=h',toks:=t' }:=I.un (Un.write mu he k heo) (I.hok.write mu he k heo new)
theorem Inv.weak {σ':List (Option V)} (I:Inv X pins σ H s) (hl:σ'.length=σ.length) (w:∀ (i:Nat) v,σ'[i]? = some (some v)->σ[i]? = some (some v)):Inv X pins σ' H s:=
  ⟨I.ok,I.os,I.bare,I.base,let ⟨m,hn,hl'⟩:=I.loc;⟨m,hn,fun i x v e1 e2 e3=>hl' i x v e1 (w i v e2) e3⟩,I.cell,I.free,I.freeC,I.pin,I.hok,hl.trans I.len⟩
theorem Inv.pins_of {pins':List (Addr×Obj)} (I:Inv X pins σ H s) (h:∀ p∈pins',s.heap.get? p.1=some p.2/\H p.1=none/\p.1≠X.env.locals/\p.1∉X.fs/\∀ v,p.2.data≠.cell v):Inv X pins' σ H s:=
  ⟨I.ok,I.os,I.bare,I.base,I.loc,I.cell,I.free,I.freeC,fun p hp=>(List.mem_append.mp hp).elim (fun z=>I.pin p (List.mem_append_left _ z)) (h p),I.hok,I.len⟩
theorem Qf2 {N:List Str} (hN:N.Nodup) {i j:Nat} {x:Str} (a:N[i]? = some x) (b:N[j]? = some x):i=j:=by
  obtain ⟨h1,e1⟩:=List.getElem?_eq_some_iff.mp a
  obtain ⟨h2,e2⟩:=List.getElem?_eq_some_iff.mp b
  exact (List.getElem_inj hN).mp (e1.trans e2.symm)
theorem QeA {M:Model} {A:Around} {E:Value->Shared->Prop} {i:Nat} {x:Str} {v:V} {u:Value} {Q:Unit->Shared->Prop} (I:Inv X pins σ H s) (hN:X.N.Nodup) (hi:X.N[i]? = some x) (hx:Loc X.env.scope x) (r:RelV v u)
    (h:∀ s',Inv X pins (σ.set i (some v)) H s'->(∃ a,Heap.SameBut a s.heap s'.heap/\(a=X.env.locals∨X.env.cells.lookup x=some a))->Q () s') (hf:X.fn x=true∨X.env.scope.names.lookup x=some .local:=by first | exact .inl rfl | exact .inr rfl | assumption):wpAny M A (storeName X.env x u) Q E s:=by
  obtain ⟨m,hn,hl⟩:=id I.loc
  have hcls:(X.env.scope.kind == .class||(X.env.scope.kind == .module&&X.env.locals != X.env.globals))=false:=by rw [I.ok.kind];rfl
  have hiσ:i < σ.length:=by rw [I.len];exact (List.getElem?_eq_some_iff.mp hi).1
  have cne:=I.cne
  have tracked:∀ {a:Addr} {h':Heap},(∃ o,s.heap.get? a=some o/\H a=none)->Heap.SameBut a s.heap h'->HOk X.prog X.w H h':=fun {a h'} ha hs b ob e=>by
    obtain ⟨_,_,hfree⟩:=ha
    refine (I.hok b ob e).stay (fun c w' hc q=>(hs.2 c ?_).trans q) (fun _ q=>q) fun _ _ q=>q
    rintro rfl
    rcases hc with rfl | hc
    · rw [hfree] at e;cases e
    · rw [hfree] at hc;cases hc
  rcases hx with hk | hk
  · refine wpAny_storeName_local hk hn (fun h' hn' hs=>?_) hcls
    obtain ⟨oL,_,_,hoL,_⟩:=id hn
    refine h _ ⟨I.ok,I.os,I.bare,⟨fun b o e n hb hx=>?_,fun b o e n hb hx=>?_,I.base.free,fun b o e hx=>?_,I.base.tups,I.base.frzs,I.base.tbls⟩,⟨_,hn',fun j y v' e1 e2 e3=>?_⟩,fun y c e=>?_,I.free,I.freeC,fun p hp=>?_,tracked ⟨oL,hoL,I.free⟩ hs,by simpa using I.len⟩ ⟨_,hs,.inl rfl⟩
    · exact (hs.2 b (Nat.ne_of_lt (Nat.lt_of_lt_of_le (Heap.lt_size e) I.ok.above))).trans (I.base.keep b o e n hb hx)
    · obtain ⟨sl,e1⟩:=I.base.slot b o e n hb hx
      exact ⟨sl,(hs.2 b (Nat.ne_of_lt (Nat.lt_of_lt_of_le (Heap.lt_size e) I.ok.above))).trans e1⟩
    · obtain ⟨o',e1⟩:=I.base.there b o e hx
      exact ⟨o',(hs.2 b (Nat.ne_of_lt (Nat.lt_of_lt_of_le (Heap.lt_size e) I.ok.above))).trans e1⟩
    · by_cases hj:j=i
      · subst hj
        rw [hi] at e1;cases e1
        rw [List.getElem?_set_self hiσ] at e2
        cases e2
        exact ⟨u,r,.inl ⟨hk,by simp⟩⟩
      · rw [List.getElem?_set_ne (Ne.symm hj)] at e2
        obtain ⟨u',r',q⟩:=hl j y v' e1 e2 e3
        refine ⟨u',r',?_⟩
        rcases q with ⟨k,e⟩ | ⟨k,c,e,z⟩
        · refine .inl ⟨k,?_⟩
          have:y≠x:=fun e=>hj (Qf2 hN e1 (e ▸ hi))
          simp [this,e]
        · exact .inr ⟨k,c,e,z.sameBut hs (cne y c e)⟩
    · obtain ⟨w',z⟩:=I.cell y c e
      exact ⟨w',z.sameBut hs (cne y c e)⟩
    · obtain ⟨e,n,ne,nf,d⟩:=I.pin p hp
      exact ⟨(hs.2 p.1 ne).trans e,n,ne,nf,d⟩
  · have hfn:X.fn x=true:=by
      rcases hf with z | z
      · exact z
      · rw [z] at hk;cases hk
    obtain ⟨c,hc⟩:=I.ok.has x (.inl hk)
    obtain ⟨w',z⟩:=I.cell x c hc
    refine wpAny_storeName_cell I.ok.kind hk hc z (fun h' hc' hs=>?_)
    obtain ⟨oc,hoc,hocd⟩:=id z
    refine h { s with heap:=h' } ⟨I.ok,I.os,I.bare,⟨fun b o e n hb hx=>?_,fun b o e n hb hx=>?_,I.base.free,fun b o e hx=>?_,I.base.tups,I.base.frzs,I.base.tbls⟩,⟨m,hn.sameBut hs (Ne.symm (cne x c hc)),fun j y v' e1 e2 e3=>?_⟩,fun y c' e=>?_,I.free,I.freeC,fun p hp=>?_,tracked ⟨oc,hoc,I.freeC x c hc⟩ hs,by simpa using I.len⟩ ⟨c,hs,.inr hc⟩
    · exact (hs.2 b (Nat.ne_of_lt (Nat.lt_of_lt_of_le (Heap.lt_size e) (I.ok.cab x c hfn hc)))).trans (I.base.keep b o e n hb hx)
    · obtain ⟨sl,e1⟩:=I.base.slot b o e n hb hx
      exact ⟨sl,(hs.2 b (Nat.ne_of_lt (Nat.lt_of_lt_of_le (Heap.lt_size e) (I.ok.cab x c hfn hc)))).trans e1⟩
    · obtain ⟨o',e1⟩:=I.base.there b o e hx
      exact ⟨o',(hs.2 b (Nat.ne_of_lt (Nat.lt_of_lt_of_le (Heap.lt_size e) (I.ok.cab x c hfn hc)))).trans e1⟩
    · by_cases hj:j=i
      · subst hj
        rw [hi] at e1;cases e1
        rw [List.getElem?_set_self hiσ] at e2
        cases e2
        exact ⟨u,r,.inr ⟨.inl hk,c,hc,hc'⟩⟩
      · rw [List.getElem?_set_ne (Ne.symm hj)] at e2
        obtain ⟨u',r',q⟩:=hl j y v' e1 e2 e3
        refine ⟨u',r',?_⟩
        rcases q with q | ⟨k,c',e,z'⟩
        · exact .inl q
        · refine .inr ⟨k,c',e,z'.sameBut hs ?_⟩
          rintro rfl
          exact hj (Qf2 hN e1 (I.ok.inj _ _ _ e hc ▸ hi))
    · by_cases hcc:c'=c
      · subst hcc;exact ⟨_,hc'⟩
      · obtain ⟨w2,z2⟩:=I.cell y c' e
        exact ⟨w2,z2.sameBut hs hcc⟩
    · obtain ⟨e,n,ne,nf,d⟩:=I.pin p hp
      refine ⟨(hs.2 p.1 ?_).trans e,n,ne,nf,d⟩
      intro q
      rw [q,hoc] at e
      have q':oc=p.2:=Option.some.inj e
      exact d w' (by rw [<- q'];exact hocd)
theorem QfQ {M:Model} {A:Around} {E:Value->Shared->Prop} {i:Nat} {x:Str} {v:V} {u:Value} {Q:Unit->Shared->Prop} (I:Inv X pins σ H s) (hN:X.N.Nodup) (hi:X.N[i]? = some x) (hx:Loc X.env.scope x) (r:RelV v u)
    (h:∀ s',Inv X pins (σ.set i (some v)) H s'->Q () s') (hf:X.fn x=true∨X.env.scope.names.lookup x=some .local:=by first | exact .inl rfl | exact .inr rfl | assumption):wpAny M A (storeName X.env x u) Q E s:=
  QeA I hN hi hx r (fun s' I' _=>h s' I') hf
theorem Inv.call' {s':Shared} {ch:List Addr} (I:Inv X pins σ H s) (ho:s'.os=s.os) (u:Un (frs X.stack) ch H H' s.heap s'.heap) (hok:HOk X.prog X.w H' s'.heap) (hg:AllBare s'.gens)
    (hch:∀ b∈ch,(b∈X.ex∨X.s₀.heap.objs.size<=b)/\b≠X.env.locals/\(∀ x c,X.env.cells.lookup x=some c->c≠b)/\∀ p∈X.pn++pins,p.1≠b):Inv X pins σ H' s':=by
  obtain ⟨h',g',d',t',o'⟩:=s'
  have e:o'=s.os:=ho
  subst e
  exact I.call (g':=g') (t':=t') (d':=d') u hok hg hch
end
abbrev XK:=Value->Option Addr->Hp->Prop
abbrev St:=List (Option V)
abbrev VK:=V->Hp->Prop
abbrev TE:=St->Hp->VK->Prop
abbrev TT:=St->Hp->(Bool->Hp->Prop)->Prop
abbrev TA:=St->Hp->(List V->Hp->Prop)->Prop
structure Ends where
  nx:St->Hp->Prop
  rt:VK
  bk:St->Hp->Prop:=fun _ _=>False
  ct:St->Hp->Prop:=fun _ _=>False
abbrev TS:=Ends->St->Hp->Prop
def EP (X:Cx) (pins:List (Addr×Obj)) (σ:St) (Q:VK) (u:Value) (s':Shared):Prop:=∃ v H',Inv X pins σ H' s'/\RelV v u/\Q v H'
def TP (X:Cx) (pins:List (Addr×Obj)) (σ:St) (Q:Bool->Hp->Prop) (b:Bool) (s':Shared):Prop:=∃ H',Inv X pins σ H' s'/\Q b H'
def AP (X:Cx) (pins:List (Addr×Obj)) (σ:St) (Q:List V->Hp->Prop) (us:List Value) (s':Shared):Prop:=∃ vs H',Inv X pins σ H' s'/\Vals vs us/\Q vs H'
def SP (X:Cx) (pins:List (Addr×Obj)) (D:Ends) (f:Flow) (s':Shared):Prop:=
  match f with
  | .next=>∃ σ' H',Inv X pins σ' H' s'/\D.nx σ' H'
  | .brk=>∃ σ' H',Inv X pins σ' H' s'/\D.bk σ' H'
  | .cont=>∃ σ' H',Inv X pins σ' H' s'/\D.ct σ' H'
  | .ret u=>∃ v σ' H',Inv X pins σ' H' s'/\RelV v u/\D.rt v H'
def PE (X:Cx) (e:Expr) (t:TE):Prop:=
  ∀ (pins:List (Addr×Obj)) (s:Shared) (σ:St) (H:Hp) (Q:VK),Inv X pins σ H s->t σ H Q->wpAny (model X.prog X.w) X.A (eval e X.env) (EP X pins σ Q) X.xe s
def PT (X:Cx) (e:Expr) (t:TT):Prop:=
  ∀ (pins:List (Addr×Obj)) (s:Shared) (σ:St) (H:Hp) (Q:Bool->Hp->Prop),Inv X pins σ H s->t σ H Q->wpAny (model X.prog X.w) X.A (isTrue e X.env (eval e X.env)) (TP X pins σ Q) X.xe s
def PW (X:Cx) (e:Expr) (t:TT):Prop:=
  ∀ (whole:Sem Value) (pins:List (Addr×Obj)) (s:Shared) (σ:St) (H:Hp) (Q:Bool->Hp->Prop),Inv X pins σ H s->t σ H Q->wpAny (model X.prog X.w) X.A (isTrue e X.env whole) (TP X pins σ Q) X.xe s
theorem PW.pt {X:Cx} {e:Expr} {t:TT} (h:PW X e t):PT X e t:=h _
def PA (X:Cx) (es:List Expr) (t:TA):Prop:=
  ∀ (pos:Pos) (pins:List (Addr×Obj)) (s:Shared) (σ:St) (H:Hp) (Q:List V->Hp->Prop),Inv X pins σ H s->t σ H Q->wpAny (model X.prog X.w) X.A (spliced (backTo pos (starEach es X.env))) (AP X pins σ Q) X.xe s
def PS (X:Cx) (st:Stmt) (t:TS):Prop:=
  ∀ (pins:List (Addr×Obj)) (s:Shared) (σ:St) (H:Hp) (D:Ends),Inv X pins σ H s->t D σ H->wpAny (model X.prog X.w) X.A (exec st X.env) (SP X pins D) X.xe s
def PSs (X:Cx) (st:List Stmt) (t:TS):Prop:=
  ∀ (pins:List (Addr×Obj)) (s:Shared) (σ:St) (H:Hp) (D:Ends),Inv X pins σ H s->t D σ H->wpAny (model X.prog X.w) X.A (execs st X.env) (SP X pins D) X.xe s
theorem thn {α:Type} {t:Sem α} {Q Q':α->Shared->Prop} {M:Model} {A:Around} {E:Value->Shared->Prop} {s:Shared} (h:wpAny M A t Q E s) (hQ:∀ a s,Q a s->Q' a s):wpAny M A t Q' E s:=wpAny_mono h hQ fun _ _ x=>x
section
variable {X:Cx}
theorem bin {a b:Expr} {ta tb:TE} (ha:PE X a ta) (hb:PE X b tb) {pins:List (Addr×Obj)} {s:Shared} {σ:St} {H:Hp} {R:V->V->Hp->Prop} (I:Inv X pins σ H s) (h:ta σ H fun x H1=>tb σ H1 fun y H2=>R x y H2)
    {α:Type} {Q:α->Shared->Prop} {f:Value->Value->Sem α}
    (hf:∀ v u s2 x y H2,Inv X pins σ H2 s2->RelV x v->RelV y u->R x y H2->wpAny (model X.prog X.w) X.A (f v u) Q X.xe s2) :
    wpAny (model X.prog X.w) X.A (eval a X.env) (fun v s₁=>wpAny (model X.prog X.w) X.A (eval b X.env) (fun u s₂=>wpAny (model X.prog X.w) X.A (f v u) Q X.xe s₂) X.xe s₁) X.xe s:=by
  refine thn (ha pins s σ H _ I h) fun v s1 ⟨x,H1,I1,r1,q1⟩=>?_
  refine thn (hb pins s1 σ H1 _ I1 q1) fun u s2 ⟨y,H2,I2,r2,q2⟩=>?_
  exact hf v u s2 x y H2 I2 r1 r2 q2
def tVar (i:Nat):TE:=fun σ H Q=>∃ v,σ[i]? = some (some v)/\Q v H
def tC (v:V):TE:=fun _ H Q=>Q v H
theorem pe_var {i:Nat} {x:Str} {pos:Pos} (hN:X.N[i]? = some x) (hv:Vis X.env.scope x) (hd:(x == ("__debug__" : Str))=false:=by decide) (hcd:(x == ("__classdict__" : Str))=false:=by decide):PE X (.Name x pos) (tVar i):=by
  intro pins s σ H Q I h
  obtain ⟨v,e,h⟩:=h
  obtain ⟨m,hn,hl⟩:=I.loc
  obtain ⟨u,r,l⟩:=hl i x v hN e hv
  have fin:EP X pins σ Q u s:=⟨v,H,I,r,h⟩
  rcases l with ⟨hk,hm⟩ | ⟨hk,c,hc,hcell⟩
  · exact wpAny_Name (wpAny_loadName_local I.ok.kind hk hn hm fin) hd
  · rcases hk with hk | hk
    · exact wpAny_Name (wpAny_loadName_cell I.ok.kind hk hc hcell fin) hd
    · exact wpAny_Name (wpAny_loadName_free I.ok.kind hk hc hcell fin hcd) hd
theorem Qa5 {i j pos}:PE X (.Constant (.int i) j pos) (tC (.int i)):=fun _ _ _ H _ I h=>wpAny_Constant_int ⟨.int i,H,I.tok _,⟨_,rfl⟩,h⟩
theorem pe_bl {b j pos}:PE X (.Constant (.bool b) j pos) (tC (.bl b)):=fun _ _ _ H _ I h=>Constant_bool ⟨.bl b,H,I,rfl,h⟩
theorem pe_non {j pos}:PE X (.Constant .none j pos) (tC .non):=fun _ _ _ H _ I h=>Constant_none ⟨.non,H,I,rfl,h⟩
theorem pe_str {x j pos}:PE X (.Constant (.str x) j pos) (tC (.str x)):=fun _ _ _ H _ I h=>Calls.Constant_str ⟨.str x,H,I.tok _,⟨_,rfl⟩,h⟩
def Gl (X:Cx) (x:Str):Prop:=X.env.kindOf x=some .globalImplicit
theorem QlV {E:Value->Shared->Prop} {pins:List (Addr×Obj)} {s:Shared} {σ:St} {H:Hp} {x:Str} {u:Value} {pos:Pos} {Q:Value->Shared->Prop} (I:Inv X pins σ H s) (hg:Gl X x) (hm:X.mg x=some u) (h:Q u s)
    (hd:(x == ("__debug__" : Str))=false:=by decide):wpAny (model X.prog X.w) X.A (eval (.Name x pos) X.env) Q E s:=
  Calls.Name_function_global I.ok.kind hg (Calls.loadGlobal_global (by rw [I.ok.glob];exact I.mod.glob.keeps I.bk) hm h) hd
theorem QdM {E:Value->Shared->Prop} {pins:List (Addr×Obj)} {s:Shared} {σ:St} {H:Hp} {x:Str} {u:Value} {pos:Pos} {Q:Value->Shared->Prop} (I:Inv X pins σ H s) (hg:Gl X x) (hm:X.mg x=none) (hv:bootBuiltins x=some u) (h:Q u s)
    (hn:x ≠ "__name__" := by decide) (hd:(x == ("__debug__" : Str))=false:=by decide):wpAny (model X.prog X.w) X.A (eval (.Name x pos) X.env) Q E s:=by
  obtain ⟨mb,h1,h2⟩:=I.mod.blt
  exact Calls.Name_function_global I.ok.kind hg (Calls.loadGlobal_builtin (by rw [I.ok.glob];exact I.mod.glob.keeps I.bk) hm (by rw [I.ok.blt];exact h1.keeps I.bk) ((h2 x hn).trans hv) h) hd
theorem Qlh {x:Str} {v:V} {u:Value} {pos:Pos} (hg:Gl X x) (hm:X.mg x=none) (hv:bootBuiltins x=some u) (r:RelV v u) (hn:x ≠ "__name__" := by decide) (hd:(x == ("__debug__" : Str))=false:=by decide):PE X (.Name x pos) (tC v):=
  fun _ _ _ H _ I h=>QdM I hg hm hv ⟨v,H,I,r,h⟩ hn hd
variable {a b:Expr} {ta tb:TE} {pos:Pos}
def PC (X:Cx) (op:CmpOp) (a b:Expr) (t:TE):Prop:=
  ∀ (pins:List (Addr×Obj)) (s:Shared) (σ:St) (H:Hp) (Q:VK),Inv X pins σ H s->t σ H Q ->
    wpAny (model X.prog X.w) X.A (eval a X.env) (fun v s₁=>wpAny (model X.prog X.w) X.A (eval b X.env) (fun u s₂=>wpAny (model X.prog X.w) X.A (compareOp op v u) (EP X pins σ Q) X.xe s₂) X.xe s₁) X.xe s
theorem QjH (b:Expr) {op:CmpOp} (h:op≠.In) (h2:op≠.NotIn):behindInMarks op b=false:=by
  have e1:(op == CmpOp.In)=false:=by cases op<;>first | rfl | exact absurd rfl h
  have e2:(op == CmpOp.NotIn)=false:=by cases op<;>first | rfl | exact absurd rfl h2
  cases b<;>simp [behindInMarks,e1,e2]
def tB (t:TE):TT:=fun σ H Q=>t σ H fun x H1=>∃ c,x=.bl c/\Q c H1
theorem pt_cmp {op:CmpOp} {t:TE} (h:PC X op a b t) (h1:behindInMarks op b=false:=by first | exact QjH _ (by decide) (by decide) | rfl):PT X (.Compare a [op] [b] pos) (tB t):=by
  intro pins s σ H Q I hw
  refine wpAny_isTrue_Compare1 (thn (h pins s σ H _ I hw) fun v s1 h1=>thn h1 fun u s2 h2=>thn h2 fun c s3 ⟨x,H1,I1,r1,q1⟩=>?_) h1
  obtain ⟨d,rfl,q⟩:=q1
  cases r1
  exact wpAny_truthy_bool ⟨H1,I1,q⟩
theorem pt_val {e:Expr} {t:TE} (h:PE X e t) (he:∀ whole,isTrue e X.env whole=(do let v <- whole;standAt e.pos;holding [v] (truthy v)):=by intro _;rfl):PT X e (tB t):=by
  intro pins s σ H Q I hw
  refine isTrue_plain (thn (h pins s σ H _ I hw) fun v s1 ⟨x,H1,I1,r1,q1⟩=>?_) (he _)
  obtain ⟨d,rfl,q⟩:=q1
  cases r1
  exact wpAny_truthy_bool ⟨H1,I1,q⟩
variable {tA tB':TT} {rest:List Expr}
def tOr (t u:TT):TT:=fun σ H Q=>t σ H fun c H1=>if c=true then Q true H1 else u σ H1 Q
def tNot (t:TT):TT:=fun σ H Q=>t σ H fun c H1=>Q (!c) H1
theorem pw_or1 (ha:PT X a tA):PW X (.BoolOp .Or [a] pos) tA:=by
  intro wh pins s σ H Q I h
  refine isTrue_or (thn (ha pins s σ H Q I h) fun c s1 e=>?_)
  cases c with
  | false=>exact isTrue_or_nil e
  | true=>exact e
theorem pw_or (ha:PT X a tA) (hb:PW X (.BoolOp .Or (b::rest) pos) tB'):PW X (.BoolOp .Or (a::b::rest) pos) (tOr tA tB'):=by
  intro wh pins s σ H Q I h
  refine isTrue_or (thn (ha pins s σ H _ I h) fun c s1 ⟨H1,I1,q1⟩=>?_)
  cases c with
  | true=>exact ⟨H1,I1,q1⟩
  | false=>exact hb wh pins s1 σ H1 Q I1 q1
theorem pt_not (ha:PT X a tA):PT X (.UnaryOp .Not a pos) (tNot tA):=by
  intro pins s σ H Q I h
  exact isTrue_not (ha pins s σ H (fun c H1=>Q (!c) H1) I h)
def tAndV (ta tb:TE):TE:=fun σ H Q=>ta σ H fun x H1=>∃ c,x=.bl c/\if c=true then tb σ H1 Q else Q (.bl false) H1
def tOrV (ta tb:TE):TE:=fun σ H Q=>ta σ H fun x H1=>∃ c,x=.bl c/\if c=true then Q (.bl true) H1 else tb σ H1 Q
def tNotV (ta:TE):TE:=fun σ H Q=>ta σ H fun x H1=>∃ c,x=.bl c/\Q (.bl (!c)) H1
theorem pe_one {op} {t:TE} (h:PE X a t):PE X (.BoolOp op [a] pos) t:=fun pins s σ H Q I hw=>BoolOp_one (h pins s σ H Q I hw)
theorem pe_and (ha:PE X a ta) (hb:PE X (.BoolOp .And (b::rest) pos) tb):PE X (.BoolOp .And (a::b::rest) pos) (tAndV ta tb):=by
  intro pins s σ H Q I h
  refine BoolOp_and (thn (ha pins s σ H _ I h) fun v s1 ⟨x,H1,I1,r1,q1⟩=>?_)
  obtain ⟨c,rfl,q1⟩:=q1
  cases r1
  refine wpAny_truthy_bool ?_
  cases c with
  | true=>exact hb pins s1 σ H1 Q I1 q1
  | false=>exact ⟨.bl false,H1,I1,rfl,q1⟩
theorem pe_or (ha:PE X a ta) (hb:PE X (.BoolOp .Or (b::rest) pos) tb):PE X (.BoolOp .Or (a::b::rest) pos) (tOrV ta tb):=by
  intro pins s σ H Q I h
  refine BoolOp_or (thn (ha pins s σ H _ I h) fun v s1 ⟨x,H1,I1,r1,q1⟩=>?_)
  obtain ⟨c,rfl,q1⟩:=q1
  cases r1
  refine wpAny_truthy_bool ?_
  cases c with
  | false=>exact hb pins s1 σ H1 Q I1 q1
  | true=>exact ⟨.bl true,H1,I1,rfl,q1⟩
theorem pe_not (ha:PE X a ta):PE X (.UnaryOp .Not a pos) (tNotV ta):=by
  intro pins s σ H Q I h
  refine UnaryOp_ (thn (ha pins s σ H _ I h) fun v s1 ⟨x,H1,I1,r1,q1⟩=>?_)
  obtain ⟨c,rfl,q1⟩:=q1
  cases r1
  exact not_of (wpAny_truthy_bool ⟨.bl (!c),H1,I1,rfl,q1⟩)
end
def SqL (K:PySem.W.Frag) (H:Hp) (a:Addr) (xs:List V):Prop:=
  Rd H a (.lst xs) ∨
    ∃ (o:Obj) (its:Array Value) (n:Nat),K.lookup a=some o/\o.cls=.type "list" /\ o.dict=none/\o.data=.seq its n/\its.size<=sizeLine/\Vals xs its.toList
def SqT (K:PySem.W.Frag) (H:Hp) (a:Addr) (xs:List V):Prop:=
  Rd H a (.tup xs) ∨
    ∃ (o:Obj) (its:Array Value) (n:Nat),K.lookup a=some o/\o.cls=.type "tuple" /\ o.data=.seq its n/\its.size<=sizeLine/\Vals xs its.toList
def absV:Value->Option V
  | .none=>some .non
  | .bool b=>some (.bl b)
  | .int i _=>some (.int i)
  | .str x _=>some (.str x)
  | .bytes b _=>some (.byt b)
  | .float b _=>some (.flt b)
  | .ref a=>some (.ref a)
  | .type n=>some (.ty n)
  | _=>none
theorem RelV.abs {x:V} {u:Value} (r:RelV x u):absV u=some x:=by
  cases x with
  | non=>cases r;rfl
  | bl _=>cases r;rfl
  | int _=>obtain ⟨t,rfl⟩:=r;rfl
  | str _=>obtain ⟨t,rfl⟩:=r;rfl
  | byt _=>obtain ⟨t,rfl⟩:=r;rfl
  | flt _=>obtain ⟨t,rfl⟩:=r;rfl
  | ref _=>cases r;rfl
  | ty _=>cases r;rfl
theorem RelV.inj {x y:V} {u:Value} (r:RelV x u) (q:RelV y u):x=y:=Option.some.inj (r.abs.symm.trans q.abs)
theorem Vals.inj:∀ {xs ys:List V} {us:List Value},Vals xs us->Vals ys us->xs=ys
  | _,_,_,.nil,.nil=>rfl
  | _,_,_,.cons r t,.cons r' t'=>by rw [r.inj r',Vals.inj t t']
section
variable {X:Cx} {pins:List (Addr×Obj)} {σ:St} {H:Hp} {s:Shared} {a:Addr} {xs ys:List V}
theorem SqL.of {K:PySem.W.Frag} (h:H a=some (.lst xs)):SqL K H a xs:=.inl (.inl h)
theorem SqT.of {K:PySem.W.Frag} (h:H a=some (.tup xs)):SqT K H a xs:=.inl (.inl h)
theorem Inv.list (I:Inv X pins σ H s) (h:SqL X.K H a xs):∃ its:List Value,Vals xs its/\PlainL s.heap a its.toArray/\xs.length<=sizeLine:=by
  rcases h with h | ⟨o,its,n,hk,hc,hd,hs,hz,r⟩
  · obtain ⟨z,its,n,r,e⟩:=h.ok I.hok
    exact ⟨its,r,⟨_,n,e,rfl,rfl,rfl⟩,z⟩
  · refine ⟨its.toList,r,⟨o,n,I.kIn a o hk,hc,hd,by simpa using hs⟩,?_⟩
    have e:=r.length
    simp only [Array.length_toList] at e
    omega
theorem Inv.tuple (I:Inv X pins σ H s) (h:SqT X.K H a xs):∃ its:List Value,Vals xs its/\IsTup s.heap a its.toArray/\xs.length<=sizeLine:=by
  rcases h with h | ⟨o,its,n,hk,hc,hs,hz,r⟩
  · obtain ⟨z,its,r,p⟩:=h.ok I.hok
    exact ⟨its,r,p,z⟩
  · refine ⟨its.toList,r,⟨o,I.kIn a o hk,hc,n,by simpa using hs⟩,?_⟩
    have e:=r.length
    simp only [Array.length_toList] at e
    omega
theorem Inv.list_inj (I:Inv X pins σ H s) (h:SqL X.K H a xs) (h':SqL X.K H a ys):xs=ys:=by
  obtain ⟨its,r,⟨o,n,e,_,_,d⟩,_⟩:=I.list h
  obtain ⟨its',r',⟨o',n',e',_,_,d'⟩,_⟩:=I.list h'
  rw [e] at e';cases e'
  rw [d] at d'
  injection d' with d1 _
  have:its=its':=by simpa using congrArg Array.toList d1
  subst this
  exact r.inj r'
theorem Inv.tuple_inj (I:Inv X pins σ H s) (h:SqT X.K H a xs) (h':SqT X.K H a ys):xs=ys:=by
  obtain ⟨its,r,⟨o,e,_,n,d⟩,_⟩:=I.tuple h
  obtain ⟨its',r',⟨o',e',_,n',d'⟩,_⟩:=I.tuple h'
  rw [e] at e';cases e'
  rw [d] at d'
  injection d' with d1 _
  have:its=its':=by simpa using congrArg Array.toList d1
  subst this
  exact r.inj r'
end
abbrev Cx.wish (X:Cx) (E:Value->Shared->Prop):Cx:={ X with xe:=E }
abbrev Cx.nox (X:Cx):Cx:=X.wish fun _ _=>False
theorem Cx.Ok.wish {X:Cx} (ok:X.Ok) (E:Value->Shared->Prop):(X.wish E).Ok:=
  ⟨ok.mod,ok.kind,ok.glob,ok.blt,ok.above,ok.inj,ok.has,ok.cab,ok.hd,ok.frames,ok.stk,ok.exf,ok.bs,ok.bsz,ok.noex,ok.exfs,ok.funs,ok.frf⟩
theorem Cx.Ok.unwish {X:Cx} {E:Value->Shared->Prop} (ok:(X.wish E).Ok):X.Ok:=
  ⟨ok.mod,ok.kind,ok.glob,ok.blt,ok.above,ok.inj,ok.has,ok.cab,ok.hd,ok.frames,ok.stk,ok.exf,ok.bs,ok.bsz,ok.noex,ok.exfs,ok.funs,ok.frf⟩
section
variable {X:Cx} {pins:List (Addr×Obj)} {σ:St} {H:Hp} {s:Shared} {E:Value->Shared->Prop}
theorem Inv.wish (I:Inv X pins σ H s) (E:Value->Shared->Prop):Inv (X.wish E) pins σ H s:=⟨I.ok.wish E,I.os,I.bare,I.base,I.loc,I.cell,I.free,I.freeC,I.pin,I.hok,I.len⟩
theorem Inv.unwish (I:Inv (X.wish E) pins σ H s):Inv X pins σ H s:=⟨I.ok.unwish,I.os,I.bare,I.base,I.loc,I.cell,I.free,I.freeC,I.pin,I.hok,I.len⟩
theorem SP.unwish {D:Ends} {f:Flow} {s':Shared} (h:SP (X.wish E) pins D f s'):SP X pins D f s':=by
  cases f with
  | next=>obtain ⟨σ',H',I,q⟩:=h;exact ⟨σ',H',I.unwish,q⟩
  | brk=>obtain ⟨σ',H',I,q⟩:=h;exact ⟨σ',H',I.unwish,q⟩
  | cont=>obtain ⟨σ',H',I,q⟩:=h;exact ⟨σ',H',I.unwish,q⟩
  | ret u=>obtain ⟨v,σ',H',I,r,q⟩:=h;exact ⟨v,σ',H',I.unwish,r,q⟩
theorem PE.nox {e:Expr} {t:TE} (h:PE X.nox e t):PE X e t:=fun pins s σ H Q I hw=>
  wpAny_mono (h pins s σ H Q (I.wish _) hw) (fun _ _ ⟨v,H',I',r,q⟩=>⟨v,H',I'.unwish,r,q⟩) fun _ _ z=>False.elim z
theorem PT.nox {e:Expr} {t:TT} (h:PT X.nox e t):PT X e t:=fun pins s σ H Q I hw=>
  wpAny_mono (h pins s σ H Q (I.wish _) hw) (fun _ _ ⟨H',I',q⟩=>⟨H',I'.unwish,q⟩) fun _ _ z=>False.elim z
theorem PSs.nox {st:List Stmt} {t:TS} (h:PSs X.nox st t):PSs X st t:=fun pins s σ H D I hw=>
  wpAny_mono (h pins s σ H D (I.wish _) hw) (fun _ _ q=>q.unwish) fun _ _ z=>False.elim z
end
section
variable {X:Cx} {st:Stmt} {rest:List Stmt} {t u:TS} {e:Expr} {te:TE} {pos:Pos}
def tNext:TS:=fun D σ H=>D.nx σ H
def tSeq (t u:TS):TS:=fun D σ H=>t { D with nx:=u D } σ H
theorem Qfk:PSs X [] tNext:=fun _ _ σ H _ I h=>wpAny_execs_nil ⟨σ,H,I,h⟩
theorem Qbk (h1:PS X st t) (h2:PSs X rest u):PSs X (st::rest) (tSeq t u):=by
  intro pins s σ H D I h
  refine wpAny_execs_cons (thn (h1 pins s σ H { D with nx:=u D } I h) fun f s1 q=>?_)
  cases f with
  | next=>
    obtain ⟨σ',H',I',q⟩:=q
    exact h2 pins s1 σ' H' D I' q
  | ret v=>exact q
  | brk=>exact q
  | cont=>exact q
theorem Qce (h1:PS X st t):PSs X [st] t:=by
  intro pins s σ H D I h
  refine wpAny_execs_cons (thn (h1 pins s σ H D I h) fun f s1 q=>?_)
  cases f with
  | next=>exact wpAny_execs_nil q
  | ret v=>exact q
  | brk=>exact q
  | cont=>exact q
theorem Inv.quiet {pins:List (Addr×Obj)} {σ:St} {H:Hp} {s:Shared} (I:Inv X pins σ H s):interactive X.env=false:=by simp [interactive,I.ok.kind]
def QkO (te:TE):TS:=fun D σ H=>te σ H fun _ H1=>D.nx σ H1
theorem Qhv (he:PE X e te) (hs:swapsWith e none pos.line X.env=pure false:=by rfl):PS X (.Expr e pos) (QkO te):=by
  intro pins s σ H D I h
  exact wpAny_Expr_any (thn (he pins s σ H _ I h) fun v s1 ⟨x,H1,I1,r1,q1⟩=>⟨σ,H1,I1,q1⟩) I.quiet hs
def tRet (te:TE):TS:=fun D σ H=>te σ H D.rt
theorem Qc7 (he:PE X e te):PS X (.Return (some e) pos) (tRet te):=by
  intro pins s σ H D I h
  exact wpAny_Return_some (thn (he pins s σ H _ I h) fun v s1 ⟨x,H1,I1,r1,q1⟩=>⟨x,σ,H1,I1,r1,q1⟩)
def tIfS (c:TT) (t u:TS):TS:=fun D σ H=>c σ H fun b H1=>if b=true then t D σ H1 else u D σ H1
theorem Qk5 {c:Expr} {a b:List Stmt} {tc:TT} (hc:PT X c tc) (ha:PSs X a t) (hb:PSs X b u):PS X (.If c a b pos) (tIfS tc t u):=by
  intro pins s σ H D I h
  refine wpAny_If (thn (hc pins s σ H _ I h) fun d s1 ⟨H1,I1,q1⟩=>?_)
  cases d with
  | true=>exact ha pins s1 σ H1 D I1 q1
  | false=>exact hb pins s1 σ H1 D I1 q1
end
abbrev TG:=V->St->Hp->(St->Hp->Prop)->Prop
abbrev TGs:=List V->St->Hp->(St->Hp->Prop)->Prop
def PG (X:Cx) (target:Expr) (t:TG):Prop:=
  ∀ (pins:List (Addr×Obj)) (s:Shared) (σ:St) (H:Hp) (v:V) (u:Value) (Q:St->Hp->Prop),Inv X pins σ H s->RelV v u->t v σ H Q ->
    wpAny (model X.prog X.w) X.A (assign target X.env u) (fun _ s'=>∃ σ' H',Inv X pins σ' H' s'/\Q σ' H') X.xe s
def PGs (X:Cx) (ts:List Expr) (t:TGs):Prop:=
  ∀ (pins:List (Addr×Obj)) (s:Shared) (σ:St) (H:Hp) (vs:List V) (us:List Value) (Q:St->Hp->Prop),Inv X pins σ H s->Vals vs us->t vs σ H Q ->
    wpAny (model X.prog X.w) X.A (assignInOrder ((assignEach ts X.env).map (·.2)) us) (fun _ s'=>∃ σ' H',Inv X pins σ' H' s'/\Q σ' H') X.xe s
abbrev TSet:=V->V->V->Hp->(Hp->Prop)->Prop
def PSet (X:Cx) (t:TSet):Prop:=
  ∀ (pins:List (Addr×Obj)) (s:Shared) (σ:St) (H:Hp) (o i v:V) (ov iv u:Value) (Q:Hp->Prop),Inv X pins σ H s->RelV o ov->RelV i iv->RelV v u->t o i v H Q ->
    wpAny (model X.prog X.w) X.A (setItem ov iv u) (fun _ s'=>∃ H',Inv X pins σ H' s'/\Q H') X.xe s
abbrev TIp:=V->V->Hp->VK->Prop
def PIp (X:Cx) (op:Operator) (t:TIp):Prop:=
  ∀ (pins:List (Addr×Obj)) (s:Shared) (σ:St) (H:Hp) (x y:V) (v u:Value) (Q:VK),Inv X pins σ H s->RelV x v->RelV y u->t x y H Q ->
    wpAny (model X.prog X.w) X.A (inplaceOp op v u) (EP X pins σ Q) X.xe s
section
variable {X:Cx} {pos:Pos}
def QeU (i:Nat):TG:=fun v σ H Q=>Q (σ.set i (some v)) H
theorem Qfl {i:Nat} {x:Str} (hN:X.N.Nodup) (hi:X.N[i]? = some x) (hx:Loc X.env.scope x) (hf:X.fn x=true∨X.env.scope.names.lookup x=some .local:=by first | exact .inl rfl | exact .inr rfl | assumption):PG X (.Name x pos) (QeU i):=by
  intro pins s σ H v u Q I r h
  exact wpAny_assign_Name (QfQ I hN hi hx r (fun s' I'=>⟨_,H,I',h⟩) hf)
def gNil:TGs:=fun vs σ H Q=>vs=[]/\Q σ H
def gCons (t:TG) (u:TGs):TGs:=fun vs σ H Q=>∃ v r,vs=v::r/\t v σ H fun σ' H'=>u r σ' H' Q
theorem Qlc:PGs X [] gNil:=by
  intro pins s σ H vs us Q I r h
  obtain ⟨e,h⟩:=h
  subst e
  cases r
  exact assignInOrder_nil ⟨σ,H,I,h⟩
theorem Qja {e:Expr} {es:List Expr} {t:TG} {u:TGs} (h1:PG X e t) (h2:PGs X es u)
    (hs:(assignEach (e::es) X.env).map (·.2)=assign e X.env::(assignEach es X.env).map (·.2):=by rfl):PGs X (e::es) (gCons t u):=by
  intro pins s σ H vs us Q I r h
  obtain ⟨v,vr,e1,h⟩:=h
  subst e1
  cases r with
  | cons r rr=>
    rw [hs]
    refine assignInOrder_cons (thn (h1 pins s σ H _ _ _ I r h) fun _ s1 ⟨σ1,H1,I1,q1⟩=>?_)
    exact h2 pins s1 σ1 H1 _ _ Q I1 rr q1
def gTup (K:PySem.W.Frag) (n:Nat) (t:TGs):TG:=fun v σ H Q=>∃ a xs,v=.ref a/\SqT K H a xs/\xs.length=n/\t xs σ H Q
theorem pg_tup {es:List Expr} {k:Nat} {t:TGs} {n:Nat} (hc:X.calm=true) (h:PGs X es t)
    (hn:(assignEach es X.env).length=n:=by rfl) (hst:(assignEach es X.env).findIdx? (·.1)=none:=by rfl):PG X (.Tuple es k pos) (gTup X.K n t):=by
  intro pins s σ H v u Q I r hw
  obtain ⟨a,xs,e1,hq,hl,hw⟩:=hw
  subst e1
  cases r
  obtain ⟨its,rv,ht,hz⟩:=I.tuple hq
  refine assign_Tuple_tuple (I.ok.hd hc) ht (by simp [hn,<- hl,rv.length]) hst fun h' hx=>?_
  have I1:Inv X pins σ H { s with heap:=h' }:=I.kept (t':=s.toks) fun b o e=>hx b o (Nat.ne_of_lt (Heap.lt_size e)) e
  exact h pins _ σ H xs _ Q I1 (by simpa using rv) hw
def gSub (to ti:TE) (t:TSet):TG:=fun v σ H Q=>to σ H fun o H1=>ti σ H1 fun i H2=>t o i v H2 fun H3=>Q σ H3
theorem pg_sub {o i:Expr} {to ti:TE} {t:TSet} (ho:PE X o to) (hi:PE X i ti) (hs:PSet X t)
    (ha:∀ v,assign (.Subscript o i pos) X.env v=(do
      let ov <- holding [v] (eval o X.env)
      let iv <- holding [v,ov] (eval i X.env)
      standAt pos
      holding [v,ov,iv] (setItem ov iv v)
      release [v,ov,iv] []):=by intro _;rfl):PG X (.Subscript o i pos) (gSub to ti t):=by
  intro pins s σ H v u Q I r h
  rw [ha]
  refine wpAny_bind (wpAny_holding (thn (ho pins s σ H _ I h) fun ov s1 ⟨x,H1,I1,r1,q1⟩=>?_))
  refine wpAny_bind (wpAny_holding (thn (hi pins s1 σ H1 _ I1 q1) fun iv s2 ⟨y,H2,I2,r2,q2⟩=>?_))
  refine wpAny_bind (wpAny_standAt (wpAny_bind (wpAny_holding (thn (hs pins s2 σ H2 x y v ov iv u _ I2 r1 r2 r q2) fun _ s3 ⟨H3,I3,q3⟩=>?_))))
  exact wpAny_release ⟨σ,H3,I3,q3⟩
def tAsg (te:TE) (g:TG):TS:=fun D σ H=>te σ H fun x H1=>g x σ H1 D.nx
theorem Qkc {tg e:Expr} {te:TE} {g:TG} (he:PE X e te) (hg:PG X tg g) (hs:swapsWithSole [tg] e pos.line X.env=pure false:=by rfl) (hw:swappedStores [tg] e X.env=pure none:=by rfl)
    (h1:(assignEach [tg] X.env).map (·.2)=[assign tg X.env]:=by rfl):PS X (.Assign [tg] e pos) (tAsg te g):=by
  intro pins s σ H D I h
  refine wpAny_Assign_stores (thn (he pins s σ H _ I h) fun v s1 ⟨x,H1,I1,r1,q1⟩=>?_) hs hw
  rw [h1]
  exact thn (hg pins s1 σ H1 x v _ I1 r1 q1) fun _ s2 q=>q
theorem QcQ {i:Nat} {x:Str} {e:Expr} {te:TE} {pos':Pos} (hN:X.N.Nodup) (hi:X.N[i]? = some x) (hx:Loc X.env.scope x) (he:PE X e te) (hs:swapsWith e (some (.Name x pos')) pos.line X.env=pure false:=by rfl) (hf:X.fn x=true∨X.env.scope.names.lookup x=some .local:=by first | exact .inl rfl | exact .inr rfl | assumption) :
    PS X (.Assign [.Name x pos'] e pos) (tAsg te (QeU i)):=by
  intro pins s σ H D I h
  refine wpAny_Assign_Name (thn (he pins s σ H _ I h) fun v s1 ⟨y,H1,I1,r1,q1⟩=>?_) hs
  exact QfQ I1 hN hi hx r1 (fun s2 I2=>⟨_,H1,I2,q1⟩) hf
end
section
variable {X:Cx} {pos:Pos}
end
structure It where
  go:Nat->Hp->Prop
  yld:Nat->Hp->V->Hp->Prop
  stop:Nat->Hp->Prop
def FpOk (X:Cx) (pins:List (Addr×Obj)) (H:Hp) (b:Addr):Prop:=
  H b=none/\b≠X.env.locals/\b∉X.fs/\(b∈X.ex∨X.s₀.heap.objs.size<=b)/\(∀ x c,X.env.cells.lookup x=some c->c≠b)/\∀ p∈X.pn++pins,p.1≠b
theorem Inv.fpOk {X:Cx} {pins:List (Addr×Obj)} {σ:St} {H H':Hp} {s:Shared} {b:Addr} (I:Inv X pins σ H s) (hb:s.heap.objs.size<=b) (hn:H' b=none):FpOk X pins H' b:=by
  refine ⟨hn,Nat.ne_of_gt (Nat.lt_of_lt_of_le I.lt hb),I.nofs hb,.inr (Nat.le_trans I.sz hb),fun x c e z=>?_,fun p hp z=>?_⟩
  · obtain ⟨v,q⟩:=I.cell x c e
    exact absurd (Nat.lt_of_lt_of_le q.lt (by rw [z];exact hb)) (Nat.lt_irrefl _)
  · exact absurd (Nat.lt_of_lt_of_le (Heap.lt_size (I.pin p hp).1) (by rw [z];exact hb)) (Nat.lt_irrefl _)
structure Turn (P:Program) (w:World) (K:PySem.W.Frag) (tg:Expr) (J:It) (fp:List Addr) (it:Addr) (tn:Nat->Heap->Prop):Prop where
  mem:it∈fp
  obj:∀ i h,tn i h->∀ b∈fp,∃ o,h.get? b=some o/\∀ v,o.data≠.cell v
  keep:∀ i h h',tn i h->(∀ b∈fp,∀ o,h.get? b=some o->h'.get? b=some o)->tn i h'
  item:∀ (X:Cx),X.prog=P->X.w=w->X.K=K->X.calm=true->∀ (i:Nat) (pins:List (Addr×Obj)) (s:Shared) (σ:St) (H:Hp) (E:Value->Shared->Prop),Inv X pins σ H s->(∀ b∈fp,FpOk X pins H b)->tn i s.heap->J.go i H ->
    wpAny (model P w) X.A (pyNext (.ref it)) (fun r s1=>∃ u,r=some u /\
      wpAny (model P w) X.A (letOwnedTupleGo tg (.ref it) u) (fun _ s2=>∃ x H',Inv X pins σ H' s2/\RelV x u/\J.yld i H x H'/\tn (i+1) s2.heap/\∀ b∈fp,H' b=none) E s1) E s
  done:∀ (X:Cx),X.prog=P->X.w=w->X.K=K->X.calm=true->∀ (i:Nat) (pins:List (Addr×Obj)) (s:Shared) (σ:St) (H:Hp) (E:Value->Shared->Prop),Inv X pins σ H s->(∀ b∈fp,FpOk X pins H b)->tn i s.heap->J.stop i H ->
    wpAny (model P w) X.A (pyNext (.ref it)) (fun r s1=>r=none/\Inv X pins σ H s1) E s
  self:∀ (A:Around) (i:Nat) (s:Shared) (Q:Value->Shared->Prop) (E:Value->Shared->Prop),tn i s.heap->Q (.ref it) s->wpAny (model P w) A (pyIter (.ref it)) Q E s
abbrev TI:=St->Hp->(It->Hp->Prop)->Prop
def PIE (X:Cx) (pins:List (Addr×Obj)) (σ:St) (tg:Expr) (R:It->Hp->Prop) (itv:Value) (s2:Shared):Prop:=
  ∃ (it:Addr) (fp:List Addr) (tn:Nat->Heap->Prop) (J:It) (H':Hp),itv=.ref it/\Inv X pins σ H' s2/\Turn X.prog X.w X.K tg J fp it tn/\tn 0 s2.heap/\(∀ b∈fp,FpOk X pins H' b)/\R J H'
def PI (X:Cx) (tg iter:Expr) (wi:TI):Prop:=
  ∀ (pins:List (Addr×Obj)) (s:Shared) (σ:St) (H:Hp) (R:It->Hp->Prop),Inv X pins σ H s->wi σ H R ->
    wpAny (model X.prog X.w) X.A (eval iter X.env) (fun v s1=>wpAny (model X.prog X.w) X.A (pyIter v) (PIE X pins σ tg R) X.xe s1) X.xe s
theorem Ql4 {M:Model} {A:Around} {E:Value->Shared->Prop} {s:Shared} {tg:Expr} {it:Addr} {u:Value} {o:Obj} {n:String} {vs:Array Value} {Q:Unit->Shared->Prop} (ho:s.heap.get? it=some o) (hc:o.cls=.type n) (hd:o.data=.fields vs)
    (hn:["enumerate", "zip", "dict_itemiterator", "dict_reverseitemiterator", "odict_iterator", "itertools.zip_longest", "itertools.pairwise"].contains n=false) (hQ:Q () s):wpAny M A (letOwnedTupleGo tg (.ref it) u) Q E s:=by
  unfold letOwnedTupleGo
  cases tg<;>first
    | exact wpAny_pure hQ
    | (cases u<;>first
        | exact wpAny_pure hQ
        | (refine wpAny_bind (wpAny_load ho ?_)
           rw [hc,hd]
           show wpAny M A (if (["enumerate", "zip", "dict_itemiterator", "dict_reverseitemiterator", "odict_iterator", "itertools.zip_longest", "itertools.pairwise"].contains n&&vs[0]? == some (rawInt _))=true then _ else _) Q E s
           rw [if_neg (by intro h;rw [hn,Bool.false_and] at h;cases h)]
           exact wpAny_pure hQ))
def Itl (K:PySem.W.Frag) (a:Addr):It:=
  ⟨fun i H=>∃ xs x,SqL K H a xs/\xs[i]? = some x,fun i H x H'=>H'=H/\∀ xs,SqL K H a xs->xs[i]? = some x,fun i H=>∃ xs,SqL K H a xs/\xs.length<=i⟩
def Itt (K:PySem.W.Frag) (a:Addr):It:=
  ⟨fun i H=>∃ xs x,SqT K H a xs/\xs[i]? = some x,fun i H x H'=>H'=H/\∀ xs,SqT K H a xs->xs[i]? = some x,fun i H=>∃ xs,SqT K H a xs/\xs.length<=i⟩
def Itr (lo:Int) (n:Nat):It:=⟨fun i _=>i<n,fun i H x H'=>H'=H/\x=.int (lo+i),fun i _=>n<=i⟩
theorem Qg1 {P:Program} {w:World} {K:PySem.W.Frag} {tg:Expr} (a it:Addr):Turn P w K tg (Itl K a) [it] it (fun i h=>h.IsListIter it a i) where
  mem:=by simp
  obj:=fun i h st b hb=>by
    have e:b=it:=by simpa using hb
    subst e
    obtain ⟨o,e,c,d⟩:=st
    exact ⟨o,e,fun v z=>by rw [d] at z;cases z⟩
  keep:=fun i h h' st k=>st.at fun o e=>k it (by simp) o e
  item:=by
    intro X hP hw hK hc i pins s σ H E I hf st hg
    subst hP hw hK
    obtain ⟨xs,x,hq,hx⟩:=hg
    obtain ⟨its,rv,p,hz⟩:=I.list hq
    obtain ⟨u,hu,ru⟩:=rv.get hx
    obtain ⟨f0,f1,f2,f3,f4,f5⟩:=hf it (by simp)
    refine wpAny_pyNext_list_item st p.isList (x:=u) (by simpa using hu) fun h' st' sb=>?_
    have I1:Inv X pins σ H { s with heap:=h' }:=I.turned (t':=s.toks) (fun b o hb e=>(sb.2 b hb).trans e) f0 f1 f3 f4 f5
    obtain ⟨o,e,c,d⟩:=id st'
    exact ⟨u,rfl,Ql4 (s:={ s with heap:=h' }) e c d (by decide) ⟨x,H,I1,ru,⟨rfl,fun ys hy=>by rw [I.list_inj hy hq];exact hx⟩,st',fun b hb=>(hf b hb).1⟩⟩
  done:=by
    intro X hP hw hK hc i pins s σ H E I hf st hg
    subst hP hw hK
    obtain ⟨xs,hq,hx⟩:=hg
    obtain ⟨its,rv,p,hz⟩:=I.list hq
    obtain ⟨f0,f1,f2,f3,f4,f5⟩:=hf it (by simp)
    have hl:=rv.length
    exact wpAny_pyNext_list_end (I.ok.hd hc) st p.isList (by simp;omega) fun h' eb=>⟨rfl,I.turned (t':=s.toks) (fun b o hb e=>eb b o hb e) f0 f1 f3 f4 f5⟩
  self:=fun _ _ _ _ _ st h=>wpAny_pyIter_listiter st h
theorem Qgu {P:Program} {w:World} {K:PySem.W.Frag} {tg:Expr} (a it:Addr):Turn P w K tg (Itt K a) [it] it (fun i h=>h.IsTupleIter it a i) where
  mem:=by simp
  obj:=fun i h st b hb=>by
    have e:b=it:=by simpa using hb
    subst e
    obtain ⟨o,e,c,d⟩:=st
    exact ⟨o,e,fun v z=>by rw [d] at z;cases z⟩
  keep:=fun i h h' st k=>st.at fun o e=>k it (by simp) o e
  item:=by
    intro X hP hw hK hc i pins s σ H E I hf st hg
    subst hP hw hK
    obtain ⟨xs,x,hq,hx⟩:=hg
    obtain ⟨its,rv,p,hz⟩:=I.tuple hq
    obtain ⟨u,hu,ru⟩:=rv.get hx
    obtain ⟨f0,f1,f2,f3,f4,f5⟩:=hf it (by simp)
    refine wpAny_pyNext_tuple_item st (show s.heap.IsTuple a its.toArray from p) (x:=u) (by simpa using hu) fun h' st' sb=>?_
    have I1:Inv X pins σ H { s with heap:=h' }:=I.turned (t':=s.toks) (fun b o hb e=>(sb.2 b hb).trans e) f0 f1 f3 f4 f5
    obtain ⟨o,e,c,d⟩:=id st'
    exact ⟨u,rfl,Ql4 (s:={ s with heap:=h' }) e c d (by decide) ⟨x,H,I1,ru,⟨rfl,fun ys hy=>by rw [I.tuple_inj hy hq];exact hx⟩,st',fun b hb=>(hf b hb).1⟩⟩
  done:=by
    intro X hP hw hK hc i pins s σ H E I hf st hg
    subst hP hw hK
    obtain ⟨xs,hq,hx⟩:=hg
    obtain ⟨its,rv,p,hz⟩:=I.tuple hq
    obtain ⟨f0,f1,f2,f3,f4,f5⟩:=hf it (by simp)
    have hl:=rv.length
    exact wpAny_pyNext_tuple_end (I.ok.hd hc) st (show s.heap.IsTuple a its.toArray from p) (by simp;omega) fun h' eb=>⟨rfl,I.turned (t':=s.toks) (fun b o hb e=>eb b o hb e) f0 f1 f3 f4 f5⟩
  self:=fun _ _ _ _ _ st h=>wpAny_pyIter_tupleiter st h
theorem Qgv {P:Program} {w:World} {K:PySem.W.Frag} {tg:Expr} (it:Addr) (lo:Int) (n:Nat):Turn P w K tg (Itr lo n) [it] it (fun i h=>IsRangeIter h it (lo+(i:Nat)*1) ((n:Int) - (i:Nat)) 1) where
  mem:=by simp
  obj:=fun i h st b hb=>by
    have e:b=it:=by simpa using hb
    subst e
    exact ⟨_,st,fun v z=>by
      have z':Data.fields _=Data.cell v:=z
      cases z'⟩
  keep:=fun i h h' st k=>k it (by simp) _ st
  item:=by
    intro X hP hw hK hc i pins s σ H E I hf st hg
    subst hP hw hK
    obtain ⟨f0,f1,f2,f3,f4,f5⟩:=hf it (by simp)
    have W:=Walks.range (prog:=X.prog) (w:=X.w) (I.ok.hd hc) it lo 1 n
    refine W.item i s _ _ hg st fun v h' tk hv st' kk=>?_
    obtain ⟨t,rfl⟩:=hv
    have I1:Inv X pins σ H { s with heap:=h',toks:=tk }:=I.turned (fun b o hb e=>kk b o (by simpa using hb) e) f0 f1 f3 f4 f5
    refine ⟨_,rfl,Ql4 (s:={ s with heap:=h',toks:=tk }) (n := "range_iterator") st' rfl rfl (by decide) ⟨.int (lo+i),H,I1,⟨t,?_⟩,⟨rfl,rfl⟩,st',fun b hb=>(hf b hb).1⟩⟩
    rw [Int.mul_one]
  done:=by
    intro X hP hw hK hc i pins s σ H E I hf st hg
    subst hP hw hK
    obtain ⟨f0,f1,f2,f3,f4,f5⟩:=hf it (by simp)
    exact wpAny_pyNext_range_end (I.ok.hd hc) st (by have:n<=i:=hg;omega) fun h' eb=>⟨rfl,I.turned (t':=s.toks) (fun b o hb e=>eb b o hb e) f0 f1 f3 f4 f5⟩
  self:=fun _ _ _ _ _ st h=>wpAny_pyIter_rangeiter st h
section
variable {X:Cx} {tg:Expr}
def iList (K:PySem.W.Frag) (tl:TE):TI:=fun σ H R=>tl σ H fun x H1=>∃ a,x=.ref a/\(∃ xs,SqL K H1 a xs)/\R (Itl K a) H1
def iTup (K:PySem.W.Frag) (tl:TE):TI:=fun σ H R=>tl σ H fun x H1=>∃ a,x=.ref a/\(∃ xs,SqT K H1 a xs)/\R (Itt K a) H1
theorem Qlb {l:Expr} {tl:TE} (hl:PE X l tl):PI X tg l (iList X.K tl):=by
  intro pins s σ H R I h
  refine thn (hl pins s σ H _ I h) fun v s1 ⟨x,H1,I1,r1,q1⟩=>?_
  obtain ⟨a,e,⟨xs,hq⟩,q⟩:=q1
  subst e
  cases r1
  obtain ⟨its,rv,p,hz⟩:=I1.list hq
  refine wpAny_pyIter_list p.isList ?_
  refine ⟨s1.heap.objs.size,[s1.heap.objs.size],_,_,H1,rfl,I1.kept (t':=s1.toks) fun b o e=>Heap.get?_push_of_some _ e,Qg1 a _,⟨_,Heap.get?_push_size _ rfl,rfl,rfl⟩,fun b hb=>?_,q⟩
  have e:b=s1.heap.objs.size:=by simpa using hb
  subst e
  exact I1.fpOk (Nat.le_refl _) (I1.hok.fresh (Nat.le_refl _))
theorem pi_tup {l:Expr} {tl:TE} (hl:PE X l tl):PI X tg l (iTup X.K tl):=by
  intro pins s σ H R I h
  refine thn (hl pins s σ H _ I h) fun v s1 ⟨x,H1,I1,r1,q1⟩=>?_
  obtain ⟨a,e,⟨xs,hq⟩,q⟩:=q1
  subst e
  cases r1
  obtain ⟨its,rv,p,hz⟩:=I1.tuple hq
  refine wpAny_pyIter_tuple (show s1.heap.IsTuple a its.toArray from p) ?_
  refine ⟨s1.heap.objs.size,[s1.heap.objs.size],_,_,H1,rfl,I1.kept (t':=s1.toks) fun b o e=>Heap.get?_push_of_some _ e,Qgu a _,⟨_,Heap.get?_push_size _ rfl,rfl,rfl⟩,fun b hb=>?_,q⟩
  have e:b=s1.heap.objs.size:=by simpa using hb
  subst e
  exact I1.fpOk (Nat.le_refl _) (I1.hok.fresh (Nat.le_refl _))
theorem Qi6 {pins:List (Addr×Obj)} {σ:St} {H:Hp} {s:Shared} {R:It->Hp->Prop} {E:Value->Shared->Prop} {lo hi:Int} {t u v:Tok} {tk:Nat} (I:Inv X pins σ H s) (h1 : -(2^62)<=lo) (h2:lo<2^62) (h3 : -(2^62)<=hi) (h4:hi<2^62)
    (q:R (Itr lo (hi - lo).toNat) H):wpAny (model X.prog X.w) X.A (pyIter (.ref s.heap.objs.size)) (PIE X pins σ tg R) E { s with heap:=s.heap.push { cls:=.type "range",data:=.fields #[.int lo t,.int hi u,.int 1 v] },toks:=tk }:=by
  refine wpAny_pyIter_range (IsRange.new ..) (small_one h1 h2 h3 h4) ?_
  have I1:Inv X pins σ H { s with heap:=s.heap.push { cls:=.type "range",data:=.fields #[.int lo t,.int hi u,.int 1 v] },toks:=tk }:=I.kept fun b o e=>Heap.get?_push_of_some _ e
  refine ⟨(s.heap.push { cls:=.type "range",data:=.fields #[.int lo t,.int hi u,.int 1 v] }).objs.size,[(s.heap.push { cls:=.type "range",data:=.fields #[.int lo t,.int hi u,.int 1 v] }).objs.size],_,_,H,rfl,
    I1.kept (t':=tk) fun b o e=>Heap.get?_push_of_some _ e,Qgv _ lo (hi - lo).toNat,?_,fun b hb=>?_,q⟩
  · have e1:lo+((0:Nat):Int)*1=lo:=by simp
    have e2:(((hi - lo).toNat:Nat):Int) - ((0:Nat):Int)=Builtin.Range.rangeSize lo hi 1:=by rw [rangeSize_one];split<;>omega
    show IsRangeIter _ _ (lo+((0:Nat):Int)*1) ((((hi - lo).toNat:Nat):Int) - ((0:Nat):Int)) 1
    rw [e1,e2]
    exact Heap.get?_push_size _ rfl
  · have e:b=(s.heap.push { cls:=.type "range",data:=.fields #[.int lo t,.int hi u,.int 1 v] }).objs.size:=by simpa using hb
    subst e
    exact I1.fpOk (Nat.le_refl _) (I1.hok.fresh (Nat.le_refl _))
def iRng1 (ta:TA):TI:=fun σ H R=>ta σ H fun vs H1=>∃ j:Int,vs=[.int j] /\ -(2^62)<=j/\j<2^62/\R (Itr 0 j.toNat) H1
theorem QeH {a:Expr} {ta:TA} {p pos:Pos} (hg:Gl X "range") (hm:X.mg "range" = none) (ha:PA X [a] ta) (hs:starEach [a] X.env=[(false,eval a X.env)]:=by rfl):PI X tg (.Call (.Name "range" p) [a] [] pos) (iRng1 ta):=by
  intro pins s σ H R I h
  refine Call_ (QdM I hg hm boot_range (PyProof.Rows.callWith_type1 (thn (ha pos pins s σ H _ I h) fun us s1 ⟨vs,H1,I1,r1,q1⟩=>?_) hs rfl))
  obtain ⟨j,e,q1,q2,q⟩:=q1
  subst e
  cases r1 with
  | cons r rr=>
    cases rr
    obtain ⟨t,rfl⟩:=r
    exact call_range_1 (Qi6 I1 (by omega) (by omega) q1 q2 (by simpa using q))
def tFor (wi:TI) (g:TG) (tb:TS):TS:=fun D σ H=>wi σ H fun J H1=>∃ W:Nat->Nat->St->Hp->Prop,(∃ m,W 0 m σ H1)/\∀ i m σ H,W i m σ H ->
  (J.stop i H/\D.nx σ H)∨(J.go i H/\∃ N:St->Hp->Prop,(∀ σ' H',N σ' H'->∃ m',m'<m/\W (i+1) m' σ' H')/\∀ x H',J.yld i H x H'->g x σ H' fun σ2 H2=>tb { D with nx:=N,ct:=N,bk:=D.nx } σ2 H2)
def QfZ (fp:List Addr) (h:Heap):List (Addr×Obj):=fp.filterMap fun b=>(h.get? b).map fun o=>(b,o)
theorem Qb9 {fp:List Addr} {h:Heap} {b:Addr} {o:Obj} (hb:b∈fp) (e:h.get? b=some o):(b,o)∈QfZ fp h:=List.mem_filterMap.mpr ⟨b,hb,by rw [e];rfl⟩
theorem QhT {fp:List Addr} {h:Heap} {p:Addr×Obj} (hp:p∈QfZ fp h):p.1∈fp/\h.get? p.1=some p.2:=by
  obtain ⟨b,hb,e⟩:=List.mem_filterMap.mp hp
  cases q:h.get? b with
  | none=>rw [q] at e;cases e
  | some o=>
    rw [q] at e
    have e':(b,o)=p:=Option.some.inj e
    subst e'
    exact ⟨hb,q⟩
theorem Inv.pinned {pins:List (Addr×Obj)} {σ:St} {H:Hp} {s:Shared} {fp:List Addr} (I:Inv X pins σ H s) (hf:∀ b∈fp,FpOk X pins H b) (ho:∀ b∈fp,∃ o,s.heap.get? b=some o/\∀ v,o.data≠.cell v):Inv X (pins++QfZ fp s.heap) σ H s:=
  I.pins_of fun p hp=>(List.mem_append.mp hp).elim (fun z=>I.pin p (List.mem_append_right _ z)) fun z=>by
    obtain ⟨hb,e⟩:=QhT z
    obtain ⟨f0,f1,f2,_⟩:=hf p.1 hb
    obtain ⟨o,e',d⟩:=ho p.1 hb
    rw [e] at e';cases e'
    exact ⟨e,f0,f1,f2,d⟩
theorem Inv.unpinned {pins pl:List (Addr×Obj)} {σ:St} {H:Hp} {s:Shared} (I:Inv X (pins++pl) σ H s):Inv X pins σ H s:=I.pins_of fun p hp=>I.pin p (List.mem_append_right _ (List.mem_append_left _ hp))
theorem Qkb {iter:Expr} {body:List Stmt} {wi:TI} {g:TG} {tb:TS} {pos:Pos} (hp:PassesOwn (model X.prog X.w) X.A X.env X.xe) (hc:X.calm=true) (hi:PI X tg iter wi) (hg:PG X tg g) (hb:PSs X body tb)
    (hs:∀ x,foldedSetIterable iter X.env x=pure x:=by intro _;rfl):PS X (.For tg iter body [] pos) (tFor wi g tb):=by
  intro pins s σ H D I h
  refine wpAny_For (thn (hi pins s σ H _ I h) fun v s1 h1=>thn h1 fun itv s2 h2=>?_) hs
  obtain ⟨it,fp,tn,J,H2,e,I2,T,st2,f2,W,⟨m0,w0⟩,turn⟩:=h2
  subst e
  have stat:∀ {H':Hp},(∀ b∈fp,H' b=none)->∀ b∈fp,FpOk X pins H' b:=fun hn b hb=>⟨hn b hb,(f2 b hb).2⟩
  refine codeAny_forLoop_any (fun n s'=>∃ i σ' H',Inv X pins σ' H' s'/\tn i s'.heap/\(∀ b∈fp,H' b=none)/\W i n σ' H') ?_ m0 ⟨0,σ,H2,I2,st2,fun b hb=>(f2 b hb).1,w0⟩
  rintro n s3 ⟨i,σ3,H3,I3,st3,fr3,w3⟩
  rcases turn i n σ3 H3 w3 with ⟨stop,qn⟩ | ⟨go,N,hN,step⟩
  · refine wpAny_passesOwn hp (thn (T.done X rfl rfl rfl hc i pins s3 σ3 H3 X.xe I3 (stat fr3) st3 stop) fun r s4 ⟨hr,I4⟩=>?_)
    subst hr
    exact wpAny_execs_nil ⟨σ3,H3,I4,qn⟩
  · refine wpAny_passesOwn hp (thn (T.item X rfl rfl rfl hc i pins s3 σ3 H3 X.xe I3 (stat fr3) st3 go) fun r s4 ⟨u,hr,h4⟩=>?_)
    subst hr
    refine wpAny_passesOwn hp (thn h4 fun _ s5 ⟨x,H5,I5,r5,y5,st5,fr5⟩=>?_)
    have I5':=I5.pinned (stat fr5) (T.obj _ _ st5)
    refine wpAny_passesOwn hp (thn (hg _ s5 σ3 H5 x u _ I5' r5 (step x H5 y5)) fun _ s6 ⟨σ6,H6,I6,q6⟩=>?_)
    refine wpAny_passesOwn hp (thn (hb _ s6 σ6 H6 _ I6 q6) fun f s7 q7=>?_)
    have again:∀ {σ7:St} {H7:Hp},Inv X (pins++QfZ fp s5.heap) σ7 H7 s7->N σ7 H7->∃ m,m<n/\∃ i σ' H',Inv X pins σ' H' s7/\tn i s7.heap/\(∀ b∈fp,H' b=none)/\W i m σ' H':=fun {σ7 H7} I7 n7=>by
      obtain ⟨m',hm,w7⟩:=hN σ7 H7 n7
      refine ⟨m',hm,i+1,σ7,H7,I7.unpinned,T.keep _ _ _ st5 fun b hb o e=>(I7.pin (b,o) (List.mem_append_right _ (List.mem_append_right _ (Qb9 hb e)))).1,fun b hb=>?_,w7⟩
      obtain ⟨o,e,d⟩:=T.obj _ _ st5 b hb
      exact (I7.pin (b,o) (List.mem_append_right _ (List.mem_append_right _ (Qb9 hb e)))).2.1
    cases f with
    | next=>obtain ⟨σ7,H7,I7,n7⟩:=q7;exact again I7 n7
    | cont=>obtain ⟨σ7,H7,I7,n7⟩:=q7;exact again I7 n7
    | brk=>obtain ⟨σ7,H7,I7,q7⟩:=q7;exact ⟨σ7,H7,I7.unpinned,q7⟩
    | ret v=>obtain ⟨x7,σ7,H7,I7,r7,q7⟩:=q7;exact ⟨x7,σ7,H7,I7.unpinned,r7,q7⟩
end
theorem Qif {lo:Int} {n:Nat} {g:TG} {tb:TS} {D:Ends} {σ:St} {H:Hp} (Pv:Nat->St->Hp->Prop) (h0:Pv 0 σ H)
    (hs:∀ i σ H,i<n->Pv i σ H->g (.int (lo+i)) σ H fun σ2 H2=>tb { D with nx:=Pv (i+1),ct:=Pv (i+1),bk:=D.nx } σ2 H2) (hd:∀ σ H,Pv n σ H->D.nx σ H) :
    ∃ W:Nat->Nat->St->Hp->Prop,(∃ m,W 0 m σ H)/\∀ i m σ H,W i m σ H ->
      ((Itr lo n).stop i H/\D.nx σ H)∨((Itr lo n).go i H/\∃ N:St->Hp->Prop,(∀ σ' H',N σ' H'->∃ m',m'<m/\W (i+1) m' σ' H')/\∀ x H',(Itr lo n).yld i H x H'->g x σ H' fun σ2 H2=>tb { D with nx:=N,ct:=N,bk:=D.nx } σ2 H2):=by
  refine ⟨fun i m σ H=>m=n - i/\i<=n/\Pv i σ H,⟨n,by simp,Nat.zero_le _,h0⟩,?_⟩
  rintro i m σ H ⟨rfl,hi,p⟩
  by_cases hlt:i<n
  · refine .inr ⟨hlt,Pv (i+1),fun σ' H' p'=>⟨n - (i+1),by omega,rfl,hlt,p'⟩,fun x H' y=>?_⟩
    obtain ⟨e,y⟩:=y
    subst e y
    exact hs i σ _ hlt p
  · have e:i=n:=by omega
    subst e
    exact .inl ⟨Nat.le_refl _,hd σ H p⟩
abbrev R2:=V->V->Hp->VK->Prop
def OpR (X:Cx) (f:Value->Value->Sem Value) (r:R2):Prop:=
  ∀ (pins:List (Addr×Obj)) (s:Shared) (σ:St) (H:Hp) (x y:V) (v u:Value) (Q:VK),Inv X pins σ H s->RelV x v->RelV y u->r x y H Q ->
    wpAny (model X.prog X.w) X.A (f v u) (EP X pins σ Q) X.xe s
def UnR (X:Cx) (f:Value->Sem Value) (r:V->Hp->VK->Prop):Prop:=
  ∀ (pins:List (Addr×Obj)) (s:Shared) (σ:St) (H:Hp) (x:V) (v:Value) (Q:VK),Inv X pins σ H s->RelV x v->r x H Q ->
    wpAny (model X.prog X.w) X.A (f v) (EP X pins σ Q) X.xe s
def CallR (X:Cx) (f:Value) (r:List V->Hp->VK->Prop):Prop:=
  ∀ (pins:List (Addr×Obj)) (s:Shared) (σ:St) (H:Hp) (xs:List V) (us:List Value) (Q:VK),Inv X pins σ H s->Vals xs us->r xs H Q ->
    wpAny (model X.prog X.w) X.A (call f us) (EP X pins σ Q) X.xe s
def TruR (X:Cx) (r:V->Hp->(Bool->Hp->Prop)->Prop):Prop:=
  ∀ (pins:List (Addr×Obj)) (s:Shared) (σ:St) (H:Hp) (x:V) (v:Value) (Q:Bool->Hp->Prop),Inv X pins σ H s->RelV x v->r x H Q ->
    wpAny (model X.prog X.w) X.A (truthy v) (TP X pins σ Q) X.xe s
def tOp (r:R2) (ta tb:TE):TE:=fun σ H Q=>ta σ H fun x H1=>tb σ H1 fun y H2=>r x y H2 Q
def tUn (r:V->Hp->VK->Prop) (ta:TE):TE:=fun σ H Q=>ta σ H fun x H1=>r x H1 Q
def rI (C:Int->Int->Prop) (g:Int->Int->V):R2:=fun x y H Q=>∃ i j,x=.int i/\y=.int j/\C i j/\Q (g i j) H
def rI0 (g:Int->Int->V):R2:=fun x y H Q=>∃ i j,x=.int i/\y=.int j/\Q (g i j) H
def rU (g:Int->V):V->Hp->VK->Prop:=fun x H Q=>∃ i,x=.int i/\Q (g i) H
section
variable {X:Cx} {a b c:Expr} {ta tb tc:TE} {pos:Pos}
theorem binT (ha:PE X a ta) (hb:PE X b tb) {pins:List (Addr×Obj)} {s:Shared} {σ:St} {H:Hp} {R:V->V->Hp->Prop} (I:Inv X pins σ H s)
    (h:ta σ H fun x H1=>tb σ H1 fun y H2=>R x y H2) {Q:Value->Shared->Prop} {f:Value->Value->Sem Value}
    (hf:∀ v u s2 x y H2,Inv X pins σ H2 s2->RelV x v->RelV y u->R x y H2->wpAny (model X.prog X.w) X.A (f v u) Q X.xe s2) :
    wpAny (model X.prog X.w) X.A (eval a X.env) (fun v s₁=>wpAny (model X.prog X.w) X.A (eval b X.env) (fun u s₂=>wpAny (model X.prog X.w) X.A (f v u) Q X.xe s₂) X.xe s₁) X.xe s:=by
  refine thn (ha pins s σ H _ I h) fun v s1 ⟨x,H1,I1,r1,q1⟩=>?_
  refine thn (hb pins s1 σ H1 _ I1 q1) fun u s2 ⟨y,H2,I2,r2,q2⟩=>?_
  exact hf v u s2 x y H2 I2 r1 r2 q2
theorem QbG {op:Operator} {r:R2} (ho:OpR X (binaryOp op) r) (ha:PE X a ta) (hb:PE X b tb):PE X (.BinOp a op b pos) (tOp r ta tb):=by
  intro pins s σ H Q I h
  exact wpAny_BinOp (binT ha hb I h fun v u s2 x y H2 I2 rx ry q=>ho pins s2 σ H2 x y v u Q I2 rx ry q)
theorem pe_un {op:UnaryOp} {r:V->Hp->VK->Prop} (ho:UnR X (unaryOp op) r) (ha:PE X a ta):PE X (.UnaryOp op a pos) (tUn r ta):=by
  intro pins s σ H Q I h
  exact UnaryOp_ (thn (ha pins s σ H _ I h) fun v s1 ⟨x,H1,I1,r1,q1⟩=>ho pins s1 σ H1 x v Q I1 r1 q1)
theorem opI {f:Value->Value->Sem Value} {C:Int->Int->Prop} {g:Int->Int->Int}
    (rule:∀ (i j:Int) (t u:Tok) (s:Shared) (Q:Value->Shared->Prop) (E:Value->Shared->Prop),C i j->Q (.int (g i j) s.toks) { s with toks:=s.toks+1 }->wpAny (model X.prog X.w) X.A (f (.int i t) (.int j u)) Q E s) :
    OpR X f (rI C fun i j=>.int (g i j)):=by
  intro pins s σ H x y v u Q I rx ry h
  obtain ⟨i,j,rfl,rfl,hc,q⟩:=h
  obtain ⟨t,rfl⟩:=rx
  obtain ⟨t',rfl⟩:=ry
  exact rule i j t t' s _ _ hc ⟨.int (g i j),H,I.tok _,⟨_,rfl⟩,q⟩
theorem opI0 {f:Value->Value->Sem Value} {g:Int->Int->Int}
    (rule:∀ (i j:Int) (t u:Tok) (s:Shared) (Q:Value->Shared->Prop) (E:Value->Shared->Prop),Q (.int (g i j) s.toks) { s with toks:=s.toks+1 }->wpAny (model X.prog X.w) X.A (f (.int i t) (.int j u)) Q E s) :
    OpR X f (rI0 fun i j=>.int (g i j)):=by
  intro pins s σ H x y v u Q I rx ry h
  obtain ⟨i,j,rfl,rfl,q⟩:=h
  obtain ⟨t,rfl⟩:=rx
  obtain ⟨t',rfl⟩:=ry
  exact rule i j t t' s _ _ ⟨.int (g i j),H,I.tok _,⟨_,rfl⟩,q⟩
theorem opB0 {f:Value->Value->Sem Value} {g:Int->Int->Bool}
    (rule:∀ (i j:Int) (t u:Tok) (s:Shared) (Q:Value->Shared->Prop) (E:Value->Shared->Prop),Q (.bool (g i j)) s->wpAny (model X.prog X.w) X.A (f (.int i t) (.int j u)) Q E s) :
    OpR X f (rI0 fun i j=>.bl (g i j)):=by
  intro pins s σ H x y v u Q I rx ry h
  obtain ⟨i,j,rfl,rfl,q⟩:=h
  obtain ⟨t,rfl⟩:=rx
  obtain ⟨t',rfl⟩:=ry
  exact rule i j t t' s _ _ ⟨.bl (g i j),H,I,rfl,q⟩
def CPow (i j:Int):Prop:=0<=j/\j<=1000000/\i.natAbs<2^64
def CMul (i j:Int):Prop:=(-(2^64)<i/\i<2^64)∨(-(2^64)<j/\j<2^64)
theorem CMul.ok {i j:Int} (h:CMul i j):IntMulOk i j:=by
  rcases h with ⟨h1,h2⟩ | ⟨h1,h2⟩
  · exact .of_left (intBits_le_64 h1 h2)
  · exact .of_right (intBits_le_64 h1 h2)
theorem Qgt (k:Nat):(0:Int)<=2^k:=by
  rw [two_pow_cast]
  exact Int.natCast_nonneg _
theorem QdF:OpR X (binaryOp .Add) (rI0 fun i j=>.int (i+j)):=opI0 fun _ _ _ _ _ _ _ q=>add_int q
theorem QdC:OpR X (binaryOp .Sub) (rI0 fun i j=>.int (i - j)):=opI0 fun _ _ _ _ _ _ _ q=>sub_int q
theorem QdD:OpR X (binaryOp .Mult) (rI CMul fun i j=>.int (i*j)):=opI fun _ _ _ _ _ _ _ hc q=>mul_int q hc.ok
theorem QeK:OpR X (binaryOp .Mod) (rI (fun _ j=>0<j) fun i j=>.int (i % j)):=opI fun i j _ _ _ _ _ hc q=>by
  have h1:(0:Int)<j:=hc
  exact mod_int' (by omega) (by rw [Int.fmod_eq_emod_of_nonneg i (by omega)];exact q)
theorem QhE:OpR X (binaryOp .Pow) (rI CPow fun i j=>.int (i^j.toNat)):=opI fun _ _ _ _ _ _ _ hc q=>pow_int_small hc.1 hc.2.1 hc.2.2 q
theorem op_shl:OpR X (binaryOp .LShift) (rI CPow fun i j=>.int (i*2^j.toNat)):=opI fun _ _ _ _ _ _ _ hc q=>lshift_int_small hc.1 hc.2.1 hc.2.2 q
theorem op_shr:OpR X (binaryOp .RShift) (rI (fun _ j=>0<=j) fun i j=>.int (i / 2^j.toNat)):=opI fun i j _ _ _ _ _ hc q=>
  rshift_int hc (by rw [Int.fdiv_eq_ediv_of_nonneg i (Qgt _)];exact q)
theorem op_and:OpR X (binaryOp .BitAnd) (rI0 fun i j=>.int (Builtin.bitAnd i j)):=opI0 fun _ _ _ _ _ _ _ q=>and_int q
theorem unI {f:Value->Sem Value} {g:Int->Int}
    (rule:∀ (i:Int) (t:Tok) (s:Shared) (Q:Value->Shared->Prop) (E:Value->Shared->Prop),Q (.int (g i) s.toks) { s with toks:=s.toks+1 }->wpAny (model X.prog X.w) X.A (f (.int i t)) Q E s) :
    UnR X f (rU fun i=>.int (g i)):=by
  intro pins s σ H x v Q I rx h
  obtain ⟨i,rfl,q⟩:=h
  obtain ⟨t,rfl⟩:=rx
  exact rule i t s _ _ ⟨.int (g i),H,I.tok _,⟨_,rfl⟩,q⟩
theorem un_neg:UnR X (unaryOp .USub) (rU fun i=>.int (-i)):=unI fun _ _ _ _ _ q=>neg_int q
end
def scal:V->V->Bool
  | .non,.non=>true | .non,.int _=>true | .int _,.non=>true | .non,.bl _=>true | .bl _,.non=>true | .non,.str _=>true | .str _,.non=>true
  | .int _,.int _=>true | .bl _,.bl _=>true | .str _,.str _=>true | .byt _,.byt _=>true
  | .int _,.str _=>true | .str _,.int _=>true | .bl _,.str _=>true | .str _,.bl _=>true
  | _,_=>false
def rEq:R2:=fun x y H Q=>scal x y=true/\Q (.bl (decide (x=y))) H
def rNe:R2:=fun x y H Q=>scal x y=true/\Q (.bl (!decide (x=y))) H
theorem Qim {i j:Int}:decide (V.int i=V.int j)=(i == j):=by
  rw [Bool.eq_iff_iff]
  simp
theorem Qks {i j:Bool}:decide (V.bl i=V.bl j)=(i == j):=by
  rw [Bool.eq_iff_iff]
  simp
theorem Qil {i j:Str}:decide (V.str i=V.str j)=(i == j):=by
  rw [Bool.eq_iff_iff]
  simp
theorem Qin {i j:Array UInt8}:decide (V.byt i=V.byt j)=(i.toList == j.toList):=by
  rw [Bool.eq_iff_iff]
  cases i
  cases j
  simp
section
variable {X:Cx} {a b c:Expr} {ta tb tc:TE} {pos:Pos}
theorem QaB {pins:List (Addr×Obj)} {σ:St} {H:Hp} {s:Shared} {Q:VK} {k k':Bool} (I:Inv X pins σ H s) (q:Q (.bl k) H) (e:k=k'):EP X pins σ Q (.bool k') s:=by
  subst e
  exact ⟨.bl k,H,I,rfl,q⟩
theorem op_eq:OpR X (compareOp .Eq) rEq:=by
  intro pins s σ H x y v u Q I rx ry h
  obtain ⟨hs,q⟩:=h
  cases x with
  | non=>
    cases rx
    cases y with
    | non=>cases ry;exact PySem.EqNone.eq_none_none (QaB I q (by simp))
    | bl j=>cases ry;exact PySem.EqNone.eq_none_bool (QaB I q (by simp))
    | int j=>obtain ⟨t',rfl⟩:=ry;exact PySem.EqNone.eq_none_int (QaB I q (by simp))
    | str j=>obtain ⟨t',rfl⟩:=ry;exact PySem.EqNone.eq_none_str (QaB I q (by simp))
    | _=>exact absurd (show false=true from hs) Bool.false_ne_true
  | bl i=>
    cases rx
    cases y with
    | non=>cases ry;exact PySem.EqNone.eq_bool_none (QaB I q (by simp))
    | bl j=>cases ry;exact eq_bool (QaB I q Qks)
    | str j=>obtain ⟨t',rfl⟩:=ry;exact PySem.EqMixed.eq_bool_str (QaB I q (by simp))
    | _=>exact absurd (show false=true from hs) Bool.false_ne_true
  | int i=>
    obtain ⟨t,rfl⟩:=rx
    cases y with
    | non=>cases ry;exact PySem.EqNone.eq_int_none (QaB I q (by simp))
    | int j=>obtain ⟨t',rfl⟩:=ry;exact eq_int (QaB I q Qim)
    | str j=>obtain ⟨t',rfl⟩:=ry;exact PySem.EqMixed.eq_int_str (QaB I q (by simp))
    | _=>exact absurd (show false=true from hs) Bool.false_ne_true
  | str i=>
    obtain ⟨t,rfl⟩:=rx
    cases y with
    | non=>cases ry;exact PySem.EqNone.eq_str_none (QaB I q (by simp))
    | bl j=>cases ry;exact PySem.EqMixed.eq_str_bool (QaB I q (by simp))
    | int j=>obtain ⟨t',rfl⟩:=ry;exact PySem.EqMixed.eq_str_int (QaB I q (by simp))
    | str j=>obtain ⟨t',rfl⟩:=ry;exact eq_str (QaB I q Qil)
    | _=>exact absurd (show false=true from hs) Bool.false_ne_true
  | byt i=>
    obtain ⟨t,rfl⟩:=rx
    cases y with
    | byt j=>obtain ⟨t',rfl⟩:=ry;exact PySem.W.eq_bytes (QaB I q Qin)
    | _=>exact absurd (show false=true from hs) Bool.false_ne_true
  | _=>cases y<;>exact absurd (show false=true from hs) Bool.false_ne_true
theorem op_ne:OpR X (compareOp .NotEq) rNe:=by
  intro pins s σ H x y v u Q I rx ry h
  obtain ⟨hs,q⟩:=h
  cases x with
  | non=>
    cases rx
    cases y with
    | non=>cases ry;exact PySem.EqNone.ne_none_none (QaB I q (by simp))
    | bl j=>cases ry;exact PySem.EqNone.ne_none_bool (QaB I q (by simp))
    | int j=>obtain ⟨t',rfl⟩:=ry;exact PySem.EqNone.ne_none_int (QaB I q (by simp))
    | str j=>obtain ⟨t',rfl⟩:=ry;exact PySem.EqNone.ne_none_str (QaB I q (by simp))
    | _=>exact absurd (show false=true from hs) Bool.false_ne_true
  | bl i=>
    cases rx
    cases y with
    | non=>cases ry;exact PySem.EqNone.ne_bool_none (QaB I q (by simp))
    | bl j=>cases ry;exact ne_bool (QaB I q (congrArg not Qks))
    | str j=>obtain ⟨t',rfl⟩:=ry;exact PySem.EqMixed.ne_bool_str (QaB I q (by simp))
    | _=>exact absurd (show false=true from hs) Bool.false_ne_true
  | int i=>
    obtain ⟨t,rfl⟩:=rx
    cases y with
    | non=>cases ry;exact PySem.EqNone.ne_int_none (QaB I q (by simp))
    | int j=>obtain ⟨t',rfl⟩:=ry;exact ne_int (QaB I q (congrArg not Qim))
    | str j=>obtain ⟨t',rfl⟩:=ry;exact PySem.EqMixed.ne_int_str (QaB I q (by simp))
    | _=>exact absurd (show false=true from hs) Bool.false_ne_true
  | str i=>
    obtain ⟨t,rfl⟩:=rx
    cases y with
    | non=>cases ry;exact PySem.EqNone.ne_str_none (QaB I q (by simp))
    | bl j=>cases ry;exact PySem.EqMixed.ne_str_bool (QaB I q (by simp))
    | int j=>obtain ⟨t',rfl⟩:=ry;exact PySem.EqMixed.ne_str_int (QaB I q (by simp))
    | str j=>obtain ⟨t',rfl⟩:=ry;exact ne_str (QaB I q (congrArg not Qil))
    | _=>exact absurd (show false=true from hs) Bool.false_ne_true
  | byt i=>
    obtain ⟨t,rfl⟩:=rx
    cases y with
    | byt j=>obtain ⟨t',rfl⟩:=ry;exact PySem.W.ne_bytes (QaB I q (congrArg not Qin))
    | _=>exact absurd (show false=true from hs) Bool.false_ne_true
  | _=>cases y<;>exact absurd (show false=true from hs) Bool.false_ne_true
theorem QgD:OpR X (compareOp .Lt) (rI0 fun i j=>.bl (decide (i<j))):=opB0 fun _ _ _ _ _ _ _ q=>lt_int q
theorem QgE:OpR X (compareOp .LtE) (rI0 fun i j=>.bl (decide (i<=j))):=opB0 fun _ _ _ _ _ _ _ q=>le_int q
theorem op_ge:OpR X (compareOp .GtE) (rI0 fun i j=>.bl (decide (j<=i))):=opB0 fun _ _ _ _ _ _ _ q=>ge_int q
theorem op_isN:OpR X (compareOp .Is) (fun x y H Q=>y=.non/\Q (.bl (decide (x=.non))) H):=by
  intro pins s σ H x y v u Q I rx ry h
  obtain ⟨rfl,q⟩:=h
  cases ry
  refine is_none_gen (QaB I q ?_)
  cases x<;>first
    | (cases rx;rfl)
    | (obtain ⟨t,rfl⟩:=rx;rfl)
theorem OpR.or {f:Value->Value->Sem Value} {r r':R2} (h:OpR X f r) (h':OpR X f r'):OpR X f (fun x y H Q=>r x y H Q∨r' x y H Q):=by
  intro pins s σ H x y v u Q I rx ry q
  rcases q with q | q
  · exact h pins s σ H x y v u Q I rx ry q
  · exact h' pins s σ H x y v u Q I rx ry q
theorem QaQ (b:Expr) {op:CmpOp} (h:op≠.In:=by decide) (h2:op≠.NotIn:=by decide):behindInMarks op b=false:=by
  have e1:(op == CmpOp.In)=false:=by cases op<;>first | rfl | exact absurd rfl h
  have e2:(op == CmpOp.NotIn)=false:=by cases op<;>first | rfl | exact absurd rfl h2
  cases b<;>simp [behindInMarks,e1,e2]
theorem Qlg {op:CmpOp} {r:R2} (ho:OpR X (compareOp op) r) (ha:PE X a ta) (hb:PE X b tb) (hm:behindInMarks op b=false):PE X (.Compare a [op] [b] pos) (tOp r ta tb):=by
  intro pins s σ H Q I h
  exact wpAny_Compare1 (binT ha hb I h fun v u s2 x y H2 I2 rx ry q=>ho pins s2 σ H2 x y v u Q I2 rx ry q) hm
def tTest (t:TE):TT:=fun σ H Q=>t σ H fun x H'=>∃ k,x=.bl k/\Q k H'
theorem Qfj {op:CmpOp} {r:R2} (ho:OpR X (compareOp op) r) (ha:PE X a ta) (hb:PE X b tb) (hm:behindInMarks op b=false):PT X (.Compare a [op] [b] pos) (tTest (tOp r ta tb)):=by
  intro pins s σ H Q I h
  refine wpAny_isTrue_Compare1 (thn (ha pins s σ H _ I h) fun v s1 ⟨x,H1,I1,r1,q1⟩=>thn (hb pins s1 σ H1 _ I1 q1) fun u s2 ⟨y,H2,I2,r2,q2⟩=>
    thn (ho pins s2 σ H2 x y v u _ I2 r1 r2 q2) fun c s3 ⟨z,H3,I3,r3,k,e,q3⟩=>?_) hm
  subst e
  cases r3
  exact wpAny_truthy_bool ⟨H3,I3,q3⟩
def Qj5 (r r':R2) (ta tb tc:TE):TE:=fun σ H Q=>ta σ H fun x H1=>tb σ H1 fun y H2=>r x y H2 fun z H3=>∃ k,z=.bl k /\
  (if k=true then tc σ H3 fun w' H4=>r' y w' H4 Q else Q (.bl false) H3)
theorem Qje {op op':CmpOp} {r r':R2} (ho:OpR X (compareOp op) r) (ho':OpR X (compareOp op') r') (ha:PE X a ta) (hb:PE X b tb) (hc:PE X c tc)
    (hm:lastMarks [op,op'] [b,c]=false:=by with_unfolding_all rfl):PE X (.Compare a [op,op'] [b,c] pos) (Qj5 r r' ta tb tc):=by
  intro pins s σ H Q I h
  refine Compare_chain (thn (ha pins s σ H _ I h) fun v s1 ⟨x,H1,I1,r1,q1⟩=>chain_link (thn (hb pins s1 σ H1 _ I1 q1) fun u s2 ⟨y,H2,I2,r2,q2⟩=>
    thn (ho pins s2 σ H2 x y v u _ I2 r1 r2 q2) fun d s3 ⟨z,H3,I3,r3,k,e,q3⟩=>?_)) hm
  subst e
  cases r3
  refine wpAny_truthy_bool ?_
  cases k with
  | false=>exact ite_ff ⟨.bl false,H3,I3,rfl,q3⟩
  | true=>exact ite_tt (chain_last (thn (hc pins s3 σ H3 _ I3 q3) fun w' s4 ⟨z',H4,I4,r4,q4⟩=>ho' pins s4 σ H4 y z' u w' Q I4 r2 r4 q4))
def TruV (K:PySem.W.Frag) (x:V) (H:Hp) (k:Bool):Prop:=
  match x with
  | .non=>k=false
  | .bl b=>k=b
  | .int i=>k=(i != 0)
  | .str y=>y.length<=sizeLine/\k=((y.length:Int) != 0)
  | .byt y=>y.size<=sizeLine/\k=((y.size:Int) != 0)
  | .ref p=>(∃ xs,SqL K H p xs/\k = !xs.isEmpty)∨(∃ xs,SqT K H p xs/\k = !xs.isEmpty)∨∃ kvs,H p=some (.dK kvs)/\k = !kvs.isEmpty
  | _=>False
theorem QgP {κ:Type} {kvs:List (κ×V)} {vs:List (κ×Value)} (r:KV kvs vs):(!vs.isEmpty) = !kvs.isEmpty:=by
  cases r<;>rfl
theorem QdO {xs:List V} {its:List Value} (r:Vals xs its):(!its.toArray.isEmpty) = !xs.isEmpty:=by
  cases r<;>simp
theorem QeS:(sizeLine:Nat)<2^63:=by rw [sizeLine_eq];decide
theorem tru_ok:TruR X (fun x H Q=>∃ k,TruV X.K x H k/\Q k H):=by
  intro pins s σ H x v Q I rx h
  obtain ⟨k,e,q⟩:=h
  have hl:=QeS
  have hs:sizeLine=16777216:=sizeLine_eq
  cases x with
  | non=>
    cases rx
    have e':k=false:=e
    subst e'
    exact truthy_none ⟨H,I,q⟩
  | bl b=>
    cases rx
    have e':k=b:=e
    subst e'
    exact wpAny_truthy_bool ⟨H,I,q⟩
  | int i=>
    obtain ⟨t,rfl⟩:=rx
    have e':k=(i != 0):=e
    subst e'
    exact PySem.P.truthy_int ⟨H,I,q⟩
  | str y=>
    obtain ⟨t,rfl⟩:=rx
    obtain ⟨hy,e'⟩:y.length<=sizeLine/\k=((y.length:Int) != 0):=e
    subst e'
    exact PySem.P.truthy_str (by omega) ⟨H,I.tok _,q⟩
  | byt y=>
    obtain ⟨t,rfl⟩:=rx
    obtain ⟨hy,e'⟩:y.size<=sizeLine/\k=((y.size:Int) != 0):=e
    subst e'
    exact PySem.W.truthy_bytes (by omega) ⟨H,I.tok _,q⟩
  | ref p=>
    cases rx
    have e':(∃ xs,SqL X.K H p xs/\k = !xs.isEmpty)∨(∃ xs,SqT X.K H p xs/\k = !xs.isEmpty)∨∃ kvs,H p=some (.dK kvs)/\k = !kvs.isEmpty:=e
    rcases e' with ⟨xs,hx,e'⟩ | ⟨xs,hx,e'⟩ | ⟨kvs,hx,e'⟩
    · subst e'
      obtain ⟨its,r,pl,hz⟩:=I.list hx
      have hlen:=r.length
      exact wpAny_truthy_list pl.isList (by simp only [List.size_toArray];omega) ⟨H,I.tok _,by rw [QdO r];exact q⟩
    · subst e'
      obtain ⟨its,r,pl,hz⟩:=I.tuple hx
      have hlen:=r.length
      exact truthy_tuple pl (by simp only [List.size_toArray];omega) ⟨H,I.tok _,by rw [QdO r];exact q⟩
    · subst e'
      obtain ⟨hz,hS,vs,r,m⟩:kvs.length<=sizeLine/\(p == sysModules)=false/\∃ vs,KV kvs vs/\s.heap.DictOf (mixKind X.prog X.w) p vs:=I.hok p _ hx
      have hlen:kvs.length=vs.length:=Paired.length r
      exact wpAny_truthy_dict hS m (by omega) ⟨H,I.tok _,by rw [QgP r];exact q⟩
  | _=>exact (show False from e).elim
theorem Qi7 (ha:PE X a ta) (he:∀ whole,isTrue a X.env whole=(do let v <- whole;standAt a.pos;holding [v] (truthy v))) :
    PT X a (fun σ H Q=>ta σ H fun x H'=>∃ k,TruV X.K x H' k/\Q k H'):=by
  intro pins s σ H Q I h
  exact isTrue_plain (thn (ha pins s σ H _ I h) fun v s1 ⟨x,H1,I1,r1,q1⟩=>tru_ok pins s1 σ H1 x v Q I1 r1 q1) (he _)
theorem Qdt {x:V} {us:List Value} (r:Vals [x] us):∃ u,us=[u]/\RelV x u:=by
  cases r with
  | cons r1 r2=>cases r2;exact ⟨_,rfl,r1⟩
theorem QgZ {x y:V} {us:List Value} (r:Vals [x,y] us):∃ u w',us=[u,w']/\RelV x u/\RelV y w':=by
  cases r with
  | cons r1 r2=>
    cases r2 with
    | cons r3 r4=>cases r4;exact ⟨_,_,rfl,r1,r3⟩
theorem QiC (hc:X.calm=true):CallR X (.builtin "max") (fun xs H Q=>∃ i j,xs=[.int i,.int j]/\Q (.int (if j > i then j else i)) H):=by
  intro pins s σ H xs us Q I r h
  obtain ⟨i,j,rfl,q⟩:=h
  obtain ⟨u,w',rfl,⟨t,rfl⟩,⟨t',rfl⟩⟩:=QgZ r
  refine max_two_ints (I.ok.hd hc) fun h' tk k=>⟨_,H,I.kept k,?_,q⟩
  by_cases hj:j > i
  · rw [if_pos hj,if_pos hj];exact ⟨_,rfl⟩
  · rw [if_neg hj,if_neg hj];exact ⟨_,rfl⟩
theorem QiA (hc:X.calm=true):CallR X (.builtin "min") (fun xs H Q=>∃ i j,xs=[.int i,.int j]/\Q (.int (if j<i then j else i)) H):=by
  intro pins s σ H xs us Q I r h
  obtain ⟨i,j,rfl,q⟩:=h
  obtain ⟨u,w',rfl,⟨t,rfl⟩,⟨t',rfl⟩⟩:=QgZ r
  refine min_two_ints (I.ok.hd hc) fun h' tk k=>⟨_,H,I.kept k,?_,q⟩
  by_cases hj:j<i
  · rw [if_pos hj,if_pos hj];exact ⟨_,rfl⟩
  · rw [if_neg hj,if_neg hj];exact ⟨_,rfl⟩
end
structure ObjM (h:Heap) (x dx C:Addr) (mA:Str->Option Value):Prop where
  obj:h.get? x=some (PySem.W.instObj C dx)
  ns:h.Ns1 dx mA
  ne:dx≠x
theorem Qh3 {h:Heap} {dx:Addr} {mA:Str->Option Value} (n:h.Ns1 dx mA):∃ od,h.get? dx=some od/\∀ name,PySem.W.lookIn name od=some (mA name):=by
  obtain ⟨o,es,ep,ho,hd,hk,_,hm⟩:=n
  refine ⟨o,ho,fun name=>?_⟩
  have e:=hm name
  unfold nsFind findBy at e
  rw [<- Array.find?_toList] at e
  unfold PySem.W.lookIn
  rw [hd]
  dsimp only
  split
  · rename_i y q
    rw [q] at e
    exact congrArg some e
  · rename_i q
    rw [q] at e
    have a:es.toList.any (·.refKey)=false:=by
      rw [List.any_eq_false]
      intro y hy
      obtain ⟨z,t,hkey⟩:=hk y (Array.mem_toList_iff.mp hy)
      simp [DictEntry.refKey,hkey]
    have a':¬ es.toList.any (·.refKey)=true:=by rw [a];exact Bool.false_ne_true
    rw [if_neg a']
    exact congrArg some e
theorem ObjM.look {h:Heap} {x dx C:Addr} {mA:Str->Option Value} (I:ObjM h x dx C mA):∃ od,PySem.W.InstAt h x (PySem.W.instObj C dx) C (some od)/\∀ name,PySem.W.lookIn name od=some (mA name):=
  let ⟨od,ho,hl⟩:=Qh3 I.ns
  ⟨od,⟨I.obj,rfl,rfl,ho⟩,hl⟩
section
variable {prog:Program} {w:World} {A:Around} {E:Value->Shared->Prop} {s:Shared} {K:PySem.W.Frag} {x dx C f:Addr} {mA:Str->Option Value} {name:Str} {v:Value}
end
section
variable {P:Program} {w:World} {H H':Hp} {h h':Heap} {a C dx:Addr} {fs fs':List (Str×V)}
theorem Ql0 (hok:HOk P w H h) (e:H a=some (.ins C dx fs)):∃ mA,ObjM h a dx C mA/\(∀ f,RelO (fs.lookup f) (mA f))/\PySem.Within mA (fs.map (·.1))/\fs.length<=1000/\H dx=some (.own a):=by
  obtain ⟨d,z,ne,ob,mA,n,r,q⟩:=(show ObjOk P w H h a (.ins C dx fs) from hok a _ e)
  exact ⟨mA,⟨ob,n,ne⟩,r,q,z,d⟩
end
structure Cls (K:PySem.W.Frag) (C:Addr):Prop where
  pg:PySem.W.plainGet K C Str.empty=true
  hd:PySem.W.hasDictIn K C=true
  po:PySem.W.plainOver K C=true
  sa:PySem.W.findIn K (.ref C) "__setattr__" = some (some (.builtin "object.__setattr__"))
theorem Cls.get {K:PySem.W.Frag} {C:Addr} (c:Cls K C) (f:Str):PySem.W.plainGet K C f=true:=c.pg
section
variable {X:Cx} {pins:List (Addr×Obj)} {σ:St} {H:Hp} {s:Shared} {a C dx:Addr} {fs:List (Str×V)} {f:Str} {v:V} {A:Around} {E:Value->Shared->Prop}
theorem Inv.made (I:Inv X pins σ H s):Inv X pins σ (upd (upd H s.heap.objs.size (.own (s.heap.objs.size+1))) (s.heap.objs.size+1) (.ins C s.heap.objs.size []))
    { s with heap:=(s.heap.push PySem.W.emptyDict).push (PySem.W.instObj C s.heap.objs.size) }:=by
  have e1:(s.heap.push PySem.W.emptyDict).get? s.heap.objs.size=some PySem.W.emptyDict:=Heap.get?_push_size s.heap rfl
  have e2:((s.heap.push PySem.W.emptyDict).push (PySem.W.instObj C s.heap.objs.size)).get? (s.heap.objs.size+1)=some (PySem.W.instObj C s.heap.objs.size):=by
    have:=Heap.get?_push_size (s.heap.push PySem.W.emptyDict) (o:=PySem.W.instObj C s.heap.objs.size) rfl
    rwa [Heap.size_push] at this
  have e3:(s.heap.push PySem.W.emptyDict).Ns s.heap.objs.size (fun _=>none):=⟨PySem.W.emptyDict,#[],_,e1,rfl,(fun e he=>absurd he (by simp)),fun _=>rfl⟩
  have I1:=I.laid (a:=s.heap.objs.size) (o:=.own (s.heap.objs.size+1)) (h':=s.heap.push PySem.W.emptyDict) (t':=s.toks) (fun b u q=>Heap.get?_push_of_some _ q) (Nat.le_refl _) ⟨_,e1⟩
  refine I1.laid (a:=s.heap.objs.size+1) (o:=.ins C s.heap.objs.size []) (t':=s.toks) (fun b u q=>Heap.get?_push_of_some _ q) (Nat.le_of_eq (Heap.size_push _ _)) ?_
  have ne:s.heap.objs.size≠s.heap.objs.size+1:=Nat.ne_of_lt (Nat.lt_succ_self _)
  refine ⟨by rw [Qay ne,Qaq],Nat.zero_le _,ne,e2,fun _=>none,(Heap.Ns1.of_empty e3).at fun o q=>Heap.get?_push_of_some _ q,fun _=>True.intro,fun y hy=>absurd rfl hy⟩
end
section
variable {X:Cx} {o e value:Expr} {f:Str} {pos pos' tpos:Pos} {ta tv:TE}
def rAdd:V->V->Hp->VK->Prop:=fun x y H Q=>∃ i j,x=.int i/\y=.int j/\Q (.int (i+j)) H
end
section
variable {X:Cx} {pins:List (Addr×Obj)} {σ:St} {H:Hp} {s:Shared} {A:Around} {E:Value->Shared->Prop} {Q:Value->Shared->Prop} {c:Value} {b:Bool}
inductive TyOf (K:PySem.W.Frag) (H:Hp):V->Value->Prop where
  | non:TyOf K H .non (.type "NoneType")
  | bl (x:Bool):TyOf K H (.bl x) (.type "bool")
  | int (i:Int):TyOf K H (.int i) (.type "int")
  | str (x:Str):TyOf K H (.str x) (.type "str")
  | flt (x:UInt64):TyOf K H (.flt x) (.type "float")
  | lst {a:Addr} {xs:List V} (e:H a=some (.lst xs)):TyOf K H (.ref a) (.type "list")
  | frz {a:Addr} {o:Obj} {xs:List V} (e:H a=some (.frz o (.lst xs))):TyOf K H (.ref a) (.type "list")
  | tup {a:Addr} {xs:List V} (e:H a=some (.tup xs)):TyOf K H (.ref a) (.type "tuple")
  | dK {a:Addr} {kvs:List (Key×V)} (e:H a=some (.dK kvs)):TyOf K H (.ref a) (.type "dict")
  | dT {a:Addr} {kvs:List (List Key×V)} (e:H a=some (.dT kvs)):TyOf K H (.ref a) (.type "dict")
  | ins {a C dx:Addr} {fs:List (Str×V)} (e:H a=some (.ins C dx fs)) (cl:Cls K C) (ha:PySem.W.findIn K (.ref C) "__class__" = some (some (.builtin "object.__class__")))
      (hn:PySem.W.specialIn K (.builtin "object.__class__") "__get__" = some (some (.builtin "getset_descriptor.__get__"))) (htk:PySem.W.takesIn K (.builtin "object.__class__")=some true)
      (hm:PySem.W.mroIn K C (.type "object")=some true):TyOf K H (.ref a) (.ref C)
theorem Qia {x:V} {u t:Value} (I:Inv X pins σ H s) (rx:RelV x u) (ty:TyOf X.K H x t) (e:PySem.W.kitOne X.K t c=some b) (h:∀ tk,Q (.bool b) { s with toks:=tk }) :
    wpAny (model X.prog X.w) A (call (.builtin "isinstance") [u,c]) Q E s:=by
  cases ty with
  | non=>cases (show u=Value.none from rx);exact PySem.W.kia_one PySem.W.kitx_none I.kIn True.intro e (fun z=>nomatch z) h
  | bl y=>cases (show u=Value.bool y from rx);exact PySem.W.kia_one PySem.W.kitx_bool I.kIn True.intro e (fun z=>nomatch z) h
  | int i=>obtain ⟨t,q⟩:=(show ∃ t,u=Value.int i t from rx);cases q;exact PySem.W.kia_one PySem.W.kitx_int I.kIn True.intro e (fun z=>nomatch z) h
  | str y=>obtain ⟨t,q⟩:=(show ∃ t,u=Value.str y t from rx);cases q;exact PySem.W.kia_one PySem.W.kitx_str I.kIn True.intro e (fun z=>nomatch z) h
  | flt y=>obtain ⟨t,q⟩:=(show ∃ t,u=Value.float y t from rx);cases q;exact PySem.W.kia_one PySem.W.kitx_float I.kIn True.intro e (fun z=>nomatch z) h
  | @lst a xs ea=>
    cases (show u=Value.ref a from rx)
    obtain ⟨_,_,n,_,h1⟩:=(show ObjOk X.prog X.w H s.heap a (.lst xs) from I.hok a _ ea)
    exact PySem.W.kia_one PySem.W.kitx_list I.kIn ⟨_,h1,rfl⟩ e (fun z=>nomatch z) h
  | @frz a ob xs ea=>
    cases (show u=Value.ref a from rx)
    obtain ⟨_,_,_,n,_,h1⟩:=(show ObjOk X.prog X.w H s.heap a (.frz ob (.lst xs)) from I.hok a _ ea)
    exact PySem.W.kia_one PySem.W.kitx_list I.kIn ⟨_,h1,rfl⟩ e (fun z=>nomatch z) h
  | @tup a xs ea=>
    cases (show u=Value.ref a from rx)
    obtain ⟨_,_,_,p⟩:=(show ObjOk X.prog X.w H s.heap a (.tup xs) from I.hok a _ ea)
    obtain ⟨o,h1,h2,_⟩:=p
    exact PySem.W.kia_one PySem.W.kitx_tuple I.kIn ⟨o,h1,h2⟩ e (fun z=>nomatch z) h
  | @dK a kvs ea=>
    cases (show u=Value.ref a from rx)
    obtain ⟨_,_,vs,_,p⟩:=(show ObjOk X.prog X.w H s.heap a (.dK kvs) from I.hok a _ ea)
    obtain ⟨o,es,ep,h1,h2,_⟩:=p
    exact PySem.W.kia_one PySem.W.kitx_dict I.kIn ⟨o,h1,h2.1⟩ e (fun z=>nomatch z) h
  | @dT a kvs ea=>
    cases (show u=Value.ref a from rx)
    obtain ⟨_,_,xs,_,o,es,ep,h1,h2,_⟩:=(show ObjOk X.prog X.w H s.heap a (.dT kvs) from I.hok a _ ea)
    exact PySem.W.kia_one PySem.W.kitx_dict I.kIn ⟨o,h1,h2.1⟩ e (fun z=>nomatch z) h
  | @ins a C dx fs ea cl ha hn htk hm=>
    cases (show u=Value.ref a from rx)
    obtain ⟨mA,O,_⟩:=Ql0 I.hok ea
    obtain ⟨od,J,_⟩:=O.look
    exact PySem.W.kia_one (PySem.W.kitx_own (cl.get _) cl.hd ha hn htk hm) I.kIn J e (fun z=>nomatch z) h
end
structure Room (k:Nat) (A:Around):Prop where
  hd:A.handled=none
  dp:A.depth+3*k+5<recursionLimit
  un:A.units+16*k+200<cLine
theorem Room.mono {j k:Nat} {A:Around} (r:Room k A) (h:j<=k):Room j A:=⟨r.hd,by have:=r.dp;omega,by have:=r.un;omega⟩
theorem Room.deeper {k:Nat} {A:Around} (r:Room (k+1) A) (env:Env):Room k (A.deeper env):=
  ⟨r.hd,by have:=r.dp;show A.depth+1+3*k+5<_;omega,by have:=r.un;show A.units+3+16*k+200<_;omega⟩
theorem Room.in1 {k:Nat} {A:Around} (r:Room (k+1) A):Room k A.in1:=
  ⟨r.hd,by have:=r.dp;show A.depth+3*k+5<_;omega,by have:=r.un;show A.units+1+16*k+200<_;omega⟩
theorem Room.depth {k:Nat} {A:Around} (r:Room k A):A.depth<recursionLimit:=by have:=r.dp;omega
theorem Room.units {k:Nat} {A:Around} (r:Room k A):A.units+64<cLine:=by have:=r.un;omega
def tNil:TA:=fun _ H Q=>Q [] H
def Qgx (ta:TE) (tr:TA):TA:=fun σ H Q=>ta σ H fun x H1=>tr σ H1 fun xs H2=>Q (x::xs) H2
section
variable {X:Cx} {e:Expr} {es:List Expr} {te:TE} {t:TA} {pos:Pos}
theorem Qba:PA X [] tNil:=fun _ _ _ _ H Q I h=>Calls.spliced_nil ⟨[],H,I,.nil,h⟩
theorem Qc9 (ha:PE X e te) (hr:PA X es t) (hs:starEach (e::es) X.env=(false,eval e X.env)::starEach es X.env:=by rfl):PA X (e::es) (Qgx te t):=by
  intro pos pins s σ H Q I h
  rw [hs]
  show wpAny _ _ (spliced ((false,eval e X.env)::backTo pos (starEach es X.env))) _ _ s
  refine Calls.spliced_cons (thn (ha pins s σ H _ I h) fun u s1 ⟨x,H1,I1,r1,q1⟩=>?_)
  exact thn (hr pos pins s1 σ H1 _ I1 q1) fun us s2 ⟨xs,H2,I2,r2,q2⟩=>⟨x::xs,H2,I2,.cons r1 r2,q2⟩
def tLst (t:TA):TE:=fun σ H Q=>t σ H fun xs H1=>xs.length<=sizeLine/\∀ p,H1 p=none->Q (.ref p) (upd H1 p (.lst xs))
theorem Qkd (h:PA X es t):PE X (.List es pos) (tLst t):=by
  intro pins s σ H Q I hq
  refine wpAny_List_spliced (thn (h pos pins s σ H _ I hq) fun us s1 ⟨xs,H1,I1,r,z,q⟩=>⟨by rw [<- r.length];exact z,?_⟩)
  have hf:H1 s1.heap.objs.size=none:=I1.hok.fresh (Nat.le_refl _)
  refine ⟨.ref s1.heap.objs.size,upd H1 s1.heap.objs.size (.lst xs),I1.laid (t':=s1.toks) (fun b u e=>Heap.get?_push_of_some _ e) (Nat.le_refl _) ?_,rfl,q _ hf⟩
  exact ⟨z,us,0,r,Heap.get?_push_size _ rfl⟩
end
abbrev Sp:=List V->Hp->VK->XK->Prop
abbrev CXT:=List Env->Hp->Shared->XK->Value->Shared->Prop
structure Env0 (P:Program) (w:World) (K:PySem.W.Frag) (mg:Str->Option Value) (base:Heap) (A:Around) (outer:List Env) (s:Shared) (H:Hp):Prop where
  frames:A.frames=some outer
  mod:Mod K mg base
  bs:∀ b o,base.get? b=some o->s.heap.get? b=some o/\H b=none
  bsz:base.objs.size<=s.heap.objs.size
  funs:s.heap.FunFrames base outer
  frf:∀ b∈frs outer,H b=none
  hok:HOk P w H s.heap
  bare:AllBare s.gens
def CE (outer:List Env) (P:Program) (w:World) (H:Hp) (s:Shared) (Q:VK) (u:Value) (s':Shared):Prop:=
  ∃ v H',s'.os=s.os/\AllBare s'.gens/\Un (frs outer) [] H H' s.heap s'.heap/\HOk P w H' s'.heap/\RelV v u/\Q v H'
def CR (CX:CXT) (outer:List Env) (P:Program) (w:World) (H:Hp) (s:Shared) (Q:VK) (E:XK) (r:Result) (s':Shared):Prop:=
  match r with
  | .ok (.ret u)=>CE outer P w H s Q u s'
  | .ok _=>False
  | .error e=>CX outer H s E e s'
structure FnOk (P:Program) (w:World) (K:PySem.W.Frag) (mg:Str->Option Value) (base:Heap) (CX:CXT) (k:Nat) (f:Addr) (fd:FuncData) (ps:List Str) (sp:Sp):Prop where
  len:∀ vs H Q E,sp vs H Q E->vs.length=ps.length
  run:∀ (A:Around) (outer:List Env) (s:Shared) (H:Hp) (args:Args) (us:List Value) (vs:List V) (Q:VK) (E:XK),Room k A->Env0 P w K mg base A outer s H->BindsTo s fd args (ps.zip us)->Vals vs us->sp vs H Q E ->
    codeAny (model P w) A (.call (.ref f) args) (CR CX outer P w H s Q E) s
theorem FnOk.mono {P:Program} {w:World} {K:PySem.W.Frag} {mg:Str->Option Value} {base:Heap} {CX:CXT} {j k:Nat} {f:Addr} {fd:FuncData} {ps:List Str} {sp:Sp} (F:FnOk P w K mg base CX j f fd ps sp) (h:j<=k) :
    FnOk P w K mg base CX k f fd ps sp:=⟨F.len,fun A outer s H args us vs Q E hr=>F.run A outer s H args us vs Q E (hr.mono h)⟩
theorem FnOk.imp {P:Program} {w:World} {K:PySem.W.Frag} {mg:Str->Option Value} {base:Heap} {CX:CXT} {k:Nat} {f:Addr} {fd:FuncData} {ps:List Str} {sp sp':Sp} (F:FnOk P w K mg base CX k f fd ps sp)
    (h:∀ vs H Q E,sp' vs H Q E->sp vs H Q E):FnOk P w K mg base CX k f fd ps sp':=
  ⟨fun vs H Q E q=>F.len vs H Q E (h _ _ _ _ q),fun A outer s H args us vs Q E hr he hb hv hs=>F.run A outer s H args us vs Q E hr he hb hv (h _ _ _ _ hs)⟩
theorem Env0.in1 {P:Program} {w:World} {K:PySem.W.Frag} {mg:Str->Option Value} {base:Heap} {A:Around} {outer:List Env} {s:Shared} {H:Hp} (e:Env0 P w K mg base A outer s H) :
    Env0 P w K mg base A.in1 outer s H:=⟨e.frames,e.mod,e.bs,e.bsz,e.funs,e.frf,e.hok,e.bare⟩
section
variable {X:Cx} {pins:List (Addr×Obj)} {σ:St} {H:Hp} {s s':Shared}
theorem Inv.env0 (I:Inv X pins σ H s):Env0 X.prog X.w X.K X.mg X.base X.A X.stack s H:=
  ⟨I.ok.frames,I.ok.mod,I.bs,Nat.le_trans I.ok.bsz I.sz,I.stack,I.stkFree,I.hok,I.bare⟩
theorem Inv.after {Q:VK} {u:Value} (I:Inv X pins σ H s) (h:CE X.stack X.prog X.w H s Q u s'):EP X pins σ Q u s':=by
  obtain ⟨v,H',os,bare,un,hok,r,q⟩:=h
  obtain ⟨hh,g,d,t,os'⟩:=s'
  obtain rfl:os'=s.os:=os
  exact ⟨v,H',I.call (h':=hh) (g':=g) (d':=d) (t':=t) (ch:=[]) un hok bare (fun b z=>absurd z (by simp)),r,q⟩
end
def tCall (sp:Sp) (dvs:List V) (E:XK) (t:TA):TE:=fun σ H Q=>t σ H fun vs H1=>sp (vs++dvs) H1 Q E
def Binds (K:PySem.W.Frag) (fd:FuncData) (ps:List Str) (ds:List Value):Prop:=
  ∀ (s:Shared) (us:List Value),K.In s.heap->(us++ds).length=ps.length->BindsTo s fd ⟨us,[]⟩ (ps.zip (us++ds))
theorem Binds.all {K:PySem.W.Frag} {fd:FuncData} {ps:List Str} (h:∀ us:List Value,us.length=ps.length->bindArgs fd ⟨us,[]⟩=pure (ps.zip us)):Binds K fd ps []:=fun s us _ hl=>by
  rw [List.append_nil] at hl ⊢
  exact .of_eq (h us hl)
def Qds (CX:CXT) (X:Cx) (E:XK):Prop:=∀ (pins:List (Addr×Obj)) (σ:St) (H:Hp) (s:Shared) (e:Value) (s':Shared),Inv X pins σ H s->CX X.stack H s E e s'->X.xe e s'
section
variable {X:Cx} {CX:CXT} {k:Nat} {f C:Addr} {fd:FuncData} {ps:List Str} {sp:Sp} {dvs:List V} {ds:List Value} {E:XK} {x m:Str} {p pos apos:Pos} {e o:Expr} {es:List Expr} {ta:TE} {t:TA}
theorem run_fn {pins:List (Addr×Obj)} {σ:St} {H:Hp} {s:Shared} {Q:VK} {us:List Value} {vs:List V} (F:FnOk X.prog X.w X.K X.mg X.base CX k f fd ps sp) (hr:Room k X.A) (hb:Binds X.K fd ps ds) (hd:Vals dvs ds) (hx:Qds CX X E)
    (I:Inv X pins σ H s) (r:Vals vs us) (h:sp (vs++dvs) H Q E):wpAny (model X.prog X.w) X.A (call (.ref f) us) (EP X pins σ Q) X.xe s:=by
  have r2:Vals (vs++dvs) (us++ds):=r.append hd
  have hl:(us++ds).length=ps.length:=by rw [<- r2.length];exact F.len _ _ _ _ h
  refine wpAny_call (codeAny_mono (F.run X.A X.stack s H ⟨us,[]⟩ (us++ds) (vs++dvs) Q E hr I.env0 (hb s us I.kIn hl) r2 h) fun r s' hq=>?_)
  cases r with
  | error e=>exact hx pins σ H s e s' I hq
  | ok fl=>
    cases fl with
    | ret u=>exact I.after hq
    | next=>exact False.elim hq
    | brk=>exact False.elim hq
    | cont=>exact False.elim hq
theorem Qfm (F:FnOk X.prog X.w X.K X.mg X.base CX k f fd ps sp) (hr:Room k X.A) (hg:Gl X x) (hm:X.mg x=some (.ref f)) (hk:PySem.W.keepIn X.K (.ref f)=true) (hb:Binds X.K fd ps ds) (hd:Vals dvs ds) (hx:Qds CX X E)
    (ha:PA X (e::es) t) (hdb:(x == ("__debug__" : Str))=false:=by decide) (he:starEach (e::es) X.env=(false,eval e X.env)::starEach es X.env:=by rfl) (hpl:(backTo pos (starEach es X.env)).any (·.1)=false:=by rfl) :
    PE X (.Call (.Name x p) (e::es) [] pos) (tCall sp dvs E t):=by
  intro pins s σ H Q I h
  refine wpAny_Call_Name_kw (QlV I hg hm ?_ hdb)
  refine PySem.W.callWith_K (h₀:=X.base) I.ok.mod.kin hk (thn (ha pos pins s σ H _ I h) fun us s1 ⟨vs,H1,I1,r,q⟩=>⟨I1.kIn,?_⟩) he hpl
  exact run_fn F hr hb hd hx I1 r q
end
section
variable {X:Cx} {CX:CXT} {k:Nat} {f C:Addr} {fd:FuncData} {ps ks:List Str} {sp:Sp} {E:XK} {x m:Str} {p pos apos kpos:Pos} {e o:Expr} {es:List Expr} {kws:List Keyword} {te ta:TE} {t tk:TA} {nm:Option Str}
variable {g:List Value->List Value->List Value} {gV:List V->List V->List V}
end
structure FnScope (N P:List Str) (sc:Scope):Prop where
  kind:sc.kind=.function
  co:sc.isCoroutine=false
  gen:sc.isGenerator=false
  nd:N.Nodup
  pre:N.take P.length=P
  par:∀ x∈P,sc.names.lookup x=some .local∨sc.names.lookup x=some .cell
  nofree:∀ y∈sc.names,y.2≠.free
theorem Qe5 {kindOf:Str->Option NameKind} {x:Str}:∀ {binds:List (Str×Value)} {m:Str->Option Value},(∀ v,(x,v)∉binds)->bindL kindOf binds m x=m x
  | [],_,_=>rfl
  | (n,v)::r,m,h=>by
    unfold bindL
    rw [Qe5 fun w hw=>h w (List.mem_cons_of_mem _ hw)]
    split
    · have:x≠n:=by rintro rfl;exact h v List.mem_cons_self
      simp [this]
    · rfl
theorem Qe7 {kindOf:Str->Option NameKind} {x:Str}:∀ {binds:List (Str×Value)} {m:Str->Option Value},(∀ v,(x,v)∉binds)->bindC kindOf binds m x=m x
  | [],_,_=>rfl
  | (n,v)::r,m,h=>by
    unfold bindC
    rw [Qe7 fun w hw=>h w (List.mem_cons_of_mem _ hw)]
    split
    · rfl
    · have:x≠n:=by rintro rfl;exact h v List.mem_cons_self
      simp [this]
theorem Qe6 {kindOf:Str->Option NameKind} {x:Str} {v:Value}:∀ {P:List Str} {vs:List Value} {i:Nat} {m:Str->Option Value},P.Nodup->P[i]? = some x->vs[i]? = some v->kindOf x=some .local ->
    bindL kindOf (P.zip vs) m x=some v
  | [],_,_,_,_,h,_,_=>by simp at h
  | _::_,[],_,_,_,_,h,_=>by simp at h
  | p::P,w::vs,0,m,nd,h1,h2,hk=>by
    simp at h1 h2;subst h1;subst h2
    show bindL kindOf ((p,w)::P.zip vs) m p=_
    unfold bindL
    rw [Qe5 fun v hv=>(List.nodup_cons.mp nd).1 (List.of_mem_zip hv).1,if_pos hk]
    simp
  | p::P,w::vs,i+1,m,nd,h1,h2,hk=>by
    show bindL kindOf ((p,w)::P.zip vs) m x=_
    unfold bindL
    exact Qe6 (i:=i) (List.nodup_cons.mp nd).2 (by simpa using h1) (by simpa using h2) hk
theorem Qe8 {kindOf:Str->Option NameKind} {x:Str} {v:Value}:∀ {P:List Str} {vs:List Value} {i:Nat} {m:Str->Option Value},P.Nodup->P[i]? = some x->vs[i]? = some v->kindOf x≠some .local ->
    bindC kindOf (P.zip vs) m x=some v
  | [],_,_,_,_,h,_,_=>by simp at h
  | _::_,[],_,_,_,_,h,_=>by simp at h
  | p::P,w::vs,0,m,nd,h1,h2,hk=>by
    simp at h1 h2;subst h1;subst h2
    show bindC kindOf ((p,w)::P.zip vs) m p=_
    unfold bindC
    rw [Qe7 fun v hv=>(List.nodup_cons.mp nd).1 (List.of_mem_zip hv).1,if_neg hk]
    simp
  | p::P,w::vs,i+1,m,nd,h1,h2,hk=>by
    show bindC kindOf ((p,w)::P.zip vs) m x=_
    unfold bindC
    exact Qe8 (i:=i) (List.nodup_cons.mp nd).2 (by simpa using h1) (by simpa using h2) hk
def start (N:List Str) (vs:List V):St:=vs.map some++List.replicate (N.length - vs.length) none
def cxOf (CX:CXT) (P:Program) (w:World) (K:PySem.W.Frag) (mg:Str->Option Value) (base:Heap) (N:List Str) (qual:Str) (scope:Scope) (f:Addr) (cd:Value) (A:Around) (outer:List Env) (s:Shared) (H:Hp) (E:XK):Cx where
  prog:=P
  w:=w
  K:=K
  mg:=mg
  base:=base
  A:=A.deeper (envOfC qual scope s.heap.objs.size f cd)
  N:=N
  s₀:=s
  H₀:=H
  env:=envOfC qual scope s.heap.objs.size f cd
  outer:=outer
  stack:=envOfC qual scope s.heap.objs.size f cd::outer
  ex:=[]
  calm:=true
  fn:=fun _=>true
  pn:=[]
  xe:=fun e s'=>wpAny (model P w) (A.deeper (envOfC qual scope s.heap.objs.size f cd)) (leaving (envOfC qual scope s.heap.objs.size f cd) e) (fun _ s''=>CX outer H s E e s'') (fun e' s''=>CX outer H s E e' s'') s'
theorem Qgn {sc:Scope} {n:Nat} {x:Str} (h:sc.names.lookup x=some .cell):∃ c,(cellsFrom n sc.names []).lookup x=some c:=by
  have q:=PySem.W.cellsFrom_some sc.names n [] (.inl h)
  exact Option.isSome_iff_exists.mp q
theorem Qib {CX:CXT} {P:Program} {w:World} {K:PySem.W.Frag} {mg:Str->Option Value} {base:Heap} {N ps:List Str} {qual:Str} {scope:Scope} {f:Addr} {cd:Value} {A:Around} {outer:List Env} {s s1:Shared} {H:Hp} {E:XK} {us:List Value} {vs:List V}
    (S:FnScope N ps scope) (hd:A.handled=none) (e0:Env0 P w K mg base A outer s H) (hl:vs.length=ps.length) (r:Vals vs us)
    (x:InCallC s s.heap.objs.size (bindL (envOfC qual scope s.heap.objs.size f cd).kindOf (ps.zip us) fun _=>none) (cellsFrom (s.heap.objs.size+1) scope.names []) (bindC (envOfC qual scope s.heap.objs.size f cd).kindOf (ps.zip us) fun _=>none) s1) :
    Inv (cxOf CX P w K mg base N qual scope f cd A outer s H E) [] (start N vs) H s1:=by
  have hpl:ps.length<=N.length:=by have:=congrArg List.length S.pre;rw [List.length_take] at this;omega
  obtain ⟨h1,tk,rfl,hk⟩:=x.done
  have noA:∀ b:Addr,b∉(cxOf CX P w K mg base N qual scope f cd A outer s H E).ex:=fun b z=>absurd (show b∈([]:List Addr) from z) (by simp)
  refine ⟨⟨e0.mod,S.kind,rfl,rfl,Nat.le_refl _,fun y z c h1 h2=>?_,fun y hy=>?_,fun y c _ h=>?_,fun _=>hd,Around.frames_deeper e0.frames,.inr ⟨rfl,rfl⟩,fun b z=>absurd z (noA b),e0.bs,e0.bsz,fun b _ _=>noA b,fun b z=>absurd z (noA b),e0.funs,e0.frf⟩,
    rfl,e0.bare,Un.kept hk,⟨_,x.toInCall.ns,fun i y v h1 h2 h3=>?_⟩,fun y c h=>⟨_,x.cell y c h⟩,e0.hok.fresh (Nat.le_refl _),fun y c h=>?_,fun p hp=>absurd (show p∈([]:List (Addr×Obj)) from hp) (by simp),e0.hok.kept hk,?_⟩
  · exact name_of_addr x.apart (PySem.mem_of_lookup h1) (PySem.mem_of_lookup h2)
  · have hy:scope.names.lookup y=some .cell∨scope.names.lookup y=some .free:=hy
    rcases hy with hy | hy
    · exact Qgn hy
    · exact absurd rfl (S.nofree _ (PySem.mem_of_lookup hy))
  · exact Nat.le_of_lt (x.above y c (PySem.mem_of_lookup h))
  · have hi:i<vs.length:=by
      unfold start at h2
      by_cases hi:i<vs.length
      · exact hi
      · rw [List.getElem?_append_right (by simpa using hi)] at h2
        rw [List.getElem?_replicate] at h2
        split at h2<;>cases h2
    have ha:vs[i]? = some v:=by
      unfold start at h2
      rw [List.getElem?_append_left (by simpa using hi),List.getElem?_map] at h2
      cases e:vs[i]? with
      | none=>rw [e] at h2;cases h2
      | some a=>rw [e] at h2;cases h2;rfl
    obtain ⟨u,hu,rv⟩:=r.get ha
    have hp:ps[i]? = some y:=by
      rw [<- S.pre,List.getElem?_take_of_lt (by omega)];exact h1
    have ndP:ps.Nodup:=by rw [<- S.pre];exact S.nd.sublist (List.take_sublist _ _)
    refine ⟨u,rv,?_⟩
    rcases S.par y (List.mem_of_getElem? hp) with k | k
    · exact .inl ⟨k,Qe6 ndP hp hu k⟩
    · obtain ⟨c,e⟩:=Qgn (n:=s.heap.objs.size+1) k
      refine .inr ⟨.inl k,c,e,?_⟩
      have q:=x.cell y c e
      rw [Qe8 ndP hp hu (by show scope.names.lookup y≠_;rw [k];decide)] at q
      exact q
  · exact e0.hok.fresh (Nat.le_of_lt (x.above y c (PySem.mem_of_lookup h)))
  · unfold start
    show _=N.length
    rw [List.length_append,List.length_map,List.length_replicate]
    omega
theorem fn_of {CX:CXT} {P:Program} {w:World} {K:PySem.W.Frag} {mg:Str->Option Value} {base:Heap} {k:Nat} {f:Addr} {name qual:Str} {params:Arguments} {body:List Stmt} {scope:Scope} {dV kV doc pm cdv ct oc:Value} {an od:Option Addr}
    {osl:Array (Option Value)} {N ps:List Str} {sp:Sp} (lk:K.lookup f=some ⟨oc,od,.func (PySem.W.fnOf name qual params body scope dV kV doc pm an cdv ct),osl⟩) (hcd:PySem.W.codeIn K cdv qual=true) (S:FnScope N ps scope)
    (len:∀ vs H Q E,sp vs H Q E->vs.length=ps.length)
    (hbody:∀ (A:Around) (outer:List Env) (s:Shared) (H:Hp) (vs:List V) (Q:VK) (E:XK),Room k (A.deeper (envOfC qual scope s.heap.objs.size f cdv))->sp vs H Q E ->
      ∃ t,PSs (cxOf CX P w K mg base N qual scope f cdv A outer s H E) body t/\t { nx:=fun _ H'=>Q .non H',rt:=Q } (start N vs) H) :
    FnOk P w K mg base CX (k+1) f (PySem.W.fnOf name qual params body scope dV kV doc pm an cdv ct) ps sp:=by
  refine ⟨len,fun A outer s H args us vs Q E hr e0 hb r hsp=>?_⟩
  have hl:=len _ _ _ _ hsp
  have KX:K.In s.heap:=e0.mod.kin.keeps fun b o e=>(e0.bs b o e).1
  have lim:s.heap.NoLimit:=e0.mod.nolimit.keeps fun b o e=>(e0.bs b o e).1
  have hkind:∀ y∈ps.zip us,scope.names.lookup y.1=some .local∨(scope.names.lookup y.1=some .cell/\((cellsFrom (s.heap.objs.size+1) scope.names []).lookup y.1).isSome=true):=fun ⟨n,v⟩ hy=>by
    rcases S.par n (List.of_mem_zip hy).1 with q | q
    · exact .inl q
    · exact .inr ⟨q,PySem.W.cellsFrom_some _ _ _ (.inl q)⟩
  refine codeAny_call_function hr.depth (KX _ _ lk) rfl S.co S.gen rfl (PySem.W.codeRec_of KX hcd) (hb _ _ _ _ ?_)
  refine wpAny_newFunctionEnv_cells S.kind hkind fun env he s1 x=>?_
  subst he
  refine ⟨lim.keeps x.toInCall.keep,codeAny_func ?_⟩
  obtain ⟨t,ht,hq⟩:=hbody A outer s H vs Q E (hr.deeper _) hsp
  have I:Inv (cxOf CX P w K mg base N qual scope f cdv A outer s H E) [] (start N vs) H s1:=Qib S hr.hd e0 hl r x
  refine wpAny_mono (ht [] s1 (start N vs) H _ I hq) (fun fl s' hs=>?_) fun e s' hs=>hs
  have fin:∀ {σ':St} {H':Hp} {v:V} {u:Value},Inv (cxOf CX P w K mg base N qual scope f cdv A outer s H E) [] σ' H' s'->RelV v u->Q v H'->CE outer P w H s Q u s':=
    fun {σ' H' v u} J rv q=>⟨v,H',J.os,J.bare,J.base,J.hok,rv,q⟩
  cases fl with
  | ret u=>
    obtain ⟨v,σ',H',J,rv,q⟩:=hs
    exact fin J rv q
  | next=>
    obtain ⟨σ',H',J,q⟩:=hs
    exact fin (v:=V.non) (u:=Value.none) J rfl q
  | brk=>
    obtain ⟨_,_,_,q⟩:=hs
    exact False.elim q
  | cont=>
    obtain ⟨_,_,_,q⟩:=hs
    exact False.elim q
section
variable {X:Cx} {x:Str} {p pos:Pos} {e:Expr} {es:List Expr} {t:TA} {id T:String} {r:List V->Hp->VK->Prop}
def tCB (r:List V->Hp->VK->Prop) (t:TA):TE:=fun σ H Q=>t σ H fun vs H1=>r vs H1 Q
theorem Qb6 (hc:CallR X (.builtin id) r) (hg:Gl X x) (hm:X.mg x=none) (hv:bootBuiltins x=some (.builtin id)) (ha:PA X (e::es) t) (hn:x ≠ "__name__" := by decide) (hdb:(x == ("__debug__" : Str))=false:=by decide)
    (he:starEach (e::es) X.env=(false,eval e X.env)::starEach es X.env:=by rfl) (hpl:(backTo pos (starEach es X.env)).any (·.1)=false:=by rfl):PE X (.Call (.Name x p) (e::es) [] pos) (tCB r t):=by
  intro pins s σ H Q I h
  refine wpAny_Call_Name_kw (QdM I hg hm hv ?_ hn hdb)
  exact PyProof.Rows.callWith_builtin1 (thn (ha pos pins s σ H _ I h) fun us s1 ⟨vs,H1,I1,r1,q1⟩=>hc pins s1 σ H1 vs us Q I1 r1 q1) he hpl
theorem Qc8 (hc:CallR X (.type T) r) (hg:Gl X x) (hm:X.mg x=none) (hv:bootBuiltins x=some (.type T)) (ha:PA X (e::es) t) (hn:x ≠ "__name__" := by decide) (hdb:(x == ("__debug__" : Str))=false:=by decide)
    (he:starEach (e::es) X.env=(false,eval e X.env)::starEach es X.env:=by rfl) (hpl:(backTo pos (starEach es X.env)).any (·.1)=false:=by rfl):PE X (.Call (.Name x p) (e::es) [] pos) (tCB r t):=by
  intro pins s σ H Q I h
  refine wpAny_Call_Name_kw (QdM I hg hm hv ?_ hn hdb)
  exact PyProof.Rows.callWith_type1 (thn (ha pos pins s σ H _ I h) fun us s1 ⟨vs,H1,I1,r1,q1⟩=>hc pins s1 σ H1 vs us Q I1 r1 q1) he hpl
end
end L2
namespace HT
open PySem PyProof.Rows
theorem rcLt_int (A:Around) (s:Shared) (a:Int) (t:Tok) (c:Int) (u:Tok) (prog:Program) (w:World) (E:Value->Shared->Prop) (Q:Value->Shared->Prop) (h:Q (.bool (decide (a<c))) s) :
    wpAny (model prog w) A (richCompare .Lt (.int a t) (.int c u)) Q E s:=
  (PyProof.Rows.lt_int h:wpAny (model prog w) A (compareOp .Lt (.int a t) (.int c u)) Q E s)
section
open PySem.SeqAt
open PySem.AutoSeq1 (wpAny_loadPart')
open PySem.MeetsSeq PySem.MeetsSeq2 PySem.MeetsSeq3
end
section
variable {prog:Program} {w:World} {A:Around} {E:Value->Shared->Prop} {s:Shared}
theorem cat_tup {t b:Addr} {vs ws:List Value} {Q:Value->Shared->Prop} (ht:IsTup s.heap t vs.toArray) (hb:IsTup s.heap b ws.toArray) (hv:vs≠[])
    (h1:ws=[]->Q (.ref t) s) (h2:ws≠[]->Q (.ref s.heap.objs.size) { s with heap:=s.heap.push { cls:=.type "tuple",data:=.seq (vs++ws).toArray } })
    (hsz:vs.length+ws.length<=sizeLine):wpAny (model prog w) A (binaryOp .Add (.ref t) (.ref b)) Q E s:=by
  obtain ⟨⟨cls,dd,data,sl⟩,ho,hc,n,hd⟩:=id ht
  obtain ⟨⟨cls2,dd2,data2,sl2⟩,ho2,hc2,n2,hd2⟩:=id hb
  simp only at hc hd hc2 hd2
  subst hc hd hc2 hd2
  have e:vs.toArray++ws.toArray=(vs++ws).toArray:=by simp
  by_cases hw:ws=[]
  · exact concat_meets ⟨_,ho,rfl⟩ ⟨_,ho2,rfl⟩ noFill_tuple_add seq_tuple_add PySem.F.slot_tuple_add PySem.F.entry_tuple_add (PySem.F.args_tuple_add_2 _ _)
      (tuple_addW1 t b vs.toArray ws.toArray n n2 dd dd2 sl sl2 (by simpa using hv) (by simp [hw])) ⟨ho,ho2,h1 hw⟩
  · refine concat_meets ⟨_,ho,rfl⟩ ⟨_,ho2,rfl⟩ noFill_tuple_add seq_tuple_add PySem.F.slot_tuple_add PySem.F.entry_tuple_add (PySem.F.args_tuple_add_2 _ _)
      (tuple_addW2 t b vs.toArray ws.toArray n n2 dd dd2 sl sl2 (by simpa using hv) (by simpa using hw) (by rw [List.size_toArray,List.size_toArray];exact hsz)) ⟨ho,ho2,?_⟩
    rw [e]
    exact h2 hw
def sIx (n d:Nat):Option Int->Nat
  | none=>d
  | some v=>if v<0 then (v+(n:Int)).toNat else min v.toNat n
theorem sIx_none (n d:Nat):sIx n d none=d:=rfl
theorem sIx_nat (n d k:Nat):sIx n d (some (k:Int))=min k n:=by
  show (if (k:Int)<0 then ((k:Int)+(n:Int)).toNat else min (k:Int).toNat n)=min k n
  rw [if_neg (by omega),Int.toNat_natCast]
theorem sIx_le (n d:Nat) (hd:d<=n) (o:Option Int):sIx n d o<=n:=by
  cases o with
  | none=>exact hd
  | some v=>
    show (if v<0 then (v+(n:Int)).toNat else min v.toNat n)<=n
    by_cases hv:v<0
    · rw [if_pos hv];omega
    · rw [if_neg hv];exact Nat.min_le_right _ _
theorem Qiw (v:Int) (n d:Nat):(if v<0 then max (v+(n:Int)) 0 else min v (n:Int))=((sIx n d (some v):Nat):Int):=by
  show (if v<0 then max (v+(n:Int)) 0 else min v (n:Int))=(((if v<0 then (v+(n:Int)).toNat else min v.toNat n):Nat):Int)
  by_cases hv:v<0
  · simp only [if_pos hv];omega
  · simp only [if_neg hv];omega
theorem QgU (lo hi:Option Int) (n:Nat):Builtin.Slice.sliceAdjust lo hi 1 (n:Int)=(((sIx n 0 lo:Nat):Int),((sIx n n hi:Nat):Int)):=by
  have h1:¬ ((1:Int)<0):=by omega
  unfold Builtin.Slice.sliceAdjust
  simp only [h1,if_false]
  refine Prod.ext ?_ ?_
  · cases lo with
    | none=>rfl
    | some v=>exact Qiw v n 0
  · cases hi with
    | none=>rfl
    | some v=>exact Qiw v n n
theorem QgA (i j:Nat):Builtin.Slice.slicePlaces (i:Int) (j:Int) 1=j - i:=by
  unfold Builtin.Slice.slicePlaces
  have h1:(1:Int) > 0:=by omega
  simp only [h1,if_true,Int.ediv_one]
  split<;>omega
theorem Qdz {v:Value} {o:Option Int} {Q:Option Int->Shared->Prop} (p:IsPart v o) (h:Q o s):wpAny (model prog w) A (Builtin.Slice.slicePartIndex v) Q E s:=by
  cases p with
  | none=>exact slicePart_none h
  | int i t=>exact slicePart_int h
theorem sliceApplied_gen {sl:Addr} {vl vu:Value} {lo hi:Option Int} {n:Nat} {Q:Int×Int×Nat->Shared->Prop} (hs:s.heap.IsSliceOf sl vl vu .none) (pl:IsPart vl lo) (pu:IsPart vu hi)
    (h:Q (((sIx n 0 lo:Nat):Int),1,sIx n n hi - sIx n 0 lo) s):wpAny (model prog w) A (Builtin.Slice.sliceApplied (.ref sl) (pure (n:Int))) Q E s:=by
  obtain ⟨os,hos,hcs,hds⟩:=id hs
  unfold Builtin.Slice.sliceApplied Builtin.Slice.sliceFields
  refine wpAny_bind (wpAny_bind (wpAny_field hos hds (x:=vl) rfl (wpAny_bind (wpAny_field hos hds (x:=vu) rfl (wpAny_bind (wpAny_field hos hds (x:=.none) rfl (wpAny_pure ?_)))))))
  refine wpAny_bind (slicePart_none ?_)
  show wpAny _ _ (if ((1:Int) == 0)=true then _ else _) _ _ s
  rw [if_neg (by decide)]
  refine wpAny_bind (Qdz pl (wpAny_bind (Qdz pu (wpAny_bind (wpAny_pure ?_)))))
  show wpAny _ _ (match Builtin.Slice.sliceAdjust lo hi 1 (n:Int) with | (lo,hi)=>pure (lo,(1:Int),Builtin.Slice.slicePlaces lo hi 1)) _ _ s
  rw [QgU lo hi n]
  show wpAny _ _ (pure (((sIx n 0 lo:Nat):Int),(1:Int),Builtin.Slice.slicePlaces ((sIx n 0 lo:Nat):Int) ((sIx n n hi:Nat):Int) 1)) _ _ s
  rw [QgA]
  exact wpAny_pure h
theorem Qi9 (xs:Array Value) (i k:Nat):((List.range k).filterMap fun (m:Nat)=>xs[((i:Int)+(m:Int)*1).toNat]?).toArray=((xs.toList.drop i).take k).toArray:=by
  have e:(fun (m:Nat)=>xs[((i:Int)+(m:Int)*1).toNat]?)=fun m=>xs[i+m]? := by
    funext m
    have:((i:Int)+(m:Int)*1).toNat=i+m:=by omega
    rw [this]
  rw [e]
  have:=pick_run xs i k
  rw [List.filterMap_map] at this
  have e2:((fun x=>xs[x]?)∘fun x=>i+x)=fun m=>xs[i+m]? := rfl
  rw [e2] at this
  rw [this]
theorem getItem_tuple_cut {t sl:Addr} {items:Array Value} {vl vu:Value} {lo hi:Option Int} {Q:Value->Shared->Prop} (ht:IsTup s.heap t items) (hs:s.heap.IsSliceOf sl vl vu .none) (pl:IsPart vl lo) (pu:IsPart vu hi)
    (hw:¬ (sIx items.size 0 lo=0/\sIx items.size items.size hi=items.size))
    (h:Q (.ref s.heap.objs.size) { s with heap:=s.heap.push { cls:=.type "tuple",data:=.seq ((items.toList.drop (sIx items.size 0 lo)).take (sIx items.size items.size hi - sIx items.size 0 lo)).toArray } })
    (hsz:items.size<=sizeLine):wpAny (model prog w) A (getItem (.ref t) (.ref sl)) Q E s:=by
  have htake:sizeOk (.seq ((items.toList.drop (sIx items.size 0 lo)).take (sIx items.size items.size hi - sIx items.size 0 lo)).toArray):=by
    show ((items.toList.drop (sIx items.size 0 lo)).take (sIx items.size items.size hi - sIx items.size 0 lo)).toArray.size<=sizeLine
    rw [List.size_toArray,List.length_take,List.length_drop,Array.length_toList]
    omega
  have hj:sIx items.size items.size hi<=items.size:=sIx_le _ _ (Nat.le_refl _) hi
  obtain ⟨os,hos,hcs,hds⟩:=id hs
  have hTs:s.TypeIs (.ref sl) "slice" := ⟨os,hos,hcs⟩
  unfold getItem
  try with_reducible refine wpAny_holding ?_
  first | refine wpAny_bind (wpAny_pure ?_) | skip
  refine wpAny_bind (wpAny_sequenceKey ht.typeIs (by decide) ?_)
  refine wpAny_bind (wpAny_callSpecial?_slot (name:=Str.ofString "__getitem__") ht.typeIs PyProof.Rows.slot_tuple_getitem
    (wpAny_call_entry PyProof.Rows.slot_tuple_getitem ht.typeIs entry_tuple_getitem ?_ (args_tuple_getitem _ _)))
  show wpAny _ _ (Builtin.Tuple.tupleItemsOf (.ref t) >>= _) _ _ s
  refine wpAny_bind (tupleItemsOf_ ht ?_)
  refine wpAny_bind (wpAny_typeOf hTs ?_)
  rw [if_pos (by decide)]
  refine wpAny_bind (sliceApplied_gen hs pl pu ?_)
  have hno:¬ ((((sIx items.size 0 lo:Nat):Int) == 0&&(1:Int) == 1&&(sIx items.size items.size hi - sIx items.size 0 lo) == items.size)=true):=by
    intro q
    rw [Bool.and_eq_true,Bool.and_eq_true] at q
    have q1:((sIx items.size 0 lo:Nat):Int)=0:=eq_of_beq q.1.1
    have q2:sIx items.size items.size hi - sIx items.size 0 lo=items.size:=eq_of_beq q.2
    exact hw ⟨by omega,by omega⟩
  show wpAny _ _ (if (((sIx items.size 0 lo:Nat):Int) == 0&&(1:Int) == 1&&(sIx items.size items.size hi - sIx items.size 0 lo) == items.size)=true then _ else _) _ _ s
  rw [if_neg hno,Qi9]
  first
    | exact wpAny_bind (m:=Builtin.Tuple.tupleExact _) (wpAny_newObj_type (wpAny_pure ⟨_,rfl,wpAny_pure h⟩) htake)
    | exact wpAny_bind (m:=Builtin.Tuple.tupleExact _) (wpAny_newObj_type (wpAny_bind (wpAny_pure (wpAny_pure ⟨_,rfl,wpAny_pure h⟩))) htake)
    | exact wpAny_bind (wpAny_bind (m:=Builtin.Tuple.tupleExact _) (wpAny_newObj_type (wpAny_pure (wpAny_pure ⟨_,rfl,wpAny_pure h⟩)) htake))
    | exact wpAny_bind (wpAny_bind (m:=Builtin.Tuple.tupleExact _) (wpAny_newObj_type (wpAny_pure ⟨_,rfl,wpAny_pure h⟩) htake))
end
end HT
namespace L2
open PySem PySem.Spec PyProof.Rows
abbrev TO:=St->Hp->(Option Int->Hp->Prop)->Prop
def PO (X:Cx) (e:Option Expr) (t:TO):Prop:=
  ∀ (pins:List (Addr×Obj)) (s:Shared) (σ:St) (H:Hp) (Q:Option Int->Hp->Prop),Inv X pins σ H s->t σ H Q ->
    wpAny (model X.prog X.w) X.A (evalPart e X.env) (fun u s'=>∃ o H',Inv X pins σ H' s'/\IsPart u o/\Q o H') X.xe s
def QkM:TO:=fun _ H Q=>Q none H
def tPart (t:TE):TO:=fun σ H Q=>t σ H fun x H1=>∃ i,x=.int i/\Q (some i) H1
theorem QcE {ns:List Int}:∀ {us:List Value},Vals (ns.map V.int) us->IntsAre us ns:=by
  induction ns with
  | nil=>intro us r;rw [List.map_nil] at r;cases r;exact .nil
  | cons n ns ih=>
    intro us r
    rw [List.map_cons] at r
    cases r with
    | cons r1 r2=>
      obtain ⟨t,e⟩:=r1
      subst e
      exact .cons n t (ih r2)
section
variable {X:Cx} {e:Expr} {te:TE} {lo hi:Option Expr} {tl th:TO} {pos p2:Pos}
theorem Qk9:PO X none QkM:=by
  intro pins s σ H Q I h
  rw [evalPart_none]
  exact wpAny_pure ⟨none,H,I,.none,h⟩
theorem Qk8 (h:PE X e te):PO X (some e) (tPart te):=by
  intro pins s σ H Q I hw
  rw [evalPart_some]
  refine thn (h pins s σ H _ I hw) fun u s1 ⟨x,H1,I1,r1,q1⟩=>?_
  obtain ⟨i,rfl,q⟩:=q1
  obtain ⟨t,rfl⟩:=r1
  exact ⟨some i,H1,I1,.int i t,q⟩
def SlR (X:Cx) (r:V->Option Int->Option Int->Hp->VK->Prop):Prop:=
  ∀ (pins:List (Addr×Obj)) (s:Shared) (σ:St) (H:Hp) (x:V) (v vl vu:Value) (lo hi:Option Int) (sl:Addr) (Q:VK),Inv X pins σ H s->RelV x v->s.heap.IsSliceOf sl vl vu .none->IsPart vl lo->IsPart vu hi->r x lo hi H Q ->
    ∃ T id,typeLookup (.type T) "__getitem__" = pure (some (.builtin id))/\s.TypeIs v T/\wpAny (model X.prog X.w) X.A (getItem v (.ref sl)) (EP X pins σ Q) X.xe s
theorem SlR.or {r r':V->Option Int->Option Int->Hp->VK->Prop} (h:SlR X r) (h':SlR X r'):SlR X (fun x lo hi H Q=>r x lo hi H Q∨r' x lo hi H Q):=by
  intro pins s σ H x v vl vu lo hi sl Q I rx hs pl pu q
  rcases q with q | q
  · exact h pins s σ H x v vl vu lo hi sl Q I rx hs pl pu q
  · exact h' pins s σ H x v vl vu lo hi sl Q I rx hs pl pu q
def tSl (r:V->Option Int->Option Int->Hp->VK->Prop) (te:TE) (tl th:TO):TE:=fun σ H Q=>te σ H fun x H1=>tl σ H1 fun l H2=>th σ H2 fun u H3=>r x l u H3 Q
theorem Qjb {r:V->Option Int->Option Int->Hp->VK->Prop} (hr:SlR X r) (he:PE X e te) (hl:PO X lo tl) (hu:PO X hi th):PE X (.Subscript e (.Slice lo hi none p2) pos) (tSl r te tl th):=by
  intro pins s σ H Q I h
  refine Subscript_ (thn (he pins s σ H _ I h) fun v s1 ⟨x,H1,I1,r1,q1⟩=>?_)
  refine wpAny_Slice (thn (hl pins s1 σ H1 _ I1 q1) fun vl s2 ⟨l,H2,I2,pl,q2⟩=>thn (hu pins s2 σ H2 _ I2 q2) fun vu s3 ⟨u,H3,I3,pu,q3⟩=>?_)
  rw [evalPart_none]
  refine wpAny_pure ?_
  have I4:Inv X pins σ H3 { s3 with heap:=s3.heap.push { cls:=.type "slice",data:=.fields #[vl,vu,.none] } }:=I3.kept (t':=s3.toks) fun b ob q=>Heap.get?_push_of_some _ q
  obtain ⟨T,id,hT,ht,hg⟩:=hr pins { s3 with heap:=s3.heap.push { cls:=.type "slice",data:=.fields #[vl,vu,.none] } } σ H3 x v vl vu l u s3.heap.objs.size Q I4 r1 (Heap.IsSliceOf.new ..) pl pu q3
  show wpAny (model X.prog X.w) X.A (subscriptTail e (.Slice lo hi none p2) v (.ref s3.heap.objs.size)) (EP X pins σ Q) X.xe { s3 with heap:=s3.heap.push { cls:=.type "slice",data:=.fields #[vl,vu,.none] } }
  exact tail_any (ops:=[.ref s3.heap.objs.size,v]) ht hT hg (by with_unfolding_all rfl)
def cutV (xs:List V) (lo hi:Option Int):List V:=(xs.drop (HT.sIx xs.length 0 lo)).take (HT.sIx xs.length xs.length hi - HT.sIx xs.length 0 lo)
theorem Qdn (xs:List V) (lo hi:Option Int):(cutV xs lo hi).length<=xs.length:=by
  unfold cutV
  rw [List.length_take,List.length_drop]
  omega
def rSlT (K:PySem.W.Frag):V->Option Int->Option Int->Hp->VK->Prop:=fun x lo hi H Q=>∃ a xs,x=.ref a/\SqT K H a xs /\
  ¬ (HT.sIx xs.length 0 lo=0/\HT.sIx xs.length xs.length hi=xs.length)/\∀ p,H p=none->Q (.ref p) (upd H p (.tup (cutV xs lo hi)))
theorem sl_tup:SlR X (rSlT X.K):=by
  intro pins s σ H x v vl vu lo hi sl Q I rx hs pl pu h
  obtain ⟨a,xs,rfl,hx,hw,q⟩:=h
  cases rx
  obtain ⟨its,r,ht,hz⟩:=I.tuple hx
  have hlen:its.toArray.size=xs.length:=by rw [List.size_toArray];exact r.length.symm
  refine ⟨"tuple",_,PyProof.Rows.slot_tuple_getitem.lookup,ht.typeIs,?_⟩
  refine HT.getItem_tuple_cut ht hs pl pu (by rw [hlen];exact hw) ?_ (by rw [hlen];exact hz)
  rw [hlen]
  refine ⟨.ref s.heap.objs.size,_,I.laid (t':=s.toks) (o:=.tup (cutV xs lo hi)) (fun b ob q=>Heap.get?_push_of_some _ q) (Nat.le_refl _) ?_,rfl,q _ (I.hok.fresh (Nat.le_refl _))⟩
  exact ⟨Nat.le_trans (Qdn xs lo hi) hz,_,(r.drop (HT.sIx xs.length 0 lo)).take (HT.sIx xs.length xs.length hi - HT.sIx xs.length 0 lo),IsTup.new _ _⟩
def rCatT (K:PySem.W.Frag):R2:=fun x y H Q=>∃ a b xs ys,x=.ref a/\y=.ref b/\SqT K H a xs/\SqT K H b ys/\xs≠[]/\xs.length+ys.length<=sizeLine /\
  (ys=[]->Q (.ref a) H)/\(ys≠[]->∀ p,H p=none->Q (.ref p) (upd H p (.tup (xs++ys))))
theorem Vals.nil_iff {xs:List V} {us:List Value} (r:Vals xs us):us=[]↔xs=[]:=by
  cases r with
  | nil=>simp
  | cons _ _=>simp
theorem QlF:OpR X (binaryOp .Add) (rCatT X.K):=by
  intro pins s σ H x y v u Q I rx ry h
  obtain ⟨a,b,xs,ys,rfl,rfl,ha,hb,hx,hz,q1,q2⟩:=h
  cases rx
  cases ry
  obtain ⟨its,r1,p1,_⟩:=I.tuple ha
  obtain ⟨its2,r2,p2,_⟩:=I.tuple hb
  refine HT.cat_tup p1 p2 (fun z=>hx (r1.nil_iff.mp z)) (fun z=>⟨.ref a,H,I,rfl,q1 (r2.nil_iff.mp z)⟩) (fun z=>?_) (by rw [<- r1.length,<- r2.length];exact hz)
  refine ⟨.ref s.heap.objs.size,_,I.laid (t':=s.toks) (o:=.tup (xs++ys)) (fun b ob q=>Heap.get?_push_of_some _ q) (Nat.le_refl _) ?_,rfl,q2 (fun w=>z (r2.nil_iff.mpr w)) _ (I.hok.fresh (Nat.le_refl _))⟩
  exact ⟨by rw [List.length_append];exact hz,_,r1.append r2,IsTup.new _ _⟩
end
def ixN (n:Nat) (i:Int):Option Nat:=if 0<=i then (if i<n then some i.toNat else none) else if -(n:Int)<=i then some (i+n).toNat else none
def atI {α:Type} (xs:List α) (i:Int):Option α:=(ixN xs.length i).bind fun j=>xs[j]?
theorem Qh9 {n:Nat} {i:Int} {j:Nat} (h:ixN n i=some j):seqIndex? i n=some j/\j<n /\ -(n:Int)<=i/\i<n:=by
  unfold ixN at h
  by_cases h0:0<=i
  · rw [if_pos h0] at h
    by_cases h1:i<n
    · rw [if_pos h1] at h
      have e:i.toNat=j:=Option.some.inj h
      exact ⟨by rw [seqIndex_of h0 h1,e],by omega,by omega,h1⟩
    · rw [if_neg h1] at h;cases h
  · rw [if_neg h0] at h
    by_cases h1 : -(n:Int)<=i
    · rw [if_pos h1] at h
      have e:(i+n).toNat=j:=Option.some.inj h
      exact ⟨by rw [seqIndex_neg (by omega) h1,e],by omega,h1,by omega⟩
    · rw [if_neg h1] at h;cases h
theorem QiK {α:Type} {xs:List α} {i:Int} {v:α} (h:atI xs i=some v):∃ j,seqIndex? i xs.length=some j/\xs[j]? = some v/\j<xs.length /\ -(xs.length:Int)<=i/\i<xs.length:=by
  unfold atI at h
  cases e:ixN xs.length i with
  | none=>rw [e] at h;cases h
  | some j=>
    rw [e] at h
    obtain ⟨h1,h2,h3,h4⟩:=Qh9 e
    exact ⟨j,h1,h,h2,h3,h4⟩
theorem Qav {α:Type} {xs:List α} {j:Nat} {v:α} (h:xs[j]? = some v):atI xs (j:Int)=some v:=by
  have hj:j<xs.length:=(List.getElem?_eq_some_iff.mp h).1
  have e:ixN xs.length (j:Int)=some j:=by
    unfold ixN
    rw [if_pos (by omega),if_pos (by omega)];simp
  unfold atI;rw [e];exact h
def QfN (b:Expr):Prop:=∀ o i,subscripted b false o i=operate [o,i] (getItem o i)
def IxR (X:Cx) (r:R2):Prop:=
  ∀ (value slice:Expr) (pins:List (Addr×Obj)) (s:Shared) (σ:St) (H:Hp) (x y:V) (v u:Value) (Q:VK),Inv X pins σ H s->RelV x v->RelV y u->r x y H Q ->
    subscripted slice false v u=operate [v,u] (getItem v u)->wpAny (model X.prog X.w) X.A (subscriptTail value slice v u) (EP X pins σ Q) X.xe s
def MtR (X:Cx) (id:String) (r:V->List V->Hp->VK->Prop):Prop:=
  ∀ (pins:List (Addr×Obj)) (s:Shared) (σ:St) (H:Hp) (x:V) (xs:List V) (v:Value) (us:List Value) (Q:VK),Inv X pins σ H s->RelV x v->Vals xs us->r x xs H Q ->
    wpAny (model X.prog X.w) X.A (call (.builtin id) (v::us)) (EP X pins σ Q) X.xe s
section
variable {X:Cx} {a b:Expr} {ta tb:TE} {pos:Pos}
theorem IxR.or {r r':R2} (h:IxR X r) (h':IxR X r'):IxR X (fun x y H Q=>r x y H Q∨r' x y H Q):=by
  intro value slice pins s σ H x y v u Q I rx ry q hs
  rcases q with q | q
  · exact h value slice pins s σ H x y v u Q I rx ry q hs
  · exact h' value slice pins s σ H x y v u Q I rx ry q hs
theorem MtR.or {id:String} {r r':V->List V->Hp->VK->Prop} (h:MtR X id r) (h':MtR X id r'):MtR X id (fun x xs H Q=>r x xs H Q∨r' x xs H Q):=by
  intro pins s σ H x xs v us Q I rx rs q
  rcases q with q | q
  · exact h pins s σ H x xs v us Q I rx rs q
  · exact h' pins s σ H x xs v us Q I rx rs q
theorem Qjd {r:R2} (hr:IxR X r) (ha:PE X a ta) (hb:PE X b tb) (hs:QfN b):PE X (.Subscript a b pos) (tOp r ta tb):=by
  intro pins s σ H Q I h
  exact Subscript_ (binT ha hb I h fun v u s2 x y H2 I2 rx ry q=>hr a b pins s2 σ H2 x y v u Q I2 rx ry q (hs _ _))
def rIxL (K:PySem.W.Frag):R2:=fun x y H Q=>∃ p xs i v,x=.ref p/\y=.int i/\SqL K H p xs/\atI xs i=some v/\Q v H
def rIxT (K:PySem.W.Frag):R2:=fun x y H Q=>∃ p xs i v,x=.ref p/\y=.int i/\SqT K H p xs/\atI xs i=some v/\Q v H
theorem Qei:IxR X (rIxL X.K):=by
  intro value slice pins s σ H x y v u Q I rx ry h hs
  obtain ⟨p,xs,i,z,rfl,rfl,hq,he,q⟩:=h
  cases rx
  obtain ⟨t,rfl⟩:=ry
  obtain ⟨its,r,pl,hz⟩:=I.list hq
  obtain ⟨j,h1,h2,h3,h4,h5⟩:=QiK he
  obtain ⟨w,ew,rw'⟩:=r.get h2
  have hl:=r.length
  have hn:=QeS
  have fin:EP X pins σ Q w s:=⟨z,H,I,rw',q⟩
  by_cases h0:0<=i
  · have hj:i.toNat=j:=by
      rw [seqIndex_of h0 h5] at h1
      exact Option.some.inj h1
    exact item_listR pl.isList h0 (by omega) (by rw [hj];simpa using ew) fin hs
  · have hj:(i+(its.toArray.size:Int)).toNat=j:=by
      rw [seqIndex_neg (by omega) h4] at h1
      rw [List.size_toArray,<- hl]
      exact Option.some.inj h1
    exact subscriptTail_builtinR (x:=w) pl.isList.typeIs slot_list_getitem.lookup
      (wpAny_getItem_list_neg (Q:=fun r s'=>r=w/\EP X pins σ Q r s') pl.isList (by omega) (by rw [List.size_toArray]<;>omega) (by omega) (by rw [hj];simpa using ew) ⟨rfl,fin⟩) hs
theorem ix_tup:IxR X (rIxT X.K):=by
  intro value slice pins s σ H x y v u Q I rx ry h hs
  obtain ⟨p,xs,i,z,rfl,rfl,hq,he,q⟩:=h
  cases rx
  obtain ⟨t,rfl⟩:=ry
  obtain ⟨its,r,pl,hz⟩:=I.tuple hq
  obtain ⟨j,h1,h2,h3,h4,h5⟩:=QiK he
  obtain ⟨w,ew,rw'⟩:=r.get h2
  have hl:=r.length
  have hn:=QeS
  have fin:EP X pins σ Q w s:=⟨z,H,I,rw',q⟩
  exact subscriptTail_builtinR (x:=w) pl.typeIs slot_tuple_getitem.lookup
    (getItem_tuple (j:=j) (Q:=fun r s'=>r=w/\EP X pins σ Q r s') pl (by omega) (by omega) (by rw [List.size_toArray,<- hl];exact h1) (by simpa using ew) ⟨rfl,fin⟩) hs
theorem QgM (its:List Value) (n j:Nat) (u:Value):Obj.mapSeq (·.setIfInBounds j u) { cls:=.type "list",data:=.seq its.toArray n }={ cls:=.type "list",data:=.seq (its.set j u).toArray n }:=by
  simp [Obj.mapSeq]
theorem Inv.lst {pins:List (Addr×Obj)} {σ:St} {H:Hp} {s:Shared} {p:Addr} {xs:List V} (I:Inv X pins σ H s) (h:H p=some (.lst xs)) :
    ∃ (its:List Value) (n:Nat),Vals xs its/\s.heap.get? p=some { cls:=.type "list",data:=.seq its.toArray n }/\xs.length<=sizeLine:=by
  obtain ⟨z,its,n,r,e⟩:=I.hok p _ h
  exact ⟨its,n,r,e,z⟩
theorem Inv.lstUpd {pins:List (Addr×Obj)} {σ:St} {H:Hp} {s:Shared} {p:Addr} {xs ys:List V} {its its':List Value} {n n':Nat} {f:Obj->Obj} (I:Inv X pins σ H s) (h:H p=some (.lst xs))
    (ho:s.heap.get? p=some { cls:=.type "list",data:=.seq its.toArray n }) (hf:f { cls:=.type "list",data:=.seq its.toArray n }={ cls:=.type "list",data:=.seq its'.toArray n' }) (r:Vals ys its') (hz:ys.length<=sizeLine) (t:Nat) :
    Inv X pins σ (upd H p (.lst ys)) { s with heap:=s.heap.update p f,toks:=t }:=by
  have e:(s.heap.update p f).get? p=some { cls:=.type "list",data:=.seq its'.toArray n' }:=by
    rw [Heap.get?_update_self f ho (by rw [hf]<;>rfl),hf]
  refine I.write (x:=p) (e:=p) (by rw [h];trivial) (.inl rfl) (fun b u hb q=>(Heap.get?_update_other _ _ (Ne.symm hb)).trans q) ⟨_,e⟩ ?_
  exact ⟨hz,its',n',r,e⟩
def rSetL:V->V->V->Hp->(Hp->Prop)->Prop:=fun o i v H Q=>∃ p xs k j,o=.ref p/\i=.int k/\H p=some (.lst xs)/\ixN xs.length k=some j/\Q (upd H p (.lst (xs.set j v)))
theorem QiY:PSet X rSetL:=by
  intro pins s σ H o i v ov iv u Q I ro ri rv h
  obtain ⟨p,xs,k,j,rfl,rfl,hp,hj,q⟩:=h
  cases ro
  obtain ⟨t,rfl⟩:=ri
  obtain ⟨its,n,r,ho,hz⟩:=I.lst hp
  obtain ⟨h1,h2,h3,h4⟩:=Qh9 hj
  have hl:=r.length
  have hn:=QeS
  have I':Inv X pins σ (upd H p (.lst (xs.set j v))) { s with heap:=s.heap.update p (Obj.mapSeq (·.setIfInBounds j u)) }:=
    I.lstUpd hp ho (QgM its n j u) (r.set rv j) (by rw [List.length_set];exact hz) s.toks
  by_cases h0:0<=k
  · have hk:k.toNat=j:=by
      rw [seqIndex_of h0 h4] at h1
      exact Option.some.inj h1
    exact PySem.W.ki_setAt ho h0 (by omega) (by rw [List.size_toArray,<- hl];exact h4) (by rw [hk];exact ⟨_,I',q⟩)
  · have hk:(k+(its.toArray.size:Int)).toNat=j:=by
      rw [seqIndex_neg (by omega) h3] at h1
      rw [List.size_toArray,<- hl]
      exact Option.some.inj h1
    exact PySem.W.ki_setBack ho (by omega) (by rw [List.size_toArray,<- hl];exact h3) (by omega) (by rw [hk];exact ⟨_,I',q⟩)
theorem QeD (lo hi:Option Int) (n:Nat):(sliceBounds lo hi none n).1=((HT.sIx n 0 lo:Nat):Int)/\(sliceBounds lo hi none n).2.1=((HT.sIx n n hi:Nat):Int)/\(sliceBounds lo hi none n).2.2=1:=by
  refine ⟨?_,?_,rfl⟩
  · cases lo with
    | none=>simp [sliceBounds,HT.sIx]
    | some i=>
      simp only [sliceBounds,HT.sIx,Option.getD_none,show (1:Int) > 0 by decide,if_true]
      by_cases h:i<0
      · simp only [h,if_true]<;>omega
      · simp only [h,if_false]<;>omega
  · cases hi with
    | none=>simp [sliceBounds,HT.sIx]
    | some i=>
      simp only [sliceBounds,HT.sIx,Option.getD_none,show (1:Int) > 0 by decide,if_true]
      by_cases h:i<0
      · simp only [h,if_true]<;>omega
      · simp only [h,if_false]<;>omega
theorem Qd0 (its:List Value) (lo hi:Option Int):slicePick its.toArray lo hi none=((its.drop (HT.sIx its.length 0 lo)).take (HT.sIx its.length its.length hi - HT.sIx its.length 0 lo)).toArray:=by
  obtain ⟨h1,h2,h3⟩:=QeD lo hi its.toArray.size
  unfold slicePick
  rw [h1,h2,h3]
  simp only [sliceRange_one,pick_run,List.size_toArray]<;>rfl
def rSlL (K:PySem.W.Frag):V->Option Int->Option Int->Hp->VK->Prop:=fun x lo hi H Q=>∃ a xs,x=.ref a/\SqL K H a xs/\∀ p,H p=none->Q (.ref p) (upd H p (.lst (cutV xs lo hi)))
theorem QkP:SlR X (rSlL X.K):=by
  intro pins s σ H x v vl vu lo hi sl Q I rx hs pl pu h
  obtain ⟨a,xs,rfl,hx,q⟩:=h
  cases rx
  obtain ⟨its,r,ht,hz⟩:=I.list hx
  have hlen:=r.length
  refine ⟨"list",_,slot_list_getitem.lookup,ht.isList.typeIs,?_⟩
  refine wpAny_getItem_list_slice ht.isList hs pl pu .none (by simp) ?_ (by rw [List.size_toArray]<;>omega)
  rw [Qd0,<- hlen]
  refine ⟨.ref s.heap.objs.size,_,I.laid (t':=s.toks) (o:=.lst (cutV xs lo hi)) (fun b ob q=>Heap.get?_push_of_some _ q) (Nat.le_refl _) ?_,rfl,q _ (I.hok.fresh (Nat.le_refl _))⟩
  exact ⟨Nat.le_trans (Qdn xs lo hi) hz,_,0,(r.drop (HT.sIx xs.length 0 lo)).take (HT.sIx xs.length xs.length hi - HT.sIx xs.length 0 lo),Heap.get?_push_size _ rfl⟩
theorem Qb1:CallR X (.builtin "len") (fun xs H Q=>∃ p ys,xs=[.ref p]/\(SqL X.K H p ys∨SqT X.K H p ys)/\Q (.int ys.length) H):=by
  intro pins s σ H xs us Q I r h
  obtain ⟨p,ys,rfl,hq,q⟩:=h
  obtain ⟨u,rfl,rx⟩:=Qdt r
  cases rx
  have hn:=QeS
  rcases hq with hq | hq
  · obtain ⟨its,r',pl,hz⟩:=I.list hq
    have hlen:=r'.length
    exact Calls.call_len_list pl.isList (by simp only [List.size_toArray]<;>omega) ⟨.int ys.length,H,I.tok _,⟨s.toks+1,by rw [List.size_toArray,hlen]⟩,q⟩
  · obtain ⟨its,r',pl,hz⟩:=I.tuple hq
    have hlen:=r'.length
    exact len_tuple pl (by simp only [List.size_toArray]<;>omega) ⟨.int ys.length,H,I.tok _,⟨s.toks+1,by rw [List.size_toArray,hlen]⟩,q⟩
theorem CallR.or {f:Value} {r r':List V->Hp->VK->Prop} (h:CallR X f r) (h':CallR X f r'):CallR X f (fun xs H Q=>r xs H Q∨r' xs H Q):=by
  intro pins s σ H xs us Q I rs q
  rcases q with q | q
  · exact h pins s σ H xs us Q I rs q
  · exact h' pins s σ H xs us Q I rs q
theorem Qe3:CallR X (.type "list") (fun xs H Q=>∃ p ys,xs=[.ref p]/\(SqL X.K H p ys∨SqT X.K H p ys)/\∀ l,H l=none->Q (.ref l) (upd H l (.lst ys))):=by
  intro pins s σ H xs us Q I r h
  obtain ⟨p,ys,rfl,hq,q⟩:=h
  obtain ⟨u,rfl,rx⟩:=Qdt r
  cases rx
  have fin:∀ (its:List Value),Vals ys its->ys.length<=sizeLine->∀ (h':Heap) (c':Nat),(∀ b o',s.heap.get? b=some o'->h'.get? b=some o') ->
      h'.get? s.heap.objs.size=some { cls:=.type "list",dict:=none,data:=.seq its.toArray c',slots:=#[] }->EP X pins σ Q (.ref s.heap.objs.size) { s with heap:=h' }:=fun its r' hz h' c' kp e=>
    ⟨.ref s.heap.objs.size,_,I.laid (t':=s.toks) kp (Nat.le_refl _) (show ObjOk X.prog X.w _ h' _ (.lst ys) from ⟨hz,its,c',r',e⟩),rfl,q _ (I.hok.fresh (Nat.le_refl _))⟩
  rcases hq with hq | hq
  · obtain ⟨its,r',pl,hz⟩:=I.list hq
    have hlen:=r'.length
    obtain ⟨o,ho,hc,n,hd⟩:=pl.isList
    exact call_list_seq p (.inl rfl) ho hc hd (fun h' c' kp e=>fin its r' hz h' c' kp e) (by simp only [List.size_toArray]<;>omega)
  · obtain ⟨its,r',pl,hz⟩:=I.tuple hq
    have hlen:=r'.length
    obtain ⟨o,ho,hc,n,hd⟩:=pl
    exact call_list_seq p (.inr rfl) ho hc hd (fun h' c' kp e=>fin its r' hz h' c' kp e) (by simp only [List.size_toArray]<;>omega)
theorem Qer:CallR X (.type "tuple") (fun xs H Q=>∃ p ys,xs=[.ref p]/\((SqL X.K H p ys/\∀ l,H l=none->Q (.ref l) (upd H l (.tup ys)))∨(SqT X.K H p ys/\Q (.ref p) H))):=by
  intro pins s σ H xs us Q I r h
  obtain ⟨p,ys,rfl,h⟩:=h
  obtain ⟨u,rfl,rx⟩:=Qdt r
  cases rx
  rcases h with ⟨hq,q⟩ | ⟨hq,q⟩
  · obtain ⟨its,r',pl,hz⟩:=I.list hq
    have hlen:=r'.length
    refine call_tuple_list pl.isList (fun h' kp=>?_) (by simp only [List.size_toArray]<;>omega)
    have I1:Inv X pins σ H { s with heap:=h' }:=I.kept (t':=s.toks) kp
    have I2:Inv X pins σ (upd H h'.objs.size (.tup ys)) { s with heap:=h'.push { cls:=.type "tuple",data:=.seq its.toArray } }:=
      I1.laid (t':=s.toks) (fun b o e=>Heap.get?_push_of_some _ e) (Nat.le_refl _) (show ObjOk X.prog X.w _ _ _ (.tup ys) from ⟨hz,its,r',IsTup.new _ _⟩)
    exact ⟨.ref h'.objs.size,_,I2,rfl,q _ (I1.hok.fresh (Nat.le_refl _))⟩
  · obtain ⟨its,r',pl,hz⟩:=I.tuple hq
    exact call_tuple_same pl ⟨.ref p,H,I,rfl,q⟩
def tyV (K:PySem.W.Frag) (T:String) (x:V) (H:Hp):Prop:=match x with
  | .str _=>T = "str"
  | .int _=>T = "int"
  | .ref p=>(T = "list" /\ ∃ xs,SqL K H p xs)∨(T = "tuple" /\ ∃ o,K.lookup p=some o/\o.cls=.type "tuple" /\ o.dict=none) ∨
      (T = "dict" /\ ((∃ kvs,H p=some (.dK kvs))∨∃ kvs,H p=some (.dT kvs)))∨(T = "set" /\ ∃ S n,H p=some (.set S n))
  | _=>False
theorem tyV_is {pins:List (Addr×Obj)} {σ:St} {H:Hp} {s:Shared} {T:String} {x:V} {v:Value} (I:Inv X pins σ H s) (r:RelV x v) (ty:tyV X.K T x H) :
    s.TypeIs v T/\∀ a,v=.ref a->∃ ob,s.heap.get? a=some ob/\ob.dict=none:=by
  cases x with
  | str z=>
    obtain ⟨t,rfl⟩:=r
    cases (show T = "str" from ty)
    exact ⟨typeIs_str s z t,fun _ e=>nomatch e⟩
  | int i=>
    obtain ⟨t,rfl⟩:=r
    cases (show T = "int" from ty)
    exact ⟨typeIs_int s i t,fun _ e=>nomatch e⟩
  | ref p=>
    cases r
    rcases ty with ⟨rfl,xs,hq⟩ | ⟨rfl,o,hk,hc,hd⟩ | ⟨rfl,hk⟩ | ⟨rfl,S,n,hk⟩
    · obtain ⟨its,_,pl,_⟩:=I.list hq
      refine ⟨pl.isList.typeIs,fun a e=>?_⟩
      cases e
      obtain ⟨o,n,e,c,hd,_⟩:=pl
      exact ⟨o,e,hd⟩
    · refine ⟨⟨o,I.kIn p o hk,hc⟩,fun a e=>?_⟩
      cases e
      exact ⟨o,I.kIn _ o hk,hd⟩
    · have z:∃ o,s.heap.get? p=some o/\o.ExactDict:=by
        rcases hk with ⟨kvs,hk⟩ | ⟨kvs,hk⟩
        · obtain ⟨_,_,_,_,o,_,_,e,ex,_⟩:=I.hok p _ hk
          exact ⟨o,e,ex⟩
        · obtain ⟨_,_,_,_,o,_,_,e,ex,_⟩:=I.hok p _ hk
          exact ⟨o,e,ex⟩
      obtain ⟨o,e,ex⟩:=z
      refine ⟨⟨o,e,ex.1⟩,fun a e2=>?_⟩
      cases e2
      exact ⟨o,e,ex.2.1⟩
    · obtain ⟨o,_,_,_,e,ex,_⟩:=I.hok p _ hk
      refine ⟨⟨o,e,ex.1⟩,fun a e2=>?_⟩
      cases e2
      exact ⟨o,e,ex.2.1⟩
  | _=>exact False.elim ty
def tBM (K:PySem.W.Frag) (T:String) (r:V->List V->Hp->VK->Prop) (to:TE) (t:TA):TE:=fun σ H Q=>to σ H fun x H1=>tyV K T x H1/\t σ H1 fun xs H2=>r x xs H2 Q
variable {o e:Expr} {es:List Expr} {to:TE} {t:TA} {name:Str} {apos cpos:Pos} {T id:String} {r:V->List V->Hp->VK->Prop}
theorem pe_bm (pa:PlainAttrs T) (slot:Slot T name id) (hty:typeOf (.builtin id)=pure (.type "method_descriptor")) (hm:MtR X id r) (ho:PE X o to) (ha:PA X (e::es) t)
    (hbase:attributeBase o name X.env (eval o X.env)=eval o X.env:=by rfl)
    (hfew:((backTo cpos (starEach (e::es) X.env)).all (fun x => !x.1)&&(backToKw cpos (keywordEach [] X.env)).all (fun x=>x.1.isSome)
      && decide ((e::es).length+([]:List Keyword).length+(if ([]:List Keyword).isEmpty then 0 else 1)<30))=true:=by rfl)
    (hline:(apos.endLine == cpos.line)=true:=by rfl) (hs:starEach (e::es) X.env=(false,eval e X.env)::starEach es X.env:=by rfl) (hplain:(backTo cpos (starEach es X.env)).any (·.1)=false:=by rfl) :
    PE X (.Call (.Attribute o name apos) (e::es) [] cpos) (tBM X.K T r to t):=by
  intro pins s σ H Q I h
  refine wpAny_Call_method_late hbase hfew hline rfl (thn (ho pins s σ H _ I h) fun v s1 ⟨x,H1,I1,r1,ty,q1⟩=>?_)
  obtain ⟨h1,h2⟩:=tyV_is I1 r1 ty
  refine ⟨T,id,pa,slot,hty,h1,h2,?_⟩
  have hA:=ha cpos pins s1 σ H1 _ I1 q1
  rw [hs] at hA ⊢
  refine Calls.callWith_builtin (by show (false||(backTo cpos (starEach es X.env)).any (·.1))=false;rw [hplain]<;>rfl) (Calls.evalArgs_plain ?_)
  exact thn hA fun us s2 ⟨vs,H2,I2,r2,q2⟩=>hm pins s2 σ H2 x vs v us Q I2 r1 r2 q2
end
def MtM (X:Cx) (id:String) (r:V->List V->Hp->VK->Prop):Prop:=
  ∀ (pins:List (Addr×Obj)) (s:Shared) (σ:St) (H:Hp) (x:V) (xs:List V) (v:Value) (us:List Value) (Q:VK),Inv X pins σ H s->RelV x v->Vals xs us->r x xs H Q ->
    wpAny (model X.prog X.w) X.A (call (.builtin id) (v::us)) (EP X pins σ Q) X.xe s
theorem Vals.one:∀ {x:V} {us:List Value},Vals [x] us->∃ u,us=[u]/\RelV x u
  | _,_,.cons r .nil=>⟨_,rfl,r⟩
theorem Vals.zero:∀ {us:List Value},Vals [] us->us=[]
  | _,.nil=>rfl
theorem Vals.reverse {xs:List V} {us:List Value} (h:Vals xs us):Vals xs.reverse us.reverse:=by
  induction h with
  | nil=>exact .nil
  | cons r t ih=>rw [List.reverse_cons,List.reverse_cons];exact Vals.append ih (.cons r .nil)
theorem Vals.rep {xs:List V} {us:List Value} (h:Vals xs us):∀ k:Nat,Vals (List.replicate k xs).flatten (List.replicate k us).flatten
  | 0=>.nil
  | k+1=>by
    rw [List.replicate_succ,List.replicate_succ,List.flatten_cons,List.flatten_cons]
    exact Vals.append h (Vals.rep h k)
theorem QeW (its:List Value):∀ (k:Nat) (acc:List Value),
    List.foldl (fun x1 x2=>x1++x2) acc.toArray (List.replicate k its.toArray)=(acc++(List.replicate k its).flatten).toArray
  | 0,acc=>by simp
  | k+1,acc=>by
    have e:acc.toArray++its.toArray=(acc++its).toArray:=by simp
    have e2:(acc++its)++(List.replicate k its).flatten=acc++(List.replicate (k+1) its).flatten:=by
      rw [List.replicate_succ,List.flatten_cons,List.append_assoc]
    rw [<- e2,<- QeW its k (acc++its),<- e,List.replicate_succ,List.foldl_cons]
section
variable {X:Cx} {pins:List (Addr×Obj)} {σ:St} {H:Hp} {s:Shared} {l b:Addr} {xs ys zs:List V}
theorem Inv.lset {its its':List Value} {n:Nat} {f:Array Value->Array Value} {t':Nat} (I:Inv X pins σ H s) (hH:H l=some (.lst xs))
    (e:s.heap.get? l=some { cls:=.type "list",data:=.seq its.toArray n }) (hf:f its.toArray=its'.toArray) (hv:Vals ys its') (hz:ys.length<=sizeLine) :
    Inv X pins σ (upd H l (.lst ys)) { s with heap:=s.heap.update l (Obj.mapSeq f),toks:=t' }:=by
  have q:=PySem.IsL.update e f
  rw [hf] at q
  refine I.write (x:=l) (e:=l) (by rw [hH];exact trivial) (.inl rfl) (fun b' u hb hu=>(Heap.get?_update_other s.heap (Obj.mapSeq f) (Ne.symm hb)).trans hu) ⟨_,q⟩ ?_
  exact ⟨hz,its',_,hv,q⟩
theorem Inv.lnew {its:List Value} {t':Nat} (I:Inv X pins σ H s) (hv:Vals ys its) (hz:ys.length<=sizeLine) :
    Inv X pins σ (upd H s.heap.objs.size (.lst ys)) { s with heap:=s.heap.push { cls:=.type "list",data:=.seq its.toArray },toks:=t' }:=
  I.laid (fun _ _ q=>Heap.get?_push_of_some _ q) (Nat.le_refl _) ⟨hz,its,0,hv,Heap.get?_push_size _ rfl⟩
theorem Inv.fresh (I:Inv X pins σ H s):H s.heap.objs.size=none:=I.hok.fresh (Nat.le_refl _)
theorem Inv.lstM (I:Inv X pins σ H s) (hH:H l=some (.lst xs)):xs.length<=sizeLine/\∃ (its:List Value) (n:Nat),Vals xs its/\xs.length=its.length/\s.heap.get? l=some { cls:=.type "list",data:=.seq its.toArray n }:=by
  obtain ⟨z,its,n,r,e⟩:=I.hok l _ hH
  exact ⟨z,its,n,r,r.length,e⟩
theorem Qf1 {n:Nat} (h:n<=sizeLine):Builtin.List.listTooLong n=false:=by
  unfold Builtin.List.listTooLong
  exact decide_eq_false (by omega)
end
section
variable {X:Cx}
def Qht:V->List V->Hp->VK->Prop:=fun x vs H Q=>∃ l xs y,x=.ref l/\vs=[y]/\H l=some (.lst xs)/\xs.length<sizeLine/\Q .non (upd H l (.lst (xs++[y])))
theorem QeR:MtM X "list.append" Qht:=by
  intro pins s σ H x vs v us Q I rx rv h
  obtain ⟨l,xs,y,rfl,rfl,hH,hz,q⟩:=h
  cases rx
  obtain ⟨u,rfl,ru⟩:=rv.one
  obtain ⟨z,its,n,r,hl,e⟩:=I.lstM hH
  refine call_meets F.slot_list_append ⟨_,e,rfl⟩ F.entry_list_append (F.args_list_append_2 _ _) (PySem.list_append l its.toArray n u (by rw [List.size_toArray];omega)) ⟨e,?_⟩
  refine ⟨.non,_,I.lset (its':=its++[u]) hH e (by simp) (r.append (.cons ru .nil)) ?_,rfl,q⟩
  rw [List.length_append,List.length_singleton]
  omega
def Qhs:V->List V->Hp->VK->Prop:=fun x vs H Q=>∃ l b xs zs,x=.ref l/\vs=[.ref b]/\H l=some (.lst xs)/\H b=some (.lst zs)/\xs.length+zs.length<=sizeLine/\Q .non (upd H l (.lst (xs++zs)))
theorem QhZ:MtM X "list.extend" Qhs:=by
  intro pins s σ H x vs v us Q I rx rv h
  obtain ⟨l,b,xs,zs,rfl,rfl,hH,hB,hz,q⟩:=h
  cases rx
  obtain ⟨u,rfl,ru⟩:=rv.one
  cases ru
  obtain ⟨z,its,n,r,hl,e⟩:=I.lstM hH
  obtain ⟨z2,its2,n2,r2,hl2,e2⟩:=I.lstM hB
  have hsz:its.toArray.size+its2.toArray.size<=sizeLine:=by rw [List.size_toArray,List.size_toArray];omega
  have hlong:¬ (!its.toArray.isEmpty&&Builtin.List.listTooLong (its.toArray.size+its2.toArray.size))=true:=by
    rw [Qf1 hsz,Bool.and_false]
    exact Bool.false_ne_true
  refine call_meets F.slot_list_extend ⟨_,e,rfl⟩ F.entry_list_extend (F.args_list_extend_2 _ _)
    (AutoSeq1.list_extend_list_list_0 l its.toArray n b its2.toArray n2 hlong (by rw [List.size_toArray];omega) (by omega)) ⟨e,e2,?_⟩
  refine ⟨.non,_,I.lset (its':=its++its2) hH e (by simp) (r.append r2) ?_,rfl,q⟩
  rw [List.length_append]
  omega
def rCat:R2:=fun x y H Q=>∃ l b xs zs,x=.ref l/\y=.ref b/\H l=some (.lst xs)/\H b=some (.lst zs)/\xs.length+zs.length<=sizeLine/\∀ p,H p=none->Q (.ref p) (upd H p (.lst (xs++zs)))
theorem op_cat:OpR X (binaryOp .Add) rCat:=by
  intro pins s σ H x y v u Q I rx ry h
  obtain ⟨l,b,xs,zs,rfl,rfl,hH,hB,hz,q⟩:=h
  cases rx
  cases ry
  obtain ⟨z,its,n,r,hl,e⟩:=I.lstM hH
  obtain ⟨z2,its2,n2,r2,hl2,e2⟩:=I.lstM hB
  refine PySem.P.add_list e e2 ?_ (by rw [List.size_toArray,List.size_toArray];omega)
  have ea:its.toArray++its2.toArray=(its++its2).toArray:=by simp
  rw [ea]
  exact ⟨.ref _,_,I.lnew (t':=s.toks) (r.append r2) (by rw [List.length_append];omega),rfl,q _ I.fresh⟩
def rRep:R2:=fun x y H Q=>∃ l k xs,x=.ref l/\y=.int k/\H l=some (.lst xs) /\ -(2^63)<=k/\k<2^63/\xs.length*k.toNat<=sizeLine /\
  ∀ p,H p=none->Q (.ref p) (upd H p (.lst (List.replicate k.toNat xs).flatten))
theorem QlU {α:Type} (xs:List α) (k:Nat):(List.replicate k xs).flatten.length=k*xs.length:=by
  induction k with
  | zero=>simp
  | succ k ih=>rw [List.replicate_succ,List.flatten_cons,List.length_append,ih,Nat.succ_mul,Nat.add_comm]
theorem op_rep:OpR X (binaryOp .Mult) rRep:=by
  intro pins s σ H x y v u Q I rx ry h
  obtain ⟨l,k,xs,rfl,rfl,hH,h1,h2,hz,q⟩:=h
  cases rx
  obtain ⟨t,rfl⟩:=ry
  obtain ⟨z,its,n,r,hl,e⟩:=I.lstM hH
  have hlen:its.toArray.size*k.toNat<=sizeLine:=by rw [List.size_toArray,<- hl];exact hz
  have hcap:¬ its.toArray.size*k.toNat > (2^63 - 1) / 8:=by
    have:(sizeLine:Nat)<=(2^63 - 1) / 8:=by decide
    omega
  have hfit:¬ (!Builtin.List.listFitsIndex k)=true:=by
    rw [fitsIndex_both h1 h2]
    exact Bool.false_ne_true
  have hlong:¬ Builtin.List.listTooLong (its.toArray.size*k.toNat)=true:=by
    rw [Qf1 hlen]
    exact Bool.false_ne_true
  have hnew:List.foldl (fun x1 x2=>x1++x2) #[] (List.replicate (if its.toArray.isEmpty=true then 0 else k.toNat) its.toArray)=(List.replicate k.toNat its).flatten.toArray:=by
    have f0:∀ m:Nat,List.foldl (fun x1 x2=>x1++x2) #[] (List.replicate m its.toArray)=(List.replicate m its).flatten.toArray:=fun m=>by
      have:=QeW its m []
      rw [List.nil_append] at this
      exact this
    rw [f0]
    cases its with
    | nil=>simp
    | cons a r'=>rw [if_neg (by simp)]
  refine wpAny_binaryOp_repeat_ref (T := "list") (U := "int") (by decide) ⟨_,e,rfl⟩ (fun s'=>typeIs_int s' k t) noFill_list_mul F.fills_int_mul F.slot_int_rmul repeat_list F.slot_int_index.lookup
    (call_meets F.slot_int_rmul (typeIs_int s k t) F.entry_int_rmul (F.args_int_rmul_2 _ _) (int___rmul___int_list k t l its.toArray n)
      ⟨e,rfl,⟨_,e,rfl⟩,call_meets F.slot_list_mul ⟨_,e,rfl⟩ F.entry_list_mul (F.args_list_mul_2 _ _) (AutoListH.list___mul___list_int_3 l its.toArray n k t hfit hcap hlong) ⟨e,?_⟩⟩)
  rw [hnew]
  exact ⟨.ref _,_,I.lnew (t':=s.toks) (r.rep k.toNat) (by rw [QlU,Nat.mul_comm];exact hz),rfl,q _ I.fresh⟩
end
section
variable {prog:Program} {w:World} {A:Around} {E:Value->Shared->Prop} {s:Shared}
end
section
variable {X:Cx}
end
end L2
namespace Att
open PySem PySem.W PySem.Calls PyProof.Rows
theorem Qdf {P:Params} {h:Heap}:∀ (ns:List Int) (vs:List Value),WellAll P h vs (ns.map WData.int)->IntsAre vs ns:=by
  intro ns
  induction ns with
  | nil=>
    intro vs w
    rw [List.map_nil] at w
    cases w
    exact .nil
  | cons n ns ih=>
    intro vs w
    rw [List.map_cons] at w
    cases w with
    | cons a b=>
      cases a
      exact .cons _ _ (ih _ b)
theorem Qhc {l:OpenLaw} {n:Nat} (hn:l.most=some n) {P:Params} {h:Heap} {args:List WData} {vals:List Value}
    (hpre:l.row.toRowW.claim.pre args=true) (hwl:WellAll P h vals args) :
    ∃ a vs ns,vals=[Value.ref a]/\args=[WData.list (ns.map WData.int)]/\h.get? a=some { cls:=.type "list",data:=.seq vs.toArray }/\IntsAre vs ns/\ns.length<=n:=by
  have hsh:WShape.hasAll [] args [.list .int]=true:=(pre_splitW hpre).1
  have hc:l.pre.holds [] { args:=args }=true:=(pre_splitW hpre).2
  obtain ⟨d,r,rfl,h1,h2⟩:=hasAllW_cons hsh
  obtain rfl:=hasAllW_nil h2
  obtain ⟨xs,rfl,h3⟩:=hasW_list h1
  obtain ⟨ns,rfl⟩:=items_int h3
  have hlen:ns.length<=n:=by
    unfold OpenLaw.pre at hc
    have h4:(WTm.not (.lt (.lit (.int (n:Int))) (.len (.arg 0)))).holds [] { args:=[.list (ns.map .int)] }=true:=by
      have h4:=(holds_andW hc).1
      rw [hn] at h4
      exact h4
    have h5:=condW_of h4 (w_not (w_lt w_lit (w_len_list (w_arg rfl))))
    rw [List.length_map] at h5
    refine Nat.le_of_not_lt fun q=>?_
    have q':(n:Int)<((ns.length:Nat):Int):=by omega
    first
      | (rw [decide_eq_true q'] at h5;exact absurd h5 (by decide))
      | (simp at h5;omega)
  cases hwl with
  | cons w1 w2=>
    cases w2
    cases w1 with
    | list ho hall=>exact ⟨_,_,ns,rfl,rfl,ho,Qdf ns _ hall,hlen⟩
theorem Qhw (l:OpenLaw) (args:List WData):l.row.toRowW.claim.post args (.bool true) args=true:=
  postW_of (r:=l.row.toRowW) (X:=(true == true))
    (show WShape.has [] (.bool true) .bool=true by first | rfl | decide | simp [WShape.has,WShape.arms,WShape.armsAll])
    (show (WTm.eq .res (.lit (.bool true))).value [] { args:=args,res:=some (.bool true),after:=args }=some (.bool (true == true)) from w_eq_bool (w_res rfl) w_lit) rfl
theorem attach_call {l:OpenLaw} {n:Nat} {q:Program} {loose:List Str} {XP:(Str->Option Value)->Heap->Prop} {YP:World->Heap->Prop} {d:DefRec}
    (hn:l.most=some n) (hdf:d.params.defaults=[])
    (call:∀ (w:World) (s₀ s₁:Shared) (mg mb:Str->Option Value) (fa:Addr) (o:Obj) (pm cd doc:Value) (a:Addr) (vs:List Value) (ns:List Int),
      Ground q loose [] XP w s₀ mg mb s₁.heap->YP w s₁.heap ->
      s₁.heap.get? fa=some o->o.data=.func (docDef d.name d.params d.body d.scope pm cd doc)->s₁.heap.CodeRec cd d.name->mg d.name=some (.ref fa) ->
      s₁.heap.get? a=some { cls:=.type "list",data:=.seq vs.toArray }->IntsAre vs ns->ns.length<=n->s₁.gens=#[] ->
      codeAny (model l.prog w) callerA (.call (.ref fa) ⟨[.ref a],[]⟩) (fun r s'=>r=.ok (.ret (.bool true))/\OldK s₁.heap s'.heap/\s'.os=s₁.os/\AllBare s'.gens) s₁) :
    WalkO q loose XP YP l.row.toRowW d [] (fun f vs=>PySem.call f vs):=by
  intro w s₀ s₁ mg mb G Y fa o pm cd doc dV kV ho hd hcd hD hmg hg args vals as hpre hlay hrd hwl hlo
  obtain rfl:dV=.none:=Dflts.none hD hdf
  obtain rfl:kV=.none:=Dflts.noKw hD
  obtain ⟨a,vs,ns,rfl,rfl,hobj,hints,hlen⟩:=Qhc hn hpre hwl
  refine enter_call (codeAny_mono (call w s₀ s₁ mg mb fa o pm cd doc a vs ns G Y ho (fd_plain hd) hcd hmg hobj hints hlen hg) fun r s' hq=>?_)
  obtain ⟨rfl,h2,h3,h4⟩:=hq
  exact ⟨.inl ⟨.bool true,.bool true,[],rfl,fun _=>rfl,.bool true,Qhw l _,fun _=>⟨List.Pairwise.nil,fun _ hm=>(nomatch hm)⟩⟩,h2,h3,h4⟩
section
variable {prog:Program} {w:World} {A:Around} {E:Value->Shared->Prop} {s:Shared} {K:Frag}
end
end Att
namespace L2
open PySem PySem.Spec PyProof.Rows
theorem Qew:∀ {vs:List Value} {ns:List Int},IntsAre vs ns->Vals (ns.map V.int) vs
  | _,_,.nil=>.nil
  | _,_,.cons n t h=>.cons ⟨t,rfl⟩ (Qew h)
def Only (H:Hp):Prop:=∀ b,H b=none∨∃ o xs,H b=some (.frz o (.lst xs))
theorem QjP {P:Program} {w:World} {K:PySem.W.Frag} {mg mb:Str->Option Value} {CX:CXT} {k:Nat} {fa a:Addr} {fd:FuncData} {x:Str} {sp:Sp} {s₁:Shared} {vs:List Value} {ns:List Int}
    (KX:K.In s₁.heap) (hns:s₁.heap.Ns mainGlobals mg) (hb:s₁.heap.Ns builtinsNs mb) (hbb:∀ x:Str,x ≠ "__name__" -> mb x=bootBuiltins x) (hlim:s₁.heap.NoLimit) (hg:s₁.gens=#[])
    (ha:s₁.heap.get? a=some { cls:=.type "list",data:=.seq vs.toArray }) (hi:IntsAre vs ns) (hl:ns.length<=sizeLine) (hr:Room k callerA)
    (F:∀ base:Heap,K.In base->base.Ns mainGlobals mg->FnOk P w K mg base CX k fa fd [x] sp) (hbind:∀ (s:Shared) (u:Value),BindsTo s fd ⟨[u],[]⟩ [(x,u)])
    (hsp:∀ H:Hp,Only H->SqL K H a (ns.map V.int)->sp [.ref a] H (fun v _=>v=.bl true) fun _ _ _=>False)
    (hCX:∀ H e s',CX [] H s₁ (fun _ _ _=>False) e s'->False) :
    codeAny (model P w) callerA (.call (.ref fa) ⟨[.ref a],[]⟩) (fun r s'=>r=.ok (.ret (.bool true))/\OldK s₁.heap s'.heap/\s'.os=s₁.os/\AllBare s'.gens) s₁:=by
  have rv:=Qew hi
  have lenV:=hi.length
  have core:∀ H:Hp,Only H->SqL K H a (ns.map V.int)->HOk P w H s₁.heap->(∀ b,H b≠none->b=a)->(H a≠none->K.lookup a=none) ->
      codeAny (model P w) callerA (.call (.ref fa) ⟨[.ref a],[]⟩) (fun r s'=>r=.ok (.ret (.bool true))/\OldK s₁.heap s'.heap/\s'.os=s₁.os/\AllBare s'.gens) s₁:=by
    intro H hO hS hok hA hK
    have base_of:∀ {b:Addr} {o:Obj},s₁.heap.get? b=some o->H b=none->(hidT s₁.heap H).get? b=some o:=fun e n=>QjQ e n
    have noA:∀ {b:Addr} {o:Obj} {es:Array DictEntry} {ep:Nat},s₁.heap.get? b=some o->o.data=.dict es ep->H b=none:=fun {b o es ep} e d=>by
      cases q:H b with
      | none=>rfl
      | some u=>
        have e':b=a:=hA b (by rw [q];simp)
        subst e'
        rw [ha] at e;cases e
        have d':Data.seq vs.toArray _=Data.dict es ep:=d
        cases d'
    have nsK:∀ {b:Addr} {m:Str->Option Value},s₁.heap.Ns b m->(hidT s₁.heap H).Ns b m:=fun {b m} ⟨o,es,ep,e,d,r⟩=>⟨o,es,ep,base_of e (noA e d),d,r⟩
    have hKb:K.In (hidT s₁.heap H):=fun b o e=>base_of (KX b o e) (by
      cases q:H b with
      | none=>rfl
      | some u=>
        have e':b=a:=hA b (by rw [q];simp)
        subst e'
        rw [hK (by rw [q];simp)] at e;cases e)
    have hM:Mod K mg (hidT s₁.heap H):=⟨hKb,nsK hns,⟨mb,nsK hb,hbb⟩,let ⟨mc,h1,h2⟩:=hlim;⟨mc,nsK h1,h2⟩⟩
    have e0:Env0 P w K mg (hidT s₁.heap H) callerA [] s₁ H:=⟨rfl,hM,fun b o e=>QlM e,Nat.le_of_eq (Qid _ _),trivial,fun b hb=>absurd (show b∈([]:List Addr) from hb) (by simp),hok,.of_eq hg⟩
    refine codeAny_mono ((F _ hKb (nsK hns)).run callerA [] s₁ H ⟨[.ref a],[]⟩ [.ref a] [.ref a] _ _ hr e0 (hbind s₁ (.ref a)) (.cons rfl .nil) (hsp H hO hS)) fun r s' h=>?_
    cases r with
    | error e=>exact (hCX H e s' h).elim
    | ok fl=>
      cases fl with
      | next=>exact False.elim h
      | brk=>exact False.elim h
      | cont=>exact False.elim h
      | ret u=>
        obtain ⟨v,H',os,bare,un,hok',r',q⟩:=h
        have q':v=.bl true:=q
        subst q'
        obtain rfl:u=Value.bool true:=r'
        refine ⟨rfl,OldK.of_keep fun b o e=>?_,os,bare⟩
        cases q:H b with
        | none=>exact un.keep b o e q (by intro z;exact absurd (show b∈([]:List Addr) from z) (by simp)) (by simp)
        | some u=>
          rcases hO b with z | ⟨ob,xs,z⟩
          · rw [q] at z;cases z
          · have z2:=un.frzs b ob _ z
            obtain ⟨e1,_⟩:=hok b _ z
            obtain ⟨e2,_⟩:=hok' b _ z2
            rw [e] at e1;cases e1
            exact e2
  cases hk:K.lookup a with
  | some o=>
    have e:=KX a o hk
    rw [ha] at e
    cases e
    refine core (fun _=>none) (fun _=>.inl rfl) (.inr ⟨_,vs.toArray,_,hk,rfl,rfl,rfl,by rw [List.size_toArray,lenV];exact hl,by simpa using rv⟩) (fun b u z=>by have z':(none:Option HO)=some u:=z;cases z') (fun b z=>absurd rfl z) fun z=>absurd rfl z
  | none=>
    refine core (fun b=>if b=a then some (.frz { cls:=.type "list",data:=.seq vs.toArray } (.lst (ns.map V.int))) else none) (fun b=>?_) (.inl (.inr ⟨{ cls:=.type "list",data:=.seq vs.toArray },if_pos rfl⟩)) (fun b u z=>?_) (fun b z=>?_) fun _=>hk
    · by_cases hb:b=a
      · exact .inr ⟨_,_,if_pos hb⟩
      · exact .inl (if_neg hb)
    · by_cases hb:b=a
      · have z':=(if_pos hb).symm.trans z
        cases z'
        subst hb
        exact ⟨ha,by rw [List.length_map];exact hl,vs,_,rv,ha⟩
      · have z':=(if_neg hb).symm.trans z
        cases z'
    · by_cases hb:b=a
      · exact hb
      · exact absurd (if_neg hb) z
theorem walk_of {l:PySem.W.OpenLaw} {n k:Nat} {q:Program} {loose:List Str} {XP:(Str->Option Value)->Heap->Prop} {YP:World->Heap->Prop} {d:DefRec} {K:Params->PySem.W.Frag} {CX:World->CXT} {sp:World->Sp} {x:Str}
    (hn:l.most=some n) (hn2:n<=sizeLine) (hdf:d.params.defaults=[]) (hr:Room k callerA)
    (hY:∀ (w:World) (h:Heap),YP w h->(K w.params).In h)
    (F:∀ (w:World) (mg:Str->Option Value) (fa:Addr) (h:Heap),(K w.params).In h->h.Ns mainGlobals mg->mg d.name=some (.ref fa) ->
      ∃ fd:FuncData,(∀ (s:Shared) (u:Value),BindsTo s fd ⟨[u],[]⟩ [(x,u)]) /\
        ∀ base:Heap,(K w.params).In base->base.Ns mainGlobals mg->FnOk l.prog w (K w.params) mg base (CX w) k fa fd [x] (sp w))
    (hsp:∀ (w:World) (H:Hp) (a:Addr) (ns:List Int),ns.length<=n->Only H->SqL (K w.params) H a (ns.map V.int)->sp w [.ref a] H (fun v _=>v=.bl true) fun _ _ _=>False)
    (hCX:∀ (w:World) (H:Hp) (s:Shared) (e:Value) (s':Shared),CX w [] H s (fun _ _ _=>False) e s'->False) :
    PySem.W.WalkO q loose XP YP l.row.toRowW d [] (fun f vs=>PySem.call f vs):=by
  refine Att.attach_call hn hdf fun w s₀ s₁ mg mb fa o pm cd doc a vs ns G Y ho hd hcd hmg hobj hints hlen hg=>?_
  have KX:=hY w _ Y
  obtain ⟨fd,hb,hF⟩:=F w mg fa _ KX G.T.g hmg
  exact QjP KX G.T.g G.T.b G.T.builtins G.T.nolimit hg hobj hints (Nat.le_trans hlen hn2) hr hF hb (fun H hO hS=>hsp w H a ns hlen hO hS) fun H e s'=>hCX w H s₁ e s'
def Qas (s:Stmt):Arguments:=match s with
  | .FunctionDef _ a _ _ _ _ _ _ _ _=>a
  | _=>{ posonlyargs:=[],args:=[],vararg:=none,kwonlyargs:=[],kw_defaults:=[],kwarg:=none,defaults:=[] }
def Qao (s:Stmt):List Stmt:=match s with
  | .FunctionDef _ _ b _ _ _ _ _ _ _=>b
  | _=>[]
def Qaa (s:Stmt):Scope:=match s with
  | .FunctionDef _ _ _ _ _ _ sc _ _ _=>sc
  | _=>{ kind:=.function,names:=[],isGenerator:=false,isCoroutine:=false }
abbrev CX0:CXT:=fun _ _ _ _ _ _=>False
abbrev E0:XK:=fun _ _ _=>False
structure Fun (K:PySem.W.Frag) (x qual:Str) (st:Stmt) (f:Addr) (fd:FuncData):Prop where
  ex:∃ (oc:Value) (od:Option Addr) (kV doc pm:Value) (an:Option Addr) (cdv ct:Value) (osl:Array (Option Value)),
    fd=PySem.W.fnOf x qual (Qas st) (Qao st) (Qaa st) .none kV doc pm an cdv ct/\K.lookup f=some ⟨oc,od,.func fd,osl⟩/\PySem.W.codeIn K cdv qual=true
  kp:PySem.W.keepIn K (.ref f)=true
section
variable {P:Program} {w:World} {K:PySem.W.Frag} {mg:Str->Option Value} {base:Heap}
theorem Fun.ok {x qual:Str} {st:Stmt} {f:Addr} {fd:FuncData} {N ps:List Str} {k:Nat} {sp:Sp} (F:Fun K x qual st f fd) (S:FnScope N ps (Qaa st)) (len:∀ vs H Q E,sp vs H Q E->vs.length=ps.length)
    (hbody:∀ (cdv:Value) (A:Around) (outer:List Env) (s:Shared) (H:Hp) (vs:List V) (Q:VK) (E:XK),Room k (A.deeper (envOfC qual (Qaa st) s.heap.objs.size f cdv))->sp vs H Q E ->
      ∃ t,PSs (cxOf CX0 P w K mg base N qual (Qaa st) f cdv A outer s H E).nox (Qao st) t/\t { nx:=fun _ H'=>Q .non H',rt:=Q } (start N vs) H):FnOk P w K mg base CX0 (k+1) f fd ps sp:=by
  obtain ⟨oc,od,kV,doc,pm,an,cdv,ct,osl,rfl,lk,hcd⟩:=F.ex
  refine fn_of lk hcd S len fun A outer s H vs Q E hr hsp=>?_
  obtain ⟨t,h,q⟩:=hbody cdv A outer s H vs Q E hr hsp
  exact ⟨t,h.nox,q⟩
theorem Fun.binds {x qual:Str} {st:Stmt} {f:Addr} {fd:FuncData} {ps:List Str} (F:Fun K x qual st f fd)
    (h:∀ (kV doc pm:Value) (an:Option Addr) (cdv ct:Value) (us:List Value),us.length=ps.length->bindArgs (PySem.W.fnOf x qual (Qas st) (Qao st) (Qaa st) .none kV doc pm an cdv ct) ⟨us,[]⟩=pure (ps.zip us)):Binds K fd ps []:=by
  obtain ⟨oc,od,kV,doc,pm,an,cdv,ct,osl,rfl,lk,hcd⟩:=F.ex
  exact .all (h kV doc pm an cdv ct)
theorem QaH {x qual:Str} {st:Stmt} {f:Addr} {oc:Value} {od an:Option Addr} {osl:Array (Option Value)} {kV doc pm cdv ct:Value} (l:K.lookup f=some ⟨oc,od,.func (PySem.W.fnOf x qual (Qas st) (Qao st) (Qaa st) .none kV doc pm an cdv ct),osl⟩)
    (c:PySem.W.codeIn K cdv qual=true) (k:PySem.W.keepIn K (.ref f)=true):Fun K x qual st f (PySem.W.fnOf x qual (Qas st) (Qao st) (Qaa st) .none kV doc pm an cdv ct):=⟨⟨oc,od,kV,doc,pm,an,cdv,ct,osl,rfl,l,c⟩,k⟩
end
section
variable {X:Cx}
theorem pv (i:Nat) {x:Str} {pos:Pos} (hN:X.N[i]? = some x:=by rfl) (hv:Vis X.env.scope x:=by first | exact Or.inl rfl | exact Or.inr (Or.inl rfl) | exact Or.inr (Or.inr rfl)) (hd:(x == ("__debug__" : Str))=false:=by decide)
    (hcd:(x == ("__classdict__" : Str))=false:=by decide):PE X (.Name x pos) (tVar i):=pe_var hN hv hd hcd
end
theorem iteF {A B:Prop} (h:B):if false=true then A else B:=by
  rw [if_neg Bool.false_ne_true]
  exact h
theorem iteT {A B:Prop} (h:A):if true=true then A else B:=by
  rw [if_pos rfl]
  exact h
theorem ite2 {c A B:Prop} [Decidable c] (h1:c->A) (h2:¬ c->B):if c then A else B:=by
  by_cases h:c
  · rw [if_pos h]
    exact h1 h
  · rw [if_neg h]
    exact h2 h
def Same (H H':Hp):Prop:=∀ b o,H b=some o->H' b=some o
theorem Same.refl (H:Hp):Same H H:=fun _ _ h=>h
theorem Same.trans {H H1 H2:Hp} (a:Same H H1) (b:Same H1 H2):Same H H2:=fun c o h=>b c o (a c o h)
theorem Same.free {H H':Hp} (e:Same H H') {l:Addr} (h:H' l=Option.none):H l=Option.none:=by
  cases q:H l with
  | none=>rfl
  | some o=>
    rw [e l o q] at h
    cases h
theorem Same.seq {K:PySem.W.Frag} {H H':Hp} {a:Addr} {xs:List V} (e:Same H H') (h:SqL K H a xs):SqL K H' a xs:=by
  rcases h with (h | ⟨o,h⟩) | h
  · exact .inl (.inl (e _ _ h))
  · exact .inl (.inr ⟨o,e _ _ h⟩)
  · exact .inr h
end L2
set_option maxHeartbeats 4000000
namespace Zt
open PySem
theorem Qcw:Slot "set_iterator" "__next__" "set_iterator.__next__" :=
  .of (owner := "set_iterator") (n := "__next__") (by rw [typeLookup_type,builtinLookup_eq_fast];kernel_rfl) (by decide +kernel) (by decide +kernel) (by decide +kernel) (by first | exact .inl (by decide +kernel) | exact .inr (by decide +kernel)) (by rw [isSubtype_type];kernel_rfl)
theorem Qij:entryFor table "set_iterator.__next__" = some Builtin.«set_iterator.__next__» := entryFor_of_fast (by kernel_rfl)
theorem ow_si:Manifest.owners.lookup (String.ofList ['r', 'o', 't', 'a', 'r', 'e', 't', 'i', '_', 't', 'e', 's'].reverse)=some Manifest.sig_set_iterator:=by kernel_rfl
theorem QiM (a:Value):argsOk "set_iterator.__next__" ⟨[a],[]⟩:=by
  unfold argsOk;rw [signature?_of (id := "set_iterator.__next__") (n:=['_', '_', 't', 'x', 'e', 'n', '_', '_']) (o:=['r', 'o', 't', 'a', 'r', 'e', 't', 'i', '_', 't', 'e', 's']) (by kernel_rfl) ow_si];kernel_rfl
theorem Ql8:entryFor table "set.__iter__" = some Builtin.«frozenset.__iter__» := entryFor_alias (id' := "frozenset.__iter__") (by kernel_rfl) (by first | rfl | decide +kernel | (unfold String.splitOn;simp +decide [String.splitOnAux])) (by decide +kernel) (by kernel_rfl)
def IsSI (h:Heap) (I:Addr) (first:Value) (i a n ep:Nat):Prop:=∃ o,h.get? I=some o/\o.cls=.type "set_iterator" /\ o.data=.fields #[first,.int i 0,.ref a,.int n 0,.int ep 0]
theorem IsSI.typeIs {s:Shared} {I:Addr} {first:Value} {i a n ep:Nat} (x:IsSI s.heap I first i a n ep):s.TypeIs (.ref I) "set_iterator" := let ⟨o,h,c,_⟩:=x;⟨o,h,c⟩
structure SetAt (h:Heap) (a:Addr) (es:Array (Int×Value)) (ep:Nat) (t:SetTable):Prop where
  at_:∃ o,h.get? a=some o/\o.ExactSet/\o.data=.set es ep t
  ft:t.fits es.size=true
section
variable {prog:Program} {w:World} {A:Around} {E:Value->Shared->Prop} {s:Shared}
theorem QlN {I a:Addr} {i ep slot nx:Nat} {es:Array (Int×Value)} {t:SetTable} {x:Value} {Q:Option Value->Shared->Prop} (hit:IsSI s.heap I (.int slot 0) i a es.size ep) (ha:SetAt s.heap a es ep t)
    (hN:∀ (A:Around) (E:Value->Shared->Prop) (Q':Option (Value×Nat)->Shared->Prop),Q' (some (x,nx)) s->wpAny (model prog w) A (setNext a slot i ep) Q' E s)
    (hQ:∀ h',IsSI h' I (.int nx 0) (i+1) a es.size ep->Heap.SameBut I s.heap h'->Q (some x) { s with heap:=h' }):wpAny (model prog w) A (pyNext (.ref I)) Q E s:=by
  obtain ⟨o,ho,hc,hd⟩:=id hit
  obtain ⟨os,hos,hex,hds⟩:=ha.at_
  unfold pyNext
  refine wpAny_bind (wpAny_attempt (wpAny_callSpecial?_slot (name:=Str.ofString "__next__") hit.typeIs Qcw (wpAny_call_entry Qcw hit.typeIs Qij ?_ (QiM _))))
  unfold Builtin.«set_iterator.__next__»
  wp_walk
  rw [hd]
  refine wpAny_pure ?_
  dsimp only
  refine wpAny_bind (wpAny_setEntries_of hos hds ha.ft ?_)
  rw [if_neg (by simp)]
  refine wpAny_bind ?_
  refine hN _ _ _ ?_
  dsimp only
  refine wpAny_bind (wpAny_setField ho hd (by simp) ?_)
  have g1:(s.heap.update I (Obj.mapFields fun x=>x.setIfInBounds 0 (rawInt ↑nx))).get? I=some (Obj.mapFields (fun x=>x.setIfInBounds 0 (rawInt ↑nx)) o):=Heap.get?_update_self _ ho (Obj.isFreed_of_fields (Obj.data_mapFields hd _))
  have d1:(Obj.mapFields (fun x=>x.setIfInBounds 0 (rawInt ↑nx)) o).data=.fields #[.int nx 0,.int i 0,.ref a,.int es.size 0,.int ep 0]:=by rw [Obj.data_mapFields hd];simp [rawInt]
  refine wpAny_bind (wpAny_setField g1 d1 (by simp) (wpAny_pure ⟨x,rfl,wpAny_pure (hQ _ ?_ ((Heap.SameBut.update ..).trans (Heap.SameBut.update ..)))⟩))
  exact ⟨_,Heap.get?_update_self _ g1 (Obj.isFreed_of_fields (Obj.data_mapFields d1 _)),(Obj.cls_mapFields ..).trans ((Obj.cls_mapFields ..).trans hc),by rw [Obj.data_mapFields d1];simp [rawInt]⟩
theorem nx_end {I a:Addr} {i ep slot:Nat} {es:Array (Int×Value)} {t:SetTable} {Q:Option Value->Shared->Prop} (hh:A.handled=none) (hit:IsSI s.heap I (.int slot 0) i a es.size ep) (ha:SetAt s.heap a es ep t)
    (hN:∀ (A:Around) (E:Value->Shared->Prop) (Q':Option (Value×Nat)->Shared->Prop),Q' none s->wpAny (model prog w) A (setNext a slot i ep) Q' E s)
    (hQ:∀ h',Heap.ExtBut I s.heap h'->Q none { s with heap:=h' }):wpAny (model prog w) A (pyNext (.ref I)) Q E s:=by
  obtain ⟨o,ho,hc,hd⟩:=id hit
  obtain ⟨os,hos,hex,hds⟩:=ha.at_
  unfold pyNext
  refine wpAny_bind (wpAny_attempt (wpAny_callSpecial?_slot (name:=Str.ofString "__next__") hit.typeIs Qcw (wpAny_call_entry Qcw hit.typeIs Qij ?_ (QiM _))))
  unfold Builtin.«set_iterator.__next__»
  wp_walk
  rw [hd]
  refine wpAny_pure ?_
  dsimp only
  refine wpAny_bind (wpAny_setEntries_of hos hds ha.ft ?_)
  rw [if_neg (by simp)]
  refine wpAny_bind ?_
  refine hN _ _ _ ?_
  dsimp only
  refine wpAny_bind (wpAny_setField ho hd (by simp) ?_)
  refine wpAny_bind ?_
  simp only [newExc,newTuple]
  refine wpAny_bind (wpAny_newObj_type ?_ (by size_fits))
  refine wpAny_bind (m:=firstArgMember _ _) (wpAny_of_eq (a:=Value.none) (by first | rfl | (simp only [firstArgMember];rfl)) ?_)
  refine wpAny_newObj_type ?_ (by size_fits)
  simp only [raiseNew]
  refine wpAny_bind (wpAny_handled ?_)
  first | rw [show A.in1.handled=none from hh] | rw [hh]
  refine wpAny_bind (wpAny_pure (wpAny_throw ?_))
  refine wpAny_bind (wpAny_isInstance (T := "StopIteration") (b:=true) ⟨_,Heap.get?_push_size _ rfl,rfl⟩ (by rw [isSubtype_type];kernel_rfl) ?_)
  exact wpAny_pure (hQ _ (((Heap.SameBut.update ..).extBut.push _).push _))
theorem Qj6 {a:Addr} {ep slot given:Nat} {es:Array (Int×Value)} {t:SetTable} {Q:Option (Value×Nat)->Shared->Prop} (hb:w.params.followText "set-order" = false) (ha:SetAt s.heap a es ep t) (hp:t.plain=true) (hl:t.led=true)
    (h:Q (match es[SetTable.below t.place slot]?,t.place[SetTable.below t.place slot]? with | some (_,x),some j=>some (x,j+1) | _,_=>none) s):wpAny (model prog w) A (setNext a slot given ep) Q E s:=by
  obtain ⟨os,hos,hex,hds⟩:=ha.at_
  unfold setNext
  refine wpAny_bind (wpAny_setState_of hos hds ha.ft ?_)
  dsimp only
  unfold setsByText
  refine wpAny_bind (wpAny_bind (wpAny_askSetting (wpAny_pure ?_)))
  rw [show (model prog w).w.params.followText "set-order" = false from hb,if_neg Bool.false_ne_true]
  split
  · rename_i hdr
    exact absurd (show (!t.plain&&decide (es.size > 1))=true from hdr) (by rw [hp];simp)
  · refine wpAny_bind ?_
    show wpAny (model prog w) A (if (!t.led && !es.isEmpty)=true then unsupported "set:maker-not-led" else pure ()) _ E s
    rw [if_neg (by rw [hl];simp)]
    exact wpAny_pure (wpAny_pure h)
theorem Qg7 {a:Addr} {ep slot given:Nat} {es:Array (Int×Value)} {t:SetTable} {Q:Option (Value×Nat)->Shared->Prop} (hb:w.params.followText "set-order" = true) (ha:SetAt s.heap a es ep t)
    (h:Q (((pickOrder (w.params.setOrder a ep) es)[given]?).map fun e=>(e.2,slot)) s):wpAny (model prog w) A (setNext a slot given ep) Q E s:=by
  obtain ⟨os,hos,hex,hds⟩:=ha.at_
  unfold setNext
  refine wpAny_bind (wpAny_setState_of hos hds ha.ft ?_)
  dsimp only
  unfold setsByText
  refine wpAny_bind (wpAny_bind (wpAny_askSetting (wpAny_pure ?_)))
  rw [show (model prog w).w.params.followText "set-order" = true from hb,if_pos rfl,if_neg (by simp)]
  refine wpAny_bind ?_
  unfold setWalk
  refine wpAny_bind (wpAny_setState_of hos hds ha.ft ?_)
  dsimp only
  unfold setsByText
  refine wpAny_bind (wpAny_bind (wpAny_askSetting (wpAny_pure ?_)))
  rw [show (model prog w).w.params.followText "set-order" = true from hb,if_pos rfl]
  refine wpAny_bind (wpAny_askSetting (wpAny_pure ?_))
  exact wpAny_pure h
theorem QeG {α:Type} (next:Nat->Nat) (xs:Array α):(pickOrder next xs).toList.Perm xs.toList:=by
  unfold pickOrder
  have go:∀ (n k:Nat) (left:List α) (out:Array α),left.length=n->(pickOrder.go next n k left out).toList.Perm (out.toList++left):=fun n=>by
    induction n with
    | zero=>
      intro k left out hl
      rw [List.length_eq_zero_iff.mp hl,List.append_nil]
      exact List.Perm.refl _
    | succ n ih=>
      intro k left out hl
      have hi:next k % left.length<left.length:=Nat.mod_lt _ (by omega)
      unfold pickOrder.go
      rw [List.getElem?_eq_getElem hi]
      dsimp only
      refine (ih (k+1) _ _ (by rw [List.length_eraseIdx,if_pos hi];omega)).trans ?_
      rw [Array.toList_push,List.append_assoc]
      refine List.Perm.append_left _ ?_
      have sp:left=left.take (next k % left.length)++left[next k % left.length]::left.drop (next k % left.length+1):=by rw [<- List.drop_eq_getElem_cons hi,List.take_append_drop]
      have pm:=(List.perm_middle (a:=left[next k % left.length]) (l₁:=left.take (next k % left.length)) (l₂:=left.drop (next k % left.length+1))).symm
      rw [<- sp,<- List.eraseIdx_eq_take_drop_succ] at pm
      exact pm
  have:=go xs.size 0 xs.toList #[] (by simp)
  simpa using this
theorem it_led {a:Addr} {ep:Nat} {es:Array (Int×Value)} {t:SetTable} {Q:Value->Shared->Prop} (ha:SetAt s.heap a es ep t) (hp:t.plain=true)
    (hQ:Q (.ref s.heap.objs.size) { s with heap:=s.heap.push { cls:=.type "set_iterator",data:=.fields #[.int 0 0,.int 0 0,.ref a,.int es.size 0,.int ep 0] } }):wpAny (model prog w) A (pyIter (.ref a)) Q E s:=by
  obtain ⟨os,hos,hex,hds⟩:=ha.at_
  have hT:s.TypeIs (.ref a) "set" := ⟨os,hos,hex.1⟩
  refine wpAny_pyIter_slot hT PySem.F.slot_set_iter (wpAny_call_entry PySem.F.slot_set_iter hT Ql8 ?_ (PySem.F.args_set_iter_1 _))
  unfold Builtin.«frozenset.__iter__»
  wp_walk
  have nf:¬ (t.place.size != es.size||decide (t.fill > t.mask))=true:=by
    have hf:=ha.ft
    simp only [SetTable.fits,Bool.and_eq_true,beq_iff_eq,decide_eq_true_eq] at hf
    simp [hf.1,Nat.not_lt.mpr hf.2]
  rw [hds]
  dsimp only
  rw [if_neg nf]
  refine wpAny_pure (wpAny_pure (wpAny_pure ?_))
  refine wpAny_bind ?_
  unfold setDrawn
  refine wpAny_bind (wpAny_setState_of hos hds ha.ft ?_)
  dsimp only
  unfold setsByText
  refine wpAny_bind (wpAny_bind (wpAny_askSetting (wpAny_pure ?_)))
  refine wpAny_pure ?_
  split
  · rename_i hdr
    have hdr:(!(w.params.followText "set-order")&&(!t.plain&&decide (es.size > 1)))=true:=hdr
    rw [hp] at hdr
    simp at hdr
  · refine wpAny_bind (wpAny_pure ?_)
    refine wpAny_bind (wpAny_setEpoch_of hos hds ha.ft ?_)
    exact wpAny_bind (wpAny_newObj_type (wpAny_pure ⟨_,rfl, "set_iterator",_,⟨_,Heap.get?_push_size _ rfl,rfl⟩,Qcw.lookup,hQ⟩))
theorem SetAt.at' {h h':Heap} {a:Addr} {es:Array (Int×Value)} {ep:Nat} {t:SetTable} (x:SetAt h a es ep t) (k:∀ o,h.get? a=some o->h'.get? a=some o):SetAt h' a es ep t:=let ⟨o,h1,h2⟩:=x.at_;⟨⟨o,k o h1,h2⟩,x.ft⟩
theorem IsSI.at' {h h':Heap} {I:Addr} {first:Value} {i a n ep:Nat} (x:IsSI h I first i a n ep) (k:∀ o,h.get? I=some o->h'.get? I=some o):IsSI h' I first i a n ep:=let ⟨o,h1,h2⟩:=x;⟨o,k o h1,h2⟩
end
structure Way (prog:Program) (w:World) (a:Addr) (es:Array (Int×Value)) (ep:Nat) (t:SetTable) (so:Nat->Nat) (vs:Array (Int×Value)):Prop where
  pm:vs.toList.Perm es.toList
  s0:so 0=0
  item:∀ (s:Shared) (A:Around) (E:Value->Shared->Prop) (Q:Option (Value×Nat)->Shared->Prop) (i:Nat) (e:Int×Value),SetAt s.heap a es ep t->vs[i]? = some e->Q (some (e.2,so (i+1))) s->wpAny (model prog w) A (setNext a (so i) i ep) Q E s
  fin:∀ (s:Shared) (A:Around) (E:Value->Shared->Prop) (Q:Option (Value×Nat)->Shared->Prop),SetAt s.heap a es ep t->Q none s->wpAny (model prog w) A (setNext a (so es.size) es.size ep) Q E s
theorem Way.walks {prog:Program} {w:World} {A:Around} (hh:A.handled=none) {a:Addr} {es:Array (Int×Value)} {ep:Nat} {t:SetTable} {so:Nat->Nat} {vs:Array (Int×Value)} (W:Way prog w a es ep t so vs) (I:Addr) (hne:a≠I) (self:∀ (s:Shared) (Q:Value->Shared->Prop) (E:Value->Shared->Prop) (i:Nat),IsSI s.heap I (.int (so i) 0) i a es.size ep->Q (.ref I) s->wpAny (model prog w) A (pyIter (.ref I)) Q E s) :
    Walks prog w A I [I,a] [I] es.size (fun i v=>(vs[i]?).map (·.2)=some v) (fun i h=>IsSI h I (.int (so i) 0) i a es.size ep/\SetAt h a es ep t) where
  sub:=fun b hb=>by simp at hb;simp [hb]
  frame:=fun _ _ _ st hk=>⟨st.1.at' fun o e=>hk I (by simp) o e,st.2.at' fun o e=>hk a (by simp) o e⟩
  item:=fun i s Q E hi st hQ=>by
    have hl:vs.size=es.size:=by rw [<- Array.length_toList,W.pm.length_eq,Array.length_toList]
    have hv:vs[i]? = some vs[i]:=by simp [hl,hi]
    refine QlN st.1 st.2 (x:=vs[i].2) (nx:=so (i+1)) (fun A E Q' q=>W.item s A E Q' i _ st.2 hv q) fun h' hit' hs'=>?_
    refine hQ _ h' s.toks (by rw [hv];rfl) ⟨hit',st.2.at' fun o e=>hs'.extBut a o (fun z=>hne z) e⟩ fun b o hb e=>hs'.extBut b o (fun z=>hb (by simp [z])) e
  done:=fun s Q E st hQ=>nx_end hh st.1 st.2 (fun A E Q' q=>W.fin s A E Q' st.2 q) fun h' he'=>hQ h' s.toks fun b o hb e=>he' b o (fun z=>hb (by simp [z])) e
  self:=fun i s Q E st hQ=>self s Q E i st.1 hQ
theorem QiR {prog:Program} {w:World} (hb:w.params.followText "set-order" = true) (a:Addr) (es:Array (Int×Value)) (ep:Nat) (t:SetTable):Way prog w a es ep t (fun _=>0) (pickOrder (w.params.setOrder a ep) es) where
  pm:=QeG _ _
  s0:=rfl
  item:=fun s A E Q i e ha hv q=>Qg7 hb ha (by rw [hv];exact q)
  fin:=fun s A E Q ha q=>Qg7 hb ha (by
    have hl:(pickOrder (w.params.setOrder a ep) es).size=es.size:=by rw [<- Array.length_toList,(QeG _ _).length_eq,Array.length_toList]
    rw [Array.getElem?_eq_none (by omega)];exact q)
theorem QkH {prog:Program} {w:World} (hb:w.params.followText "set-order" = false) (a:Addr) (es:Array (Int×Value)) (ep:Nat) (t:SetTable) (hp:t.plain=true) (hl:t.led=true) (hz:t.place.size=es.size) (so:Nat->Nat) (s0:so 0=0) (hs:∀ i,i<t.place.size->so (i+1)=t.place.getD i 0+1) (hbel:∀ i,i<=t.place.size->SetTable.below t.place (so i)=i):Way prog w a es ep t so es where
  pm:=List.Perm.refl _
  s0:=s0
  item:=fun s A E Q i e ha hv q=>Qj6 hb ha hp hl (by
    have hi:i<es.size:=by
      by_cases z:i<es.size
      · exact z
      · rw [Array.getElem?_eq_none (by omega)] at hv;cases hv
    rw [hbel i (by omega),hv,show t.place[i]? = some (t.place.getD i 0) by simp [Array.getD,show i<t.place.size by omega]]
    dsimp only
    rw [<- hs i (by omega)]
    exact q)
  fin:=fun s A E Q ha q=>Qj6 hb ha hp hl (by
    rw [hbel es.size (by omega),Array.getElem?_eq_none (Nat.le_refl _)]
    exact q)
def Sm (m:Nat):List Nat:=(List.range 6).filter m.testBit
def tb (m:Nat) (led:Bool):SetTable:={ mask:=if 5<=(Sm m).length then 31 else 7,place:=(Sm m).toArray,dummies:=#[],finger:=0,led:=led,moves:=if 5<=(Sm m).length then 1 else 0,plain:=true }
def tp (m v:Nat) (led:Bool):SetTable:={ tb m led with place:=(Sm (m ||| 2^v)).toArray }
def pz (m v:Nat):Nat:=((Sm m).filter (· < v)).length
theorem QkJ:∀ led:Bool,tb 0 led=SetTable.fresh 0 0 led:=by decide +kernel
theorem t_free:∀ m:Fin 64,∀ v:Fin 6,∀ led:Bool,m.val.testBit v.val=false->(tb m led).freeSlot (v.val:Int)=some (v.val,false):=by decide +kernel
theorem t_put:∀ m:Fin 64,∀ v:Fin 6,∀ led:Bool,m.val.testBit v.val=false->(tb m led).put v.val=(tp m v led,pz m v):=by decide +kernel
theorem Qg3:∀ m:Fin 64,∀ led:Bool,(tb m led).fits (Sm m).length=true:=by decide +kernel
theorem Qke:∀ m:Fin 64,∀ v:Fin 6,∀ led:Bool,m.val.testBit v.val=false->(tp m v led).fits ((Sm m).length+1)=true:=by decide +kernel
theorem QiV:∀ m:Fin 64,∀ v:Fin 6,m.val.testBit v.val=false->Sm (m ||| 2^v.val)=(Sm m).take (pz m v)++v.val::(Sm m).drop (pz m v):=by decide +kernel
theorem t_full:∀ m:Fin 64,∀ v:Fin 6,∀ led:Bool,m.val.testBit v.val=false->(tp m v led).tooFull=decide ((Sm m).length=4):=by decide +kernel
theorem t_next:∀ m:Fin 64,∀ v:Fin 6,∀ led:Bool,m.val.testBit v.val=false->(Sm m).length≠4->tp m v led=tb (m ||| 2^v.val) led:=by decide +kernel
theorem QkI:∀ m:Fin 64,∀ v:Fin 6,∀ led:Bool,m.val.testBit v.val=false->(Sm m).length=4->(tp m v led).relaid ((Sm (m ||| 2^v.val)).map (fun (x:Nat)=>(x:Int))).toArray (SetTable.grown 5)=some (tb (m ||| 2^v.val) led,#[0,1,2,3,4]):=by decide +kernel
theorem t_cov:coversAll #[0,1,2,3,4] 5=true:=by decide +kernel
def so (m i:Nat):Nat:=match i with
  | 0=>0
  | i+1=>(Sm m).toArray.getD i 0+1
theorem QkK:∀ m:Fin 64,∀ i:Fin 7,i.val<=(Sm m).length->SetTable.below (Sm m).toArray (so m i)=i:=by decide +kernel
theorem t_mem:∀ m:Fin 64,∀ v:Fin 6,decide (v.val∈Sm m)=m.val.testBit v.val:=by decide +kernel
theorem t_or:∀ m:Fin 64,∀ v:Fin 6,m.val ||| 2^v.val<64:=by decide +kernel
theorem t_has:∀ m:Fin 64,∀ v:Fin 6,m.val.testBit v.val=true->m.val ||| 2^v.val=m:=by decide +kernel
theorem Qgw:∀ m:Fin 64,(Sm m).length<=6:=by decide +kernel
theorem Sm_lt {m x:Nat} (h:x∈Sm m):x<6:=List.mem_range.mp (List.mem_filter.mp h).1
theorem QdQ:∀ v:Fin 6,hashInt (v.val:Int)=(v.val:Int):=by decide +kernel
def EsOk (es:Array (Int×Value)) (S:List Nat):Prop:=∃ tks:List Tok,tks.length=S.length/\es.toList=List.zipWith (fun (v:Nat) (tk:Tok)=>((v:Int),Value.int (v:Int) tk)) S tks
theorem EsOk.size {es:Array (Int×Value)} {S:List Nat} (h:EsOk es S):es.size=S.length:=by
  obtain ⟨tks,hl,e⟩:=h
  rw [<- Array.length_toList,e,List.length_zipWith,hl,Nat.min_self]
theorem EsOk.ins {es:Array (Int×Value)} {S:List Nat} (h:EsOk es S) (p v:Nat) (tk:Tok):EsOk (SetTable.insertAt es p ((v:Int),.int v tk)) (S.take p++v::S.drop p):=by
  obtain ⟨tks,hl,e⟩:=h
  refine ⟨tks.take p++tk::tks.drop p,by simp [hl],?_⟩
  rw [SetTable.toList_insertAt,e,List.zipWith_append (by simp [hl]),List.take_zipWith,List.drop_zipWith]
  rfl
theorem QkD {S:List Nat} {e:Int×Value}:∀ {tks:List Tok},e∈List.zipWith (fun (v:Nat) (tk:Tok)=>((v:Int),Value.int (v:Int) tk)) S tks->∃ v∈S,∃ tk,e=((v:Int),.int v tk):=by
  induction S with
  | nil=>intro tks h;cases tks<;>cases h
  | cons x S ih=>
    intro tks h
    cases tks with
    | nil=>cases h
    | cons t tks=>
      rcases List.mem_cons.mp h with z | z
      · exact ⟨x,.head _,t,z⟩
      · obtain ⟨v,hv,r⟩:=ih z
        exact ⟨v,.tail _ hv,r⟩
theorem EsOk.mem {es:Array (Int×Value)} {S:List Nat} (h:EsOk es S) {e:Int×Value} (he:e∈es.toList):∃ v∈S,∃ tk,e=((v:Int),.int v tk):=by
  obtain ⟨tks,hl,e'⟩:=h
  rw [e'] at he
  exact QkD he
theorem QkE {S:List Nat} {v:Nat} (hv:v∈S):∀ {tks:List Tok},tks.length=S.length->∃ tk,((v:Int),Value.int (v:Int) tk)∈List.zipWith (fun (v:Nat) (tk:Tok)=>((v:Int),Value.int (v:Int) tk)) S tks:=by
  induction S with
  | nil=>cases hv
  | cons x S ih=>
    intro tks hl
    cases tks with
    | nil=>cases hl
    | cons t tks=>
      rcases List.mem_cons.mp hv with z | z
      · subst z;exact ⟨t,.head _⟩
      · obtain ⟨tk,h⟩:=ih z (Nat.succ.inj hl)
        exact ⟨tk,.tail _ h⟩
theorem EsOk.has {es:Array (Int×Value)} {S:List Nat} (h:EsOk es S) {v:Nat} (hv:v∈S):∃ tk,((v:Int),Value.int (v:Int) tk)∈es.toList:=by
  obtain ⟨tks,hl,e⟩:=h
  rw [e];exact QkE hv hl
theorem EsOk.hashes {es:Array (Int×Value)} {S:List Nat} (h:EsOk es S):es.map (·.1)=(S.map fun (x:Nat)=>(x:Int)).toArray:=by
  obtain ⟨tks,hl,e⟩:=h
  apply Array.toList_inj.mp
  rw [Array.toList_map,e,List.toList_toArray]
  have:∀ (S:List Nat) (tks:List Tok),tks.length=S.length->(List.zipWith (fun (v:Nat) (tk:Tok)=>((v:Int),Value.int (v:Int) tk)) S tks).map (·.1)=S.map fun (x:Nat)=>(x:Int):=fun S=>by
    induction S with
    | nil=>intro tks _;cases tks<;>rfl
    | cons x S ih=>
      intro tks hl
      cases tks with
      | nil=>cases hl
      | cons t tks=>
        show (x:Int)::_=(x:Int)::_
        rw [ih tks (Nat.succ.inj hl)]
  exact this S tks hl
theorem EsOk.elems {prog:Program} {w:World} {es:Array (Int×Value)} {m:Nat} (h:EsOk es (Sm m)):ElemsOf (intKind prog w) es.toList:=fun e he=>by
  obtain ⟨v,hv,tk,rfl⟩:=h.mem he
  exact ⟨⟨(v:Int),intKind_is _ _ _ _,(QdQ ⟨v,Sm_lt hv⟩).symm⟩,rfl⟩
structure Sml (h:Heap) (a:Addr) (m:Nat) (led:Bool):Prop where
  ex:∃ es ep,SetAt h a es ep (tb m led)/\EsOk es (Sm m)
theorem Sml.at' {h h':Heap} {a:Addr} {m:Nat} {led:Bool} (x:Sml h a m led) (k:∀ o,h.get? a=some o->h'.get? a=some o):Sml h' a m led:=by
  obtain ⟨es,ep,sa,eo⟩:=x.ex
  exact ⟨es,ep,sa.at' k,eo⟩
theorem SetAt.store {h:Heap} {a:Addr} {es es':Array (Int×Value)} {ep:Nat} {t t':SetTable} (x:SetAt h a es ep t) (hf:t'.fits es'.size=true):SetAt (h.update a (Obj.putSet es' t')) a es' (ep+1) t':=by
  obtain ⟨o,ho,hex,hd⟩:=x.at_
  have hg:=Heap.get?_update_self (Obj.putSet es' t') ho (by rw [putSet_of es' t' hd];rfl)
  rw [putSet_of es' t' hd] at hg
  exact ⟨⟨_,hg,hex,rfl⟩,hf⟩
section
variable {prog:Program} {w:World} {A:Around} {E:Value->Shared->Prop} {s:Shared}
theorem QiP {a:Addr} {m v:Nat} {led:Bool} {tk:Tok} {Q:Bool->Shared->Prop} (hm:m<64) (hv:v<6) (x:Sml s.heap a m led)
    (h:∀ h' b,Heap.SameBut a s.heap h'->Sml h' a (m ||| 2^v) led->Q b { s with heap:=h' }):wpAny (model prog w) A (setAddHashed a (.int (v:Int) tk) (hashInt (v:Int))) Q E s:=by
  obtain ⟨es,ep,sa,eo⟩:=x.ex
  obtain ⟨o,ho,hex,hd⟩:=sa.at_
  have sz:=eo.size
  have l6:=Qgw ⟨m,hm⟩
  have hel:ElemsOf (intKind prog w) es.toList:=eo.elems
  have hb:es.size<scanBound:=by unfold scanBound;have:(Sm m).length<=6:=l6;omega
  unfold setAddHashed setAddHashedIn
  refine wpAny_holding (wpAny_bind (wpAny_setState_of ho hd sa.ft ?_))
  dsimp only
  rw [byScan_of (knd:=intKind prog w) (x:=.int (v:Int) tk) rfl hb hel,if_pos rfl]
  unfold setAddByScan
  refine wpAny_bind (wpAny_bind (wpAny_rule (wpAny_bind (wpAny_setScan_of (knd:=intKind prog w) (k:=(v:Int)) (intKind_is _ _ _ _) ho hd sa.ft hel ?_))))
  have tm:decide (v∈Sm m)=m.testBit v:=t_mem ⟨m,hm⟩ ⟨v,hv⟩
  cases hr:List.findIdx? (fun e=>(intKind prog w).is (v:Int) e.2) es.toList with
  | some j=>
    obtain ⟨hj,hpj,_⟩:=List.findIdx?_eq_some_iff_getElem.mp hr
    obtain ⟨u,hu,tk2,eu⟩:=eo.mem (List.getElem_mem hj)
    rw [eu] at hpj
    have e2:u=v:=by
      have:=(intKind prog w).inj (.int (u:Int) tk2) (v:Int) (u:Int) hpj (intKind_is _ _ _ _)
      omega
    subst e2
    have tb1:m.testBit u=true:=by rw [<- tm];exact decide_eq_true hu
    have e3:m ||| 2^u=m:=t_has ⟨m,hm⟩ ⟨u,hv⟩ tb1
    dsimp only
    refine wpAny_pure (wpAny_pure ?_)
    have e:s={ s with heap:=s.heap }:=by cases s;rfl
    rw [e]
    exact h s.heap false (Heap.SameBut.refl a s.heap) (by rw [e3];exact ⟨es,ep,sa,eo⟩)
  | none=>
    have nb:m.testBit v=false:=by
      rw [<- tm]
      refine decide_eq_false fun hu=>?_
      obtain ⟨tk2,ht⟩:=eo.has hu
      have:=List.findIdx?_eq_none_iff.mp hr _ ht
      rw [intKind_is] at this
      cases this
    have lay:layNew (tb m led) es (hashInt (v:Int)) (.int (v:Int) tk)=(SetTable.insertAt es (pz m v) ((v:Int),.int (v:Int) tk),tp m v led,false,false):=by
      have f1:(tb m led).freeSlot (v:Int)=some (v,false):=t_free ⟨m,hm⟩ ⟨v,hv⟩ led nb
      have f2:(tb m led).put v=(tp m v led,pz m v):=t_put ⟨m,hm⟩ ⟨v,hv⟩ led nb
      have f3:(tp m v led).fits ((Sm m).length+1)=true:=Qke ⟨m,hm⟩ ⟨v,hv⟩ led nb
      have ei:=(eo.ins (pz m v) v tk).size
      have ei:(SetTable.insertAt es (pz m v) ((v:Int),.int (v:Int) tk)).size=(Sm m).length+1:=by rw [ei,<- QiV ⟨m,hm⟩ ⟨v,hv⟩ nb,QiV ⟨m,hm⟩ ⟨v,hv⟩ nb];simp;omega
      unfold layNew
      rw [QdQ ⟨v,hv⟩]
      rw [show ((⟨v,hv⟩:Fin 6).val:Int)=(v:Int) from rfl,f1]
      dsimp only
      rw [f2]
      dsimp only
      unfold SetTable.orStandIn
      rw [ei,f3]
      rfl
    have eo1:=eo.ins (pz m v) v tk
    rw [<- QiV ⟨m,hm⟩ ⟨v,hv⟩ nb] at eo1
    have eo1:EsOk (SetTable.insertAt es (pz m v) ((v:Int),.int (v:Int) tk)) (Sm (m ||| 2^v)):=eo1
    have s1:(SetTable.insertAt es (pz m v) ((v:Int),.int (v:Int) tk)).size=(Sm m).length+1:=by
      rw [eo1.size,show Sm (m ||| 2^v)=_ from QiV ⟨m,hm⟩ ⟨v,hv⟩ nb];simp;omega
    dsimp only
    rw [lay]
    dsimp only
    refine wpAny_bind (wpAny_of_eq (a:=()) rfl ?_)
    rw [if_pos (show (tp m v led).plain=true from rfl),hashByValue_scannable 8 (x:=.int (v:Int) tk) rfl]
    refine wpAny_bind (wpAny_pure ?_)
    have pk:plainKind (.int (v:Int) tk)=true:=rfl
    simp only [pk,if_true]
    have m64:m ||| 2^v<64:=t_or ⟨m,hm⟩ ⟨v,hv⟩
    have f3:(tp m v led).fits (SetTable.insertAt es (pz m v) ((v:Int),.int (v:Int) tk)).size=true:=by rw [s1];exact Qke ⟨m,hm⟩ ⟨v,hv⟩ led nb
    have sa1:=sa.store (es':=SetTable.insertAt es (pz m v) ((v:Int),.int (v:Int) tk)) (t':=tp m v led) f3
    have sb1:=Heap.SameBut.update s.heap a (Obj.putSet (SetTable.insertAt es (pz m v) ((v:Int),.int (v:Int) tk)) (tp m v led))
    refine wpAny_bind (wpAny_storeSet_of ho hd ?_ (by rw [s1];show _<=2^24;have:(Sm m).length<=6:=l6;omega))
    have tf:(tp m v led).tooFull=decide ((Sm m).length=4):=t_full ⟨m,hm⟩ ⟨v,hv⟩ led nb
    rw [tf]
    by_cases z:(Sm m).length=4
    · rw [decide_eq_true z,if_pos (show (!false&&true)=true from rfl)]
      have rl:relayAll (tp m v led) (SetTable.insertAt es (pz m v) ((v:Int),.int (v:Int) tk)) (SetTable.grown (SetTable.insertAt es (pz m v) ((v:Int),.int (v:Int) tk)).size)=(SetTable.insertAt es (pz m v) ((v:Int),.int (v:Int) tk),tb (m ||| 2^v) led,false):=by
        rw [s1,z]
        have s5:(SetTable.insertAt es (pz m v) ((v:Int),.int (v:Int) tk)).size=5:=by rw [s1,z]
        have f4:(tp m v led).relaid ((Sm (m ||| 2^v)).map (fun (x:Nat)=>(x:Int))).toArray (SetTable.grown 5)=some (tb (m ||| 2^v) led,#[0,1,2,3,4]):=QkI ⟨m,hm⟩ ⟨v,hv⟩ led nb z
        have f5:(tb (m ||| 2^v) led).fits 5=true:=by
          have:=Qg3 ⟨m ||| 2^v,m64⟩ led
          rw [show (Sm (⟨m ||| 2^v,m64⟩:Fin 64).val).length=5 by show (Sm (m ||| 2^v)).length=5;rw [<- eo1.size,s5]] at this
          exact this
        unfold relayAll
        rw [eo1.hashes,show (4:Nat)+1=5 from rfl,f4]
        dsimp only
        generalize SetTable.insertAt es (pz m v) ((v:Int),.int (v:Int) tk)=X at s5
        have ex:(#[0,1,2,3,4]:Array Nat).filterMap (X[·]?)=X:=by
          have q:=filterMap_getElem?_range X
          rw [s5] at q
          apply Array.toList_inj.mp
          rw [Array.toList_filterMap]
          exact q
        rw [ex,s5,t_cov,f5]
        rfl
      rw [rl]
      dsimp only
      refine wpAny_bind (wpAny_of_eq (a:=()) rfl ?_)
      obtain ⟨o1,ho1,hex1,hd1⟩:=sa1.at_
      refine wpAny_bind (wpAny_storeSet_of ho1 hd1 ?_ (by rw [s1];show _<=2^24;omega))
      refine wpAny_pure ?_
      dsimp only
      refine wpAny_pure (h _ _ (sb1.trans (Heap.SameBut.update _ a _)) ⟨_,_,sa1.store (by rw [eo1.size];exact Qg3 ⟨m ||| 2^v,m64⟩ led),eo1⟩)
    · rw [decide_eq_false z,if_neg (show ¬ (!false&&false)=true by decide)]
      refine wpAny_pure ?_
      dsimp only
      have tn:tp m v led=tb (m ||| 2^v) led:=t_next ⟨m,hm⟩ ⟨v,hv⟩ led nb z
      have sa2:=sa1
      rw [tn] at sa2
      rw [tn] at sb1 ⊢
      exact wpAny_pure (h _ _ sb1 ⟨_,_,sa2,eo1⟩)
end
def bits (val:Nat->Nat):Nat->Nat
  | 0=>0
  | i+1=>bits val i ||| 2^val i
theorem QfM {val:Nat->Nat}:∀ {i:Nat},(∀ j,j<i->val j<6)->bits val i<64
  | 0,_=>by show 0<64;decide
  | i+1,h=>t_or ⟨bits val i,QfM fun j hj=>h j (by omega)⟩ ⟨val i,h i (by omega)⟩
section
variable {prog:Program} {w:World} {A:Around} {R:Result->Shared->Prop} {I:Addr} {fp wr:List Addr} {n:Nat} {P:Nat->Value->Prop} {St:Nat->Heap->Prop}
theorem QiS (W:Walks prog w A.in1 I fp wr n P St) (S:Addr) (hSf:S∉fp) {led:Bool} (val:Nat->Nat) (hval:∀ i v,P i v->∃ t,v=.int ((val i:Nat):Int) t) (h6:∀ i,i<n->val i<6) :
    ∀ (k i:Nat) (s:Shared),n - i=k->i<=n->St i s.heap->Sml s.heap S (bits val i) led ->
      (∀ h' tk,(∀ b o,b∉S::wr->s.heap.get? b=some o->h'.get? b=some o)->Sml h' S (bits val n) led->R (.ok (.ret .none)) { s with heap:=h',toks:=tk }) ->
      codeAny (model prog w) A (.builtin "set.update.loop" ⟨[.ref S,.ref I],[]⟩) R s:=by
  have hSw:S∉wr:=fun z=>hSf (W.sub _ z)
  intro k
  induction k with
  | zero=>
    intro i s hk hi hst hS hR
    obtain rfl:i=n:=by omega
    refine codeAny_builtin PyProof.Rows.F.entry_set_update_loop ?_
    rw [Around.under_plainId PyProof.Rows.F.plain_set_update_loop _]
    show wpAny _ A.in1 (pyNext (.ref I) >>= _) _ _ s
    refine wpAny_bind (W.done s _ _ hst fun h' tk hk'=>wpAny_pure (hR h' tk (fun b o hb e=>hk' b o (fun z=>hb (List.mem_cons_of_mem _ z)) e) (hS.at' fun o e=>hk' S o hSw e)))
  | succ k ih=>
    intro i s hk hi hst hS hR
    have hlt:i<n:=by omega
    refine codeAny_builtin PyProof.Rows.F.entry_set_update_loop ?_
    rw [Around.under_plainId PyProof.Rows.F.plain_set_update_loop _]
    show wpAny _ A.in1 (pyNext (.ref I) >>= _) _ _ s
    refine wpAny_bind (W.item i s _ _ hlt hst fun v h' tk hP hst' hk'=>?_)
    obtain ⟨t,rfl⟩:=hval i v hP
    have hS':=hS.at' fun o e=>hk' S o hSw e
    show wpAny _ A.in1 (holding [_] (setAdd S _) >>= _) _ _ _
    refine wpAny_bind (wpAny_holding ?_)
    unfold setAdd
    refine wpAny_holding (wpAny_bind ((intKind prog w).pyHash (k:=((val i:Nat):Int)) (intKind_is _ _ _ _) ?_))
    refine QiP (s:={ s with heap:=h',toks:=tk+1 }) (QfM fun j hj=>h6 j (by omega)) (h6 i hlt) hS' fun h2 b hsb hS2=>?_
    refine wpAny_pure ⟨plainId_quiet PyProof.Rows.F.plain_set_update_loop _,ih (i+1) _ (by omega) hlt (W.frame _ h' _ hst' fun b hb o e=>?_) hS2 fun h3 tk3 hk3 hS3=>hR h3 tk3 (fun b o hb e=>?_) hS3⟩
    · show h2.get? b=some o
      rw [hsb.2 b (fun z:b=S=>hSf (by rw [<- z];exact hb))];exact e
    · refine hk3 b o hb ?_
      show h2.get? b=some o
      rw [hsb.2 b (fun z:b=S=>hb (by rw [z];exact List.mem_cons_self))]
      exact hk' b o (fun z=>hb (List.mem_cons_of_mem _ z)) e
end
section
variable {prog:Program} {w:World} {A:Around} {E:Value->Shared->Prop} {s:Shared}
def Qbl (w:World):Bool := !w.params.followText "set-order"
theorem QkS (a:Value) {Q:Value->Shared->Prop} (h:Q (.ref s.heap.objs.size) { s with heap:=s.heap.push { cls:=.type "set",dict:=none,data:=.set #[] 0 (.fresh 0 0 (Qbl w)) } }):codeAny (model prog w) A (.call (.builtin "set.__new__") ⟨[.type "set",a],[]⟩) (wants Q E) s:=by
  refine codeAny_of_tree (by
    show wpAny _ A.in1 (do checkBuiltinCall "set.__new__" ⟨[.type "set",a],[]⟩;again (.builtin "set.__new__" ⟨[.type "set",a],[]⟩)) _ _ s
    refine wpAny_bind (wpAny_of_eq (PySem.F.newCall_set_1 a) (wpAny_pure ⟨plainId_quiet F.plain_set_new _,codeAny_builtin F.entry_set_new ?_⟩))
    rw [Around.under_plainId F.plain_set_new _];unfold Builtin.«set.__new__» Builtin.Frozenset.newClass
    have hsub:=sub_set_self;obtain ⟨hp,g,d,tk,os⟩:=s
    dsimp only;wp_walk
    refine wpAny_askSetting (wpAny_pure ?_);dsimp only
    simp only [newObj];refine wpAny_bind (wpAny_alloc (wpAny_pure ?_))
    exact wpAny_pure h)
theorem call_setS {l:Addr} {items:Array Value} {n:Nat} {val:Nat->Nat} {Q:Value->Shared->Prop} (hh:A.handled=none) (hl:s.heap.IsList l items) (hn:items.size=n) (hval:∀ (i:Nat) (v:Value),items[i]? = some v->∃ t,v=Value.int ((val i:Nat):Int) t) (h6:∀ i,i<n->val i<6)
    (h:∀ (h':Heap) (tk:Nat),Sml h' s.heap.objs.size (bits val n) (Qbl w)->(∀ b o,b<s.heap.objs.size->s.heap.get? b=some o->h'.get? b=some o)->Q (.ref s.heap.objs.size) { s with heap:=h',toks:=tk }):wpAny (model prog w) A (call (.type "set") [.ref l]) Q E s:=by
  obtain ⟨c,tl,hmro⟩:=F.called_set.mro
  have hmade:=F.called_set.made;have hsub:=F.called_set.sub
  refine wpAny_call (codeAny_of_tree (by
    show wpAny _ _ (callAny (.type "set") _) _ _ _
    refine wpAny_pure ⟨Code.quiet_builtin _ (by decide +kernel),codeAny_builtin F.entry_type_call ?_⟩
    rw [Around.under_plain (weight_type_call_type "set" [.ref l] []) rfl];have h1:=F.called_set.notType
    have h2:=F.called_set.canCreate;have hct:=F.typeCall_set_1 (.ref l)
    repeat (any_goals (first | assumption | wp_step))
    refine codeAny_mono (QkS (.ref l) (E:=E) (Q:=fun obj s₁=>obj=.ref s.heap.objs.size/\s₁={ s with heap:=s.heap.push { cls:=.type "set",dict:=none,data:=.set #[] 0 (.fresh 0 0 (Qbl w)) } }) ⟨rfl,rfl⟩) fun r s₁ hr=>?_
    cases r with
    | error e=>exact hr
    | ok fl=>
      cases fl with
      | ret obj=>
        obtain ⟨rfl,rfl⟩:=hr
        have hS:(s.heap.push { cls:=.type "set",dict:=none,data:=.set #[] 0 (.fresh 0 0 (Qbl w)) }).get? s.heap.objs.size=some { cls:=.type "set",dict:=none,data:=.set #[] 0 (.fresh 0 0 (Qbl w)) }:=Heap.get?_push_size _ rfl
        have hT:Shared.TypeIs { s with heap:=s.heap.push { cls:=.type "set",dict:=none,data:=.set #[] 0 (.fresh 0 0 (Qbl w)) } } (.ref s.heap.objs.size) "set" := ⟨_,hS,rfl⟩
        have hli:=F.called_set.init.lookup;have hbi:=F.called_set.init.bind (.ref s.heap.objs.size)
        repeat (any_goals (first | assumption | wp_step))
        refine codeAny_mono (codeAny_call_builtin (R:=wants (fun r s₂=>r=.none/\∃ h' tk,s₂={ s with heap:=h',toks:=tk }/\Sml h' s.heap.objs.size (bits val n) (Qbl w)/\(∀ b o,b<s.heap.objs.size->s.heap.get? b=some o->h'.get? b=some o)) E) F.called_set.init.plain F.entry_set_init (check_set_init_1 hT ?_)) fun r₂ s₂ hr₂=>?_
        · obtain ⟨⟨ocls,odict,odata,oslots⟩,hol,hcl,nl,hdl⟩:=hl
          simp only at hcl hdl
          subst hcl hdl
          have hol':(s.heap.push { cls:=.type "set",dict:=none,data:=.set #[] 0 (.fresh 0 0 (Qbl w)) }).get? l=some { cls:=.type "list",dict:=odict,data:=.seq items nl,slots:=oslots }:=Heap.get?_push_of_some _ hol
          have hsls:=F.sub_list_set;have hslf:=F.sub_list_frozenset
          have hne:(Value.type "list" == Value.type "dict")=false:=by decide
          have hl1:(s.heap.push { cls:=.type "set",dict:=none,data:=.set #[] 0 (.fresh 0 0 (Qbl w)) }).IsList l items:=⟨_,hol',rfl,nl,rfl⟩
          unfold Builtin.«set.__init__» noKeywords Builtin.Frozenset.updateFrom
          generalize hPI:pyIter=PI;wp_walk;subst hPI
          refine wpAny_pyIter_list hl1 (wpAny_bind (wpAny_runValue ?_))
          have hlS:l<s.heap.objs.size:=Heap.lt_size hol
          have hneI:l≠(s.heap.push { cls:=.type "set",dict:=none,data:=.set #[] 0 (.fresh 0 0 (Qbl w)) }).objs.size:=by rw [Heap.size_push];exact Nat.ne_of_lt (Nat.lt_succ_of_lt hlS)
          have hSf:s.heap.objs.size∉[(s.heap.push { cls:=.type "set",dict:=none,data:=.set #[] 0 (.fresh 0 0 (Qbl w)) }).objs.size,l]:=by
            rw [Heap.size_push];simp only [List.mem_cons,List.not_mem_nil,or_false,not_or];exact ⟨Nat.ne_of_lt (Nat.lt_succ_self _),Nat.ne_of_gt hlS⟩
          have w0:=Walks.list (prog:=prog) (w:=w) (A:=A.in1.in1.in1) (by simp [hh]) (s.heap.push { cls:=.type "set",dict:=none,data:=.set #[] 0 (.fresh 0 0 (Qbl w)) }).objs.size l hneI items
          rw [hn] at w0
          refine QiS (led:=Qbl w) w0 s.heap.objs.size hSf val (fun i v hv=>hval i v hv) h6 n 0 _ (by omega) (Nat.zero_le _) ⟨⟨_,Heap.get?_push_size _ rfl,rfl,rfl⟩,hl1.push _⟩ ?hS0 ?hR
          case hS0=>
            refine ⟨#[],0,⟨⟨_,Heap.get?_push_of_some _ hS,⟨rfl,rfl,rfl⟩,?_⟩,by rw [show bits val 0=0 from rfl];exact Qg3 ⟨0,by decide⟩ _⟩,by rw [show bits val 0=0 from rfl];exact ⟨[],by decide,by decide⟩⟩
            rw [show bits val 0=0 from rfl,QkJ]
          case hR=>
            intro h' tk hk hS'
            refine wpAny_pure ?_
            refine wpAny_pure ⟨rfl,h',tk,rfl,hS',fun b o hb e=>?_⟩
            have hb2:b≠(s.heap.push { cls:=.type "set",dict:=none,data:=.set #[] 0 (.fresh 0 0 (Qbl w)) }).objs.size:=by rw [Heap.size_push];exact Nat.ne_of_lt (Nat.lt_succ_of_lt hb)
            exact hk b o (by simp only [List.mem_cons,List.not_mem_nil,or_false,not_or];exact ⟨Nat.ne_of_lt hb,hb2⟩) (Heap.get?_push_of_some _ (Heap.get?_push_of_some _ e))
        · cases r₂ with
          | error e=>exact hr₂
          | ok fl₂=>
            cases fl₂ with
            | ret r=>
              obtain ⟨rfl,h',tk,rfl,hS',hk'⟩:=hr₂
              repeat (any_goals (first | assumption | wp_step))
              exact h _ _ hS' hk'
            | _=>exact hr₂
      | _=>exact hr))
end
theorem Qg8:Slot "set_iterator" "__iter__" "set_iterator.__iter__" :=
  .of (owner := "set_iterator") (n := "__iter__") (by rw [typeLookup_type,builtinLookup_eq_fast];kernel_rfl) (by decide +kernel) (by decide +kernel) (by decide +kernel) (by first | exact .inl (by decide +kernel) | exact .inr (by decide +kernel)) (by rw [isSubtype_type];kernel_rfl)
theorem en_si:entryFor table "set_iterator.__iter__" = some Builtin.«dict_keyiterator.__iter__» := entryFor_alias (id' := "dict_keyiterator.__iter__") (by kernel_rfl) (by first | rfl | decide +kernel | (unfold String.splitOn;simp +decide [String.splitOnAux])) (by decide +kernel) (by kernel_rfl)
theorem ar_si (a:Value):argsOk "set_iterator.__iter__" ⟨[a],[]⟩:=by
  unfold argsOk;rw [signature?_of (id := "set_iterator.__iter__") (n:=['_', '_', 'r', 'e', 't', 'i', '_', '_']) (o:=['r', 'o', 't', 'a', 'r', 'e', 't', 'i', '_', 't', 'e', 's']) (by kernel_rfl) ow_si];kernel_rfl
theorem QlT:typeLookup (.type "set") "__len__" = pure (some (.builtin "set.__len__")):=by rw [typeLookup_type,builtinLookup_eq_fast];kernel_rfl
section
variable {prog:Program} {w:World} {A:Around} {E:Value->Shared->Prop} {s:Shared}
theorem QkQ {I a:Addr} {first:Value} {i n ep:Nat} {Q:Value->Shared->Prop} (hit:IsSI s.heap I first i a n ep) (h:Q (.ref I) s):wpAny (model prog w) A (pyIter (.ref I)) Q E s:=by
  refine wpAny_pyIter_slot hit.typeIs Qg8 (wpAny_call_entry Qg8 hit.typeIs en_si ?_ (ar_si _))
  show wpAny _ _ (ret (.ref I)) _ _ s
  exact wpAny_pure ⟨_,rfl, "set_iterator",_,hit.typeIs,Qcw.lookup,h⟩
theorem QfE {a:Addr} {es vs:Array (Int×Value)} {ep:Nat} {t:SetTable} {so:Nat->Nat} {Q:List Value->Shared->Prop} (hh:A.handled=none) (W:Way prog w a es ep t so vs) (ha:SetAt s.heap a es ep t) (hp:t.plain=true) (hn:es.size<=sizeLine)
    (hQ:∀ (h':Heap) (tk:Nat),(∀ b o,s.heap.get? b=some o->h'.get? b=some o)->Q (vs.toList.map (·.2)) { s with heap:=h',toks:=tk }):wpAny (model prog w) A (collect (.ref a)) Q E s:=by
  have hlt:a<s.heap.objs.size:=let ⟨o,ho,_⟩:=ha.at_;Heap.lt_size ho
  unfold collect
  refine wpAny_bind (wpAny_runValue (codeAny_builtin F.entry_proto_collect ?_))
  rw [Around.under_plainId F.plain_proto_collect _]
  show wpAny _ A.in1 (newList [] >>= fun l=>again (.builtin "list.__iadd__" ⟨[l,.ref a],[]⟩)) _ _ s
  refine wpAny_bind (wpAny_newObj_type (wpAny_pure ⟨plainId_quiet F.plain_list_iadd _,codeAny_builtin F.entry_list_iadd ?_⟩))
  rw [Around.under_plainId F.plain_list_iadd _]
  generalize hH:s.heap.push { cls:=.type "list",data:=.seq ([]:List Value).toArray }=H
  have hHs:H.objs.size=s.heap.objs.size+1:=by rw [<- hH,Heap.size_push]
  have keep:∀ b o,s.heap.get? b=some o->H.get? b=some o:=fun b o e=>hH ▸ Heap.get?_push_of_some _ e
  have hS:H.get? s.heap.objs.size=some { cls:=.type "list",data:=.seq ([]:List Value).toArray }:=hH ▸ Heap.get?_push_size _ rfl
  have ha1:SetAt H a es ep t:=ha.at' fun o e=>keep a o e
  have hT:Shared.TypeIs { s with heap:=H } (.ref a) "set" := let ⟨o,ho,hx,_⟩:=ha1.at_;⟨o,ho,hx.1⟩
  show wpAny _ A.in1 (Builtin.List.listExtendWith (.ref s.heap.objs.size) (.ref a) (.ref s.heap.objs.size)) _ _ { s with heap:=H }
  unfold Builtin.List.listExtendWith
  refine wpAny_bind (wpAny_typeOf hT ?_)
  have h1:Builtin.List.listSameRef (.ref s.heap.objs.size) (.ref a)=false:=by simp [Builtin.List.listSameRef,Nat.ne_of_gt hlt]
  have h2:(Value.type "set" == Value.type "list")=false:=by decide
  have h3:(Value.type "set" == Value.type "tuple")=false:=by decide
  simp only [h1,h2,h3,Bool.or_false,Bool.false_eq_true,if_false]
  refine wpAny_bind (it_led ha1 hp ?_)
  generalize hH2:Heap.push H { cls:=.type "set_iterator",data:=.fields #[.int 0 0,.int 0 0,.ref a,.int es.size 0,.int ep 0] }=H2
  have keep2:∀ b o,H.get? b=some o->H2.get? b=some o:=fun b o e=>hH2 ▸ Heap.get?_push_of_some _ e
  have hT2:Shared.TypeIs { s with heap:=H2 } (.ref a) "set" := let ⟨o,ho,hc⟩:=hT;⟨o,keep2 a o ho,hc⟩
  have hI:IsSI H2 H.objs.size (.int (so 0) 0) 0 a es.size ep:=⟨_,hH2 ▸ Heap.get?_push_size _ rfl,rfl,by rw [W.s0];rfl⟩
  refine wpAny_bind (wpAny_holding ?_)
  show wpAny _ A.in1 _ _ _ { s with heap:=H2 }
  unfold Builtin.List.listLengthHint
  refine wpAny_bind (wpAny_specialOf hT2 QlT ?_)
  wp_delta
  refine wpAny_bind (wpAny_isInstance (b:=true) hT2 (by rw [isSubtype_type];kernel_rfl) ?_)
  show wpAny _ A.in1 (typeOf (Value.ref a) >>= _) _ _ _
  refine wpAny_bind (wpAny_typeOf hT2 (wpAny_pure ?_))
  show wpAny _ A.in1 (rule "list.extend.makes-room" >>= fun _=>Builtin.List.listTouch (.ref s.heap.objs.size) >>= fun _=>again (.builtin "list.extend.loop" ⟨[.ref s.heap.objs.size,.ref H.objs.size,.ref s.heap.objs.size],[]⟩)) _ _ _
  refine wpAny_bind (wpAny_rule (wpAny_bind ?_))
  show wpAny _ A.in1 (updateSeq s.heap.objs.size (·.push .none) >>= fun _=>updateSeq s.heap.objs.size (·.pop)) _ _ _
  have hS1:=keep2 _ _ hS
  refine wpAny_bind (wpAny_updateSeq hS1 rfl ?_)
  have hS2:=Heap.get?_update_self (Obj.mapSeq (·.push Value.none)) hS1 rfl
  refine wpAny_updateSeq hS2 rfl ?_
  have hS3:=Heap.get?_update_self (Obj.mapSeq (·.pop)) hS2 rfl
  generalize hH3:(H2.update s.heap.objs.size (Obj.mapSeq (·.push Value.none))).update s.heap.objs.size (Obj.mapSeq (·.pop))=H3 at hS3 ⊢
  have oth:∀ b o,b≠s.heap.objs.size->H2.get? b=some o->H3.get? b=some o:=fun b o hb e=>hH3 ▸ (Heap.get?_update_other _ _ (Ne.symm hb)).trans ((Heap.get?_update_other _ _ (Ne.symm hb)).trans e)
  have hIS:H.objs.size≠s.heap.objs.size:=by omega
  have hne:a≠H.objs.size:=by rw [hHs];exact Nat.ne_of_lt (Nat.lt_succ_of_lt hlt)
  have hSf:s.heap.objs.size∉[H.objs.size,a]:=by simp only [List.mem_cons,List.not_mem_nil,or_false,not_or];exact ⟨by omega,Nat.ne_of_gt hlt⟩
  have WW:=(Way.walks (A:=A.in1) hh W H.objs.size hne fun s Q E i st q=>QkQ st q).toS
  refine wpAny_pure ⟨plainId_quiet F.plain_extend_loop _,codeAny_extend_loopS WW hn _ hSf _ es.size 0 { s with heap:=H3 } _ _ rfl (Nat.zero_le _) ⟨hI.at' fun o e=>oth _ o hIS e,ha1.at' fun o e=>oth a o (Nat.ne_of_lt hlt) (keep2 a o e)⟩ hS3 (ItemsOf.nil _) fun s' acc' c' hm hS' hacc=>?_⟩
  show wpAny _ A (load s.heap.objs.size >>= _) _ _ s'
  refine wpAny_bind (wpAny_load hS' (wpAny_pure ?_))
  have hl:vs.size=es.size:=by rw [<- Array.length_toList,W.pm.length_eq,Array.length_toList]
  have he:acc'.toList=vs.toList.map (·.2):=by
    apply List.ext_getElem?
    intro j
    rw [List.getElem?_map,Array.getElem?_toList,Array.getElem?_toList]
    by_cases z:j<acc'.size
    · have:=hacc.2 j acc'[j] (by simp [z])
      rw [this];simp [z]
    · rw [Array.getElem?_eq_none (by omega),Array.getElem?_eq_none (by have:=hacc.1;omega)];rfl
  show Q acc'.toList s'
  rw [he]
  have es':s'={ s with heap:=s'.heap,toks:=s'.toks }:=by
    obtain ⟨hp',g',d',tk',os'⟩:=s'
    have e1:=hm.gens;have e2:=hm.drawn;have e3:=hm.os
    simp only at e1 e2 e3
    rw [e1,e2,e3]
  rw [es']
  refine hQ _ _ fun b o e=>?_
  have hb:=Heap.lt_size e
  refine hm.heap b o ?_ (oth b o (Nat.ne_of_lt hb) (keep2 b o (keep b o e)))
  simp only [List.mem_cons,List.not_mem_nil,or_false,not_or];exact ⟨Nat.ne_of_lt hb,by rw [hHs];exact Nat.ne_of_lt (Nat.lt_succ_of_lt hb)⟩
end
end Zt
namespace L2
open PySem PySem.Spec PyProof.Rows
def blk (X:Cx) (M:List Str) (scope:Scope) (cl:List (Str×Addr)) (ex:List Addr) (s3:Shared) (H3:Hp) (C:Addr):Cx where
  prog:=X.prog
  w:=X.w
  K:=X.K
  mg:=X.mg
  base:=X.base
  A:=X.A
  N:=M
  s₀:=s3
  H₀:=H3
  env:=compEnvC scope cl C X.env
  outer:=X.stack
  stack:=X.stack
  ex:=ex
  fn:=fun _=>false
  calm:=X.calm
  pn:=[]
  xe:=fun _ _=>False
def clOf (env:Env):List (Str×NameKind)->List (Str×Addr)->List (Str×Addr)
  | [],acc=>acc
  | (n,k)::r,acc=>clOf env r (if k=.free then (n,(env.cells.lookup n).getD 0)::acc else acc)
theorem QfG {env:Env}:∀ (l:List (Str×NameKind)) (acc:List (Str×Addr)),(∀ x∈l,x.2=.free->∃ c,env.cells.lookup x.1=some c) ->
    (forIn (m:=Sem) l acc fun x cs=>(if (x.2 == NameKind.free)=true then do let a <- cellOf env x.1;pure (ForInStep.yield ((x.1,a)::cs)) else pure (ForInStep.yield cs)))=pure (clOf env l acc)
  | [],acc,_=>rfl
  | (n,k)::r,acc,h=>by
    rw [List.forIn_cons]
    by_cases hk:k=.free
    · subst hk
      obtain ⟨c,hc⟩:=h (n,.free) List.mem_cons_self rfl
      have e1:cellOf env n=pure c:=by unfold cellOf;rw [hc]
      have e2:clOf env ((n,.free)::r) acc=clOf env r ((n,c)::acc):=by
        show clOf env r (if NameKind.free=.free then (n,(env.cells.lookup n).getD 0)::acc else acc)=_
        rw [if_pos rfl,hc];rfl
      rw [e2]
      show ((if (NameKind.free == NameKind.free)=true then do let a <- cellOf env n;pure (ForInStep.yield ((n,a)::acc)) else pure (ForInStep.yield acc)) >>= _)=_
      rw [if_pos (show (NameKind.free == NameKind.free)=true by decide),e1]
      exact QfG r _ fun x hx=>h x (List.mem_cons_of_mem _ hx)
    · have hb:(k == NameKind.free)=false:=by simpa using hk
      have e2:clOf env ((n,k)::r) acc=clOf env r acc:=by
        show clOf env r (if k=.free then (n,(env.cells.lookup n).getD 0)::acc else acc)=_
        rw [if_neg hk]
      rw [e2]
      show ((if (k == NameKind.free)=true then _ else pure (ForInStep.yield acc)) >>= _)=_
      rw [hb,if_neg Bool.false_ne_true]
      exact QfG r _ fun x hx=>h x (List.mem_cons_of_mem _ hx)
theorem Qiv {scope:Scope} {env:Env} (h:∀ x∈scope.names,x.2=.free->∃ c,env.cells.lookup x.1=some c):closureFor scope env=pure (clOf env scope.names []):=by
  have e:=QfG (env:=env) scope.names [] h
  unfold closureFor
  show (forIn scope.names [] _ >>= _)=_
  have e':(forIn (m:=Sem) scope.names ([]:List (Str×Addr)) fun x cs=>match x with | (name,kind)=>(if (kind == NameKind.free)=true then do let a <- cellOf env name;pure (ForInStep.yield ((name,a)::cs)) else pure (ForInStep.yield cs)))=pure (clOf env scope.names []):=e
  first
    | (rw [e'];rfl)
    | (refine Eq.trans (congrArg (fun t=>t >>= _) e') ?_;rfl)
theorem QfH {env:Env}:∀ (l:List (Str×NameKind)) (acc:List (Str×Addr)),(∀ x∈l,x.2=.free->∃ c,env.cells.lookup x.1=some c)->(∀ x c,acc.lookup x=some c->env.cells.lookup x=some c) ->
    (∀ x c,(clOf env l acc).lookup x=some c->env.cells.lookup x=some c)/\(∀ x c,acc.lookup x=some c->(clOf env l acc).lookup x=some c)/\∀ x,(x,NameKind.free)∈l->∃ c,(clOf env l acc).lookup x=some c
  | [],acc,_,ha=>⟨ha,fun _ _ h=>h,fun _ h=>nomatch h⟩
  | (n,k)::r,acc,h,ha=>by
    have hr:∀ x∈r,x.2=.free->∃ c,env.cells.lookup x.1=some c:=fun x hx=>h x (List.mem_cons_of_mem _ hx)
    by_cases hk:k=.free
    · subst hk
      obtain ⟨c,hc⟩:=h (n,.free) List.mem_cons_self rfl
      have e2:clOf env ((n,.free)::r) acc=clOf env r ((n,c)::acc):=by
        show clOf env r (if NameKind.free=.free then (n,(env.cells.lookup n).getD 0)::acc else acc)=_
        rw [if_pos rfl,hc];rfl
      rw [e2]
      have ha':∀ x c',((n,c)::acc).lookup x=some c'->env.cells.lookup x=some c':=fun x c' q=>by
        rw [List.lookup_cons] at q
        cases hx:x == n with
        | true=>
          rw [hx] at q
          have z:c=c':=Option.some.inj q
          have y:x=n:=by simpa using hx
          rw [y,<- z];exact hc
        | false=>rw [hx] at q;exact ha x c' q
      obtain ⟨i1,i2,i3⟩:=QfH r ((n,c)::acc) hr ha'
      refine ⟨i1,fun x c' q=>?_,fun x hx=>?_⟩
      · refine i2 x c' ?_
        rw [List.lookup_cons]
        cases hx:x == n with
        | true=>
          have y:x=n:=by simpa using hx
          have:=ha x c' q
          rw [y,hc] at this
          exact this
        | false=>exact q
      · rcases List.mem_cons.mp hx with z | z
        · cases z
          exact ⟨c,i2 n c (by rw [List.lookup_cons,beq_self_eq_true])⟩
        · exact i3 x z
    · have e2:clOf env ((n,k)::r) acc=clOf env r acc:=by
        show clOf env r (if k=.free then (n,(env.cells.lookup n).getD 0)::acc else acc)=_
        rw [if_neg hk]
      rw [e2]
      obtain ⟨i1,i2,i3⟩:=QfH r acc hr ha
      refine ⟨i1,i2,fun x hx=>?_⟩
      rcases List.mem_cons.mp hx with z | z
      · cases z;exact absurd rfl hk
      · exact i3 x z
theorem Qca {l:List (Str×NameKind)} {x:Str} {k:NameKind} (h:l.lookup x=some k):(x,k)∈l:=by
  induction l with
  | nil=>cases h
  | cons p r ih=>
    obtain ⟨n,q⟩:=p
    rw [List.lookup_cons] at h
    cases hx:x == n with
    | true=>
      rw [hx] at h
      have y:x=n:=by simpa using hx
      have z:q=k:=Option.some.inj h
      subst y z;exact List.mem_cons_self
    | false=>rw [hx] at h;exact List.mem_cons_of_mem _ (ih h)
theorem QbC {env:Env}:∀ {names:List (Str×NameKind)} {x:Str} {k:NameKind},(names.map fun (n,k)=>if (k == NameKind.free&&env.scope.kind == .function&&env.kindOf n == some .cell) then (n,NameKind.cell) else (n,k)).lookup x=some k ->
    names.lookup x=some k∨(k=.cell/\names.lookup x=some .free)
  | [],x,k,h=>by cases h
  | (n,q)::r,x,k,h=>by
    have ih:=@QbC env r x k
    rw [List.map_cons] at h
    have h':List.lookup x ((if (q == NameKind.free&&env.scope.kind == .function&&env.kindOf n == some .cell)=true then (n,NameKind.cell) else (n,q))::_)=some k:=h
    cases hx:x == n with
    | true=>
      by_cases hc:(q == NameKind.free&&env.scope.kind == .function&&env.kindOf n == some .cell)=true
      · rw [if_pos hc,List.lookup_cons,hx] at h'
        have z:NameKind.cell=k:=Option.some.inj h'
        have y:q=.free:=by simp at hc;exact hc.1.1
        refine .inr ⟨z.symm,?_⟩
        rw [List.lookup_cons,hx,y]
      · rw [if_neg hc,List.lookup_cons,hx] at h'
        refine .inl ?_
        rw [List.lookup_cons,hx];exact h'
    | false=>
      have h2:List.lookup x (r.map fun (n,k)=>if (k == NameKind.free&&env.scope.kind == .function&&env.kindOf n == some .cell) then (n,NameKind.cell) else (n,k))=some k:=by
        by_cases hc:(q == NameKind.free&&env.scope.kind == .function&&env.kindOf n == some .cell)=true
        · rw [if_pos hc,List.lookup_cons,hx] at h';exact h'
        · rw [if_neg hc,List.lookup_cons,hx] at h';exact h'
      rw [List.lookup_cons,hx]
      exact ih h2
theorem QcP {env:Env}:∀ {names:List (Str×NameKind)} {x:Str},names.lookup x=some .free->(names.map fun (n,k)=>if (k == NameKind.free&&env.scope.kind == .function&&env.kindOf n == some .cell) then (n,NameKind.cell) else (n,k)).lookup x=some .cell ∨
      (names.map fun (n,k)=>if (k == NameKind.free&&env.scope.kind == .function&&env.kindOf n == some .cell) then (n,NameKind.cell) else (n,k)).lookup x=some .free
  | [],x,h=>by cases h
  | (n,q)::r,x,h=>by
    have ih:=@QcP env r x
    rw [List.map_cons]
    show List.lookup x ((if (q == NameKind.free&&env.scope.kind == .function&&env.kindOf n == some .cell)=true then (n,NameKind.cell) else (n,q))::_)=some .cell∨List.lookup x ((if (q == NameKind.free&&env.scope.kind == .function&&env.kindOf n == some .cell)=true then (n,NameKind.cell) else (n,q))::_)=some .free
    cases hx:x == n with
    | true=>
      rw [List.lookup_cons,hx] at h
      have z:q=NameKind.free:=Option.some.inj h
      subst z
      by_cases hc:(NameKind.free == NameKind.free&&env.scope.kind == .function&&env.kindOf n == some .cell)=true
      · rw [if_pos hc,List.lookup_cons,hx];exact .inl rfl
      · rw [if_neg hc,List.lookup_cons,hx];exact .inr rfl
    | false=>
      rw [List.lookup_cons,hx] at h
      by_cases hc:(q == NameKind.free&&env.scope.kind == .function&&env.kindOf n == some .cell)=true
      · rw [if_pos hc,List.lookup_cons,hx];exact ih h
      · rw [if_neg hc,List.lookup_cons,hx];exact ih h
def QfI (N:List Str) (sc:Scope) (M:List Str) (scope:Scope) (cap:List (Option Nat)):Bool:=
  cap.length == M.length&&(M.zip cap).all (fun (x,o)=>match o with
    | none=>scope.names.lookup x == some .local
    | some j=>N[j]? == some x&&(scope.names.lookup x == some .free&&(sc.names.lookup x == some .cell||sc.names.lookup x == some .free))) &&
  (scope.kind == .function&&scope.names.all fun y=>y.2 != .cell&&((y.2 != .free||(sc.names.lookup y.1 == some .cell||sc.names.lookup y.1 == some .free))&&(y.2 != .local||scope.names.lookup y.1 == some .local)))
def capS (cap:List (Option Nat)) (σ:St):St:=cap.map fun o=>match o with
  | none=>none
  | some j=>(σ[j]?).getD none
structure CapOk (N:List Str) (sc:Scope) (M:List Str) (scope:Scope) (cap:List (Option Nat)):Prop where
  len:cap.length=M.length
  own:∀ (i j:Nat) (x:Str),M[i]? = some x->cap[i]? = some (some j)->N[j]? = some x/\scope.names.lookup x=some .free/\(sc.names.lookup x=some .cell∨sc.names.lookup x=some .free)
  kind:scope.kind=.function
  cell:∀ y∈scope.names,y.2≠.cell
  free:∀ y∈scope.names,y.2=.free->sc.names.lookup y.1=some .cell∨sc.names.lookup y.1=some .free
  loc:∀ y∈scope.names,y.2=.local->scope.names.lookup y.1=some .local
theorem CapOk.of {N:List Str} {sc:Scope} {M:List Str} {scope:Scope} {cap:List (Option Nat)} (h:QfI N sc M scope cap=true):CapOk N sc M scope cap:=by
  unfold QfI at h
  simp only [Bool.and_eq_true,List.all_eq_true,beq_iff_eq] at h
  obtain ⟨⟨h1,h2⟩,h3,h4⟩:=h
  refine ⟨h1,fun i j x e1 e2=>?_,h3,fun y hy z=>?_,fun y hy z=>?_,fun y hy z=>?_⟩
  · have hm:(x,some j)∈M.zip cap:=by
      have:(M.zip cap)[i]? = some (x,some j):=by rw [List.getElem?_zip_eq_some];exact ⟨e1,e2⟩
      exact List.mem_of_getElem? this
    have:=h2 _ hm
    simp only [Bool.and_eq_true,beq_iff_eq,Bool.or_eq_true] at this
    exact this
  · have:=(h4 y hy).1
    simp [z] at this
  · have:=(h4 y hy).2.1
    simpa [z] using this
  · have:=(h4 y hy).2.2
    simpa [z] using this
section
variable {X:Cx} {pins:List (Addr×Obj)} {σ:St} {H H3:Hp} {s3:Shared} {M:List Str} {scope:Scope} {cap:List (Option Nat)} {fp:List Addr} {h4:Heap} {t4:Nat}
theorem Cx.Ok.cells (ok:X.Ok) {N:List Str} (c:CapOk N X.env.scope M scope cap):∀ y∈scope.names,y.2=.free->∃ d,X.env.cells.lookup y.1=some d:=fun y hy z=>ok.has y.1 (c.free y hy z)
theorem Qe4 (I:Inv X pins σ H3 s3) (c:CapOk X.N X.env.scope M scope cap) (hf:∀ b∈fp,FpOk X pins H3 b) (hb:∀ b∈fp,b<s3.heap.objs.size)
    (hn:h4.Ns s3.heap.objs.size fun _=>none) (hk:∀ b o,s3.heap.get? b=some o->h4.get? b=some o) :
    Inv (blk X M scope (clOf X.env scope.names []) fp s3 H3 s3.heap.objs.size) [] (capS cap σ) H3 { s3 with heap:=h4,toks:=t4 }:=by
  obtain ⟨c1,c2,c3⟩:=QfH scope.names [] (I.ok.cells c) (fun x d q=>by cases q)
  refine ⟨⟨I.ok.mod,c.kind,I.ok.glob,I.ok.blt,Nat.le_refl _,fun x y d e1 e2=>I.ok.inj x y d (c1 x d e1) (c1 y d e2),fun x hx=>?_,(fun x d z=>nomatch z),I.ok.hd,I.ok.frames,.inl rfl,fun b hb'=>?_,I.bs,
    Nat.le_trans I.ok.bsz I.sz,fun b o e z=>?_,fun b hb' z=>?_,I.stack,I.stkFree⟩,rfl,I.bare,Un.kept hk,⟨_,hn,fun i x v e1 e2 e3=>?_⟩,fun x d e=>?_,I.hok.fresh (Nat.le_refl _),fun x d e=>I.freeC x d (c1 x d e),fun p hp=>(nomatch hp),I.hok.kept hk,?_⟩
  · have hx':(relabel scope X.env).names.lookup x=some .cell∨(relabel scope X.env).names.lookup x=some .free:=hx
    rcases hx' with q | q
    · rcases QbC q with z | ⟨_,z⟩
      · exact absurd rfl (c.cell _ (Qca z))
      · exact c3 x (Qca z)
    · rcases QbC q with z | ⟨z,_⟩
      · exact c3 x (Qca z)
      · cases z
  · obtain ⟨f0,f1,f2,f3,f4,f5⟩:=hf b hb'
    exact ⟨Nat.ne_of_lt (hb b hb'),fun x d e=>f4 x d (c1 x d e)⟩
  · obtain ⟨f0,f1,f2,f3,f4,f5⟩:=hf b z
    rcases f3 with q | q
    · exact I.ok.noex b o e q
    · exact absurd (Nat.lt_of_lt_of_le (Heap.lt_size e) (Nat.le_trans I.ok.bsz q)) (Nat.lt_irrefl _)
  · obtain ⟨f0,f1,f2,f3,f4,f5⟩:=hf b hb'
    rcases List.mem_cons.mp (I.stkSub b z) with q | q
    · exact f1 q
    · exact f2 q
  · have e2':(cap.map fun o=>match o with | none=>none | some j=>(σ[j]?).getD none)[i]? = some (some v):=e2
    rw [List.getElem?_map] at e2'
    cases q:cap[i]? with
    | none=>rw [q] at e2';cases e2'
    | some o=>
      rw [q] at e2'
      cases o with
      | none=>cases e2'
      | some j=>
        have e4:(σ[j]?).getD none=some v:=Option.some.inj e2'
        have e5:σ[j]? = some (some v):=by
          cases r:σ[j]? with
          | none=>rw [r] at e4;cases e4
          | some o=>rw [r] at e4;exact congrArg some e4
        obtain ⟨n1,n2,n3⟩:=c.own i j x e1 q
        obtain ⟨m,hm,hl⟩:=I.loc
        obtain ⟨u,ru,lk⟩:=hl j x v n1 e5 (n3.elim (fun z=>.inr (.inl z)) fun z=>.inr (.inr z))
        refine ⟨u,ru,.inr ?_⟩
        rcases lk with ⟨k1,_⟩ | ⟨_,d,k2,k3⟩
        · have k1':X.env.scope.names.lookup x=some .local:=k1
          rcases n3 with z | z<;>(rw [z] at k1';cases k1')
        · obtain ⟨d',hd'⟩:=c3 x (Qca n2)
          have ed:d'=d:=by
            have:=c1 x d' hd'
            rw [k2] at this
            exact (Option.some.inj this).symm
          subst ed
          exact ⟨(QcP n2:(relabel scope X.env).names.lookup x=some .cell∨(relabel scope X.env).names.lookup x=some .free),d',hd',k3.keeps hk⟩
  · obtain ⟨v,q⟩:=I.cell x d (c1 x d e)
    exact ⟨v,q.keeps hk⟩
  · show (cap.map _).length=M.length
    rw [List.length_map];exact c.len
theorem QiH {σ':St} {s':Shared} {h':Heap} (I:Inv X pins σ H3 s3) (hf:∀ b∈fp,FpOk X pins H3 b) (J:Inv (blk X M scope (clOf X.env scope.names []) fp s3 H3 s3.heap.objs.size) [] σ' H s') (hs:Heap.SameBut s3.heap.objs.size s'.heap h') :
    Inv X pins σ H { s' with heap:=h' }:=by
  have u:Un (frs X.stack) fp H3 H s3.heap s'.heap:=J.base
  have ne:∀ b o,s3.heap.get? b=some o->b≠s3.heap.objs.size:=fun b o e=>Nat.ne_of_lt (Heap.lt_size e)
  have hC:H s3.heap.objs.size=none:=J.free
  refine I.call' (ch:=fp) (s':={ s' with heap:=h' }) J.os ⟨fun b o e n hb hx=>(hs.2 b (ne b o e)).trans (u.keep b o e n hb hx),fun b o e n hb hx=>?_,u.free,fun b o e hx=>?_,u.tups,u.frzs,u.tbls⟩ (fun b o e=>?_) J.bare fun b hb=>?_
  · obtain ⟨sl,q⟩:=u.slot b o e n hb hx
    exact ⟨sl,(hs.2 b (ne b o e)).trans q⟩
  · obtain ⟨o',q⟩:=u.there b o e hx
    exact ⟨o',(hs.2 b (ne b o e)).trans q⟩
  · refine (J.hok b o e).stay (fun c v hc q=>(hs.2 c ?_).trans q) (fun _ q=>q) fun _ _ q=>q
    rintro rfl
    rcases hc with z | z
    · rw [<- z,hC] at e;cases e
    · rw [hC] at z;cases z
  · obtain ⟨f0,f1,f2,f3,f4,f5⟩:=hf b hb
    exact ⟨f3,f1,f4,f5⟩
end
def Wk:St->St->Prop
  | [],[]=>True
  | none::a,_::b=>Wk a b
  | some v::a,some u::b=>v=u/\Wk a b
  | _,_=>False
theorem Wk.len:∀ {a b:St},Wk a b->a.length=b.length
  | [],[],_=>rfl
  | none::a,_::b,h=>congrArg (·+1) (Wk.len (a:=a) (b:=b) h)
  | some v::a,some u::b,h=>congrArg (·+1) (Wk.len (a:=a) (b:=b) h.2)
  | [],_::_,h=>h.elim
  | some _::_,[],h=>h.elim
  | none::_,[],h=>h.elim
  | some _::_,none::_,h=>h.elim
theorem Wk.get:∀ {a b:St},Wk a b->∀ (i:Nat) v,a[i]? = some (some v)->b[i]? = some (some v)
  | [],[],_,i,v,h=>by simp at h
  | none::a,x::b,h,0,v,e=>by simp at e
  | none::a,x::b,h,i+1,v,e=>by
    simp only [List.getElem?_cons_succ] at e ⊢
    exact Wk.get (a:=a) (b:=b) h i v e
  | some q::a,some u::b,h,0,v,e=>by
    simp only [List.getElem?_cons_zero] at e ⊢
    rw [<- h.1];exact e
  | some q::a,some u::b,h,i+1,v,e=>by
    simp only [List.getElem?_cons_succ] at e ⊢
    exact Wk.get (a:=a) (b:=b) h.2 i v e
  | [],_::_,h,_,_,_=>h.elim
  | some _::_,[],h,_,_,_=>h.elim
  | none::_,[],h,_,_,_=>h.elim
  | some _::_,none::_,h,_,_,_=>h.elim
theorem Inv.wk {X:Cx} {pins:List (Addr×Obj)} {σ σ':St} {H:Hp} {s:Shared} (I:Inv X pins σ H s) (h:Wk σ' σ):Inv X pins σ' H s:=I.weak h.len h.get
def QkN (J:It) (body:V->Hp->(Hp->Prop)->Prop) (Qn:Hp->Prop) (H:Hp):Prop:=
  ∃ W:Nat->Nat->Hp->Prop,(∃ m,W 0 m H)/\∀ i m H2,W i m H2->(J.stop i H2/\Qn H2)∨(J.go i H2/\∀ x H3,J.yld i H2 x H3->body x H3 fun H6=>∃ m',m'<m/\W (i+1) m' H6)
abbrev Act:=(Shared->Prop)->Shared->Prop
def Qgs (Y:Cx) (σ:St) (act:Act) (b:Hp->(Hp->Prop)->Prop):Prop:=
  ∀ (pins:List (Addr×Obj)) (s:Shared) (H:Hp) (k:Hp->Prop) (Q:Shared->Prop),Inv Y pins σ H s->b H k->(∀ s' H',Inv Y pins σ H' s'->k H'->Q s')->act Q s
theorem QeZ {Y:Cx} {σ:St} {tg:Expr} {elt:Expr} {gens:List Comprehension} {scope:Scope} {cpos:Pos} {d:Nat} {it D:Addr} {fp:List Addr} {tn:Nat->Heap->Prop} {J:It} {pins:List (Addr×Obj)} {s:Shared} {H:Hp} {body:V->Hp->(Hp->Prop)->Prop} {Qn:Hp->Prop} {R:Result->Shared->Prop} {act:Value->Act}
    (hc:Y.calm=true) (T:Turn Y.prog Y.w Y.K tg J fp it tn) (st:tn 0 s.heap) (hf:∀ b∈fp,FpOk Y pins H b)
    (hturn:∀ (Q:PySem.Fin->Shared->Prop) (E:Value->Shared->Prop) (s:Shared),wpAny (model Y.prog Y.w) Y.A (pyNext (.ref it)) (fun r s1=>match r with
      | none=>Q (.done .next) s1
      | some v=>wpAny (model Y.prog Y.w) Y.A (letOwnedTupleGo tg (.ref it) v) (fun _ s2=>act v (fun s3=>Q (.again (.compLoop (.ListComp elt gens scope cpos) d (.ref it) (.ref D) Y.env)) s3) s2) E s1) E s ->
      wpAny (model Y.prog Y.w) Y.A (compTurn (.ListComp elt gens scope cpos) d (.ref it) (.ref D) Y.env) Q E s)
    (hact:∀ (x:V) (u:Value),RelV x u->Qgs Y σ (act u) (body x))
    (I:Inv Y pins σ H s) (h:QkN J body Qn H) (hR:∀ s' H',Inv Y pins σ H' s'->Qn H'->R (.ok .next) s') :
    codeAny (model Y.prog Y.w) Y.A (.compLoop (.ListComp elt gens scope cpos) d (.ref it) (.ref D) Y.env) R s:=by
  obtain ⟨W,⟨m0,w0⟩,turn⟩:=h
  have stat:∀ {H':Hp},(∀ b∈fp,H' b=none)->∀ b∈fp,FpOk Y pins H' b:=fun hn b hb=>⟨hn b hb,(hf b hb).2⟩
  refine codeAny_loop rfl (fun n s'=>∃ i H',Inv Y pins σ H' s'/\tn i s'.heap/\(∀ b∈fp,H' b=none)/\W i n H') (fun n s3 hI=>?_) m0 ⟨0,H,I,st,fun b hb=>(hf b hb).1,w0⟩
  show wpAny _ Y.A ((compTurn (.ListComp elt gens scope cpos) d (.ref it) (.ref D) Y.env).onRaise (fun x=>do noteFrame x Y.env;theTreesLotGoes x)) _ _ s3
  refine wpAny_noted (hturn _ _ _ ?_)
  obtain ⟨i,H3,I3,st3,fr3,w3⟩:=hI
  rcases turn i n H3 w3 with ⟨stop,qn⟩ | ⟨go,step⟩
  · refine thn (T.done Y rfl rfl rfl hc i pins s3 σ H3 _ I3 (stat fr3) st3 stop) fun r s4 ⟨hr,I4⟩=>?_
    subst hr
    exact hR s4 H3 I4 qn
  · refine thn (T.item Y rfl rfl rfl hc i pins s3 σ H3 _ I3 (stat fr3) st3 go) fun r s4 ⟨u,hr,h4⟩=>?_
    subst hr
    refine thn h4 fun _ s5 ⟨x,H5,I5,r5,y5,st5,fr5⟩=>?_
    have I5':=I5.pinned (stat fr5) (T.obj _ _ st5)
    refine hact x u r5 _ s5 H5 _ _ I5' (step x H5 y5) fun s7 H7 I7 ⟨m',hm,w7⟩=>?_
    refine ⟨rfl,m',hm,i+1,H7,I7.unpinned,T.keep _ _ _ st5 fun b hb o e=>(I7.pin (b,o) (List.mem_append_right _ (List.mem_append_right _ (Qb9 hb e)))).1,fun b hb=>?_,w7⟩
    obtain ⟨o,e,dd⟩:=T.obj _ _ st5 b hb
    exact (I7.pin (b,o) (List.mem_append_right _ (List.mem_append_right _ (Qb9 hb e)))).2.1
abbrev testsOf (ifs:List Expr) (env:Env):Sem Bool:=forIn ifs true fun c r=>if r=true then do let ok <- isTrue c env (eval c env);pure (ForInStep.yield ok) else pure (ForInStep.yield r)
def PTs (Y:Cx) (ifs:List Expr) (t:TT):Prop:=
  ∀ (pins:List (Addr×Obj)) (s:Shared) (σ:St) (H:Hp) (Q:Bool->Hp->Prop),Inv Y pins σ H s->t σ H Q->wpAny (model Y.prog Y.w) Y.A (testsOf ifs Y.env) (TP Y pins σ Q) Y.xe s
def QkL:TT:=fun _ H Q=>Q true H
theorem Qk4 {Y:Cx}:PTs Y [] QkL:=fun pins s σ H Q I h=>wpAny_tests_nil ⟨H,I,h⟩
theorem Qk3 {Y:Cx} {c:Expr} {t:TT} (h:PT Y c t):PTs Y [c] t:=fun pins s σ H Q I q=>wpAny_tests_one (h pins s σ H Q I q)
def actOf (Y:Cx) (tg:Expr) (ifs:List Expr) (inner:Act):Value->Act:=fun u Q s=>
  wpAny (model Y.prog Y.w) Y.A (assign tg Y.env u) (fun _ s4=>wpAny (model Y.prog Y.w) Y.A (testsOf ifs Y.env) (fun ok s5=>if ok=true then inner Q s5 else Q s5) (fun _ _=>False) s4) (fun _ _=>False) s
def bOf (σ:St) (g:TG) (tc:TT) (inner:St->Hp->(Hp->Prop)->Prop):V->Hp->(Hp->Prop)->Prop:=fun x H k=>g x σ H fun σ4 H4=>Wk σ σ4/\tc σ4 H4 fun b H5=>
  if b=true then inner σ4 H5 k else k H5
theorem QiG {Y:Cx} {σ:St} {tg:Expr} {ifs:List Expr} {g:TG} {tc:TT} {inner:Act} {ri:St->Hp->(Hp->Prop)->Prop} (hx:Y.xe=fun _ _=>False) (hg:PG Y tg g) (ht:PTs Y ifs tc) (he:∀ σ4,Qgs Y σ4 inner (ri σ4)) (x:V) (u:Value) (r:RelV x u) :
    Qgs Y σ (actOf Y tg ifs inner u) (bOf σ g tc ri x):=by
  intro pins s H k Q I h hQ
  have hx':∀ (v:Value) (s':Shared),Y.xe v s'->False:=fun v s' z=>by rw [hx] at z;exact z
  refine wpAny_mono (hg pins s σ H x u _ I r h) (fun _ s4 ⟨σ4,H4,I4,wk,q4⟩=>?_) hx'
  refine wpAny_mono (ht pins s4 σ4 H4 _ I4 q4) (fun b s5 ⟨H5,I5,q5⟩=>?_) hx'
  cases b with
  | false=>
    rw [if_neg Bool.false_ne_true] at q5
    rw [if_neg Bool.false_ne_true]
    exact hQ s5 H5 (I5.wk wk) q5
  | true=>
    rw [if_pos rfl] at q5
    rw [if_pos rfl]
    exact he σ4 pins s5 H5 k Q I5 q5 fun s' H' I' k'=>hQ s' H' (I'.wk wk) k'
def QkC (Y:Cx) (elt:Expr) (D:Addr):Act:=fun Q s=>wpAny (model Y.prog Y.w) Y.A (eval elt Y.env) (fun v s6=>wpAny (model Y.prog Y.w) Y.A (call (.builtin "list.append") [.ref D,v]) (fun _ s7=>Q s7) (fun _ _=>False) s6) (fun _ _=>False) s
def bElt (p:Addr) (te:TE):St->Hp->(Hp->Prop)->Prop:=fun σ H k=>te σ H fun v H6=>∃ ys,H6 p=some (.lst ys)/\ys.length<sizeLine/\k (upd H6 p (.lst (ys++[v])))
theorem Qgp {Y:Cx} {σ:St} {elt:Expr} {te:TE} {D:Addr} (hx:Y.xe=fun _ _=>False) (he:PE Y elt te):Qgs Y σ (QkC Y elt D) (bElt D te σ):=by
  intro pins s H k Q I h hQ
  have hx':∀ (v:Value) (s':Shared),Y.xe v s'->False:=fun v s' z=>by rw [hx] at z;exact z
  refine wpAny_mono (he pins s σ H _ I h) (fun v s6 ⟨y,H6,I6,r6,ys,e,hz,q⟩=>?_) hx'
  exact wpAny_mono (QeR (X:=Y) pins s6 σ H6 (.ref D) [y] (.ref D) [v] (fun _ H'=>k H') I6 rfl (.cons r6 .nil) ⟨D,ys,y,rfl,rfl,e,hz,q⟩) (fun _ s7 ⟨_,H7,I7,_,q7⟩=>hQ s7 H7 I7 q7) hx'
theorem QfP {Y:Cx} {elt tg iter:Expr} {ifs:List Expr} {scope:Scope} {cpos:Pos} {it D:Addr} (Q:PySem.Fin->Shared->Prop) (E:Value->Shared->Prop) (s:Shared)
    (h:wpAny (model Y.prog Y.w) Y.A (pyNext (.ref it)) (fun r s1=>match r with
      | none=>Q (.done .next) s1
      | some v=>wpAny (model Y.prog Y.w) Y.A (letOwnedTupleGo tg (.ref it) v) (fun _ s2=>actOf Y tg ifs (QkC Y elt D) v (fun s3=>Q (.again (.compLoop (.ListComp elt [⟨tg,iter,ifs,0⟩] scope cpos) 0 (.ref it) (.ref D) Y.env)) s3) s2) E s1) E s) :
    wpAny (model Y.prog Y.w) Y.A (compTurn (.ListComp elt [⟨tg,iter,ifs,0⟩] scope cpos) 0 (.ref it) (.ref D) Y.env) Q E s:=by
  rw [compTurn_list]
  refine wpAny_bind (wpAny_standAt (wpAny_bind (thn h fun r s1 h1=>?_)))
  cases r with
  | none=>exact wpAny_pure h1
  | some v=>
    refine wpAny_bind (thn h1 fun _ s2 h2=>?_)
    refine wpAny_bind (wpAny_mono h2 (fun _ s4 h4=>wpAny_bind (wpAny_mono h4 (fun ok s5 h5=>?_) fun _ _ f=>f.elim)) fun _ _ f=>f.elim)
    cases ok with
    | false=>exact wpAny_pure h5
    | true=>exact wpAny_bind (wpAny_bind (wpAny_mono h5 (fun x s6 h6=>wpAny_bind (wpAny_mono h6 (fun _ s7 h7=>wpAny_pure (wpAny_pure h7)) fun _ _ f=>f.elim)) fun _ _ f=>f.elim))
def tComp (cap:List (Option Nat)) (wi:TI) (g:TG) (tc:TT) (te:TE):TE:=fun σ H Q=>wi σ H fun J H1=>∀ p,H1 p=none->QkN J (bOf (capS cap σ) g tc (bElt p te)) (Q (.ref p)) (upd H1 p (.lst []))
theorem FpOk.upd {X:Cx} {pins:List (Addr×Obj)} {H:Hp} {b a:Addr} {o:HO} (h:FpOk X pins H b) (hne:b≠a):FpOk X pins (upd H a o) b:=⟨by rw [Qay hne];exact h.1,h.2⟩
theorem Qjc {X:Cx} {M:List Str} {cap:List (Option Nat)} {elt tg iter:Expr} {ifs:List Expr} {scope:Scope} {pos:Pos} {wi:TI} {g:TG} {tc:TT} {te:TE} (hc:X.calm=true) (ok:QfI X.N X.env.scope M scope cap=true)
    (hi:PI X tg iter wi) (hb:∀ cl ex s3 H3 C,PG (blk X M scope cl ex s3 H3 C) tg g/\PTs (blk X M scope cl ex s3 H3 C) ifs tc/\PE (blk X M scope cl ex s3 H3 C) elt te)
    (hs:∀ x,foldedSetIterable iter X.env x=pure x:=by intro _;rfl):PE X (.ListComp elt [⟨tg,iter,ifs,0⟩] scope pos) (tComp cap wi g tc te):=by
  intro pins s σ H Q I h
  have c:=CapOk.of ok
  rw [eval_ListComp]
  refine wpAny_comprehension_free (use:=none) rfl hs (Qiv (I.ok.cells c)) c.kind c.loc ?_
  refine thn (hi pins s σ H _ I h) fun v s1 h1=>thn h1 fun itv s2 h2=>?_
  obtain ⟨it,fp,tn,J,H2,e,I2,T,st2,f2,hW⟩:=h2
  subst e
  refine wpAny_newObj_type (wpAny_newFunctionEnv c.cell (by intro y hy;simp at hy) (fun h₁ hns₁ hsb₁=>?_) c.kind)
  have I3:Inv X pins σ (upd H2 s2.heap.objs.size (.lst [])) { s2 with heap:=s2.heap.push { cls:=.type "list",data:=.seq ([]:List Value).toArray } }:=I2.lnew (t':=s2.toks) (ys:=[]) .nil (Nat.zero_le _)
  have lt2:∀ b∈fp,b<s2.heap.objs.size:=fun b hb=>by obtain ⟨o,e,_⟩:=T.obj _ _ st2 b hb;exact Heap.lt_size e
  have f3:∀ b∈fp,FpOk X pins (upd H2 s2.heap.objs.size (.lst [])) b:=fun b hb=>(f2 b hb).upd (Nat.ne_of_lt (lt2 b hb))
  generalize hs3:({ s2 with heap:=s2.heap.push { cls:=.type "list",data:=.seq ([]:List Value).toArray } }:Shared)=s3 at I3
  have e3:s3.heap=s2.heap.push { cls:=.type "list",data:=.seq ([]:List Value).toArray }:=by rw [<- hs3]
  have z3:s3.heap.objs.size=s2.heap.objs.size+1:=by rw [e3,Heap.size_push]
  have hk:∀ b o,s3.heap.get? b=some o->h₁.get? b=some o:=fun b o e=>hsb₁.extBut b o (by
    have:=Heap.lt_size e
    rw [e3] at this
    exact Nat.ne_of_lt this) (Heap.get?_push_of_some _ (e3 ▸ e))
  have hn₁:h₁.Ns s3.heap.objs.size fun _=>none:=by rw [e3];exact hns₁
  have B:=Qe4 (t4:=s3.toks+([]:List (Str×Value)).length) (fp:=fp) I3 c f3 (fun b hb=>by rw [z3];exact Nat.lt_succ_of_lt (lt2 b hb)) hn₁ hk
  have st4:tn 0 h₁:=T.keep _ _ _ st2 fun b hb o e=>hk b o (by rw [e3];exact Heap.get?_push_of_some _ e)
  have fp4:∀ b∈fp,FpOk (blk X M scope (clOf X.env scope.names []) fp s3 (upd H2 s2.heap.objs.size (.lst [])) s3.heap.objs.size) [] (upd H2 s2.heap.objs.size (.lst [])) b:=fun b hb=>by
    refine ⟨(f3 b hb).1,(B.ok.exf b hb).1,B.ok.exfs b hb,.inl hb,(B.ok.exf b hb).2,fun p hp=>(nomatch hp)⟩
  obtain ⟨hg,ht,he⟩:=hb (clOf X.env scope.names []) fp s3 (upd H2 s2.heap.objs.size (.lst [])) s3.heap.objs.size
  have loop:codeAny (model X.prog X.w) X.A (.compLoop (.ListComp elt [⟨tg,iter,ifs,0⟩] scope pos) 0 (.ref it) (.ref s2.heap.objs.size) (compEnvC scope (clOf X.env scope.names []) s3.heap.objs.size X.env))
      (compPost (model X.prog X.w) X.A X.xe none (EP X pins σ Q) (.ref s2.heap.objs.size) s3.heap.objs.size) { s3 with heap:=h₁,toks:=s3.toks+([]:List (Str×Value)).length }:=by
    refine QeZ (Y:=blk X M scope (clOf X.env scope.names []) fp s3 (upd H2 s2.heap.objs.size (.lst [])) s3.heap.objs.size) (gens:=[⟨tg,iter,ifs,0⟩]) (d:=0) hc T st4 fp4
      (fun Q E s h=>QfP Q E s h) (fun x u r=>QiG rfl hg ht (fun σ4=>Qgp rfl he) x u r) B (hW _ (I2.hok.fresh (Nat.le_refl _))) fun s' H' I' q=>?_
    obtain ⟨m,hn,_⟩:=I'.loc
    exact ⟨m,hn,fun h' hs'=>⟨.ref s2.heap.objs.size,H',QiH I3 f3 I' hs',rfl,q⟩⟩
  exact codeAny_compStart_list loop (T.self _ 0 _ _ _ st4 loop)
section
variable {X:Cx}
theorem QfK:CallR X (.builtin "isinstance") (fun xs H Q=>∃ x t T b,xs=[x,.ty T]/\TyOf X.K H x t/\PySem.W.kitOne X.K t (.type T)=some b/\Q (.bl b) H):=by
  intro pins s σ H xs us Q I r h
  obtain ⟨x,t,T,b,rfl,ty,e,q⟩:=h
  obtain ⟨u,v,rfl,ru,rv⟩:=QgZ r
  cases (show v=Value.type T from rv)
  exact Qia I ru ty e fun tk=>⟨.bl b,H,I.tok tk,rfl,q⟩
theorem QjY {bs:List Bool}:∀ {us:List Value},Vals (bs.map V.bl) us->LSm.BoolsAre us bs:=by
  induction bs with
  | nil=>intro us r;cases r;exact .nil
  | cons b bs ih=>
    intro us r
    cases r with
    | cons r t=>
      cases (show _=Value.bool b from r)
      exact .cons b (ih t)
theorem Qbd:CallR X (.builtin "all") (fun xs H Q=>∃ (p:Addr) (bs:List Bool),xs=[.ref p]/\SqL X.K H p (bs.map V.bl)/\X.calm=true/\Q (.bl (bs.all id)) H):=by
  intro pins s σ H xs us Q I r h
  obtain ⟨p,bs,rfl,hp,hc,q⟩:=h
  obtain ⟨u,rfl,ru⟩:=Qdt r
  cases ru
  obtain ⟨its,rv,pl,hz⟩:=I.list hp
  have hl:=pl.isList
  have hb:=QjY rv
  have hlt:p<s.heap.objs.size:=by obtain ⟨_,e,_⟩:=hl;exact Heap.lt_size e
  refine call_all_walk (wpAny_pyIter_list hl ?_)
  refine ⟨s.heap.objs.size,[s.heap.objs.size,p],[s.heap.objs.size],its.toArray.size,_,_,fun i=>(bs[i]?).getD true,rfl,Walks.list (A:=X.A.in1) (I.ok.hd hc) _ p (Nat.ne_of_lt hlt) its.toArray,
    ⟨⟨_,Heap.get?_push_size _ rfl,rfl,rfl⟩,hl.push _⟩,fun i v s' Q' E' hP hQ=>?_,fun h' tk hk=>?_⟩
  · obtain ⟨b,e,rfl⟩:=hb.get i v (by simpa using hP)
    simp only [e,Option.getD_some] at hQ
    exact wpAny_truthy_bool hQ
  · have e:((List.range its.toArray.size).all fun i=>(bs[i]?).getD true)=bs.all id:=by
      rw [List.size_toArray,hb.length];exact LSm.range_all bs
    rw [e]
    exact ⟨.bl _,H,I.kept (LSm.kept_iter hk),rfl,q⟩
theorem Qjx:OpR X (compareOp .Is) (fun x y H Q=>∃ a b,x=.bl a/\y=.bl b/\Q (.bl (a == b)) H):=by
  intro pins s σ H x y v u Q I rx ry h
  obtain ⟨a,b,rfl,rfl,q⟩:=h
  cases (show v=Value.bool a from rx)
  cases (show u=Value.bool b from ry)
  refine is_bool ?_
  exact ⟨.bl _,H,I,rfl,q⟩
def rSlA:V->Option Int->Option Int->Hp->VK->Prop:=fun x lo hi H Q=>∃ a xs,x=.ref a/\H a=some (.tup xs)/\∀ p H',Same H H'->H' p=some (.tup (cutV xs lo hi))->Q (.ref p) H'
theorem Qar {H:Hp} {p:Addr} {o:HO} (h:H p=none):Same H (upd H p o):=fun b u e=>by rw [Qay (QaK e h)];exact e
theorem Qcg {prog:Program} {w:World} {A:Around} {E:Value->Shared->Prop} {s:Shared} {t sl:Addr} {items:Array Value} {vl vu:Value} {lo hi:Option Int} {Q:Value->Shared->Prop} (ht:IsTup s.heap t items) (hs:s.heap.IsSliceOf sl vl vu .none) (pl:IsPart vl lo) (pu:IsPart vu hi)
    (h1:HT.sIx items.size 0 lo=0) (h2:HT.sIx items.size items.size hi=items.size) (h:Q (.ref t) s):wpAny (model prog w) A (getItem (.ref t) (.ref sl)) Q E s:=by
  obtain ⟨os,hos,hcs,hds⟩:=id hs
  have hTs:s.TypeIs (.ref sl) "slice" := ⟨os,hos,hcs⟩
  unfold getItem
  try with_reducible refine wpAny_holding ?_
  first | refine wpAny_bind (wpAny_pure ?_) | skip
  refine wpAny_bind (wpAny_sequenceKey ht.typeIs (by decide) ?_)
  refine wpAny_bind (wpAny_callSpecial?_slot (name:=Str.ofString "__getitem__") ht.typeIs PyProof.Rows.slot_tuple_getitem
    (wpAny_call_entry PyProof.Rows.slot_tuple_getitem ht.typeIs entry_tuple_getitem ?_ (args_tuple_getitem _ _)))
  show wpAny _ _ (Builtin.Tuple.tupleItemsOf (.ref t) >>= _) _ _ s
  refine wpAny_bind (tupleItemsOf_ ht ?_)
  refine wpAny_bind (wpAny_typeOf hTs ?_)
  rw [if_pos (by decide)]
  refine wpAny_bind (HT.sliceApplied_gen hs pl pu ?_)
  show wpAny _ _ (if (((HT.sIx items.size 0 lo:Nat):Int) == 0&&(1:Int) == 1&&(HT.sIx items.size items.size hi - HT.sIx items.size 0 lo) == items.size)=true then _ else _) _ _ s
  rw [if_pos (by rw [h1,h2];simp)]
  refine wpAny_bind (m:=Builtin.Tuple.tupleIsExact _) (wpAny_bind (wpAny_typeOf ht.typeIs (wpAny_pure ?_)))
  rw [if_pos (by decide)]
  exact wpAny_bind (wpAny_rule (wpAny_pure ⟨_,rfl,wpAny_pure h⟩))
theorem sl_any:SlR X rSlA:=by
  intro pins s σ H x v vl vu lo hi sl Q I rx hs pl pu h
  obtain ⟨a,xs,rfl,hx,q⟩:=h
  by_cases hw:HT.sIx xs.length 0 lo=0/\HT.sIx xs.length xs.length hi=xs.length
  · cases rx
    obtain ⟨its,r,ht,hz⟩:=I.tuple (SqT.of hx)
    have hlen:its.toArray.size=xs.length:=by rw [List.size_toArray];exact r.length.symm
    refine ⟨"tuple",_,PyProof.Rows.slot_tuple_getitem.lookup,ht.typeIs,?_⟩
    refine Qcg ht hs pl pu (by rw [hlen];exact hw.1) (by rw [hlen];exact hw.2) ?_
    refine ⟨.ref a,H,I,rfl,q a H (Same.refl H) ?_⟩
    have e:cutV xs lo hi=xs:=by
      unfold cutV
      rw [hw.1,hw.2];simp
    rw [e];exact hx
  · exact sl_tup pins s σ H (.ref a) v vl vu lo hi sl Q I rx hs pl pu ⟨a,xs,rfl,SqT.of hx,hw,fun p hp=>q p _ (Qar hp) Qaq⟩
def rCatA:R2:=fun x y H Q=>∃ a b xs ys,x=.ref a/\y=.ref b/\H a=some (.tup xs)/\H b=some (.tup ys)/\xs.length+ys.length<=sizeLine/\∀ p H',Same H H'->H' p=some (.tup (xs++ys))->Q (.ref p) H'
theorem QlG:OpR X (binaryOp .Add) rCatA:=by
  intro pins s σ H x y v u Q I rx ry h
  obtain ⟨a,b,xs,ys,rfl,rfl,ha,hb,hz,q⟩:=h
  by_cases hx:xs=[]
  · subst hx
    cases rx
    cases ry
    obtain ⟨its,r1,p1,_⟩:=I.tuple (SqT.of ha)
    obtain ⟨its2,r2,p2,_⟩:=I.tuple (SqT.of hb)
    cases r1
    obtain ⟨⟨cls,dd,data,sl⟩,ho,hc,n,hd⟩:=id p1
    obtain ⟨⟨cls2,dd2,data2,sl2⟩,ho2,hc2,n2,hd2⟩:=id p2
    simp only at hc hd hc2 hd2
    subst hc hd hc2 hd2
    exact concat_meets ⟨_,ho,rfl⟩ ⟨_,ho2,rfl⟩ noFill_tuple_add seq_tuple_add PySem.F.slot_tuple_add PySem.F.entry_tuple_add (PySem.F.args_tuple_add_2 _ _)
      (tuple_addW0 a b #[] its2.toArray n n2 dd dd2 sl sl2 rfl) ⟨ho,ho2,⟨.ref b,H,I,rfl,q b H (Same.refl H) hb⟩⟩
  · exact QlF pins s σ H _ _ v u Q I rx ry ⟨a,b,xs,ys,rfl,rfl,SqT.of ha,SqT.of hb,hx,hz,fun e=>q a H (Same.refl H) (by rw [e,List.append_nil];exact ha),fun _ p hp=>q p _ (Qar hp) Qaq⟩
def tDNew:TE:=fun _ H Q=>∀ p,H p=none->Q (.ref p) (upd H p (.dK []))
theorem Qlf {pos:Pos}:PE X (.Dict [] [] pos) tDNew:=fun pins s σ H Q I h=>by
  refine wpAny_Dict_empty ⟨.ref s.heap.objs.size,_,I.laid (a:=s.heap.objs.size) (o:=.dK []) (t':=s.toks) (fun _ _ q=>Heap.get?_push_of_some _ q) (Nat.le_refl _) ?_,rfl,h _ (I.hok.fresh (Nat.le_refl _))⟩
  have hb:sysModules<s.heap.objs.size:=Nat.lt_trans (by decide) (I.mod.glob.keeps I.bk).lt
  exact ⟨Nat.zero_le _,beq_eq_false_iff_ne.mpr (Ne.symm (Nat.ne_of_lt hb)),[],.nil,Heap.DictOf.new s.heap⟩
end
end L2
namespace Rz
open PySem PyProof.Rows
open Sem (wp)
section
variable {prog:Program} {w:World} {A:Around} {E:Value->Shared->Prop} {s:Shared}
theorem Qea {it t:Addr} {i:Nat} {items:Array Value} {x:Value} {Q:Value->Shared->Prop} (hit:s.heap.IsTupleIter it t i) (ht:s.heap.IsTuple t items) (hx:items[i]? = some x)
    (hQ:∀ h',h'.IsTupleIter it t (i+1)->Heap.SameBut it s.heap h'->Q x { s with heap:=h' }):wpAny (model prog w) A (Builtin.SmallTypes.nextOf (.ref it)) Q E s:=by
  obtain ⟨o,ho,hc,hd⟩:=id hit
  obtain ⟨ol,hol,_,nl,hdl⟩:=ht
  unfold Builtin.SmallTypes.nextOf
  refine wpAny_bind (wpAny_callSpecial?_slot (name:=Str.ofString "__next__") hit.typeIs F.slot_tuple_iterator_next
    (wpAny_call_entry F.slot_tuple_iterator_next hit.typeIs F.entry_tuple_iterator_next ?_ (F.args_tuple_iterator_next_1 _)))
  show wpAny _ _ (field (.ref it) 0 >>= _) _ _ s
  refine wpAny_bind (wpAny_field ho hd (x:=.ref t) rfl ?_)
  show wpAny _ _ (if (Value.ref t == Value.none)=true then _ else _) _ _ s
  rw [if_neg (show ¬ ((Value.ref t == Value.none)=true) from Bool.false_ne_true)]
  show wpAny _ _ (field (.ref it) 1 >>= _) _ _ s
  refine wpAny_bind (wpAny_field ho hd (x:=.int i 0) rfl ?_)
  show wpAny _ _ (seqItems? (.ref t) >>= _) _ _ s
  refine wpAny_bind (wpAny_seqItems hol hdl ?_)
  simp only [Int.toNat_natCast,hx]
  refine wpAny_bind (wpAny_setField ho hd (by simp) (wpAny_pure ⟨x,rfl,wpAny_pure (hQ _ ?_ (Heap.SameBut.update ..))⟩))
  exact ⟨_,Heap.get?_update_self _ ho (Obj.isFreed_of_fields (Obj.data_mapFields hd _)),(Obj.cls_mapFields ..).trans hc,by
    rw [Obj.data_mapFields hd];simp [rawInt]⟩
theorem QhV {it t:Addr} {i:Nat} {items:Array Value} {Q:Value->Shared->Prop} (hh:A.handled=none) (hit:s.heap.IsTupleIter it t i) (ht:s.heap.IsTuple t items) (hx:items[i]? = none)
    (hE:∀ h' e,Heap.ExtBut it s.heap h'->(∃ o,h'.get? e=some o/\o.cls=.type "StopIteration")->E (.ref e) { s with heap:=h' }):wpAny (model prog w) A (Builtin.SmallTypes.nextOf (.ref it)) Q E s:=by
  obtain ⟨o,ho,hc,hd⟩:=id hit
  obtain ⟨ol,hol,_,nl,hdl⟩:=ht
  unfold Builtin.SmallTypes.nextOf
  refine wpAny_bind (wpAny_callSpecial?_slot (name:=Str.ofString "__next__") hit.typeIs F.slot_tuple_iterator_next
    (wpAny_call_entry F.slot_tuple_iterator_next hit.typeIs F.entry_tuple_iterator_next ?_ (F.args_tuple_iterator_next_1 _)))
  show wpAny _ _ (field (.ref it) 0 >>= _) _ _ s
  refine wpAny_bind (wpAny_field ho hd (x:=.ref t) rfl ?_)
  show wpAny _ _ (if (Value.ref t == Value.none)=true then _ else _) _ _ s
  rw [if_neg (show ¬ ((Value.ref t == Value.none)=true) from Bool.false_ne_true)]
  show wpAny _ _ (field (.ref it) 1 >>= _) _ _ s
  refine wpAny_bind (wpAny_field ho hd (x:=.int i 0) rfl ?_)
  show wpAny _ _ (seqItems? (.ref t) >>= _) _ _ s
  refine wpAny_bind (wpAny_seqItems hol hdl ?_)
  simp only [Int.toNat_natCast,hx]
  refine wpAny_bind (wpAny_rule (wpAny_bind (wpAny_setField ho hd (by simp) ?_)))
  show wpAny _ _ (newExc (.type "StopIteration") [] >>= _) _ _ _
  refine wpAny_bind ?_
  simp only [newExc,newTuple]
  refine wpAny_bind (wpAny_newObj_type ?_ (by size_fits))
  refine wpAny_bind (m:=firstArgMember _ _) (wpAny_of_eq (a:=Value.none) (by first | rfl | (simp only [firstArgMember];rfl)) ?_)
  refine wpAny_newObj_type ?_ (by size_fits)
  simp only [raiseNew]
  refine wpAny_bind (wpAny_handled ?_)
  first | rw [show A.in1.handled=none from hh] | rw [hh]
  refine wpAny_bind (wpAny_pure (wpAny_throw ?_))
  exact hE _ _ (((Heap.SameBut.update ..).extBut.push _).push _) ⟨_,Heap.get?_push_size _ rfl,rfl⟩
structure Apart (z TI TO i1 i2 t1 t2:Addr):Prop where
  a1:TI≠z
  a2:TO≠z
  a3:i1≠z
  a4:i2≠z
  a5:TI≠TO
  a6:TI≠i1
  a7:TI≠i2
  a8:TO≠i1
  a9:TO≠i2
  b1:i1≠i2
  b2:t1≠z/\t1≠TO/\t1≠i1/\t1≠i2
  b3:t2≠z/\t2≠TO/\t2≠i1/\t2≠i2
structure ZipAt (h:Heap) (z TI TO i1 i2 t1 t2:Addr) (f:Value) (k:Nat):Prop where
  zp:IsZip h z TI TO f
  ti:IsPair h TI (.ref i1) (.ref i2)
  to:∃ a b,IsPair h TO a b
  i1:h.IsTupleIter i1 t1 k
  i2:h.IsTupleIter i2 t2 k
theorem next_item {z TI TO i1 i2 t1 t2:Addr} {k:Nat} {xs ys:Array Value} {x y:Value} {Q:Option Value->Shared->Prop} (D:Apart z TI TO i1 i2 t1 t2) (Z:ZipAt s.heap z TI TO i1 i2 t1 t2 .none k)
    (hl1:s.heap.IsTuple t1 xs) (hl2:s.heap.IsTuple t2 ys) (hx:xs[k]? = some x) (hy:ys[k]? = some y)
    (hQ:∀ h',ZipAt h' z TI TO i1 i2 t1 t2 (rawInt s.heap.objs.size) (k+1)->IsPair h' s.heap.objs.size x y->(∀ c o,c≠z->c≠TO->c≠i1->c≠i2->s.heap.get? c=some o->h'.get? c=some o)->Q (some (.ref s.heap.objs.size)) { s with heap:=h' }) :
    wpAny (model prog w) A (pyNext (.ref z)) Q E s:=by
  obtain ⟨hz,hTI,⟨a,b,hTO⟩,h1,h2⟩:=Z
  have hT:s.TypeIs (.ref z) "zip" := ⟨_,hz,rfl⟩
  unfold pyNext
  refine wpAny_bind (wpAny_attempt (wpAny_callSpecial?_slot (name:=Str.ofString "__next__") hT F.slot_zip_next (wpAny_call_entry F.slot_zip_next hT F.entry_zip_next ?_ (F.args_zip_next_1 _))))
  show wpAny _ _ (field (.ref z) 2 >>= _) _ _ _
  refine wpAny_bind (wpAny_field hz rfl (x:=.bool false) rfl ?_)
  show wpAny _ _ (field (.ref z) 3 >>= _) _ _ _
  refine wpAny_bind (wpAny_field hz rfl (x:=.ref TI) rfl (wpAny_bind (wpAny_seqItems hTI rfl ?_)))
  show wpAny _ _ (Builtin.SmallTypes.ownedTupleIsFree (.ref z) >>= _) _ _ _
  refine wpAny_bind ?_
  unfold Builtin.SmallTypes.ownedTupleIsFree
  refine wpAny_bind (wpAny_field hz rfl (x:=.none) rfl (wpAny_pure ?_))
  simp only [if_true]
  refine wpAny_bind (wpAny_rule (wpAny_bind (wpAny_field hz rfl (x:=.ref TO) rfl (wpAny_bind (wpAny_setField_rec hz (by simp) fun g1 z1 s1=>?_)))))
  replace z1:IsZip g1 z TI TO .ellipsis:=z1
  refine wpAny_bind ?_
  simp only [List.zipIdx_cons,List.zipIdx_nil,List.forIn_cons,List.forIn_nil]
  refine wpAny_bind (wpAny_bind (wpAny_onRaise ?_))
  show wpAny _ _ (Builtin.SmallTypes.nextOf (.ref i1) >>= _) _ _ _
  refine wpAny_bind (Qea (h1.extBut s1.extBut D.a3) (hl1.extBut s1.extBut D.b2.1) hx fun g2 p2 s2=>wpAny_pure ?_)
  have o2:IsPair g2 TO a b:=s2.extBut _ _ D.a8 (s1.extBut _ _ D.a2 hTO)
  refine wpAny_bind (wpAny_seqItems o2 rfl (wpAny_bind (wpAny_updateSeq_pair o2 fun g3 o3 s3=>wpAny_bind (wpAny_letGo (wpAny_pure ?_)))))
  replace o3:IsPair g3 TO x b:=o3
  refine wpAny_bind (wpAny_bind (wpAny_onRaise ?_))
  show wpAny _ _ (Builtin.SmallTypes.nextOf (.ref i2) >>= _) _ _ _
  refine wpAny_bind (Qea (((h2.extBut s1.extBut D.a4).extBut s2.extBut D.b1.symm).extBut s3.extBut D.a9.symm)
    (((hl2.extBut s1.extBut D.b3.1).extBut s2.extBut D.b3.2.2.1).extBut s3.extBut D.b3.2.1) hy fun g4 p4 s4=>wpAny_pure ?_)
  have o4:IsPair g4 TO x b:=s4.extBut _ _ D.a9 o3
  refine wpAny_bind (wpAny_seqItems o4 rfl (wpAny_bind (wpAny_updateSeq_pair o4 fun g5 o5 s5=>wpAny_bind (wpAny_letGo (wpAny_pure (wpAny_pure ?_))))))
  replace o5:IsPair g5 TO x y:=o5
  refine wpAny_bind (wpAny_seqItems o5 rfl (wpAny_bind (wpAny_newTuple ?_)))
  have sz:g5.objs.size=s.heap.objs.size:=by rw [s5.1,s4.1,s3.1,s2.1,s1.1]
  have kp:∀ c o,c≠z->c≠TO->c≠i1->c≠i2->s.heap.get? c=some o->g5.get? c=some o:=fun c o c1 c2 c3 c4 e=>
    s5.extBut _ _ c2 (s4.extBut _ _ c4 (s3.extBut _ _ c2 (s2.extBut _ _ c3 (s1.extBut _ _ c1 e))))
  have z5:IsZip g5 z TI TO .ellipsis:=s5.extBut _ _ D.a2.symm (s4.extBut _ _ D.a4.symm (s3.extBut _ _ D.a2.symm (s2.extBut _ _ D.a3.symm z1)))
  have q1:g5.IsTupleIter i1 t1 (k+1):=((p2.extBut s3.extBut D.a8.symm).extBut s4.extBut D.b1).extBut s5.extBut D.a8.symm
  have q2:g5.IsTupleIter i2 t2 (k+1):=p4.extBut s5.extBut D.a9.symm
  show wpAny _ _ (Builtin.SmallTypes.ownedTupleHandOut (.ref z) (.ref g5.objs.size) >>= _) _ _ _
  refine wpAny_bind ?_
  unfold Builtin.SmallTypes.ownedTupleHandOut
  have z6:IsZip (g5.push { cls:=.type "tuple",data:=.seq #[x,y] }) z TI TO .ellipsis:=Heap.get?_push_of_some _ z5
  refine wpAny_bind (wpAny_setField_rec z6 (by simp) fun g7 z7 s7=>?_)
  replace z7:IsZip g7 z TI TO (rawInt g5.objs.size):=z7
  refine wpAny_setField_rec z7 (by simp) fun g8 z8 s8=>?_
  replace z8:IsZip g8 z TI TO (rawInt g5.objs.size):=z8
  have up:∀ c o,c≠z->g5.get? c=some o->g8.get? c=some o:=fun c o c1 e=>s8.extBut _ _ c1 (s7.extBut _ _ c1 (Heap.get?_push_of_some _ e))
  have ne:g5.objs.size≠z:=Nat.ne_of_gt (Heap.lt_size z5)
  have t8:IsPair g8 g5.objs.size x y:=s8.extBut _ _ ne (s7.extBut _ _ ne (Heap.get?_push_size _ rfl))
  rw [sz] at z8 t8
  refine wpAny_pure ⟨_,rfl,wpAny_pure ?_⟩
  show Q (some (.ref g5.objs.size)) _
  rw [sz]
  exact hQ g8 ⟨z8,up _ _ D.a1 (kp _ _ D.a1 D.a5 D.a6 D.a7 hTI),⟨x,y,up _ _ D.a2 o5⟩,q1.at fun o e=>up _ o D.a3 e,q2.at fun o e=>up _ o D.a4 e⟩ t8 fun c o c1 c2 c3 c4 e=>up c o c1 (kp c o c1 c2 c3 c4 e)
theorem next_end {z TI TO i1 i2 t1 t2:Addr} {k:Nat} {xs ys:Array Value} {Q:Option Value->Shared->Prop} (hh:A.handled=none) (D:Apart z TI TO i1 i2 t1 t2) (Z:ZipAt s.heap z TI TO i1 i2 t1 t2 .none k)
    (hl1:s.heap.IsTuple t1 xs) (hl2:s.heap.IsTuple t2 ys) (hend:xs[k]? = none∨ys[k]? = none)
    (hQ:∀ h',(∀ c o,c≠z->c≠TO->c≠i1->c≠i2->s.heap.get? c=some o->h'.get? c=some o)->Q none { s with heap:=h' }):wpAny (model prog w) A (pyNext (.ref z)) Q E s:=by
  obtain ⟨hz,hTI,⟨a,b,hTO⟩,h1,h2⟩:=Z
  have hT:s.TypeIs (.ref z) "zip" := ⟨_,hz,rfl⟩
  have fin:∀ (h':Heap) (e:Addr),(∀ c o,c≠z->c≠TO->c≠i1->c≠i2->s.heap.get? c=some o->h'.get? c=some o)->(∃ o,h'.get? e=some o/\o.cls=.type "StopIteration") ->
      wpAny (model prog w) A (isInstance (.ref e) (.type "StopIteration") >>= fun x=>if x=true then pure none else throw (.ref e)) Q E { s with heap:=h' }:=fun h' e hk he=>by
    obtain ⟨o,ho,hc⟩:=he
    refine wpAny_bind (wpAny_isInstance (T := "StopIteration") (b:=true) ⟨o,ho,hc⟩ isSubtype_stop ?_)
    exact wpAny_pure (hQ _ hk)
  unfold pyNext
  refine wpAny_bind (wpAny_attempt (wpAny_callSpecial?_slot (name:=Str.ofString "__next__") hT F.slot_zip_next (wpAny_call_entry F.slot_zip_next hT F.entry_zip_next ?_ (F.args_zip_next_1 _))))
  show wpAny _ _ (field (.ref z) 2 >>= _) _ _ _
  refine wpAny_bind (wpAny_field hz rfl (x:=.bool false) rfl ?_)
  show wpAny _ _ (field (.ref z) 3 >>= _) _ _ _
  refine wpAny_bind (wpAny_field hz rfl (x:=.ref TI) rfl (wpAny_bind (wpAny_seqItems hTI rfl ?_)))
  show wpAny _ _ (Builtin.SmallTypes.ownedTupleIsFree (.ref z) >>= _) _ _ _
  refine wpAny_bind ?_
  unfold Builtin.SmallTypes.ownedTupleIsFree
  refine wpAny_bind (wpAny_field hz rfl (x:=.none) rfl (wpAny_pure ?_))
  simp only [if_true]
  refine wpAny_bind (wpAny_rule (wpAny_bind (wpAny_field hz rfl (x:=.ref TO) rfl (wpAny_bind (wpAny_setField_rec hz (by simp) fun g1 z1 s1=>?_)))))
  replace z1:IsZip g1 z TI TO .ellipsis:=z1
  refine wpAny_bind ?_
  simp only [List.zipIdx_cons,List.zipIdx_nil,List.forIn_cons,List.forIn_nil]
  refine wpAny_bind (wpAny_bind (wpAny_onRaise ?_))
  show wpAny _ _ (Builtin.SmallTypes.nextOf (.ref i1) >>= _) _ _ _
  cases hx:xs[k]? with
  | none=>
    refine wpAny_bind (QhV hh (h1.extBut s1.extBut D.a3) (hl1.extBut s1.extBut D.b2.1) hx fun g2 e s2 he=>?_)
    obtain ⟨oe,hoe,hce⟩:=he
    have z2:IsZip g2 z TI TO .ellipsis:=s2 _ _ D.a3.symm z1
    have hez:e≠z:=fun q=>by subst q;rw [z2] at hoe;cases hoe;simp at hce
    refine wpAny_setField_rec z2 (by simp) fun g3 _ s3=>?_
    exact fin g3 e (fun c o c1 _ c3 _ q=>s3.extBut _ _ c1 (s2 _ _ c3 (s1.extBut _ _ c1 q))) ⟨oe,s3.extBut _ _ hez hoe,hce⟩
  | some x=>
    have hy:ys[k]? = none:=by
      rcases hend with q | q
      · rw [hx] at q;cases q
      · exact q
    refine wpAny_bind (Qea (h1.extBut s1.extBut D.a3) (hl1.extBut s1.extBut D.b2.1) hx fun g2 p2 s2=>wpAny_pure ?_)
    have o2:IsPair g2 TO a b:=s2.extBut _ _ D.a8 (s1.extBut _ _ D.a2 hTO)
    refine wpAny_bind (wpAny_seqItems o2 rfl (wpAny_bind (wpAny_updateSeq_pair o2 fun g3 o3 s3=>wpAny_bind (wpAny_letGo (wpAny_pure ?_)))))
    refine wpAny_bind (wpAny_bind (wpAny_onRaise ?_))
    show wpAny _ _ (Builtin.SmallTypes.nextOf (.ref i2) >>= _) _ _ _
    refine wpAny_bind (QhV hh (((h2.extBut s1.extBut D.a4).extBut s2.extBut D.b1.symm).extBut s3.extBut D.a9.symm)
      (((hl2.extBut s1.extBut D.b3.1).extBut s2.extBut D.b3.2.2.1).extBut s3.extBut D.b3.2.1) hy fun g4 e s4 he=>?_)
    obtain ⟨oe,hoe,hce⟩:=he
    have z4:IsZip g4 z TI TO .ellipsis:=s4 _ _ D.a4.symm (s3.extBut _ _ D.a2.symm (s2.extBut _ _ D.a3.symm z1))
    have hez:e≠z:=fun q=>by subst q;rw [z4] at hoe;cases hoe;simp at hce
    refine wpAny_setField_rec z4 (by simp) fun g5 _ s5=>?_
    exact fin g5 e (fun c o c1 c2 c3 c4 q=>s5.extBut _ _ c1 (s4 _ _ c4 (s3.extBut _ _ c2 (s2.extBut _ _ c3 (s1.extBut _ _ c1 q))))) ⟨oe,s5.extBut _ _ hez hoe,hce⟩
end
abbrev zh1 (h:Heap) (t1:Addr):Heap:=h.push { cls:=.type "tuple_iterator",data:=.fields #[.ref t1,.int 0 0] }
abbrev zh2 (h:Heap) (t1 t2:Addr):Heap:=(zh1 h t1).push { cls:=.type "tuple_iterator",data:=.fields #[.ref t2,.int 0 0] }
abbrev zh3 (h:Heap) (t1 t2:Addr):Heap:=(zh2 h t1 t2).push { cls:=.type "tuple",data:=.seq #[.ref h.objs.size,.ref (zh1 h t1).objs.size] }
abbrev zh4 (h:Heap) (t1 t2:Addr):Heap:=(zh3 h t1 t2).push { cls:=.type "tuple",data:=.seq #[.none,.none] }
abbrev zh5 (h:Heap) (t1 t2:Addr):Heap:=(zh4 h t1 t2).push { cls:=.type "zip",data:=.fields #[.none,.bool false,.bool false,.ref (zh2 h t1 t2).objs.size,.ref (zh3 h t1 t2).objs.size] }
theorem made (t1 t2:Addr) (xs ys:Array Value) :
    Meets (Builtin.«zip.__new__» ⟨[.type "zip",.ref t1,.ref t2],[]⟩) (fun _ R s=>s.heap.IsTuple t1 xs/\s.heap.IsTuple t2 ys/\R (.ok (.ret (.ref (zh4 s.heap t1 t2).objs.size))) { s with heap:=zh5 s.heap t1 t2 }):=
  .of_wp fun prog w A R s h=>by
    obtain ⟨hp,g,d,tk,os⟩:=s;obtain ⟨hl1,hl2,h⟩:=h
    have hsub:=sub_zip
    have k1:Heap.IsTuple (Shared.heap ⟨hp,g,d,tk,os⟩) t1 xs:=hl1
    have k2:Heap.IsTuple (Shared.heap ⟨hp.push { cls:=.type "tuple_iterator",data:=.fields #[.ref t1,.int 0 0] },g,d,tk,os⟩) t2 ys:=hl2.at fun o e=>Heap.get?_push_of_some _ e
    wp_walk using wpAny_pyIter_tuple k1,wpAny_pyIter_tuple k2
    exact ⟨_,rfl,h⟩
section
variable {prog:Program} {w:World} {A:Around} {E:Value->Shared->Prop} {s:Shared}
theorem call_two {t1 t2:Addr} {xs ys:Array Value} {Q:Value->Shared->Prop} (hl1:s.heap.IsTuple t1 xs) (hl2:s.heap.IsTuple t2 ys)
    (h:∀ h',ZipAt h' (s.heap.objs.size+4) (s.heap.objs.size+2) (s.heap.objs.size+3) s.heap.objs.size (s.heap.objs.size+1) t1 t2 .none 0->(∀ c o,s.heap.get? c=some o->h'.get? c=some o)->Q (.ref (s.heap.objs.size+4)) { s with heap:=h' }) :
    wpAny (model prog w) A (call (.type "zip") [.ref t1,.ref t2]) Q E s:=by
  refine callType_new F.called_zip (by decide) (F.typeCall_zip_2 _ _) (F.newCall_zip_2 _ _) (fun obj=>F.args_object_init_3 obj _ _) F.entry_zip_new (made t1 t2 xs ys) ⟨hl1,hl2,?_⟩
  have z1:(zh1 s.heap t1).objs.size=s.heap.objs.size+1:=Heap.size_push ..
  have z2:(zh2 s.heap t1 t2).objs.size=s.heap.objs.size+2:=by rw [Heap.size_push,z1]
  have z3:(zh3 s.heap t1 t2).objs.size=s.heap.objs.size+3:=by rw [Heap.size_push,z2]
  have z4:(zh4 s.heap t1 t2).objs.size=s.heap.objs.size+4:=by rw [Heap.size_push,z3]
  have g5:(zh5 s.heap t1 t2).get? (zh4 s.heap t1 t2).objs.size=some _:=Heap.get?_push_size _ rfl
  have g4:(zh5 s.heap t1 t2).get? (zh3 s.heap t1 t2).objs.size=some _:=Heap.get?_push_of_some _ (Heap.get?_push_size _ rfl)
  have g3:(zh5 s.heap t1 t2).get? (zh2 s.heap t1 t2).objs.size=some _:=Heap.get?_push_of_some _ (Heap.get?_push_of_some _ (Heap.get?_push_size _ rfl))
  have g2:(zh5 s.heap t1 t2).get? (zh1 s.heap t1).objs.size=some _:=Heap.get?_push_of_some _ (Heap.get?_push_of_some _ (Heap.get?_push_of_some _ (Heap.get?_push_size _ rfl)))
  have g1:(zh5 s.heap t1 t2).get? s.heap.objs.size=some _:=Heap.get?_push_of_some _ (Heap.get?_push_of_some _ (Heap.get?_push_of_some _ (Heap.get?_push_of_some _ (Heap.get?_push_size _ rfl))))
  show _/\_
  rw [z2,z3,z4] at g5
  rw [z1,z2] at g3
  rw [z3] at g4
  rw [z1] at g2
  rw [z4]
  exact ⟨⟨_,g5,rfl⟩,h _ ⟨g5,g3,⟨_,_,g4⟩,⟨_,g1,rfl,rfl⟩,⟨_,g2,rfl,rfl⟩⟩ fun c o x=>Heap.get?_push_of_some _ (Heap.get?_push_of_some _ (Heap.get?_push_of_some _ (Heap.get?_push_of_some _ (Heap.get?_push_of_some _ x))))⟩
end
end Rz
namespace L2
open PySem PySem.Spec PyProof.Rows
section
variable {X:Cx} {pins:List (Addr×Obj)} {σ:St} {H:Hp} {s:Shared} {h':Heap}
theorem Inv.turnedNew {t':Nat} {ch:List Addr} {a:Addr} {o:HO} (I:Inv X pins σ H s) (hch:∀ b∈ch,FpOk X pins H b) (k:∀ b u,b∉ch->s.heap.get? b=some u->h'.get? b=some u) (hp:s.heap.objs.size<=a)
    (new:ObjOk X.prog X.w (upd H a o) h' a o):Inv X pins σ (upd H a o) { s with heap:=h',toks:=t' }:=by
  have hn:H a=none:=I.hok.fresh hp
  have nch:∀ b u,H b=some u->b∉ch:=fun b u e z=>by rw [(hch b z).1] at e;cases e
  refine I.step (g':=s.gens) (d':=s.drawn) (ch:=ch) (fun b hb=>?_) (fun b u _ _ hc e _=>k b u hc e) (fun b u _ _ hc e _=>⟨u.slots,k b u hc e⟩) (fun b u hc e n=>?_) (fun b u hc e=>⟨u,k b u hc e⟩)
    (fun b xs e=>by rw [Qay (QaK e hn)];exact e) (fun b u v e=>by rw [Qay (QaK e hn)];exact e) (fun b ps e=>⟨#[],by rw [Qay (QaK e hn),e];simp⟩) (fun m hm=>?_) (fun b u e=>?_) I.bare
  · obtain ⟨f0,f1,f2,f3,f4,f5⟩:=hch b hb
    exact ⟨f3,f1,f4,f5⟩
  · rw [Qay (Nat.ne_of_lt (Nat.lt_of_lt_of_le (Heap.lt_size e) hp))];exact n
  · obtain ⟨u,es,ep,ho,r⟩:=hm
    exact ⟨u,es,ep,k _ u (fun z=>(hch _ z).2.1 rfl) ho,r⟩
  · by_cases hb:b=a
    · subst hb;rw [Qaq] at e;cases e;exact new
    · rw [Qay hb] at e
      refine (I.hok b u e).stay (fun c v hc q=>k c v ?_ q) (fun c q=>by rw [Qay (QaK q hn)];exact q) fun c xs q=>by rw [Qay (QaK q hn)];exact q
      rcases hc with z | z
      · rw [z];exact nch b u e
      · exact nch c _ z
theorem Inv.turnedAll {t':Nat} {ch:List Addr} (I:Inv X pins σ H s) (hch:∀ b∈ch,FpOk X pins H b) (k:∀ b u,b∉ch->s.heap.get? b=some u->h'.get? b=some u):Inv X pins σ H { s with heap:=h',toks:=t' }:=by
  have nch:∀ b u,H b=some u->b∉ch:=fun b u e z=>by rw [(hch b z).1] at e;cases e
  refine I.step (g':=s.gens) (d':=s.drawn) (ch:=ch) (fun b hb=>?_) (fun b u _ _ hc e _=>k b u hc e) (fun b u _ _ hc e _=>⟨u.slots,k b u hc e⟩) (fun b u hc e n=>n) (fun b u hc e=>⟨u,k b u hc e⟩)
    (fun b xs e=>e) (fun b u v e=>e) (fun b ps e=>⟨#[],by rw [e];simp⟩) (fun m hm=>?_) (fun b u e=>?_) I.bare
  · obtain ⟨f0,f1,f2,f3,f4,f5⟩:=hch b hb
    exact ⟨f3,f1,f4,f5⟩
  · obtain ⟨u,es,ep,ho,r⟩:=hm
    exact ⟨u,es,ep,k _ u (fun z=>(hch _ z).2.1 rfl) ho,r⟩
  · refine (I.hok b u e).stay (fun c v hc q=>k c v ?_ q) (fun c q=>q) fun c xs q=>q
    rcases hc with z | z
    · rw [z];exact nch b u e
    · exact nch c _ z
end
def Itz (t1 t2:Addr):It:=
  ⟨fun i H=>∃ xs ys x y,H t1=some (.tup xs)/\H t2=some (.tup ys)/\xs[i]? = some x/\ys[i]? = some y,
   fun i H v H'=>∃ p x y,H p=none/\(∀ xs,H t1=some (.tup xs)->xs[i]? = some x)/\(∀ ys,H t2=some (.tup ys)->ys[i]? = some y)/\v=.ref p/\H'=upd H p (.tup [x,y]),
   fun i H=>∃ xs ys,H t1=some (.tup xs)/\H t2=some (.tup ys)/\(xs.length<=i∨ys.length<=i)⟩
theorem QiT {P:Program} {w:World} {K:PySem.W.Frag} {elts:List Expr} {x1} {tpos:Pos} {z TI TO i1 i2 t1 t2:Addr} (D:Rz.Apart z TI TO i1 i2 t1 t2) :
    Turn P w K (.Tuple elts x1 tpos) (Itz t1 t2) [z,TI,TO,i1,i2] z (fun i h=>Rz.ZipAt h z TI TO i1 i2 t1 t2 .none i) where
  mem:=by simp
  obj:=fun i h st b hb=>by
    obtain ⟨a1,a2,⟨_,_,a3⟩,⟨o4,a4,_,d4⟩,⟨o5,a5,_,d5⟩⟩:=st
    simp only [List.mem_cons,List.not_mem_nil,or_false] at hb
    rcases hb with rfl | rfl | rfl | rfl | rfl
    · exact ⟨_,a1,fun v q=>nomatch q⟩
    · exact ⟨_,a2,fun v q=>nomatch q⟩
    · exact ⟨_,a3,fun v q=>nomatch q⟩
    · exact ⟨_,a4,fun v q=>by rw [d4] at q;cases q⟩
    · exact ⟨_,a5,fun v q=>by rw [d5] at q;cases q⟩
  keep:=fun i h h' st k=>by
    obtain ⟨a1,a2,⟨a,b,a3⟩,a4,a5⟩:=st
    exact ⟨k z (by simp) _ a1,k TI (by simp) _ a2,⟨a,b,k TO (by simp) _ a3⟩,a4.at fun o e=>k i1 (by simp) o e,a5.at fun o e=>k i2 (by simp) o e⟩
  item:=by
    intro X hP hw hK hc i pins s σ H E I hf st hg
    subst hP hw hK
    obtain ⟨xs,ys,x,y,h1,h2,hx,hy⟩:=hg
    obtain ⟨its1,r1,p1,_⟩:=I.tuple (SqT.of h1)
    obtain ⟨its2,r2,p2,_⟩:=I.tuple (SqT.of h2)
    obtain ⟨u1,hu1,ru1⟩:=r1.get hx
    obtain ⟨u2,hu2,ru2⟩:=r2.get hy
    refine Rz.next_item D st (show s.heap.IsTuple t1 its1.toArray from p1) (show s.heap.IsTuple t2 its2.toArray from p2) (by simpa using hu1) (by simpa using hu2) fun h' st' tp kp=>?_
    have hlt:∀ b∈[z,TI,TO,i1,i2],b≠s.heap.objs.size:=fun b hb=>by
      obtain ⟨a1,a2,⟨_,_,a3⟩,⟨o4,a4,_,d4⟩,⟨o5,a5,_,d5⟩⟩:=st
      simp only [List.mem_cons,List.not_mem_nil,or_false] at hb
      rcases hb with rfl | rfl | rfl | rfl | rfl
      · exact Nat.ne_of_lt (Heap.lt_size a1)
      · exact Nat.ne_of_lt (Heap.lt_size a2)
      · exact Nat.ne_of_lt (Heap.lt_size a3)
      · exact Nat.ne_of_lt (Heap.lt_size a4)
      · exact Nat.ne_of_lt (Heap.lt_size a5)
    have fr:H s.heap.objs.size=none:=I.hok.fresh (Nat.le_refl _)
    refine ⟨_,rfl,wpAny_letOwnedTupleGo_zip st'.zp fun h2' z2 s2=>?_⟩
    have I1:Inv X pins σ (upd H s.heap.objs.size (.tup [x,y])) { s with heap:=h2',toks:=s.toks }:=by
      refine I.turnedNew (ch:=[z,TI,TO,i1,i2]) hf (fun b u hb e=>?_) (Nat.le_refl _) ⟨by show 2<=sizeLine;decide,[u1,u2],.cons ru1 (.cons ru2 .nil),?_⟩
      · simp only [List.mem_cons,List.not_mem_nil,or_false,not_or] at hb
        exact s2.extBut _ _ hb.1 (kp b u hb.1 hb.2.2.1 hb.2.2.2.1 hb.2.2.2.2 e)
      · exact ⟨_,s2.extBut _ _ (hlt z (by simp)).symm tp,rfl,0,rfl⟩
    refine ⟨.ref s.heap.objs.size,_,I1,rfl,⟨_,x,y,fr,fun xs' e=>?_,fun ys' e=>?_,rfl,rfl⟩,?_,fun b hb=>?_⟩
    · rw [h1] at e;cases e;exact hx
    · rw [h2] at e;cases e;exact hy
    · obtain ⟨a1,a2,⟨a,b,a3⟩,a4,a5⟩:=st'
      exact ⟨z2,s2.extBut _ _ D.a1 a2,⟨a,b,s2.extBut _ _ D.a2 a3⟩,a4.extBut s2.extBut D.a3,a5.extBut s2.extBut D.a4⟩
    · rw [Qay (hlt b hb)];exact (hf b hb).1
  done:=by
    intro X hP hw hK hc i pins s σ H E I hf st hg
    subst hP hw hK
    obtain ⟨xs,ys,h1,h2,he⟩:=hg
    obtain ⟨its1,r1,p1,_⟩:=I.tuple (SqT.of h1)
    obtain ⟨its2,r2,p2,_⟩:=I.tuple (SqT.of h2)
    have l1:=r1.length
    have l2:=r2.length
    refine Rz.next_end (I.ok.hd hc) D st (show s.heap.IsTuple t1 its1.toArray from p1) (show s.heap.IsTuple t2 its2.toArray from p2) ?_ fun h' kp=>⟨rfl,I.turnedAll (t':=s.toks) (ch:=[z,TI,TO,i1,i2]) hf fun b u hb e=>?_⟩
    · rcases he with q | q
      · exact .inl (by simp;omega)
      · exact .inr (by simp;omega)
    · simp only [List.mem_cons,List.not_mem_nil,or_false,not_or] at hb
      exact kp b u hb.1 hb.2.2.1 hb.2.2.2.1 hb.2.2.2.2 e
  self:=fun _ _ _ _ _ st h=>wpAny_pyIter_zip st.zp h
section
variable {X:Cx}
theorem QiN (n t1 t2:Nat) (h1:t1<n) (h2:t2<n):Rz.Apart (n+4) (n+2) (n+3) n (n+1) t1 t2 where
  a1:=by show ¬ (n+2=n+4);omega
  a2:=by show ¬ (n+3=n+4);omega
  a3:=by show ¬ (n=n+4);omega
  a4:=by show ¬ (n+1=n+4);omega
  a5:=by show ¬ (n+2=n+3);omega
  a6:=by show ¬ (n+2=n);omega
  a7:=by show ¬ (n+2=n+1);omega
  a8:=by show ¬ (n+3=n);omega
  a9:=by show ¬ (n+3=n+1);omega
  b1:=by show ¬ (n=n+1);omega
  b2:=⟨by show ¬ (t1=n+4);omega,by show ¬ (t1=n+3);omega,by show ¬ (t1=n);omega,by show ¬ (t1=n+1);omega⟩
  b3:=⟨by show ¬ (t2=n+4);omega,by show ¬ (t2=n+3);omega,by show ¬ (t2=n);omega,by show ¬ (t2=n+1);omega⟩
def iZip (ta:TA):TI:=fun σ H R=>ta σ H fun vs H1=>∃ t1 t2 xs ys,vs=[.ref t1,.ref t2]/\H1 t1=some (.tup xs)/\H1 t2=some (.tup ys)/\R (Itz t1 t2) H1
theorem QiE:bootBuiltins "zip" = some (.type "zip"):=by decide +kernel
theorem pi_zip {a b:Expr} {elts:List Expr} {x1} {tpos:Pos} {ta:TA} {p pos:Pos} (hg:Gl X "zip") (hm:X.mg "zip" = none) (ha:PA X [a,b] ta) (hs:starEach [a,b] X.env=[(false,eval a X.env),(false,eval b X.env)]:=by rfl) (hs2:starEach [b] X.env=[(false,eval b X.env)]:=by rfl) :
    PI X (.Tuple elts x1 tpos) (.Call (.Name "zip" p) [a,b] [] pos) (iZip ta):=by
  intro pins s σ H R I h
  refine Call_ (QdM I hg hm QiE (PyProof.Rows.callWith_type1 (thn (ha pos pins s σ H _ I h) fun us s1 ⟨vs,H1,I1,r1,q1⟩=>?_) (by rw [hs,hs2]) (by rw [hs2];rfl)))
  obtain ⟨t1,t2,xs,ys,e,h1,h2,q⟩:=q1
  subst e
  obtain ⟨u,v,rfl,ru,rv⟩:=QgZ r1
  cases (show u=Value.ref t1 from ru)
  cases (show v=Value.ref t2 from rv)
  obtain ⟨its1,w1,p1,_⟩:=I1.tuple (SqT.of h1)
  obtain ⟨its2,w2,p2,_⟩:=I1.tuple (SqT.of h2)
  have n1:t1<s1.heap.objs.size:=I1.hok.lt h1
  have n2:t2<s1.heap.objs.size:=I1.hok.lt h2
  refine Rz.call_two (show s1.heap.IsTuple t1 its1.toArray from p1) (show s1.heap.IsTuple t2 its2.toArray from p2) fun h' st kp=>?_
  refine wpAny_pyIter_zip (s:={ s1 with heap:=h' }) st.zp ?_
  have D:=QiN s1.heap.objs.size t1 t2 n1 n2
  refine ⟨s1.heap.objs.size+4,_,_,_,H1,rfl,I1.kept (t':=s1.toks) kp,QiT D,st,fun b hb=>?_,q⟩
  have hb':s1.heap.objs.size<=b:=by
    simp only [List.mem_cons,List.not_mem_nil,or_false] at hb
    rcases hb with rfl | rfl | rfl | rfl | rfl<;>omega
  exact I1.fpOk hb' (I1.hok.fresh hb')
end
end L2
namespace Rk
open PySem PySem.Spec PyProof.Rows L2
def tupO:Option HO->Option (List V)
  | some (.tup xs)=>some xs
  | _=>none
def Qck (H:Hp):V->Option (List V)
  | .ref a=>tupO (H a)
  | _=>none
theorem tupOf_at (H:Hp) (a:Addr):Qck H (.ref a)=tupO (H a):=rfl
def isT (H:Hp) (x:V):Bool:=(Qck H x).isSome
def Kn (p:Addr) (H:Hp):V->Prop
  | .non=>True
  | .bl _=>True
  | .int _=>True
  | .str _=>True
  | .ref a=>a≠p/\((∃ xs,H a=some (.tup xs))∨(∃ xs,H a=some (.lst xs))∨∃ kvs,H a=some (.dK kvs))
  | _=>False
def KnD (p:Addr):Nat->Hp->V->Prop
  | 0,H,x=>Kn p H x
  | n+1,H,x=>Kn p H x/\∀ xs,Qck H x=some xs->∀ y∈xs,KnD p n H y
def KX (p:Addr) (H H':Hp):Prop:=∀ b o,b≠p->H b=some o->H' b=some o
theorem KX.refl (p:Addr) (H:Hp):KX p H H:=fun _ _ _ e=>e
theorem KX.trans {p:Addr} {H H1 H2:Hp} (a:KX p H H1) (b:KX p H1 H2):KX p H H2:=fun c o h e=>b c o h (a c o h e)
theorem KX.of {p:Addr} {H H':Hp} (h:Same H H'):KX p H H':=fun b o _ e=>h b o e
theorem KX.upd {p:Addr} {H:Hp} {o:HO}:KX p H (upd H p o):=fun b u n e=>by rw [Qay n];exact e
theorem Kn.keep {p:Addr} {H H':Hp} (k:KX p H H'):∀ {x:V},Kn p H x->Kn p H' x
  | .non,h=>h
  | .bl _,h=>h
  | .int _,h=>h
  | .str _,h=>h
  | .ref a,⟨n,h⟩=>⟨n,by
    rcases h with ⟨xs,e⟩ | ⟨xs,e⟩ | ⟨xs,e⟩
    · exact .inl ⟨xs,k a _ n e⟩
    · exact .inr (.inl ⟨xs,k a _ n e⟩)
    · exact .inr (.inr ⟨xs,k a _ n e⟩)⟩
  | .byt _,h=>h.elim
  | .flt _,h=>h.elim
  | .ty _,h=>h.elim
theorem Qb4 {p:Addr} {H H':Hp} (k:KX p H H'):∀ {x:V},Kn p H x->Qck H' x=Qck H x
  | .non,h=>rfl
  | .bl _,h=>rfl
  | .int _,h=>rfl
  | .str _,h=>rfl
  | .ref a,⟨n,h⟩=>by
    rcases h with ⟨xs,e⟩ | ⟨xs,e⟩ | ⟨xs,e⟩<;>rw [tupOf_at,tupOf_at,e,k a _ n e]
  | .byt _,h=>h.elim
  | .flt _,h=>h.elim
  | .ty _,h=>h.elim
theorem KnD.kn {p:Addr} {H:Hp} {x:V}:∀ {n:Nat},KnD p n H x->Kn p H x
  | 0,h=>h
  | _+1,h=>h.1
theorem KnD.keep {p:Addr} {H H':Hp} (k:KX p H H'):∀ {n:Nat} {x:V},KnD p n H x->KnD p n H' x
  | 0,x,h=>Kn.keep k h
  | n+1,x,h=>⟨Kn.keep k h.1,fun xs e y hy=>KnD.keep k (h.2 xs (by rw [<- Qb4 k h.1];exact e) y hy)⟩
theorem KnD.low {p:Addr} {H:Hp}:∀ {n:Nat} {x:V},KnD p (n+1) H x->KnD p n H x
  | 0,x,h=>h.1
  | n+1,x,h=>⟨h.1,fun xs e y hy=>KnD.low (h.2 xs e y hy)⟩
theorem KnD.tup {p:Addr} {H:Hp} {n:Nat} {a:Addr} {xs:List V} (hp:a≠p) (e:H a=some (.tup xs)) (h:∀ y∈xs,KnD p n H y):KnD p (n+1) H (.ref a):=
  ⟨⟨hp,.inl ⟨xs,e⟩⟩,fun ys z y hy=>h y (by
    have z':some xs=some ys:=by rw [<- z,tupOf_at,e];rfl
    cases z';exact hy)⟩
theorem KnD.int {p:Addr} {H:Hp} (i:Int):∀ (n:Nat),KnD p n H (.int i)
  | 0=>trivial
  | n+1=>⟨trivial,fun _ e=>nomatch e⟩
theorem KnD.bl {p:Addr} {H:Hp} (i:Bool):∀ (n:Nat),KnD p n H (.bl i)
  | 0=>trivial
  | n+1=>⟨trivial,fun _ e=>nomatch e⟩
theorem KnD.str {p:Addr} {H:Hp} (i:Str):∀ (n:Nat),KnD p n H (.str i)
  | 0=>trivial
  | n+1=>⟨trivial,fun _ e=>nomatch e⟩
theorem KnD.non {p:Addr} {H:Hp}:∀ (n:Nat),KnD p n H .non
  | 0=>trivial
  | n+1=>⟨trivial,fun _ e=>nomatch e⟩
theorem KnD.lst {p:Addr} {H:Hp} {a:Addr} {xs:List V} (hp:a≠p) (e:H a=some (.lst xs)):∀ (n:Nat),KnD p n H (.ref a)
  | 0=>⟨hp,.inr (.inl ⟨xs,e⟩)⟩
  | n+1=>⟨⟨hp,.inr (.inl ⟨xs,e⟩)⟩,fun ys z=>by rw [tupOf_at,e] at z;cases z⟩
theorem KnD.dct {p:Addr} {H:Hp} {a:Addr} {kvs:List (Key×V)} (hp:a≠p) (e:H a=some (.dK kvs)):∀ (n:Nat),KnD p n H (.ref a)
  | 0=>⟨hp,.inr (.inr ⟨kvs,e⟩)⟩
  | n+1=>⟨⟨hp,.inr (.inr ⟨kvs,e⟩)⟩,fun ys z=>by rw [tupOf_at,e] at z;cases z⟩
theorem Qey {H:Hp} {a:Addr} {xs:List V} (e:H a=some (.tup xs)):Qck H (.ref a)=some xs:=by rw [tupOf_at,e];rfl
def Qko (H:Hp) (x:V):List Int:=((Qck H x).getD []).map fun y=>match y with
  | .int i=>i
  | _=>0
def IntsT (H:Hp) (x:V) (ns:List Int):Prop:=∃ a,x=.ref a/\H a=some (.tup (ns.map V.int))
theorem IntsT.eq {H:Hp} {x:V} {ns:List Int} (h:IntsT H x ns):Qko H x=ns:=by
  obtain ⟨a,rfl,e⟩:=h
  unfold Qko
  rw [Qey e]
  show (ns.map V.int).map _=ns
  rw [List.map_map]
  exact List.map_id _
theorem IntsT.keep {H H':Hp} (s:Same H H') {x:V} {ns:List Int} (h:IntsT H x ns):IntsT H' x ns:=by
  obtain ⟨a,e,q⟩:=h
  exact ⟨a,e,s a _ q⟩
theorem Qet:bootBuiltins "isinstance" = some (.builtin "isinstance"):=by decide +kernel
theorem Qky:bootBuiltins "int" = some (.type "int"):=by decide +kernel
theorem QfL:bootBuiltins "bool" = some (.type "bool"):=by decide +kernel
theorem QaR:bootBuiltins "tuple" = some (.type "tuple"):=by decide +kernel
theorem Qmk:bootBuiltins "list" = some (.type "list"):=by decide +kernel
theorem Qcc:bootBuiltins "all" = some (.builtin "all"):=by decide +kernel
theorem QaI:bootBuiltins "len" = some (.builtin "len"):=by decide +kernel
theorem Qkx:bootBuiltins "max" = some (.builtin "max"):=by decide +kernel
theorem bt_min:bootBuiltins "min" = some (.builtin "min"):=by decide +kernel
end Rk
namespace L2
open PySem PySem.Spec PyProof.Rows
theorem Qh2 {J:It} {body:V->Hp->(Hp->Prop)->Prop} {Qn:Hp->Prop} {H:Hp} (n:Nat) (Pv:Nat->Hp->Prop) (h0:Pv 0 H)
    (hs:∀ i H2,i<n->Pv i H2->J.go i H2/\∀ x H3,J.yld i H2 x H3->∀ k:Hp->Prop,(∀ H6,Pv (i+1) H6->k H6)->body x H3 k) (hd:∀ H2,Pv n H2->J.stop n H2/\Qn H2):QkN J body Qn H:=by
  refine ⟨fun i m H=>m=n - i/\i<=n/\Pv i H,⟨n,by simp,Nat.zero_le _,h0⟩,?_⟩
  rintro i m H2 ⟨rfl,hi,p⟩
  by_cases hlt:i<n
  · obtain ⟨go,st⟩:=hs i H2 hlt p
    exact .inr ⟨go,fun x H3 y=>st x H3 y _ fun H6 p6=>⟨n - (i+1),by omega,rfl,hlt,p6⟩⟩
  · have e:i=n:=by omega
    subst e
    exact .inl (hd H2 p)
end L2
namespace Rk
open PySem PySem.Spec PyProof.Rows L2
def Qcm (K:PySem.W.Frag):Sp:=fun vs H Q _=>∃ a ns k,vs=[.ref a,.int k]/\SqL K H a ((ns:List Int).map V.int)/\ns.length<2^20/\0<=k/\∀ c,Q (.int c) H
def spPot:Sp:=fun vs H Q _=>∃ c,vs=[.int c]/\∀ p n,H p=none->Q (.ref p) (upd H p (.lst [.int n]))
def Cs (p:Addr) (H:Hp):List V->List (Int×Int)->Prop:=Paired fun x ij=>∃ d,d≠p/\x=.ref d/\H d=some (.tup [.int ij.1,.int ij.2])
theorem Cs.keep {p:Addr} {H H':Hp} (k:∀ d xs,d≠p->H d=some (.tup xs)->H' d=some (.tup xs)):∀ {ps:List V} {L:List (Int×Int)},Cs p H ps L->Cs p H' ps L:=fun h=>Paired.mapP h fun x ij ⟨d,n,e,q⟩=>⟨d,n,e,k d _ n q⟩
theorem Cs.kx {p:Addr} {H H':Hp} (k:KX p H H') {ps:List V} {L:List (Int×Int)} (h:Cs p H ps L):Cs p H' ps L:=h.keep fun d xs n e=>k d _ n e
theorem Cs.upd {p cl:Addr} {H:Hp} {xs:List V} {o:HO} (e:H cl=some (.lst xs)) {ps:List V} {L:List (Int×Int)} (h:Cs p H ps L):Cs p (L2.upd H cl o) ps L:=h.keep fun d ys n q=>by
  rw [Qay]
  · exact q
  · intro z;rw [z,e] at q;cases q
theorem Cs.len {p:Addr} {H:Hp} {ps:List V} {L:List (Int×Int)} (h:Cs p H ps L):ps.length=L.length:=Paired.length h
theorem Cs.mem {p:Addr} {H:Hp}:∀ {ps:List V} {L:List (Int×Int)},Cs p H ps L->∀ x∈ps,∃ ij∈L,∃ d,d≠p/\x=.ref d/\H d=some (.tup [.int ij.1,.int ij.2])
  | _,_,.nil,x,h=>nomatch h
  | _,_,.cons r t,x,h=>by
    rcases List.mem_cons.mp h with e | e
    · subst e;exact ⟨_,List.mem_cons_self,r⟩
    · obtain ⟨ij,m,q⟩:=Cs.mem t x e;exact ⟨ij,List.mem_cons_of_mem _ m,q⟩
def Before (a b:Int×Int):Prop:=a.1<b.1∨(a.1=b.1/\a.2<b.2)
structure Good (h w:Int) (L:List (Int×Int)):Prop where
  asc:L.Pairwise Before
  ins:∀ x∈L,0<=x.1/\x.1<h/\0<=x.2/\x.2<w
  len:L.length<=36
structure BoardAt (p:Addr) (H:Hp) (q:Addr) (h w:Int) (L:List (Int×Int)):Prop where
  ne:q≠p
  it:∃ c ps,c≠p/\H q=some (.tup [.int h,.int w,.ref c])/\H c=some (.tup ps)/\Cs p H ps L
  h1:1<=h
  h6:h<=6
  w1:1<=w
  w6:w<=6
  good:Good h w L
theorem BoardAt.kx {p:Addr} {H H':Hp} {q:Addr} {h w:Int} {L:List (Int×Int)} (B:BoardAt p H q h w L) (k:KX p H H'):BoardAt p H' q h w L:=by
  obtain ⟨ne,⟨c,ps,nc,e1,e2,cs⟩,h1,h6,w1,w6,g⟩:=B
  exact ⟨ne,⟨c,ps,nc,k q _ ne e1,k c _ nc e2,cs.kx k⟩,h1,h6,w1,w6,g⟩
theorem Qgc (x:Int) {m:Int} (h:0<m):0<=x % m/\x % m<m:=⟨Int.emod_nonneg _ (by omega),Int.emod_lt_of_pos _ h⟩
def notStar:Expr->Bool
  | .Starred _ _=>false
  | _=>true
theorem QaS {e:Expr} {es:List Expr} {env:Env} (h:notStar e=true):starEach (e::es) env=(false,eval e env)::starEach es env:=by
  cases e<;>first | rfl | cases h
section
variable {X:Cx}
theorem pa_c {e:Expr} {es:List Expr} {te:TE} {t:TA} (ha:PE X e te) (hr:PA X es t) (hs:notStar e=true:=by rfl):PA X (e::es) (Qgx te t):=Qc9 ha hr (QaS hs)
end
theorem KnD.mono {p:Addr} {H:Hp} {x:V} {n m:Nat} (h:m<=n) (k:KnD p n H x):KnD p m H x:=by
  induction n with
  | zero=>
            have:m=0:=by omega
            subst this;exact k
  | succ n ih=>
    by_cases e:m=n+1
    · subst e;exact k
    · exact ih (by omega) k.low
def Sm (H:Hp) (x:V):Prop:=∀ ps,Qck H x=some ps->ps.length<sizeLine
def Part (p:Addr) (H:Hp) (x:V):Prop:=KnD p 2 H x/\Sm H x
def Thing (p:Addr) (H:Hp) (x:V):Prop:=KnD p 3 H x/\Sm H x/\∀ xs,Qck H x=some xs->∀ y∈xs,Sm H y
theorem Sm.keep {p:Addr} {H H':Hp} (k:KX p H H') {x:V} (n:Kn p H x) (h:Sm H x):Sm H' x:=fun ps e=>h ps (by rw [<- Qb4 k n];exact e)
theorem Part.keep {p:Addr} {H H':Hp} (k:KX p H H') {x:V} (h:Part p H x):Part p H' x:=⟨h.1.keep k,h.2.keep k h.1.kn⟩
theorem Thing.keep {p:Addr} {H H':Hp} (k:KX p H H') {x:V} (h:Thing p H x):Thing p H' x:=
  ⟨h.1.keep k,h.2.1.keep k h.1.kn,fun xs e y hy=>by
    have e':Qck H x=some xs:=by rw [<- Qb4 k h.1.kn];exact e
    exact Sm.keep k (h.1.2 xs e' y hy).kn (h.2.2 xs e' y hy)⟩
theorem Thing.int {p:Addr} {H:Hp} (i:Int):Thing p H (.int i):=⟨KnD.int i 3,(fun _ e=>nomatch e),(fun _ e=>nomatch e)⟩
theorem Thing.bl {p:Addr} {H:Hp} (i:Bool):Thing p H (.bl i):=⟨KnD.bl i 3,(fun _ e=>nomatch e),(fun _ e=>nomatch e)⟩
theorem Thing.str {p:Addr} {H:Hp} (i:Str):Thing p H (.str i):=⟨KnD.str i 3,(fun _ e=>nomatch e),(fun _ e=>nomatch e)⟩
theorem Thing.non {p:Addr} {H:Hp}:Thing p H .non:=⟨KnD.non 3,(fun _ e=>nomatch e),(fun _ e=>nomatch e)⟩
theorem Qf3 {H:Hp} {a:Addr} {o:HO} (e:H a=some o) (h:tupO (some o)=none) {xs:List V} (z:Qck H (.ref a)=some xs):False:=by
  rw [tupOf_at,e,h] at z;cases z
theorem Thing.lst {p:Addr} {H:Hp} {a:Addr} {xs:List V} (hp:a≠p) (e:H a=some (.lst xs)):Thing p H (.ref a):=⟨KnD.lst hp e 3,(fun _ z=>(Qf3 e rfl z).elim),(fun _ z=>(Qf3 e rfl z).elim)⟩
theorem Thing.dct {p:Addr} {H:Hp} {a:Addr} {xs:List (Key×V)} (hp:a≠p) (e:H a=some (.dK xs)):Thing p H (.ref a):=⟨KnD.dct hp e 3,(fun _ z=>(Qf3 e rfl z).elim),(fun _ z=>(Qf3 e rfl z).elim)⟩
theorem Qdy {H:Hp} {a:Addr} {xs ys:List V} (e:H a=some (.tup xs)) (z:Qck H (.ref a)=some ys):ys=xs:=by
  rw [Qey e] at z;cases z;rfl
theorem Thing.tup {p:Addr} {H:Hp} {a:Addr} {xs:List V} (hp:a≠p) (e:H a=some (.tup xs)) (hl:xs.length<sizeLine) (h:∀ y∈xs,Part p H y):Thing p H (.ref a):=
  ⟨KnD.tup hp e fun y hy=>(h y hy).1,(fun ps z=>by rw [Qdy e z];exact hl),fun ys z y hy=>by rw [Qdy e z] at hy;exact (h y hy).2⟩
theorem Part.tup {p:Addr} {H:Hp} {a:Addr} {xs:List V} (hp:a≠p) (e:H a=some (.tup xs)) (hl:xs.length<sizeLine) (h:∀ y∈xs,KnD p 1 H y):Part p H (.ref a):=
  ⟨KnD.tup hp e h,fun ps z=>by rw [Qdy e z];exact hl⟩
theorem Thing.part {p:Addr} {H:Hp} {x:V} (h:Thing p H x):Part p H x:=⟨h.1.low,h.2.1⟩
theorem fm_nil {P:V->Prop}:∀ y∈([]:List V),P y:=fun _ h=>nomatch h
theorem Qig {P:V->Prop} {a:V} {l:List V} (h:P a) (k:∀ y∈l,P y):∀ y∈a::l,P y:=fun y hy=>by
  rcases List.mem_cons.mp hy with e | e
  · subst e;exact h
  · exact k y e
theorem Cs.kn {p:Addr} {H:Hp} {ps:List V} {L:List (Int×Int)} (h:Cs p H ps L):∀ x∈ps,KnD p 1 H x:=fun x hx=>by
  obtain ⟨ij,_,d,n,rfl,e⟩:=h.mem x hx
  exact KnD.tup n e (Qig (KnD.int _ 0) (Qig (KnD.int _ 0) fm_nil))
theorem Cs.part {p:Addr} {H:Hp} {c:Addr} {ps:List V} {L:List (Int×Int)} (n:c≠p) (e:H c=some (.tup ps)) (hl:ps.length<sizeLine) (h:Cs p H ps L):Part p H (.ref c):=Part.tup n e hl h.kn
theorem lt_line {n:Nat} (h:n<=1000):n<sizeLine:=Nat.lt_of_le_of_lt h (by decide)
def Fine (p:Addr):Nat->Hp->V->Prop
  | 0,H,x=>Kn p H x/\Sm H x
  | n+1,H,x=>Kn p H x/\Sm H x/\∀ xs,Qck H x=some xs->∀ y∈xs,Fine p n H y
theorem Fine.kn {p:Addr} {H:Hp} {x:V}:∀ {n:Nat},Fine p n H x->Kn p H x
  | 0,h=>h.1
  | _+1,h=>h.1
theorem Fine.sm {p:Addr} {H:Hp} {x:V}:∀ {n:Nat},Fine p n H x->Sm H x
  | 0,h=>h.2
  | _+1,h=>h.2.1
theorem Fine.knd {p:Addr} {H:Hp}:∀ {n:Nat} {x:V},Fine p n H x->KnD p n H x
  | 0,_,h=>h.1
  | _+1,_,h=>⟨h.1,fun xs e y hy=>(h.2.2 xs e y hy).knd⟩
theorem Fine.keep {p:Addr} {H H':Hp} (k:KX p H H'):∀ {n:Nat} {x:V},Fine p n H x->Fine p n H' x
  | 0,x,h=>⟨h.1.keep k,h.2.keep k h.1⟩
  | n+1,x,h=>⟨h.1.keep k,h.2.1.keep k h.1,fun xs e y hy=>(h.2.2 xs (by rw [<- Qb4 k h.1];exact e) y hy).keep k⟩
theorem Fine.thing {p:Addr} {H:Hp} {x:V} (h:∀ n,Fine p n H x):Thing p H x:=⟨(h 3).knd,(h 0).2,fun xs e y hy=>((h 1).2.2 xs e y hy).2⟩
theorem QcF {p:Addr} {H:Hp} {x:V} (k:Kn p H x) (t:Qck H x=none):∀ n,Fine p n H x
  | 0=>⟨k,fun ps e=>by rw [t] at e;cases e⟩
  | _+1=>⟨k,(fun ps e=>by rw [t] at e;cases e),fun ps e=>by rw [t] at e;cases e⟩
theorem QjS {p a:Addr} {H:Hp} {xs:List V} (hp:a≠p) (e:H a=some (.tup xs)) (hl:xs.length<sizeLine) (h:∀ y∈xs,∀ n,Fine p n H y):∀ n,Fine p n H (.ref a)
  | 0=>⟨⟨hp,.inl ⟨xs,e⟩⟩,fun ps z=>by rw [Qdy e z];exact hl⟩
  | n+1=>⟨⟨hp,.inl ⟨xs,e⟩⟩,(fun ps z=>by rw [Qdy e z];exact hl),fun ys z y hy=>h y (by rw [Qdy e z] at hy;exact hy) n⟩
theorem QjT {p a:Addr} {H:Hp} {xs:List V} (hp:a≠p) (e:H a=some (.lst xs)):∀ n,Fine p n H (.ref a):=QcF ⟨hp,.inr (.inl ⟨xs,e⟩)⟩ (by rw [tupOf_at,e];rfl)
section
variable {X:Cx}
end
def tTupW (t:TA):TE:=fun σ H Q=>t σ H fun xs H1=>xs.length<=1000/\∀ a H2,Same H1 H2->H1 a=none->H2 a=some (.tup xs)->Q (.ref a) H2
def tLstW (t:TA):TE:=fun σ H Q=>t σ H fun xs H1=>xs.length<=1000/\∀ a H2,Same H1 H2->H1 a=none->H2 a=some (.lst xs)->Q (.ref a) H2
section
variable {X:Cx}
theorem Qld {es:List Expr} {t:TA} {x1} {pos:Pos} (h:PA X es t):PE X (.Tuple es x1 pos) (tTupW t):=by
  intro pins s σ H Q I hq
  refine wpAny_Tuple_spliced (thn (h pos pins s σ H _ I hq) fun us s1 ⟨xs,H1,I1,r,z,q⟩=>⟨by rw [<- r.length];exact Nat.le_of_lt (lt_line z),?_⟩)
  have hf:H1 s1.heap.objs.size=none:=I1.hok.fresh (Nat.le_refl _)
  refine ⟨.ref s1.heap.objs.size,upd H1 s1.heap.objs.size (.tup xs),I1.laid (t':=s1.toks) (fun b u e=>Heap.get?_push_of_some _ e) (Nat.le_refl _) ?_,rfl,q _ _ (Qar hf) hf Qaq⟩
  exact ⟨Nat.le_of_lt (lt_line z),us,r,⟨_,Heap.get?_push_size _ rfl,rfl,_,rfl⟩⟩
theorem Qle {es:List Expr} {t:TA} {pos:Pos} (h:PA X es t):PE X (.List es pos) (tLstW t):=by
  intro pins s σ H Q I hq
  refine wpAny_List_spliced (thn (h pos pins s σ H _ I hq) fun us s1 ⟨xs,H1,I1,r,z,q⟩=>⟨by rw [<- r.length];exact Nat.le_of_lt (lt_line z),?_⟩)
  have hf:H1 s1.heap.objs.size=none:=I1.hok.fresh (Nat.le_refl _)
  refine ⟨.ref s1.heap.objs.size,upd H1 s1.heap.objs.size (.lst xs),I1.laid (t':=s1.toks) (fun b u e=>Heap.get?_push_of_some _ e) (Nat.le_refl _) ?_,rfl,q _ _ (Qar hf) hf Qaq⟩
  exact ⟨Nat.le_of_lt (lt_line z),us,0,r,Heap.get?_push_size _ rfl⟩
end
def FineA (p:Addr) (H:Hp) (x:V):Prop:=∀ n,Fine p n H x
theorem FineA.keep {p:Addr} {H H':Hp} {x:V} (h:FineA p H x) (k:KX p H H'):FineA p H' x:=fun n=>(h n).keep k
theorem FineA.int {p:Addr} {H:Hp} (i:Int):FineA p H (.int i):=QcF trivial rfl
theorem FineA.bl {p:Addr} {H:Hp} (i:Bool):FineA p H (.bl i):=QcF trivial rfl
theorem FineA.tup {p a:Addr} {H:Hp} {xs:List V} (hp:a≠p) (e:H a=some (.tup xs)) (hl:xs.length<=1000) (h:∀ y∈xs,FineA p H y):FineA p H (.ref a):=QjS hp e (lt_line hl) h
theorem FineA.lst {p a:Addr} {H:Hp} {xs:List V} (hp:a≠p) (e:H a=some (.lst xs)):FineA p H (.ref a):=QjT hp e
theorem FineA.thing {p:Addr} {H:Hp} {x:V} (h:FineA p H x):Thing p H x:=Fine.thing h
theorem FineA.part {p:Addr} {H:Hp} {x:V} (h:FineA p H x):Part p H x:=(Fine.thing h).part
end Rk
namespace Rx
open PySem PySem.Spec PySem.Calls PyProof.Rows L2 PySem.W Builtin Builtin.ObjectAttr Builtin.Getset_descriptor
def ExAt (a C:Addr) (h:Heap):Prop:=∃ o vs,h.get? a=some o/\o.cls=.ref C/\o.data=.fields vs
theorem ExAt.ty {M:Model} {h:Heap} {a C:Addr} (x:ExAt a C h):Looks M h (typeOf (.ref a)) (.ref C):=by
  obtain ⟨o,vs,e,c,_⟩:=x
  exact c ▸ (Looks.ld e).andThen .now
structure ExC (K:PySem.W.Frag) (C:Addr):Prop where
  ga:findIn K (.ref C) "__getattribute__" = some (some (.builtin "BaseException.__getattribute__"))
  hk:findIn K (.ref C) "__getattr__" = some none
  bas:mroIn K C (.type "BaseException")=some true
  cls:(clsIn K C).isSome=true
  att:findIn K (.ref C) "__class__" = some (some (.builtin "object.__class__"))
  spc:specialIn K (.builtin "object.__class__") "__get__" = some (some (.builtin "getset_descriptor.__get__"))
  tks:takesIn K (.builtin "object.__class__")=some true
  mro:mroIn K C (.type "object")=some true
section
variable {prog:Program} {w:World} {A:Around} {E:Value->Shared->Prop} {s:Shared} {K:PySem.W.Frag} {a C:Addr}
end
end Rx
namespace Rx
open PySem PySem.Spec PySem.Calls PyProof.Rows L2
section
variable {X:Cx} {E:XK} {C:Addr} {x:Str} {e0:Expr} {te:TE} {np cpos pos:Pos}
end
def exO (a C:Addr):HO:=.ext (ExAt a C)
structure ByC (K:PySem.W.Frag) (C R:Addr):Prop where
  ty:PySem.W.typeIn K (.ref R)=some (.type "type")
  cls:(PySem.W.clsIn K R).isSome=true
  base:PySem.W.mroIn K R (.type "BaseException")=some true
  sub:PySem.W.mroIn K C (.ref R)=some true
section
variable {X:Cx} {pins:List (Addr×Obj)} {σ:L2.St} {H:Hp} {s:Shared}
end
def XP (X:Cx) (pins:List (Addr×Obj)) (Ex:L2.St->Addr->Hp->Prop) (e:Value) (s1:Shared):Prop:=
  ∃ (σ:L2.St) (C:Addr) (H':Hp) (a t:Addr) (B:Heap),e=.ref a/\Heap.FlyingW B X.stack a (.ref C) (.ref t) s1.heap/\H' a=none/\X.s₀.heap.get? a=none/\(∀ p∈X.pn++pins,p.1≠a) /\
    (∀ (h2:Heap) (tk:Nat),B.StaysIn h2->s1.heap.UpToSlots h2->Inv X pins σ H' { s1 with heap:=h2,toks:=tk })/\Ex σ C H'
abbrev TX:=L2.St->Hp->VK->(Addr->Hp->Prop)->Prop
def PEX (X:Cx) (e:Expr) (t:TX):Prop:=∀ (pins:List (Addr×Obj)) (s:Shared) (σ:L2.St) (H:Hp) (Q:VK) (Ex:Addr->Hp->Prop),Inv X pins σ H s->t σ H Q Ex ->
  wpAny (model X.prog X.w) X.A (eval e X.env) (EP X pins σ Q) (XP X pins fun σ1 C H1=>σ1=σ/\Ex C H1) s
section
variable {X:Cx} {k:Nat} {f:Addr} {fd:FuncData} {ps:List Str} {sp:Sp} {x:Str} {p pos:Pos} {e:Expr} {es:List Expr} {t:TA}
end
section
variable {X:Cx} {R:Addr} {i:Nat} {n r:Str} {call hx:Expr} {tc:TX} {th:TE} {rp np hp hpos pos:Pos}
end
structure RoomM (k:Nat) (A:Around):Prop where
  dp:A.depth+3*k+5<recursionLimit
  un:A.units+16*k+200<cLine
theorem RoomM.mono {j k:Nat} {A:Around} (r:RoomM k A) (h:j<=k):RoomM j A:=⟨by have:=r.dp;omega,by have:=r.un;omega⟩
section
variable {P:Program} {w:World} {K:PySem.W.Frag} {mg:Str->Option Value} {base:Heap}
end
section
variable {X:Cx} {k:Nat} {f:Addr} {fd:FuncData} {ps:List Str} {sp:Sp} {x:Str} {p pos:Pos} {e:Expr} {es:List Expr} {t:TA}
end
section
variable {X:Cx}
theorem bools_eq {bs:List Bool} {us:List Value} (r:Vals (bs.map V.bl) us):us=bs.map Value.bool:=by
  induction bs generalizing us with
  | nil=>cases r;rfl
  | cons b bs ih=>
    cases r with
    | cons r t=>
      cases (show _=Value.bool b from r)
      rw [ih t]
      rfl
end
end Rx
namespace Rd
open PySem PySem.Spec PyProof.Rows L2
mutual
inductive Dat (H:Hp):V->PyData->Prop
  | non:Dat H .non .none
  | bl (b:Bool):Dat H (.bl b) (.bool b)
  | int (i:Int):Dat H (.int i) (.int i)
  | str (x:Str):PyData.canLay0 (.str x)=true->Dat H (.str x) (.str x)
  | tup {a:Addr} {xs:List V} {ds:List PyData}:H a=some (.tup xs)->Dats H xs ds->Dat H (.ref a) (.tuple ds)
  | lst {a:Addr} {xs:List V} {ds:List PyData}:H a=some (.lst xs)->Dats H xs ds->Dat H (.ref a) (.list ds)
inductive Dats (H:Hp):List V->List PyData->Prop
  | nil:Dats H [] []
  | cons {x:V} {xs:List V} {d:PyData} {ds:List PyData}:Dat H x d->Dats H xs ds->Dats H (x::xs) (d::ds)
end
mutual
theorem QaO {P:Program} {w:World} {H:Hp} {h:Heap} (ok:HOk P w H h):∀ (d:PyData) (x:V) (v:Value),Dat H x d->RelV x v->(∃ as,Reads h v d as)/\d.canLay0=true
  | .none,_,v,.non,r=>by cases r;exact ⟨⟨_,.none⟩,rfl⟩
  | .bool b,_,v,.bl _,r=>by cases r;exact ⟨⟨_,.bool b⟩,rfl⟩
  | .int i,_,v,.int _,r=>by obtain ⟨t,rfl⟩:=r;exact ⟨⟨_,.int i t⟩,rfl⟩
  | .str z,_,v,.str _ c,r=>by obtain ⟨t,rfl⟩:=r;exact ⟨⟨_,.str z t⟩,c⟩
  | .tuple ds,_,v,.tup (a:=a) (xs:=xs) e q,r=>by
    cases r
    obtain ⟨_,its,rv,o,ho,hc,n,hd⟩:=ok a _ e
    obtain ⟨⟨as,ra⟩,cl⟩:=Qa7 ok ds xs its q rv
    exact ⟨⟨as,.tuple ho hc hd ra⟩,cl⟩
  | .list ds,_,v,.lst (a:=a) (xs:=xs) e q,r=>by
    cases r
    obtain ⟨_,its,n,rv,ho⟩:=ok a _ e
    obtain ⟨⟨as,ra⟩,cl⟩:=Qa7 ok ds xs its q rv
    exact ⟨⟨a::as,.list ho rfl rfl ra⟩,cl⟩
  | .dict _,_,_,q,_=>nomatch q
theorem Qa7 {P:Program} {w:World} {H:Hp} {h:Heap} (ok:HOk P w H h):∀ (ds:List PyData) (xs:List V) (vs:List Value),Dats H xs ds->Vals xs vs->(∃ as,ReadsAll h vs ds as)/\PyData.canLayAll0 ds=true
  | [],_,vs,.nil,r=>by cases r;exact ⟨⟨_,.nil⟩,rfl⟩
  | d::ds,_,vs,.cons (x:=x) (xs:=xs) q qs,r=>by
    cases r with
    | cons r rs=>
      obtain ⟨⟨a1,r1⟩,c1⟩:=QaO ok d x _ q r
      obtain ⟨⟨a2,r2⟩,c2⟩:=Qa7 ok ds xs _ qs rs
      exact ⟨⟨_,.cons r1 r2⟩,by simp [PyData.canLayAll0,c1,c2]⟩
end
mutual
theorem Qgg {H H':Hp} (s:Same H H'):∀ (d:PyData) (x:V),Dat H x d->Dat H' x d
  | .none,_,.non=>.non
  | .bool _,_,.bl _=>.bl _
  | .int _,_,.int _=>.int _
  | .str _,_,.str _ c=>.str _ c
  | .tuple ds,_,.tup (xs:=xs) e q=>.tup (s _ _ e) (Qcs s ds xs q)
  | .list ds,_,.lst (xs:=xs) e q=>.lst (s _ _ e) (Qcs s ds xs q)
  | .dict _,_,q=>nomatch q
theorem Qcs {H H':Hp} (s:Same H H'):∀ (ds:List PyData) (xs:List V),Dats H xs ds->Dats H' xs ds
  | [],_,.nil=>.nil
  | d::ds,_,.cons (x:=x) (xs:=xs) q qs=>.cons (Qgg s d x q) (Qcs s ds xs qs)
end
theorem Dat.same {H H':Hp} {x:V} {d:PyData} (q:Dat H x d) (s:Same H H'):Dat H' x d:=Qgg s d x q
theorem Dats.same {H H':Hp} {xs:List V} {ds:List PyData} (q:Dats H xs ds) (s:Same H H'):Dats H' xs ds:=Qcs s ds xs q
theorem Dats.length {H:Hp}:∀ {xs:List V} {ds:List PyData},Dats H xs ds->xs.length=ds.length
  | _,_,.nil=>rfl
  | _,_,.cons _ q=>by rw [List.length_cons,List.length_cons,q.length]
theorem Dats.get {H:Hp}:∀ {xs:List V} {ds:List PyData},Dats H xs ds->∀ (i:Nat) (x:V),xs[i]? = some x->∃ d,ds[i]? = some d/\Dat H x d
  | _,_,.nil,i,x,e=>by simp at e
  | _,_,.cons q qs,0,x,e=>by simp at e;subst e;exact ⟨_,rfl,q⟩
  | _,_,.cons q qs,i+1,x,e=>qs.get i x (by simpa using e)
theorem Dats.app {H:Hp}:∀ {xs ys:List V} {ds es:List PyData},Dats H xs ds->Dats H ys es->Dats H (xs++ys) (ds++es)
  | _,_,_,_,.nil,q=>q
  | _,_,_,_,.cons a b,q=>.cons a (b.app q)
section
variable {X:Cx}
def rEqD (X:Cx):R2:=fun x y H Q=>∃ dx dy,Dat H x dx/\Dat H y dy/\X.A.units+min dx.depth dy.depth<cLine/\Q (.bl (PyData.eqv dx dy)) H
theorem op_eqD:OpR X (compareOp .Eq) (rEqD X):=by
  intro pins s σ H x y v u Q I rx ry h
  obtain ⟨dx,dy,qx,qy,hu,q⟩:=h
  obtain ⟨⟨as,ra⟩,ca⟩:=QaO I.hok dx x v qx rx
  obtain ⟨⟨bs,rb⟩,cb⟩:=QaO I.hok dy y u qy ry
  exact SeqAt.compareEq_reads ra rb ca cb hu ⟨.bl _,H,I,rfl,q⟩
open Classical in
noncomputable def eqH (h:Heap) (d:PyData) (y:Value):Bool:=decide (∃ e as,Reads h y e as/\e.canLay0=true/\PyData.eqv e d=true)
open Classical in
theorem eqH_t {h:Heap} {d:PyData} {y:Value} (q:∃ e as,Reads h y e as/\e.canLay0=true/\PyData.eqv e d=true):eqH h d y=true:=by
  unfold eqH
  exact decide_eq_true q
open Classical in
theorem eqH_f {h:Heap} {d:PyData} {y:Value} (q:¬ ∃ e as,Reads h y e as/\e.canLay0=true/\PyData.eqv e d=true):eqH h d y=false:=by
  unfold eqH
  exact decide_eq_false q
theorem Qkq {h:Heap} {d e:PyData} {y:Value} {as:List Addr} (r:Reads h y e as) (c:e.canLay0=true):eqH h d y=PyData.eqv e d:=by
  cases q:PyData.eqv e d with
  | true=>exact eqH_t ⟨e,as,r,c,q⟩
  | false=>
    refine eqH_f fun ⟨e',as',r',c',q'⟩=>?_
    rw [<- SeqAt.Reads.unique e e' y as as' c r r',q] at q'
    cases q'
theorem Qdr {h:Heap} {d:PyData}:∀ {vs:List Value} {ds:List PyData} {as:List Addr},ReadsAll h vs ds as->PyData.canLayAll0 ds=true->vs.any (eqH h d)=ds.any fun e=>PyData.eqv e d
  | _,_,_,.nil,_=>rfl
  | _,_,_,.cons r rs,c=>by
    simp only [PyData.canLayAll0,Bool.and_eq_true] at c
    rw [List.any_cons,List.any_cons,Qkq r c.1,Qdr rs c.2]
theorem Qde {A:Around} {s:Shared} {d:PyData} {v:Value} {bs:List Addr} (rv:Reads s.heap v d bs) (cv:d.canLay0=true):∀ {vs:List Value} {ds:List PyData} {as:List Addr},ReadsAll s.heap vs ds as->PyData.canLayAll0 ds=true->A.units+d.depth<cLine ->
    ∀ u∈vs,SeqAt.EqAt A s u v (eqH s.heap d u)
  | _,_,_,.nil,_,_=>fun u hu=>nomatch hu
  | _,_,_,.cons (d:=e) r rs,c,hu=>fun u hm=>by
    simp only [PyData.canLayAll0,Bool.and_eq_true] at c
    rcases List.mem_cons.mp hm with z | z
    · subst z
      rw [Qkq r c.1]
      exact SeqAt.eqAt_reads e d A s _ v _ bs r rv c.1 cv (Nat.lt_of_le_of_lt (Nat.add_le_add_left (Nat.min_le_right _ _) _) hu)
    · exact Qde rv cv rs c.2 hu u z
def rInD (X:Cx) (neg:Bool):R2:=fun x y H Q=>∃ c ps ds d,y=.ref c/\H c=some (.tup ps)/\Dats H ps ds/\Dat H x d/\X.A.in1.units+d.depth<cLine/\Q (.bl (if neg then !(ds.any fun e=>PyData.eqv e d) else ds.any fun e=>PyData.eqv e d)) H
theorem op_inD:OpR X (compareOp .In) (rInD X false):=by
  intro pins s σ H x y v u Q I rx ry h
  obtain ⟨c,ps,ds,d,rfl,hc,qs,qx,hu,q⟩:=h
  cases ry
  obtain ⟨⟨as,ra⟩,ca⟩:=QaO I.hok d x v qx rx
  obtain ⟨_,its,rv,tp⟩:=I.hok c _ hc
  obtain ⟨⟨bs,rb⟩,cb⟩:=Qa7 I.hok ds ps its qs rv
  refine SeqAt.in_tupleAt (eqH s.heap d) tp (fun w hw=>Qde ra ca rb cb hu w (List.mem_toArray.mp hw)) ⟨.bl _,H,I,rfl,?_⟩
  rw [show its.toArray.any (eqH s.heap d)=its.any (eqH s.heap d) by simp,Qdr rb cb]
  exact q
theorem QhG:OpR X (compareOp .NotIn) (rInD X true):=by
  intro pins s σ H x y v u Q I rx ry h
  obtain ⟨c,ps,ds,d,rfl,hc,qs,qx,hu,q⟩:=h
  cases ry
  obtain ⟨⟨as,ra⟩,ca⟩:=QaO I.hok d x v qx rx
  obtain ⟨_,its,rv,tp⟩:=I.hok c _ hc
  obtain ⟨⟨bs,rb⟩,cb⟩:=Qa7 I.hok ds ps its qs rv
  refine SeqAt.notIn_tupleAt (eqH s.heap d) tp (fun w hw=>Qde ra ca rb cb hu w (List.mem_toArray.mp hw)) ⟨.bl _,H,I,rfl,?_⟩
  rw [show its.toArray.any (eqH s.heap d)=its.any (eqH s.heap d) by simp,Qdr rb cb]
  exact q
end
section
variable {X:Cx}
end
end Rd
namespace L2
open PySem PySem.Spec PyProof.Rows
section
variable {X:Cx}
end
section
variable {prog:Program} {w:World} {A:Around} {R:Result->Shared->Prop} {s:Shared}
end
end L2
namespace Rk
open PySem PySem.Spec PyProof.Rows L2 Rd
def pairD (ij:Int×Int):PyData:=.tuple [.int ij.1,.int ij.2]
theorem QdR (b:Int×Int):PyData.depth (pairD b)=1:=by
  unfold pairD
  simp [PyData.depth,PyData.depthAll]
end Rk
namespace Rr
open PySem PyProof.Rows
section
variable {prog:Program} {w:World} {A:Around} {E:Value->Shared->Prop} {s:Shared}
end
end Rr
namespace L2
open PySem PySem.Spec PyProof.Rows
section
variable {X:Cx}
end
end L2
namespace Rs
open PySem PySem.W PyProof.Rows
def sp {α:Type} (n:Nat) (c:Nat->Nat->Bool):KasT α->(α->Prop)->Prop
  | .ret a,Q=>Q a
  | .ask i j f,Q=>i<n/\j<n/\sp n c (f (c i j)) Q
section
variable {n:Nat} {K:Nat->Int}
structure Good (n:Nat) (p:Array Nat):Prop where
  perm:p.toList.Perm (List.range n)
theorem Good.size {p:Array Nat} (g:Good n p):p.size=n:=by
  have:=g.perm.length_eq
  rw [List.length_range,Array.length_toList] at this
  exact this
def at_ (p:Array Nat) (i:Nat):Nat:=p.getD i 0
theorem QiJ {p:Array Nat} {i:Nat} (h:i<p.size):p[i]? = some (at_ p i):=by
  unfold at_
  rw [Array.getD_eq_getD_getElem?,Array.getElem?_eq_getElem h]
  rfl
theorem Good.lt {p:Array Nat} (g:Good n p) (h0:0<n) (i:Nat):at_ p i<n:=by
  by_cases h:i<p.size
  · have e:=QiJ h
    have m:at_ p i∈p.toList:=by
      have:=Array.mem_of_getElem? e
      exact Array.mem_toList_iff.mpr this
    exact List.mem_range.mp (g.perm.mem_iff.mp m)
  · unfold at_
    rw [Array.getD_eq_getD_getElem?,Array.getElem?_eq_none (by omega)]
    exact h0
theorem Good.inj {p:Array Nat} (g:Good n p) {i j:Nat} (hi:i<n) (hj:j<n) (e:at_ p i=at_ p j):i=j:=by
  have nd:p.toList.Nodup:=g.perm.nodup_iff.mpr List.nodup_range
  have hs:=g.size
  have hi':i<p.toList.length:=by rw [Array.length_toList];omega
  have hj':j<p.toList.length:=by rw [Array.length_toList];omega
  have ei:p.toList[i]=at_ p i:=by
    have:=QiJ (p:=p) (i:=i) (by omega)
    rw [Array.getElem?_eq_getElem (by omega)] at this
    rw [Array.getElem_toList]
    exact Option.some.inj this
  have ej:p.toList[j]=at_ p j:=by
    have:=QiJ (p:=p) (i:=j) (by omega)
    rw [Array.getElem?_eq_getElem (by omega)] at this
    rw [Array.getElem_toList]
    exact Option.some.inj this
  have pw:=List.pairwise_iff_getElem.mp nd
  rcases Nat.lt_trichotomy i j with h | h | h
  · exact absurd (ei.trans (e.trans ej.symm)) (pw i j hi' hj' h)
  · exact h
  · exact absurd (ej.trans (e.symm.trans ei.symm)) (pw j i hj' hi' h)
def kk (K:Nat->Int) (p:Array Nat) (i:Nat):Int:=K (at_ p i)
def Adj (K:Nat->Int) (p:Array Nat) (m:Nat):Prop:=∀ i,i+1<m->kk K p i<=kk K p (i+1)
theorem Adj.le {p:Array Nat} {m:Nat} (h:Adj K p m) {i:Nat}:∀ {j:Nat},i<=j->j<m->kk K p i<=kk K p j
  | 0,hij,_=>by cases Nat.le_zero.mp hij;exact Int.le_refl _
  | j+1,hij,hj=>by
    by_cases e:i=j+1
    · rw [e];exact Int.le_refl _
    · exact Int.le_trans (h.le (i:=i) (j:=j) (by omega) (by omega)) (h j hj)
end
end Rs
namespace Rs
open PySem PySem.W PySem.Calls PyProof.Rows
section
variable {prog:Program} {w:World} {A:Around} {E:Value->Shared->Prop} {s:Shared}
def Kept (a:Addr) (h h':Heap):Prop:=∀ b x,b≠a->h.get? b=some x->h'.get? b=some x
theorem QdW {h:Heap} {a:Addr} (f:Obj->Obj):Kept a h (h.update a f):=fun b x hb e=>(Heap.get?_update_ne _ _ _ _ hb).trans e
theorem QeF {h:Heap} {a:Addr} (o:Obj):Kept a h (h.push o):=fun b x _ e=>Heap.get?_push_of_some _ e
theorem Kept.trans {a:Addr} {h h1 h2:Heap} (k:Kept a h h1) (k':Kept a h1 h2):Kept a h h2:=fun b x hb e=>k' b x hb (k b x hb e)
end
structure PairV (h:Heap) (v:Value) (ij:Int×Int):Prop where
  it:∃ (a:Addr) (o:Obj) (n:Nat) (t u:Tok),v=.ref a/\h.get? a=some o/\o.cls=.type "tuple" /\ o.data=.seq #[.int ij.1 t,.int ij.2 u] n
theorem PairV.keep {h h':Heap} {v:Value} {ij:Int×Int} (q:PairV h v ij) (k:∀ b x,h.get? b=some x->h'.get? b=some x):PairV h' v ij:=by
  obtain ⟨a,o,n,t,u,e,g,c,d⟩:=q.it
  exact ⟨a,o,n,t,u,e,k _ _ g,c,d⟩
inductive PairsV (h:Heap):List Value->List (Int×Int)->Prop
  | nil:PairsV h [] []
  | cons {v:Value} {vs:List Value} {ij:Int×Int} {L:List (Int×Int)}:PairV h v ij->PairsV h vs L->PairsV h (v::vs) (ij::L)
theorem PairsV.keep {h h':Heap} (k:∀ b x,h.get? b=some x->h'.get? b=some x):∀ {vs:List Value} {L:List (Int×Int)},PairsV h vs L->PairsV h' vs L
  | _,_,.nil=>.nil
  | _,_,.cons q r=>.cons (q.keep k) (r.keep k)
theorem PairsV.len {h:Heap}:∀ {vs:List Value} {L:List (Int×Int)},PairsV h vs L->vs.length=L.length
  | _,_,.nil=>rfl
  | _,_,.cons _ r=>by rw [List.length_cons,List.length_cons,r.len]
theorem PairsV.at_ {h:Heap}:∀ {vs:List Value} {L:List (Int×Int)},PairsV h vs L->∀ i,i<vs.length->PairV h (vs.getD i Value.none) (L.getD i (0,0))
  | _,_,.nil,i,hi=>by simp at hi
  | _,_,.cons q r,0,hi=>q
  | _,_,.cons q r,i+1,hi=>by
    have:=r.at_ i (by simpa using hi)
    simpa using this
section
variable {prog:Program} {w:World} {A:Around} {E:Value->Shared->Prop} {s:Shared}
end
end Rs
namespace L2
open PySem PySem.Spec PyProof.Rows _root_.Rd _root_.Rk _root_.Rs
section
variable {X:Cx}
theorem Qgq:∀ {ns:List Int} {vs:List Value},IntsAre vs ns->Vals (ns.map V.int) vs
  | _,_,.nil=>.nil
  | _,_,.cons n t r=>.cons ⟨t,rfl⟩ (Qgq r)
end
end L2
namespace Re
open PySem PyProof.Rows
open AutoSeq1 (wpAny_loadPart')
end Re
namespace L2
open PySem PySem.Spec PyProof.Rows
section
variable {X:Cx}
end
end L2
namespace Rk
open PySem PySem.Spec PyProof.Rows L2
end Rk
namespace L2
open PySem PySem.Spec PyProof.Rows
section
variable {X:Cx} {pins:List (Addr×Obj)} {σ:St} {H:Hp}
theorem Qdu {M:List Str} {scope:Scope} {fp:List Addr} {σ':St} {H3:Hp} {s3 s':Shared} {D:Addr} {i:Nat} {y:Str} {py:Pos} {Mo:Model} {A:Around} {E:Value->Shared->Prop} {Q:Value->Shared->Prop}
    (I3:Inv X pins σ H3 s3) (f3:∀ b∈fp,FpOk X pins H3 b) (J:Inv (blk X M scope (clOf X.env scope.names []) fp s3 H3 s3.heap.objs.size) [] σ' H s')
    (hN:X.N.Nodup) (hi:X.N[i]? = some y) (hl:X.env.scope.names.lookup y=some .local) (hq:∀ s2,Inv X pins (σ.set i (some (.ref D))) H s2->Q .none s2) :
    wpAny Mo A (assign (.Name y py) X.env (.ref D)) (fun _ s2=>∃ m,s2.heap.Ns s3.heap.objs.size m/\∀ h',Heap.SameBut s3.heap.objs.size s2.heap h'->Q .none { s2 with heap:=h' }) E s':=by
  have J0:Inv X pins σ H s':=QiH I3 f3 J (Heap.SameBut.refl ..)
  obtain ⟨m,hn,_⟩:=J.loc
  have hC:H s3.heap.objs.size=none:=J.free
  have lt:X.env.locals<s3.heap.objs.size:=I3.lt
  refine wpAny_assign_Name (QeA J0 hN hi (Or.inl hl) (show RelV (.ref D) (.ref D) from rfl) (fun s2 J2 ⟨a,sb,ha⟩=>?_) (.inr hl))
  have ea:a=X.env.locals∨X.env.cells.lookup y=some a:=ha
  have na:s3.heap.objs.size≠a:=by
    rcases ea with z | z
    · rw [z];exact Nat.ne_of_gt lt
    · obtain ⟨v,o,ho,_⟩:=I3.cell y a z
      exact Nat.ne_of_gt (Heap.lt_size ho)
  refine ⟨m,hn.sameBut sb na,fun h' hs=>hq _ ?_⟩
  refine J2.turned (t':=s2.toks) (it:=s3.heap.objs.size) (fun b o hb e=>hs.extBut b o hb e) hC (Nat.ne_of_gt lt) (.inr I3.sz) (fun x c e z=>?_) fun p hp z=>?_
  · obtain ⟨v,o,ho,_⟩:=I3.cell x c e
    exact absurd (z ▸ Heap.lt_size ho) (Nat.lt_irrefl _)
  · have e:=(I3.pin p hp).1
    exact absurd (z ▸ Heap.lt_size e) (Nat.lt_irrefl _)
end
theorem Qi8 {X:Cx} {M:List Str} {cap:List (Option Nat)} {elt tg iter:Expr} {ifs:List Expr} {scope:Scope} {pos:Pos} {wi:TI} {g:TG} {tc:TT} {te:TE} {i:Nat} {y:Str} {py spos:Pos} (hN:X.N.Nodup) (hiy:X.N[i]? = some y) (hly:X.env.scope.names.lookup y=some .local) (hc:X.calm=true) (ok:QfI X.N X.env.scope M scope cap=true)
    (hi:PI X tg iter wi) (hb:∀ cl ex s3 H3 C,PG (blk X M scope cl ex s3 H3 C) tg g/\PTs (blk X M scope cl ex s3 H3 C) ifs tc/\PE (blk X M scope cl ex s3 H3 C) elt te)
    (hs:∀ x,foldedSetIterable iter X.env x=pure x:=by intro _;rfl)  (hsw:swapsWith (.ListComp elt [⟨tg,iter,ifs,0⟩] scope pos) (some (.Name y py)) spos.line X.env=pure true:=by rfl):PS X (.Assign [.Name y py] (.ListComp elt [⟨tg,iter,ifs,0⟩] scope pos) spos) (tAsg (tComp cap wi g tc te) (QeU i)):=by
  intro pins s σ H D I h
  have c:=CapOk.of ok
  rw [exec_Assign_Name_used _ _ _ _ hsw]
  refine wpAny_bind (wpAny_standAt (wpAny_bind ?_))
  show wpAny _ X.A (do let _ <- comprehension (.ListComp elt [⟨tg,iter,ifs,0⟩] scope pos) scope X.env _ (newList []) false (eval iter X.env) (some (assign (.Name y py) X.env))) _ _ s
  refine wpAny_bind (wpAny_mono (wpAny_comprehension_free (use:=some (assign (.Name y py) X.env)) (Q:=fun _ s'=>SP X pins D .next s') rfl hs (Qiv (I.ok.cells c)) c.kind c.loc ?_) (fun _ s' hq=>wpAny_pure (wpAny_pure hq)) fun _ _ e=>e)
  refine thn (hi pins s σ H _ I h) fun v s1 h1=>thn h1 fun itv s2 h2=>?_
  obtain ⟨it,fp,tn,J,H2,e,I2,T,st2,f2,hW⟩:=h2
  subst e
  refine wpAny_newObj_type (wpAny_newFunctionEnv c.cell (by intro y hy;simp at hy) (fun h₁ hns₁ hsb₁=>?_) c.kind)
  have I3:Inv X pins σ (upd H2 s2.heap.objs.size (.lst [])) { s2 with heap:=s2.heap.push { cls:=.type "list",data:=.seq ([]:List Value).toArray } }:=I2.lnew (t':=s2.toks) (ys:=[]) .nil (Nat.zero_le _)
  have lt2:∀ b∈fp,b<s2.heap.objs.size:=fun b hb=>by obtain ⟨o,e,_⟩:=T.obj _ _ st2 b hb;exact Heap.lt_size e
  have f3:∀ b∈fp,FpOk X pins (upd H2 s2.heap.objs.size (.lst [])) b:=fun b hb=>(f2 b hb).upd (Nat.ne_of_lt (lt2 b hb))
  generalize hs3:({ s2 with heap:=s2.heap.push { cls:=.type "list",data:=.seq ([]:List Value).toArray } }:Shared)=s3 at I3
  have e3:s3.heap=s2.heap.push { cls:=.type "list",data:=.seq ([]:List Value).toArray }:=by rw [<- hs3]
  have z3:s3.heap.objs.size=s2.heap.objs.size+1:=by rw [e3,Heap.size_push]
  have hk:∀ b o,s3.heap.get? b=some o->h₁.get? b=some o:=fun b o e=>hsb₁.extBut b o (by
    have:=Heap.lt_size e
    rw [e3] at this
    exact Nat.ne_of_lt this) (Heap.get?_push_of_some _ (e3 ▸ e))
  have hn₁:h₁.Ns s3.heap.objs.size fun _=>none:=by rw [e3];exact hns₁
  have B:=Qe4 (t4:=s3.toks+([]:List (Str×Value)).length) (fp:=fp) I3 c f3 (fun b hb=>by rw [z3];exact Nat.lt_succ_of_lt (lt2 b hb)) hn₁ hk
  have st4:tn 0 h₁:=T.keep _ _ _ st2 fun b hb o e=>hk b o (by rw [e3];exact Heap.get?_push_of_some _ e)
  have fp4:∀ b∈fp,FpOk (blk X M scope (clOf X.env scope.names []) fp s3 (upd H2 s2.heap.objs.size (.lst [])) s3.heap.objs.size) [] (upd H2 s2.heap.objs.size (.lst [])) b:=fun b hb=>by
    refine ⟨(f3 b hb).1,(B.ok.exf b hb).1,B.ok.exfs b hb,.inl hb,(B.ok.exf b hb).2,fun p hp=>(nomatch hp)⟩
  obtain ⟨hg,ht,he⟩:=hb (clOf X.env scope.names []) fp s3 (upd H2 s2.heap.objs.size (.lst [])) s3.heap.objs.size
  have loop:codeAny (model X.prog X.w) X.A (.compLoop (.ListComp elt [⟨tg,iter,ifs,0⟩] scope pos) 0 (.ref it) (.ref s2.heap.objs.size) (compEnvC scope (clOf X.env scope.names []) s3.heap.objs.size X.env))
      (compPost (model X.prog X.w) X.A X.xe (some (assign (.Name y py) X.env)) (fun _ s'=>SP X pins D .next s') (.ref s2.heap.objs.size) s3.heap.objs.size) { s3 with heap:=h₁,toks:=s3.toks+([]:List (Str×Value)).length }:=by
    refine QeZ (Y:=blk X M scope (clOf X.env scope.names []) fp s3 (upd H2 s2.heap.objs.size (.lst [])) s3.heap.objs.size) (gens:=[⟨tg,iter,ifs,0⟩]) (d:=0) hc T st4 fp4
      (fun Q E s h=>QfP Q E s h) (fun x u r=>QiG rfl hg ht (fun σ4=>Qgp rfl he) x u r) B (hW _ (I2.hok.fresh (Nat.le_refl _))) fun s' H' I' q=>?_
    exact Qdu (Q:=fun _ s'=>SP X pins D .next s') I3 f3 I' hN hiy hly fun s2' J2=>⟨_,H',J2,q⟩
  exact codeAny_compStart_list loop (T.self _ 0 _ _ _ st4 loop)
end L2
namespace Rk
open PySem PySem.Spec PyProof.Rows L2 _root_.Rd
theorem Cs.get {p:Addr} {H:Hp}:∀ {ps:List V} {L:List (Int×Int)},Cs p H ps L->∀ (i:Nat) (x:V),ps[i]? = some x->∃ ij,L[i]? = some ij/\∃ d,d≠p/\x=.ref d/\H d=some (.tup [.int ij.1,.int ij.2])
  | _,_,.nil,i,x,e=>by simp at e
  | _,_,.cons r t,0,x,e=>by simp at e;subst e;exact ⟨_,rfl,r⟩
  | _,_,.cons r t,i+1,x,e=>by
    obtain ⟨ij,h1,h2⟩:=Cs.get t i x (by simpa using e)
    exact ⟨ij,by simpa using h1,h2⟩
section
variable {X:Cx}
def rNeD (X:Cx):R2:=fun x y H Q=>∃ dx dy,Dat H x dx/\Dat H y dy/\X.A.units+min dx.depth dy.depth<cLine/\Q (.bl (!PyData.eqv dx dy)) H
theorem op_neD:OpR X (compareOp .NotEq) (rNeD X):=by
  intro pins s σ H x y v u Q I rx ry h
  obtain ⟨dx,dy,qx,qy,hu,q⟩:=h
  obtain ⟨⟨as,ra⟩,ca⟩:=QaO I.hok dx x v qx rx
  obtain ⟨⟨bs,rb⟩,cb⟩:=QaO I.hok dy y u qy ry
  exact SeqAt.compareNe_reads ra rb ca cb hu ⟨.bl _,H,I,rfl,q⟩
end
theorem Cs.app {p:Addr} {H:Hp}:∀ {ps qs:List V} {L M:List (Int×Int)},Cs p H ps L->Cs p H qs M->Cs p H (ps++qs) (L++M)
  | _,_,_,_,.nil,h=>h
  | _,_,_,_,.cons r t,h=>.cons r (Cs.app t h)
end Rk
namespace Rk
open PySem PySem.Spec PyProof.Rows L2
def Qj2:List Str:=["text", "order", "lines", "few", "size", "many", "number", "stand", "cell", "square", "hits", "counts", "stairs", "alike", "parting", "place", "double", "deed", "row"]
def spKind (K:PySem.W.Frag) (cs:List Addr):Sp:=fun vs H Q _=>∃ (a C:Addr) (bs:List Bool) (j:Nat) (wd:Str),vs=[.ref a]/\H a=some (Rx.exO a C)/\Rx.ExC K C/\Paired (fun c b=>PySem.W.kitOne K (.ref C) (.ref c)=some b) cs bs/\PySem.W.kitOne K (.ref C) (.type "ValueError")=some true /\
  bs.countP id=1/\bs[j]? = some true/\(∀ m,m<j->bs[m]? = some false)/\Qj2[j]? = some wd/\∀ H',Same H H'->Q (.str wd) H'
end Rk
namespace Rx
open PySem PySem.Spec PySem.Calls PyProof.Rows L2
section
variable {X:Cx} {E:XK}
end
section
variable {X:Cx} {tf:TE} {fe:Expr} {pos:Pos} {e:Expr} {es:List Expr} {t:TA} {M:Addr->Sp->Prop}
end
end Rx
namespace Rk
open PySem PySem.Spec PyProof.Rows L2 _root_.Rd
structure GlbA (mg:Str->Option Value):Prop where
  isinstance:mg "isinstance" = none
  int:mg "int" = none
  bool:mg "bool" = none
  str:mg "str" = none
  tuple:mg "tuple" = none
  list:mg "list" = none
  all:mg "all" = none
  len:mg "len" = none
  zip:mg "zip" = none
  enumerate:mg "enumerate" = none
  range:mg "range" = none
  max:mg "max" = none
  min:mg "min" = none
  sorted:mg "sorted" = none
  sum:mg "sum" = none
  set:mg "set" = none
  any:mg "any" = none
  reversed:mg "reversed" = none
  divmod:mg "divmod" = none
structure KOk (K:PySem.W.Frag) (cs:List Addr) (R C:Addr) (wd:Str):Prop where
  by_:Rx.ByC K C R
  ex:∃ (bs:List Bool) (j:Nat),Rx.ExC K C/\Paired (fun c b=>PySem.W.kitOne K (.ref C) (.ref c)=some b) cs bs/\PySem.W.kitOne K (.ref C) (.type "ValueError")=some true/\bs.countP id=1/\bs[j]? = some true/\(∀ m,m<j->bs[m]? = some false)/\Qj2[j]? = some wd
def rInU (u:Nat) (neg:Bool):R2:=fun x y H Q=>∃ c ps ds d,y=.ref c/\H c=some (.tup ps)/\Dats H ps ds/\Dat H x d/\u+d.depth<cLine/\Q (.bl (if neg then !(ds.any fun e=>PyData.eqv e d) else ds.any fun e=>PyData.eqv e d)) H
theorem op_inU {X:Cx}:OpR X (compareOp .In) (rInU X.A.in1.units false):=op_inD
end Rk
namespace Rx
open PySem PySem.Spec PySem.Calls PyProof.Rows L2
section
variable {P:Program} {w:World} {K:PySem.W.Frag} {mg:Str->Option Value} {base:Heap}
end
end Rx
namespace Rk
open PySem PySem.Spec PyProof.Rows L2 _root_.Rd
def FinV (is js:List Nat) (p:Addr) (σ:L2.St) (H:Hp):Prop:=(∃ o,H p=some o)/\(∀ i∈is,∃ v,σ[i]? = some (some v)/\FineA p H v)/\∀ j∈js,∃ k,σ[j]? = some (some (.int k))
theorem FinV.same {is js:List Nat} {p:Addr} {σ:L2.St} {H H':Hp} (h:FinV is js p σ H) (s:Same H H'):FinV is js p σ H':=by
  obtain ⟨⟨o,ho⟩,h1,h2⟩:=h
  refine ⟨⟨o,s _ _ ho⟩,fun i hi=>?_,h2⟩
  obtain ⟨v,e,f⟩:=h1 i hi
  exact ⟨v,e,f.keep (KX.of s)⟩
section
variable {X:Cx} {is js:List Nat}
end
theorem handled {K:PySem.W.Frag} {cs:List Addr} {R C:Addr} {wd:Str} (o:KOk K cs R C wd) {H1:Hp} {Q:VK} {σ:L2.St} {i:Nat} (hi:i < σ.length) (k:∀ H',Same H1 H'->Q (.str wd) H') :
    Rx.ByC K C R/\∀ a,H1 a=none->(Qgx (tVar i) tNil) (σ.set i (some (.ref a))) (upd H1 a (Rx.exO a C)) fun vs H2=>spKind K cs vs H2 Q E0:=by
  refine ⟨o.by_,fun a ha=>?_⟩
  obtain ⟨bs,j,hx,pb,eV,hc,hj,hm,hw⟩:=o.ex
  exact ⟨_,List.getElem?_set_self hi,a,C,bs,j,wd,rfl,Qaq,hx,pb,eV,hc,hj,hm,hw,fun H2 s2=>k H2 ((Qar ha).trans s2)⟩
end Rk
namespace L2
open PySem PySem.Spec PyProof.Rows
theorem Qa4 {h:Heap} {a:Addr} {its:Array Value} (p:PlainL h a its):h.IsList a its:=by
  obtain ⟨o,n,h1,h2,_,h3⟩:=p
  exact ⟨o,h1,h2,n,h3⟩
structure ZipLAt (h:Heap) (z TI TO i1 i2 t1 t2:Addr) (f:Value) (k:Nat):Prop where
  zp:IsZip h z TI TO f
  ti:IsPair h TI (.ref i1) (.ref i2)
  to:∃ a b,IsPair h TO a b
  i1:h.IsListIter i1 t1 k
  i2:h.IsListIter i2 t2 k
section
variable {prog:Program} {w:World} {A:Around} {E:Value->Shared->Prop} {s:Shared}
theorem QgW {z TI TO i1 i2 t1 t2:Addr} {k:Nat} {xs ys:Array Value} {x y:Value} {Q:Option Value->Shared->Prop} (D:ZipApart z TI TO i1 i2 t1 t2) (Z:ZipLAt s.heap z TI TO i1 i2 t1 t2 .none k)
    (hl1:s.heap.IsList t1 xs) (hl2:s.heap.IsList t2 ys) (hx:xs[k]? = some x) (hy:ys[k]? = some y)
    (hQ:∀ h',ZipLAt h' z TI TO i1 i2 t1 t2 (rawInt s.heap.objs.size) (k+1)->IsPair h' s.heap.objs.size x y->(∀ c o,c≠z->c≠TO->c≠i1->c≠i2->s.heap.get? c=some o->h'.get? c=some o)->Q (some (.ref s.heap.objs.size)) { s with heap:=h' }) :
    wpAny (model prog w) A (pyNext (.ref z)) Q E s:=by
  obtain ⟨hz,hTI,⟨a,b,hTO⟩,h1,h2⟩:=Z
  exact wpAny_pyNext_zip_item D hz hTI hTO h1 h2 hl1 hl2 hx hy fun h' a1 a2 a3 a4 a5 a6 a7=>hQ h' ⟨a1,a7 _ _ D.TIz D.TITO D.TIi1 D.TIi2 hTI,⟨x,y,a2⟩,a3,a4⟩ a5 a7
theorem QiQ {z TI TO i1 i2 t1 t2:Addr} {k:Nat} {xs ys:Array Value} {Q:Option Value->Shared->Prop} (hh:A.handled=none) (D:ZipApart z TI TO i1 i2 t1 t2) (Z:ZipLAt s.heap z TI TO i1 i2 t1 t2 .none k)
    (hl1:s.heap.IsList t1 xs) (hl2:s.heap.IsList t2 ys) (hend:xs[k]? = none∨ys[k]? = none)
    (hQ:∀ h',(∀ c o,c≠z->c≠TO->c≠i1->c≠i2->s.heap.get? c=some o->h'.get? c=some o)->Q none { s with heap:=h' }):wpAny (model prog w) A (pyNext (.ref z)) Q E s:=by
  obtain ⟨hz,hTI,⟨a,b,hTO⟩,h1,h2⟩:=Z
  exact wpAny_pyNext_zip_end hh D hz hTI hTO h1 h2 hl1 hl2 hend hQ
theorem QgX {t1 t2:Addr} {xs ys:Array Value} {Q:Value->Shared->Prop} (hl1:s.heap.IsList t1 xs) (hl2:s.heap.IsList t2 ys)
    (h:∀ h',ZipLAt h' (s.heap.objs.size+4) (s.heap.objs.size+2) (s.heap.objs.size+3) s.heap.objs.size (s.heap.objs.size+1) t1 t2 .none 0->(∀ c o,s.heap.get? c=some o->h'.get? c=some o)->Q (.ref (s.heap.objs.size+4)) { s with heap:=h' }) :
    wpAny (model prog w) A (call (.type "zip") [.ref t1,.ref t2]) Q E s:=
  call_zip_2 hl1 hl2 fun h' a1 a2 a3 a4 a5 a6 a7=>h h' ⟨a1,a2,⟨_,_,a3⟩,a4,a5⟩ a7
end
def ItzL (t1 t2:Addr):It:=
  ⟨fun i H=>∃ xs ys x y,H t1=some (.lst xs)/\H t2=some (.lst ys)/\xs[i]? = some x/\ys[i]? = some y,
   fun i H v H'=>∃ p x y,H p=none/\(∀ xs,H t1=some (.lst xs)->xs[i]? = some x)/\(∀ ys,H t2=some (.lst ys)->ys[i]? = some y)/\v=.ref p/\H'=upd H p (.tup [x,y]),
   fun i H=>∃ xs ys,H t1=some (.lst xs)/\H t2=some (.lst ys)/\(xs.length<=i∨ys.length<=i)⟩
theorem Qg0 {P:Program} {w:World} {K:PySem.W.Frag} {elts:List Expr} {x1} {tpos:Pos} {z TI TO i1 i2 t1 t2:Addr} (D:ZipApart z TI TO i1 i2 t1 t2) :
    Turn P w K (.Tuple elts x1 tpos) (ItzL t1 t2) [z,TI,TO,i1,i2] z (fun i h=>ZipLAt h z TI TO i1 i2 t1 t2 .none i) where
  mem:=by simp
  obj:=fun i h st b hb=>by
    obtain ⟨a1,a2,⟨_,_,a3⟩,⟨o4,a4,_,d4⟩,⟨o5,a5,_,d5⟩⟩:=st
    simp only [List.mem_cons,List.not_mem_nil,or_false] at hb
    rcases hb with rfl | rfl | rfl | rfl | rfl
    · exact ⟨_,a1,fun v q=>nomatch q⟩
    · exact ⟨_,a2,fun v q=>nomatch q⟩
    · exact ⟨_,a3,fun v q=>nomatch q⟩
    · exact ⟨_,a4,fun v q=>by rw [d4] at q;cases q⟩
    · exact ⟨_,a5,fun v q=>by rw [d5] at q;cases q⟩
  keep:=fun i h h' st k=>by
    obtain ⟨a1,a2,⟨a,b,a3⟩,a4,a5⟩:=st
    exact ⟨k z (by simp) _ a1,k TI (by simp) _ a2,⟨a,b,k TO (by simp) _ a3⟩,a4.at fun o e=>k i1 (by simp) o e,a5.at fun o e=>k i2 (by simp) o e⟩
  item:=by
    intro X hP hw hK hc i pins s σ H E I hf st hg
    subst hP hw hK
    obtain ⟨xs,ys,x,y,h1,h2,hx,hy⟩:=hg
    obtain ⟨its1,r1,p1,_⟩:=I.list (SqL.of h1)
    obtain ⟨its2,r2,p2,_⟩:=I.list (SqL.of h2)
    obtain ⟨u1,hu1,ru1⟩:=r1.get hx
    obtain ⟨u2,hu2,ru2⟩:=r2.get hy
    refine QgW D st (Qa4 p1) (Qa4 p2) (by simpa using hu1) (by simpa using hu2) fun h' st' tp kp=>?_
    have hlt:∀ b∈[z,TI,TO,i1,i2],b≠s.heap.objs.size:=fun b hb=>by
      obtain ⟨a1,a2,⟨_,_,a3⟩,⟨o4,a4,_,d4⟩,⟨o5,a5,_,d5⟩⟩:=st
      simp only [List.mem_cons,List.not_mem_nil,or_false] at hb
      rcases hb with rfl | rfl | rfl | rfl | rfl
      · exact Nat.ne_of_lt (Heap.lt_size a1)
      · exact Nat.ne_of_lt (Heap.lt_size a2)
      · exact Nat.ne_of_lt (Heap.lt_size a3)
      · exact Nat.ne_of_lt (Heap.lt_size a4)
      · exact Nat.ne_of_lt (Heap.lt_size a5)
    have fr:H s.heap.objs.size=none:=I.hok.fresh (Nat.le_refl _)
    refine ⟨_,rfl,wpAny_letOwnedTupleGo_zip st'.zp fun h2' z2 s2=>?_⟩
    have I1:Inv X pins σ (upd H s.heap.objs.size (.tup [x,y])) { s with heap:=h2',toks:=s.toks }:=by
      refine I.turnedNew (ch:=[z,TI,TO,i1,i2]) hf (fun b u hb e=>?_) (Nat.le_refl _) ⟨by show 2<=sizeLine;decide,[u1,u2],.cons ru1 (.cons ru2 .nil),?_⟩
      · simp only [List.mem_cons,List.not_mem_nil,or_false,not_or] at hb
        exact s2.extBut _ _ hb.1 (kp b u hb.1 hb.2.2.1 hb.2.2.2.1 hb.2.2.2.2 e)
      · exact ⟨_,s2.extBut _ _ (hlt z (by simp)).symm tp,rfl,0,rfl⟩
    refine ⟨.ref s.heap.objs.size,_,I1,rfl,⟨_,x,y,fr,fun xs' e=>?_,fun ys' e=>?_,rfl,rfl⟩,?_,fun b hb=>?_⟩
    · rw [h1] at e;cases e;exact hx
    · rw [h2] at e;cases e;exact hy
    · obtain ⟨a1,a2,⟨a,b,a3⟩,a4,a5⟩:=st'
      exact ⟨z2,s2.extBut _ _ D.TIz a2,⟨a,b,s2.extBut _ _ D.TOz a3⟩,a4.extBut s2.extBut D.i1z,a5.extBut s2.extBut D.i2z⟩
    · rw [Qay (hlt b hb)];exact (hf b hb).1
  done:=by
    intro X hP hw hK hc i pins s σ H E I hf st hg
    subst hP hw hK
    obtain ⟨xs,ys,h1,h2,he⟩:=hg
    obtain ⟨its1,r1,p1,_⟩:=I.list (SqL.of h1)
    obtain ⟨its2,r2,p2,_⟩:=I.list (SqL.of h2)
    have l1:=r1.length
    have l2:=r2.length
    refine QiQ (I.ok.hd hc) D st (Qa4 p1) (Qa4 p2) ?_ fun h' kp=>⟨rfl,I.turnedAll (t':=s.toks) (ch:=[z,TI,TO,i1,i2]) hf fun b u hb e=>?_⟩
    · rcases he with q | q
      · exact .inl (by simp;omega)
      · exact .inr (by simp;omega)
    · simp only [List.mem_cons,List.not_mem_nil,or_false,not_or] at hb
      exact kp b u hb.1 hb.2.2.1 hb.2.2.2.1 hb.2.2.2.2 e
  self:=fun _ _ _ _ _ st h=>wpAny_pyIter_zip st.zp h
section
variable {X:Cx}
theorem QgT (n t1 t2:Nat) (h1:t1<n) (h2:t2<n):ZipApart (n+4) (n+2) (n+3) n (n+1) t1 t2 where
  TIz:=by show ¬ (n+2=n+4);omega
  TOz:=by show ¬ (n+3=n+4);omega
  i1z:=by show ¬ (n=n+4);omega
  i2z:=by show ¬ (n+1=n+4);omega
  TITO:=by show ¬ (n+2=n+3);omega
  TIi1:=by show ¬ (n+2=n);omega
  TIi2:=by show ¬ (n+2=n+1);omega
  TOi1:=by show ¬ (n+3=n);omega
  TOi2:=by show ¬ (n+3=n+1);omega
  i12:=by show ¬ (n=n+1);omega
  l1z:=by show ¬ (t1=n+4);omega
  l1TO:=by show ¬ (t1=n+3);omega
  l1i1:=by show ¬ (t1=n);omega
  l1i2:=by show ¬ (t1=n+1);omega
  l2z:=by show ¬ (t2=n+4);omega
  l2TO:=by show ¬ (t2=n+3);omega
  l2i1:=by show ¬ (t2=n);omega
  l2i2:=by show ¬ (t2=n+1);omega
def iZipL (ta:TA):TI:=fun σ H R=>ta σ H fun vs H1=>∃ t1 t2 xs ys,vs=[.ref t1,.ref t2]/\H1 t1=some (.lst xs)/\H1 t2=some (.lst ys)/\R (ItzL t1 t2) H1
theorem QiD:bootBuiltins "zip" = some (.type "zip"):=by decide +kernel
theorem Qla {a b:Expr} {elts:List Expr} {x1} {tpos:Pos} {ta:TA} {p pos:Pos} (hg:Gl X "zip") (hm:X.mg "zip" = none) (ha:PA X [a,b] ta) (hs:starEach [a,b] X.env=[(false,eval a X.env),(false,eval b X.env)]:=by rfl) (hs2:starEach [b] X.env=[(false,eval b X.env)]:=by rfl) :
    PI X (.Tuple elts x1 tpos) (.Call (.Name "zip" p) [a,b] [] pos) (iZipL ta):=by
  intro pins s σ H R I h
  refine Call_ (QdM I hg hm QiD (PyProof.Rows.callWith_type1 (thn (ha pos pins s σ H _ I h) fun us s1 ⟨vs,H1,I1,r1,q1⟩=>?_) (by rw [hs,hs2]) (by rw [hs2];rfl)))
  obtain ⟨t1,t2,xs,ys,e,h1,h2,q⟩:=q1
  subst e
  obtain ⟨u,v,rfl,ru,rv⟩:=QgZ r1
  cases (show u=Value.ref t1 from ru)
  cases (show v=Value.ref t2 from rv)
  obtain ⟨its1,w1,p1,_⟩:=I1.list (SqL.of h1)
  obtain ⟨its2,w2,p2,_⟩:=I1.list (SqL.of h2)
  have n1:t1<s1.heap.objs.size:=I1.hok.lt h1
  have n2:t2<s1.heap.objs.size:=I1.hok.lt h2
  refine QgX (Qa4 p1) (Qa4 p2) fun h' st kp=>?_
  refine wpAny_pyIter_zip (s:={ s1 with heap:=h' }) st.zp ?_
  have D:=QgT s1.heap.objs.size t1 t2 n1 n2
  refine ⟨s1.heap.objs.size+4,_,_,_,H1,rfl,I1.kept (t':=s1.toks) kp,Qg0 D,st,fun b hb=>?_,q⟩
  have hb':s1.heap.objs.size<=b:=by
    simp only [List.mem_cons,List.not_mem_nil,or_false] at hb
    rcases hb with rfl | rfl | rfl | rfl | rfl<;>omega
  exact I1.fpOk hb' (I1.hok.fresh hb')
end
def rLenK (K:PySem.W.Frag):List V->Hp->VK->Prop:=fun xs H Q=>∃ p ys,xs=[.ref p]/\(SqL K H p ys∨SqT K H p ys)/\Q (.int ys.length) H
theorem bt_set:bootBuiltins "set" = some (.type "set"):=by decide +kernel
theorem Qct:bootBuiltins "sorted" = some (.builtin "sorted"):=by decide +kernel
def CMulB (i j:Int):Prop:=∃ k:Nat,k<=1000000/\i.natAbs<2^k/\j.natAbs<2^k
theorem QiI {i:Int} {k:Nat} (h:i.natAbs<2^k):Builtin.Int.intBits i<=k:=by
  unfold Builtin.Int.intBits
  split
  · exact Nat.zero_le _
  · rename_i z
    have hz:i.natAbs≠0:=by
      intro q
      apply z
      have:i=0:=by omega
      subst this
      rfl
    have:=(Nat.log2_lt hz).mpr h
    omega
theorem CMulB.ok {i j:Int} (h:CMulB i j):IntMulOk i j:=by
  obtain ⟨k,hk,h1,h2⟩:=h
  have a:=QiI h1
  have b:=QiI h2
  unfold IntMulOk
  have c:Builtin.Int.intTooBig (Builtin.Int.intBits i+Builtin.Int.intBits j:Nat)=false:=by
    unfold Builtin.Int.intTooBig
    rw [decide_eq_false]
    have:bitsLine=134217728:=by decide +kernel
    rw [this]
    omega
  intro z
  rw [Bool.and_eq_true] at z
  have z2:=z.2
  have e:((Builtin.Int.intBits i+Builtin.Int.intBits j:Nat):Int)=(Builtin.Int.intBits i:Int)+(Builtin.Int.intBits j:Int):=by omega
  rw [e] at c
  rw [c] at z2
  cases z2
section
variable {X:Cx}
theorem QlD:OpR X (binaryOp .Mult) (rI CMulB fun i j=>.int (i*j)):=opI fun _ _ _ _ _ _ _ hc q=>mul_int q hc.ok
end
end L2
namespace Rk
open PySem PySem.Spec PyProof.Rows L2 _root_.Rd
def rNeU (u:Nat):R2:=fun x y H Q=>∃ dx dy,Dat H x dx/\Dat H y dy/\u+min dx.depth dy.depth<cLine/\Q (.bl (!PyData.eqv dx dy)) H
theorem op_neU {X:Cx}:OpR X (compareOp .NotEq) (rNeU X.A.units):=op_neD
def rEqU (u:Nat):R2:=fun x y H Q=>∃ dx dy,Dat H x dx/\Dat H y dy/\u+min dx.depth dy.depth<cLine/\Q (.bl (PyData.eqv dx dy)) H
theorem op_eqU {X:Cx}:OpR X (compareOp .Eq) (rEqU X.A.units):=op_eqD
theorem QhF {X:Cx}:OpR X (compareOp .NotIn) (rInU X.A.in1.units true):=QhG
end Rk
namespace Rx
open PySem PySem.Spec PySem.Calls PyProof.Rows L2
end Rx
namespace Rk
open PySem PySem.Spec PyProof.Rows L2 _root_.Rd
end Rk
namespace HT
open PySem PyProof.Rows
section
open PySem.SeqAt
open PySem.AutoSeq1 (wpAny_loadPart')
open PySem.MeetsSeq PySem.MeetsSeq2 PySem.MeetsSeq3
end
section
variable {prog:Program} {w:World} {A:Around} {E:Value->Shared->Prop} {s:Shared}
end
end HT
namespace L2
open PySem PySem.Spec PyProof.Rows
def rSlLW (K:PySem.W.Frag):V->Option Int->Option Int->Hp->VK->Prop:=fun x lo hi H Q=>∃ a xs,x=.ref a/\SqL K H a xs/\∀ p H',Same H H'->H p=none->H' p=some (.lst (cutV xs lo hi))->Q (.ref p) H'
theorem QiW {X:Cx}:SlR X (rSlLW X.K):=by
  intro pins s σ H x v vl vu lo hi sl Q I rx hs pl pu h
  obtain ⟨a,xs,e,hx,q⟩:=h
  exact QkP pins s σ H x v vl vu lo hi sl Q I rx hs pl pu ⟨a,xs,e,hx,fun p hp=>q p _ (Qar hp) hp Qaq⟩
end L2
namespace Rk
open PySem PySem.Spec PyProof.Rows L2 _root_.Rd
end Rk
namespace L2
open PySem PySem.Spec PyProof.Rows
section
variable {X:Cx}
def Qhp (K:PySem.W.Frag):List V->Hp->VK->Prop:=fun xs H Q=>∃ p ys,xs=[.ref p]/\((SqL K H p ys/\∀ l H',Same H H'->H l=none->H' l=some (.tup ys)->Q (.ref l) H')∨(SqT K H p ys/\Q (.ref p) H))
theorem Qbc:CallR X (.type "tuple") (Qhp X.K):=by
  intro pins s σ H xs us Q I r h
  obtain ⟨p,ys,e,h⟩:=h
  refine Qer pins s σ H xs us Q I r ⟨p,ys,e,?_⟩
  rcases h with ⟨h1,h2⟩ | h
  · exact .inl ⟨h1,fun l hl=>h2 l _ (Qar hl) hl Qaq⟩
  · exact .inr h
def Qhr (K:PySem.W.Frag):List V->Hp->VK->Prop:=fun xs H Q=>∃ p ys,xs=[.ref p]/\(SqL K H p ys∨SqT K H p ys)/\∀ l H',Same H H'->H l=none->H' l=some (.lst ys)->Q (.ref l) H'
theorem Qes:CallR X (.type "list") (Qhr X.K):=by
  intro pins s σ H xs us Q I r h
  obtain ⟨p,ys,e,h1,h2⟩:=h
  exact Qe3 pins s σ H xs us Q I r ⟨p,ys,e,h1,fun l hl=>h2 l _ (Qar hl) hl Qaq⟩
end
end L2
namespace Rk
open PySem PySem.Spec PyProof.Rows L2 _root_.Rd
end Rk
namespace L2
open PySem PySem.Spec PyProof.Rows
section
variable {X:Cx}
end
section
variable {X:Cx}
end
end L2
namespace Rk
open PySem PySem.Spec PyProof.Rows L2 _root_.Rd
end Rk
namespace Rx
open PySem PySem.Spec PySem.Calls PyProof.Rows L2
abbrev TSX:=L2.Ends->L2.St->Hp->(Addr->Hp->Prop)->Prop
def PSX (X:Cx) (st:Stmt) (t:TSX):Prop:=∀ (pins:List (Addr×Obj)) (s:Shared) (σ:L2.St) (H:Hp) (D:L2.Ends) (Ex:Addr->Hp->Prop),Inv X pins σ H s->t D σ H Ex ->
  wpAny (model X.prog X.w) X.A (exec st X.env) (SP X pins D) (XP X pins fun σ1 C H1=>σ1=σ/\Ex C H1) s
def PSXs (X:Cx) (sts:List Stmt) (t:TSX):Prop:=∀ (pins:List (Addr×Obj)) (s:Shared) (σ:L2.St) (H:Hp) (D:L2.Ends) (Ex:Addr->Hp->Prop),Inv X pins σ H s->t D σ H Ex ->
  wpAny (model X.prog X.w) X.A (execs sts X.env) (SP X pins D) (XP X pins fun σ1 C H1=>σ1=σ/\Ex C H1) s
section
variable {X:Cx} {e:Expr} {st:Stmt} {pos:Pos} {te:TX} {t u:TSX} {tc:TT} {c:Expr} {a b:List Stmt}
end
section
variable {X:Cx} {R:Addr} {i:Nat} {n r:Str} {body:List Stmt} {hx:Expr} {tb:TSX} {th:TE} {np hp hpos pos:Pos}
end
end Rx
namespace L2
open PySem PySem.Spec PyProof.Rows
theorem FnOk.or {P:Program} {w:World} {K:PySem.W.Frag} {mg:Str->Option Value} {base:Heap} {CX:CXT} {k:Nat} {f:Addr} {fd:FuncData} {ps:List Str} {sp sp':Sp} (F:FnOk P w K mg base CX k f fd ps sp) (G:FnOk P w K mg base CX k f fd ps sp') :
    FnOk P w K mg base CX k f fd ps (fun vs H Q E=>sp vs H Q E∨sp' vs H Q E):=
  ⟨fun vs H Q E q=>q.elim (F.len vs H Q E) (G.len vs H Q E),fun A outer s H args us vs Q E hr he hb hv hs=>hs.elim (fun z=>F.run A outer s H args us vs Q E hr he hb hv z) fun z=>G.run A outer s H args us vs Q E hr he hb hv z⟩
theorem FnOk.ex {P:Program} {w:World} {K:PySem.W.Frag} {mg:Str->Option Value} {base:Heap} {CX:CXT} {k:Nat} {f:Addr} {fd:FuncData} {ps:List Str} {sp:Sp} (F:FnOk P w K mg base CX0 k f fd ps sp) :
    FnOk P w K mg base CX k f fd ps sp:=
  ⟨F.len,fun A outer s H args us vs Q E hr he hb hv hs=>codeAny_mono (F.run A outer s H args us vs Q E hr he hb hv hs) fun r s' z=>by
    cases r with
    | error e=>exact False.elim z
    | ok fl=>cases fl<;>exact z⟩
section
variable {X:Cx}
end
end L2
namespace Rk
open PySem PySem.Spec PyProof.Rows L2 _root_.Rd
end Rk
namespace Dl
open PySem PySem.Spec PyProof.Rows L2 _root_.Rd Rk
mutual
inductive DA (A:Addr->Prop) (H:Hp):V->PyData->Prop
  | non:DA A H .non .none
  | bl (b:Bool):DA A H (.bl b) (.bool b)
  | int (i:Int):DA A H (.int i) (.int i)
  | str (x:Str):PyData.canLay0 (.str x)=true->DA A H (.str x) (.str x)
  | tup {a:Addr} {xs:List V} {ds:List PyData}:¬ A a->H a=some (.tup xs)->DAs A H xs ds->DA A H (.ref a) (.tuple ds)
  | lst {a:Addr} {xs:List V} {ds:List PyData}:¬ A a->H a=some (.lst xs)->DAs A H xs ds->DA A H (.ref a) (.list ds)
  | dct {a:Addr}:¬ A a->H a=some (.dK [])->DA A H (.ref a) (.dict [])
inductive DAs (A:Addr->Prop) (H:Hp):List V->List PyData->Prop
  | nil:DAs A H [] []
  | cons {x:V} {xs:List V} {d:PyData} {ds:List PyData}:DA A H x d->DAs A H xs ds->DAs A H (x::xs) (d::ds)
end
mutual
theorem da_mv {A A':Addr->Prop} {H H':Hp} (k:∀ a o,¬ A a->H a=some o->H' a=some o) (m:∀ a,A' a->A a∨H a=none):∀ (d:PyData) (x:V),DA A H x d->DA A' H' x d
  | .none,_,.non=>.non
  | .bool _,_,.bl _=>.bl _
  | .int _,_,.int _=>.int _
  | .str _,_,.str _ c=>.str _ c
  | .tuple ds,_,.tup (xs:=xs) n e q=>.tup (fun z=>(m _ z).elim n fun z=>by rw [z] at e;cases e) (k _ _ n e) (Qgh k m ds xs q)
  | .list ds,_,.lst (xs:=xs) n e q=>.lst (fun z=>(m _ z).elim n fun z=>by rw [z] at e;cases e) (k _ _ n e) (Qgh k m ds xs q)
  | .dict _,_,.dct n e=>.dct (fun z=>(m _ z).elim n fun z=>by rw [z] at e;cases e) (k _ _ n e)
theorem Qgh {A A':Addr->Prop} {H H':Hp} (k:∀ a o,¬ A a->H a=some o->H' a=some o) (m:∀ a,A' a->A a∨H a=none):∀ (ds:List PyData) (xs:List V),DAs A H xs ds->DAs A' H' xs ds
  | [],_,.nil=>.nil
  | d::ds,_,.cons (x:=x) (xs:=xs) q qs=>.cons (da_mv k m d x q) (Qgh k m ds xs qs)
end
theorem DA.mv {A A':Addr->Prop} {H H':Hp} {x:V} {d:PyData} (q:DA A H x d) (k:∀ a o,¬ A a->H a=some o->H' a=some o) (m:∀ a,A' a->A a∨H a=none):DA A' H' x d:=da_mv k m d x q
theorem DAs.mv {A A':Addr->Prop} {H H':Hp} {x:List V} {d:List PyData} (q:DAs A H x d) (k:∀ a o,¬ A a->H a=some o->H' a=some o) (m:∀ a,A' a->A a∨H a=none):DAs A' H' x d:=Qgh k m d x q
theorem DA.same {A:Addr->Prop} {H H':Hp} {x:V} {d:PyData} (q:DA A H x d) (s:Same H H'):DA A H' x d:=q.mv (fun a o _ e=>s a o e) fun a z=>.inl z
theorem DAs.same {A:Addr->Prop} {H H':Hp} {x:List V} {d:List PyData} (q:DAs A H x d) (s:Same H H'):DAs A H' x d:=q.mv (fun a o _ e=>s a o e) fun a z=>.inl z
theorem DAs.length {A:Addr->Prop} {H:Hp}:∀ {xs:List V} {ds:List PyData},DAs A H xs ds->xs.length=ds.length
  | _,_,.nil=>rfl
  | _,_,.cons _ q=>by rw [List.length_cons,List.length_cons,q.length]
theorem DAs.get {A:Addr->Prop} {H:Hp}:∀ {xs:List V} {ds:List PyData},DAs A H xs ds->∀ (i:Nat) (d:PyData),ds[i]? = some d->∃ x,xs[i]? = some x/\DA A H x d
  | _,_,.nil,i,x,e=>by simp at e
  | _,_,.cons q qs,0,x,e=>by simp at e;subst e;exact ⟨_,rfl,q⟩
  | _,_,.cons q qs,i+1,x,e=>qs.get i x (by simpa using e)
theorem DAs.getV {A:Addr->Prop} {H:Hp}:∀ {xs:List V} {ds:List PyData},DAs A H xs ds->∀ (i:Nat) (x:V),xs[i]? = some x->∃ d,ds[i]? = some d/\DA A H x d
  | _,_,.nil,i,x,e=>by simp at e
  | _,_,.cons q qs,0,x,e=>by simp at e;subst e;exact ⟨_,rfl,q⟩
  | _,_,.cons q qs,i+1,x,e=>qs.getV i x (by simpa using e)
theorem DAs.app {A:Addr->Prop} {H:Hp}:∀ {xs ys:List V} {ds es:List PyData},DAs A H xs ds->DAs A H ys es->DAs A H (xs++ys) (ds++es)
  | _,_,_,_,.nil,q=>q
  | _,_,_,_,.cons a b,q=>.cons a (b.app q)
theorem DAs.take {A:Addr->Prop} {H:Hp}:∀ {xs:List V} {ds:List PyData},DAs A H xs ds->∀ n:Nat,DAs A H (xs.take n) (ds.take n)
  | _,_,.nil,n=>by rw [List.take_nil,List.take_nil];exact .nil
  | _,_,.cons a b,0=>.nil
  | _,_,.cons a b,n+1=>.cons a (b.take n)
theorem DAs.drop {A:Addr->Prop} {H:Hp}:∀ {xs:List V} {ds:List PyData},DAs A H xs ds->∀ n:Nat,DAs A H (xs.drop n) (ds.drop n)
  | _,_,.nil,n=>by rw [List.drop_nil,List.drop_nil];exact .nil
  | _,_,.cons a b,0=>.cons a b
  | _,_,.cons a b,n+1=>b.drop n
theorem DAs.set {A:Addr->Prop} {H:Hp} {x:V} {d:PyData} (q:DA A H x d):∀ {xs:List V} {ds:List PyData},DAs A H xs ds->∀ n:Nat,DAs A H (xs.set n x) (ds.set n d)
  | _,_,.nil,n=>.nil
  | _,_,.cons a b,0=>.cons q b
  | _,_,.cons a b,n+1=>.cons a (b.set q n)
mutual
def nd:PyData->Bool
  | .dict _=>false
  | .tuple ds=>nds ds
  | .list ds=>nds ds
  | _=>true
def nds:List PyData->Bool
  | []=>true
  | d::ds=>nd d&&nds ds
end
mutual
theorem Qip {A:Addr->Prop} {H:Hp}:∀ (d:PyData) (x:V),nd d=true->DA A H x d->Dat H x d
  | .none,_,_,.non=>.non
  | .bool _,_,_,.bl _=>.bl _
  | .int _,_,_,.int _=>.int _
  | .str _,_,_,.str _ c=>.str _ c
  | .tuple ds,_,n,.tup (xs:=xs) _ e q=>.tup e (QbK ds xs n q)
  | .list ds,_,n,.lst (xs:=xs) _ e q=>.lst e (QbK ds xs n q)
theorem QbK {A:Addr->Prop} {H:Hp}:∀ (ds:List PyData) (xs:List V),nds ds=true->DAs A H xs ds->Dats H xs ds
  | [],_,_,.nil=>.nil
  | d::ds,_,n,.cons (x:=x) (xs:=xs) q qs=>by
    have n':=Bool.and_eq_true_iff.mp (show (nd d&&nds ds)=true from n)
    exact .cons (Qip d x n'.1 q) (QbK ds xs n'.2 qs)
end
theorem QhW {ds:List PyData}:nds ds=true↔∀ d∈ds,nd d=true:=by
  induction ds with
  | nil=>exact ⟨(fun _ _ h=>nomatch h),fun _=>rfl⟩
  | cons d ds ih=>
    rw [show nds (d::ds)=(nd d&&nds ds) from rfl,Bool.and_eq_true_iff,ih]
    constructor
    · rintro ⟨a,b⟩ e he
      rcases List.mem_cons.mp he with z | z
      · rw [z];exact a
      · exact b e z
    · intro h
      exact ⟨h d (by simp),fun e he=>h e (by simp [he])⟩
def DP (A P:Addr->Prop) (H:Hp) (v:V) (d:PyData):Prop:=DA A H v d∨∃ l xs ds,v=.ref l/\d=.list ds/\¬ P l/\H l=some (.lst xs)/\DAs A H xs ds
theorem DP.dat {A P:Addr->Prop} {H:Hp} {v:V} {d:PyData} (h:DP A P H v d) (n:nd d=true):Dat H v d:=by
  rcases h with h | ⟨l,xs,ds,rfl,rfl,_,e,q⟩
  · exact Qip d v n h
  · exact .lst e (QbK ds xs n q)
theorem DP.list {A P:Addr->Prop} {H:Hp} {v:V} {ds:List PyData} (h:DP A P H v (.list ds)):∃ l xs,v=.ref l/\H l=some (.lst xs)/\DAs A H xs ds:=by
  rcases h with h | ⟨l,xs,ds',rfl,e,_,h2,q⟩
  · cases h with | lst n e q=>exact ⟨_,_,rfl,e,q⟩
  · cases e;exact ⟨l,xs,rfl,h2,q⟩
theorem DP.tuple {A P:Addr->Prop} {H:Hp} {v:V} {ds:List PyData} (h:DP A P H v (.tuple ds)):∃ l xs,v=.ref l/\H l=some (.tup xs)/\DAs A H xs ds:=by
  rcases h with h | ⟨l,xs,ds',rfl,e,_⟩
  · cases h with | tup n e q=>exact ⟨_,_,rfl,e,q⟩
  · cases e
theorem DP.int {A P:Addr->Prop} {H:Hp} {v:V} {i:Int} (h:DP A P H v (.int i)):v=.int i:=by
  rcases h with h | ⟨l,xs,ds',rfl,e,_⟩
  · cases h;rfl
  · cases e
theorem DP.bool {A P:Addr->Prop} {H:Hp} {v:V} {i:Bool} (h:DP A P H v (.bool i)):v=.bl i:=by
  rcases h with h | ⟨l,xs,ds',rfl,e,_⟩
  · cases h;rfl
  · cases e
theorem DP.none {A P:Addr->Prop} {H:Hp} {v:V} (h:DP A P H v .none):v=.non:=by
  rcases h with h | ⟨l,xs,ds',rfl,e,_⟩
  · cases h;rfl
  · cases e
theorem DP.str {A P:Addr->Prop} {H:Hp} {v:V} {x:Str} (h:DP A P H v (.str x)):v=.str x/\PyData.canLay0 (.str x)=true:=by
  rcases h with h | ⟨l,xs,ds',rfl,e,_⟩
  · cases h with | str _ c=>exact ⟨rfl,c⟩
  · cases e
inductive Sl where
  | no | pot | scr
  | v (d:PyData)
  | own (ds:List PyData)
  | pk (ds:List PyData)
abbrev Sts:=List Sl
structure Fm where
  H0:Hp
  A0:Addr->Prop
  pt:Addr->Prop
def OwAt (σ:L2.St) (δ:Sts) (i:Nat) (a:Addr):Prop:=σ[i]? = some (some (.ref a))/\(δ[i]? = some .pot∨∃ ds,δ[i]? = some (.own ds))
def Av (F:Fm) (σ:L2.St) (δ:Sts) (a:Addr):Prop:=F.A0 a∨∃ i,OwAt σ δ i a
def PotA (σ:L2.St) (δ:Sts) (a:Addr):Prop:=∃ i:Nat,σ[i]? = some (some (.ref a))/\δ[i]? = some .pot
def SlOk (K:PySem.W.Frag) (F:Fm) (H:Hp) (A:Addr->Prop) (o:Option V):Sl->Prop
  | .no=>True
  | .v d=>∃ v,o=some v/\DA A H v d
  | .own ds=>∃ l xs,o=some (.ref l)/\H l=some (.lst xs)/\DAs A H xs ds/\F.H0 l=none
  | .pk ds=>∃ l xs,o=some (.ref l)/\H l=some (.lst xs)/\DAs A H xs ds/\∃ ys,F.H0 l=some (.lst ys)/\¬ F.pt l
  | .pot=>∃ p n,o=some (.ref p)/\H p=some (.lst [.int n])/\(F.pt p∨F.H0 p=none)
  | .scr=>∃ a ns,o=some (.ref a)/\SqL K F.H0 a ((ns:List Int).map V.int)/\¬ F.pt a/\ns.length<=63
structure Rel (K:PySem.W.Frag) (F:Fm) (σ:L2.St) (H:Hp) (δ:Sts):Prop where
  len:σ.length=δ.length
  dom:∀ a,F.A0 a->∃ xs,H a=some (.lst xs)
  dom0:∀ a,F.A0 a->∃ xs,F.H0 a=some (.lst xs)
  pt0:∀ p,F.pt p->F.A0 p/\∃ n,H p=some (.lst [.int n])
  kx:∀ b o,¬ F.pt b->F.H0 b=some o->H b=some o
  sl:∀ (i:Nat) o x,σ[i]? = some o->δ[i]? = some x->SlOk K F H (Av F σ δ) o x
  inj:∀ (i j:Nat) a ds,δ[i]? = some (.own ds)->σ[i]? = some (some (.ref a))->OwAt σ δ j a->i=j
def Kp (σ:L2.St) (δ:Sts) (H H':Hp):Prop:=(∀ b o,¬ PotA σ δ b->H b=some o->H' b=some o)/\∀ b,PotA σ δ b->∃ n,H' b=some (.lst [.int n])
def Stp (F:Fm) (σ:L2.St) (H:Hp) (δ:Sts) (σ':L2.St) (H':Hp) (δ':Sts):Prop:=(∀ b o,¬ Av F σ δ b->H b=some o->H' b=some o)/\∀ b,Av F σ' δ' b->Av F σ δ b∨H b=none
def Ke (F:Fm) (H':Hp):Prop:=(∀ b o,¬ F.pt b->F.H0 b=some o->H' b=some o)/\∀ p,F.pt p->∃ n,H' p=some (.lst [.int n])
theorem Qbt {F:Fm} {σ:L2.St} {δ:Sts} {a:Addr} (h:PotA σ δ a):Av F σ δ a:=let ⟨i,h1,h2⟩:=h;.inr ⟨i,h1,.inl h2⟩
theorem Rel.ke {K:PySem.W.Frag} {F:Fm} {σ:L2.St} {H:Hp} {δ:Sts} (r:Rel K F σ H δ):Ke F H:=⟨r.kx,fun p hp=>(r.pt0 p hp).2⟩
theorem Rel.isl {K:PySem.W.Frag} {F:Fm} {σ:L2.St} {H:Hp} {δ:Sts} (r:Rel K F σ H δ) {a:Addr} (h:Av F σ δ a):∃ xs,H a=some (.lst xs):=by
  rcases h with h | ⟨i,h1,h2⟩
  · exact r.dom a h
  · rcases h2 with h2 | ⟨ds,h2⟩
    · obtain ⟨p,n,e,h,_⟩:=r.sl i _ _ h1 h2
      cases e
      exact ⟨_,h⟩
    · obtain ⟨l,xs,e,h,_⟩:=r.sl i _ _ h1 h2
      cases e
      exact ⟨_,h⟩
theorem Kp.refl {K:PySem.W.Frag} {F:Fm} {σ:L2.St} {H:Hp} {δ:Sts} (r:Rel K F σ H δ):Kp σ δ H H:=⟨fun _ _ _ e=>e,fun b ⟨i,h1,h2⟩=>by
  obtain ⟨p,n,e,h,_⟩:=r.sl i _ _ h1 h2
  cases e
  exact ⟨n,h⟩⟩
theorem Kp.trans {σ:L2.St} {δ:Sts} {H H1 H2:Hp} (a:Kp σ δ H H1) (b:Kp σ δ H1 H2):Kp σ δ H H2:=⟨fun c o n e=>b.1 c o n (a.1 c o n e),b.2⟩
theorem Kp.same {K:PySem.W.Frag} {F:Fm} {σ:L2.St} {H H':Hp} {δ:Sts} (r:Rel K F σ H δ) (s:Same H H'):Kp σ δ H H':=⟨fun b o _ e=>s b o e,fun b hb=>let ⟨n,h⟩:=(Kp.refl r).2 b hb;⟨n,s _ _ h⟩⟩
theorem Kp.da {F:Fm} {σ:L2.St} {H H':Hp} {δ:Sts} {v:V} {d:PyData} (k:Kp σ δ H H') (h:DA (Av F σ δ) H v d):DA (Av F σ δ) H' v d:=h.mv (fun a o n e=>k.1 a o (fun z=>n (Qbt z)) e) fun a z=>.inl z
theorem Kp.das {F:Fm} {σ:L2.St} {H H':Hp} {δ:Sts} {v:List V} {d:List PyData} (k:Kp σ δ H H') (h:DAs (Av F σ δ) H v d):DAs (Av F σ δ) H' v d:=h.mv (fun a o n e=>k.1 a o (fun z=>n (Qbt z)) e) fun a z=>.inl z
theorem Kp.dp {F:Fm} {σ:L2.St} {H H':Hp} {δ:Sts} {v:V} {d:PyData} (k:Kp σ δ H H') (h:DP (Av F σ δ) (PotA σ δ) H v d):DP (Av F σ δ) (PotA σ δ) H' v d:=by
  rcases h with h | ⟨l,xs,ds,e1,e2,n,e,q⟩
  · exact .inl (k.da h)
  · exact .inr ⟨l,xs,ds,e1,e2,n,k.1 _ _ n e,k.das q⟩
theorem Rel.own_pot {K:PySem.W.Frag} {F:Fm} {σ:L2.St} {H:Hp} {δ:Sts} (r:Rel K F σ H δ) {i:Nat} {ds:List PyData} {l:Addr} (h:δ[i]? = some (.own ds)) (e:σ[i]? = some (some (.ref l))):¬ PotA σ δ l:=by
  rintro ⟨j,h1,h2⟩
  have:=r.inj i j l _ h e ⟨h1,.inl h2⟩
  subst this
  rw [h] at h2
  cases h2
theorem Rel.pt_pot {K:PySem.W.Frag} {F:Fm} {σ:L2.St} {H H':Hp} {δ:Sts} (r:Rel K F σ H δ) (k:Kp σ δ H H') {p:Addr} (hp:F.pt p):∃ n,H' p=some (.lst [.int n]):=by
  by_cases z:PotA σ δ p
  · exact k.2 p z
  · obtain ⟨n,e⟩:=(r.pt0 p hp).2
    exact ⟨n,k.1 _ _ z e⟩
theorem Rel.kp {K:PySem.W.Frag} {F:Fm} {σ:L2.St} {H H':Hp} {δ:Sts} (r:Rel K F σ H δ) (k:Kp σ δ H H'):Rel K F σ H' δ where
  len:=r.len
  dom:=fun a ha=>by
    by_cases z:PotA σ δ a
    · exact ⟨_,(k.2 a z).choose_spec⟩
    · obtain ⟨xs,e⟩:=r.dom a ha
      exact ⟨xs,k.1 _ _ z e⟩
  dom0:=r.dom0
  pt0:=fun p hp=>⟨(r.pt0 p hp).1,r.pt_pot k hp⟩
  kx:=fun b o n e=>by
    by_cases z:PotA σ δ b
    · obtain ⟨i,h1,h2⟩:=z
      obtain ⟨p,m,e1,h,q⟩:=r.sl i _ _ h1 h2
      cases e1
      rcases q with q | q
      · exact absurd q n
      · rw [q] at e;cases e
    · exact k.1 _ _ z (r.kx b o n e)
  sl:=fun i o x h1 h2=>by
    have h:=r.sl i o x h1 h2
    cases x with
    | no=>trivial
    | v d=>obtain ⟨v,e,q⟩:=h;exact ⟨v,e,k.da q⟩
    | own ds=>obtain ⟨l,xs,rfl,e,q,f⟩:=h;exact ⟨l,xs,rfl,k.1 _ _ (r.own_pot h2 h1) e,k.das q,f⟩
    | pk ds=>
      obtain ⟨l,xs,rfl,e,q,ys,f,f2⟩:=h
      refine ⟨l,xs,rfl,k.1 _ _ ?_ e,k.das q,ys,f,f2⟩
      rintro ⟨j,j1,j2⟩
      obtain ⟨p,m,e1,_,w⟩:=r.sl j _ _ j1 j2
      cases e1
      rcases w with w | w
      · exact f2 w
      · rw [w] at f;cases f
    | pot=>
      obtain ⟨p,n,rfl,e,q⟩:=h
      obtain ⟨m,e'⟩:=k.2 p ⟨i,h1,h2⟩
      exact ⟨p,m,rfl,e',q⟩
    | scr=>exact h
  inj:=r.inj
theorem Rel.same {K:PySem.W.Frag} {F:Fm} {σ:L2.St} {H H':Hp} {δ:Sts} (r:Rel K F σ H δ) (s:Same H H'):Rel K F σ H' δ:=r.kp (Kp.same r s)
theorem Stp.refl {F:Fm} {σ:L2.St} {H:Hp} {δ:Sts}:Stp F σ H δ σ H δ:=⟨fun _ _ _ e=>e,fun _ z=>.inl z⟩
theorem Stp.trans {F:Fm} {σ σ1 σ2:L2.St} {H H1 H2:Hp} {δ δ1 δ2:Sts} (a:Stp F σ H δ σ1 H1 δ1) (b:Stp F σ1 H1 δ1 σ2 H2 δ2):Stp F σ H δ σ2 H2 δ2:=by
  refine ⟨fun c o n e=>?_,fun c z=>?_⟩
  · refine b.1 c o (fun z=>?_) (a.1 c o n e)
    rcases a.2 c z with q | q
    · exact n q
    · rw [q] at e;cases e
  · rcases b.2 c z with q | q
    · exact a.2 c q
    · by_cases y:Av F σ δ c
      · exact .inl y
      · right
        cases e:H c with
        | none=>rfl
        | some o=>rw [a.1 c o y e] at q;cases q
theorem Stp.kp {F:Fm} {σ:L2.St} {H H':Hp} {δ:Sts} (k:Kp σ δ H H'):Stp F σ H δ σ H' δ:=⟨fun b o n e=>k.1 b o (fun z=>n (Qbt z)) e,fun _ z=>.inl z⟩
theorem Stp.da {F:Fm} {σ σ':L2.St} {H H':Hp} {δ δ':Sts} {v:V} {d:PyData} (k:Stp F σ H δ σ' H' δ') (h:DA (Av F σ δ) H v d):DA (Av F σ' δ') H' v d:=h.mv k.1 k.2
theorem Stp.das {F:Fm} {σ σ':L2.St} {H H':Hp} {δ δ':Sts} {v:List V} {d:List PyData} (k:Stp F σ H δ σ' H' δ') (h:DAs (Av F σ δ) H v d):DAs (Av F σ' δ') H' v d:=h.mv k.1 k.2
abbrev XP:=Addr->Prop
abbrev DE:=Sts->(PyData->Prop)->XP->Prop
abbrev DT:=Sts->(Bool->Prop)->XP->Prop
abbrev DAr:=Sts->(List PyData->Prop)->XP->Prop
abbrev DSl:=Sts->(List Sl->Prop)->XP->Prop
inductive Md where | D | P | F
def FrV (H H':Hp) (v:V):Prop:=∀ l,v=.ref l->(∃ xs,H' l=some (.lst xs))->H l=none
def Vok (m:Md) (F:Fm) (σ:L2.St) (δ:Sts) (H H':Hp) (v:V) (d:PyData):Prop:=
  match m with
  | .D=>DA (Av F σ δ) H' v d
  | .P=>DP (Av F σ δ) (PotA σ δ) H' v d
  | .F=>DA (Av F σ δ) H' v d/\FrV H H' v
def Out (F:Fm) (E:XK) (EX:XP):Prop:=∀ C,EX C->∀ H',Ke F H'->E (.ref C) none H'
def tX (m:Md) (K:PySem.W.Frag) (E:XK) (w:DE):TE:=fun σ H Q=>∃ (F:Fm) (δ:Sts) (R:PyData->Prop) (EX:XP),Rel K F σ H δ/\w δ R EX/\(∀ d,R d->∀ v H',Rel K F σ H' δ->Kp σ δ H H'->Vok m F σ δ H H' v d->Q v H')/\Out F E EX
def tT (K:PySem.W.Frag) (E:XK) (w:DT):TT:=fun σ H Q=>∃ (F:Fm) (δ:Sts) (R:Bool->Prop) (EX:XP),Rel K F σ H δ/\w δ R EX/\(∀ b,R b->∀ H',Rel K F σ H' δ->Kp σ δ H H'->Q b H')/\Out F E EX
def VD (m:Md) (A P:Addr->Prop) (H:Hp) (v:V) (d:PyData):Prop:=
  match m with
  | .P=>DP A P H v d
  | _=>DA A H v d
def tAr (n:Nat) (m:Md) (K:PySem.W.Frag) (E:XK) (w:DAr):TA:=fun σ H Q=>∃ (F:Fm) (δ:Sts) (R:List PyData->Prop) (EX:XP),Rel K F σ H δ/\w δ R EX/\(∀ ds,R ds->ds.length=n->∀ vs H',Rel K F σ H' δ->Kp σ δ H H'->Paired (VD m (Av F σ δ) (PotA σ δ) H') vs ds->Q vs H')/\Out F E EX
def QgV (A pt:Addr->Prop) (H:Hp) (v:V):Sl->Prop
  | .v d=>DA A H v d
  | .pot=>∃ p,v=.ref p/\pt p
  | _=>False
def tAs (K:PySem.W.Frag) (E:XK) (w:DSl):TA:=fun σ H Q=>∃ (F:Fm) (δ:Sts) (R:List Sl->Prop) (EX:XP),Rel K F σ H δ/\w δ R EX/\(∀ ds,R ds->∀ vs H',Rel K F σ H' δ->Kp σ δ H H'->Paired (QgV (Av F σ δ) (PotA σ δ) H') vs ds->Q vs H')/\Out F E EX
theorem Kp.vd {m:Md} {F:Fm} {σ:L2.St} {H H':Hp} {δ:Sts} {v:V} {d:PyData} (k:Kp σ δ H H') (h:VD m (Av F σ δ) (PotA σ δ) H v d):VD m (Av F σ δ) (PotA σ δ) H' v d:=by
  cases m
  · exact k.da h
  · exact k.dp h
  · exact k.da h
theorem Kp.arg {F:Fm} {σ:L2.St} {H H':Hp} {δ:Sts} {v:V} {d:Sl} (k:Kp σ δ H H') (h:QgV (Av F σ δ) (PotA σ δ) H v d):QgV (Av F σ δ) (PotA σ δ) H' v d:=by
  cases d with
  | v d=>exact k.da h
  | pot=>exact h
  | _=>exact h.elim
def Qci (H:Hp):Prop:=∀ a xs,H a=some (.lst xs)∨H a=some (.tup xs)->xs.length<=sizeLine
section
variable {X:Cx} {E:XK}
theorem Inv.lens {pins:List (Addr×Obj)} {σ:L2.St} {H:Hp} {s:Shared} (I:Inv X pins σ H s):Qci H:=fun a xs h=>by
  rcases h with h | h
  · exact (I.hok a _ h).1
  · exact (I.hok a _ h).1
theorem PE.imp {e:Expr} {t t':TE} (h:PE X e t) (i:∀ σ H Q,t' σ H Q->t σ H Q):PE X e t':=fun pins s σ H Q I q=>h pins s σ H Q I (i σ H Q q)
theorem PT.imp {e:Expr} {t t':TT} (h:PT X e t) (i:∀ σ H Q,t' σ H Q->t σ H Q):PT X e t':=fun pins s σ H Q I q=>h pins s σ H Q I (i σ H Q q)
theorem PW.imp {e:Expr} {t t':TT} (h:PW X e t) (i:∀ σ H Q,t' σ H Q->t σ H Q):PW X e t':=fun wh pins s σ H Q I q=>h wh pins s σ H Q I (i σ H Q q)
theorem PA.imp {e:List Expr} {t t':TA} (h:PA X e t) (i:∀ σ H Q,t' σ H Q->t σ H Q):PA X e t':=fun pos pins s σ H Q I q=>h pos pins s σ H Q I (i σ H Q q)
theorem OpR.len {f:Value->Value->Sem Value} {r:R2} (h:OpR X f r):OpR X f (fun x y H Q=>Qci H->r x y H Q):=fun pins s σ H x y v u Q I rx ry q=>h pins s σ H x y v u Q I rx ry (q (Inv.lens I))
theorem CallR.len {f:Value} {r:List V->Hp->VK->Prop} (h:CallR X f r):CallR X f (fun xs H Q=>Qci H->r xs H Q):=fun pins s σ H xs us Q I rx q=>h pins s σ H xs us Q I rx (q (Inv.lens I))
theorem UnR.len {f:Value->Sem Value} {r:V->Hp->VK->Prop} (h:UnR X f r):UnR X f (fun x H Q=>Qci H->r x H Q):=fun pins s σ H x v Q I rx q=>h pins s σ H x v Q I rx (q (Inv.lens I))
theorem IxR.len {r:R2} (h:IxR X r):IxR X (fun x y H Q=>Qci H->r x y H Q):=fun a b pins s σ H x y v u Q I rx ry q hs=>h a b pins s σ H x y v u Q I rx ry (q (Inv.lens I)) hs
theorem SlR.len {r:V->Option Int->Option Int->Hp->VK->Prop} (h:SlR X r):SlR X (fun x a b H Q=>Qci H->r x a b H Q):=fun pins s σ H x v vl vu lo hi sl Q I rx hs pl pu q=>h pins s σ H x v vl vu lo hi sl Q I rx hs pl pu (q (Inv.lens I))
theorem OpR.or2 {f:Value->Value->Sem Value} {r r':R2} (h:OpR X f r) (h':OpR X f r'):OpR X f (fun x y H Q=>r x y H Q∨r' x y H Q):=OpR.or h h'
theorem CallR.or2 {f:Value} {r r':List V->Hp->VK->Prop} (h:CallR X f r) (h':CallR X f r'):CallR X f (fun x H Q=>r x H Q∨r' x H Q):=fun pins s σ H xs us Q I rx q=>q.elim (h pins s σ H xs us Q I rx) (h' pins s σ H xs us Q I rx)
theorem IxR.or2 {r r':R2} (h:IxR X r) (h':IxR X r'):IxR X (fun x y H Q=>r x y H Q∨r' x y H Q):=fun a b pins s σ H x y v u Q I rx ry q hs=>q.elim (fun q=>h a b pins s σ H x y v u Q I rx ry q hs) fun q=>h' a b pins s σ H x y v u Q I rx ry q hs
theorem SlR.or2 {r r':V->Option Int->Option Int->Hp->VK->Prop} (h:SlR X r) (h':SlR X r'):SlR X (fun x a b H Q=>r x a b H Q∨r' x a b H Q):=fun pins s σ H x v vl vu lo hi sl Q I rx hs pl pu q=>q.elim (h pins s σ H x v vl vu lo hi sl Q I rx hs pl pu) (h' pins s σ H x v vl vu lo hi sl Q I rx hs pl pu)
theorem toD {e:Expr} {w:DE} (h:PE X e (tX .F X.K E w)):PE X e (tX .D X.K E w):=PE.imp h fun σ H Q ⟨F,δ,R,EX,r,hw,k,o⟩=>⟨F,δ,R,EX,r,hw,fun d hd v H' r' kp vk=>k d hd v H' r' kp vk.1,o⟩
theorem toP {e:Expr} {w:DE} (h:PE X e (tX .D X.K E w)):PE X e (tX .P X.K E w):=PE.imp h fun σ H Q ⟨F,δ,R,EX,r,hw,k,o⟩=>⟨F,δ,R,EX,r,hw,fun d hd v H' r' kp vk=>k d hd v H' r' kp (.inl vk),o⟩
theorem toPF {e:Expr} {w:DE} (h:PE X e (tX .F X.K E w)):PE X e (tX .P X.K E w):=toP (toD h)
def dVar (i:Nat):DE:=fun δ Q _=>match δ[i]? with
  | some (.v d)=>Q d
  | _=>False
def dPk (i:Nat):DE:=fun δ Q _=>match δ[i]? with
  | some (.v d)=>Q d
  | some (.own ds)=>Q (.list ds)
  | some (.pk ds)=>Q (.list ds)
  | _=>False
def dC (d:PyData):DE:=fun _ Q _=>Q d
theorem Rel.lt {K:PySem.W.Frag} {F:Fm} {σ:L2.St} {H:Hp} {δ:Sts} (r:Rel K F σ H δ) {i:Nat} {x:Sl} (h:δ[i]? = some x):∃ o,σ[i]? = some o:=by
  have:=(List.getElem?_eq_some_iff.mp h).1
  exact ⟨σ[i]'(by rw [r.len];exact this),List.getElem?_eq_getElem _⟩
theorem pd_var {e:Expr} {i:Nat} (h:PE X e (tVar i)):PE X e (tX .D X.K E (dVar i)):=PE.imp h fun σ H Q ⟨F,δ,R,EX,r,hw,k,o⟩=>by
  unfold dVar at hw
  split at hw
  · rename_i d hd
    obtain ⟨x,hx⟩:=r.lt hd
    obtain ⟨v,rfl,q⟩:=r.sl i _ _ hx hd
    exact ⟨v,hx,k d hw v H r (Kp.refl r) q⟩
  · exact hw.elim
theorem pd_pk {e:Expr} {i:Nat} (h:PE X e (tVar i)):PE X e (tX .P X.K E (dPk i)):=PE.imp h fun σ H Q ⟨F,δ,R,EX,r,hw,k,o⟩=>by
  unfold dPk at hw
  split at hw
  · rename_i d hd
    obtain ⟨x,hx⟩:=r.lt hd
    obtain ⟨v,rfl,q⟩:=r.sl i _ _ hx hd
    exact ⟨v,hx,k d hw v H r (Kp.refl r) (.inl q)⟩
  · rename_i d hd
    obtain ⟨x,hx⟩:=r.lt hd
    obtain ⟨l,xs,rfl,e,q,_⟩:=r.sl i _ _ hx hd
    exact ⟨_,hx,k _ hw _ H r (Kp.refl r) (.inr ⟨l,xs,d,rfl,rfl,r.own_pot hd hx,e,q⟩)⟩
  · rename_i d hd
    obtain ⟨x,hx⟩:=r.lt hd
    obtain ⟨l,xs,rfl,e,q,ys,f,f2⟩:=r.sl i _ _ hx hd
    refine ⟨_,hx,k _ hw _ H r (Kp.refl r) (.inr ⟨l,xs,d,rfl,rfl,?_,e,q⟩)⟩
    rintro ⟨j,j1,j2⟩
    obtain ⟨p,m,e1,_,w⟩:=r.sl j _ _ j1 j2
    cases e1
    rcases w with w | w
    · exact f2 w
    · rw [w] at f;cases f
  · exact hw.elim
theorem pd_c {e:Expr} {v:V} {d:PyData} (h:PE X e (tC v)) (q:∀ (A:Addr->Prop) (H:Hp),DA A H v d):PE X e (tX .D X.K E (dC d)):=PE.imp h fun σ H Q ⟨F,δ,R,EX,r,hw,k,o⟩=>k d hw v H r (Kp.refl r) (q _ _)
theorem pd_int {i:Int} {j pos}:PE X (.Constant (.int i) j pos) (tX .D X.K E (dC (.int i))):=pd_c Qa5 fun _ _=>.int i
theorem pd_bl {b:Bool} {j pos}:PE X (.Constant (.bool b) j pos) (tX .D X.K E (dC (.bool b))):=pd_c pe_bl fun _ _=>.bl b
theorem pd_non {j pos}:PE X (.Constant .none j pos) (tX .D X.K E (dC .none)):=pd_c pe_non fun _ _=>.non
theorem pd_str {x:Str} {j pos} (h:PyData.canLay0 (.str x)=true:=by decide +kernel):PE X (.Constant (.str x) j pos) (tX .D X.K E (dC (.str x))):=pd_c pe_str fun _ _=>.str x h
def OpD (r:R2) (rD:PyData->PyData->(PyData->Prop)->Prop):Prop:=∀ (A P:Addr->Prop) (H:Hp) (x y:V) (d1 d2:PyData) (R:PyData->Prop) (Q:VK),Qci H->(∀ a,A a->∃ xs,H a=some (.lst xs))->DP A P H x d1->DP A P H y d2->rD d1 d2 R ->
  (∀ d,R d->∀ v H',Same H H'->DA A H' v d->FrV H H' v->Q v H')->r x y H Q
def OpDn (r:R2) (rD:PyData->PyData->(PyData->Prop)->Prop):Prop:=∀ (A P:Addr->Prop) (H:Hp) (x y:V) (d1 d2:PyData) (R:PyData->Prop) (Q:VK),Qci H->(∀ a,A a->∃ xs,H a=some (.lst xs))->DP A P H x d1->DP A P H y d2->rD d1 d2 R ->
  (∀ d,R d->∀ v H',Same H H'->DA A H' v d->Q v H')->r x y H Q
def dOp (rD:PyData->PyData->(PyData->Prop)->Prop) (wa wb:DE):DE:=fun δ Q EX=>wa δ (fun d1=>wb δ (fun d2=>rD d1 d2 Q) EX) EX
theorem Qfn {K:PySem.W.Frag} {r:R2} {rD:PyData->PyData->(PyData->Prop)->Prop} {wa wb:DE} (hd:OpD r rD) (σ:L2.St) (H:Hp) (Q:VK) (h:tX .F K E (dOp rD wa wb) σ H Q) :
    tOp (fun x y H Q=>Qci H->r x y H Q) (tX .P K E wa) (tX .P K E wb) σ H Q:=by
  obtain ⟨F,δ,R,EX,rel,hw,k,o⟩:=h
  refine ⟨F,δ,_,EX,rel,hw,fun d1 h1 x H1 rel1 kp1 x1=>⟨F,δ,_,EX,rel1,h1,fun d2 h2 y H2 rel2 kp2 y2=>fun ln=>?_,o⟩,o⟩
  refine hd (Av F σ δ) (PotA σ δ) H2 x y d1 d2 R Q ln (fun a ha=>rel2.isl ha) (kp2.dp x1) y2 h2 fun d hR v H' s q f=>?_
  refine k d hR v H' (rel2.same s) ((kp1.trans kp2).trans (Kp.same rel2 s)) ⟨q,fun l e1 e2=>?_⟩
  have f2:=f l e1 e2
  cases e:H l with
  | none=>rfl
  | some ob=>
    by_cases z:PotA σ δ l
    · obtain ⟨n,en⟩:=kp2.2 l z
      rw [en] at f2;cases f2
    · rw [(kp1.trans kp2).1 _ _ z e] at f2;cases f2
theorem Qjw {K:PySem.W.Frag} {r:R2} {rD:PyData->PyData->(PyData->Prop)->Prop} {wa wb:DE} (hd:OpDn r rD) (σ:L2.St) (H:Hp) (Q:VK) (h:tX .D K E (dOp rD wa wb) σ H Q) :
    tOp (fun x y H Q=>Qci H->r x y H Q) (tX .P K E wa) (tX .P K E wb) σ H Q:=by
  obtain ⟨F,δ,R,EX,rel,hw,k,o⟩:=h
  refine ⟨F,δ,_,EX,rel,hw,fun d1 h1 x H1 rel1 kp1 x1=>⟨F,δ,_,EX,rel1,h1,fun d2 h2 y H2 rel2 kp2 y2=>fun ln=>?_,o⟩,o⟩
  refine hd (Av F σ δ) (PotA σ δ) H2 x y d1 d2 R Q ln (fun a ha=>rel2.isl ha) (kp2.dp x1) y2 h2 fun d hR v H' s q=>?_
  exact k d hR v H' (rel2.same s) ((kp1.trans kp2).trans (Kp.same rel2 s)) q
variable {a b:Expr} {wa wb:DE} {pos:Pos} {r:R2} {rD:PyData->PyData->(PyData->Prop)->Prop}
theorem pd_bin {op:Operator} (ho:OpR X (binaryOp op) r) (hd:OpD r rD) (ha:PE X a (tX .P X.K E wa)) (hb:PE X b (tX .P X.K E wb)):PE X (.BinOp a op b pos) (tX .F X.K E (dOp rD wa wb)):=PE.imp (QbG (OpR.len ho) ha hb) (Qfn hd)
theorem pd_cmp {op:CmpOp} (ho:OpR X (compareOp op) r) (hd:OpD r rD) (ha:PE X a (tX .P X.K E wa)) (hb:PE X b (tX .P X.K E wb)) (hm:behindInMarks op b=false):PE X (.Compare a [op] [b] pos) (tX .F X.K E (dOp rD wa wb)):=PE.imp (Qlg (OpR.len ho) ha hb hm) (Qfn hd)
theorem pd_ix {r:R2} {rD:PyData->PyData->(PyData->Prop)->Prop} (ho:IxR X r) (hd:OpDn r rD) (ha:PE X a (tX .P X.K E wa)) (hb:PE X b (tX .P X.K E wb)) (hs:QfN b):PE X (.Subscript a b pos) (tX .D X.K E (dOp rD wa wb)):=PE.imp (Qjd (IxR.len ho) ha hb hs) (Qjw hd)
def dTst (w:DE):DT:=fun δ Q EX=>w δ (fun d=>match d with
  | .bool k=>Q k
  | _=>False) EX
theorem Qlm {op:CmpOp} (ho:OpR X (compareOp op) r) (hd:OpD r rD) (ha:PE X a (tX .P X.K E wa)) (hb:PE X b (tX .P X.K E wb)) (hm:behindInMarks op b=false):PT X (.Compare a [op] [b] pos) (tT X.K E (dTst (dOp rD wa wb))):=by
  refine PT.imp (Qfj (OpR.len ho) ha hb hm) fun σ H Q ⟨F,δ,R,EX,rel,hw,k,o⟩=>?_
  refine Qfn hd σ H (fun x H'=>∃ k,x=.bl k/\Q k H') ⟨F,δ,_,EX,rel,hw,fun d hd2 v H' rel' kp vk=>?_,o⟩
  split at hd2
  · rename_i b
    have:v=.bl b:=by cases vk.1;rfl
    exact ⟨b,this,k b hd2 H' rel' kp⟩
  · exact hd2.elim
def tru:PyData->Bool
  | .none=>false
  | .bool b=>b
  | .int i=>i != 0
  | .str y=>(y.length:Int) != 0
  | .list ds => !ds.isEmpty
  | .tuple ds => !ds.isEmpty
  | .dict ds => !ds.isEmpty
def strOk:PyData->Prop
  | .str y=>y.length<=sizeLine
  | _=>True
def dTru (w:DE):DT:=fun δ Q EX=>w δ (fun d=>strOk d/\Q (tru d)) EX
theorem tru_of {K:PySem.W.Frag} {A P:Addr->Prop} {H:Hp} {v:V} {d:PyData} (h:DP A P H v d) (hs:strOk d):TruV K v H (tru d):=by
  have sq:∀ {xs:List V} {ds:List PyData},DAs A H xs ds->(!ds.isEmpty) = !xs.isEmpty:=fun q=>by cases q<;>rfl
  rcases h with h | ⟨l,xs,ds,rfl,rfl,_,e,q⟩
  · cases h with
    | non=>rfl
    | bl b=>rfl
    | int i=>rfl
    | str x c=>exact ⟨hs,rfl⟩
    | @tup a xs ds n e q=>exact .inr (.inl ⟨xs,SqT.of e,sq q⟩)
    | @lst a xs ds n e q=>exact .inl ⟨xs,SqL.of e,sq q⟩
    | @dct a n e=>exact .inr (.inr ⟨[],e,rfl⟩)
  · exact .inl ⟨xs,SqL.of e,sq q⟩
theorem Qlk {e:Expr} {w:DE} (h:PE X e (tX .P X.K E w)) (he:∀ whole,isTrue e X.env whole=(do let v <- whole;standAt e.pos;holding [v] (truthy v))):PT X e (tT X.K E (dTru w)):=by
  refine PT.imp (Qi7 h he) fun σ H Q ⟨F,δ,R,EX,rel,hw,k,o⟩=>?_
  exact ⟨F,δ,_,EX,rel,hw,fun d ⟨hs,hq⟩ v H' rel' kp vk=>⟨tru d,tru_of vk hs,k _ hq H' rel' kp⟩,o⟩
theorem Qlj {e:Expr} {w:DE} (h:PE X e (tX .P X.K E w)) (he:∀ whole,isTrue e X.env whole=(do let v <- whole;standAt e.pos;holding [v] (truthy v)):=by intro _;rfl):PT X e (tT X.K E (dTst w)):=by
  refine PT.imp (pt_val h he) fun σ H Q ⟨F,δ,R,EX,rel,hw,k,o⟩=>?_
  refine ⟨F,δ,_,EX,rel,hw,fun d hd v H' rel' kp vk=>?_,o⟩
  split at hd
  · exact ⟨_,DP.bool vk,k _ hd H' rel' kp⟩
  · exact hd.elim
def dOr (wa wb:DT):DT:=fun δ Q EX=>wa δ (fun c=>if c=true then Q true else wb δ Q EX) EX
def dNot (wa:DT):DT:=fun δ Q EX=>wa δ (fun c=>Q (!c)) EX
theorem QdP {c:Prop} [Decidable c] {p q p' q':Prop} (h:if c then p else q) (h1:p->p') (h2:q->q'):if c then p' else q':=by
  split at h
  · rw [if_pos (by assumption)];exact h1 h
  · rw [if_neg (by assumption)];exact h2 h
variable {rest:List Expr} {ta tb:DT}
theorem Qli (ha:PT X a (tT X.K E ta)):PW X (.BoolOp .Or [a] pos) (tT X.K E ta):=pw_or1 ha
theorem pdw_or (ha:PT X a (tT X.K E ta)) (hb:PW X (.BoolOp .Or (b::rest) pos) (tT X.K E tb)):PW X (.BoolOp .Or (a::b::rest) pos) (tT X.K E (dOr ta tb)):=by
  refine PW.imp (pw_or ha hb) fun σ H Q ⟨F,δ,R,EX,rel,hw,k,o⟩=>?_
  refine ⟨F,δ,_,EX,rel,hw,fun c hc H' rel' kp=>?_,o⟩
  exact QdP hc (fun z=>k _ z H' rel' kp) (fun z=>⟨F,δ,R,EX,rel',z,fun c hc H2 rel2 kp2=>k c hc H2 rel2 (kp.trans kp2),o⟩)
theorem Qll (ha:PT X a (tT X.K E ta)):PT X (.UnaryOp .Not a pos) (tT X.K E (dNot ta)):=by
  refine PT.imp (pt_not ha) fun σ H Q ⟨F,δ,R,EX,rel,hw,k,o⟩=>?_
  exact ⟨F,δ,_,EX,rel,hw,fun c hc H' rel' kp=>k _ hc H' rel' kp,o⟩
def dAndV (wa wb:DE):DE:=fun δ Q EX=>wa δ (fun d=>match d with
  | .bool c=>if c=true then wb δ Q EX else Q (.bool false)
  | _=>False) EX
def dOrV (wa wb:DE):DE:=fun δ Q EX=>wa δ (fun d=>match d with
  | .bool c=>if c=true then Q (.bool true) else wb δ Q EX
  | _=>False) EX
def dNotV (wa:DE):DE:=fun δ Q EX=>wa δ (fun d=>match d with
  | .bool c=>Q (.bool (!c))
  | _=>False) EX
theorem pd_one {op} {w:DE} (h:PE X a (tX .D X.K E w)):PE X (.BoolOp op [a] pos) (tX .D X.K E w):=pe_one h
theorem pd_and (ha:PE X a (tX .P X.K E wa)) (hb:PE X (.BoolOp .And (b::rest) pos) (tX .D X.K E wb)):PE X (.BoolOp .And (a::b::rest) pos) (tX .D X.K E (dAndV wa wb)):=by
  refine PE.imp (pe_and ha hb) fun σ H Q ⟨F,δ,R,EX,rel,hw,k,o⟩=>?_
  refine ⟨F,δ,_,EX,rel,hw,fun d hd v H' rel' kp vk=>?_,o⟩
  split at hd
  · exact ⟨_,DP.bool vk,QdP hd (fun z=>⟨F,δ,R,EX,rel',z,fun d hd v H2 rel2 kp2=>k d hd v H2 rel2 (kp.trans kp2),o⟩) fun z=>k _ z _ H' rel' kp (.bl _)⟩
  · exact hd.elim
theorem pd_or (ha:PE X a (tX .P X.K E wa)) (hb:PE X (.BoolOp .Or (b::rest) pos) (tX .D X.K E wb)):PE X (.BoolOp .Or (a::b::rest) pos) (tX .D X.K E (dOrV wa wb)):=by
  refine PE.imp (pe_or ha hb) fun σ H Q ⟨F,δ,R,EX,rel,hw,k,o⟩=>?_
  refine ⟨F,δ,_,EX,rel,hw,fun d hd v H' rel' kp vk=>?_,o⟩
  split at hd
  · exact ⟨_,DP.bool vk,QdP hd (fun z=>k _ z _ H' rel' kp (.bl _)) (fun z=>⟨F,δ,R,EX,rel',z,fun d hd v H2 rel2 kp2=>k d hd v H2 rel2 (kp.trans kp2),o⟩)⟩
  · exact hd.elim
theorem pd_not (ha:PE X a (tX .P X.K E wa)):PE X (.UnaryOp .Not a pos) (tX .D X.K E (dNotV wa)):=by
  refine PE.imp (pe_not ha) fun σ H Q ⟨F,δ,R,EX,rel,hw,k,o⟩=>?_
  refine ⟨F,δ,_,EX,rel,hw,fun d hd v H' rel' kp vk=>?_,o⟩
  split at hd
  · exact ⟨_,DP.bool vk,k _ hd _ H' rel' kp (.bl _)⟩
  · exact hd.elim
end
theorem Qdc {A:Addr->Prop} {H H':Hp} {l:Addr} {xs:List V} {ds:List PyData} (dm:∀ a,A a->∃ xs,H a=some (.lst xs)) (s:Same H H') (n:H l=none) (e:H' l=some (.lst xs)) (q:DAs A H xs ds):DA A H' (.ref l) (.list ds):=
  .lst (fun z=>by obtain ⟨ys,e'⟩:=dm l z;rw [n] at e';cases e') e (q.same s)
theorem Qex {A:Addr->Prop} {H H':Hp} {l:Addr} {xs:List V} {ds:List PyData} (dm:∀ a,A a->∃ xs,H a=some (.lst xs)) (s:Same H H') (e:H' l=some (.tup xs)) (q:DAs A H xs ds):DA A H' (.ref l) (.tuple ds):=
  .tup (fun z=>by obtain ⟨ys,e'⟩:=dm l z;rw [s _ _ e'] at e;cases e) e (q.same s)
theorem QbI {H H':Hp} {l:Addr} (n:H l=none):FrV H H' (.ref l):=fun l' e _=>by cases e;exact n
theorem Qdg {H H':Hp} {l:Addr} {xs:List V} (e:H' l=some (.tup xs)):FrV H H' (.ref l):=fun l' e1 ⟨ys,e2⟩=>by cases e1;rw [e] at e2;cases e2
theorem Qa1 {H H':Hp} {i:Int}:FrV H H' (.int i):=fun l' e _=>by cases e
theorem Qbb {H H':Hp} {i:Bool}:FrV H H' (.bl i):=fun l' e _=>by cases e
theorem Ql5 {H H':Hp}:FrV H H' .non:=fun l' e _=>by cases e
theorem DAs.rep {A:Addr->Prop} {H:Hp} {xs:List V} {ds:List PyData} (q:DAs A H xs ds):∀ k:Nat,DAs A H (List.replicate k xs).flatten (List.replicate k ds).flatten
  | 0=>.nil
  | k+1=>by rw [List.replicate_succ,List.replicate_succ,List.flatten_cons,List.flatten_cons];exact q.app (DAs.rep q k)
def addD:PyData->PyData->(PyData->Prop)->Prop
  | .int i,.int j,Q=>Q (.int (i+j))
  | .tuple a,.tuple b,Q=>a.length+b.length<=1000000/\Q (.tuple (a++b))
  | .list a,.list b,Q=>a.length+b.length<=1000000/\Q (.list (a++b))
  | _,_,_=>False
def iiD (C:Int->Int->Prop) (f:Int->Int->PyData):PyData->PyData->(PyData->Prop)->Prop
  | .int i,.int j,Q=>C i j/\Q (f i j)
  | _,_,_=>False
def ii0 (f:Int->Int->PyData):PyData->PyData->(PyData->Prop)->Prop
  | .int i,.int j,Q=>Q (f i j)
  | _,_,_=>False
def mulD:PyData->PyData->(PyData->Prop)->Prop
  | .int i,.int j,Q=>(CMul i j∨CMulB i j)/\Q (.int (i*j))
  | .list a,.int k,Q=>(k<1000000 /\ -1000000<k/\a.length*k.toNat<=1000000)/\Q (.list (List.replicate k.toNat a).flatten)
  | _,_,_=>False
theorem QgN:1000000<=sizeLine:=by show 1000000<=2^24;decide
section
variable {X:Cx} {E:XK}
theorem QjG {C:Int->Int->Prop} {g:Int->Int->Int}:OpD (rI C fun i j=>.int (g i j)) (iiD C fun i j=>.int (g i j)):=fun A P H x y d1 d2 R Q ln dm hx hy h k=>by
  cases d1<;>cases d2<;>first | exact h.elim | skip
  rw [hx.int,hy.int]
  exact ⟨_,_,rfl,rfl,h.1,k _ h.2 _ H (Same.refl H) (.int _) Qa1⟩
theorem QdG {g:Int->Int->Int}:OpD (rI0 fun i j=>.int (g i j)) (ii0 fun i j=>.int (g i j)):=fun A P H x y d1 d2 R Q ln dm hx hy h k=>by
  cases d1<;>cases d2<;>first | exact h.elim | skip
  rw [hx.int,hy.int]
  exact ⟨_,_,rfl,rfl,k _ h _ H (Same.refl H) (.int _) Qa1⟩
theorem QhU {g:Int->Int->Bool}:OpD (rI0 fun i j=>.bl (g i j)) (ii0 fun i j=>.bool (g i j)):=fun A P H x y d1 d2 R Q ln dm hx hy h k=>by
  cases d1<;>cases d2<;>first | exact h.elim | skip
  rw [hx.int,hy.int]
  exact ⟨_,_,rfl,rfl,k _ h _ H (Same.refl H) (.bl _) Qbb⟩
def rAdd:R2:=fun x y H Q=>(rI0 (fun i j=>.int (i+j)) x y H Q∨rCatA x y H Q)∨rCat x y H Q
theorem Qau:OpR X (binaryOp .Add) rAdd:=OpR.or2 (OpR.or2 QdF QlG) op_cat
theorem QaE:OpD rAdd addD:=fun A P H x y d1 d2 R Q ln dm hx hy h k=>by
  cases d1<;>cases d2<;>first | exact h.elim | skip
  · rw [hx.int,hy.int]
    exact .inl (.inl ⟨_,_,rfl,rfl,k _ h _ H (Same.refl H) (.int _) Qa1⟩)
  · obtain ⟨l1,xs,rfl,e1,q1⟩:=hx.list
    obtain ⟨l2,ys,rfl,e2,q2⟩:=hy.list
    refine .inr ⟨l1,l2,xs,ys,rfl,rfl,e1,e2,Nat.le_trans (by rw [q1.length,q2.length];exact h.1) QgN,fun p hp=>?_⟩
    exact k _ h.2 _ _ (Qar hp) (Qdc dm (Qar hp) hp Qaq (q1.app q2)) (QbI hp)
  · obtain ⟨l1,xs,rfl,e1,q1⟩:=hx.tuple
    obtain ⟨l2,ys,rfl,e2,q2⟩:=hy.tuple
    refine .inl (.inr ⟨l1,l2,xs,ys,rfl,rfl,e1,e2,Nat.le_trans (by rw [q1.length,q2.length];exact h.1) QgN,fun p H' s e=>?_⟩)
    exact k _ h.2 _ _ s (Qex dm s e (q1.app q2)) (Qdg e)
def rMulA:R2:=fun x y H Q=>(rI CMul (fun i j=>.int (i*j)) x y H Q∨rI CMulB (fun i j=>.int (i*j)) x y H Q)∨rRep x y H Q
theorem QhH:OpR X (binaryOp .Mult) rMulA:=OpR.or2 (OpR.or2 QdD QlD) op_rep
theorem Qkh:OpD rMulA mulD:=fun A P H x y d1 d2 R Q ln dm hx hy h k=>by
  cases d1<;>cases d2<;>first | exact h.elim | skip
  · rw [hx.int,hy.int]
    rcases h.1 with c | c
    · exact .inl (.inl ⟨_,_,rfl,rfl,c,k _ h.2 _ H (Same.refl H) (.int _) Qa1⟩)
    · exact .inl (.inr ⟨_,_,rfl,rfl,c,k _ h.2 _ H (Same.refl H) (.int _) Qa1⟩)
  · obtain ⟨l1,xs,rfl,e1,q1⟩:=hx.list
    rw [hy.int]
    obtain ⟨⟨h1,h2,h3⟩,h4⟩:=h
    refine .inr ⟨l1,_,xs,rfl,rfl,e1,by omega,by omega,Nat.le_trans (by rw [q1.length];exact h3) QgN,fun p hp=>?_⟩
    exact k _ h4 _ _ (Qar hp) (Qdc dm (Qar hp) hp Qaq (q1.rep _)) (QbI hp)
def eqD:PyData->PyData->(PyData->Prop)->Prop
  | .int i,.int j,Q=>Q (.bool (decide (i=j)))
  | .bool i,.bool j,Q=>Q (.bool (decide (i=j)))
  | .str i,.str j,Q=>Q (.bool (decide (i=j)))
  | a,b,Q=>(nd a=true/\nd b=true/\(a.depth<=50∨b.depth<=50))/\Q (.bool (PyData.eqv a b))
def neD:PyData->PyData->(PyData->Prop)->Prop
  | .int i,.int j,Q=>Q (.bool (!decide (i=j)))
  | .bool i,.bool j,Q=>Q (.bool (!decide (i=j)))
  | .str i,.str j,Q=>Q (.bool (!decide (i=j)))
  | a,b,Q=>(nd a=true/\nd b=true/\(a.depth<=50∨b.depth<=50))/\Q (.bool (!PyData.eqv a b))
theorem min50 {a b:PyData} (h:a.depth<=50∨b.depth<=50):min a.depth b.depth<=50:=by rcases h with h | h<;>omega
def rEqA (u:Nat):R2:=fun x y H Q=>rEq x y H Q∨rEqU u x y H Q
def rNeA (u:Nat):R2:=fun x y H Q=>rNe x y H Q∨rNeU u x y H Q
theorem Qcr:OpR X (compareOp .Eq) (rEqA X.A.units):=OpR.or2 op_eq op_eqU
theorem Qda:OpR X (compareOp .NotEq) (rNeA X.A.units):=OpR.or2 op_ne op_neU
theorem dec_i {i j:Int}:decide (V.int i=V.int j)=decide (i=j):=by
  by_cases h:i=j
  · subst h;simp
  · rw [decide_eq_false h,decide_eq_false (fun z=>h (V.int.inj z))]
theorem dec_b {i j:Bool}:decide (V.bl i=V.bl j)=decide (i=j):=by
  by_cases h:i=j
  · subst h;simp
  · rw [decide_eq_false h,decide_eq_false (fun z=>h (V.bl.inj z))]
theorem dec_s {i j:Str}:decide (V.str i=V.str j)=decide (i=j):=by
  by_cases h:i=j
  · subst h;simp
  · rw [decide_eq_false h,decide_eq_false (fun z=>h (V.str.inj z))]
theorem Qd9 {u:Nat} (hu:u+60<cLine):OpD (rEqA u) eqD:=fun A P H x y d1 d2 R Q ln dm hx hy h k=>by
  unfold eqD at h
  split at h
  · rw [hx.int,hy.int]
    exact .inl ⟨rfl,k (.bool (decide (V.int _=V.int _))) (by rw [dec_i];exact h) _ H (Same.refl H) (.bl _) Qbb⟩
  · rw [hx.bool,hy.bool]
    exact .inl ⟨rfl,k (.bool (decide (V.bl _=V.bl _))) (by rw [dec_b];exact h) _ H (Same.refl H) (.bl _) Qbb⟩
  · rw [hx.str.1,hy.str.1]
    exact .inl ⟨rfl,k (.bool (decide (V.str _=V.str _))) (by rw [dec_s];exact h) _ H (Same.refl H) (.bl _) Qbb⟩
  · obtain ⟨⟨n1,n2,dp⟩,hR⟩:=h
    have:=min50 dp
    exact .inr ⟨_,_,hx.dat n1,hy.dat n2,by omega,k _ hR _ H (Same.refl H) (.bl _) Qbb⟩
theorem Qfq {u:Nat} (hu:u+60<cLine):OpD (rNeA u) neD:=fun A P H x y d1 d2 R Q ln dm hx hy h k=>by
  unfold neD at h
  split at h
  · rw [hx.int,hy.int]
    exact .inl ⟨rfl,k (.bool (!decide (V.int _=V.int _))) (by rw [dec_i];exact h) _ H (Same.refl H) (.bl _) Qbb⟩
  · rw [hx.bool,hy.bool]
    exact .inl ⟨rfl,k (.bool (!decide (V.bl _=V.bl _))) (by rw [dec_b];exact h) _ H (Same.refl H) (.bl _) Qbb⟩
  · rw [hx.str.1,hy.str.1]
    exact .inl ⟨rfl,k (.bool (!decide (V.str _=V.str _))) (by rw [dec_s];exact h) _ H (Same.refl H) (.bl _) Qbb⟩
  · obtain ⟨⟨n1,n2,dp⟩,hR⟩:=h
    have:=min50 dp
    exact .inr ⟨_,_,hx.dat n1,hy.dat n2,by omega,k _ hR _ H (Same.refl H) (.bl _) Qbb⟩
def QkY (u:Nat) (neg:Bool):R2:=fun x y H Q=>∃ c ps ds d,y=.ref c/\H c=some (.lst ps)/\Dats H ps ds/\Dat H x d/\u+d.depth<cLine/\Q (.bl (if neg then !(ds.any fun e=>PyData.eqv e d) else ds.any fun e=>PyData.eqv e d)) H
theorem QlE:OpR X (compareOp .In) (QkY X.A.in1.units false):=by
  intro pins s σ H x y v u Q I rx ry h
  obtain ⟨c,ps,ds,d,rfl,hc,qs,qx,hu,q⟩:=h
  cases ry
  obtain ⟨⟨as,ra⟩,ca⟩:=QaO I.hok d x v qx rx
  obtain ⟨its,rv,pl,hz⟩:=I.list (SqL.of hc)
  obtain ⟨⟨bs,rb⟩,cb⟩:=Qa7 I.hok ds ps its qs rv
  refine SeqAt.in_listAt (eqH s.heap d) pl.isList (fun w hw=>Qde ra ca rb cb hu w (List.mem_toArray.mp hw)) ⟨.bl _,H,I,rfl,?_⟩
  rw [show its.toArray.any (eqH s.heap d)=its.any (eqH s.heap d) by simp,Qdr rb cb]
  exact q
theorem QgC:OpR X (compareOp .NotIn) (QkY X.A.in1.units true):=by
  intro pins s σ H x y v u Q I rx ry h
  obtain ⟨c,ps,ds,d,rfl,hc,qs,qx,hu,q⟩:=h
  cases ry
  obtain ⟨⟨as,ra⟩,ca⟩:=QaO I.hok d x v qx rx
  obtain ⟨its,rv,pl,hz⟩:=I.list (SqL.of hc)
  obtain ⟨⟨bs,rb⟩,cb⟩:=Qa7 I.hok ds ps its qs rv
  refine SeqAt.notIn_listAt (eqH s.heap d) pl.isList (fun w hw=>Qde ra ca rb cb hu w (List.mem_toArray.mp hw)) ⟨.bl _,H,I,rfl,?_⟩
  rw [show its.toArray.any (eqH s.heap d)=its.any (eqH s.heap d) by simp,Qdr rb cb]
  exact q
def inD (neg:Bool) (d:PyData):PyData->(PyData->Prop)->Prop
  | .list ds,Q=>(nds ds=true/\nd d=true/\d.depth<=50)/\Q (.bool (if neg then !(ds.any fun e=>PyData.eqv e d) else ds.any fun e=>PyData.eqv e d))
  | .tuple ds,Q=>(nds ds=true/\nd d=true/\d.depth<=50)/\Q (.bool (if neg then !(ds.any fun e=>PyData.eqv e d) else ds.any fun e=>PyData.eqv e d))
  | _,_=>False
def rInA (u:Nat) (neg:Bool):R2:=fun x y H Q=>rInU u neg x y H Q∨QkY u neg x y H Q
theorem QdE:OpR X (compareOp .In) (rInA X.A.in1.units false):=OpR.or2 op_inU QlE
theorem QeJ:OpR X (compareOp .NotIn) (rInA X.A.in1.units true):=OpR.or2 QhF QgC
theorem QeM {u:Nat} {neg:Bool} (hu:u+60<cLine):OpD (rInA u neg) (inD neg):=fun A P H x y d1 d2 R Q ln dm hx hy h k=>by
  cases d2<;>first | exact h.elim | skip
  · obtain ⟨l,xs,rfl,e,q⟩:=hy.list
    obtain ⟨⟨n1,n2,n3⟩,hR⟩:=h
    exact .inr ⟨l,xs,_,d1,rfl,e,QbK _ _ n1 q,hx.dat n2,by omega,k _ hR _ H (Same.refl H) (.bl _) Qbb⟩
  · obtain ⟨l,xs,rfl,e,q⟩:=hy.tuple
    obtain ⟨⟨n1,n2,n3⟩,hR⟩:=h
    exact .inl ⟨l,xs,_,d1,rfl,e,QbK _ _ n1 q,hx.dat n2,by omega,k _ hR _ H (Same.refl H) (.bl _) Qbb⟩
def isNo:PyData->Bool
  | .none=>true
  | _=>false
def isD:PyData->PyData->(PyData->Prop)->Prop
  | .bool a,.bool b,Q=>Q (.bool (a == b))
  | a,.none,Q=>Q (.bool (isNo a))
  | _,_,_=>False
def rIsA:R2:=fun x y H Q=>(∃ a b,x=.bl a/\y=.bl b/\Q (.bl (a == b)) H)∨(y=.non/\Q (.bl (decide (x=.non))) H)
theorem op_isA:OpR X (compareOp .Is) rIsA:=OpR.or2 Qjx op_isN
theorem dp_non {A P:Addr->Prop} {H:Hp} {v:V} {d:PyData} (h:DP A P H v d):decide (v=.non)=isNo d:=by
  rcases h with h | ⟨l,xs,ds',rfl,rfl,_⟩
  · cases h<;>first | rfl | exact decide_eq_false (fun z=>by cases z)
  · exact decide_eq_false (fun z=>by cases z)
theorem od_is:OpD rIsA isD:=fun A P H x y d1 d2 R Q ln dm hx hy h k=>by
  unfold isD at h
  split at h
  · rw [hx.bool,hy.bool]
    exact .inl ⟨_,_,rfl,rfl,k _ h _ H (Same.refl H) (.bl _) Qbb⟩
  · refine .inr ⟨hy.none,?_⟩
    rw [dp_non hx]
    exact k _ h _ H (Same.refl H) (.bl _) Qbb
  · exact h.elim
def ixD:PyData->PyData->(PyData->Prop)->Prop
  | .list ds,.int i,Q=>∃ d,atI ds i=some d/\Q d
  | .tuple ds,.int i,Q=>∃ d,atI ds i=some d/\Q d
  | _,_,_=>False
theorem QkA {A:Addr->Prop} {H:Hp} {xs:List V} {ds:List PyData} {i:Int} {d:PyData} (q:DAs A H xs ds) (h:atI ds i=some d):∃ v,atI xs i=some v/\DA A H v d:=by
  unfold atI at h ⊢
  rw [q.length]
  cases e:ixN ds.length i with
  | none=>rw [e] at h;cases h
  | some j=>
    rw [e] at h
    exact q.get j d h
def rIxA (K:PySem.W.Frag):R2:=fun x y H Q=>rIxL K x y H Q∨rIxT K x y H Q
theorem Qal:IxR X (rIxA X.K):=IxR.or2 Qei ix_tup
theorem Qax {K:PySem.W.Frag}:OpDn (rIxA K) ixD:=fun A P H x y d1 d2 R Q ln dm hx hy h k=>by
  cases d1<;>cases d2<;>first | exact h.elim | skip
  · obtain ⟨l,xs,rfl,e,q⟩:=hx.list
    obtain ⟨d,hd,hR⟩:=h
    obtain ⟨v,hv,dv⟩:=QkA q hd
    rw [hy.int]
    exact .inl ⟨l,xs,_,v,rfl,rfl,SqL.of e,hv,k d hR v H (Same.refl H) dv⟩
  · obtain ⟨l,xs,rfl,e,q⟩:=hx.tuple
    obtain ⟨d,hd,hR⟩:=h
    obtain ⟨v,hv,dv⟩:=QkA q hd
    rw [hy.int]
    exact .inr ⟨l,xs,_,v,rfl,rfl,SqT.of e,hv,k d hR v H (Same.refl H) dv⟩
def dUn (rD:PyData->(PyData->Prop)->Prop) (wa:DE):DE:=fun δ Q EX=>wa δ (fun d=>rD d Q) EX
def negD:PyData->(PyData->Prop)->Prop
  | .int i,Q=>Q (.int (-i))
  | _,_=>False
variable {a b c:Expr} {wa wb wc:DE} {pos:Pos}
theorem pd_neg (ha:PE X a (tX .P X.K E wa)):PE X (.UnaryOp .USub a pos) (tX .F X.K E (dUn negD wa)):=by
  refine PE.imp (pe_un un_neg ha) fun σ H Q ⟨F,δ,R,EX,rel,hw,k,o⟩=>?_
  refine ⟨F,δ,_,EX,rel,hw,fun d hd v H' rel' kp vk=>?_,o⟩
  cases d<;>first | exact (show False from hd).elim | skip
  exact ⟨_,DP.int vk,k _ hd _ H' rel' kp ⟨.int _,Qa1⟩⟩
def dCh (p q:Int->Int->Bool) (wa wb wc:DE):DE:=fun δ Q EX=>wa δ (fun x=>wb δ (fun y=>match x,y with
  | .int i,.int j=>if p i j=true then wc δ (fun z=>match z with
    | .int k=>Q (.bool (q j k))
    | _=>False) EX else Q (.bool false)
  | _,_=>False) EX) EX
theorem Qme {K:PySem.W.Frag} {p q:Int->Int->Bool} (σ:L2.St) (H:Hp) (Q:VK) (h:tX .F K E (dCh p q wa wb wc) σ H Q) :
    Qj5 (rI0 fun i j=>.bl (p i j)) (rI0 fun i j=>.bl (q i j)) (tX .P K E wa) (tX .P K E wb) (tX .P K E wc) σ H Q:=by
  obtain ⟨F,δ,R,EX,rel,hw,k,o⟩:=h
  refine ⟨F,δ,_,EX,rel,hw,fun d1 h1 x H1 rel1 kp1 x1=>⟨F,δ,_,EX,rel1,h1,fun d2 h2 y H2 rel2 kp2 y2=>?_,o⟩,o⟩
  cases d1<;>cases d2<;>first | exact (show False from h2).elim | skip
  rw [DP.int x1,DP.int y2]
  refine ⟨_,_,rfl,rfl,_,rfl,QdP h2 (fun z=>⟨F,δ,_,EX,rel2,z,fun d3 h3 v H3 rel3 kp3 v3=>?_,o⟩) fun z=>k _ z _ H2 rel2 (kp1.trans kp2) ⟨.bl _,Qbb⟩⟩
  cases d3<;>first | exact (show False from h3).elim | skip
  rw [DP.int v3]
  exact ⟨_,_,rfl,rfl,k _ h3 _ H3 rel3 ((kp1.trans kp2).trans kp3) ⟨.bl _,Qbb⟩⟩
theorem pd_ch {op op':CmpOp} {p q:Int->Int->Bool} (ho:OpR X (compareOp op) (rI0 fun i j=>.bl (p i j))) (ho':OpR X (compareOp op') (rI0 fun i j=>.bl (q i j))) (ha:PE X a (tX .P X.K E wa)) (hb:PE X b (tX .P X.K E wb)) (hc:PE X c (tX .P X.K E wc)) (hm:lastMarks [op,op'] [b,c]=false:=by with_unfolding_all rfl) :
    PE X (.Compare a [op,op'] [b,c] pos) (tX .F X.K E (dCh p q wa wb wc)):=PE.imp (Qje ho ho' ha hb hc (hm:=hm)) Qme
def dNil:DAr:=fun _ Q _=>Q []
def Qir (we:DE) (wr:DAr):DAr:=fun δ Q EX=>we δ (fun d=>wr δ (fun ds=>Q (d::ds)) EX) EX
theorem Qlx {m:Md}:PA X [] (tAr 0 m X.K E dNil):=PA.imp Qba fun σ H Q ⟨F,δ,R,EX,rel,hw,k,o⟩=>k [] hw rfl [] H rel (Kp.refl rel) .nil
theorem QiL {n:Nat} {m:Md} {K:PySem.W.Frag} {we:DE} {wr:DAr} (hm:∀ {F:Fm} {σ:L2.St} {δ:Sts} {H H':Hp} {v:V} {d:PyData},Vok m F σ δ H H' v d->VD m (Av F σ δ) (PotA σ δ) H' v d) (σ:L2.St) (H:Hp) (Q:List V->Hp->Prop) (h:tAr (n+1) m K E (Qir we wr) σ H Q):Qgx (tX m K E we) (tAr n m K E wr) σ H Q:=by
  obtain ⟨F,δ,R,EX,rel,hw,k,o⟩:=h
  refine ⟨F,δ,_,EX,rel,hw,fun d hd v H' rel' kp vk=>⟨F,δ,_,EX,rel',hd,fun ds hds hl vs H2 rel2 kp2 vks=>?_,o⟩,o⟩
  exact k _ hds (by rw [List.length_cons,hl]) (v::vs) H2 rel2 (kp.trans kp2) (.cons (kp2.vd (hm vk)) vks)
theorem QhA {n:Nat} {e:Expr} {es:List Expr} {we:DE} {wr:DAr} (he:PE X e (tX .D X.K E we)) (hr:PA X es (tAr n .D X.K E wr)) (hs:notStar e=true:=by rfl):PA X (e::es) (tAr (n+1) .D X.K E (Qir we wr)):=PA.imp (pa_c he hr hs) (QiL fun h=>h)
theorem Qhz {n:Nat} {e:Expr} {es:List Expr} {we:DE} {wr:DAr} (he:PE X e (tX .P X.K E we)) (hr:PA X es (tAr n .P X.K E wr)) (hs:notStar e=true:=by rfl):PA X (e::es) (tAr (n+1) .P X.K E (Qir we wr)):=PA.imp (pa_c he hr hs) (QiL fun h=>h)
theorem QcB {A P:Addr->Prop} {H:Hp}:∀ {vs:List V} {ds:List PyData},Paired (VD .D A P H) vs ds->DAs A H vs ds
  | _,_,.nil=>.nil
  | _,_,.cons a b=>.cons a (QcB b)
def dTup (w:DAr):DE:=fun δ Q EX=>w δ (fun ds=>Q (.tuple ds)) EX
def dLst (w:DAr):DE:=fun δ Q EX=>w δ (fun ds=>Q (.list ds)) EX
theorem pd_tup {n:Nat} {es:List Expr} {w:DAr} {x1} (h:PA X es (tAr n .D X.K E w)) (hn:n<=1000:=by decide):PE X (.Tuple es x1 pos) (tX .F X.K E (dTup w)):=by
  refine PE.imp (Qld h) fun σ H Q ⟨F,δ,R,EX,rel,hw,k,o⟩=>?_
  refine ⟨F,δ,_,EX,rel,hw,fun ds hds hl vs H' rel' kp q=>?_,o⟩
  have q':=QcB q
  refine ⟨by rw [q'.length,hl];exact hn,fun a H2 s n e=>k _ hds _ H2 (rel'.same s) (kp.trans (Kp.same rel' s)) ⟨Qex (fun a ha=>rel'.isl ha) s e q',Qdg e⟩⟩
theorem Qcf {σ:L2.St} {δ:Sts} {H H':Hp} {l:Addr} (k:Kp σ δ H H') (n:H' l=none):H l=none:=by
  cases e:H l with
  | none=>rfl
  | some ob=>
    by_cases z:PotA σ δ l
    · obtain ⟨m,em⟩:=k.2 l z
      rw [em] at n;cases n
    · rw [k.1 _ _ z e] at n;cases n
theorem pd_lst {n:Nat} {es:List Expr} {w:DAr} (h:PA X es (tAr n .D X.K E w)) (hn:n<=1000:=by decide):PE X (.List es pos) (tX .F X.K E (dLst w)):=by
  refine PE.imp (Qle h) fun σ H Q ⟨F,δ,R,EX,rel,hw,k,o⟩=>?_
  refine ⟨F,δ,_,EX,rel,hw,fun ds hds hl vs H' rel' kp q=>?_,o⟩
  have q':=QcB q
  refine ⟨by rw [q'.length,hl];exact hn,fun a H2 s n e=>k _ hds _ H2 (rel'.same s) (kp.trans (Kp.same rel' s)) ⟨Qdc (fun a ha=>rel'.isl ha) s n e q',QbI (Qcf kp n)⟩⟩
theorem pd_dct {pos:Pos}:PE X (.Dict [] [] pos) (tX .D X.K E (dC (.dict []))):=by
  refine PE.imp Qlf fun σ H Q ⟨F,δ,R,EX,rel,hw,k,o⟩=>fun p hp=>?_
  refine k _ hw _ _ (rel.same (Qar hp)) (Kp.same rel (Qar hp)) (.dct (fun z=>?_) Qaq)
  obtain ⟨xs,e⟩:=rel.isl z
  rw [hp] at e;cases e
def QcN (r:List V->Hp->VK->Prop) (rD:List PyData->(PyData->Prop)->Prop):Prop:=∀ (A P:Addr->Prop) (H:Hp) (vs:List V) (ds:List PyData) (R:PyData->Prop) (Q:VK),Qci H->(∀ a,A a->∃ xs,H a=some (.lst xs))->Paired (DP A P H) vs ds->rD ds R ->
  (∀ d,R d->∀ v H',Same H H'->DA A H' v d->FrV H H' v->Q v H')->r vs H Q
def dCB (rD:List PyData->(PyData->Prop)->Prop) (wa:DAr):DE:=fun δ Q EX=>wa δ (fun ds=>rD ds Q) EX
theorem Qiy {n:Nat} {K:PySem.W.Frag} {r:List V->Hp->VK->Prop} {rD:List PyData->(PyData->Prop)->Prop} {wa:DAr} (hd:QcN r rD) (σ:L2.St) (H:Hp) (Q:VK) (h:tX .F K E (dCB rD wa) σ H Q) :
    tCB (fun xs H Q=>Qci H->r xs H Q) (tAr n .P K E wa) σ H Q:=by
  obtain ⟨F,δ,R,EX,rel,hw,k,o⟩:=h
  refine ⟨F,δ,_,EX,rel,hw,fun ds hds hl vs H' rel' kp q ln=>?_,o⟩
  refine hd (Av F σ δ) (PotA σ δ) H' vs ds R Q ln (fun a ha=>rel'.isl ha) q hds fun d hR v H2 s dv fr=>?_
  exact k d hR v H2 (rel'.same s) (kp.trans (Kp.same rel' s)) ⟨dv,fun l e1 e2=>Qcf kp (fr l e1 e2)⟩
variable {x:Str} {bid T:String} {p:Pos} {e:Expr} {es:List Expr} {n:Nat} {wr:DAr} {r:List V->Hp->VK->Prop} {rD:List PyData->(PyData->Prop)->Prop}
theorem Qjv (hc:CallR X (.builtin bid) r) (hd:QcN r rD) (hg:Gl X x) (hm:X.mg x=none) (hv:bootBuiltins x=some (.builtin bid)) (ha:PA X (e::es) (tAr n .P X.K E wr)) (hn:x ≠ "__name__" := by decide) (hdb:(x == ("__debug__" : Str))=false:=by decide)
    (he:starEach (e::es) X.env=(false,eval e X.env)::starEach es X.env:=by rfl) (hpl:(backTo pos (starEach es X.env)).any (·.1)=false:=by rfl):PE X (.Call (.Name x p) (e::es) [] pos) (tX .F X.K E (dCB rD wr)):=
  PE.imp (Qb6 (CallR.len hc) hg hm hv ha hn hdb he hpl) (Qiy hd)
theorem QhC (hc:CallR X (.type T) r) (hd:QcN r rD) (hg:Gl X x) (hm:X.mg x=none) (hv:bootBuiltins x=some (.type T)) (ha:PA X (e::es) (tAr n .P X.K E wr)) (hn:x ≠ "__name__" := by decide) (hdb:(x == ("__debug__" : Str))=false:=by decide)
    (he:starEach (e::es) X.env=(false,eval e X.env)::starEach es X.env:=by rfl) (hpl:(backTo pos (starEach es X.env)).any (·.1)=false:=by rfl):PE X (.Call (.Name x p) (e::es) [] pos) (tX .F X.K E (dCB rD wr)):=
  PE.imp (Qc8 (CallR.len hc) hg hm hv ha hn hdb he hpl) (Qiy hd)
theorem pd1 {A P:Addr->Prop} {H:Hp} {vs:List V} {d:PyData} (q:Paired (DP A P H) vs [d]):∃ v,vs=[v]/\DP A P H v d:=by
  cases q with
  | cons a b=>cases b;exact ⟨_,rfl,a⟩
theorem pd2 {A P:Addr->Prop} {H:Hp} {vs:List V} {d d':PyData} (q:Paired (DP A P H) vs [d,d']):∃ v v',vs=[v,v']/\DP A P H v d/\DP A P H v' d':=by
  cases q with
  | cons a b=>cases b with | cons b c=>cases c;exact ⟨_,_,rfl,a,b⟩
def lenD:List PyData->(PyData->Prop)->Prop
  | [.list ds],Q=>Q (.int ds.length)
  | [.tuple ds],Q=>Q (.int ds.length)
  | _,_=>False
theorem QaP {K:PySem.W.Frag}:QcN (rLenK K) lenD:=fun A P H vs ds R Q ln dm q h k=>by
  unfold lenD at h
  split at h
  · obtain ⟨v,rfl,hv⟩:=pd1 q
    obtain ⟨l,xs,rfl,e,qq⟩:=hv.list
    exact ⟨l,xs,rfl,.inl (SqL.of e),by rw [qq.length];exact k _ h _ H (Same.refl H) (.int _) Qa1⟩
  · obtain ⟨v,rfl,hv⟩:=pd1 q
    obtain ⟨l,xs,rfl,e,qq⟩:=hv.tuple
    exact ⟨l,xs,rfl,.inr (SqT.of e),by rw [qq.length];exact k _ h _ H (Same.refl H) (.int _) Qa1⟩
  · exact h.elim
theorem Qap:CallR X (.builtin "len") (rLenK X.K):=Qb1
def min2D:List PyData->(PyData->Prop)->Prop
  | [.int i,.int j],Q=>Q (.int (if j<i then j else i))
  | _,_=>False
def max2D:List PyData->(PyData->Prop)->Prop
  | [.int i,.int j],Q=>Q (.int (if j > i then j else i))
  | _,_=>False
theorem Qmf:QcN (fun xs H Q=>∃ i j,xs=[.int i,.int j]/\Q (.int (if j<i then j else i)) H) min2D:=fun A P H vs ds R Q ln dm q h k=>by
  unfold min2D at h
  split at h
  · obtain ⟨v,v',rfl,h1,h2⟩:=pd2 q
    rw [h1.int,h2.int]
    exact ⟨_,_,rfl,k _ h _ H (Same.refl H) (.int _) Qa1⟩
  · exact h.elim
theorem Qmh:QcN (fun xs H Q=>∃ i j,xs=[.int i,.int j]/\Q (.int (if j > i then j else i)) H) max2D:=fun A P H vs ds R Q ln dm q h k=>by
  unfold max2D at h
  split at h
  · obtain ⟨v,v',rfl,h1,h2⟩:=pd2 q
    rw [h1.int,h2.int]
    exact ⟨_,_,rfl,k _ h _ H (Same.refl H) (.int _) Qa1⟩
  · exact h.elim
def Qb2:List PyData->Option (List Bool)
  | []=>some []
  | .bool b::ds=>(Qb2 ds).map (b::·)
  | _::_=>none
def Qcu:List PyData->Option (List Int)
  | []=>some []
  | .int b::ds=>(Qcu ds).map (b::·)
  | _::_=>none
theorem QiF (bs:List Bool):Qb2 (bs.map PyData.bool)=some bs:=by
  induction bs with
  | nil=>rfl
  | cons b bs ih=>rw [List.map_cons,Qb2,ih];rfl
theorem ints_map (bs:List Int):Qcu (bs.map PyData.int)=some bs:=by
  induction bs with
  | nil=>rfl
  | cons b bs ih=>rw [List.map_cons,Qcu,ih];rfl
theorem bools_eq:∀ {ds:List PyData} {bs:List Bool},Qb2 ds=some bs->ds=bs.map PyData.bool
  | [],bs,h=>by cases h;rfl
  | d::ds,bs,h=>by
    cases d<;>first | (unfold Qb2 at h;cases h;done) | skip
    rw [Qb2] at h
    obtain ⟨cs,h1,rfl⟩:=Option.map_eq_some_iff.mp h
    rw [bools_eq h1];rfl
theorem QfA:∀ {ds:List PyData} {bs:List Int},Qcu ds=some bs->ds=bs.map PyData.int
  | [],bs,h=>by cases h;rfl
  | d::ds,bs,h=>by
    cases d<;>first | (unfold Qcu at h;cases h;done) | skip
    rw [Qcu] at h
    obtain ⟨cs,h1,rfl⟩:=Option.map_eq_some_iff.mp h
    rw [QfA h1];rfl
theorem QeX {A:Addr->Prop} {H:Hp}:∀ {bs:List Bool} {xs:List V},DAs A H xs (bs.map PyData.bool)->xs=bs.map V.bl
  | [],_,.nil=>rfl
  | b::bs,_,.cons (.bl _) r=>by rw [QeX r];rfl
theorem QcX {A:Addr->Prop} {H:Hp}:∀ {bs:List Int} {xs:List V},DAs A H xs (bs.map PyData.int)->xs=bs.map V.int
  | [],_,.nil=>rfl
  | b::bs,_,.cons (.int _) r=>by rw [QcX r];rfl
@[irreducible] def allD:List PyData->(PyData->Prop)->Prop
  | [.list ds],Q=>∃ bs,Qb2 ds=some bs/\Q (.bool (bs.all id))
  | _,_=>False
theorem Qcb {K:PySem.W.Frag} {cm:Bool} (hc:cm=true):QcN (fun xs H Q=>∃ (p:Addr) (bs:List Bool),xs=[.ref p]/\SqL K H p (bs.map V.bl)/\cm=true/\Q (.bl (bs.all id)) H) allD:=fun A P H vs ds R Q ln dm q h k=>by
  unfold allD at h
  split at h
  · obtain ⟨v,rfl,hv⟩:=pd1 q
    obtain ⟨bs,hb,hR⟩:=h
    rw [bools_eq hb] at hv
    obtain ⟨l,xs,rfl,e,qq⟩:=hv.list
    rw [QeX qq] at e
    exact ⟨l,bs,rfl,SqL.of e,hc,k _ hR _ H (Same.refl H) (.bl _) Qbb⟩
  · exact h.elim
def Qj4:List PyData->(PyData->Prop)->Prop
  | [.list ds],Q=>Q (.tuple ds)
  | [.tuple ds],Q=>Q (.tuple ds)
  | _,_=>False
def listD:List PyData->(PyData->Prop)->Prop
  | [.list ds],Q=>Q (.list ds)
  | [.tuple ds],Q=>Q (.list ds)
  | _,_=>False
theorem QcY {K:PySem.W.Frag}:QcN (Qhp K) Qj4:=fun A P H vs ds R Q ln dm q h k=>by
  unfold Qj4 at h
  split at h
  · obtain ⟨v,rfl,hv⟩:=pd1 q
    obtain ⟨l,xs,rfl,e,qq⟩:=hv.list
    exact ⟨l,xs,rfl,.inl ⟨SqL.of e,fun l' H' s n e'=>k _ h _ H' s (Qex dm s e' qq) (Qdg e')⟩⟩
  · obtain ⟨v,rfl,hv⟩:=pd1 q
    obtain ⟨l,xs,rfl,e,qq⟩:=hv.tuple
    exact ⟨l,xs,rfl,.inr ⟨SqT.of e,k _ h _ H (Same.refl H) (Qex dm (Same.refl H) e qq) (Qdg e)⟩⟩
  · exact h.elim
theorem Qmi {K:PySem.W.Frag}:QcN (Qhr K) listD:=fun A P H vs ds R Q ln dm q h k=>by
  unfold listD at h
  split at h
  · obtain ⟨v,rfl,hv⟩:=pd1 q
    obtain ⟨l,xs,rfl,e,qq⟩:=hv.list
    exact ⟨l,xs,rfl,.inl (SqL.of e),fun l' H' s n e'=>k _ h _ H' s (Qdc dm s n e' qq) (QbI n)⟩
  · obtain ⟨v,rfl,hv⟩:=pd1 q
    obtain ⟨l,xs,rfl,e,qq⟩:=hv.tuple
    exact ⟨l,xs,rfl,.inr (SqT.of e),fun l' H' s n e'=>k _ h _ H' s (Qdc dm s n e' qq) (QbI n)⟩
  · exact h.elim
end
section
variable {X:Cx} {E:XK}
inductive Tn where | int | bool | str | tuple | list
def Tn.s:Tn->String
  | .int => "int"
  | .bool => "bool"
  | .str => "str"
  | .tuple => "tuple"
  | .list => "list"
def isT:Tn->PyData->Bool
  | .int,.int _=>true
  | .int,.bool _=>true
  | .bool,.bool _=>true
  | .str,.str _=>true
  | .tuple,.tuple _=>true
  | .list,.list _=>true
  | _,_=>false
theorem QlZ {K:PySem.W.Frag} {A P:Addr->Prop} {H:Hp} {v:V} {d:PyData} (tn:Tn) (h:DP A P H v d):∃ t,TyOf K H v t/\PySem.W.kitOne K t (.type tn.s)=some (isT tn d):=by
  rcases h with h | ⟨l,xs,ds,rfl,rfl,_,e,q⟩
  · cases h with
    | non=>exact ⟨_,.non,by cases tn<;>rfl⟩
    | bl b=>exact ⟨_,.bl _,by cases tn<;>rfl⟩
    | int i=>exact ⟨_,.int _,by cases tn<;>rfl⟩
    | str x c=>exact ⟨_,.str _,by cases tn<;>rfl⟩
    | tup n e q=>exact ⟨_,.tup e,by cases tn<;>rfl⟩
    | lst n e q=>exact ⟨_,.lst e,by cases tn<;>rfl⟩
    | dct n e=>exact ⟨_,.dK e,by cases tn<;>rfl⟩
  · exact ⟨_,.lst e,by cases tn<;>rfl⟩
def dInst (tn:Tn) (we:DE):DE:=fun δ Q EX=>we δ (fun d=>Q (.bool (isT tn d))) EX
theorem Qlz {e f:Expr} {we:DE} {p pos:Pos} (tn:Tn) (hg:Gl X "isinstance") (hm:X.mg "isinstance" = none) (he:PE X e (tX .P X.K E we)) (hf:PE X f (tC (.ty tn.s))) (h1:notStar e=true:=by rfl) (h2:notStar f=true:=by rfl) :
    PE X (.Call (.Name "isinstance" p) [e,f] [] pos) (tX .F X.K E (dInst tn we)):=by
  refine PE.imp (Qb6 QfK hg hm Qet (pa_c he (pa_c hf Qba h2) h1) (he:=QaS h1) (hpl:=by rw [QaS h2];rfl)) fun σ H Q ⟨F,δ,R,EX,rel,hw,k,o⟩=>?_
  refine ⟨F,δ,_,EX,rel,hw,fun d hd v H' rel' kp vk=>?_,o⟩
  obtain ⟨t,ty,et⟩:=QlZ (K:=X.K) tn vk
  exact ⟨v,t,tn.s,_,rfl,ty,et,k _ hd _ H' rel' kp ⟨.bl _,Qbb⟩⟩
theorem pb_ty {x:Str} {pos:Pos} (tn:Tn) (hg:Gl X x) (hm:X.mg x=none) (hv:bootBuiltins x=some (.type tn.s)) (hn:x ≠ "__name__" := by decide) (hd:(x == ("__debug__" : Str))=false:=by decide):PE X (.Name x pos) (tC (.ty tn.s)):=Qlh (v:=.ty tn.s) hg hm hv rfl hn hd
abbrev DO:=Sts->(Option Int->Prop)->XP->Prop
def tO (K:PySem.W.Frag) (E:XK) (w:DO):TO:=fun σ H Q=>∃ (F:Fm) (δ:Sts) (R:Option Int->Prop) (EX:XP),Rel K F σ H δ/\w δ R EX/\(∀ d,R d->∀ H',Rel K F σ H' δ->Kp σ δ H H'->Q d H')/\Out F E EX
def dNo:DO:=fun _ Q _=>Q none
def dSo (we:DE):DO:=fun δ Q EX=>we δ (fun d=>match d with
  | .int i=>Q (some i)
  | _=>False) EX
theorem PO.imp {e:Option Expr} {t t':TO} (h:PO X e t) (i:∀ σ H Q,t' σ H Q->t σ H Q):PO X e t':=fun pins s σ H Q I q=>h pins s σ H Q I (i σ H Q q)
theorem Qjn:PO X none (tO X.K E dNo):=PO.imp Qk9 fun σ H Q ⟨F,δ,R,EX,rel,hw,k,o⟩=>k _ hw H rel (Kp.refl rel)
theorem Qjm {e:Expr} {we:DE} (he:PE X e (tX .P X.K E we)):PO X (some e) (tO X.K E (dSo we)):=by
  refine PO.imp (Qk8 he) fun σ H Q ⟨F,δ,R,EX,rel,hw,k,o⟩=>?_
  refine ⟨F,δ,_,EX,rel,hw,fun d hd v H' rel' kp vk=>?_,o⟩
  cases d<;>first | exact (show False from hd).elim | skip
  exact ⟨_,DP.int vk,k _ hd H' rel' kp⟩
def cutD (xs:List PyData) (lo hi:Option Int):List PyData:=(xs.drop (HT.sIx xs.length 0 lo)).take (HT.sIx xs.length xs.length hi - HT.sIx xs.length 0 lo)
theorem Qit {A:Addr->Prop} {H:Hp} {xs:List V} {ds:List PyData} (q:DAs A H xs ds) (lo hi:Option Int):DAs A H (cutV xs lo hi) (cutD ds lo hi):=by
  unfold cutV cutD
  rw [q.length]
  exact (q.drop _).take _
def slD (d:PyData) (lo hi:Option Int) (Q:PyData->Prop):Prop:=
  match d with
  | .list ds=>Q (.list (cutD ds lo hi))
  | .tuple ds=>Q (.tuple (cutD ds lo hi))
  | _=>False
def dSl (we:DE) (wl wh:DO):DE:=fun δ Q EX=>we δ (fun d=>wl δ (fun lo=>wh δ (fun hi=>slD d lo hi Q) EX) EX) EX
def rSlAny (K:PySem.W.Frag):V->Option Int->Option Int->Hp->VK->Prop:=fun x a b H Q=>rSlA x a b H Q∨rSlLW K x a b H Q
theorem Qjt {e:Expr} {lo hi:Option Expr} {we:DE} {wl wh:DO} {p2 pos:Pos} (he:PE X e (tX .P X.K E we)) (hl:PO X lo (tO X.K E wl)) (hh:PO X hi (tO X.K E wh)):PE X (.Subscript e (.Slice lo hi none p2) pos) (tX .F X.K E (dSl we wl wh)):=by
  refine PE.imp (Qjb (r:=rSlAny X.K) (SlR.or2 sl_any QiW) he hl hh) fun σ H Q ⟨F,δ,R,EX,rel,hw,k,o⟩=>?_
  refine ⟨F,δ,_,EX,rel,hw,fun d hd v H1 rel1 kp1 vk=>⟨F,δ,_,EX,rel1,hd,fun a ha H2 rel2 kp2=>⟨F,δ,_,EX,rel2,ha,fun b hb H3 rel3 kp3=>?_,o⟩,o⟩,o⟩
  have v3:=kp3.dp (kp2.dp vk)
  have K3:=(kp1.trans kp2).trans kp3
  cases d<;>first | exact (show False from hb).elim | skip
  · obtain ⟨l,xs,rfl,e,q⟩:=DP.list v3
    exact .inr ⟨l,xs,rfl,SqL.of e,fun p H' s n e'=>k _ hb _ H' (rel3.same s) (K3.trans (Kp.same rel3 s)) ⟨Qdc (fun a ha=>rel3.isl ha) s n e' (Qit q _ _),QbI (Qcf K3 n)⟩⟩
  · obtain ⟨l,xs,rfl,e,q⟩:=DP.tuple v3
    exact .inl ⟨l,xs,rfl,e,fun p H' s e'=>k _ hb _ H' (rel3.same s) (K3.trans (Kp.same rel3 s)) ⟨Qex (fun a ha=>rel3.isl ha) s e' (Qit q _ _),Qdg e'⟩⟩
abbrev DF:=List Sl->(PyData->Prop)->XP->Prop
def Kq (pt:Addr->Prop) (H H':Hp):Prop:=(∀ b o,¬ pt b->H b=some o->H' b=some o)/\∀ p,pt p->∃ n,H' p=some (.lst [.int n])
def toSp (fr:Bool) (f:DF):Sp:=fun vs H Q Ex=>∃ (A pt:Addr->Prop) (args:List Sl) (R:PyData->Prop) (EX:XP),(∀ a,A a->∃ xs,H a=some (.lst xs))/\(∀ p,pt p->A p/\∃ n,H p=some (.lst [.int n]))/\Paired (QgV A pt H) vs args/\f args R EX /\
  (∀ d,R d->∀ v H',Kq pt H H'->DA A H' v d->(fr=true->FrV H H' v)->Q v H')/\∀ C,EX C->∀ H',Kq pt H H'->Ex (.ref C) none H'
def sNil:DSl:=fun _ Q _=>Q []
def sV (we:DE) (wr:DSl):DSl:=fun δ Q EX=>we δ (fun d=>wr δ (fun ds=>Q (.v d::ds)) EX) EX
def sPot (i:Nat) (wr:DSl):DSl:=fun δ Q EX=>match δ[i]? with
  | some .pot=>wr δ (fun ds=>Q (.pot::ds)) EX
  | _=>False
theorem Qlq:PA X [] (tAs X.K E sNil):=PA.imp Qba fun σ H Q ⟨F,δ,R,EX,rel,hw,k,o⟩=>k [] hw [] H rel (Kp.refl rel) .nil
theorem pds_v {e:Expr} {es:List Expr} {we:DE} {wr:DSl} (he:PE X e (tX .D X.K E we)) (hr:PA X es (tAs X.K E wr)) (hs:notStar e=true:=by rfl):PA X (e::es) (tAs X.K E (sV we wr)):=by
  refine PA.imp (pa_c he hr hs) fun σ H Q ⟨F,δ,R,EX,rel,hw,k,o⟩=>?_
  refine ⟨F,δ,_,EX,rel,hw,fun d hd v H' rel' kp vk=>⟨F,δ,_,EX,rel',hd,fun ds hds vs H2 rel2 kp2 vks=>?_,o⟩,o⟩
  exact k _ hds (v::vs) H2 rel2 (kp.trans kp2) (.cons (kp2.da vk) vks)
theorem Qlo {e:Expr} {es:List Expr} {i:Nat} {wr:DSl} (he:PE X e (tVar i)) (hr:PA X es (tAs X.K E wr)) (hs:notStar e=true:=by rfl):PA X (e::es) (tAs X.K E (sPot i wr)):=by
  refine PA.imp (pa_c he hr hs) fun σ H Q ⟨F,δ,R,EX,rel,hw,k,o⟩=>?_
  unfold sPot at hw
  split at hw
  · rename_i hd
    obtain ⟨x,hx⟩:=rel.lt hd
    obtain ⟨p,n,rfl,e,q⟩:=rel.sl i _ _ hx hd
    refine ⟨.ref p,hx,F,δ,_,EX,rel,hw,fun ds hds vs H2 rel2 kp2 vks=>?_,o⟩
    exact k _ hds (.ref p::vs) H2 rel2 kp2 (.cons ⟨p,rfl,i,hx,hd⟩ vks)
  · exact hw.elim
def Qis (f:DF) (wa:DSl):DE:=fun δ Q EX=>wa δ (fun args=>f args Q EX) EX
theorem Kq.kp {K:PySem.W.Frag} {F:Fm} {σ:L2.St} {δ:Sts} {H H':Hp} (k:Kq (PotA σ δ) H H'):Kp σ δ H H':=k
theorem Qe2 {m:Md} {fr:Bool} {K:PySem.W.Frag} {f:DF} {wa:DSl} (hm:∀ {F:Fm} {σ:L2.St} {δ:Sts} {H H':Hp} {v:V} {d:PyData},DA (Av F σ δ) H' v d->(fr=true->FrV H H' v)->Vok m F σ δ H H' v d) (σ:L2.St) (H:Hp) (Q:VK) (h:tX m K E (Qis f wa) σ H Q):tCall (toSp fr f) [] E (tAs K E wa) σ H Q:=by
  obtain ⟨F,δ,R,EX,rel,hw,k,o⟩:=h
  refine ⟨F,δ,_,EX,rel,hw,fun args ha vs H1 rel1 kp1 q=>?_,o⟩
  show toSp fr f (vs++[]) H1 Q E
  rw [List.append_nil]
  refine ⟨Av F σ δ,PotA σ δ,args,R,EX,fun a ha=>rel1.isl ha,fun p hp=>⟨Qbt hp,(Kp.refl rel1).2 p hp⟩,q,ha,fun d hd v H' kq dv fr=>?_,fun C hC H' kq=>o C hC H' (rel1.kp kq).ke⟩
  exact k d hd v H' (rel1.kp kq) (kp1.trans kq) (hm dv fun z l e1 e2=>Qcf kp1 (fr z l e1 e2))
variable {CX:CXT} {k:Nat} {f:Addr} {fd:FuncData} {ps:List Str} {x:Str} {p pos:Pos} {e:Expr} {es:List Expr} {fD:DF} {wa:DSl}
theorem QlC (G:FnOk X.prog X.w X.K X.mg X.base CX k f fd ps (toSp false fD)) (hr:Room k X.A) (hg:Gl X x) (hm:X.mg x=some (.ref f)) (hk:PySem.W.keepIn X.K (.ref f)=true) (hb:Binds X.K fd ps []) (hx:Qds CX X E)
    (ha:PA X (e::es) (tAs X.K E wa)) (hdb:(x == ("__debug__" : Str))=false:=by decide) (he:starEach (e::es) X.env=(false,eval e X.env)::starEach es X.env:=by rfl) (hpl:(backTo pos (starEach es X.env)).any (·.1)=false:=by rfl) :
    PE X (.Call (.Name x p) (e::es) [] pos) (tX .D X.K E (Qis fD wa)):=PE.imp (Qfm G hr hg hm hk hb .nil hx ha hdb he hpl) (Qe2 fun h _=>h)
theorem Qju (G:FnOk X.prog X.w X.K X.mg X.base CX k f fd ps (toSp true fD)) (hr:Room k X.A) (hg:Gl X x) (hm:X.mg x=some (.ref f)) (hk:PySem.W.keepIn X.K (.ref f)=true) (hb:Binds X.K fd ps []) (hx:Qds CX X E)
    (ha:PA X (e::es) (tAs X.K E wa)) (hdb:(x == ("__debug__" : Str))=false:=by decide) (he:starEach (e::es) X.env=(false,eval e X.env)::starEach es X.env:=by rfl) (hpl:(backTo pos (starEach es X.env)).any (·.1)=false:=by rfl) :
    PE X (.Call (.Name x p) (e::es) [] pos) (tX .F X.K E (Qis fD wa)):=PE.imp (Qfm G hr hg hm hk hb .nil hx ha hdb he hpl) (Qe2 fun h z=>⟨h,z rfl⟩)
end
abbrev DG:=PyData->Sts->(Sts->Prop)->Prop
def tG (ix:List Nat) (K:PySem.W.Frag) (w:DG):TG:=fun v σ H Q=>∃ (F:Fm) (δ:Sts) (d:PyData) (R:Sts->Prop),Rel K F σ H δ/\DA (Av F σ δ) H v d/\w d δ R /\
  ∀ δ',R δ'->∀ σ',Rel K F σ' H δ'->Stp F σ H δ σ' H δ'->σ'.length=σ.length->(∀ j,j∉ix->σ'[j]? = σ[j]?)->Q σ' H
theorem Qbo {α:Type} {l:List α} {i j:Nat} {x:α} (h:j≠i):(l.set i x)[j]? = l[j]? := List.getElem?_set_ne (Ne.symm h)
theorem set_eq {α:Type} {l:List α} {i:Nat} {x y:α} (h:(l.set i x)[i]? = some y):y=x:=by
  rw [List.getElem?_set] at h
  simp only [if_true] at h
  split at h
  · exact (Option.some.inj h).symm
  · cases h
theorem Qdq {F:Fm} {σ:L2.St} {δ:Sts} {i:Nat} {o:Option V} {d:PyData} {a:Addr} (h:Av F (σ.set i o) (δ.set i (.v d)) a):Av F σ δ a:=by
  rcases h with h | ⟨j,h1,h2⟩
  · exact .inl h
  · by_cases z:j=i
    · subst z
      rcases h2 with h2 | ⟨ds,h2⟩<;>cases set_eq h2
    · rw [Qbo z] at h1 h2
      exact .inr ⟨j,h1,h2⟩
theorem Rel.setv {K:PySem.W.Frag} {F:Fm} {σ:L2.St} {H:Hp} {δ:Sts} (r:Rel K F σ H δ) {i:Nat} {v:V} {d:PyData} (q:DA (Av F σ δ) H v d):Rel K F (σ.set i (some v)) H (δ.set i (.v d)) where
  len:=by rw [List.length_set,List.length_set];exact r.len
  dom:=r.dom
  dom0:=r.dom0
  pt0:=r.pt0
  kx:=r.kx
  sl:=fun j o x h1 h2=>by
    have wk:∀ {v:V} {d':PyData},DA (Av F σ δ) H v d'->DA (Av F (σ.set i (some v)) (δ.set i (.v d))) H v d':=fun h=>h.mv (fun _ _ _ e=>e) fun a z=>.inl (Qdq z)
    by_cases z:j=i
    · subst z
      cases set_eq h1
      cases set_eq h2
      exact ⟨v,rfl,q.mv (fun _ _ _ e=>e) fun a z=>.inl (Qdq z)⟩
    · rw [Qbo z] at h1 h2
      have h:=r.sl j o x h1 h2
      cases x with
      | no=>trivial
      | v d=>obtain ⟨v',e,q'⟩:=h;exact ⟨v',e,q'.mv (fun _ _ _ e=>e) fun a z=>.inl (Qdq z)⟩
      | own ds=>obtain ⟨l,xs,e,e2,q',f⟩:=h;exact ⟨l,xs,e,e2,q'.mv (fun _ _ _ e=>e) fun a z=>.inl (Qdq z),f⟩
      | pk ds=>obtain ⟨l,xs,e,e2,q',f⟩:=h;exact ⟨l,xs,e,e2,q'.mv (fun _ _ _ e=>e) fun a z=>.inl (Qdq z),f⟩
      | pot=>exact h
      | scr=>exact h
  inj:=fun j k a ds h1 h2 ⟨h3,h4⟩=>by
    by_cases z:j=i
    · subst z;cases set_eq h1
    · rw [Qbo z] at h1 h2
      by_cases z2:k=i
      · subst z2
        rcases h4 with h4 | ⟨ds,h4⟩<;>cases set_eq h4
      · rw [Qbo z2] at h3 h4
        exact r.inj j k a ds h1 h2 ⟨h3,h4⟩
theorem Stp.setv {F:Fm} {σ:L2.St} {H:Hp} {δ:Sts} {i:Nat} {o:Option V} {d:PyData}:Stp F σ H δ (σ.set i o) H (δ.set i (.v d)):=⟨fun _ _ _ e=>e,fun a z=>.inl (Qdq z)⟩
def gN (i:Nat):DG:=fun d δ Q=>Q (δ.set i (.v d))
def QfT:Sts->List Nat->List PyData->Sts
  | δ,i::is,d::ds=>QfT (δ.set i (.v d)) is ds
  | δ,_,_=>δ
def gTN (is:List Nat):DG:=fun d δ Q=>match d with
  | .tuple ds=>ds.length=is.length/\Q (QfT δ is ds)
  | _=>False
section
variable {X:Cx} {E:XK}
theorem PG.imp {e:Expr} {t t':TG} (h:PG X e t) (i:∀ v σ H Q,t' v σ H Q->t v σ H Q):PG X e t':=fun pins s σ H v u Q I r q=>h pins s σ H v u Q I r (i v σ H Q q)
theorem Qjs {e:Expr} {i:Nat} (h:PG X e (QeU i)):PG X e (tG [i] X.K (gN i)):=PG.imp h fun v σ H Q ⟨F,δ,d,R,rel,dv,hw,k⟩=>
  k _ hw _ (rel.setv dv) Stp.setv (List.length_set ..) fun j hj=>Qbo fun z=>hj (by rw [z];exact List.mem_singleton.mpr rfl)
def gNs:List Nat->TGs
  | []=>gNil
  | i::is=>gCons (QeU i) (gNs is)
theorem Qga {K:PySem.W.Frag} {F:Fm} {H:Hp} {Q:L2.St->Hp->Prop}:∀ (is:List Nat) (vs:List V) (ds:List PyData) (σ:L2.St) (δ:Sts),ds.length=is.length->Rel K F σ H δ->DAs (Av F σ δ) H vs ds ->
    (∀ σ',Rel K F σ' H (QfT δ is ds)->Stp F σ H δ σ' H (QfT δ is ds)->σ'.length=σ.length->(∀ j,j∉is->σ'[j]? = σ[j]?)->Q σ' H)->gNs is vs σ H Q
  | [],vs,ds,σ,δ,hl,rel,q,k=>by
    cases ds with
    | nil=>cases q;exact ⟨rfl,k σ rel Stp.refl rfl fun _ _=>rfl⟩
    | cons d ds=>cases hl
  | i::is,vs,ds,σ,δ,hl,rel,q,k=>by
    cases ds with
    | nil=>cases hl
    | cons d ds=>
      cases q with
      | @cons v vs _ _ q qs=>
        refine ⟨v,vs,rfl,?_⟩
        refine Qga is vs ds _ _ (by simpa using hl) (rel.setv q) (qs.mv (fun _ _ _ e=>e) fun a z=>.inl (Qdq z)) fun σ' r' st hl' hj=>?_
        refine k σ' r' (Stp.setv.trans st) (by rw [hl',List.length_set]) fun j hn=>?_
        rw [hj j (fun z=>hn (List.mem_cons_of_mem _ z)),Qbo (fun z=>hn (by rw [z];exact List.mem_cons_self))]
theorem Qlw {e:Expr} {n:Nat} {is:List Nat} (h:PG X e (gTup X.K n (gNs is))) (hn:is.length=n:=by rfl):PG X e (tG is X.K (gTN is)):=PG.imp h fun v σ H Q ⟨F,δ,d,R,rel,dv,hw,k⟩=>by
  unfold gTN at hw
  split at hw
  · obtain ⟨hl,hR⟩:=hw
    cases dv with
    | @tup a xs ds na e q=>
      exact ⟨a,xs,rfl,SqT.of e,by rw [q.length,hl,hn],Qga is xs _ σ δ hl rel q fun σ' r' st hl' hj=>k _ hR σ' r' st hl' hj⟩
  · exact hw.elim
def ItD (A S:Addr->Prop) (J:It) (items:List PyData) (H1:Hp):Prop:=items.length<=sizeLine/\∀ (H2:Hp) (A':Addr->Prop),(∀ b o,S b->H1 b=some o->H2 b=some o)->(∀ b,A' b->A b∨H1 b=none)->(∀ a,A' a->∃ xs,H2 a=some (.lst xs)) ->
  (∀ (i:Nat) d,items[i]? = some d->J.go i H2/\∀ x H3,J.yld i H2 x H3->Same H2 H3/\DA A' H3 x d)/\J.stop items.length H2
def Sx (m:Md) (F:Fm) (σ:L2.St) (δ:Sts) (b:Addr):Prop:=
  match m with
  | .P=>¬ PotA σ δ b
  | _=>¬ Av F σ δ b
abbrev DI:=Sts->(List PyData->Prop)->XP->Prop
def tI (m:Md) (K:PySem.W.Frag) (E:XK) (w:DI):TI:=fun σ H R=>∃ (F:Fm) (δ:Sts) (R':List PyData->Prop) (EX:XP),Rel K F σ H δ/\w δ R' EX/\(∀ items,R' items->∀ J H',Rel K F σ H' δ->Kp σ δ H H'->ItD (Av F σ δ) (Sx m F σ δ) J items H'->R J H')/\Out F E EX
theorem PI.imp {tg e:Expr} {t t':TI} (h:PI X tg e t) (i:∀ σ H R,Qci H->t' σ H R->t σ H R):PI X tg e t':=fun pins s σ H R I q=>h pins s σ H R I (i σ H R (Inv.lens I) q)
theorem PI.len {tg e:Expr} {t:TI} (h:PI X tg e t):PI X tg e (fun σ H R=>t σ H fun J H1=>Qci H1->R J H1):=fun pins s σ H R I q=>by
  refine thn (h pins s σ H _ I q) fun v s1 h1=>thn h1 fun itv s2 h2=>?_
  obtain ⟨it,fp,tn,J,H',e,I',T,t0,fo,hR⟩:=h2
  exact ⟨it,fp,tn,J,H',e,I',T,t0,fo,hR (Inv.lens I')⟩
def dItL (w:DE):DI:=fun δ Q EX=>w δ (fun d=>match d with
  | .list ds=>Q ds
  | _=>False) EX
def dItT (w:DE):DI:=fun δ Q EX=>w δ (fun d=>match d with
  | .tuple ds=>Q ds
  | _=>False) EX
theorem Qb5 {A S:Addr->Prop} {H H2:Hp} {A':Addr->Prop} {xs:List V} {ds:List PyData} (sA:∀ b,¬ A b->S b) (k:∀ b o,S b->H b=some o->H2 b=some o) (m:∀ b,A' b->A b∨H b=none) (q:DAs A H xs ds):DAs A' H2 xs ds:=q.mv (fun a o n e=>k a o (sA a n) e) m
theorem itl_d {K:PySem.W.Frag} {A S:Addr->Prop} {H:Hp} {l:Addr} {xs:List V} {ds:List PyData} (sA:∀ b,¬ A b->S b) (sl:S l) (e:H l=some (.lst xs)) (q:DAs A H xs ds) (ln:xs.length<=sizeLine):ItD A S (Itl K l) ds H:=by
  refine ⟨by rw [<- q.length];exact ln,fun H2 A' k m dm=>⟨fun i d hd=>?_,xs,SqL.of (k _ _ sl e),by rw [q.length];exact Nat.le_refl _⟩⟩
  obtain ⟨x,hx,dx⟩:=(Qb5 sA k m q).get i d hd
  refine ⟨⟨xs,x,SqL.of (k _ _ sl e),hx⟩,fun y H3 ⟨e3,hy⟩=>?_⟩
  subst e3
  have:=hy xs (SqL.of (k _ _ sl e))
  rw [hx] at this
  cases this
  exact ⟨Same.refl _,dx⟩
theorem itt_d {K:PySem.W.Frag} {A S:Addr->Prop} {H:Hp} {l:Addr} {xs:List V} {ds:List PyData} (sA:∀ b,¬ A b->S b) (sl:S l) (e:H l=some (.tup xs)) (q:DAs A H xs ds) (ln:xs.length<=sizeLine):ItD A S (Itt K l) ds H:=by
  refine ⟨by rw [<- q.length];exact ln,fun H2 A' k m dm=>⟨fun i d hd=>?_,xs,SqT.of (k _ _ sl e),by rw [q.length];exact Nat.le_refl _⟩⟩
  obtain ⟨x,hx,dx⟩:=(Qb5 sA k m q).get i d hd
  refine ⟨⟨xs,x,SqT.of (k _ _ sl e),hx⟩,fun y H3 ⟨e3,hy⟩=>?_⟩
  subst e3
  have:=hy xs (SqT.of (k _ _ sl e))
  rw [hx] at this
  cases this
  exact ⟨Same.refl _,dx⟩
theorem Qez {m:Md} {F:Fm} {σ:L2.St} {δ:Sts} {b:Addr} (h:¬ Av F σ δ b):Sx m F σ δ b:=by
  cases m
  · exact h
  · exact fun z=>h (Qbt z)
  · exact h
theorem stL {m:Md} {F:Fm} {σ:L2.St} {δ:Sts} {H H':Hp} {v:V} {ds:List PyData} (h:VD m (Av F σ δ) (PotA σ δ) H v (.list ds)):∃ l xs,v=.ref l/\Sx m F σ δ l/\H l=some (.lst xs)/\DAs (Av F σ δ) H xs ds:=by
  cases m
  · cases h with | @lst a xs _ n e q=>exact ⟨a,xs,rfl,n,e,q⟩
  · rcases h with h | ⟨l,xs,ds',rfl,e,n,e2,q⟩
    · cases h with | @lst a xs _ n e q=>exact ⟨a,xs,rfl,Qez n,e,q⟩
    · cases e;exact ⟨l,xs,rfl,n,e2,q⟩
  · cases h with | @lst a xs _ n e q=>exact ⟨a,xs,rfl,n,e,q⟩
theorem stT {m:Md} {F:Fm} {σ:L2.St} {δ:Sts} {H H':Hp} {v:V} {ds:List PyData} (h:VD m (Av F σ δ) (PotA σ δ) H v (.tuple ds)):∃ l xs,v=.ref l/\Sx m F σ δ l/\H l=some (.tup xs)/\DAs (Av F σ δ) H xs ds:=by
  cases m
  · cases h with | @tup a xs _ n e q=>exact ⟨a,xs,rfl,n,e,q⟩
  · rcases h with h | ⟨l,xs,ds',rfl,e,n,e2,q⟩
    · cases h with | @tup a xs _ n e q=>exact ⟨a,xs,rfl,Qez n,e,q⟩
    · cases e
  · cases h with | @tup a xs _ n e q=>exact ⟨a,xs,rfl,n,e,q⟩
theorem Qdx {m:Md} {F:Fm} {σ:L2.St} {δ:Sts} {H H':Hp} {v:V} {d:PyData} (h:Vok m F σ δ H H' v d):VD m (Av F σ δ) (PotA σ δ) H' v d:=by
  cases m
  · exact h
  · exact h
  · exact h.1
variable {m:Md} {tg e e':Expr} {w w':DE} {p pos tpos:Pos}
theorem Qjr (h:PE X e (tX m X.K E w)):PI X tg e (tI m X.K E (dItL w)):=by
  refine PI.imp (PI.len (Qlb h)) fun σ H R _ ⟨F,δ,R',EX,rel,hw,k,o⟩=>?_
  refine ⟨F,δ,_,EX,rel,hw,fun d hd v H' rel' kp vk=>?_,o⟩
  cases d<;>first | exact (show False from hd).elim | skip
  obtain ⟨l,xs,rfl,sl,e,q⟩:=stL (H':=H') (Qdx vk)
  exact ⟨l,rfl,⟨xs,SqL.of e⟩,fun ln=>k _ hd _ H' rel' kp (itl_d (fun b=>Qez) sl e q (ln _ _ (.inl e)))⟩
theorem Qlv (h:PE X e (tX m X.K E w)):PI X tg e (tI m X.K E (dItT w)):=by
  refine PI.imp (PI.len (pi_tup h)) fun σ H R _ ⟨F,δ,R',EX,rel,hw,k,o⟩=>?_
  refine ⟨F,δ,_,EX,rel,hw,fun d hd v H' rel' kp vk=>?_,o⟩
  cases d<;>first | exact (show False from hd).elim | skip
  obtain ⟨l,xs,rfl,sl,e,q⟩:=stT (H':=H') (Qdx vk)
  exact ⟨l,rfl,⟨xs,SqT.of e⟩,fun ln=>k _ hd _ H' rel' kp (itt_d (fun b=>Qez) sl e q (ln _ _ (.inr e)))⟩
def rngD (lo:Int) (n:Nat):List PyData:=(List.range n).map fun (i:Nat)=>.int (lo+i)
theorem Qc4 {lo:Int} {n i:Nat} {d:PyData} (h:(rngD lo n)[i]? = some d):i<n/\d=.int (lo+i):=by
  unfold rngD at h
  rw [List.getElem?_map] at h
  by_cases z:i<n
  · rw [List.getElem?_range z] at h
    exact ⟨z,(Option.some.inj h).symm⟩
  · rw [List.getElem?_eq_none (by rw [List.length_range];omega)] at h
    cases h
theorem Qfh {lo:Int} {n:Nat}:(rngD lo n).length=n:=by unfold rngD;rw [List.length_map,List.length_range]
theorem itr_d {A S:Addr->Prop} {H:Hp} {lo:Int} {n:Nat} (hn:n<=1000000):ItD A S (Itr lo n) (rngD lo n) H:=by
  refine ⟨by rw [Qfh];exact Nat.le_trans hn QgN,fun H2 A' k m dm=>⟨fun i d hd=>?_,by rw [Qfh];exact Nat.le_refl _⟩⟩
  obtain ⟨hi,rfl⟩:=Qc4 hd
  exact ⟨hi,fun x H3 ⟨e1,e2⟩=>by subst e1 e2;exact ⟨Same.refl _,.int _⟩⟩
def dRng1 (w:DE):DI:=fun δ Q EX=>w δ (fun d=>match d with
  | .int j=>(-1000000<=j/\j<=1000000)/\Q (rngD 0 j.toNat)
  | _=>False) EX
theorem Qjq (hg:Gl X "range") (hm:X.mg "range" = none) (h:PE X e (tX .P X.K E w)) (hs:notStar e=true:=by rfl):PI X tg (.Call (.Name "range" p) [e] [] pos) (tI m X.K E (dRng1 w)):=by
  refine PI.imp (QeH hg hm (pa_c h Qba hs) (by rw [QaS hs];rfl)) fun σ H R _ ⟨F,δ,R',EX,rel,hw,k,o⟩=>?_
  refine ⟨F,δ,_,EX,rel,hw,fun d hd v H' rel' kp vk=>?_,o⟩
  cases d<;>first | exact (show False from hd).elim | skip
  obtain ⟨⟨h1,h2⟩,hR⟩:=hd
  rw [DP.int vk]
  exact ⟨_,rfl,by omega,by omega,k _ hR _ H' rel' kp (itr_d (by omega))⟩
theorem QhD {A':Addr->Prop} {H2:Hp} {r:Addr} {x y:V} {d d':PyData} (dm:∀ a,A' a->∃ xs,H2 a=some (.lst xs)) (n:H2 r=none) (q:DA A' H2 x d) (q':DA A' H2 y d'):DA A' (upd H2 r (.tup [x,y])) (.ref r) (.tuple [d,d']):=
  .tup (fun z=>by obtain ⟨xs,e⟩:=dm r z;rw [n] at e;cases e) Qaq (.cons (q.same (Qar n)) (.cons (q'.same (Qar n)) .nil))
variable {elts:List Expr}
def zipD (ds es:List PyData):List PyData:=List.zipWith (fun d e=>.tuple [d,e]) ds es
theorem zip_get {ds es:List PyData} {i:Nat} {d:PyData} (h:(zipD ds es)[i]? = some d):∃ a b,ds[i]? = some a/\es[i]? = some b/\d=.tuple [a,b]:=by
  unfold zipD at h
  rw [List.getElem?_zipWith] at h
  cases h1:ds[i]? with
  | none=>rw [h1] at h;cases h
  | some a=>
    cases h2:es[i]? with
    | none=>rw [h1,h2] at h;cases h
    | some b=>rw [h1,h2] at h;exact ⟨a,b,rfl,rfl,(Option.some.inj h).symm⟩
theorem QdT {ds es:List PyData}:(zipD ds es).length=min ds.length es.length:=by unfold zipD;rw [List.length_zipWith]
def dZiL (w w':DE):DI:=fun δ Q EX=>w δ (fun d=>w' δ (fun d'=>match d,d' with
  | .list ds,.list es=>Q (zipD ds es)
  | _,_=>False) EX) EX
def dZiT (w w':DE):DI:=fun δ Q EX=>w δ (fun d=>w' δ (fun d'=>match d,d' with
  | .tuple ds,.tuple es=>Q (zipD ds es)
  | _,_=>False) EX) EX
theorem Qjp {x1} (hg:Gl X "zip") (hm:X.mg "zip" = none) (h:PE X e (tX m X.K E w)) (h':PE X e' (tX m X.K E w')) (hs:notStar e=true:=by rfl) (hs':notStar e'=true:=by rfl):PI X (.Tuple elts x1 tpos) (.Call (.Name "zip" p) [e,e'] [] pos) (tI m X.K E (dZiL w w')):=by
  refine PI.imp (PI.len (Qla hg hm (pa_c h (pa_c h' Qba hs') hs) (by rw [QaS hs,QaS hs'];rfl) (hs2:=by rw [QaS hs'];rfl))) fun σ H R _ ⟨F,δ,R',EX,rel,hw,k,o⟩=>?_
  refine ⟨F,δ,_,EX,rel,hw,fun d hd v H1 rel1 kp1 vk=>⟨F,δ,_,EX,rel1,hd,fun d2 hd2 v2 H2 rel2 kp2 vk2=>?_,o⟩,o⟩
  cases d<;>cases d2<;>first | exact (show False from hd2).elim | skip
  obtain ⟨l,xs,rfl,sl,e,q⟩:=stL (H':=H2) (kp2.vd (Qdx vk))
  obtain ⟨l2,ys,rfl,sl2,e2,q2⟩:=stL (H':=H2) (Qdx vk2)
  refine ⟨l,l2,xs,ys,rfl,e,e2,fun ln=>k _ hd2 _ H2 rel2 (kp1.trans kp2) ⟨?_,fun H3 A' kk mm dm=>⟨fun i d hd'=>?_,xs,ys,kk _ _ sl e,kk _ _ sl2 e2,by rw [QdT,q.length,q2.length];omega⟩⟩⟩
  · rw [QdT,<- q.length]
    exact Nat.le_trans (Nat.min_le_left _ _) (ln _ _ (.inl e))
  obtain ⟨a,b,ha,hb,rfl⟩:=zip_get hd'
  obtain ⟨x,hx,dx⟩:=(Qb5 (S:=Sx m F σ δ) (fun b=>Qez) kk mm q).get i a ha
  obtain ⟨y,hy,dy⟩:=(Qb5 (S:=Sx m F σ δ) (fun b=>Qez) kk mm q2).get i b hb
  refine ⟨⟨xs,ys,x,y,kk _ _ sl e,kk _ _ sl2 e2,hx,hy⟩,fun z H4 ⟨r,x',y',nr,hx',hy',e1,e3⟩=>?_⟩
  subst e1 e3
  have h1:=hx' xs (kk _ _ sl e)
  have h2:=hy' ys (kk _ _ sl2 e2)
  rw [hx] at h1
  rw [hy] at h2
  cases h1
  cases h2
  exact ⟨Qar nr,QhD dm nr dx dy⟩
theorem Qjo {x1} (hg:Gl X "zip") (hm:X.mg "zip" = none) (h:PE X e (tX m X.K E w)) (h':PE X e' (tX m X.K E w')) (hs:notStar e=true:=by rfl) (hs':notStar e'=true:=by rfl):PI X (.Tuple elts x1 tpos) (.Call (.Name "zip" p) [e,e'] [] pos) (tI m X.K E (dZiT w w')):=by
  refine PI.imp (PI.len (pi_zip hg hm (pa_c h (pa_c h' Qba hs') hs) (by rw [QaS hs,QaS hs'];rfl) (hs2:=by rw [QaS hs'];rfl))) fun σ H R _ ⟨F,δ,R',EX,rel,hw,k,o⟩=>?_
  refine ⟨F,δ,_,EX,rel,hw,fun d hd v H1 rel1 kp1 vk=>⟨F,δ,_,EX,rel1,hd,fun d2 hd2 v2 H2 rel2 kp2 vk2=>?_,o⟩,o⟩
  cases d<;>cases d2<;>first | exact (show False from hd2).elim | skip
  obtain ⟨l,xs,rfl,sl,e,q⟩:=stT (H':=H2) (kp2.vd (Qdx vk))
  obtain ⟨l2,ys,rfl,sl2,e2,q2⟩:=stT (H':=H2) (Qdx vk2)
  refine ⟨l,l2,xs,ys,rfl,e,e2,fun ln=>k _ hd2 _ H2 rel2 (kp1.trans kp2) ⟨?_,fun H3 A' kk mm dm=>⟨fun i d hd'=>?_,xs,ys,kk _ _ sl e,kk _ _ sl2 e2,by rw [QdT,q.length,q2.length];omega⟩⟩⟩
  · rw [QdT,<- q.length]
    exact Nat.le_trans (Nat.min_le_left _ _) (ln _ _ (.inr e))
  obtain ⟨a,b,ha,hb,rfl⟩:=zip_get hd'
  obtain ⟨x,hx,dx⟩:=(Qb5 (S:=Sx m F σ δ) (fun b=>Qez) kk mm q).get i a ha
  obtain ⟨y,hy,dy⟩:=(Qb5 (S:=Sx m F σ δ) (fun b=>Qez) kk mm q2).get i b hb
  refine ⟨⟨xs,ys,x,y,kk _ _ sl e,kk _ _ sl2 e2,hx,hy⟩,fun z H4 ⟨r,x',y',nr,hx',hy',e1,e3⟩=>?_⟩
  subst e1 e3
  have h1:=hx' xs (kk _ _ sl e)
  have h2:=hy' ys (kk _ _ sl2 e2)
  rw [hx] at h1
  rw [hy] at h2
  cases h1
  cases h2
  exact ⟨Qar nr,QhD dm nr dx dy⟩
end
def Qmj:Option Sl->Sl
  | some (.v d)=>.v d
  | some (.own ds)=>.pk ds
  | some (.pk ds)=>.pk ds
  | some .pot=>.pot
  | _=>.no
def capD (cap:List (Option Nat)) (δ:Sts):Sts:=cap.map fun o=>match o with
  | none=>.no
  | some j=>Qmj δ[j]?
theorem Qgo {cap:List (Option Nat)} {σ:L2.St} {i:Nat} {o:Option V} (h:(capS cap σ)[i]? = some o):(cap[i]? = some none/\o=none)∨∃ j,cap[i]? = some (some j)/\o=(σ[j]?).getD none:=by
  unfold capS at h
  rw [List.getElem?_map] at h
  obtain ⟨c,hc,rfl⟩:=Option.map_eq_some_iff.mp h
  cases c with
  | none=>exact .inl ⟨hc,rfl⟩
  | some j=>exact .inr ⟨j,hc,rfl⟩
theorem QjX {cap:List (Option Nat)} {δ:Sts} {i:Nat} {x:Sl} (h:(capD cap δ)[i]? = some x):(cap[i]? = some none/\x=.no)∨∃ j,cap[i]? = some (some j)/\x=Qmj δ[j]? := by
  unfold capD at h
  rw [List.getElem?_map] at h
  obtain ⟨c,hc,rfl⟩:=Option.map_eq_some_iff.mp h
  cases c with
  | none=>exact .inl ⟨hc,rfl⟩
  | some j=>exact .inr ⟨j,hc,rfl⟩
theorem QbB {cap:List (Option Nat)} {σ:L2.St} {δ:Sts} {i:Nat} {o:Option V} {x:Sl} (h1:(capS cap σ)[i]? = some o) (h2:(capD cap δ)[i]? = some x) (hx:x≠.no):∃ (j:Nat) (y:Sl),δ[j]? = some y/\x=Qmj (some y)/\o=(σ[j]?).getD none:=by
  rcases QjX h2 with ⟨_,e⟩ | ⟨j,hj,e⟩
  · exact absurd e hx
  · rcases Qgo h1 with ⟨z,_⟩ | ⟨j',hj',e'⟩
    · rw [hj] at z;cases z
    · rw [hj] at hj'
      cases hj'
      cases e2:δ[j]? with
      | none=>rw [e2] at e;exact absurd e hx
      | some y=>exact ⟨j,y,e2,by rw [e,e2],e'⟩
theorem QcK {cap:List (Option Nat)} {σ:L2.St} {δ:Sts} {a:Addr} (h:PotA (capS cap σ) (capD cap δ) a):PotA σ δ a:=by
  obtain ⟨i,h1,h2⟩:=h
  obtain ⟨j,y,hy,e,eo⟩:=QbB h1 h2 (fun z=>by cases z)
  cases y<;>first | (cases e;done) | skip
  refine ⟨j,?_,hy⟩
  cases e2:σ[j]? with
  | none=>rw [e2] at eo;cases eo
  | some o'=>rw [e2] at eo;exact congrArg some eo.symm
def inF (A1:Addr->Prop) (cap:List (Option Nat)) (σ:L2.St) (δ:Sts) (H:Hp):Fm:=⟨H,A1,PotA (capS cap σ) (capD cap δ)⟩
theorem Qkp {A1:Addr->Prop} {cap:List (Option Nat)} {σ:L2.St} {δ:Sts} {H:Hp} (h:∀ a,PotA σ δ a->A1 a) {a:Addr}:Av (inF A1 cap σ δ H) (capS cap σ) (capD cap δ) a↔A1 a:=by
  constructor
  · rintro (z | ⟨i,h1,h2⟩)
    · exact z
    · rcases h2 with h2 | ⟨ds,h2⟩
      · exact h a (QcK ⟨i,h1,h2⟩)
      · obtain ⟨j,y,hy,e,eo⟩:=QbB h1 h2 (fun z=>by cases z)
        cases y<;>cases e
  · exact .inl
theorem in_rel {K:PySem.W.Frag} {F:Fm} {σ:L2.St} {δ:Sts} {H1 H3:Hp} {A1:Addr->Prop} {cap:List (Option Nat)} (rel:Rel K F σ H1 δ) (hA:∀ a,Av F σ δ a->A1 a) (hN:∀ a,A1 a->Av F σ δ a∨H1 a=none)
    (dm:∀ a,A1 a->∃ xs,H3 a=some (.lst xs)) (kp:Kp σ δ H1 H3):Rel K (inF A1 cap σ δ H3) (capS cap σ) H3 (capD cap δ) where
  len:=by unfold capS capD;rw [List.length_map,List.length_map]
  dom:=dm
  dom0:=dm
  pt0:=fun p hp=>⟨hA p (Qbt (QcK hp)),kp.2 p (QcK hp)⟩
  kx:=fun b o _ e=>e
  sl:=fun i o x h1 h2=>by
    have iv:∀ {a:Addr},Av (inF A1 cap σ δ H3) (capS cap σ) (capD cap δ) a->A1 a:=fun {a}=>(Qkp fun a z=>hA a (Qbt z)).mp
    have mv:∀ {v:V} {d:PyData},DA (Av F σ δ) H1 v d->DA (Av (inF A1 cap σ δ H3) (capS cap σ) (capD cap δ)) H3 v d:=fun q=>q.mv (fun a o n e=>kp.1 a o (fun z=>n (Qbt z)) e) fun a z=>hN a (iv z)
    have mvs:∀ {v:List V} {d:List PyData},DAs (Av F σ δ) H1 v d->DAs (Av (inF A1 cap σ δ H3) (capS cap σ) (capD cap δ)) H3 v d:=fun q=>q.mv (fun a o n e=>kp.1 a o (fun z=>n (Qbt z)) e) fun a z=>hN a (iv z)
    cases x with
    | no=>trivial
    | own ds=>
      obtain ⟨j,y,hy,e,eo⟩:=QbB h1 h2 (fun z=>by cases z)
      cases y<;>cases e
    | scr=>
      obtain ⟨j,y,hy,e,eo⟩:=QbB h1 h2 (fun z=>by cases z)
      cases y<;>cases e
    | v d=>
      obtain ⟨j,y,hy,e,eo⟩:=QbB h1 h2 (fun z=>by cases z)
      cases y<;>first | (cases e;done) | skip
      cases e
      obtain ⟨x,hx⟩:=rel.lt hy
      obtain ⟨v,rfl,q⟩:=rel.sl j _ _ hx hy
      rw [hx] at eo
      exact ⟨v,eo,mv q⟩
    | pk ds=>
      obtain ⟨j,y,hy,e,eo⟩:=QbB h1 h2 (fun z=>by cases z)
      cases y<;>first | (cases e;done) | skip
      · cases e
        obtain ⟨x,hx⟩:=rel.lt hy
        obtain ⟨l,xs,rfl,e,q,f⟩:=rel.sl j _ _ hx hy
        rw [hx] at eo
        have np:=rel.own_pot hy hx
        exact ⟨l,xs,eo,kp.1 _ _ np e,mvs q,xs,kp.1 _ _ np e,fun z=>np (QcK z)⟩
      · cases e
        obtain ⟨x,hx⟩:=rel.lt hy
        obtain ⟨l,xs,rfl,e,q,ys,f,f2⟩:=rel.sl j _ _ hx hy
        rw [hx] at eo
        have np:¬ PotA σ δ l:=by
          rintro ⟨j,j1,j2⟩
          obtain ⟨p,m,e1,_,w⟩:=rel.sl j _ _ j1 j2
          cases e1
          rcases w with w | w
          · exact f2 w
          · rw [w] at f;cases f
        exact ⟨l,xs,eo,kp.1 _ _ np e,mvs q,xs,kp.1 _ _ np e,fun z=>np (QcK z)⟩
    | pot=>
      obtain ⟨j,y,hy,e,eo⟩:=QbB h1 h2 (fun z=>by cases z)
      cases y<;>first | (cases e;done) | skip
      obtain ⟨x,hx⟩:=rel.lt hy
      obtain ⟨p,n,rfl,e,q⟩:=rel.sl j _ _ hx hy
      rw [hx] at eo
      obtain ⟨m,em⟩:=kp.2 p ⟨j,hx,hy⟩
      have eo':o=some (.ref p):=eo
      subst eo'
      exact ⟨p,m,rfl,em,.inl ⟨i,h1,h2⟩⟩
  inj:=fun i j a ds h1 h2 _=>by
    obtain ⟨j,y,hy,e,eo⟩:=QbB h2 h1 (fun z=>by cases z)
    cases y<;>cases e
theorem QkG:∀ {σ σ':L2.St},σ'.length=σ.length->(∀ (i:Nat) v,σ[i]? = some (some v)->σ'[i]? = some (some v))->Wk σ σ'
  | [],[],_,_=>trivial
  | [],_::_,h,_=>by cases h
  | _::_,[],h,_=>by cases h
  | none::a,x::b,h,g=>QkG (σ:=a) (σ':=b) (by simpa using h) fun i v e=>by simpa using g (i+1) v (by simpa using e)
  | some u::a,x::b,h,g=>by
    have h0:=g 0 u rfl
    simp only [List.getElem?_cons_zero,Option.some.injEq] at h0
    subst h0
    exact ⟨rfl,QkG (σ:=a) (σ':=b) (by simpa using h) fun i v e=>by simpa using g (i+1) v (by simpa using e)⟩
def QgR (cap:List (Option Nat)) (ix:List Nat):Bool:=ix.all fun i=>match cap[i]? with
  | some none=>true
  | _=>false
theorem cap_wk {cap:List (Option Nat)} {ix:List Nat} (hf:QgR cap ix=true) {σ σ4:L2.St} (hl:σ4.length=(capS cap σ).length) (hj:∀ j,j∉ix->σ4[j]? = (capS cap σ)[j]?):Wk (capS cap σ) σ4:=by
  refine QkG hl fun i v e=>?_
  by_cases z:i∈ix
  · have:=List.all_eq_true.mp hf i z
    rcases Qgo e with ⟨_,e2⟩ | ⟨j,hj2,_⟩
    · cases e2
    · rw [hj2] at this;cases this
  · rw [hj i z];exact e
def XF:XP:=fun _=>False
@[irreducible] def Qeu (items:List PyData) (wg:DG) (wt:DT) (we:DE) (δ:Sts) (Q:PyData->Prop):Prop:=∃ Iv:Nat->List PyData->Prop,Iv 0 [] /\
  (∀ (i:Nat) acc d,items[i]? = some d->Iv i acc->wg d δ fun δ4=>wt δ4 (fun b=>if b=true then we δ4 (fun e=>Iv (i+1) (acc++[e])) XF else Iv (i+1) acc) XF)/\∀ acc,Iv items.length acc->Q (.list acc)
def dComp (cap:List (Option Nat)) (wi:DI) (wg:DG) (wt:DT) (we:DE):DE:=fun δ Q EX=>wi δ (fun items=>Qeu items wg wt we (capD cap δ) Q) EX
def dNoT:DT:=fun _ Q _=>Q true
section
variable {X:Cx} {E:XK}
theorem outF {F:Fm} {E:XK}:Out F E XF:=fun _ z=>z.elim
theorem PTs.imp {es:List Expr} {t t':TT} (h:PTs X es t) (i:∀ σ H Q,t' σ H Q->t σ H Q):PTs X es t':=fun pins s σ H Q I q=>h pins s σ H Q I (i σ H Q q)
theorem Qjg:PTs X [] (tT X.K E dNoT):=PTs.imp Qk4 fun σ H Q ⟨F,δ,R,EX,rel,hw,k,o⟩=>k _ hw H rel (Kp.refl rel)
theorem Qjf {c:Expr} {t:DT} (h:PT X c (tT X.K E t)):PTs X [c] (tT X.K E t):=Qk3 h
theorem Ql1 {K:PySem.W.Frag} {A1:Addr->Prop} {cap:List (Option Nat)} {σ σ4:L2.St} {δ δ4:Sts} {H3 H4:Hp} (r:Rel K (inF A1 cap σ δ H3) σ4 H4 δ4) (hk:∀ b o,¬ PotA σ δ b->H4 b=some o->H3 b=none->False) {b:Addr} (h:PotA σ4 δ4 b):PotA σ δ b:=by
  obtain ⟨i,h1,h2⟩:=h
  obtain ⟨p,n,e,hp,w⟩:=r.sl i _ _ h1 h2
  cases e
  rcases w with w | w
  · exact QcK w
  · by_cases z:PotA σ δ b
    · exact z
    · exact (hk b _ z hp w).elim
theorem Qg2 {K:PySem.W.Frag} {F:Fm} {σ:L2.St} {δ:Sts} {H1 H3:Hp} {cap:List (Option Nat)} {ix:List Nat} {wg:DG} {wt:DT} {A1:Addr->Prop} {x:V} {d:PyData} {inner:L2.St->Hp->(Hp->Prop)->Prop} {kk:Hp->Prop} {T:Sts->Prop} {N:Prop}
    (hf:QgR cap ix=true) (rel:Rel K F σ H1 δ) (hA:∀ a,Av F σ δ a->A1 a) (hN:∀ a,A1 a->Av F σ δ a∨H1 a=none) (dm:∀ a,A1 a->∃ xs,H3 a=some (.lst xs)) (kp:Kp σ δ H1 H3) (dx:DA A1 H3 x d)
    (h:wg d (capD cap δ) fun δ4=>wt δ4 (fun b=>if b=true then T δ4 else N) XF)
    (hT:∀ σ4 δ4 H5,T δ4->Rel K (inF A1 cap σ δ H3) σ4 H5 δ4->Kp σ δ H3 H5->(∀ b,PotA σ4 δ4 b->PotA σ δ b)->inner σ4 H5 kk) (hF:N->∀ H5,Kp σ δ H3 H5->kk H5) :
    bOf (capS cap σ) (tG ix K wg) (tT K E0 wt) inner x H3 kk:=by
  have ri:=in_rel (cap:=cap) rel hA hN dm kp
  have iv:∀ {a:Addr},Av (inF A1 cap σ δ H3) (capS cap σ) (capD cap δ) a->A1 a:=fun {a}=>(Qkp fun a z=>hA a (Qbt z)).mp
  refine ⟨inF A1 cap σ δ H3,capD cap δ,d,_,ri,dx.mv (fun _ _ _ e=>e) fun a z=>.inl (iv z),h,fun δ4 h4 σ4 r4 st4 l4 j4=>⟨cap_wk hf l4 j4,inF A1 cap σ δ H3,δ4,_,XF,r4,h4,fun b hb H5 r5 kp5=>?_,outF⟩⟩
  have pots:∀ {b:Addr},PotA σ4 δ4 b->PotA σ δ b:=fun z=>Ql1 r4 (fun b o _ e1 e2=>by rw [e2] at e1;cases e1) z
  have K5:Kp σ δ H3 H5:=by
    refine ⟨fun b o n e=>kp5.1 b o (fun z=>n (pots z)) e,fun b hb=>?_⟩
    by_cases z:PotA σ4 δ4 b
    · exact kp5.2 b z
    · obtain ⟨n,e⟩:=kp.2 b hb
      exact ⟨n,kp5.1 _ _ z e⟩
  exact QdP hb (fun z=>hT σ4 δ4 H5 z r5 K5 fun b=>pots) fun z=>hF z H5 K5
structure Lp (σ:L2.St) (δ:Sts) (A1:Addr->Prop) (p:Addr) (H1 H2:Hp) (acc:List PyData):Prop where
  kp:Kp σ δ H1 H2
  at_:∃ ys,H2 p=some (.lst ys)/\DAs A1 H2 ys acc
theorem Lp.step {σ:L2.St} {δ:Sts} {A1:Addr->Prop} {p:Addr} {H1 H2 H3:Hp} {acc:List PyData} (hpA:∀ a,PotA σ δ a->A1 a) (hpn:¬ PotA σ δ p) (h:Lp σ δ A1 p H1 H2 acc) (k:Kp σ δ H2 H3):Lp σ δ A1 p H1 H3 acc:=by
  obtain ⟨ys,e,q⟩:=h.at_
  exact ⟨h.kp.trans k,ys,k.1 _ _ hpn e,q.mv (fun a o n e=>k.1 a o (fun z=>n (hpA a z)) e) fun a z=>.inl z⟩
theorem Qkr {K:PySem.W.Frag} {σ σ4:L2.St} {δ δ4:Sts} {H1 H3 H5:Hp} {cap:List (Option Nat)} {we:DE} {A1:Addr->Prop} {p:Addr} {acc:List PyData} {kk:Hp->Prop} {G:PyData->Prop}
    (hpA:A1 p) (hP:∀ a,PotA σ δ a->A1 a) (hp1:H1 p=none) (hpn:¬ PotA σ δ p) (lp:Lp σ δ A1 p H1 H5 acc) (hl:acc.length<sizeLine) (r5:Rel K (inF A1 cap σ δ H3) σ4 H5 δ4) (pots:∀ b,PotA σ4 δ4 b->PotA σ δ b)
    (h:we δ4 G XF) (hk:∀ e,G e->∀ H',Lp σ δ A1 p H1 H' (acc++[e])->kk H'):bElt p (tX .D K E0 we) σ4 H5 kk:=by
  refine ⟨inF A1 cap σ δ H3,δ4,G,XF,r5,h,fun e he v H6 r6 kp6 dv=>?_,outF⟩
  have k56:Kp σ δ H5 H6:=by
    refine ⟨fun b o n e=>kp6.1 b o (fun z=>n (pots b z)) e,fun b hb=>?_⟩
    by_cases z:PotA σ4 δ4 b
    · exact kp6.2 b z
    · obtain ⟨n,e⟩:=lp.kp.2 b hb
      exact ⟨n,kp6.1 _ _ z e⟩
  obtain ⟨k6,ys,e6,q6⟩:=lp.step hP hpn k56
  have up:∀ {b:Addr} {o:HO},¬ A1 b->H6 b=some o->upd H6 p (.lst (ys++[v])) b=some o:=fun {b o} n e=>by rw [Qay (fun z=>n (by rw [z];exact hpA))];exact e
  refine ⟨ys,e6,by rw [q6.length];exact hl,hk e he _ ⟨⟨fun b o n e=>?_,fun b hb=>?_⟩,ys++[v],Qaq,DAs.app (q6.mv (fun _ _=>up) fun a z=>.inl z) (.cons (DA.mv dv (fun a o n e=>up (fun z=>n (.inl z)) e) fun a z=>.inl (.inl z)) .nil)⟩⟩
  · rw [Qay (fun z=>by rw [z,hp1] at e;cases e)]
    exact k6.1 b o n e
  · rw [Qay (fun z=>hpn (by rw [<- z];exact hb))]
    exact k6.2 b hb
theorem QlA {M:List Str} {cap:List (Option Nat)} {elt tg iter:Expr} {ifs:List Expr} {scope:Scope} {pos:Pos} {ix:List Nat} {wi:DI} {wg:DG} {wt:DT} {we:DE} (hc:X.calm=true) (ok:QfI X.N X.env.scope M scope cap=true) (hf:QgR cap ix=true)
    (hi:PI X tg iter (tI .P X.K E wi)) (hb:∀ cl ex s3 H3 C,PG (blk X M scope cl ex s3 H3 C) tg (tG ix X.K wg)/\PTs (blk X M scope cl ex s3 H3 C) ifs (tT X.K E0 wt)/\PE (blk X M scope cl ex s3 H3 C) elt (tX .D X.K E0 we))
    (hs:∀ x,foldedSetIterable iter X.env x=pure x:=by intro _;rfl):PE X (.ListComp elt [⟨tg,iter,ifs,0⟩] scope pos) (tX .F X.K E (dComp cap wi wg wt we)):=by
  refine PE.imp (Qjc hc ok hi hb hs) fun σ H Q ⟨F,δ,R,EX,rel,hw,k,o⟩=>?_
  refine ⟨F,δ,_,EX,rel,hw,fun items hC J H1 rel1 kp1 ⟨ln,it⟩ p hp=>?_,o⟩
  unfold Qeu at hC
  obtain ⟨Iv,i0,step,fin⟩:=hC
  have hpn:¬ PotA σ δ p:=fun z=>by obtain ⟨xs,e⟩:=rel1.isl (Qbt (F:=F) z);rw [hp] at e;cases e
  let A1:Addr->Prop:=fun a=>Av F σ δ a∨a=p
  have hP:∀ a,PotA σ δ a->A1 a:=fun a z=>.inl (Qbt z)
  have hN:∀ a,A1 a->Av F σ δ a∨H1 a=none:=fun a z=>z.elim .inl fun z=>.inr (by rw [z];exact hp)
  have dmK:∀ {H2:Hp},Kp σ δ H1 H2->(∃ ys,H2 p=some (.lst ys))->∀ a,A1 a->∃ xs,H2 a=some (.lst xs):=fun {H2} k2 e2 a z=>by
    rcases z with z | z
    · exact (rel1.kp k2).isl z
    · rw [z];exact e2
  refine Qh2 items.length (fun i H2=>i<=items.length/\∃ acc,Iv i acc/\acc.length<=i/\Lp σ δ A1 p H1 H2 acc) ⟨Nat.zero_le _,[],i0,Nat.le_refl _,Kp.same rel1 (Qar hp),[],Qaq,.nil⟩ (fun i H2 hi ⟨_,acc,iv,hl,lp⟩=>?_) fun H2 ⟨_,acc,iv,hl,lp⟩=>?_
  · obtain ⟨k2,ys,e2,q2⟩:=lp
    obtain ⟨go,_⟩:=it H2 A1 (fun b o n e=>k2.1 b o n e) hN (dmK k2 ⟨ys,e2⟩)
    have hd:items[i]? = some items[i]:=List.getElem?_eq_getElem hi
    obtain ⟨g1,g2⟩:=go i _ hd
    refine ⟨g1,fun x H3 y kk hk=>?_⟩
    obtain ⟨s3,dx⟩:=g2 x H3 y
    have k23:=Kp.same (rel1.kp k2) s3
    have lp3:Lp σ δ A1 p H1 H3 acc:=Lp.step hP hpn ⟨k2,ys,e2,q2⟩ k23
    refine Qg2 hf rel1 (fun a z=>.inl z) hN (dmK lp3.kp ⟨ys,s3 _ _ e2⟩) lp3.kp dx (step i acc _ hd iv) (fun σ4 δ4 H5 h5 r5 k5 pots=>?_) fun h5 H5 k5=>hk _ ⟨hi,acc,h5,by omega,lp3.step hP hpn k5⟩
    exact Qkr (.inr rfl) hP hp hpn (lp3.step hP hpn k5) (by omega) r5 pots h5 fun e he H' lp'=>hk _ ⟨hi,acc++[e],he,by rw [List.length_append];show _+1<=_;omega,lp'⟩
  · obtain ⟨k2,ys,e2,q2⟩:=lp
    obtain ⟨_,st⟩:=it H2 A1 (fun b o n e=>k2.1 b o n e) hN (dmK k2 ⟨ys,e2⟩)
    refine ⟨st,k _ (fin acc iv) (.ref p) H2 (rel1.kp k2) (kp1.trans k2) ⟨.lst (fun z=>?_) e2 (q2.mv (fun _ _ _ e=>e) fun a z=>.inl (.inl z)),fun l e1 _=>?_⟩⟩
    · obtain ⟨xs,e⟩:=rel1.isl z
      rw [hp] at e;cases e
    · cases e1
      exact Qcf kp1 hp
theorem Qmd {items:List PyData} {wg:DG} {wt:DT} {we:DE} {δ:Sts} {Q:PyData->Prop} (G:PyData->Option PyData)
    (h:∀ d∈items,∀ (k1:Prop) (k2:PyData->Prop),(G d=none->k1)->(∀ e,G d=some e->k2 e)->wg d δ fun δ4=>wt δ4 (fun b=>if b=true then we δ4 k2 XF else k1) XF) (q:Q (.list (items.filterMap G))) :
    Qeu items wg wt we δ Q:=by
  unfold Qeu
  refine ⟨fun i acc=>acc=(items.take i).filterMap G,by simp,fun i acc d hd e=>?_,fun acc e=>by rw [e,List.take_length];exact q⟩
  have hs:(items.take (i+1)).filterMap G=(items.take i).filterMap G++(G d).toList:=by
    rw [List.take_add_one,hd,List.filterMap_append]
    cases e2:G d<;>simp [e2]
  have e:acc=(items.take i).filterMap G:=e
  refine h d (List.mem_of_getElem? hd) _ _ (fun e2=>?_) fun e' e2=>?_
  · show acc=(items.take (i+1)).filterMap G
    rw [hs,e2,e];simp
  · show acc++[e']=(items.take (i+1)).filterMap G
    rw [hs,e2,e];rfl
theorem Qa8 {items:List PyData} {wg:DG} {we:DE} {δ:Sts} {Q:PyData->Prop} (G:PyData->PyData)
    (h:∀ d∈items,∀ (k2:PyData->Prop),k2 (G d)->wg d δ fun δ4=>we δ4 k2 XF) (q:Q (.list (items.map G))) :
    Qeu items wg dNoT we δ Q:=by
  unfold Qeu
  refine ⟨fun i acc=>acc=(items.take i).map G,by simp,fun i acc d hd e=>?_,fun acc e=>by rw [e,List.take_length];exact q⟩
  have hs:(items.take (i+1)).map G=(items.take i).map G++[G d]:=by
    rw [List.take_add_one,hd,List.map_append]
    simp
  have e:acc=(items.take i).map G:=e
  have hh:=h d (List.mem_of_getElem? hd) (fun e=>acc++[e]=(items.take (i+1)).map G) (by show acc++[G d]=_;rw [hs,e])
  simp only [dNoT,if_true]
  exact hh
end
mutual
theorem Qio {A B:Addr->Prop} {H:Hp}:∀ (d d':PyData) (x:V),DA A H x d->DA B H x d'->d=d'
  | .none,d',_,.non,h=>by cases h;rfl
  | .bool _,d',_,.bl _,h=>by cases h;rfl
  | .int _,d',_,.int _,h=>by cases h;rfl
  | .str _,d',_,.str _ _,h=>by cases h;rfl
  | .tuple ds,d',_,.tup (xs:=xs) n e q,h=>by
    cases h with
    | @tup a ys es n' e' q'=>
      rw [e] at e'
      cases e'
      rw [Qel ds es xs q q']
    | @lst a ys es n' e' q'=>rw [e] at e';cases e'
    | @dct a n' e'=>rw [e] at e';cases e'
  | .list ds,d',_,.lst (xs:=xs) n e q,h=>by
    cases h with
    | @tup a ys es n' e' q'=>rw [e] at e';cases e'
    | @lst a ys es n' e' q'=>
      rw [e] at e'
      cases e'
      rw [Qel ds es xs q q']
    | @dct a n' e'=>rw [e] at e';cases e'
  | .dict _,d',_,.dct n e,h=>by
    cases h with
    | @tup a ys es n' e' q'=>rw [e] at e';cases e'
    | @lst a ys es n' e' q'=>rw [e] at e';cases e'
    | @dct a n' e'=>rfl
theorem Qel {A B:Addr->Prop} {H:Hp}:∀ (ds es:List PyData) (xs:List V),DAs A H xs ds->DAs B H xs es->ds=es
  | [],es,_,.nil,h=>by cases h;rfl
  | d::ds,es,_,.cons q qs,h=>by
    cases h with
    | @cons x xs e es q' qs'=>rw [Qio d e _ q q',Qel ds es _ qs qs']
end
mutual
theorem da_off {A:Addr->Prop} {H:Hp} {l:Addr} {rs:List PyData} (root:DA A H (.ref l) (.list rs)):∀ (d:PyData) (x:V),sizeOf d<sizeOf (PyData.list rs)->DA A H x d->DA (fun a=>A a∨a=l) H x d
  | .none,_,_,.non=>.non
  | .bool _,_,_,.bl _=>.bl _
  | .int _,_,_,.int _=>.int _
  | .str _,_,_,.str _ c=>.str _ c
  | .tuple ds,_,hs,.tup (a:=a) (xs:=xs) n e q=>.tup (fun z=>z.elim n fun z=>by subst z;cases root with | @lst _ ys _ n' e' q'=>(rw [e] at e';cases e')) e (Qem root ds xs (by simp at hs ⊢;omega) q)
  | .list ds,_,hs,.lst (a:=a) (xs:=xs) n e q=>.lst (fun z=>z.elim n fun z=>by
      subst z
      have:=Qio _ _ _ root (.lst n e q)
      rw [this] at hs
      omega) e (Qem root ds xs (by simp at hs ⊢;omega) q)
  | .dict _,_,hs,.dct (a:=a) n e=>.dct (fun z=>z.elim n fun z=>by subst z;cases root with | @lst _ ys _ n' e' q'=>(rw [e] at e';cases e')) e
theorem Qem {A:Addr->Prop} {H:Hp} {l:Addr} {rs:List PyData} (root:DA A H (.ref l) (.list rs)):∀ (ds:List PyData) (xs:List V),sizeOf ds<sizeOf (PyData.list rs)->DAs A H xs ds->DAs (fun a=>A a∨a=l) H xs ds
  | [],_,_,.nil=>.nil
  | d::ds,_,hs,.cons q qs=>.cons (da_off root d _ (by simp at hs ⊢;omega) q) (Qem root ds _ (by simp at hs ⊢;omega) qs)
end
theorem DA.items {A:Addr->Prop} {H:Hp} {l:Addr} {ds:List PyData} (root:DA A H (.ref l) (.list ds)):∃ xs,H l=some (.lst xs)/\DAs (fun a=>A a∨a=l) H xs ds:=by
  have root':=root
  cases root with
  | @lst _ xs _ n e q=>exact ⟨xs,e,Qem root' ds xs (by simp) q⟩
structure DEnds where
  nx:Sts->Prop
  rt:PyData->Prop
  rtF:PyData->Prop
  bk:Sts->Prop
  ct:Sts->Prop
  ex:XP
abbrev DS:=DEnds->Sts->Prop
structure Nx (K:PySem.W.Frag) (F:Fm) (σ:L2.St) (H:Hp) (δ:Sts) (R:Sts->Prop) (T:L2.St->Hp->Prop):Prop where
  go:∀ δ',R δ'->∀ σ' H',Rel K F σ' H' δ'->Stp F σ H δ σ' H' δ'->T σ' H'
structure Ends1 (K:PySem.W.Frag) (E:XK) (F:Fm) (σ:L2.St) (H:Hp) (δ:Sts) (DD:DEnds) (D:Ends):Prop where
  nx:Nx K F σ H δ DD.nx D.nx
  rt:∀ d,DD.rt d->∀ v H',Ke F H'->DA F.A0 H' v d->D.rt v H'
  rtF:∀ d,DD.rtF d->∀ v H',Ke F H'->DA F.A0 H' v d->FrV F.H0 H' v->D.rt v H'
  bk:Nx K F σ H δ DD.bk D.bk
  ct:Nx K F σ H δ DD.ct D.ct
  ex:Out F E DD.ex
def tS (K:PySem.W.Frag) (E:XK) (w:DS):TS:=fun D σ H=>∃ (F:Fm) (δ:Sts) (DD:DEnds),Rel K F σ H δ/\w DD δ/\Ends1 K E F σ H δ DD D
theorem Nx.step {K:PySem.W.Frag} {F:Fm} {σ σ1:L2.St} {H H1:Hp} {δ δ1:Sts} {R:Sts->Prop} {T:L2.St->Hp->Prop} (h:Nx K F σ H δ R T) (s:Stp F σ H δ σ1 H1 δ1):Nx K F σ1 H1 δ1 R T:=⟨fun δ' hR σ' H' r st=>h.go δ' hR σ' H' r (s.trans st)⟩
theorem Ends1.step {K:PySem.W.Frag} {E:XK} {F:Fm} {σ σ1:L2.St} {H H1:Hp} {δ δ1:Sts} {DD:DEnds} {D:Ends} (h:Ends1 K E F σ H δ DD D) (s:Stp F σ H δ σ1 H1 δ1):Ends1 K E F σ1 H1 δ1 DD D:=⟨h.nx.step s,h.rt,h.rtF,h.bk.step s,h.ct.step s,h.ex⟩
section
variable {X:Cx} {E:XK}
theorem PS.imp {e:Stmt} {t t':TS} (h:PS X e t) (i:∀ D σ H,t' D σ H->t D σ H):PS X e t':=fun pins s σ H D I q=>h pins s σ H D I (i D σ H q)
theorem PSs.imp {e:List Stmt} {t t':TS} (h:PSs X e t) (i:∀ D σ H,t' D σ H->t D σ H):PSs X e t':=fun pins s σ H D I q=>h pins s σ H D I (i D σ H q)
def dSeq (a b:DS):DS:=fun D δ=>a { D with nx:=b D } δ
def dSkip:DS:=fun D δ=>D.nx δ
theorem Qjh:PSs X [] (tS X.K E dSkip):=PSs.imp Qfk fun D σ H ⟨F,δ,DD,rel,hw,en⟩=>en.nx.go δ hw σ H rel Stp.refl
theorem Qlp {st:Stmt} {w:DS} (h:PS X st (tS X.K E w)):PSs X [st] (tS X.K E w):=Qce h
theorem Qjl {st:Stmt} {rest:List Stmt} {w w':DS} (h:PS X st (tS X.K E w)) (h':PSs X rest (tS X.K E w')):PSs X (st::rest) (tS X.K E (dSeq w w')):=by
  refine PSs.imp (Qbk h h') fun D σ H ⟨F,δ,DD,rel,hw,en⟩=>?_
  exact ⟨F,δ,_,rel,hw,⟨fun δ' h' σ' H' r st=>⟨F,δ',DD,r,h',en.step st⟩⟩,en.rt,en.rtF,en.bk,en.ct,en.ex⟩
def dSet (i:Nat) (we:DE):DS:=fun D δ=>we δ (fun d=>D.nx (δ.set i (.v d))) D.ex
def dSetF (i:Nat) (we:DE):DS:=fun D δ=>we δ (fun d=>match d with
  | .list ds=>D.nx (δ.set i (.own ds))
  | _=>False) D.ex
def dSetP (i:Nat) (we:DE):DS:=fun D δ=>we δ (fun d=>match d with
  | .list [.int _]=>D.nx (δ.set i .pot)
  | _=>False) D.ex
variable {i:Nat} {e:Expr} {st:Stmt} {we wi:DE}
theorem Qhy (h:PS X st (tAsg (tX .D X.K E we) (QeU i))):PS X st (tS X.K E (dSet i we)):=by
  refine PS.imp h fun D σ H ⟨F,δ,DD,rel,hw,en⟩=>?_
  refine ⟨F,δ,_,DD.ex,rel,hw,fun d hd v H' rel' kp vk=>?_,en.ex⟩
  exact en.nx.go _ hd _ H' (rel'.setv vk) ((Stp.kp kp).trans Stp.setv)
theorem Qkz {F:Fm} {σ:L2.St} {δ:Sts} {i:Nat} {l:Addr} {x:Sl} {a:Addr} (h:Av F (σ.set i (some (.ref l))) (δ.set i x) a):Av F σ δ a∨a=l:=by
  rcases h with h | ⟨j,h1,h2⟩
  · exact .inl (.inl h)
  · by_cases z:j=i
    · subst z
      cases set_eq h1
      exact .inr rfl
    · rw [Qbo z] at h1 h2
      exact .inl (.inr ⟨j,h1,h2⟩)
theorem Rel.seto {K:PySem.W.Frag} {F:Fm} {σ:L2.St} {H H':Hp} {δ:Sts} {l:Addr} {x:Sl} (r:Rel K F σ H δ) (r':Rel K F σ H' δ) (kp:Kp σ δ H H') (n:H l=none) (hx:∀ A:Addr->Prop,(∀ a,A a->Av F σ δ a∨H a=none)->(∀ a,A a->Av F σ δ a∨a=l)->SlOk K F H' A (some (.ref l)) x) :
    Rel K F (σ.set i (some (.ref l))) H' (δ.set i x)/\Stp F σ H δ (σ.set i (some (.ref l))) H' (δ.set i x):=by
  have nA:∀ a,Av F (σ.set i (some (.ref l))) (δ.set i x) a->Av F σ δ a∨H a=none:=fun a z=>(Qkz z).elim .inl fun z=>.inr (by rw [z];exact n)
  have kk:∀ a o,¬ Av F σ δ a->H a=some o->H' a=some o:=fun a o m e=>kp.1 a o (fun z=>m (Qbt z)) e
  refine ⟨?_,⟨kk,nA⟩⟩
  exact {
    len:=by rw [List.length_set,List.length_set];exact r.len
    dom:=r'.dom
    dom0:=r'.dom0
    pt0:=r'.pt0
    kx:=r'.kx
    sl:=fun j o y h1 h2=>by
      by_cases z:j=i
      · subst z
        cases set_eq h1
        cases set_eq h2
        exact hx _ nA fun a z=>Qkz z
      · rw [Qbo z] at h1 h2
        have h:=r.sl j o y h1 h2
        have h':=r'.sl j o y h1 h2
        cases y with
        | no=>trivial
        | v d=>obtain ⟨v',e,q'⟩:=h;exact ⟨v',e,q'.mv kk nA⟩
        | own ds=>obtain ⟨l',xs,rfl,e2,q',f⟩:=h;exact ⟨l',xs,rfl,kp.1 _ _ (r.own_pot h2 h1) e2,q'.mv kk nA,f⟩
        | pk ds=>
          obtain ⟨l',xs,rfl,e2,q',ys,f,f2⟩:=h
          refine ⟨l',xs,rfl,kp.1 _ _ ?_ e2,q'.mv kk nA,ys,f,f2⟩
          rintro ⟨j,j1,j2⟩
          obtain ⟨p,m,e1,_,w⟩:=r.sl j _ _ j1 j2
          cases e1
          rcases w with w | w
          · exact f2 w
          · rw [w] at f;cases f
        | pot=>exact h'
        | scr=>exact h'
    inj:=fun j k a ds h1 h2 ⟨h3,h4⟩=>by
      have ne:∀ (k:Nat),k≠i->σ[k]? = some (some (.ref l))->(δ[k]? = some .pot∨∃ ds,δ[k]? = some (.own ds))->False:=fun k _ h3 h4=>by
        obtain ⟨xs,e⟩:=r.isl (a:=l) (.inr ⟨k,h3,h4⟩)
        rw [n] at e;cases e
      by_cases z:j=i
      · subst z
        cases set_eq h2
        by_cases z2:k=j
        · exact z2.symm
        · rw [Qbo z2] at h3 h4
          exact (ne k z2 h3 h4).elim
      · rw [Qbo z] at h1 h2
        by_cases z2:k=i
        · subst z2
          cases set_eq h3
          exact (ne j z h2 (.inr ⟨ds,h1⟩)).elim
        · rw [Qbo z2] at h3 h4
          exact r.inj j k a ds h1 h2 ⟨h3,h4⟩ }
theorem Qie {K:PySem.W.Frag} {F:Fm} {σ:L2.St} {H:Hp} {δ:Sts} (r:Rel K F σ H δ) {l:Addr} (n:H l=none):F.H0 l=none:=by
  cases e:F.H0 l with
  | none=>rfl
  | some o=>
    by_cases z:F.pt l
    · obtain ⟨_,m,e'⟩:=r.pt0 l z
      rw [n] at e';cases e'
    · rw [r.kx l o z e] at n;cases n
theorem Qjj (h:PS X st (tAsg (tX .F X.K E we) (QeU i))):PS X st (tS X.K E (dSetF i we)):=by
  refine PS.imp h fun D σ H ⟨F,δ,DD,rel,hw,en⟩=>?_
  refine ⟨F,δ,_,DD.ex,rel,hw,fun d hd v H' rel' kp ⟨vk,fr⟩=>?_,en.ex⟩
  obtain ⟨ds,rfl⟩:∃ ds,d=.list ds:=by cases d<;>first | exact ⟨_,rfl⟩ | exact (show False from hd).elim
  obtain ⟨l,rfl⟩:∃ l,v=.ref l:=by cases vk;exact ⟨_,rfl⟩
  obtain ⟨xs,e,q⟩:=DA.items vk
  have n:=fr l rfl ⟨xs,e⟩
  obtain ⟨r2,st⟩:=rel.seto (i:=i) (x:=.own ds) rel' kp n fun A hA hB=>⟨l,xs,rfl,e,q.mv (fun _ _ _ e=>e) fun a z=>.inl (hB a z),Qie rel n⟩
  exact en.nx.go _ hd _ H' r2 st
theorem Qji (h:PS X st (tAsg (tX .F X.K E we) (QeU i))):PS X st (tS X.K E (dSetP i we)):=by
  refine PS.imp h fun D σ H ⟨F,δ,DD,rel,hw,en⟩=>?_
  refine ⟨F,δ,_,DD.ex,rel,hw,fun d hd v H' rel' kp ⟨vk,fr⟩=>?_,en.ex⟩
  split at hd
  · cases vk with
    | @lst l xs ds na e q=>
      have n:=fr l rfl ⟨xs,e⟩
      cases q with
      | cons q1 q2=>
        cases q1
        cases q2
        obtain ⟨r2,st⟩:=rel.seto (i:=i) (x:=.pot) rel' kp n fun A hA hB=>⟨l,_,rfl,e,.inr (Qie rel n)⟩
        exact en.nx.go _ hd _ H' r2 st
  · exact hd.elim
def dAsg (we:DE) (wg:DG):DS:=fun D δ=>we δ (fun d=>wg d δ D.nx) D.ex
theorem Qlt {ix:List Nat} {wg:DG} (h:PS X st (tAsg (tX .D X.K E we) (tG ix X.K wg))):PS X st (tS X.K E (dAsg we wg)):=by
  refine PS.imp h fun D σ H ⟨F,δ,DD,rel,hw,en⟩=>?_
  refine ⟨F,δ,_,DD.ex,rel,hw,fun d hd v H' rel' kp vk=>?_,en.ex⟩
  exact ⟨F,δ,d,_,rel',vk,hd,fun δ' h' σ' r' st' _ _=>en.nx.go _ h' _ H' r' ((Stp.kp kp).trans st')⟩
def dRet (we:DE):DS:=fun D δ=>we δ D.rt D.ex
def dRetF (we:DE):DS:=fun D δ=>we δ D.rtF D.ex
theorem da_a0 {F:Fm} {σ:L2.St} {δ:Sts} {H:Hp} {v:V} {d:PyData} (h:DA (Av F σ δ) H v d):DA F.A0 H v d:=h.mv (fun _ _ _ e=>e) fun a z=>.inl (.inl z)
theorem Qln {e:Expr} {pos:Pos} (h:PE X e (tX .D X.K E we)):PS X (.Return (some e) pos) (tS X.K E (dRet we)):=by
  refine PS.imp (Qc7 h) fun D σ H ⟨F,δ,DD,rel,hw,en⟩=>?_
  exact ⟨F,δ,_,DD.ex,rel,hw,fun d hd v H' rel' kp vk=>en.rt d hd v H' rel'.ke (da_a0 vk),en.ex⟩
theorem Qjk {e:Expr} {pos:Pos} (h:PE X e (tX .F X.K E we)):PS X (.Return (some e) pos) (tS X.K E (dRetF we)):=by
  refine PS.imp (Qc7 h) fun D σ H ⟨F,δ,DD,rel,hw,en⟩=>?_
  exact ⟨F,δ,_,DD.ex,rel,hw,fun d hd v H' rel' kp vk=>en.rtF d hd v H' rel'.ke (da_a0 vk.1) fun l e1 e2=>Qie rel (vk.2 l e1 e2),en.ex⟩
def dRetO (i:Nat):DS:=fun D δ=>match δ[i]? with
  | some (.own ds)=>D.rtF (.list ds)
  | some (.v d)=>D.rt d
  | _=>False
def dIf (t:DT) (a b:DS):DS:=fun D δ=>t δ (fun c=>if c=true then a D δ else b D δ) D.ex
theorem pds_if {c:Expr} {a b:List Stmt} {pos:Pos} {t:DT} {w w':DS} (hc:PT X c (tT X.K E t)) (ha:PSs X a (tS X.K E w)) (hb:PSs X b (tS X.K E w')):PS X (.If c a b pos) (tS X.K E (dIf t w w')):=by
  refine PS.imp (Qk5 hc ha hb) fun D σ H ⟨F,δ,DD,rel,hw,en⟩=>?_
  exact ⟨F,δ,_,DD.ex,rel,hw,fun b hb H' rel' kp=>QdP hb (fun z=>⟨F,δ,DD,rel',z,en.step (Stp.kp kp)⟩) fun z=>⟨F,δ,DD,rel',z,en.step (Stp.kp kp)⟩,en.ex⟩
theorem PIp.len {op:Operator} {t:TIp} (h:PIp X op t):PIp X op (fun x y H Q=>Qci H->t x y H Q):=fun pins s σ H x y v u Q I rx ry q=>h pins s σ H x y v u Q I rx ry (q (Inv.lens I))
theorem Rel.mut {K:PySem.W.Frag} {F:Fm} {σ:L2.St} {H:Hp} {δ:Sts} (r:Rel K F σ H δ) {l:Addr} {ds ds':List PyData} {ys:List V} (h:δ[i]? = some (.own ds)) (hx:σ[i]? = some (some (.ref l))) (q:DAs (Av F σ δ) H ys ds') :
    Rel K F σ (upd H l (.lst ys)) (δ.set i (.own ds'))/\Stp F σ H δ σ (upd H l (.lst ys)) (δ.set i (.own ds')):=by
  have hl:Av F σ δ l:=.inr ⟨i,hx,.inr ⟨ds,h⟩⟩
  obtain ⟨l',xs0,e0,el,_,f⟩:=r.sl i _ _ hx h
  cases e0
  have lt:i < δ.length:=(List.getElem?_eq_some_iff.mp h).1
  have ge:(δ.set i (.own ds'))[i]? = some (.own ds'):=by rw [List.getElem?_set_self lt]
  have kk:∀ a o,¬ Av F σ δ a->H a=some o->upd H l (.lst ys) a=some o:=fun a o n e=>by rw [Qay (fun z=>n (by rw [z];exact hl))];exact e
  have av:∀ a,Av F σ (δ.set i (.own ds')) a->Av F σ δ a:=fun a z=>by
    rcases z with z | ⟨j,h1,h2⟩
    · exact .inl z
    · by_cases z:j=i
      · subst z;exact .inr ⟨j,h1,.inr ⟨ds,h⟩⟩
      · rw [Qbo z] at h2;exact .inr ⟨j,h1,h2⟩
  have up:∀ {b:Addr} {o:HO},b≠l->H b=some o->upd H l (.lst ys) b=some o:=fun n e=>by rw [Qay n];exact e
  refine ⟨?_,⟨kk,fun a z=>.inl (av a z)⟩⟩
  exact {
    len:=by rw [List.length_set];exact r.len
    dom:=fun a ha=>by
      by_cases z:a=l
      · rw [z];exact ⟨_,Qaq⟩
      · obtain ⟨xs,e⟩:=r.dom a ha;exact ⟨xs,up z e⟩
    dom0:=r.dom0
    pt0:=fun p hp=>by
      obtain ⟨h1,n,e⟩:=r.pt0 p hp
      refine ⟨h1,n,up (fun z=>?_) e⟩
      obtain ⟨xs,e'⟩:=r.dom0 p h1
      rw [z,f] at e';cases e'
    kx:=fun b o n e=>up (fun z=>by rw [z,f] at e;cases e) (r.kx b o n e)
    sl:=fun j o y h1 h2=>by
      by_cases z:j=i
      · subst z
        rw [ge] at h2
        cases h2
        rw [hx] at h1
        cases h1
        exact ⟨l,ys,rfl,Qaq,q.mv kk fun a z=>.inl (av a z),f⟩
      · rw [Qbo z] at h2
        have hh:=r.sl j o y h1 h2
        cases y with
        | no=>trivial
        | v d=>obtain ⟨v',e,q'⟩:=hh;exact ⟨v',e,q'.mv kk fun a z=>.inl (av a z)⟩
        | own es=>
          obtain ⟨l',xs,rfl,e2,q',f'⟩:=hh
          exact ⟨l',xs,rfl,up (fun z2=>z (r.inj j i l' es h2 h1 ⟨by rw [z2];exact hx,.inr ⟨ds,h⟩⟩)) e2,q'.mv kk fun a z=>.inl (av a z),f'⟩
        | pk es=>
          obtain ⟨l',xs,rfl,e2,q',ys',f',f2⟩:=hh
          exact ⟨l',xs,rfl,up (fun z2=>by rw [z2,f] at f';cases f') e2,q'.mv kk fun a z=>.inl (av a z),ys',f',f2⟩
        | pot=>
          obtain ⟨p,n,rfl,e2,w⟩:=hh
          refine ⟨p,n,rfl,up (fun z2=>?_) e2,w⟩
          subst z2
          exact r.own_pot h hx ⟨j,h1,h2⟩
        | scr=>exact hh
    inj:=fun j k a es h1 h2 ⟨h3,h4⟩=>by
      have h4':δ[k]? = some .pot∨∃ ds,δ[k]? = some (.own ds):=by
        by_cases z:k=i
        · subst z;exact .inr ⟨ds,h⟩
        · rw [Qbo z] at h4;exact h4
      by_cases z:j=i
      · subst z;exact r.inj j k a ds h h2 ⟨h3,h4'⟩
      · rw [Qbo z] at h1;exact r.inj j k a es h1 h2 ⟨h3,h4'⟩ }
def dApp (i:Nat) (we:DE):DS:=fun D δ=>match δ[i]? with
  | some (.own ds)=>we δ (fun d=>ds.length<1000000/\D.nx (δ.set i (.own (ds++[d])))) D.ex
  | _=>False
theorem Qlu (h:PS X st (QkO (tBM X.K "list" Qht (tVar i) (Qgx (tX .D X.K E we) tNil)))):PS X st (tS X.K E (dApp i we)):=by
  refine PS.imp h fun D σ H ⟨F,δ,DD,rel,hw,en⟩=>?_
  unfold dApp at hw
  split at hw
  · rename_i ds hd
    obtain ⟨x,hx⟩:=rel.lt hd
    obtain ⟨l,xs,rfl,e,q,f⟩:=rel.sl i _ _ hx hd
    have np:=rel.own_pot hd hx
    refine ⟨.ref l,hx,.inl ⟨rfl,_,SqL.of e⟩,F,δ,_,DD.ex,rel,hw,fun d ⟨hl,hn⟩ v H' rel' kp vk=>?_,en.ex⟩
    have q':=kp.das q
    refine ⟨l,xs,v,rfl,rfl,kp.1 _ _ np e,Nat.lt_of_lt_of_le (by rw [q.length];exact hl) QgN,?_⟩
    obtain ⟨r2,st⟩:=rel'.mut hd hx (q'.app (.cons vk .nil))
    exact en.nx.go _ hn _ _ r2 ((Stp.kp kp).trans st)
  · exact hw.elim
def dExt (i:Nat) (we:DE):DS:=fun D δ=>match δ[i]? with
  | some (.own ds)=>we δ (fun d=>match d with
    | .list es=>ds.length+es.length<=1000000/\D.nx (δ.set i (.own (ds++es)))
    | _=>False) D.ex
  | _=>False
theorem Qls (h:PS X st (QkO (tBM X.K "list" Qhs (tVar i) (Qgx (tX .P X.K E we) tNil)))):PS X st (tS X.K E (dExt i we)):=by
  refine PS.imp h fun D σ H ⟨F,δ,DD,rel,hw,en⟩=>?_
  unfold dExt at hw
  split at hw
  · rename_i ds hd
    obtain ⟨x,hx⟩:=rel.lt hd
    obtain ⟨l,xs,rfl,e,q,f⟩:=rel.sl i _ _ hx hd
    have np:=rel.own_pot hd hx
    refine ⟨.ref l,hx,.inl ⟨rfl,_,SqL.of e⟩,F,δ,_,DD.ex,rel,hw,fun d hd2 v H' rel' kp vk=>?_,en.ex⟩
    cases d<;>first | exact (show False from hd2).elim | skip
    obtain ⟨hl,hn⟩:=hd2
    obtain ⟨l2,ys,rfl,e2,q2⟩:=DP.list vk
    have q':=kp.das q
    refine ⟨l,l2,xs,ys,rfl,rfl,kp.1 _ _ np e,e2,Nat.le_trans (by rw [q.length,q2.length];exact hl) QgN,?_⟩
    obtain ⟨r2,st⟩:=rel'.mut hd hx (q'.app q2)
    exact en.nx.go _ hn _ _ r2 ((Stp.kp kp).trans st)
  · exact hw.elim
@[irreducible] def ForR (items:List PyData) (wg:DG) (wb:DS) (D:DEnds) (δ:Sts):Prop:=∃ Iv:Nat->Sts->Prop,Iv 0 δ/\(∀ (i:Nat) d δ,items[i]? = some d->Iv i δ->wg d δ fun δ2=>wb { D with nx:=Iv (i+1),ct:=Iv (i+1),bk:=D.nx } δ2)/\∀ δ,Iv items.length δ->D.nx δ
def dFor (wi:DI) (wg:DG) (wb:DS):DS:=fun D δ=>wi δ (fun items=>ForR items wg wb D δ) D.ex
theorem Qlr {tg iter:Expr} {body:List Stmt} {pos:Pos} {ix:List Nat} {wi:DI} {wg:DG} {wb:DS} (hp:PassesOwn (model X.prog X.w) X.A X.env X.xe) (hc:X.calm=true) (hi:PI X tg iter (tI .D X.K E wi)) (hg:PG X tg (tG ix X.K wg)) (hb:PSs X body (tS X.K E wb))
    (hs:∀ x,foldedSetIterable iter X.env x=pure x:=by intro _;rfl):PS X (.For tg iter body [] pos) (tS X.K E (dFor wi wg wb)):=by
  refine PS.imp (Qkb hp hc hi hg hb hs) fun D σ H ⟨F,δ,DD,rel,hw,en⟩=>?_
  refine ⟨F,δ,_,DD.ex,rel,hw,fun items hC J H1 rel1 kp1 ⟨ln,it⟩=>?_,en.ex⟩
  unfold ForR at hC
  obtain ⟨Iv,i0,step,fin⟩:=hC
  have en1:=en.step (Stp.kp (F:=F) kp1)
  refine ⟨fun i m σ' H'=>m=items.length - i/\i<=items.length/\∃ δ',Iv i δ'/\Rel X.K F σ' H' δ'/\Stp F σ H1 δ σ' H' δ',⟨_,rfl,Nat.zero_le _,δ,i0,rel1,Stp.refl⟩,?_⟩
  rintro i m σ' H' ⟨rfl,hi',δ',iv,r',st'⟩
  obtain ⟨go,stop⟩:=it H' (Av F σ' δ') st'.1 st'.2 fun a ha=>r'.isl ha
  by_cases hlt:i<items.length
  · have hd:items[i]? = some items[i]:=List.getElem?_eq_getElem hlt
    obtain ⟨g1,g2⟩:=go i _ hd
    refine .inr ⟨g1,fun σ2 H2=>∃ δ2,Iv (i+1) δ2/\Rel X.K F σ2 H2 δ2/\Stp F σ H1 δ σ2 H2 δ2,fun σ2 H2 ⟨δ2,h2,r2,s2⟩=>⟨_,by omega,rfl,hlt,δ2,h2,r2,s2⟩,fun x H3 y=>?_⟩
    obtain ⟨s3,dx⟩:=g2 x H3 y
    have r3:=r'.same s3
    have st3:Stp F σ H1 δ σ' H3 δ':=st'.trans (Stp.kp (Kp.same r' s3))
    refine ⟨F,δ',_,_,r3,dx,step i _ δ' hd iv,fun δ4 h4 σ4 r4 st4 _ _=>⟨F,δ4,_,r4,h4,?_⟩⟩
    have st5:=st3.trans st4
    exact ⟨⟨fun δ6 h6 σ6 H6 r6 s6=>⟨δ6,h6,r6,st5.trans s6⟩⟩,en.rt,en.rtF,(en1.step st5).nx,⟨fun δ6 h6 σ6 H6 r6 s6=>⟨δ6,h6,r6,st5.trans s6⟩⟩,en.ex⟩
  · have e:i=items.length:=by omega
    subst e
    exact .inl ⟨stop,(en1.step st').nx.go δ' (fin δ' iv) σ' H' r' Stp.refl⟩
theorem Qdh {lo:Int} {n:Nat} {wg:DG} {wb:DS} {D:DEnds} {δ:Sts} (Iv:Nat->Sts->Prop) (h0:Iv 0 δ)
    (hs:∀ (i:Nat) δ,i<n->Iv i δ->wg (.int (lo+i)) δ fun δ2=>wb { D with nx:=Iv (i+1),ct:=Iv (i+1),bk:=D.nx } δ2) (hd:∀ δ,Iv n δ->D.nx δ):ForR (rngD lo n) wg wb D δ:=by
  unfold ForR
  exact ⟨Iv,h0,fun i d δ hd iv=>by obtain ⟨hi,rfl⟩:=Qc4 hd;exact hs i δ hi iv,fun δ iv=>hd δ (by rw [Qfh] at iv;exact iv)⟩
theorem QeV {items:List PyData} {wg:DG} {wb:DS} {D:DEnds} {δ:Sts} (Iv:Nat->Sts->Prop) (h0:Iv 0 δ)
    (hs:∀ (i:Nat) d δ,items[i]? = some d->Iv i δ->wg d δ fun δ2=>wb { D with nx:=Iv (i+1),ct:=Iv (i+1),bk:=D.nx } δ2) (hd:∀ δ,Iv items.length δ->D.nx δ):ForR items wg wb D δ:=by
  unfold ForR
  exact ⟨Iv,h0,hs,hd⟩
end
def stD (N:List Str) (args:List Sl):Sts:=args++List.replicate (N.length - args.length) .no
theorem QdB {α β:Type} {R:α->β->Prop}:∀ {xs:List α} {ys:List β},Paired R xs ys->∀ (i:Nat) x y,xs[i]? = some x->ys[i]? = some y->R x y
  | _,_,.nil,i,x,y,h,_=>by simp at h
  | _,_,.cons a b,0,x,y,h,h'=>by simp at h h';subst h h';exact a
  | _,_,.cons a b,i+1,x,y,h,h'=>QdB b i x y (by simpa using h) (by simpa using h')
theorem Qg5 {K:PySem.W.Frag} {N:List Str} {A pt:Addr->Prop} {H:Hp} {vs:List V} {args:List Sl} (dm:∀ a,A a->∃ xs,H a=some (.lst xs)) (hp:∀ p,pt p->A p/\∃ n,H p=some (.lst [.int n])) (q:Paired (QgV A pt H) vs args):Rel K ⟨H,A,pt⟩ (L2.start N vs) H (stD N args):=by
  have hl:vs.length=args.length:=q.length
  have no:∀ (i:Nat) x,(stD N args)[i]? = some x->(i<args.length/\args[i]? = some x)∨x=.no:=fun i x h=>by
    unfold stD at h
    by_cases z:i<args.length
    · rw [List.getElem?_append_left z] at h;exact .inl ⟨z,h⟩
    · rw [List.getElem?_append_right (by omega),List.getElem?_replicate] at h
      split at h
      · exact .inr (Option.some.inj h).symm
      · cases h
  have arg:∀ (i:Nat) o x,(L2.start N vs)[i]? = some o->(stD N args)[i]? = some x->x≠.no->∃ v,o=some v/\QgV A pt H v x:=fun i o x h1 h2 hx=>by
    rcases no i x h2 with ⟨z,e⟩ | e
    · unfold L2.start at h1
      rw [List.getElem?_append_left (by rw [List.length_map];omega),List.getElem?_map] at h1
      obtain ⟨v,hv,rfl⟩:=Option.map_eq_some_iff.mp h1
      exact ⟨v,rfl,QdB q i v x hv e⟩
    · exact absurd e hx
  have av:∀ a,Av ⟨H,A,pt⟩ (L2.start N vs) (stD N args) a->A a:=fun a z=>by
    rcases z with z | ⟨i,h1,h2⟩
    · exact z
    · rcases h2 with h2 | ⟨ds,h2⟩
      · obtain ⟨v,e,p,rfl,hp'⟩:=arg i _ _ h1 h2 (fun z=>by cases z)
        cases e
        exact (hp _ hp').1
      · obtain ⟨v,e,hh⟩:=arg i _ _ h1 h2 (fun z=>by cases z)
        exact hh.elim
  exact {
    len:=by unfold L2.start stD;rw [List.length_append,List.length_append,List.length_map,List.length_replicate,List.length_replicate,hl]
    dom:=dm
    dom0:=dm
    pt0:=hp
    kx:=fun _ _ _ e=>e
    sl:=fun i o x h1 h2=>by
      cases x with
      | no=>trivial
      | v d=>
        obtain ⟨v,e,hh⟩:=arg i _ _ h1 h2 (fun z=>by cases z)
        exact ⟨v,e,DA.mv hh (fun _ _ _ e=>e) fun a z=>.inl (av a z)⟩
      | pot=>
        obtain ⟨v,e,p,rfl,hp'⟩:=arg i _ _ h1 h2 (fun z=>by cases z)
        obtain ⟨_,n,en⟩:=hp p hp'
        exact ⟨p,n,e,en,.inl hp'⟩
      | own ds=>obtain ⟨v,e,hh⟩:=arg i _ _ h1 h2 (fun z=>by cases z);exact hh.elim
      | pk ds=>obtain ⟨v,e,hh⟩:=arg i _ _ h1 h2 (fun z=>by cases z);exact hh.elim
      | scr=>obtain ⟨v,e,hh⟩:=arg i _ _ h1 h2 (fun z=>by cases z);exact hh.elim
    inj:=fun i j a ds h1 h2 _=>by
      obtain ⟨v,e,hh⟩:=arg i _ _ h2 h1 (fun z=>by cases z)
      exact hh.elim }
def notL:PyData->Bool
  | .list _=>false
  | _=>true
def rtD:Bool->(PyData->Prop)->PyData->Prop
  | true,R,d=>notL d=true/\R d
  | false,R,d=>R d
def Ql7 (fr:Bool) (R:PyData->Prop) (EX:XP):DEnds:=⟨fun _=>R .none,rtD fr R,R,fun _=>False,fun _=>False,EX⟩
theorem Ql6 {K:PySem.W.Frag} {E Ex:XK} {fr:Bool} {A pt:Addr->Prop} {H:Hp} {R:PyData->Prop} {EX EX':XP} {Q:VK} {σ:L2.St} {δ:Sts} (k:∀ d,R d->∀ v H',Kq pt H H'->DA A H' v d->(fr=true->FrV H H' v)->Q v H') (o:Out ⟨H,A,pt⟩ E EX') :
    Ends1 K E ⟨H,A,pt⟩ σ H δ (Ql7 fr R EX') { nx:=fun _ H'=>Q .non H',rt:=Q } where
  nx:=⟨fun δ' hR σ' H' r st=>k _ hR _ H' r.ke .non fun _=>Ql5⟩
  rt:=fun d h v H' ke dv=>by
    cases fr with
    | false=>exact k d h v H' ke dv fun z=>by cases z
    | true=>
      obtain ⟨h1,h2⟩:=h
      refine k d h2 v H' ke dv fun z l e1 ⟨xs,e2⟩=>?_
      subst e1
      cases dv with
      | @tup a ys ds n e q=>rw [e] at e2;cases e2
      | @lst a ys ds n e q=>cases h1
      | @dct a n e=>rw [e] at e2;cases e2
  rtF:=fun d h v H' ke dv fr'=>k d h v H' ke dv fun _=>fr'
  bk:=⟨fun _ h=>h.elim⟩
  ct:=⟨fun _ h=>h.elim⟩
  ex:=o
section
variable {P:Program} {w:World} {K:PySem.W.Frag} {mg:Str->Option Value} {base:Heap}
theorem okD {x qual:Str} {st:Stmt} {f:Addr} {fd:FuncData} {N ps:List Str} {k:Nat} {fD:DF} (fr:Bool) (F:Fun K x qual st f fd) (S:FnScope N ps (Qaa st)) (len:∀ args R EX,fD args R EX->args.length=ps.length)
    (hbody:∀ (cdv:Value) (A:Around) (outer:List Env) (s:Shared) (H:Hp) (E:XK),Room k (A.deeper (envOfC qual (Qaa st) s.heap.objs.size f cdv)) ->
      ∃ wd,PSs (cxOf CX0 P w K mg base N qual (Qaa st) f cdv A outer s H E).nox (Qao st) (tS K E0 wd)/\∀ args R EX,fD args R EX->wd (Ql7 fr R XF) (stD N args)):FnOk P w K mg base CX0 (k+1) f fd ps (toSp fr fD):=by
  refine F.ok S (fun vs H Q E h=>?_) fun cdv A outer s H vs Q E hr h=>?_
  · obtain ⟨A,pt,args,R,EX,_,_,q,h,_⟩:=h
    rw [q.length];exact len _ _ _ h
  · obtain ⟨wd,hp,hw⟩:=hbody cdv A outer s H E hr
    obtain ⟨A',pt,args,R,EX,dm,hpt,q,h,k,_⟩:=h
    exact ⟨_,hp,⟨H,A',pt⟩,_,_,Qg5 dm hpt q,hw args R EX h,Ql6 (Ex:=E) (EX:=EX) k outF⟩
end
end Dl
namespace L2
open PySem PySem.Spec PyProof.Rows
def CDivC (i j:Int):Prop:=0<j/\j<=10^40
theorem Qjy {X:Cx}:OpR X (binaryOp .FloorDiv) (rI CDivC fun i j=>.int (i / j)):=opI fun i j _ _ _ _ _ hc q=>by
  have h1:(0:Int)<j:=hc.1
  have h2:j<=10^40:=hc.2
  refine floordiv_int (by omega) (by rw [Int.fdiv_eq_ediv_of_nonneg i (by omega)];exact q) (.inl (PyProof.noPylong_of_log2 ?_))
  have h3:j.natAbs<2^200:=by
    have:(10:Int)^40<2^200:=by decide
    omega
  have:=(Nat.log2_lt (by omega:j.natAbs≠0)).mpr h3
  omega
end L2
namespace Rk
open PySem PySem.Spec PyProof.Rows L2 _root_.Rd
def QfR:Sp:=fun vs H Q _=>∃ p n f,vs=[.ref p,.int f]/\H p=some (.lst [.int n])/\0<f/\f<=10^40/\∀ r m,0<=r->r<f->Q (.int r) (upd H p (.lst [.int m]))
end Rk
namespace Dl
open PySem PySem.Spec PyProof.Rows L2 _root_.Rd Rk
theorem Qaz {X:Cx} {E:XK}:Qds CX0 X E:=fun _ _ _ _ _ _ _ h=>h.elim
theorem Room.u60 {k:Nat} {A:Around} (r:Room k A):A.units+60<cLine:=by have:=r.un;omega
theorem Room.i60 {k:Nat} {A:Around} (r:Room k A):A.in1.units+60<cLine:=by
  have:=r.un
  show A.units+1+60<cLine
  omega
section
variable {X:Cx} {E:XK} {CX:CXT} {k:Nat} {f:Addr} {fd:FuncData} {ps:List Str} {x:Str} {p pos:Pos} {e:Expr} {es:List Expr} {fD:DF}
def takeD:DF:=fun args R _=>∃ f,args=[.pot,.v (.int f)]/\0<f/\f<=10^40/\∀ r,0<=r->r<f->R (.int r)
theorem take_d {vs:List V} {H:Hp} {Q:VK} {Ex:XK} (h:toSp true takeD vs H Q Ex):QfR vs H Q Ex:=by
  obtain ⟨A,pt,args,R,EX,dm,hp,q,⟨f,rfl,f0,f1,hR⟩,k,_⟩:=h
  cases q with
  | cons q1 q2=>cases q2 with
    | cons q2 q3=>
      cases q3
      obtain ⟨p,rfl,pp⟩:=q1
      cases q2
      obtain ⟨_,n,e⟩:=hp p pp
      refine ⟨p,n,f,rfl,e,f0,f1,fun r m r0 r1=>k _ (hR r r0 r1) _ _ ⟨fun b o nb eb=>?_,fun z hz=>?_⟩ (.int _) fun _=>Qa1⟩
      · rw [Qay (fun z=>nb (by rw [z];exact pp))];exact eb
      · by_cases y:z=p
        · rw [y];exact ⟨m,Qaq⟩
        · obtain ⟨_,n',e'⟩:=hp z hz
          exact ⟨n',by rw [Qay y];exact e'⟩
def potD:DF:=fun args R _=>∃ c,args=[.v (.int c)]/\∀ n,R (.list [.int n])
theorem pot_d {vs:List V} {H:Hp} {Q:VK} {Ex:XK} (h:toSp true potD vs H Q Ex):spPot vs H Q Ex:=by
  obtain ⟨A,pt,args,R,EX,dm,hp,q,⟨c,rfl,hR⟩,k,_⟩:=h
  cases q with
  | cons q1 q2=>
    cases q2
    cases q1
    refine ⟨c,rfl,fun p n hn=>k _ (hR n) _ _ ⟨fun b o _ eb=>Qar hn b o eb,fun z hz=>?_⟩ (.lst (fun z=>?_) Qaq (.cons (.int _) .nil)) fun _=>QbI hn⟩
    · obtain ⟨_,n',e'⟩:=hp z hz
      exact ⟨n',Qar hn _ _ e'⟩
    · obtain ⟨xs,e⟩:=dm p z
      rw [hn] at e;cases e
def isW:PyData->Bool
  | .int _=>true
  | _=>false
def wholeD:DF:=fun args R _=>∃ d,args=[.v d]/\R (.bool (isW d))
theorem Qhd {K:PySem.W.Frag} {F:Fm} {σ:L2.St} {H:Hp} {δ:Sts} (r:Rel K F σ H δ) {a:Addr} {xs:List V} (h:SqL K F.H0 a xs) (n:¬ F.pt a):SqL K H a xs:=by
  rcases h with h | h
  · rcases h with h | ⟨o,h⟩
    · exact .inl (.inl (r.kx _ _ n h))
    · exact .inl (.inr ⟨o,r.kx _ _ n h⟩)
  · exact .inr h
def Ql9 (i:Nat):DE:=fun δ Q _=>match δ[i]? with
  | some .scr=>∀ n:Nat,n<=63->Q (.int n)
  | _=>False
theorem Qly {i:Nat} {a:Expr} (hg:Gl X "len") (hm:X.mg "len" = none) (h:PE X a (tVar i)) (hs:notStar a=true:=by rfl):PE X (.Call (.Name "len" p) [a] [] pos) (tX .F X.K E (Ql9 i)):=by
  refine PE.imp (Qb6 Qb1 hg hm QaI (pa_c h Qba hs) (he:=by rw [QaS hs])) fun σ H Q ⟨F,δ,R,EX,rel,hw,k,o⟩=>?_
  unfold Ql9 at hw
  split at hw
  · rename_i hd
    obtain ⟨x,hx⟩:=rel.lt hd
    obtain ⟨l,ns,rfl,sq,np,n63⟩:=rel.sl i _ _ hx hd
    refine ⟨_,hx,l,_,rfl,.inl (Qhd rel sq np),?_⟩
    rw [List.length_map]
    exact k _ (hw _ n63) _ H rel (Kp.refl rel) ⟨.int _,Qa1⟩
  · exact hw.elim
def Qma (i:Nat) (wb:DE):DE:=fun δ Q EX=>match δ[i]? with
  | some .scr=>wb δ (fun d=>match d with
    | .int k=>0<=k/\∀ c,Q (.int c)
    | _=>False) EX
  | _=>False
theorem QlB {i:Nat} {a b:Expr} {wb:DE} (G:FnOk X.prog X.w X.K X.mg X.base CX0 k f fd ps (Qcm X.K)) (hr:Room k X.A) (hg:Gl X x) (hm:X.mg x=some (.ref f)) (hk:PySem.W.keepIn X.K (.ref f)=true) (hb:Binds X.K fd ps [])
    (ha:PE X a (tVar i)) (h:PE X b (tX .P X.K E wb)) (h1:notStar a=true:=by rfl) (h2:notStar b=true:=by rfl) (hdb:(x == ("__debug__" : Str))=false:=by decide) :
    PE X (.Call (.Name x p) [a,b] [] pos) (tX .F X.K E (Qma i wb)):=by
  refine PE.imp (Qfm (E:=E) G hr hg hm hk hb .nil Qaz (pa_c ha (pa_c h Qba h2) h1) hdb (QaS h1) (by rw [QaS h2];rfl)) fun σ H Q ⟨F,δ,R,EX,rel,hw,k,o⟩=>?_
  unfold Qma at hw
  split at hw
  · rename_i hd
    obtain ⟨x,hx⟩:=rel.lt hd
    obtain ⟨l,ns,rfl,sq,np,n63⟩:=rel.sl i _ _ hx hd
    refine ⟨_,hx,F,δ,_,EX,rel,hw,fun d hd2 v H' rel' kp vk=>?_,o⟩
    cases d<;>first | exact (show False from hd2).elim | skip
    rw [DP.int vk]
    exact ⟨l,ns,_,rfl,Qhd rel' sq np,Nat.lt_of_le_of_lt n63 (by decide),hd2.1,fun c=>k _ (hd2.2 c) _ H' rel' kp ⟨.int _,Qa1⟩⟩
  · exact hw.elim
end
section
variable {P:Program} {w:World} {K:PySem.W.Frag} {mg:Str->Option Value} {base:Heap}
def spLawD (K:PySem.W.Frag):Sp:=fun vs H Q _=>∃ (a:Addr) (ns:List Int),vs=[.ref a]/\SqL K H a (ns.map V.int)/\ns.length<=63/\∀ H',Q (.bl true) H'
def endsL:DEnds:=⟨fun _=>False,fun d=>d=.bool true,fun d=>d=.bool true,fun _=>False,fun _=>False,XF⟩
theorem okLaw {x qual:Str} {st:Stmt} {f:Addr} {fd:FuncData} {N:List Str} {p:Str} {k:Nat} (F:Fun K x qual st f fd) (S:FnScope N [p] (Qaa st))
    (hbody:∀ (cdv:Value) (A:Around) (outer:List Env) (s:Shared) (H:Hp) (E:XK),Room k (A.deeper (envOfC qual (Qaa st) s.heap.objs.size f cdv)) ->
      ∃ wd,PSs (cxOf CX0 P w K mg base N qual (Qaa st) f cdv A outer s H E).nox (Qao st) (tS K E0 wd)/\wd endsL (stD N [.scr])):FnOk P w K mg base CX0 (k+1) f fd [p] (spLawD K):=by
  refine F.ok S (fun vs H Q E h=>?_) fun cdv A outer s H vs Q E hr h=>?_
  · obtain ⟨a,ns,rfl,_⟩:=h
    rfl
  · obtain ⟨wd,hp,hw⟩:=hbody cdv A outer s H E hr
    obtain ⟨a,ns,rfl,sq,n63,k⟩:=h
    have get0:∀ (i:Nat) o y,(L2.start N [V.ref a])[i]? = some o->(stD N [.scr])[i]? = some y->y≠.no->o=some (.ref a)/\y=.scr:=fun i o y h1 h2 hy=>by
      cases i with
      | zero=>cases h1;cases h2;exact ⟨rfl,rfl⟩
      | succ i=>
        unfold stD at h2
        rw [List.getElem?_append_right (by simp),List.getElem?_replicate] at h2
        split at h2
        · exact absurd (Option.some.inj h2).symm hy
        · cases h2
    have noav:∀ b,¬ Av (⟨H,fun _=>False,fun _=>False⟩:Fm) (L2.start N [V.ref a]) (stD N [.scr]) b:=fun b z=>by
      rcases z with z | ⟨i,h1,h2⟩
      · exact z
      · rcases h2 with h2 | ⟨ds,h2⟩
        · cases (get0 i _ _ h1 h2 (fun z=>by cases z)).2
        · cases (get0 i _ _ h1 h2 (fun z=>by cases z)).2
    refine ⟨_,hp,⟨H,fun _=>False,fun _=>False⟩,_,_,?_,hw,?_⟩
    · exact {
        len:=by unfold L2.start stD;simp
        dom:=fun _ h=>h.elim
        dom0:=fun _ h=>h.elim
        pt0:=fun _ h=>h.elim
        kx:=fun _ _ _ e=>e
        sl:=fun i o y h1 h2=>by
          cases y with
          | no=>trivial
          | scr=>
            obtain ⟨rfl,_⟩:=get0 i _ _ h1 h2 (fun z=>by cases z)
            exact ⟨a,ns,rfl,sq,fun z=>z,n63⟩
          | v d=>cases (get0 i _ _ h1 h2 (fun z=>by cases z)).2
          | own d=>cases (get0 i _ _ h1 h2 (fun z=>by cases z)).2
          | pk d=>cases (get0 i _ _ h1 h2 (fun z=>by cases z)).2
          | pot=>cases (get0 i _ _ h1 h2 (fun z=>by cases z)).2
        inj:=fun i j b ds h1 h2 _=>by cases (get0 i _ _ h2 h1 (fun z=>by cases z)).2 }
    · exact {
        nx:=⟨fun _ h=>h.elim⟩
        rt:=fun d h v H' ke dv=>by cases (show d=.bool true from h);cases dv;exact k H'
        rtF:=fun d h v H' ke dv _=>by cases (show d=.bool true from h);cases dv;exact k H'
        bk:=⟨fun _ h=>h.elim⟩
        ct:=⟨fun _ h=>h.elim⟩
        ex:=outF }
end
theorem Qbi {α:Type} {p:α->Prop}:∀ x∈([]:List α),p x:=fun _ h=>nomatch h
theorem Qag {α:Type} {p:α->Prop} {a:α} {l:List α} (h:p a) (t:∀ x∈l,p x):∀ x∈a::l,p x:=fun x hx=>by
  rcases List.mem_cons.mp hx with z | z
  · rw [z];exact h
  · exact t x z
theorem QkB {b c:Bool} {R:PyData->Prop} (h:R (.bool (b&&c))):if b=true then R (.bool c) else R (.bool false):=by
  cases b
  · exact iteF h
  · exact iteT h
theorem Qb3 {b c:Bool} {R:PyData->Prop} {Pk:Prop} (h:R (.bool (b&&c))) (k:b=true->R (.bool c)->Pk):if b=true then Pk else R (.bool false):=by
  cases b
  · exact iteF h
  · exact iteT (k rfl h)
theorem ifF {c:Bool} {A B:Prop} (h:c=false) (k:B):if c=true then A else B:=by subst h;exact k
theorem ifC {c:Bool} {A B:Prop} (t:c=true->A) (f:c=false->B):if c=true then A else B:=by
  cases c
  · exact f rfl
  · exact t rfl
theorem all_map {α:Type} (l:List α) (g:α->Bool):(l.map g).all id=l.all g:=by
  rw [List.all_map];rfl
theorem Qbh {ds:List PyData} {Q:PyData->Prop} {g:PyData->Bool} {items:List PyData} (h:ds=[.list (items.map fun d=>.bool (g d))]) (q:Q (.bool (items.all g))):allD ds Q:=by
  subst h
  unfold allD
  refine ⟨items.map g,?_,by rw [all_map];exact q⟩
  rw [show items.map (fun d=>PyData.bool (g d))=(items.map g).map PyData.bool by rw [List.map_map];rfl,QiF]
end Dl
namespace L2
open PySem PySem.Spec PyProof.Rows
section
variable {X:Cx}
end
end L2
namespace Dl
open PySem PySem.Spec PyProof.Rows L2 _root_.Rd Rk
section
variable {X:Cx} {E:XK}
variable {e:Expr} {w:DE} {p p2 pos pos2:Pos}
end
theorem at_mem {ds:List PyData} {i:Int} (h0:0<=i) (h1:i<ds.length):∃ d,d∈ds/\atI ds i=some d:=by
  obtain ⟨j,rfl⟩:∃ j:Nat,i=j:=⟨i.toNat,by omega⟩
  have hj:j<ds.length:=by omega
  exact ⟨ds[j],List.getElem_mem hj,Qav (List.getElem?_eq_getElem hj)⟩
theorem QgO {ds:List PyData} {i:Int} {Q:PyData->Prop} (h0:0<=i) (h1:i<ds.length) (q:∀ d∈ds,Q d):∃ d,atI ds i=some d/\Q d:=by
  obtain ⟨d,hd,e⟩:=at_mem h0 h1
  exact ⟨d,e,q d hd⟩
theorem Qch (xs:List PyData) (lo hi:Option Int):(cutD xs lo hi).length<=xs.length:=by
  unfold cutD
  rw [List.length_take,List.length_drop]
  omega
theorem Qen {xs:List PyData} {lo hi:Option Int} {d:PyData} (h:d∈cutD xs lo hi):d∈xs:=List.mem_of_mem_drop (List.mem_of_mem_take h)
structure QE (m:Md) (X:Cx) (E:XK) (e:Expr) (w:DE):Prop where h:PE X e (tX m X.K E w)
structure QT (X:Cx) (E:XK) (e:Expr) (w:DT):Prop where h:PT X e (tT X.K E w)
structure QW (X:Cx) (E:XK) (e:Expr) (w:DT):Prop where h:PW X e (tT X.K E w)
structure QTs (X:Cx) (E:XK) (es:List Expr) (w:DT):Prop where h:PTs X es (tT X.K E w)
structure QA (n:Nat) (m:Md) (X:Cx) (E:XK) (es:List Expr) (w:DAr):Prop where h:PA X es (tAr n m X.K E w)
structure QAs (X:Cx) (E:XK) (es:List Expr) (w:DSl):Prop where h:PA X es (tAs X.K E w)
structure QO (X:Cx) (E:XK) (o:Option Expr) (w:DO):Prop where h:PO X o (tO X.K E w)
structure QG (ix:List Nat) (X:Cx) (tg:Expr) (w:DG):Prop where h:PG X tg (tG ix X.K w)
structure QI (m:Md) (X:Cx) (E:XK) (tg it:Expr) (w:DI):Prop where h:PI X tg it (tI m X.K E w)
structure QS (X:Cx) (E:XK) (st:Stmt) (w:DS):Prop where h:PS X st (tS X.K E w)
structure QSs (X:Cx) (E:XK) (sts:List Stmt) (w:DS):Prop where h:PSs X sts (tS X.K E w)
section
variable {X:Cx} {E:XK}
theorem Qah {e:Expr} {w:DE} (h:QE .F X E e w):QE .D X E e w:=⟨toD h.h⟩
theorem Qaf {e:Expr} {w:DE} (h:QE .D X E e w):QE .P X E e w:=⟨toP h.h⟩
theorem Qab {e:Expr} {w:DE} (h:QE .F X E e w):QE .P X E e w:=⟨toPF h.h⟩
theorem qv (i:Nat) {x:Str} {pos:Pos} (hN:X.N[i]? = some x:=by rfl) (hv:Vis X.env.scope x:=by first | exact Or.inl rfl | exact Or.inr (Or.inl rfl) | exact Or.inr (Or.inr rfl)) (hd:(x == ("__debug__" : Str))=false:=by decide) (hcd:(x == ("__classdict__" : Str))=false:=by decide):QE .D X E (.Name x pos) (dVar i):=⟨pd_var (pv i hN hv hd hcd)⟩
theorem qp (i:Nat) {x:Str} {pos:Pos} (hN:X.N[i]? = some x:=by rfl) (hv:Vis X.env.scope x:=by first | exact Or.inl rfl | exact Or.inr (Or.inl rfl) | exact Or.inr (Or.inr rfl)) (hd:(x == ("__debug__" : Str))=false:=by decide) (hcd:(x == ("__classdict__" : Str))=false:=by decide):QE .P X E (.Name x pos) (dPk i):=⟨pd_pk (pv i hN hv hd hcd)⟩
theorem Qai {i:Int} {j pos}:QE .D X E (.Constant (.int i) j pos) (dC (.int i)):=⟨pd_int⟩
theorem q_bl {b:Bool} {j pos}:QE .D X E (.Constant (.bool b) j pos) (dC (.bool b)):=⟨pd_bl⟩
theorem q_non {j pos}:QE .D X E (.Constant .none j pos) (dC .none):=⟨pd_non⟩
theorem Qk2 {x:Str} {j pos} (h:PyData.canLay0 (.str x)=true:=by decide +kernel):QE .D X E (.Constant (.str x) j pos) (dC (.str x)):=⟨pd_str h⟩
theorem QaJ {a b:Expr} {wa wb:DE} {pos:Pos} {r:R2} {rD:PyData->PyData->(PyData->Prop)->Prop} {op:Operator} (ho:OpR X (binaryOp op) r) (hd:OpD r rD) (ha:QE .P X E a wa) (hb:QE .P X E b wb):QE .F X E (.BinOp a op b pos) (dOp rD wa wb):=⟨pd_bin ho hd ha.h hb.h⟩
theorem QbP {a b:Expr} {wa wb:DE} {pos:Pos} {r:R2} {rD:PyData->PyData->(PyData->Prop)->Prop} {op:CmpOp} (ho:OpR X (compareOp op) r) (hd:OpD r rD) (ha:QE .P X E a wa) (hb:QE .P X E b wb) (hm:behindInMarks op b=false):QE .F X E (.Compare a [op] [b] pos) (dOp rD wa wb):=⟨pd_cmp ho hd ha.h hb.h hm⟩
theorem QbL {a b:Expr} {wa wb:DE} {pos:Pos} {r:R2} {rD:PyData->PyData->(PyData->Prop)->Prop} {op:CmpOp} (ho:OpR X (compareOp op) r) (hd:OpD r rD) (ha:QE .P X E a wa) (hb:QE .P X E b wb) (hm:behindInMarks op b=false):QT X E (.Compare a [op] [b] pos) (dTst (dOp rD wa wb)):=⟨Qlm ho hd ha.h hb.h hm⟩
theorem q_ix {a b:Expr} {wa wb:DE} {pos:Pos} {r:R2} {rD:PyData->PyData->(PyData->Prop)->Prop} (ho:IxR X r) (hd:OpDn r rD) (ha:QE .P X E a wa) (hb:QE .P X E b wb) (hs:QfN b):QE .D X E (.Subscript a b pos) (dOp rD wa wb):=⟨pd_ix ho hd ha.h hb.h hs⟩
theorem q_neg {a:Expr} {wa:DE} {pos:Pos} (ha:QE .P X E a wa):QE .F X E (.UnaryOp .USub a pos) (dUn negD wa):=⟨pd_neg ha.h⟩
theorem q_ch {a b c:Expr} {wa wb wc:DE} {pos:Pos} {op op':CmpOp} {p q:Int->Int->Bool} (ho:OpR X (compareOp op) (rI0 fun i j=>.bl (p i j))) (ho':OpR X (compareOp op') (rI0 fun i j=>.bl (q i j))) (ha:QE .P X E a wa) (hb:QE .P X E b wb) (hc:QE .P X E c wc) (hm:lastMarks [op,op'] [b,c]=false:=by with_unfolding_all rfl):QE .F X E (.Compare a [op,op'] [b,c] pos) (dCh p q wa wb wc):=⟨pd_ch ho ho' ha.h hb.h hc.h hm⟩
theorem qt_tru {e:Expr} {w:DE} (h:QE .P X E e w) (he:∀ whole,isTrue e X.env whole=(do let v <- whole;standAt e.pos;holding [v] (truthy v)):=by intro _;rfl):QT X E e (dTru w):=⟨Qlk h.h he⟩
theorem QaU {e:Expr} {w:DE} (h:QE .P X E e w) (he:∀ whole,isTrue e X.env whole=(do let v <- whole;standAt e.pos;holding [v] (truthy v)):=by intro _;rfl):QT X E e (dTst w):=⟨Qlj h.h he⟩
theorem QcA {a b:Expr} {rest:List Expr} {pos:Pos} {wa wb:DE} (ha:QE .P X E a wa) (hb:QE .D X E (.BoolOp .And (b::rest) pos) wb):QE .D X E (.BoolOp .And (a::b::rest) pos) (dAndV wa wb):=⟨pd_and ha.h hb.h⟩
theorem QbT {a:Expr} {pos:Pos} {ta:DT} (ha:QT X E a ta):QW X E (.BoolOp .Or [a] pos) ta:=⟨Qli ha.h⟩
theorem Qco {a b:Expr} {rest:List Expr} {pos:Pos} {ta tb:DT} (ha:QT X E a ta) (hb:QW X E (.BoolOp .Or (b::rest) pos) tb):QW X E (.BoolOp .Or (a::b::rest) pos) (dOr ta tb):=⟨pdw_or ha.h hb.h⟩
theorem q_or {a b:Expr} {rest:List Expr} {pos:Pos} {wa wb:DE} (ha:QE .P X E a wa) (hb:QE .D X E (.BoolOp .Or (b::rest) pos) wb):QE .D X E (.BoolOp .Or (a::b::rest) pos) (dOrV wa wb):=⟨pd_or ha.h hb.h⟩
theorem q_pw {e:Expr} {t:DT} (h:QW X E e t):QT X E e t:=⟨PW.pt h.h⟩
theorem QaV {a:Expr} {pos:Pos} {ta:DT} (ha:QT X E a ta):QT X E (.UnaryOp .Not a pos) (dNot ta):=⟨Qll ha.h⟩
theorem Qcp {op} {a:Expr} {pos:Pos} {w:DE} (h:QE .D X E a w):QE .D X E (.BoolOp op [a] pos) w:=⟨pd_one h.h⟩
theorem q_not {a:Expr} {pos:Pos} {wa:DE} (ha:QE .P X E a wa):QE .D X E (.UnaryOp .Not a pos) (dNotV wa):=⟨pd_not ha.h⟩
theorem Qac {m:Md}:QA 0 m X E [] dNil:=⟨Qlx⟩
theorem qa_D {n:Nat} {e:Expr} {es:List Expr} {we:DE} {wr:DAr} (he:QE .D X E e we) (hr:QA n .D X E es wr) (hs:notStar e=true:=by rfl):QA (n+1) .D X E (e::es) (Qir we wr):=⟨QhA he.h hr.h hs⟩
theorem qa_P {n:Nat} {e:Expr} {es:List Expr} {we:DE} {wr:DAr} (he:QE .P X E e we) (hr:QA n .P X E es wr) (hs:notStar e=true:=by rfl):QA (n+1) .P X E (e::es) (Qir we wr):=⟨Qhz he.h hr.h hs⟩
theorem QaG {n:Nat} {es:List Expr} {w:DAr} {x1} {pos:Pos} (h:QA n .D X E es w) (hn:n<=1000:=by decide):QE .F X E (.Tuple es x1 pos) (dTup w):=⟨pd_tup h.h hn⟩
theorem QbO {n:Nat} {es:List Expr} {w:DAr} {pos:Pos} (h:QA n .D X E es w) (hn:n<=1000:=by decide):QE .F X E (.List es pos) (dLst w):=⟨pd_lst h.h hn⟩
theorem q_dct {pos:Pos}:QE .D X E (.Dict [] [] pos) (dC (.dict [])):=⟨pd_dct⟩
theorem Qak {x:Str} {bid:String} {p pos:Pos} {e:Expr} {es:List Expr} {n:Nat} {wr:DAr} {r:List V->Hp->VK->Prop} {rD:List PyData->(PyData->Prop)->Prop} (hc:CallR X (.builtin bid) r) (hd:QcN r rD) (hg:Gl X x) (hm:X.mg x=none) (hv:bootBuiltins x=some (.builtin bid)) (ha:QA n .P X E (e::es) wr) (hn:x ≠ "__name__" := by decide) (hdb:(x == ("__debug__" : Str))=false:=by decide) (he:starEach (e::es) X.env=(false,eval e X.env)::starEach es X.env:=by rfl) (hpl:(backTo pos (starEach es X.env)).any (·.1)=false:=by rfl):QE .F X E (.Call (.Name x p) (e::es) [] pos) (dCB rD wr):=⟨Qjv hc hd hg hm hv ha.h hn hdb he hpl⟩
theorem Qcq {x:Str} {T:String} {p pos:Pos} {e:Expr} {es:List Expr} {n:Nat} {wr:DAr} {r:List V->Hp->VK->Prop} {rD:List PyData->(PyData->Prop)->Prop} (hc:CallR X (.type T) r) (hd:QcN r rD) (hg:Gl X x) (hm:X.mg x=none) (hv:bootBuiltins x=some (.type T)) (ha:QA n .P X E (e::es) wr) (hn:x ≠ "__name__" := by decide) (hdb:(x == ("__debug__" : Str))=false:=by decide) (he:starEach (e::es) X.env=(false,eval e X.env)::starEach es X.env:=by rfl) (hpl:(backTo pos (starEach es X.env)).any (·.1)=false:=by rfl):QE .F X E (.Call (.Name x p) (e::es) [] pos) (dCB rD wr):=⟨QhC hc hd hg hm hv ha.h hn hdb he hpl⟩
theorem Qbs {e:Expr} {we:DE} {p pos pos2:Pos} {x:Str} (tn:Tn) (hg:Gl X "isinstance") (hm:X.mg "isinstance" = none) (he:QE .P X E e we) (hg2:Gl X x) (hm2:X.mg x=none) (hv:bootBuiltins x=some (.type tn.s)) (hn:x ≠ "__name__" := by decide) (hd:(x == ("__debug__" : Str))=false:=by decide) (h1:notStar e=true:=by rfl):QE .F X E (.Call (.Name "isinstance" p) [e,.Name x pos2] [] pos) (dInst tn we):=⟨Qlz tn hg hm he.h (pb_ty tn hg2 hm2 hv hn hd) h1 rfl⟩
theorem QbW  : QO X E none dNo:=⟨Qjn⟩
theorem QbV {e:Expr} {we:DE} (he:QE .P X E e we):QO X E (some e) (dSo we):=⟨Qjm he.h⟩
theorem QbX {e:Expr} {lo hi:Option Expr} {we:DE} {wl wh:DO} {p2 pos:Pos} (he:QE .P X E e we) (hl:QO X E lo wl) (hh:QO X E hi wh):QE .F X E (.Subscript e (.Slice lo hi none p2) pos) (dSl we wl wh):=⟨Qjt he.h hl.h hh.h⟩
theorem Qan  : QAs X E [] sNil:=⟨Qlq⟩
theorem qs_v {e:Expr} {es:List Expr} {we:DE} {wr:DSl} (he:QE .D X E e we) (hr:QAs X E es wr) (hs:notStar e=true:=by rfl):QAs X E (e::es) (sV we wr):=⟨pds_v he.h hr.h hs⟩
theorem Qa3 (i:Nat) {x:Str} {pos:Pos} {es:List Expr} {wr:DSl} (hr:QAs X E es wr) (hN:X.N[i]? = some x:=by rfl) (hv:Vis X.env.scope x:=by first | exact Or.inl rfl | exact Or.inr (Or.inl rfl) | exact Or.inr (Or.inr rfl)) (hd:(x == ("__debug__" : Str))=false:=by decide) (hcd:(x == ("__classdict__" : Str))=false:=by decide):QAs X E (.Name x pos::es) (sPot i wr):=⟨Qlo (pv i hN hv hd hcd) hr.h rfl⟩
theorem Qaw {CX:CXT} {k:Nat} {f:Addr} {fd:FuncData} {ps:List Str} {x:Str} {p pos:Pos} {e:Expr} {es:List Expr} {fD:DF} {wa:DSl} (G:FnOk X.prog X.w X.K X.mg X.base CX k f fd ps (toSp false fD)) (hr:Room k X.A) (hg:Gl X x) (hm:X.mg x=some (.ref f)) (hk:PySem.W.keepIn X.K (.ref f)=true) (hb:Binds X.K fd ps []) (hx:Qds CX X E) (ha:QAs X E (e::es) wa) (hdb:(x == ("__debug__" : Str))=false:=by decide) (he:starEach (e::es) X.env=(false,eval e X.env)::starEach es X.env:=by rfl) (hpl:(backTo pos (starEach es X.env)).any (·.1)=false:=by rfl):QE .D X E (.Call (.Name x p) (e::es) [] pos) (Qis fD wa):=⟨QlC G hr hg hm hk hb hx ha.h hdb he hpl⟩
theorem Qa0 {CX:CXT} {k:Nat} {f:Addr} {fd:FuncData} {ps:List Str} {x:Str} {p pos:Pos} {e:Expr} {es:List Expr} {fD:DF} {wa:DSl} (G:FnOk X.prog X.w X.K X.mg X.base CX k f fd ps (toSp true fD)) (hr:Room k X.A) (hg:Gl X x) (hm:X.mg x=some (.ref f)) (hk:PySem.W.keepIn X.K (.ref f)=true) (hb:Binds X.K fd ps []) (hx:Qds CX X E) (ha:QAs X E (e::es) wa) (hdb:(x == ("__debug__" : Str))=false:=by decide) (he:starEach (e::es) X.env=(false,eval e X.env)::starEach es X.env:=by rfl) (hpl:(backTo pos (starEach es X.env)).any (·.1)=false:=by rfl):QE .F X E (.Call (.Name x p) (e::es) [] pos) (Qis fD wa):=⟨Qju G hr hg hm hk hb hx ha.h hdb he hpl⟩
theorem q_cell {k:Nat} {f:Addr} {fd:FuncData} {ps:List Str} {x y:Str} {p pos pos2:Pos} {b:Expr} {wb:DE} (i:Nat) (G:FnOk X.prog X.w X.K X.mg X.base CX0 k f fd ps (Qcm X.K)) (hr:Room k X.A) (hg:Gl X x) (hm:X.mg x=some (.ref f)) (hk:PySem.W.keepIn X.K (.ref f)=true) (hb:Binds X.K fd ps []) (h:QE .P X E b wb) (hN:X.N[i]? = some y:=by rfl) (hv:Vis X.env.scope y:=by first | exact Or.inl rfl | exact Or.inr (Or.inl rfl) | exact Or.inr (Or.inr rfl)) (hd:(y == ("__debug__" : Str))=false:=by decide) (hcd:(y == ("__classdict__" : Str))=false:=by decide) (h2:notStar b=true:=by rfl) (hdb:(x == ("__debug__" : Str))=false:=by decide):QE .F X E (.Call (.Name x p) [.Name y pos2,b] [] pos) (Qma i wb):=⟨QlB G hr hg hm hk hb (pv i hN hv hd hcd) h.h rfl h2 hdb⟩
theorem q_lenS {y:Str} {p pos pos2:Pos} (i:Nat) (hg:Gl X "len") (hm:X.mg "len" = none) (hN:X.N[i]? = some y:=by rfl) (hv:Vis X.env.scope y:=by first | exact Or.inl rfl | exact Or.inr (Or.inl rfl) | exact Or.inr (Or.inr rfl)) (hd:(y == ("__debug__" : Str))=false:=by decide) (hcd:(y == ("__classdict__" : Str))=false:=by decide):QE .F X E (.Call (.Name "len" p) [.Name y pos2] [] pos) (Ql9 i):=⟨Qly hg hm (pv i hN hv hd hcd) rfl⟩
theorem QaM (i:Nat) {x:Str} {pos:Pos} (hN:X.N.Nodup) (hi:X.N[i]? = some x) (hx:Loc X.env.scope x) (hf:X.fn x=true∨X.env.scope.names.lookup x=some .local:=by first | exact .inl rfl | exact .inr rfl | assumption):QG [i] X (.Name x pos) (gN i):=⟨Qjs (Qfl hN hi hx hf)⟩
structure QGs (X:Cx) (es:List Expr) (is:List Nat):Prop where h:PGs X es (gNs is)
theorem Qbz  : QGs X [] []:=⟨Qlc⟩
theorem Qat (i:Nat) {is:List Nat} {x:Str} {pos:Pos} {es:List Expr} (h:QGs X es is) (hN:X.N.Nodup) (hi:X.N[i]? = some x) (hx:Loc X.env.scope x) (hf:X.fn x=true∨X.env.scope.names.lookup x=some .local:=by first | exact .inl rfl | exact .inr rfl | assumption) (hs:(assignEach (.Name x pos::es) X.env).map (·.2)=assign (.Name x pos) X.env::(assignEach es X.env).map (·.2):=by rfl):QGs X (.Name x pos::es) (i::is):=⟨Qja (Qfl hN hi hx hf) h.h hs⟩
theorem Qby {es:List Expr} {k:Nat} {pos:Pos} {is:List Nat} (hc:X.calm=true) (h:QGs X es is) (hn:(assignEach es X.env).length=is.length:=by rfl) (hst:(assignEach es X.env).findIdx? (·.1)=none:=by rfl):QG is X (.Tuple es k pos) (gTN is):=⟨Qlw (pg_tup hc h.h hn hst) rfl⟩
theorem Qcz {m:Md} {tg e:Expr} {w:DE} (h:QE m X E e w):QI m X E tg e (dItL w):=⟨Qjr h.h⟩
theorem Qbr {m:Md} {tg e:Expr} {w:DE} (h:QE m X E e w):QI m X E tg e (dItT w):=⟨Qlv h.h⟩
theorem Qcd {m:Md} {tg e:Expr} {w:DE} {p pos:Pos} (hg:Gl X "range") (hm:X.mg "range" = none) (h:QE .P X E e w) (hs:notStar e=true:=by rfl):QI m X E tg (.Call (.Name "range" p) [e] [] pos) (dRng1 w):=⟨Qjq hg hm h.h hs⟩
theorem Qk1 {m:Md} {e e':Expr} {w w':DE} {p pos tpos:Pos} {elts:List Expr} {x1} (hg:Gl X "zip") (hm:X.mg "zip" = none) (h:QE m X E e w) (h':QE m X E e' w') (hs:notStar e=true:=by rfl) (hs':notStar e'=true:=by rfl):QI m X E (.Tuple elts x1 tpos) (.Call (.Name "zip" p) [e,e'] [] pos) (dZiL w w'):=⟨Qjp hg hm h.h h'.h hs hs'⟩
theorem Qk0 {m:Md} {e e':Expr} {w w':DE} {p pos tpos:Pos} {elts:List Expr} {x1} (hg:Gl X "zip") (hm:X.mg "zip" = none) (h:QE m X E e w) (h':QE m X E e' w') (hs:notStar e=true:=by rfl) (hs':notStar e'=true:=by rfl):QI m X E (.Tuple elts x1 tpos) (.Call (.Name "zip" p) [e,e'] [] pos) (dZiT w w'):=⟨Qjo hg hm h.h h'.h hs hs'⟩
theorem QaT  : QTs X E [] dNoT:=⟨Qjg⟩
theorem Qc5 {c:Expr} {t:DT} (h:QT X E c t):QTs X E [c] t:=⟨Qjf h.h⟩
theorem Qa9 (M:List Str) (cap:List (Option Nat)) {elt tg iter:Expr} {ifs:List Expr} {scope:Scope} {pos:Pos} {ix:List Nat} {wi:DI} {wg:DG} {wt:DT} {we:DE} (hi:QI .P X E tg iter wi) (hb:∀ cl ex s3 H3 C,QG ix (blk X M scope cl ex s3 H3 C) tg wg/\QTs (blk X M scope cl ex s3 H3 C) E0 ifs wt/\QE .D (blk X M scope cl ex s3 H3 C) E0 elt we) (hc:X.calm=true:=by rfl) (ok:QfI X.N X.env.scope M scope cap=true:=by rfl) (hf:QgR cap ix=true:=by rfl) (hs:∀ x,foldedSetIterable iter X.env x=pure x:=by intro _;rfl):QE .F X E (.ListComp elt [⟨tg,iter,ifs,0⟩] scope pos) (dComp cap wi wg wt we):=⟨QlA hc ok hf hi.h (fun cl ex s3 H3 C=>⟨(hb cl ex s3 H3 C).1.h,(hb cl ex s3 H3 C).2.1.h,(hb cl ex s3 H3 C).2.2.h⟩) hs⟩
theorem QaW  : QSs X E [] dSkip:=⟨Qjh⟩
theorem Qaj {st:Stmt} {w:DS} (h:QS X E st w):QSs X E [st] w:=⟨Qlp h.h⟩
theorem Qad {st:Stmt} {rest:List Stmt} {w w':DS} (h:QS X E st w) (h':QSs X E rest w'):QSs X E (st::rest) (dSeq w w'):=⟨Qjl h.h h'.h⟩
theorem QaC (i:Nat) {x:Str} {e:Expr} {pos pos':Pos} {we:DE} (he:QE .D X E e we) (hN:X.N.Nodup) (hi:X.N[i]? = some x:=by rfl) (hx:Loc X.env.scope x:=by first | exact Or.inl rfl | exact Or.inr rfl) (hs:swapsWith e (some (.Name x pos')) pos.line X.env=pure false:=by rfl) (hf:X.fn x=true∨X.env.scope.names.lookup x=some .local:=by first | exact .inl rfl | exact .inr rfl | assumption):QS X E (.Assign [.Name x pos'] e pos) (dSet i we):=⟨Qhy (QcQ hN hi hx he.h hs hf)⟩
theorem Qfi (i:Nat) {x:Str} {e:Expr} {pos pos':Pos} {we:DE} (he:QE .F X E e we) (hN:X.N.Nodup) (hi:X.N[i]? = some x:=by rfl) (hx:Loc X.env.scope x:=by first | exact Or.inl rfl | exact Or.inr rfl) (hs:swapsWith e (some (.Name x pos')) pos.line X.env=pure false:=by rfl) (hf:X.fn x=true∨X.env.scope.names.lookup x=some .local:=by first | exact .inl rfl | exact .inr rfl | assumption):QS X E (.Assign [.Name x pos'] e pos) (dSetF i we):=⟨Qjj (QcQ hN hi hx he.h hs hf)⟩
theorem QkZ (i:Nat) {x:Str} {e:Expr} {pos pos':Pos} {we:DE} (he:QE .F X E e we) (hN:X.N.Nodup) (hi:X.N[i]? = some x:=by rfl) (hx:Loc X.env.scope x:=by first | exact Or.inl rfl | exact Or.inr rfl) (hs:swapsWith e (some (.Name x pos')) pos.line X.env=pure false:=by rfl) (hf:X.fn x=true∨X.env.scope.names.lookup x=some .local:=by first | exact .inl rfl | exact .inr rfl | assumption):QS X E (.Assign [.Name x pos'] e pos) (dSetP i we):=⟨Qji (QcQ hN hi hx he.h hs hf)⟩
theorem QfV {tg e:Expr} {pos:Pos} {ix:List Nat} {we:DE} {wg:DG} (he:QE .D X E e we) (hg:QG ix X tg wg) (hs:swapsWithSole [tg] e pos.line X.env=pure false:=by rfl) (hw:swappedStores [tg] e X.env=pure none:=by rfl) (h1:(assignEach [tg] X.env).map (·.2)=[assign tg X.env]:=by rfl):QS X E (.Assign [tg] e pos) (dAsg we wg):=⟨Qlt (Qkc he.h hg.h hs hw h1)⟩
theorem QaD {e:Expr} {pos:Pos} {we:DE} (h:QE .D X E e we):QS X E (.Return (some e) pos) (dRet we):=⟨Qln h.h⟩
theorem Qbq {e:Expr} {pos:Pos} {we:DE} (h:QE .F X E e we):QS X E (.Return (some e) pos) (dRetF we):=⟨Qjk h.h⟩
theorem QbU {c:Expr} {a b:List Stmt} {pos:Pos} {t:DT} {w w':DS} (hc:QT X E c t) (ha:QSs X E a w) (hb:QSs X E b w'):QS X E (.If c a b pos) (dIf t w w'):=⟨pds_if hc.h ha.h hb.h⟩
theorem Qj9 {y:Str} {e:Expr} {we:DE} {apos cpos pos npos:Pos} (i:Nat) (he:QE .D X E e we) (hN:X.N[i]? = some y:=by rfl) (hv:Vis X.env.scope y:=by first | exact Or.inl rfl | exact Or.inr (Or.inl rfl) | exact Or.inr (Or.inr rfl)) (hd:(y == ("__debug__" : Str))=false:=by decide) (hcd:(y == ("__classdict__" : Str))=false:=by decide) (hst:notStar e=true:=by rfl) (hbase:attributeBase (.Name y npos) "append" X.env (eval (.Name y npos) X.env)=eval (.Name y npos) X.env:=by rfl) (hfew:((backTo cpos (starEach [e] X.env)).all (fun x => !x.1)&&(backToKw cpos (keywordEach [] X.env)).all (fun x=>x.1.isSome)&&decide ([e].length+([]:List Keyword).length+(if ([]:List Keyword).isEmpty then 0 else 1)<30))=true:=by rfl) (hline:(apos.endLine == cpos.line)=true:=by rfl) (hsw:swapsWith (.Call (.Attribute (.Name y npos) "append" apos) [e] [] cpos) none pos.line X.env=pure false:=by rfl):QS X E (.Expr (.Call (.Attribute (.Name y npos) "append" apos) [e] [] cpos) pos) (dApp i we):=⟨Qlu (Qhv (pe_bm PySem.F.plainAttrs_list PySem.F.slot_list_append PySem.F.type_list_append QeR (pv i hN hv hd hcd) (pa_c he.h Qba hst) hbase hfew hline (QaS hst) rfl) hsw)⟩
theorem qs_ext {y:Str} {e:Expr} {we:DE} {apos cpos pos npos:Pos} (i:Nat) (he:QE .P X E e we) (hN:X.N[i]? = some y:=by rfl) (hv:Vis X.env.scope y:=by first | exact Or.inl rfl | exact Or.inr (Or.inl rfl) | exact Or.inr (Or.inr rfl)) (hd:(y == ("__debug__" : Str))=false:=by decide) (hcd:(y == ("__classdict__" : Str))=false:=by decide) (hst:notStar e=true:=by rfl) (hbase:attributeBase (.Name y npos) "extend" X.env (eval (.Name y npos) X.env)=eval (.Name y npos) X.env:=by rfl) (hfew:((backTo cpos (starEach [e] X.env)).all (fun x => !x.1)&&(backToKw cpos (keywordEach [] X.env)).all (fun x=>x.1.isSome)&&decide ([e].length+([]:List Keyword).length+(if ([]:List Keyword).isEmpty then 0 else 1)<30))=true:=by rfl) (hline:(apos.endLine == cpos.line)=true:=by rfl) (hsw:swapsWith (.Call (.Attribute (.Name y npos) "extend" apos) [e] [] cpos) none pos.line X.env=pure false:=by rfl):QS X E (.Expr (.Call (.Attribute (.Name y npos) "extend" apos) [e] [] cpos) pos) (dExt i we):=⟨Qls (Qhv (pe_bm PySem.F.plainAttrs_list PySem.F.slot_list_extend PySem.F.type_list_extend QhZ (pv i hN hv hd hcd) (pa_c he.h Qba hst) hbase hfew hline (QaS hst) rfl) hsw)⟩
theorem Qc6 {tg iter:Expr} {body:List Stmt} {pos:Pos} {ix:List Nat} {wi:DI} {wg:DG} {wb:DS} (hp:PassesOwn (model X.prog X.w) X.A X.env X.xe) (hc:X.calm=true) (hi:QI .D X E tg iter wi) (hg:QG ix X tg wg) (hb:QSs X E body wb) (hs:∀ x,foldedSetIterable iter X.env x=pure x:=by intro _;rfl):QS X E (.For tg iter body [] pos) (dFor wi wg wb):=⟨Qlr hp hc hi.h hg.h hb.h hs⟩
end
section
variable {P:Program} {w:World} {K:PySem.W.Frag} {mg:Str->Option Value} {base:Heap}
theorem okQ {x qual:Str} {st:Stmt} {f:Addr} {fd:FuncData} {N ps:List Str} {k:Nat} {fD:DF} (fr:Bool) (F:Fun K x qual st f fd) (S:FnScope N ps (Qaa st)) (len:∀ args R EX,fD args R EX->args.length=ps.length)
    (hbody:∀ (cdv:Value) (A:Around) (outer:List Env) (s:Shared) (H:Hp) (E:XK),Room k (A.deeper (envOfC qual (Qaa st) s.heap.objs.size f cdv)) ->
      ∃ wd,QSs (cxOf CX0 P w K mg base N qual (Qaa st) f cdv A outer s H E).nox E0 (Qao st) wd/\∀ args R EX,fD args R EX->wd (Ql7 fr R XF) (stD N args)):FnOk P w K mg base CX0 (k+1) f fd ps (toSp fr fD):=
  okD fr F S len fun cdv A outer s H E hr=>let ⟨wd,h,q⟩:=hbody cdv A outer s H E hr;⟨wd,h.h,q⟩
theorem okQL {x qual:Str} {st:Stmt} {f:Addr} {fd:FuncData} {N:List Str} {p:Str} {k:Nat} (F:Fun K x qual st f fd) (S:FnScope N [p] (Qaa st))
    (hbody:∀ (cdv:Value) (A:Around) (outer:List Env) (s:Shared) (H:Hp) (E:XK),Room k (A.deeper (envOfC qual (Qaa st) s.heap.objs.size f cdv)) ->
      ∃ wd,QSs (cxOf CX0 P w K mg base N qual (Qaa st) f cdv A outer s H E).nox E0 (Qao st) wd/\wd endsL (stD N [.scr])):FnOk P w K mg base CX0 (k+1) f fd [p] (spLawD K):=
  okLaw F S fun cdv A outer s H E hr=>let ⟨wd,h,q⟩:=hbody cdv A outer s H E hr;⟨wd,h.h,q⟩
end
section
variable {K:PySem.W.Frag} {σ σ4:L2.St} {δ δ4:Sts} {cap:List (Option Nat)} {ix:List Nat} {A1:Addr->Prop} {H3 H5 H6:Hp}
end
section
variable {X:Cx} {E:XK}
end
section
variable {X:Cx} {E:XK}
end
section
open Rs PySem.W PySem.Calls
variable {X:Cx}
end
theorem Qf9 {A:Addr->Prop} {H:Hp}:∀ ms:List Int,DAs A H (ms.map V.int) (ms.map .int)
  | []=>.nil
  | m::ms=>.cons (.int m) (Qf9 ms)
def dOrI (a b:DI):DI:=fun δ R EX=>a δ R EX∨b δ R EX
theorem qi_or {X:Cx} {E:XK} {m:Md} {tg e:Expr} {a b:DI} (h:QI m X E tg e a) (h':QI m X E tg e b):QI m X E tg e (dOrI a b):=⟨fun pins s σ H R I ⟨F,δ,R',EX,rel,hw,k,o⟩=>by
  rcases hw with hw | hw
  · exact h.h pins s σ H R I ⟨F,δ,R',EX,rel,hw,k,o⟩
  · exact h'.h pins s σ H R I ⟨F,δ,R',EX,rel,hw,k,o⟩⟩
end Dl
namespace Rt
open PySem PyProof.Rows
def QbZ:Bool->Keyed->Array Keyed->Nat->Nat->Nat->StateT SortSt Sem (Option Nat):=sortPriv% PySem.Builtin.gallop
theorem QgQ (lf:Bool) (kk:Keyed) (xs:Array Keyed) (b n h:Nat):QbZ lf kk xs b n h=(do
  let bey (z:Nat):StateT SortSt Sem (Option Bool):=do
    let x <- elem' xs (b+z)
    if lf then lt' x kk else return (<- lt' kk x).map (!·)
  let mut l0:=0
  let mut o0:=1
  let mut u:=0
  let mut v:=0
  let some r0 <- bey h | return none
  if r0 then
    let mo:=n - h
    for _ in [0:n] do
      if o0≥mo then break
      let some r1 <- bey (h+o0) | return none
      if !r1 then break
      l0:=o0
      o0:=2*o0+1
    u:=h+l0+1
    v:=h+min o0 mo
  else
    let mo:=h+1
    for _ in [0:n] do
      if o0≥mo then break
      let some r1 <- bey (h - o0) | return none
      if r1 then break
      l0:=o0
      o0:=2*o0+1
    u:=h+1 - min o0 mo
    v:=h - l0
  for _ in [0:n] do
    if u≥v then break
    let m:=u+(v - u) / 2
    let some r1 <- bey m | return none
    if r1 then u:=m+1 else v:=m
  return some v):=rfl
structure Ord (c:Keyed->Keyed->Bool):Prop where
  asym:∀ x y,c x y=true->c y x=false
  trans:∀ x y z,c y x=false->c z y=false->c z x=false
abbrev le (c:Keyed->Keyed->Bool) (x y:Keyed):Prop:=c y x=false
section
variable {c:Keyed->Keyed->Bool}
theorem Ord.irr (o:Ord c) (x:Keyed):c x x=false:=by
  cases h:c x x with
  | false=>rfl
  | true=>rw [o.asym x x h] at h;cases h
theorem Ord.tr (o:Ord c) {x y z:Keyed} (a:le c x y) (b:le c y z):le c x z:=o.trans x y z a b
theorem Ord.lt_le (o:Ord c) {x y:Keyed} (a:c x y=true):le c x y:=o.asym x y a
theorem Ord.tr_lt (o:Ord c) {x y z:Keyed} (a:le c x y) (b:c y z=true):c x z=true:=by
  cases h:c x z with
  | true=>rfl
  | false=>rw [show c y z=false from o.trans z x y h a] at b;cases b
end
def kx (xs:Array Keyed) (i:Nat):Keyed:=(xs[i]?).getD (Value.none,Value.none)
theorem QlX {xs:Array Keyed} {i:Nat} (h:i<xs.size):xs[i]? = some (kx xs i):=by
  unfold kx;rw [getElem?_pos xs i h];rfl
theorem Qfz {xs ys:Array Keyed} {i j:Nat} (h:xs[i]? = ys[j]?):kx xs i=kx ys j:=by unfold kx;rw [h]
def Sg (c:Keyed->Keyed->Bool) (xs:Array Keyed) (lo hi:Nat):Prop:=∀ i j,lo<=i->i<=j->j<hi->le c (kx xs i) (kx xs j)
structure Asks (prog:Program) (w:World) (A:Around) (s:Shared) (κ:SortKind) (a₀:Array Keyed) (c:Keyed->Keyed->Bool):Prop where
  ord:Ord c
  lt:∀ x y,x∈a₀.toList->y∈a₀.toList->∀ (C:Bool->Shared->Prop) (E':Value->Shared->Prop),C (c x y) s->wpAny (model prog w) A (keyLt' κ x.1 y.1) C E' s
structure SB (κ:SortKind) (a₀:Array Keyed) (st:SortSt):Prop where
  perm:(arrOf st).Perm a₀
  kind:kindOf st=κ
  failed:failedOf st=none
theorem SB.size {κ:SortKind} {a₀:Array Keyed} {st:SortSt} (h:SB κ a₀ st):(arrOf st).size=a₀.size:=h.perm.size_eq
theorem SB.mem {κ:SortKind} {a₀:Array Keyed} {st:SortSt} (h:SB κ a₀ st) {p:Keyed} (e:p∈(arrOf st).toList):p∈a₀.toList:=(Array.perm_iff_toList_perm.mp h.perm).mem_iff.mp e
theorem memL {xs:Array Keyed} {i:Nat} (h:i<xs.size):kx xs i∈xs.toList:=Array.mem_toList_iff.mpr (Array.mem_of_getElem? (QlX h))
section
variable {prog:Program} {w:World} {A:Around} {E:Value->Shared->Prop} {s:Shared} {a₀:Array Keyed} {κ:SortKind} {c:Keyed->Keyed->Bool}
theorem Qev {st:SortSt} {x y:Keyed} {Q:Option Bool->SortSt->Prop} (hA:Asks prog w A s κ a₀ c) (hk:kindOf st=κ) (hx:x∈a₀.toList) (hy:y∈a₀.toList) (h:Q (some (c x y)) st):wpS (model prog w) A E s (lt' x y) Q st:=by
  rw [lt'_eq]
  refine wpS_bind (wpS_get ?_)
  rw [hk]
  refine wpS_bind (wpS_lift (wpAny_attempt (hA.lt x y hx hy _ _ ⟨rfl,?_⟩)))
  exact wpS_pure h
theorem Qae {st:SortSt} {arr:Array Keyed} {i:Nat} {Q:Keyed->SortSt->Prop} (hi:i<arr.size) (h:Q (kx arr i) st):wpS (model prog w) A E s (elem' arr i) Q st:=by
  rw [elem'_eq,QlX hi]
  exact wpS_pure h
theorem Qc0 {st:SortSt} {i j:Nat} {Q:Option Bool->SortSt->Prop} (hA:Asks prog w A s κ a₀ c) (hB:SB κ a₀ st) (hi:i<a₀.size) (hj:j<a₀.size) (h:Q (some (c (kx (arrOf st) i) (kx (arrOf st) j))) st):wpS (model prog w) A E s (ltAt' i j) Q st:=by
  have h1:i<(arrOf st).size:=by rw [hB.size];exact hi
  have h2:j<(arrOf st).size:=by rw [hB.size];exact hj
  rw [ltAt'_eq]
  refine wpS_bind (wpS_get ?_)
  refine wpS_bind (Qae h1 ?_)
  refine wpS_bind (Qae h2 ?_)
  exact Qev hA hB.kind (hB.mem (memL h1)) (hB.mem (memL h2)) h
def beyB (c:Keyed->Keyed->Bool) (lf:Bool) (kk:Keyed) (xs:Array Keyed) (i:Nat):Bool:=if lf then c (kx xs i) kk else !c kk (kx xs i)
theorem Qj0 (o:Ord c) {lf:Bool} {kk:Keyed} {xs:Array Keyed} {b n:Nat} (sg:Sg c xs b (b+n)) {i j:Nat} (hij:i<=j) (hj:j<n) (h:beyB c lf kk xs (b+j)=true):beyB c lf kk xs (b+i)=true:=by
  have l:=sg (b+i) (b+j) (by omega) (by omega) (by omega)
  unfold beyB at h ⊢
  cases lf with
  | true=>exact o.tr_lt l h
  | false=>
    simp only [Bool.false_eq_true,if_false,Bool.not_eq_true'] at h ⊢
    exact o.tr l h
theorem QaA {st:SortSt} {lf:Bool} {kk:Keyed} {xs:Array Keyed} {b n hint:Nat} {Q:Option Nat->SortSt->Prop} (hA:Asks prog w A s κ a₀ c) (hk:kindOf st=κ) (hkey:kk∈a₀.toList) (harr:∀ p∈xs.toList,p∈a₀.toList) (hb:b+n<=xs.size) (hh:hint<n) (sg:Sg c xs b (b+n))
    (h:∀ k,k<=n->(∀ i,i<k->beyB c lf kk xs (b+i)=true)->(∀ i,k<=i->i<n->beyB c lf kk xs (b+i)=false)->Q (some k) st):wpS (model prog w) A E s (QbZ lf kk xs b n hint) Q st:=by
  have bey:∀ (i:Nat) (Q':Option Bool->SortSt->Prop),i<n->Q' (some (beyB c lf kk xs (b+i))) st->wpS (model prog w) A E s (do
      let x <- elem' xs (b+i)
      if lf then lt' x kk else return (<- lt' kk x).map (!·)) Q' st:=fun i Q' hi hq=>by
    have hs:b+i<xs.size:=by omega
    refine wpS_bind (Qae hs ?_)
    have pm:=harr _ (memL hs)
    unfold beyB at hq
    cases lf with
    | true=>exact Qev hA hk pm hkey hq
    | false=>exact wpS_bind (Qev hA hk hkey pm (wpS_pure hq))
  have mono:∀ {i j:Nat},i<=j->j<n->beyB c lf kk xs (b+j)=true->beyB c lf kk xs (b+i)=true:=fun hij hj h=>Qj0 hA.ord sg hij hj h
  have monoF:∀ {i j:Nat},i<=j->j<n->beyB c lf kk xs (b+i)=false->beyB c lf kk xs (b+j)=false:=fun {i j} hij hj h=>by
    cases e:beyB c lf kk xs (b+j) with
    | false=>rfl
    | true=>rw [mono hij hj e] at h;cases h
  rw [QgQ]
  dsimp only
  refine wpS_bind (bey hint _ hh ?_)
  cases hr:beyB c lf kk xs (b+hint) with
  | true=>
    dsimp only
    rw [if_pos rfl]
    refine wpS_bind (wpS_mono (wpS_forRange (I:=fun x z st'=>st'=st/\∃ l o,z=(none,l,o)/\l<o/\x+1<=o/\hint+l<n/\beyB c lf kk xs (b+(hint+l))=true)
      (Q:=fun z st'=>st'=st/\∃ l o,z=(none,l,o)/\l<o/\hint+l<n/\beyB c lf kk xs (b+(hint+l))=true/\(hint+o<n->beyB c lf kk xs (b+(hint+o))=false)) ?step ?fin ⟨rfl,0,1,rfl,by omega,by omega,by omega,hr⟩) ?post)
    case fin=>
      rintro z st' ⟨rfl,l,o,rfl,h1,h2,h3,h4⟩
      exact ⟨rfl,l,o,rfl,h1,h3,h4,fun h5=>by omega⟩
    case step=>
      rintro x z st' _ hx ⟨rfl,l,o,rfl,h1,h2,h3,h4⟩
      dsimp only
      by_cases g:o≥n - hint
      · rw [if_pos g]
        exact wpS_pure ⟨rfl,l,o,rfl,h1,h3,h4,fun h5=>by omega⟩
      · rw [if_neg g]
        refine wpS_bind (bey (hint+o) _ (by omega) ?_)
        cases e:beyB c lf kk xs (b+(hint+o)) with
        | true=>exact wpS_pure ⟨rfl,o,2*o+1,rfl,by omega,by omega,by omega,e⟩
        | false=>exact wpS_pure ⟨rfl,l,o,rfl,h1,h3,h4,fun _=>e⟩
    case post=>
      rintro z st' ⟨rfl,l,o,rfl,h1,h3,h4,h5⟩
      dsimp only
      refine wpS_bind (wpS_mono (wpS_forRange (I:=fun x z st''=>st''=st'/\∃ u v,z=(none,u,v)/\v<=n/\u<=v/\v - u<=n - x/\(∀ i,i<u->beyB c lf kk xs (b+i)=true)/\(∀ i,v<=i->i<n->beyB c lf kk xs (b+i)=false))
        (Q:=fun z st''=>st''=st'/\∃ v,z=(none,v,v)/\v<=n/\(∀ i,i<v->beyB c lf kk xs (b+i)=true)/\(∀ i,v<=i->i<n->beyB c lf kk xs (b+i)=false)) ?step2 ?fin2 ?init2) ?post2)
      case init2=>
        refine ⟨rfl,_,_,rfl,by omega,by omega,by omega,fun i hi=>mono (by omega) h3 h4,fun i hi hn=>?_⟩
        exact monoF (i:=hint+o) (by omega) hn (h5 (by omega))
      case fin2=>
        rintro z st'' ⟨rfl,u,v,rfl,g1,g2,g3,g4,g5⟩
        have:u=v:=by omega
        subst this
        exact ⟨rfl,u,rfl,g1,g4,g5⟩
      case step2=>
        rintro x z st'' _ hx ⟨rfl,u,v,rfl,g1,g2,g3,g4,g5⟩
        dsimp only
        by_cases g:u≥v
        · rw [if_pos g]
          have:u=v:=by omega
          subst this
          exact wpS_pure ⟨rfl,u,rfl,g1,g4,g5⟩
        · rw [if_neg g]
          refine wpS_bind (bey (u+(v - u) / 2) _ (by omega) ?_)
          cases e:beyB c lf kk xs (b+(u+(v - u) / 2)) with
          | true=>exact wpS_pure ⟨rfl,_,_,rfl,g1,by omega,by omega,fun i hi=>mono (by omega) (by omega) e,g5⟩
          | false=>exact wpS_pure ⟨rfl,_,_,rfl,by omega,by omega,by omega,g4,fun i hi hn=>monoF hi hn e⟩
      case post2=>
        rintro z st'' ⟨rfl,v,rfl,g1,g4,g5⟩
        exact wpS_pure (h v g1 g4 g5)
  | false=>
    dsimp only
    rw [if_neg (by decide)]
    refine wpS_bind (wpS_mono (wpS_forRange (I:=fun x z st'=>st'=st/\∃ l o,z=(none,l,o)/\l<o/\x+1<=o/\l<=hint/\beyB c lf kk xs (b+(hint - l))=false)
      (Q:=fun z st'=>st'=st/\∃ l o,z=(none,l,o)/\l<o/\l<=hint/\beyB c lf kk xs (b+(hint - l))=false/\(o<=hint->beyB c lf kk xs (b+(hint - o))=true)) ?step ?fin ⟨rfl,0,1,rfl,by omega,by omega,by omega,hr⟩) ?post)
    case fin=>
      rintro z st' ⟨rfl,l,o,rfl,h1,h2,h3,h4⟩
      exact ⟨rfl,l,o,rfl,h1,h3,h4,fun h5=>by omega⟩
    case step=>
      rintro x z st' _ hx ⟨rfl,l,o,rfl,h1,h2,h3,h4⟩
      dsimp only
      by_cases g:o≥hint+1
      · rw [if_pos g]
        exact wpS_pure ⟨rfl,l,o,rfl,h1,h3,h4,fun h5=>by omega⟩
      · rw [if_neg g]
        refine wpS_bind (bey (hint - o) _ (by omega) ?_)
        cases e:beyB c lf kk xs (b+(hint - o)) with
        | false=>exact wpS_pure ⟨rfl,o,2*o+1,rfl,by omega,by omega,by omega,e⟩
        | true=>exact wpS_pure ⟨rfl,l,o,rfl,h1,h3,h4,fun _=>e⟩
    case post=>
      rintro z st' ⟨rfl,l,o,rfl,h1,h3,h4,h5⟩
      dsimp only
      refine wpS_bind (wpS_mono (wpS_forRange (I:=fun x z st''=>st''=st'/\∃ u v,z=(none,u,v)/\v<=n/\u<=v/\v - u<=n - x/\(∀ i,i<u->beyB c lf kk xs (b+i)=true)/\(∀ i,v<=i->i<n->beyB c lf kk xs (b+i)=false))
        (Q:=fun z st''=>st''=st'/\∃ v,z=(none,v,v)/\v<=n/\(∀ i,i<v->beyB c lf kk xs (b+i)=true)/\(∀ i,v<=i->i<n->beyB c lf kk xs (b+i)=false)) ?step2 ?fin2 ?init2) ?post2)
      case init2=>
        refine ⟨rfl,_,_,rfl,by omega,by omega,by omega,fun i hi=>?_,fun i hi hn=>monoF hi hn h4⟩
        exact mono (j:=hint - o) (by omega) (by omega) (h5 (by omega))
      case fin2=>
        rintro z st'' ⟨rfl,u,v,rfl,g1,g2,g3,g4,g5⟩
        have:u=v:=by omega
        subst this
        exact ⟨rfl,u,rfl,g1,g4,g5⟩
      case step2=>
        rintro x z st'' _ hx ⟨rfl,u,v,rfl,g1,g2,g3,g4,g5⟩
        dsimp only
        by_cases g:u≥v
        · rw [if_pos g]
          have:u=v:=by omega
          subst this
          exact wpS_pure ⟨rfl,u,rfl,g1,g4,g5⟩
        · rw [if_neg g]
          refine wpS_bind (bey (u+(v - u) / 2) _ (by omega) ?_)
          cases e:beyB c lf kk xs (b+(u+(v - u) / 2)) with
          | true=>exact wpS_pure ⟨rfl,_,_,rfl,g1,by omega,by omega,fun i hi=>mono (by omega) (by omega) e,g5⟩
          | false=>exact wpS_pure ⟨rfl,_,_,rfl,by omega,by omega,by omega,g4,fun i hi hn=>monoF hi hn e⟩
      case post2=>
        rintro z st'' ⟨rfl,v,rfl,g1,g4,g5⟩
        exact wpS_pure (h v g1 g4 g5)
structure Fb (κ:SortKind) (a₀:Array Keyed) (lo:Nat) (st st':SortSt):Prop where
  sb:SB κ a₀ st'
  pend:pendingOf st'=pendingOf st
  low:∀ k,k<lo->kx (arrOf st') k=kx (arrOf st) k
theorem Fb.refl {st:SortSt} {lo:Nat} (h:SB κ a₀ st):Fb κ a₀ lo st st:=⟨h,rfl,fun _ _=>rfl⟩
theorem Qh7 {xs:Array Keyed} {i j:Nat} (hj:j<=xs.size) (k:Nat):kx (mirror xs i j ((j - i) / 2)) k=if i<=k/\k<j then kx xs (i+j - 1 - k) else kx xs k:=by
  have e:=getElem?_mirror_all (i:=i) hj k
  by_cases h1:i<=k/\k<j
  · rw [if_pos h1] at e ⊢;exact Qfz e
  · rw [if_neg h1] at e ⊢;exact Qfz e
theorem QbR {st:SortSt} {i j lo:Nat} {st0:SortSt} {Q:Unit->SortSt->Prop} (fb:Fb κ a₀ lo st0 st) (hi:lo<=i) (hj:j<=a₀.size)
    (h:∀ st',Fb κ a₀ lo st0 st'->(∀ k,kx (arrOf st') k=if i<=k/\k<j then kx (arrOf st) (i+j - 1 - k) else kx (arrOf st) k)->Q () st'):wpS (model prog w) A E s (reverseSlice' i j) Q st:=by
  rw [reverseSlice'_eq]
  have km:∀ k,kx (mirror (arrOf st) i j ((j - i) / 2)) k=if i<=k/\k<j then kx (arrOf st) (i+j - 1 - k) else kx (arrOf st) k:=fun k=>Qh7 (by rw [fb.sb.size];exact hj) k
  refine wpS_modify (h _ ⟨⟨(mirror_perm _ _ _ _).trans fb.sb.perm,fb.sb.kind,fb.sb.failed⟩,fb.pend,fun k hk=>?_⟩ km)
  show kx (mirror (arrOf st) i j ((j - i) / 2)) k=_
  rw [km,if_neg (by omega)]
  exact fb.low k hk
def ascL (lo a nr:Nat):StateT SortSt Sem (Option (Option Nat)×Nat):=
  forIn [a:nr] ((none,a):Option (Option Nat)×Nat) fun _ z=>do
    let r <- ltAt' (lo+z.2) (lo+z.2 - 1)
    match r with
    | some b=>if b=true then pure (ForInStep.done (none,z.2)) else pure (ForInStep.yield (none,z.2+1))
    | _=>pure (ForInStep.done (some none,z.2))
theorem Qc2 {st:SortSt} {lo a nr:Nat} {Q:Option (Option Nat)×Nat->SortSt->Prop} (hA:Asks prog w A s κ a₀ c) (hn:lo+nr<=a₀.size) (h1:1<=a) (han:a<=nr) (hB:SB κ a₀ st) (sg:Sg c (arrOf st) lo (lo+a))
    (h:∀ n,a<=n->n<=nr->Sg c (arrOf st) lo (lo+n)->(n=nr∨c (kx (arrOf st) (lo+n)) (kx (arrOf st) (lo+n - 1))=true)->Q (none,n) st):wpS (model prog w) A E s (ascL lo a nr) Q st:=by
  unfold ascL
  refine wpS_forRange (I:=fun x z st'=>st'=st/\z=(none,x)/\Sg c (arrOf st) lo (lo+x)) ?step ?fin ⟨rfl,rfl,sg⟩
  case fin=>
    rintro z st' ⟨rfl,rfl,hs⟩
    rw [show max a nr=nr by omega] at hs ⊢
    exact h nr han (Nat.le_refl _) hs (.inl rfl)
  case step=>
    rintro x z st' hax hxn ⟨rfl,rfl,hs⟩
    dsimp only
    refine wpS_bind (Qc0 hA hB (by omega) (by omega) ?_)
    cases e:c (kx (arrOf st') (lo+x)) (kx (arrOf st') (lo+x - 1)) with
    | true=>exact wpS_pure (h x hax (by omega) hs (.inr e))
    | false=>
      refine wpS_pure ⟨rfl,rfl,fun i j hi hij hj=>?_⟩
      by_cases z:j<lo+x
      · exact hs i j hi hij z
      · have zj:j=lo+x:=by omega
        subst zj
        by_cases zi:i=lo+x
        · subst zi;exact hA.ord.irr _
        · exact hA.ord.tr (hs i (lo+x - 1) hi (by omega) (by omega)) e
def Ng (c:Keyed->Keyed->Bool) (xs:Array Keyed) (lo hi:Nat):Prop:=∀ i j,lo<=i->i<=j->j<hi->le c (kx xs j) (kx xs i)
def Eqv (c:Keyed->Keyed->Bool) (x y:Keyed):Prop:=le c x y/\le c y x
theorem Eqv.ng (o:Ord c) {xs ys:Array Keyed} {lo hi:Nat} (h:∀ k,lo<=k->k<hi->Eqv c (kx ys k) (kx xs k)) (n:Ng c xs lo hi):Ng c ys lo hi:=fun i j hi' hij hj=>
  o.tr (h j (by omega) hj).1 (o.tr (n i j hi' hij hj) (h i hi' (by omega)).2)
theorem Qd5 (o:Ord c) {xs ys:Array Keyed} {u v:Nat} (h:∀ k,kx ys k=if u<=k/\k<v then kx xs (u+v - 1 - k) else kx xs k) (q:∀ k,u<=k->k<v->Eqv c (kx xs k) (kx xs (v - 1))) (k:Nat):Eqv c (kx ys k) (kx xs k):=by
  rw [h k]
  split
  · rename_i z
    have a:=q (u+v - 1 - k) (by omega) (by omega)
    have b:=q k z.1 z.2
    exact ⟨o.tr a.1 b.2,o.tr b.1 a.2⟩
  · exact ⟨o.irr _,o.irr _⟩
def descL (lo n nr:Nat):StateT SortSt Sem (Option (Option Nat)×Nat×Nat):=
  forIn [n:nr] ((none,n,0):Option (Option Nat)×Nat×Nat) fun _ z=>do
    let r <- ltAt' (lo+z.2.1) (lo+z.2.1 - 1)
    match r with
    | some b=>
      if b=true then
        if z.2.2 > 0 then do
          reverseSlice' (lo+z.2.1 - (z.2.2+1)) (lo+z.2.1)
          pure (ForInStep.yield (none,z.2.1+1,0))
        else pure (ForInStep.yield (none,z.2.1+1,0))
      else do
        let r <- ltAt' (lo+z.2.1 - 1) (lo+z.2.1)
        match r with
        | some b=>
          if b=true then pure (ForInStep.done (none,z.2.1,z.2.2))
          else pure (ForInStep.yield (none,z.2.1+1,z.2.2+1))
        | _=>pure (ForInStep.done (some none,z.2.1,z.2.2))
    | _=>pure (ForInStep.done (some none,z.2.1,z.2.2))
theorem Qdb (o:Ord c) {xs:Array Keyed} {lo n:Nat} (h:Ng c xs lo (lo+n)) (h1:1<=n) (l:le c (kx xs (lo+n)) (kx xs (lo+n - 1))):Ng c xs lo (lo+(n+1)):=fun i j hi hij hj=>by
  by_cases z:j<lo+n
  · exact h i j hi hij z
  · have zj:j=lo+n:=by omega
    subst zj
    by_cases zi:i=lo+n
    · subst zi;exact o.irr _
    · exact o.tr l (h i (lo+n - 1) hi (by omega) (by omega))
theorem QfO {st st0:SortSt} {lo n nr:Nat} {Q:Option (Option Nat)×Nat×Nat->SortSt->Prop} (hA:Asks prog w A s κ a₀ c) (hn:lo+nr<=a₀.size) (h1:1<=n) (han:n<=nr) (fb:Fb κ a₀ lo st0 st) (ng:Ng c (arrOf st) lo (lo+n))
    (h:∀ m q st',n<=m->m<=nr->Fb κ a₀ lo st0 st'->Ng c (arrOf st') lo (lo+m)->q+1<=m->(∀ k,lo+m - (q+1)<=k->k<lo+m->Eqv c (kx (arrOf st') k) (kx (arrOf st') (lo+m - 1)))->Q (none,m,q) st'):wpS (model prog w) A E s (descL lo n nr) Q st:=by
  unfold descL
  have ir:∀ x,Eqv c x x:=fun x=>⟨hA.ord.irr x,hA.ord.irr x⟩
  refine wpS_forRange (I:=fun x z st'=>∃ q,z=(none,x,q)/\Fb κ a₀ lo st0 st'/\Ng c (arrOf st') lo (lo+x)/\q+1<=x/\(∀ k,lo+x - (q+1)<=k->k<lo+x->Eqv c (kx (arrOf st') k) (kx (arrOf st') (lo+x - 1)))) ?step ?fin
    ⟨0,rfl,fb,ng,h1,fun k k1 k2=>by rw [show k=lo+n - 1 by omega];exact ir _⟩
  case fin=>
    rintro z st' ⟨q,rfl,f,g,g1,g2⟩
    rw [show max n nr=nr by omega] at g g1 g2 ⊢
    exact h nr q st' han (Nat.le_refl _) f g g1 g2
  case step=>
    rintro x z st' hax hxn ⟨q,rfl,f,g,g1,g2⟩
    dsimp only
    refine wpS_bind (Qc0 hA f.sb (by omega) (by omega) ?_)
    cases e:c (kx (arrOf st') (lo+x)) (kx (arrOf st') (lo+x - 1)) with
    | true=>
      dsimp only
      rw [if_pos rfl]
      by_cases zq:q > 0
      · rw [if_pos zq]
        refine wpS_bind (QbR f (by omega) (by omega) fun st2 f2 km=>wpS_pure ⟨0,rfl,f2,?_,by omega,fun k k1 k2=>by rw [show k=lo+(x+1) - 1 by omega];exact ir _⟩)
        refine Eqv.ng hA.ord (xs:=arrOf st') (fun k _ _=>Qd5 hA.ord km g2 k) (Qdb hA.ord g (by omega) (hA.ord.lt_le e))
      · rw [if_neg zq]
        exact wpS_pure ⟨0,rfl,f,Qdb hA.ord g (by omega) (hA.ord.lt_le e),by omega,fun k k1 k2=>by rw [show k=lo+(x+1) - 1 by omega];exact ir _⟩
    | false=>
      dsimp only
      rw [if_neg (by decide)]
      refine wpS_bind (Qc0 hA f.sb (by omega) (by omega) ?_)
      cases e2:c (kx (arrOf st') (lo+x - 1)) (kx (arrOf st') (lo+x)) with
      | true=>exact wpS_pure (h x q st' hax (by omega) f g g1 g2)
      | false=>
        refine wpS_pure ⟨q+1,rfl,f,Qdb hA.ord g (by omega) e2,by omega,fun k k1 k2=>?_⟩
        rw [show lo+(x+1) - 1=lo+x by omega]
        by_cases zk:k=lo+x
        · subst zk;exact ir _
        · have a:=g2 k (by omega) (by omega)
          exact ⟨hA.ord.tr a.1 e,hA.ord.tr e2 a.2⟩
theorem QjI {xs ys:Array Keyed} {lo hi:Nat} (h:∀ k,kx ys k=if lo<=k/\k<hi then kx xs (lo+hi - 1 - k) else kx xs k) (n:Ng c xs lo hi):Sg c ys lo hi:=fun i j hi' hij hj=>by
  rw [h i,h j,if_pos (by omega),if_pos (by omega)]
  exact n _ _ (by omega) (by omega) (by omega)
theorem QdU {st:SortSt} {lo nr:Nat} {Q:Option Nat->SortSt->Prop} (hA:Asks prog w A s κ a₀ c) (hn:lo+nr<=a₀.size) (h1:1<=nr) (hB:SB κ a₀ st)
    (h:∀ m st',Fb κ a₀ lo st st'->1<=m->m<=nr->Sg c (arrOf st') lo (lo+m)->Q (some m) st'):wpS (model prog w) A E s (countRun' lo nr) Q st:=by
  rw [countRun'_eq]
  dsimp only
  refine wpS_bind (Qc2 (lo:=lo) (a:=1) (nr:=nr) hA hn (Nat.le_refl _) h1 hB (fun i j hi hij hj=>by rw [show i=j by omega];exact hA.ord.irr _) fun n n1 n2 sg hor=>?_)
  dsimp only
  by_cases zn:n=nr
  · rw [if_pos (by simpa using zn)]
    exact wpS_pure (h n st (Fb.refl hB) n1 n2 sg)
  · rw [if_neg (by simpa using zn)]
    have hlt:=hor.resolve_left zn
    by_cases zg:n > 1
    · rw [if_pos zg]
      refine wpS_bind (Qc0 hA hB (by omega) (by omega) ?_)
      cases e:c (kx (arrOf st) lo) (kx (arrOf st) (lo+n - 1)) with
      | true=>exact wpS_pure (h n st (Fb.refl hB) n1 n2 sg)
      | false=>
        have all:∀ k,lo<=k->k<lo+n->Eqv c (kx (arrOf st) k) (kx (arrOf st) (lo+n - 1)):=fun k k1 k2=>
          ⟨sg k (lo+n - 1) k1 (by omega) (by omega),hA.ord.tr e (sg lo k (Nat.le_refl _) k1 k2)⟩
        dsimp only
        rw [if_neg (by decide)]
        refine wpS_bind (QbR (Fb.refl hB) (Nat.le_refl _) (by omega) fun st2 f2 km=>?_)
        have ng2:Ng c (arrOf st2) lo (lo+(n+1)):=by
          refine Eqv.ng hA.ord (xs:=arrOf st) (fun k k1 k2=>Qd5 hA.ord km all k) (Qdb hA.ord (fun i j i1 ij j1=>?_) n1 (hA.ord.lt_le hlt))
          have a:=all i i1 (by omega)
          have b:=all j (by omega) j1
          exact hA.ord.tr b.1 a.2
        refine wpS_bind (wpS_lift (wpAny_rule ⟨rfl,?_⟩))
        refine wpS_bind (QfO (lo:=lo) (n:=n+1) (nr:=nr) hA hn (by omega) (by omega) f2 (ng2) fun m q st' m1 m2 f5 g g1 g2=>?_)
        dsimp only
        by_cases zq:q > 0
        · rw [if_pos zq]
          refine wpS_bind (QbR f5 (by omega) (by omega) fun st3 f3 km3=>?_)
          refine wpS_bind (QbR f3 (Nat.le_refl _) (by omega) fun st4 f4 km4=>?_)
          refine wpS_bind (Qc2 (lo:=lo) (a:=m) (nr:=nr) hA hn (by omega) m2 f4.sb (QjI km4 (Eqv.ng hA.ord (xs:=arrOf st') (fun k _ _=>Qd5 hA.ord km3 g2 k) g)) fun k k1 k2 sg4 _=>wpS_pure (h k st4 f4 (by omega) k2 sg4))
        · rw [if_neg zq]
          refine wpS_bind (QbR f5 (Nat.le_refl _) (by omega) fun st4 f4 km4=>?_)
          refine wpS_bind (Qc2 (lo:=lo) (a:=m) (nr:=nr) hA hn (by omega) m2 f4.sb (QjI km4 (g)) fun k k1 k2 sg4 _=>wpS_pure (h k st4 f4 (by omega) k2 sg4))
    · rw [if_neg zg]
      have z1:n=1:=by omega
      subst z1
      refine wpS_bind (wpS_lift (wpAny_rule ⟨rfl,?_⟩))
      refine wpS_bind (QfO (lo:=lo) (n:=1+1) (nr:=nr) hA hn (by omega) (by omega) (Fb.refl hB) (Qdb hA.ord (fun i j i1 ij j1=>by rw [show i=j by omega];exact hA.ord.irr _) n1 (hA.ord.lt_le hlt)) fun m q st' m1 m2 f5 g g1 g2=>?_)
      dsimp only
      by_cases zq:q > 0
      · rw [if_pos zq]
        refine wpS_bind (QbR f5 (by omega) (by omega) fun st3 f3 km3=>?_)
        refine wpS_bind (QbR f3 (Nat.le_refl _) (by omega) fun st4 f4 km4=>?_)
        refine wpS_bind (Qc2 (lo:=lo) (a:=m) (nr:=nr) hA hn (by omega) m2 f4.sb (QjI km4 (Eqv.ng hA.ord (xs:=arrOf st') (fun k _ _=>Qd5 hA.ord km3 g2 k) g)) fun k k1 k2 sg4 _=>wpS_pure (h k st4 f4 (by omega) k2 sg4))
      · rw [if_neg zq]
        refine wpS_bind (QbR f5 (Nat.le_refl _) (by omega) fun st4 f4 km4=>?_)
        refine wpS_bind (Qc2 (lo:=lo) (a:=m) (nr:=nr) hA hn (by omega) m2 f4.sb (QjI km4 (g)) fun k k1 k2 sg4 _=>wpS_pure (h k st4 f4 (by omega) k2 sg4))
theorem Qh8 {xs:Array Keyed} {src d:Nat} (hs:src<xs.size) (hd:d<=src) (k:Nat):kx (bubble xs src d) k=if k=src - d then kx xs src else if src - d<k/\k<=src then kx xs (k - 1) else kx xs k:=by
  have e:=getElem?_bubble hs d hd k
  by_cases h1:k=src - d
  · rw [if_pos h1] at e ⊢;exact Qfz e
  · rw [if_neg h1] at e ⊢
    by_cases h2:src - d<k/\k<=src
    · rw [if_pos h2] at e ⊢;exact Qfz e
    · rw [if_neg h2] at e ⊢;exact Qfz e
theorem Qc1 {st:SortSt} {lo n ok:Nat} {Q:Bool->SortSt->Prop} (hA:Asks prog w A s κ a₀ c) (hn:lo+n<=a₀.size) (h1:1<=ok) (hok:ok<=n) (hB:SB κ a₀ st) (sg:Sg c (arrOf st) lo (lo+ok))
    (h:∀ st',Fb κ a₀ lo st st'->Sg c (arrOf st') lo (lo+n)->Q true st'):wpS (model prog w) A E s (binarySort' lo n ok) Q st:=by
  rw [binarySort'_eq]
  refine wpS_bind (wpS_mono (wpS_forRange (I:=fun k z st'=>z=(none,())/\Fb κ a₀ lo st st'/\Sg c (arrOf st') lo (lo+min k n)) (Q:=fun z st'=>z=(none,())/\Fb κ a₀ lo st st'/\Sg c (arrOf st') lo (lo+n)) ?step ?fin ⟨rfl,Fb.refl hB,by rw [show min (max ok 1) n=ok by omega];exact sg⟩) ?post)
  case post=>
    rintro z st' ⟨rfl,f,g⟩
    exact wpS_pure (h st' f g)
  case fin=>
    rintro z st' ⟨rfl,f,g⟩
    rw [show min (max (max ok 1) n) n=n by omega] at g
    exact ⟨rfl,f,g⟩
  case step=>
    rintro k z st' hak hkn ⟨rfl,f,g⟩
    rw [show min k n=k by omega] at g
    refine wpS_bind (wpS_mono (wpS_forRange (I:=fun x z st''=>st''=st'/\∃ l r,z=(none,l,r)/\l<=r/\r<=k/\r - l<=k - x/\(∀ i,i<l->le c (kx (arrOf st') (lo+i)) (kx (arrOf st') (lo+k)))/\(∀ i,r<=i->i<k->le c (kx (arrOf st') (lo+k)) (kx (arrOf st') (lo+i))))
      (Q:=fun z st''=>st''=st'/\∃ l r,z=(none,l,r)/\l<=k/\(∀ i,i<l->le c (kx (arrOf st') (lo+i)) (kx (arrOf st') (lo+k)))/\(∀ i,l<=i->i<k->le c (kx (arrOf st') (lo+k)) (kx (arrOf st') (lo+i)))) ?istep ?ifin ⟨rfl,0,k,rfl,by omega,by omega,by omega,fun i hi=>by omega,fun i a b=>by omega⟩) ?ipost)
    case ifin=>
      rintro z st'' ⟨rfl,l,r,rfl,h1,h2,h3,h4,h5⟩
      have:l=r:=by omega
      subst this
      exact ⟨rfl,l,l,rfl,h2,h4,h5⟩
    case istep=>
      rintro x z st'' _ hx ⟨rfl,l,r,rfl,h1,h2,h3,h4,h5⟩
      dsimp only
      by_cases zz:l≥r
      · rw [if_pos zz]
        have:l=r:=by omega
        subst this
        exact wpS_pure ⟨rfl,l,l,rfl,h2,h4,h5⟩
      · rw [if_neg zz]
        refine wpS_bind (Qc0 hA f.sb (by omega) (by omega) ?_)
        cases e:c (kx (arrOf st'') (lo+k)) (kx (arrOf st'') (lo+(l+r) / 2)) with
        | true=>exact wpS_pure ⟨rfl,_,_,rfl,by omega,by omega,by omega,h4,fun i a b=>hA.ord.tr (hA.ord.lt_le e) (g _ _ (by omega) (by omega) (by omega))⟩
        | false=>exact wpS_pure ⟨rfl,_,_,rfl,by omega,by omega,by omega,fun i a=>hA.ord.tr (g (lo+i) (lo+(l+r) / 2) (by omega) (by omega) (by omega)) e,h5⟩
    case ipost=>
      rintro z st'' ⟨rfl,l,r,rfl,h2,h4,h5⟩
      dsimp only
      rw [moveDown'_eq]
      have hs:lo+k<(arrOf st'').size:=by rw [f.sb.size];omega
      have kb:∀ j,kx (bubble (arrOf st'') (lo+k) (lo+k - (lo+l))) j=if j=lo+l then kx (arrOf st'') (lo+k) else if lo+l<j/\j<=lo+k then kx (arrOf st'') (j - 1) else kx (arrOf st'') j:=fun j=>by
        rw [Qh8 hs (by omega),show lo+k - (lo+k - (lo+l))=lo+l by omega]
      refine wpS_bind (wpS_modify (wpS_pure ⟨rfl,⟨⟨(bubble_perm _ _ _).trans f.sb.perm,f.sb.kind,f.sb.failed⟩,f.pend,fun j hj=>?_⟩,fun i j hi hij hj=>?_⟩))
      · show kx (bubble (arrOf st'') (lo+k) (lo+k - (lo+l))) j=_
        rw [kb,if_neg (by omega),if_neg (by omega)]
        exact f.low j hj
      · show le c (kx (bubble (arrOf st'') (lo+k) (lo+k - (lo+l))) i) (kx (bubble (arrOf st'') (lo+k) (lo+k - (lo+l))) j)
        rw [kb,kb]
        have low:∀ i,lo<=i->i<lo+l->le c (kx (arrOf st'') i) (kx (arrOf st'') (lo+k)):=fun i a b=>by have:=h4 (i - lo) (by omega);rwa [show lo+(i - lo)=i by omega] at this
        have high:∀ i,lo+l<=i->i<lo+k->le c (kx (arrOf st'') (lo+k)) (kx (arrOf st'') i):=fun i a b=>by have:=h5 (i - lo) (by omega) (by omega);rwa [show lo+(i - lo)=i by omega] at this
        repeat' split
        all_goals first
          | (exfalso;omega)
          | exact hA.ord.irr _
          | exact low _ (by omega) (by omega)
          | exact high _ (by omega) (by omega)
          | exact g _ _ (by omega) (by omega) (by omega)
end
def QaX:Nat->StateT SortSt Sem Unit:=sortPriv% PySem.Builtin.setMinGallop
theorem QcR (g:Nat):QaX g=modify fun z=>SortSt.mk' (kindOf z) (arrOf z) (pendingOf z) g (failedOf z):=rfl
def Qec:Array Keyed->Array Keyed->StateT SortSt Sem (Array Keyed):=sortPriv% PySem.Builtin.mergeLo
def Qed:Array Keyed->Array Keyed->StateT SortSt Sem (Array Keyed):=sortPriv% PySem.Builtin.mergeHi
theorem Qfr (a b:Array Keyed):Qec a b=(do
  rule "list.sort.merge-lo"
  let tot:=a.size+b.size
  let dn (r:Array Keyed) (i j:Nat):=r++a.extract i a.size++b.extract j b.size
  let la (r:Array Keyed) (i j:Nat):=r++b.extract j b.size++a.extract i a.size
  let mut r:Array Keyed:=#[<- elem' b 0]
  let mut i:=0
  let mut j:=1
  if j == b.size then return dn r i j
  if i+1 == a.size then return la r i j
  let mut mg:=gallopOf (<- get)
  for _ in [0:tot] do
    let mut p:=0
    let mut q:=0
    for _ in [0:tot] do
      let some t <- lt' (<- elem' b j) (<- elem' a i) | return dn r i j
      if t then
        r:=r.push (<- elem' b j);j:=j+1;q:=q+1;p:=0
        if j == b.size then return dn r i j
        if q≥mg then break
      else
        r:=r.push (<- elem' a i);i:=i+1;p:=p+1;q:=0
        if i+1 == a.size then return la r i j
        if p≥mg then break
    rule "list.sort.gallop"
    mg:=mg+1
    for _ in [0:tot] do
      if mg > 1 then mg:=mg - 1
      QaX mg
      let some k <- QbZ false (<- elem' b j) a i (a.size - i) 0 | return dn r i j
      p:=k
      if k > 0 then
        r:=r++a.extract i (i+k);i:=i+k
        if i+1 == a.size then return la r i j
        if i == a.size then return dn r i j
      r:=r.push (<- elem' b j);j:=j+1
      if j == b.size then return dn r i j
      let some k <- QbZ true (<- elem' a i) b j (b.size - j) 0 | return dn r i j
      q:=k
      if k > 0 then
        r:=r++b.extract j (j+k);j:=j+k
        if j == b.size then return dn r i j
      r:=r.push (<- elem' a i);i:=i+1
      if i+1 == a.size then return la r i j
      if p<7&&q<7 then break
    mg:=mg+1
    QaX mg
  unsupported "internal:list.sort.merge-bound"):=rfl
section
variable {c:Keyed->Keyed->Bool}
abbrev Pw (c:Keyed->Keyed->Bool) (l:List Keyed):Prop:=l.Pairwise (le c)
theorem Qkw {r ch x y:List Keyed} (h1:Pw c (r++(ch++x))) (h2:Pw c (r++y)) (h:∀ u∈ch,∀ v∈y,le c u v):Pw c ((r++ch)++x)/\Pw c ((r++ch)++y):=by
  have h1':Pw c ((r++ch)++x):=by rw [List.append_assoc];exact h1
  refine ⟨h1',?_⟩
  have g:=List.pairwise_append.mp h1'
  have g2:=List.pairwise_append.mp h2
  refine List.pairwise_append.mpr ⟨g.1,g2.2.1,fun u hu v hv=>?_⟩
  rcases List.mem_append.mp hu with z | z
  · exact g2.2.2 u z v hv
  · exact h u z v hv
theorem Qbu {xs:Array Keyed} {i:Nat} (h:i<xs.size):xs.toList[i]? = some (kx xs i):=by rw [Array.getElem?_toList];exact QlX h
theorem Qik {xs:Array Keyed} {i:Nat} (h:i<xs.size):xs.toList.drop i=kx xs i::xs.toList.drop (i+1):=by
  have hl:i<xs.toList.length:=by rw [Array.length_toList];exact h
  rw [List.drop_eq_getElem_cons hl]
  have:=Qbu h
  rw [List.getElem?_eq_getElem hl] at this
  rw [Option.some.inj this]
theorem QbH {xs:Array Keyed} {i:Nat} {p:Keyed} (h:p∈xs.toList.drop i):∃ k,i<=k/\k<xs.size/\p=kx xs k:=by
  obtain ⟨n,hn⟩:=List.mem_iff_getElem?.mp h
  rw [List.getElem?_drop] at hn
  have hl:=(List.getElem?_eq_some_iff.mp hn).1
  rw [Array.length_toList] at hl
  rw [Qbu hl] at hn
  exact ⟨i+n,by omega,hl,(Option.some.inj hn).symm⟩
theorem QcW (xs:Array Keyed) (i k:Nat):(xs.extract i (i+k)).toList=(xs.toList.drop i).take k:=by
  rw [Array.toList_extract,List.extract_eq_take_drop,Nat.add_sub_cancel_left]
theorem QcG (xs:Array Keyed) (i:Nat):(xs.extract i xs.size).toList=xs.toList.drop i:=by
  rw [Array.toList_extract,List.extract_eq_take_drop,List.take_of_length_le (by rw [List.length_drop,Array.length_toList];exact Nat.le_refl _)]
theorem Qdd {xs:Array Keyed} {i k:Nat} {p:Keyed} (h:p∈(xs.toList.drop i).take k):∃ t,t<k/\i+t<xs.size/\p=kx xs (i+t):=by
  obtain ⟨n,hn⟩:=List.mem_iff_getElem?.mp h
  rw [List.getElem?_take] at hn
  split at hn
  · rename_i z
    rw [List.getElem?_drop] at hn
    have hl:=(List.getElem?_eq_some_iff.mp hn).1
    rw [Array.length_toList] at hl
    rw [Qbu hl] at hn
    exact ⟨n,z,hl,(Option.some.inj hn).symm⟩
  · cases hn
structure MI (c:Keyed->Keyed->Bool) (a b r:Array Keyed) (i j:Nat):Prop where
  ha:Pw c (r.toList++a.toList.drop i)
  hb:Pw c (r.toList++b.toList.drop j)
  pm:(r.toList++(a.toList.drop i++b.toList.drop j)).Perm (a.toList++b.toList)
def Out (c:Keyed->Keyed->Bool) (a b z:Array Keyed):Prop:=Pw c z.toList/\z.toList.Perm (a.toList++b.toList)
variable {a b r:Array Keyed} {i j k:Nat}
theorem MI.chA (m:MI c a b r i j) (h:∀ t,t<k->i+t<a.size->∀ n,j<=n->n<b.size->le c (kx a (i+t)) (kx b n)):MI c a b (r++a.extract i (i+k)) (i+k) j:=by
  have e:a.toList.drop i=(a.toList.drop i).take k++a.toList.drop (i+k):=by rw [<- List.drop_drop,List.take_append_drop]
  have e2:(r++a.extract i (i+k)).toList=r.toList++(a.toList.drop i).take k:=by rw [Array.toList_append,QcW]
  have h1:=m.ha
  have pm:=m.pm
  rw [e] at h1 pm
  obtain ⟨g1,g2⟩:=Qkw h1 m.hb fun u hu v hv=>by
    obtain ⟨t,t1,t2,rfl⟩:=Qdd hu
    obtain ⟨n,n1,n2,rfl⟩:=QbH hv
    exact h t t1 t2 n n1 n2
  refine ⟨by rw [e2];exact g1,by rw [e2];exact g2,?_⟩
  rw [e2,List.append_assoc,<- List.append_assoc ((a.toList.drop i).take k)]
  exact pm
theorem MI.chB (m:MI c a b r i j) (h:∀ t,t<k->j+t<b.size->∀ n,i<=n->n<a.size->le c (kx b (j+t)) (kx a n)):MI c a b (r++b.extract j (j+k)) i (j+k):=by
  have e:b.toList.drop j=(b.toList.drop j).take k++b.toList.drop (j+k):=by rw [<- List.drop_drop,List.take_append_drop]
  have e2:(r++b.extract j (j+k)).toList=r.toList++(b.toList.drop j).take k:=by rw [Array.toList_append,QcW]
  have h1:=m.hb
  have pm:=m.pm
  rw [e] at h1 pm
  obtain ⟨g1,g2⟩:=Qkw h1 m.ha fun u hu v hv=>by
    obtain ⟨t,t1,t2,rfl⟩:=Qdd hu
    obtain ⟨n,n1,n2,rfl⟩:=QbH hv
    exact h t t1 t2 n n1 n2
  refine ⟨by rw [e2];exact g2,by rw [e2];exact g1,?_⟩
  rw [e2,List.append_assoc]
  refine List.Perm.trans (List.Perm.append_left _ ?_) pm
  rw [<- List.append_assoc,<- List.append_assoc]
  exact List.Perm.append_right _ List.perm_append_comm
theorem QfY {xs:Array Keyed} {i:Nat} (h:i<xs.size):r.push (kx xs i)=r++xs.extract i (i+1):=by
  apply Array.toList_inj.mp
  rw [Array.toList_push,Array.toList_append,QcW,Qik h]
  rfl
theorem MI.puA (m:MI c a b r i j) (hi:i<a.size) (h:∀ n,j<=n->n<b.size->le c (kx a i) (kx b n)):MI c a b (r.push (kx a i)) (i+1) j:=by
  rw [QfY hi]
  refine m.chA fun t t1 t2=>?_
  have:t=0:=by omega
  subst this
  exact h
theorem MI.puB (m:MI c a b r i j) (hj:j<b.size) (h:∀ n,i<=n->n<a.size->le c (kx b j) (kx a n)):MI c a b (r.push (kx b j)) i (j+1):=by
  rw [QfY hj]
  refine m.chB fun t t1 t2=>?_
  have:t=0:=by omega
  subst this
  exact h
theorem MI.dnB (m:MI c a b r i j) (hj:j=b.size):Out c a b (r++a.extract i a.size++b.extract j b.size):=by
  have e:b.toList.drop j=[]:=List.drop_of_length_le (by rw [Array.length_toList];omega)
  have e2:(r++a.extract i a.size++b.extract j b.size).toList=r.toList++a.toList.drop i:=by rw [Array.toList_append,Array.toList_append,QcG,QcG,e,List.append_nil]
  have pm:=m.pm
  rw [e,List.append_nil] at pm
  exact ⟨by rw [e2];exact m.ha,by rw [e2];exact pm⟩
theorem MI.dnA (m:MI c a b r i j) (hi:i=a.size):Out c a b (r++a.extract i a.size++b.extract j b.size):=by
  have e:a.toList.drop i=[]:=List.drop_of_length_le (by rw [Array.length_toList];omega)
  have e2:(r++a.extract i a.size++b.extract j b.size).toList=r.toList++b.toList.drop j:=by rw [Array.toList_append,Array.toList_append,QcG,QcG,e,List.append_nil]
  have pm:=m.pm
  rw [e,List.nil_append] at pm
  exact ⟨by rw [e2];exact m.hb,by rw [e2];exact pm⟩
theorem MI.last (m:MI c a b r i j) (hi:i+1=a.size) (p2:∀ k,k<b.size->le c (kx b k) (kx a (a.size - 1))):Out c a b (r++b.extract j b.size++a.extract i a.size):=by
  have e2:(r++b.extract j b.size++a.extract i a.size).toList=(r.toList++b.toList.drop j)++a.toList.drop i:=by rw [Array.toList_append,Array.toList_append,QcG,QcG]
  have g:=List.pairwise_append.mp m.ha
  refine ⟨by
    rw [e2]
    refine List.pairwise_append.mpr ⟨m.hb,g.2.1,fun u hu v hv=>?_⟩
    rcases List.mem_append.mp hu with z | z
    · exact g.2.2 u z v hv
    · obtain ⟨n,n1,n2,rfl⟩:=QbH hv
      obtain ⟨n',n3,n4,rfl⟩:=QbH z
      rw [show n=a.size - 1 by omega]
      exact p2 n' n4,?_⟩
  rw [e2,List.append_assoc]
  exact List.Perm.trans (List.Perm.append_left _ List.perm_append_comm) m.pm
end
structure Sm (st st':SortSt):Prop where
  kind:kindOf st'=kindOf st
  arr:arrOf st'=arrOf st
  pend:pendingOf st'=pendingOf st
  failed:failedOf st'=failedOf st
theorem Sm.refl (st:SortSt):Sm st st:=⟨rfl,rfl,rfl,rfl⟩
section
variable {prog:Program} {w:World} {A:Around} {E:Value->Shared->Prop} {s:Shared} {a₀:Array Keyed} {κ:SortKind} {c:Keyed->Keyed->Bool}
theorem Qdw {st st0:SortSt} {g:Nat} {Q:Unit->SortSt->Prop} (m:Sm st0 st) (h:∀ st',Sm st0 st'->Q () st'):wpS (model prog w) A E s (QaX g) Q st:=by
  rw [QcR]
  exact wpS_modify (h _ ⟨m.kind,m.arr,m.pend,m.failed⟩)
theorem Qam {x y:Nat} (h:x≠y):¬ ((x == y)=true):=fun z=>h (beq_iff_eq.mp z)
theorem Qfa {st:SortSt} {a b:Array Keyed} {Q:Array Keyed->SortSt->Prop} (hA:Asks prog w A s κ a₀ c) (hk:kindOf st=κ) (ma:∀ p∈a.toList,p∈a₀.toList) (mb:∀ p∈b.toList,p∈a₀.toList) (na:1<=a.size) (nb:1<=b.size)
    (sa:Sg c a 0 a.size) (sb:Sg c b 0 b.size) (p1:∀ k,k<a.size->le c (kx b 0) (kx a k)) (p2:∀ k,k<b.size->le c (kx b k) (kx a (a.size - 1))) (h:∀ z st',Sm st st'->Out c a b z->Q z st'):wpS (model prog w) A E s (Qec a b) Q st:=by
  have pwl:∀ {xs:Array Keyed},Sg c xs 0 xs.size->Pw c xs.toList:=fun {xs} sg=>List.pairwise_iff_getElem.mpr fun x y hx hy hxy=>by
    rw [Array.length_toList] at hx hy
    have e1:=Qbu hx
    have e2:=Qbu hy
    rw [List.getElem?_eq_getElem (by rw [Array.length_toList];exact hx)] at e1
    rw [List.getElem?_eq_getElem (by rw [Array.length_toList];exact hy)] at e2
    rw [Option.some.inj e1,Option.some.inj e2]
    exact sg x y (Nat.zero_le _) (by omega) hy
  rw [Qfr]
  dsimp only
  refine wpS_bind (wpS_lift (wpAny_rule ⟨rfl,?_⟩))
  refine wpS_bind (Qae (by omega) ?_)
  have m0:MI c a b #[] 0 0:=⟨by rw [List.drop_zero];exact pwl sa,by rw [List.drop_zero];exact pwl sb,by rw [List.drop_zero,List.drop_zero];exact List.Perm.refl _⟩
  have m1:MI c a b #[kx b 0] 0 1:=MI.puB m0 (by omega) fun n _ hn=>p1 n hn
  by_cases z1:1=b.size
  · rw [if_pos (beq_iff_eq.mpr z1)]
    exact wpS_pure (h _ _ (Sm.refl st) (m1.dnB z1))
  · rw [if_neg (Qam z1)]
    by_cases z2:0+1=a.size
    · rw [if_pos (beq_iff_eq.mpr z2)]
      exact wpS_pure (h _ _ (Sm.refl st) (m1.last z2 p2))
    · rw [if_neg (Qam z2)]
      refine wpS_bind (wpS_get ?_)
      refine wpS_bind (wpS_mono (wpS_forRange (I:=fun x z st'=>∃ r i j mg,z=(none,r,i,j,mg)/\MI c a b r i j/\i+1<a.size/\j<b.size/\x+1<=i+j/\Sm st st')
        (Q:=fun z st'=>∃ o y,z=(some o,y)/\Out c a b o/\Sm st st') ?step ?fin ⟨_,0,1,_,rfl,m1,by omega,by omega,by omega,Sm.refl st⟩) ?post)
      case post=>
        rintro z st' ⟨o,y,rfl,ho,sm⟩
        exact wpS_pure (h o st' sm ho)
      case fin=>
        rintro z st' ⟨r,i,j,mg,rfl,m,i1,j1,x1,sm⟩
        exfalso
        omega
      case step=>
        rintro x z st' _ hx ⟨r,i,j,mg,rfl,m,i1,j1,x1,sm⟩
        dsimp only
        refine wpS_bind (wpS_mono (wpS_forRange (I:=fun y z st2=>∃ r i j p q,z=(none,r,i,j,p,q)/\MI c a b r i j/\i+1<a.size/\j<b.size/\x+1+y<=i+j/\Sm st st2)
          (Q:=fun z st2=>(∃ o y,z=(some o,y)/\Out c a b o/\Sm st st2)∨∃ r i j p q,z=(none,r,i,j,p,q)/\MI c a b r i j/\i+1<a.size/\j<b.size/\x+2<=i+j/\Sm st st2) ?step1 ?fin1 ⟨r,i,j,0,0,rfl,m,i1,j1,by omega,sm⟩) ?post1)
        case fin1=>
          rintro z st2 ⟨r,i,j,p,q,rfl,m,i1,j1,x1,sm⟩
          exact .inr ⟨r,i,j,p,q,rfl,m,i1,j1,by omega,sm⟩
        case step1=>
          rintro y z st2 _ hy ⟨r,i,j,p,q,rfl,m,i1,j1,x1,sm⟩
          dsimp only
          refine wpS_bind (Qae j1 ?_)
          refine wpS_bind (Qae (by omega) ?_)
          refine wpS_bind (Qev hA (sm.kind.trans hk) (mb _ (memL j1)) (ma _ (memL (by omega))) ?_)
          cases e:c (kx b j) (kx a i) with
          | true=>
            dsimp only
            rw [if_pos rfl]
            refine wpS_bind (Qae j1 ?_)
            have m2:=MI.puB m j1 fun n n1 n2=>hA.ord.tr (hA.ord.lt_le e) (sa i n (Nat.zero_le _) n1 n2)
            by_cases z3:j+1=b.size
            · rw [if_pos (beq_iff_eq.mpr z3)]
              exact wpS_pure (.inl ⟨_,_,rfl,m2.dnB z3,sm⟩)
            · rw [if_neg (Qam z3)]
              split
              · exact wpS_pure (.inr ⟨_,_,_,_,_,rfl,m2,by omega,by omega,by omega,sm⟩)
              · exact wpS_pure ⟨_,_,_,_,_,rfl,m2,by omega,by omega,by omega,sm⟩
          | false=>
            dsimp only
            rw [if_neg (by decide)]
            refine wpS_bind (Qae (by omega) ?_)
            have m2:=MI.puA m (by omega) fun n n1 n2=>hA.ord.tr e (sb j n (Nat.zero_le _) n1 n2)
            by_cases z3:i+1+1=a.size
            · rw [if_pos (beq_iff_eq.mpr z3)]
              exact wpS_pure (.inl ⟨_,_,rfl,m2.last z3 p2,sm⟩)
            · rw [if_neg (Qam z3)]
              split
              · exact wpS_pure (.inr ⟨_,_,_,_,_,rfl,m2,by omega,by omega,by omega,sm⟩)
              · exact wpS_pure ⟨_,_,_,_,_,rfl,m2,by omega,by omega,by omega,sm⟩
        case post1=>
          rintro z st2 (⟨o,y,rfl,ho,sm⟩ | ⟨r,i,j,p,q,rfl,m,i1,j1,x1,sm⟩)
          · exact wpS_pure ⟨o,_,rfl,ho,sm⟩
          · dsimp only
            refine wpS_bind (wpS_lift (wpAny_rule ⟨rfl,?_⟩))
            refine wpS_bind (wpS_mono (wpS_forRange (I:=fun y z st3=>∃ r i j mg p q,z=(none,r,i,j,mg,p,q)/\MI c a b r i j/\i+1<a.size/\j<b.size/\x+2<=i+j/\Sm st st3)
              (Q:=fun z st3=>(∃ o y,z=(some o,y)/\Out c a b o/\Sm st st3)∨∃ r i j mg p q,z=(none,r,i,j,mg,p,q)/\MI c a b r i j/\i+1<a.size/\j<b.size/\x+2<=i+j/\Sm st st3) ?step2 ?fin2 ⟨r,i,j,_,p,q,rfl,m,i1,j1,by omega,sm⟩) ?post2)
            case fin2=>
              rintro z st3 ⟨r,i,j,mg,p,q,rfl,m,i1,j1,x1,sm⟩
              exact .inr ⟨r,i,j,mg,p,q,rfl,m,i1,j1,by omega,sm⟩
            case post2=>
              rintro z st3 (⟨o,y,rfl,ho,sm⟩ | ⟨r,i,j,mg,p,q,rfl,m,i1,j1,x1,sm⟩)
              · exact wpS_pure ⟨o,_,rfl,ho,sm⟩
              · dsimp only
                exact wpS_bind (Qdw sm fun st4 sm4=>wpS_pure ⟨_,_,_,_,rfl,m,i1,j1,by omega,sm4⟩)
            case step2=>
              rintro y z st3 _ hy ⟨r,i,j,mg,p,q,rfl,m,i1,j1,x1,sm⟩
              dsimp only
              by_cases z0:mg > 1
              · rw [if_pos z0]
                refine wpS_bind (Qdw sm fun st4 sm4=>?_)
                refine wpS_bind (Qae (by omega) ?_)
                refine wpS_bind (QaA hA (sm4.kind.trans hk) (mb _ (memL (by omega))) ma (by omega) (by omega) (fun x y x1 xy y1=>sa x y (Nat.zero_le _) xy (by omega)) fun k kn b1 b2=>?_)
                have b1:∀ t,t<k->(!c (kx b j) (kx a (i+t)))=true:=fun t ht=>b1 t ht
                have b2:∀ t,k<=t->t<a.size - i->(!c (kx b j) (kx a (i+t)))=false:=fun t h1 h2=>b2 t h1 h2
                dsimp only
                have hB1:∀ n,i+k<=n->n<a.size->le c (kx b j) (kx a n):=fun n n1 n2=>by
                  have:=b2 (n - i) (by omega) (by omega)
                  rw [show i+(n - i)=n by omega] at this
                  exact hA.ord.lt_le (by simpa using this)
                by_cases zk:k > 0
                · rw [if_pos zk]
                  have m2:=MI.chA (k:=k) m fun t t1 t2 n n1 n2=>by
                    have:=b1 t t1
                    exact hA.ord.tr (show le c (kx a (i+t)) (kx b j) by simpa using this) (sb j n (Nat.zero_le _) n1 n2)
                  by_cases z2:i+k+1=a.size
                  · rw [if_pos (beq_iff_eq.mpr z2)]
                    exact wpS_pure (.inl ⟨_,_,rfl,m2.last z2 p2,sm4⟩)
                  · rw [if_neg (Qam z2)]
                    by_cases z3:i+k=a.size
                    · rw [if_pos (beq_iff_eq.mpr z3)]
                      exact wpS_pure (.inl ⟨_,_,rfl,m2.dnA z3,sm4⟩)
                    · rw [if_neg (Qam z3)]
                      refine wpS_bind (Qae (by omega) ?_)
                      have m5:=MI.puB m2 (by omega) hB1
                      by_cases z5:j+1=b.size
                      · rw [if_pos (beq_iff_eq.mpr z5)]
                        exact wpS_pure (.inl ⟨_,_,rfl,m5.dnB z5,sm4⟩)
                      · rw [if_neg (Qam z5)]
                        refine wpS_bind (Qae (by omega) ?_)
                        refine wpS_bind (QaA hA (sm4.kind.trans hk) (ma _ (memL (by omega))) mb (by omega) (by omega) (fun x y x1 xy y1=>sb x y (Nat.zero_le _) xy (by omega)) fun k2 k2n b1 b2=>?_)
                        have b1:∀ t,t<k2->c (kx b (j+1+t)) (kx a (i+k))=true:=fun t ht=>b1 t ht
                        have b2:∀ t,k2<=t->t<b.size - (j+1)->c (kx b (j+1+t)) (kx a (i+k))=false:=fun t h1 h2=>b2 t h1 h2
                        dsimp only
                        have gA:∀ n,j+1+k2<=n->n<b.size->le c (kx a (i+k)) (kx b n):=fun n n1 n2=>by have:=b2 (n - (j+1)) (by omega) (by omega);rwa [show j+1+(n - (j+1))=n by omega] at this
                        by_cases zk2:k2 > 0
                        · rw [if_pos zk2]
                          have m6:=MI.chB (k:=k2) m5 fun t t1 t2 n n1 n2=>hA.ord.tr (hA.ord.lt_le (b1 t t1)) (sa (i+k) n (Nat.zero_le _) n1 n2)
                          by_cases z6:j+1+k2=b.size
                          · rw [if_pos (beq_iff_eq.mpr z6)]
                            exact wpS_pure (.inl ⟨_,_,rfl,m6.dnB z6,sm4⟩)
                          · rw [if_neg (Qam z6)]
                            refine wpS_bind (Qae (by omega) ?_)
                            have m9:=MI.puA m6 (by omega) gA
                            by_cases z9:i+k+1+1=a.size
                            · rw [if_pos (beq_iff_eq.mpr z9)]
                              exact wpS_pure (.inl ⟨_,_,rfl,m9.last z9 p2,sm4⟩)
                            · rw [if_neg (Qam z9)]
                              split
                              · exact wpS_pure (.inr ⟨_,_,_,_,_,_,rfl,m9,by omega,by omega,by omega,sm4⟩)
                              · exact wpS_pure ⟨_,_,_,_,_,_,rfl,m9,by omega,by omega,by omega,sm4⟩
                        · rw [if_neg zk2]
                          have zk2:k2=0:=by omega
                          subst zk2
                          refine wpS_bind (Qae (by omega) ?_)
                          have m9:=MI.puA m5 (by omega) gA
                          by_cases z9:i+k+1+1=a.size
                          · rw [if_pos (beq_iff_eq.mpr z9)]
                            exact wpS_pure (.inl ⟨_,_,rfl,m9.last z9 p2,sm4⟩)
                          · rw [if_neg (Qam z9)]
                            split
                            · exact wpS_pure (.inr ⟨_,_,_,_,_,_,rfl,m9,by omega,by omega,by omega,sm4⟩)
                            · exact wpS_pure ⟨_,_,_,_,_,_,rfl,m9,by omega,by omega,by omega,sm4⟩
                · rw [if_neg zk]
                  have zk:k=0:=by omega
                  subst zk
                  refine wpS_bind (Qae (by omega) ?_)
                  have m5:=MI.puB m (by omega) hB1
                  by_cases z5:j+1=b.size
                  · rw [if_pos (beq_iff_eq.mpr z5)]
                    exact wpS_pure (.inl ⟨_,_,rfl,m5.dnB z5,sm4⟩)
                  · rw [if_neg (Qam z5)]
                    refine wpS_bind (Qae (by omega) ?_)
                    refine wpS_bind (QaA hA (sm4.kind.trans hk) (ma _ (memL (by omega))) mb (by omega) (by omega) (fun x y x1 xy y1=>sb x y (Nat.zero_le _) xy (by omega)) fun k2 k2n b1 b2=>?_)
                    have b1:∀ t,t<k2->c (kx b (j+1+t)) (kx a (i))=true:=fun t ht=>b1 t ht
                    have b2:∀ t,k2<=t->t<b.size - (j+1)->c (kx b (j+1+t)) (kx a (i))=false:=fun t h1 h2=>b2 t h1 h2
                    dsimp only
                    have gA:∀ n,j+1+k2<=n->n<b.size->le c (kx a (i)) (kx b n):=fun n n1 n2=>by have:=b2 (n - (j+1)) (by omega) (by omega);rwa [show j+1+(n - (j+1))=n by omega] at this
                    by_cases zk2:k2 > 0
                    · rw [if_pos zk2]
                      have m6:=MI.chB (k:=k2) m5 fun t t1 t2 n n1 n2=>hA.ord.tr (hA.ord.lt_le (b1 t t1)) (sa (i) n (Nat.zero_le _) n1 n2)
                      by_cases z6:j+1+k2=b.size
                      · rw [if_pos (beq_iff_eq.mpr z6)]
                        exact wpS_pure (.inl ⟨_,_,rfl,m6.dnB z6,sm4⟩)
                      · rw [if_neg (Qam z6)]
                        refine wpS_bind (Qae (by omega) ?_)
                        have m9:=MI.puA m6 (by omega) gA
                        by_cases z9:i+1+1=a.size
                        · rw [if_pos (beq_iff_eq.mpr z9)]
                          exact wpS_pure (.inl ⟨_,_,rfl,m9.last z9 p2,sm4⟩)
                        · rw [if_neg (Qam z9)]
                          split
                          · exact wpS_pure (.inr ⟨_,_,_,_,_,_,rfl,m9,by omega,by omega,by omega,sm4⟩)
                          · exact wpS_pure ⟨_,_,_,_,_,_,rfl,m9,by omega,by omega,by omega,sm4⟩
                    · rw [if_neg zk2]
                      have zk2:k2=0:=by omega
                      subst zk2
                      refine wpS_bind (Qae (by omega) ?_)
                      have m9:=MI.puA m5 (by omega) gA
                      by_cases z9:i+1+1=a.size
                      · rw [if_pos (beq_iff_eq.mpr z9)]
                        exact wpS_pure (.inl ⟨_,_,rfl,m9.last z9 p2,sm4⟩)
                      · rw [if_neg (Qam z9)]
                        split
                        · exact wpS_pure (.inr ⟨_,_,_,_,_,_,rfl,m9,by omega,by omega,by omega,sm4⟩)
                        · exact wpS_pure ⟨_,_,_,_,_,_,rfl,m9,by omega,by omega,by omega,sm4⟩
              · rw [if_neg z0]
                refine wpS_bind (Qdw sm fun st4 sm4=>?_)
                refine wpS_bind (Qae (by omega) ?_)
                refine wpS_bind (QaA hA (sm4.kind.trans hk) (mb _ (memL (by omega))) ma (by omega) (by omega) (fun x y x1 xy y1=>sa x y (Nat.zero_le _) xy (by omega)) fun k kn b1 b2=>?_)
                have b1:∀ t,t<k->(!c (kx b j) (kx a (i+t)))=true:=fun t ht=>b1 t ht
                have b2:∀ t,k<=t->t<a.size - i->(!c (kx b j) (kx a (i+t)))=false:=fun t h1 h2=>b2 t h1 h2
                dsimp only
                have hB1:∀ n,i+k<=n->n<a.size->le c (kx b j) (kx a n):=fun n n1 n2=>by
                  have:=b2 (n - i) (by omega) (by omega)
                  rw [show i+(n - i)=n by omega] at this
                  exact hA.ord.lt_le (by simpa using this)
                by_cases zk:k > 0
                · rw [if_pos zk]
                  have m2:=MI.chA (k:=k) m fun t t1 t2 n n1 n2=>by
                    have:=b1 t t1
                    exact hA.ord.tr (show le c (kx a (i+t)) (kx b j) by simpa using this) (sb j n (Nat.zero_le _) n1 n2)
                  by_cases z2:i+k+1=a.size
                  · rw [if_pos (beq_iff_eq.mpr z2)]
                    exact wpS_pure (.inl ⟨_,_,rfl,m2.last z2 p2,sm4⟩)
                  · rw [if_neg (Qam z2)]
                    by_cases z3:i+k=a.size
                    · rw [if_pos (beq_iff_eq.mpr z3)]
                      exact wpS_pure (.inl ⟨_,_,rfl,m2.dnA z3,sm4⟩)
                    · rw [if_neg (Qam z3)]
                      refine wpS_bind (Qae (by omega) ?_)
                      have m5:=MI.puB m2 (by omega) hB1
                      by_cases z5:j+1=b.size
                      · rw [if_pos (beq_iff_eq.mpr z5)]
                        exact wpS_pure (.inl ⟨_,_,rfl,m5.dnB z5,sm4⟩)
                      · rw [if_neg (Qam z5)]
                        refine wpS_bind (Qae (by omega) ?_)
                        refine wpS_bind (QaA hA (sm4.kind.trans hk) (ma _ (memL (by omega))) mb (by omega) (by omega) (fun x y x1 xy y1=>sb x y (Nat.zero_le _) xy (by omega)) fun k2 k2n b1 b2=>?_)
                        have b1:∀ t,t<k2->c (kx b (j+1+t)) (kx a (i+k))=true:=fun t ht=>b1 t ht
                        have b2:∀ t,k2<=t->t<b.size - (j+1)->c (kx b (j+1+t)) (kx a (i+k))=false:=fun t h1 h2=>b2 t h1 h2
                        dsimp only
                        have gA:∀ n,j+1+k2<=n->n<b.size->le c (kx a (i+k)) (kx b n):=fun n n1 n2=>by have:=b2 (n - (j+1)) (by omega) (by omega);rwa [show j+1+(n - (j+1))=n by omega] at this
                        by_cases zk2:k2 > 0
                        · rw [if_pos zk2]
                          have m6:=MI.chB (k:=k2) m5 fun t t1 t2 n n1 n2=>hA.ord.tr (hA.ord.lt_le (b1 t t1)) (sa (i+k) n (Nat.zero_le _) n1 n2)
                          by_cases z6:j+1+k2=b.size
                          · rw [if_pos (beq_iff_eq.mpr z6)]
                            exact wpS_pure (.inl ⟨_,_,rfl,m6.dnB z6,sm4⟩)
                          · rw [if_neg (Qam z6)]
                            refine wpS_bind (Qae (by omega) ?_)
                            have m9:=MI.puA m6 (by omega) gA
                            by_cases z9:i+k+1+1=a.size
                            · rw [if_pos (beq_iff_eq.mpr z9)]
                              exact wpS_pure (.inl ⟨_,_,rfl,m9.last z9 p2,sm4⟩)
                            · rw [if_neg (Qam z9)]
                              split
                              · exact wpS_pure (.inr ⟨_,_,_,_,_,_,rfl,m9,by omega,by omega,by omega,sm4⟩)
                              · exact wpS_pure ⟨_,_,_,_,_,_,rfl,m9,by omega,by omega,by omega,sm4⟩
                        · rw [if_neg zk2]
                          have zk2:k2=0:=by omega
                          subst zk2
                          refine wpS_bind (Qae (by omega) ?_)
                          have m9:=MI.puA m5 (by omega) gA
                          by_cases z9:i+k+1+1=a.size
                          · rw [if_pos (beq_iff_eq.mpr z9)]
                            exact wpS_pure (.inl ⟨_,_,rfl,m9.last z9 p2,sm4⟩)
                          · rw [if_neg (Qam z9)]
                            split
                            · exact wpS_pure (.inr ⟨_,_,_,_,_,_,rfl,m9,by omega,by omega,by omega,sm4⟩)
                            · exact wpS_pure ⟨_,_,_,_,_,_,rfl,m9,by omega,by omega,by omega,sm4⟩
                · rw [if_neg zk]
                  have zk:k=0:=by omega
                  subst zk
                  refine wpS_bind (Qae (by omega) ?_)
                  have m5:=MI.puB m (by omega) hB1
                  by_cases z5:j+1=b.size
                  · rw [if_pos (beq_iff_eq.mpr z5)]
                    exact wpS_pure (.inl ⟨_,_,rfl,m5.dnB z5,sm4⟩)
                  · rw [if_neg (Qam z5)]
                    refine wpS_bind (Qae (by omega) ?_)
                    refine wpS_bind (QaA hA (sm4.kind.trans hk) (ma _ (memL (by omega))) mb (by omega) (by omega) (fun x y x1 xy y1=>sb x y (Nat.zero_le _) xy (by omega)) fun k2 k2n b1 b2=>?_)
                    have b1:∀ t,t<k2->c (kx b (j+1+t)) (kx a (i))=true:=fun t ht=>b1 t ht
                    have b2:∀ t,k2<=t->t<b.size - (j+1)->c (kx b (j+1+t)) (kx a (i))=false:=fun t h1 h2=>b2 t h1 h2
                    dsimp only
                    have gA:∀ n,j+1+k2<=n->n<b.size->le c (kx a (i)) (kx b n):=fun n n1 n2=>by have:=b2 (n - (j+1)) (by omega) (by omega);rwa [show j+1+(n - (j+1))=n by omega] at this
                    by_cases zk2:k2 > 0
                    · rw [if_pos zk2]
                      have m6:=MI.chB (k:=k2) m5 fun t t1 t2 n n1 n2=>hA.ord.tr (hA.ord.lt_le (b1 t t1)) (sa (i) n (Nat.zero_le _) n1 n2)
                      by_cases z6:j+1+k2=b.size
                      · rw [if_pos (beq_iff_eq.mpr z6)]
                        exact wpS_pure (.inl ⟨_,_,rfl,m6.dnB z6,sm4⟩)
                      · rw [if_neg (Qam z6)]
                        refine wpS_bind (Qae (by omega) ?_)
                        have m9:=MI.puA m6 (by omega) gA
                        by_cases z9:i+1+1=a.size
                        · rw [if_pos (beq_iff_eq.mpr z9)]
                          exact wpS_pure (.inl ⟨_,_,rfl,m9.last z9 p2,sm4⟩)
                        · rw [if_neg (Qam z9)]
                          split
                          · exact wpS_pure (.inr ⟨_,_,_,_,_,_,rfl,m9,by omega,by omega,by omega,sm4⟩)
                          · exact wpS_pure ⟨_,_,_,_,_,_,rfl,m9,by omega,by omega,by omega,sm4⟩
                    · rw [if_neg zk2]
                      have zk2:k2=0:=by omega
                      subst zk2
                      refine wpS_bind (Qae (by omega) ?_)
                      have m9:=MI.puA m5 (by omega) gA
                      by_cases z9:i+1+1=a.size
                      · rw [if_pos (beq_iff_eq.mpr z9)]
                        exact wpS_pure (.inl ⟨_,_,rfl,m9.last z9 p2,sm4⟩)
                      · rw [if_neg (Qam z9)]
                        split
                        · exact wpS_pure (.inr ⟨_,_,_,_,_,_,rfl,m9,by omega,by omega,by omega,sm4⟩)
                        · exact wpS_pure ⟨_,_,_,_,_,_,rfl,m9,by omega,by omega,by omega,sm4⟩
end
theorem Qfs (a b:Array Keyed):Qed a b=(do
  rule "list.sort.merge-hi"
  let tot:=a.size+b.size
  let dn (r:Array Keyed) (i j:Nat):=a.extract 0 i++b.extract 0 j++r.reverse
  let fb (r:Array Keyed) (i j:Nat):=b.extract 0 j++a.extract 0 i++r.reverse
  let mut i:=a.size - 1
  let mut j:=b.size
  let mut r:Array Keyed:=#[<- elem' a i]
  if i == 0 then return dn r i j
  if j == 1 then return fb r i j
  let mut mg:=gallopOf (<- get)
  for _ in [0:tot] do
    let mut p:=0
    let mut q:=0
    for _ in [0:tot] do
      let some t <- lt' (<- elem' b (j - 1)) (<- elem' a (i - 1)) | return dn r i j
      if t then
        i:=i - 1;r:=r.push (<- elem' a i);p:=p+1;q:=0
        if i == 0 then return dn r i j
        if p≥mg then break
      else
        j:=j - 1;r:=r.push (<- elem' b j);q:=q+1;p:=0
        if j == 1 then return fb r i j
        if q≥mg then break
    rule "list.sort.gallop"
    mg:=mg+1
    for _ in [0:tot] do
      if mg > 1 then mg:=mg - 1
      QaX mg
      let some t <- QbZ false (<- elem' b (j - 1)) a 0 i (i - 1) | return dn r i j
      let k:=i - t
      p:=k
      if k > 0 then
        r:=r++(a.extract t i).reverse;i:=t
        if i == 0 then return dn r i j
      j:=j - 1;r:=r.push (<- elem' b j)
      if j == 1 then return fb r i j
      let some t <- QbZ true (<- elem' a (i - 1)) b 0 j (j - 1) | return dn r i j
      let k:=j - t
      q:=k
      if k > 0 then
        r:=r++(b.extract t j).reverse;j:=t
        if j == 1 then return fb r i j
        if j == 0 then return dn r i j
      i:=i - 1;r:=r.push (<- elem' a i)
      if i == 0 then return dn r i j
      if p<7&&q<7 then break
    mg:=mg+1
    QaX mg
  unsupported "internal:list.sort.merge-bound"):=rfl
section
variable {c:Keyed->Keyed->Bool}
theorem Qkv {r ch x y:List Keyed} (h1:Pw c ((x++ch)++r)) (h2:Pw c (y++r)) (h:∀ u∈y,∀ v∈ch,le c u v):Pw c (x++(ch++r))/\Pw c (y++(ch++r)):=by
  have h1':Pw c (x++(ch++r)):=by rw [<- List.append_assoc];exact h1
  refine ⟨h1',?_⟩
  have g:=List.pairwise_append.mp h1'
  have g2:=List.pairwise_append.mp h2
  refine List.pairwise_append.mpr ⟨g2.1,g.2.1,fun u hu v hv=>?_⟩
  rcases List.mem_append.mp hv with z | z
  · exact h u hu v z
  · exact g2.2.2 u hu v z
theorem Qgb (xs:Array Keyed) (i:Nat):(xs.extract 0 i).toList=xs.toList.take i:=by
  rw [Array.toList_extract,List.extract_eq_take_drop,Nat.sub_zero,List.drop_zero]
theorem Qbv (xs:Array Keyed) (t i:Nat):(xs.extract t i).toList=(xs.toList.take i).drop t:=by
  rw [Array.toList_extract,List.extract_eq_take_drop,List.take_drop]
  by_cases z:t<=i
  · rw [show t+(i - t)=i by omega]
  · rw [show i - t=0 by omega,Nat.add_zero,List.drop_of_length_le (by rw [List.length_take];omega),List.drop_of_length_le (by rw [List.length_take];omega)]
theorem Qa6 {xs:Array Keyed} {t i:Nat} {p:Keyed} (h:p∈(xs.toList.take i).drop t):∃ n,t<=n/\n<i/\n<xs.size/\p=kx xs n:=by
  obtain ⟨n,hn⟩:=List.mem_iff_getElem?.mp h
  rw [List.getElem?_drop,List.getElem?_take] at hn
  split at hn
  · rename_i z
    have hl:=(List.getElem?_eq_some_iff.mp hn).1
    rw [Array.length_toList] at hl
    rw [Qbu hl] at hn
    exact ⟨t+n,by omega,z,hl,(Option.some.inj hn).symm⟩
  · cases hn
structure MH (c:Keyed->Keyed->Bool) (a b r:Array Keyed) (i j:Nat):Prop where
  ha:Pw c (a.toList.take i++r.toList.reverse)
  hb:Pw c (b.toList.take j++r.toList.reverse)
  pm:((a.toList.take i++b.toList.take j)++r.toList.reverse).Perm (a.toList++b.toList)
variable {a b r:Array Keyed} {i j t:Nat}
theorem Qcx (r x:Array Keyed):(r++x.reverse).toList.reverse=x.toList++r.toList.reverse:=by
  rw [Array.toList_append,Array.toList_reverse,List.reverse_append,List.reverse_reverse]
theorem MH.chA (m:MH c a b r i j) (ht:t<=i) (h:∀ n,t<=n->n<i->n<a.size->∀ k,k<j->k<b.size->le c (kx b k) (kx a n)):MH c a b (r++(a.extract t i).reverse) t j:=by
  have e:a.toList.take i=a.toList.take t++(a.toList.take i).drop t:=by
    have:=(List.take_append_drop t (a.toList.take i)).symm
    rwa [List.take_take,Nat.min_eq_left ht] at this
  have h1:=m.ha
  have pm:=m.pm
  rw [e] at h1 pm
  obtain ⟨g1,g2⟩:=Qkv h1 m.hb fun u hu v hv=>by
    obtain ⟨n,n1,n2,n3,rfl⟩:=Qa6 hv
    obtain ⟨k,_,k2,k3,rfl⟩:=Qa6 (t:=0) (by rw [List.drop_zero];exact hu)
    exact h n n1 n2 n3 k k2 k3
  refine ⟨by rw [Qcx,Qbv];exact g1,by rw [Qcx,Qbv];exact g2,?_⟩
  rw [Qcx,Qbv]
  refine List.Perm.trans ?_ pm
  rw [<- List.append_assoc]
  refine List.Perm.append_right _ ?_
  rw [List.append_assoc,List.append_assoc]
  exact List.Perm.append_left _ List.perm_append_comm
theorem MH.chB (m:MH c a b r i j) (ht:t<=j) (h:∀ n,t<=n->n<j->n<b.size->∀ k,k<i->k<a.size->le c (kx a k) (kx b n)):MH c a b (r++(b.extract t j).reverse) i t:=by
  have e:b.toList.take j=b.toList.take t++(b.toList.take j).drop t:=by
    have:=(List.take_append_drop t (b.toList.take j)).symm
    rwa [List.take_take,Nat.min_eq_left ht] at this
  have h1:=m.hb
  have pm:=m.pm
  rw [e] at h1 pm
  obtain ⟨g1,g2⟩:=Qkv h1 m.ha fun u hu v hv=>by
    obtain ⟨n,n1,n2,n3,rfl⟩:=Qa6 hv
    obtain ⟨k,_,k2,k3,rfl⟩:=Qa6 (t:=0) (by rw [List.drop_zero];exact hu)
    exact h n n1 n2 n3 k k2 k3
  refine ⟨by rw [Qcx,Qbv];exact g2,by rw [Qcx,Qbv];exact g1,?_⟩
  rw [Qcx,Qbv]
  refine List.Perm.trans ?_ pm
  rw [<- List.append_assoc,List.append_assoc (a.toList.take i)]
theorem QfX {xs:Array Keyed} {i:Nat} (h1:1<=i) (h:i<=xs.size):r.push (kx xs (i - 1))=r++(xs.extract (i - 1) i).reverse:=by
  apply Array.toList_inj.mp
  have e:=QcW xs (i - 1) 1
  rw [show i - 1+1=i by omega] at e
  rw [Array.toList_push,Array.toList_append,Array.toList_reverse,e,Qik (by omega)]
  rfl
theorem MH.puA (m:MH c a b r i j) (h1:1<=i) (hi:i<=a.size) (h:∀ k,k<j->k<b.size->le c (kx b k) (kx a (i - 1))):MH c a b (r.push (kx a (i - 1))) (i - 1) j:=by
  rw [QfX h1 hi]
  refine m.chA (by omega) fun n n1 n2 _=>?_
  rw [show n=i - 1 by omega]
  exact h
theorem MH.puB (m:MH c a b r i j) (h1:1<=j) (hj:j<=b.size) (h:∀ k,k<i->k<a.size->le c (kx a k) (kx b (j - 1))):MH c a b (r.push (kx b (j - 1))) i (j - 1):=by
  rw [QfX h1 hj]
  refine m.chB (by omega) fun n n1 n2 _=>?_
  rw [show n=j - 1 by omega]
  exact h
theorem Qb7 (x y r:Array Keyed) (i j:Nat):(x.extract 0 i++y.extract 0 j++r.reverse).toList=(x.toList.take i++y.toList.take j)++r.toList.reverse:=by
  rw [Array.toList_append,Array.toList_append,Qgb,Qgb,Array.toList_reverse]
theorem MH.dnA (m:MH c a b r i j) (hi:i=0):Out c a b (a.extract 0 i++b.extract 0 j++r.reverse):=by
  have pm:=m.pm
  subst hi
  refine ⟨?_,by rw [Qb7];exact pm⟩
  rw [Qb7,List.take_zero,List.nil_append]
  exact m.hb
theorem MH.dnB (m:MH c a b r i j) (hj:j=0):Out c a b (a.extract 0 i++b.extract 0 j++r.reverse):=by
  have pm:=m.pm
  subst hj
  refine ⟨?_,by rw [Qb7];exact pm⟩
  rw [Qb7,List.take_zero,List.append_nil]
  exact m.ha
theorem MH.fb (m:MH c a b r i j) (hj:j=1) (p1:∀ k,k<a.size->le c (kx b 0) (kx a k)):Out c a b (b.extract 0 j++a.extract 0 i++r.reverse):=by
  refine ⟨?_,?_⟩
  · rw [Qb7]
    have g:=List.pairwise_append.mp m.hb
    rw [List.append_assoc]
    refine List.pairwise_append.mpr ⟨g.1,m.ha,fun u hu v hv=>?_⟩
    rcases List.mem_append.mp hv with z | z
    · obtain ⟨k,_,k2,k3,rfl⟩:=Qa6 (t:=0) (by rw [List.drop_zero];exact hu)
      obtain ⟨n,_,n2,n3,rfl⟩:=Qa6 (t:=0) (by rw [List.drop_zero];exact z)
      rw [show k=0 by omega]
      exact p1 n n3
    · exact g.2.2 u hu v z
  · rw [Qb7]
    exact List.Perm.trans (List.Perm.append_right _ List.perm_append_comm) m.pm
end
section
variable {prog:Program} {w:World} {A:Around} {E:Value->Shared->Prop} {s:Shared} {a₀:Array Keyed} {κ:SortKind} {c:Keyed->Keyed->Bool}
theorem QfW {xs:Array Keyed} (sg:Sg c xs 0 xs.size):Pw c xs.toList:=List.pairwise_iff_getElem.mpr fun x y hx hy hxy=>by
  rw [Array.length_toList] at hx hy
  have e1:=Qbu hx
  have e2:=Qbu hy
  rw [List.getElem?_eq_getElem (by rw [Array.length_toList];exact hx)] at e1
  rw [List.getElem?_eq_getElem (by rw [Array.length_toList];exact hy)] at e2
  rw [Option.some.inj e1,Option.some.inj e2]
  exact sg x y (Nat.zero_le _) (by omega) hy
theorem Qfb {st:SortSt} {a b:Array Keyed} {Q:Array Keyed->SortSt->Prop} (hA:Asks prog w A s κ a₀ c) (hk:kindOf st=κ) (ma:∀ p∈a.toList,p∈a₀.toList) (mb:∀ p∈b.toList,p∈a₀.toList) (na:1<=a.size) (nb:1<=b.size)
    (sa:Sg c a 0 a.size) (sb:Sg c b 0 b.size) (p1:∀ k,k<a.size->le c (kx b 0) (kx a k)) (p2:∀ k,k<b.size->le c (kx b k) (kx a (a.size - 1))) (h:∀ z st',Sm st st'->Out c a b z->Q z st'):wpS (model prog w) A E s (Qed a b) Q st:=by
  rw [Qfs]
  dsimp only
  refine wpS_bind (wpS_lift (wpAny_rule ⟨rfl,?_⟩))
  refine wpS_bind (Qae (by omega) ?_)
  have tk:∀ xs:Array Keyed,xs.toList.take xs.size=xs.toList:=fun xs=>List.take_of_length_le (by rw [Array.length_toList];exact Nat.le_refl _)
  have m0:MH c a b #[] a.size b.size:=⟨by rw [tk];show Pw c (a.toList++[]);rw [List.append_nil];exact QfW sa,by rw [tk];show Pw c (b.toList++[]);rw [List.append_nil];exact QfW sb,by rw [tk,tk];show ((a.toList++b.toList)++[]).Perm _;rw [List.append_nil]⟩
  have m1:MH c a b #[kx a (a.size - 1)] (a.size - 1) b.size:=MH.puA m0 na (Nat.le_refl _) fun k _ hk=>p2 k hk
  by_cases z1:a.size - 1=0
  · rw [if_pos (beq_iff_eq.mpr z1)]
    exact wpS_pure (h _ _ (Sm.refl st) (m1.dnA z1))
  · rw [if_neg (Qam z1)]
    by_cases z2:b.size=1
    · rw [if_pos (beq_iff_eq.mpr z2)]
      exact wpS_pure (h _ _ (Sm.refl st) (m1.fb z2 p1))
    · rw [if_neg (Qam z2)]
      refine wpS_bind (wpS_get ?_)
      refine wpS_bind (wpS_mono (wpS_forRange (I:=fun x z st'=>∃ r i j mg,z=(none,i,j,r,mg)/\MH c a b r i j/\1<=i/\i<=a.size/\2<=j/\j<=b.size/\x+1+i+j<=a.size+b.size/\Sm st st')
        (Q:=fun z st'=>∃ o y,z=(some o,y)/\Out c a b o/\Sm st st') ?step ?fin ⟨_,_,_,_,rfl,m1,by omega,by omega,by omega,by omega,by omega,Sm.refl st⟩) ?post)
      case post=>
        rintro z st' ⟨o,y,rfl,ho,sm⟩
        exact wpS_pure (h o st' sm ho)
      case fin=>
        rintro z st' ⟨r,i,j,mg,rfl,m,i1,i2,j1,j2,x1,sm⟩
        exfalso
        omega
      case step=>
        rintro x z st' _ hx ⟨r,i,j,mg,rfl,m,i1,i2,j1,j2,x1,sm⟩
        dsimp only
        refine wpS_bind (wpS_mono (wpS_forRange (I:=fun y z st2=>∃ r i j p q,z=(none,i,j,r,p,q)/\MH c a b r i j/\1<=i/\i<=a.size/\2<=j/\j<=b.size/\x+1+y+i+j<=a.size+b.size/\Sm st st2)
          (Q:=fun z st2=>(∃ o y,z=(some o,y)/\Out c a b o/\Sm st st2)∨∃ r i j p q,z=(none,i,j,r,p,q)/\MH c a b r i j/\1<=i/\i<=a.size/\2<=j/\j<=b.size/\x+2+i+j<=a.size+b.size/\Sm st st2) ?step1 ?fin1 ⟨r,i,j,0,0,rfl,m,i1,i2,j1,j2,by omega,sm⟩) ?post1)
        case fin1=>
          rintro z st2 ⟨r,i,j,p,q,rfl,m,i1,i2,j1,j2,x1,sm⟩
          exact .inr ⟨r,i,j,p,q,rfl,m,i1,i2,j1,j2,by omega,sm⟩
        case step1=>
          rintro y z st2 _ hy ⟨r,i,j,p,q,rfl,m,i1,i2,j1,j2,x1,sm⟩
          dsimp only
          refine wpS_bind (Qae (by omega) ?_)
          refine wpS_bind (Qae (by omega) ?_)
          refine wpS_bind (Qev hA (sm.kind.trans hk) (mb _ (memL (by omega))) (ma _ (memL (by omega))) ?_)
          cases e:c (kx b (j - 1)) (kx a (i - 1)) with
          | true=>
            dsimp only
            rw [if_pos rfl]
            refine wpS_bind (Qae (by omega) ?_)
            have m2:=MH.puA m i1 i2 fun k k1 k2=>hA.ord.tr (sb k (j - 1) (Nat.zero_le _) (by omega) (by omega)) (hA.ord.lt_le e)
            by_cases z3:i - 1=0
            · rw [if_pos (beq_iff_eq.mpr z3)]
              exact wpS_pure (.inl ⟨_,_,rfl,m2.dnA z3,sm⟩)
            · rw [if_neg (Qam z3)]
              split
              · exact wpS_pure (.inr ⟨_,_,_,_,_,rfl,m2,by omega,by omega,by omega,by omega,by omega,sm⟩)
              · exact wpS_pure ⟨_,_,_,_,_,rfl,m2,by omega,by omega,by omega,by omega,by omega,sm⟩
          | false=>
            dsimp only
            rw [if_neg (by decide)]
            refine wpS_bind (Qae (by omega) ?_)
            have m2:=MH.puB m (by omega) j2 fun k k1 k2=>hA.ord.tr (sa k (i - 1) (Nat.zero_le _) (by omega) (by omega)) e
            by_cases z3:j - 1=1
            · rw [if_pos (beq_iff_eq.mpr z3)]
              exact wpS_pure (.inl ⟨_,_,rfl,m2.fb z3 p1,sm⟩)
            · rw [if_neg (Qam z3)]
              split
              · exact wpS_pure (.inr ⟨_,_,_,_,_,rfl,m2,by omega,by omega,by omega,by omega,by omega,sm⟩)
              · exact wpS_pure ⟨_,_,_,_,_,rfl,m2,by omega,by omega,by omega,by omega,by omega,sm⟩
        case post1=>
          rintro z st2 (⟨o,y,rfl,ho,sm⟩ | ⟨r,i,j,p,q,rfl,m,i1,i2,j1,j2,x1,sm⟩)
          · exact wpS_pure ⟨o,_,rfl,ho,sm⟩
          · dsimp only
            refine wpS_bind (wpS_lift (wpAny_rule ⟨rfl,?_⟩))
            refine wpS_bind (wpS_mono (wpS_forRange (I:=fun y z st3=>∃ r i j mg p q,z=(none,i,j,r,mg,p,q)/\MH c a b r i j/\1<=i/\i<=a.size/\2<=j/\j<=b.size/\x+2+i+j<=a.size+b.size/\Sm st st3)
              (Q:=fun z st3=>(∃ o y,z=(some o,y)/\Out c a b o/\Sm st st3)∨∃ r i j mg p q,z=(none,i,j,r,mg,p,q)/\MH c a b r i j/\1<=i/\i<=a.size/\2<=j/\j<=b.size/\x+2+i+j<=a.size+b.size/\Sm st st3) ?step2 ?fin2 ⟨r,i,j,_,p,q,rfl,m,i1,i2,j1,j2,by omega,sm⟩) ?post2)
            case fin2=>
              rintro z st3 ⟨r,i,j,mg,p,q,rfl,m,i1,i2,j1,j2,x1,sm⟩
              exact .inr ⟨r,i,j,mg,p,q,rfl,m,i1,i2,j1,j2,by omega,sm⟩
            case post2=>
              rintro z st3 (⟨o,y,rfl,ho,sm⟩ | ⟨r,i,j,mg,p,q,rfl,m,i1,i2,j1,j2,x1,sm⟩)
              · exact wpS_pure ⟨o,_,rfl,ho,sm⟩
              · dsimp only
                exact wpS_bind (Qdw sm fun st4 sm4=>wpS_pure ⟨_,_,_,_,rfl,m,i1,i2,j1,j2,by omega,sm4⟩)
            case step2=>
              rintro y z st3 _ hy ⟨r,i,j,mg,p,q,rfl,m,i1,i2,j1,j2,x1,sm⟩
              dsimp only
              by_cases z0:mg > 1
              · rw [if_pos z0]
                refine wpS_bind (Qdw sm fun st4 sm4=>?_)
                refine wpS_bind (Qae (by omega) ?_)
                refine wpS_bind (QaA hA (sm4.kind.trans hk) (mb _ (memL (by omega))) ma (by omega) (by omega) (fun x y x1 xy y1=>sa x y (Nat.zero_le _) xy (by omega)) fun t tn b1 b2=>?_)
                have lowA:∀ n,n<t->le c (kx a n) (kx b (j - 1)):=fun n hn=>by
                  have:(!c (kx b (j - 1)) (kx a (0+n)))=true:=b1 n hn
                  rw [Nat.zero_add] at this
                  simpa using this
                have b2:∀ n,t<=n->n<i->c (kx b (j - 1)) (kx a n)=true:=fun n h1 h2=>by
                  have:(!c (kx b (j - 1)) (kx a (0+n)))=false:=b2 n h1 h2
                  rw [Nat.zero_add] at this
                  simpa using this
                dsimp only
                by_cases zk:i - t > 0
                · rw [if_pos zk]
                  have m2:=MH.chA (t:=t) m tn fun n n1 n2 _ k k1 k2=>hA.ord.tr (sb k (j - 1) (Nat.zero_le _) (by omega) (by omega)) (hA.ord.lt_le (b2 n n1 n2))
                  by_cases z2:t=0
                  · rw [if_pos (beq_iff_eq.mpr z2)]
                    exact wpS_pure (.inl ⟨_,_,rfl,m2.dnA z2,sm4⟩)
                  · rw [if_neg (Qam z2)]
                    refine wpS_bind (Qae (by omega) ?_)
                    have m5:=MH.puB m2 (by omega) (by omega) fun k k1 k2=>lowA k k1
                    by_cases z5:j - 1=1
                    · rw [if_pos (beq_iff_eq.mpr z5)]
                      exact wpS_pure (.inl ⟨_,_,rfl,m5.fb z5 p1,sm4⟩)
                    · rw [if_neg (Qam z5)]
                      refine wpS_bind (Qae (by omega) ?_)
                      refine wpS_bind (QaA hA (sm4.kind.trans hk) (ma _ (memL (by omega))) mb (by omega) (by omega) (fun x y x1 xy y1=>sb x y (Nat.zero_le _) xy (by omega)) fun t2 t2n b1 b2=>?_)
                      have b1:∀ n,n<t2->c (kx b n) (kx a (t - 1))=true:=fun n hn=>by have:=b1 n hn;rwa [Nat.zero_add] at this
                      have b2:∀ n,t2<=n->n<j - 1->c (kx b n) (kx a (t - 1))=false:=fun n h1 h2=>by have:=b2 n h1 h2;rwa [Nat.zero_add] at this
                      dsimp only
                      by_cases zk2:j - 1 - t2 > 0
                      · rw [if_pos zk2]
                        have m6:=MH.chB (t:=t2) m5 t2n fun n n1 n2 _ k k1 k2=>hA.ord.tr (sa k (t - 1) (Nat.zero_le _) (by omega) (by omega)) (b2 n n1 n2)
                        by_cases z6:t2=1
                        · rw [if_pos (beq_iff_eq.mpr z6)]
                          exact wpS_pure (.inl ⟨_,_,rfl,m6.fb z6 p1,sm4⟩)
                        · rw [if_neg (Qam z6)]
                          by_cases z7:t2=0
                          · rw [if_pos (beq_iff_eq.mpr z7)]
                            exact wpS_pure (.inl ⟨_,_,rfl,m6.dnB z7,sm4⟩)
                          · rw [if_neg (Qam z7)]
                            refine wpS_bind (Qae (by omega) ?_)
                            have m9:=MH.puA m6 (by omega) (by omega) fun k k1 k2=>hA.ord.lt_le (b1 k k1)
                            by_cases z9:t - 1=0
                            · rw [if_pos (beq_iff_eq.mpr z9)]
                              exact wpS_pure (.inl ⟨_,_,rfl,m9.dnA z9,sm4⟩)
                            · rw [if_neg (Qam z9)]
                              split
                              · exact wpS_pure (.inr ⟨_,_,_,_,_,_,rfl,m9,by omega,by omega,by omega,by omega,by omega,sm4⟩)
                              · exact wpS_pure ⟨_,_,_,_,_,_,rfl,m9,by omega,by omega,by omega,by omega,by omega,sm4⟩
                      · rw [if_neg zk2]
                        have zt:t2=j - 1:=by omega
                        refine wpS_bind (Qae (by omega) ?_)
                        have m9:=MH.puA m5 (by omega) (by omega) fun k k1 k2=>hA.ord.lt_le (b1 k (by omega))
                        by_cases z9:t - 1=0
                        · rw [if_pos (beq_iff_eq.mpr z9)]
                          exact wpS_pure (.inl ⟨_,_,rfl,m9.dnA z9,sm4⟩)
                        · rw [if_neg (Qam z9)]
                          split
                          · exact wpS_pure (.inr ⟨_,_,_,_,_,_,rfl,m9,by omega,by omega,by omega,by omega,by omega,sm4⟩)
                          · exact wpS_pure ⟨_,_,_,_,_,_,rfl,m9,by omega,by omega,by omega,by omega,by omega,sm4⟩
                · rw [if_neg zk]
                  have zt:t=i:=by omega
                  subst zt
                  refine wpS_bind (Qae (by omega) ?_)
                  have m5:=MH.puB m (by omega) (by omega) fun k k1 k2=>lowA k k1
                  by_cases z5:j - 1=1
                  · rw [if_pos (beq_iff_eq.mpr z5)]
                    exact wpS_pure (.inl ⟨_,_,rfl,m5.fb z5 p1,sm4⟩)
                  · rw [if_neg (Qam z5)]
                    refine wpS_bind (Qae (by omega) ?_)
                    refine wpS_bind (QaA hA (sm4.kind.trans hk) (ma _ (memL (by omega))) mb (by omega) (by omega) (fun x y x1 xy y1=>sb x y (Nat.zero_le _) xy (by omega)) fun t2 t2n b1 b2=>?_)
                    have b1:∀ n,n<t2->c (kx b n) (kx a (t - 1))=true:=fun n hn=>by have:=b1 n hn;rwa [Nat.zero_add] at this
                    have b2:∀ n,t2<=n->n<j - 1->c (kx b n) (kx a (t - 1))=false:=fun n h1 h2=>by have:=b2 n h1 h2;rwa [Nat.zero_add] at this
                    dsimp only
                    by_cases zk2:j - 1 - t2 > 0
                    · rw [if_pos zk2]
                      have m6:=MH.chB (t:=t2) m5 t2n fun n n1 n2 _ k k1 k2=>hA.ord.tr (sa k (t - 1) (Nat.zero_le _) (by omega) (by omega)) (b2 n n1 n2)
                      by_cases z6:t2=1
                      · rw [if_pos (beq_iff_eq.mpr z6)]
                        exact wpS_pure (.inl ⟨_,_,rfl,m6.fb z6 p1,sm4⟩)
                      · rw [if_neg (Qam z6)]
                        by_cases z7:t2=0
                        · rw [if_pos (beq_iff_eq.mpr z7)]
                          exact wpS_pure (.inl ⟨_,_,rfl,m6.dnB z7,sm4⟩)
                        · rw [if_neg (Qam z7)]
                          refine wpS_bind (Qae (by omega) ?_)
                          have m9:=MH.puA m6 (by omega) (by omega) fun k k1 k2=>hA.ord.lt_le (b1 k k1)
                          by_cases z9:t - 1=0
                          · rw [if_pos (beq_iff_eq.mpr z9)]
                            exact wpS_pure (.inl ⟨_,_,rfl,m9.dnA z9,sm4⟩)
                          · rw [if_neg (Qam z9)]
                            split
                            · exact wpS_pure (.inr ⟨_,_,_,_,_,_,rfl,m9,by omega,by omega,by omega,by omega,by omega,sm4⟩)
                            · exact wpS_pure ⟨_,_,_,_,_,_,rfl,m9,by omega,by omega,by omega,by omega,by omega,sm4⟩
                    · rw [if_neg zk2]
                      have zt:t2=j - 1:=by omega
                      refine wpS_bind (Qae (by omega) ?_)
                      have m9:=MH.puA m5 (by omega) (by omega) fun k k1 k2=>hA.ord.lt_le (b1 k (by omega))
                      by_cases z9:t - 1=0
                      · rw [if_pos (beq_iff_eq.mpr z9)]
                        exact wpS_pure (.inl ⟨_,_,rfl,m9.dnA z9,sm4⟩)
                      · rw [if_neg (Qam z9)]
                        split
                        · exact wpS_pure (.inr ⟨_,_,_,_,_,_,rfl,m9,by omega,by omega,by omega,by omega,by omega,sm4⟩)
                        · exact wpS_pure ⟨_,_,_,_,_,_,rfl,m9,by omega,by omega,by omega,by omega,by omega,sm4⟩
              · rw [if_neg z0]
                refine wpS_bind (Qdw sm fun st4 sm4=>?_)
                refine wpS_bind (Qae (by omega) ?_)
                refine wpS_bind (QaA hA (sm4.kind.trans hk) (mb _ (memL (by omega))) ma (by omega) (by omega) (fun x y x1 xy y1=>sa x y (Nat.zero_le _) xy (by omega)) fun t tn b1 b2=>?_)
                have lowA:∀ n,n<t->le c (kx a n) (kx b (j - 1)):=fun n hn=>by
                  have:(!c (kx b (j - 1)) (kx a (0+n)))=true:=b1 n hn
                  rw [Nat.zero_add] at this
                  simpa using this
                have b2:∀ n,t<=n->n<i->c (kx b (j - 1)) (kx a n)=true:=fun n h1 h2=>by
                  have:(!c (kx b (j - 1)) (kx a (0+n)))=false:=b2 n h1 h2
                  rw [Nat.zero_add] at this
                  simpa using this
                dsimp only
                by_cases zk:i - t > 0
                · rw [if_pos zk]
                  have m2:=MH.chA (t:=t) m tn fun n n1 n2 _ k k1 k2=>hA.ord.tr (sb k (j - 1) (Nat.zero_le _) (by omega) (by omega)) (hA.ord.lt_le (b2 n n1 n2))
                  by_cases z2:t=0
                  · rw [if_pos (beq_iff_eq.mpr z2)]
                    exact wpS_pure (.inl ⟨_,_,rfl,m2.dnA z2,sm4⟩)
                  · rw [if_neg (Qam z2)]
                    refine wpS_bind (Qae (by omega) ?_)
                    have m5:=MH.puB m2 (by omega) (by omega) fun k k1 k2=>lowA k k1
                    by_cases z5:j - 1=1
                    · rw [if_pos (beq_iff_eq.mpr z5)]
                      exact wpS_pure (.inl ⟨_,_,rfl,m5.fb z5 p1,sm4⟩)
                    · rw [if_neg (Qam z5)]
                      refine wpS_bind (Qae (by omega) ?_)
                      refine wpS_bind (QaA hA (sm4.kind.trans hk) (ma _ (memL (by omega))) mb (by omega) (by omega) (fun x y x1 xy y1=>sb x y (Nat.zero_le _) xy (by omega)) fun t2 t2n b1 b2=>?_)
                      have b1:∀ n,n<t2->c (kx b n) (kx a (t - 1))=true:=fun n hn=>by have:=b1 n hn;rwa [Nat.zero_add] at this
                      have b2:∀ n,t2<=n->n<j - 1->c (kx b n) (kx a (t - 1))=false:=fun n h1 h2=>by have:=b2 n h1 h2;rwa [Nat.zero_add] at this
                      dsimp only
                      by_cases zk2:j - 1 - t2 > 0
                      · rw [if_pos zk2]
                        have m6:=MH.chB (t:=t2) m5 t2n fun n n1 n2 _ k k1 k2=>hA.ord.tr (sa k (t - 1) (Nat.zero_le _) (by omega) (by omega)) (b2 n n1 n2)
                        by_cases z6:t2=1
                        · rw [if_pos (beq_iff_eq.mpr z6)]
                          exact wpS_pure (.inl ⟨_,_,rfl,m6.fb z6 p1,sm4⟩)
                        · rw [if_neg (Qam z6)]
                          by_cases z7:t2=0
                          · rw [if_pos (beq_iff_eq.mpr z7)]
                            exact wpS_pure (.inl ⟨_,_,rfl,m6.dnB z7,sm4⟩)
                          · rw [if_neg (Qam z7)]
                            refine wpS_bind (Qae (by omega) ?_)
                            have m9:=MH.puA m6 (by omega) (by omega) fun k k1 k2=>hA.ord.lt_le (b1 k k1)
                            by_cases z9:t - 1=0
                            · rw [if_pos (beq_iff_eq.mpr z9)]
                              exact wpS_pure (.inl ⟨_,_,rfl,m9.dnA z9,sm4⟩)
                            · rw [if_neg (Qam z9)]
                              split
                              · exact wpS_pure (.inr ⟨_,_,_,_,_,_,rfl,m9,by omega,by omega,by omega,by omega,by omega,sm4⟩)
                              · exact wpS_pure ⟨_,_,_,_,_,_,rfl,m9,by omega,by omega,by omega,by omega,by omega,sm4⟩
                      · rw [if_neg zk2]
                        have zt:t2=j - 1:=by omega
                        refine wpS_bind (Qae (by omega) ?_)
                        have m9:=MH.puA m5 (by omega) (by omega) fun k k1 k2=>hA.ord.lt_le (b1 k (by omega))
                        by_cases z9:t - 1=0
                        · rw [if_pos (beq_iff_eq.mpr z9)]
                          exact wpS_pure (.inl ⟨_,_,rfl,m9.dnA z9,sm4⟩)
                        · rw [if_neg (Qam z9)]
                          split
                          · exact wpS_pure (.inr ⟨_,_,_,_,_,_,rfl,m9,by omega,by omega,by omega,by omega,by omega,sm4⟩)
                          · exact wpS_pure ⟨_,_,_,_,_,_,rfl,m9,by omega,by omega,by omega,by omega,by omega,sm4⟩
                · rw [if_neg zk]
                  have zt:t=i:=by omega
                  subst zt
                  refine wpS_bind (Qae (by omega) ?_)
                  have m5:=MH.puB m (by omega) (by omega) fun k k1 k2=>lowA k k1
                  by_cases z5:j - 1=1
                  · rw [if_pos (beq_iff_eq.mpr z5)]
                    exact wpS_pure (.inl ⟨_,_,rfl,m5.fb z5 p1,sm4⟩)
                  · rw [if_neg (Qam z5)]
                    refine wpS_bind (Qae (by omega) ?_)
                    refine wpS_bind (QaA hA (sm4.kind.trans hk) (ma _ (memL (by omega))) mb (by omega) (by omega) (fun x y x1 xy y1=>sb x y (Nat.zero_le _) xy (by omega)) fun t2 t2n b1 b2=>?_)
                    have b1:∀ n,n<t2->c (kx b n) (kx a (t - 1))=true:=fun n hn=>by have:=b1 n hn;rwa [Nat.zero_add] at this
                    have b2:∀ n,t2<=n->n<j - 1->c (kx b n) (kx a (t - 1))=false:=fun n h1 h2=>by have:=b2 n h1 h2;rwa [Nat.zero_add] at this
                    dsimp only
                    by_cases zk2:j - 1 - t2 > 0
                    · rw [if_pos zk2]
                      have m6:=MH.chB (t:=t2) m5 t2n fun n n1 n2 _ k k1 k2=>hA.ord.tr (sa k (t - 1) (Nat.zero_le _) (by omega) (by omega)) (b2 n n1 n2)
                      by_cases z6:t2=1
                      · rw [if_pos (beq_iff_eq.mpr z6)]
                        exact wpS_pure (.inl ⟨_,_,rfl,m6.fb z6 p1,sm4⟩)
                      · rw [if_neg (Qam z6)]
                        by_cases z7:t2=0
                        · rw [if_pos (beq_iff_eq.mpr z7)]
                          exact wpS_pure (.inl ⟨_,_,rfl,m6.dnB z7,sm4⟩)
                        · rw [if_neg (Qam z7)]
                          refine wpS_bind (Qae (by omega) ?_)
                          have m9:=MH.puA m6 (by omega) (by omega) fun k k1 k2=>hA.ord.lt_le (b1 k k1)
                          by_cases z9:t - 1=0
                          · rw [if_pos (beq_iff_eq.mpr z9)]
                            exact wpS_pure (.inl ⟨_,_,rfl,m9.dnA z9,sm4⟩)
                          · rw [if_neg (Qam z9)]
                            split
                            · exact wpS_pure (.inr ⟨_,_,_,_,_,_,rfl,m9,by omega,by omega,by omega,by omega,by omega,sm4⟩)
                            · exact wpS_pure ⟨_,_,_,_,_,_,rfl,m9,by omega,by omega,by omega,by omega,by omega,sm4⟩
                    · rw [if_neg zk2]
                      have zt:t2=j - 1:=by omega
                      refine wpS_bind (Qae (by omega) ?_)
                      have m9:=MH.puA m5 (by omega) (by omega) fun k k1 k2=>hA.ord.lt_le (b1 k (by omega))
                      by_cases z9:t - 1=0
                      · rw [if_pos (beq_iff_eq.mpr z9)]
                        exact wpS_pure (.inl ⟨_,_,rfl,m9.dnA z9,sm4⟩)
                      · rw [if_neg (Qam z9)]
                        split
                        · exact wpS_pure (.inr ⟨_,_,_,_,_,_,rfl,m9,by omega,by omega,by omega,by omega,by omega,sm4⟩)
                        · exact wpS_pure ⟨_,_,_,_,_,_,rfl,m9,by omega,by omega,by omega,by omega,by omega,sm4⟩
end
theorem Qft (i:Nat):mergeAt' i=(do
  let z <- get
  let (some (u,n,pw),some (v,m,_)):=((pendingOf z)[i]?,(pendingOf z)[i+1]?) | unsupported "internal:list.sort.pending"
  set (setPending z (((pendingOf z).setIfInBounds i (u,n+m,pw)).eraseIdxIfInBounds (i+1)))
  let some k <- QbZ false (<- elem' (arrOf z) v) (arrOf z) u n 0 | return false
  let (u,n):=(u+k,n - k)
  if n == 0 then return true
  let some m <- QbZ true (<- elem' (arrOf z) (u+n - 1)) (arrOf z) v m (m - 1) | return false
  if m == 0 then return true
  let x:=(arrOf z).extract u v
  let y:=(arrOf z).extract v (v+m)
  let mm <- if n<=m then Qec x y else Qed x y
  modify fun z=>setArr z (mm.toList.zipIdx.foldl (fun a (p,j)=>a.setIfInBounds (u+j) p) (arrOf z))
  return (failedOf (<- get)).isNone):=rfl
theorem QkF {σ:Type} {M:Model} {A:Around} {E:Value->Shared->Prop} {s:Shared} {Q:PUnit->σ->Prop} {st st':σ} (h:Q ⟨⟩ st'):wpS M A E s (set st':StateT σ Sem PUnit) Q st:=by
  unfold wpS;rw [StateT.run_set];exact wpAny_pure ⟨rfl,h⟩
theorem Qf6 (u:Nat):∀ (z:List Keyed) (m:Nat) (xs:Array Keyed),u+m+z.length<=xs.size->((z.zipIdx m).foldl (fun a (p:Keyed×Nat)=>a.setIfInBounds (u+p.2) p.1) xs).toList=xs.toList.take (u+m)++z++xs.toList.drop (u+m+z.length)
  | [],m,xs,_=>by
    show xs.toList=_
    rw [List.append_nil,List.length_nil,Nat.add_zero,List.take_append_drop]
  | p::z,m,xs,h=>by
    rw [List.length_cons] at h
    rw [List.zipIdx_cons,List.foldl_cons]
    have ih:=Qf6 u z (m+1) (xs.setIfInBounds (u+m) p) (by rw [Array.size_setIfInBounds];omega)
    rw [ih,Array.toList_setIfInBounds,List.set_eq_take_append_cons_drop,if_pos (by rw [Array.length_toList];omega)]
    have lt:(xs.toList.take (u+m)).length=u+m:=by rw [List.length_take,Array.length_toList];omega
    have e1:(xs.toList.take (u+m)++p::xs.toList.drop (u+m+1)).take (u+(m+1))=xs.toList.take (u+m)++[p]:=by
      rw [List.take_append,lt,List.take_of_length_le (by omega),show u+(m+1) - (u+m)=1 by omega]
      rfl
    have e2:(xs.toList.take (u+m)++p::xs.toList.drop (u+m+1)).drop (u+(m+1)+z.length)=xs.toList.drop (u+m+(p::z).length):=by
      rw [List.drop_append,lt,List.drop_of_length_le (by omega),List.nil_append,show u+(m+1)+z.length - (u+m)=z.length+1 by omega,List.drop_succ_cons,List.drop_drop,List.length_cons]
      congr 1
      omega
    rw [e1,e2,List.append_assoc,List.append_assoc,List.append_assoc]
    rfl
theorem QeT {xs ys:Array Keyed} {i j:Nat} (h:xs.toList[i]? = ys.toList[j]?):kx xs i=kx ys j:=by
  rw [Array.getElem?_toList,Array.getElem?_toList] at h
  exact Qfz h
theorem Qkk {xs:Array Keyed} {u v t:Nat} (h:u+t<v) (hv:v<=xs.size):kx (xs.extract u v) t=kx xs (u+t):=by
  refine Qfz ?_
  rw [Array.getElem?_extract,if_pos (by omega)]
section
variable {c:Keyed->Keyed->Bool}
structure Laid (c:Keyed->Keyed->Bool) (xs ws z:Array Keyed) (lo hi:Nat):Prop where
  size:ws.size=xs.size
  perm:ws.Perm xs
  out:∀ n,n<lo∨hi<=n->kx ws n=kx xs n
  mid:∀ n,lo<=n->n<hi->kx ws n=kx z (n - lo)
  zs:z.size=hi - lo
  of_:∀ n,lo<=n->n<hi->∃ m,lo<=m/\m<hi/\kx ws n=kx xs m
theorem QlW {xs z:Array Keyed} {lo v hi:Nat} (h1:lo<=v) (h2:v<=hi) (h3:hi<=xs.size) (o:Out c (xs.extract lo v) (xs.extract v hi) z):Laid c xs (z.toList.zipIdx.foldl (fun a (p:Keyed×Nat)=>a.setIfInBounds (lo+p.2) p.1) xs) z lo hi:=by
  have ln:z.toList.length=hi - lo:=by
    rw [o.2.length_eq,List.length_append,Array.length_toList,Array.length_toList,Array.size_extract,Array.size_extract]
    omega
  have zs:z.size=hi - lo:=by rw [<- ln,Array.length_toList]
  have lb:=Qf6 lo z.toList 0 xs (by omega)
  rw [Nat.add_zero,ln,show lo+(hi - lo)=hi by omega] at lb
  generalize hw:z.toList.zipIdx.foldl (fun a (p:Keyed×Nat)=>a.setIfInBounds (lo+p.2) p.1) xs=ws
  rw [show z.toList.zipIdx 0=z.toList.zipIdx from rfl,hw] at lb
  have lt:(xs.toList.take lo).length=lo:=by rw [List.length_take,Array.length_toList];omega
  have mid0:xs.toList=xs.toList.take lo++((xs.extract lo v).toList++(xs.extract v hi).toList)++xs.toList.drop hi:=by
    rw [Qbv,Qbv]
    have e1:xs.toList.take hi=xs.toList.take v++(xs.toList.take hi).drop v:=by
      have:=(List.take_append_drop v (xs.toList.take hi)).symm
      rwa [List.take_take,Nat.min_eq_left h2] at this
    have e2:xs.toList.take v=xs.toList.take lo++(xs.toList.take v).drop lo:=by
      have:=(List.take_append_drop lo (xs.toList.take v)).symm
      rwa [List.take_take,Nat.min_eq_left h1] at this
    rw [<- List.append_assoc,<- e2,<- e1,List.take_append_drop]
  have szl:ws.toList.length=xs.toList.length:=by
    rw [lb,List.length_append,List.length_append,lt,ln,List.length_drop,Array.length_toList]
    omega
  have md:∀ n,lo<=n->n<hi->kx ws n=kx z (n - lo):=fun n n1 n2=>by
    refine QeT ?_
    rw [lb,List.getElem?_append_left (by rw [List.length_append,lt,ln];omega),List.getElem?_append_right (by rw [lt];exact n1),lt]
  refine ⟨by rw [<- Array.length_toList,szl,Array.length_toList],?_,fun n hn=>?_,md,zs,fun n n1 n2=>?_⟩
  · refine Array.perm_iff_toList_perm.mpr ?_
    rw [lb]
    conv=>rhs;rw [mid0]
    exact List.Perm.append_right _ (List.Perm.append_left _ o.2)
  · refine QeT ?_
    rw [lb]
    rcases hn with hn | hn
    · rw [List.append_assoc,List.getElem?_append_left (by rw [lt];exact hn),List.getElem?_take,if_pos hn]
    · rw [List.getElem?_append_right (by rw [List.length_append,lt,ln];omega),List.length_append,lt,ln,List.getElem?_drop]
      congr 1
      omega
  · have hz:n - lo<z.size:=by omega
    have hm:=o.2.mem_iff.mp (memL hz)
    rw [md n n1 n2]
    rcases List.mem_append.mp hm with q | q
    · rw [Qbv] at q
      obtain ⟨m,m1,m2,_,e⟩:=Qa6 q
      exact ⟨m,m1,by omega,e⟩
    · rw [Qbv] at q
      obtain ⟨m,m1,m2,_,e⟩:=Qa6 q
      exact ⟨m,by omega,m2,e⟩
end
section
variable {prog:Program} {w:World} {A:Around} {E:Value->Shared->Prop} {s:Shared} {a₀:Array Keyed} {κ:SortKind} {c:Keyed->Keyed->Bool}
structure Mg (κ:SortKind) (a₀:Array Keyed) (c:Keyed->Keyed->Bool) (st st':SortSt) (i u v hi pn pw:Nat):Prop where
  sb:SB κ a₀ st'
  pend:pendingOf st'=((pendingOf st).setIfInBounds i (u,pn,pw)).eraseIdxIfInBounds (i+1)
  out:∀ n,n<u∨hi<=n->kx (arrOf st') n=kx (arrOf st) n
  sg:Sg c (arrOf st') u hi
theorem Qfc {st:SortSt} {i u n pw m pw2:Nat} {Q:Bool->SortSt->Prop} (hA:Asks prog w A s κ a₀ c) (hB:SB κ a₀ st) (e1:(pendingOf st)[i]? = some (u,n,pw)) (e2:(pendingOf st)[i+1]? = some (u+n,m,pw2)) (n1:1<=n) (m1:1<=m) (hz:u+n+m<=a₀.size)
    (s1:Sg c (arrOf st) u (u+n)) (s2:Sg c (arrOf st) (u+n) (u+n+m)) (h:∀ st',Mg κ a₀ c st st' i u (u+n) (u+n+m) (n+m) pw->Q true st'):wpS (model prog w) A E s (mergeAt' i) Q st:=by
  have sz:=hB.size
  have mem:∀ p∈(arrOf st).toList,p∈a₀.toList:=fun p hp=>hB.mem hp
  have memE:∀ {x y:Nat} {p:Keyed},p∈((arrOf st).extract x y).toList->p∈a₀.toList:=fun {x y p} hp=>mem p (by rw [Qbv] at hp;exact List.mem_of_mem_take (List.mem_of_mem_drop hp))
  rw [Qft]
  refine wpS_bind (wpS_get ?_)
  rw [e1,e2]
  dsimp only
  refine wpS_bind (QkF ?_)
  refine wpS_bind (Qae (by omega) ?_)
  refine wpS_bind (QaA hA hB.kind (mem _ (memL (by omega))) mem (by omega) (by omega) s1 fun k kn b1 b2=>?_)
  have b1:∀ t,t<k->le c (kx (arrOf st) (u+t)) (kx (arrOf st) (u+n)):=fun t ht=>by
    have:(!c (kx (arrOf st) (u+n)) (kx (arrOf st) (u+t)))=true:=b1 t ht
    simpa using this
  have b2:∀ t,k<=t->t<n->c (kx (arrOf st) (u+n)) (kx (arrOf st) (u+t))=true:=fun t h1 h2=>by
    have:(!c (kx (arrOf st) (u+n)) (kx (arrOf st) (u+t)))=false:=b2 t h1 h2
    simpa using this
  dsimp only
  by_cases z1:n - k=0
  · rw [if_pos (beq_iff_eq.mpr z1)]
    refine wpS_pure (h _ ⟨⟨hB.perm,hB.kind,hB.failed⟩,rfl,fun _ _=>rfl,fun x y x1 xy y1=>?_⟩)
    show le c (kx (arrOf st) x) (kx (arrOf st) y)
    by_cases zx:x<u+n
    · by_cases zy:y<u+n
      · exact s1 x y x1 xy zy
      · have:=b1 (x - u) (by omega)
        rw [show u+(x - u)=x by omega] at this
        exact hA.ord.tr this (s2 (u+n) y (Nat.le_refl _) (by omega) y1)
    · exact s2 x y (by omega) xy y1
  · rw [if_neg (Qam z1)]
    have hl:u+k+(n - k) - 1=u+n - 1:=by omega
    rw [hl]
    refine wpS_bind (Qae (by omega) ?_)
    refine wpS_bind (QaA hA hB.kind (mem _ (memL (by omega))) mem (by omega) (by omega) s2 fun m2 mn d1 d2=>?_)
    have d1:∀ t,t<m2->c (kx (arrOf st) (u+n+t)) (kx (arrOf st) (u+n - 1))=true:=fun t ht=>d1 t ht
    have d2:∀ t,m2<=t->t<m->le c (kx (arrOf st) (u+n - 1)) (kx (arrOf st) (u+n+t)):=fun t h1 h2=>d2 t h1 h2
    dsimp only
    by_cases z2:m2=0
    · rw [if_pos (beq_iff_eq.mpr z2)]
      refine wpS_pure (h _ ⟨⟨hB.perm,hB.kind,hB.failed⟩,rfl,fun _ _=>rfl,fun x y x1 xy y1=>?_⟩)
      show le c (kx (arrOf st) x) (kx (arrOf st) y)
      by_cases zx:x<u+n
      · by_cases zy:y<u+n
        · exact s1 x y x1 xy zy
        · have:=d2 (y - (u+n)) (by omega) (by omega)
          rw [show u+n+(y - (u+n))=y by omega] at this
          exact hA.ord.tr (s1 x (u+n - 1) x1 (by omega) (by omega)) this
      · exact s2 x y (by omega) xy y1
    · rw [if_neg (Qam z2)]
      have ex:∀ t,t<n - k->kx ((arrOf st).extract (u+k) (u+n)) t=kx (arrOf st) (u+k+t):=fun t ht=>Qkk (by omega) (by omega)
      have ey:∀ t,t<m2->kx ((arrOf st).extract (u+n) (u+n+m2)) t=kx (arrOf st) (u+n+t):=fun t ht=>Qkk (by omega) (by omega)
      have sx:((arrOf st).extract (u+k) (u+n)).size=n - k:=by rw [Array.size_extract];omega
      have sy:((arrOf st).extract (u+n) (u+n+m2)).size=m2:=by rw [Array.size_extract];omega
      have fin:∀ (z:Array Keyed) (st':SortSt),Sm (setPending st (((pendingOf st).setIfInBounds i (u,n+m,pw)).eraseIdxIfInBounds (i+1))) st'->Out c ((arrOf st).extract (u+k) (u+n)) ((arrOf st).extract (u+n) (u+n+m2)) z ->
          wpS (model prog w) A E s (do
            modify fun x=>setArr x (z.toList.zipIdx.foldl (fun a (p,j)=>a.setIfInBounds (u+k+j) p) (arrOf x))
            return (failedOf (<- get)).isNone) Q st':=fun z st' sm o=>by
        refine wpS_bind (wpS_modify (wpS_bind (wpS_get ?_)))
        have fe:failedOf st'=none:=sm.failed.trans hB.failed
        have ae:arrOf st'=arrOf st:=sm.arr
        have L:=QlW (c:=c) (xs:=arrOf st) (z:=z) (lo:=u+k) (v:=u+n) (hi:=u+n+m2) (by omega) (by omega) (by omega) o
        refine wpS_pure ?_
        show Q ((failedOf st').isNone) _
        rw [fe,ae]
        refine h _ ⟨⟨L.perm.trans hB.perm,sm.kind.trans hB.kind,fe⟩,sm.pend,fun x hx=>L.out x (by omega),fun x y x1 xy y1=>?_⟩
        generalize z.toList.zipIdx.foldl (fun a (p:Keyed×Nat)=>a.setIfInBounds (u+k+p.2) p.1) (arrOf st)=ws at L
        show le c (kx ws x) (kx ws y)
        have a0:∀ x,u<=x->x<u+k->le c (kx (arrOf st) x) (kx (arrOf st) (u+n)):=fun x g1 g2=>by have:=b1 (x - u) (by omega);rwa [show u+(x - u)=x by omega] at this
        have b9:∀ y,u+n+m2<=y->y<u+n+m->le c (kx (arrOf st) (u+n - 1)) (kx (arrOf st) y):=fun y g1 g2=>by have:=d2 (y - (u+n)) (by omega) (by omega);rwa [show u+n+(y - (u+n))=y by omega] at this
        by_cases zx:x<u+k
        · rw [L.out x (.inl zx)]
          by_cases zy:y<u+k
          · rw [L.out y (.inl zy)]
            exact s1 x y x1 xy (by omega)
          · by_cases zy2:y<u+n+m2
            · obtain ⟨q,q1,q2,qe⟩:=L.of_ y (by omega) zy2
              rw [qe]
              by_cases zq:q<u+n
              · exact s1 x q x1 (by omega) zq
              · exact hA.ord.tr (a0 x x1 zx) (s2 (u+n) q (Nat.le_refl _) (by omega) (by omega))
            · rw [L.out y (.inr (by omega))]
              exact hA.ord.tr (a0 x x1 zx) (s2 (u+n) y (Nat.le_refl _) (by omega) y1)
        · by_cases zx2:x<u+n+m2
          · by_cases zy2:y<u+n+m2
            · rw [L.mid x (by omega) zx2,L.mid y (by omega) zy2]
              by_cases xe:x=y
              · subst xe;exact hA.ord.irr _
              · have g:=List.pairwise_iff_getElem.mp o.1 (x - (u+k)) (y - (u+k)) (by rw [Array.length_toList,L.zs];omega) (by rw [Array.length_toList,L.zs];omega) (by omega)
                have k1:=Qbu (xs:=z) (i:=x - (u+k)) (by rw [L.zs];omega)
                have k2:=Qbu (xs:=z) (i:=y - (u+k)) (by rw [L.zs];omega)
                rw [List.getElem?_eq_getElem (by rw [Array.length_toList,L.zs];omega)] at k1 k2
                rw [Option.some.inj k1,Option.some.inj k2] at g
                exact g
            · rw [L.out y (.inr (by omega))]
              obtain ⟨q,q1,q2,qe⟩:=L.of_ x (by omega) zx2
              rw [qe]
              by_cases zq:q<u+n
              · exact hA.ord.tr (s1 q (u+n - 1) (by omega) (by omega) (by omega)) (b9 y (by omega) y1)
              · exact s2 q y (by omega) (by omega) y1
          · rw [L.out x (.inr (by omega)),L.out y (.inr (by omega))]
            exact s2 x y (by omega) xy y1
      have hsx:Sg c ((arrOf st).extract (u+k) (u+n)) 0 ((arrOf st).extract (u+k) (u+n)).size:=fun x y _ xy y1=>by
        rw [sx] at y1
        rw [ex x (by omega),ex y y1]
        exact s1 _ _ (by omega) (by omega) (by omega)
      have hsy:Sg c ((arrOf st).extract (u+n) (u+n+m2)) 0 ((arrOf st).extract (u+n) (u+n+m2)).size:=fun x y _ xy y1=>by
        rw [sy] at y1
        rw [ey x (by omega),ey y y1]
        exact s2 _ _ (by omega) (by omega) (by omega)
      have hp1:∀ t,t<((arrOf st).extract (u+k) (u+n)).size->le c (kx ((arrOf st).extract (u+n) (u+n+m2)) 0) (kx ((arrOf st).extract (u+k) (u+n)) t):=fun t ht=>by
        rw [sx] at ht
        rw [ey 0 (by omega),ex t ht,Nat.add_zero]
        have:=b2 (k+t) (by omega) (by omega)
        rw [show u+(k+t)=u+k+t by omega] at this
        exact hA.ord.lt_le this
      have hp2:∀ t,t<((arrOf st).extract (u+n) (u+n+m2)).size->le c (kx ((arrOf st).extract (u+n) (u+n+m2)) t) (kx ((arrOf st).extract (u+k) (u+n)) (((arrOf st).extract (u+k) (u+n)).size - 1)):=fun t ht=>by
        rw [sy] at ht
        rw [sx,ey t ht,ex (n - k - 1) (by omega),show u+k+(n - k - 1)=u+n - 1 by omega]
        exact hA.ord.lt_le (d1 t ht)
      split
      · exact wpS_bind (Qfa hA hB.kind (fun p hp=>memE hp) (fun p hp=>memE hp) (by rw [sx];omega) (by rw [sy];omega) hsx hsy hp1 hp2 fun z st' sm o=>fin z st' sm o)
      · exact wpS_bind (Qfb hA hB.kind (fun p hp=>memE hp) (fun p hp=>memE hp) (by rw [sx];omega) (by rw [sy];omega) hsx hsy hp1 hp2 fun z st' sm o=>fin z st' sm o)
end
def RunsOk:List (Nat×Nat)->Nat->Nat->Prop
  | [],s,e=>s=e
  | (s',n)::r,s,e=>s'=s/\1<=n/\RunsOk r (s+n) e
theorem RunsOk.app:∀ {l1 l2:List (Nat×Nat)} {s e:Nat},RunsOk (l1++l2) s e↔∃ m,RunsOk l1 s m/\RunsOk l2 m e
  | [],l2,s,e=>⟨fun h=>⟨s,rfl,h⟩,fun ⟨m,h1,h2⟩=>by cases (show s=m from h1);exact h2⟩
  | (s',n)::l1,l2,s,e=>by
    constructor
    · rintro ⟨h1,h2,h3⟩
      obtain ⟨m,a,b⟩:=RunsOk.app.mp h3
      exact ⟨m,⟨h1,h2,a⟩,b⟩
    · rintro ⟨m,⟨h1,h2,a⟩,b⟩
      exact ⟨h1,h2,RunsOk.app.mpr ⟨m,a,b⟩⟩
theorem RunsOk.le:∀ {l:List (Nat×Nat)} {s e:Nat},RunsOk l s e->s+l.length<=e
  | [],s,e,h=>by cases (show s=e from h);exact Nat.le_refl _
  | (s',n)::l,s,e,⟨_,h2,h3⟩=>by
    have:=RunsOk.le h3
    rw [List.length_cons]
    omega
theorem RunsOk.mem:∀ {l:List (Nat×Nat)} {s e:Nat},RunsOk l s e->∀ p∈l,s<=p.1/\p.1+p.2<=e
  | (s',n)::l,s,e,⟨h1,h2,h3⟩,p,hp=>by
    have hl:=RunsOk.le h3
    rcases List.mem_cons.mp hp with z | z
    · subst z
      show s<=s'/\s'+n<=e
      omega
    · have:=RunsOk.mem h3 p z
      omega
def sn (p:Nat×Nat×Nat):Nat×Nat:=(p.1,p.2.1)
def Qa2 (st:SortSt):List (Nat×Nat):=(pendingOf st).toList.map sn
section
variable {prog:Program} {w:World} {A:Around} {E:Value->Shared->Prop} {s:Shared} {a₀:Array Keyed} {κ:SortKind} {c:Keyed->Keyed->Bool}
structure RI (κ:SortKind) (a₀:Array Keyed) (c:Keyed->Keyed->Bool) (lo:Nat) (st:SortSt):Prop where
  sb:SB κ a₀ st
  runs:RunsOk (Qa2 st) 0 lo
  srt:∀ p∈Qa2 st,Sg c (arrOf st) p.1 (p.1+p.2)
  le:lo<=a₀.size
theorem Sg.same {xs ys:Array Keyed} {u v:Nat} (h:Sg c xs u v) (k:∀ n,u<=n->n<v->kx ys n=kx xs n):Sg c ys u v:=fun i j hi hij hj=>by
  rw [k i hi (by omega),k j (by omega) hj]
  exact h i j hi hij hj
theorem two_of {l:List (Nat×Nat×Nat)} {i:Nat} (h:i+1<l.length):∃ l1 x y l2,l=l1++x::y::l2/\l1.length=i:=by
  refine ⟨l.take i,l[i],l[i+1],l.drop (i+2),?_,by rw [List.length_take];omega⟩
  rw [<- List.drop_eq_getElem_cons,<- List.drop_eq_getElem_cons,List.take_append_drop]
theorem Qcv {st:SortSt} {lo i hi:Nat} {Q:Bool->SortSt->Prop} (hA:Asks prog w A s κ a₀ c) (ri:RI κ a₀ c lo st) (hi':i+1<(pendingOf st).size)
    (h:∀ st',RI κ a₀ c lo st'->(pendingOf st').size+1=(pendingOf st).size->(∀ n,lo<=n->kx (arrOf st') n=kx (arrOf st) n)->Q true st'):wpS (model prog w) A E s (mergeAt' i) Q st:=by
  obtain ⟨l1,⟨u,n,pw⟩,⟨v,m,pw2⟩,l2,el,ll⟩:=two_of (l:=(pendingOf st).toList) (i:=i) (by rw [Array.length_toList];exact hi')
  have er:Qa2 st=l1.map sn++(u,n)::(v,m)::l2.map sn:=by unfold Qa2;rw [el,List.map_append];rfl
  have r0:=ri.runs
  rw [er] at r0
  obtain ⟨q,ra,rb⟩:=RunsOk.app.mp r0
  obtain ⟨g1,g2,g3,g4,g5⟩:=rb
  subst g1
  subst g3
  have e1:(pendingOf st)[i]? = some (u,n,pw):=by
    rw [<- Array.getElem?_toList,el,List.getElem?_append_right (by omega),ll,Nat.sub_self];rfl
  have e2:(pendingOf st)[i+1]? = some (u+n,m,pw2):=by
    rw [<- Array.getElem?_toList,el,List.getElem?_append_right (by omega),ll,show i+1 - i=1 by omega];rfl
  have le5:=RunsOk.le g5
  have le1:=ri.le
  refine Qfc hA ri.sb e1 e2 g2 g4 (by omega) (ri.srt (u,n) (by rw [er];simp)) (ri.srt (u+n,m) (by rw [er];simp)) fun st' mg=>?_
  have ep:(pendingOf st').toList=l1++(u,n+m,pw)::l2:=by
    rw [mg.pend,Array.toList_eraseIdxIfInBounds,Array.toList_setIfInBounds,el,List.set_append_right _ _ (by omega),ll,Nat.sub_self,List.set_cons_zero,List.eraseIdx_append_of_length_le (by omega),ll,show i+1 - i=1 by omega]
    rfl
  have er':Qa2 st'=l1.map sn++(u,n+m)::l2.map sn:=by unfold Qa2;rw [ep,List.map_append];rfl
  refine h st' ⟨mg.sb,?_,fun p hp=>?_,ri.le⟩ ?_ fun k hk=>mg.out k (.inr (by omega))
  · rw [er']
    exact RunsOk.app.mpr ⟨u,ra,rfl,by omega,by rw [show u+(n+m)=u+n+m by omega];exact g5⟩
  · rw [er'] at hp
    rcases List.mem_append.mp hp with z | z
    · have b:=RunsOk.mem ra p z
      exact (ri.srt p (by rw [er];exact List.mem_append_left _ z)).same fun k k1 k2=>mg.out k (.inl (by omega))
    · rcases List.mem_cons.mp z with z | z
      · subst z
        show Sg c (arrOf st') u (u+(n+m))
        rw [show u+(n+m)=u+n+m by omega]
        exact mg.sg
      · have b:=RunsOk.mem g5 p z
        exact (ri.srt p (by rw [er];exact List.mem_append_right _ (List.mem_cons_of_mem _ (List.mem_cons_of_mem _ z)))).same fun k k1 k2=>mg.out k (.inr (by omega))
  · rw [<- Array.length_toList,<- Array.length_toList,ep,el,List.length_append,List.length_append,List.length_cons,List.length_cons,List.length_cons]
    omega
theorem RI.pow {st:SortSt} {lo:Nat} (r:RI κ a₀ c lo st) (i pw:Nat):RI κ a₀ c lo (setPending st ((pendingOf st).modify i fun x=>(x.1,x.2.1,pw))):=by
  have er:Qa2 (setPending st ((pendingOf st).modify i fun x=>(x.1,x.2.1,pw)))=Qa2 st:=by
    show ((pendingOf st).modify i fun x=>(x.1,x.2.1,pw)).toList.map sn=(pendingOf st).toList.map sn
    rw [Array.toList_modify]
    apply List.ext_getElem?
    intro j
    rw [List.getElem?_map,List.getElem?_map,List.getElem?_modify]
    cases (pendingOf st).toList[j]? with
    | none=>rfl
    | some p=>
      show some (sn (if i=j then _ else p))=some (sn p)
      split<;>rfl
  exact ⟨⟨r.sb.perm,r.sb.kind,r.sb.failed⟩,by rw [er];exact r.runs,by rw [er];exact r.srt,r.le⟩
theorem Qe9 {st:SortSt} {Q:Unit->SortSt->Prop} (hA:Asks prog w A s κ a₀ c) (hB:SB κ a₀ st) (hp:pendingOf st=#[])
    (h:∀ st',SB κ a₀ st'->Sg c (arrOf st') 0 a₀.size->Q () st'):wpS (model prog w) A E s sortRuns' Q st:=by
  rw [sortRuns'_eq]
  refine wpS_bind (wpS_get ?_)
  dsimp only
  rw [hB.size]
  have ri0:RI κ a₀ c 0 st:=⟨hB,by unfold Qa2;rw [hp];rfl,fun p h=>by unfold Qa2 at h;rw [hp] at h;simp at h,Nat.zero_le _⟩
  refine wpS_bind (wpS_mono (wpS_forRange (I:=fun x z st'=>∃ lo,z=(none,lo)/\RI κ a₀ c lo st'/\(x<=lo∨lo=a₀.size)) (Q:=fun z st'=>z=(none,a₀.size)/\RI κ a₀ c a₀.size st') ?step ?fin ⟨0,rfl,ri0,.inl (Nat.le_refl _)⟩) ?post)
  case fin=>
    rintro z st' ⟨lo,rfl,ri,hx⟩
    have:=ri.le
    have e:lo=a₀.size:=by omega
    subst e
    exact ⟨rfl,ri⟩
  case step=>
    rintro x z st' _ hx ⟨lo,rfl,ri,hxl⟩
    dsimp only
    have hle:=ri.le
    by_cases z0:lo≥a₀.size
    · rw [if_pos z0]
      have e:lo=a₀.size:=by omega
      subst e
      exact wpS_pure ⟨rfl,ri⟩
    · rw [if_neg z0]
      refine wpS_bind (QdU hA (by omega) (by omega) ri.sb fun m st1 f1 m1 m2 sg1=>?_)
      dsimp only
      have ri1:RI κ a₀ c lo st1:=⟨f1.sb,by unfold Qa2;rw [f1.pend];exact ri.runs,fun p hp=>by
        unfold Qa2 at hp
        rw [f1.pend] at hp
        have b:=RunsOk.mem ri.runs p hp
        exact (ri.srt p hp).same fun k k1 k2=>f1.low k (by omega),hle⟩
      have push:∀ (n:Nat) (st2:SortSt),RI κ a₀ c lo st2->1<=n->lo+n<=a₀.size->Sg c (arrOf st2) lo (lo+n)->RI κ a₀ c (lo+n) (setPending st2 ((pendingOf st2).push (lo,n,0))):=fun n st2 r2 n1 n2 sg=>by
        have er:Qa2 (setPending st2 ((pendingOf st2).push (lo,n,0)))=Qa2 st2++[(lo,n)]:=by
          show ((pendingOf st2).push (lo,n,0)).toList.map sn=_
          rw [Array.toList_push,List.map_append];rfl
        refine ⟨⟨r2.sb.perm,r2.sb.kind,r2.sb.failed⟩,by rw [er];exact RunsOk.app.mpr ⟨lo,r2.runs,rfl,n1,rfl⟩,fun p hp=>?_,n2⟩
        rw [er] at hp
        rcases List.mem_append.mp hp with z | z
        · exact r2.srt p z
        · rw [List.mem_singleton.mp z];exact sg
      by_cases zm:m<minRun' a₀.size a₀.size 0
      · rw [if_pos zm]
        refine wpS_bind (wpS_lift (wpAny_rule ⟨rfl,?_⟩))
        refine wpS_bind (Qc1 hA (by omega) m1 (by omega) f1.sb sg1 fun st2 f2 sg2=>?_)
        simp only [Bool.not_true,Bool.false_eq_true,if_false]
        have ri2:RI κ a₀ c lo st2:=⟨f2.sb,by unfold Qa2;rw [f2.pend];exact ri1.runs,fun p hp=>by
          unfold Qa2 at hp
          rw [f2.pend] at hp
          have b:=RunsOk.mem ri1.runs p hp
          exact (ri1.srt p hp).same fun k k1 k2=>f2.low k (by omega),hle⟩
        refine wpS_bind (wpS_get ?_)
        cases hb:(pendingOf st2).back? with
        | none=>
          dsimp only
          exact wpS_bind (wpS_modify (wpS_pure ⟨_,rfl,push _ st2 ri2 (by omega) (by omega) sg2,by omega⟩))
        | some bb=>
          obtain ⟨s1,s2,s3⟩:=bb
          dsimp only
          refine wpS_bind (wpS_mono (wpS_forRange (I:=fun _ z st3=>z=(none,())/\RI κ a₀ c lo st3/\Sg c (arrOf st3) lo (lo+min (a₀.size - lo) (minRun' a₀.size a₀.size 0))) (Q:=fun z st3=>z=(none,())/\RI κ a₀ c lo st3/\Sg c (arrOf st3) lo (lo+min (a₀.size - lo) (minRun' a₀.size a₀.size 0))) ?stepA (fun _ _ q=>q) ⟨rfl,ri2,sg2⟩) ?postA)
          case stepA=>
            rintro y z st3 _ hy ⟨rfl,r3,g3⟩
            refine wpS_bind (wpS_get ?_)
            by_cases z5:(pendingOf st3).size > 1
            · rw [if_pos z5,getElem?_pos (pendingOf st3) ((pendingOf st3).size - 2) (by omega)]
              generalize (pendingOf st3)[(pendingOf st3).size - 2]'(by omega)=pp
              obtain ⟨q1,q2,q3⟩:=pp
              dsimp only
              split
              · exact wpS_pure ⟨rfl,r3,g3⟩
              · refine wpS_bind (Qcv (hi:=0) hA r3 (by omega) fun st4 r4 sz k4=>?_)
                exact wpS_pure ⟨rfl,r4,g3.same fun k k1 _=>k4 k k1⟩
            · rw [if_neg z5]
              exact wpS_pure ⟨rfl,r3,g3⟩
          case postA=>
            rintro z st3 ⟨rfl,r3,g3⟩
            dsimp only
            refine wpS_bind (wpS_modify (wpS_bind (wpS_modify (wpS_pure ⟨_,rfl,push _ _ (r3.pow _ _) (by omega) (by omega) g3,by omega⟩))))
      · rw [if_neg zm]
        refine wpS_bind (wpS_get ?_)
        cases hb:(pendingOf st1).back? with
        | none=>
          dsimp only
          exact wpS_bind (wpS_modify (wpS_pure ⟨_,rfl,push _ st1 ri1 m1 (by omega) sg1,by omega⟩))
        | some bb=>
          obtain ⟨s1,s2,s3⟩:=bb
          dsimp only
          refine wpS_bind (wpS_mono (wpS_forRange (I:=fun _ z st3=>z=(none,())/\RI κ a₀ c lo st3/\Sg c (arrOf st3) lo (lo+m)) (Q:=fun z st3=>z=(none,())/\RI κ a₀ c lo st3/\Sg c (arrOf st3) lo (lo+m)) ?stepA (fun _ _ q=>q) ⟨rfl,ri1,sg1⟩) ?postA)
          case stepA=>
            rintro y z st3 _ hy ⟨rfl,r3,g3⟩
            refine wpS_bind (wpS_get ?_)
            by_cases z5:(pendingOf st3).size > 1
            · rw [if_pos z5,getElem?_pos (pendingOf st3) ((pendingOf st3).size - 2) (by omega)]
              generalize (pendingOf st3)[(pendingOf st3).size - 2]'(by omega)=pp
              obtain ⟨q1,q2,q3⟩:=pp
              dsimp only
              split
              · exact wpS_pure ⟨rfl,r3,g3⟩
              · refine wpS_bind (Qcv (hi:=0) hA r3 (by omega) fun st4 r4 sz k4=>?_)
                exact wpS_pure ⟨rfl,r4,g3.same fun k k1 _=>k4 k k1⟩
            · rw [if_neg z5]
              exact wpS_pure ⟨rfl,r3,g3⟩
          case postA=>
            rintro z st3 ⟨rfl,r3,g3⟩
            dsimp only
            refine wpS_bind (wpS_modify (wpS_bind (wpS_modify (wpS_pure ⟨_,rfl,push _ _ (r3.pow _ _) m1 (by omega) g3,by omega⟩))))
  case post=>
    rintro z st' ⟨rfl,ri⟩
    dsimp only
    refine wpS_bind (wpS_mono (wpS_forRange (I:=fun x z st3=>z=(none,())/\RI κ a₀ c a₀.size st3/\((pendingOf st3).size+x<=a₀.size∨(pendingOf st3).size<=1)) (Q:=fun z st3=>z=(none,())/\RI κ a₀ c a₀.size st3/\(pendingOf st3).size<=1) ?stepB ?finB ⟨rfl,ri,.inl ?initB⟩) ?postB)
    case initB=>
      have:=RunsOk.le ri.runs
      unfold Qa2 at this
      rw [List.length_map,Array.length_toList] at this
      omega
    case finB=>
      rintro z st3 ⟨rfl,r3,hx⟩
      exact ⟨rfl,r3,by omega⟩
    case stepB=>
      rintro x z st3 _ hx ⟨rfl,r3,hs⟩
      refine wpS_bind (wpS_get ?_)
      by_cases z5:(pendingOf st3).size<=1
      · rw [if_pos z5]
        exact wpS_pure ⟨rfl,r3,z5⟩
      · rw [if_neg z5]
        have key:∀ i,i+1<(pendingOf st3).size->wpS (model prog w) A E s (mergeAt' i) (fun b st4=>b=true/\RI κ a₀ c a₀.size st4/\(pendingOf st4).size+1=(pendingOf st3).size) st3:=fun i hi=>Qcv (hi:=0) hA r3 hi fun st4 r4 sz _=>⟨rfl,r4,sz⟩
        refine wpS_bind (wpS_mono (key _ ?_) ?_)
        · have ii:∀ {p:Prop} [Decidable p],(if p then (pendingOf st3).size - 2 - 1 else (pendingOf st3).size - 2)+1<(pendingOf st3).size:=by intro p _;split<;>omega
          exact ii
        · rintro bb st4 ⟨rfl,r4,sz⟩
          exact wpS_pure ⟨rfl,r4,by omega⟩
    case postB=>
      rintro z st3 ⟨rfl,r3,hs⟩
      refine wpS_pure (h st3 r3.sb ?_)
      have rr:=r3.runs
      have hl:(Qa2 st3).length<=1:=by unfold Qa2;rw [List.length_map,Array.length_toList];exact hs
      have hsr:=r3.srt
      cases er:Qa2 st3 with
      | nil=>
        rw [er] at rr
        rw [<- (show 0=a₀.size from rr)]
        exact fun i j hi hij hj=>by omega
      | cons p l=>
        rw [er] at rr hl hsr
        cases l with
        | cons p' l'=>simp at hl
        | nil=>
          obtain ⟨g1,g2,g3⟩:=rr
          have:=hsr p (List.mem_singleton.mpr rfl)
          rw [g1,(show 0+p.2=a₀.size from g3)] at this
          exact this
end
end Rt
namespace PySem
namespace AutoSeq1
open PyProof PyProof.Rows
end AutoSeq1
end PySem
namespace L2
open PySem PySem.Spec PyProof.Rows
end L2
namespace Dl
open PySem PySem.Spec PyProof.Rows L2 _root_.Rd Rk
section
variable {X:Cx} {E:XK}
end
theorem Qiu {K:PySem.W.Frag} {E:XK} {cap:List (Option Nat)} {ix:List Nat} {wi:DI} {wg:DG} {wt:DT} {we:DE} (hf:QgR cap ix=true) (σ:L2.St) (H:Hp) (Q:VK) (h:tX .F K E (dComp cap wi wg wt we) σ H Q) :
    tComp cap (tI .P K E wi) (tG ix K wg) (tT K E0 wt) (tX .D K E0 we) σ H Q:=by
  obtain ⟨F,δ,R,EX,rel,hw,k,o⟩:=h
  refine ⟨F,δ,_,EX,rel,hw,fun items hC J H1 rel1 kp1 ⟨ln,it⟩ p hp=>?_,o⟩
  unfold Qeu at hC
  obtain ⟨Iv,i0,step,fin⟩:=hC
  have hpn:¬ PotA σ δ p:=fun z=>by obtain ⟨xs,e⟩:=rel1.isl (Qbt (F:=F) z);rw [hp] at e;cases e
  let A1:Addr->Prop:=fun a=>Av F σ δ a∨a=p
  have hP:∀ a,PotA σ δ a->A1 a:=fun a z=>.inl (Qbt z)
  have hN:∀ a,A1 a->Av F σ δ a∨H1 a=none:=fun a z=>z.elim .inl fun z=>.inr (by rw [z];exact hp)
  have dmK:∀ {H2:Hp},Kp σ δ H1 H2->(∃ ys,H2 p=some (.lst ys))->∀ a,A1 a->∃ xs,H2 a=some (.lst xs):=fun {H2} k2 e2 a z=>by
    rcases z with z | z
    · exact (rel1.kp k2).isl z
    · rw [z];exact e2
  refine Qh2 items.length (fun i H2=>i<=items.length/\∃ acc,Iv i acc/\acc.length<=i/\Lp σ δ A1 p H1 H2 acc) ⟨Nat.zero_le _,[],i0,Nat.le_refl _,Kp.same rel1 (Qar hp),[],Qaq,.nil⟩ (fun i H2 hi ⟨_,acc,iv,hl,lp⟩=>?_) fun H2 ⟨_,acc,iv,hl,lp⟩=>?_
  · obtain ⟨k2,ys,e2,q2⟩:=lp
    obtain ⟨go,_⟩:=it H2 A1 (fun b o n e=>k2.1 b o n e) hN (dmK k2 ⟨ys,e2⟩)
    have hd:items[i]? = some items[i]:=List.getElem?_eq_getElem hi
    obtain ⟨g1,g2⟩:=go i _ hd
    refine ⟨g1,fun x H3 y kk hk=>?_⟩
    obtain ⟨s3,dx⟩:=g2 x H3 y
    have k23:=Kp.same (rel1.kp k2) s3
    have lp3:Lp σ δ A1 p H1 H3 acc:=Lp.step hP hpn ⟨k2,ys,e2,q2⟩ k23
    refine Qg2 hf rel1 (fun a z=>.inl z) hN (dmK lp3.kp ⟨ys,s3 _ _ e2⟩) lp3.kp dx (step i acc _ hd iv) (fun σ4 δ4 H5 h5 r5 k5 pots=>?_) fun h5 H5 k5=>hk _ ⟨hi,acc,h5,by omega,lp3.step hP hpn k5⟩
    exact Qkr (.inr rfl) hP hp hpn (lp3.step hP hpn k5) (by omega) r5 pots h5 fun e he H' lp'=>hk _ ⟨hi,acc++[e],he,by rw [List.length_append];show _+1<=_;omega,lp'⟩
  · obtain ⟨k2,ys,e2,q2⟩:=lp
    obtain ⟨_,st⟩:=it H2 A1 (fun b o n e=>k2.1 b o n e) hN (dmK k2 ⟨ys,e2⟩)
    refine ⟨st,k _ (fin acc iv) (.ref p) H2 (rel1.kp k2) (kp1.trans k2) ⟨.lst (fun z=>?_) e2 (q2.mv (fun _ _ _ e=>e) fun a z=>.inl (.inl z)),fun l e1 _=>?_⟩⟩
    · obtain ⟨xs,e⟩:=rel1.isl z
      rw [hp] at e;cases e
    · cases e1
      exact Qcf kp1 hp
theorem fToD {K:PySem.W.Frag} {E:XK} {w:DE} (σ:L2.St) (H:Hp) (Q:VK) (h:tX .D K E w σ H Q):tX .F K E w σ H Q:=by
  obtain ⟨F,δ,R,EX,rel,hw,k,o⟩:=h
  exact ⟨F,δ,R,EX,rel,hw,fun d hd v H' r kp vk=>k d hd v H' r kp vk.1,o⟩
section
variable {X:Cx} {E:XK}
theorem Qd6 (M:List Str) (cap:List (Option Nat)) (i:Nat) {elt tg iter:Expr} {ifs:List Expr} {scope:Scope} {pos py spos:Pos} {y:Str} {ix:List Nat} {wi:DI} {wg:DG} {wt:DT} {we:DE} (hN:X.N.Nodup) (hi:QI .P X E tg iter wi) (hb:∀ cl ex s3 H3 C,QG ix (blk X M scope cl ex s3 H3 C) tg wg/\QTs (blk X M scope cl ex s3 H3 C) E0 ifs wt/\QE .D (blk X M scope cl ex s3 H3 C) E0 elt we) (hiy:X.N[i]? = some y:=by rfl) (hly:X.env.scope.names.lookup y=some .local:=by rfl) (hc:X.calm=true:=by rfl) (ok:QfI X.N X.env.scope M scope cap=true:=by rfl) (hf:QgR cap ix=true:=by rfl) (hs:∀ x,foldedSetIterable iter X.env x=pure x:=by intro _;rfl) (hsw:swapsWith (.ListComp elt [⟨tg,iter,ifs,0⟩] scope pos) (some (.Name y py)) spos.line X.env=pure true:=by rfl):QS X E (.Assign [.Name y py] (.ListComp elt [⟨tg,iter,ifs,0⟩] scope pos) spos) (dSet i (dComp cap wi wg wt we)):=
  ⟨Qhy (PS.imp (PS.imp (Qi8 hN hiy hly hc ok hi.h (fun cl ex s3 H3 C=>⟨(hb cl ex s3 H3 C).1.h,(hb cl ex s3 H3 C).2.1.h,(hb cl ex s3 H3 C).2.2.h⟩) hs hsw) fun D σ H q=>Qiu (E:=E) hf σ H _ q) fun D σ H q=>fToD σ H _ q)⟩
end
section
variable {X:Cx} {E:XK}
end
theorem QeN (L:List (Int×Int)):nds (L.map Rk.pairD)=true:=QhW.mpr fun d hd=>by
  obtain ⟨i,_,rfl⟩:=List.mem_map.mp hd
  rfl
def rkD:PyData->Nat
  | .int _=>0
  | .tuple _=>1
  | _=>2
def cmpI (i j:Int):Ordering:=if i<j then .lt else if i=j then .eq else .gt
def cmpN (i j:Nat):Ordering:=if i<j then .lt else if i=j then .eq else .gt
def thn (o:Ordering) (p:Ordering):Ordering:=match o with
  | .eq=>p
  | o=>o
mutual
def cmpD:PyData->PyData->Ordering
  | .int i,.int j=>cmpI i j
  | .tuple a,.tuple b=>Qb0 a b
  | x,y=>cmpN (rkD x) (rkD y)
def Qb0:List PyData->List PyData->Ordering
  | [],[]=>.eq
  | [],_::_=>.lt
  | _::_,[]=>.gt
  | x::xs,y::ys=>thn (cmpD x y) (Qb0 xs ys)
end
def isL:Ordering->Bool
  | .lt=>true
  | _=>false
def ltD (x y:PyData):Bool:=isL (cmpD x y)
def ltDs (x y:List PyData):Bool:=isL (Qb0 x y)
def sw:Ordering->Ordering
  | .lt=>.gt
  | .gt=>.lt
  | .eq=>.eq
def isLe:Ordering->Bool
  | .gt=>false
  | _=>true
theorem thn_sw (a b:Ordering):sw (thn a b)=thn (sw a) (sw b):=by cases a<;>rfl
theorem Qmb (i j:Int):cmpI j i=sw (cmpI i j):=by
  unfold cmpI
  by_cases h:i<j
  · rw [if_neg (by omega),if_neg (by omega),if_pos h];rfl
  · by_cases h2:i=j
    · rw [if_neg (by omega),if_pos h2.symm,if_neg h,if_pos h2];rfl
    · rw [if_pos (by omega),if_neg h,if_neg h2];rfl
theorem Qmc (i j:Int):isLe (cmpI i j)=decide (i<=j):=by
  unfold cmpI
  by_cases h:i<j
  · rw [if_pos h];exact (decide_eq_true (by omega)).symm
  · by_cases h2:i=j
    · rw [if_neg h,if_pos h2];exact (decide_eq_true (by omega)).symm
    · rw [if_neg h,if_neg h2];exact (decide_eq_false (by omega)).symm
mutual
theorem QcI:∀ (x y:PyData),cmpD y x=sw (cmpD x y)
  | .int i,.int j=>Qmb i j
  | .tuple a,.tuple b=>Qgm a b
  | .int _,.tuple _=>rfl
  | .tuple _,.int _=>rfl
  | .int _,.none=>rfl
  | .int _,.bool _=>rfl
  | .int _,.str _=>rfl
  | .int _,.list _=>rfl
  | .int _,.dict _=>rfl
  | .tuple _,.none=>rfl
  | .tuple _,.bool _=>rfl
  | .tuple _,.str _=>rfl
  | .tuple _,.list _=>rfl
  | .tuple _,.dict _=>rfl
  | .none,y=>by cases y<;>rfl
  | .bool _,y=>by cases y<;>rfl
  | .str _,y=>by cases y<;>rfl
  | .list _,y=>by cases y<;>rfl
  | .dict _,y=>by cases y<;>rfl
theorem Qgm:∀ (xs ys:List PyData),Qb0 ys xs=sw (Qb0 xs ys)
  | [],[]=>rfl
  | [],_::_=>rfl
  | _::_,[]=>rfl
  | x::xs,y::ys=>by
    show thn (cmpD y x) (Qb0 ys xs)=sw (thn (cmpD x y) (Qb0 xs ys))
    rw [QcI x y,Qgm xs ys,thn_sw]
end
theorem le_lt {a c:Ordering} (hab:isLe a=true) (h:isLe (sw c)=true->isLe (sw a)=true) (ha:a=.lt):c=.lt:=by
  subst ha
  cases c with
  | lt=>rfl
  | eq=>cases h rfl
  | gt=>cases h rfl
mutual
theorem Qep:∀ (x y z:PyData),isLe (cmpD x y)=true->isLe (cmpD y z)=true->isLe (cmpD x z)=true
  | .int i,.int j,.int k,h1,h2=>by
    have h1:isLe (cmpI i j)=true:=h1
    have h2:isLe (cmpI j k)=true:=h2
    show isLe (cmpI i k)=true
    rw [Qmc] at h1 h2 ⊢
    have a:=of_decide_eq_true h1
    have b:=of_decide_eq_true h2
    exact decide_eq_true (by omega)
  | .tuple a,.tuple b,.tuple c,h1,h2=>Qgl a b c h1 h2
  | .int _,y,.tuple _,h1,h2=>rfl
  | .int _,.tuple _,.int _,h1,h2=>by cases h2
  | .tuple _,.int _,z,h1,h2=>by cases h1
  | .tuple _,.tuple _,.int _,h1,h2=>by cases h2
  | .int _,y,.none,_,_=>rfl
  | .int _,y,.bool _,_,_=>rfl
  | .int _,y,.str _,_,_=>rfl
  | .int _,y,.list _,_,_=>rfl
  | .int _,y,.dict _,_,_=>rfl
  | .tuple _,y,.none,_,_=>rfl
  | .tuple _,y,.bool _,_,_=>rfl
  | .tuple _,y,.str _,_,_=>rfl
  | .tuple _,y,.list _,_,_=>rfl
  | .tuple _,y,.dict _,_,_=>rfl
  | .int _,.none,.int _,h1,h2=>by cases h2
  | .int _,.bool _,.int _,h1,h2=>by cases h2
  | .int _,.str _,.int _,h1,h2=>by cases h2
  | .int _,.list _,.int _,h1,h2=>by cases h2
  | .int _,.dict _,.int _,h1,h2=>by cases h2
  | .tuple _,.none,.int _,h1,h2=>by cases h2
  | .tuple _,.bool _,.int _,h1,h2=>by cases h2
  | .tuple _,.str _,.int _,h1,h2=>by cases h2
  | .tuple _,.list _,.int _,h1,h2=>by cases h2
  | .tuple _,.dict _,.int _,h1,h2=>by cases h2
  | .tuple _,.none,.tuple _,h1,h2=>by cases h2
  | .tuple _,.bool _,.tuple _,h1,h2=>by cases h2
  | .tuple _,.str _,.tuple _,h1,h2=>by cases h2
  | .tuple _,.list _,.tuple _,h1,h2=>by cases h2
  | .tuple _,.dict _,.tuple _,h1,h2=>by cases h2
  | .none,y,z,h1,h2=>by cases y<;>cases z<;>first | rfl | (cases h1;done) | (cases h2;done)
  | .bool _,y,z,h1,h2=>by cases y<;>cases z<;>first | rfl | (cases h1;done) | (cases h2;done)
  | .str _,y,z,h1,h2=>by cases y<;>cases z<;>first | rfl | (cases h1;done) | (cases h2;done)
  | .list _,y,z,h1,h2=>by cases y<;>cases z<;>first | rfl | (cases h1;done) | (cases h2;done)
  | .dict _,y,z,h1,h2=>by cases y<;>cases z<;>first | rfl | (cases h1;done) | (cases h2;done)
  termination_by x y z=>sizeOf x+sizeOf y+sizeOf z
theorem Qgl:∀ (xs ys zs:List PyData),isLe (Qb0 xs ys)=true->isLe (Qb0 ys zs)=true->isLe (Qb0 xs zs)=true
  | [],_,[],_,_=>rfl
  | [],_,_::_,_,_=>rfl
  | _::_,[],_,h1,_=>by cases h1
  | _::_,_::_,[],_,h2=>by cases h2
  | x::xs,y::ys,z::zs,h1,h2=>by
    have h1:isLe (thn (cmpD x y) (Qb0 xs ys))=true:=h1
    have h2:isLe (thn (cmpD y z) (Qb0 ys zs))=true:=h2
    show isLe (thn (cmpD x z) (Qb0 xs zs))=true
    have a1:isLe (cmpD x y)=true:=by cases e:cmpD x y<;>rw [e] at h1<;>first | rfl | cases h1
    have a2:isLe (cmpD y z)=true:=by cases e:cmpD y z<;>rw [e] at h2<;>first | rfl | cases h2
    have a3:=Qep x y z a1 a2
    cases e1:cmpD x y with
    | gt=>rw [e1] at a1;cases a1
    | lt=>
      have:cmpD x z=.lt:=le_lt (a:=cmpD x y) a1 (fun q=>by
        rw [<- QcI x z] at q
        rw [<- QcI x y]
        exact Qep y z x a2 q) e1
      rw [this];rfl
    | eq=>
      cases e2:cmpD y z with
      | gt=>rw [e2] at a2;cases a2
      | lt=>
        have:cmpD x z=.lt:=le_lt (a:=cmpD y z) a2 (fun q=>by
          rw [<- QcI x z] at q
          rw [<- QcI y z]
          exact Qep z x y q a1) e2
        rw [this];rfl
      | eq=>
        rw [e1] at h1
        rw [e2] at h2
        cases e3:cmpD x z with
        | gt=>rw [e3] at a3;cases a3
        | lt=>rfl
        | eq=>exact Qgl xs ys zs h1 h2
  termination_by x y z=>sizeOf x+sizeOf y+sizeOf z
end
theorem isL_sw (o:Ordering):isL (sw o) = !isLe o:=by cases o<;>rfl
theorem Qkj (x y:PyData):ltD y x = !isLe (cmpD x y):=by unfold ltD;rw [QcI x y,isL_sw]
theorem QjO (x y:PyData) (h:ltD x y=true):ltD y x=false:=by
  rw [Qkj]
  unfold ltD at h
  cases e:cmpD x y<;>rw [e] at h<;>first | rfl | cases h
theorem ltD_nt (x y z:PyData) (h1:ltD y x=false) (h2:ltD z y=false):ltD z x=false:=by
  rw [Qkj] at h1 h2 ⊢
  rw [Qep x y z (by simpa using h1) (by simpa using h2)]
  rfl
mutual
def cmpK:PyData->PyData->Bool
  | .int _,.int _=>true
  | .tuple a,.tuple b=>QbQ a b
  | _,_=>false
def QbQ:List PyData->List PyData->Bool
  | x::xs,y::ys=>cmpK x y&&QbQ xs ys
  | _,_=>true
end
def isE:Ordering->Bool
  | .eq=>true
  | _=>false
theorem QlY (a b:Ordering):isE (thn a b)=(isE a&&isE b):=by cases a<;>rfl
mutual
theorem Qii:∀ (x y:PyData),cmpK x y=true->PyData.eqv x y=isE (cmpD x y)
  | .int i,.int j,_=>by
    show (i == j)=isE (cmpI i j)
    unfold cmpI
    by_cases h:i=j
    · subst h;simp [isE]
    · rw [beq_eq_false_iff_ne.mpr h]
      split
      · rfl
      · rfl
  | .tuple a,.tuple b,h=>Qih a b h
  | .int _,.tuple _,h=>by cases h
  | .tuple _,.int _,h=>by cases h
  | .int _,.none,h=>by cases h
  | .int _,.bool _,h=>by cases h
  | .int _,.str _,h=>by cases h
  | .int _,.list _,h=>by cases h
  | .int _,.dict _,h=>by cases h
  | .tuple _,.none,h=>by cases h
  | .tuple _,.bool _,h=>by cases h
  | .tuple _,.str _,h=>by cases h
  | .tuple _,.list _,h=>by cases h
  | .tuple _,.dict _,h=>by cases h
  | .none,y,h=>by cases y<;>cases h
  | .bool _,y,h=>by cases y<;>cases h
  | .str _,y,h=>by cases y<;>cases h
  | .list _,y,h=>by cases y<;>cases h
  | .dict _,y,h=>by cases y<;>cases h
theorem Qih:∀ (xs ys:List PyData),QbQ xs ys=true->PyData.eqvAll xs ys=isE (Qb0 xs ys)
  | [],[],_=>rfl
  | [],_::_,_=>rfl
  | _::_,[],_=>rfl
  | x::xs,y::ys,h=>by
    have h:=Bool.and_eq_true_iff.mp (show (cmpK x y&&QbQ xs ys)=true from h)
    show (PyData.eqv x y&&PyData.eqvAll xs ys)=isE (thn (cmpD x y) (Qb0 xs ys))
    rw [Qii x y h.1,Qih xs ys h.2,QlY]
end
end Dl
namespace Rt
open PySem PySem.Spec PySem.Calls PyProof.Rows Dl
theorem Qdl:∀ {ds:List PyData} {d:PyData},d∈ds->d.depth<=PyData.depthAll ds
  | x::ds,d,h=>by
    show d.depth<=max x.depth (PyData.depthAll ds)
    rcases List.mem_cons.mp h with z | z
    · subst z;exact Nat.le_max_left _ _
    · exact Nat.le_trans (Qdl z) (Nat.le_max_right _ _)
theorem Qbg {h:Heap}:∀ {vs:List Value} {ds:List PyData} {as:List Addr},ReadsAll h vs ds as->vs.length=ds.length
  | _,_,_,.nil=>rfl
  | _,_,_,.cons _ r=>by rw [List.length_cons,List.length_cons,Qbg r]
section
open PySem.SeqAt
open PySem.AutoSeq1 (wpAny_loadPart')
open PySem.MeetsSeq PySem.MeetsSeq2 PySem.MeetsSeq3
theorem QcO {l b:Addr} {items items2:Array Value} {n n2:Nat} {dd dd2:Option Addr} {sl sl2:Array (Option Value)} {ds es:List PyData} {as bs:List Addr} {N:Nat} (hk:QbQ ds es=true) (hc1:PyData.canLayAll0 ds=true) (hc2:PyData.canLayAll0 es=true) (hd:PyData.depthAll ds<=N)
    (ih:∀ (x y:PyData) (A:Around) (s:Shared) (v u:Value) (p q:List Addr),Reads s.heap v x p->Reads s.heap u y q->x.canLay0=true->y.canLay0=true->cmpK x y=true->x.depth<=N->A.units+2*N+2<cLine->∀ (prog:Program) (w:World) (E Q:Value->Shared->Prop),Q (.bool (ltD x y)) s->wpAny (model prog w) A (richCompare .Lt v u) Q E s) :
    Meets (Builtin.«tuple.__lt__» ⟨[.ref l,.ref b],[]⟩)
      (fun A R s=>s.heap.get? l=some { cls:=.type "tuple",dict:=dd,data:=.seq items n,slots:=sl }/\s.heap.get? b=some { cls:=.type "tuple",dict:=dd2,data:=.seq items2 n2,slots:=sl2 }/\ReadsAll s.heap items.toList ds as/\ReadsAll s.heap items2.toList es bs/\A.units+2*N+4<cLine /\
        R (.ok (.ret (.bool (ltDs ds es)))) s):=
  .of_wp fun prog w A R s h=>by
    obtain ⟨hp,g,d,tk,os⟩:=s;obtain ⟨hl,hb,hr1,hr2,hu,h⟩:=h
    have f2:=AutoSeq1.sub_tuple_tuple
    have hu1:A.in1.units+2*N+2<cLine:=by show A.units+1+2*N+2<cLine;omega
    have z1:items.size=ds.length:=by rw [<- Qbg hr1];simp
    have z2:items2.size=es.length:=by rw [<- Qbg hr2];simp
    wp_walk using wpAny_loadPart' hl,wpAny_loadPart' hb,wpAny_forIn_list _ (fun rest b s'=>b.1=none/\s'=⟨hp,g,d,tk,os⟩/\∃ (vs ws:List Value) (xs ys:List PyData) (p q:List Addr),rest=vs.zip ws /\
      ReadsAll hp vs xs p/\ReadsAll hp ws ys q/\QbQ xs ys=true/\PyData.canLayAll0 xs=true/\PyData.canLayAll0 ys=true/\PyData.depthAll xs<=N/\xs.length+items2.size=ys.length+items.size/\R (.ok (.ret (.bool (ltDs xs ys)))) ⟨hp,g,d,tk,os⟩) _
    case turn=>
      rintro ⟨y,x⟩ rest b s' ⟨hb',rfl,vs,ws,xs,ys,p,q,hz,hvi,hwi,hkk,c1,c2,hdd,hlen,hR⟩
      cases hvi with
      | nil=>rw [List.zip_nil_left] at hz;cases hz
      | @cons v0 vs0 d1 ds1 as1 as2 r1 hvi'=>
        cases hwi with
        | nil=>rw [List.zip_nil_right] at hz;cases hz
        | @cons u0 us0 d2 ds2 bs1 bs2 r2 hwi'=>
          rw [List.zip_cons_cons] at hz
          injection hz with hyx hrest
          injection hyx with hy hx
          subst hy hx
          have hkk:=Bool.and_eq_true_iff.mp (show (cmpK d1 d2&&QbQ ds1 ds2)=true from hkk)
          simp only [PyData.canLayAll0,Bool.and_eq_true] at c1 c2
          have dm1:d1.depth<=N:=Nat.le_trans (Qdl (ds:=d1::ds1) (.head _)) hdd
          have dm2:PyData.depthAll ds1<=N:=Nat.le_trans (show PyData.depthAll ds1<=max d1.depth (PyData.depthAll ds1) from Nat.le_max_right _ _) hdd
          simp only [List.length_cons] at hlen
          have he:=SeqAt.eqAt_reads d1 d2 A.in1 ⟨hp,g,d,tk,os⟩ y x _ _ r1 r2 c1.1 c2.1 (by omega)
          have hR:R (.ok (.ret (.bool (isL (thn (cmpD d1 d2) (Qb0 ds1 ds2)))))) ⟨hp,g,d,tk,os⟩:=hR
          rw [Qii d1 d2 hkk.1] at he
          have hri:=fun E Q=>ih d1 d2 A.in1 ⟨hp,g,d,tk,os⟩ y x _ _ r1 r2 c1.1 c2.1 hkk.1 dm1 hu1 prog w E Q
          unfold ltD at hri
          cases e1:cmpD d1 d2 with
          | lt=>
            rw [e1] at he hR hri
            refine wpAny_bind (he prog w _ _ ?_)
            wp_walk using hri
            exact ⟨_,rfl,hR⟩
          | gt=>
            rw [e1] at he hR hri
            refine wpAny_bind (he prog w _ _ ?_)
            wp_walk using hri
            exact ⟨_,rfl,hR⟩
          | eq=>
            rw [e1] at he hR
            refine wpAny_bind (he prog w _ _ ?_)
            wp_walk
            exact ⟨rfl,rfl,_,_,_,_,_,_,hrest,hvi',hwi',hkk.2,c1.2,c2.2,dm2,by omega,hR⟩
    case fin=>
      rintro ⟨b1,b2⟩ s' ⟨hb',rfl,vs,ws,xs,ys,p,q,hz,hvi,hwi,hkk,c1,c2,hdd,hlen,hR⟩
      simp only at hb'
      subst hb'
      have hv:ltDs xs ys=decide (items.size<items2.size):=by
        cases hvi with
        | nil=>
          cases hwi with
          | nil=>
            simp only [List.length_nil] at hlen
            exact (decide_eq_false (by omega)).symm
          | cons r2 hw=>
            simp only [List.length_nil,List.length_cons] at hlen
            exact (decide_eq_true (by omega)).symm
        | cons r1 hv=>
          cases hwi with
          | nil=>
            simp only [List.length_nil,List.length_cons] at hlen
            exact (decide_eq_false (by omega)).symm
          | cons r2 hw=>
            rw [List.zip_cons_cons] at hz
            cases hz
      rw [hv] at hR
      wp_walk
      exact ⟨_,rfl,by simpa [Builtin.Tuple.tupleCompareSizes] using hR⟩
    case h=>
      exact ⟨rfl,rfl,items.toList,items2.toList,ds,es,as,bs,rfl,hr1,hr2,hk,hc1,hc2,hd,by omega,h⟩
end
end Rt
namespace Rt
open PySem PySem.Spec PySem.Calls PySem.W PyProof.Rows Dl
mutual
def okK:PyData->Bool
  | .int _=>true
  | .tuple ds=>okKs ds
  | _=>false
def okKs:List PyData->Bool
  | []=>true
  | d::ds=>okK d&&okKs ds
end
mutual
theorem Qcy {h h':Heap} (k:∀ b o,h.get? b=some o->h'.get? b=some o):∀ (d:PyData) (v:Value) (as:List Addr),okK d=true->Reads h v d as->Reads h' v d as
  | .int _,_,_,_,.int i t=>.int i t
  | .tuple ds,_,_,hk,.tuple (vs:=vs) e c d r=>.tuple (k _ _ e) c d (Qbj k ds _ _ hk r)
  | .none,_,_,hk,_=>by cases hk
  | .bool _,_,_,hk,_=>by cases hk
  | .str _,_,_,hk,_=>by cases hk
  | .list _,_,_,hk,_=>by cases hk
  | .dict _,_,_,hk,_=>by cases hk
theorem Qbj {h h':Heap} (k:∀ b o,h.get? b=some o->h'.get? b=some o):∀ (ds:List PyData) (vs:List Value) (as:List Addr),okKs ds=true->ReadsAll h vs ds as->ReadsAll h' vs ds as
  | [],_,_,_,.nil=>.nil
  | d::ds,_,_,hk,.cons r rs=>by
    have hk:=Bool.and_eq_true_iff.mp (show (okK d&&okKs ds)=true from hk)
    exact .cons (Qcy k d _ _ hk.1 r) (Qbj k ds _ _ hk.2 rs)
end
theorem QkW:∀ (N:Nat) (x y:PyData) (A:Around) (s:Shared) (v u:Value) (p q:List Addr),Reads s.heap v x p->Reads s.heap u y q->x.canLay0=true->y.canLay0=true->cmpK x y=true->x.depth<=N->A.units+2*N+2<cLine->∀ (prog:Program) (w:World) (E Q:Value->Shared->Prop),Q (.bool (ltD x y)) s->wpAny (model prog w) A (richCompare .Lt v u) Q E s:=by
  intro N
  have intz:∀ (i j:Int) (A:Around) (s:Shared) (v u:Value) (p q:List Addr),Reads s.heap v (.int i) p->Reads s.heap u (.int j) q->∀ (prog:Program) (w:World) (E Q:Value->Shared->Prop),Q (.bool (ltD (.int i) (.int j))) s->wpAny (model prog w) A (richCompare .Lt v u) Q E s:=by
    intro i j A s v u p q r1 r2 prog w E Q h
    cases r1
    cases r2
    refine HT.rcLt_int A s i _ j _ prog w E Q ?_
    have e:ltD (.int i) (.int j)=decide (i<j):=by
      show isL (cmpI i j)=_
      unfold cmpI
      by_cases z:i<j
      · rw [if_pos z,decide_eq_true z];rfl
      · rw [if_neg z,decide_eq_false z]
        split<;>rfl
    rw [e] at h
    exact h
  induction N with
  | zero=>
    intro x y A s v u p q r1 r2 c1 c2 hk hd hu prog w E Q h
    cases x<;>cases y<;>first | (cases hk;done) | skip
    · exact intz _ _ A s v u p q r1 r2 prog w E Q h
    · unfold PyData.depth at hd;omega
  | succ N ih=>
    intro x y A s v u p q r1 r2 c1 c2 hk hd hu prog w E Q h
    cases x<;>cases y<;>first | (cases hk;done) | skip
    · exact intz _ _ A s v u p q r1 r2 prog w E Q h
    · rename_i ds es
      cases r1 with
      | @tuple a o vs n _ _ ho hc hd' ra=>
        cases r2 with
        | @tuple b o2 vs2 n2 _ _ ho2 hc2 hd2 rb=>
          obtain ⟨cls,dd,data,sl⟩:=o
          obtain ⟨cls2,dd2,data2,sl2⟩:=o2
          simp only at hc hd' hc2 hd2
          subst hc hd' hc2 hd2
          have dd3:PyData.depthAll ds<=N:=by unfold PyData.depth at hd;omega
          exact richCompare_meets_room (op:=.Lt) ⟨_,ho,rfl⟩ ⟨_,ho2,rfl⟩ PySem.F.slot_tuple_lt PySem.F.entry_tuple_lt (PySem.F.args_tuple_lt_2 _ _) (QcO (N:=N) hk c1 c2 dd3 ih)
            ⟨ho,ho2,ra,rb,by omega,show Value.bool (ltDs ds es)≠Value.notImplemented/\Q (.bool (ltDs ds es)) s from ⟨(fun x=>nomatch x),h⟩⟩ (by omega)
theorem QgF {N:Nat} {ds es:List PyData} {A:Around} {s:Shared} {v u:Value} {p q:List Addr} (r1:Reads s.heap v (.tuple ds) p) (r2:Reads s.heap u (.tuple es) q) (c1:PyData.canLayAll0 ds=true) (c2:PyData.canLayAll0 es=true) (hk:QbQ ds es=true) (hd:PyData.depthAll ds<=N) (hu:A.units+2*N+4<cLine) {prog:Program} {w:World} {E:Value->Shared->Prop} {C:Bool->Shared->Prop} (h:C (ltDs ds es) s):wpAny (model prog w) A (oneLt' true v u) C E s:=by
  cases r1 with
  | @tuple a o vs n _ _ ho hc hd' ra=>
    cases r2 with
    | @tuple b o2 vs2 n2 _ _ ho2 hc2 hd2 rb=>
      obtain ⟨cls,dd,data,sl⟩:=o
      obtain ⟨cls2,dd2,data2,sl2⟩:=o2
      simp only at hc hd' hc2 hd2
      subst hc hd' hc2 hd2
      rw [oneLt'_eq]
      simp only [if_true]
      refine wpAny_bind (wpAny_cRoomFor (by omega) ?_)
      refine wpAny_bind (wpAny_callSpecialIfBound?_slot ⟨_,ho,rfl⟩ PySem.F.slot_tuple_lt (call_meets PySem.F.slot_tuple_lt ⟨_,ho,rfl⟩ PySem.F.entry_tuple_lt (PySem.F.args_tuple_lt_2 _ _) (QcO (N:=N) hk c1 c2 hd fun x y=>QkW N x y) ⟨ho,ho2,ra,rb,hu,?_⟩))
      exact wpAny_truthy_bool h
section
variable {prog:Program} {w:World} {A:Around} {E:Value->Shared->Prop} {s:Shared}
theorem Qkg {N:Nat} {x y:PyData} {v u:Value} {p q:List Addr} (r1:Reads s.heap v x p) (r2:Reads s.heap u y q) (c1:x.canLay0=true) (c2:y.canLay0=true) (hk:cmpK x y=true) (hd:x.depth<=N) (hu:A.units+2*N+2<cLine) {C:Bool->Shared->Prop} (h:C (ltD x y) s):wpAny (model prog w) A (oneLt' false v u) C E s:=by
  refine kat_one v u ?_
  exact QkW N x y A s v u p q r1 r2 c1 c2 hk hd hu prog w E _ h
theorem Qh0 (i j:Int):ltD (.int i) (.int j)=decide (i<j):=by
  show isL (cmpI i j)=_
  unfold cmpI
  by_cases z:i<j
  · rw [if_pos z,decide_eq_true z];rfl
  · rw [if_neg z,decide_eq_false z]
    split<;>rfl
def Ql3:List PyData->Prop
  | .int _::_=>True
  | _=>False
theorem Qkl {b:Bool} {n1 n2 N:Nat} {C:Bool->Shared->Prop} (hu:A.units+2*N+2<cLine):∀ (vs us:List Value) (xs ys:List PyData) (p q:List Addr) (i:Nat),ReadsAll s.heap vs xs p->ReadsAll s.heap us ys q->PyData.canLayAll0 xs=true->PyData.canLayAll0 ys=true->QbQ xs ys=true->PyData.depthAll xs<=N->(b=true->i=0->Ql3 xs)->xs.length+n2=ys.length+n1 ->
    C (ltDs xs ys) s->KatLex prog w A b (decide (n1<n2)) C (vs.zip us) i s
  | [],us,xs,ys,p,q,i,r1,r2,c1,c2,hk,hd,hb,hl,h=>by
    cases r1
    refine kat_nil ?_
    cases r2 with
    | nil=>rw [show decide (n1<n2)=false from decide_eq_false (by simp at hl;omega)];exact h
    | cons r rs=>rw [show decide (n1<n2)=true from decide_eq_true (by simp at hl;omega)];exact h
  | v::vs,[],xs,ys,p,q,i,r1,r2,c1,c2,hk,hd,hb,hl,h=>by
    cases r2
    cases r1
    refine kat_nil ?_
    rw [show decide (n1<n2)=false from decide_eq_false (by simp at hl;omega)];exact h
  | v::vs,u::us,xs,ys,p,q,i,r1,r2,c1,c2,hk,hd,hb,hl,h=>by
    cases r1 with
    | @cons _ _ d1 ds1 as1 as2 r1 rs1=>
      cases r2 with
      | @cons _ _ d2 ds2 bs1 bs2 r2 rs2=>
        have hk:=Bool.and_eq_true_iff.mp (show (cmpK d1 d2&&QbQ ds1 ds2)=true from hk)
        simp only [PyData.canLayAll0,Bool.and_eq_true] at c1 c2
        have dm1:d1.depth<=N:=Nat.le_trans (Qdl (ds:=d1::ds1) (.head _)) hd
        have dm2:PyData.depthAll ds1<=N:=Nat.le_trans (show PyData.depthAll ds1<=max d1.depth (PyData.depthAll ds1) from Nat.le_max_right _ _) hd
        have h:C (isL (thn (cmpD d1 d2) (Qb0 ds1 ds2))) s:=h
        have one:C (ltD d1 d2) s->wpAny (model prog w) A (oneLt' (b&&i == 0) v u) C (fun _ _=>False) s:=fun hc=>by
          cases e:(b&&i == 0) with
          | false=>exact Qkg (N:=N) r1 r2 c1.1 c2.1 hk.1 dm1 hu hc
          | true=>
            have e:=Bool.and_eq_true_iff.mp e
            have hh:=hb e.1 (beq_iff_eq.mp e.2)
            cases d1<;>first | exact hh.elim | skip
            cases d2<;>first | (cases hk.1;done) | skip
            cases r1
            cases r2
            rw [Qh0] at hc
            exact oneLt_int hc
        refine kat_cons (SeqAt.eqAt_reads d1 d2 A s v u _ _ r1 r2 c1.1 c2.1 (by omega) prog w _ _ ?_)
        rw [Qii d1 d2 hk.1]
        cases e1:cmpD d1 d2 with
        | lt=>rw [e1] at h;exact kat_no (one (by unfold ltD;rw [e1];exact h))
        | gt=>rw [e1] at h;exact kat_no (one (by unfold ltD;rw [e1];exact h))
        | eq=>
          rw [e1] at h
          refine kat_yes (Qkl hu vs us ds1 ds2 _ _ (i+1) rs1 rs2 c1.2 c2.2 hk.2 dm2 (fun _ z=>by omega) (by simp only [List.length_cons] at hl;omega) h)
def Qj1 (ds:List PyData) (κ:SortKind):Prop:=κ=general'∨κ=oneType'∨κ=tuples' false∨(κ=tuples' true/\∀ d∈ds,∃ es,d=.tuple es/\Ql3 es)
theorem key_lt {N:Nat} {ds:List PyData} {κ:SortKind} {x y:PyData} {v u:Value} {p q:List Addr} (su:Qj1 ds κ) (hx:x∈ds) (r1:Reads s.heap v x p) (r2:Reads s.heap u y q) (c1:x.canLay0=true) (c2:y.canLay0=true) (hk:cmpK x y=true) (tb:∀ b,κ=tuples' b->∃ es,x=.tuple es) (hd:x.depth<=N) (hu:A.units+2*N+4<cLine) {C:Bool->Shared->Prop} (h:C (ltD x y) s) :
    wpAny (model prog w) A (keyLt' κ v u) C E s:=by
  have tup:∀ b,κ=tuples' b->(b=true->∃ es,x=.tuple es/\Ql3 es)->wpAny (model prog w) A (keyLt' κ v u) C E s:=fun b hb hh=>by
    subst hb
    obtain ⟨es,rfl⟩:=tb b rfl
    cases y<;>first | (cases hk;done) | skip
    rename_i fs
    cases r1 with
    | @tuple a o vs n _ _ ho hc hd' ra=>
      cases r2 with
      | @tuple b2 o2 vs2 n2 _ _ ho2 hc2 hd2 rb=>
        have dd3:PyData.depthAll es<=N:=by unfold PyData.depth at hd;omega
        refine kat_lt ho hd' ho2 hd2 (Qkl (N:=N) (by omega) _ _ es fs _ _ 0 ra rb c1 c2 hk dd3 (fun e _=>?_) ?_ h)
        · obtain ⟨es',e',hh⟩:=hh e
          cases e'
          exact hh
        · have e1:=Qbg ra
          have e2:=Qbg rb
          rw [Array.length_toList] at e1 e2
          omega
  rcases su with rfl | rfl | rfl | ⟨rfl,hall⟩
  · exact Qkg (N:=N) r1 r2 c1 c2 hk hd (by omega) h
  · cases x<;>cases y<;>first | (cases hk;done) | skip
    · cases r1
      cases r2
      rw [Qh0] at h
      exact oneLt_int h
    · have dd3:∀ {es:List PyData},(PyData.tuple es).depth<=N->PyData.depthAll es<=N:=fun {es} h=>by unfold PyData.depth at h;omega
      exact QgF (N:=N) r1 r2 c1 c2 hk (dd3 hd) hu h
  · exact tup false rfl fun e=>by cases e
  · exact tup true rfl fun _=>hall x hx
end
section
variable {M:Model} {A:Around} {E:Value->Shared->Prop} {s:Shared}
theorem QdL {α β:Type} {f:α->Sem β} {g:α->β}:∀ (l:List α) {Q:List β->Shared->Prop},(∀ v∈l,∀ (Q':β->Shared->Prop),Q' (g v) s->wpAny M A (f v) Q' E s)->Q (l.map g) s->wpAny M A (l.mapM f) Q E s
  | [],_,_,h=>by rw [List.mapM_nil];exact wpAny_pure h
  | x::l,Q,hf,h=>by
    rw [List.mapM_cons]
    exact wpAny_bind (hf x (.head _) _ (wpAny_bind (QdL l (Q:=fun bs s'=>wpAny M A (pure (g x::bs)) Q E s') (fun v hv=>hf v (.tail _ hv)) (wpAny_pure h))))
end
def fst1 (h:Heap) (v:Value):Option Value:=match v with
  | .ref a=>(match h.get? a with
    | some o=>(match o.data with
      | .seq xs _=>xs[0]?
      | _=>none)
    | none=>none)
  | _=>none
def tyV (h:Heap) (v:Value):Value:=match v with
  | .int _ _=>.type "int"
  | .ref a=>(match h.get? a with
    | some o=>o.cls
    | none=>.none)
  | _=>.none
theorem QaY:∀ {ds:List PyData},okKs ds=true->∀ d∈ds,okK d=true
  | x::ds,h,d,hd=>by
    have h:=Bool.and_eq_true_iff.mp (show (okK x&&okKs ds)=true from h)
    rcases List.mem_cons.mp hd with z | z
    · rw [z];exact h.1
    · exact QaY h.2 d z
theorem Qfo:∀ {ds:List PyData},(∀ d∈ds,okK d=true)->okKs ds=true
  | [],_=>rfl
  | x::ds,h=>by
    show (okK x&&okKs ds)=true
    rw [h x (.head _),Qfo fun d hd=>h d (.tail _ hd)];rfl
theorem QaF {h:Heap}:∀ {vs:List Value} {ds:List PyData} {as:List Addr},ReadsAll h vs ds as->∀ v∈vs,∃ d∈ds,∃ bs,Reads h v d bs
  | _,_,_,.cons (d:=d) r rs,v,hv=>by
    rcases List.mem_cons.mp hv with z | z
    · rw [z];exact ⟨d,.head _,_,r⟩
    · obtain ⟨d',hd,bs,r'⟩:=QaF rs v z
      exact ⟨d',.tail _ hd,bs,r'⟩
theorem Qcn {h:Heap}:∀ {vs:List Value} {ds:List PyData} {as:List Addr},ReadsAll h vs ds as->∀ d∈ds,∃ v∈vs,∃ bs,Reads h v d bs
  | _,_,_,.cons (d:=d) (v:=v) r rs,d',hd=>by
    rcases List.mem_cons.mp hd with z | z
    · rw [z];exact ⟨v,.head _,_,r⟩
    · obtain ⟨v',hv,bs,r'⟩:=Qcn rs d' z
      exact ⟨v',.tail _ hv,bs,r'⟩
section
variable {prog:Program} {w:World} {A:Around} {E:Value->Shared->Prop} {s:Shared}
theorem Qfd {v:Value} {d:PyData} {bs:List Addr} (r:Reads s.heap v d bs) (hk:okK d=true) {Q:Value->Shared->Prop} (q:Q (tyV s.heap v) s):wpAny (model prog w) A (typeOf v) Q E s:=by
  cases r<;>first | (cases hk;done) | skip
  · exact wpAny_pure q
  · rename_i a o vs n xs ho hc hd ra
    refine wpAny_typeOf_ref ho ?_
    have e:tyV s.heap (.ref a)=o.cls:=by unfold tyV;simp only [ho]
    rw [e] at q
    exact q
theorem Qf7 {vs:List Value} {ds:List PyData} {as:List Addr} {Q:SortKind->Shared->Prop} (ra:ReadsAll s.heap vs ds as) (hk:okKs ds=true) (ht:∀ d∈ds,∃ es,d=.tuple es) (h:∀ κ,Qj1 ds κ->Q κ s):wpAny (model prog w) A (keyKind' vs.toArray) Q E s:=by
  have rd:=QaF ra
  have fs:∀ v∈vs,∀ (Q':Option Value->Shared->Prop),Q' (fst1 s.heap v) s->wpAny (model prog w) A (firstOfTuple' v) Q' E s:=fun v hv Q' q=>by
    obtain ⟨d,hd,bs,r⟩:=rd v hv
    obtain ⟨es,rfl⟩:=ht d hd
    cases r with
    | @tuple a o xs n _ _ ho hc hd' r'=>
      rw [kas_first_eq]
      refine wpAny_bind (wpAny_typeOf_ref ho ?_)
      rw [hc]
      rw [if_neg (by decide)]
      refine wpAny_bind (listItems_at ho hd' (wpAny_pure ?_))
      have e:fst1 s.heap (.ref a)=xs[0]? := by unfold fst1;simp only [ho,hd']
      rw [<- e]
      exact q
  rw [keyKind'_eq,List.mapM_toArray,map_eq_pure_bind]
  refine wpAny_bind (wpAny_bind (QdL (g:=fst1 s.heap) vs fs (wpAny_pure ?_)))
  by_cases z:((vs.map (fst1 s.heap)).toArray.all fun x=>x.isSome)=true
  · rw [if_pos z]
    refine wpAny_bind (wpAny_rule ?_)
    have hfm:((vs.map (fst1 s.heap)).toArray.filterMap id)=(vs.filterMap (fst1 s.heap)).toArray:=by simp [List.filterMap_map]
    have heads:∀ u∈vs.filterMap (fst1 s.heap),∃ d bs,Reads s.heap u d bs/\okK d=true:=fun u hu=>by
      obtain ⟨v,hv,e⟩:=List.mem_filterMap.mp hu
      obtain ⟨d,hd,bs,r⟩:=rd v hv
      obtain ⟨es,rfl⟩:=ht d hd
      have ko:=QaY hk _ hd
      cases r with
      | @tuple a o xs n _ _ ho hc hd' r'=>
        have e2:fst1 s.heap (.ref a)=xs[0]? := by unfold fst1;simp only [ho,hd']
        rw [e2] at e
        have hm:u∈xs.toList:=by rw [<- Array.getElem?_toList] at e;exact List.mem_of_getElem? e
        obtain ⟨d2,hd2,bs2,r2⟩:=QaF r' u hm
        exact ⟨d2,bs2,r2,QaY ko _ hd2⟩
    rw [hfm,oneTypeOnly'_eq,List.mapM_toArray,map_eq_pure_bind]
    refine wpAny_bind (wpAny_bind (wpAny_bind (QdL (g:=tyV s.heap) _ (fun u hu Q' q=>?_) (wpAny_pure ?_))))
    · obtain ⟨d,bs,r,ko⟩:=heads u hu
      exact Qfd r ko q
    · have fin:∀ o:Option Value,(o.any (· != Value.type "tuple")=true->∀ u∈vs.filterMap (fst1 s.heap),tyV s.heap u≠Value.type "tuple")->Q (tuples' (o.any (· != Value.type "tuple"))) s:=fun o ho=>by
        cases e:o.any (· != Value.type "tuple") with
        | false=>exact h _ (.inr (.inr (.inl rfl)))
        | true=>
          refine h _ (.inr (.inr (.inr ⟨rfl,fun d hd=>?_⟩)))
          obtain ⟨es,rfl⟩:=ht d hd
          obtain ⟨v,hv,bs,r⟩:=Qcn ra _ hd
          refine ⟨es,rfl,?_⟩
          have ko:=QaY hk _ hd
          cases r with
          | @tuple a oo xs n _ _ ho' hc hd' r'=>
            have e2:fst1 s.heap (.ref a)=xs[0]? := by unfold fst1;simp only [ho',hd']
            have some1:(fst1 s.heap (.ref a)).isSome=true:=by
              have z':=Array.all_eq_true_iff_forall_mem.mp z (fst1 s.heap (Value.ref a)) (by simp;exact ⟨_,hv,rfl⟩)
              exact z'
            rw [e2] at some1
            obtain ⟨u,hu⟩:=Option.isSome_iff_exists.mp some1
            have hl:=(Array.getElem?_eq_some_iff.mp hu).1
            have nt:=ho e u (List.mem_filterMap.mpr ⟨_,hv,by rw [e2];exact hu⟩)
            have hu':xs.toList[0]? = some u:=by rw [Array.getElem?_toList];exact hu
            cases hx:xs.toList with
            | nil=>rw [hx] at hu';cases hu'
            | cons u0 us=>
              rw [hx] at hu' r'
              have e0:u0=u:=by simpa using hu'
              subst e0
              cases r' with
              | @cons _ _ d1 ds1 as1 as2 r1 rs1=>
                have ko1:=(Bool.and_eq_true_iff.mp (show (okK d1&&okKs ds1)=true from ko)).1
                cases r1<;>first | (cases ko1;done) | skip
                · trivial
                · rename_i a2 o2 vs2 n2 xs2 ho2 hc2 hd2 ra2
                  exfalso
                  apply nt
                  unfold tyV
                  simp only [ho2]
                  exact hc2
      cases hg:((vs.filterMap (fst1 s.heap)).map (tyV s.heap)).toArray[0]? with
      | none=>exact wpAny_pure (wpAny_pure (fin none fun e=>by cases e))
      | some t=>
        dsimp only
        refine wpAny_pure (wpAny_pure (fin _ fun e u hu=>?_))
        split at e
        · rename_i hall
          have ne:(t != Value.type "tuple")=true:=e
          have te:(tyV s.heap u == t)=true:=by
            have:=Array.all_eq_true_iff_forall_mem.mp hall (tyV s.heap u) (by simp;exact ⟨u,by simpa using List.mem_filterMap.mp hu,rfl⟩)
            exact this
          rw [eq_of_beq te]
          simpa using ne
        · cases e
  · rw [if_neg z]
    split
    · exact wpAny_pure (h _ (.inl rfl))
    · rw [oneTypeOnly'_eq,List.mapM_toArray,map_eq_pure_bind]
      refine wpAny_bind (wpAny_bind (wpAny_bind (QdL (g:=tyV s.heap) _ (fun v hv Q' q=>?_) (wpAny_pure ?_))))
      · obtain ⟨d,hd,bs,r⟩:=rd v hv
        exact Qfd r (QaY hk _ hd) q
      · have fin:∀ b:Bool,wpAny (model prog w) A (pure (if b=true then oneType' else general')) Q E s:=fun b=>by
          cases b
          · exact wpAny_pure (h _ (.inl rfl))
          · exact wpAny_pure (h _ (.inr (.inl rfl)))
        split
        · exact wpAny_pure (fin _)
        · exact wpAny_pure (fin _)
end
end Rt
namespace Rt
open PySem PySem.Spec PySem.Calls PySem.W PyProof.Rows Dl Rs
section
variable {prog:Program} {w:World} {A:Around} {E:Value->Shared->Prop} {s:Shared}
def prs (vs:List Value):Array Keyed:=vs.toArray.zip vs.toArray
theorem QcT (vs:List Value):(prs vs).toList=vs.zip vs:=by unfold prs;rw [Array.toList_zip]
theorem Qk6 (vs:List Value):(prs vs).toList.map (·.2)=vs:=by rw [QcT];exact List.map_snd_zip (Nat.le_refl _)
theorem Qcj:∀ {vs:List Value} {p:Keyed},p∈vs.zip vs->p.1=p.2/\p.2∈vs
  | v::vs,p,h=>by
    rw [List.zip_cons_cons] at h
    rcases List.mem_cons.mp h with z | z
    · rw [z];exact ⟨rfl,.head _⟩
    · exact ⟨(Qcj z).1,.tail _ (Qcj z).2⟩
theorem Qeg {a:Addr} {vs:List Value} {n:Nat} {P:PySem.Fin->Shared->Prop} (ho:s.heap.get? a=some (seqObj "list" vs.toArray n)) (hz:vs.length<=sizeLine) {c:Keyed->Keyed->Bool} (oc:Ord c)
    (hkind:∀ h':Heap,Kept a s.heap h'->∀ (Q':SortKind->Shared->Prop) (E':Value->Shared->Prop),(∀ κ,Asks prog w A { s with heap:=h' } κ (prs vs) c->Q' κ { s with heap:=h' })->wpAny (model prog w) A (keyKind' vs.toArray) Q' E' { s with heap:=h' })
    (h:∀ arr:Array Keyed,arr.Perm (prs vs)->Sg c arr 0 arr.size->∀ (h':Heap) (e:Nat),Kept a s.heap h'->h'.get? a=some (seqObj "list" (arr.toList.map (·.2)).toArray e)->P (.done (.ret .none)) { s with heap:=h' }) :
    wpAny (model prog w) A (Builtin.«list.sort» ⟨[.ref a],[]⟩) P E s:=by
  have ha:a<s.heap.objs.size:=Heap.lt_size ho
  obtain ⟨e1,ho1⟩:∃ e1,(s.heap.update a (Obj.mapSeq fun _=>(#[]:Array Value))).get? a=some (seqObj "list" #[] e1):=⟨_,get?_update_seq ho fun _=>#[]⟩
  have K3:Kept a s.heap (((s.heap.update a (Obj.mapSeq fun _=>(#[]:Array Value))).push (seqObj "tuple" vs.toArray 0)).push (seqObj "list" #[] 0)):=(QdW _).trans ((QeF _).trans (QeF _))
  have ho6:(((s.heap.update a (Obj.mapSeq fun _=>(#[]:Array Value))).push (seqObj "tuple" vs.toArray 0)).push (seqObj "list" #[] 0)).get? a=some (seqObj "list" #[] e1):=Heap.get?_push_of_some _ (Heap.get?_push_of_some _ ho1)
  rw [list_sort_plain]
  refine wpAny_bind (listItems_at ho rfl ?_)
  refine wpAny_bind (listUpdate_at ho rfl ?_ (by rw [List.size_toArray];exact hz) (Nat.zero_le _))
  refine wpAny_bind (seqEpoch_at ho1 rfl ?_)
  refine wpAny_bind (wpAny_newTuple ?_ (by show vs.length<=_;exact hz))
  refine wpAny_bind (wpAny_newList ?_ (Nat.zero_le _))
  refine wpAny_holding ?_
  show wpAny (model prog w) A _ P E { s with heap:=((s.heap.update a (Obj.mapSeq fun _=>(#[]:Array Value))).push (seqObj "tuple" vs.toArray 0)).push (seqObj "list" #[] 0) }
  dsimp only
  generalize (((s.heap.update a (Obj.mapSeq fun _=>(#[]:Array Value))).push (seqObj "tuple" vs.toArray 0)).push (seqObj "list" #[] 0))=h3 at K3 ho6 ⊢
  have out:∀ arr:Array Keyed,arr.map (·.2)=(arr.toList.map (·.2)).toArray:=fun arr=>by
    apply Array.toList_inj.mp
    rw [Array.toList_map]
  have psz:(prs vs).size=vs.length:=by rw [<- Array.length_toList,QcT,List.length_zip,Nat.min_self]
  by_cases h2:vs.toArray.size<2
  · rw [if_pos h2,if_pos h2]
    refine wpAny_bind (wpAny_pure ?_)
    rw [StateT.run_pure]
    refine wpAny_bind (wpAny_pure ?_)
    dsimp only
    have f:Sg c (prs vs) 0 (prs vs).size:=fun i j _ hij hj=>by
      rw [psz] at hj
      rw [List.size_toArray] at h2
      rw [show i=j by omega]
      exact oc.irr _
    refine wpAny_bind (seqEpoch_at ho6 rfl ?_)
    refine wpAny_bind (listUpdate_at ho6 rfl ?_ (Nat.zero_le _) (by rw [Array.size_map];show (prs vs).size<=_;rw [(Array.Perm.refl (prs vs)).size_eq,psz];omega))
    simp only [bne_self_eq_false,Bool.false_eq_true,if_false]
    show wpAny _ _ (ret Value.none) _ _ { s with heap:=h3.update a (Obj.mapSeq fun _=>Array.map (fun x=>x.snd) (prs vs)) }
    rw [out]
    exact wpAny_pure (h (prs vs) (Array.Perm.refl (prs vs)) (f) _ _ (K3.trans (QdW _)) (get?_update_seq ho6 fun _=>_))
  · rw [if_neg h2,if_neg h2]
    refine wpAny_bind (hkind h3 K3 _ _ fun κ hA=>?_)
    refine wpAny_bind (wpAny_mono (Qe9 (a₀:=prs vs) (κ:=κ) (st:=SortSt.mk' κ (prs vs) #[] 7 none) (Q:=fun _ st'=>SB κ (prs vs) st'/\Sg c (arrOf st') 0 (prs vs).size) hA ⟨Array.Perm.refl _,rfl,rfl⟩ rfl fun st' b g=>⟨b,g⟩) ?_ fun _ _ e=>e)
    rintro ⟨⟨⟩,st'⟩ s' ⟨rfl,b,g⟩
    dsimp only
    rw [b.failed]
    have g2:Sg c (arrOf st') 0 (arrOf st').size:=by rw [b.size];exact g
    refine wpAny_bind (seqEpoch_at ho6 rfl ?_)
    refine wpAny_bind (listUpdate_at ho6 rfl ?_ (Nat.zero_le _) (by rw [Array.size_map];show (arrOf st').size<=_;rw [(b.perm).size_eq,psz];omega))
    simp only [bne_self_eq_false,Bool.false_eq_true,if_false]
    show wpAny _ _ (ret Value.none) _ _ { s with heap:=h3.update a (Obj.mapSeq fun _=>Array.map (fun x=>x.snd) (arrOf st')) }
    rw [out]
    exact wpAny_pure (h (arrOf st') (b.perm) (g2) _ _ (K3.trans (QdW _)) (get?_update_seq ho6 fun _=>_))
theorem QdY {Q:Value->Shared->Prop} {l:Addr} {T:String} {o:Obj} {vs:List Value} {n:Nat} (hT:T = "list" ∨ T = "tuple") (ho:s.heap.get? l=some o) (hc:o.cls=.type T) (hd:o.data=.seq vs.toArray n) (hz:vs.length<=sizeLine)
    (h:∀ h':Heap,(∀ b x,s.heap.get? b=some x->h'.get? b=some x)->∀ (P:PySem.Fin->Shared->Prop) (E':Value->Shared->Prop),(∀ s2,Q (.ref h'.objs.size) s2->P (.done (.ret .none)) s2) ->
      wpAny (model prog w) A.in1.in1 (Builtin.«list.sort» ⟨[.ref h'.objs.size],[]⟩) P E' { s with heap:=h'.push (seqObj "list" vs.toArray 0) }) :
    wpAny (model prog w) A (call (.builtin "sorted") [.ref l]) Q E s:=by
  refine Calls.call_function_entry kind_sorted plain_sorted entry_sorted (args_sorted1 _) ?_
  unfold Builtin.«sorted»
  refine wpAny_bind (m:=checkCount "sorted" 1 1 _) (wpAny_pure ?_)
  refine wpAny_bind (wpAny_collect_seq (items:=vs.toArray) l hT ho hc hd (fun h' kp=>?_) (by rw [List.size_toArray];exact hz))
  refine wpAny_bind (wpAny_newList ?_ (by rw [List.toList_toArray];exact hz))
  have hoL:(h'.push (seqObj "list" vs.toArray 0)).get? h'.objs.size=some (seqObj "list" vs.toArray 0):=Heap.get?_push_size _ rfl
  show wpAny _ _ _ _ _ { s with heap:=h'.push (seqObj "list" vs.toArray 0) }
  refine wpAny_bind (wpAny_holding (wpAny_call_entry slot_list_sort ⟨_,hoL,rfl⟩ entry_list_sort ?body (args_list_sort _)))
  exact h h' kp _ _ fun s2 hq=>⟨_,rfl,wpAny_pure ⟨_,rfl,hq⟩⟩
open Classical in
noncomputable def rdV (h:Heap) (v:Value):PyData:=if q:∃ d as,Reads h v d as/\d.canLay0=true then q.choose else .none
theorem Qho {h:Heap} {v:Value} {d:PyData} {as:List Addr} (r:Reads h v d as) (c:d.canLay0=true):rdV h v=d:=by
  unfold rdV
  have q:∃ d as,Reads h v d as/\d.canLay0=true:=⟨d,as,r,c⟩
  rw [dif_pos q]
  obtain ⟨as',r',c'⟩:=q.choose_spec
  exact (SeqAt.Reads.unique d _ v as as' c r r').symm
theorem QbY {α β:Type} (f:α->β) {l m:List β} (p:l.Perm m):∀ {T:List α},m=T.map f->∃ T':List α,T'.Perm T/\l=T'.map f:=by
  induction p with
  | nil=>intro T e;exact ⟨T,List.Perm.refl _,e⟩
  | @cons x l1 l2 _ ih=>
    intro T e
    cases T with
    | nil=>cases e
    | cons t T=>
      rw [List.map_cons] at e
      injection e with e1 e2
      obtain ⟨T',p',e'⟩:=ih e2
      exact ⟨t::T',p'.cons t,by rw [List.map_cons,<- e1,<- e']⟩
  | @swap x y l=>
    intro T e
    cases T with
    | nil=>cases e
    | cons t T=>
      cases T with
      | nil=>rw [List.map_cons] at e;injection e with e1 e2;cases e2
      | cons t2 T=>
        rw [List.map_cons,List.map_cons] at e
        injection e with e1 e2
        injection e2 with e3 e4
        exact ⟨t2::t::T,List.Perm.swap t t2 T,by rw [List.map_cons,List.map_cons,<- e1,<- e3,<- e4]⟩
  | @trans l1 l2 l3 _ _ ih1 ih2=>
    intro T e
    obtain ⟨T2,p2,e2⟩:=ih2 e
    obtain ⟨T1,p1,e1⟩:=ih1 e2
    exact ⟨T1,p1.trans p2,e1⟩
end
mutual
theorem QfF:∀ (d:PyData),cmpK d d=true->okK d=true
  | .int _,_=>rfl
  | .tuple ds,h=>Qgk ds h
  | .none,h=>by cases h
  | .bool _,h=>by cases h
  | .str _,h=>by cases h
  | .list _,h=>by cases h
  | .dict _,h=>by cases h
theorem Qgk:∀ (ds:List PyData),QbQ ds ds=true->okKs ds=true
  | [],_=>rfl
  | d::ds,h=>by
    have h:=Bool.and_eq_true_iff.mp (show (cmpK d d&&QbQ ds ds)=true from h)
    show (okK d&&okKs ds)=true
    rw [QfF d h.1,Qgk ds h.2];rfl
end
mutual
theorem QcC:∀ (d:PyData),okK d=true->d.canLay0=true
  | .int _,_=>rfl
  | .tuple ds,h=>Qf0 ds h
  | .none,h=>by cases h
  | .bool _,h=>by cases h
  | .str _,h=>by cases h
  | .list _,h=>by cases h
  | .dict _,h=>by cases h
theorem Qf0:∀ (ds:List PyData),okKs ds=true->PyData.canLayAll0 ds=true
  | [],_=>rfl
  | d::ds,h=>by
    have h:=Bool.and_eq_true_iff.mp (show (okK d&&okKs ds)=true from h)
    simp only [PyData.canLayAll0,QcC d h.1,Qf0 ds h.2,Bool.and_self]
end
structure Sortable (ds:List PyData):Prop where
  cmp:∀ x∈ds,∀ y∈ds,cmpK x y=true
  dep:∀ x∈ds,x.depth<=20
end Rt
namespace L2
open PySem PySem.Spec PySem.Calls PyProof.Rows _root_.Rd _root_.Rk _root_.Rs Rt Dl
structure Trp where
  x:V
  v:Value
  d:PyData
theorem trips {H:Hp}:∀ {xs:List V} {ds:List PyData} {vs:List Value},Dats H xs ds->Vals xs vs->∃ T:List Trp,xs=T.map (·.x)/\vs=T.map (·.v)/\ds=T.map (·.d)/\∀ t∈T,Dat H t.x t.d/\RelV t.x t.v
  | _,_,_,.nil,.nil=>⟨[],rfl,rfl,rfl,fun _ h=>nomatch h⟩
  | _,_,_,.cons q qs,.cons r rs=>by
    obtain ⟨T,e1,e2,e3,h⟩:=trips qs rs
    refine ⟨⟨_,_,_⟩::T,by rw [e1];rfl,by rw [e2];rfl,by rw [e3];rfl,fun t ht=>?_⟩
    rcases List.mem_cons.mp ht with z | z
    · rw [z];exact ⟨q,r⟩
    · exact h t z
theorem Qj3 {H:Hp}:∀ {T:List Trp},(∀ t∈T,Dat H t.x t.d/\RelV t.x t.v)->Dats H (T.map (·.x)) (T.map (·.d))/\Vals (T.map (·.x)) (T.map (·.v))
  | [],_=>⟨.nil,.nil⟩
  | t::T,h=>by
    obtain ⟨a,b⟩:=Qj3 (T:=T) fun t ht=>h t (.tail _ ht)
    exact ⟨.cons (h t (.head _)).1 a,.cons (h t (.head _)).2 b⟩
def Qhq:List V->Hp->VK->Prop:=fun xs H Q=>∃ (l:Addr) (vs:List V) (ds:List PyData),xs=[.ref l]/\(H l=some (.lst vs)∨H l=some (.tup vs))/\Dats H vs ds/\Sortable ds /\
  ∀ (t:Addr) (ys:List V) (es:List PyData) (H2:Hp),Same H H2->H t=none->H2 t=some (.lst ys)->Dats H2 ys es->es.Perm ds->es.Pairwise (fun a b=>ltD b a=false)->(∀ y∈ys,y∈vs)->Q (.ref t) H2
section
variable {X:Cx}
theorem QcL (hu:X.A.units+60<cLine):CallR X (.builtin "sorted") Qhq:=by
  intro pins s σ H xs us Q I r h
  obtain ⟨l,vs,ds,rfl,hl,dts,so,q⟩:=h
  obtain ⟨u,rfl,ru⟩:=Qdt r
  cases ru
  have hu2:X.A.in1.in1.units+2*20+4<cLine:=by show X.A.units+1+1+2*20+4<cLine;omega
  obtain ⟨T,o,its,n,hT,ho,hc,hd,rv,hz⟩:∃ (T:String) (o:Obj) (its:List Value) (n:Nat),(T = "list" ∨ T = "tuple")/\s.heap.get? l=some o/\o.cls=.type T/\o.data=.seq its.toArray n/\Vals vs its/\vs.length<=sizeLine:=by
    rcases hl with hl | hl
    · obtain ⟨hz,its,n,rv,ho⟩:=I.hok l _ hl
      exact ⟨"list",_,its,n,.inl rfl,ho,rfl,rfl,rv,hz⟩
    · obtain ⟨hz,its,rv,o,ho,hc,n,hd⟩:=I.hok l _ hl
      exact ⟨"tuple",o,its,n,.inr rfl,ho,hc,hd,rv,hz⟩
  have li:=rv.length
  obtain ⟨⟨as,ra⟩,cl⟩:=Qa7 I.hok ds vs its dts rv
  have okds:okKs ds=true:=Qfo fun d hd=>QfF d (so.cmp d hd d hd)
  refine QdY hT ho hc hd (by omega) fun h' kp P E' hP=>?_
  have ra':=Qbj kp ds its as okds ra
  let c:Keyed->Keyed->Bool:=fun x y=>ltD (rdV h' x.1) (rdV h' y.1)
  have oc:Ord c:=⟨fun x y=>QjO _ _,fun x y z=>ltD_nt _ _ _⟩
  refine Qeg (s:={ s with heap:=h'.push (seqObj "list" its.toArray 0) }) (c:=c) (Heap.get?_push_size _ rfl) (by omega) oc (fun h2 k2 Q' E' hq=>?_) fun arr pm sg h2 e k2 e2=>hP _ ?_
  · have kk:∀ b x,h'.get? b=some x->h2.get? b=some x:=fun b x e=>k2 b x (Nat.ne_of_lt (Heap.lt_size e)) (Heap.get?_push_of_some _ e)
    have ra2:=Qbj kk ds its as okds ra'
    have asks:∀ κ,Qj1 ds κ->(∀ b,κ=tuples' b->∀ d∈ds,∃ es,d=.tuple es)->Asks X.prog X.w X.A.in1.in1 { s with heap:=h2 } κ (prs its) c:=fun κ su tb=>by
      refine ⟨oc,fun x y hx hy C E'' hC=>?_⟩
      rw [QcT] at hx hy
      obtain ⟨ex,hx⟩:=Qcj hx
      obtain ⟨ey,hy⟩:=Qcj hy
      obtain ⟨d1,m1,b1,r1⟩:=QaF ra2 x.2 hx
      obtain ⟨d2,m2,b2,r2⟩:=QaF ra2 y.2 hy
      obtain ⟨d1',m1',b1',r1'⟩:=QaF ra' x.2 hx
      obtain ⟨d2',m2',b2',r2'⟩:=QaF ra' y.2 hy
      have k1:=QaY okds d1 m1
      have k2:=QaY okds d2 m2
      have c1:=QcC d1 k1
      have c2:=QcC d2 k2
      have c1':=QcC d1' (QaY okds d1' m1')
      have c2':=QcC d2' (QaY okds d2' m2')
      have q1:d1'=d1:=SeqAt.Reads.unique d1' d1 x.2 _ _ c1' (Qcy kk d1' _ _ (QaY okds d1' m1') r1') r1
      have q2:d2'=d2:=SeqAt.Reads.unique d2' d2 y.2 _ _ c2' (Qcy kk d2' _ _ (QaY okds d2' m2') r2') r2
      subst q1 q2
      have hC:C (ltD (rdV h' x.1) (rdV h' y.1)) { s with heap:=h2 }:=hC
      rw [ex,ey,Qho r1' c1',Qho r2' c2'] at hC
      rw [ex,ey]
      exact key_lt (N:=20) su m1 r1 r2 c1 c2 (so.cmp _ m1 _ m2) (fun b e=>tb b e _ m1) (so.dep _ m1) hu2 hC
    cases ds with
    | nil=>
      cases ra2
      exact Qf7 (s:={ s with heap:=h2 }) .nil rfl (fun d hd=>nomatch hd) fun κ su=>hq κ (asks κ su fun b _ d hd=>nomatch hd)
    | cons d0 ds0=>
      have sh:(∀ d∈d0::ds0,∃ es,d=.tuple es)∨∀ d∈d0::ds0,∃ i,d=.int i:=by
        cases d0 with
        | int i=>exact .inr fun d hd=>by have:=so.cmp _ (.head _) d hd;cases d<;>first | exact ⟨_,rfl⟩ | (cases this;done)
        | tuple es=>exact .inl fun d hd=>by have:=so.cmp _ (.head _) d hd;cases d<;>first | exact ⟨_,rfl⟩ | (cases this;done)
        | _=>have:=so.cmp _ (.head _) _ (.head _);cases this
      rcases sh with sh | sh
      · exact Qf7 (s:={ s with heap:=h2 }) ra2 okds sh fun κ su=>hq κ (asks κ su fun b _=>sh)
      · have one:Qj1 (d0::ds0) oneType':=.inr (.inl rfl)
        by_cases l2:its.length<2
        · have hk1:∀ v∈its,∀ (Q'':Option Value->Shared->Prop),Q'' none { s with heap:=h2 }->wpAny (model X.prog X.w) X.A.in1.in1 (firstOfTuple' v) Q'' E' { s with heap:=h2 }:=fun v hv Q'' q''=>by
            obtain ⟨d,hd,bs,r⟩:=QaF ra2 v hv
            obtain ⟨i,rfl⟩:=sh d hd
            cases r
            exact wpAny_pure q''
          have hk2:∀ v∈its,∀ (Q'':Value->Shared->Prop),Q'' (Rt.tyV h2 v) { s with heap:=h2 }->wpAny (model X.prog X.w) X.A.in1.in1 (typeOf v) Q'' E' { s with heap:=h2 }:=fun v hv Q'' q''=>by
            obtain ⟨d,hd,bs,r⟩:=QaF ra2 v hv
            exact Qfd (s:={ s with heap:=h2 }) r (QaY okds d hd) q''
          rw [keyKind'_eq,List.mapM_toArray,map_eq_pure_bind]
          refine wpAny_bind (wpAny_bind (QdL (g:=fun _=>(none:Option Value)) its hk1 (wpAny_pure ?_)))
          cases its with
          | nil=>cases ra2
          | cons v0 vs0=>
            rw [if_neg (by simp)]
            rw [if_neg (by simp)]
            rw [oneTypeOnly'_eq,List.mapM_toArray,map_eq_pure_bind]
            refine wpAny_bind (wpAny_bind (wpAny_bind (QdL (g:=Rt.tyV h2) _ hk2 (wpAny_pure ?_))))
            have fin:∀ b:Bool,wpAny (model X.prog X.w) X.A.in1.in1 (pure (if b=true then oneType' else general')) Q' E' { s with heap:=h2 }:=fun b=>by
              have ni:∀ {κ:SortKind},(∀ b',κ≠tuples' b')->∀ b',κ=tuples' b'->∀ d∈d0::ds0,∃ es,d=PyData.tuple es:=fun h b' e=>(h b' e).elim
              cases b
              · exact wpAny_pure (hq _ (asks _ (.inl rfl) (ni fun b' e=>by cases e)))
              · exact wpAny_pure (hq _ (asks _ (.inr (.inl rfl)) (ni fun b' e=>by cases e)))
            split
            · exact wpAny_pure (fin _)
            · exact wpAny_pure (fin _)
        · have ia:∀ {vs:List Value} {ds:List PyData} {as:List Addr},ReadsAll h2 vs ds as->(∀ d∈ds,∃ i,d=PyData.int i)->∃ ns,IntsAre vs ns:=by
            intro vs ds as ra hs
            induction vs generalizing ds as with
            | nil=>exact ⟨[],.nil⟩
            | cons v vs ih=>
              cases ra with
              | cons r rs=>
                obtain ⟨i,rfl⟩:=hs _ (.head _)
                obtain ⟨ns,hn⟩:=ih rs fun d hd=>hs d (.tail _ hd)
                cases r
                exact ⟨i::ns,.cons _ _ hn⟩
          obtain ⟨ns,hn⟩:=ia ra2 sh
          match its,hn,l2 with
          | v1::v2::vs',hn,_=>
            rw [keyKind_ints hn]
            exact wpAny_pure (hq _ (asks _ one fun b e=>by cases e))
          | [_],_,l2=>exact absurd (Nat.lt_succ_self 1) l2
          | [],_,l2=>exact absurd (Nat.zero_lt_two) l2
  · have I1:Inv X pins σ H { s with heap:=h' }:=I.kept (t':=s.toks) kp
    have hf:H h'.objs.size=none:=I1.hok.fresh (Nat.le_refl _)
    have pv:(arr.toList.map (·.2)).Perm its:=by
      have:=(Array.perm_iff_toList_perm.mp pm).map (·.2)
      rwa [Qk6] at this
    obtain ⟨Tr,t1,t2,t3,th⟩:=trips dts rv
    obtain ⟨Tr',p',e'⟩:=QbY Trp.v (l:=arr.toList.map (·.2)) (by rw [<- t2];exact pv) (T:=Tr) rfl
    have th':∀ t∈Tr',Dat H t.x t.d/\RelV t.x t.v:=fun t ht=>th t (p'.mem_iff.mp ht)
    obtain ⟨dts',rv'⟩:=Qj3 th'
    have ll:(Tr'.map (·.x)).length<=sizeLine:=by
      have:=p'.length_eq
      rw [List.length_map,this,<- List.length_map (f:=Trp.x),<- t1]
      exact hz
    have I2:Inv X pins σ (upd H h'.objs.size (.lst (Tr'.map (·.x)))) { s with heap:=h2 }:=
      I1.laid (t':=s.toks) (fun b x e'=>k2 b x (Nat.ne_of_lt (Heap.lt_size e')) (Heap.get?_push_of_some _ e')) (Nat.le_refl _) (show ObjOk X.prog X.w _ _ _ (.lst _) from ⟨ll,_,e,by rw [e'];exact rv',e2⟩)
    refine ⟨.ref h'.objs.size,_,I2,rfl,q _ _ (Tr'.map (·.d)) _ (Qar hf) hf Qaq (dts'.same (Qar hf)) (by rw [t3];exact p'.map _) ?_ fun y hy=>?_⟩
    · -- in order
      have len:arr.toList.length=Tr'.length:=by have:=congrArg List.length e';rwa [List.length_map,List.length_map] at this
      rw [List.pairwise_iff_getElem]
      intro i j hi hj hij
      rw [List.length_map] at hi hj
      rw [List.getElem_map,List.getElem_map]
      have ka:∀ (k:Nat) (hk:k<Tr'.length),rdV h' (kx arr k).1=Tr'[k].d:=fun k hk=>by
        have hk':k<arr.size:=by rw [<- Array.length_toList,len];exact hk
        have m:=memL hk'
        have m2:=(Array.perm_iff_toList_perm.mp pm).mem_iff.mp m
        rw [QcT] at m2
        have e3:=(Qcj m2).1
        have e4:(kx arr k).2=Tr'[k].v:=by
          have h5:(arr.toList.map (·.2))[k]? = some (kx arr k).2:=by rw [List.getElem?_map,Qbu hk'];rfl
          rw [e',List.getElem?_map,List.getElem?_eq_getElem hk] at h5
          exact (Option.some.inj h5).symm
        rw [e3,e4]
        obtain ⟨dt,rv0⟩:=th' _ (List.getElem_mem hk)
        obtain ⟨⟨bs,rr⟩,cc⟩:=QaO I1.hok _ _ _ dt rv0
        exact Qho rr cc
      have g:ltD (rdV h' (kx arr j).1) (rdV h' (kx arr i).1)=false:=sg i j (Nat.zero_le _) (by omega) (by rw [<- Array.length_toList,len];exact hj)
      rw [ka i hi,ka j hj] at g
      exact g
    · obtain ⟨t,ht,rfl⟩:=List.mem_map.mp hy
      rw [t1]
      exact List.mem_map.mpr ⟨t,p'.mem_iff.mp ht,rfl⟩
end
end L2
namespace Dl
open PySem PySem.Spec PyProof.Rows L2 _root_.Rd Rk Rt
theorem das_at {A:Addr->Prop} {H:Hp} {xs:List V} {ds:List PyData} (q:DAs A H xs ds) {v:V} (hv:v∈xs):∃ d∈ds,DA A H v d:=by
  obtain ⟨i,hi⟩:=List.mem_iff_getElem?.mp hv
  obtain ⟨d,hd,h⟩:=q.getV i v hi
  exact ⟨d,List.mem_of_getElem? hd,h⟩
theorem QeY {A:Addr->Prop} {H:Hp}:∀ {ys:List V} {es:List PyData},Dats H ys es->(∀ y∈ys,∃ d,DA A H y d/\nd d=true/\d.canLay0=true/\Dat H y d)->(∀ y d e,y∈ys->Dat H y d->Dat H y e->d=e)->DAs A H ys es
  | _,_,.nil,_,_=>.nil
  | _,_,.cons (x:=x) (d:=d) q qs,h,u=>by
    obtain ⟨d',h1,_,_,h4⟩:=h x (.head _)
    have:d=d':=u x d d' (.head _) q h4
    subst this
    exact .cons h1 (QeY qs (fun y hy=>h y (.tail _ hy)) fun y d e hy=>u y d e (.tail _ hy))
mutual
theorem Qgf {H:Hp}:∀ (d e:PyData) (x:V),Dat H x d->Dat H x e->d=e
  | .none,e,_,.non,h=>by cases h;rfl
  | .bool _,e,_,.bl _,h=>by cases h;rfl
  | .int _,e,_,.int _,h=>by cases h;rfl
  | .str _,e,_,.str _ _,h=>by cases h;rfl
  | .tuple ds,e,_,.tup (xs:=xs) e1 q,h=>by
    cases h with
    | @tup a ys es e2 q'=>
      rw [e1] at e2
      cases e2
      rw [Qdm ds es xs q q']
    | @lst a ys es e2 q'=>rw [e1] at e2;cases e2
  | .list ds,e,_,.lst (xs:=xs) e1 q,h=>by
    cases h with
    | @tup a ys es e2 q'=>rw [e1] at e2;cases e2
    | @lst a ys es e2 q'=>
      rw [e1] at e2
      cases e2
      rw [Qdm ds es xs q q']
  | .dict _,_,_,q,_=>nomatch q
theorem Qdm {H:Hp}:∀ (ds es:List PyData) (xs:List V),Dats H xs ds->Dats H xs es->ds=es
  | [],es,_,.nil,h=>by cases h;rfl
  | d::ds,es,_,.cons q qs,h=>by
    cases h with
    | @cons x xs e es q' qs'=>rw [Qgf d e _ q q',Qdm ds es _ qs qs']
end
mutual
theorem QeL:∀ (d:PyData),okK d=true->nd d=true
  | .int _,_=>rfl
  | .tuple ds,h=>Qfp ds h
  | .none,h=>by cases h
  | .bool _,h=>by cases h
  | .str _,h=>by cases h
  | .list _,h=>by cases h
  | .dict _,h=>by cases h
theorem Qfp:∀ (ds:List PyData),okKs ds=true->nds ds=true
  | [],_=>rfl
  | d::ds,h=>by
    have h:=Bool.and_eq_true_iff.mp (show (okK d&&okKs ds)=true from h)
    show (nd d&&nds ds)=true
    rw [QeL d h.1,Qfp ds h.2];rfl
end
@[irreducible] def QeC:List PyData->(PyData->Prop)->Prop
  | [.list ds],Q=>Sortable ds/\∀ es:List PyData,es.Perm ds->es.Pairwise (fun a b=>ltD b a=false)->Q (.list es)
  | [.tuple ds],Q=>Sortable ds/\∀ es:List PyData,es.Perm ds->es.Pairwise (fun a b=>ltD b a=false)->Q (.list es)
  | _,_=>False
theorem QdZ {ds:List PyData} {Q:PyData->Prop} (h:Sortable ds) (k:∀ es:List PyData,es.Perm ds->es.Pairwise (fun a b=>ltD b a=false)->Q (.list es)):QeC [.list ds] Q/\QeC [.tuple ds] Q:=by
  unfold QeC
  exact ⟨⟨h,k⟩,h,k⟩
theorem Qeq:QcN Qhq QeC:=fun A P H vs ds R Q ln dm q h k=>by
  have go:∀ (l:Addr) (xs:List V) (ds:List PyData),(H l=some (.lst xs)∨H l=some (.tup xs))->DAs A H xs ds->Sortable ds->(∀ es:List PyData,es.Perm ds->es.Pairwise (fun a b=>ltD b a=false)->R (.list es))->Qhq [.ref l] H Q:=fun l xs ds hl qq so hR=>by
    have okds:okKs ds=true:=Qfo fun d hd=>QfF d (so.cmp d hd d hd)
    refine ⟨l,xs,ds,rfl,hl,QbK _ _ (Qfp ds okds) qq,so,fun t ys es H2 s n e2 dts pm pw sub=>?_⟩
    have dm2:∀ a,A a->∃ xs,H2 a=some (.lst xs):=fun a z=>by obtain ⟨xs,e⟩:=dm a z;exact ⟨xs,s _ _ e⟩
    refine k _ (hR es pm pw) _ H2 s (.lst (fun z=>?_) e2 (QeY dts (fun y hy=>?_) fun y d e _=>Qgf d e y)) (QbI n)
    · obtain ⟨xs,e⟩:=dm t z
      rw [n] at e;cases e
    · obtain ⟨d,hd,da⟩:=das_at qq (sub y hy)
      have ok:=QaY okds d hd
      exact ⟨d,da.same s,QeL d ok,QcC d ok,Qip d y (QeL d ok) (da.same s)⟩
  unfold QeC at h
  split at h
  · obtain ⟨v,rfl,hv⟩:=pd1 q
    obtain ⟨l,xs,rfl,e,qq⟩:=hv.list
    exact go l xs _ (.inl e) qq h.1 h.2
  · obtain ⟨v,rfl,hv⟩:=pd1 q
    obtain ⟨l,xs,rfl,e,qq⟩:=hv.tuple
    exact go l xs _ (.inr e) qq h.1 h.2
  · exact h.elim
end Dl
namespace L2
open PySem PySem.Spec PySem.Calls PyProof.Rows _root_.Rd _root_.Rk Rt
section
variable {X:Cx}
def ddI (ns:List Int):List Int:=ns.foldl step_dedup []
theorem QjR (ns:List Int):firstMet (fun i=>ns.getD i 0) ns.length=ddI ns:=by
  unfold firstMet ddI
  congr 1
  apply List.ext_getElem?
  intro i
  rw [List.getElem?_map]
  by_cases h:i<ns.length
  · rw [List.getElem?_range h,List.getElem?_eq_getElem h]
    show some (ns.getD i 0)=_
    rw [List.getD_eq_getElem?_getD,List.getElem?_eq_getElem h];rfl
  · rw [List.getElem?_eq_none (by simpa using h),List.getElem?_eq_none (by omega)];rfl
def rSetI (K:PySem.W.Frag):List V->Hp->VK->Prop:=fun xs H Q=>∃ (l:Addr) (ns:List Int),xs=[.ref l]/\SqL K H l (ns.map V.int)/\ns.length<=4000 /\
  ∀ (t:Addr) (H2:Hp),Same H H2->H t=none->H2 t=some (.set (fun k=>(ddI ns).any (· == k)) (ddI ns).length)->Q (.ref t) H2
theorem Qiz (hc:X.calm=true):CallR X (.type "set") (rSetI X.K):=by
  intro pins s σ H xs us Q I r h
  obtain ⟨p,ns,rfl,hp,hn,q⟩:=h
  obtain ⟨u,rfl,ru⟩:=Qdt r
  cases ru
  obtain ⟨its,rv,pl,hz⟩:=I.list hp
  have hi:IntsAre its ns:=QcE rv
  have hl:=hi.length
  refine PySem.call_set_list (items:=its.toArray) (ns:=ns) (I.ok.hd hc) pl.isList (by simpa using hi) (by rw [List.size_toArray,hl];unfold scanBound;omega) fun h' tk hS hk=>?_
  have ez:its.toArray.size=ns.length:=by rw [List.size_toArray];exact hl
  rw [ez,QjR] at hS
  have hf:H s.heap.objs.size=none:=I.hok.fresh (Nat.le_refl _)
  refine ⟨.ref s.heap.objs.size,upd H s.heap.objs.size (.set (fun k=>(ddI ns).any (· == k)) (ddI ns).length),I.laid (t':=tk) (fun b x e=>hk b x (Heap.lt_size e) e) (Nat.le_refl _) hS,rfl,q _ _ (Qar hf) hf Qaq⟩
def QkX:List V->Hp->VK->Prop:=fun xs H Q=>∃ (a:Addr) (S:Int->Bool) (n:Nat),xs=[.ref a]/\H a=some (.set S n)/\n<=4000/\Q (.int n) H
theorem QfJ:CallR X (.builtin "len") QkX:=by
  intro pins s σ H xs us Q I r h
  obtain ⟨a,S,n,rfl,ha,hn,q⟩:=h
  obtain ⟨u,rfl,ru⟩:=Qdt r
  cases ru
  obtain ⟨o,es,ep,t,ho,hex,hd,hel,hmem,hb,hf,hz⟩:=I.hok a _ ha
  have hz:es.size=n:=hz
  refine PySem.call_len_set ho hex hd hf (by
                                             rw [hz];have:(4000:Int)<2^63:=by decide
                                             omega) ?_
  rw [hz]
  exact ⟨.int n,H,I.tok _,⟨_,rfl⟩,q⟩
theorem Qge:∀ (ns σ:List Int),(ns.foldl step_dedup σ).length<=σ.length+ns.length/\(σ.Nodup->((ns.foldl step_dedup σ).length=σ.length+ns.length↔(σ++ns).Nodup))
  | [],σ=>⟨Nat.le_refl _,fun h=>by simp [h]⟩
  | n::ns,σ=>by
    rw [List.foldl_cons,List.length_cons]
    by_cases z:σ.any (· == n)=true
    · have e:step_dedup σ n=σ:=by unfold step_dedup;rw [if_pos z]
      rw [e]
      obtain ⟨a,b⟩:=Qge ns σ
      refine ⟨by omega,fun hs=>⟨fun q=>by omega,fun q=>?_⟩⟩
      obtain ⟨x,hx,hn⟩:=List.any_eq_true.mp z
      have hn:=beq_iff_eq.mp hn
      subst hn
      exact absurd rfl ((List.nodup_append.mp q).2.2 x hx x (.head _))
    · have e:step_dedup σ n=σ++[n]:=by unfold step_dedup;rw [if_neg z]
      rw [e]
      obtain ⟨a,b⟩:=Qge ns (σ++[n])
      rw [List.length_append] at a b
      have nm:n∉σ:=fun hx=>z (List.any_eq_true.mpr ⟨n,hx,by simp⟩)
      refine ⟨by simp only [List.length_singleton] at a;omega,fun hs=>?_⟩
      have hs2:(σ++[n]).Nodup:=List.nodup_append.mpr ⟨hs,by simp,fun x hx y hy=>by rw [List.mem_singleton.mp hy];exact fun e=>nm (e ▸ hx)⟩
      have:=b hs2
      rw [List.append_assoc] at this
      have e3:σ++n::ns=σ++([n]++ns):=rfl
      rw [e3,<- this]
      simp only [List.length_singleton]
      omega
theorem dd_le (ns:List Int):(ddI ns).length<=ns.length:=by have:=(Qge ns []).1;unfold ddI;simpa using this
theorem Qek (ns:List Int):(ddI ns).length=ns.length↔ns.Nodup:=by have:=(Qge ns []).2 (by simp);unfold ddI;simpa using this
def rLtK:R2:=fun x y H Q=>∃ d e,Dat H x d/\Dat H y e/\Dl.cmpK d e=true/\d.depth<=20/\Q (.bl (Dl.ltD d e)) H
theorem Qkf (hu:X.A.units+60<cLine):OpR X (compareOp .Lt) rLtK:=by
  intro pins s σ H x y v u Q I rx ry h
  obtain ⟨d,e,qx,qy,hk,hd,q⟩:=h
  obtain ⟨⟨as,ra⟩,ca⟩:=QaO I.hok d x v qx rx
  obtain ⟨⟨bs,rb⟩,cb⟩:=QaO I.hok e y u qy ry
  exact QkW 20 d e X.A s v u as bs ra rb ca cb hk hd (by omega) _ _ _ _ ⟨.bl _,H,I,rfl,q⟩
end
end L2
namespace Dl
open PySem PySem.Spec PyProof.Rows L2 _root_.Rd Rk Rt
@[irreducible] def anyD:List PyData->(PyData->Prop)->Prop
  | [.list ds],Q=>∃ bs,Qb2 ds=some bs/\Q (.bool (bs.any id))
  | _,_=>False
theorem any_map {α:Type} (l:List α) (g:α->Bool):(l.map g).any id=l.any g:=by rw [List.any_map];rfl
def ltKD:PyData->PyData->(PyData->Prop)->Prop:=fun d e Q=>(okK d=true/\okK e=true/\cmpK d e=true/\d.depth<=20)/\Q (.bool (ltD d e))
theorem Qki:OpD rLtK ltKD:=fun A P H x y d1 d2 R Q ln dm hx hy h k=>by
  obtain ⟨⟨h1,h2,h3,h4⟩,hR⟩:=h
  exact ⟨d1,d2,hx.dat (QeL d1 h1),hy.dat (QeL d2 h2),h3,h4,k _ hR _ H (Same.refl H) (.bl _) Qbb⟩
section
variable {X:Cx} {E:XK}
def Qiq (w:DE):DE:=fun δ Q EX=>w δ (fun d=>match d with
  | .list ds=>∃ ns,Qcu ds=some ns/\ns.length<=4000/\Q (.int (ddI ns).length)
  | _=>False) EX
theorem bt_set:bootBuiltins "set" = some (.type "set"):=by decide +kernel
theorem QhB {e:Expr} {w:DE} {p p2 pos pos2:Pos} (hg:Gl X "len") (hm:X.mg "len" = none) (hg2:Gl X "set") (hm2:X.mg "set" = none) (h:PE X e (tX .P X.K E w)) (hc:X.calm=true) (hs:notStar e=true):PE X (.Call (.Name "len" p) [.Call (.Name "set" p2) [e] [] pos2] [] pos) (tX .F X.K E (Qiq w)):=by
  refine PE.imp (Qb6 QfJ hg hm QaI (pa_c (Qc8 (Qiz hc) hg2 hm2 bt_set (pa_c h Qba hs) (he:=QaS hs)) Qba)) fun σ H Q ⟨F,δ,R,EX,rel,hw,k,o⟩=>?_
  refine ⟨F,δ,_,EX,rel,hw,fun d hd v H1 rel1 kp1 vk=>?_,o⟩
  cases d<;>first | exact (show False from hd).elim | skip
  obtain ⟨ns,hn,hl,hR⟩:=hd
  rw [QfA hn] at vk
  obtain ⟨l,xs,rfl,e,q⟩:=DP.list vk
  rw [QcX q] at e
  refine ⟨l,ns,rfl,SqL.of e,hl,fun t H2 s2 n2 e2=>⟨t,_,_,rfl,e2,?_,?_⟩⟩
  · have:=dd_le ns
    omega
  · exact k _ hR _ H2 (rel1.same s2) (kp1.trans (Kp.same rel1 s2)) ⟨.int _,Qa1⟩
theorem Qd7 {e:Expr} {w:DE} {p p2 pos pos2:Pos} (hg:Gl X "len") (hm:X.mg "len" = none) (hg2:Gl X "set") (hm2:X.mg "set" = none) (h:QE .P X E e w) (hc:X.calm=true:=by rfl) (hs:notStar e=true:=by rfl):QE .F X E (.Call (.Name "len" p) [.Call (.Name "set" p2) [e] [] pos2] [] pos) (Qiq w):=⟨QhB hg hm hg2 hm2 h.h hc hs⟩
end
end Dl
namespace Zt
open PySem PyProof.Rows PySem.W PySem.Calls Rs
theorem Sm_pw:∀ m:Fin 64,(Sm m).Pairwise (· < ·):=by decide +kernel
section
variable {prog:Program} {w:World} {A:Around} {E:Value->Shared->Prop} {s:Shared}
theorem QgY {a:Addr} {m:Nat} (hm:m<64) (x:Sml s.heap a m (Qbl w)):∃ es ep so vs,Way prog w a es ep (tb m (Qbl w)) so vs/\SetAt s.heap a es ep (tb m (Qbl w))/\EsOk es (Sm m):=by
  obtain ⟨es,ep,sa,eo⟩:=x.ex
  cases hb:w.params.followText "set-order" with
  | true=>exact ⟨es,ep,_,_,QiR hb a es ep _,sa,eo⟩
  | false=>
    have hl:Qbl w=true:=by unfold Qbl;rw [hb];rfl
    have hz:(Sm m).toArray.size=(Sm m).length:=by simp
    refine ⟨es,ep,so m,es,QkH hb a es ep _ rfl hl (by rw [eo.size];exact hz) (so m) rfl (fun i hi=>rfl) (fun i hi=>?_),sa,eo⟩
    have hi:i<=(Sm m).length:=by rw [<- hz];exact hi
    have:=Qgw ⟨m,hm⟩
    exact QkK ⟨m,hm⟩ ⟨i,by simp only at this;omega⟩ hi
theorem Qf8:∀ (l:List (Int×Value)),(∀ e∈l,∃ (v:Nat) (tk:Tok),e=((v:Int),Value.int (v:Int) tk))->IntsAre (l.map (·.2)) (l.map (·.1))
  | [],_=>.nil
  | e::l,h=>by
    obtain ⟨v,tk,rfl⟩:=h e (.head _)
    exact .cons _ tk (Qf8 l fun e he=>h e (.tail _ he))
theorem Qeo {a:Addr} {m:Nat} {Q:List Value->Shared->Prop} (hh:A.handled=none) (hm:m<64) (x:Sml s.heap a m (Qbl w))
    (hQ:∀ (h':Heap) (tk:Nat) (us:List Value) (ns:List Int),(∀ b o,s.heap.get? b=some o->h'.get? b=some o)->IntsAre us ns->ns.Perm ((Sm m).map fun (x:Nat)=>(x:Int))->Q us { s with heap:=h',toks:=tk }):wpAny (model prog w) A (collect (.ref a)) Q E s:=by
  obtain ⟨es,ep,so,vs,W,sa,eo⟩:=QgY (prog:=prog) hm x
  refine QfE hh W sa rfl (by have:=Qgw ⟨m,hm⟩;simp only at this;rw [eo.size,sizeLine_eq];omega) fun h' tk kp=>?_
  refine hQ h' tk _ (vs.toList.map (·.1)) kp (Qf8 _ fun e he=>?_) ?_
  · obtain ⟨v,_,tk,e'⟩:=eo.mem (W.pm.mem_iff.mp he)
    exact ⟨v,tk,e'⟩
  · have h1:=W.pm.map (·.1)
    have h2:=congrArg Array.toList eo.hashes
    rw [Array.toList_map] at h2
    rw [h2] at h1
    simpa using h1
theorem QeB {Q:Value->Shared->Prop} {a:Addr} {m:Nat} (hh:A.handled=none) (hm:m<64) (x:Sml s.heap a m (Qbl w))
    (h:∀ (h':Heap) (tk:Nat) (us:List Value) (ns:List Int),(∀ b x,s.heap.get? b=some x->h'.get? b=some x)->IntsAre us ns->ns.Perm ((Sm m).map fun (x:Nat)=>(x:Int))->∀ (P:PySem.Fin->Shared->Prop) (E':Value->Shared->Prop),(∀ s2,Q (.ref h'.objs.size) s2->P (.done (.ret .none)) s2) ->
      wpAny (model prog w) A.in1.in1 (Builtin.«list.sort» ⟨[.ref h'.objs.size],[]⟩) P E' { s with heap:=h'.push (seqObj "list" us.toArray 0),toks:=tk }) :
    wpAny (model prog w) A (call (.builtin "sorted") [.ref a]) Q E s:=by
  refine Calls.call_function_entry kind_sorted plain_sorted entry_sorted (args_sorted1 _) ?_
  unfold Builtin.«sorted»
  refine wpAny_bind (m:=checkCount "sorted" 1 1 _) (wpAny_pure ?_)
  refine wpAny_bind (Qeo (A:=A.in1) hh hm x fun h' tk us ns kp ia pm=>?_)
  have hlen:us.length<=6:=by
    have h1:=ia.length
    have h2:=pm.length_eq
    have:=Qgw ⟨m,hm⟩
    simp only at this
    rw [List.length_map] at h2
    omega
  refine wpAny_bind (wpAny_newList ?_ (by rw [sizeLine_eq];omega))
  have hoL:(h'.push (seqObj "list" us.toArray 0)).get? h'.objs.size=some (seqObj "list" us.toArray 0):=Heap.get?_push_size _ rfl
  show wpAny _ _ _ _ _ { s with heap:=h'.push (seqObj "list" us.toArray 0),toks:=tk }
  refine wpAny_bind (wpAny_holding (wpAny_call_entry slot_list_sort ⟨_,hoL,rfl⟩ entry_list_sort ?body (args_list_sort _)))
  exact h h' tk us ns kp ia pm _ _ fun s2 hq=>⟨_,rfl,wpAny_pure ⟨_,rfl,hq⟩⟩
end
theorem QjZ {val:Nat->Nat} {v:Nat} (hv:v<6):∀ {n:Nat},(∀ j,j<n->val j<6)->(v∈Sm (bits val n)↔∃ i,i<n/\val i=v):=by
  intro n h
  have key:∀ n,(bits val n).testBit v=true↔∃ i,i<n/\val i=v:=fun n=>by
    induction n with
    | zero=>simp [bits]
    | succ n ih=>
      show (bits val n ||| 2^val n).testBit v=true↔_
      rw [Nat.testBit_or,Bool.or_eq_true,ih,Nat.testBit_two_pow]
      constructor
      · rintro (⟨i,hi,e⟩ | z)
        · exact ⟨i,by omega,e⟩
        · exact ⟨n,by omega,by simpa using z⟩
      · rintro ⟨i,hi,e⟩
        by_cases z:i=n
        · subst z;exact .inr (by simpa using e)
        · exact .inl ⟨i,by omega,e⟩
  rw [<- key n]
  unfold Sm
  rw [List.mem_filter,List.mem_range]
  exact ⟨fun z=>z.2,fun z=>⟨hv,z⟩⟩
end Zt
namespace L2
open PySem PySem.Spec PyProof.Rows Zt
section
variable {X:Cx}
def rSetS (led:Bool) (K:PySem.W.Frag):List V->Hp->VK->Prop:=fun xs H Q=>∃ (l:Addr) (ns:List Nat),xs=[.ref l]/\SqL K H l (ns.map fun (n:Nat)=>V.int (n:Int))/\(∀ n∈ns,n<6) /\
  ∀ (t:Addr) (H2:Hp) (m:Nat),m<64->(∀ v,v<6->(v∈Sm m↔v∈ns))->Same H H2->H t=none->H2 t=some (.ext fun h=>Sml h t m led)->Q (.ref t) H2
theorem call_setS (hc:X.calm=true):CallR X (.type "set") (rSetS (Qbl X.w) X.K):=by
  intro pins s σ H xs us Q I r h
  obtain ⟨p,ns,rfl,hp,h6,q⟩:=h
  obtain ⟨u,rfl,ru⟩:=Qdt r
  cases ru
  obtain ⟨its,rv,pl,hz⟩:=I.list hp
  have e0:(ns.map fun (n:Nat)=>V.int (n:Int))=(ns.map fun (n:Nat)=>(n:Int)).map V.int:=by rw [List.map_map];rfl
  rw [e0] at rv
  have hi:IntsAre its (ns.map fun (n:Nat)=>(n:Int)):=QcE rv
  have hl:=hi.length
  rw [List.length_map] at hl
  have h6':∀ i,i<ns.length->ns.getD i 0<6:=fun i hi=>by
    rw [List.getD_eq_getElem?_getD,List.getElem?_eq_getElem hi]
    exact h6 _ (List.getElem_mem hi)
  refine Zt.call_setS (items:=its.toArray) (n:=ns.length) (val:=fun i=>ns.getD i 0) (I.ok.hd hc) pl.isList (by rw [List.size_toArray];exact hl) (fun i v hv=>?_) h6' fun h' tk hS hk=>?_
  · have key:∀ (us:List Value) (ms:List Nat),IntsAre us (ms.map fun (n:Nat)=>(n:Int))->∀ i v,us[i]? = some v->∃ t,v=Value.int ((ms.getD i 0:Nat):Int) t:=fun us ms=>by
      induction ms generalizing us with
      | nil=>intro h;cases h;intro i v hv;simp at hv
      | cons n ms ih=>
        intro h
        cases h with
        | cons _ t h'=>
          intro i v hv
          cases i with
          | zero=>exact ⟨t,(Option.some.inj hv).symm⟩
          | succ i=>exact ih _ h' i v hv
    exact key its ns hi i v (by simpa using hv)
  · have hf:H s.heap.objs.size=none:=I.hok.fresh (Nat.le_refl _)
    have hm:=QfM (val:=fun i=>ns.getD i 0) (i:=ns.length) h6'
    refine ⟨.ref s.heap.objs.size,upd H s.heap.objs.size (.ext fun h=>Sml h s.heap.objs.size (bits (fun i=>ns.getD i 0) ns.length) (Qbl X.w)),I.laid (t':=tk) (fun b x e=>hk b x (Heap.lt_size e) e) (Nat.le_refl _) ⟨hS,?_,fun h1 h2 a b=>a.at' b⟩,rfl,q _ _ _ hm (fun v hv=>?_) (Qar hf) hf Qaq⟩
    · obtain ⟨es,ep,sa,_⟩:=hS.ex
      obtain ⟨o,ho,_⟩:=sa.at_
      exact ⟨o,ho⟩
    · rw [QjZ hv h6',List.mem_iff_getElem?]
      constructor
      · rintro ⟨i,hi,e⟩
        refine ⟨i,?_⟩
        rw [List.getD_eq_getElem?_getD,List.getElem?_eq_getElem hi] at e
        rw [List.getElem?_eq_getElem hi];exact congrArg some e
      · rintro ⟨i,e⟩
        have hi:i<ns.length:=(List.getElem?_eq_some_iff.mp e).1
        exact ⟨i,hi,by rw [List.getD_eq_getElem?_getD,e];rfl⟩
def rSortS (led:Bool):List V->Hp->VK->Prop:=fun xs H Q=>∃ (a:Addr) (m:Nat),xs=[.ref a]/\m<64/\H a=some (.ext fun h=>Sml h a m led) /\
  ∀ (t:Addr) (H2:Hp),Same H H2->H t=none->H2 t=some (.lst ((Sm m).map fun (n:Nat)=>V.int (n:Int)))->Q (.ref t) H2
theorem call_sortS (hc:X.calm=true):CallR X (.builtin "sorted") (rSortS (Qbl X.w)):=by
  intro pins s σ H xs us Q I r h
  obtain ⟨a,m,rfl,hm,ha,q⟩:=h
  obtain ⟨u,rfl,ru⟩:=Qdt r
  cases ru
  obtain ⟨hS,_⟩:=I.hok a _ ha
  refine QeB (I.ok.hd hc) hm hS fun h' tk its ns kp ia pm P E' hP=>?_
  have hn:(h'.push (seqObj "list" its.toArray 0)).get? h'.objs.size=some (seqObj "list" its.toArray 0):=Heap.get?_push_size _ rfl
  have h6:ns.length<=6:=by
    have h2:=pm.length_eq
    have:=Qgw ⟨m,hm⟩
    simp only at this
    rw [List.length_map] at h2
    omega
  have h6':=ia.length
  refine list_sort_tree (s:={ s with heap:=h'.push (seqObj "list" its.toArray 0),toks:=tk }) hn ia (by omega) fun out ns' ia' pm' pw=>hP _ ?_
  have I1:Inv X pins σ H { s with heap:=h',toks:=tk }:=I.kept (t':=tk) kp
  have hf:H h'.objs.size=none:=I1.hok.fresh (Nat.le_refl _)
  obtain ⟨e,he⟩:∃ e,(sortedHeap (h'.push (seqObj "list" its.toArray 0)) h'.objs.size its out).get? h'.objs.size=some (seqObj "list" out e):=sortedHeap_at hn
  have rv':=Qgq ia'
  have en:ns'=(Sm m).map fun (n:Nat)=>(n:Int):=by
    refine List.Perm.eq_of_pairwise (le:=(·<=·)) (fun a b _ _ h1 h2=>Int.le_antisymm h1 h2) pw ?_ (pm'.trans pm)
    rw [List.pairwise_map]
    exact (Sm_pw ⟨m,hm⟩).imp fun h=>by omega
  have rv2:Vals ((Sm m).map fun (n:Nat)=>V.int (n:Int)) out.toList:=by
    rw [en,List.map_map] at rv'
    exact rv'
  have lp:=pm'.length_eq
  have I2:Inv X pins σ (upd H h'.objs.size (.lst ((Sm m).map fun (n:Nat)=>V.int (n:Int)))) { s with heap:=sortedHeap (h'.push (seqObj "list" its.toArray 0)) h'.objs.size its out,toks:=tk }:=
    I1.laid (t':=tk) (fun b x e'=>(sortedHeap_old (Nat.ne_of_lt (Heap.lt_size e')) (Nat.lt_of_lt_of_le (Heap.lt_size e') (by rw [size_push'];exact Nat.le_succ _))).trans (Heap.get?_push_of_some _ e')) (Nat.le_refl _) (show ObjOk X.prog X.w _ _ _ (.lst _) from ⟨by
      have:=Qgw ⟨m,hm⟩
      simp only at this
      rw [List.length_map];exact Nat.le_of_lt (Rk.lt_line (by omega)),out.toList,e,rv2,by rw [he]⟩)
  exact ⟨.ref h'.objs.size,_,I2,rfl,q _ _ (Qar hf) hf Qaq⟩
end
end L2
namespace Dl
open PySem PySem.Spec PyProof.Rows L2 _root_.Rd Rk Zt
section
variable {X:Cx} {E:XK}
@[irreducible] def Qhm:PyData->(PyData->Prop)->Prop
  | .list ds,Q=>∃ ns:List Nat,ds=ns.map (fun (n:Nat)=>PyData.int n)/\(∀ n∈ns,n<6)/\∀ ms:List Nat,ms.Pairwise (· < ·)->(∀ x,x∈ms↔x∈ns)->Q (.list (ms.map fun (n:Nat)=>PyData.int n))
  | _,_=>False
theorem QkU {Q:PyData->Prop} (ns:List Nat) (h6:∀ n∈ns,n<6) (h:∀ ms:List Nat,ms.Pairwise (· < ·)->(∀ x,x∈ms↔x∈ns)->Q (.list (ms.map fun (n:Nat)=>PyData.int n))):Qhm (.list (ns.map fun (n:Nat)=>PyData.int n)) Q:=by
  unfold Qhm
  exact ⟨ns,rfl,h6,h⟩
def Qgi (w:DE):DE:=fun δ Q EX=>w δ (fun d=>Qhm d Q) EX
theorem QjV {A:Addr->Prop} {H:Hp} {xs:List V} {ns:List Nat} (q:DAs A H xs (ns.map fun (n:Nat)=>PyData.int n)):xs=ns.map fun (n:Nat)=>V.int (n:Int):=by
  have e:(ns.map fun (n:Nat)=>PyData.int n)=(ns.map fun (n:Nat)=>(n:Int)).map .int:=by rw [List.map_map];rfl
  rw [e] at q
  rw [QcX q,List.map_map];rfl
theorem QlR {A:Addr->Prop} {H:Hp} (ns:List Nat):DAs A H (ns.map fun (n:Nat)=>V.int (n:Int)) (ns.map fun (n:Nat)=>PyData.int n):=by
  have:=Qf9 (A:=A) (H:=H) (ns.map fun (n:Nat)=>(n:Int))
  rw [List.map_map,List.map_map] at this
  exact this
theorem QgB {e:Expr} {w:DE} {p p2 pos pos2:Pos} (hg:Gl X "sorted") (hm:X.mg "sorted" = none) (hg2:Gl X "set") (hm2:X.mg "set" = none) (h:PE X e (tX .P X.K E w)) (hc:X.calm=true) (hs:notStar e=true):PE X (.Call (.Name "sorted" p) [.Call (.Name "set" p2) [e] [] pos2] [] pos) (tX .F X.K E (Qgi w)):=by
  refine PE.imp (Qb6 (L2.call_sortS hc) hg hm Qct (pa_c (Qc8 (L2.call_setS hc) hg2 hm2 bt_set (pa_c h Qba hs) (he:=QaS hs)) Qba)) fun σ H Q ⟨F,δ,R,EX,rel,hw,k,o⟩=>?_
  refine ⟨F,δ,_,EX,rel,hw,fun d hd v H1 rel1 kp1 vk=>?_,o⟩
  have hd:Qhm d _:=hd
  unfold Qhm at hd
  split at hd
  · obtain ⟨ns,rfl,h6,hR⟩:=hd
    obtain ⟨l,xs,rfl,e,q⟩:=DP.list vk
    rw [QjV q] at e
    refine ⟨l,ns,rfl,SqL.of e,h6,fun t H2 m hm64 hmem s2 n2 e2=>⟨t,m,rfl,hm64,e2,fun t3 H3 s3 n3 e3=>?_⟩⟩
    have s13:=s2.trans s3
    have n13:H1 t3=none:=by
      cases z:H1 t3 with
      | none=>rfl
      | some o=>rw [s2 _ _ z] at n3;cases n3
    refine k _ (hR (Sm m) (Sm_pw ⟨m,hm64⟩) fun x=>?_) _ H3 (rel1.same s13) (kp1.trans (Kp.same rel1 s13)) ?_
    · by_cases z:x<6
      · exact hmem x z
      · exact ⟨fun y=>absurd (Sm_lt y) z,fun y=>absurd (h6 x y) z⟩
    · exact ⟨Qdc (fun a ha=>rel1.isl ha) s13 n13 e3 (QlR (Sm m)),QbI (Qcf kp1 n13)⟩
  · exact hd.elim
theorem Qhu {e:Expr} {w:DE} {p p2 pos pos2:Pos} (hg:Gl X "sorted") (hm:X.mg "sorted" = none) (hg2:Gl X "set") (hm2:X.mg "set" = none) (h:QE .P X E e w) (hc:X.calm=true:=by rfl) (hs:notStar e=true:=by rfl):QE .F X E (.Call (.Name "sorted" p) [.Call (.Name "set" p2) [e] [] pos2] [] pos) (Qgi w):=⟨QgB hg hm hg2 hm2 h.h hc hs⟩
end
end Dl
namespace Rk
open PySem PySem.Spec PyProof.Rows L2 _root_.Rd Dl
def inW (d:PyData) (a b:Int):Bool:=match d with
  | .int i=>decide (a<=i)&&decide (i<=b)
  | _=>false
theorem Ql2 {d:PyData} {a b:Int} (h:inW d a b=true):∃ i,d=.int i/\a<=i/\i<=b:=by
  cases d<;>first | (cases h;done) | skip
  rename_i i
  have h:=Bool.and_eq_true_iff.mp (show (decide (a<=i)&&decide (i<=b))=true from h)
  exact ⟨i,rfl,of_decide_eq_true h.1,of_decide_eq_true h.2⟩
def QdV:DF:=fun args R _=>∃ d a b,args=[.v d,.v (.int a),.v (.int b)]/\R (.bool (inW d a b))
theorem Qb8 (ns:List Int):nds (ns.map PyData.int)=true:=QhW.mpr fun d hd=>by
  obtain ⟨i,_,rfl⟩:=List.mem_map.mp hd
  rfl
end Rk
namespace Rx
open PySem PySem.Spec PySem.Calls PyProof.Rows L2
section
variable {X:Cx} {e:Expr} {st:Stmt} {rest:List Stmt} {pos:Pos} {te:TX} {t u:TSX}
end
end Rx
namespace L2
open PySem PySem.Spec PyProof.Rows Dl
end L2
namespace Dl
open PySem PySem.Spec PyProof.Rows L2 _root_.Rd Rk
section
variable {X:Cx}
theorem PEX.imp {e:Expr} {t t':Rx.TX} (h:Rx.PEX X e t) (i:∀ σ H Q Ex,t' σ H Q Ex->t σ H Q Ex):Rx.PEX X e t':=fun pins s σ H Q Ex I q=>h pins s σ H Q Ex I (i σ H Q Ex q)
theorem PSX.imp {e:Stmt} {t t':Rx.TSX} (h:Rx.PSX X e t) (i:∀ D σ H Ex,t' D σ H Ex->t D σ H Ex):Rx.PSX X e t':=fun pins s σ H D Ex I q=>h pins s σ H D Ex I (i D σ H Ex q)
theorem PSXs.imp {e:List Stmt} {t t':Rx.TSX} (h:Rx.PSXs X e t) (i:∀ D σ H Ex,t' D σ H Ex->t D σ H Ex):Rx.PSXs X e t':=fun pins s σ H D Ex I q=>h pins s σ H D Ex I (i D σ H Ex q)
variable {k:Nat} {f:Addr} {fd:FuncData} {ps:List Str} {x:Str} {p pos:Pos} {e:Expr} {es:List Expr} {fD:DF} {wa:DSl}
end
end Dl
namespace Rk
open PySem PySem.Spec PyProof.Rows L2 _root_.Rd Dl Rt
def QbN:List PyData->Bool
  | x::y::r=>ltD x y&&QbN (y::r)
  | _=>true
def ltP2:PyData->Bool
  | .tuple [a,b]=>ltD a b
  | _=>false
theorem cut1D (d:PyData) (ds:List PyData):Dl.cutD (d::ds) (some 1) none=ds:=by
  unfold Dl.cutD
  rw [HT.sIx_none,show (1:Int)=((1:Nat):Int) from rfl,HT.sIx_nat]
  rw [Nat.min_eq_left (by rw [List.length_cons];omega),List.drop_one,List.tail_cons,List.length_cons,Nat.add_sub_cancel,List.take_length]
theorem QcZ:∀ ds:List PyData,(zipD ds (Dl.cutD ds (some 1) none)).all ltP2=QbN ds
  | []=>by
    have h:(zipD ([]:List PyData) (Dl.cutD [] (some 1) none))=[]:=by unfold zipD;rfl
    rw [h];rfl
  | [x]=>by rw [cut1D];rfl
  | x::y::r=>by
    have ih:=QcZ (y::r)
    rw [cut1D] at ih ⊢
    show (ltP2 (.tuple [x,y])&&(zipD (y::r) r).all ltP2)=_
    rw [ih];rfl
theorem QfU:∀ ds:List PyData,QbN ds=(List.range (ds.length - 1)).all fun k=>ltD (ds.getD k .none) (ds.getD (k+1) .none)
  | []=>rfl
  | [x]=>rfl
  | x::y::r=>by
    have ih:=QfU (y::r)
    show (ltD x y&&QbN (y::r))=_
    rw [ih,show (x::y::r).length - 1=(r.length+1 - 1)+1 by simp,List.range_succ_eq_map,List.all_cons,List.all_map]
    rfl
def Qgr (ds:List PyData):Prop:=∀ x∈ds,okK x=true/\x.depth<=20/\∀ y∈ds,cmpK x y=true
def Qd4:DF:=fun args R _=>∃ ds:List PyData,(args=[.v (.tuple ds)]∨args=[.v (.list ds)])/\Qgr ds/\R (.bool (QbN ds))
def isPl (h w:Int):PyData->Bool
  | .tuple [a,b]=>inW a 0 (h - 1)&&inW b 0 (w - 1)
  | _=>false
theorem isPl_e {h w:Int} {d:PyData} (q:isPl h w d=true):∃ p:Int×Int,d=pairD p/\0<=p.1/\p.1<h/\0<=p.2/\p.2<w:=by
  cases d<;>first | (cases q;done) | skip
  rename_i ds
  match ds,q with
  | [a,b],q=>
    have q:=Bool.and_eq_true_iff.mp (show (inW a 0 (h - 1)&&inW b 0 (w - 1))=true from q)
    obtain ⟨i,rfl,i1,i2⟩:=Ql2 q.1
    obtain ⟨j,rfl,j1,j2⟩:=Ql2 q.2
    exact ⟨(i,j),rfl,i1,by show i<h;omega,j1,by show j<w;omega⟩
  | [],q=>cases q
  | [_],q=>cases q
  | _::_::_::_,q=>cases q
def toP:PyData->Int×Int
  | .tuple [.int a,.int b]=>(a,b)
  | _=>(0,0)
theorem QiU (p:Int×Int):toP (pairD p)=p:=rfl
theorem Qd8 {h w:Int} {ds:List PyData} (q:ds.all (isPl h w)=true):∃ L:List (Int×Int),ds=L.map pairD/\∀ p∈L,0<=p.1/\p.1<h/\0<=p.2/\p.2<w:=by
  induction ds with
  | nil=>exact ⟨[],rfl,fun _ h=>nomatch h⟩
  | cons d ds ih=>
    rw [List.all_cons,Bool.and_eq_true] at q
    obtain ⟨p,rfl,hp⟩:=isPl_e q.1
    obtain ⟨L,rfl,hL⟩:=ih q.2
    refine ⟨p::L,rfl,fun x hx=>?_⟩
    rcases List.mem_cons.mp hx with z | z
    · rw [z];exact hp
    · exact hL x z
theorem QeI (L:List (Int×Int)):(L.map pairD).map toP=L:=by
  rw [List.map_map]
  conv=>rhs;rw [<- List.map_id L]
  rfl
theorem Qdk (p:Int×Int):(pairD p).depth<=1:=by
  show PyData.depthAll [.int p.1,.int p.2]+1<=1
  simp [PyData.depthAll,PyData.depth]
theorem QbJ {n:Nat}:∀ {ds:List PyData},(∀ d∈ds,d.depth<=n)->PyData.depthAll ds<=n
  | [],_=>Nat.zero_le _
  | d::ds,h=>by
    show max d.depth (PyData.depthAll ds)<=n
    exact Nat.max_le.mpr ⟨h d (.head _),QbJ fun d hd=>h d (.tail _ hd)⟩
theorem QbA (L:List (Int×Int)):Qgr (L.map pairD):=fun x hx=>by
  obtain ⟨p,_,rfl⟩:=List.mem_map.mp hx
  refine ⟨rfl,Nat.le_trans (Qdk p) (by decide),fun y hy=>?_⟩
  obtain ⟨q,_,rfl⟩:=List.mem_map.mp hy
  rfl
theorem Qdo:∀ (L M:List (Int×Int)),QbQ (L.map pairD) (M.map pairD)=true
  | [],[]=>rfl
  | [],_::_=>rfl
  | _::_,[]=>rfl
  | _::L,_::M=>by show (true&&QbQ (L.map pairD) (M.map pairD))=true;rw [Qdo L M];rfl
theorem QfC (L:List (Int×Int)):(PyData.tuple (L.map pairD)).depth<=2:=by
  show PyData.depthAll (L.map pairD)+1<=2
  have:=QbJ (n:=1) (ds:=L.map pairD) fun d hd=>by obtain ⟨p,_,rfl⟩:=List.mem_map.mp hd;exact Qdk p
  omega
theorem Qdv (L:List (Int×Int)):Sortable (L.map pairD):=⟨fun x hx y hy=>(QbA L x hx).2.2 y hy,fun x hx=>(QbA L x hx).2.1⟩
def stT (L:List (Int×Int)):PyData:=.tuple (L.map pairD)
theorem Qc3 (Ls:List (List (Int×Int))):Sortable (Ls.map stT):=⟨fun x hx y hy=>by
  obtain ⟨L,_,rfl⟩:=List.mem_map.mp hx
  obtain ⟨M,_,rfl⟩:=List.mem_map.mp hy
  exact Qdo L M,fun x hx=>by
  obtain ⟨L,_,rfl⟩:=List.mem_map.mp hx
  exact Nat.le_trans (QfC L) (by decide)⟩
def isCl (h w:Int):PyData->Bool
  | .tuple ds=>ds.all (isPl h w)&&QbN ds
  | _=>false
def apB (L:List (Int×Int)):Bool:=decide (L.map (·.1)).Nodup&&decide (L.map (·.2)).Nodup
def bdD (h w:Int) (cs:List (Int×Int)):PyData:=.tuple [.int h,.int w,.tuple (cs.map pairD)]
def inC (cs:List (Int×Int)) (e:PyData):Bool:=(cs.map pairD).any fun c=>PyData.eqv c e
def isSt (h w:Int) (cs:List (Int×Int)):PyData->Bool
  | .tuple ds=>(ds.all (isPl h w)&&QbN ds)&&(ds.all (inC cs)&&apB (ds.map toP))
  | _=>false
def Qhx:DF:=fun args R _=>∃ (h w:Int) (d:PyData),args=[.v (.int h),.v (.int w),.v d]/\R (.bool (isPl h w d))
def Qix:DF:=fun args R _=>∃ (h w:Int) (d:PyData),args=[.v (.int h),.v (.int w),.v d]/\R (.bool (isCl h w d))
def QiO:DF:=fun args R _=>∃ L:List (Int×Int),args=[.v (.tuple (L.map pairD))]/\L.length<=4000/\R (.bool (apB L))
def QbD (d:PyData):Prop:=∀ ds,d=.tuple ds->ds.length<=1000
def Qg6:DF:=fun args R _=>∃ (h w:Int) (cs:List (Int×Int)) (d:PyData),args=[.v (bdD h w cs),.v d]/\QbD d/\R (.bool (isSt h w cs d))
theorem QbF {d:PyData} (h:(match d with | .tuple _=>false | _=>true)=true):QbD d:=fun ls e=>by subst e;cases h
theorem Qbm {ds:List PyData} (h:ds.length<=1000):QbD (.tuple ds):=fun ls e=>by cases e;exact h
theorem Qfw {L:List (Int×Int)} (h:∀ p∈L,0<=p.1/\p.1<6/\0<=p.2):(L.map (fun p:Int×Int=>p.1)++L.map (fun p:Int×Int=>6+p.2)).Nodup↔(L.map (·.1)).Nodup/\(L.map (·.2)).Nodup:=by
  rw [List.nodup_append]
  have e:(L.map (fun p:Int×Int=>6+p.2)).Nodup↔(L.map (·.2)).Nodup:=by
    rw [show (L.map (fun p=>6+p.2))=(L.map (fun p=>p.2)).map (6+·) by rw [List.map_map];rfl]
    constructor
    · intro q
      exact List.Pairwise.of_map (S:=fun a b=>a≠b) (6+·) (fun a b hab e=>hab (by rw [e])) q
    · intro q
      exact List.Pairwise.map (6+·) (fun a b hab e=>hab (by omega)) q
  rw [e]
  constructor
  · rintro ⟨a,b,_⟩;exact ⟨a,b⟩
  · rintro ⟨a,b⟩
    refine ⟨a,b,fun x hx y hy e=>?_⟩
    obtain ⟨p,hp,rfl⟩:=List.mem_map.mp hx
    obtain ⟨q,hq,rfl⟩:=List.mem_map.mp hy
    have:=h p hp
    have:=h q hq
    omega
theorem QcM (ns:List Int):Qcu (ns.map PyData.int)=some ns:=Dl.ints_map ns
def inL (n:Int):PyData->Bool
  | .int i=>decide (0<=i)&&decide (i<n)
  | _=>false
theorem QfB (n:Int) (d:PyData):inL n d=inW d 0 (n - 1):=by
  cases d<;>first | rfl | skip
  rename_i i
  show (decide (0<=i)&&decide (i<n))=(decide (0<=i)&&decide (i<=n - 1))
  rw [show decide (i<n)=decide (i<=n - 1) from decide_eq_decide.mpr (by omega)]
def QkV (ds:List PyData):PyData->Bool
  | .int k=>ltD (ds.getD k.toNat .none) (ds.getD (k.toNat+1) .none)
  | _=>false
theorem QeE (ds:List PyData):(rngD 0 ((ds.length:Int) - 1).toNat).all (QkV ds)=QbN ds:=by
  rw [QfU]
  unfold rngD
  rw [List.all_map,show (((ds.length:Nat):Int) - 1).toNat=ds.length - 1 by omega]
  refine congrArg (List.all _) (funext fun k=>?_)
  show ltD (ds.getD (0+(k:Int)).toNat .none) (ds.getD ((0+(k:Int)).toNat+1) .none)=_
  rw [show (0+(k:Int)).toNat=k by omega]
def rowF (r n:Nat) (f:Nat->Nat->Bool):List (Int×Int):=((List.range n).filter (f r)).map fun (c:Nat)=>((r:Int),(c:Int))
def QaL (h w:Nat) (f:Nat->Nat->Bool):List (Int×Int):=(List.range h).flatMap fun r=>rowF r w f
def updF (f:Nat->Nat->Bool) (i j:Nat) (b:Bool):Nat->Nat->Bool:=fun r c=>if r=i/\c=j then b else f r c
theorem Qbw (h w:Nat) (f:Nat->Nat->Bool):QaL (h+1) w f=QaL h w f++rowF h w f:=by
  unfold QaL
  rw [List.range_succ,List.flatMap_append]
  simp
theorem Qhn (r n:Nat) (f:Nat->Nat->Bool):rowF r (n+1) f=rowF r n f++(if f r n=true then [((r:Int),(n:Int))] else []):=by
  unfold rowF
  rw [List.range_succ,List.filter_append,List.map_append]
  congr 1
  by_cases z:f r n=true
  · rw [if_pos z];simp [z]
  · rw [if_neg z];simp [z]
theorem QdA {r n:Nat} {f g:Nat->Nat->Bool} (h:∀ c,c<n->f r c=g r c):rowF r n f=rowF r n g:=by
  unfold rowF
  congr 1
  exact List.filter_congr fun c hc=>h c (List.mem_range.mp hc)
theorem Qe0 {h w:Nat} {f g:Nat->Nat->Bool} (q:∀ r c,r<h->c<w->f r c=g r c):QaL h w f=QaL h w g:=by
  induction h with
  | zero=>rfl
  | succ h ih=>rw [Qbw,Qbw,ih fun r c hr=>q r c (by omega),QdA fun c hc=>q h c (by omega) hc]
theorem QgS {h w i j:Nat} {f:Nat->Nat->Bool} {b:Bool} (hi:h<=i):QaL h w (updF f i j b)=QaL h w f:=Qe0 fun r c hr _=>if_neg fun z=>by omega
theorem Qi4 {i n j:Nat} {f:Nat->Nat->Bool} {b:Bool} (hj:n<=j):rowF i n (updF f i j b)=rowF i n f:=QdA fun c hc=>if_neg fun z=>by omega
theorem QcU {r n:Nat} {f:Nat->Nat->Bool} {p:Int×Int}:p∈rowF r n f↔∃ c:Nat,c<n/\f r c=true/\p=((r:Int),(c:Int)):=by
  unfold rowF
  rw [List.mem_map]
  constructor
  · rintro ⟨c,hc,rfl⟩
    have hc:=List.mem_filter.mp hc
    exact ⟨c,List.mem_range.mp hc.1,hc.2,rfl⟩
  · rintro ⟨c,hc,hf,rfl⟩
    exact ⟨c,List.mem_filter.mpr ⟨List.mem_range.mpr hc,hf⟩,rfl⟩
theorem QgL {h w:Nat} {f:Nat->Nat->Bool} {p:Int×Int}:p∈QaL h w f↔∃ r c:Nat,r<h/\c<w/\f r c=true/\p=((r:Int),(c:Int)):=by
  unfold QaL
  rw [List.mem_flatMap]
  constructor
  · rintro ⟨r,hr,hp⟩
    obtain ⟨c,hc,hf,rfl⟩:=QcU.mp hp
    exact ⟨r,c,List.mem_range.mp hr,hc,hf,rfl⟩
  · rintro ⟨r,c,hr,hc,hf,rfl⟩
    exact ⟨r,List.mem_range.mpr hr,QcU.mpr ⟨c,hc,hf,rfl⟩⟩
theorem Qe1 {h w:Nat} {f:Nat->Nat->Bool} {p:Int×Int} (q:p∈QaL h w f):0<=p.1/\p.1<h/\0<=p.2/\p.2<w:=by
  obtain ⟨r,c,hr,hc,_,rfl⟩:=QgL.mp q
  exact ⟨Int.natCast_nonneg _,by show (r:Int)<h;omega,Int.natCast_nonneg _,by show (c:Int)<w;omega⟩
theorem Qd3 (r n:Nat) (f:Nat->Nat->Bool):(rowF r n f).length<=n:=by
  unfold rowF
  rw [List.length_map]
  exact Nat.le_trans (List.length_filter_le _ _) (by rw [List.length_range];exact Nat.le_refl _)
theorem QcJ (w:Nat) (f:Nat->Nat->Bool):∀ h,(QaL h w f).length<=h*w
  | 0=>Nat.zero_le _
  | h+1=>by
    have:=QcJ w f h
    have:=Qd3 h w f
    rw [Qbw,List.length_append,Nat.succ_mul]
    omega
theorem Qdi (r n:Nat) (f:Nat->Nat->Bool):(rowF r n f).filter (fun p=>decide (p.1=(r:Int)))=rowF r n f:=List.filter_eq_self.mpr fun p hp=>by
  obtain ⟨c,_,_,rfl⟩:=QcU.mp hp
  exact decide_eq_true rfl
theorem Qdj {r k n:Nat} (h:r≠k) (f:Nat->Nat->Bool):(rowF r n f).filter (fun p=>decide (p.1=(k:Int)))=[]:=List.filter_eq_nil_iff.mpr fun p hp=>by
  obtain ⟨c,_,_,rfl⟩:=QcU.mp hp
  show ¬ decide ((r:Int)=(k:Int))=true
  rw [decide_eq_false (by omega)]
  exact Bool.false_ne_true
theorem QdS (w k:Nat) (f:Nat->Nat->Bool):∀ h,(QaL h w f).filter (fun p=>decide (p.1=(k:Int)))=if k<h then rowF k w f else []
  | 0=>rfl
  | h+1=>by
    rw [Qbw,List.filter_append,QdS w k f h]
    by_cases z:k=h
    · subst z
      rw [if_neg (by omega),Qdi,if_pos (by omega)];rfl
    · rw [Qdj (fun e=>z e.symm),List.append_nil]
      by_cases z2:k<h
      · rw [if_pos z2,if_pos (by omega)]
      · rw [if_neg z2,if_neg (by omega)]
def Qfy:DF:=fun args R _=>∃ m:Int,args=[.pot,.v (.int m)]/\1<=m/\m<=6/\∀ (h w:Nat) (f:Nat->Nat->Bool),1<=h->(h:Int)<=m->1<=w->(w:Int)<=m->R (bdD h w (QaL h w f))
def Qfv:DF:=fun args R _=>∃ (d:PyData) (h w:Int),args=[.v d,.v (.int h),.v (.int w)]/\R (.bool (isPl h w d))
def Qef:DF:=fun args R _=>∃ ds:List PyData,(args=[.v (.tuple ds)]∨args=[.v (.list ds)])/\Qgr ds/\ds.length<=1000/\R (.bool (QbN ds))
def Qfu:DF:=fun args R _=>∃ (h w:Int) (cs:List (Int×Int)) (d:PyData),args=[.v (bdD h w cs),.v d]/\h<=6/\QbD d/\R (.bool (isSt h w cs d))
def rowC (cs:List (Int×Int)) (r:Int):List (Int×Int):=cs.filter fun p=>decide (p.1=r)
def extS (cells L:List (Int×Int)):List (List (Int×Int)):=(cells.filter fun c => !decide (c.2∈L.map (·.2))).map fun c=>L++[c]
def stsN (cs:List (Int×Int)):Nat->List (List (Int×Int))
  | 0=>[[]]
  | i+1=>stsN cs i++(stsN cs i).flatMap (extS (rowC cs i))
theorem Qej (cells L:List (Int×Int)):(extS cells L).length<=cells.length:=by
  unfold extS
  rw [List.length_map]
  exact List.length_filter_le _ _
theorem QcV {α β:Type} {f:α->List β} {k:Nat}:∀ {xs:List α},(∀ x∈xs,(f x).length<=k)->(xs.flatMap f).length<=xs.length*k
  | [],_=>Nat.zero_le _
  | x::xs,h=>by
    have h1:=h x (.head _)
    have h2:=QcV (xs:=xs) fun y hy=>h y (.tail _ hy)
    rw [List.flatMap_cons,List.length_append,List.length_cons,Nat.succ_mul]
    omega
theorem QdX {cs:List (Int×Int)} {k:Nat} (h:∀ r,(rowC cs r).length<=k):∀ i,(stsN cs i).length<=(k+1)^i
  | 0=>Nat.le_refl _
  | i+1=>by
    have h1:=QdX h i
    have h2:=QcV (xs:=stsN cs i) (k:=k) fun L _=>Nat.le_trans (Qej (rowC cs i) L) (h i)
    show (stsN cs i++(stsN cs i).flatMap (extS (rowC cs i))).length<=_
    rw [List.length_append,Nat.pow_succ,Nat.mul_add,Nat.mul_one]
    have h3:(stsN cs i).length*k<=(k+1)^i*k:=Nat.mul_le_mul_right k h1
    omega
theorem QjM {cells L M:List (Int×Int)}:M∈extS cells L↔∃ c∈cells,c.2∉L.map (·.2)/\M=L++[c]:=by
  unfold extS
  rw [List.mem_map]
  constructor
  · rintro ⟨c,hc,rfl⟩
    have hc:=List.mem_filter.mp hc
    exact ⟨c,hc.1,by simpa using hc.2,rfl⟩
  · rintro ⟨c,hc,hn,rfl⟩
    exact ⟨c,List.mem_filter.mpr ⟨hc,by simpa using hn⟩,rfl⟩
theorem Qcl {cs:List (Int×Int)}:∀ i,∀ L∈stsN cs i,L.length<=i
  | 0,L,h=>by rw [List.mem_singleton.mp h];exact Nat.le_refl _
  | i+1,L,h=>by
    rcases List.mem_append.mp (show L∈stsN cs i++(stsN cs i).flatMap (extS (rowC cs i)) from h) with z | z
    · exact Nat.le_succ_of_le (Qcl i L z)
    · obtain ⟨M,hM,hL⟩:=List.mem_flatMap.mp z
      obtain ⟨c,_,_,rfl⟩:=QjM.mp hL
      have:=Qcl i M hM
      rw [List.length_append]
      exact Nat.succ_le_succ this
theorem Qg4 (cs:List (Int×Int)):∀ i,[]∈stsN cs i
  | 0=>.head _
  | i+1=>List.mem_append.mpr (.inl (Qg4 cs i))
theorem row_fm (cs:List (Int×Int)) (r:Int):(cs.map pairD).filterMap (fun d=>if (toP d).1=r then some d else none)=(rowC cs r).map pairD:=by
  unfold rowC
  induction cs with
  | nil=>rfl
  | cons c cs ih=>
    rw [List.map_cons]
    by_cases z:c.1=r
    · rw [List.filterMap_cons_some (by show (if c.1=r then _ else _)=_;rw [if_pos z]),ih,List.filter_cons_of_pos (by simpa using z)];rfl
    · rw [List.filterMap_cons_none (by show (if c.1=r then _ else _)=_;rw [if_neg z]),ih,List.filter_cons_of_neg (by simpa using z)]
theorem ext_fm (cells L:List (Int×Int)):(cells.map pairD).filterMap (fun d=>if (toP d).2∈L.map (·.2) then none else some (.tuple (L.map pairD++[d])))=(extS cells L).map stT:=by
  unfold extS
  induction cells with
  | nil=>rfl
  | cons c cs ih=>
    rw [List.map_cons]
    by_cases z:c.2∈L.map (·.2)
    · rw [List.filterMap_cons_none (by show (if c.2∈L.map (·.2) then _ else _)=_;rw [if_pos z]),ih,List.filter_cons_of_neg (by simpa using z)]
    · rw [List.filterMap_cons_some (by show (if c.2∈L.map (·.2) then _ else _)=_;rw [if_neg z]),ih,List.filter_cons_of_pos (by simpa using z)]
      show PyData.tuple (L.map pairD++[pairD c])::_=PyData.tuple ((L++[c]).map pairD)::_
      rw [List.map_append];rfl
theorem Qml (ns:List Int) (i:Int):((ns.map PyData.int).any fun e=>PyData.eqv e (.int i))=decide (i∈ns):=by
  rw [List.any_map,Bool.eq_iff_iff,List.any_eq_true,decide_eq_true_iff]
  constructor
  · rintro ⟨c,hc,h⟩
    have:c=i:=by simpa [PyData.eqv] using h
    rw [<- this];exact hc
  · intro h
    refine ⟨i,h,?_⟩
    show (i == i)=true
    simp
theorem Qfg (w h:Nat) (f:Nat->Nat->Bool) (r:Int):(rowC (QaL h w f) r).length<=w:=by
  by_cases z:0<=r
  · obtain ⟨k,rfl⟩:∃ k:Nat,r=k:=⟨r.toNat,by omega⟩
    unfold rowC
    rw [QdS]
    split
    · exact Qd3 _ _ _
    · exact Nat.zero_le _
  · have:rowC (QaL h w f) r=[]:=List.filter_eq_nil_iff.mpr fun p hp e=>by
      have:=Qe1 hp
      have:=of_decide_eq_true e
      omega
    rw [this]
    exact Nat.zero_le _
def Qee:DF:=fun args R _=>∃ (h:Nat) (w:Int) (cs:List (Int×Int)),args=[.v (bdD h w cs)]/\h<=6/\(∀ r,(rowC cs r).length<=6)/\∀ Ls:List (List (Int×Int)),Ls.Perm (stsN cs h)->(Ls.map stT).Pairwise (fun a b=>ltD b a=false)->R (.list (Ls.map stT))
theorem pow7 {i:Nat} (h:i<6):7^i*7<=823543:=by
  have:7^i<=7^5:=Nat.pow_le_pow_right (by decide) (by omega)
  have e:(7:Nat)^5=16807:=rfl
  omega
theorem Qku {items:List PyData} {wg:DG} {wt:DT} {we:DE} {δ:Sts} {Q:PyData->Prop} (G:PyData->PyData)
    (h:∀ d∈items,∀ (k1:Prop) (k2:PyData->Prop),k1->k2 (G d)->wg d δ fun δ4=>wt δ4 (fun b=>if b=true then we δ4 k2 XF else k1) XF) (q:∀ p:Nat->Bool,Q (.list (((List.range items.length).filter p).map fun i=>G (items.getD i .none)))):Qeu items wg wt we δ Q:=by
  unfold Qeu
  refine ⟨fun i acc=>∃ p:Nat->Bool,acc=((List.range i).filter p).map fun i=>G (items.getD i .none),⟨fun _=>false,rfl⟩,fun i acc d hd ⟨p,e⟩=>?_,fun acc ⟨p,e⟩=>by rw [e];exact q p⟩
  have ed:items.getD i .none=d:=by rw [List.getD_eq_getElem?_getD,hd];rfl
  have same:∀ b,(List.range i).filter (fun n=>if n=i then b else p n)=(List.range i).filter p:=fun b=>List.filter_congr fun n hn=>if_neg (by have:=List.mem_range.mp hn;omega)
  refine h d (List.mem_of_getElem? hd) _ _ ⟨fun n=>if n=i then false else p n,?_⟩ ⟨fun n=>if n=i then true else p n,?_⟩
  · rw [List.range_succ,List.filter_append,same,List.filter_cons_of_neg (by simp),List.filter_nil,List.append_nil];exact e
  · rw [List.range_succ,List.filter_append,same,List.filter_cons_of_pos (by simp),List.filter_nil,List.map_append,<- e]
    show acc++[G d]=acc++[G (items.getD i .none)]
    rw [ed]
def tN (ns:List Int):PyData:=.tuple (ns.map PyData.int)
def isNm (n:Int):PyData->Bool
  | .tuple ds=>ds.all (fun d=>inW d 0 (n - 1))&&QbN ds
  | _=>false
theorem Qeb {n:Int}:∀ {ds:List PyData},ds.all (fun d=>inW d 0 (n - 1))=true->∃ ns:List Int,ds=ns.map PyData.int/\∀ i∈ns,0<=i/\i<n
  | [],_=>⟨[],rfl,fun _ h=>nomatch h⟩
  | d::ds,h=>by
    rw [List.all_cons,Bool.and_eq_true] at h
    obtain ⟨i,rfl,h1,h2⟩:=Ql2 h.1
    obtain ⟨ns,rfl,hn⟩:=Qeb h.2
    refine ⟨i::ns,rfl,fun x hx=>?_⟩
    rcases List.mem_cons.mp hx with z | z
    · subst z;omega
    · exact hn x z
theorem QdN {n:Int} {d:PyData} (h:isNm n d=true):∃ ns:List Int,d=tN ns/\∀ i∈ns,0<=i/\i<n:=by
  cases d<;>first | (cases h;done) | skip
  rename_i ds
  obtain ⟨ns,rfl,hn⟩:=Qeb (Bool.and_eq_true_iff.mp (show (ds.all (fun d=>inW d 0 (n - 1))&&QbN ds)=true from h)).1
  exact ⟨ns,rfl,hn⟩
theorem Qdp (ns:List Int):Qgr (ns.map PyData.int):=fun x hx=>by
  obtain ⟨p,_,rfl⟩:=List.mem_map.mp hx
  refine ⟨rfl,Nat.zero_le _,fun y hy=>?_⟩
  obtain ⟨q,_,rfl⟩:=List.mem_map.mp hy
  rfl
def QlO:DF:=fun args R _=>∃ (n:Int) (d:PyData),args=[.v (.int n),.v d]/\R (.bool (isNm n d))
def isLn (h w:Int):PyData->Bool
  | .tuple [a,b]=>isNm h a&&isNm w b
  | _=>false
def Qh5:DF:=fun args R _=>∃ (h w:Int) (cs:List (Int×Int)) (d:PyData),args=[.v (bdD h w cs),.v d]/\R (.bool (isLn h w d))
def inT (x:Int):PyData->Bool
  | .tuple ds=>ds.any fun c=>PyData.eqv c (.int x)
  | _=>false
def isHl (h w:Int) (cs:List (Int×Int)):PyData->Bool
  | .tuple [a,b]=>(isNm h a&&isNm w b)&&(cs.map pairD).all fun d=>inT (toP d).1 a||inT (toP d).2 b
  | _=>false
def Qic:DF:=fun args R _=>∃ (h w:Int) (cs:List (Int×Int)) (d:PyData),args=[.v (bdD h w cs),.v d]/\R (.bool (isHl h w cs d))
def QfS (d:PyData):Prop:=∀ ds,d=.tuple ds->∀ e∈ds,QbD e
theorem Qg9 {d:PyData} (h:(match d with | .tuple _=>false | _=>true)=true):QfS d:=fun ls e=>by subst e;cases h
def Qh1:DF:=fun args R _=>∃ (n:Int) (d:PyData),args=[.v d,.v (.int n)]/\QbD d/\R (.bool (isNm n d))
def Qfx:DF:=fun args R _=>∃ (h w:Int) (cs:List (Int×Int)) (d:PyData),args=[.v (bdD h w cs),.v d]/\QfS d/\R (.bool (isHl h w cs d))
def lnD (p:List Int×List Int):PyData:=.tuple [tN p.1,tN p.2]
def QfD:DF:=fun args R _=>∃ (h:Nat) (w:Int) (cs:List (Int×Int)),args=[.v (bdD h w cs)]/\1<=h/\h<=6/\(∀ p∈cs,0<=p.2/\p.2<6)/\cs.length<=36/\∀ Ps:List (List Int×List Int),Ps.length=2^h->(∀ p∈Ps,p.1.length<=6/\p.2.length<=6)->R (.list (Ps.map lnD))
theorem Qgd (ns:List Int):(tN ns).depth<=1:=by
  show PyData.depthAll (ns.map PyData.int)+1<=1
  have:=QbJ (n:=0) (ds:=ns.map PyData.int) fun d hd=>by obtain ⟨p,_,rfl⟩:=List.mem_map.mp hd;exact Nat.le_refl _
  omega
def trD (t:Int×List Int×List Int):PyData:=.tuple [.int t.1,tN t.2.1,tN t.2.2]
theorem QcH:∀ (L M:List Int),QbQ (L.map PyData.int) (M.map PyData.int)=true
  | [],[]=>rfl
  | [],_::_=>rfl
  | _::_,[]=>rfl
  | _::L,_::M=>by show (true&&QbQ (L.map PyData.int) (M.map PyData.int))=true;rw [QcH L M];rfl
theorem cmp_tr (s t:Int×List Int×List Int):cmpK (trD s) (trD t)=true:=by
  show (true&&(QbQ (s.2.1.map PyData.int) (t.2.1.map PyData.int)&&(QbQ (s.2.2.map PyData.int) (t.2.2.map PyData.int)&&true)))=true
  rw [QcH,QcH];rfl
theorem QjU (t:Int×List Int×List Int):(trD t).depth<=2:=by
  show PyData.depthAll [.int t.1,tN t.2.1,tN t.2.2]+1<=2
  have:=QbJ (n:=1) (ds:=[.int t.1,tN t.2.1,tN t.2.2]) fun d hd=>by
    rcases List.mem_cons.mp hd with z | z
    · subst z;exact Nat.zero_le _
    · rcases List.mem_cons.mp z with z | z
      · subst z;exact Qgd _
      · rcases List.mem_cons.mp z with z | z
        · subst z;exact Qgd _
        · cases z
  omega
theorem Qfe (Ts:List (Int×List Int×List Int)):Sortable (Ts.map trD):=⟨fun x hx y hy=>by
  obtain ⟨s,_,rfl⟩:=List.mem_map.mp hx
  obtain ⟨t,_,rfl⟩:=List.mem_map.mp hy
  exact cmp_tr s t,fun x hx=>by
  obtain ⟨s,_,rfl⟩:=List.mem_map.mp hx
  exact Nat.le_trans (QjU s) (by decide)⟩
theorem Qi5 {n:Int} (h:n<=6) (p:Nat->Bool):∃ ns:List Int,(((List.range (rngD 0 n.toNat).length).filter p).map fun i=>(rngD 0 n.toNat).getD i .none)=ns.map PyData.int/\ns.length<=6:=by
  have hl:(rngD 0 n.toNat).length=n.toNat:=by unfold rngD;rw [List.length_map,List.length_range]
  rw [hl]
  refine ⟨((List.range n.toNat).filter p).map fun (i:Nat)=>(0:Int)+(i:Int),?_,?_⟩
  · rw [List.map_map]
    refine List.map_congr_left fun i hi=>?_
    have hi:i<n.toNat:=List.mem_range.mp (List.mem_filter.mp hi).1
    have:(rngD 0 n.toNat)[i]? = some (.int (0+i)):=by unfold rngD;rw [List.getElem?_map,List.getElem?_range hi];rfl
    rw [List.getD_eq_getElem?_getD,this];rfl
  · rw [List.length_map]
    have:=List.length_filter_le p (List.range n.toNat)
    rw [List.length_range] at this
    omega
theorem QjW {cs:List (Int×Int)} (hc:∀ p∈cs,0<=p.2/\p.2<6) (p:Nat->Bool):∃ ns:List Nat,(((List.range (cs.map pairD).length).filter p).map fun i=>PyData.int (toP ((cs.map pairD).getD i .none)).2)=ns.map (fun (n:Nat)=>PyData.int n)/\∀ n∈ns,n<6:=by
  have key:∀ i∈(List.range (cs.map pairD).length).filter p,0<=(toP ((cs.map pairD).getD i .none)).2/\(toP ((cs.map pairD).getD i .none)).2<6:=fun i hi=>by
    have hi:i<(cs.map pairD).length:=List.mem_range.mp (List.mem_filter.mp hi).1
    have hi':i<cs.length:=by rw [List.length_map] at hi;exact hi
    have e:(cs.map pairD).getD i .none=pairD cs[i]:=by rw [List.getD_eq_getElem?_getD,List.getElem?_map,List.getElem?_eq_getElem hi'];rfl
    rw [e,QiU]
    exact hc _ (List.getElem_mem hi')
  refine ⟨((List.range (cs.map pairD).length).filter p).map fun i=>(toP ((cs.map pairD).getD i .none)).2.toNat,?_,fun n hn=>?_⟩
  · rw [List.map_map]
    refine List.map_congr_left fun i hi=>?_
    have:=key i hi
    show PyData.int _=PyData.int ((((toP ((cs.map pairD).getD i .none)).2.toNat:Nat)):Int)
    rw [Int.toNat_of_nonneg this.1]
  · obtain ⟨i,hi,rfl⟩:=List.mem_map.mp hn
    have:=key i hi
    omega
theorem Qka:∀ (ms:List Nat) (b:Nat),b<=6->ms.Pairwise (· < ·)->(∀ x∈ms,b<=x/\x<6)->ms.length<=6 - b
  | [],b,_,_,_=>Nat.zero_le _
  | m::ms,b,hb,h,hm=>by
    have h':=List.pairwise_cons.mp h
    have h0:=hm m (.head _)
    have:=Qka ms (m+1) (by omega) h'.2 fun x hx=>⟨h'.1 x hx,(hm x (.tail _ hx)).2⟩
    rw [List.length_cons]
    omega
def lnOf:PyData->PyData
  | .tuple [_,a,b]=>.tuple [a,b]
  | _=>.none
theorem Qk7 {h:Nat}:(1*2^((h:Nat):Int).toNat:Int)=((2^h:Nat):Int):=by
  rw [Int.one_mul,Int.toNat_natCast,Int.natCast_pow];rfl
end Rk
namespace L2
open PySem PySem.Spec PyProof.Rows
section
variable {X:Cx}
def rMaxM (K:PySem.W.Frag):List V->Hp->VK->Prop:=fun xs H Q=>∃ (p:Addr) (ns:List Int),xs=[.ref p]/\SqL K H p (ns.map V.int)/\0<ns.length/\∀ m,m∈ns->(∀ y∈ns,y<=m)->Q (.int m) H
theorem QiB (hc:X.calm=true):CallR X (.builtin "max") (rMaxM X.K):=by
  intro pins s σ H xs us Q I r h
  obtain ⟨p,ns,rfl,hp,hn,q⟩:=h
  obtain ⟨u,rfl,ru⟩:=Qdt r
  cases ru
  obtain ⟨its,rv,pl,hz⟩:=I.list hp
  have hi:IntsAre its ns:=QcE rv
  obtain ⟨ys,hx⟩:=hi.allInts.items
  have hl':s.heap.IsList p (intItems ys):=hx ▸ pl.isList
  have hsz:ys.size=ns.length:=by
    have h1:its.toArray.size=(intItems ys).size:=by rw [hx]
    rw [List.size_toArray,hi.length] at h1
    simp [intItems] at h1
    omega
  have num:∀ j m,ns[j]? = some m->numAt ys j=m:=fun j m e=>by
    obtain ⟨w,hw,rw'⟩:=rv.get (i:=j) (x:=V.int m) (by rw [List.getElem?_map,e];rfl)
    have h2:(intItems ys)[j]? = some w:=by rw [<- hx,List.getElem?_toArray];exact hw
    unfold intItems at h2
    rw [Array.getElem?_map] at h2
    obtain ⟨y,hy,ey⟩:=Option.map_eq_some_iff.mp h2
    unfold numAt
    rw [hy]
    subst ey
    obtain ⟨t,et⟩:=rw'
    cases et
    rfl
  refine max_intList (I.ok.hd hc) hl' (by omega) fun v h' tk hv hk=>?_
  rw [<- hx] at hv
  rw [List.getElem?_toArray] at hv
  have ab:=argBest_gt (numAt ys) (ys.size - 1)
  generalize argBest (fun i j=>decide (numAt ys i > numAt ys j)) (ys.size - 1)=b at *
  obtain ⟨x,hx2,rx⟩:∃ x,(ns.map V.int)[b]? = some x/\RelV x v:=by
    have hlen:=rv.length
    have hlt:=(List.getElem?_eq_some_iff.mp hv).1
    cases e:(ns.map V.int)[b]? with
    | none=>
      have:=List.getElem?_eq_none_iff.mp e
      omega
    | some x=>
      obtain ⟨w,hw,rw'⟩:=rv.get e
      rw [hw] at hv
      cases hv
      exact ⟨x,rfl,rw'⟩
  rw [List.getElem?_map] at hx2
  obtain ⟨m,hm,rfl⟩:=Option.map_eq_some_iff.mp hx2
  refine ⟨.int m,H,I.kept hk,rx,q m (List.mem_of_getElem? hm) fun y hy=>?_⟩
  obtain ⟨j,hj⟩:=List.mem_iff_getElem?.mp hy
  have hjl:=(List.getElem?_eq_some_iff.mp hj).1
  have:=ab.2 j (by omega)
  rw [num b m hm,num j y hj] at this
  exact this
end
end L2
namespace Dl
open PySem PySem.Spec PyProof.Rows L2 _root_.Rd Rk
@[irreducible] def QjN:List PyData->(PyData->Prop)->Prop
  | [.list ds],Q=>∃ ns,Qcu ds=some ns/\0<ns.length/\∀ m,m∈ns->(∀ y∈ns,y<=m)->Q (.int m)
  | _,_=>False
theorem Qmg {K:PySem.W.Frag}:QcN (rMaxM K) QjN:=fun A P H vs ds R Q ln dm q h k=>by
  unfold QjN at h
  split at h
  · obtain ⟨v,rfl,hv⟩:=pd1 q
    obtain ⟨bs,hb,h0,hR⟩:=h
    rw [QfA hb] at hv
    obtain ⟨l,xs,rfl,e,qq⟩:=hv.list
    rw [QcX qq] at e
    exact ⟨l,bs,rfl,SqL.of e,h0,fun m h1 h2=>k _ (hR m h1 h2) _ H (Same.refl H) (.int _) Qa1⟩
  · exact h.elim
theorem QlS {ns:List Int} {Q:PyData->Prop} (h:0<ns.length) (k:∀ m,m∈ns->(∀ y∈ns,y<=m)->Q (.int m)):QjN [.list (ns.map PyData.int)] Q:=by
  unfold QjN
  exact ⟨ns,ints_map ns,h,k⟩
end Dl
namespace Rk
open PySem PySem.Spec PyProof.Rows L2 _root_.Rd
def top (i:Nat):Stmt:=PySem.Challenge.pw_rooklands_k22_showings_looked_at.main.body.getD i (.Pass ⟨0,0,0,0⟩)
abbrev sWhole:Stmt:=top 1
abbrev sWithin:Stmt:=top 2
abbrev sRising:Stmt:=top 3
abbrev sCells:Stmt:=top 5
abbrev sPlace:Stmt:=top 6
abbrev sLines:Stmt:=top 7
abbrev sNums:Stmt:=top 8
abbrev sStand:Stmt:=top 10
abbrev sApart:Stmt:=top 11
abbrev sHolds:Stmt:=top 13
abbrev sShow:Stmt:=top 14
abbrev sHow:Stmt:=top 15
abbrev lCellAt:Stmt:=top 17
abbrev lPot:Stmt:=top 18
abbrev lTake:Stmt:=top 19
abbrev lBoard:Stmt:=top 20
abbrev lOdd:Stmt:=top 21
abbrev lWhole:Stmt:=top 22
abbrev lPlace:Stmt:=top 23
abbrev lRises:Stmt:=top 24
abbrev lIsS:Stmt:=top 25
abbrev lStands:Stmt:=top 26
abbrev lIsSome:Stmt:=top 27
abbrev lHolds:Stmt:=top 28
abbrev lCovers:Stmt:=top 29
abbrev lDue:Stmt:=top 30
abbrev lBent:Stmt:=top 31
abbrev sLaw:Stmt:=top 32
section
variable {P:Program} {w:World} {K:PySem.W.Frag} {mg:Str->Option Value} {base:Heap}
theorem Qi3:FnScope ["_law_script", "_law_k"] ["_law_script", "_law_k"] (Qaa lCellAt):=⟨rfl,rfl,rfl,by decide +kernel,rfl,by decide +kernel,by decide +kernel⟩
theorem QhS {f:Addr} {fd:FuncData} (F:Fun K "_law_cell_at" "_law_cell_at" lCellAt f fd) (T:GlbA mg):FnOk P w K mg base CX0 1 f fd ["_law_script", "_law_k"] (Qcm K):=by
  refine F.ok Qi3 (fun vs H Q E h=>?_) (fun cdv A outer s H vs Q E hr h=>?_)
  · obtain ⟨a,ns,k,rfl,_⟩:=h
    rfl
  · obtain ⟨a,ns,n,rfl,hs,hl,h0,k⟩:=h
    refine ⟨_,Qbk (Qk5 (Qfj QgD (pv 1) (Qb6 Qb1 (by rfl) T.len QaI (Qc9 (pv 0) Qba)) (QaQ _)) (Qce (Qc7 (Qjd Qei (pv 0) (pv 1) (fun _ _=>rfl)))) Qfk) (Qce (Qc7 Qa5)),?_⟩
    refine ⟨_,rfl,_,rfl,a,_,rfl,.inl hs,_,_,rfl,rfl,_,rfl,?_⟩
    refine ite2 (fun hlt=>?_) (fun _=>k 0)
    have hlt':n<(ns.map V.int).length:=of_decide_eq_true hlt
    rw [List.length_map] at hlt'
    obtain ⟨j,rfl⟩:=Int.eq_ofNat_of_zero_le h0
    have hj:j<ns.length:=by omega
    refine ⟨_,rfl,_,rfl,a,_,_,.int ns[j],rfl,rfl,hs,Qav ?_,k _⟩
    rw [List.getElem?_map,List.getElem?_eq_getElem hj];rfl
theorem Qgz:FnScope ["_law_cell", "_law_number", "_law_j", "_law_more"] ["_law_cell"] (Qaa lPot):=⟨rfl,rfl,rfl,by decide +kernel,rfl,by decide +kernel,by decide +kernel⟩
theorem ok_pot {f:Addr} {fd:FuncData} (F:Fun K "_law_pot" "_law_pot" lPot f fd) (T:GlbA mg):FnOk P w K mg base CX0 1 f fd ["_law_cell"] spPot:=by
  refine F.ok Qgz (fun vs H Q E h=>?_) (fun cdv A outer s H vs Q E hr h=>?_)
  · obtain ⟨c,rfl,_⟩:=h
    rfl
  · obtain ⟨c,rfl,k⟩:=h
    refine ⟨_,Qbk (Qk5 (Qfj op_ge (pv 0) (QbG QhE Qa5 Qa5) (QaQ _)) (Qce (Qc7 (Qkd (Qc9 (QbG QdC (pv 0) (QbG QhE Qa5 Qa5)) Qba)))) Qfk)
      (Qbk (QcQ (i:=1) Qgz.nd rfl (Or.inl rfl) Qa5)
      (Qbk (Qkb PassesOwn.never rfl (QeH (by rfl) T.range (Qc9 Qa5 Qba)) (Qfl (i:=2) Qgz.nd rfl (Or.inl rfl))
        (Qbk (QcQ (i:=3) Qgz.nd rfl (Or.inl rfl) (QbG QeK (QbG QdD (QbG QdF (QbG QdF (QbG QeK (pv 0) Qa5) (QbG QdD Qa5 (pv 2))) Qa5) Qa5) Qa5))
        (Qbk (QcQ (i:=3) Qgz.nd rfl (Or.inl rfl) (QbG QeK (QbG QdF (QbG QdF (QbG QdD (pv 3) (pv 3)) (QbG QdD Qa5 (pv 2))) Qa5) Qa5))
        (Qce (QcQ (i:=1) Qgz.nd rfl (Or.inl rfl) (QbG QdF (QbG QdD (pv 1) Qa5) (pv 3)))))))
      (Qce (Qc7 (Qkd (Qc9 (pv 1) Qba)))))),?_⟩
    refine ⟨_,rfl,_,_,rfl,rfl,⟨by decide,by decide,by decide⟩,_,_,rfl,rfl,_,rfl,?_⟩
    refine ite2 (fun _=>?_) (fun _=>?_)
    · exact ⟨_,rfl,_,_,rfl,rfl,⟨by decide,by decide,by decide⟩,_,_,rfl,rfl,by show 1<=sizeLine;decide,fun p hp=>k p _ hp⟩
    · refine ⟨64,rfl,by decide,by decide,Qif (n:=64) (fun i σ H2=>∃ n v u,σ=[some (.int c),some (.int n),v,u]/\H2=H) ⟨0,none,none,rfl,rfl⟩ ?_ ?_⟩
      · rintro i σ H2 hi ⟨n,v,u,rfl,rfl⟩
        have b1:=Qgc ((c % 2147483629+7919*(0+(i:Int))+1)*48271) (m:=2147483647) (by decide)
        refine ⟨_,rfl,_,_,rfl,rfl,by show (0:Int)<2147483629;decide,_,rfl,_,_,rfl,rfl,.inl ⟨by decide,by decide⟩,_,_,rfl,rfl,_,_,rfl,rfl,_,_,rfl,rfl,.inr ⟨by decide,by decide⟩,_,_,rfl,rfl,by show (0:Int)<2147483647;decide,?_⟩
        refine ⟨_,rfl,_,rfl,_,_,rfl,rfl,.inl ⟨by omega,by omega⟩,_,rfl,_,_,rfl,rfl,.inl ⟨by decide,by decide⟩,_,_,rfl,rfl,_,_,rfl,rfl,_,_,rfl,rfl,by show (0:Int)<2147483587;decide,?_⟩
        exact ⟨_,rfl,_,_,rfl,rfl,.inr ⟨by decide,by decide⟩,_,rfl,_,_,rfl,rfl,_,_,_,rfl,rfl⟩
      · rintro σ H2 ⟨n,v,u,rfl,rfl⟩
        exact ⟨_,rfl,by show 1<=sizeLine;decide,fun p hp=>k p _ hp⟩
theorem Qj8:FnScope ["_law_pot_here", "_law_far", "_law_found"] ["_law_pot_here", "_law_far"] (Qaa lTake):=⟨rfl,rfl,rfl,by decide +kernel,rfl,by decide +kernel,by decide +kernel⟩
theorem QlH {f:Addr} {fd:FuncData} (F:Fun K "_law_take" "_law_take" lTake f fd) (T:GlbA mg):FnOk P w K mg base CX0 1 f fd ["_law_pot_here", "_law_far"] QfR:=by
  refine F.ok Qj8 (fun vs H Q E h=>?_) (fun cdv A outer s H vs Q E hr h=>?_)
  · obtain ⟨p,n,m,rfl,_⟩:=h
    rfl
  · obtain ⟨p,n,m,rfl,hp,h0,h1,k⟩:=h
    refine ⟨_,Qbk (QcQ (i:=2) Qj8.nd rfl (Or.inl rfl) (QbG QeK (Qjd Qei (pv 0) Qa5 (fun _ _=>rfl)) (pv 1)))
      (Qbk (Qkc (QbG Qjy (Qjd Qei (pv 0) Qa5 (fun _ _=>rfl)) (pv 1)) (pg_sub (pv 0) Qa5 QiY))
      (Qce (Qc7 (pv 2)))),?_⟩
    have b:=Qgc n h0
    exact ⟨_,rfl,p,_,_,_,rfl,rfl,SqL.of hp,rfl,_,rfl,_,_,rfl,rfl,h0,_,rfl,p,_,_,_,rfl,rfl,SqL.of hp,rfl,_,rfl,_,_,rfl,rfl,⟨h0,h1⟩,_,rfl,p,_,_,_,rfl,rfl,hp,rfl,_,rfl,k _ _ b.1 b.2⟩
end
end Rk
namespace Rk
open PySem PySem.Spec PyProof.Rows L2 _root_.Rd
open Dl
open Rt
def lenT:PyData->Int
  | .tuple ds=>ds.length
  | _=>0
def nLn:PyData->Int
  | .tuple [a,b]=>lenT a+lenT b
  | _=>0
def isSh (h w:Int) (cs:List (Int×Int)):PyData->Bool
  | .tuple [a,b]=>isSt h w cs a&&(isHl h w cs b&&decide (lenT a=nLn b))
  | _=>false
def sh2 (d:PyData):Prop:=QbD d/\QfS d
def Qbn (d:PyData):Prop:=∀ ds,d=.tuple ds->∀ e∈ds,sh2 e
def howD:DF:=fun args R _=>∃ rs ms:List Int,args=[.v (lnD (rs,ms))]/\R (.int (((rs.map PyData.int).length:Int)+((ms.map PyData.int).length:Int)))
def QkR:DF:=fun args R _=>∃ (h w:Int) (cs:List (Int×Int)) (d:PyData),args=[.v (bdD h w cs),.v d]/\Qbn d/\R (.bool (isSh h w cs d))
def Qh6:DF:=fun args R _=>∃ (h w:Int) (cs:List (Int×Int)) (d:PyData),args=[.v (bdD h w cs),.v d]/\h<=6/\Qbn d/\R (.bool (isSh h w cs d))
def Qeh:DF:=fun args R _=>∃ (h w:Nat) (cs L:List (Int×Int)) (rs ms:List Int),args=[.pot,.v (bdD h w cs),.v (stT L),.v (lnD (rs,ms))]/\1<=h/\h<=6/\1<=w/\w<=6/\L.length<=6/\rs.length<=6/\ms.length<=6/\∀ d,Qbn d->R d
def Qh4:DF:=fun args R _=>args=[.pot]/\∀ d,sh2 d/\Qbn d->R d
theorem Qkn {h w:Int} {cs:List (Int×Int)} {b:PyData} (q:isHl h w cs b=true):∃ rs ms,b=lnD (rs,ms):=by
  cases b<;>first | (cases q;done) | skip
  rename_i ds
  match ds,q with
  | [a,b],q=>
    have z:=Bool.and_eq_true_iff.mp (Bool.and_eq_true_iff.mp (show ((isNm h a&&isNm w b)&&_)=true from q)).1
    obtain ⟨rs,rfl,_⟩:=QdN z.1
    obtain ⟨ms,rfl,_⟩:=QdN z.2
    exact ⟨rs,ms,rfl⟩
  | [],q=>cases q
  | [_],q=>cases q
  | _::_::_::_,q=>cases q
theorem Qkm {h w:Int} {cs:List (Int×Int)} {b:PyData} (q:isSt h w cs b=true):∃ ds,b=.tuple ds:=by
  cases b<;>first | (cases q;done) | skip
  exact ⟨_,rfl⟩
theorem QbM {d:PyData} (h:(match d with | .tuple _=>false | _=>true)=true):sh2 d:=⟨QbF h,Qg9 h⟩
theorem QbE {d:PyData} (h:(match d with | .tuple _=>false | _=>true)=true):Qbn d:=fun ls e=>by subst e;cases h
theorem Qha {ns:List Int} (h:ns.length<=1000):sh2 (tN ns):=⟨Qbm (by rw [List.length_map];exact h),fun ds e=>by
  cases e
  intro x hx
  obtain ⟨i,_,rfl⟩:=List.mem_map.mp hx
  exact QbF rfl⟩
theorem Qgy {ds:List PyData} (h:ds.length<=1000) (hd:∀ d∈ds,∃ p,d=pairD p):sh2 (.tuple ds):=⟨Qbm h,fun es e=>by
  cases e
  intro x hx
  obtain ⟨p,rfl⟩:=hd x hx
  exact Qbm (show 2<=1000 by decide)⟩
theorem QiX {a b:PyData} (ha:QbD a) (hb:QbD b):sh2 (.tuple [a,b]):=⟨Qbm (show 2<=1000 by decide),fun ds e=>by cases e;exact Qag ha (Qag hb Qbi)⟩
theorem Qhb {rs ms:List Int} (h1:rs.length<=1000) (h2:ms.length<=1000):sh2 (lnD (rs,ms)):=QiX (Qha h1).1 (Qha h2).1
theorem Qbf {a b:PyData} (ha:sh2 a) (hb:sh2 b):Qbn (.tuple [a,b]):=fun ds e=>by cases e;exact Qag ha (Qag hb Qbi)
theorem Qgj {L:List (Int×Int)} {lo hi:Option Int}:∀ d∈Dl.cutD (L.map pairD) lo hi,∃ p,d=pairD p:=fun d hd=>by
  obtain ⟨p,_,rfl⟩:=List.mem_map.mp (Qen hd)
  exact ⟨p,rfl⟩
theorem Qkt {L:List Int} {lo hi:Option Int}:∃ M:List Int,Dl.cutD (L.map PyData.int) lo hi=M.map PyData.int/\M.length<=L.length:=by
  have h:∀ d∈Dl.cutD (L.map PyData.int) lo hi,∃ i,d=PyData.int i:=fun d hd=>by
    obtain ⟨p,_,rfl⟩:=List.mem_map.mp (Qen hd)
    exact ⟨p,rfl⟩
  have c:=Qch (L.map PyData.int) lo hi
  rw [List.length_map] at c
  have key:∀ ds:List PyData,(∀ d∈ds,∃ i,d=PyData.int i)->∃ M:List Int,ds=M.map PyData.int:=fun ds=>by
    induction ds with
    | nil=>intro _;exact ⟨[],rfl⟩
    | cons d ds ih=>
      intro hh
      obtain ⟨i,rfl⟩:=hh d (.head _)
      obtain ⟨M,rfl⟩:=ih fun d hd=>hh d (.tail _ hd)
      exact ⟨i::M,rfl⟩
  obtain ⟨M,e⟩:=key _ h
  exact ⟨M,e,by rw [e,List.length_map] at c;exact c⟩
section
variable {P:Program} {w:World} {K:PySem.W.Frag} {mg:Str->Option Value} {base:Heap}
theorem QiZ:FnScope ["thing"] ["thing"] (Qaa sWhole):=⟨rfl,rfl,rfl,by decide +kernel,rfl,by decide +kernel,by decide +kernel⟩
theorem Qjz {f   : Addr} {fd  : FuncData} (F:Fun K "is_whole" "is_whole" sWhole f fd) (T:GlbA mg) :
    FnOk P w K mg base CX0 1 f fd ["thing"] (toSp false wholeD):=by
  refine okQ false F QiZ (fun args R EX h=>?_) (fun cdv A outer s H E hr=>?_)
  · obtain ⟨d,rfl,_⟩:=h
    rfl
  · have hU:=Room.u60 hr
    have hI:=Room.i60 hr
    refine ⟨_,Qaj (QaD (QcA (Qab (Qbs .int (by rfl) T.isinstance (qp 0) (by rfl) T.int Qky)) (Qcp (q_not (Qab (Qbs .bool (by rfl) T.isinstance (qp 0) (by rfl) T.bool QfL)))))),fun args R EX h=>?_⟩
    obtain ⟨d,rfl,hR⟩:=h
    cases d<;>exact hR
theorem Qhg:FnScope ["_law_thing"] ["_law_thing"] (Qaa lWhole):=⟨rfl,rfl,rfl,by decide +kernel,rfl,by decide +kernel,by decide +kernel⟩
theorem QhL {f   : Addr} {fd  : FuncData} (F:Fun K "_law_whole" "_law_whole" lWhole f fd) (T:GlbA mg) :
    FnOk P w K mg base CX0 1 f fd ["_law_thing"] (toSp false wholeD):=by
  refine okQ false F Qhg (fun args R EX h=>?_) (fun cdv A outer s H E hr=>?_)
  · obtain ⟨d,rfl,_⟩:=h
    rfl
  · have hU:=Room.u60 hr
    have hI:=Room.i60 hr
    refine ⟨_,Qaj (QaD (QcA (Qab (Qbs .int (by rfl) T.isinstance (qp 0) (by rfl) T.int Qky)) (Qcp (q_not (Qab (Qbs .bool (by rfl) T.isinstance (qp 0) (by rfl) T.bool QfL)))))),fun args R EX h=>?_⟩
    obtain ⟨d,rfl,hR⟩:=h
    cases d<;>exact hR
theorem Qhe:FnScope ["thing", "least", "most"] ["thing", "least", "most"] (Qaa sWithin):=⟨rfl,rfl,rfl,by decide +kernel,rfl,by decide +kernel,by decide +kernel⟩
theorem QhI {f f1  : Addr} {fd fd1:FuncData} (F:Fun K "is_whole_within" "is_whole_within" sWithin f fd) (T:GlbA mg)
    (m1:mg "is_whole" = some (.ref f1)) (G1:FnOk P w K mg base CX0 1 f1 fd1 ["thing"] (toSp false wholeD)) (b1:Binds K fd1 ["thing"] []) (k1:PySem.W.keepIn K (.ref f1)=true) :
    FnOk P w K mg base CX0 2 f fd ["thing", "least", "most"] (toSp false QdV):=by
  refine okQ false F Qhe (fun args R EX h=>?_) (fun cdv A outer s H E hr=>?_)
  · obtain ⟨d,a,b,rfl,_⟩:=h
    rfl
  · have hU:=Room.u60 hr
    have hI:=Room.i60 hr
    refine ⟨_,Qaj (QaD (QcA (Qaf (Qaw G1 (hr.mono (by decide)) (by rfl) m1 k1 b1 Qaz (qs_v (qv 0) Qan))) (Qcp (Qah (q_ch QgE QgE (qp 1) (qp 0) (qp 2)))))),fun args R EX h=>?_⟩
    obtain ⟨d,a,b,rfl,hR⟩:=h
    refine ⟨d,rfl,?_⟩
    cases d with
    | int i=>exact iteT (QkB hR)
    | _=>exact hR
theorem QdI:(["one", "other"]:List Str).Nodup:=by decide +kernel
theorem Qhf:FnScope ["things"] ["things"] (Qaa sRising):=⟨rfl,rfl,rfl,by decide +kernel,rfl,by decide +kernel,by decide +kernel⟩
theorem QhK {f   : Addr} {fd  : FuncData} (F:Fun K "is_rising" "is_rising" sRising f fd) (T:GlbA mg) :
    FnOk P w K mg base CX0 1 f fd ["things"] (toSp false Qd4):=by
  refine okQ false F Qhf (fun args R EX h=>?_) (fun cdv A outer s H E hr=>?_)
  · obtain ⟨ds,rfl | rfl,_⟩:=h<;>rfl
  · have hU:=Room.u60 hr
    have hI:=Room.i60 hr
    refine ⟨_,Qaj (Qbq (Qak Qbd (Qcb rfl) (by rfl) T.all Qcc (qa_P (Qab (Qa9 ["one", "other"] [none,none] (qi_or (Qk0 (by rfl) T.zip (qp 0) (Qab (QbX (qp 0) (QbV (Qaf Qai)) QbW))) (Qk1 (by rfl) T.zip (qp 0) (Qab (QbX (qp 0) (QbV (Qaf Qai)) QbW)))) (fun cl ex s3 H3 C=>⟨(Qby rfl (Qat 0 (Qat 1 Qbz QdI rfl (Or.inl rfl) (Or.inr rfl)) QdI rfl (Or.inl rfl) (Or.inr rfl))),QaT,(Qah (QbP (Qkf hU) Qki (qp 0) (qp 1) (QaQ _)))⟩))) Qac))),fun args R EX h=>?_⟩
    obtain ⟨ds,h,hc,hR⟩:=h
    have go:∀ d∈zipD ds (Dl.cutD ds (some 1) none),∃ a b,d=.tuple [a,b]/\(okK a=true/\okK b=true/\cmpK a b=true/\a.depth<=20):=fun d hd=>by
      obtain ⟨i,hi⟩:=List.mem_iff_getElem?.mp hd
      obtain ⟨a,b,ha,hb,rfl⟩:=Dl.zip_get hi
      have ma:=List.mem_of_getElem? ha
      have mb:=Qen (List.mem_of_getElem? hb)
      exact ⟨a,b,rfl,(hc a ma).1,(hc b mb).1,(hc a ma).2.2 b mb,(hc a ma).2.1⟩
    rcases h with rfl | rfl
    · refine .inl (Qa8 (fun d=>.bool (ltP2 d)) (fun d hd k2 hk=>?_) (Qbh (items:=zipD ds (Dl.cutD ds (some 1) none)) rfl (by rw [QcZ];exact hR)))
      obtain ⟨a,b,rfl,q⟩:=go d hd
      exact ⟨rfl,q,hk⟩
    · refine .inr (Qa8 (fun d=>.bool (ltP2 d)) (fun d hd k2 hk=>?_) (Qbh (items:=zipD ds (Dl.cutD ds (some 1) none)) rfl (by rw [QcZ];exact hR)))
      obtain ⟨a,b,rfl,q⟩:=go d hd
      exact ⟨rfl,q,hk⟩
theorem Qi0:FnScope ["high", "wide", "thing"] ["high", "wide", "thing"] (Qaa sPlace):=⟨rfl,rfl,rfl,by decide +kernel,rfl,by decide +kernel,by decide +kernel⟩
theorem QjB {f f1  : Addr} {fd fd1:FuncData} (F:Fun K "is_place" "is_place" sPlace f fd) (T:GlbA mg)
    (m1:mg "is_whole_within" = some (.ref f1)) (G1:FnOk P w K mg base CX0 2 f1 fd1 ["thing", "least", "most"] (toSp false QdV)) (b1:Binds K fd1 ["thing", "least", "most"] []) (k1:PySem.W.keepIn K (.ref f1)=true) :
    FnOk P w K mg base CX0 3 f fd ["high", "wide", "thing"] (toSp false Qhx):=by
  refine okQ false F Qi0 (fun args R EX h=>?_) (fun cdv A outer s H E hr=>?_)
  · obtain ⟨h,w,d,rfl,_⟩:=h
    rfl
  · have hU:=Room.u60 hr
    have hI:=Room.i60 hr
    refine ⟨_,Qad (QbU (q_pw (Qco (QaV (QaU (Qab (Qbs .tuple (by rfl) T.isinstance (qp 2) (by rfl) T.tuple QaR)))) (QbT (QbL Qda (Qfq hU) (Qab (Qak Qap QaP (by rfl) T.len QaI (qa_P (qp 2) Qac))) (Qaf Qai) (QaQ _))))) (Qaj (QaD q_bl)) QaW)
      (Qaj (QaD (QcA (Qaf (Qaw G1 (hr.mono (by decide)) (by rfl) m1 k1 b1 Qaz (qs_v (q_ix Qal Qax (qp 2) (Qaf Qai) (fun _ _=>rfl)) (qs_v Qai (qs_v (Qah (QaJ QdC QdG (qp 0) (Qaf Qai))) Qan))))) (Qcp (Qaw G1 (hr.mono (by decide)) (by rfl) m1 k1 b1 Qaz (qs_v (q_ix Qal Qax (qp 2) (Qaf Qai) (fun _ _=>rfl)) (qs_v Qai (qs_v (Qah (QaJ QdC QdG (qp 1) (Qaf Qai))) Qan)))))))),fun args R EX h=>?_⟩
    obtain ⟨h,w,d,rfl,hR⟩:=h
    cases d with
    | tuple ds=>
      match ds,hR with
      | [a,b],hR=>
        refine ⟨a,rfl,_,_,_,rfl,?_⟩
        refine Qb3 hR fun _ hR=>?_
        exact ⟨b,rfl,_,_,_,rfl,hR⟩
      | [],hR=>exact hR
      | [_],hR=>exact hR
      | a::b::c::r,hR=>
        exact hR
    | _=>exact hR
theorem QhY:(["part", "high", "wide"]:List Str).Nodup:=by decide +kernel
theorem Qi2:FnScope ["high", "wide", "thing"] ["high", "wide", "thing"] (Qaa sCells):=⟨rfl,rfl,rfl,by decide +kernel,rfl,by decide +kernel,by decide +kernel⟩
theorem QjE {f f1 f2  : Addr} {fd fd1 fd2:FuncData} (F:Fun K "is_cells" "is_cells" sCells f fd) (T:GlbA mg)
    (m1:mg "is_place" = some (.ref f1)) (G1:FnOk P w K mg base CX0 3 f1 fd1 ["high", "wide", "thing"] (toSp false Qhx)) (b1:Binds K fd1 ["high", "wide", "thing"] []) (k1:PySem.W.keepIn K (.ref f1)=true)
    (m2:mg "is_rising" = some (.ref f2)) (G2:FnOk P w K mg base CX0 1 f2 fd2 ["things"] (toSp false Qd4)) (b2:Binds K fd2 ["things"] []) (k2:PySem.W.keepIn K (.ref f2)=true) :
    FnOk P w K mg base CX0 4 f fd ["high", "wide", "thing"] (toSp false Qix):=by
  refine okQ false F Qi2 (fun args R EX h=>?_) (fun cdv A outer s H E hr=>?_)
  · obtain ⟨h,w,d,rfl,_⟩:=h
    rfl
  · have hU:=Room.u60 hr
    have hI:=Room.i60 hr
    refine ⟨_,Qad (QbU (QaV (QaU (Qab (Qbs .tuple (by rfl) T.isinstance (qp 2) (by rfl) T.tuple QaR)))) (Qaj (QaD q_bl)) QaW)
      (Qaj (QaD (QcA (Qab (Qak Qbd (Qcb rfl) (by rfl) T.all Qcc (qa_P (Qab (Qa9 ["part", "high", "wide"] [none,some 0,some 1] (Qbr (qp 2)) (fun cl ex s3 H3 C=>⟨(QaM 0 QhY rfl (Or.inl rfl) (Or.inr rfl)),QaT,(Qaw G1 (hr.mono (by decide)) (by rfl) m1 k1 b1 Qaz (qs_v (qv 1) (qs_v (qv 2) (qs_v (qv 0) Qan))))⟩))) Qac))) (Qcp (Qaw G2 (hr.mono (by decide)) (by rfl) m2 k2 b2 Qaz (qs_v (qv 2) Qan)))))),fun args R EX h=>?_⟩
    obtain ⟨h,w,d,rfl,hR⟩:=h
    cases d with
    | tuple ds=>
      refine Qa8 (fun d=>.bool (isPl h w d)) (fun d hd k2 hk=>⟨_,_,_,rfl,hk⟩) (Qbh (items:=ds) rfl ?_)
      refine Qb3 hR fun ha hR=>?_
      obtain ⟨L,rfl,_⟩:=Qd8 ha
      exact ⟨_,.inl rfl,QbA L,hR⟩
    | _=>exact hR
theorem QeQ:(["row", "column"]:List Str).Nodup:=by decide +kernel
theorem QeP:(["row", "column"]:List Str).Nodup:=by decide +kernel
theorem Qd2:FnScope ["cells", "rows", "columns"] ["cells"] (Qaa sApart):=⟨rfl,rfl,rfl,by decide +kernel,rfl,by decide +kernel,by decide +kernel⟩
theorem QjF {f   : Addr} {fd  : FuncData} (F:Fun K "are_apart" "are_apart" sApart f fd) (T:GlbA mg) :
    FnOk P w K mg base CX0 1 f fd ["cells"] (toSp false QiO):=by
  refine okQ false F Qd2 (fun args R EX h=>?_) (fun cdv A outer s H E hr=>?_)
  · obtain ⟨L,rfl,_⟩:=h
    rfl
  · have hU:=Room.u60 hr
    have hI:=Room.i60 hr
    refine ⟨_,Qad (Qd6 ["row", "column"] [none,none] 1 Qd2.nd (Qbr (qp 0)) (fun cl ex s3 H3 C=>⟨(Qby rfl (Qat 0 (Qat 1 Qbz QeQ rfl (Or.inl rfl) (Or.inr rfl)) QeQ rfl (Or.inl rfl) (Or.inr rfl))),QaT,(qv 0)⟩))
      (Qad (Qd6 ["row", "column"] [none,none] 2 Qd2.nd (Qbr (qp 0)) (fun cl ex s3 H3 C=>⟨(Qby rfl (Qat 0 (Qat 1 Qbz QeP rfl (Or.inl rfl) (Or.inr rfl)) QeP rfl (Or.inl rfl) (Or.inr rfl))),QaT,(qv 1)⟩))
      (Qaj (QaD (QcA (Qab (QbP Qcr (Qd9 hU) (Qab (Qd7 (by rfl) T.len (by rfl) T.set (qp 1))) (Qab (Qak Qap QaP (by rfl) T.len QaI (qa_P (qp 1) Qac))) (QaQ _))) (Qcp (Qah (QbP Qcr (Qd9 hU) (Qab (Qd7 (by rfl) T.len (by rfl) T.set (qp 2))) (Qab (Qak Qap QaP (by rfl) T.len QaI (qa_P (qp 2) Qac))) (QaQ _)))))))),fun args R EX h=>?_⟩
    obtain ⟨L,rfl,hl,hR⟩:=h
    have e1:(L.map pairD).map (fun d=>PyData.int (toP d).1)=(L.map (fun p=>p.1)).map PyData.int:=by rw [List.map_map,List.map_map];rfl
    have e2:(L.map pairD).map (fun d=>PyData.int (toP d).2)=(L.map (fun p=>p.2)).map PyData.int:=by rw [List.map_map,List.map_map];rfl
    refine Qa8 (fun d=>.int (toP d).1) (fun d hd k2 hk=>?_) ?_
    · obtain ⟨p,_,rfl⟩:=List.mem_map.mp hd
      exact ⟨rfl,hk⟩
    · refine Qa8 (fun d=>.int (toP d).2) (fun d hd k2 hk=>?_) ?_
      · obtain ⟨p,_,rfl⟩:=List.mem_map.mp hd
        exact ⟨rfl,hk⟩
      · rw [e1,e2]
        refine ⟨_,QcM _,by rw [List.length_map];exact hl,?_⟩
        have c1:∀ ns:List Int,decide (((ddI ns).length:Int)=(((ns.map PyData.int).length:Nat):Int))=decide ns.Nodup:=fun ns=>by
          rw [List.length_map]
          refine decide_eq_decide.mpr ⟨fun z=>(Qek ns).mp (by omega),fun z=>by have:=(Qek ns).mpr z;omega⟩
        show if decide _=true then _ else _
        rw [c1]
        refine Qb3 hR fun _ hR=>?_
        refine ⟨_,QcM _,by rw [List.length_map];exact hl,?_⟩
        show R (.bool (decide _))
        rw [c1]
        exact hR
theorem QhX:(["cell", "cells"]:List Str).Nodup:=by decide +kernel
theorem QcS:FnScope ["board", "thing", "high", "wide", "cells"] ["board", "thing"] (Qaa sStand):=⟨rfl,rfl,rfl,by decide +kernel,rfl,by decide +kernel,by decide +kernel⟩
theorem QjA {f f1 f2  : Addr} {fd fd1 fd2:FuncData} (F:Fun K "is_stand" "is_stand" sStand f fd) (T:GlbA mg)
    (m1:mg "is_cells" = some (.ref f1)) (G1:FnOk P w K mg base CX0 4 f1 fd1 ["high", "wide", "thing"] (toSp false Qix)) (b1:Binds K fd1 ["high", "wide", "thing"] []) (k1:PySem.W.keepIn K (.ref f1)=true)
    (m2:mg "are_apart" = some (.ref f2)) (G2:FnOk P w K mg base CX0 1 f2 fd2 ["cells"] (toSp false QiO)) (b2:Binds K fd2 ["cells"] []) (k2:PySem.W.keepIn K (.ref f2)=true) :
    FnOk P w K mg base CX0 5 f fd ["board", "thing"] (toSp false Qg6):=by
  refine okQ false F QcS (fun args R EX h=>?_) (fun cdv A outer s H E hr=>?_)
  · obtain ⟨h,w,cs,d,rfl,_⟩:=h
    rfl
  · have hU:=Room.u60 hr
    have hI:=Room.i60 hr
    refine ⟨_,Qad (QfV (qv 0) (Qby rfl (Qat 2 (Qat 3 (Qat 4 Qbz QcS.nd rfl (by first | exact Or.inl rfl | exact Or.inr rfl)) QcS.nd rfl (by first | exact Or.inl rfl | exact Or.inr rfl)) QcS.nd rfl (by first | exact Or.inl rfl | exact Or.inr rfl))))
      (Qad (QbU (QaV (QaU (Qaf (Qaw G1 (hr.mono (by decide)) (by rfl) m1 k1 b1 Qaz (qs_v (qv 2) (qs_v (qv 3) (qs_v (qv 1) Qan))))))) (Qaj (QaD q_bl)) QaW)
      (Qaj (QaD (QcA (Qab (Qak Qbd (Qcb rfl) (by rfl) T.all Qcc (qa_P (Qab (Qa9 ["cell", "cells"] [none,some 4] (Qbr (qp 1)) (fun cl ex s3 H3 C=>⟨(QaM 0 QhX rfl (Or.inl rfl) (Or.inr rfl)),QaT,(Qah (QbP QdE (QeM hI) (qp 0) (qp 1) (by rfl)))⟩))) Qac))) (Qcp (Qaw G2 (hr.mono (by decide)) (by rfl) m2 k2 b2 Qaz (qs_v (qv 1) Qan))))))),fun args R EX h=>?_⟩
    obtain ⟨h,w,cs,d,rfl,hs,hR⟩:=h
    refine ⟨rfl,_,_,_,rfl,?_⟩
    cases d with
    | tuple ds=>
      show if (!(ds.all (isPl h w)&&QbN ds))=true then _ else _
      cases hc:(ds.all (isPl h w)&&QbN ds) with
      | false=>
        rw [show isSt h w cs (.tuple ds)=false by show ((ds.all (isPl h w)&&QbN ds)&&_)=false;rw [hc];rfl] at hR
        exact hR
      | true=>
        rw [show isSt h w cs (.tuple ds)=(ds.all (inC cs)&&apB (ds.map toP)) by show ((ds.all (isPl h w)&&QbN ds)&&_)=_;rw [hc];rfl] at hR
        obtain ⟨L,rfl,hL⟩:=Qd8 (Bool.and_eq_true_iff.mp hc).1
        have hl:=hs _ rfl
        rw [List.length_map] at hl
        refine Qa8 (fun d=>.bool (inC cs d)) (fun d hd k2 hk=>?_) (Qbh (items:=L.map pairD) rfl ?_)
        · obtain ⟨p,_,rfl⟩:=List.mem_map.mp hd
          exact ⟨⟨QeN cs,rfl,by have:=QdR p;omega⟩,hk⟩
        · rw [QeI] at hR
          refine Qb3 hR fun _ hR=>⟨L,rfl,by omega,hR⟩
    | _=>exact hR
theorem QjJ:(["part", "many"]:List Str).Nodup:=by decide +kernel
theorem QkT:FnScope ["many", "thing"] ["many", "thing"] (Qaa sNums):=⟨rfl,rfl,rfl,by decide +kernel,rfl,by decide +kernel,by decide +kernel⟩
theorem QlJ {f f1 f2  : Addr} {fd fd1 fd2:FuncData} (F:Fun K "is_numbers_rising" "is_numbers_rising" sNums f fd) (T:GlbA mg)
    (m1:mg "is_whole_within" = some (.ref f1)) (G1:FnOk P w K mg base CX0 2 f1 fd1 ["thing", "least", "most"] (toSp false QdV)) (b1:Binds K fd1 ["thing", "least", "most"] []) (k1:PySem.W.keepIn K (.ref f1)=true)
    (m2:mg "is_rising" = some (.ref f2)) (G2:FnOk P w K mg base CX0 1 f2 fd2 ["things"] (toSp false Qd4)) (b2:Binds K fd2 ["things"] []) (k2:PySem.W.keepIn K (.ref f2)=true) :
    FnOk P w K mg base CX0 3 f fd ["many", "thing"] (toSp false QlO):=by
  refine okQ false F QkT (fun args R EX h=>?_) (fun cdv A outer s H E hr=>?_)
  · obtain ⟨n,d,rfl,_⟩:=h
    rfl
  · have hU:=Room.u60 hr
    have hI:=Room.i60 hr
    refine ⟨_,Qad (QbU (QaV (QaU (Qab (Qbs .tuple (by rfl) T.isinstance (qp 1) (by rfl) T.tuple QaR)))) (Qaj (QaD q_bl)) QaW)
      (Qaj (QaD (QcA (Qab (Qak Qbd (Qcb rfl) (by rfl) T.all Qcc (qa_P (Qab (Qa9 ["part", "many"] [none,some 0] (Qbr (qp 1)) (fun cl ex s3 H3 C=>⟨(QaM 0 QjJ rfl (Or.inl rfl) (Or.inr rfl)),QaT,(Qaw G1 (hr.mono (by decide)) (by rfl) m1 k1 b1 Qaz (qs_v (qv 0) (qs_v Qai (qs_v (Qah (QaJ QdC QdG (qp 1) (Qaf Qai))) Qan))))⟩))) Qac))) (Qcp (Qaw G2 (hr.mono (by decide)) (by rfl) m2 k2 b2 Qaz (qs_v (qv 1) Qan)))))),fun args R EX h=>?_⟩
    obtain ⟨n,d,rfl,hR⟩:=h
    cases d with
    | tuple ds=>
      refine Qa8 (fun d=>.bool (inW d 0 (n - 1))) (fun d hd k2 hk=>⟨_,_,_,rfl,hk⟩) (Qbh (items:=ds) rfl ?_)
      refine Qb3 hR fun ha hR=>?_
      obtain ⟨ns,rfl,_⟩:=Qeb ha
      exact ⟨_,.inl rfl,Qdp ns,hR⟩
    | _=>exact hR
theorem Qi1:FnScope ["board", "thing"] ["board", "thing"] (Qaa sLines):=⟨rfl,rfl,rfl,by decide +kernel,rfl,by decide +kernel,by decide +kernel⟩
theorem QjC {f f1  : Addr} {fd fd1:FuncData} (F:Fun K "is_lines" "is_lines" sLines f fd) (T:GlbA mg)
    (m1:mg "is_numbers_rising" = some (.ref f1)) (G1:FnOk P w K mg base CX0 3 f1 fd1 ["many", "thing"] (toSp false QlO)) (b1:Binds K fd1 ["many", "thing"] []) (k1:PySem.W.keepIn K (.ref f1)=true) :
    FnOk P w K mg base CX0 4 f fd ["board", "thing"] (toSp false Qh5):=by
  refine okQ false F Qi1 (fun args R EX h=>?_) (fun cdv A outer s H E hr=>?_)
  · obtain ⟨h,w,cs,d,rfl,_⟩:=h
    rfl
  · have hU:=Room.u60 hr
    have hI:=Room.i60 hr
    refine ⟨_,Qad (QbU (q_pw (Qco (QaV (QaU (Qab (Qbs .tuple (by rfl) T.isinstance (qp 1) (by rfl) T.tuple QaR)))) (QbT (QbL Qda (Qfq hU) (Qab (Qak Qap QaP (by rfl) T.len QaI (qa_P (qp 1) Qac))) (Qaf Qai) (QaQ _))))) (Qaj (QaD q_bl)) QaW)
      (Qaj (QaD (QcA (Qaf (Qaw G1 (hr.mono (by decide)) (by rfl) m1 k1 b1 Qaz (qs_v (q_ix Qal Qax (qp 0) (Qaf Qai) (fun _ _=>rfl)) (qs_v (q_ix Qal Qax (qp 1) (Qaf Qai) (fun _ _=>rfl)) Qan)))) (Qcp (Qaw G1 (hr.mono (by decide)) (by rfl) m1 k1 b1 Qaz (qs_v (q_ix Qal Qax (qp 0) (Qaf Qai) (fun _ _=>rfl)) (qs_v (q_ix Qal Qax (qp 1) (Qaf Qai) (fun _ _=>rfl)) Qan))))))),fun args R EX h=>?_⟩
    obtain ⟨h,w,cs,d,rfl,hR⟩:=h
    cases d with
    | tuple ds=>
      match ds,hR with
      | [a,b],hR=>
        refine ⟨_,Qav (j:=0) rfl,a,rfl,_,_,rfl,?_⟩
        refine Qb3 hR fun _ hR=>?_
        exact ⟨_,Qav (j:=1) rfl,b,rfl,_,_,rfl,hR⟩
      | [],hR=>exact hR
      | [_],hR=>exact hR
      | a::b::c::r,hR=>exact hR
    | _=>exact hR
theorem QeO:(["row", "column", "columns", "rows"]:List Str).Nodup:=by decide +kernel
theorem Qd1:FnScope ["board", "thing", "rows", "columns"] ["board", "thing"] (Qaa sHolds):=⟨rfl,rfl,rfl,by decide +kernel,rfl,by decide +kernel,by decide +kernel⟩
theorem QjD {f f1  : Addr} {fd fd1:FuncData} (F:Fun K "holds" "holds" sHolds f fd) (T:GlbA mg)
    (m1:mg "is_lines" = some (.ref f1)) (G1:FnOk P w K mg base CX0 4 f1 fd1 ["board", "thing"] (toSp false Qh5)) (b1:Binds K fd1 ["board", "thing"] []) (k1:PySem.W.keepIn K (.ref f1)=true) :
    FnOk P w K mg base CX0 5 f fd ["board", "thing"] (toSp false Qic):=by
  refine okQ false F Qd1 (fun args R EX h=>?_) (fun cdv A outer s H E hr=>?_)
  · obtain ⟨h,w,cs,d,rfl,_⟩:=h
    rfl
  · have hU:=Room.u60 hr
    have hI:=Room.i60 hr
    refine ⟨_,Qad (QbU (QaV (QaU (Qaf (Qaw G1 (hr.mono (by decide)) (by rfl) m1 k1 b1 Qaz (qs_v (qv 0) (qs_v (qv 1) Qan)))))) (Qaj (QaD q_bl)) QaW)
      (Qad (QfV (qv 1) (Qby rfl (Qat 2 (Qat 3 Qbz Qd1.nd rfl (by first | exact Or.inl rfl | exact Or.inr rfl)) Qd1.nd rfl (by first | exact Or.inl rfl | exact Or.inr rfl))))
      (Qaj (Qbq (Qak Qbd (Qcb rfl) (by rfl) T.all Qcc (qa_P (Qab (Qa9 ["row", "column", "columns", "rows"] [none,none,some 3,some 2] (Qbr (Qaf (q_ix Qal Qax (qp 0) (Qaf Qai) (fun _ _=>rfl)))) (fun cl ex s3 H3 C=>⟨(Qby rfl (Qat 0 (Qat 1 Qbz QeO rfl (Or.inl rfl) (Or.inr rfl)) QeO rfl (Or.inl rfl) (Or.inr rfl))),QaT,(q_or (Qab (QbP QdE (QeM hI) (qp 0) (qp 3) (by rfl))) (Qcp (Qah (QbP QdE (QeM hI) (qp 1) (qp 2) (by rfl)))))⟩))) Qac))))),fun args R EX h=>?_⟩
    obtain ⟨h,w,cs,d,rfl,hR⟩:=h
    refine ⟨_,_,_,_,rfl,?_⟩
    have no:isLn h w d=false->R (.bool false):=fun z=>by
      have:isHl h w cs d=false:=by
        cases d<;>first | rfl | skip
        rename_i ds
        match ds,z with
        | [a,b],z=>show ((isNm h a&&isNm w b)&&_)=false;rw [show (isNm h a&&isNm w b)=false from z];rfl
        | [],_=>rfl
        | [_],_=>rfl
        | a::b::c::r,_=>rfl
      rw [<- this];exact hR
    cases z:isLn h w d with
    | false=>exact no z
    | true=>
      cases d<;>first | (cases z;done) | skip
      rename_i ds
      match ds,z,hR with
      | [a,b],z,hR=>
        have hR:R (.bool ((isNm h a&&isNm w b)&&(cs.map pairD).all fun d=>inT (toP d).1 a||inT (toP d).2 b)):=hR
        have z:(isNm h a&&isNm w b)=true:=z
        rw [z,Bool.true_and] at hR
        have z2:=Bool.and_eq_true_iff.mp z
        obtain ⟨ns,rfl,_⟩:=QdN z2.1
        obtain ⟨ms,rfl,_⟩:=QdN z2.2
        refine ⟨rfl,_,Qav (j:=2) rfl,Qa8 (fun d=>.bool (inT (toP d).1 (tN ns)||inT (toP d).2 (tN ms))) (fun d hd k2 hk=>?_) (Qbh (items:=cs.map pairD) rfl hR)⟩
        obtain ⟨p,_,rfl⟩:=List.mem_map.mp hd
        have hk:k2 (.bool (inT p.1 (tN ns)||inT p.2 (tN ms))):=hk
        refine ⟨rfl,⟨Qb8 ns,rfl,by show 0<=_;omega⟩,?_⟩
        refine ifC (fun z=>?_) fun z=>?_
        · rw [show inT p.1 (tN ns)=true from z,Bool.true_or] at hk
          exact hk
        · rw [show inT p.1 (tN ns)=false from z,Bool.false_or] at hk
          exact ⟨⟨Qb8 ms,rfl,by show 0<=_;omega⟩,hk⟩
      | [],z,_=>cases z
      | [_],z,_=>cases z
      | a::b::c::r,z,_=>cases z
theorem sc_how:FnScope ["lines"] ["lines"] (Qaa sHow):=⟨rfl,rfl,rfl,by decide +kernel,rfl,by decide +kernel,by decide +kernel⟩
theorem ok_how {f   : Addr} {fd  : FuncData} (F:Fun K "how_many_lines" "how_many_lines" sHow f fd) (T:GlbA mg) :
    FnOk P w K mg base CX0 1 f fd ["lines"] (toSp false howD):=by
  refine okQ false F sc_how (fun args R EX h=>?_) (fun cdv A outer s H E hr=>?_)
  · obtain ⟨rs,ms,rfl,_⟩:=h
    rfl
  · have hU:=Room.u60 hr
    have hI:=Room.i60 hr
    refine ⟨_,Qaj (Qbq (QaJ Qau QaE (Qab (Qak Qap QaP (by rfl) T.len QaI (qa_P (Qaf (q_ix Qal Qax (qp 0) (Qaf Qai) (fun _ _=>rfl))) Qac))) (Qab (Qak Qap QaP (by rfl) T.len QaI (qa_P (Qaf (q_ix Qal Qax (qp 0) (Qaf Qai) (fun _ _=>rfl))) Qac))))),fun args R EX h=>?_⟩
    obtain ⟨rs,ms,rfl,hR⟩:=h
    exact ⟨_,Qav (j:=0) rfl,_,Qav (j:=1) rfl,hR⟩
theorem Qff:FnScope ["board", "thing", "stand", "lines"] ["board", "thing"] (Qaa sShow):=⟨rfl,rfl,rfl,by decide +kernel,rfl,by decide +kernel,by decide +kernel⟩
theorem QlI {f f1 f2 f3  : Addr} {fd fd1 fd2 fd3:FuncData} (F:Fun K "is_showing" "is_showing" sShow f fd) (T:GlbA mg)
    (m1:mg "is_stand" = some (.ref f1)) (G1:FnOk P w K mg base CX0 5 f1 fd1 ["board", "thing"] (toSp false Qg6)) (b1:Binds K fd1 ["board", "thing"] []) (k1:PySem.W.keepIn K (.ref f1)=true)
    (m2:mg "holds" = some (.ref f2)) (G2:FnOk P w K mg base CX0 5 f2 fd2 ["board", "thing"] (toSp false Qic)) (b2:Binds K fd2 ["board", "thing"] []) (k2:PySem.W.keepIn K (.ref f2)=true)
    (m3:mg "how_many_lines" = some (.ref f3)) (G3:FnOk P w K mg base CX0 1 f3 fd3 ["lines"] (toSp false howD)) (b3:Binds K fd3 ["lines"] []) (k3:PySem.W.keepIn K (.ref f3)=true) :
    FnOk P w K mg base CX0 6 f fd ["board", "thing"] (toSp false QkR):=by
  refine okQ false F Qff (fun args R EX h=>?_) (fun cdv A outer s H E hr=>?_)
  · obtain ⟨h,w,cs,d,rfl,_⟩:=h
    rfl
  · have hU:=Room.u60 hr
    have hI:=Room.i60 hr
    refine ⟨_,Qad (QbU (q_pw (Qco (QaV (QaU (Qab (Qbs .tuple (by rfl) T.isinstance (qp 1) (by rfl) T.tuple QaR)))) (QbT (QbL Qda (Qfq hU) (Qab (Qak Qap QaP (by rfl) T.len QaI (qa_P (qp 1) Qac))) (Qaf Qai) (QaQ _))))) (Qaj (QaD q_bl)) QaW)
      (Qad (QfV (qv 1) (Qby rfl (Qat 2 (Qat 3 Qbz Qff.nd rfl (by first | exact Or.inl rfl | exact Or.inr rfl)) Qff.nd rfl (by first | exact Or.inl rfl | exact Or.inr rfl))))
      (Qaj (QaD (QcA (Qaf (Qaw G1 (hr.mono (by decide)) (by rfl) m1 k1 b1 Qaz (qs_v (qv 0) (qs_v (qv 2) Qan)))) (QcA (Qaf (Qaw G2 (hr.mono (by decide)) (by rfl) m2 k2 b2 Qaz (qs_v (qv 0) (qs_v (qv 3) Qan)))) (Qcp (Qah (QbP Qcr (Qd9 hU) (Qab (Qak Qap QaP (by rfl) T.len QaI (qa_P (qp 2) Qac))) (Qaf (Qaw G3 (hr.mono (by decide)) (by rfl) m3 k3 b3 Qaz (qs_v (qv 3) Qan))) (QaQ _))))))))),fun args R EX h=>?_⟩
    obtain ⟨h,w,cs,d,rfl,hs,hR⟩:=h
    cases d with
    | tuple ds=>
      match ds,hs,hR with
      | [a,b],hs,hR=>
        have sa:QbD a:=(hs _ rfl a (.head _)).1
        have hR:R (.bool (isSt h w cs a&&(isHl h w cs b&&decide (lenT a=nLn b)))):=hR
        refine ⟨rfl,_,_,_,_,rfl,sa,Qb3 hR fun za hR=>⟨_,_,_,_,rfl,Qb3 hR fun zb hR=>?_⟩⟩
        obtain ⟨as,rfl⟩:=Qkm za
        obtain ⟨rs,ms,rfl⟩:=Qkn zb
        exact ⟨rs,ms,rfl,hR⟩
      | [],_,hR=>exact hR
      | [_],_,hR=>exact hR
      | a::b::c::r,_,hR=>exact hR
    | _=>exact hR
end
section
variable {P:Program} {w:World} {K:PySem.W.Frag} {mg:Str->Option Value} {base:Heap}
theorem Qhi:FnScope ["_law_thing", "_law_high", "_law_wide"] ["_law_thing", "_law_high", "_law_wide"] (Qaa lPlace):=⟨rfl,rfl,rfl,by decide +kernel,rfl,by decide +kernel,by decide +kernel⟩
theorem QhN {f f1  : Addr} {fd fd1:FuncData} (F:Fun K "_law_is_place" "_law_is_place" lPlace f fd) (T:GlbA mg)
    (m1:mg "_law_whole" = some (.ref f1)) (G1:FnOk P w K mg base CX0 1 f1 fd1 ["_law_thing"] (toSp false wholeD)) (b1:Binds K fd1 ["_law_thing"] []) (k1:PySem.W.keepIn K (.ref f1)=true) :
    FnOk P w K mg base CX0 2 f fd ["_law_thing", "_law_high", "_law_wide"] (toSp false Qfv):=by
  refine okQ false F Qhi (fun args R EX h=>?_) (fun cdv A outer s H E hr=>?_)
  · obtain ⟨d,h,w,rfl,_⟩:=h
    rfl
  · have hU:=Room.u60 hr
    have hI:=Room.i60 hr
    refine ⟨_,Qad (QbU (q_pw (Qco (QaV (QaU (Qab (Qbs .tuple (by rfl) T.isinstance (qp 0) (by rfl) T.tuple QaR)))) (Qco (QbL Qda (Qfq hU) (Qab (Qak Qap QaP (by rfl) T.len QaI (qa_P (qp 0) Qac))) (Qaf Qai) (QaQ _)) (Qco (QaV (QaU (Qaf (Qaw G1 (hr.mono (by decide)) (by rfl) m1 k1 b1 Qaz (qs_v (q_ix Qal Qax (qp 0) (Qaf Qai) (fun _ _=>rfl)) Qan))))) (QbT (QaV (QaU (Qaf (Qaw G1 (hr.mono (by decide)) (by rfl) m1 k1 b1 Qaz (qs_v (q_ix Qal Qax (qp 0) (Qaf Qai) (fun _ _=>rfl)) Qan)))))))))) (Qaj (QaD q_bl)) QaW)
      (Qaj (QaD (QcA (Qab (q_ch QgE QgD (Qaf Qai) (Qaf (q_ix Qal Qax (qp 0) (Qaf Qai) (fun _ _=>rfl))) (qp 1))) (Qcp (Qah (q_ch QgE QgD (Qaf Qai) (Qaf (q_ix Qal Qax (qp 0) (Qaf Qai) (fun _ _=>rfl))) (qp 2))))))),fun args R EX h=>?_⟩
    obtain ⟨d,h,w,rfl,hR⟩:=h
    cases d with
    | tuple ds=>
      match ds,hR with
      | [a,b],hR=>
        have hR:R (.bool (inW a 0 (h - 1)&&inW b 0 (w - 1))):=hR
        rw [<- QfB,<- QfB] at hR
        refine ⟨a,rfl,a,rfl,?_⟩
        cases a with
        | int i=>
          refine ⟨b,rfl,b,rfl,?_⟩
          cases b with
          | int j=>
            refine ⟨.int i,rfl,?_⟩
            have hR:R (.bool ((decide (0<=i)&&decide (i<h))&&(decide (0<=j)&&decide (j<w)))):=hR
            refine ifC (fun z1=>?_) fun z1=>?_
            · rw [show decide (0<=i)=true from z1,Bool.true_and] at hR
              refine ifC (fun z2=>?_) fun z2=>?_
              · rw [show decide (i<h)=true from z2,Bool.true_and] at hR
                refine ⟨.int j,rfl,ifC (fun z3=>?_) fun z3=>?_⟩
                · rw [show decide (0<=j)=true from z3,Bool.true_and] at hR;exact hR
                · rw [show decide (0<=j)=false from z3,Bool.false_and] at hR;exact hR
              · rw [show decide (i<h)=false from z2,Bool.false_and] at hR;exact hR
            · rw [show decide (0<=i)=false from z1,Bool.false_and,Bool.false_and] at hR;exact hR
          | _=>simp only [inL,Bool.and_false] at hR;exact hR
        | _=>exact hR
      | [],hR=>exact hR
      | [_],hR=>exact hR
      | a::b::c::r,hR=>
        exact hR
    | _=>exact hR
theorem QgI:(["_law_k", "_law_things"]:List Str).Nodup:=by decide +kernel
theorem Qhh:FnScope ["_law_things"] ["_law_things"] (Qaa lRises):=⟨rfl,rfl,rfl,by decide +kernel,rfl,by decide +kernel,by decide +kernel⟩
theorem QhM {f   : Addr} {fd  : FuncData} (F:Fun K "_law_rises" "_law_rises" lRises f fd) (T:GlbA mg) :
    FnOk P w K mg base CX0 1 f fd ["_law_things"] (toSp false Qef):=by
  refine okQ false F Qhh (fun args R EX h=>?_) (fun cdv A outer s H E hr=>?_)
  · obtain ⟨ds,rfl | rfl,_⟩:=h<;>rfl
  · have hU:=Room.u60 hr
    have hI:=Room.i60 hr
    refine ⟨_,Qaj (Qbq (Qak Qbd (Qcb rfl) (by rfl) T.all Qcc (qa_P (Qab (Qa9 ["_law_k", "_law_things"] [none,some 0] (Qcd (by rfl) T.range (Qab (QaJ QdC QdG (Qab (Qak Qap QaP (by rfl) T.len QaI (qa_P (qp 0) Qac))) (Qaf Qai)))) (fun cl ex s3 H3 C=>⟨(QaM 0 QgI rfl (Or.inl rfl) (Or.inr rfl)),QaT,(Qah (QbP (Qkf hU) Qki (Qaf (q_ix Qal Qax (qp 1) (qp 0) (fun _ _=>rfl))) (Qaf (q_ix Qal Qax (qp 1) (Qab (QaJ Qau QaE (qp 0) (Qaf Qai))) (fun _ _=>rfl))) (QaQ _)))⟩))) Qac))),fun args R EX h=>?_⟩
    obtain ⟨ds,h,hc,hl,hR⟩:=h
    have go:∀ (i:Int) (k:Nat),i=k->k<ds.length->atI ds i=some (ds.getD k .none):=fun i k e hk=>by rw [e];exact Qav (by rw [List.getElem?_eq_getElem hk,List.getD_eq_getElem?_getD,List.getElem?_eq_getElem hk];rfl)
    have gm:∀ k,k<ds.length->ds.getD k .none∈ds:=fun k hk=>by rw [List.getD_eq_getElem?_getD,List.getElem?_eq_getElem hk];exact List.getElem_mem hk
    rcases h with rfl | rfl
    · refine ⟨⟨by omega,by omega⟩,Qa8 (fun d=>.bool (QkV ds d)) (fun d hd k2 hk=>?_) (Qbh (items:=rngD 0 ((ds.length:Int) - 1).toNat) rfl (by rw [QeE];exact hR))⟩
      obtain ⟨k,hk'⟩:=List.mem_iff_getElem?.mp hd
      obtain ⟨hlt,rfl⟩:=Qc4 hk'
      have hk:k2 (.bool (ltD (ds.getD (0+(k:Int)).toNat .none) (ds.getD ((0+(k:Int)).toNat+1) .none))):=hk
      rw [show (0+(k:Int)).toNat=k by omega] at hk
      have m1:=gm k (by omega)
      have m2:=gm (k+1) (by omega)
      exact ⟨_,go (0+(k:Int)) k (by omega) (by omega),_,go (0+(k:Int)+1) (k+1) (by omega) (by omega),⟨(hc _ m1).1,(hc _ m2).1,(hc _ m1).2.2 _ m2,(hc _ m1).2.1⟩,hk⟩
    · refine ⟨⟨by omega,by omega⟩,Qa8 (fun d=>.bool (QkV ds d)) (fun d hd k2 hk=>?_) (Qbh (items:=rngD 0 ((ds.length:Int) - 1).toNat) rfl (by rw [QeE];exact hR))⟩
      obtain ⟨k,hk'⟩:=List.mem_iff_getElem?.mp hd
      obtain ⟨hlt,rfl⟩:=Qc4 hk'
      have hk:k2 (.bool (ltD (ds.getD (0+(k:Int)).toNat .none) (ds.getD ((0+(k:Int)).toNat+1) .none))):=hk
      rw [show (0+(k:Int)).toNat=k by omega] at hk
      have m1:=gm k (by omega)
      have m2:=gm (k+1) (by omega)
      exact ⟨_,go (0+(k:Int)) k (by omega) (by omega),_,go (0+(k:Int)+1) (k+1) (by omega) (by omega),⟨(hc _ m1).1,(hc _ m2).1,(hc _ m1).2.2 _ m2,(hc _ m1).2.1⟩,hk⟩
theorem QjL:(["_law_cell", "_law_board_here"]:List Str).Nodup:=by decide +kernel
theorem QjK:(["_law_cell", "_law_board_here"]:List Str).Nodup:=by decide +kernel
theorem Qf5:(["_law_row", "_law_column"]:List Str).Nodup:=by decide +kernel
theorem Qf4:(["_law_row", "_law_column"]:List Str).Nodup:=by decide +kernel
theorem Qhj:FnScope ["_law_board_here", "_law_thing", "_law_lines"] ["_law_board_here", "_law_thing"] (Qaa lIsS):=⟨rfl,rfl,rfl,by decide +kernel,rfl,by decide +kernel,by decide +kernel⟩
theorem QlK {f f1 f2  : Addr} {fd fd1 fd2:FuncData} (F:Fun K "_law_is_stand" "_law_is_stand" lIsS f fd) (T:GlbA mg)
    (m1:mg "_law_is_place" = some (.ref f1)) (G1:FnOk P w K mg base CX0 2 f1 fd1 ["_law_thing", "_law_high", "_law_wide"] (toSp false Qfv)) (b1:Binds K fd1 ["_law_thing", "_law_high", "_law_wide"] []) (k1:PySem.W.keepIn K (.ref f1)=true)
    (m2:mg "_law_rises" = some (.ref f2)) (G2:FnOk P w K mg base CX0 1 f2 fd2 ["_law_things"] (toSp false Qef)) (b2:Binds K fd2 ["_law_things"] []) (k2:PySem.W.keepIn K (.ref f2)=true) :
    FnOk P w K mg base CX0 3 f fd ["_law_board_here", "_law_thing"] (toSp false Qfu):=by
  refine okQ false F Qhj (fun args R EX h=>?_) (fun cdv A outer s H E hr=>?_)
  · obtain ⟨h,w,cs,d,rfl,_⟩:=h
    rfl
  · have hU:=Room.u60 hr
    have hI:=Room.i60 hr
    refine ⟨_,Qad (QbU (q_pw (Qco (QaV (QaU (Qab (Qbs .tuple (by rfl) T.isinstance (qp 1) (by rfl) T.tuple QaR)))) (QbT (QaV (QaU (Qab (Qak Qbd (Qcb rfl) (by rfl) T.all Qcc (qa_P (Qab (Qa9 ["_law_cell", "_law_board_here"] [none,some 0] (Qbr (qp 1)) (fun cl ex s3 H3 C=>⟨(QaM 0 QjL rfl (Or.inl rfl) (Or.inr rfl)),QaT,(Qaw G1 (hr.mono (by decide)) (by rfl) m1 k1 b1 Qaz (qs_v (qv 0) (qs_v (q_ix Qal Qax (qp 1) (Qaf Qai) (fun _ _=>rfl)) (qs_v (q_ix Qal Qax (qp 1) (Qaf Qai) (fun _ _=>rfl)) Qan))))⟩))) Qac)))))))) (Qaj (QaD q_bl)) QaW)
      (Qad (QbU (q_pw (Qco (QaV (QaU (Qab (Qak Qbd (Qcb rfl) (by rfl) T.all Qcc (qa_P (Qab (Qa9 ["_law_cell", "_law_board_here"] [none,some 0] (Qbr (qp 1)) (fun cl ex s3 H3 C=>⟨(QaM 0 QjK rfl (Or.inl rfl) (Or.inr rfl)),QaT,(Qah (QbP QdE (QeM hI) (qp 0) (Qaf (q_ix Qal Qax (qp 1) (Qaf Qai) (fun _ _=>rfl))) (by rfl)))⟩))) Qac))))) (QbT (QaV (QaU (Qaf (Qaw G2 (hr.mono (by decide)) (by rfl) m2 k2 b2 Qaz (qs_v (qv 1) Qan)))))))) (Qaj (QaD q_bl)) QaW)
      (Qad (QaC 2 (Qah (QaJ Qau QaE (Qab (Qa9 ["_law_row", "_law_column"] [none,none] (Qbr (qp 1)) (fun cl ex s3 H3 C=>⟨(Qby rfl (Qat 0 (Qat 1 Qbz Qf5 rfl (Or.inl rfl) (Or.inr rfl)) Qf5 rfl (Or.inl rfl) (Or.inr rfl))),QaT,(qv 0)⟩))) (Qab (Qa9 ["_law_row", "_law_column"] [none,none] (Qbr (qp 1)) (fun cl ex s3 H3 C=>⟨(Qby rfl (Qat 0 (Qat 1 Qbz Qf4 rfl (Or.inl rfl) (Or.inr rfl)) Qf4 rfl (Or.inl rfl) (Or.inr rfl))),QaT,(Qah (QaJ Qau QaE (Qaf Qai) (qp 1)))⟩))))) Qhj.nd)
      (Qaj (Qbq (QbP Qcr (Qd9 hU) (Qab (Qd7 (by rfl) T.len (by rfl) T.set (qp 2))) (Qab (QaJ QhH Qkh (Qaf Qai) (Qab (Qak Qap QaP (by rfl) T.len QaI (qa_P (qp 1) Qac))))) (QaQ _)))))),fun args R EX h=>?_⟩
    obtain ⟨h,w,cs,d,rfl,h6,hs,hR⟩:=h
    cases d with
    | tuple ds=>
      have hl:=hs ds rfl
      refine Qa8 (fun d=>.bool (isPl h w d)) (fun d hd k2 hk=>⟨_,rfl,_,rfl,_,_,_,rfl,hk⟩) (Qbh (items:=ds) rfl ?_)
      cases ha:ds.all (isPl h w) with
      | false=>
        rw [show isSt h w cs (.tuple ds)=false by show ((ds.all (isPl h w)&&_)&&_)=false;rw [ha];rfl] at hR
        exact hR
      | true=>
        obtain ⟨L,rfl,hL⟩:=Qd8 ha
        rw [List.length_map] at hl
        rw [show isSt h w cs (.tuple (L.map pairD))=(QbN (L.map pairD)&&((L.map pairD).all (inC cs)&&apB L)) by show (((L.map pairD).all (isPl h w)&&_)&&(_&&apB ((L.map pairD).map toP)))=_;rw [ha,QeI];rfl] at hR
        refine Qa8 (fun d=>.bool (inC cs d)) (fun d hd k2 hk=>?_) (Qbh (items:=L.map pairD) rfl ?_)
        · obtain ⟨p,_,rfl⟩:=List.mem_map.mp hd
          exact ⟨_,rfl,⟨QeN cs,rfl,by have:=QdR p;omega⟩,hk⟩
        · cases hi:(L.map pairD).all (inC cs) with
          | false=>
            rw [hi,Bool.false_and,Bool.and_false] at hR
            exact hR
          | true=>
            rw [hi,Bool.true_and] at hR
            refine ⟨_,.inl rfl,QbA L,by rw [List.length_map];omega,?_⟩
            cases hr:QbN (L.map pairD) with
            | false=>
              rw [hr,Bool.false_and] at hR
              exact hR
            | true=>
              rw [hr,Bool.true_and] at hR
              have e1:(L.map pairD).map (fun d=>PyData.int (toP d).1)=(L.map (fun p=>p.1)).map PyData.int:=by rw [List.map_map,List.map_map];rfl
              have e2:(L.map pairD).map (fun d=>PyData.int (6+(toP d).2))=(L.map (fun p=>6+p.2)).map PyData.int:=by rw [List.map_map,List.map_map];rfl
              refine Qa8 (fun d=>.int (toP d).1) (fun d hd k2 hk=>?_) (Qa8 (fun d=>.int (6+(toP d).2)) (fun d hd k2 hk=>?_) ?_)
              · obtain ⟨p,_,rfl⟩:=List.mem_map.mp hd
                exact ⟨rfl,hk⟩
              · obtain ⟨p,_,rfl⟩:=List.mem_map.mp hd
                exact ⟨rfl,hk⟩
              · rw [e1,e2]
                refine ⟨by rw [List.length_map,List.length_map,List.length_map,List.length_map];omega,?_⟩
                rw [<- List.map_append]
                refine ⟨_,QcM _,by rw [List.length_append,List.length_map,List.length_map];omega,.inl (.inl (by decide)),?_⟩
                have c1:decide (((ddI (L.map (fun p=>p.1)++L.map (fun p=>6+p.2))).length:Int)=2*(((L.map pairD).length:Nat):Int))=apB L:=by
                  unfold apB
                  rw [<- Bool.decide_and]
                  refine decide_eq_decide.mpr ?_
                  rw [<- Qfw (L:=L) fun p hp=>by have:=hL p hp;omega,<- Qek,List.length_append,List.length_map,List.length_map,List.length_map]
                  omega
                show R (.bool (decide _))
                rw [c1]
                exact hR
    | _=>exact hR
theorem QaZ:FnScope ["_law_pot_here", "_law_most", "_law_high", "_law_wide", "_law_way", "_law_thick", "_law_cells", "_law_row", "_law_column", "_law_drawn", "_law_some"] ["_law_pot_here", "_law_most"] (Qaa lBoard):=⟨rfl,rfl,rfl,by decide +kernel,rfl,by decide +kernel,by decide +kernel⟩
theorem QhP {f f1  : Addr} {fd fd1:FuncData} (F:Fun K "_law_board" "_law_board" lBoard f fd) (T:GlbA mg)
    (m1:mg "_law_take" = some (.ref f1)) (G1:FnOk P w K mg base CX0 1 f1 fd1 ["_law_pot_here", "_law_far"] (toSp true takeD)) (b1:Binds K fd1 ["_law_pot_here", "_law_far"] []) (k1:PySem.W.keepIn K (.ref f1)=true) :
    FnOk P w K mg base CX0 2 f fd ["_law_pot_here", "_law_most"] (toSp false Qfy):=by
  refine okQ false F QaZ (fun args R EX h=>?_) (fun cdv A outer s H E hr=>?_)
  · obtain ⟨m,rfl,_⟩:=h
    rfl
  · have hU:=Room.u60 hr
    have hI:=Room.i60 hr
    refine ⟨_,Qad (QaC 2 (Qah (QaJ Qau QaE (Qaf Qai) (Qab (Qa0 G1 (hr.mono (by decide)) (by rfl) m1 k1 b1 Qaz (Qa3 0 (qs_v (qv 1) Qan)))))) QaZ.nd)
      (Qad (QaC 3 (Qah (QaJ Qau QaE (Qaf Qai) (Qab (Qa0 G1 (hr.mono (by decide)) (by rfl) m1 k1 b1 Qaz (Qa3 0 (qs_v (qv 1) Qan)))))) QaZ.nd)
      (Qad (QaC 4 (Qah (Qa0 G1 (hr.mono (by decide)) (by rfl) m1 k1 b1 Qaz (Qa3 0 (qs_v Qai Qan)))) QaZ.nd)
      (Qad (QaC 5 (Qah (QaJ Qau QaE (Qaf Qai) (Qab (Qa0 G1 (hr.mono (by decide)) (by rfl) m1 k1 b1 Qaz (Qa3 0 (qs_v Qai Qan)))))) QaZ.nd)
      (Qad (Qfi 6 (QbO Qac) QaZ.nd)
      (Qad (Qc6 PassesOwn.never rfl (Qcd (by rfl) T.range (qp 2)) (QaM 7 QaZ.nd rfl (by first | exact Or.inl rfl | exact Or.inr rfl))
        (Qaj (Qc6 PassesOwn.never rfl (Qcd (by rfl) T.range (qp 3)) (QaM 8 QaZ.nd rfl (by first | exact Or.inl rfl | exact Or.inr rfl))
        (Qad (QaC 9 (Qah (QbP QgD QhU (Qab (Qa0 G1 (hr.mono (by decide)) (by rfl) m1 k1 b1 Qaz (Qa3 0 (qs_v Qai Qan)))) (qp 5) (QaQ _))) QaZ.nd)
      (Qad (QaC 10 (Qah (QaJ Qau QaE (Qab (QaJ QhH Qkh (Qab (QbO (qa_D (qv 9) Qac))) (Qaf Qai))) (Qab (QbO (qa_D q_bl (qa_D q_bl (qa_D (Qah (QbP QgD QhU (qp 8) (qp 7) (QaQ _))) (qa_D (Qah (QbP Qcr (Qd9 hU) (Qab (QaJ QeK QjG (Qab (QaJ Qau QaE (qp 7) (qp 8))) (Qaf Qai))) (Qaf Qai) (QaQ _))) (qa_D (Qah (QbP QgE QhU (qp 7) (qp 8) (QaQ _))) Qac))))))))) QaZ.nd)
      (Qaj (QbU (qt_tru (Qaf (q_ix Qal Qax (qp 10) (qp 4) (fun _ _=>rfl)))) (Qaj (Qj9 6 (Qah (QaG (qa_D (qv 7) (qa_D (qv 8) Qac)))))) QaW)))))))
      (Qaj (Qbq (QaG (qa_D (qv 2) (qa_D (qv 3) (qa_D (Qah (Qcq Qbc QcY (by rfl) T.tuple QaR (qa_P (qp 6) Qac))) Qac))))))))))),fun args R EX h=>?_⟩
    obtain ⟨m,rfl,m1,m6,hR⟩:=h
    refine ⟨_,rfl,by omega,by omega,fun rh rh0 rh1=>⟨_,rfl,by omega,by omega,fun rw0 rw1 rw2=>?_⟩⟩
    refine ⟨_,rfl,by decide,by decide,fun way way0 way1=>⟨_,rfl,by decide,by decide,fun th th0 th1=>?_⟩⟩
    obtain ⟨h,hh⟩:∃ h:Nat,(h:Int)=1+rh:=⟨(1+rh).toNat,by omega⟩
    obtain ⟨w,hw⟩:∃ w:Nat,(w:Int)=1+rw0:=⟨(1+rw0).toNat,by omega⟩
    rw [<- hh,<- hw]
    refine ⟨⟨by omega,by omega⟩,Qdh (fun i δ=>∃ f ds x1 x2 x3 x4,δ=[.pot,.v (.int m),.v (.int h),.v (.int w),.v (.int way),.v (.int (1+th)),.own ds,x1,x2,x3,x4]/\ds=(QaL i w f).map pairD) ⟨fun _ _=>false,_,_,_,_,_,rfl,rfl⟩ ?_ ?_⟩
    · rintro i δ hi ⟨f,ds,x1,x2,x3,x4,rfl,rfl⟩
      refine ⟨⟨by omega,by omega⟩,Qdh (fun j δ=>∃ f ds x2 x3 x4,δ=[.pot,.v (.int m),.v (.int h),.v (.int w),.v (.int way),.v (.int (1+th)),.own ds,.v (.int (0+(i:Int))),x2,x3,x4]/\ds=(QaL i w f++rowF i j f).map pairD) ⟨f,_,_,_,_,rfl,by rw [show rowF i 0 f=[] from rfl,List.append_nil]⟩ ?_ ?_⟩
      · rintro j δ hj ⟨f,ds,x2,x3,x4,rfl,rfl⟩
        refine ⟨_,rfl,by decide,by decide,fun dr dr0 dr1=>?_⟩
        refine ⟨⟨by decide,by decide,by show 1*5<=_;decide⟩,by show (0:Int)<2;decide,by show 5+5<=_;decide,?_⟩
        refine QgO way0 (by show way<10;exact way1) fun d hd=>?_
        obtain ⟨b,rfl⟩:∃ b,d=.bool b:=Qag (p:=fun d=>∃ b,d=PyData.bool b) ⟨_,rfl⟩ (Qag ⟨_,rfl⟩ (Qag ⟨_,rfl⟩ (Qag ⟨_,rfl⟩ (Qag ⟨_,rfl⟩ (Qag ⟨_,rfl⟩ (Qag ⟨_,rfl⟩ (Qag ⟨_,rfl⟩ (Qag ⟨_,rfl⟩ (Qag ⟨_,rfl⟩ Qbi))))))))) d hd
        refine ⟨trivial,?_⟩
        have ec:QaL i w (updF f i j b)++rowF i (j+1) (updF f i j b)=QaL i w f++rowF i j f++(if b=true then [((i:Int),(j:Int))] else []):=by
          rw [QgS (Nat.le_refl _),Qhn,Qi4 (Nat.le_refl _),<- List.append_assoc,show updF f i j b i j=b from if_pos ⟨rfl,rfl⟩]
        cases b with
        | false=>
          refine ⟨updF f i j false,_,_,_,_,rfl,?_⟩
          rw [ec,if_neg (by decide),List.append_nil]
        | true=>
          have l1:=QcJ w f i
          have l2:=Qd3 i j f
          have l3:i*w<=6*6:=Nat.mul_le_mul (by omega) (by omega)
          refine ⟨by rw [List.length_map,List.length_append];omega,updF f i j true,_,_,_,_,rfl,?_⟩
          rw [ec,if_pos rfl,List.map_append (l₁:=QaL i w f++rowF i j f),show (0:Int)+(i:Int)=(i:Int) by omega,show (0:Int)+(j:Int)=(j:Int) by omega]
          rfl
      · rintro δ ⟨f,ds,x2,x3,x4,rfl,rfl⟩
        exact ⟨f,_,_,_,_,_,rfl,by rw [Qbw,Int.toNat_natCast]⟩
    · rintro δ ⟨f,ds,x1,x2,x3,x4,rfl,rfl⟩
      rw [Int.toNat_natCast]
      exact hR h w f (by omega) (by omega) (by omega) (by omega)
theorem QgJ:(["_law_one", "_law_many"]:List Str).Nodup:=by decide +kernel
theorem Qhl:FnScope ["_law_thing", "_law_many"] ["_law_thing", "_law_many"] (Qaa lIsSome):=⟨rfl,rfl,rfl,by decide +kernel,rfl,by decide +kernel,by decide +kernel⟩
theorem QhQ {f f1 f2  : Addr} {fd fd1 fd2:FuncData} (F:Fun K "_law_is_some" "_law_is_some" lIsSome f fd) (T:GlbA mg)
    (m1:mg "_law_whole" = some (.ref f1)) (G1:FnOk P w K mg base CX0 1 f1 fd1 ["_law_thing"] (toSp false wholeD)) (b1:Binds K fd1 ["_law_thing"] []) (k1:PySem.W.keepIn K (.ref f1)=true)
    (m2:mg "_law_rises" = some (.ref f2)) (G2:FnOk P w K mg base CX0 1 f2 fd2 ["_law_things"] (toSp false Qef)) (b2:Binds K fd2 ["_law_things"] []) (k2:PySem.W.keepIn K (.ref f2)=true) :
    FnOk P w K mg base CX0 2 f fd ["_law_thing", "_law_many"] (toSp false Qh1):=by
  refine okQ false F Qhl (fun args R EX h=>?_) (fun cdv A outer s H E hr=>?_)
  · obtain ⟨n,d,rfl,_⟩:=h
    rfl
  · have hU:=Room.u60 hr
    have hI:=Room.i60 hr
    refine ⟨_,Qad (QbU (q_pw (Qco (QaV (QaU (Qab (Qbs .tuple (by rfl) T.isinstance (qp 0) (by rfl) T.tuple QaR)))) (QbT (QaV (QaU (Qab (Qak Qbd (Qcb rfl) (by rfl) T.all Qcc (qa_P (Qab (Qa9 ["_law_one", "_law_many"] [none,some 1] (Qbr (qp 0)) (fun cl ex s3 H3 C=>⟨(QaM 0 QgJ rfl (Or.inl rfl) (Or.inr rfl)),QaT,(QcA (Qaf (Qaw G1 (hr.mono (by decide)) (by rfl) m1 k1 b1 Qaz (qs_v (qv 0) Qan))) (Qcp (Qah (q_ch QgE QgD (Qaf Qai) (qp 0) (qp 1)))))⟩))) Qac)))))))) (Qaj (QaD q_bl)) QaW)
      (Qaj (QaD (Qaw G2 (hr.mono (by decide)) (by rfl) m2 k2 b2 Qaz (qs_v (qv 0) Qan)))),fun args R EX h=>?_⟩
    obtain ⟨n,d,rfl,hs,hR⟩:=h
    cases d with
    | tuple ds=>
      have hR:R (.bool (ds.all (fun d=>inW d 0 (n - 1))&&QbN ds)):=hR
      refine Qa8 (fun d=>.bool (inW d 0 (n - 1))) (fun d hd k2 hk=>?_) (Qbh (items:=ds) rfl ?_)
      · rw [<- QfB] at hk
        refine ⟨d,rfl,?_⟩
        cases d with
        | int i=>exact QkB (b:=decide (0<=i)) hk
        | _=>exact hk
      · cases ha:ds.all (fun d=>inW d 0 (n - 1)) with
        | false=>rw [ha,Bool.false_and] at hR;exact hR
        | true=>
          rw [ha,Bool.true_and] at hR
          obtain ⟨ns,rfl,_⟩:=Qeb ha
          exact ⟨_,.inl rfl,Qdp ns,hs _ rfl,hR⟩
    | _=>exact hR
theorem QdJ:(["_law_row", "_law_column", "_law_thing"]:List Str).Nodup:=by decide +kernel
theorem Qhk:FnScope ["_law_board_here", "_law_thing"] ["_law_board_here", "_law_thing"] (Qaa lHolds):=⟨rfl,rfl,rfl,by decide +kernel,rfl,by decide +kernel,by decide +kernel⟩
theorem QhO {f f1  : Addr} {fd fd1:FuncData} (F:Fun K "_law_holds" "_law_holds" lHolds f fd) (T:GlbA mg)
    (m1:mg "_law_is_some" = some (.ref f1)) (G1:FnOk P w K mg base CX0 2 f1 fd1 ["_law_thing", "_law_many"] (toSp false Qh1)) (b1:Binds K fd1 ["_law_thing", "_law_many"] []) (k1:PySem.W.keepIn K (.ref f1)=true) :
    FnOk P w K mg base CX0 3 f fd ["_law_board_here", "_law_thing"] (toSp false Qfx):=by
  refine okQ false F Qhk (fun args R EX h=>?_) (fun cdv A outer s H E hr=>?_)
  · obtain ⟨h,w,cs,d,rfl,_⟩:=h
    rfl
  · have hU:=Room.u60 hr
    have hI:=Room.i60 hr
    refine ⟨_,Qad (QbU (q_pw (Qco (QaV (QaU (Qab (Qbs .tuple (by rfl) T.isinstance (qp 1) (by rfl) T.tuple QaR)))) (QbT (QbL Qda (Qfq hU) (Qab (Qak Qap QaP (by rfl) T.len QaI (qa_P (qp 1) Qac))) (Qaf Qai) (QaQ _))))) (Qaj (QaD q_bl)) QaW)
      (Qad (QbU (q_pw (Qco (QaV (QaU (Qaf (Qaw G1 (hr.mono (by decide)) (by rfl) m1 k1 b1 Qaz (qs_v (q_ix Qal Qax (qp 1) (Qaf Qai) (fun _ _=>rfl)) (qs_v (q_ix Qal Qax (qp 0) (Qaf Qai) (fun _ _=>rfl)) Qan)))))) (QbT (QaV (QaU (Qaf (Qaw G1 (hr.mono (by decide)) (by rfl) m1 k1 b1 Qaz (qs_v (q_ix Qal Qax (qp 1) (Qaf Qai) (fun _ _=>rfl)) (qs_v (q_ix Qal Qax (qp 0) (Qaf Qai) (fun _ _=>rfl)) Qan))))))))) (Qaj (QaD q_bl)) QaW)
      (Qaj (Qbq (Qak Qbd (Qcb rfl) (by rfl) T.all Qcc (qa_P (Qab (Qa9 ["_law_row", "_law_column", "_law_thing"] [none,none,some 1] (Qbr (Qaf (q_ix Qal Qax (qp 0) (Qaf Qai) (fun _ _=>rfl)))) (fun cl ex s3 H3 C=>⟨(Qby rfl (Qat 0 (Qat 1 Qbz QdJ rfl (Or.inl rfl) (Or.inr rfl)) QdJ rfl (Or.inl rfl) (Or.inr rfl))),QaT,(q_or (Qab (QbP QdE (QeM hI) (qp 0) (Qaf (q_ix Qal Qax (qp 2) (Qaf Qai) (fun _ _=>rfl))) (by rfl))) (Qcp (Qah (QbP QdE (QeM hI) (qp 1) (Qaf (q_ix Qal Qax (qp 2) (Qaf Qai) (fun _ _=>rfl))) (by rfl)))))⟩))) Qac))))),fun args R EX h=>?_⟩
    obtain ⟨h,w,cs,d,rfl,hs,hR⟩:=h
    cases d with
    | tuple ds=>
      match ds,hs,hR with
      | [a,b],hs,hR=>
        have sa:QbD a:=hs _ rfl a (.head _)
        have sb:QbD b:=hs _ rfl b (.tail _ (.head _))
        have hR:R (.bool ((isNm h a&&isNm w b)&&(cs.map pairD).all fun d=>inT (toP d).1 a||inT (toP d).2 b)):=hR
        refine ⟨a,rfl,_,Qav (j:=0) rfl,_,_,rfl,sa,?_⟩
        cases za:isNm h a with
        | false=>rw [za,Bool.false_and,Bool.false_and] at hR;exact hR
        | true=>
          rw [za,Bool.true_and] at hR
          refine ⟨b,rfl,_,Qav (j:=1) rfl,_,_,rfl,sb,?_⟩
          cases zb:isNm w b with
          | false=>rw [zb,Bool.false_and] at hR;exact hR
          | true=>
            rw [zb,Bool.true_and] at hR
            obtain ⟨ns,rfl,_⟩:=QdN za
            obtain ⟨ms,rfl,_⟩:=QdN zb
            refine ⟨_,Qav (j:=2) rfl,Qa8 (fun d=>.bool (inT (toP d).1 (tN ns)||inT (toP d).2 (tN ms))) (fun d hd k2 hk=>?_) (Qbh (items:=cs.map pairD) rfl hR)⟩
            obtain ⟨p,_,rfl⟩:=List.mem_map.mp hd
            have hk:k2 (.bool (inT p.1 (tN ns)||inT p.2 (tN ms))):=hk
            refine ⟨rfl,tN ns,rfl,⟨Qb8 ns,rfl,by show 0<=_;omega⟩,?_⟩
            refine ifC (fun z=>?_) fun z=>?_
            · rw [show inT p.1 (tN ns)=true from z,Bool.true_or] at hk
              exact hk
            · rw [show inT p.1 (tN ns)=false from z,Bool.false_or] at hk
              exact ⟨tN ms,rfl,⟨Qb8 ms,rfl,by show 0<=_;omega⟩,hk⟩
      | [],_,hR=>exact hR
      | [_],_,hR=>exact hR
      | a::b::c::r,_,hR=>exact hR
    | _=>exact hR
theorem Qj7:FnScope ["_law_pot_here", "_law_some"] ["_law_pot_here"] (Qaa lOdd):=⟨rfl,rfl,rfl,by decide +kernel,rfl,by decide +kernel,by decide +kernel⟩
theorem ok_odd {f f1  : Addr} {fd fd1:FuncData} (F:Fun K "_law_odd" "_law_odd" lOdd f fd) (T:GlbA mg)
    (m1:mg "_law_take" = some (.ref f1)) (G1:FnOk P w K mg base CX0 1 f1 fd1 ["_law_pot_here", "_law_far"] (toSp true takeD)) (b1:Binds K fd1 ["_law_pot_here", "_law_far"] []) (k1:PySem.W.keepIn K (.ref f1)=true) :
    FnOk P w K mg base CX0 2 f fd ["_law_pot_here"] (toSp false Qh4):=by
  refine okQ false F Qj7 (fun args R EX h=>?_) (fun cdv A outer s H E hr=>?_)
  · obtain ⟨rfl,_⟩:=h
    rfl
  · have hU:=Room.u60 hr
    have hI:=Room.i60 hr
    refine ⟨_,Qad (QaC 1 (Qah (QbO (qa_D q_non (qa_D q_bl (qa_D q_bl (qa_D (Qah (q_neg (Qaf Qai))) (qa_D Qai (qa_D (Qah (QaJ QhE QjG (Qaf Qai) (Qaf Qai))) (qa_D Qk2 (qa_D Qk2 (qa_D Qk2 (qa_D (Qah (QaG Qac)) (qa_D (Qah (QaG (qa_D Qai Qac))) (qa_D (Qah (QaG (qa_D Qai (qa_D Qai Qac)))) (qa_D (Qah (QbO (qa_D Qai Qac))) (qa_D q_dct (qa_D (Qah (QaG (qa_D (Qah (QaG (qa_D Qai (qa_D Qai Qac)))) Qac))) (qa_D (Qah (QbO (qa_D (Qah (QaG (qa_D Qai (qa_D Qai Qac)))) Qac))) Qac)))))))))))))))))) Qj7.nd)
      (Qaj (QaD (q_ix Qal Qax (qp 1) (Qab (Qa0 G1 (hr.mono (by decide)) (by rfl) m1 k1 b1 Qaz (Qa3 0 (qs_v Qai Qan)))) (fun _ _=>rfl)))),fun args R EX h=>?_⟩
    obtain ⟨rfl,hR⟩:=h
    refine ⟨⟨by decide,by decide,by decide⟩,_,rfl,by decide,by decide,fun r r0 r1=>QgO r0 r1 fun d hd=>hR d ?_⟩
    exact Qag (p:=fun d=>sh2 d/\Qbn d) (⟨QbM rfl,QbE rfl⟩) (Qag (⟨QbM rfl,QbE rfl⟩) (Qag (⟨QbM rfl,QbE rfl⟩) (Qag (⟨QbM rfl,QbE rfl⟩) (Qag (⟨QbM rfl,QbE rfl⟩) (Qag (⟨QbM rfl,QbE rfl⟩) (Qag (⟨QbM rfl,QbE rfl⟩) (Qag (⟨QbM rfl,QbE rfl⟩) (Qag (⟨QbM rfl,QbE rfl⟩) (Qag (⟨⟨Qbm (by decide),fun ds e=>by cases e;exact Qbi⟩,fun ds e=>by cases e;exact Qbi⟩) (Qag (⟨⟨Qbm (by decide),fun ds e=>by cases e;exact Qag (QbF rfl) (Qbi)⟩,fun ds e=>by cases e;exact Qag (QbM rfl) (Qbi)⟩) (Qag (⟨⟨Qbm (by decide),fun ds e=>by cases e;exact Qag (QbF rfl) (Qag (QbF rfl) (Qbi))⟩,fun ds e=>by cases e;exact Qag (QbM rfl) (Qag (QbM rfl) (Qbi))⟩) (Qag (⟨QbM rfl,QbE rfl⟩) (Qag (⟨QbM rfl,QbE rfl⟩) (Qag (⟨⟨Qbm (by decide),fun ds e=>by cases e;exact Qag (Qbm (by decide)) Qbi⟩,fun ds e=>by cases e;exact Qag (QiX (QbF rfl) (QbF rfl)) Qbi⟩) (Qag (⟨QbM rfl,QbE rfl⟩) (Qbi)))))))))))))))) d hd
theorem QgK:(["_law_row", "_law_bits"]:List Str).Nodup:=by decide +kernel
theorem QdK:(["_law_row", "_law_column", "_law_rows"]:List Str).Nodup:=by decide +kernel
theorem QcD:(["_law_many", "_law_rows", "_law_columns"]:List Str).Nodup:=by decide +kernel
theorem QbS:FnScope ["_law_board_here", "_law_found", "_law_bits", "_law_rows", "_law_columns"] ["_law_board_here"] (Qaa lCovers):=⟨rfl,rfl,rfl,by decide +kernel,rfl,by decide +kernel,by decide +kernel⟩
theorem QhR {f   : Addr} {fd  : FuncData} (F:Fun K "_law_covers" "_law_covers" lCovers f fd) (T:GlbA mg) :
    FnOk P w K mg base CX0 2 f fd ["_law_board_here"] (toSp false QfD):=by
  refine okQ false F QbS (fun args R EX h=>?_) (fun cdv A outer s H E hr=>?_)
  · obtain ⟨h,w,cs,rfl,_⟩:=h
    rfl
  · have hU:=Room.u60 hr
    have hI:=Room.i60 hr
    refine ⟨_,Qad (Qfi 1 (QbO Qac) QbS.nd)
      (Qad (Qc6 PassesOwn.never rfl (Qcd (by rfl) T.range (Qab (QaJ op_shl QjG (Qaf Qai) (Qaf (q_ix Qal Qax (qp 0) (Qaf Qai) (fun _ _=>rfl)))))) (QaM 2 QbS.nd rfl (by first | exact Or.inl rfl | exact Or.inr rfl))
        (Qad (QaC 3 (Qah (Qcq Qbc QcY (by rfl) T.tuple QaR (qa_P (Qab (Qa9 ["_law_row", "_law_bits"] [none,some 2] (Qcd (by rfl) T.range (Qaf (q_ix Qal Qax (qp 0) (Qaf Qai) (fun _ _=>rfl)))) (fun cl ex s3 H3 C=>⟨(QaM 0 QgK rfl (Or.inl rfl) (Or.inr rfl)),(Qc5 (QbL Qcr (Qd9 hU) (Qab (QaJ op_and QdG (Qab (QaJ op_shr QjG (qp 1) (qp 0))) (Qaf Qai))) (Qaf Qai) (QaQ _))),(qv 0)⟩))) Qac))) QbS.nd)
      (Qad (QaC 4 (Qah (Qhu (by rfl) T.sorted (by rfl) T.set (Qab (Qa9 ["_law_row", "_law_column", "_law_rows"] [none,none,some 3] (Qbr (Qaf (q_ix Qal Qax (qp 0) (Qaf Qai) (fun _ _=>rfl)))) (fun cl ex s3 H3 C=>⟨(Qby rfl (Qat 0 (Qat 1 Qbz QdK rfl (Or.inl rfl) (Or.inr rfl)) QdK rfl (Or.inl rfl) (Or.inr rfl))),(Qc5 (QbL QeJ (QeM hI) (qp 0) (qp 2) (by rfl))),(qv 1)⟩))))) QbS.nd)
      (Qaj (Qj9 1 (Qah (QaG (qa_D (Qah (QaJ Qau QaE (Qab (Qak Qap QaP (by rfl) T.len QaI (qa_P (qp 3) Qac))) (Qab (Qak Qap QaP (by rfl) T.len QaI (qa_P (qp 4) Qac))))) (qa_D (qv 3) (qa_D (Qah (Qcq Qbc QcY (by rfl) T.tuple QaR (qa_P (qp 4) Qac))) Qac))))))))))
      (Qaj (Qbq (Qa9 ["_law_many", "_law_rows", "_law_columns"] [none,none,none] (Qcz (Qab (Qak (QcL hU) Qeq (by rfl) T.sorted Qct (qa_P (qp 1) Qac)))) (fun cl ex s3 H3 C=>⟨(Qby rfl (Qat 0 (Qat 1 (Qat 2 Qbz QcD rfl (Or.inl rfl) (Or.inr rfl)) QcD rfl (Or.inl rfl) (Or.inr rfl)) QcD rfl (Or.inl rfl) (Or.inr rfl))),QaT,(Qah (QaG (qa_D (qv 1) (qa_D (qv 2) Qac))))⟩))))),fun args R EX h=>?_⟩
    obtain ⟨h,w,cs,rfl,h1,h6,hc,hl,hR⟩:=h
    have hp:(2:Nat)^h<=64:=Nat.pow_le_pow_right (n:=2) (by decide) h6
    have b0:(0:Int)<=1*2^((h:Nat):Int).toNat/\(1*2^((h:Nat):Int).toNat:Int)<=64:=by rw [Qk7];exact ⟨Int.natCast_nonneg _,Int.ofNat_le.mpr hp⟩
    refine ⟨_,Qav (j:=0) rfl,⟨by omega,by omega,by decide⟩,⟨Int.le_trans (by decide) b0.1,Int.le_trans b0.2 (by decide)⟩,Qdh (fun i δ=>∃ Ts ds x2 x3 x4,δ=[.v (bdD h w cs),.own ds,x2,x3,x4]/\ds=Ts.map trD/\Ts.length=i/\∀ t∈Ts,t.2.1.length<=6/\t.2.2.length<=6) ⟨[],_,_,_,_,rfl,rfl,rfl,fun _ h=>nomatch h⟩ ?_ ?_⟩
    · rintro i δ hi ⟨Ts,ds,x2,x3,x4,rfl,rfl,hT,hb⟩
      rw [Qk7,Int.toNat_natCast] at hi
      refine ⟨_,Qav (j:=0) rfl,⟨by omega,by omega⟩,Qku (fun d=>d) (fun d hd k1 k2 g1 g2=>?_) fun p=>?_⟩
      · obtain ⟨k,hk⟩:=List.mem_iff_getElem?.mp hd
        obtain ⟨hlt,rfl⟩:=Qc4 hk
        refine ⟨by show (0:Int)<=0+(k:Int);omega,?_⟩
        exact ifC (fun _=>g2) fun _=>g1
      · obtain ⟨rs,e,hrs⟩:=Qi5 (n:=(h:Int)) (by omega) p
        rw [e]
        refine ⟨_,Qav (j:=2) rfl,Qku (fun d=>.int (toP d).2) (fun d hd k1 k2 g1 g2=>?_) fun p2=>?_⟩
        · obtain ⟨q,_,rfl⟩:=List.mem_map.mp hd
          exact ⟨rfl,⟨Qb8 rs,rfl,by show 0<=_;omega⟩,ifC (fun _=>g2) fun _=>g1⟩
        · obtain ⟨ns,e2,h6'⟩:=QjW hc p2
          rw [e2]
          refine QkU ns h6' fun ms pw mem=>?_
          have lms:=Qka ms 0 (by decide) pw fun x hx=>⟨Nat.zero_le _,h6' x ((mem x).mp hx)⟩
          refine ⟨by rw [List.length_map];omega,Ts++[(((rs.map PyData.int).length:Int)+((ms.map fun (n:Nat)=>PyData.int n).length:Int),rs,ms.map fun (n:Nat)=>(n:Int))],_,_,_,_,rfl,?_,by rw [List.length_append,hT];rfl,?_⟩
          · rw [List.map_append]
            show _=Ts.map trD++[PyData.tuple [_,PyData.tuple (rs.map PyData.int),PyData.tuple ((ms.map fun (n:Nat)=>(n:Int)).map PyData.int)]]
            rw [List.map_map]
            rfl
          · intro t ht
            rcases List.mem_append.mp ht with z | z
            · exact hb t z
            · rw [List.mem_singleton.mp z]
              exact ⟨hrs,by rw [List.length_map];omega⟩
    · rintro δ ⟨Ts,ds,x2,x3,x4,rfl,rfl,hT,hb⟩
      rw [Qk7,Int.toNat_natCast] at hT
      refine (QdZ (Qfe Ts) fun es pm pw=>?_).1
      obtain ⟨Us,pu,rfl⟩:=QbY trD pm rfl
      refine Qa8 lnOf (fun d hd k2 hk=>?_) ?_
      · obtain ⟨t,_,rfl⟩:=List.mem_map.mp hd
        exact ⟨rfl,hk⟩
      · have e:(Us.map trD).map lnOf=(Us.map (·.2)).map lnD:=by rw [List.map_map,List.map_map];rfl
        rw [e]
        refine hR _ (by rw [List.length_map,pu.length_eq,hT]) fun q hq=>?_
        obtain ⟨t,ht,rfl⟩:=List.mem_map.mp hq
        exact hb t (pu.mem_iff.mp ht)
theorem sc_due:FnScope ["_law_board_here", "_law_thing"] ["_law_board_here", "_law_thing"] (Qaa lDue):=⟨rfl,rfl,rfl,by decide +kernel,rfl,by decide +kernel,by decide +kernel⟩
theorem ok_due {f f1 f2  : Addr} {fd fd1 fd2:FuncData} (F:Fun K "_law_due" "_law_due" lDue f fd) (T:GlbA mg)
    (m1:mg "_law_is_stand" = some (.ref f1)) (G1:FnOk P w K mg base CX0 3 f1 fd1 ["_law_board_here", "_law_thing"] (toSp false Qfu)) (b1:Binds K fd1 ["_law_board_here", "_law_thing"] []) (k1:PySem.W.keepIn K (.ref f1)=true)
    (m2:mg "_law_holds" = some (.ref f2)) (G2:FnOk P w K mg base CX0 3 f2 fd2 ["_law_board_here", "_law_thing"] (toSp false Qfx)) (b2:Binds K fd2 ["_law_board_here", "_law_thing"] []) (k2:PySem.W.keepIn K (.ref f2)=true) :
    FnOk P w K mg base CX0 4 f fd ["_law_board_here", "_law_thing"] (toSp false Qh6):=by
  refine okQ false F sc_due (fun args R EX h=>?_) (fun cdv A outer s H E hr=>?_)
  · obtain ⟨h,w,cs,d,rfl,_⟩:=h
    rfl
  · have hU:=Room.u60 hr
    have hI:=Room.i60 hr
    refine ⟨_,Qad (QbU (q_pw (Qco (QaV (QaU (Qab (Qbs .tuple (by rfl) T.isinstance (qp 1) (by rfl) T.tuple QaR)))) (Qco (QbL Qda (Qfq hU) (Qab (Qak Qap QaP (by rfl) T.len QaI (qa_P (qp 1) Qac))) (Qaf Qai) (QaQ _)) (QbT (QaV (QaU (Qaf (Qaw G1 (hr.mono (by decide)) (by rfl) m1 k1 b1 Qaz (qs_v (qv 0) (qs_v (q_ix Qal Qax (qp 1) (Qaf Qai) (fun _ _=>rfl)) Qan)))))))))) (Qaj (QaD q_bl)) QaW)
      (Qad (QbU (QaV (QaU (Qaf (Qaw G2 (hr.mono (by decide)) (by rfl) m2 k2 b2 Qaz (qs_v (qv 0) (qs_v (q_ix Qal Qax (qp 1) (Qaf Qai) (fun _ _=>rfl)) Qan)))))) (Qaj (QaD q_bl)) QaW)
      (Qaj (Qbq (QbP Qcr (Qd9 hU) (Qab (Qak Qap QaP (by rfl) T.len QaI (qa_P (Qaf (q_ix Qal Qax (qp 1) (Qaf Qai) (fun _ _=>rfl))) Qac))) (Qab (QaJ Qau QaE (Qab (Qak Qap QaP (by rfl) T.len QaI (qa_P (Qaf (q_ix Qal Qax (Qaf (q_ix Qal Qax (qp 1) (Qaf Qai) (fun _ _=>rfl))) (Qaf Qai) (fun _ _=>rfl))) Qac))) (Qab (Qak Qap QaP (by rfl) T.len QaI (qa_P (Qaf (q_ix Qal Qax (Qaf (q_ix Qal Qax (qp 1) (Qaf Qai) (fun _ _=>rfl))) (Qaf Qai) (fun _ _=>rfl))) Qac))))) (QaQ _))))),fun args R EX h=>?_⟩
    obtain ⟨h,w,cs,d,rfl,h6,hs,hR⟩:=h
    cases d with
    | tuple ds=>
      match ds,hs,hR with
      | [a,b],hs,hR=>
        have sa:QbD a:=(hs _ rfl a (.head _)).1
        have sb:QfS b:=(hs _ rfl b (.tail _ (.head _))).2
        have hR:R (.bool (isSt h w cs a&&(isHl h w cs b&&decide (lenT a=nLn b)))):=hR
        refine ⟨a,rfl,_,_,_,_,rfl,h6,sa,?_⟩
        cases za:isSt h w cs a with
        | false=>rw [za,Bool.false_and] at hR;exact hR
        | true=>
          rw [za,Bool.true_and] at hR
          refine ⟨b,rfl,_,_,_,_,rfl,sb,?_⟩
          cases zb:isHl h w cs b with
          | false=>rw [zb,Bool.false_and] at hR;exact hR
          | true=>
            rw [zb,Bool.true_and] at hR
            obtain ⟨as,rfl⟩:=Qkm za
            obtain ⟨rs,ms,rfl⟩:=Qkn zb
            exact ⟨_,rfl,_,rfl,_,rfl,_,rfl,_,rfl,hR⟩
      | [],_,hR=>exact hR
      | [_],_,hR=>exact hR
      | a::b::c::r,_,hR=>exact hR
    | _=>exact hR
end
section
variable {P:Program} {w:World} {K:PySem.W.Frag} {mg:Str->Option Value} {base:Heap}
theorem QgH:(["_law_cell", "_law_row"]:List Str).Nodup:=by decide +kernel
theorem QdH:(["_law_line", "_law_column"]:List Str).Nodup:=by decide +kernel
theorem QgG:(["_law_cell", "_law_columns", "_law_stand"]:List Str).Nodup:=by decide +kernel
theorem Qbe:FnScope ["_law_board_here", "_law_found", "_law_row", "_law_cells", "_law_more", "_law_stand", "_law_columns"] ["_law_board_here"] (Qaa lStands):=⟨rfl,rfl,rfl,by decide +kernel,rfl,by decide +kernel,by decide +kernel⟩
theorem QhJ {f   : Addr} {fd  : FuncData} (F:Fun K "_law_stands" "_law_stands" lStands f fd) (T:GlbA mg) :
    FnOk P w K mg base CX0 2 f fd ["_law_board_here"] (toSp false Qee):=by
  refine okQ false F Qbe (fun args R EX h=>?_) (fun cdv A outer s H E hr=>?_)
  · obtain ⟨h,w,cs,rfl,_⟩:=h
    rfl
  · have hU:=Room.u60 hr
    have hI:=Room.i60 hr
    refine ⟨_,Qad (QaC 1 (Qah (QbO (qa_D (Qah (QaG Qac)) Qac))) Qbe.nd)
      (Qad (Qc6 PassesOwn.never rfl (Qcd (by rfl) T.range (Qaf (q_ix Qal Qax (qp 0) (Qaf Qai) (fun _ _=>rfl)))) (QaM 2 Qbe.nd rfl (by first | exact Or.inl rfl | exact Or.inr rfl))
        (Qad (Qd6 ["_law_cell", "_law_row"] [none,some 2] 3 Qbe.nd (Qbr (Qaf (q_ix Qal Qax (qp 0) (Qaf Qai) (fun _ _=>rfl)))) (fun cl ex s3 H3 C=>⟨(QaM 0 QgH rfl (Or.inl rfl) (Or.inr rfl)),(Qc5 (QbL Qcr (Qd9 hU) (Qaf (q_ix Qal Qax (qp 0) (Qaf Qai) (fun _ _=>rfl))) (qp 1) (QaQ _))),(qv 0)⟩))
      (Qad (Qfi 4 (QbO Qac) Qbe.nd)
      (Qad (Qc6 PassesOwn.never rfl (Qcz (qv 1)) (QaM 5 Qbe.nd rfl (by first | exact Or.inl rfl | exact Or.inr rfl))
        (Qad (QaC 6 (Qah (Qa9 ["_law_line", "_law_column"] [none,none] (Qbr (qp 5)) (fun cl ex s3 H3 C=>⟨(Qby rfl (Qat 0 (Qat 1 Qbz QdH rfl (Or.inl rfl) (Or.inr rfl)) QdH rfl (Or.inl rfl) (Or.inr rfl))),QaT,(qv 1)⟩))) Qbe.nd)
      (Qaj (qs_ext 4 (Qab (Qa9 ["_law_cell", "_law_columns", "_law_stand"] [none,some 6,some 5] (Qcz (qp 3)) (fun cl ex s3 H3 C=>⟨(QaM 0 QgG rfl (Or.inl rfl) (Or.inr rfl)),(Qc5 (QbL QeJ (QeM hI) (Qaf (q_ix Qal Qax (qp 0) (Qaf Qai) (fun _ _=>rfl))) (qp 1) (by rfl))),(Qah (QaJ Qau QaE (qp 2) (Qab (QaG (qa_D (qv 0) Qac)))))⟩)))))))
      (Qaj (QaC 1 (Qah (QaJ Qau QaE (qp 1) (qp 4))) Qbe.nd))))))
      (Qaj (Qbq (Qak (QcL hU) Qeq (by rfl) T.sorted Qct (qa_P (qp 1) Qac))))),fun args R EX h=>?_⟩
    obtain ⟨h,w,cs,rfl,h6,hr,hR⟩:=h
    refine ⟨_,Qav (j:=0) rfl,⟨by omega,by omega⟩,Qdh (fun i δ=>∃ x1 x2 x3 x4 x5 x6,δ=[.v (bdD h w cs),x1,x2,x3,x4,x5,x6]/\x1=.v (.list ((stsN cs i).map stT))) ⟨_,_,_,_,_,_,rfl,rfl⟩ ?_ ?_⟩
    · rintro i δ hi ⟨x1,x2,x3,x4,x5,x6,rfl,rfl⟩
      rw [Int.toNat_natCast] at hi
      have b1:=QdX hr i
      have b2:=pow7 (i:=i) (by omega)
      refine ⟨_,Qav (j:=2) rfl,Qmd (fun d=>if (toP d).1=(i:Int) then some d else none) (fun d hd k1 k2 hk1 hk2=>?_) ?_⟩
      · obtain ⟨p,_,rfl⟩:=List.mem_map.mp hd
        refine ⟨_,Qav (j:=0) rfl,?_⟩
        have hk1:(if p.1=(i:Int) then some (pairD p) else none)=none->k1:=hk1
        have hk2:∀ e,(if p.1=(i:Int) then some (pairD p) else none)=some e->k2 e:=hk2
        show if decide (p.1=0+(i:Int))=true then k2 (pairD p) else k1
        rw [show (0:Int)+(i:Int)=(i:Int) by omega]
        by_cases z:p.1=(i:Int)
        · rw [if_pos (decide_eq_true z)];exact hk2 _ (if_pos z)
        · rw [if_neg (by simpa using z)];exact hk1 (if_neg z)
      · rw [row_fm]
        refine QeV (fun j δ=>∃ ds x5 x6,δ=[.v (bdD h w cs),.v (.list ((stsN cs i).map stT)),.v (.int (0+(i:Int))),.v (.list ((rowC cs i).map pairD)),.own ds,x5,x6]/\ds=(((stsN cs i).take j).flatMap (extS (rowC cs i))).map stT) ⟨_,_,_,rfl,rfl⟩ ?_ ?_
        · rintro j d δ hd ⟨ds,x5,x6,rfl,rfl⟩
          rw [List.getElem?_map] at hd
          obtain ⟨L,eL,rfl⟩:∃ L,(stsN cs i)[j]? = some L/\d=stT L:=by
            cases e:(stsN cs i)[j]? with
            | none=>rw [e] at hd;cases hd
            | some L=>rw [e] at hd;cases hd;exact ⟨L,rfl,rfl⟩
          refine Qa8 (fun d=>.int (toP d).2) (fun d hd k2 hk=>?_) ?_
          · obtain ⟨p,_,rfl⟩:=List.mem_map.mp hd
            exact ⟨rfl,hk⟩
          · rw [show (L.map pairD).map (fun d=>PyData.int (toP d).2)=(L.map (·.2)).map PyData.int by rw [List.map_map,List.map_map];rfl]
            have lL:=Qcl i L (List.mem_of_getElem? eL)
            refine Qmd (fun d=>if (toP d).2∈L.map (·.2) then none else some (.tuple (L.map pairD++[d]))) (fun d hd k1 k2 hk1 hk2=>?_) ?_
            · obtain ⟨p,_,rfl⟩:=List.mem_map.mp hd
              have hk1:(if p.2∈L.map (·.2) then none else some (PyData.tuple (L.map pairD++[pairD p])))=none->k1:=hk1
              have hk2:∀ e,(if p.2∈L.map (·.2) then none else some (PyData.tuple (L.map pairD++[pairD p])))=some e->k2 e:=hk2
              refine ⟨_,Qav (j:=1) rfl,⟨Qb8 _,rfl,by show PyData.depth (.int _)<=50;unfold PyData.depth;decide⟩,?_⟩
              show if (!((L.map (·.2)).map PyData.int).any fun e=>PyData.eqv e (.int p.2))=true then _ else k1
              rw [Qml]
              by_cases z:p.2∈L.map (·.2)
              · rw [if_neg (by simpa using z)];exact hk1 (if_pos z)
              · rw [if_pos (by simpa using z)]
                exact ⟨by rw [List.length_map];show _+1<=_;omega,hk2 _ (if_neg z)⟩
            · rw [ext_fm]
              have c1:((stsN cs i).take (j+1)).flatMap (extS (rowC cs i))=((stsN cs i).take j).flatMap (extS (rowC cs i))++extS (rowC cs i) L:=by
                rw [List.take_add_one,eL,List.flatMap_append];simp
              have c2:=QcV (xs:=(stsN cs i).take (j+1)) (f:=extS (rowC cs i)) (k:=6) fun L _=>Nat.le_trans (Qej (rowC cs i) L) (hr i)
              rw [c1,List.length_append] at c2
              have c3:((stsN cs i).take (j+1)).length<=(stsN cs i).length:=List.length_take_le' _ _
              have c4:((stsN cs i).take (j+1)).length*6<=7^i*6:=Nat.mul_le_mul_right 6 (Nat.le_trans c3 b1)
              refine ⟨by rw [List.length_map,List.length_map];omega,_,_,_,rfl,?_⟩
              rw [c1,List.map_append]
        · rintro δ ⟨ds,x5,x6,rfl,rfl⟩
          rw [List.length_map,List.take_length]
          have c2:=QcV (xs:=stsN cs i) (f:=extS (rowC cs i)) (k:=6) fun L _=>Nat.le_trans (Qej (rowC cs i) L) (hr i)
          have c4:(stsN cs i).length*6<=7^i*6:=Nat.mul_le_mul_right 6 b1
          refine ⟨by rw [List.length_map,List.length_map];omega,_,_,_,_,_,_,rfl,?_⟩
          show Sl.v (.list ((stsN cs i).map stT++((stsN cs i).flatMap (extS (rowC cs i))).map stT))=.v (.list ((stsN cs i++(stsN cs i).flatMap (extS (rowC cs i))).map stT))
          rw [List.map_append]
    · rintro δ ⟨x1,x2,x3,x4,x5,x6,rfl,rfl⟩
      rw [Int.toNat_natCast]
      refine (QdZ (Qc3 (stsN cs h)) fun es pm pw=>?_).1
      obtain ⟨Ls,p2,rfl⟩:=QbY stT pm rfl
      exact hR Ls p2 pw
theorem Qbp:FnScope ["_law_pot_here", "_law_board_here", "_law_stand", "_law_lines", "_law_at", "_law_spot", "_law_place", "_law_rows", "_law_columns", "_law_some"] ["_law_pot_here", "_law_board_here", "_law_stand", "_law_lines"] (Qaa lBent):=⟨rfl,rfl,rfl,by decide +kernel,rfl,by decide +kernel,by decide +kernel⟩
theorem QlL {f f1 f2  : Addr} {fd fd1 fd2:FuncData} (F:Fun K "_law_bent" "_law_bent" lBent f fd) (T:GlbA mg)
    (m1:mg "_law_take" = some (.ref f1)) (G1:FnOk P w K mg base CX0 1 f1 fd1 ["_law_pot_here", "_law_far"] (toSp true takeD)) (b1:Binds K fd1 ["_law_pot_here", "_law_far"] []) (k1:PySem.W.keepIn K (.ref f1)=true)
    (m2:mg "_law_odd" = some (.ref f2)) (G2:FnOk P w K mg base CX0 2 f2 fd2 ["_law_pot_here"] (toSp false Qh4)) (b2:Binds K fd2 ["_law_pot_here"] []) (k2:PySem.W.keepIn K (.ref f2)=true) :
    FnOk P w K mg base CX0 3 f fd ["_law_pot_here", "_law_board_here", "_law_stand", "_law_lines"] (toSp false Qeh):=by
  refine okQ false F Qbp (fun args R EX h=>?_) (fun cdv A outer s H E hr=>?_)
  · obtain ⟨h,w,cs,L,rs,ms,rfl,_⟩:=h
    rfl
  · have hU:=Room.u60 hr
    have hI:=Room.i60 hr
    refine ⟨_,Qad (QaC 4 (Qah (Qa0 G1 (hr.mono (by decide)) (by rfl) m1 k1 b1 Qaz (Qa3 0 (qs_v (Qah (QaJ Qau QaE (Qab (Qak Qap QaP (by rfl) T.len QaI (qa_P (qp 2) Qac))) (Qaf Qai))) Qan)))) Qbp.nd)
      (Qad (QaC 5 (Qah (Qa0 G1 (hr.mono (by decide)) (by rfl) m1 k1 b1 Qaz (Qa3 0 (qs_v (Qah (QaJ Qau QaE (Qab (Qak Qap QaP (by rfl) T.len QaI (qa_P (Qaf (q_ix Qal Qax (qp 3) (Qaf Qai) (fun _ _=>rfl))) Qac))) (Qaf Qai))) Qan)))) Qbp.nd)
      (Qad (QaC 6 (Qah (QaG (qa_D (Qah (Qa0 G1 (hr.mono (by decide)) (by rfl) m1 k1 b1 Qaz (Qa3 0 (qs_v (q_ix Qal Qax (qp 1) (Qaf Qai) (fun _ _=>rfl)) Qan)))) (qa_D (Qah (Qa0 G1 (hr.mono (by decide)) (by rfl) m1 k1 b1 Qaz (Qa3 0 (qs_v (q_ix Qal Qax (qp 1) (Qaf Qai) (fun _ _=>rfl)) Qan)))) Qac)))) Qbp.nd)
      (Qad (QfV (qv 3) (Qby rfl (Qat 7 (Qat 8 Qbz Qbp.nd rfl (by first | exact Or.inl rfl | exact Or.inr rfl)) Qbp.nd rfl (by first | exact Or.inl rfl | exact Or.inr rfl))))
      (Qad (QaC 9 (Qah (QbO (qa_D (Qah (QaG (qa_D (Qah (QaJ Qau QaE (Qab (QbX (qp 2) QbW (QbV (qp 4)))) (Qab (QbX (qp 2) (QbV (Qab (QaJ Qau QaE (qp 4) (Qaf Qai)))) QbW)))) (qa_D (qv 3) Qac)))) (qa_D (Qah (QaG (qa_D (Qah (QaJ Qau QaE (Qab (QaJ Qau QaE (Qab (QbX (qp 2) QbW (QbV (qp 4)))) (Qab (QaG (qa_D (qv 6) Qac))))) (Qab (QbX (qp 2) (QbV (Qab (QaJ Qau QaE (qp 4) (Qaf Qai)))) QbW)))) (qa_D (qv 3) Qac)))) (qa_D (Qah (QaG (qa_D (qv 3) (qa_D (qv 2) Qac)))) Qac))))) Qbp.nd)
      (Qad (QaC 9 (Qah (QaJ Qau QaE (qp 9) (Qab (QbO (qa_D (Qah (QaG (qa_D (Qah (Qcq Qbc QcY (by rfl) T.tuple QaR (qa_P (Qab (Qak (QcL hU) Qeq (by rfl) T.sorted Qct (qa_P (Qab (QaJ Qau QaE (qp 2) (Qab (QaG (qa_D (qv 6) Qac))))) Qac))) Qac))) (qa_D (qv 3) Qac)))) (qa_D (Qah (QaG (qa_D (qv 2) (qa_D (Qah (QaG (qa_D (Qah (QaJ Qau QaE (Qab (QbX (qp 7) QbW (QbV (qp 5)))) (Qab (QbX (qp 7) (QbV (Qab (QaJ Qau QaE (qp 5) (Qaf Qai)))) QbW)))) (qa_D (qv 8) Qac)))) Qac)))) Qac)))))) Qbp.nd)
      (Qad (QaC 9 (Qah (QaJ Qau QaE (qp 9) (Qab (QbO (qa_D (Qah (QaG (qa_D (qv 2) (qa_D (Qah (QaG (qa_D (qv 7) (qa_D (Qah (QaJ Qau QaE (qp 8) (Qab (QaG (qa_D (Qah (QaJ QdC QdG (Qaf (q_ix Qal Qax (qp 1) (Qaf Qai) (fun _ _=>rfl))) (Qaf Qai))) Qac))))) Qac)))) Qac)))) (qa_D (Qah (QaG (qa_D (qv 2) (qa_D (Qah (QaG (qa_D (qv 8) (qa_D (qv 7) Qac)))) Qac)))) (qa_D (Qah (QbO (qa_D (qv 2) (qa_D (qv 3) Qac)))) Qac))))))) Qbp.nd)
      (Qad (QaC 9 (Qah (QaJ Qau QaE (qp 9) (Qab (QbO (qa_D (Qah (QaG (qa_D (qv 2) (qa_D (qv 3) (qa_D Qai Qac))))) (qa_D (Qah (QaG (qa_D (qv 2) (qa_D (Qah (QbO (qa_D (qv 7) (qa_D (qv 8) Qac)))) Qac)))) (qa_D (Qah (QaG (qa_D (Qah (Qcq Qes Qmi (by rfl) T.list Qmk (qa_P (qp 2) Qac))) (qa_D (qv 3) Qac)))) (qa_D (Qah (QaG (qa_D (qv 2) Qac))) (qa_D (Qaw G2 (hr.mono (by decide)) (by rfl) m2 k2 b2 Qaz (Qa3 0 Qan)) Qac))))))))) Qbp.nd)
      (Qad (QaC 9 (Qah (QaJ Qau QaE (qp 9) (Qab (QbO (qa_D (Qah (QaG (qa_D (qv 2) (qa_D (Qaw G2 (hr.mono (by decide)) (by rfl) m2 k2 b2 Qaz (Qa3 0 Qan)) Qac)))) (qa_D (Qah (QaG (qa_D (Qaw G2 (hr.mono (by decide)) (by rfl) m2 k2 b2 Qaz (Qa3 0 Qan)) (qa_D (qv 3) Qac)))) (qa_D (Qah (QaG (qa_D (qv 2) (qa_D (Qah (QaJ Qau QaE (qp 7) (qp 8))) Qac)))) Qac))))))) Qbp.nd)
      (Qaj (QaD (q_ix Qal Qax (qp 9) (Qab (Qa0 G1 (hr.mono (by decide)) (by rfl) m1 k1 b1 Qaz (Qa3 0 (qs_v Qai Qan)))) (fun _ _=>rfl)))))))))))),fun args R EX h=>?_⟩
    obtain ⟨h,w,cs,L,rs,ms,rfl,h1,h6,w1,w6,hL,hr,hm,hR⟩:=h
    have lL:(L.map pairD).length=L.length:=List.length_map _
    have lr:(rs.map PyData.int).length=rs.length:=List.length_map _
    have lm:(ms.map PyData.int).length=ms.length:=List.length_map _
    refine ⟨_,rfl,by rw [lL];omega,by rw [lL];omega,fun r1 r10 r11=>?_⟩
    refine ⟨_,Qav (j:=0) rfl,_,rfl,by rw [lr];omega,by rw [lr];omega,fun r2 r20 r21=>?_⟩
    refine ⟨_,Qav (j:=0) rfl,_,rfl,by omega,by omega,fun ra ra0 ra1=>⟨_,Qav (j:=1) rfl,_,rfl,by omega,by omega,fun rb rb0 rb1=>?_⟩⟩
    refine ⟨rfl,?_⟩
    have c1:=Qch (L.map pairD) none (some r1)
    have c2:=Qch (L.map pairD) (some (r1+1)) none
    obtain ⟨M1,e1,m1⟩:=Qkt (L:=rs) (lo:=none) (hi:=some r2)
    obtain ⟨M2,e2,m2⟩:=Qkt (L:=rs) (lo:=some (r2+1)) (hi:=none)
    refine ⟨by omega,by show _+1<=_;omega,by rw [List.length_append];show _+1+_<=_;omega,?_⟩
    refine ⟨by rw [lL];show _+1<=_;omega,?_⟩
    refine (QdZ (ds:=L.map pairD++[pairD (ra,rb)]) (by have:=Qdv (L++[(ra,rb)]);rw [List.map_append] at this;exact this) fun es pm pw=>?_).2
    have le:es.length<=7:=by rw [pm.length_eq,List.length_append,lL];show _+1<=_;omega
    refine ⟨by show (Dl.cutD (rs.map PyData.int) none (some r2)).length+(Dl.cutD (rs.map PyData.int) (some (r2+1)) none).length<=_;rw [e1,e2,List.length_map,List.length_map];omega,by show 3+2<=_;decide,?_⟩
    refine ⟨_,Qav (j:=1) rfl,by rw [lm];show _+1<=_;omega,by show 5+3<=_;decide,?_⟩
    refine ⟨rfl,fun o1 g1=>⟨by show 8+5<=_;decide,rfl,fun o2 g2=>⟨rfl,fun o3 g3=>⟨by show (rs.map PyData.int).length+(ms.map PyData.int).length<=_;rw [lr,lm];omega,by show 13+3<=_;decide,_,rfl,by decide,by decide,fun r3 r30 r31=>QgO r30 r31 fun d hd=>hR d ?_⟩⟩⟩⟩
    have sS:sh2 (stT L):=Qgy (by rw [lL];omega) fun d hd=>by obtain ⟨p,_,rfl⟩:=List.mem_map.mp hd;exact ⟨p,rfl⟩
    have sL:sh2 (lnD (rs,ms)):=Qhb (by omega) (by omega)
    have s1:Qbn (.tuple [.tuple (Dl.cutD (L.map pairD) none (some r1)++Dl.cutD (L.map pairD) (some (r1+1)) none),lnD (rs,ms)]):=Qbf (Qgy (by rw [List.length_append];omega) fun d hd=>(List.mem_append.mp hd).elim (Qgj d) (Qgj d)) sL
    have s2:Qbn (.tuple [.tuple (Dl.cutD (L.map pairD) none (some r1)++[pairD (ra,rb)]++Dl.cutD (L.map pairD) (some (r1+1)) none),lnD (rs,ms)]):=Qbf (Qgy (by rw [List.length_append,List.length_append];show _+1+_<=_;omega) fun d hd=>(List.mem_append.mp hd).elim (fun z=>(List.mem_append.mp z).elim (Qgj d) fun z=>⟨(ra,rb),List.mem_singleton.mp z⟩) (Qgj d)) sL
    have s4:Qbn (.tuple [.tuple es,lnD (rs,ms)]):=Qbf (Qgy (by omega) fun d hd=>(List.mem_append.mp (pm.mem_iff.mp hd)).elim (fun z=>by obtain ⟨p,_,rfl⟩:=List.mem_map.mp z;exact ⟨p,rfl⟩) fun z=>⟨(ra,rb),List.mem_singleton.mp z⟩) sL
    have s5:Qbn (.tuple [stT L,.tuple [.tuple (Dl.cutD (rs.map PyData.int) none (some r2)++Dl.cutD (rs.map PyData.int) (some (r2+1)) none),tN ms]]):=Qbf sS (QiX (Qbm (by rw [e1,e2,List.length_append,List.length_map,List.length_map];omega)) (Qha (by omega)).1)
    have s6:Qbn (.tuple [stT L,.tuple [tN rs,.tuple (ms.map PyData.int++[.int ((w:Int) - 1)])]]):=Qbf sS (QiX (Qha (by omega)).1 (Qbm (by rw [List.length_append,lm];show _+1<=_;omega)))
    have s16:sh2 (.tuple (rs.map PyData.int++ms.map PyData.int)):=by
      have:=Qha (ns:=rs++ms) (by rw [List.length_append];omega)
      unfold tN at this
      rw [List.map_append] at this
      exact this
    exact Qag (p:=Qbn) s1 (Qag s2 (Qag (Qbf sL sS) (Qag s4 (Qag s5 (Qag s6 (Qag (Qbf sS (Qhb (by omega) (by omega))) (Qag (QbE rfl) (Qag (fun ds e=>by cases e;exact Qag sS (Qag sL (Qag (QbM rfl) Qbi))) (Qag (Qbf sS (QbM rfl)) (Qag (Qbf (QbM rfl) sL) (Qag (fun ds e=>by cases e;exact Qag sS Qbi) (Qag g1.2 (Qag (Qbf sS g2.1) (Qag (Qbf g3.1 sL) (Qag (Qbf sS s16) Qbi))))))))))))))) d hd
end
section
variable {P:Program} {w:World} {K:PySem.W.Frag} {mg:Str->Option Value} {base:Heap}
theorem QlQ:(["_law_stand"]:List Str).Nodup:=by decide +kernel
theorem QlP:(["_law_stand", "_law_most"]:List Str).Nodup:=by decide +kernel
theorem Qbx:FnScope ["_law_script", "_law_k", "_law_pot_here", "_law_board_here", "_law_every", "_law_most", "_law_some", "_law_stand", "_law_lines", "_law_less", "_law_things", "_law_thing", "_law_found"] ["_law_script"] (Qaa sLaw):=⟨rfl,rfl,rfl,by decide +kernel,rfl,by decide +kernel,by decide +kernel⟩
theorem ok_law {f f1 f2 f3 f4 f5 f6 f7 f8 f9  : Addr} {fd fd1 fd2 fd3 fd4 fd5 fd6 fd7 fd8 fd9:FuncData} (F:Fun K "law" "law" sLaw f fd) (T:GlbA mg)
    (m1:mg "_law_cell_at" = some (.ref f1)) (G1:FnOk P w K mg base CX0 1 f1 fd1 ["_law_script", "_law_k"] (Qcm K)) (b1:Binds K fd1 ["_law_script", "_law_k"] []) (k1:PySem.W.keepIn K (.ref f1)=true)
    (m2:mg "_law_pot" = some (.ref f2)) (G2:FnOk P w K mg base CX0 1 f2 fd2 ["_law_cell"] (toSp true potD)) (b2:Binds K fd2 ["_law_cell"] []) (k2:PySem.W.keepIn K (.ref f2)=true)
    (m3:mg "_law_take" = some (.ref f3)) (G3:FnOk P w K mg base CX0 1 f3 fd3 ["_law_pot_here", "_law_far"] (toSp true takeD)) (b3:Binds K fd3 ["_law_pot_here", "_law_far"] []) (k3:PySem.W.keepIn K (.ref f3)=true)
    (m4:mg "_law_board" = some (.ref f4)) (G4:FnOk P w K mg base CX0 2 f4 fd4 ["_law_pot_here", "_law_most"] (toSp false Qfy)) (b4:Binds K fd4 ["_law_pot_here", "_law_most"] []) (k4:PySem.W.keepIn K (.ref f4)=true)
    (m5:mg "_law_stands" = some (.ref f5)) (G5:FnOk P w K mg base CX0 2 f5 fd5 ["_law_board_here"] (toSp false Qee)) (b5:Binds K fd5 ["_law_board_here"] []) (k5:PySem.W.keepIn K (.ref f5)=true)
    (m6:mg "_law_covers" = some (.ref f6)) (G6:FnOk P w K mg base CX0 2 f6 fd6 ["_law_board_here"] (toSp false QfD)) (b6:Binds K fd6 ["_law_board_here"] []) (k6:PySem.W.keepIn K (.ref f6)=true)
    (m7:mg "_law_bent" = some (.ref f7)) (G7:FnOk P w K mg base CX0 3 f7 fd7 ["_law_pot_here", "_law_board_here", "_law_stand", "_law_lines"] (toSp false Qeh)) (b7:Binds K fd7 ["_law_pot_here", "_law_board_here", "_law_stand", "_law_lines"] []) (k7:PySem.W.keepIn K (.ref f7)=true)
    (m8:mg "is_showing" = some (.ref f8)) (G8:FnOk P w K mg base CX0 6 f8 fd8 ["board", "thing"] (toSp false QkR)) (b8:Binds K fd8 ["board", "thing"] []) (k8:PySem.W.keepIn K (.ref f8)=true)
    (m9:mg "_law_due" = some (.ref f9)) (G9:FnOk P w K mg base CX0 4 f9 fd9 ["_law_board_here", "_law_thing"] (toSp false Qh6)) (b9:Binds K fd9 ["_law_board_here", "_law_thing"] []) (k9:PySem.W.keepIn K (.ref f9)=true) :
    FnOk P w K mg base CX0 7 f fd ["_law_script"] (spLawD K):=by
  refine okQL F Qbx (fun cdv A outer s H E hr=>?_)
  have hU:=Room.u60 hr
  have hI:=Room.i60 hr
  refine ⟨_,Qad (Qc6 PassesOwn.never rfl (Qcd (by rfl) T.range (Qab (Qak (QiC rfl) Qmh (by rfl) T.max Qkx (qa_P (Qaf Qai) (qa_P (Qab (Qak (QiA rfl) Qmf (by rfl) T.min bt_min (qa_P (Qab (q_lenS 0 (by rfl) T.len)) (qa_P (Qaf Qai) Qac)))) Qac))))) (QaM 1 Qbx.nd rfl (by first | exact Or.inl rfl | exact Or.inr rfl))
        (Qad (QkZ 2 (Qa0 G2 (hr.mono (by decide)) (by rfl) m2 k2 b2 Qaz (qs_v (Qah (q_cell 0 G1 (hr.mono (by decide)) (by rfl) m1 k1 b1 (qp 1))) Qan)) Qbx.nd)
      (Qad (QaC 3 (Qaw G4 (hr.mono (by decide)) (by rfl) m4 k4 b4 Qaz (Qa3 2 (qs_v Qai Qan))) Qbx.nd)
      (Qad (QaC 4 (Qaw G5 (hr.mono (by decide)) (by rfl) m5 k5 b5 Qaz (qs_v (qv 3) Qan)) Qbx.nd)
      (Qad (QaC 5 (Qah (Qak (QiB rfl) Qmg (by rfl) T.max Qkx (qa_P (Qab (Qa9 ["_law_stand"] [none] (Qcz (qp 4)) (fun cl ex s3 H3 C=>⟨(QaM 0 QlQ rfl (Or.inl rfl) (Or.inr rfl)),QaT,(Qah (Qak Qap QaP (by rfl) T.len QaI (qa_P (qp 0) Qac)))⟩))) Qac))) Qbx.nd)
      (Qad (Qd6 ["_law_stand", "_law_most"] [none,some 5] 6 Qbx.nd (Qcz (qp 4)) (fun cl ex s3 H3 C=>⟨(QaM 0 QlP rfl (Or.inl rfl) (Or.inr rfl)),(Qc5 (QbL Qcr (Qd9 hU) (Qab (Qak Qap QaP (by rfl) T.len QaI (qa_P (qp 0) Qac))) (qp 1) (QaQ _))),(qv 0)⟩))
      (Qad (QaC 7 (q_ix Qal Qax (qp 6) (Qab (Qa0 G3 (hr.mono (by decide)) (by rfl) m3 k3 b3 Qaz (Qa3 2 (qs_v (Qah (Qak Qap QaP (by rfl) T.len QaI (qa_P (qp 6) Qac))) Qan)))) (fun _ _=>rfl)) Qbx.nd)
      (Qad (QaC 8 (Qaw G6 (hr.mono (by decide)) (by rfl) m6 k6 b6 Qaz (qs_v (qv 3) Qan)) Qbx.nd)
      (Qad (QaC 9 (q_ix Qal Qax (qp 4) (Qab (Qa0 G3 (hr.mono (by decide)) (by rfl) m3 k3 b3 Qaz (Qa3 2 (qs_v (Qah (Qak Qap QaP (by rfl) T.len QaI (qa_P (qp 4) Qac))) Qan)))) (fun _ _=>rfl)) Qbx.nd)
      (Qad (QaC 10 (Qah (QbO (qa_D (Qah (QaG (qa_D (qv 7) (qa_D (q_ix Qal Qax (qp 8) (Qaf Qai) (fun _ _=>rfl)) Qac)))) (qa_D (Qaw G7 (hr.mono (by decide)) (by rfl) m7 k7 b7 Qaz (Qa3 2 (qs_v (qv 3) (qs_v (qv 7) (qs_v (q_ix Qal Qax (qp 8) (Qaf Qai) (fun _ _=>rfl)) Qan))))) (qa_D (Qaw G7 (hr.mono (by decide)) (by rfl) m7 k7 b7 Qaz (Qa3 2 (qs_v (qv 3) (qs_v (qv 7) (qs_v (q_ix Qal Qax (qp 8) (Qaf Qai) (fun _ _=>rfl)) Qan))))) Qac))))) Qbx.nd)
      (Qad (QaC 10 (Qah (QaJ Qau QaE (qp 10) (Qab (QbO (qa_D (Qah (QaG (qa_D (qv 9) (qa_D (q_ix Qal Qax (qp 8) (Qaf Qai) (fun _ _=>rfl)) Qac)))) (qa_D (Qah (QaG (qa_D (qv 7) (qa_D (q_ix Qal Qax (qp 8) (Qab (Qa0 G3 (hr.mono (by decide)) (by rfl) m3 k3 b3 Qaz (Qa3 2 (qs_v (Qah (Qak Qap QaP (by rfl) T.len QaI (qa_P (qp 8) Qac))) Qan)))) (fun _ _=>rfl)) Qac)))) (qa_D (Qah (QaG (qa_D (qv 7) (qa_D (q_ix Qal Qax (qp 8) (Qaf Qai) (fun _ _=>rfl)) Qac)))) Qac))))))) Qbx.nd)
      (Qaj (Qc6 PassesOwn.never rfl (Qcz (qv 10)) (QaM 11 Qbx.nd rfl (by first | exact Or.inl rfl | exact Or.inr rfl))
        (Qad (QaC 12 (Qaw G8 (hr.mono (by decide)) (by rfl) m8 k8 b8 Qaz (qs_v (qv 3) (qs_v (qv 11) Qan))) Qbx.nd)
      (Qaj (QbU (q_pw (Qco (QaV (QaU (Qab (Qbs .bool (by rfl) T.isinstance (qp 12) (by rfl) T.bool QfL)))) (QbT (QbL Qda (Qfq hU) (qp 12) (Qaf (Qaw G9 (hr.mono (by decide)) (by rfl) m9 k9 b9 Qaz (qs_v (qv 3) (qs_v (qv 11) Qan)))) (QaQ _))))) (Qaj (QaD q_bl)) QaW))))))))))))))))
      (Qaj (Qbq (QbP op_isA od_is (Qaf (Qaw G8 (hr.mono (by decide)) (by rfl) m8 k8 b8 Qaz (qs_v (Qah (QaG (qa_D Qai (qa_D Qai (qa_D (Qah (QaG Qac)) Qac))))) (qs_v (Qah (QaG (qa_D (Qah (QaG Qac)) (qa_D (Qah (QaG (qa_D (Qah (QaG Qac)) (qa_D (Qah (QaG Qac)) Qac)))) Qac)))) Qan)))) (Qaf q_bl) (QaQ _)))),?_⟩
  intro n0 n63
  refine ⟨⟨by split<;>split<;>omega,by split<;>split<;>omega⟩,Qdh (fun i δ=>∃ x1 x2 x3 x4 x5 x6 x7 x8 x9 x10 x11 x12,δ=[.scr,x1,x2,x3,x4,x5,x6,x7,x8,x9,x10,x11,x12]) ⟨_,_,_,_,_,_,_,_,_,_,_,_,rfl⟩ ?_ ?_⟩
  · rintro i δ hi ⟨x1,x2,x3,x4,x5,x6,x7,x8,x9,x10,x11,x12,rfl⟩
    refine ⟨by omega,fun c=>⟨c,rfl,fun n1=>?_⟩⟩
    refine ⟨_,rfl,by decide,by decide,fun h w f h1 h5 w1 w5=>?_⟩
    have cl:=QcJ w f h
    have cl2:h*w<=6*6:=Nat.mul_le_mul (by omega) (by omega)
    have hrow:∀ r,(rowC (QaL h w f) r).length<=6:=fun r=>Nat.le_trans (Qfg w h f r) (by omega)
    refine ⟨h,w,QaL h w f,rfl,by omega,hrow,fun Ls pm pw=>?_⟩
    have b0:0<Ls.length:=by rw [pm.length_eq];exact List.length_pos_of_mem (Qg4 _ h)
    have b1:Ls.length<=7^5:=by
      rw [pm.length_eq]
      exact Nat.le_trans (QdX hrow h) (Nat.pow_le_pow_right (by decide) (by omega))
    have b2:(7:Nat)^5=16807:=rfl
    have bL:∀ L∈Ls,L.length<=5:=fun L hL=>by
      have:=Qcl h L (pm.mem_iff.mp hL)
      omega
    have lm:(Ls.map stT).length=Ls.length:=List.length_map _
    refine Qa8 (fun d=>.int (lenT d)) (fun d hd k2 hk=>?_) ?_
    · obtain ⟨L,_,rfl⟩:=List.mem_map.mp hd
      exact hk
    · have em:(Ls.map stT).map (fun d=>PyData.int (lenT d))=(Ls.map fun L=>lenT (stT L)).map PyData.int:=by rw [List.map_map,List.map_map];rfl
      rw [em]
      refine QlS (by rw [List.length_map];exact b0) fun most hmost hmx=>?_
      refine Qmd (fun d=>if lenT d=most then some d else none) (fun d hd k1 k2 hk1 hk2=>?_) ?_
      · obtain ⟨L,_,rfl⟩:=List.mem_map.mp hd
        refine ifC (fun z=>?_) fun z=>?_
        · exact hk2 _ (if_pos (of_decide_eq_true z))
        · exact hk1 (if_neg (of_decide_eq_false z))
      · obtain ⟨Ss,eS⟩:∃ Ss,Ss=(Ls.map stT).filterMap fun d=>if lenT d=most then some d else none:=⟨_,rfl⟩
        rw [<- eS]
        have mS:∀ d∈Ss,∃ L∈Ls,d=stT L:=fun d hd=>by
          rw [eS] at hd
          obtain ⟨a,ha,e⟩:=List.mem_filterMap.mp hd
          obtain ⟨L,hL,rfl⟩:=List.mem_map.mp ha
          split at e
          · cases e;exact ⟨L,hL,rfl⟩
          · cases e
        have s0:0<Ss.length:=by
          obtain ⟨L,hL,e⟩:=List.mem_map.mp hmost
          refine List.length_pos_of_mem (a:=stT L) ?_
          rw [eS]
          exact List.mem_filterMap.mpr ⟨stT L,List.mem_map.mpr ⟨L,hL,rfl⟩,if_pos e⟩
        have s1:Ss.length<=Ls.length:=by
          rw [eS,<- lm]
          exact List.length_filterMap_le _ _
        refine ⟨_,rfl,by omega,by omega,fun r1 r10 r11=>QgO r10 r11 fun sd hsd=>?_⟩
        obtain ⟨L,hL,rfl⟩:=mS sd hsd
        have hL5:=bL L hL
        refine ⟨h,w,QaL h w f,rfl,h1,by omega,fun p hp=>?_,by omega,fun Ps hP hb=>?_⟩
        · have:=Qe1 hp
          omega
        · have p0:0<Ps.length:=by rw [hP];exact Nat.pow_pos (by decide)
          have p1:Ps.length<=64:=by rw [hP];exact Nat.pow_le_pow_right (n:=2) (by decide) (show h<=6 by omega)
          have lp:(Ps.map lnD).length=Ps.length:=List.length_map _
          refine ⟨_,rfl,by omega,by omega,fun r2 r20 r21=>QgO r20 r21 fun ld hld=>?_⟩
          obtain ⟨M,hM,rfl⟩:=List.mem_map.mp hld
          have hM5:=bL M hM
          cases Ps with
          | nil=>exact absurd p0 (by decide)
          | cons P0 Pt=>
          obtain ⟨rs,ms⟩:=P0
          have hb0:=hb _ (.head _)
          refine ⟨_,Qav (j:=0) rfl,_,Qav (j:=0) rfl,h,w,_,L,rs,ms,rfl,h1,by omega,w1,by omega,by omega,hb0.1,hb0.2,fun d1 q1=>⟨_,Qav (j:=0) rfl,h,w,_,L,rs,ms,rfl,h1,by omega,w1,by omega,by omega,hb0.1,hb0.2,fun d2 q2=>?_⟩⟩
          refine ⟨_,Qav (j:=0) rfl,_,rfl,by omega,by omega,fun r3 r30 r31=>QgO r30 r31 fun pd hpd=>?_⟩
          obtain ⟨⟨rs2,ms2⟩,hp2,rfl⟩:=List.mem_map.mp hpd
          have hb2:=hb _ hp2
          refine ⟨_,Qav (j:=0) rfl,by show 3+3<=_;decide,?_⟩
          have sS:∀ L:List (Int×Int),L.length<=5->sh2 (stT L):=fun L hL=>Qgy (by rw [List.length_map];omega) fun d hd=>by obtain ⟨p,_,rfl⟩:=List.mem_map.mp hd;exact ⟨p,rfl⟩
          have sL:sh2 (lnD (rs,ms)):=Qhb (Nat.le_trans hb0.1 (by decide)) (Nat.le_trans hb0.2 (by decide))
          have sL2:sh2 (lnD (rs2,ms2)):=Qhb (Nat.le_trans hb2.1 (by decide)) (Nat.le_trans hb2.2 (by decide))
          refine QeV (fun _ δ=>∃ x11 x12,δ=[.scr,.v (.int (0+(i:Int))),.pot,.v (bdD h w (QaL h w f)),.v (.list (Ls.map stT)),.v (.int most),.v (.list Ss),.v (stT L),.v (.list (((rs,ms)::Pt).map lnD)),.v (stT M),.v (.list [.tuple [stT L,lnD (rs,ms)],d1,d2,.tuple [stT M,lnD (rs,ms)],.tuple [stT L,lnD (rs2,ms2)],.tuple [stT L,lnD (rs,ms)]]),x11,x12]) ⟨_,_,rfl⟩ ?_ ?_
          · rintro j d δ hd ⟨x11,x12,rfl⟩
            have sd:Qbn d:=Qag (p:=Qbn) (Qbf (sS L hL5) sL) (Qag q1 (Qag q2 (Qag (Qbf (sS M hM5) sL) (Qag (Qbf (sS L hL5) sL2) (Qag (Qbf (sS L hL5) sL) Qbi))))) d (List.mem_of_getElem? hd)
            refine ⟨_,_,_,_,rfl,sd,⟨_,_,_,_,rfl,by omega,sd,ifF ?_ ⟨_,_,rfl⟩⟩⟩
            show (!decide (isSh h w (QaL h w f) d=isSh h w (QaL h w f) d))=false
            simp
          · rintro δ ⟨x11,x12,rfl⟩
            exact ⟨_,_,_,_,_,_,_,_,_,_,_,_,rfl⟩
  · rintro δ ⟨x1,x2,x3,x4,x5,x6,x7,x8,x9,x10,x11,x12,rfl⟩
    exact ⟨1,1,[],_,rfl,Qbf (Qgy (by decide) fun _ h=>nomatch h) (Qhb (rs:=[]) (ms:=[]) (by decide) (by decide)),rfl⟩
end
end Rk
def PySem.W.Fast.tw15021661772486093558:Nat:=0
def PySem.W.Fast.tw575033181226782427:Nat:=0
def PySem.W.Fast.tw11441081921888504269:Nat:=0
def PySem.W.Fast.tw17784629612682958805:Nat:=0
def PySem.W.Fast.tw7958338289770953553:Nat:=0
def PySem.W.Fast.tw11215403560382307847:Nat:=0
def PySem.W.Fast.tw12209620022863469879:Nat:=0
def PySem.W.Fast.tw7207878404748201409:Nat:=0
def PySem.W.Fast.tw16647445092302963714:Nat:=0
def PySem.W.Fast.tw7248217797562313283:Nat:=0
def PySem.W.Fast.tw6041034921488506253:Nat:=0
def PySem.W.Fast.tw681925849582387779:Nat:=0
def PySem.W.Fast.tw10357697618932752485:Nat:=0
def PySem.W.Fast.tw3500038014877736121:Nat:=0
def PySem.W.Fast.tw14724514048457473005:Nat:=0
def PySem.W.Fast.tw14016262693350455361:Nat:=0
def PySem.W.Fast.tw12705485475854115006:Nat:=0
def PySem.W.Fast.tw5591620887547503251:Nat:=0
def PySem.W.Fast.tw15733469235243308423:Nat:=0
def PySem.W.Fast.tw12786940286758523499:Nat:=0
def PySem.W.Fast.tw16323979638032152730:Nat:=0
def PySem.W.Fast.tw2862688304112450832:Nat:=0
def PySem.W.Fast.tw13699678125535051148:Nat:=0
def PySem.W.Fast.tw1881054740112754965:Nat:=0
def PySem.W.Fast.tw11340922193074563026:Nat:=0
def PySem.W.Fast.tw11047231831452765101:Nat:=0
def PySem.W.Fast.tw3207321166072040834:Nat:=0
def PySem.W.Fast.tw13016664080891210099:Nat:=0
def PySem.W.Fast.tw4399286767094449606:Nat:=0
def PySem.W.Fast.tw6553777667156395691:Nat:=0
namespace Rk
open PySem PySem.Spec PyProof.Rows L2
theorem all_mk {l:PySem.W.OpenLaw} {w:World} {K:PySem.W.Frag} {h:Heap} {mg:Str->Option Value} {fa f1 f2 f3 f4 f5 f6 f7 f8 f9 f10 f11 f12 f13 f14 f15 f16 f17 f18 f19 f20 f21 f22 f23 f24 f25 f26 f27 f28:Addr} (X:K.In h) (G:h.Ns mainGlobals mg) (hfa:mg "law" = some (.ref fa))
    {od1 an1 od2 an2 od3 an3 od4 an4 od5 an5 od6 an6 od7 an7 od8 an8 od9 an9 od10 an10 od11 an11 od12 an12 od13 an13 od14 an14 od15 an15 od16 an16 od17 an17 od18 an18 od19 an19 od20 an20 od21 an21 od22 an22 od23 an23 od24 an24 od25 an25 od26 an26 od27 an27 od28 an28:Option Addr} {sl1 sl2 sl3 sl4 sl5 sl6 sl7 sl8 sl9 sl10 sl11 sl12 sl13 sl14 sl15 sl16 sl17 sl18 sl19 sl20 sl21 sl22 sl23 sl24 sl25 sl26 sl27 sl28:Array (Option Value)} {oc1 kV1 dc1 pm1 cd1 ct1 oc2 kV2 dc2 pm2 cd2 ct2 oc3 kV3 dc3 pm3 cd3 ct3 oc4 kV4 dc4 pm4 cd4 ct4 oc5 kV5 dc5 pm5 cd5 ct5 oc6 kV6 dc6 pm6 cd6 ct6 oc7 kV7 dc7 pm7 cd7 ct7 oc8 kV8 dc8 pm8 cd8 ct8 oc9 kV9 dc9 pm9 cd9 ct9 oc10 kV10 dc10 pm10 cd10 ct10 oc11 kV11 dc11 pm11 cd11 ct11 oc12 kV12 dc12 pm12 cd12 ct12 oc13 kV13 dc13 pm13 cd13 ct13 oc14 kV14 dc14 pm14 cd14 ct14 oc15 kV15 dc15 pm15 cd15 ct15 oc16 kV16 dc16 pm16 cd16 ct16 oc17 kV17 dc17 pm17 cd17 ct17 oc18 kV18 dc18 pm18 cd18 ct18 oc19 kV19 dc19 pm19 cd19 ct19 oc20 kV20 dc20 pm20 cd20 ct20 oc21 kV21 dc21 pm21 cd21 ct21 oc22 kV22 dc22 pm22 cd22 ct22 oc23 kV23 dc23 pm23 cd23 ct23 oc24 kV24 dc24 pm24 cd24 ct24 oc25 kV25 dc25 pm25 cd25 ct25 oc26 kV26 dc26 pm26 cd26 ct26 oc27 kV27 dc27 pm27 cd27 ct27 oc28 kV28 dc28 pm28 cd28 ct28:Value}
    (a1:PySem.W.nsIn K mainGlobals "is_whole" = some (some (.ref f1))) (l1:K.lookup f1=some ⟨oc1,od1,.func (PySem.W.fnOf "is_whole" "is_whole" (Qas sWhole) (Qao sWhole) (Qaa sWhole) .none kV1 dc1 pm1 an1 cd1 ct1),sl1⟩) (c1:PySem.W.codeIn K cd1 "is_whole" = true) (k1:PySem.W.keepIn K (.ref f1)=true)
    (a2:PySem.W.nsIn K mainGlobals "is_whole_within" = some (some (.ref f2))) (l2:K.lookup f2=some ⟨oc2,od2,.func (PySem.W.fnOf "is_whole_within" "is_whole_within" (Qas sWithin) (Qao sWithin) (Qaa sWithin) .none kV2 dc2 pm2 an2 cd2 ct2),sl2⟩) (c2:PySem.W.codeIn K cd2 "is_whole_within" = true) (k2:PySem.W.keepIn K (.ref f2)=true)
    (a3:PySem.W.nsIn K mainGlobals "is_rising" = some (some (.ref f3))) (l3:K.lookup f3=some ⟨oc3,od3,.func (PySem.W.fnOf "is_rising" "is_rising" (Qas sRising) (Qao sRising) (Qaa sRising) .none kV3 dc3 pm3 an3 cd3 ct3),sl3⟩) (c3:PySem.W.codeIn K cd3 "is_rising" = true) (k3:PySem.W.keepIn K (.ref f3)=true)
    (a4:PySem.W.nsIn K mainGlobals "is_cells" = some (some (.ref f4))) (l4:K.lookup f4=some ⟨oc4,od4,.func (PySem.W.fnOf "is_cells" "is_cells" (Qas sCells) (Qao sCells) (Qaa sCells) .none kV4 dc4 pm4 an4 cd4 ct4),sl4⟩) (c4:PySem.W.codeIn K cd4 "is_cells" = true) (k4:PySem.W.keepIn K (.ref f4)=true)
    (a5:PySem.W.nsIn K mainGlobals "is_place" = some (some (.ref f5))) (l5:K.lookup f5=some ⟨oc5,od5,.func (PySem.W.fnOf "is_place" "is_place" (Qas sPlace) (Qao sPlace) (Qaa sPlace) .none kV5 dc5 pm5 an5 cd5 ct5),sl5⟩) (c5:PySem.W.codeIn K cd5 "is_place" = true) (k5:PySem.W.keepIn K (.ref f5)=true)
    (a6:PySem.W.nsIn K mainGlobals "is_lines" = some (some (.ref f6))) (l6:K.lookup f6=some ⟨oc6,od6,.func (PySem.W.fnOf "is_lines" "is_lines" (Qas sLines) (Qao sLines) (Qaa sLines) .none kV6 dc6 pm6 an6 cd6 ct6),sl6⟩) (c6:PySem.W.codeIn K cd6 "is_lines" = true) (k6:PySem.W.keepIn K (.ref f6)=true)
    (a7:PySem.W.nsIn K mainGlobals "is_numbers_rising" = some (some (.ref f7))) (l7:K.lookup f7=some ⟨oc7,od7,.func (PySem.W.fnOf "is_numbers_rising" "is_numbers_rising" (Qas sNums) (Qao sNums) (Qaa sNums) .none kV7 dc7 pm7 an7 cd7 ct7),sl7⟩) (c7:PySem.W.codeIn K cd7 "is_numbers_rising" = true) (k7:PySem.W.keepIn K (.ref f7)=true)
    (a8:PySem.W.nsIn K mainGlobals "is_stand" = some (some (.ref f8))) (l8:K.lookup f8=some ⟨oc8,od8,.func (PySem.W.fnOf "is_stand" "is_stand" (Qas sStand) (Qao sStand) (Qaa sStand) .none kV8 dc8 pm8 an8 cd8 ct8),sl8⟩) (c8:PySem.W.codeIn K cd8 "is_stand" = true) (k8:PySem.W.keepIn K (.ref f8)=true)
    (a9:PySem.W.nsIn K mainGlobals "are_apart" = some (some (.ref f9))) (l9:K.lookup f9=some ⟨oc9,od9,.func (PySem.W.fnOf "are_apart" "are_apart" (Qas sApart) (Qao sApart) (Qaa sApart) .none kV9 dc9 pm9 an9 cd9 ct9),sl9⟩) (c9:PySem.W.codeIn K cd9 "are_apart" = true) (k9:PySem.W.keepIn K (.ref f9)=true)
    (a10:PySem.W.nsIn K mainGlobals "holds" = some (some (.ref f10))) (l10:K.lookup f10=some ⟨oc10,od10,.func (PySem.W.fnOf "holds" "holds" (Qas sHolds) (Qao sHolds) (Qaa sHolds) .none kV10 dc10 pm10 an10 cd10 ct10),sl10⟩) (c10:PySem.W.codeIn K cd10 "holds" = true) (k10:PySem.W.keepIn K (.ref f10)=true)
    (a11:PySem.W.nsIn K mainGlobals "is_showing" = some (some (.ref f11))) (l11:K.lookup f11=some ⟨oc11,od11,.func (PySem.W.fnOf "is_showing" "is_showing" (Qas sShow) (Qao sShow) (Qaa sShow) .none kV11 dc11 pm11 an11 cd11 ct11),sl11⟩) (c11:PySem.W.codeIn K cd11 "is_showing" = true) (k11:PySem.W.keepIn K (.ref f11)=true)
    (a12:PySem.W.nsIn K mainGlobals "how_many_lines" = some (some (.ref f12))) (l12:K.lookup f12=some ⟨oc12,od12,.func (PySem.W.fnOf "how_many_lines" "how_many_lines" (Qas sHow) (Qao sHow) (Qaa sHow) .none kV12 dc12 pm12 an12 cd12 ct12),sl12⟩) (c12:PySem.W.codeIn K cd12 "how_many_lines" = true) (k12:PySem.W.keepIn K (.ref f12)=true)
    (a13:PySem.W.nsIn K mainGlobals "_law_cell_at" = some (some (.ref f13))) (l13:K.lookup f13=some ⟨oc13,od13,.func (PySem.W.fnOf "_law_cell_at" "_law_cell_at" (Qas lCellAt) (Qao lCellAt) (Qaa lCellAt) .none kV13 dc13 pm13 an13 cd13 ct13),sl13⟩) (c13:PySem.W.codeIn K cd13 "_law_cell_at" = true) (k13:PySem.W.keepIn K (.ref f13)=true)
    (a14:PySem.W.nsIn K mainGlobals "_law_pot" = some (some (.ref f14))) (l14:K.lookup f14=some ⟨oc14,od14,.func (PySem.W.fnOf "_law_pot" "_law_pot" (Qas lPot) (Qao lPot) (Qaa lPot) .none kV14 dc14 pm14 an14 cd14 ct14),sl14⟩) (c14:PySem.W.codeIn K cd14 "_law_pot" = true) (k14:PySem.W.keepIn K (.ref f14)=true)
    (a15:PySem.W.nsIn K mainGlobals "_law_take" = some (some (.ref f15))) (l15:K.lookup f15=some ⟨oc15,od15,.func (PySem.W.fnOf "_law_take" "_law_take" (Qas lTake) (Qao lTake) (Qaa lTake) .none kV15 dc15 pm15 an15 cd15 ct15),sl15⟩) (c15:PySem.W.codeIn K cd15 "_law_take" = true) (k15:PySem.W.keepIn K (.ref f15)=true)
    (a16:PySem.W.nsIn K mainGlobals "_law_board" = some (some (.ref f16))) (l16:K.lookup f16=some ⟨oc16,od16,.func (PySem.W.fnOf "_law_board" "_law_board" (Qas lBoard) (Qao lBoard) (Qaa lBoard) .none kV16 dc16 pm16 an16 cd16 ct16),sl16⟩) (c16:PySem.W.codeIn K cd16 "_law_board" = true) (k16:PySem.W.keepIn K (.ref f16)=true)
    (a17:PySem.W.nsIn K mainGlobals "_law_odd" = some (some (.ref f17))) (l17:K.lookup f17=some ⟨oc17,od17,.func (PySem.W.fnOf "_law_odd" "_law_odd" (Qas lOdd) (Qao lOdd) (Qaa lOdd) .none kV17 dc17 pm17 an17 cd17 ct17),sl17⟩) (c17:PySem.W.codeIn K cd17 "_law_odd" = true) (k17:PySem.W.keepIn K (.ref f17)=true)
    (a18:PySem.W.nsIn K mainGlobals "_law_whole" = some (some (.ref f18))) (l18:K.lookup f18=some ⟨oc18,od18,.func (PySem.W.fnOf "_law_whole" "_law_whole" (Qas lWhole) (Qao lWhole) (Qaa lWhole) .none kV18 dc18 pm18 an18 cd18 ct18),sl18⟩) (c18:PySem.W.codeIn K cd18 "_law_whole" = true) (k18:PySem.W.keepIn K (.ref f18)=true)
    (a19:PySem.W.nsIn K mainGlobals "_law_is_place" = some (some (.ref f19))) (l19:K.lookup f19=some ⟨oc19,od19,.func (PySem.W.fnOf "_law_is_place" "_law_is_place" (Qas lPlace) (Qao lPlace) (Qaa lPlace) .none kV19 dc19 pm19 an19 cd19 ct19),sl19⟩) (c19:PySem.W.codeIn K cd19 "_law_is_place" = true) (k19:PySem.W.keepIn K (.ref f19)=true)
    (a20:PySem.W.nsIn K mainGlobals "_law_rises" = some (some (.ref f20))) (l20:K.lookup f20=some ⟨oc20,od20,.func (PySem.W.fnOf "_law_rises" "_law_rises" (Qas lRises) (Qao lRises) (Qaa lRises) .none kV20 dc20 pm20 an20 cd20 ct20),sl20⟩) (c20:PySem.W.codeIn K cd20 "_law_rises" = true) (k20:PySem.W.keepIn K (.ref f20)=true)
    (a21:PySem.W.nsIn K mainGlobals "_law_is_stand" = some (some (.ref f21))) (l21:K.lookup f21=some ⟨oc21,od21,.func (PySem.W.fnOf "_law_is_stand" "_law_is_stand" (Qas lIsS) (Qao lIsS) (Qaa lIsS) .none kV21 dc21 pm21 an21 cd21 ct21),sl21⟩) (c21:PySem.W.codeIn K cd21 "_law_is_stand" = true) (k21:PySem.W.keepIn K (.ref f21)=true)
    (a22:PySem.W.nsIn K mainGlobals "_law_stands" = some (some (.ref f22))) (l22:K.lookup f22=some ⟨oc22,od22,.func (PySem.W.fnOf "_law_stands" "_law_stands" (Qas lStands) (Qao lStands) (Qaa lStands) .none kV22 dc22 pm22 an22 cd22 ct22),sl22⟩) (c22:PySem.W.codeIn K cd22 "_law_stands" = true) (k22:PySem.W.keepIn K (.ref f22)=true)
    (a23:PySem.W.nsIn K mainGlobals "_law_is_some" = some (some (.ref f23))) (l23:K.lookup f23=some ⟨oc23,od23,.func (PySem.W.fnOf "_law_is_some" "_law_is_some" (Qas lIsSome) (Qao lIsSome) (Qaa lIsSome) .none kV23 dc23 pm23 an23 cd23 ct23),sl23⟩) (c23:PySem.W.codeIn K cd23 "_law_is_some" = true) (k23:PySem.W.keepIn K (.ref f23)=true)
    (a24:PySem.W.nsIn K mainGlobals "_law_holds" = some (some (.ref f24))) (l24:K.lookup f24=some ⟨oc24,od24,.func (PySem.W.fnOf "_law_holds" "_law_holds" (Qas lHolds) (Qao lHolds) (Qaa lHolds) .none kV24 dc24 pm24 an24 cd24 ct24),sl24⟩) (c24:PySem.W.codeIn K cd24 "_law_holds" = true) (k24:PySem.W.keepIn K (.ref f24)=true)
    (a25:PySem.W.nsIn K mainGlobals "_law_covers" = some (some (.ref f25))) (l25:K.lookup f25=some ⟨oc25,od25,.func (PySem.W.fnOf "_law_covers" "_law_covers" (Qas lCovers) (Qao lCovers) (Qaa lCovers) .none kV25 dc25 pm25 an25 cd25 ct25),sl25⟩) (c25:PySem.W.codeIn K cd25 "_law_covers" = true) (k25:PySem.W.keepIn K (.ref f25)=true)
    (a26:PySem.W.nsIn K mainGlobals "_law_due" = some (some (.ref f26))) (l26:K.lookup f26=some ⟨oc26,od26,.func (PySem.W.fnOf "_law_due" "_law_due" (Qas lDue) (Qao lDue) (Qaa lDue) .none kV26 dc26 pm26 an26 cd26 ct26),sl26⟩) (c26:PySem.W.codeIn K cd26 "_law_due" = true) (k26:PySem.W.keepIn K (.ref f26)=true)
    (a27:PySem.W.nsIn K mainGlobals "_law_bent" = some (some (.ref f27))) (l27:K.lookup f27=some ⟨oc27,od27,.func (PySem.W.fnOf "_law_bent" "_law_bent" (Qas lBent) (Qao lBent) (Qaa lBent) .none kV27 dc27 pm27 an27 cd27 ct27),sl27⟩) (c27:PySem.W.codeIn K cd27 "_law_bent" = true) (k27:PySem.W.keepIn K (.ref f27)=true)
    (a28:PySem.W.nsIn K mainGlobals "law" = some (some (.ref f28))) (l28:K.lookup f28=some ⟨oc28,od28,.func (PySem.W.fnOf "law" "law" (Qas sLaw) (Qao sLaw) (Qaa sLaw) .none kV28 dc28 pm28 an28 cd28 ct28),sl28⟩) (c28:PySem.W.codeIn K cd28 "law" = true) (k28:PySem.W.keepIn K (.ref f28)=true)
    (z1:PySem.W.nsIn K mainGlobals "isinstance" = some none)
    (z2:PySem.W.nsIn K mainGlobals "int" = some none)
    (z3:PySem.W.nsIn K mainGlobals "bool" = some none)
    (z4:PySem.W.nsIn K mainGlobals "str" = some none)
    (z5:PySem.W.nsIn K mainGlobals "tuple" = some none)
    (z6:PySem.W.nsIn K mainGlobals "list" = some none)
    (z7:PySem.W.nsIn K mainGlobals "all" = some none)
    (z8:PySem.W.nsIn K mainGlobals "len" = some none)
    (z9:PySem.W.nsIn K mainGlobals "zip" = some none)
    (z10:PySem.W.nsIn K mainGlobals "enumerate" = some none)
    (z11:PySem.W.nsIn K mainGlobals "range" = some none)
    (z12:PySem.W.nsIn K mainGlobals "max" = some none)
    (z13:PySem.W.nsIn K mainGlobals "min" = some none)
    (z14:PySem.W.nsIn K mainGlobals "sorted" = some none)
    (z15:PySem.W.nsIn K mainGlobals "sum" = some none)
    (z16:PySem.W.nsIn K mainGlobals "set" = some none)
    (z17:PySem.W.nsIn K mainGlobals "any" = some none)
    (z18:PySem.W.nsIn K mainGlobals "reversed" = some none)
    (z19:PySem.W.nsIn K mainGlobals "divmod" = some none)
    :
    ∃ fd:FuncData,(∀ (s:Shared) (v:Value),BindsTo s fd ⟨[v],[]⟩ [("_law_script",v)])/\∀ base:Heap,K.In base->base.Ns mainGlobals mg->FnOk l.prog w K mg base CX0 7 fa fd ["_law_script"] (Dl.spLawD K):=by
  have e:=hfa.symm.trans (PySem.W.mg_of X G a28)
  cases e
  have T:=(⟨(PySem.W.mg_none_of X G z1),(PySem.W.mg_none_of X G z2),(PySem.W.mg_none_of X G z3),(PySem.W.mg_none_of X G z4),(PySem.W.mg_none_of X G z5),(PySem.W.mg_none_of X G z6),(PySem.W.mg_none_of X G z7),(PySem.W.mg_none_of X G z8),(PySem.W.mg_none_of X G z9),(PySem.W.mg_none_of X G z10),(PySem.W.mg_none_of X G z11),(PySem.W.mg_none_of X G z12),(PySem.W.mg_none_of X G z13),(PySem.W.mg_none_of X G z14),(PySem.W.mg_none_of X G z15),(PySem.W.mg_none_of X G z16),(PySem.W.mg_none_of X G z17),(PySem.W.mg_none_of X G z18),(PySem.W.mg_none_of X G z19)⟩:GlbA mg)
  have F1:=QaH (st:=sWhole) l1 c1 k1
  have b1:=F1.binds (ps:=["thing"]) fun _ _ _ _ _ _ us hl=>match us,hl with | [_],_=>rfl
  have m1:=PySem.W.mg_of X G a1
  have F2:=QaH (st:=sWithin) l2 c2 k2
  have b2:=F2.binds (ps:=["thing", "least", "most"]) fun _ _ _ _ _ _ us hl=>match us,hl with | [_,_,_],_=>rfl
  have m2:=PySem.W.mg_of X G a2
  have F3:=QaH (st:=sRising) l3 c3 k3
  have b3:=F3.binds (ps:=["things"]) fun _ _ _ _ _ _ us hl=>match us,hl with | [_],_=>rfl
  have m3:=PySem.W.mg_of X G a3
  have F4:=QaH (st:=sCells) l4 c4 k4
  have b4:=F4.binds (ps:=["high", "wide", "thing"]) fun _ _ _ _ _ _ us hl=>match us,hl with | [_,_,_],_=>rfl
  have m4:=PySem.W.mg_of X G a4
  have F5:=QaH (st:=sPlace) l5 c5 k5
  have b5:=F5.binds (ps:=["high", "wide", "thing"]) fun _ _ _ _ _ _ us hl=>match us,hl with | [_,_,_],_=>rfl
  have m5:=PySem.W.mg_of X G a5
  have F6:=QaH (st:=sLines) l6 c6 k6
  have b6:=F6.binds (ps:=["board", "thing"]) fun _ _ _ _ _ _ us hl=>match us,hl with | [_,_],_=>rfl
  have m6:=PySem.W.mg_of X G a6
  have F7:=QaH (st:=sNums) l7 c7 k7
  have b7:=F7.binds (ps:=["many", "thing"]) fun _ _ _ _ _ _ us hl=>match us,hl with | [_,_],_=>rfl
  have m7:=PySem.W.mg_of X G a7
  have F8:=QaH (st:=sStand) l8 c8 k8
  have b8:=F8.binds (ps:=["board", "thing"]) fun _ _ _ _ _ _ us hl=>match us,hl with | [_,_],_=>rfl
  have m8:=PySem.W.mg_of X G a8
  have F9:=QaH (st:=sApart) l9 c9 k9
  have b9:=F9.binds (ps:=["cells"]) fun _ _ _ _ _ _ us hl=>match us,hl with | [_],_=>rfl
  have m9:=PySem.W.mg_of X G a9
  have F10:=QaH (st:=sHolds) l10 c10 k10
  have b10:=F10.binds (ps:=["board", "thing"]) fun _ _ _ _ _ _ us hl=>match us,hl with | [_,_],_=>rfl
  have m10:=PySem.W.mg_of X G a10
  have F11:=QaH (st:=sShow) l11 c11 k11
  have b11:=F11.binds (ps:=["board", "thing"]) fun _ _ _ _ _ _ us hl=>match us,hl with | [_,_],_=>rfl
  have m11:=PySem.W.mg_of X G a11
  have F12:=QaH (st:=sHow) l12 c12 k12
  have b12:=F12.binds (ps:=["lines"]) fun _ _ _ _ _ _ us hl=>match us,hl with | [_],_=>rfl
  have m12:=PySem.W.mg_of X G a12
  have F13:=QaH (st:=lCellAt) l13 c13 k13
  have b13:=F13.binds (ps:=["_law_script", "_law_k"]) fun _ _ _ _ _ _ us hl=>match us,hl with | [_,_],_=>rfl
  have m13:=PySem.W.mg_of X G a13
  have F14:=QaH (st:=lPot) l14 c14 k14
  have b14:=F14.binds (ps:=["_law_cell"]) fun _ _ _ _ _ _ us hl=>match us,hl with | [_],_=>rfl
  have m14:=PySem.W.mg_of X G a14
  have F15:=QaH (st:=lTake) l15 c15 k15
  have b15:=F15.binds (ps:=["_law_pot_here", "_law_far"]) fun _ _ _ _ _ _ us hl=>match us,hl with | [_,_],_=>rfl
  have m15:=PySem.W.mg_of X G a15
  have F16:=QaH (st:=lBoard) l16 c16 k16
  have b16:=F16.binds (ps:=["_law_pot_here", "_law_most"]) fun _ _ _ _ _ _ us hl=>match us,hl with | [_,_],_=>rfl
  have m16:=PySem.W.mg_of X G a16
  have F17:=QaH (st:=lOdd) l17 c17 k17
  have b17:=F17.binds (ps:=["_law_pot_here"]) fun _ _ _ _ _ _ us hl=>match us,hl with | [_],_=>rfl
  have m17:=PySem.W.mg_of X G a17
  have F18:=QaH (st:=lWhole) l18 c18 k18
  have b18:=F18.binds (ps:=["_law_thing"]) fun _ _ _ _ _ _ us hl=>match us,hl with | [_],_=>rfl
  have m18:=PySem.W.mg_of X G a18
  have F19:=QaH (st:=lPlace) l19 c19 k19
  have b19:=F19.binds (ps:=["_law_thing", "_law_high", "_law_wide"]) fun _ _ _ _ _ _ us hl=>match us,hl with | [_,_,_],_=>rfl
  have m19:=PySem.W.mg_of X G a19
  have F20:=QaH (st:=lRises) l20 c20 k20
  have b20:=F20.binds (ps:=["_law_things"]) fun _ _ _ _ _ _ us hl=>match us,hl with | [_],_=>rfl
  have m20:=PySem.W.mg_of X G a20
  have F21:=QaH (st:=lIsS) l21 c21 k21
  have b21:=F21.binds (ps:=["_law_board_here", "_law_thing"]) fun _ _ _ _ _ _ us hl=>match us,hl with | [_,_],_=>rfl
  have m21:=PySem.W.mg_of X G a21
  have F22:=QaH (st:=lStands) l22 c22 k22
  have b22:=F22.binds (ps:=["_law_board_here"]) fun _ _ _ _ _ _ us hl=>match us,hl with | [_],_=>rfl
  have m22:=PySem.W.mg_of X G a22
  have F23:=QaH (st:=lIsSome) l23 c23 k23
  have b23:=F23.binds (ps:=["_law_thing", "_law_many"]) fun _ _ _ _ _ _ us hl=>match us,hl with | [_,_],_=>rfl
  have m23:=PySem.W.mg_of X G a23
  have F24:=QaH (st:=lHolds) l24 c24 k24
  have b24:=F24.binds (ps:=["_law_board_here", "_law_thing"]) fun _ _ _ _ _ _ us hl=>match us,hl with | [_,_],_=>rfl
  have m24:=PySem.W.mg_of X G a24
  have F25:=QaH (st:=lCovers) l25 c25 k25
  have b25:=F25.binds (ps:=["_law_board_here"]) fun _ _ _ _ _ _ us hl=>match us,hl with | [_],_=>rfl
  have m25:=PySem.W.mg_of X G a25
  have F26:=QaH (st:=lDue) l26 c26 k26
  have b26:=F26.binds (ps:=["_law_board_here", "_law_thing"]) fun _ _ _ _ _ _ us hl=>match us,hl with | [_,_],_=>rfl
  have m26:=PySem.W.mg_of X G a26
  have F27:=QaH (st:=lBent) l27 c27 k27
  have b27:=F27.binds (ps:=["_law_pot_here", "_law_board_here", "_law_stand", "_law_lines"]) fun _ _ _ _ _ _ us hl=>match us,hl with | [_,_,_,_],_=>rfl
  have m27:=PySem.W.mg_of X G a27
  have F28:=QaH (st:=sLaw) l28 c28 k28
  refine ⟨PySem.W.fnOf "law" "law" (Qas sLaw) (Qao sLaw) (Qaa sLaw) .none kV28 dc28 pm28 an28 cd28 ct28,fun s v=>.of_eq rfl,fun base _ _=>?_⟩
  have G1:FnOk l.prog w K mg base CX0 1 f1 _ ["thing"] (Dl.toSp false Dl.wholeD):=Qjz F1 T 
  have G2:FnOk l.prog w K mg base CX0 2 f2 _ ["thing", "least", "most"] (Dl.toSp false QdV):=QhI F2 T m1 G1 b1 k1
  have G3:FnOk l.prog w K mg base CX0 1 f3 _ ["things"] (Dl.toSp false Qd4):=QhK F3 T 
  have G5:FnOk l.prog w K mg base CX0 3 f5 _ ["high", "wide", "thing"] (Dl.toSp false Qhx):=QjB F5 T m2 G2 b2 k2
  have G4:FnOk l.prog w K mg base CX0 4 f4 _ ["high", "wide", "thing"] (Dl.toSp false Qix):=QjE F4 T m5 G5 b5 k5 m3 G3 b3 k3
  have G9:FnOk l.prog w K mg base CX0 1 f9 _ ["cells"] (Dl.toSp false QiO):=QjF F9 T 
  have G8:FnOk l.prog w K mg base CX0 5 f8 _ ["board", "thing"] (Dl.toSp false Qg6):=QjA F8 T m4 G4 b4 k4 m9 G9 b9 k9
  have G7:FnOk l.prog w K mg base CX0 3 f7 _ ["many", "thing"] (Dl.toSp false QlO):=QlJ F7 T m2 G2 b2 k2 m3 G3 b3 k3
  have G6:FnOk l.prog w K mg base CX0 4 f6 _ ["board", "thing"] (Dl.toSp false Qh5):=QjC F6 T m7 G7 b7 k7
  have G10:FnOk l.prog w K mg base CX0 5 f10 _ ["board", "thing"] (Dl.toSp false Qic):=QjD F10 T m6 G6 b6 k6
  have G12:FnOk l.prog w K mg base CX0 1 f12 _ ["lines"] (Dl.toSp false howD):=ok_how F12 T 
  have G11:FnOk l.prog w K mg base CX0 6 f11 _ ["board", "thing"] (Dl.toSp false QkR):=QlI F11 T m8 G8 b8 k8 m10 G10 b10 k10 m12 G12 b12 k12
  have G13:FnOk l.prog w K mg base CX0 1 f13 _ ["_law_script", "_law_k"] (Qcm K):=QhS F13 T 
  have G14:FnOk l.prog w K mg base CX0 1 f14 _ ["_law_cell"] (Dl.toSp true Dl.potD):=(ok_pot F14 T).imp fun _ _ _ _ h=>Dl.pot_d h
  have G15:FnOk l.prog w K mg base CX0 1 f15 _ ["_law_pot_here", "_law_far"] (Dl.toSp true Dl.takeD):=(QlH F15 T).imp fun _ _ _ _ h=>Dl.take_d h
  have G16:FnOk l.prog w K mg base CX0 2 f16 _ ["_law_pot_here", "_law_most"] (Dl.toSp false Qfy):=QhP F16 T m15 G15 b15 k15
  have G17:FnOk l.prog w K mg base CX0 2 f17 _ ["_law_pot_here"] (Dl.toSp false Qh4):=ok_odd F17 T m15 G15 b15 k15
  have G18:FnOk l.prog w K mg base CX0 1 f18 _ ["_law_thing"] (Dl.toSp false Dl.wholeD):=QhL F18 T 
  have G19:FnOk l.prog w K mg base CX0 2 f19 _ ["_law_thing", "_law_high", "_law_wide"] (Dl.toSp false Qfv):=QhN F19 T m18 G18 b18 k18
  have G20:FnOk l.prog w K mg base CX0 1 f20 _ ["_law_things"] (Dl.toSp false Qef):=QhM F20 T 
  have G21:FnOk l.prog w K mg base CX0 3 f21 _ ["_law_board_here", "_law_thing"] (Dl.toSp false Qfu):=QlK F21 T m19 G19 b19 k19 m20 G20 b20 k20
  have G22:FnOk l.prog w K mg base CX0 2 f22 _ ["_law_board_here"] (Dl.toSp false Qee):=QhJ F22 T 
  have G23:FnOk l.prog w K mg base CX0 2 f23 _ ["_law_thing", "_law_many"] (Dl.toSp false Qh1):=QhQ F23 T m18 G18 b18 k18 m20 G20 b20 k20
  have G24:FnOk l.prog w K mg base CX0 3 f24 _ ["_law_board_here", "_law_thing"] (Dl.toSp false Qfx):=QhO F24 T m23 G23 b23 k23
  have G25:FnOk l.prog w K mg base CX0 2 f25 _ ["_law_board_here"] (Dl.toSp false QfD):=QhR F25 T 
  have G26:FnOk l.prog w K mg base CX0 4 f26 _ ["_law_board_here", "_law_thing"] (Dl.toSp false Qh6):=ok_due F26 T m21 G21 b21 k21 m24 G24 b24 k24
  have G27:FnOk l.prog w K mg base CX0 3 f27 _ ["_law_pot_here", "_law_board_here", "_law_stand", "_law_lines"] (Dl.toSp false Qeh):=QlL F27 T m15 G15 b15 k15 m17 G17 b17 k17
  exact ok_law F28 T m13 G13 b13 k13 m14 G14 b14 k14 m15 G15 b15 k15 m16 G16 b16 k16 m22 G22 b22 k22 m25 G25 b25 k25 m27 G27 b27 k27 m11 G11 b11 k11 m26 G26 b26 k26
theorem walk {l:PySem.W.OpenLaw} {q:Program} {loose:List Str} {XP:(Str->Option Value)->Heap->Prop} {YP:World->Heap->Prop} {d:DefRec} {K:Params->PySem.W.Frag} (hn:l.most=some 63) (hdf:d.params.defaults=[])
    (hY:∀ (w:World) (h:Heap),YP w h->(K w.params).In h)
    (F:∀ (w:World) (mg:Str->Option Value) (fa:Addr) (h:Heap),(K w.params).In h->h.Ns mainGlobals mg->mg d.name=some (.ref fa) ->
      ∃ fd:FuncData,(∀ (s:Shared) (u:Value),BindsTo s fd ⟨[u],[]⟩ [("_law_script",u)])/\∀ base:Heap,(K w.params).In base->base.Ns mainGlobals mg->FnOk l.prog w (K w.params) mg base CX0 7 fa fd ["_law_script"] (Dl.spLawD (K w.params))) :
    PySem.W.WalkO q loose XP YP l.row.toRowW d [] (fun f vs=>PySem.call f vs):=
  L2.walk_of (n:=63) (k:=7) (x := "_law_script") (CX:=fun _=>CX0) (sp:=fun w=>(Dl.spLawD (K w.params))) hn (by decide) hdf ⟨rfl,by decide,by decide⟩ hY F (fun _ _ a ns hl _ hS=>⟨a,ns,rfl,hS,hl,fun _=>rfl⟩) fun _ _ _ _ _ z=>z
end Rk
open PySem PySem.W PyProof.Rows
set_option maxRecDepth 100000 in
set_option maxHeartbeats 0 in
theorem PySem.Challenge.cw_rooklands_k22_showings_looked_at_holds : PySem.Challenge.rw_rooklands_k22_showings_looked_at.Holds := by
  w_on;o_law;k_head;(case hw=>w_witness2)
  k_fill
  refine Rk.walk (l:=PySem.Challenge.rw_rooklands_k22_showings_looked_at) rfl rfl (fun w h Y=>PySem.W.kIn_of Y) ?F
  case F=>
    intro w mg fa h KX G hmg
    refine' Rk.all_mk KX G hmg ?a1 ?l1 ?c1 ?k1 ?a2 ?l2 ?c2 ?k2 ?a3 ?l3 ?c3 ?k3 ?a4 ?l4 ?c4 ?k4 ?a5 ?l5 ?c5 ?k5 ?a6 ?l6 ?c6 ?k6 ?a7 ?l7 ?c7 ?k7 ?a8 ?l8 ?c8 ?k8 ?a9 ?l9 ?c9 ?k9 ?a10 ?l10 ?c10 ?k10 ?a11 ?l11 ?c11 ?k11 ?a12 ?l12 ?c12 ?k12 ?a13 ?l13 ?c13 ?k13 ?a14 ?l14 ?c14 ?k14 ?a15 ?l15 ?c15 ?k15 ?a16 ?l16 ?c16 ?k16 ?a17 ?l17 ?c17 ?k17 ?a18 ?l18 ?c18 ?k18 ?a19 ?l19 ?c19 ?k19 ?a20 ?l20 ?c20 ?k20 ?a21 ?l21 ?c21 ?k21 ?a22 ?l22 ?c22 ?k22 ?a23 ?l23 ?c23 ?k23 ?a24 ?l24 ?c24 ?k24 ?a25 ?l25 ?c25 ?k25 ?a26 ?l26 ?c26 ?k26 ?a27 ?l27 ?c27 ?k27 ?a28 ?l28 ?c28 ?k28 ?z1 ?z2 ?z3 ?z4 ?z5 ?z6 ?z7 ?z8 ?z9 ?z10 ?z11 ?z12 ?z13 ?z14 ?z15 ?z16 ?z17 ?z18 ?z19
    (case a1=>k_is)
    (case l1=>k_is)
    (case c1=>k_is)
    (case k1=>k_is)
    (case a2=>k_is)
    (case l2=>k_is)
    (case c2=>k_is)
    (case k2=>k_is)
    (case a3=>k_is)
    (case l3=>k_is)
    (case c3=>k_is)
    (case k3=>k_is)
    (case a4=>k_is)
    (case l4=>k_is)
    (case c4=>k_is)
    (case k4=>k_is)
    (case a5=>k_is)
    (case l5=>k_is)
    (case c5=>k_is)
    (case k5=>k_is)
    (case a6=>k_is)
    (case l6=>k_is)
    (case c6=>k_is)
    (case k6=>k_is)
    (case a7=>k_is)
    (case l7=>k_is)
    (case c7=>k_is)
    (case k7=>k_is)
    (case a8=>k_is)
    (case l8=>k_is)
    (case c8=>k_is)
    (case k8=>k_is)
    (case a9=>k_is)
    (case l9=>k_is)
    (case c9=>k_is)
    (case k9=>k_is)
    (case a10=>k_is)
    (case l10=>k_is)
    (case c10=>k_is)
    (case k10=>k_is)
    (case a11=>k_is)
    (case l11=>k_is)
    (case c11=>k_is)
    (case k11=>k_is)
    (case a12=>k_is)
    (case l12=>k_is)
    (case c12=>k_is)
    (case k12=>k_is)
    (case a13=>k_is)
    (case l13=>k_is)
    (case c13=>k_is)
    (case k13=>k_is)
    (case a14=>k_is)
    (case l14=>k_is)
    (case c14=>k_is)
    (case k14=>k_is)
    (case a15=>k_is)
    (case l15=>k_is)
    (case c15=>k_is)
    (case k15=>k_is)
    (case a16=>k_is)
    (case l16=>k_is)
    (case c16=>k_is)
    (case k16=>k_is)
    (case a17=>k_is)
    (case l17=>k_is)
    (case c17=>k_is)
    (case k17=>k_is)
    (case a18=>k_is)
    (case l18=>k_is)
    (case c18=>k_is)
    (case k18=>k_is)
    (case a19=>k_is)
    (case l19=>k_is)
    (case c19=>k_is)
    (case k19=>k_is)
    (case a20=>k_is)
    (case l20=>k_is)
    (case c20=>k_is)
    (case k20=>k_is)
    (case a21=>k_is)
    (case l21=>k_is)
    (case c21=>k_is)
    (case k21=>k_is)
    (case a22=>k_is)
    (case l22=>k_is)
    (case c22=>k_is)
    (case k22=>k_is)
    (case a23=>k_is)
    (case l23=>k_is)
    (case c23=>k_is)
    (case k23=>k_is)
    (case a24=>k_is)
    (case l24=>k_is)
    (case c24=>k_is)
    (case k24=>k_is)
    (case a25=>k_is)
    (case l25=>k_is)
    (case c25=>k_is)
    (case k25=>k_is)
    (case a26=>k_is)
    (case l26=>k_is)
    (case c26=>k_is)
    (case k26=>k_is)
    (case a27=>k_is)
    (case l27=>k_is)
    (case c27=>k_is)
    (case k27=>k_is)
    (case a28=>k_is)
    (case l28=>k_is)
    (case c28=>k_is)
    (case k28=>k_is)
    (case z1=>k_is)
    (case z2=>k_is)
    (case z3=>k_is)
    (case z4=>k_is)
    (case z5=>k_is)
    (case z6=>k_is)
    (case z7=>k_is)
    (case z8=>k_is)
    (case z9=>k_is)
    (case z10=>k_is)
    (case z11=>k_is)
    (case z12=>k_is)
    (case z13=>k_is)
    (case z14=>k_is)
    (case z15=>k_is)
    (case z16=>k_is)
    (case z17=>k_is)
    (case z18=>k_is)
    (case z19=>k_is)
