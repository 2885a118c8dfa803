import PyProof.Rows.All
import Wide.All
import OpenK.AllK
import Wide.FinOn
import Lean
import PyProof.EqAt
import PyProof.EqKinds
import PyProof.TupleCall
import PyProof.Rows.SortRuns
import PyProof.Rows.SortShellK
import PyProof.P3Eq
import PyProof.Draws
import PyProof.EnumMake
import PyProof.NeData
import KE.LcSums
import PyProof.WalkInts
import PyProof.SeqI3
import KE.KSortTup
import KE.KRevIter
import PyProof.FactsAll.range_2
import PySem.Challenge.RW_rooklands_k13_stands_listed
set_option Elab.async false
set_option linter.all false
set_option maxRecDepth 100000
namespace L2
open PySem PySem.Spec PyProof.Rows
abbrev Key:=Sum Int Str
def keyIs:Key->Value->Bool
  | .inl k,v=>Value.isInt k v
  | .inr x,v=>Value.isStrOf x v
def keyH (w:World):Key->Int
  | .inl k=>hashInt k
  | .inr x=>hashStr w x
theorem QaH:∀ {k:Key} {v:Value},keyIs k v=true->(∃ i t,k=Sum.inl i/\v=Value.int i t)∨(∃ x t,k=Sum.inr x/\v=Value.str x t)
  | .inl i,v,h=>by
    obtain ⟨t,e⟩:=Value.isInt_shape (k:=i) (v:=v) h
    exact .inl ⟨i,t,rfl,e⟩
  | .inr x,v,h=>by
    obtain ⟨t,e⟩:=Value.isStrOf_shape (x:=x) (v:=v) h
    exact .inr ⟨x,t,rfl,e⟩
theorem key_ll (a b:Int):decide ((Sum.inl a:Key)=Sum.inl b)=(a == b):=by
  by_cases e:a=b
  · subst e;simp
  · have h:¬ (Sum.inl a:Key)=Sum.inl b:=fun q=>e (Sum.inl.inj q)
    rw [decide_eq_false h]
    exact (beq_eq_false_iff_ne.mpr e).symm
theorem key_rr (a b:Str):decide ((Sum.inr a:Key)=Sum.inr b)=decide (a=b):=by
  by_cases e:a=b
  · subst e;simp
  · have h:¬ (Sum.inr a:Key)=Sum.inr b:=fun q=>e (Sum.inr.inj q)
    rw [decide_eq_false h,decide_eq_false e]
theorem key_lr (a:Int) (b:Str):decide ((Sum.inl a:Key)=Sum.inr b)=false:=decide_eq_false (fun q=>nomatch q)
theorem key_rl (a:Str) (b:Int):decide ((Sum.inr a:Key)=Sum.inl b)=false:=decide_eq_false (fun q=>nomatch q)
def mixKind (prog:Program) (w:World):PySem.KeyKind prog w Key where
  is:=keyIs
  hash:=keyH w
  inj:=fun v a b ha hb=>by
    rcases QaH ha with ⟨i,t,rfl,rfl⟩ | ⟨x,t,rfl,rfl⟩
    · rcases QaH hb with ⟨j,u,rfl,e⟩ | ⟨y,u,rfl,e⟩
      · injection e with e1 _;rw [e1]
      · exact nomatch e
    · rcases QaH hb with ⟨j,u,rfl,e⟩ | ⟨y,u,rfl,e⟩
      · exact nomatch e
      · injection e with e1 _;rw [e1]
  byValue:=fun k v h=>by
    rcases QaH h with ⟨i,t,rfl,rfl⟩ | ⟨x,t,rfl,rfl⟩<;>rfl
  pyHash:=fun hv h=>by
    rcases QaH hv with ⟨i,t,rfl,rfl⟩ | ⟨x,t,rfl,rfl⟩
    · exact wpAny_pyHash_int h
    · exact wpAny_pyHash_str h
  eqBool:=fun hu hv h=>by
    rcases QaH hu with ⟨i,t,rfl,rfl⟩ | ⟨x,t,rfl,rfl⟩
    · rcases QaH hv with ⟨j,u,rfl,rfl⟩ | ⟨y,u,rfl,rfl⟩
      · rw [key_ll] at h;exact wpAny_eqBool_int h
      · rw [key_lr] at h;exact SeqAt.EqAt.int_str i t y u _ _ _ _ h
    · rcases QaH hv with ⟨j,u,rfl,rfl⟩ | ⟨y,u,rfl,rfl⟩
      · rw [key_rl] at h;exact SeqAt.EqAt.str_int x t j u _ _ _ _ h
      · rw [key_rr] at h;exact wpAny_eqBool_str h
  «strs» := fun k x t v h=>by
    rcases QaH h with ⟨i,u,rfl,e⟩ | ⟨y,u,rfl,e⟩
    · exact nomatch e
    · injection e with e1 _
      subst e1
      cases v<;>rfl
inductive V where
  | non | bl (b:Bool) | int (i:Int) | str (x:Str) | byt (b:Array UInt8) | flt (b:UInt64) | ref (a:Addr) | ty (n:String)
  deriving DecidableEq
def RelV:V->Value->Prop
  | .non,u=>u=Value.none
  | .bl b,u=>u=Value.bool b
  | .int i,u=>∃ t,u=Value.int i t
  | .str x,u=>∃ t,u=Value.str x t
  | .byt b,u=>∃ t,u=Value.bytes b t
  | .flt b,u=>∃ t,u=Value.float b t
  | .ref a,u=>u=Value.ref a
  | .ty n,u=>u=Value.type n
abbrev Vals:List V->List Value->Prop:=Paired RelV
theorem Vals.length {xs:List V} {us:List Value} (r:Vals xs us):xs.length=us.length:=Paired.length r
theorem Vals.get:∀ {xs:List V} {us:List Value} {i:Nat} {x:V},Vals xs us->xs[i]? = some x->∃ u,us[i]? = some u/\RelV x u
  | _,_,_,_,.nil,e=>by simp at e
  | _,_,0,_,.cons r _,e=>by simp at e;subst e;exact ⟨_,rfl,r⟩
  | _,_,i+1,x,.cons _ t,e=>by
    obtain ⟨u,h1,h2⟩:=Vals.get (i:=i) (x:=x) t (by simpa using e)
    exact ⟨u,by simpa using h1,h2⟩
theorem Vals.set {x:V} {u:Value} (r:RelV x u):∀ {xs:List V} {us:List Value} (i:Nat),Vals xs us->Vals (xs.set i x) (us.set i u)
  | _,_,_,.nil=>.nil
  | _,_,0,.cons _ t=>.cons r t
  | _,_,i+1,.cons q t=>.cons q (Vals.set r i t)
theorem Vals.append:∀ {xs ys:List V} {us ws:List Value},Vals xs us->Vals ys ws->Vals (xs++ys) (us++ws)
  | _,_,_,_,.nil,s=>s
  | _,_,_,_,.cons r t,s=>.cons r (Vals.append t s)
theorem Vals.take:∀ {xs:List V} {us:List Value} (n:Nat),Vals xs us->Vals (xs.take n) (us.take n)
  | _,_,0,_=>.nil
  | _,_,_+1,.nil=>.nil
  | _,_,n+1,.cons r t=>.cons r (Vals.take n t)
theorem Vals.drop:∀ {xs:List V} {us:List Value} (n:Nat),Vals xs us->Vals (xs.drop n) (us.drop n)
  | _,_,0,r=>r
  | _,_,_+1,.nil=>.nil
  | _,_,n+1,.cons _ t=>Vals.drop n t
def RelO:Option V->Option Value->Prop
  | some v,some u=>RelV v u
  | none,none=>True
  | _,_=>False
def KV {κ:Type}:List (κ×V)->List (κ×Value)->Prop:=Paired fun (p:κ×V) (q:κ×Value)=>p.1=q.1/\RelV p.2 q.2
def kV:Key->V
  | .inl i=>.int i
  | .inr x=>.str x
inductive HO where
  /-- a list -/
  | lst (xs:List V)
  /-- a tuple (never changes) -/
  | tup (xs:List V)
  /-- a dict whose keys are ints and texts;one whose keys are tuples of ints and texts (the empty one is both) -/
  | dK (kvs:List (Key×V)) | dT (kvs:List (List Key×V))
  /-- a set of ints: its members,its size -/
  | set (S:Int->Bool) (n:Nat)
  /-- an instance of the class at C,its dict at dx,its attributes -/
  | ins (C dx:Addr) (fs:List (Str×V))
  /-- the dict of the instance at x -/
  | own (x:Addr)
  /-- the dict of an exception -/
  | xd (fs:List (Str×V))
  /-- a bound method,f of x -/
  | met (f x:Addr)
  /-- a range object lo,lo+1,.. below hi -/
  | rng (lo hi:Int)
  /-- a thing that is known to the object (the script;a dict while a loop walks it): read,never written while it is so -/
  | frz (o:Obj) (u:HO)
  /-- a code object's table -/
  | tbl (ps:Array Value)
  /-- any other thing,by what is true of its one object (a def of one's own: SetO a S n:=HO.ext fun h=>..) -/
  | ext (φ:Heap->Prop)
abbrev Hp:=Addr->Option HO
def upd (H:Hp) (a:Addr) (o:HO):Hp:=fun b=>if b=a then some o else H b
theorem Qaf {H:Hp} {a:Addr} {o:HO}:upd H a o a=some o:=by unfold upd;rw [if_pos rfl]
theorem Qal {H:Hp} {a b:Addr} {o:HO} (h:b≠a):upd H a o b=H b:=by unfold upd;rw [if_neg h]
theorem QaC {H:Hp} {a b:Addr} {o:HO} (h:H a=some o) (h':H b=none):a≠b:=by
  intro e;subst e;rw [h] at h';cases h'
section
variable (P:Program) (w:World)
def ObjOk (H:Hp) (h:Heap) (a:Addr):HO->Prop
  | .lst xs=>xs.length<=sizeLine/\∃ (its:List Value) (n:Nat),Vals xs its/\h.get? a=some { cls:=.type "list",data:=.seq its.toArray n }
  | .tup xs=>xs.length<=sizeLine/\∃ its:List Value,Vals xs its/\IsTup h a its.toArray
  | .dK kvs=>kvs.length<=sizeLine/\(a == sysModules)=false/\∃ vs,KV kvs vs/\h.DictOf (mixKind P w) a vs
  | .dT kvs=>kvs.length<=sizeLine/\(a == sysModules)=false/\∃ xs:List (List Key×Addr×Value),
      Paired (fun (p:List Key×V) (q:List Key×Addr×Value)=>p.1=q.1/\H q.2.1=some (.tup (p.1.map kV))/\RelV p.2 q.2.2) kvs xs /\
      ∃ o es ep,h.get? a=some o/\o.ExactDict/\o.data=.dict es ep/\es.toList=xs.map (entryOfKey (tupleKind (mixKind P w)))/\(xs.map (·.1)).Nodup
  | .set S n=>h.SetOf (intKind P w) a S n
  | .ins C dx fs=>H dx=some (.own a)/\fs.length<=1000/\dx≠a/\h.get? a=some (PySem.W.instObj C dx) /\
      ∃ mA,h.Ns1 dx mA/\(∀ f,RelO (fs.lookup f) (mA f))/\PySem.Within mA (fs.map (·.1))
  | .own _=>∃ o,h.get? a=some o
  | .xd fs=>∃ mA,h.Ns1 a mA/\∀ f,RelO (fs.lookup f) (mA f)
  | .rng lo hi=>∃ t u v,h.get? a=some { cls:=.type "range",data:=.fields #[.int lo t,.int hi u,.int 1 v] }
  | .frz o u=>h.get? a=some o/\ObjOk H h a u
  | .tbl ps=>h.get? a=some { cls:=.none,data:=.fields ps }
  | .met f x=>h.get? a=some (PySem.W.methodObj (.ref f) (.ref x))
  | .ext φ=>φ h/\(∃ o,h.get? a=some o)/\∀ h1 h2:Heap,φ h1->(∀ o,h1.get? a=some o->h2.get? a=some o)->φ h2
def HOk (H:Hp) (h:Heap):Prop:=∀ a o,H a=some o->ObjOk P w H h a o
end
section
variable {P:Program} {w:World} {H H':Hp} {h h':Heap} {a:Addr} {o:HO}
theorem ObjOk.lt (x:ObjOk P w H h a o):a<h.objs.size:=by
  cases o with
  | lst xs=>obtain ⟨_,_,_,_,e⟩:=x;exact Heap.lt_size e
  | tup xs=>obtain ⟨_,_,_,p⟩:=x;exact p.lt
  | dK kvs=>obtain ⟨_,_,_,_,o,_,_,e,_⟩:=x;exact Heap.lt_size e
  | dT kvs=>obtain ⟨_,_,_,_,o,_,_,e,_⟩:=x;exact Heap.lt_size e
  | set S n=>obtain ⟨o,_,_,_,e,_⟩:=x;exact Heap.lt_size e
  | ins C dx fs=>obtain ⟨_,_,_,e,_⟩:=x;exact Heap.lt_size e
  | own y=>obtain ⟨_,e⟩:=x;exact Heap.lt_size e
  | xd fs=>obtain ⟨_,⟨_,_,_,e,_⟩,_⟩:=x;exact Heap.lt_size e
  | rng lo hi=>obtain ⟨_,_,_,e⟩:=x;exact Heap.lt_size e
  | frz ob u=>obtain ⟨e,_⟩:=x;exact Heap.lt_size e
  | tbl ps=>exact Heap.lt_size (show h.get? a=some _ from x)
  | met f y=>exact Heap.lt_size (show h.get? a=some _ from x)
  | ext φ=>obtain ⟨_,⟨_,e⟩,_⟩:=x;exact Heap.lt_size e
theorem Paired.mapP {α β:Type} {F G:α->β->Prop}:∀ {l₁:List α} {l₂:List β},Paired F l₁ l₂->(∀ a b,F a b->G a b)->Paired G l₁ l₂
  | _,_,.nil,_=>.nil
  | _,_,.cons r t,f=>.cons (f _ _ r) (Paired.mapP t f)
theorem ObjOk.stay (x:ObjOk P w H h a o) (k:∀ b u,(b=a∨H b=some (.own a))->h.get? b=some u->h'.get? b=some u)
    (ho:∀ b,H b=some (.own a)->H' b=some (.own a)) (ht:∀ b xs,H b=some (.tup xs)->H' b=some (.tup xs)):ObjOk P w H' h' a o:=by
  induction o with
  | lst xs=>obtain ⟨z,its,n,r,e⟩:=x;exact ⟨z,its,n,r,k _ _ (.inl rfl) e⟩
  | tup xs=>obtain ⟨z,its,r,ob,e,c⟩:=x;exact ⟨z,its,r,ob,k _ _ (.inl rfl) e,c⟩
  | dK kvs=>obtain ⟨z,y,vs,r,ob,es,ep,e,c⟩:=x;exact ⟨z,y,vs,r,ob,es,ep,k _ _ (.inl rfl) e,c⟩
  | dT kvs=>
    obtain ⟨z,y,xs,r,ob,es,ep,e,c⟩:=x
    exact ⟨z,y,xs,Paired.mapP r fun p q z=>⟨z.1,ht _ _ z.2.1,z.2.2⟩,ob,es,ep,k _ _ (.inl rfl) e,c⟩
  | set S n=>obtain ⟨ob,es,ep,t,e,c⟩:=x;exact ⟨ob,es,ep,t,k _ _ (.inl rfl) e,c⟩
  | ins C dx fs=>
    obtain ⟨d,z,ne,e,mA,⟨od,es,ep,e2,c⟩,r⟩:=x
    exact ⟨ho _ d,z,ne,k _ _ (.inl rfl) e,mA,⟨od,es,ep,k _ _ (.inr d) e2,c⟩,r⟩
  | own y=>obtain ⟨ob,e⟩:=x;exact ⟨ob,k _ _ (.inl rfl) e⟩
  | xd fs=>obtain ⟨mA,⟨od,es,ep,e,c⟩,r⟩:=x;exact ⟨mA,⟨od,es,ep,k _ _ (.inl rfl) e,c⟩,r⟩
  | rng lo hi=>obtain ⟨t,u,v,e⟩:=x;exact ⟨t,u,v,k _ _ (.inl rfl) e⟩
  | frz ob u ih=>obtain ⟨e,q⟩:=x;exact ⟨k _ _ (.inl rfl) e,ih q⟩
  | tbl ps=>
    have e:h.get? a=some { cls:=.none,data:=.fields ps }:=x
    show h'.get? a=some { cls:=.none,data:=.fields ps }
    exact k a _ (.inl rfl) e
  | met f y=>
    have e:h.get? a=some (PySem.W.methodObj (.ref f) (.ref y)):=x
    show h'.get? a=some (PySem.W.methodObj (.ref f) (.ref y))
    exact k a _ (.inl rfl) e
  | ext φ=>obtain ⟨p,⟨o,e⟩,st⟩:=x;exact ⟨st _ _ p fun o q=>k _ _ (.inl rfl) q,⟨o,k _ _ (.inl rfl) e⟩,st⟩
theorem HOk.lt (x:HOk P w H h) (e:H a=some o):a<h.objs.size:=(x a o e).lt
theorem HOk.fresh (x:HOk P w H h) (e:h.objs.size<=a):H a=none:=by
  cases q:H a with
  | none=>rfl
  | some u=>exact absurd (Nat.lt_of_lt_of_le (x.lt q) e) (Nat.lt_irrefl _)
theorem HOk.kept (x:HOk P w H h) (k:∀ b u,h.get? b=some u->h'.get? b=some u):HOk P w H h':=fun a o e=>
  (x a o e).stay (fun b u _ q=>k b u q) (fun _ q=>q) fun _ _ q=>q
theorem HOk.laid (x:HOk P w H h) (k:∀ b u,h.get? b=some u->h'.get? b=some u) (hp:h.objs.size<=a) (new:ObjOk P w (upd H a o) h' a o):HOk P w (upd H a o) h':=fun b u e=>by
  have hn:=x.fresh hp
  by_cases hb:b=a
  · subst hb;rw [Qaf] at e;cases e;exact new
  · rw [Qal hb] at e
    exact (x b u e).stay (fun c v _ q=>k c v q) (fun c q=>by rw [Qal (QaC q hn)];exact q) fun c xs q=>by rw [Qal (QaC q hn)];exact q
end
def Rd (H:Hp) (a:Addr) (u:HO):Prop:=H a=some u∨∃ o,H a=some (.frz o u)
theorem Rd.of {H:Hp} {a:Addr} {u:HO} (h:H a=some u):Rd H a u:=.inl h
theorem Rd.ok {P:Program} {w:World} {H:Hp} {h:Heap} {a:Addr} {u:HO} (r:Rd H a u) (x:HOk P w H h):ObjOk P w H h a u:=by
  rcases r with r | ⟨o,r⟩
  · exact x a u r
  · obtain ⟨_,q⟩:=x a _ r
    exact q
def Mut:Option HO->Prop
  | some (.lst _)=>True
  | some (.dK _)=>True
  | some (.dT _)=>True
  | some (.set _ _)=>True
  | some (.ins _ _ _)=>True
  | some (.ext _)=>True
  | _=>False
section
variable {P:Program} {w:World} {H:Hp} {h h':Heap} {x e:Addr} {o':HO}
theorem HOk.write (ok:HOk P w H h) (mu:Mut (H x)) (he:e=x∨H e=some (.own x)) (k:∀ b u,b≠e->h.get? b=some u->h'.get? b=some u) (heo:∃ u,h'.get? e=some u)
    (new:ObjOk P w (upd H x o') h' x o'):HOk P w (upd H x o') h':=fun b u q=>by
  have nown:∀ c y,H c=some (.own y)->c≠x:=fun c y r z=>by subst z;rw [r] at mu;exact mu
  have ntup:∀ c xs,H c=some (.tup xs)->c≠x:=fun c xs r z=>by subst z;rw [r] at mu;exact mu
  by_cases hb:b=x
  · subst hb;rw [Qaf] at q;cases q;exact new
  · rw [Qal hb] at q
    by_cases hbe:b=e
    · have q':H b=some (.own x):=by
        rcases he with z | z
        · exact absurd (hbe.trans z) hb
        · rw [hbe];exact z
      rw [q] at q';cases q'
      obtain ⟨v,hv⟩:=heo
      exact ⟨v,by rw [hbe];exact hv⟩
    · refine (ok b u q).stay (fun c v hc r=>k c v ?_ r) (fun c r=>by rw [Qal (nown c b r)];exact r) fun c xs r=>by rw [Qal (ntup c xs r)];exact r
      rcases hc with rfl | hc
      · exact hbe
      · rintro rfl
        rcases he with z | z
        · exact nown c b hc z
        · rw [hc] at z;cases z;exact hb rfl
end
structure Un (fs ex:List Addr) (H H':Hp) (h h':Heap):Prop where
  keep:∀ b o,h.get? b=some o->H b=none->b∉fs->b∉ex->h'.get? b=some o
  slot:∀ b o,h.get? b=some o->H b=none->b∈fs->b∉ex->∃ sl,h'.get? b=some { o with slots:=sl }
  free:∀ b o,h.get? b=some o->H b=none->b∉ex->H' b=none
  there:∀ b o,h.get? b=some o->b∉ex->∃ o',h'.get? b=some o'
  tups:∀ b xs,H b=some (.tup xs)->H' b=some (.tup xs)
  frzs:∀ b o u,H b=some (.frz o u)->H' b=some (.frz o u)
  tbls:∀ b ps,H b=some (.tbl ps)->∃ more,H' b=some (.tbl (ps++more))
section
variable {fs fs' ex ex':List Addr} {H H1 H2:Hp} {h h1 h2 h':Heap} {a x e:Addr} {o:HO}
theorem Un.any (u:Un fs ex H H1 h h1) {b:Addr} {ob:Obj} (q:h.get? b=some ob) (n:H b=none) (hx:b∉ex):∃ sl,h1.get? b=some { ob with slots:=sl }:=by
  by_cases hb:b∈fs
  · exact u.slot b ob q n hb hx
  · exact ⟨ob.slots,u.keep b ob q n hb hx⟩
theorem Un.trans (a:Un fs ex H H1 h h1) (b:Un fs ex H1 H2 h1 h2):Un fs ex H H2 h h2 where
  keep:=fun c ob q n hc hx=>b.keep c ob (a.keep c ob q n hc hx) (a.free c ob q n hx) hc hx
  slot:=fun c ob q n hc hx=>by
    obtain ⟨sl,e1⟩:=a.slot c ob q n hc hx
    obtain ⟨sl',e2⟩:=b.slot c _ e1 (a.free c ob q n hx) hc hx
    exact ⟨sl',e2⟩
  free:=fun c ob q n hx=>by
    obtain ⟨o',e1⟩:=a.there c ob q hx
    exact b.free c o' e1 (a.free c ob q n hx) hx
  there:=fun c ob q hx=>by
    obtain ⟨o',e1⟩:=a.there c ob q hx
    exact b.there c o' e1 hx
  tups:=fun c xs q=>b.tups c xs (a.tups c xs q)
  frzs:=fun c ob xs q=>b.frzs c ob xs (a.frzs c ob xs q)
  tbls:=fun c ps q=>by
    obtain ⟨m1,e1⟩:=a.tbls c ps q
    obtain ⟨m2,e2⟩:=b.tbls c _ e1
    exact ⟨m1++m2,by rw [e2,Array.append_assoc]⟩
theorem Un.kept (k:∀ b u,h.get? b=some u->h'.get? b=some u):Un fs ex H H h h':=
  ⟨fun b ob q _ _ _=>k b ob q,fun b ob q _ _ _=>⟨ob.slots,k b ob q⟩,fun _ _ _ n _=>n,fun b ob q _=>⟨ob,k b ob q⟩,fun _ _ q=>q,fun _ _ _ q=>q,fun _ ps q=>⟨#[],by rw [q];simp⟩⟩
theorem Un.refl:Un fs ex H H h h:=Un.kept fun _ _ q=>q
theorem Un.laid (k:∀ b u,h.get? b=some u->h'.get? b=some u) (hp:h.objs.size<=a) (hn:H a=none):Un fs ex H (upd H a o) h h' where
  keep:=fun b u q _ _ _=>k b u q
  slot:=fun b u q _ _ _=>⟨u.slots,k b u q⟩
  free:=fun b u q n _=>by rw [Qal (Nat.ne_of_lt (Nat.lt_of_lt_of_le (Heap.lt_size q) hp))];exact n
  there:=fun b u q _=>⟨u,k b u q⟩
  tups:=fun b xs q=>by rw [Qal (QaC q hn)];exact q
  frzs:=fun b u xs q=>by rw [Qal (QaC q hn)];exact q
  tbls:=fun b ps q=>⟨#[],by rw [Qal (QaC q hn),q];simp⟩
theorem Un.write (mu:Mut (H x)) (he:e=x∨H e=some (.own x)) (k:∀ b u,b≠e->h.get? b=some u->h'.get? b=some u) (heo:∃ u,h'.get? e=some u):Un fs ex H (upd H x o) h h':=by
  have hx:∀ b,H b=none->b≠x:=fun b n z=>by subst z;rw [n] at mu;exact mu
  have hb:∀ b,H b=none->b≠e:=fun b n z=>by
    subst z
    rcases he with r | r
    · exact hx b n r
    · rw [n] at r;cases r
  have hm:∀ b u,H b=some u->¬ Mut (some u)->b≠x:=fun b u q nm z=>by subst z;rw [q] at mu;exact nm mu
  refine ⟨fun b u q n _ _=>k b u (hb b n) q,fun b u q n _ _=>⟨u.slots,k b u (hb b n) q⟩,fun b u q n _=>by rw [Qal (hx b n)];exact n,fun b u q _=>?_,
    fun b xs q=>by rw [Qal (hm b _ q fun z=>z)];exact q,fun b u xs q=>by rw [Qal (hm b _ q fun z=>z)];exact q,fun b ps q=>⟨#[],by rw [Qal (hm b _ q fun z=>z),q];simp⟩⟩
  by_cases hbe:b=e
  · subst hbe;exact heo
  · exact ⟨u,k b u hbe q⟩
theorem Un.mono (u:Un fs ex H H1 h h1) (hs:∀ b∈fs,b∈fs') (hx:∀ b∈ex,b∈ex'):Un fs' ex' H H1 h h1:=
  ⟨fun b ob q n hb he=>u.keep b ob q n (fun z=>hb (hs b z)) fun z=>he (hx b z),fun _ _ q n _ he=>u.any q n fun z=>he (hx _ z),fun b ob q n he=>u.free b ob q n fun z=>he (hx b z),fun b ob q he=>u.there b ob q fun z=>he (hx b z),u.tups,u.frzs,u.tbls⟩
end
def trk (h:Heap) (H:Hp):List Addr:=(List.range h.objs.size).filter fun a=>(H a).isSome
def hidT (h:Heap) (H:Hp):Heap:=PySem.W.hideAll h (trk h H)
theorem QiJ (h:Heap) (H:Hp):(hidT h H).objs.size=h.objs.size:=PySem.W.hideAll_size _ _
theorem QkB {h:Heap} {H:Hp} {b:Addr} {o:Obj} (e:h.get? b=some o) (n:H b=none):(hidT h H).get? b=some o:=
  PySem.W.hideAll_get _ e fun hm=>by
    have q:(H b).isSome=true:=(List.mem_filter.mp hm).2
    rw [n] at q;simp at q
theorem QmO {h:Heap} {H:Hp} {b:Addr} {o:Obj} (e:(hidT h H).get? b=some o):h.get? b=some o/\H b=none:=by
  have e':h.get? b=some o:=PySem.W.of_hideAll (trk h H) e
  refine ⟨e',?_⟩
  cases q:H b with
  | none=>rfl
  | some x=>
    have hm:b∈trk h H:=List.mem_filter.mpr ⟨List.mem_range.mpr (Heap.lt_size e'),by simp [q]⟩
    have z:(hidT h H).get? b=none:=PySem.W.hideAll_none (trk h H) hm
    rw [z] at e;cases e
def Qnx (g h:Heap) (L:Addr):List (Addr×Obj):=(List.range h.objs.size).filterMap fun a=>if a=L∨(g.get? a).isSome=true then none else (h.get? a).map fun o=>(a,o)
def rest (g h:Heap) (L d:Addr):List (Addr×Obj):=(Qnx g h L).filter fun p=>decide (p.1≠d)
structure Mod (K:PySem.W.Frag) (mg:Str->Option Value) (base:Heap):Prop where
  kin:K.In base
  glob:base.Ns mainGlobals mg
  blt:∃ mb,base.Ns builtinsNs mb/\∀ x:Str,x ≠ "__name__" -> mb x=bootBuiltins x
  nolimit:base.NoLimit
structure Cx where
  prog:Program
  w:World
  K:PySem.W.Frag
  mg:Str->Option Value
  base:Heap
  A:Around
  N:List Str
  s₀:Shared
  H₀:Hp
  env:Env
  outer:List Env
  stack:List Env
  ex:List Addr
  fn:Str->Bool
  calm:Bool
  pn:List (Addr×Obj)
  xe:Value->Shared->Prop
def frs (l:List Env):List Addr:=l.filterMap (·.frame)
abbrev Cx.fs (X:Cx):List Addr:=frs X.outer
def Vis (sc:Scope) (x:Str):Prop:=sc.names.lookup x=some .local∨sc.names.lookup x=some .cell∨sc.names.lookup x=some .free
def Loc (sc:Scope) (x:Str):Prop:=sc.names.lookup x=some .local∨sc.names.lookup x=some .cell
def Look (env:Env) (h:Heap) (m:Str->Option Value) (x:Str) (u:Value):Prop:=
  (env.kindOf x=some .local/\m x=some u)∨((env.kindOf x=some .cell∨env.kindOf x=some .free)/\∃ c,env.cells.lookup x=some c/\h.IsCell c (some u))
structure Cx.Ok (X:Cx):Prop where
  mod:Mod X.K X.mg X.base
  kind:X.env.scope.kind=.function
  glob:X.env.globals=mainGlobals
  blt:X.env.builtins=builtinsNs
  above:X.s₀.heap.objs.size<=X.env.locals
  inj:∀ x y c,X.env.cells.lookup x=some c->X.env.cells.lookup y=some c->x=y
  has:∀ x,(X.env.kindOf x=some .cell∨X.env.kindOf x=some .free)->∃ c,X.env.cells.lookup x=some c
  cab:∀ x c,X.fn x=true->X.env.cells.lookup x=some c->X.s₀.heap.objs.size<=c
  hd:X.calm=true->X.A.handled=none
  frames:X.A.frames=some X.stack
  stk:X.stack=X.outer∨(X.stack=X.env::X.outer/\X.env.frame=some X.env.locals)
  exf:∀ b∈X.ex,b≠X.env.locals/\∀ x c,X.env.cells.lookup x=some c->c≠b
  bs:∀ b o,X.base.get? b=some o->X.s₀.heap.get? b=some o/\X.H₀ b=none
  bsz:X.base.objs.size<=X.s₀.heap.objs.size
  noex:∀ b o,X.base.get? b=some o->b∉X.ex
  exfs:∀ b∈X.ex,b∉X.fs
  funs:X.s₀.heap.FunFrames X.base X.outer
  frf:∀ b∈X.fs,X.H₀ b=none
structure Inv (X:Cx) (pins:List (Addr×Obj)) (σ:List (Option V)) (H:Hp) (s:Shared):Prop where
  ok:X.Ok
  os:s.os=X.s₀.os
  bare:AllBare s.gens
  base:Un X.fs X.ex X.H₀ H X.s₀.heap s.heap
  loc:∃ m,s.heap.Ns X.env.locals m/\∀ (i:Nat) (x:Str) (v:V),X.N[i]? = some x->σ[i]? = some (some v)->Vis X.env.scope x->∃ u,RelV v u/\Look X.env s.heap m x u
  cell:∀ x c,X.env.cells.lookup x=some c->∃ v,s.heap.IsCell c v
  free:H X.env.locals=none
  freeC:∀ x c,X.env.cells.lookup x=some c->H c=none
  pin:∀ p∈X.pn++pins,s.heap.get? p.1=some p.2/\H p.1=none/\p.1≠X.env.locals/\p.1∉X.fs/\∀ v,p.2.data≠.cell v
  hok:HOk X.prog X.w H s.heap
  len:σ.length=X.N.length
section
variable {X:Cx} {pins:List (Addr×Obj)} {σ:List (Option V)} {H H':Hp} {s:Shared} {h':Heap}
theorem Cx.Ok.nofr (ok:X.Ok) {b:Addr} {o:Obj} (e:X.base.get? b=some o):b∉X.fs:=fun hb=>by
  have:=(ok.funs.mem hb).1
  rw [e] at this;cases this
theorem Inv.bs (I:Inv X pins σ H s):∀ b o,X.base.get? b=some o->s.heap.get? b=some o/\H b=none:=fun b o e=>
  ⟨I.base.keep b o (I.ok.bs b o e).1 (I.ok.bs b o e).2 (I.ok.nofr e) (I.ok.noex b o e),I.base.free b o (I.ok.bs b o e).1 (I.ok.bs b o e).2 (I.ok.noex b o e)⟩
theorem Inv.bk (I:Inv X pins σ H s):∀ b o,X.base.get? b=some o->s.heap.get? b=some o:=fun b o e=>(I.bs b o e).1
theorem Inv.mod (I:Inv X pins σ H s):Mod X.K X.mg X.base:=I.ok.mod
theorem Inv.kIn (I:Inv X pins σ H s):X.K.In s.heap:=I.ok.mod.kin.keeps I.bk
theorem Inv.nolimit (I:Inv X pins σ H s):s.heap.NoLimit:=I.ok.mod.nolimit.keeps I.bk
theorem Inv.fr (I:Inv X pins σ H s):∃ m,Fr X.base X.env.locals s.heap m:=
  let ⟨m,hn,_⟩:=I.loc
  ⟨m,hn,I.bk,Nat.le_trans I.ok.bsz I.ok.above⟩
theorem Inv.lt (I:Inv X pins σ H s):X.env.locals<s.heap.objs.size:=let ⟨_,hn,_⟩:=I.loc;hn.lt
theorem Inv.sz (I:Inv X pins σ H s):X.s₀.heap.objs.size<=s.heap.objs.size:=Nat.le_trans I.ok.above (Nat.le_of_lt I.lt)
theorem Inv.nofs (I:Inv X pins σ H s) {a:Addr} (h:s.heap.objs.size<=a):a∉X.fs:=fun hb=>by
  obtain ⟨_,o,ho,_⟩:=I.ok.funs.mem hb
  exact absurd (Nat.lt_of_lt_of_le (Heap.lt_size ho) (Nat.le_trans I.sz h)) (Nat.lt_irrefl _)
theorem Inv.cne (I:Inv X pins σ H s):∀ x c,X.env.cells.lookup x=some c->c≠X.env.locals:=fun x c e z=>by
  obtain ⟨v,o,ho,hd⟩:=I.cell x c e
  obtain ⟨m,⟨o',es,ep,ho',hd',_⟩,_⟩:=I.loc
  rw [z,ho'] at ho;cases ho;rw [hd'] at hd;cases hd
theorem Inv.funs (I:Inv X pins σ H s):s.heap.FunFrames X.base X.outer:=by
  have all:∀ (l:List Env),(∀ b∈frs l,b∈X.fs)->X.s₀.heap.FunFrames X.base l->s.heap.FunFrames X.base l:=by
    intro l
    induction l with
    | nil=>intro _ _;trivial
    | cons env r ih=>
      intro hs hl
      obtain ⟨hk,⟨L,o,hf,hn,ho,hd⟩,hr⟩:=hl
      have hL:L∈X.fs:=hs L (by unfold frs;rw [List.filterMap_cons,hf];exact List.mem_cons_self)
      obtain ⟨sl,e⟩:=I.base.slot L o ho (I.ok.frf L hL) hL fun z=>I.ok.exfs L z hL
      exact ⟨hk,⟨L,_,hf,hn,e,hd⟩,ih (fun b hb=>hs b (by unfold frs;rw [List.filterMap_cons,hf];exact List.mem_cons_of_mem _ hb)) hr⟩
  exact all X.outer (fun _ hb=>hb) I.ok.funs
theorem Inv.stack (I:Inv X pins σ H s):s.heap.FunFrames X.base X.stack:=by
  rcases I.ok.stk with e | ⟨e,hf⟩
  · rw [e];exact I.funs
  · rw [e]
    obtain ⟨m,hn,_⟩:=I.loc
    refine .cons (by rw [I.ok.kind];decide) hf hn ?_ I.funs
    exact Heap.get?_none_of_le (Nat.le_trans I.ok.bsz I.ok.above)
theorem Inv.stkSub (I:Inv X pins σ H s):∀ b∈frs X.stack,b∈X.env.locals::X.fs:=fun b hb=>by
  rcases I.ok.stk with e | ⟨e,hf⟩
  · rw [e] at hb;exact List.mem_cons_of_mem _ hb
  · rw [e] at hb
    unfold frs at hb
    rw [List.filterMap_cons,hf] at hb
    exact hb
theorem Inv.stkFree (I:Inv X pins σ H s):∀ b∈frs X.stack,H b=none:=fun b hb=>by
  rcases List.mem_cons.mp (I.stkSub b hb) with e | hb
  · rw [e];exact I.free
  · obtain ⟨_,o,ho,_⟩:=I.ok.funs.mem hb
    exact I.base.free b o ho (I.ok.frf b hb) fun z=>I.ok.exfs b z hb
theorem Inv.step {g':Array GenState} {t':Nat} {d':Drawn} {ch:List Addr} (I:Inv X pins σ H s)
    (hch:∀ b∈ch,(b∈X.ex∨X.s₀.heap.objs.size<=b)/\b≠X.env.locals/\(∀ x c,X.env.cells.lookup x=some c->c≠b)/\∀ p∈X.pn++pins,p.1≠b)
    (keep:∀ b o,b≠X.env.locals->b∉X.fs->b∉ch->s.heap.get? b=some o->H b=none->h'.get? b=some o)
    (slot:∀ b o,b≠X.env.locals->b∈X.fs->b∉ch->s.heap.get? b=some o->H b=none->∃ sl,h'.get? b=some { o with slots:=sl }) (free:∀ b o,b∉ch->s.heap.get? b=some o->H b=none->H' b=none)
    (there:∀ b o,b∉ch->s.heap.get? b=some o->∃ o',h'.get? b=some o')
    (tups:∀ b xs,H b=some (.tup xs)->H' b=some (.tup xs)) (frzs:∀ b o u,H b=some (.frz o u)->H' b=some (.frz o u)) (tbls:∀ b ps,H b=some (.tbl ps)->∃ more,H' b=some (.tbl (ps++more)))
    (ns:∀ m,s.heap.Ns X.env.locals m->h'.Ns X.env.locals m) (hok:HOk X.prog X.w H' h') (hg:AllBare g') :
    Inv X pins σ H' { s with heap:=h',gens:=g',drawn:=d',toks:=t' }:=by
  have neL:∀ b o,X.s₀.heap.get? b=some o->b≠X.env.locals:=fun b o e=>Nat.ne_of_lt (Nat.lt_of_lt_of_le (Heap.lt_size e) I.ok.above)
  have neC:∀ b o,X.s₀.heap.get? b=some o->b∉X.ex->b∉ch:=fun b o e hx hb=>by
    rcases (hch b hb).1 with z | z
    · exact hx z
    · exact absurd (Nat.lt_of_lt_of_le (Heap.lt_size e) z) (Nat.lt_irrefl _)
  have cellK:∀ x c,X.env.cells.lookup x=some c->∀ v,s.heap.IsCell c v->h'.IsCell c v:=fun x c e v ⟨o,ho,hd⟩=>by
    have nch:c∉ch:=fun z=>(hch c z).2.2.1 x c e rfl
    by_cases hc:c∈X.fs
    · obtain ⟨sl,q⟩:=slot c o (I.cne x c e) hc nch ho (I.freeC x c e)
      exact ⟨_,q,hd⟩
    · exact ⟨o,keep c o (I.cne x c e) hc nch ho (I.freeC x c e),hd⟩
  refine ⟨I.ok,I.os,hg,⟨fun b o e n hb hx=>?_,fun b o e n hb hx=>?_,fun b o e n hx=>?_,fun b o e hx=>?_,fun b xs e=>tups b xs (I.base.tups b xs e),fun b o xs e=>frzs b o xs (I.base.frzs b o xs e),fun b ps e=>?_⟩,?_,fun x c e=>?_,?_,fun x c e=>?_,fun p hp=>?_,hok,I.len⟩
  · exact keep b o (neL b o e) hb (neC b o e hx) (I.base.keep b o e n hb hx) (I.base.free b o e n hx)
  · obtain ⟨sl,e1⟩:=I.base.slot b o e n hb hx
    obtain ⟨sl',e2⟩:=slot b _ (neL b o e) hb (neC b o e hx) e1 (I.base.free b o e n hx)
    exact ⟨sl',e2⟩
  · obtain ⟨o',e1⟩:=I.base.there b o e hx
    exact free b o' (neC b o e hx) e1 (I.base.free b o e n hx)
  · obtain ⟨o',e1⟩:=I.base.there b o e hx
    exact there b o' (neC b o e hx) e1
  · obtain ⟨m1,e1⟩:=I.base.tbls b ps e
    obtain ⟨m2,e2⟩:=tbls b _ e1
    exact ⟨m1++m2,by rw [e2,Array.append_assoc]⟩
  · obtain ⟨m,hn,hl⟩:=I.loc
    refine ⟨m,ns m hn,fun i x v e1 e2 e3=>?_⟩
    obtain ⟨u,r,l⟩:=hl i x v e1 e2 e3
    refine ⟨u,r,?_⟩
    rcases l with l | ⟨k,c,e,z⟩
    · exact .inl l
    · exact .inr ⟨k,c,e,cellK x c e _ z⟩
  · obtain ⟨v,z⟩:=I.cell x c e
    exact ⟨v,cellK x c e v z⟩
  · obtain ⟨m,⟨o,_,_,ho,_⟩,_⟩:=I.loc
    exact free _ o (fun z=>(hch _ z).2.1 rfl) ho I.free
  · obtain ⟨v,o,ho,hd⟩:=I.cell x c e
    exact free c o (fun z=>(hch c z).2.2.1 x c e rfl) ho (I.freeC x c e)
  · obtain ⟨e,n,ne,nf,d⟩:=I.pin p hp
    have nch:p.1∉ch:=fun z=>(hch p.1 z).2.2.2 p hp rfl
    exact ⟨keep p.1 p.2 ne nf nch e n,free p.1 p.2 nch e n,ne,nf,d⟩
theorem Inv.un {t':Nat} (I:Inv X pins σ H s) (u:Un X.fs [] H H' s.heap h') (hok:HOk X.prog X.w H' h'):Inv X pins σ H' { s with heap:=h',toks:=t' }:=by
  obtain ⟨m,⟨o,es,ep,ho,r⟩,_⟩:=id I.loc
  obtain ⟨sl,hL⟩:=u.any ho I.free (by simp)
  exact I.step (g':=s.gens) (d':=s.drawn) (ch:=[]) (fun _ z=>nomatch z) (fun b o _ hb _ e n=>u.keep b o e n hb (by simp)) (fun b o _ hb _ e n=>u.slot b o e n hb (by simp)) (fun b o _ e n=>u.free b o e n (by simp)) (fun b o _ e=>u.there b o e (by simp)) u.tups u.frzs u.tbls (fun m' hm=>by
    obtain ⟨o',es',ep',ho',r'⟩:=hm
    rw [ho] at ho';cases ho'
    exact ⟨_,es',ep',hL,r'⟩) hok I.bare
theorem Inv.call {g':Array GenState} {t':Nat} {d':Drawn} {ch:List Addr} (I:Inv X pins σ H s) (u:Un (frs X.stack) ch H H' s.heap h') (hok:HOk X.prog X.w H' h') (hg:AllBare g')
    (hch:∀ b∈ch,(b∈X.ex∨X.s₀.heap.objs.size<=b)/\b≠X.env.locals/\(∀ x c,X.env.cells.lookup x=some c->c≠b)/\∀ p∈X.pn++pins,p.1≠b) :
    Inv X pins σ H' { s with heap:=h',gens:=g',drawn:=d',toks:=t' }:=by
  obtain ⟨m,⟨o,es,ep,ho,r⟩,_⟩:=id I.loc
  obtain ⟨sl,hL⟩:=u.any ho I.free fun z=>(hch _ z).2.1 rfl
  exact I.step (ch:=ch) hch (fun b o hL hb hc e n=>u.keep b o e n (fun z=>(List.mem_cons.mp (I.stkSub b z)).elim hL hb) hc) (fun b o _ _ hc e n=>u.any e n hc) (fun b o hc e n=>u.free b o e n hc) (fun b o hc e=>u.there b o e hc) u.tups u.frzs u.tbls (fun m' hm=>by
    obtain ⟨o',es',ep',ho',r'⟩:=hm
    rw [ho] at ho';cases ho'
    exact ⟨_,es',ep',hL,r'⟩) hok hg
theorem Inv.turned {t':Nat} {it:Addr} (I:Inv X pins σ H s) (k:∀ b o,b≠it->s.heap.get? b=some o->h'.get? b=some o) (hn:H it=none) (hL:it≠X.env.locals)
    (h1:it∈X.ex∨X.s₀.heap.objs.size<=it) (h2:∀ x c,X.env.cells.lookup x=some c->c≠it) (h3:∀ p∈X.pn++pins,p.1≠it):Inv X pins σ H { s with heap:=h',toks:=t' }:=by
  have nit:∀ b u,H b=some u->b≠it:=fun b u e z=>by rw [z,hn] at e;cases e
  refine I.step (g':=s.gens) (d':=s.drawn) (ch:=[it]) (fun b hb=>?_) (fun b o _ _ hc e _=>k b o (fun z=>hc (by simp [z])) e) (fun b o _ _ hc e _=>⟨o.slots,k b o (fun z=>hc (by simp [z])) e⟩) (fun _ _ _ _ n=>n)
    (fun b o hc e=>⟨o,k b o (fun z=>hc (by simp [z])) e⟩) (fun _ _ e=>e) (fun _ _ _ e=>e) (fun b ps e=>⟨#[],by rw [e];simp⟩) (fun m hm=>?_) (fun b u e=>?_) I.bare
  · have e:b=it:=by simpa using hb
    subst e
    exact ⟨h1,hL,h2,h3⟩
  · obtain ⟨o,es,ep,ho,r⟩:=hm
    exact ⟨o,es,ep,k _ o (Ne.symm hL) ho,r⟩
  · refine (I.hok b u e).stay (fun c v hc q=>k c v ?_ q) (fun _ q=>q) fun _ _ q=>q
    rcases hc with z | z
    · rw [z];exact nit b u e
    · exact nit c _ z
theorem Inv.tok (I:Inv X pins σ H s) (t:Nat):Inv X pins σ H { s with toks:=t }:=I.un (h':=s.heap) (t':=t) Un.refl I.hok
theorem Inv.kept {t':Nat} (I:Inv X pins σ H s) (k:∀ b u,s.heap.get? b=some u->h'.get? b=some u):Inv X pins σ H { s with heap:=h',toks:=t' }:=I.un (Un.kept k) (I.hok.kept k)
theorem Inv.laid {a:Addr} {o:HO} {t':Nat} (I:Inv X pins σ H s) (k:∀ b u,s.heap.get? b=some u->h'.get? b=some u) (hp:s.heap.objs.size<=a) (new:ObjOk X.prog X.w (upd H a o) h' a o) :
    Inv X pins σ (upd H a o) { s with heap:=h',toks:=t' }:=I.un (Un.laid k hp (I.hok.fresh hp)) (I.hok.laid k hp new)
theorem Inv.write {x e:Addr} {o:HO} {t':Nat} (I:Inv X pins σ H s) (mu:Mut (H x)) (he:e=x∨H e=some (.own x)) (k:∀ b u,b≠e->s.heap.get? b=some u->h'.get? b=some u) (heo:∃ u,h'.get? e=some u)
    (new:ObjOk X.prog X.w (upd H x o) h' x o):Inv X pins σ (upd H x o) { s with heap:=h',toks:=t' }:=I.un (Un.write mu he k heo) (I.hok.write mu he k heo new)
theorem Inv.weak {σ':List (Option V)} (I:Inv X pins σ H s) (hl:σ'.length=σ.length) (w:∀ (i:Nat) v,σ'[i]? = some (some v)->σ[i]? = some (some v)):Inv X pins σ' H s:=
  ⟨I.ok,I.os,I.bare,I.base,let ⟨m,hn,hl'⟩:=I.loc;⟨m,hn,fun i x v e1 e2 e3=>hl' i x v e1 (w i v e2) e3⟩,I.cell,I.free,I.freeC,I.pin,I.hok,hl.trans I.len⟩
theorem Inv.pins_of {pins':List (Addr×Obj)} (I:Inv X pins σ H s) (h:∀ p∈pins',s.heap.get? p.1=some p.2/\H p.1=none/\p.1≠X.env.locals/\p.1∉X.fs/\∀ v,p.2.data≠.cell v):Inv X pins' σ H s:=
  ⟨I.ok,I.os,I.bare,I.base,I.loc,I.cell,I.free,I.freeC,fun p hp=>(List.mem_append.mp hp).elim (fun z=>I.pin p (List.mem_append_left _ z)) (h p),I.hok,I.len⟩
theorem Qd4 {N:List Str} (hN:N.Nodup) {i j:Nat} {x:Str} (a:N[i]? = some x) (b:N[j]? = some x):i=j:=by
  obtain ⟨h1,e1⟩:=List.getElem?_eq_some_iff.mp a
  obtain ⟨h2,e2⟩:=List.getElem?_eq_some_iff.mp b
  exact (List.getElem_inj hN).mp (e1.trans e2.symm)
theorem Qex {M:Model} {A:Around} {E:Value->Shared->Prop} {i:Nat} {x:Str} {v:V} {u:Value} {Q:Unit->Shared->Prop} (I:Inv X pins σ H s) (hN:X.N.Nodup) (hi:X.N[i]? = some x) (hx:Loc X.env.scope x) (r:RelV v u)
    (h:∀ s',Inv X pins (σ.set i (some v)) H s'->(∃ a,Heap.SameBut a s.heap s'.heap/\(a=X.env.locals∨X.env.cells.lookup x=some a))->Q () s') (hf:X.fn x=true∨X.env.scope.names.lookup x=some .local:=by first | exact .inl rfl | exact .inr rfl | assumption):wpAny M A (storeName X.env x u) Q E s:=by
  obtain ⟨m,hn,hl⟩:=id I.loc
  have hcls:(X.env.scope.kind == .class||(X.env.scope.kind == .module&&X.env.locals != X.env.globals))=false:=by rw [I.ok.kind];rfl
  have hiσ:i < σ.length:=by rw [I.len];exact (List.getElem?_eq_some_iff.mp hi).1
  have cne:=I.cne
  have tracked:∀ {a:Addr} {h':Heap},(∃ o,s.heap.get? a=some o/\H a=none)->Heap.SameBut a s.heap h'->HOk X.prog X.w H h':=fun {a h'} ha hs b ob e=>by
    obtain ⟨_,_,hfree⟩:=ha
    refine (I.hok b ob e).stay (fun c w' hc q=>(hs.2 c ?_).trans q) (fun _ q=>q) fun _ _ q=>q
    rintro rfl
    rcases hc with rfl | hc
    · rw [hfree] at e;cases e
    · rw [hfree] at hc;cases hc
  rcases hx with hk | hk
  · refine wpAny_storeName_local hk hn (fun h' hn' hs=>?_) hcls
    obtain ⟨oL,_,_,hoL,_⟩:=id hn
    refine h _ ⟨I.ok,I.os,I.bare,⟨fun b o e n hb hx=>?_,fun b o e n hb hx=>?_,I.base.free,fun b o e hx=>?_,I.base.tups,I.base.frzs,I.base.tbls⟩,⟨_,hn',fun j y v' e1 e2 e3=>?_⟩,fun y c e=>?_,I.free,I.freeC,fun p hp=>?_,tracked ⟨oL,hoL,I.free⟩ hs,by simpa using I.len⟩ ⟨_,hs,.inl rfl⟩
    · exact (hs.2 b (Nat.ne_of_lt (Nat.lt_of_lt_of_le (Heap.lt_size e) I.ok.above))).trans (I.base.keep b o e n hb hx)
    · obtain ⟨sl,e1⟩:=I.base.slot b o e n hb hx
      exact ⟨sl,(hs.2 b (Nat.ne_of_lt (Nat.lt_of_lt_of_le (Heap.lt_size e) I.ok.above))).trans e1⟩
    · obtain ⟨o',e1⟩:=I.base.there b o e hx
      exact ⟨o',(hs.2 b (Nat.ne_of_lt (Nat.lt_of_lt_of_le (Heap.lt_size e) I.ok.above))).trans e1⟩
    · by_cases hj:j=i
      · subst hj
        rw [hi] at e1;cases e1
        rw [List.getElem?_set_self hiσ] at e2
        cases e2
        exact ⟨u,r,.inl ⟨hk,by simp⟩⟩
      · rw [List.getElem?_set_ne (Ne.symm hj)] at e2
        obtain ⟨u',r',q⟩:=hl j y v' e1 e2 e3
        refine ⟨u',r',?_⟩
        rcases q with ⟨k,e⟩ | ⟨k,c,e,z⟩
        · refine .inl ⟨k,?_⟩
          have:y≠x:=fun e=>hj (Qd4 hN e1 (e ▸ hi))
          simp [this,e]
        · exact .inr ⟨k,c,e,z.sameBut hs (cne y c e)⟩
    · obtain ⟨w',z⟩:=I.cell y c e
      exact ⟨w',z.sameBut hs (cne y c e)⟩
    · obtain ⟨e,n,ne,nf,d⟩:=I.pin p hp
      exact ⟨(hs.2 p.1 ne).trans e,n,ne,nf,d⟩
  · have hfn:X.fn x=true:=by
      rcases hf with z | z
      · exact z
      · rw [z] at hk;cases hk
    obtain ⟨c,hc⟩:=I.ok.has x (.inl hk)
    obtain ⟨w',z⟩:=I.cell x c hc
    refine wpAny_storeName_cell I.ok.kind hk hc z (fun h' hc' hs=>?_)
    obtain ⟨oc,hoc,hocd⟩:=id z
    refine h { s with heap:=h' } ⟨I.ok,I.os,I.bare,⟨fun b o e n hb hx=>?_,fun b o e n hb hx=>?_,I.base.free,fun b o e hx=>?_,I.base.tups,I.base.frzs,I.base.tbls⟩,⟨m,hn.sameBut hs (Ne.symm (cne x c hc)),fun j y v' e1 e2 e3=>?_⟩,fun y c' e=>?_,I.free,I.freeC,fun p hp=>?_,tracked ⟨oc,hoc,I.freeC x c hc⟩ hs,by simpa using I.len⟩ ⟨c,hs,.inr hc⟩
    · exact (hs.2 b (Nat.ne_of_lt (Nat.lt_of_lt_of_le (Heap.lt_size e) (I.ok.cab x c hfn hc)))).trans (I.base.keep b o e n hb hx)
    · obtain ⟨sl,e1⟩:=I.base.slot b o e n hb hx
      exact ⟨sl,(hs.2 b (Nat.ne_of_lt (Nat.lt_of_lt_of_le (Heap.lt_size e) (I.ok.cab x c hfn hc)))).trans e1⟩
    · obtain ⟨o',e1⟩:=I.base.there b o e hx
      exact ⟨o',(hs.2 b (Nat.ne_of_lt (Nat.lt_of_lt_of_le (Heap.lt_size e) (I.ok.cab x c hfn hc)))).trans e1⟩
    · by_cases hj:j=i
      · subst hj
        rw [hi] at e1;cases e1
        rw [List.getElem?_set_self hiσ] at e2
        cases e2
        exact ⟨u,r,.inr ⟨.inl hk,c,hc,hc'⟩⟩
      · rw [List.getElem?_set_ne (Ne.symm hj)] at e2
        obtain ⟨u',r',q⟩:=hl j y v' e1 e2 e3
        refine ⟨u',r',?_⟩
        rcases q with q | ⟨k,c',e,z'⟩
        · exact .inl q
        · refine .inr ⟨k,c',e,z'.sameBut hs ?_⟩
          rintro rfl
          exact hj (Qd4 hN e1 (I.ok.inj _ _ _ e hc ▸ hi))
    · by_cases hcc:c'=c
      · subst hcc;exact ⟨_,hc'⟩
      · obtain ⟨w2,z2⟩:=I.cell y c' e
        exact ⟨w2,z2.sameBut hs hcc⟩
    · obtain ⟨e,n,ne,nf,d⟩:=I.pin p hp
      refine ⟨(hs.2 p.1 ?_).trans e,n,ne,nf,d⟩
      intro q
      rw [q,hoc] at e
      have q':oc=p.2:=Option.some.inj e
      exact d w' (by rw [<- q'];exact hocd)
theorem QdP {M:Model} {A:Around} {E:Value->Shared->Prop} {i:Nat} {x:Str} {v:V} {u:Value} {Q:Unit->Shared->Prop} (I:Inv X pins σ H s) (hN:X.N.Nodup) (hi:X.N[i]? = some x) (hx:Loc X.env.scope x) (r:RelV v u)
    (h:∀ s',Inv X pins (σ.set i (some v)) H s'->Q () s') (hf:X.fn x=true∨X.env.scope.names.lookup x=some .local:=by first | exact .inl rfl | exact .inr rfl | assumption):wpAny M A (storeName X.env x u) Q E s:=
  Qex I hN hi hx r (fun s' I' _=>h s' I') hf
theorem Inv.call' {s':Shared} {ch:List Addr} (I:Inv X pins σ H s) (ho:s'.os=s.os) (u:Un (frs X.stack) ch H H' s.heap s'.heap) (hok:HOk X.prog X.w H' s'.heap) (hg:AllBare s'.gens)
    (hch:∀ b∈ch,(b∈X.ex∨X.s₀.heap.objs.size<=b)/\b≠X.env.locals/\(∀ x c,X.env.cells.lookup x=some c->c≠b)/\∀ p∈X.pn++pins,p.1≠b):Inv X pins σ H' s':=by
  obtain ⟨h',g',d',t',o'⟩:=s'
  have e:o'=s.os:=ho
  subst e
  exact I.call (g':=g') (t':=t') (d':=d') u hok hg hch
end
abbrev XK:=Value->Option Addr->Hp->Prop
abbrev St:=List (Option V)
abbrev VK:=V->Hp->Prop
abbrev TE:=St->Hp->VK->Prop
abbrev TT:=St->Hp->(Bool->Hp->Prop)->Prop
abbrev TA:=St->Hp->(List V->Hp->Prop)->Prop
structure Ends where
  nx:St->Hp->Prop
  rt:VK
  bk:St->Hp->Prop:=fun _ _=>False
  ct:St->Hp->Prop:=fun _ _=>False
abbrev TS:=Ends->St->Hp->Prop
def EP (X:Cx) (pins:List (Addr×Obj)) (σ:St) (Q:VK) (u:Value) (s':Shared):Prop:=∃ v H',Inv X pins σ H' s'/\RelV v u/\Q v H'
def TP (X:Cx) (pins:List (Addr×Obj)) (σ:St) (Q:Bool->Hp->Prop) (b:Bool) (s':Shared):Prop:=∃ H',Inv X pins σ H' s'/\Q b H'
def AP (X:Cx) (pins:List (Addr×Obj)) (σ:St) (Q:List V->Hp->Prop) (us:List Value) (s':Shared):Prop:=∃ vs H',Inv X pins σ H' s'/\Vals vs us/\Q vs H'
def SP (X:Cx) (pins:List (Addr×Obj)) (D:Ends) (f:Flow) (s':Shared):Prop:=
  match f with
  | .next=>∃ σ' H',Inv X pins σ' H' s'/\D.nx σ' H'
  | .brk=>∃ σ' H',Inv X pins σ' H' s'/\D.bk σ' H'
  | .cont=>∃ σ' H',Inv X pins σ' H' s'/\D.ct σ' H'
  | .ret u=>∃ v σ' H',Inv X pins σ' H' s'/\RelV v u/\D.rt v H'
def PE (X:Cx) (e:Expr) (t:TE):Prop:=
  ∀ (pins:List (Addr×Obj)) (s:Shared) (σ:St) (H:Hp) (Q:VK),Inv X pins σ H s->t σ H Q->wpAny (model X.prog X.w) X.A (eval e X.env) (EP X pins σ Q) X.xe s
def PT (X:Cx) (e:Expr) (t:TT):Prop:=
  ∀ (pins:List (Addr×Obj)) (s:Shared) (σ:St) (H:Hp) (Q:Bool->Hp->Prop),Inv X pins σ H s->t σ H Q->wpAny (model X.prog X.w) X.A (isTrue e X.env (eval e X.env)) (TP X pins σ Q) X.xe s
def PW (X:Cx) (e:Expr) (t:TT):Prop:=
  ∀ (whole:Sem Value) (pins:List (Addr×Obj)) (s:Shared) (σ:St) (H:Hp) (Q:Bool->Hp->Prop),Inv X pins σ H s->t σ H Q->wpAny (model X.prog X.w) X.A (isTrue e X.env whole) (TP X pins σ Q) X.xe s
theorem PW.pt {X:Cx} {e:Expr} {t:TT} (h:PW X e t):PT X e t:=h _
def PA (X:Cx) (es:List Expr) (t:TA):Prop:=
  ∀ (pos:Pos) (pins:List (Addr×Obj)) (s:Shared) (σ:St) (H:Hp) (Q:List V->Hp->Prop),Inv X pins σ H s->t σ H Q->wpAny (model X.prog X.w) X.A (spliced (backTo pos (starEach es X.env))) (AP X pins σ Q) X.xe s
def PS (X:Cx) (st:Stmt) (t:TS):Prop:=
  ∀ (pins:List (Addr×Obj)) (s:Shared) (σ:St) (H:Hp) (D:Ends),Inv X pins σ H s->t D σ H->wpAny (model X.prog X.w) X.A (exec st X.env) (SP X pins D) X.xe s
def PSs (X:Cx) (st:List Stmt) (t:TS):Prop:=
  ∀ (pins:List (Addr×Obj)) (s:Shared) (σ:St) (H:Hp) (D:Ends),Inv X pins σ H s->t D σ H->wpAny (model X.prog X.w) X.A (execs st X.env) (SP X pins D) X.xe s
theorem thn {α:Type} {t:Sem α} {Q Q':α->Shared->Prop} {M:Model} {A:Around} {E:Value->Shared->Prop} {s:Shared} (h:wpAny M A t Q E s) (hQ:∀ a s,Q a s->Q' a s):wpAny M A t Q' E s:=wpAny_mono h hQ fun _ _ x=>x
section
variable {X:Cx}
theorem bin {a b:Expr} {ta tb:TE} (ha:PE X a ta) (hb:PE X b tb) {pins:List (Addr×Obj)} {s:Shared} {σ:St} {H:Hp} {R:V->V->Hp->Prop} (I:Inv X pins σ H s) (h:ta σ H fun x H1=>tb σ H1 fun y H2=>R x y H2)
    {α:Type} {Q:α->Shared->Prop} {f:Value->Value->Sem α}
    (hf:∀ v u s2 x y H2,Inv X pins σ H2 s2->RelV x v->RelV y u->R x y H2->wpAny (model X.prog X.w) X.A (f v u) Q X.xe s2) :
    wpAny (model X.prog X.w) X.A (eval a X.env) (fun v s₁=>wpAny (model X.prog X.w) X.A (eval b X.env) (fun u s₂=>wpAny (model X.prog X.w) X.A (f v u) Q X.xe s₂) X.xe s₁) X.xe s:=by
  refine thn (ha pins s σ H _ I h) fun v s1 ⟨x,H1,I1,r1,q1⟩=>?_
  refine thn (hb pins s1 σ H1 _ I1 q1) fun u s2 ⟨y,H2,I2,r2,q2⟩=>?_
  exact hf v u s2 x y H2 I2 r1 r2 q2
def tVar (i:Nat):TE:=fun σ H Q=>∃ v,σ[i]? = some (some v)/\Q v H
def tC (v:V):TE:=fun _ H Q=>Q v H
theorem Qlc {i:Nat} {x:Str} {pos:Pos} (hN:X.N[i]? = some x) (hv:Vis X.env.scope x) (hd:(x == ("__debug__" : Str))=false:=by decide) (hcd:(x == ("__classdict__" : Str))=false:=by decide):PE X (.Name x pos) (tVar i):=by
  intro pins s σ H Q I h
  obtain ⟨v,e,h⟩:=h
  obtain ⟨m,hn,hl⟩:=I.loc
  obtain ⟨u,r,l⟩:=hl i x v hN e hv
  have fin:EP X pins σ Q u s:=⟨v,H,I,r,h⟩
  rcases l with ⟨hk,hm⟩ | ⟨hk,c,hc,hcell⟩
  · exact wpAny_Name (wpAny_loadName_local I.ok.kind hk hn hm fin) hd
  · rcases hk with hk | hk
    · exact wpAny_Name (wpAny_loadName_cell I.ok.kind hk hc hcell fin) hd
    · exact wpAny_Name (wpAny_loadName_free I.ok.kind hk hc hcell fin hcd) hd
theorem QaP {i j pos}:PE X (.Constant (.int i) j pos) (tC (.int i)):=fun _ _ _ H _ I h=>wpAny_Constant_int ⟨.int i,H,I.tok _,⟨_,rfl⟩,h⟩
theorem QjV {b j pos}:PE X (.Constant (.bool b) j pos) (tC (.bl b)):=fun _ _ _ H _ I h=>Constant_bool ⟨.bl b,H,I,rfl,h⟩
theorem Qle {j pos}:PE X (.Constant .none j pos) (tC .non):=fun _ _ _ H _ I h=>Constant_none ⟨.non,H,I,rfl,h⟩
theorem QhZ {x j pos}:PE X (.Constant (.str x) j pos) (tC (.str x)):=fun _ _ _ H _ I h=>Calls.Constant_str ⟨.str x,H,I.tok _,⟨_,rfl⟩,h⟩
def Gl (X:Cx) (x:Str):Prop:=X.env.kindOf x=some .globalImplicit
theorem Qct {E:Value->Shared->Prop} {pins:List (Addr×Obj)} {s:Shared} {σ:St} {H:Hp} {x:Str} {u:Value} {pos:Pos} {Q:Value->Shared->Prop} (I:Inv X pins σ H s) (hg:Gl X x) (hm:X.mg x=some u) (h:Q u s)
    (hd:(x == ("__debug__" : Str))=false:=by decide):wpAny (model X.prog X.w) X.A (eval (.Name x pos) X.env) Q E s:=
  Calls.Name_function_global I.ok.kind hg (Calls.loadGlobal_global (by rw [I.ok.glob];exact I.mod.glob.keeps I.bk) hm h) hd
theorem Qcd {E:Value->Shared->Prop} {pins:List (Addr×Obj)} {s:Shared} {σ:St} {H:Hp} {x:Str} {u:Value} {pos:Pos} {Q:Value->Shared->Prop} (I:Inv X pins σ H s) (hg:Gl X x) (hm:X.mg x=none) (hv:bootBuiltins x=some u) (h:Q u s)
    (hn:x ≠ "__name__" := by decide) (hd:(x == ("__debug__" : Str))=false:=by decide):wpAny (model X.prog X.w) X.A (eval (.Name x pos) X.env) Q E s:=by
  obtain ⟨mb,h1,h2⟩:=I.mod.blt
  exact Calls.Name_function_global I.ok.kind hg (Calls.loadGlobal_builtin (by rw [I.ok.glob];exact I.mod.glob.keeps I.bk) hm (by rw [I.ok.blt];exact h1.keeps I.bk) ((h2 x hn).trans hv) h) hd
theorem Qh1 {x:Str} {v:V} {u:Value} {pos:Pos} (hg:Gl X x) (hm:X.mg x=some u) (r:RelV v u) (hd:(x == ("__debug__" : Str))=false:=by decide):PE X (.Name x pos) (tC v):=
  fun _ _ _ H _ I h=>Qct I hg hm ⟨v,H,I,r,h⟩ hd
theorem QaZ {x:Str} {v:V} {u:Value} {pos:Pos} (hg:Gl X x) (hm:X.mg x=none) (hv:bootBuiltins x=some u) (r:RelV v u) (hn:x ≠ "__name__" := by decide) (hd:(x == ("__debug__" : Str))=false:=by decide):PE X (.Name x pos) (tC v):=
  fun _ _ _ H _ I h=>Qcd I hg hm hv ⟨v,H,I,r,h⟩ hn hd
variable {a b:Expr} {ta tb:TE} {pos:Pos}
def PC (X:Cx) (op:CmpOp) (a b:Expr) (t:TE):Prop:=
  ∀ (pins:List (Addr×Obj)) (s:Shared) (σ:St) (H:Hp) (Q:VK),Inv X pins σ H s->t σ H Q ->
    wpAny (model X.prog X.w) X.A (eval a X.env) (fun v s₁=>wpAny (model X.prog X.w) X.A (eval b X.env) (fun u s₂=>wpAny (model X.prog X.w) X.A (compareOp op v u) (EP X pins σ Q) X.xe s₂) X.xe s₁) X.xe s
theorem Qkl (b:Expr) {op:CmpOp} (h:op≠.In) (h2:op≠.NotIn):behindInMarks op b=false:=by
  have e1:(op == CmpOp.In)=false:=by cases op<;>first | rfl | exact absurd rfl h
  have e2:(op == CmpOp.NotIn)=false:=by cases op<;>first | rfl | exact absurd rfl h2
  cases b<;>simp [behindInMarks,e1,e2]
def tB (t:TE):TT:=fun σ H Q=>t σ H fun x H1=>∃ c,x=.bl c/\Q c H1
theorem pt_cmp {op:CmpOp} {t:TE} (h:PC X op a b t) (h1:behindInMarks op b=false:=by first | exact Qkl _ (by decide) (by decide) | rfl):PT X (.Compare a [op] [b] pos) (tB t):=by
  intro pins s σ H Q I hw
  refine wpAny_isTrue_Compare1 (thn (h pins s σ H _ I hw) fun v s1 h1=>thn h1 fun u s2 h2=>thn h2 fun c s3 ⟨x,H1,I1,r1,q1⟩=>?_) h1
  obtain ⟨d,rfl,q⟩:=q1
  cases r1
  exact wpAny_truthy_bool ⟨H1,I1,q⟩
theorem QeI {e:Expr} {t:TE} (h:PE X e t) (he:∀ whole,isTrue e X.env whole=(do let v <- whole;standAt e.pos;holding [v] (truthy v)):=by intro _;rfl):PT X e (tB t):=by
  intro pins s σ H Q I hw
  refine isTrue_plain (thn (h pins s σ H _ I hw) fun v s1 ⟨x,H1,I1,r1,q1⟩=>?_) (he _)
  obtain ⟨d,rfl,q⟩:=q1
  cases r1
  exact wpAny_truthy_bool ⟨H1,I1,q⟩
variable {tA tB':TT} {rest:List Expr}
def tAnd (t u:TT):TT:=fun σ H Q=>t σ H fun c H1=>if c=true then u σ H1 Q else Q false H1
def tOr (t u:TT):TT:=fun σ H Q=>t σ H fun c H1=>if c=true then Q true H1 else u σ H1 Q
def tNot (t:TT):TT:=fun σ H Q=>t σ H fun c H1=>Q (!c) H1
theorem Ql2 (ha:PT X a tA):PW X (.BoolOp .And [a] pos) tA:=by
  intro wh pins s σ H Q I h
  refine isTrue_and (thn (ha pins s σ H Q I h) fun c s1 e=>?_)
  cases c with
  | true=>exact isTrue_and_nil e
  | false=>exact e
theorem QhT (ha:PT X a tA):PW X (.BoolOp .Or [a] pos) tA:=by
  intro wh pins s σ H Q I h
  refine isTrue_or (thn (ha pins s σ H Q I h) fun c s1 e=>?_)
  cases c with
  | false=>exact isTrue_or_nil e
  | true=>exact e
theorem pw_and (ha:PT X a tA) (hb:PW X (.BoolOp .And (b::rest) pos) tB'):PW X (.BoolOp .And (a::b::rest) pos) (tAnd tA tB'):=by
  intro wh pins s σ H Q I h
  refine isTrue_and (thn (ha pins s σ H _ I h) fun c s1 ⟨H1,I1,q1⟩=>?_)
  cases c with
  | true=>exact hb wh pins s1 σ H1 Q I1 q1
  | false=>exact ⟨H1,I1,q1⟩
theorem QjN (ha:PT X a tA) (hb:PW X (.BoolOp .Or (b::rest) pos) tB'):PW X (.BoolOp .Or (a::b::rest) pos) (tOr tA tB'):=by
  intro wh pins s σ H Q I h
  refine isTrue_or (thn (ha pins s σ H _ I h) fun c s1 ⟨H1,I1,q1⟩=>?_)
  cases c with
  | true=>exact ⟨H1,I1,q1⟩
  | false=>exact hb wh pins s1 σ H1 Q I1 q1
theorem Qk6 (ha:PT X a tA):PT X (.UnaryOp .Not a pos) (tNot tA):=by
  intro pins s σ H Q I h
  exact isTrue_not (ha pins s σ H (fun c H1=>Q (!c) H1) I h)
def tAndV (ta tb:TE):TE:=fun σ H Q=>ta σ H fun x H1=>∃ c,x=.bl c/\if c=true then tb σ H1 Q else Q (.bl false) H1
def tNotV (ta:TE):TE:=fun σ H Q=>ta σ H fun x H1=>∃ c,x=.bl c/\Q (.bl (!c)) H1
theorem QeK {op} {t:TE} (h:PE X a t):PE X (.BoolOp op [a] pos) t:=fun pins s σ H Q I hw=>BoolOp_one (h pins s σ H Q I hw)
theorem QeM (ha:PE X a ta) (hb:PE X (.BoolOp .And (b::rest) pos) tb):PE X (.BoolOp .And (a::b::rest) pos) (tAndV ta tb):=by
  intro pins s σ H Q I h
  refine BoolOp_and (thn (ha pins s σ H _ I h) fun v s1 ⟨x,H1,I1,r1,q1⟩=>?_)
  obtain ⟨c,rfl,q1⟩:=q1
  cases r1
  refine wpAny_truthy_bool ?_
  cases c with
  | true=>exact hb pins s1 σ H1 Q I1 q1
  | false=>exact ⟨.bl false,H1,I1,rfl,q1⟩
theorem Qld (ha:PE X a ta):PE X (.UnaryOp .Not a pos) (tNotV ta):=by
  intro pins s σ H Q I h
  refine UnaryOp_ (thn (ha pins s σ H _ I h) fun v s1 ⟨x,H1,I1,r1,q1⟩=>?_)
  obtain ⟨c,rfl,q1⟩:=q1
  cases r1
  exact not_of (wpAny_truthy_bool ⟨.bl (!c),H1,I1,rfl,q1⟩)
def tIf (t:TT) (ta tb:TE):TE:=fun σ H Q=>t σ H fun c H1=>if c=true then ta σ H1 Q else tb σ H1 Q
theorem QjT {c:Expr} (hc:PT X c tA) (ha:PE X a ta) (hb:PE X b tb):PE X (.IfExp c a b pos) (tIf tA ta tb):=by
  intro pins s σ H Q I h
  refine wpAny_IfExp (thn (hc pins s σ H _ I h) fun d s1 ⟨H1,I1,q1⟩=>?_)
  cases d with
  | true=>exact ha pins s1 σ H1 Q I1 q1
  | false=>exact hb pins s1 σ H1 Q I1 q1
end
def SqL (K:PySem.W.Frag) (H:Hp) (a:Addr) (xs:List V):Prop:=
  Rd H a (.lst xs) ∨
    ∃ (o:Obj) (its:Array Value) (n:Nat),K.lookup a=some o/\o.cls=.type "list" /\ o.dict=none/\o.data=.seq its n/\its.size<=sizeLine/\Vals xs its.toList
def SqT (K:PySem.W.Frag) (H:Hp) (a:Addr) (xs:List V):Prop:=
  Rd H a (.tup xs) ∨
    ∃ (o:Obj) (its:Array Value) (n:Nat),K.lookup a=some o/\o.cls=.type "tuple" /\ o.data=.seq its n/\its.size<=sizeLine/\Vals xs its.toList
def absV:Value->Option V
  | .none=>some .non
  | .bool b=>some (.bl b)
  | .int i _=>some (.int i)
  | .str x _=>some (.str x)
  | .bytes b _=>some (.byt b)
  | .float b _=>some (.flt b)
  | .ref a=>some (.ref a)
  | .type n=>some (.ty n)
  | _=>none
theorem RelV.abs {x:V} {u:Value} (r:RelV x u):absV u=some x:=by
  cases x with
  | non=>cases r;rfl
  | bl _=>cases r;rfl
  | int _=>obtain ⟨t,rfl⟩:=r;rfl
  | str _=>obtain ⟨t,rfl⟩:=r;rfl
  | byt _=>obtain ⟨t,rfl⟩:=r;rfl
  | flt _=>obtain ⟨t,rfl⟩:=r;rfl
  | ref _=>cases r;rfl
  | ty _=>cases r;rfl
theorem RelV.inj {x y:V} {u:Value} (r:RelV x u) (q:RelV y u):x=y:=Option.some.inj (r.abs.symm.trans q.abs)
theorem Vals.inj:∀ {xs ys:List V} {us:List Value},Vals xs us->Vals ys us->xs=ys
  | _,_,_,.nil,.nil=>rfl
  | _,_,_,.cons r t,.cons r' t'=>by rw [r.inj r',Vals.inj t t']
section
variable {X:Cx} {pins:List (Addr×Obj)} {σ:St} {H:Hp} {s:Shared} {a:Addr} {xs ys:List V}
theorem SqL.of {K:PySem.W.Frag} (h:H a=some (.lst xs)):SqL K H a xs:=.inl (.inl h)
theorem SqT.of {K:PySem.W.Frag} (h:H a=some (.tup xs)):SqT K H a xs:=.inl (.inl h)
theorem Inv.list (I:Inv X pins σ H s) (h:SqL X.K H a xs):∃ its:List Value,Vals xs its/\PlainL s.heap a its.toArray/\xs.length<=sizeLine:=by
  rcases h with h | ⟨o,its,n,hk,hc,hd,hs,hz,r⟩
  · obtain ⟨z,its,n,r,e⟩:=h.ok I.hok
    exact ⟨its,r,⟨_,n,e,rfl,rfl,rfl⟩,z⟩
  · refine ⟨its.toList,r,⟨o,n,I.kIn a o hk,hc,hd,by simpa using hs⟩,?_⟩
    have e:=r.length
    simp only [Array.length_toList] at e
    omega
theorem Inv.tuple (I:Inv X pins σ H s) (h:SqT X.K H a xs):∃ its:List Value,Vals xs its/\IsTup s.heap a its.toArray/\xs.length<=sizeLine:=by
  rcases h with h | ⟨o,its,n,hk,hc,hs,hz,r⟩
  · obtain ⟨z,its,r,p⟩:=h.ok I.hok
    exact ⟨its,r,p,z⟩
  · refine ⟨its.toList,r,⟨o,I.kIn a o hk,hc,n,by simpa using hs⟩,?_⟩
    have e:=r.length
    simp only [Array.length_toList] at e
    omega
theorem Inv.list_inj (I:Inv X pins σ H s) (h:SqL X.K H a xs) (h':SqL X.K H a ys):xs=ys:=by
  obtain ⟨its,r,⟨o,n,e,_,_,d⟩,_⟩:=I.list h
  obtain ⟨its',r',⟨o',n',e',_,_,d'⟩,_⟩:=I.list h'
  rw [e] at e';cases e'
  rw [d] at d'
  injection d' with d1 _
  have:its=its':=by simpa using congrArg Array.toList d1
  subst this
  exact r.inj r'
theorem Inv.tuple_inj (I:Inv X pins σ H s) (h:SqT X.K H a xs) (h':SqT X.K H a ys):xs=ys:=by
  obtain ⟨its,r,⟨o,e,_,n,d⟩,_⟩:=I.tuple h
  obtain ⟨its',r',⟨o',e',_,n',d'⟩,_⟩:=I.tuple h'
  rw [e] at e';cases e'
  rw [d] at d'
  injection d' with d1 _
  have:its=its':=by simpa using congrArg Array.toList d1
  subst this
  exact r.inj r'
end
abbrev Cx.wish (X:Cx) (E:Value->Shared->Prop):Cx:={ X with xe:=E }
abbrev Cx.nox (X:Cx):Cx:=X.wish fun _ _=>False
theorem Cx.Ok.wish {X:Cx} (ok:X.Ok) (E:Value->Shared->Prop):(X.wish E).Ok:=
  ⟨ok.mod,ok.kind,ok.glob,ok.blt,ok.above,ok.inj,ok.has,ok.cab,ok.hd,ok.frames,ok.stk,ok.exf,ok.bs,ok.bsz,ok.noex,ok.exfs,ok.funs,ok.frf⟩
theorem Cx.Ok.unwish {X:Cx} {E:Value->Shared->Prop} (ok:(X.wish E).Ok):X.Ok:=
  ⟨ok.mod,ok.kind,ok.glob,ok.blt,ok.above,ok.inj,ok.has,ok.cab,ok.hd,ok.frames,ok.stk,ok.exf,ok.bs,ok.bsz,ok.noex,ok.exfs,ok.funs,ok.frf⟩
section
variable {X:Cx} {pins:List (Addr×Obj)} {σ:St} {H:Hp} {s:Shared} {E:Value->Shared->Prop}
theorem Inv.wish (I:Inv X pins σ H s) (E:Value->Shared->Prop):Inv (X.wish E) pins σ H s:=⟨I.ok.wish E,I.os,I.bare,I.base,I.loc,I.cell,I.free,I.freeC,I.pin,I.hok,I.len⟩
theorem Inv.unwish (I:Inv (X.wish E) pins σ H s):Inv X pins σ H s:=⟨I.ok.unwish,I.os,I.bare,I.base,I.loc,I.cell,I.free,I.freeC,I.pin,I.hok,I.len⟩
theorem SP.unwish {D:Ends} {f:Flow} {s':Shared} (h:SP (X.wish E) pins D f s'):SP X pins D f s':=by
  cases f with
  | next=>obtain ⟨σ',H',I,q⟩:=h;exact ⟨σ',H',I.unwish,q⟩
  | brk=>obtain ⟨σ',H',I,q⟩:=h;exact ⟨σ',H',I.unwish,q⟩
  | cont=>obtain ⟨σ',H',I,q⟩:=h;exact ⟨σ',H',I.unwish,q⟩
  | ret u=>obtain ⟨v,σ',H',I,r,q⟩:=h;exact ⟨v,σ',H',I.unwish,r,q⟩
theorem PE.nox {e:Expr} {t:TE} (h:PE X.nox e t):PE X e t:=fun pins s σ H Q I hw=>
  wpAny_mono (h pins s σ H Q (I.wish _) hw) (fun _ _ ⟨v,H',I',r,q⟩=>⟨v,H',I'.unwish,r,q⟩) fun _ _ z=>False.elim z
theorem PT.nox {e:Expr} {t:TT} (h:PT X.nox e t):PT X e t:=fun pins s σ H Q I hw=>
  wpAny_mono (h pins s σ H Q (I.wish _) hw) (fun _ _ ⟨H',I',q⟩=>⟨H',I'.unwish,q⟩) fun _ _ z=>False.elim z
theorem PSs.nox {st:List Stmt} {t:TS} (h:PSs X.nox st t):PSs X st t:=fun pins s σ H D I hw=>
  wpAny_mono (h pins s σ H D (I.wish _) hw) (fun _ _ q=>q.unwish) fun _ _ z=>False.elim z
end
section
variable {X:Cx} {st:Stmt} {rest:List Stmt} {t u:TS} {e:Expr} {te:TE} {pos:Pos}
def tNext:TS:=fun D σ H=>D.nx σ H
def tSeq (t u:TS):TS:=fun D σ H=>t { D with nx:=u D } σ H
theorem QbX:PSs X [] tNext:=fun _ _ σ H _ I h=>wpAny_execs_nil ⟨σ,H,I,h⟩
theorem Qaw (h1:PS X st t) (h2:PSs X rest u):PSs X (st::rest) (tSeq t u):=by
  intro pins s σ H D I h
  refine wpAny_execs_cons (thn (h1 pins s σ H { D with nx:=u D } I h) fun f s1 q=>?_)
  cases f with
  | next=>
    obtain ⟨σ',H',I',q⟩:=q
    exact h2 pins s1 σ' H' D I' q
  | ret v=>exact q
  | brk=>exact q
  | cont=>exact q
theorem QaX (h1:PS X st t):PSs X [st] t:=by
  intro pins s σ H D I h
  refine wpAny_execs_cons (thn (h1 pins s σ H D I h) fun f s1 q=>?_)
  cases f with
  | next=>exact wpAny_execs_nil q
  | ret v=>exact q
  | brk=>exact q
  | cont=>exact q
theorem Inv.quiet {pins:List (Addr×Obj)} {σ:St} {H:Hp} {s:Shared} (I:Inv X pins σ H s):interactive X.env=false:=by simp [interactive,I.ok.kind]
def Qhm (te:TE):TS:=fun D σ H=>te σ H fun _ H1=>D.nx σ H1
theorem Qd0 (he:PE X e te) (hs:swapsWith e none pos.line X.env=pure false:=by rfl):PS X (.Expr e pos) (Qhm te):=by
  intro pins s σ H D I h
  exact wpAny_Expr_any (thn (he pins s σ H _ I h) fun v s1 ⟨x,H1,I1,r1,q1⟩=>⟨σ,H1,I1,q1⟩) I.quiet hs
def tRet (te:TE):TS:=fun D σ H=>te σ H D.rt
theorem Qbh (he:PE X e te):PS X (.Return (some e) pos) (tRet te):=by
  intro pins s σ H D I h
  exact wpAny_Return_some (thn (he pins s σ H _ I h) fun v s1 ⟨x,H1,I1,r1,q1⟩=>⟨x,σ,H1,I1,r1,q1⟩)
def tIfS (c:TT) (t u:TS):TS:=fun D σ H=>c σ H fun b H1=>if b=true then t D σ H1 else u D σ H1
theorem Qfp {c:Expr} {a b:List Stmt} {tc:TT} (hc:PT X c tc) (ha:PSs X a t) (hb:PSs X b u):PS X (.If c a b pos) (tIfS tc t u):=by
  intro pins s σ H D I h
  refine wpAny_If (thn (hc pins s σ H _ I h) fun d s1 ⟨H1,I1,q1⟩=>?_)
  cases d with
  | true=>exact ha pins s1 σ H1 D I1 q1
  | false=>exact hb pins s1 σ H1 D I1 q1
end
abbrev TG:=V->St->Hp->(St->Hp->Prop)->Prop
abbrev TGs:=List V->St->Hp->(St->Hp->Prop)->Prop
def PG (X:Cx) (target:Expr) (t:TG):Prop:=
  ∀ (pins:List (Addr×Obj)) (s:Shared) (σ:St) (H:Hp) (v:V) (u:Value) (Q:St->Hp->Prop),Inv X pins σ H s->RelV v u->t v σ H Q ->
    wpAny (model X.prog X.w) X.A (assign target X.env u) (fun _ s'=>∃ σ' H',Inv X pins σ' H' s'/\Q σ' H') X.xe s
def PGs (X:Cx) (ts:List Expr) (t:TGs):Prop:=
  ∀ (pins:List (Addr×Obj)) (s:Shared) (σ:St) (H:Hp) (vs:List V) (us:List Value) (Q:St->Hp->Prop),Inv X pins σ H s->Vals vs us->t vs σ H Q ->
    wpAny (model X.prog X.w) X.A (assignInOrder ((assignEach ts X.env).map (·.2)) us) (fun _ s'=>∃ σ' H',Inv X pins σ' H' s'/\Q σ' H') X.xe s
abbrev TSet:=V->V->V->Hp->(Hp->Prop)->Prop
def PSet (X:Cx) (t:TSet):Prop:=
  ∀ (pins:List (Addr×Obj)) (s:Shared) (σ:St) (H:Hp) (o i v:V) (ov iv u:Value) (Q:Hp->Prop),Inv X pins σ H s->RelV o ov->RelV i iv->RelV v u->t o i v H Q ->
    wpAny (model X.prog X.w) X.A (setItem ov iv u) (fun _ s'=>∃ H',Inv X pins σ H' s'/\Q H') X.xe s
abbrev TIp:=V->V->Hp->VK->Prop
def PIp (X:Cx) (op:Operator) (t:TIp):Prop:=
  ∀ (pins:List (Addr×Obj)) (s:Shared) (σ:St) (H:Hp) (x y:V) (v u:Value) (Q:VK),Inv X pins σ H s->RelV x v->RelV y u->t x y H Q ->
    wpAny (model X.prog X.w) X.A (inplaceOp op v u) (EP X pins σ Q) X.xe s
section
variable {X:Cx} {pos:Pos}
def QcK (i:Nat):TG:=fun v σ H Q=>Q (σ.set i (some v)) H
theorem Qc3 {i:Nat} {x:Str} (hN:X.N.Nodup) (hi:X.N[i]? = some x) (hx:Loc X.env.scope x) (hf:X.fn x=true∨X.env.scope.names.lookup x=some .local:=by first | exact .inl rfl | exact .inr rfl | assumption):PG X (.Name x pos) (QcK i):=by
  intro pins s σ H v u Q I r h
  exact wpAny_assign_Name (QdP I hN hi hx r (fun s' I'=>⟨_,H,I',h⟩) hf)
def gNil:TGs:=fun vs σ H Q=>vs=[]/\Q σ H
def QkG (t:TG) (u:TGs):TGs:=fun vs σ H Q=>∃ v r,vs=v::r/\t v σ H fun σ' H'=>u r σ' H' Q
theorem QhX:PGs X [] gNil:=by
  intro pins s σ H vs us Q I r h
  obtain ⟨e,h⟩:=h
  subst e
  cases r
  exact assignInOrder_nil ⟨σ,H,I,h⟩
theorem Qd2 {e:Expr} {es:List Expr} {t:TG} {u:TGs} (h1:PG X e t) (h2:PGs X es u)
    (hs:(assignEach (e::es) X.env).map (·.2)=assign e X.env::(assignEach es X.env).map (·.2):=by rfl):PGs X (e::es) (QkG t u):=by
  intro pins s σ H vs us Q I r h
  obtain ⟨v,vr,e1,h⟩:=h
  subst e1
  cases r with
  | cons r rr=>
    rw [hs]
    refine assignInOrder_cons (thn (h1 pins s σ H _ _ _ I r h) fun _ s1 ⟨σ1,H1,I1,q1⟩=>?_)
    exact h2 pins s1 σ1 H1 _ _ Q I1 rr q1
def gTup (K:PySem.W.Frag) (n:Nat) (t:TGs):TG:=fun v σ H Q=>∃ a xs,v=.ref a/\SqT K H a xs/\xs.length=n/\t xs σ H Q
theorem Qlb {es:List Expr} {k:Nat} {t:TGs} {n:Nat} (hc:X.calm=true) (h:PGs X es t)
    (hn:(assignEach es X.env).length=n:=by rfl) (hst:(assignEach es X.env).findIdx? (·.1)=none:=by rfl):PG X (.Tuple es k pos) (gTup X.K n t):=by
  intro pins s σ H v u Q I r hw
  obtain ⟨a,xs,e1,hq,hl,hw⟩:=hw
  subst e1
  cases r
  obtain ⟨its,rv,ht,hz⟩:=I.tuple hq
  refine assign_Tuple_tuple (I.ok.hd hc) ht (by simp [hn,<- hl,rv.length]) hst fun h' hx=>?_
  have I1:Inv X pins σ H { s with heap:=h' }:=I.kept (t':=s.toks) fun b o e=>hx b o (Nat.ne_of_lt (Heap.lt_size e)) e
  exact h pins _ σ H xs _ Q I1 (by simpa using rv) hw
def gSub (to ti:TE) (t:TSet):TG:=fun v σ H Q=>to σ H fun o H1=>ti σ H1 fun i H2=>t o i v H2 fun H3=>Q σ H3
theorem pg_sub {o i:Expr} {to ti:TE} {t:TSet} (ho:PE X o to) (hi:PE X i ti) (hs:PSet X t)
    (ha:∀ v,assign (.Subscript o i pos) X.env v=(do
      let ov <- holding [v] (eval o X.env)
      let iv <- holding [v,ov] (eval i X.env)
      standAt pos
      holding [v,ov,iv] (setItem ov iv v)
      release [v,ov,iv] []):=by intro _;rfl):PG X (.Subscript o i pos) (gSub to ti t):=by
  intro pins s σ H v u Q I r h
  rw [ha]
  refine wpAny_bind (wpAny_holding (thn (ho pins s σ H _ I h) fun ov s1 ⟨x,H1,I1,r1,q1⟩=>?_))
  refine wpAny_bind (wpAny_holding (thn (hi pins s1 σ H1 _ I1 q1) fun iv s2 ⟨y,H2,I2,r2,q2⟩=>?_))
  refine wpAny_bind (wpAny_standAt (wpAny_bind (wpAny_holding (thn (hs pins s2 σ H2 x y v ov iv u _ I2 r1 r2 r q2) fun _ s3 ⟨H3,I3,q3⟩=>?_))))
  exact wpAny_release ⟨σ,H3,I3,q3⟩
def tAsg (te:TE) (g:TG):TS:=fun D σ H=>te σ H fun x H1=>g x σ H1 D.nx
theorem Qk8 {tg e:Expr} {te:TE} {g:TG} (he:PE X e te) (hg:PG X tg g) (hs:swapsWithSole [tg] e pos.line X.env=pure false:=by rfl) (hw:swappedStores [tg] e X.env=pure none:=by rfl)
    (h1:(assignEach [tg] X.env).map (·.2)=[assign tg X.env]:=by rfl):PS X (.Assign [tg] e pos) (tAsg te g):=by
  intro pins s σ H D I h
  refine wpAny_Assign_stores (thn (he pins s σ H _ I h) fun v s1 ⟨x,H1,I1,r1,q1⟩=>?_) hs hw
  rw [h1]
  exact thn (hg pins s1 σ H1 x v _ I1 r1 q1) fun _ s2 q=>q
theorem Qa8 {i:Nat} {x:Str} {e:Expr} {te:TE} {pos':Pos} (hN:X.N.Nodup) (hi:X.N[i]? = some x) (hx:Loc X.env.scope x) (he:PE X e te) (hs:swapsWith e (some (.Name x pos')) pos.line X.env=pure false:=by rfl) (hf:X.fn x=true∨X.env.scope.names.lookup x=some .local:=by first | exact .inl rfl | exact .inr rfl | assumption) :
    PS X (.Assign [.Name x pos'] e pos) (tAsg te (QcK i)):=by
  intro pins s σ H D I h
  refine wpAny_Assign_Name (thn (he pins s σ H _ I h) fun v s1 ⟨y,H1,I1,r1,q1⟩=>?_) hs
  exact QdP I1 hN hi hx r1 (fun s2 I2=>⟨_,H1,I2,q1⟩) hf
def tAugS (to ti te:TE) (tget:V->V->Hp->VK->Prop) (tip:TIp) (tset:TSet):TS:=fun D σ H=>to σ H fun o H1=>ti σ H1 fun i H2=>tget o i H2 fun x H3=>te σ H3 fun y H4=>tip x y H4 fun z H5=>tset o i z H5 fun H6=>D.nx σ H6
def PGet (X:Cx) (t:V->V->Hp->VK->Prop):Prop:=
  ∀ (pins:List (Addr×Obj)) (s:Shared) (σ:St) (H:Hp) (o i:V) (ov iv:Value) (Q:VK),Inv X pins σ H s->RelV o ov->RelV i iv->t o i H Q ->
    wpAny (model X.prog X.w) X.A (getItem ov iv) (EP X pins σ Q) X.xe s
theorem Ql4 {o i e:Expr} {to ti te:TE} {tget:V->V->Hp->VK->Prop} {tip:TIp} {tset:TSet} {op:Operator} {tpos:Pos} (ho:PE X o to) (hi:PE X i ti) (hg:PGet X tget) (he:PE X e te) (hp:PIp X op tip) (hs:PSet X tset)
    (ha:∀ ov iv new,augStore i ov iv new=(do holding [new,ov,iv] (setItem ov iv new);release [new,ov,iv] [];pure .next):=by intros;rfl):PS X (.AugAssign (.Subscript o i tpos) op e pos) (tAugS to ti te tget tip tset):=by
  intro pins s σ H D I h
  refine wpAny_AugAssign_SubscriptAny (thn (ho pins s σ H _ I h) fun ov s1 ⟨x1,H1,I1,r1,q1⟩=>?_) ha
  refine thn (hi pins s1 σ H1 _ I1 q1) fun iv s2 ⟨x2,H2,I2,r2,q2⟩=>?_
  refine thn (hg pins s2 σ H2 x1 x2 ov iv _ I2 r1 r2 q2) fun old s3 ⟨x3,H3,I3,r3,q3⟩=>?_
  refine thn (he pins s3 σ H3 _ I3 q3) fun v s4 ⟨x4,H4,I4,r4,q4⟩=>?_
  refine thn (hp pins s4 σ H4 x3 x4 old v _ I4 r3 r4 q4) fun new s5 ⟨x5,H5,I5,r5,q5⟩=>?_
  exact thn (hs pins s5 σ H5 x1 x2 x5 ov iv new _ I5 r1 r2 r5 q5) fun _ s6 ⟨H6,I6,q6⟩=>⟨σ,H6,I6,q6⟩
def ipI (f:Int->Int->Int):TIp:=fun x y H Q=>∃ i j,x=.int i/\y=.int j/\Q (.int (f i j)) H
theorem ip_add:PIp X .Add (ipI fun i j=>i+j):=by
  intro pins s σ H x y v u Q I r1 r2 h
  obtain ⟨i,j,e1,e2,q⟩:=h
  subst e1;subst e2
  obtain ⟨t,rfl⟩:=r1
  obtain ⟨t',rfl⟩:=r2
  exact iadd_int ⟨.int _,H,I.tok _,⟨_,rfl⟩,q⟩
end
section
variable {X:Cx} {pos:Pos}
end
structure It where
  go:Nat->Hp->Prop
  yld:Nat->Hp->V->Hp->Prop
  stop:Nat->Hp->Prop
def FpOk (X:Cx) (pins:List (Addr×Obj)) (H:Hp) (b:Addr):Prop:=
  H b=none/\b≠X.env.locals/\b∉X.fs/\(b∈X.ex∨X.s₀.heap.objs.size<=b)/\(∀ x c,X.env.cells.lookup x=some c->c≠b)/\∀ p∈X.pn++pins,p.1≠b
theorem Inv.fpOk {X:Cx} {pins:List (Addr×Obj)} {σ:St} {H H':Hp} {s:Shared} {b:Addr} (I:Inv X pins σ H s) (hb:s.heap.objs.size<=b) (hn:H' b=none):FpOk X pins H' b:=by
  refine ⟨hn,Nat.ne_of_gt (Nat.lt_of_lt_of_le I.lt hb),I.nofs hb,.inr (Nat.le_trans I.sz hb),fun x c e z=>?_,fun p hp z=>?_⟩
  · obtain ⟨v,q⟩:=I.cell x c e
    exact absurd (Nat.lt_of_lt_of_le q.lt (by rw [z];exact hb)) (Nat.lt_irrefl _)
  · exact absurd (Nat.lt_of_lt_of_le (Heap.lt_size (I.pin p hp).1) (by rw [z];exact hb)) (Nat.lt_irrefl _)
structure Turn (P:Program) (w:World) (K:PySem.W.Frag) (tg:Expr) (J:It) (fp:List Addr) (it:Addr) (tn:Nat->Heap->Prop):Prop where
  mem:it∈fp
  obj:∀ i h,tn i h->∀ b∈fp,∃ o,h.get? b=some o/\∀ v,o.data≠.cell v
  keep:∀ i h h',tn i h->(∀ b∈fp,∀ o,h.get? b=some o->h'.get? b=some o)->tn i h'
  item:∀ (X:Cx),X.prog=P->X.w=w->X.K=K->X.calm=true->∀ (i:Nat) (pins:List (Addr×Obj)) (s:Shared) (σ:St) (H:Hp) (E:Value->Shared->Prop),Inv X pins σ H s->(∀ b∈fp,FpOk X pins H b)->tn i s.heap->J.go i H ->
    wpAny (model P w) X.A (pyNext (.ref it)) (fun r s1=>∃ u,r=some u /\
      wpAny (model P w) X.A (letOwnedTupleGo tg (.ref it) u) (fun _ s2=>∃ x H',Inv X pins σ H' s2/\RelV x u/\J.yld i H x H'/\tn (i+1) s2.heap/\∀ b∈fp,H' b=none) E s1) E s
  done:∀ (X:Cx),X.prog=P->X.w=w->X.K=K->X.calm=true->∀ (i:Nat) (pins:List (Addr×Obj)) (s:Shared) (σ:St) (H:Hp) (E:Value->Shared->Prop),Inv X pins σ H s->(∀ b∈fp,FpOk X pins H b)->tn i s.heap->J.stop i H ->
    wpAny (model P w) X.A (pyNext (.ref it)) (fun r s1=>r=none/\Inv X pins σ H s1) E s
  self:∀ (A:Around) (i:Nat) (s:Shared) (Q:Value->Shared->Prop) (E:Value->Shared->Prop),tn i s.heap->Q (.ref it) s->wpAny (model P w) A (pyIter (.ref it)) Q E s
abbrev TI:=St->Hp->(It->Hp->Prop)->Prop
def PIE (X:Cx) (pins:List (Addr×Obj)) (σ:St) (tg:Expr) (R:It->Hp->Prop) (itv:Value) (s2:Shared):Prop:=
  ∃ (it:Addr) (fp:List Addr) (tn:Nat->Heap->Prop) (J:It) (H':Hp),itv=.ref it/\Inv X pins σ H' s2/\Turn X.prog X.w X.K tg J fp it tn/\tn 0 s2.heap/\(∀ b∈fp,FpOk X pins H' b)/\R J H'
def PI (X:Cx) (tg iter:Expr) (wi:TI):Prop:=
  ∀ (pins:List (Addr×Obj)) (s:Shared) (σ:St) (H:Hp) (R:It->Hp->Prop),Inv X pins σ H s->wi σ H R ->
    wpAny (model X.prog X.w) X.A (eval iter X.env) (fun v s1=>wpAny (model X.prog X.w) X.A (pyIter v) (PIE X pins σ tg R) X.xe s1) X.xe s
theorem QkD {M:Model} {A:Around} {E:Value->Shared->Prop} {s:Shared} {tg:Expr} {it:Addr} {u:Value} {o:Obj} {n:String} {vs:Array Value} {Q:Unit->Shared->Prop} (ho:s.heap.get? it=some o) (hc:o.cls=.type n) (hd:o.data=.fields vs)
    (hn:["enumerate", "zip", "dict_itemiterator", "dict_reverseitemiterator", "odict_iterator", "itertools.zip_longest", "itertools.pairwise"].contains n=false) (hQ:Q () s):wpAny M A (letOwnedTupleGo tg (.ref it) u) Q E s:=by
  unfold letOwnedTupleGo
  cases tg<;>first
    | exact wpAny_pure hQ
    | (cases u<;>first
        | exact wpAny_pure hQ
        | (refine wpAny_bind (wpAny_load ho ?_)
           rw [hc,hd]
           show wpAny M A (if (["enumerate", "zip", "dict_itemiterator", "dict_reverseitemiterator", "odict_iterator", "itertools.zip_longest", "itertools.pairwise"].contains n&&vs[0]? == some (rawInt _))=true then _ else _) Q E s
           rw [if_neg (by intro h;rw [hn,Bool.false_and] at h;cases h)]
           exact wpAny_pure hQ))
def Itl (K:PySem.W.Frag) (a:Addr):It:=
  ⟨fun i H=>∃ xs x,SqL K H a xs/\xs[i]? = some x,fun i H x H'=>H'=H/\∀ xs,SqL K H a xs->xs[i]? = some x,fun i H=>∃ xs,SqL K H a xs/\xs.length<=i⟩
def Itt (K:PySem.W.Frag) (a:Addr):It:=
  ⟨fun i H=>∃ xs x,SqT K H a xs/\xs[i]? = some x,fun i H x H'=>H'=H/\∀ xs,SqT K H a xs->xs[i]? = some x,fun i H=>∃ xs,SqT K H a xs/\xs.length<=i⟩
def Itr (lo:Int) (n:Nat):It:=⟨fun i _=>i<n,fun i H x H'=>H'=H/\x=.int (lo+i),fun i _=>n<=i⟩
theorem Qhg {P:Program} {w:World} {K:PySem.W.Frag} {tg:Expr} (a it:Addr):Turn P w K tg (Itl K a) [it] it (fun i h=>h.IsListIter it a i) where
  mem:=by simp
  obj:=fun i h st b hb=>by
    have e:b=it:=by simpa using hb
    subst e
    obtain ⟨o,e,c,d⟩:=st
    exact ⟨o,e,fun v z=>by rw [d] at z;cases z⟩
  keep:=fun i h h' st k=>st.at fun o e=>k it (by simp) o e
  item:=by
    intro X hP hw hK hc i pins s σ H E I hf st hg
    subst hP hw hK
    obtain ⟨xs,x,hq,hx⟩:=hg
    obtain ⟨its,rv,p,hz⟩:=I.list hq
    obtain ⟨u,hu,ru⟩:=rv.get hx
    obtain ⟨f0,f1,f2,f3,f4,f5⟩:=hf it (by simp)
    refine wpAny_pyNext_list_item st p.isList (x:=u) (by simpa using hu) fun h' st' sb=>?_
    have I1:Inv X pins σ H { s with heap:=h' }:=I.turned (t':=s.toks) (fun b o hb e=>(sb.2 b hb).trans e) f0 f1 f3 f4 f5
    obtain ⟨o,e,c,d⟩:=id st'
    exact ⟨u,rfl,QkD (s:={ s with heap:=h' }) e c d (by decide) ⟨x,H,I1,ru,⟨rfl,fun ys hy=>by rw [I.list_inj hy hq];exact hx⟩,st',fun b hb=>(hf b hb).1⟩⟩
  done:=by
    intro X hP hw hK hc i pins s σ H E I hf st hg
    subst hP hw hK
    obtain ⟨xs,hq,hx⟩:=hg
    obtain ⟨its,rv,p,hz⟩:=I.list hq
    obtain ⟨f0,f1,f2,f3,f4,f5⟩:=hf it (by simp)
    have hl:=rv.length
    exact wpAny_pyNext_list_end (I.ok.hd hc) st p.isList (by simp;omega) fun h' eb=>⟨rfl,I.turned (t':=s.toks) (fun b o hb e=>eb b o hb e) f0 f1 f3 f4 f5⟩
  self:=fun _ _ _ _ _ st h=>wpAny_pyIter_listiter st h
theorem QgH {P:Program} {w:World} {K:PySem.W.Frag} {tg:Expr} (a it:Addr):Turn P w K tg (Itt K a) [it] it (fun i h=>h.IsTupleIter it a i) where
  mem:=by simp
  obj:=fun i h st b hb=>by
    have e:b=it:=by simpa using hb
    subst e
    obtain ⟨o,e,c,d⟩:=st
    exact ⟨o,e,fun v z=>by rw [d] at z;cases z⟩
  keep:=fun i h h' st k=>st.at fun o e=>k it (by simp) o e
  item:=by
    intro X hP hw hK hc i pins s σ H E I hf st hg
    subst hP hw hK
    obtain ⟨xs,x,hq,hx⟩:=hg
    obtain ⟨its,rv,p,hz⟩:=I.tuple hq
    obtain ⟨u,hu,ru⟩:=rv.get hx
    obtain ⟨f0,f1,f2,f3,f4,f5⟩:=hf it (by simp)
    refine wpAny_pyNext_tuple_item st (show s.heap.IsTuple a its.toArray from p) (x:=u) (by simpa using hu) fun h' st' sb=>?_
    have I1:Inv X pins σ H { s with heap:=h' }:=I.turned (t':=s.toks) (fun b o hb e=>(sb.2 b hb).trans e) f0 f1 f3 f4 f5
    obtain ⟨o,e,c,d⟩:=id st'
    exact ⟨u,rfl,QkD (s:={ s with heap:=h' }) e c d (by decide) ⟨x,H,I1,ru,⟨rfl,fun ys hy=>by rw [I.tuple_inj hy hq];exact hx⟩,st',fun b hb=>(hf b hb).1⟩⟩
  done:=by
    intro X hP hw hK hc i pins s σ H E I hf st hg
    subst hP hw hK
    obtain ⟨xs,hq,hx⟩:=hg
    obtain ⟨its,rv,p,hz⟩:=I.tuple hq
    obtain ⟨f0,f1,f2,f3,f4,f5⟩:=hf it (by simp)
    have hl:=rv.length
    exact wpAny_pyNext_tuple_end (I.ok.hd hc) st (show s.heap.IsTuple a its.toArray from p) (by simp;omega) fun h' eb=>⟨rfl,I.turned (t':=s.toks) (fun b o hb e=>eb b o hb e) f0 f1 f3 f4 f5⟩
  self:=fun _ _ _ _ _ st h=>wpAny_pyIter_tupleiter st h
theorem QgI {P:Program} {w:World} {K:PySem.W.Frag} {tg:Expr} (it:Addr) (lo:Int) (n:Nat):Turn P w K tg (Itr lo n) [it] it (fun i h=>IsRangeIter h it (lo+(i:Nat)*1) ((n:Int) - (i:Nat)) 1) where
  mem:=by simp
  obj:=fun i h st b hb=>by
    have e:b=it:=by simpa using hb
    subst e
    exact ⟨_,st,fun v z=>by
      have z':Data.fields _=Data.cell v:=z
      cases z'⟩
  keep:=fun i h h' st k=>k it (by simp) _ st
  item:=by
    intro X hP hw hK hc i pins s σ H E I hf st hg
    subst hP hw hK
    obtain ⟨f0,f1,f2,f3,f4,f5⟩:=hf it (by simp)
    have W:=Walks.range (prog:=X.prog) (w:=X.w) (I.ok.hd hc) it lo 1 n
    refine W.item i s _ _ hg st fun v h' tk hv st' kk=>?_
    obtain ⟨t,rfl⟩:=hv
    have I1:Inv X pins σ H { s with heap:=h',toks:=tk }:=I.turned (fun b o hb e=>kk b o (by simpa using hb) e) f0 f1 f3 f4 f5
    refine ⟨_,rfl,QkD (s:={ s with heap:=h',toks:=tk }) (n := "range_iterator") st' rfl rfl (by decide) ⟨.int (lo+i),H,I1,⟨t,?_⟩,⟨rfl,rfl⟩,st',fun b hb=>(hf b hb).1⟩⟩
    rw [Int.mul_one]
  done:=by
    intro X hP hw hK hc i pins s σ H E I hf st hg
    subst hP hw hK
    obtain ⟨f0,f1,f2,f3,f4,f5⟩:=hf it (by simp)
    exact wpAny_pyNext_range_end (I.ok.hd hc) st (by have:n<=i:=hg;omega) fun h' eb=>⟨rfl,I.turned (t':=s.toks) (fun b o hb e=>eb b o hb e) f0 f1 f3 f4 f5⟩
  self:=fun _ _ _ _ _ st h=>wpAny_pyIter_rangeiter st h
section
variable {X:Cx} {tg:Expr}
def iList (K:PySem.W.Frag) (tl:TE):TI:=fun σ H R=>tl σ H fun x H1=>∃ a,x=.ref a/\(∃ xs,SqL K H1 a xs)/\R (Itl K a) H1
def iTup (K:PySem.W.Frag) (tl:TE):TI:=fun σ H R=>tl σ H fun x H1=>∃ a,x=.ref a/\(∃ xs,SqT K H1 a xs)/\R (Itt K a) H1
theorem Qma {l:Expr} {tl:TE} (hl:PE X l tl):PI X tg l (iList X.K tl):=by
  intro pins s σ H R I h
  refine thn (hl pins s σ H _ I h) fun v s1 ⟨x,H1,I1,r1,q1⟩=>?_
  obtain ⟨a,e,⟨xs,hq⟩,q⟩:=q1
  subst e
  cases r1
  obtain ⟨its,rv,p,hz⟩:=I1.list hq
  refine wpAny_pyIter_list p.isList ?_
  refine ⟨s1.heap.objs.size,[s1.heap.objs.size],_,_,H1,rfl,I1.kept (t':=s1.toks) fun b o e=>Heap.get?_push_of_some _ e,Qhg a _,⟨_,Heap.get?_push_size _ rfl,rfl,rfl⟩,fun b hb=>?_,q⟩
  have e:b=s1.heap.objs.size:=by simpa using hb
  subst e
  exact I1.fpOk (Nat.le_refl _) (I1.hok.fresh (Nat.le_refl _))
theorem pi_tup {l:Expr} {tl:TE} (hl:PE X l tl):PI X tg l (iTup X.K tl):=by
  intro pins s σ H R I h
  refine thn (hl pins s σ H _ I h) fun v s1 ⟨x,H1,I1,r1,q1⟩=>?_
  obtain ⟨a,e,⟨xs,hq⟩,q⟩:=q1
  subst e
  cases r1
  obtain ⟨its,rv,p,hz⟩:=I1.tuple hq
  refine wpAny_pyIter_tuple (show s1.heap.IsTuple a its.toArray from p) ?_
  refine ⟨s1.heap.objs.size,[s1.heap.objs.size],_,_,H1,rfl,I1.kept (t':=s1.toks) fun b o e=>Heap.get?_push_of_some _ e,QgH a _,⟨_,Heap.get?_push_size _ rfl,rfl,rfl⟩,fun b hb=>?_,q⟩
  have e:b=s1.heap.objs.size:=by simpa using hb
  subst e
  exact I1.fpOk (Nat.le_refl _) (I1.hok.fresh (Nat.le_refl _))
theorem QjI {pins:List (Addr×Obj)} {σ:St} {H:Hp} {s:Shared} {R:It->Hp->Prop} {E:Value->Shared->Prop} {lo hi:Int} {t u v:Tok} {tk:Nat} (I:Inv X pins σ H s) (h1 : -(2^62)<=lo) (h2:lo<2^62) (h3 : -(2^62)<=hi) (h4:hi<2^62)
    (q:R (Itr lo (hi - lo).toNat) H):wpAny (model X.prog X.w) X.A (pyIter (.ref s.heap.objs.size)) (PIE X pins σ tg R) E { s with heap:=s.heap.push { cls:=.type "range",data:=.fields #[.int lo t,.int hi u,.int 1 v] },toks:=tk }:=by
  refine wpAny_pyIter_range (IsRange.new ..) (small_one h1 h2 h3 h4) ?_
  have I1:Inv X pins σ H { s with heap:=s.heap.push { cls:=.type "range",data:=.fields #[.int lo t,.int hi u,.int 1 v] },toks:=tk }:=I.kept fun b o e=>Heap.get?_push_of_some _ e
  refine ⟨(s.heap.push { cls:=.type "range",data:=.fields #[.int lo t,.int hi u,.int 1 v] }).objs.size,[(s.heap.push { cls:=.type "range",data:=.fields #[.int lo t,.int hi u,.int 1 v] }).objs.size],_,_,H,rfl,
    I1.kept (t':=tk) fun b o e=>Heap.get?_push_of_some _ e,QgI _ lo (hi - lo).toNat,?_,fun b hb=>?_,q⟩
  · have e1:lo+((0:Nat):Int)*1=lo:=by simp
    have e2:(((hi - lo).toNat:Nat):Int) - ((0:Nat):Int)=Builtin.Range.rangeSize lo hi 1:=by rw [rangeSize_one];split<;>omega
    show IsRangeIter _ _ (lo+((0:Nat):Int)*1) ((((hi - lo).toNat:Nat):Int) - ((0:Nat):Int)) 1
    rw [e1,e2]
    exact Heap.get?_push_size _ rfl
  · have e:b=(s.heap.push { cls:=.type "range",data:=.fields #[.int lo t,.int hi u,.int 1 v] }).objs.size:=by simpa using hb
    subst e
    exact I1.fpOk (Nat.le_refl _) (I1.hok.fresh (Nat.le_refl _))
def iRng1 (ta:TA):TI:=fun σ H R=>ta σ H fun vs H1=>∃ j:Int,vs=[.int j] /\ -(2^62)<=j/\j<2^62/\R (Itr 0 j.toNat) H1
theorem QeJ {a:Expr} {ta:TA} {p pos:Pos} (hg:Gl X "range") (hm:X.mg "range" = none) (ha:PA X [a] ta) (hs:starEach [a] X.env=[(false,eval a X.env)]:=by rfl):PI X tg (.Call (.Name "range" p) [a] [] pos) (iRng1 ta):=by
  intro pins s σ H R I h
  refine Call_ (Qcd I hg hm boot_range (PyProof.Rows.callWith_type1 (thn (ha pos pins s σ H _ I h) fun us s1 ⟨vs,H1,I1,r1,q1⟩=>?_) hs rfl))
  obtain ⟨j,e,q1,q2,q⟩:=q1
  subst e
  cases r1 with
  | cons r rr=>
    cases rr
    obtain ⟨t,rfl⟩:=r
    exact call_range_1 (QjI I1 (by omega) (by omega) q1 q2 (by simpa using q))
def tFor (wi:TI) (g:TG) (tb:TS):TS:=fun D σ H=>wi σ H fun J H1=>∃ W:Nat->Nat->St->Hp->Prop,(∃ m,W 0 m σ H1)/\∀ i m σ H,W i m σ H ->
  (J.stop i H/\D.nx σ H)∨(J.go i H/\∃ N:St->Hp->Prop,(∀ σ' H',N σ' H'->∃ m',m'<m/\W (i+1) m' σ' H')/\∀ x H',J.yld i H x H'->g x σ H' fun σ2 H2=>tb { D with nx:=N,ct:=N,bk:=D.nx } σ2 H2)
def Qgb (fp:List Addr) (h:Heap):List (Addr×Obj):=fp.filterMap fun b=>(h.get? b).map fun o=>(b,o)
theorem QbK {fp:List Addr} {h:Heap} {b:Addr} {o:Obj} (hb:b∈fp) (e:h.get? b=some o):(b,o)∈Qgb fp h:=List.mem_filterMap.mpr ⟨b,hb,by rw [e];rfl⟩
theorem Qir {fp:List Addr} {h:Heap} {p:Addr×Obj} (hp:p∈Qgb fp h):p.1∈fp/\h.get? p.1=some p.2:=by
  obtain ⟨b,hb,e⟩:=List.mem_filterMap.mp hp
  cases q:h.get? b with
  | none=>rw [q] at e;cases e
  | some o=>
    rw [q] at e
    have e':(b,o)=p:=Option.some.inj e
    subst e'
    exact ⟨hb,q⟩
theorem Inv.pinned {pins:List (Addr×Obj)} {σ:St} {H:Hp} {s:Shared} {fp:List Addr} (I:Inv X pins σ H s) (hf:∀ b∈fp,FpOk X pins H b) (ho:∀ b∈fp,∃ o,s.heap.get? b=some o/\∀ v,o.data≠.cell v):Inv X (pins++Qgb fp s.heap) σ H s:=
  I.pins_of fun p hp=>(List.mem_append.mp hp).elim (fun z=>I.pin p (List.mem_append_right _ z)) fun z=>by
    obtain ⟨hb,e⟩:=Qir z
    obtain ⟨f0,f1,f2,_⟩:=hf p.1 hb
    obtain ⟨o,e',d⟩:=ho p.1 hb
    rw [e] at e';cases e'
    exact ⟨e,f0,f1,f2,d⟩
theorem Inv.unpinned {pins pl:List (Addr×Obj)} {σ:St} {H:Hp} {s:Shared} (I:Inv X (pins++pl) σ H s):Inv X pins σ H s:=I.pins_of fun p hp=>I.pin p (List.mem_append_right _ (List.mem_append_left _ hp))
theorem Qk7 {iter:Expr} {body:List Stmt} {wi:TI} {g:TG} {tb:TS} {pos:Pos} (hp:PassesOwn (model X.prog X.w) X.A X.env X.xe) (hc:X.calm=true) (hi:PI X tg iter wi) (hg:PG X tg g) (hb:PSs X body tb)
    (hs:∀ x,foldedSetIterable iter X.env x=pure x:=by intro _;rfl):PS X (.For tg iter body [] pos) (tFor wi g tb):=by
  intro pins s σ H D I h
  refine wpAny_For (thn (hi pins s σ H _ I h) fun v s1 h1=>thn h1 fun itv s2 h2=>?_) hs
  obtain ⟨it,fp,tn,J,H2,e,I2,T,st2,f2,W,⟨m0,w0⟩,turn⟩:=h2
  subst e
  have stat:∀ {H':Hp},(∀ b∈fp,H' b=none)->∀ b∈fp,FpOk X pins H' b:=fun hn b hb=>⟨hn b hb,(f2 b hb).2⟩
  refine codeAny_forLoop_any (fun n s'=>∃ i σ' H',Inv X pins σ' H' s'/\tn i s'.heap/\(∀ b∈fp,H' b=none)/\W i n σ' H') ?_ m0 ⟨0,σ,H2,I2,st2,fun b hb=>(f2 b hb).1,w0⟩
  rintro n s3 ⟨i,σ3,H3,I3,st3,fr3,w3⟩
  rcases turn i n σ3 H3 w3 with ⟨stop,qn⟩ | ⟨go,N,hN,step⟩
  · refine wpAny_passesOwn hp (thn (T.done X rfl rfl rfl hc i pins s3 σ3 H3 X.xe I3 (stat fr3) st3 stop) fun r s4 ⟨hr,I4⟩=>?_)
    subst hr
    exact wpAny_execs_nil ⟨σ3,H3,I4,qn⟩
  · refine wpAny_passesOwn hp (thn (T.item X rfl rfl rfl hc i pins s3 σ3 H3 X.xe I3 (stat fr3) st3 go) fun r s4 ⟨u,hr,h4⟩=>?_)
    subst hr
    refine wpAny_passesOwn hp (thn h4 fun _ s5 ⟨x,H5,I5,r5,y5,st5,fr5⟩=>?_)
    have I5':=I5.pinned (stat fr5) (T.obj _ _ st5)
    refine wpAny_passesOwn hp (thn (hg _ s5 σ3 H5 x u _ I5' r5 (step x H5 y5)) fun _ s6 ⟨σ6,H6,I6,q6⟩=>?_)
    refine wpAny_passesOwn hp (thn (hb _ s6 σ6 H6 _ I6 q6) fun f s7 q7=>?_)
    have again:∀ {σ7:St} {H7:Hp},Inv X (pins++Qgb fp s5.heap) σ7 H7 s7->N σ7 H7->∃ m,m<n/\∃ i σ' H',Inv X pins σ' H' s7/\tn i s7.heap/\(∀ b∈fp,H' b=none)/\W i m σ' H':=fun {σ7 H7} I7 n7=>by
      obtain ⟨m',hm,w7⟩:=hN σ7 H7 n7
      refine ⟨m',hm,i+1,σ7,H7,I7.unpinned,T.keep _ _ _ st5 fun b hb o e=>(I7.pin (b,o) (List.mem_append_right _ (List.mem_append_right _ (QbK hb e)))).1,fun b hb=>?_,w7⟩
      obtain ⟨o,e,d⟩:=T.obj _ _ st5 b hb
      exact (I7.pin (b,o) (List.mem_append_right _ (List.mem_append_right _ (QbK hb e)))).2.1
    cases f with
    | next=>obtain ⟨σ7,H7,I7,n7⟩:=q7;exact again I7 n7
    | cont=>obtain ⟨σ7,H7,I7,n7⟩:=q7;exact again I7 n7
    | brk=>obtain ⟨σ7,H7,I7,q7⟩:=q7;exact ⟨σ7,H7,I7.unpinned,q7⟩
    | ret v=>obtain ⟨x7,σ7,H7,I7,r7,q7⟩:=q7;exact ⟨x7,σ7,H7,I7.unpinned,r7,q7⟩
end
theorem QiL {lo:Int} {n:Nat} {g:TG} {tb:TS} {D:Ends} {σ:St} {H:Hp} (Pv:Nat->St->Hp->Prop) (h0:Pv 0 σ H)
    (hs:∀ i σ H,i<n->Pv i σ H->g (.int (lo+i)) σ H fun σ2 H2=>tb { D with nx:=Pv (i+1),ct:=Pv (i+1),bk:=D.nx } σ2 H2) (hd:∀ σ H,Pv n σ H->D.nx σ H) :
    ∃ W:Nat->Nat->St->Hp->Prop,(∃ m,W 0 m σ H)/\∀ i m σ H,W i m σ H ->
      ((Itr lo n).stop i H/\D.nx σ H)∨((Itr lo n).go i H/\∃ N:St->Hp->Prop,(∀ σ' H',N σ' H'->∃ m',m'<m/\W (i+1) m' σ' H')/\∀ x H',(Itr lo n).yld i H x H'->g x σ H' fun σ2 H2=>tb { D with nx:=N,ct:=N,bk:=D.nx } σ2 H2):=by
  refine ⟨fun i m σ H=>m=n - i/\i<=n/\Pv i σ H,⟨n,by simp,Nat.zero_le _,h0⟩,?_⟩
  rintro i m σ H ⟨rfl,hi,p⟩
  by_cases hlt:i<n
  · refine .inr ⟨hlt,Pv (i+1),fun σ' H' p'=>⟨n - (i+1),by omega,rfl,hlt,p'⟩,fun x H' y=>?_⟩
    obtain ⟨e,y⟩:=y
    subst e y
    exact hs i σ _ hlt p
  · have e:i=n:=by omega
    subst e
    exact .inl ⟨Nat.le_refl _,hd σ H p⟩
abbrev R2:=V->V->Hp->VK->Prop
def OpR (X:Cx) (f:Value->Value->Sem Value) (r:R2):Prop:=
  ∀ (pins:List (Addr×Obj)) (s:Shared) (σ:St) (H:Hp) (x y:V) (v u:Value) (Q:VK),Inv X pins σ H s->RelV x v->RelV y u->r x y H Q ->
    wpAny (model X.prog X.w) X.A (f v u) (EP X pins σ Q) X.xe s
def UnR (X:Cx) (f:Value->Sem Value) (r:V->Hp->VK->Prop):Prop:=
  ∀ (pins:List (Addr×Obj)) (s:Shared) (σ:St) (H:Hp) (x:V) (v:Value) (Q:VK),Inv X pins σ H s->RelV x v->r x H Q ->
    wpAny (model X.prog X.w) X.A (f v) (EP X pins σ Q) X.xe s
def CallR (X:Cx) (f:Value) (r:List V->Hp->VK->Prop):Prop:=
  ∀ (pins:List (Addr×Obj)) (s:Shared) (σ:St) (H:Hp) (xs:List V) (us:List Value) (Q:VK),Inv X pins σ H s->Vals xs us->r xs H Q ->
    wpAny (model X.prog X.w) X.A (call f us) (EP X pins σ Q) X.xe s
def TruR (X:Cx) (r:V->Hp->(Bool->Hp->Prop)->Prop):Prop:=
  ∀ (pins:List (Addr×Obj)) (s:Shared) (σ:St) (H:Hp) (x:V) (v:Value) (Q:Bool->Hp->Prop),Inv X pins σ H s->RelV x v->r x H Q ->
    wpAny (model X.prog X.w) X.A (truthy v) (TP X pins σ Q) X.xe s
def tOp (r:R2) (ta tb:TE):TE:=fun σ H Q=>ta σ H fun x H1=>tb σ H1 fun y H2=>r x y H2 Q
def tUn (r:V->Hp->VK->Prop) (ta:TE):TE:=fun σ H Q=>ta σ H fun x H1=>r x H1 Q
def rI (C:Int->Int->Prop) (g:Int->Int->V):R2:=fun x y H Q=>∃ i j,x=.int i/\y=.int j/\C i j/\Q (g i j) H
def rI0 (g:Int->Int->V):R2:=fun x y H Q=>∃ i j,x=.int i/\y=.int j/\Q (g i j) H
def rU (g:Int->V):V->Hp->VK->Prop:=fun x H Q=>∃ i,x=.int i/\Q (g i) H
section
variable {X:Cx} {a b c:Expr} {ta tb tc:TE} {pos:Pos}
theorem binT (ha:PE X a ta) (hb:PE X b tb) {pins:List (Addr×Obj)} {s:Shared} {σ:St} {H:Hp} {R:V->V->Hp->Prop} (I:Inv X pins σ H s)
    (h:ta σ H fun x H1=>tb σ H1 fun y H2=>R x y H2) {Q:Value->Shared->Prop} {f:Value->Value->Sem Value}
    (hf:∀ v u s2 x y H2,Inv X pins σ H2 s2->RelV x v->RelV y u->R x y H2->wpAny (model X.prog X.w) X.A (f v u) Q X.xe s2) :
    wpAny (model X.prog X.w) X.A (eval a X.env) (fun v s₁=>wpAny (model X.prog X.w) X.A (eval b X.env) (fun u s₂=>wpAny (model X.prog X.w) X.A (f v u) Q X.xe s₂) X.xe s₁) X.xe s:=by
  refine thn (ha pins s σ H _ I h) fun v s1 ⟨x,H1,I1,r1,q1⟩=>?_
  refine thn (hb pins s1 σ H1 _ I1 q1) fun u s2 ⟨y,H2,I2,r2,q2⟩=>?_
  exact hf v u s2 x y H2 I2 r1 r2 q2
theorem Qba {op:Operator} {r:R2} (ho:OpR X (binaryOp op) r) (ha:PE X a ta) (hb:PE X b tb):PE X (.BinOp a op b pos) (tOp r ta tb):=by
  intro pins s σ H Q I h
  exact wpAny_BinOp (binT ha hb I h fun v u s2 x y H2 I2 rx ry q=>ho pins s2 σ H2 x y v u Q I2 rx ry q)
theorem pe_un {op:UnaryOp} {r:V->Hp->VK->Prop} (ho:UnR X (unaryOp op) r) (ha:PE X a ta):PE X (.UnaryOp op a pos) (tUn r ta):=by
  intro pins s σ H Q I h
  exact UnaryOp_ (thn (ha pins s σ H _ I h) fun v s1 ⟨x,H1,I1,r1,q1⟩=>ho pins s1 σ H1 x v Q I1 r1 q1)
theorem opI {f:Value->Value->Sem Value} {C:Int->Int->Prop} {g:Int->Int->Int}
    (rule:∀ (i j:Int) (t u:Tok) (s:Shared) (Q:Value->Shared->Prop) (E:Value->Shared->Prop),C i j->Q (.int (g i j) s.toks) { s with toks:=s.toks+1 }->wpAny (model X.prog X.w) X.A (f (.int i t) (.int j u)) Q E s) :
    OpR X f (rI C fun i j=>.int (g i j)):=by
  intro pins s σ H x y v u Q I rx ry h
  obtain ⟨i,j,rfl,rfl,hc,q⟩:=h
  obtain ⟨t,rfl⟩:=rx
  obtain ⟨t',rfl⟩:=ry
  exact rule i j t t' s _ _ hc ⟨.int (g i j),H,I.tok _,⟨_,rfl⟩,q⟩
theorem opI0 {f:Value->Value->Sem Value} {g:Int->Int->Int}
    (rule:∀ (i j:Int) (t u:Tok) (s:Shared) (Q:Value->Shared->Prop) (E:Value->Shared->Prop),Q (.int (g i j) s.toks) { s with toks:=s.toks+1 }->wpAny (model X.prog X.w) X.A (f (.int i t) (.int j u)) Q E s) :
    OpR X f (rI0 fun i j=>.int (g i j)):=by
  intro pins s σ H x y v u Q I rx ry h
  obtain ⟨i,j,rfl,rfl,q⟩:=h
  obtain ⟨t,rfl⟩:=rx
  obtain ⟨t',rfl⟩:=ry
  exact rule i j t t' s _ _ ⟨.int (g i j),H,I.tok _,⟨_,rfl⟩,q⟩
theorem opB0 {f:Value->Value->Sem Value} {g:Int->Int->Bool}
    (rule:∀ (i j:Int) (t u:Tok) (s:Shared) (Q:Value->Shared->Prop) (E:Value->Shared->Prop),Q (.bool (g i j)) s->wpAny (model X.prog X.w) X.A (f (.int i t) (.int j u)) Q E s) :
    OpR X f (rI0 fun i j=>.bl (g i j)):=by
  intro pins s σ H x y v u Q I rx ry h
  obtain ⟨i,j,rfl,rfl,q⟩:=h
  obtain ⟨t,rfl⟩:=rx
  obtain ⟨t',rfl⟩:=ry
  exact rule i j t t' s _ _ ⟨.bl (g i j),H,I,rfl,q⟩
def CPow (i j:Int):Prop:=0<=j/\j<=1000000/\i.natAbs<2^64
def CMul (i j:Int):Prop:=(-(2^64)<i/\i<2^64)∨(-(2^64)<j/\j<2^64)
theorem CMul.ok {i j:Int} (h:CMul i j):IntMulOk i j:=by
  rcases h with ⟨h1,h2⟩ | ⟨h1,h2⟩
  · exact .of_left (intBits_le_64 h1 h2)
  · exact .of_right (intBits_le_64 h1 h2)
theorem Qdx:OpR X (binaryOp .Add) (rI0 fun i j=>.int (i+j)):=opI0 fun _ _ _ _ _ _ _ q=>add_int q
theorem op_sub:OpR X (binaryOp .Sub) (rI0 fun i j=>.int (i - j)):=opI0 fun _ _ _ _ _ _ _ q=>sub_int q
theorem Qdw:OpR X (binaryOp .Mult) (rI CMul fun i j=>.int (i*j)):=opI fun _ _ _ _ _ _ _ hc q=>mul_int q hc.ok
theorem QeN:OpR X (binaryOp .Mod) (rI (fun _ j=>0<j) fun i j=>.int (i % j)):=opI fun i j _ _ _ _ _ hc q=>by
  have h1:(0:Int)<j:=hc
  exact mod_int' (by omega) (by rw [Int.fmod_eq_emod_of_nonneg i (by omega)];exact q)
theorem Qgf:OpR X (binaryOp .Pow) (rI CPow fun i j=>.int (i^j.toNat)):=opI fun _ _ _ _ _ _ _ hc q=>pow_int_small hc.1 hc.2.1 hc.2.2 q
theorem Qic:OpR X (binaryOp .LShift) (rI CPow fun i j=>.int (i*2^j.toNat)):=opI fun _ _ _ _ _ _ _ hc q=>lshift_int_small hc.1 hc.2.1 hc.2.2 q
theorem op_and:OpR X (binaryOp .BitAnd) (rI0 fun i j=>.int (Builtin.bitAnd i j)):=opI0 fun _ _ _ _ _ _ _ q=>and_int q
theorem op_or:OpR X (binaryOp .BitOr) (rI0 fun i j=>.int (Builtin.bitOr i j)):=opI0 fun _ _ _ _ _ _ _ q=>or_int q
theorem unI {f:Value->Sem Value} {g:Int->Int}
    (rule:∀ (i:Int) (t:Tok) (s:Shared) (Q:Value->Shared->Prop) (E:Value->Shared->Prop),Q (.int (g i) s.toks) { s with toks:=s.toks+1 }->wpAny (model X.prog X.w) X.A (f (.int i t)) Q E s) :
    UnR X f (rU fun i=>.int (g i)):=by
  intro pins s σ H x v Q I rx h
  obtain ⟨i,rfl,q⟩:=h
  obtain ⟨t,rfl⟩:=rx
  exact rule i t s _ _ ⟨.int (g i),H,I.tok _,⟨_,rfl⟩,q⟩
theorem un_neg:UnR X (unaryOp .USub) (rU fun i=>.int (-i)):=unI fun _ _ _ _ _ q=>neg_int q
end
def scal:V->V->Bool
  | .non,.non=>true | .non,.int _=>true | .int _,.non=>true | .non,.bl _=>true | .bl _,.non=>true | .non,.str _=>true | .str _,.non=>true
  | .int _,.int _=>true | .bl _,.bl _=>true | .str _,.str _=>true | .byt _,.byt _=>true
  | .int _,.str _=>true | .str _,.int _=>true | .bl _,.str _=>true | .str _,.bl _=>true
  | _,_=>false
def rEq:R2:=fun x y H Q=>scal x y=true/\Q (.bl (decide (x=y))) H
def rNe:R2:=fun x y H Q=>scal x y=true/\Q (.bl (!decide (x=y))) H
theorem QiW {i j:Int}:decide (V.int i=V.int j)=(i == j):=by
  rw [Bool.eq_iff_iff]
  simp
theorem Qlt {i j:Bool}:decide (V.bl i=V.bl j)=(i == j):=by
  rw [Bool.eq_iff_iff]
  simp
theorem QiV {i j:Str}:decide (V.str i=V.str j)=(i == j):=by
  rw [Bool.eq_iff_iff]
  simp
theorem QiX {i j:Array UInt8}:decide (V.byt i=V.byt j)=(i.toList == j.toList):=by
  rw [Bool.eq_iff_iff]
  cases i
  cases j
  simp
section
variable {X:Cx} {a b c:Expr} {ta tb tc:TE} {pos:Pos}
theorem Qaz {pins:List (Addr×Obj)} {σ:St} {H:Hp} {s:Shared} {Q:VK} {k k':Bool} (I:Inv X pins σ H s) (q:Q (.bl k) H) (e:k=k'):EP X pins σ Q (.bool k') s:=by
  subst e
  exact ⟨.bl k,H,I,rfl,q⟩
theorem QmE:OpR X (compareOp .Eq) rEq:=by
  intro pins s σ H x y v u Q I rx ry h
  obtain ⟨hs,q⟩:=h
  cases x with
  | non=>
    cases rx
    cases y with
    | non=>cases ry;exact PySem.EqNone.eq_none_none (Qaz I q (by simp))
    | bl j=>cases ry;exact PySem.EqNone.eq_none_bool (Qaz I q (by simp))
    | int j=>obtain ⟨t',rfl⟩:=ry;exact PySem.EqNone.eq_none_int (Qaz I q (by simp))
    | str j=>obtain ⟨t',rfl⟩:=ry;exact PySem.EqNone.eq_none_str (Qaz I q (by simp))
    | _=>exact absurd (show false=true from hs) Bool.false_ne_true
  | bl i=>
    cases rx
    cases y with
    | non=>cases ry;exact PySem.EqNone.eq_bool_none (Qaz I q (by simp))
    | bl j=>cases ry;exact eq_bool (Qaz I q Qlt)
    | str j=>obtain ⟨t',rfl⟩:=ry;exact PySem.EqMixed.eq_bool_str (Qaz I q (by simp))
    | _=>exact absurd (show false=true from hs) Bool.false_ne_true
  | int i=>
    obtain ⟨t,rfl⟩:=rx
    cases y with
    | non=>cases ry;exact PySem.EqNone.eq_int_none (Qaz I q (by simp))
    | int j=>obtain ⟨t',rfl⟩:=ry;exact eq_int (Qaz I q QiW)
    | str j=>obtain ⟨t',rfl⟩:=ry;exact PySem.EqMixed.eq_int_str (Qaz I q (by simp))
    | _=>exact absurd (show false=true from hs) Bool.false_ne_true
  | str i=>
    obtain ⟨t,rfl⟩:=rx
    cases y with
    | non=>cases ry;exact PySem.EqNone.eq_str_none (Qaz I q (by simp))
    | bl j=>cases ry;exact PySem.EqMixed.eq_str_bool (Qaz I q (by simp))
    | int j=>obtain ⟨t',rfl⟩:=ry;exact PySem.EqMixed.eq_str_int (Qaz I q (by simp))
    | str j=>obtain ⟨t',rfl⟩:=ry;exact eq_str (Qaz I q QiV)
    | _=>exact absurd (show false=true from hs) Bool.false_ne_true
  | byt i=>
    obtain ⟨t,rfl⟩:=rx
    cases y with
    | byt j=>obtain ⟨t',rfl⟩:=ry;exact PySem.W.eq_bytes (Qaz I q QiX)
    | _=>exact absurd (show false=true from hs) Bool.false_ne_true
  | _=>cases y<;>exact absurd (show false=true from hs) Bool.false_ne_true
theorem QmB:OpR X (compareOp .NotEq) rNe:=by
  intro pins s σ H x y v u Q I rx ry h
  obtain ⟨hs,q⟩:=h
  cases x with
  | non=>
    cases rx
    cases y with
    | non=>cases ry;exact PySem.EqNone.ne_none_none (Qaz I q (by simp))
    | bl j=>cases ry;exact PySem.EqNone.ne_none_bool (Qaz I q (by simp))
    | int j=>obtain ⟨t',rfl⟩:=ry;exact PySem.EqNone.ne_none_int (Qaz I q (by simp))
    | str j=>obtain ⟨t',rfl⟩:=ry;exact PySem.EqNone.ne_none_str (Qaz I q (by simp))
    | _=>exact absurd (show false=true from hs) Bool.false_ne_true
  | bl i=>
    cases rx
    cases y with
    | non=>cases ry;exact PySem.EqNone.ne_bool_none (Qaz I q (by simp))
    | bl j=>cases ry;exact ne_bool (Qaz I q (congrArg not Qlt))
    | str j=>obtain ⟨t',rfl⟩:=ry;exact PySem.EqMixed.ne_bool_str (Qaz I q (by simp))
    | _=>exact absurd (show false=true from hs) Bool.false_ne_true
  | int i=>
    obtain ⟨t,rfl⟩:=rx
    cases y with
    | non=>cases ry;exact PySem.EqNone.ne_int_none (Qaz I q (by simp))
    | int j=>obtain ⟨t',rfl⟩:=ry;exact ne_int (Qaz I q (congrArg not QiW))
    | str j=>obtain ⟨t',rfl⟩:=ry;exact PySem.EqMixed.ne_int_str (Qaz I q (by simp))
    | _=>exact absurd (show false=true from hs) Bool.false_ne_true
  | str i=>
    obtain ⟨t,rfl⟩:=rx
    cases y with
    | non=>cases ry;exact PySem.EqNone.ne_str_none (Qaz I q (by simp))
    | bl j=>cases ry;exact PySem.EqMixed.ne_str_bool (Qaz I q (by simp))
    | int j=>obtain ⟨t',rfl⟩:=ry;exact PySem.EqMixed.ne_str_int (Qaz I q (by simp))
    | str j=>obtain ⟨t',rfl⟩:=ry;exact ne_str (Qaz I q (congrArg not QiV))
    | _=>exact absurd (show false=true from hs) Bool.false_ne_true
  | byt i=>
    obtain ⟨t,rfl⟩:=rx
    cases y with
    | byt j=>obtain ⟨t',rfl⟩:=ry;exact PySem.W.ne_bytes (Qaz I q (congrArg not QiX))
    | _=>exact absurd (show false=true from hs) Bool.false_ne_true
  | _=>cases y<;>exact absurd (show false=true from hs) Bool.false_ne_true
theorem QmD:OpR X (compareOp .Lt) (rI0 fun i j=>.bl (decide (i<j))):=opB0 fun _ _ _ _ _ _ _ q=>lt_int q
theorem Qig:OpR X (compareOp .LtE) (rI0 fun i j=>.bl (decide (i<=j))):=opB0 fun _ _ _ _ _ _ _ q=>le_int q
theorem op_gt:OpR X (compareOp .Gt) (rI0 fun i j=>.bl (decide (j<i))):=opB0 fun _ _ _ _ _ _ _ q=>gt_int q
theorem op_ge:OpR X (compareOp .GtE) (rI0 fun i j=>.bl (decide (j<=i))):=opB0 fun _ _ _ _ _ _ _ q=>ge_int q
theorem op_isN:OpR X (compareOp .Is) (fun x y H Q=>y=.non/\Q (.bl (decide (x=.non))) H):=by
  intro pins s σ H x y v u Q I rx ry h
  obtain ⟨rfl,q⟩:=h
  cases ry
  refine is_none_gen (Qaz I q ?_)
  cases x<;>first
    | (cases rx;rfl)
    | (obtain ⟨t,rfl⟩:=rx;rfl)
def isObj:HO->Bool
  | .lst _=>true
  | .ins _ _ _=>true
  | _=>false
theorem obj_there {pins:List (Addr×Obj)} {s:Shared} {σ:St} {H:Hp} {a:Addr} {o:HO} (I:Inv X pins σ H s) (h:H a=some o) (p:isObj o=true):∃ ob,s.heap.get? a=some ob/\ob.cls≠.type "tuple" := by
  cases o with
  | lst xs=>
    obtain ⟨_,its,n,_,e⟩:xs.length<=sizeLine/\∃ (its:List Value) (n:Nat),Vals xs its/\s.heap.get? a=some { cls:=.type "list",data:=.seq its.toArray n }:=I.hok a _ h
    exact ⟨_,e,(by show Value.type "list" ≠ .type "tuple";decide +kernel)⟩
  | ins C dx fs=>
    have x:=I.hok a _ h
    obtain ⟨_,_,_,e,_⟩:=x
    exact ⟨_,e,(by show Value.ref C≠.type "tuple";exact fun z=>by cases z)⟩
  | _=>exact absurd (show false=true from p) Bool.false_ne_true
theorem OpR.or {f:Value->Value->Sem Value} {r r':R2} (h:OpR X f r) (h':OpR X f r'):OpR X f (fun x y H Q=>r x y H Q∨r' x y H Q):=by
  intro pins s σ H x y v u Q I rx ry q
  rcases q with q | q
  · exact h pins s σ H x y v u Q I rx ry q
  · exact h' pins s σ H x y v u Q I rx ry q
theorem QaU (b:Expr) {op:CmpOp} (h:op≠.In:=by decide) (h2:op≠.NotIn:=by decide):behindInMarks op b=false:=by
  have e1:(op == CmpOp.In)=false:=by cases op<;>first | rfl | exact absurd rfl h
  have e2:(op == CmpOp.NotIn)=false:=by cases op<;>first | rfl | exact absurd rfl h2
  cases b<;>simp [behindInMarks,e1,e2]
theorem Qc4 {op:CmpOp} {r:R2} (ho:OpR X (compareOp op) r) (ha:PE X a ta) (hb:PE X b tb) (hm:behindInMarks op b=false):PE X (.Compare a [op] [b] pos) (tOp r ta tb):=by
  intro pins s σ H Q I h
  exact wpAny_Compare1 (binT ha hb I h fun v u s2 x y H2 I2 rx ry q=>ho pins s2 σ H2 x y v u Q I2 rx ry q) hm
def tTest (t:TE):TT:=fun σ H Q=>t σ H fun x H'=>∃ k,x=.bl k/\Q k H'
theorem QbW {op:CmpOp} {r:R2} (ho:OpR X (compareOp op) r) (ha:PE X a ta) (hb:PE X b tb) (hm:behindInMarks op b=false):PT X (.Compare a [op] [b] pos) (tTest (tOp r ta tb)):=by
  intro pins s σ H Q I h
  refine wpAny_isTrue_Compare1 (thn (ha pins s σ H _ I h) fun v s1 ⟨x,H1,I1,r1,q1⟩=>thn (hb pins s1 σ H1 _ I1 q1) fun u s2 ⟨y,H2,I2,r2,q2⟩=>
    thn (ho pins s2 σ H2 x y v u _ I2 r1 r2 q2) fun c s3 ⟨z,H3,I3,r3,k,e,q3⟩=>?_) hm
  subst e
  cases r3
  exact wpAny_truthy_bool ⟨H3,I3,q3⟩
def Qhn (r r':R2) (ta tb tc:TE):TE:=fun σ H Q=>ta σ H fun x H1=>tb σ H1 fun y H2=>r x y H2 fun z H3=>∃ k,z=.bl k /\
  (if k=true then tc σ H3 fun w' H4=>r' y w' H4 Q else Q (.bl false) H3)
theorem QjU {op op':CmpOp} {r r':R2} (ho:OpR X (compareOp op) r) (ho':OpR X (compareOp op') r') (ha:PE X a ta) (hb:PE X b tb) (hc:PE X c tc)
    (hm:lastMarks [op,op'] [b,c]=false:=by with_unfolding_all rfl):PE X (.Compare a [op,op'] [b,c] pos) (Qhn r r' ta tb tc):=by
  intro pins s σ H Q I h
  refine Compare_chain (thn (ha pins s σ H _ I h) fun v s1 ⟨x,H1,I1,r1,q1⟩=>chain_link (thn (hb pins s1 σ H1 _ I1 q1) fun u s2 ⟨y,H2,I2,r2,q2⟩=>
    thn (ho pins s2 σ H2 x y v u _ I2 r1 r2 q2) fun d s3 ⟨z,H3,I3,r3,k,e,q3⟩=>?_)) hm
  subst e
  cases r3
  refine wpAny_truthy_bool ?_
  cases k with
  | false=>exact ite_ff ⟨.bl false,H3,I3,rfl,q3⟩
  | true=>exact ite_tt (chain_last (thn (hc pins s3 σ H3 _ I3 q3) fun w' s4 ⟨z',H4,I4,r4,q4⟩=>ho' pins s4 σ H4 y z' u w' Q I4 r2 r4 q4))
theorem QjP {op op':CmpOp} {r r':R2} (ho:OpR X (compareOp op) r) (ho':OpR X (compareOp op') r') (ha:PE X a ta) (hb:PE X b tb) (hc:PE X c tc)
    (hm:lastMarks [op,op'] [b,c]=false:=by with_unfolding_all rfl):PT X (.Compare a [op,op'] [b,c] pos) (tTest (Qhn r r' ta tb tc)):=by
  intro pins s σ H Q I h
  refine isTrue_chain (thn (ha pins s σ H _ I h) fun v s1 ⟨x,H1,I1,r1,q1⟩=>test_link (thn (hb pins s1 σ H1 _ I1 q1) fun u s2 ⟨y,H2,I2,r2,q2⟩=>
    thn (ho pins s2 σ H2 x y v u _ I2 r1 r2 q2) fun d s3 ⟨z,H3,I3,r3,k,e,q3⟩=>?_)) hm
  subst e
  cases r3
  refine wpAny_truthy_bool ?_
  cases k with
  | false=>
    obtain ⟨k',e',q'⟩:=q3
    cases e'
    exact ite_ff ⟨H3,I3,q'⟩
  | true=>
    refine ite_tt (test_last (thn (hc pins s3 σ H3 _ I3 q3) fun w' s4 ⟨z',H4,I4,r4,q4⟩=>thn (ho' pins s4 σ H4 y z' u w' _ I4 r2 r4 q4) fun d' s5 ⟨z2,H5,I5,r5,k2,e2,q5⟩=>?_))
    subst e2
    cases r5
    exact wpAny_truthy_bool ⟨H5,I5,q5⟩
def TruV (K:PySem.W.Frag) (x:V) (H:Hp) (k:Bool):Prop:=
  match x with
  | .non=>k=false
  | .bl b=>k=b
  | .int i=>k=(i != 0)
  | .str y=>y.length<=sizeLine/\k=((y.length:Int) != 0)
  | .byt y=>y.size<=sizeLine/\k=((y.size:Int) != 0)
  | .ref p=>(∃ xs,SqL K H p xs/\k = !xs.isEmpty)∨(∃ xs,SqT K H p xs/\k = !xs.isEmpty)∨∃ kvs,H p=some (.dK kvs)/\k = !kvs.isEmpty
  | _=>False
theorem QgY {κ:Type} {kvs:List (κ×V)} {vs:List (κ×Value)} (r:KV kvs vs):(!vs.isEmpty) = !kvs.isEmpty:=by
  cases r<;>rfl
theorem QdD {xs:List V} {its:List Value} (r:Vals xs its):(!its.toArray.isEmpty) = !xs.isEmpty:=by
  cases r<;>simp
theorem QdC:(sizeLine:Nat)<2^63:=by rw [sizeLine_eq];decide
theorem tru_ok:TruR X (fun x H Q=>∃ k,TruV X.K x H k/\Q k H):=by
  intro pins s σ H x v Q I rx h
  obtain ⟨k,e,q⟩:=h
  have hl:=QdC
  have hs:sizeLine=16777216:=sizeLine_eq
  cases x with
  | non=>
    cases rx
    have e':k=false:=e
    subst e'
    exact truthy_none ⟨H,I,q⟩
  | bl b=>
    cases rx
    have e':k=b:=e
    subst e'
    exact wpAny_truthy_bool ⟨H,I,q⟩
  | int i=>
    obtain ⟨t,rfl⟩:=rx
    have e':k=(i != 0):=e
    subst e'
    exact PySem.P.truthy_int ⟨H,I,q⟩
  | str y=>
    obtain ⟨t,rfl⟩:=rx
    obtain ⟨hy,e'⟩:y.length<=sizeLine/\k=((y.length:Int) != 0):=e
    subst e'
    exact PySem.P.truthy_str (by omega) ⟨H,I.tok _,q⟩
  | byt y=>
    obtain ⟨t,rfl⟩:=rx
    obtain ⟨hy,e'⟩:y.size<=sizeLine/\k=((y.size:Int) != 0):=e
    subst e'
    exact PySem.W.truthy_bytes (by omega) ⟨H,I.tok _,q⟩
  | ref p=>
    cases rx
    have e':(∃ xs,SqL X.K H p xs/\k = !xs.isEmpty)∨(∃ xs,SqT X.K H p xs/\k = !xs.isEmpty)∨∃ kvs,H p=some (.dK kvs)/\k = !kvs.isEmpty:=e
    rcases e' with ⟨xs,hx,e'⟩ | ⟨xs,hx,e'⟩ | ⟨kvs,hx,e'⟩
    · subst e'
      obtain ⟨its,r,pl,hz⟩:=I.list hx
      have hlen:=r.length
      exact wpAny_truthy_list pl.isList (by simp only [List.size_toArray];omega) ⟨H,I.tok _,by rw [QdD r];exact q⟩
    · subst e'
      obtain ⟨its,r,pl,hz⟩:=I.tuple hx
      have hlen:=r.length
      exact truthy_tuple pl (by simp only [List.size_toArray];omega) ⟨H,I.tok _,by rw [QdD r];exact q⟩
    · subst e'
      obtain ⟨hz,hS,vs,r,m⟩:kvs.length<=sizeLine/\(p == sysModules)=false/\∃ vs,KV kvs vs/\s.heap.DictOf (mixKind X.prog X.w) p vs:=I.hok p _ hx
      have hlen:kvs.length=vs.length:=Paired.length r
      exact wpAny_truthy_dict hS m (by omega) ⟨H,I.tok _,by rw [QgY r];exact q⟩
  | _=>exact (show False from e).elim
theorem QjO (ha:PE X a ta) (he:∀ whole,isTrue a X.env whole=(do let v <- whole;standAt a.pos;holding [v] (truthy v))) :
    PT X a (fun σ H Q=>ta σ H fun x H'=>∃ k,TruV X.K x H' k/\Q k H'):=by
  intro pins s σ H Q I h
  exact isTrue_plain (thn (ha pins s σ H _ I h) fun v s1 ⟨x,H1,I1,r1,q1⟩=>tru_ok pins s1 σ H1 x v Q I1 r1 q1) (he _)
theorem QdK {x:V} {us:List Value} (r:Vals [x] us):∃ u,us=[u]/\RelV x u:=by
  cases r with
  | cons r1 r2=>cases r2;exact ⟨_,rfl,r1⟩
theorem Qff {x y:V} {us:List Value} (r:Vals [x,y] us):∃ u w',us=[u,w']/\RelV x u/\RelV y w':=by
  cases r with
  | cons r1 r2=>
    cases r2 with
    | cons r3 r4=>cases r4;exact ⟨_,_,rfl,r1,r3⟩
theorem Qi6 (hc:X.calm=true):CallR X (.builtin "max") (fun xs H Q=>∃ i j,xs=[.int i,.int j]/\Q (.int (if j > i then j else i)) H):=by
  intro pins s σ H xs us Q I r h
  obtain ⟨i,j,rfl,q⟩:=h
  obtain ⟨u,w',rfl,⟨t,rfl⟩,⟨t',rfl⟩⟩:=Qff r
  refine max_two_ints (I.ok.hd hc) fun h' tk k=>⟨_,H,I.kept k,?_,q⟩
  by_cases hj:j > i
  · rw [if_pos hj,if_pos hj];exact ⟨_,rfl⟩
  · rw [if_neg hj,if_neg hj];exact ⟨_,rfl⟩
theorem QbF (hc:X.calm=true):CallR X (.builtin "min") (fun xs H Q=>∃ i j,xs=[.int i,.int j]/\Q (.int (if j<i then j else i)) H):=by
  intro pins s σ H xs us Q I r h
  obtain ⟨i,j,rfl,q⟩:=h
  obtain ⟨u,w',rfl,⟨t,rfl⟩,⟨t',rfl⟩⟩:=Qff r
  refine min_two_ints (I.ok.hd hc) fun h' tk k=>⟨_,H,I.kept k,?_,q⟩
  by_cases hj:j<i
  · rw [if_pos hj,if_pos hj];exact ⟨_,rfl⟩
  · rw [if_neg hj,if_neg hj];exact ⟨_,rfl⟩
end
structure ObjM (h:Heap) (x dx C:Addr) (mA:Str->Option Value):Prop where
  obj:h.get? x=some (PySem.W.instObj C dx)
  ns:h.Ns1 dx mA
  ne:dx≠x
theorem Qix {h:Heap} {dx:Addr} {mA:Str->Option Value} (n:h.Ns1 dx mA):∃ od,h.get? dx=some od/\∀ name,PySem.W.lookIn name od=some (mA name):=by
  obtain ⟨o,es,ep,ho,hd,hk,_,hm⟩:=n
  refine ⟨o,ho,fun name=>?_⟩
  have e:=hm name
  unfold nsFind findBy at e
  rw [<- Array.find?_toList] at e
  unfold PySem.W.lookIn
  rw [hd]
  dsimp only
  split
  · rename_i y q
    rw [q] at e
    exact congrArg some e
  · rename_i q
    rw [q] at e
    have a:es.toList.any (·.refKey)=false:=by
      rw [List.any_eq_false]
      intro y hy
      obtain ⟨z,t,hkey⟩:=hk y (Array.mem_toList_iff.mp hy)
      simp [DictEntry.refKey,hkey]
    have a':¬ es.toList.any (·.refKey)=true:=by rw [a];exact Bool.false_ne_true
    rw [if_neg a']
    exact congrArg some e
theorem ObjM.look {h:Heap} {x dx C:Addr} {mA:Str->Option Value} (I:ObjM h x dx C mA):∃ od,PySem.W.InstAt h x (PySem.W.instObj C dx) C (some od)/\∀ name,PySem.W.lookIn name od=some (mA name):=
  let ⟨od,ho,hl⟩:=Qix I.ns
  ⟨od,⟨I.obj,rfl,rfl,ho⟩,hl⟩
section
variable {prog:Program} {w:World} {A:Around} {E:Value->Shared->Prop} {s:Shared} {K:PySem.W.Frag} {x dx C f:Addr} {mA:Str->Option Value} {name:Str} {v:Value}
end
section
variable {P:Program} {w:World} {H H':Hp} {h h':Heap} {a C dx:Addr} {fs fs':List (Str×V)}
theorem Qm9 (hok:HOk P w H h) (e:H a=some (.ins C dx fs)):∃ mA,ObjM h a dx C mA/\(∀ f,RelO (fs.lookup f) (mA f))/\PySem.Within mA (fs.map (·.1))/\fs.length<=1000/\H dx=some (.own a):=by
  obtain ⟨d,z,ne,ob,mA,n,r,q⟩:=(show ObjOk P w H h a (.ins C dx fs) from hok a _ e)
  exact ⟨mA,⟨ob,n,ne⟩,r,q,z,d⟩
end
structure Cls (K:PySem.W.Frag) (C:Addr):Prop where
  pg:PySem.W.plainGet K C Str.empty=true
  hd:PySem.W.hasDictIn K C=true
  po:PySem.W.plainOver K C=true
  sa:PySem.W.findIn K (.ref C) "__setattr__" = some (some (.builtin "object.__setattr__"))
theorem Cls.get {K:PySem.W.Frag} {C:Addr} (c:Cls K C) (f:Str):PySem.W.plainGet K C f=true:=c.pg
section
variable {X:Cx} {pins:List (Addr×Obj)} {σ:St} {H:Hp} {s:Shared} {a C dx:Addr} {fs:List (Str×V)} {f:Str} {v:V} {A:Around} {E:Value->Shared->Prop}
theorem Inv.made (I:Inv X pins σ H s):Inv X pins σ (upd (upd H s.heap.objs.size (.own (s.heap.objs.size+1))) (s.heap.objs.size+1) (.ins C s.heap.objs.size []))
    { s with heap:=(s.heap.push PySem.W.emptyDict).push (PySem.W.instObj C s.heap.objs.size) }:=by
  have e1:(s.heap.push PySem.W.emptyDict).get? s.heap.objs.size=some PySem.W.emptyDict:=Heap.get?_push_size s.heap rfl
  have e2:((s.heap.push PySem.W.emptyDict).push (PySem.W.instObj C s.heap.objs.size)).get? (s.heap.objs.size+1)=some (PySem.W.instObj C s.heap.objs.size):=by
    have:=Heap.get?_push_size (s.heap.push PySem.W.emptyDict) (o:=PySem.W.instObj C s.heap.objs.size) rfl
    rwa [Heap.size_push] at this
  have e3:(s.heap.push PySem.W.emptyDict).Ns s.heap.objs.size (fun _=>none):=⟨PySem.W.emptyDict,#[],_,e1,rfl,(fun e he=>absurd he (by simp)),fun _=>rfl⟩
  have I1:=I.laid (a:=s.heap.objs.size) (o:=.own (s.heap.objs.size+1)) (h':=s.heap.push PySem.W.emptyDict) (t':=s.toks) (fun b u q=>Heap.get?_push_of_some _ q) (Nat.le_refl _) ⟨_,e1⟩
  refine I1.laid (a:=s.heap.objs.size+1) (o:=.ins C s.heap.objs.size []) (t':=s.toks) (fun b u q=>Heap.get?_push_of_some _ q) (Nat.le_of_eq (Heap.size_push _ _)) ?_
  have ne:s.heap.objs.size≠s.heap.objs.size+1:=Nat.ne_of_lt (Nat.lt_succ_self _)
  refine ⟨by rw [Qal ne,Qaf],Nat.zero_le _,ne,e2,fun _=>none,(Heap.Ns1.of_empty e3).at fun o q=>Heap.get?_push_of_some _ q,fun _=>True.intro,fun y hy=>absurd rfl hy⟩
end
section
variable {X:Cx} {o e value:Expr} {f:Str} {pos pos' tpos:Pos} {ta tv:TE}
def rAdd:V->V->Hp->VK->Prop:=fun x y H Q=>∃ i j,x=.int i/\y=.int j/\Q (.int (i+j)) H
end
section
variable {X:Cx} {pins:List (Addr×Obj)} {σ:St} {H:Hp} {s:Shared} {A:Around} {E:Value->Shared->Prop} {Q:Value->Shared->Prop} {c:Value} {b:Bool}
inductive TyOf (K:PySem.W.Frag) (H:Hp):V->Value->Prop where
  | non:TyOf K H .non (.type "NoneType")
  | bl (x:Bool):TyOf K H (.bl x) (.type "bool")
  | int (i:Int):TyOf K H (.int i) (.type "int")
  | str (x:Str):TyOf K H (.str x) (.type "str")
  | flt (x:UInt64):TyOf K H (.flt x) (.type "float")
  | lst {a:Addr} {xs:List V} (e:H a=some (.lst xs)):TyOf K H (.ref a) (.type "list")
  | frz {a:Addr} {o:Obj} {xs:List V} (e:H a=some (.frz o (.lst xs))):TyOf K H (.ref a) (.type "list")
  | tup {a:Addr} {xs:List V} (e:H a=some (.tup xs)):TyOf K H (.ref a) (.type "tuple")
  | dK {a:Addr} {kvs:List (Key×V)} (e:H a=some (.dK kvs)):TyOf K H (.ref a) (.type "dict")
  | dT {a:Addr} {kvs:List (List Key×V)} (e:H a=some (.dT kvs)):TyOf K H (.ref a) (.type "dict")
  | ins {a C dx:Addr} {fs:List (Str×V)} (e:H a=some (.ins C dx fs)) (cl:Cls K C) (ha:PySem.W.findIn K (.ref C) "__class__" = some (some (.builtin "object.__class__")))
      (hn:PySem.W.specialIn K (.builtin "object.__class__") "__get__" = some (some (.builtin "getset_descriptor.__get__"))) (htk:PySem.W.takesIn K (.builtin "object.__class__")=some true)
      (hm:PySem.W.mroIn K C (.type "object")=some true):TyOf K H (.ref a) (.ref C)
theorem QiE {x:V} {u t:Value} (I:Inv X pins σ H s) (rx:RelV x u) (ty:TyOf X.K H x t) (e:PySem.W.kitOne X.K t c=some b) (h:∀ tk,Q (.bool b) { s with toks:=tk }) :
    wpAny (model X.prog X.w) A (call (.builtin "isinstance") [u,c]) Q E s:=by
  cases ty with
  | non=>cases (show u=Value.none from rx);exact PySem.W.kia_one PySem.W.kitx_none I.kIn True.intro e (fun z=>nomatch z) h
  | bl y=>cases (show u=Value.bool y from rx);exact PySem.W.kia_one PySem.W.kitx_bool I.kIn True.intro e (fun z=>nomatch z) h
  | int i=>obtain ⟨t,q⟩:=(show ∃ t,u=Value.int i t from rx);cases q;exact PySem.W.kia_one PySem.W.kitx_int I.kIn True.intro e (fun z=>nomatch z) h
  | str y=>obtain ⟨t,q⟩:=(show ∃ t,u=Value.str y t from rx);cases q;exact PySem.W.kia_one PySem.W.kitx_str I.kIn True.intro e (fun z=>nomatch z) h
  | flt y=>obtain ⟨t,q⟩:=(show ∃ t,u=Value.float y t from rx);cases q;exact PySem.W.kia_one PySem.W.kitx_float I.kIn True.intro e (fun z=>nomatch z) h
  | @lst a xs ea=>
    cases (show u=Value.ref a from rx)
    obtain ⟨_,_,n,_,h1⟩:=(show ObjOk X.prog X.w H s.heap a (.lst xs) from I.hok a _ ea)
    exact PySem.W.kia_one PySem.W.kitx_list I.kIn ⟨_,h1,rfl⟩ e (fun z=>nomatch z) h
  | @frz a ob xs ea=>
    cases (show u=Value.ref a from rx)
    obtain ⟨_,_,_,n,_,h1⟩:=(show ObjOk X.prog X.w H s.heap a (.frz ob (.lst xs)) from I.hok a _ ea)
    exact PySem.W.kia_one PySem.W.kitx_list I.kIn ⟨_,h1,rfl⟩ e (fun z=>nomatch z) h
  | @tup a xs ea=>
    cases (show u=Value.ref a from rx)
    obtain ⟨_,_,_,p⟩:=(show ObjOk X.prog X.w H s.heap a (.tup xs) from I.hok a _ ea)
    obtain ⟨o,h1,h2,_⟩:=p
    exact PySem.W.kia_one PySem.W.kitx_tuple I.kIn ⟨o,h1,h2⟩ e (fun z=>nomatch z) h
  | @dK a kvs ea=>
    cases (show u=Value.ref a from rx)
    obtain ⟨_,_,vs,_,p⟩:=(show ObjOk X.prog X.w H s.heap a (.dK kvs) from I.hok a _ ea)
    obtain ⟨o,es,ep,h1,h2,_⟩:=p
    exact PySem.W.kia_one PySem.W.kitx_dict I.kIn ⟨o,h1,h2.1⟩ e (fun z=>nomatch z) h
  | @dT a kvs ea=>
    cases (show u=Value.ref a from rx)
    obtain ⟨_,_,xs,_,o,es,ep,h1,h2,_⟩:=(show ObjOk X.prog X.w H s.heap a (.dT kvs) from I.hok a _ ea)
    exact PySem.W.kia_one PySem.W.kitx_dict I.kIn ⟨o,h1,h2.1⟩ e (fun z=>nomatch z) h
  | @ins a C dx fs ea cl ha hn htk hm=>
    cases (show u=Value.ref a from rx)
    obtain ⟨mA,O,_⟩:=Qm9 I.hok ea
    obtain ⟨od,J,_⟩:=O.look
    exact PySem.W.kia_one (PySem.W.kitx_own (cl.get _) cl.hd ha hn htk hm) I.kIn J e (fun z=>nomatch z) h
end
structure Room (k:Nat) (A:Around):Prop where
  hd:A.handled=none
  dp:A.depth+3*k+5<recursionLimit
  un:A.units+16*k+200<cLine
theorem Room.mono {j k:Nat} {A:Around} (r:Room k A) (h:j<=k):Room j A:=⟨r.hd,by have:=r.dp;omega,by have:=r.un;omega⟩
theorem Room.deeper {k:Nat} {A:Around} (r:Room (k+1) A) (env:Env):Room k (A.deeper env):=
  ⟨r.hd,by have:=r.dp;show A.depth+1+3*k+5<_;omega,by have:=r.un;show A.units+3+16*k+200<_;omega⟩
theorem Room.in1 {k:Nat} {A:Around} (r:Room (k+1) A):Room k A.in1:=
  ⟨r.hd,by have:=r.dp;show A.depth+3*k+5<_;omega,by have:=r.un;show A.units+1+16*k+200<_;omega⟩
theorem Room.depth {k:Nat} {A:Around} (r:Room k A):A.depth<recursionLimit:=by have:=r.dp;omega
theorem Room.units {k:Nat} {A:Around} (r:Room k A):A.units+64<cLine:=by have:=r.un;omega
theorem Room.units0 {k:Nat} {A:Around} (r:Room k A):A.units<cLine:=by have:=r.un;omega
def tNil:TA:=fun _ H Q=>Q [] H
def QcI (ta:TE) (tr:TA):TA:=fun σ H Q=>ta σ H fun x H1=>tr σ H1 fun xs H2=>Q (x::xs) H2
section
variable {X:Cx} {e:Expr} {es:List Expr} {te:TE} {t:TA} {pos:Pos}
theorem Qaq:PA X [] tNil:=fun _ _ _ _ H Q I h=>Calls.spliced_nil ⟨[],H,I,.nil,h⟩
theorem Qae (ha:PE X e te) (hr:PA X es t) (hs:starEach (e::es) X.env=(false,eval e X.env)::starEach es X.env:=by rfl):PA X (e::es) (QcI te t):=by
  intro pos pins s σ H Q I h
  rw [hs]
  show wpAny _ _ (spliced ((false,eval e X.env)::backTo pos (starEach es X.env))) _ _ s
  refine Calls.spliced_cons (thn (ha pins s σ H _ I h) fun u s1 ⟨x,H1,I1,r1,q1⟩=>?_)
  exact thn (hr pos pins s1 σ H1 _ I1 q1) fun us s2 ⟨xs,H2,I2,r2,q2⟩=>⟨x::xs,H2,I2,.cons r1 r2,q2⟩
def tLst (t:TA):TE:=fun σ H Q=>t σ H fun xs H1=>xs.length<=sizeLine/\∀ p,H1 p=none->Q (.ref p) (upd H1 p (.lst xs))
theorem Qlf (h:PA X es t):PE X (.List es pos) (tLst t):=by
  intro pins s σ H Q I hq
  refine wpAny_List_spliced (thn (h pos pins s σ H _ I hq) fun us s1 ⟨xs,H1,I1,r,z,q⟩=>⟨by rw [<- r.length];exact z,?_⟩)
  have hf:H1 s1.heap.objs.size=none:=I1.hok.fresh (Nat.le_refl _)
  refine ⟨.ref s1.heap.objs.size,upd H1 s1.heap.objs.size (.lst xs),I1.laid (t':=s1.toks) (fun b u e=>Heap.get?_push_of_some _ e) (Nat.le_refl _) ?_,rfl,q _ hf⟩
  exact ⟨z,us,0,r,Heap.get?_push_size _ rfl⟩
end
abbrev Sp:=List V->Hp->VK->XK->Prop
abbrev CXT:=List Env->Hp->Shared->XK->Value->Shared->Prop
structure Env0 (P:Program) (w:World) (K:PySem.W.Frag) (mg:Str->Option Value) (base:Heap) (A:Around) (outer:List Env) (s:Shared) (H:Hp):Prop where
  frames:A.frames=some outer
  mod:Mod K mg base
  bs:∀ b o,base.get? b=some o->s.heap.get? b=some o/\H b=none
  bsz:base.objs.size<=s.heap.objs.size
  funs:s.heap.FunFrames base outer
  frf:∀ b∈frs outer,H b=none
  hok:HOk P w H s.heap
  bare:AllBare s.gens
def CE (outer:List Env) (P:Program) (w:World) (H:Hp) (s:Shared) (Q:VK) (u:Value) (s':Shared):Prop:=
  ∃ v H',s'.os=s.os/\AllBare s'.gens/\Un (frs outer) [] H H' s.heap s'.heap/\HOk P w H' s'.heap/\RelV v u/\Q v H'
def CR (CX:CXT) (outer:List Env) (P:Program) (w:World) (H:Hp) (s:Shared) (Q:VK) (E:XK) (r:Result) (s':Shared):Prop:=
  match r with
  | .ok (.ret u)=>CE outer P w H s Q u s'
  | .ok _=>False
  | .error e=>CX outer H s E e s'
structure FnOk (P:Program) (w:World) (K:PySem.W.Frag) (mg:Str->Option Value) (base:Heap) (CX:CXT) (k:Nat) (f:Addr) (fd:FuncData) (ps:List Str) (sp:Sp):Prop where
  len:∀ vs H Q E,sp vs H Q E->vs.length=ps.length
  run:∀ (A:Around) (outer:List Env) (s:Shared) (H:Hp) (args:Args) (us:List Value) (vs:List V) (Q:VK) (E:XK),Room k A->Env0 P w K mg base A outer s H->BindsTo s fd args (ps.zip us)->Vals vs us->sp vs H Q E ->
    codeAny (model P w) A (.call (.ref f) args) (CR CX outer P w H s Q E) s
theorem FnOk.mono {P:Program} {w:World} {K:PySem.W.Frag} {mg:Str->Option Value} {base:Heap} {CX:CXT} {j k:Nat} {f:Addr} {fd:FuncData} {ps:List Str} {sp:Sp} (F:FnOk P w K mg base CX j f fd ps sp) (h:j<=k) :
    FnOk P w K mg base CX k f fd ps sp:=⟨F.len,fun A outer s H args us vs Q E hr=>F.run A outer s H args us vs Q E (hr.mono h)⟩
theorem FnOk.imp {P:Program} {w:World} {K:PySem.W.Frag} {mg:Str->Option Value} {base:Heap} {CX:CXT} {k:Nat} {f:Addr} {fd:FuncData} {ps:List Str} {sp sp':Sp} (F:FnOk P w K mg base CX k f fd ps sp)
    (h:∀ vs H Q E,sp' vs H Q E->sp vs H Q E):FnOk P w K mg base CX k f fd ps sp':=
  ⟨fun vs H Q E q=>F.len vs H Q E (h _ _ _ _ q),fun A outer s H args us vs Q E hr he hb hv hs=>F.run A outer s H args us vs Q E hr he hb hv (h _ _ _ _ hs)⟩
theorem Env0.in1 {P:Program} {w:World} {K:PySem.W.Frag} {mg:Str->Option Value} {base:Heap} {A:Around} {outer:List Env} {s:Shared} {H:Hp} (e:Env0 P w K mg base A outer s H) :
    Env0 P w K mg base A.in1 outer s H:=⟨e.frames,e.mod,e.bs,e.bsz,e.funs,e.frf,e.hok,e.bare⟩
section
variable {X:Cx} {pins:List (Addr×Obj)} {σ:St} {H:Hp} {s s':Shared}
theorem Inv.env0 (I:Inv X pins σ H s):Env0 X.prog X.w X.K X.mg X.base X.A X.stack s H:=
  ⟨I.ok.frames,I.ok.mod,I.bs,Nat.le_trans I.ok.bsz I.sz,I.stack,I.stkFree,I.hok,I.bare⟩
theorem Inv.after {Q:VK} {u:Value} (I:Inv X pins σ H s) (h:CE X.stack X.prog X.w H s Q u s'):EP X pins σ Q u s':=by
  obtain ⟨v,H',os,bare,un,hok,r,q⟩:=h
  obtain ⟨hh,g,d,t,os'⟩:=s'
  obtain rfl:os'=s.os:=os
  exact ⟨v,H',I.call (h':=hh) (g':=g) (d':=d) (t':=t) (ch:=[]) un hok bare (fun b z=>absurd z (by simp)),r,q⟩
end
def Qjv (sp:Sp) (dvs:List V) (E:XK) (t:TA):TE:=fun σ H Q=>t σ H fun vs H1=>sp (vs++dvs) H1 Q E
def Binds (K:PySem.W.Frag) (fd:FuncData) (ps:List Str) (ds:List Value):Prop:=
  ∀ (s:Shared) (us:List Value),K.In s.heap->(us++ds).length=ps.length->BindsTo s fd ⟨us,[]⟩ (ps.zip (us++ds))
theorem Binds.all {K:PySem.W.Frag} {fd:FuncData} {ps:List Str} (h:∀ us:List Value,us.length=ps.length->bindArgs fd ⟨us,[]⟩=pure (ps.zip us)):Binds K fd ps []:=fun s us _ hl=>by
  rw [List.append_nil] at hl ⊢
  exact .of_eq (h us hl)
def QbG (CX:CXT) (X:Cx) (E:XK):Prop:=∀ (pins:List (Addr×Obj)) (σ:St) (H:Hp) (s:Shared) (e:Value) (s':Shared),Inv X pins σ H s->CX X.stack H s E e s'->X.xe e s'
section
variable {X:Cx} {CX:CXT} {k:Nat} {f C:Addr} {fd:FuncData} {ps:List Str} {sp:Sp} {dvs:List V} {ds:List Value} {E:XK} {x m:Str} {p pos apos:Pos} {e o:Expr} {es:List Expr} {ta:TE} {t:TA}
theorem run_fn {pins:List (Addr×Obj)} {σ:St} {H:Hp} {s:Shared} {Q:VK} {us:List Value} {vs:List V} (F:FnOk X.prog X.w X.K X.mg X.base CX k f fd ps sp) (hr:Room k X.A) (hb:Binds X.K fd ps ds) (hd:Vals dvs ds) (hx:QbG CX X E)
    (I:Inv X pins σ H s) (r:Vals vs us) (h:sp (vs++dvs) H Q E):wpAny (model X.prog X.w) X.A (call (.ref f) us) (EP X pins σ Q) X.xe s:=by
  have r2:Vals (vs++dvs) (us++ds):=r.append hd
  have hl:(us++ds).length=ps.length:=by rw [<- r2.length];exact F.len _ _ _ _ h
  refine wpAny_call (codeAny_mono (F.run X.A X.stack s H ⟨us,[]⟩ (us++ds) (vs++dvs) Q E hr I.env0 (hb s us I.kIn hl) r2 h) fun r s' hq=>?_)
  cases r with
  | error e=>exact hx pins σ H s e s' I hq
  | ok fl=>
    cases fl with
    | ret u=>exact I.after hq
    | next=>exact False.elim hq
    | brk=>exact False.elim hq
    | cont=>exact False.elim hq
theorem Qcq (F:FnOk X.prog X.w X.K X.mg X.base CX k f fd ps sp) (hr:Room k X.A) (hg:Gl X x) (hm:X.mg x=some (.ref f)) (hk:PySem.W.keepIn X.K (.ref f)=true) (hb:Binds X.K fd ps ds) (hd:Vals dvs ds) (hx:QbG CX X E)
    (ha:PA X (e::es) t) (hdb:(x == ("__debug__" : Str))=false:=by decide) (he:starEach (e::es) X.env=(false,eval e X.env)::starEach es X.env:=by rfl) (hpl:(backTo pos (starEach es X.env)).any (·.1)=false:=by rfl) :
    PE X (.Call (.Name x p) (e::es) [] pos) (Qjv sp dvs E t):=by
  intro pins s σ H Q I h
  refine wpAny_Call_Name_kw (Qct I hg hm ?_ hdb)
  refine PySem.W.callWith_K (h₀:=X.base) I.ok.mod.kin hk (thn (ha pos pins s σ H _ I h) fun us s1 ⟨vs,H1,I1,r,q⟩=>⟨I1.kIn,?_⟩) he hpl
  exact run_fn F hr hb hd hx I1 r q
end
section
variable {X:Cx} {CX:CXT} {k:Nat} {f C:Addr} {fd:FuncData} {ps ks:List Str} {sp:Sp} {E:XK} {x m:Str} {p pos apos kpos:Pos} {e o:Expr} {es:List Expr} {kws:List Keyword} {te ta:TE} {t tk:TA} {nm:Option Str}
variable {g:List Value->List Value->List Value} {gV:List V->List V->List V}
end
structure FnScope (N P:List Str) (sc:Scope):Prop where
  kind:sc.kind=.function
  co:sc.isCoroutine=false
  gen:sc.isGenerator=false
  nd:N.Nodup
  pre:N.take P.length=P
  par:∀ x∈P,sc.names.lookup x=some .local∨sc.names.lookup x=some .cell
  nofree:∀ y∈sc.names,y.2≠.free
theorem Qe4 {kindOf:Str->Option NameKind} {x:Str}:∀ {binds:List (Str×Value)} {m:Str->Option Value},(∀ v,(x,v)∉binds)->bindL kindOf binds m x=m x
  | [],_,_=>rfl
  | (n,v)::r,m,h=>by
    unfold bindL
    rw [Qe4 fun w hw=>h w (List.mem_cons_of_mem _ hw)]
    split
    · have:x≠n:=by rintro rfl;exact h v List.mem_cons_self
      simp [this]
    · rfl
theorem Qe6 {kindOf:Str->Option NameKind} {x:Str}:∀ {binds:List (Str×Value)} {m:Str->Option Value},(∀ v,(x,v)∉binds)->bindC kindOf binds m x=m x
  | [],_,_=>rfl
  | (n,v)::r,m,h=>by
    unfold bindC
    rw [Qe6 fun w hw=>h w (List.mem_cons_of_mem _ hw)]
    split
    · rfl
    · have:x≠n:=by rintro rfl;exact h v List.mem_cons_self
      simp [this]
theorem Qe5 {kindOf:Str->Option NameKind} {x:Str} {v:Value}:∀ {P:List Str} {vs:List Value} {i:Nat} {m:Str->Option Value},P.Nodup->P[i]? = some x->vs[i]? = some v->kindOf x=some .local ->
    bindL kindOf (P.zip vs) m x=some v
  | [],_,_,_,_,h,_,_=>by simp at h
  | _::_,[],_,_,_,_,h,_=>by simp at h
  | p::P,w::vs,0,m,nd,h1,h2,hk=>by
    simp at h1 h2;subst h1;subst h2
    show bindL kindOf ((p,w)::P.zip vs) m p=_
    unfold bindL
    rw [Qe4 fun v hv=>(List.nodup_cons.mp nd).1 (List.of_mem_zip hv).1,if_pos hk]
    simp
  | p::P,w::vs,i+1,m,nd,h1,h2,hk=>by
    show bindL kindOf ((p,w)::P.zip vs) m x=_
    unfold bindL
    exact Qe5 (i:=i) (List.nodup_cons.mp nd).2 (by simpa using h1) (by simpa using h2) hk
theorem Qe7 {kindOf:Str->Option NameKind} {x:Str} {v:Value}:∀ {P:List Str} {vs:List Value} {i:Nat} {m:Str->Option Value},P.Nodup->P[i]? = some x->vs[i]? = some v->kindOf x≠some .local ->
    bindC kindOf (P.zip vs) m x=some v
  | [],_,_,_,_,h,_,_=>by simp at h
  | _::_,[],_,_,_,_,h,_=>by simp at h
  | p::P,w::vs,0,m,nd,h1,h2,hk=>by
    simp at h1 h2;subst h1;subst h2
    show bindC kindOf ((p,w)::P.zip vs) m p=_
    unfold bindC
    rw [Qe6 fun v hv=>(List.nodup_cons.mp nd).1 (List.of_mem_zip hv).1,if_neg hk]
    simp
  | p::P,w::vs,i+1,m,nd,h1,h2,hk=>by
    show bindC kindOf ((p,w)::P.zip vs) m x=_
    unfold bindC
    exact Qe7 (i:=i) (List.nodup_cons.mp nd).2 (by simpa using h1) (by simpa using h2) hk
def start (N:List Str) (vs:List V):St:=vs.map some++List.replicate (N.length - vs.length) none
def cxOf (CX:CXT) (P:Program) (w:World) (K:PySem.W.Frag) (mg:Str->Option Value) (base:Heap) (N:List Str) (qual:Str) (scope:Scope) (f:Addr) (cd:Value) (A:Around) (outer:List Env) (s:Shared) (H:Hp) (E:XK):Cx where
  prog:=P
  w:=w
  K:=K
  mg:=mg
  base:=base
  A:=A.deeper (envOfC qual scope s.heap.objs.size f cd)
  N:=N
  s₀:=s
  H₀:=H
  env:=envOfC qual scope s.heap.objs.size f cd
  outer:=outer
  stack:=envOfC qual scope s.heap.objs.size f cd::outer
  ex:=[]
  calm:=true
  fn:=fun _=>true
  pn:=[]
  xe:=fun e s'=>wpAny (model P w) (A.deeper (envOfC qual scope s.heap.objs.size f cd)) (leaving (envOfC qual scope s.heap.objs.size f cd) e) (fun _ s''=>CX outer H s E e s'') (fun e' s''=>CX outer H s E e' s'') s'
theorem QgB {sc:Scope} {n:Nat} {x:Str} (h:sc.names.lookup x=some .cell):∃ c,(cellsFrom n sc.names []).lookup x=some c:=by
  have q:=PySem.W.cellsFrom_some sc.names n [] (.inl h)
  exact Option.isSome_iff_exists.mp q
theorem QeS {CX:CXT} {P:Program} {w:World} {K:PySem.W.Frag} {mg:Str->Option Value} {base:Heap} {N ps:List Str} {qual:Str} {scope:Scope} {f:Addr} {cd:Value} {A:Around} {outer:List Env} {s s1:Shared} {H:Hp} {E:XK} {us:List Value} {vs:List V}
    (S:FnScope N ps scope) (hd:A.handled=none) (e0:Env0 P w K mg base A outer s H) (hl:vs.length=ps.length) (r:Vals vs us)
    (x:InCallC s s.heap.objs.size (bindL (envOfC qual scope s.heap.objs.size f cd).kindOf (ps.zip us) fun _=>none) (cellsFrom (s.heap.objs.size+1) scope.names []) (bindC (envOfC qual scope s.heap.objs.size f cd).kindOf (ps.zip us) fun _=>none) s1) :
    Inv (cxOf CX P w K mg base N qual scope f cd A outer s H E) [] (start N vs) H s1:=by
  have hpl:ps.length<=N.length:=by have:=congrArg List.length S.pre;rw [List.length_take] at this;omega
  obtain ⟨h1,tk,rfl,hk⟩:=x.done
  have noA:∀ b:Addr,b∉(cxOf CX P w K mg base N qual scope f cd A outer s H E).ex:=fun b z=>absurd (show b∈([]:List Addr) from z) (by simp)
  refine ⟨⟨e0.mod,S.kind,rfl,rfl,Nat.le_refl _,fun y z c h1 h2=>?_,fun y hy=>?_,fun y c _ h=>?_,fun _=>hd,Around.frames_deeper e0.frames,.inr ⟨rfl,rfl⟩,fun b z=>absurd z (noA b),e0.bs,e0.bsz,fun b _ _=>noA b,fun b z=>absurd z (noA b),e0.funs,e0.frf⟩,
    rfl,e0.bare,Un.kept hk,⟨_,x.toInCall.ns,fun i y v h1 h2 h3=>?_⟩,fun y c h=>⟨_,x.cell y c h⟩,e0.hok.fresh (Nat.le_refl _),fun y c h=>?_,fun p hp=>absurd (show p∈([]:List (Addr×Obj)) from hp) (by simp),e0.hok.kept hk,?_⟩
  · exact name_of_addr x.apart (PySem.mem_of_lookup h1) (PySem.mem_of_lookup h2)
  · have hy:scope.names.lookup y=some .cell∨scope.names.lookup y=some .free:=hy
    rcases hy with hy | hy
    · exact QgB hy
    · exact absurd rfl (S.nofree _ (PySem.mem_of_lookup hy))
  · exact Nat.le_of_lt (x.above y c (PySem.mem_of_lookup h))
  · have hi:i<vs.length:=by
      unfold start at h2
      by_cases hi:i<vs.length
      · exact hi
      · rw [List.getElem?_append_right (by simpa using hi)] at h2
        rw [List.getElem?_replicate] at h2
        split at h2<;>cases h2
    have ha:vs[i]? = some v:=by
      unfold start at h2
      rw [List.getElem?_append_left (by simpa using hi),List.getElem?_map] at h2
      cases e:vs[i]? with
      | none=>rw [e] at h2;cases h2
      | some a=>rw [e] at h2;cases h2;rfl
    obtain ⟨u,hu,rv⟩:=r.get ha
    have hp:ps[i]? = some y:=by
      rw [<- S.pre,List.getElem?_take_of_lt (by omega)];exact h1
    have ndP:ps.Nodup:=by rw [<- S.pre];exact S.nd.sublist (List.take_sublist _ _)
    refine ⟨u,rv,?_⟩
    rcases S.par y (List.mem_of_getElem? hp) with k | k
    · exact .inl ⟨k,Qe5 ndP hp hu k⟩
    · obtain ⟨c,e⟩:=QgB (n:=s.heap.objs.size+1) k
      refine .inr ⟨.inl k,c,e,?_⟩
      have q:=x.cell y c e
      rw [Qe7 ndP hp hu (by show scope.names.lookup y≠_;rw [k];decide)] at q
      exact q
  · exact e0.hok.fresh (Nat.le_of_lt (x.above y c (PySem.mem_of_lookup h)))
  · unfold start
    show _=N.length
    rw [List.length_append,List.length_map,List.length_replicate]
    omega
theorem fn_of {CX:CXT} {P:Program} {w:World} {K:PySem.W.Frag} {mg:Str->Option Value} {base:Heap} {k:Nat} {f:Addr} {name qual:Str} {params:Arguments} {body:List Stmt} {scope:Scope} {dV kV doc pm cdv ct oc:Value} {an od:Option Addr}
    {osl:Array (Option Value)} {N ps:List Str} {sp:Sp} (lk:K.lookup f=some ⟨oc,od,.func (PySem.W.fnOf name qual params body scope dV kV doc pm an cdv ct),osl⟩) (hcd:PySem.W.codeIn K cdv qual=true) (S:FnScope N ps scope)
    (len:∀ vs H Q E,sp vs H Q E->vs.length=ps.length)
    (hbody:∀ (A:Around) (outer:List Env) (s:Shared) (H:Hp) (vs:List V) (Q:VK) (E:XK),Room k (A.deeper (envOfC qual scope s.heap.objs.size f cdv))->sp vs H Q E ->
      ∃ t,PSs (cxOf CX P w K mg base N qual scope f cdv A outer s H E) body t/\t { nx:=fun _ H'=>Q .non H',rt:=Q } (start N vs) H) :
    FnOk P w K mg base CX (k+1) f (PySem.W.fnOf name qual params body scope dV kV doc pm an cdv ct) ps sp:=by
  refine ⟨len,fun A outer s H args us vs Q E hr e0 hb r hsp=>?_⟩
  have hl:=len _ _ _ _ hsp
  have KX:K.In s.heap:=e0.mod.kin.keeps fun b o e=>(e0.bs b o e).1
  have lim:s.heap.NoLimit:=e0.mod.nolimit.keeps fun b o e=>(e0.bs b o e).1
  have hkind:∀ y∈ps.zip us,scope.names.lookup y.1=some .local∨(scope.names.lookup y.1=some .cell/\((cellsFrom (s.heap.objs.size+1) scope.names []).lookup y.1).isSome=true):=fun ⟨n,v⟩ hy=>by
    rcases S.par n (List.of_mem_zip hy).1 with q | q
    · exact .inl q
    · exact .inr ⟨q,PySem.W.cellsFrom_some _ _ _ (.inl q)⟩
  refine codeAny_call_function hr.depth (KX _ _ lk) rfl S.co S.gen rfl (PySem.W.codeRec_of KX hcd) (hb _ _ _ _ ?_)
  refine wpAny_newFunctionEnv_cells S.kind hkind fun env he s1 x=>?_
  subst he
  refine ⟨lim.keeps x.toInCall.keep,codeAny_func ?_⟩
  obtain ⟨t,ht,hq⟩:=hbody A outer s H vs Q E (hr.deeper _) hsp
  have I:Inv (cxOf CX P w K mg base N qual scope f cdv A outer s H E) [] (start N vs) H s1:=QeS S hr.hd e0 hl r x
  refine wpAny_mono (ht [] s1 (start N vs) H _ I hq) (fun fl s' hs=>?_) fun e s' hs=>hs
  have fin:∀ {σ':St} {H':Hp} {v:V} {u:Value},Inv (cxOf CX P w K mg base N qual scope f cdv A outer s H E) [] σ' H' s'->RelV v u->Q v H'->CE outer P w H s Q u s':=
    fun {σ' H' v u} J rv q=>⟨v,H',J.os,J.bare,J.base,J.hok,rv,q⟩
  cases fl with
  | ret u=>
    obtain ⟨v,σ',H',J,rv,q⟩:=hs
    exact fin J rv q
  | next=>
    obtain ⟨σ',H',J,q⟩:=hs
    exact fin (v:=V.non) (u:=Value.none) J rfl q
  | brk=>
    obtain ⟨_,_,_,q⟩:=hs
    exact False.elim q
  | cont=>
    obtain ⟨_,_,_,q⟩:=hs
    exact False.elim q
section
variable {X:Cx} {x:Str} {p pos:Pos} {e:Expr} {es:List Expr} {t:TA} {id T:String} {r:List V->Hp->VK->Prop}
def tCB (r:List V->Hp->VK->Prop) (t:TA):TE:=fun σ H Q=>t σ H fun vs H1=>r vs H1 Q
theorem Qax (hc:CallR X (.builtin id) r) (hg:Gl X x) (hm:X.mg x=none) (hv:bootBuiltins x=some (.builtin id)) (ha:PA X (e::es) t) (hn:x ≠ "__name__" := by decide) (hdb:(x == ("__debug__" : Str))=false:=by decide)
    (he:starEach (e::es) X.env=(false,eval e X.env)::starEach es X.env:=by rfl) (hpl:(backTo pos (starEach es X.env)).any (·.1)=false:=by rfl):PE X (.Call (.Name x p) (e::es) [] pos) (tCB r t):=by
  intro pins s σ H Q I h
  refine wpAny_Call_Name_kw (Qcd I hg hm hv ?_ hn hdb)
  exact PyProof.Rows.callWith_builtin1 (thn (ha pos pins s σ H _ I h) fun us s1 ⟨vs,H1,I1,r1,q1⟩=>hc pins s1 σ H1 vs us Q I1 r1 q1) he hpl
theorem QeL (hc:CallR X (.type T) r) (hg:Gl X x) (hm:X.mg x=none) (hv:bootBuiltins x=some (.type T)) (ha:PA X (e::es) t) (hn:x ≠ "__name__" := by decide) (hdb:(x == ("__debug__" : Str))=false:=by decide)
    (he:starEach (e::es) X.env=(false,eval e X.env)::starEach es X.env:=by rfl) (hpl:(backTo pos (starEach es X.env)).any (·.1)=false:=by rfl):PE X (.Call (.Name x p) (e::es) [] pos) (tCB r t):=by
  intro pins s σ H Q I h
  refine wpAny_Call_Name_kw (Qcd I hg hm hv ?_ hn hdb)
  exact PyProof.Rows.callWith_type1 (thn (ha pos pins s σ H _ I h) fun us s1 ⟨vs,H1,I1,r1,q1⟩=>hc pins s1 σ H1 vs us Q I1 r1 q1) he hpl
end
end L2
namespace HT
open PySem PyProof.Rows
theorem rcLt_int (A:Around) (s:Shared) (a:Int) (t:Tok) (c:Int) (u:Tok) (prog:Program) (w:World) (E:Value->Shared->Prop) (Q:Value->Shared->Prop) (h:Q (.bool (decide (a<c))) s) :
    wpAny (model prog w) A (richCompare .Lt (.int a t) (.int c u)) Q E s:=
  (PyProof.Rows.lt_int h:wpAny (model prog w) A (compareOp .Lt (.int a t) (.int c u)) Q E s)
section
open PySem.SeqAt
open PySem.AutoSeq1 (wpAny_loadPart')
open PySem.MeetsSeq PySem.MeetsSeq2 PySem.MeetsSeq3
end
section
variable {prog:Program} {w:World} {A:Around} {E:Value->Shared->Prop} {s:Shared}
theorem cat_tup {t b:Addr} {vs ws:List Value} {Q:Value->Shared->Prop} (ht:IsTup s.heap t vs.toArray) (hb:IsTup s.heap b ws.toArray) (hv:vs≠[])
    (h1:ws=[]->Q (.ref t) s) (h2:ws≠[]->Q (.ref s.heap.objs.size) { s with heap:=s.heap.push { cls:=.type "tuple",data:=.seq (vs++ws).toArray } })
    (hsz:vs.length+ws.length<=sizeLine):wpAny (model prog w) A (binaryOp .Add (.ref t) (.ref b)) Q E s:=by
  obtain ⟨⟨cls,dd,data,sl⟩,ho,hc,n,hd⟩:=id ht
  obtain ⟨⟨cls2,dd2,data2,sl2⟩,ho2,hc2,n2,hd2⟩:=id hb
  simp only at hc hd hc2 hd2
  subst hc hd hc2 hd2
  have e:vs.toArray++ws.toArray=(vs++ws).toArray:=by simp
  by_cases hw:ws=[]
  · exact concat_meets ⟨_,ho,rfl⟩ ⟨_,ho2,rfl⟩ noFill_tuple_add seq_tuple_add PySem.F.slot_tuple_add PySem.F.entry_tuple_add (PySem.F.args_tuple_add_2 _ _)
      (tuple_addW1 t b vs.toArray ws.toArray n n2 dd dd2 sl sl2 (by simpa using hv) (by simp [hw])) ⟨ho,ho2,h1 hw⟩
  · refine concat_meets ⟨_,ho,rfl⟩ ⟨_,ho2,rfl⟩ noFill_tuple_add seq_tuple_add PySem.F.slot_tuple_add PySem.F.entry_tuple_add (PySem.F.args_tuple_add_2 _ _)
      (tuple_addW2 t b vs.toArray ws.toArray n n2 dd dd2 sl sl2 (by simpa using hv) (by simpa using hw) (by rw [List.size_toArray,List.size_toArray];exact hsz)) ⟨ho,ho2,?_⟩
    rw [e]
    exact h2 hw
def sIx (n d:Nat):Option Int->Nat
  | none=>d
  | some v=>if v<0 then (v+(n:Int)).toNat else min v.toNat n
theorem sIx_none (n d:Nat):sIx n d none=d:=rfl
theorem sIx_nat (n d k:Nat):sIx n d (some (k:Int))=min k n:=by
  show (if (k:Int)<0 then ((k:Int)+(n:Int)).toNat else min (k:Int).toNat n)=min k n
  rw [if_neg (by omega),Int.toNat_natCast]
theorem sIx_le (n d:Nat) (hd:d<=n) (o:Option Int):sIx n d o<=n:=by
  cases o with
  | none=>exact hd
  | some v=>
    show (if v<0 then (v+(n:Int)).toNat else min v.toNat n)<=n
    by_cases hv:v<0
    · rw [if_pos hv];omega
    · rw [if_neg hv];exact Nat.min_le_right _ _
theorem Qi3 (v:Int) (n d:Nat):(if v<0 then max (v+(n:Int)) 0 else min v (n:Int))=((sIx n d (some v):Nat):Int):=by
  show (if v<0 then max (v+(n:Int)) 0 else min v (n:Int))=(((if v<0 then (v+(n:Int)).toNat else min v.toNat n):Nat):Int)
  by_cases hv:v<0
  · simp only [if_pos hv];omega
  · simp only [if_neg hv];omega
theorem Qhb (lo hi:Option Int) (n:Nat):Builtin.Slice.sliceAdjust lo hi 1 (n:Int)=(((sIx n 0 lo:Nat):Int),((sIx n n hi:Nat):Int)):=by
  have h1:¬ ((1:Int)<0):=by omega
  unfold Builtin.Slice.sliceAdjust
  simp only [h1,if_false]
  refine Prod.ext ?_ ?_
  · cases lo with
    | none=>rfl
    | some v=>exact Qi3 v n 0
  · cases hi with
    | none=>rfl
    | some v=>exact Qi3 v n n
theorem QgN (i j:Nat):Builtin.Slice.slicePlaces (i:Int) (j:Int) 1=j - i:=by
  unfold Builtin.Slice.slicePlaces
  have h1:(1:Int) > 0:=by omega
  simp only [h1,if_true,Int.ediv_one]
  split<;>omega
theorem Qdr {v:Value} {o:Option Int} {Q:Option Int->Shared->Prop} (p:IsPart v o) (h:Q o s):wpAny (model prog w) A (Builtin.Slice.slicePartIndex v) Q E s:=by
  cases p with
  | none=>exact slicePart_none h
  | int i t=>exact slicePart_int h
theorem sliceApplied_gen {sl:Addr} {vl vu:Value} {lo hi:Option Int} {n:Nat} {Q:Int×Int×Nat->Shared->Prop} (hs:s.heap.IsSliceOf sl vl vu .none) (pl:IsPart vl lo) (pu:IsPart vu hi)
    (h:Q (((sIx n 0 lo:Nat):Int),1,sIx n n hi - sIx n 0 lo) s):wpAny (model prog w) A (Builtin.Slice.sliceApplied (.ref sl) (pure (n:Int))) Q E s:=by
  obtain ⟨os,hos,hcs,hds⟩:=id hs
  unfold Builtin.Slice.sliceApplied Builtin.Slice.sliceFields
  refine wpAny_bind (wpAny_bind (wpAny_field hos hds (x:=vl) rfl (wpAny_bind (wpAny_field hos hds (x:=vu) rfl (wpAny_bind (wpAny_field hos hds (x:=.none) rfl (wpAny_pure ?_)))))))
  refine wpAny_bind (slicePart_none ?_)
  show wpAny _ _ (if ((1:Int) == 0)=true then _ else _) _ _ s
  rw [if_neg (by decide)]
  refine wpAny_bind (Qdr pl (wpAny_bind (Qdr pu (wpAny_bind (wpAny_pure ?_)))))
  show wpAny _ _ (match Builtin.Slice.sliceAdjust lo hi 1 (n:Int) with | (lo,hi)=>pure (lo,(1:Int),Builtin.Slice.slicePlaces lo hi 1)) _ _ s
  rw [Qhb lo hi n]
  show wpAny _ _ (pure (((sIx n 0 lo:Nat):Int),(1:Int),Builtin.Slice.slicePlaces ((sIx n 0 lo:Nat):Int) ((sIx n n hi:Nat):Int) 1)) _ _ s
  rw [QgN]
  exact wpAny_pure h
theorem QjR (xs:Array Value) (i k:Nat):((List.range k).filterMap fun (m:Nat)=>xs[((i:Int)+(m:Int)*1).toNat]?).toArray=((xs.toList.drop i).take k).toArray:=by
  have e:(fun (m:Nat)=>xs[((i:Int)+(m:Int)*1).toNat]?)=fun m=>xs[i+m]? := by
    funext m
    have:((i:Int)+(m:Int)*1).toNat=i+m:=by omega
    rw [this]
  rw [e]
  have:=pick_run xs i k
  rw [List.filterMap_map] at this
  have e2:((fun x=>xs[x]?)∘fun x=>i+x)=fun m=>xs[i+m]? := rfl
  rw [e2] at this
  rw [this]
theorem getItem_tuple_cut {t sl:Addr} {items:Array Value} {vl vu:Value} {lo hi:Option Int} {Q:Value->Shared->Prop} (ht:IsTup s.heap t items) (hs:s.heap.IsSliceOf sl vl vu .none) (pl:IsPart vl lo) (pu:IsPart vu hi)
    (hw:¬ (sIx items.size 0 lo=0/\sIx items.size items.size hi=items.size))
    (h:Q (.ref s.heap.objs.size) { s with heap:=s.heap.push { cls:=.type "tuple",data:=.seq ((items.toList.drop (sIx items.size 0 lo)).take (sIx items.size items.size hi - sIx items.size 0 lo)).toArray } })
    (hsz:items.size<=sizeLine):wpAny (model prog w) A (getItem (.ref t) (.ref sl)) Q E s:=by
  have htake:sizeOk (.seq ((items.toList.drop (sIx items.size 0 lo)).take (sIx items.size items.size hi - sIx items.size 0 lo)).toArray):=by
    show ((items.toList.drop (sIx items.size 0 lo)).take (sIx items.size items.size hi - sIx items.size 0 lo)).toArray.size<=sizeLine
    rw [List.size_toArray,List.length_take,List.length_drop,Array.length_toList]
    omega
  have hj:sIx items.size items.size hi<=items.size:=sIx_le _ _ (Nat.le_refl _) hi
  obtain ⟨os,hos,hcs,hds⟩:=id hs
  have hTs:s.TypeIs (.ref sl) "slice" := ⟨os,hos,hcs⟩
  unfold getItem
  try with_reducible refine wpAny_holding ?_
  first | refine wpAny_bind (wpAny_pure ?_) | skip
  refine wpAny_bind (wpAny_sequenceKey ht.typeIs (by decide) ?_)
  refine wpAny_bind (wpAny_callSpecial?_slot (name:=Str.ofString "__getitem__") ht.typeIs PyProof.Rows.slot_tuple_getitem
    (wpAny_call_entry PyProof.Rows.slot_tuple_getitem ht.typeIs entry_tuple_getitem ?_ (args_tuple_getitem _ _)))
  show wpAny _ _ (Builtin.Tuple.tupleItemsOf (.ref t) >>= _) _ _ s
  refine wpAny_bind (tupleItemsOf_ ht ?_)
  refine wpAny_bind (wpAny_typeOf hTs ?_)
  rw [if_pos (by decide)]
  refine wpAny_bind (sliceApplied_gen hs pl pu ?_)
  have hno:¬ ((((sIx items.size 0 lo:Nat):Int) == 0&&(1:Int) == 1&&(sIx items.size items.size hi - sIx items.size 0 lo) == items.size)=true):=by
    intro q
    rw [Bool.and_eq_true,Bool.and_eq_true] at q
    have q1:((sIx items.size 0 lo:Nat):Int)=0:=eq_of_beq q.1.1
    have q2:sIx items.size items.size hi - sIx items.size 0 lo=items.size:=eq_of_beq q.2
    exact hw ⟨by omega,by omega⟩
  show wpAny _ _ (if (((sIx items.size 0 lo:Nat):Int) == 0&&(1:Int) == 1&&(sIx items.size items.size hi - sIx items.size 0 lo) == items.size)=true then _ else _) _ _ s
  rw [if_neg hno,QjR]
  first
    | exact wpAny_bind (m:=Builtin.Tuple.tupleExact _) (wpAny_newObj_type (wpAny_pure ⟨_,rfl,wpAny_pure h⟩) htake)
    | exact wpAny_bind (m:=Builtin.Tuple.tupleExact _) (wpAny_newObj_type (wpAny_bind (wpAny_pure (wpAny_pure ⟨_,rfl,wpAny_pure h⟩))) htake)
    | exact wpAny_bind (wpAny_bind (m:=Builtin.Tuple.tupleExact _) (wpAny_newObj_type (wpAny_pure (wpAny_pure ⟨_,rfl,wpAny_pure h⟩)) htake))
    | exact wpAny_bind (wpAny_bind (m:=Builtin.Tuple.tupleExact _) (wpAny_newObj_type (wpAny_pure ⟨_,rfl,wpAny_pure h⟩) htake))
end
end HT
namespace L2
open PySem PySem.Spec PyProof.Rows
abbrev TO:=St->Hp->(Option Int->Hp->Prop)->Prop
def PO (X:Cx) (e:Option Expr) (t:TO):Prop:=
  ∀ (pins:List (Addr×Obj)) (s:Shared) (σ:St) (H:Hp) (Q:Option Int->Hp->Prop),Inv X pins σ H s->t σ H Q ->
    wpAny (model X.prog X.w) X.A (evalPart e X.env) (fun u s'=>∃ o H',Inv X pins σ H' s'/\IsPart u o/\Q o H') X.xe s
def QlI:TO:=fun _ H Q=>Q none H
def tPart (t:TE):TO:=fun σ H Q=>t σ H fun x H1=>∃ i,x=.int i/\Q (some i) H1
section
variable {X:Cx} {e:Expr} {te:TE} {lo hi:Option Expr} {tl th:TO} {pos p2:Pos}
theorem Ql7:PO X none QlI:=by
  intro pins s σ H Q I h
  rw [evalPart_none]
  exact wpAny_pure ⟨none,H,I,.none,h⟩
theorem Ql6 (h:PE X e te):PO X (some e) (tPart te):=by
  intro pins s σ H Q I hw
  rw [evalPart_some]
  refine thn (h pins s σ H _ I hw) fun u s1 ⟨x,H1,I1,r1,q1⟩=>?_
  obtain ⟨i,rfl,q⟩:=q1
  obtain ⟨t,rfl⟩:=r1
  exact ⟨some i,H1,I1,.int i t,q⟩
def SlR (X:Cx) (r:V->Option Int->Option Int->Hp->VK->Prop):Prop:=
  ∀ (pins:List (Addr×Obj)) (s:Shared) (σ:St) (H:Hp) (x:V) (v vl vu:Value) (lo hi:Option Int) (sl:Addr) (Q:VK),Inv X pins σ H s->RelV x v->s.heap.IsSliceOf sl vl vu .none->IsPart vl lo->IsPart vu hi->r x lo hi H Q ->
    ∃ T id,typeLookup (.type T) "__getitem__" = pure (some (.builtin id))/\s.TypeIs v T/\wpAny (model X.prog X.w) X.A (getItem v (.ref sl)) (EP X pins σ Q) X.xe s
theorem SlR.or {r r':V->Option Int->Option Int->Hp->VK->Prop} (h:SlR X r) (h':SlR X r'):SlR X (fun x lo hi H Q=>r x lo hi H Q∨r' x lo hi H Q):=by
  intro pins s σ H x v vl vu lo hi sl Q I rx hs pl pu q
  rcases q with q | q
  · exact h pins s σ H x v vl vu lo hi sl Q I rx hs pl pu q
  · exact h' pins s σ H x v vl vu lo hi sl Q I rx hs pl pu q
def tSl (r:V->Option Int->Option Int->Hp->VK->Prop) (te:TE) (tl th:TO):TE:=fun σ H Q=>te σ H fun x H1=>tl σ H1 fun l H2=>th σ H2 fun u H3=>r x l u H3 Q
theorem QjS {r:V->Option Int->Option Int->Hp->VK->Prop} (hr:SlR X r) (he:PE X e te) (hl:PO X lo tl) (hu:PO X hi th):PE X (.Subscript e (.Slice lo hi none p2) pos) (tSl r te tl th):=by
  intro pins s σ H Q I h
  refine Subscript_ (thn (he pins s σ H _ I h) fun v s1 ⟨x,H1,I1,r1,q1⟩=>?_)
  refine wpAny_Slice (thn (hl pins s1 σ H1 _ I1 q1) fun vl s2 ⟨l,H2,I2,pl,q2⟩=>thn (hu pins s2 σ H2 _ I2 q2) fun vu s3 ⟨u,H3,I3,pu,q3⟩=>?_)
  rw [evalPart_none]
  refine wpAny_pure ?_
  have I4:Inv X pins σ H3 { s3 with heap:=s3.heap.push { cls:=.type "slice",data:=.fields #[vl,vu,.none] } }:=I3.kept (t':=s3.toks) fun b ob q=>Heap.get?_push_of_some _ q
  obtain ⟨T,id,hT,ht,hg⟩:=hr pins { s3 with heap:=s3.heap.push { cls:=.type "slice",data:=.fields #[vl,vu,.none] } } σ H3 x v vl vu l u s3.heap.objs.size Q I4 r1 (Heap.IsSliceOf.new ..) pl pu q3
  show wpAny (model X.prog X.w) X.A (subscriptTail e (.Slice lo hi none p2) v (.ref s3.heap.objs.size)) (EP X pins σ Q) X.xe { s3 with heap:=s3.heap.push { cls:=.type "slice",data:=.fields #[vl,vu,.none] } }
  exact tail_any (ops:=[.ref s3.heap.objs.size,v]) ht hT hg (by with_unfolding_all rfl)
def cutV (xs:List V) (lo hi:Option Int):List V:=(xs.drop (HT.sIx xs.length 0 lo)).take (HT.sIx xs.length xs.length hi - HT.sIx xs.length 0 lo)
theorem Qdk (xs:List V) (lo hi:Option Int):(cutV xs lo hi).length<=xs.length:=by
  unfold cutV
  rw [List.length_take,List.length_drop]
  omega
def rSlT (K:PySem.W.Frag):V->Option Int->Option Int->Hp->VK->Prop:=fun x lo hi H Q=>∃ a xs,x=.ref a/\SqT K H a xs /\
  ¬ (HT.sIx xs.length 0 lo=0/\HT.sIx xs.length xs.length hi=xs.length)/\∀ p,H p=none->Q (.ref p) (upd H p (.tup (cutV xs lo hi)))
theorem sl_tup:SlR X (rSlT X.K):=by
  intro pins s σ H x v vl vu lo hi sl Q I rx hs pl pu h
  obtain ⟨a,xs,rfl,hx,hw,q⟩:=h
  cases rx
  obtain ⟨its,r,ht,hz⟩:=I.tuple hx
  have hlen:its.toArray.size=xs.length:=by rw [List.size_toArray];exact r.length.symm
  refine ⟨"tuple",_,PyProof.Rows.slot_tuple_getitem.lookup,ht.typeIs,?_⟩
  refine HT.getItem_tuple_cut ht hs pl pu (by rw [hlen];exact hw) ?_ (by rw [hlen];exact hz)
  rw [hlen]
  refine ⟨.ref s.heap.objs.size,_,I.laid (t':=s.toks) (o:=.tup (cutV xs lo hi)) (fun b ob q=>Heap.get?_push_of_some _ q) (Nat.le_refl _) ?_,rfl,q _ (I.hok.fresh (Nat.le_refl _))⟩
  exact ⟨Nat.le_trans (Qdk xs lo hi) hz,_,(r.drop (HT.sIx xs.length 0 lo)).take (HT.sIx xs.length xs.length hi - HT.sIx xs.length 0 lo),IsTup.new _ _⟩
def rCatT (K:PySem.W.Frag):R2:=fun x y H Q=>∃ a b xs ys,x=.ref a/\y=.ref b/\SqT K H a xs/\SqT K H b ys/\xs≠[]/\xs.length+ys.length<=sizeLine /\
  (ys=[]->Q (.ref a) H)/\(ys≠[]->∀ p,H p=none->Q (.ref p) (upd H p (.tup (xs++ys))))
theorem Vals.nil_iff {xs:List V} {us:List Value} (r:Vals xs us):us=[]↔xs=[]:=by
  cases r with
  | nil=>simp
  | cons _ _=>simp
theorem QmF:OpR X (binaryOp .Add) (rCatT X.K):=by
  intro pins s σ H x y v u Q I rx ry h
  obtain ⟨a,b,xs,ys,rfl,rfl,ha,hb,hx,hz,q1,q2⟩:=h
  cases rx
  cases ry
  obtain ⟨its,r1,p1,_⟩:=I.tuple ha
  obtain ⟨its2,r2,p2,_⟩:=I.tuple hb
  refine HT.cat_tup p1 p2 (fun z=>hx (r1.nil_iff.mp z)) (fun z=>⟨.ref a,H,I,rfl,q1 (r2.nil_iff.mp z)⟩) (fun z=>?_) (by rw [<- r1.length,<- r2.length];exact hz)
  refine ⟨.ref s.heap.objs.size,_,I.laid (t':=s.toks) (o:=.tup (xs++ys)) (fun b ob q=>Heap.get?_push_of_some _ q) (Nat.le_refl _) ?_,rfl,q2 (fun w=>z (r2.nil_iff.mpr w)) _ (I.hok.fresh (Nat.le_refl _))⟩
  exact ⟨by rw [List.length_append];exact hz,_,r1.append r2,IsTup.new _ _⟩
end
def ixN (n:Nat) (i:Int):Option Nat:=if 0<=i then (if i<n then some i.toNat else none) else if -(n:Int)<=i then some (i+n).toNat else none
def atI {α:Type} (xs:List α) (i:Int):Option α:=(ixN xs.length i).bind fun j=>xs[j]?
theorem QiC {n:Nat} {i:Int} {j:Nat} (h:ixN n i=some j):seqIndex? i n=some j/\j<n /\ -(n:Int)<=i/\i<n:=by
  unfold ixN at h
  by_cases h0:0<=i
  · rw [if_pos h0] at h
    by_cases h1:i<n
    · rw [if_pos h1] at h
      have e:i.toNat=j:=Option.some.inj h
      exact ⟨by rw [seqIndex_of h0 h1,e],by omega,by omega,h1⟩
    · rw [if_neg h1] at h;cases h
  · rw [if_neg h0] at h
    by_cases h1 : -(n:Int)<=i
    · rw [if_pos h1] at h
      have e:(i+n).toNat=j:=Option.some.inj h
      exact ⟨by rw [seqIndex_neg (by omega) h1,e],by omega,h1,by omega⟩
    · rw [if_neg h1] at h;cases h
theorem QfP {α:Type} {xs:List α} {i:Int} {v:α} (h:atI xs i=some v):∃ j,seqIndex? i xs.length=some j/\xs[j]? = some v/\j<xs.length /\ -(xs.length:Int)<=i/\i<xs.length:=by
  unfold atI at h
  cases e:ixN xs.length i with
  | none=>rw [e] at h;cases h
  | some j=>
    rw [e] at h
    obtain ⟨h1,h2,h3,h4⟩:=QiC e
    exact ⟨j,h1,h,h2,h3,h4⟩
theorem Qau {α:Type} {xs:List α} {j:Nat} {v:α} (h:xs[j]? = some v):atI xs (j:Int)=some v:=by
  have hj:j<xs.length:=(List.getElem?_eq_some_iff.mp h).1
  have e:ixN xs.length (j:Int)=some j:=by
    unfold ixN
    rw [if_pos (by omega),if_pos (by omega)];simp
  unfold atI;rw [e];exact h
theorem QkV {α:Type} (xs:List α) (v:α):atI (xs++[v]) (-1)=some v:=by
  have hl:(xs++[v]).length=xs.length+1:=by simp
  have e:ixN (xs++[v]).length (-1)=some xs.length:=by
    unfold ixN
    rw [hl,if_neg (by decide),if_pos (by omega)]
    congr 1
    omega
  unfold atI
  rw [e]
  show (xs++[v])[xs.length]? = some v
  simp
def QfR (b:Expr):Prop:=∀ o i,subscripted b false o i=operate [o,i] (getItem o i)
def IxR (X:Cx) (r:R2):Prop:=
  ∀ (value slice:Expr) (pins:List (Addr×Obj)) (s:Shared) (σ:St) (H:Hp) (x y:V) (v u:Value) (Q:VK),Inv X pins σ H s->RelV x v->RelV y u->r x y H Q ->
    subscripted slice false v u=operate [v,u] (getItem v u)->wpAny (model X.prog X.w) X.A (subscriptTail value slice v u) (EP X pins σ Q) X.xe s
def MtR (X:Cx) (id:String) (r:V->List V->Hp->VK->Prop):Prop:=
  ∀ (pins:List (Addr×Obj)) (s:Shared) (σ:St) (H:Hp) (x:V) (xs:List V) (v:Value) (us:List Value) (Q:VK),Inv X pins σ H s->RelV x v->Vals xs us->r x xs H Q ->
    wpAny (model X.prog X.w) X.A (call (.builtin id) (v::us)) (EP X pins σ Q) X.xe s
section
variable {X:Cx} {a b:Expr} {ta tb:TE} {pos:Pos}
theorem IxR.or {r r':R2} (h:IxR X r) (h':IxR X r'):IxR X (fun x y H Q=>r x y H Q∨r' x y H Q):=by
  intro value slice pins s σ H x y v u Q I rx ry q hs
  rcases q with q | q
  · exact h value slice pins s σ H x y v u Q I rx ry q hs
  · exact h' value slice pins s σ H x y v u Q I rx ry q hs
theorem MtR.or {id:String} {r r':V->List V->Hp->VK->Prop} (h:MtR X id r) (h':MtR X id r'):MtR X id (fun x xs H Q=>r x xs H Q∨r' x xs H Q):=by
  intro pins s σ H x xs v us Q I rx rs q
  rcases q with q | q
  · exact h pins s σ H x xs v us Q I rx rs q
  · exact h' pins s σ H x xs v us Q I rx rs q
theorem Qh0 {r:R2} (hr:IxR X r) (ha:PE X a ta) (hb:PE X b tb) (hs:QfR b):PE X (.Subscript a b pos) (tOp r ta tb):=by
  intro pins s σ H Q I h
  exact Subscript_ (binT ha hb I h fun v u s2 x y H2 I2 rx ry q=>hr a b pins s2 σ H2 x y v u Q I2 rx ry q (hs _ _))
def rIxL (K:PySem.W.Frag):R2:=fun x y H Q=>∃ p xs i v,x=.ref p/\y=.int i/\SqL K H p xs/\atI xs i=some v/\Q v H
def rIxT (K:PySem.W.Frag):R2:=fun x y H Q=>∃ p xs i v,x=.ref p/\y=.int i/\SqT K H p xs/\atI xs i=some v/\Q v H
theorem Qdb:IxR X (rIxL X.K):=by
  intro value slice pins s σ H x y v u Q I rx ry h hs
  obtain ⟨p,xs,i,z,rfl,rfl,hq,he,q⟩:=h
  cases rx
  obtain ⟨t,rfl⟩:=ry
  obtain ⟨its,r,pl,hz⟩:=I.list hq
  obtain ⟨j,h1,h2,h3,h4,h5⟩:=QfP he
  obtain ⟨w,ew,rw'⟩:=r.get h2
  have hl:=r.length
  have hn:=QdC
  have fin:EP X pins σ Q w s:=⟨z,H,I,rw',q⟩
  by_cases h0:0<=i
  · have hj:i.toNat=j:=by
      rw [seqIndex_of h0 h5] at h1
      exact Option.some.inj h1
    exact item_listR pl.isList h0 (by omega) (by rw [hj];simpa using ew) fin hs
  · have hj:(i+(its.toArray.size:Int)).toNat=j:=by
      rw [seqIndex_neg (by omega) h4] at h1
      rw [List.size_toArray,<- hl]
      exact Option.some.inj h1
    exact subscriptTail_builtinR (x:=w) pl.isList.typeIs slot_list_getitem.lookup
      (wpAny_getItem_list_neg (Q:=fun r s'=>r=w/\EP X pins σ Q r s') pl.isList (by omega) (by rw [List.size_toArray]<;>omega) (by omega) (by rw [hj];simpa using ew) ⟨rfl,fin⟩) hs
theorem ix_tup:IxR X (rIxT X.K):=by
  intro value slice pins s σ H x y v u Q I rx ry h hs
  obtain ⟨p,xs,i,z,rfl,rfl,hq,he,q⟩:=h
  cases rx
  obtain ⟨t,rfl⟩:=ry
  obtain ⟨its,r,pl,hz⟩:=I.tuple hq
  obtain ⟨j,h1,h2,h3,h4,h5⟩:=QfP he
  obtain ⟨w,ew,rw'⟩:=r.get h2
  have hl:=r.length
  have hn:=QdC
  have fin:EP X pins σ Q w s:=⟨z,H,I,rw',q⟩
  exact subscriptTail_builtinR (x:=w) pl.typeIs slot_tuple_getitem.lookup
    (getItem_tuple (j:=j) (Q:=fun r s'=>r=w/\EP X pins σ Q r s') pl (by omega) (by omega) (by rw [List.size_toArray,<- hl];exact h1) (by simpa using ew) ⟨rfl,fin⟩) hs
theorem QgW (its:List Value) (n j:Nat) (u:Value):Obj.mapSeq (·.setIfInBounds j u) { cls:=.type "list",data:=.seq its.toArray n }={ cls:=.type "list",data:=.seq (its.set j u).toArray n }:=by
  simp [Obj.mapSeq]
theorem Inv.lst {pins:List (Addr×Obj)} {σ:St} {H:Hp} {s:Shared} {p:Addr} {xs:List V} (I:Inv X pins σ H s) (h:H p=some (.lst xs)) :
    ∃ (its:List Value) (n:Nat),Vals xs its/\s.heap.get? p=some { cls:=.type "list",data:=.seq its.toArray n }/\xs.length<=sizeLine:=by
  obtain ⟨z,its,n,r,e⟩:=I.hok p _ h
  exact ⟨its,n,r,e,z⟩
theorem Inv.lstUpd {pins:List (Addr×Obj)} {σ:St} {H:Hp} {s:Shared} {p:Addr} {xs ys:List V} {its its':List Value} {n n':Nat} {f:Obj->Obj} (I:Inv X pins σ H s) (h:H p=some (.lst xs))
    (ho:s.heap.get? p=some { cls:=.type "list",data:=.seq its.toArray n }) (hf:f { cls:=.type "list",data:=.seq its.toArray n }={ cls:=.type "list",data:=.seq its'.toArray n' }) (r:Vals ys its') (hz:ys.length<=sizeLine) (t:Nat) :
    Inv X pins σ (upd H p (.lst ys)) { s with heap:=s.heap.update p f,toks:=t }:=by
  have e:(s.heap.update p f).get? p=some { cls:=.type "list",data:=.seq its'.toArray n' }:=by
    rw [Heap.get?_update_self f ho (by rw [hf]<;>rfl),hf]
  refine I.write (x:=p) (e:=p) (by rw [h];trivial) (.inl rfl) (fun b u hb q=>(Heap.get?_update_other _ _ (Ne.symm hb)).trans q) ⟨_,e⟩ ?_
  exact ⟨hz,its',n',r,e⟩
def rSetL:V->V->V->Hp->(Hp->Prop)->Prop:=fun o i v H Q=>∃ p xs k j,o=.ref p/\i=.int k/\H p=some (.lst xs)/\ixN xs.length k=some j/\Q (upd H p (.lst (xs.set j v)))
theorem Qf2:PSet X rSetL:=by
  intro pins s σ H o i v ov iv u Q I ro ri rv h
  obtain ⟨p,xs,k,j,rfl,rfl,hp,hj,q⟩:=h
  cases ro
  obtain ⟨t,rfl⟩:=ri
  obtain ⟨its,n,r,ho,hz⟩:=I.lst hp
  obtain ⟨h1,h2,h3,h4⟩:=QiC hj
  have hl:=r.length
  have hn:=QdC
  have I':Inv X pins σ (upd H p (.lst (xs.set j v))) { s with heap:=s.heap.update p (Obj.mapSeq (·.setIfInBounds j u)) }:=
    I.lstUpd hp ho (QgW its n j u) (r.set rv j) (by rw [List.length_set];exact hz) s.toks
  by_cases h0:0<=k
  · have hk:k.toNat=j:=by
      rw [seqIndex_of h0 h4] at h1
      exact Option.some.inj h1
    exact PySem.W.ki_setAt ho h0 (by omega) (by rw [List.size_toArray,<- hl];exact h4) (by rw [hk];exact ⟨_,I',q⟩)
  · have hk:(k+(its.toArray.size:Int)).toNat=j:=by
      rw [seqIndex_neg (by omega) h3] at h1
      rw [List.size_toArray,<- hl]
      exact Option.some.inj h1
    exact PySem.W.ki_setBack ho (by omega) (by rw [List.size_toArray,<- hl];exact h3) (by omega) (by rw [hk];exact ⟨_,I',q⟩)
theorem QeB (lo hi:Option Int) (n:Nat):(sliceBounds lo hi none n).1=((HT.sIx n 0 lo:Nat):Int)/\(sliceBounds lo hi none n).2.1=((HT.sIx n n hi:Nat):Int)/\(sliceBounds lo hi none n).2.2=1:=by
  refine ⟨?_,?_,rfl⟩
  · cases lo with
    | none=>simp [sliceBounds,HT.sIx]
    | some i=>
      simp only [sliceBounds,HT.sIx,Option.getD_none,show (1:Int) > 0 by decide,if_true]
      by_cases h:i<0
      · simp only [h,if_true]<;>omega
      · simp only [h,if_false]<;>omega
  · cases hi with
    | none=>simp [sliceBounds,HT.sIx]
    | some i=>
      simp only [sliceBounds,HT.sIx,Option.getD_none,show (1:Int) > 0 by decide,if_true]
      by_cases h:i<0
      · simp only [h,if_true]<;>omega
      · simp only [h,if_false]<;>omega
theorem QdR (its:List Value) (lo hi:Option Int):slicePick its.toArray lo hi none=((its.drop (HT.sIx its.length 0 lo)).take (HT.sIx its.length its.length hi - HT.sIx its.length 0 lo)).toArray:=by
  obtain ⟨h1,h2,h3⟩:=QeB lo hi its.toArray.size
  unfold slicePick
  rw [h1,h2,h3]
  simp only [sliceRange_one,pick_run,List.size_toArray]<;>rfl
def rSlL (K:PySem.W.Frag):V->Option Int->Option Int->Hp->VK->Prop:=fun x lo hi H Q=>∃ a xs,x=.ref a/\SqL K H a xs/\∀ p,H p=none->Q (.ref p) (upd H p (.lst (cutV xs lo hi)))
theorem QlL:SlR X (rSlL X.K):=by
  intro pins s σ H x v vl vu lo hi sl Q I rx hs pl pu h
  obtain ⟨a,xs,rfl,hx,q⟩:=h
  cases rx
  obtain ⟨its,r,ht,hz⟩:=I.list hx
  have hlen:=r.length
  refine ⟨"list",_,slot_list_getitem.lookup,ht.isList.typeIs,?_⟩
  refine wpAny_getItem_list_slice ht.isList hs pl pu .none (by simp) ?_ (by rw [List.size_toArray]<;>omega)
  rw [QdR,<- hlen]
  refine ⟨.ref s.heap.objs.size,_,I.laid (t':=s.toks) (o:=.lst (cutV xs lo hi)) (fun b ob q=>Heap.get?_push_of_some _ q) (Nat.le_refl _) ?_,rfl,q _ (I.hok.fresh (Nat.le_refl _))⟩
  exact ⟨Nat.le_trans (Qdk xs lo hi) hz,_,0,(r.drop (HT.sIx xs.length 0 lo)).take (HT.sIx xs.length xs.length hi - HT.sIx xs.length 0 lo),Heap.get?_push_size _ rfl⟩
theorem Qa6:CallR X (.builtin "len") (fun xs H Q=>∃ p ys,xs=[.ref p]/\(SqL X.K H p ys∨SqT X.K H p ys)/\Q (.int ys.length) H):=by
  intro pins s σ H xs us Q I r h
  obtain ⟨p,ys,rfl,hq,q⟩:=h
  obtain ⟨u,rfl,rx⟩:=QdK r
  cases rx
  have hn:=QdC
  rcases hq with hq | hq
  · obtain ⟨its,r',pl,hz⟩:=I.list hq
    have hlen:=r'.length
    exact Calls.call_len_list pl.isList (by simp only [List.size_toArray]<;>omega) ⟨.int ys.length,H,I.tok _,⟨s.toks+1,by rw [List.size_toArray,hlen]⟩,q⟩
  · obtain ⟨its,r',pl,hz⟩:=I.tuple hq
    have hlen:=r'.length
    exact len_tuple pl (by simp only [List.size_toArray]<;>omega) ⟨.int ys.length,H,I.tok _,⟨s.toks+1,by rw [List.size_toArray,hlen]⟩,q⟩
theorem CallR.or {f:Value} {r r':List V->Hp->VK->Prop} (h:CallR X f r) (h':CallR X f r'):CallR X f (fun xs H Q=>r xs H Q∨r' xs H Q):=by
  intro pins s σ H xs us Q I rs q
  rcases q with q | q
  · exact h pins s σ H xs us Q I rs q
  · exact h' pins s σ H xs us Q I rs q
theorem Qe1:CallR X (.type "list") (fun xs H Q=>∃ p ys,xs=[.ref p]/\(SqL X.K H p ys∨SqT X.K H p ys)/\∀ l,H l=none->Q (.ref l) (upd H l (.lst ys))):=by
  intro pins s σ H xs us Q I r h
  obtain ⟨p,ys,rfl,hq,q⟩:=h
  obtain ⟨u,rfl,rx⟩:=QdK r
  cases rx
  have fin:∀ (its:List Value),Vals ys its->ys.length<=sizeLine->∀ (h':Heap) (c':Nat),(∀ b o',s.heap.get? b=some o'->h'.get? b=some o') ->
      h'.get? s.heap.objs.size=some { cls:=.type "list",dict:=none,data:=.seq its.toArray c',slots:=#[] }->EP X pins σ Q (.ref s.heap.objs.size) { s with heap:=h' }:=fun its r' hz h' c' kp e=>
    ⟨.ref s.heap.objs.size,_,I.laid (t':=s.toks) kp (Nat.le_refl _) (show ObjOk X.prog X.w _ h' _ (.lst ys) from ⟨hz,its,c',r',e⟩),rfl,q _ (I.hok.fresh (Nat.le_refl _))⟩
  rcases hq with hq | hq
  · obtain ⟨its,r',pl,hz⟩:=I.list hq
    have hlen:=r'.length
    obtain ⟨o,ho,hc,n,hd⟩:=pl.isList
    exact call_list_seq p (.inl rfl) ho hc hd (fun h' c' kp e=>fin its r' hz h' c' kp e) (by simp only [List.size_toArray]<;>omega)
  · obtain ⟨its,r',pl,hz⟩:=I.tuple hq
    have hlen:=r'.length
    obtain ⟨o,ho,hc,n,hd⟩:=pl
    exact call_list_seq p (.inr rfl) ho hc hd (fun h' c' kp e=>fin its r' hz h' c' kp e) (by simp only [List.size_toArray]<;>omega)
theorem Qek:CallR X (.type "tuple") (fun xs H Q=>∃ p ys,xs=[.ref p]/\((SqL X.K H p ys/\∀ l,H l=none->Q (.ref l) (upd H l (.tup ys)))∨(SqT X.K H p ys/\Q (.ref p) H))):=by
  intro pins s σ H xs us Q I r h
  obtain ⟨p,ys,rfl,h⟩:=h
  obtain ⟨u,rfl,rx⟩:=QdK r
  cases rx
  rcases h with ⟨hq,q⟩ | ⟨hq,q⟩
  · obtain ⟨its,r',pl,hz⟩:=I.list hq
    have hlen:=r'.length
    refine call_tuple_list pl.isList (fun h' kp=>?_) (by simp only [List.size_toArray]<;>omega)
    have I1:Inv X pins σ H { s with heap:=h' }:=I.kept (t':=s.toks) kp
    have I2:Inv X pins σ (upd H h'.objs.size (.tup ys)) { s with heap:=h'.push { cls:=.type "tuple",data:=.seq its.toArray } }:=
      I1.laid (t':=s.toks) (fun b o e=>Heap.get?_push_of_some _ e) (Nat.le_refl _) (show ObjOk X.prog X.w _ _ _ (.tup ys) from ⟨hz,its,r',IsTup.new _ _⟩)
    exact ⟨.ref h'.objs.size,_,I2,rfl,q _ (I1.hok.fresh (Nat.le_refl _))⟩
  · obtain ⟨its,r',pl,hz⟩:=I.tuple hq
    exact call_tuple_same pl ⟨.ref p,H,I,rfl,q⟩
def tyV (K:PySem.W.Frag) (T:String) (x:V) (H:Hp):Prop:=match x with
  | .str _=>T = "str"
  | .int _=>T = "int"
  | .ref p=>(T = "list" /\ ∃ xs,SqL K H p xs)∨(T = "tuple" /\ ∃ o,K.lookup p=some o/\o.cls=.type "tuple" /\ o.dict=none) ∨
      (T = "dict" /\ ((∃ kvs,H p=some (.dK kvs))∨∃ kvs,H p=some (.dT kvs)))∨(T = "set" /\ ∃ S n,H p=some (.set S n))
  | _=>False
theorem tyV_is {pins:List (Addr×Obj)} {σ:St} {H:Hp} {s:Shared} {T:String} {x:V} {v:Value} (I:Inv X pins σ H s) (r:RelV x v) (ty:tyV X.K T x H) :
    s.TypeIs v T/\∀ a,v=.ref a->∃ ob,s.heap.get? a=some ob/\ob.dict=none:=by
  cases x with
  | str z=>
    obtain ⟨t,rfl⟩:=r
    cases (show T = "str" from ty)
    exact ⟨typeIs_str s z t,fun _ e=>nomatch e⟩
  | int i=>
    obtain ⟨t,rfl⟩:=r
    cases (show T = "int" from ty)
    exact ⟨typeIs_int s i t,fun _ e=>nomatch e⟩
  | ref p=>
    cases r
    rcases ty with ⟨rfl,xs,hq⟩ | ⟨rfl,o,hk,hc,hd⟩ | ⟨rfl,hk⟩ | ⟨rfl,S,n,hk⟩
    · obtain ⟨its,_,pl,_⟩:=I.list hq
      refine ⟨pl.isList.typeIs,fun a e=>?_⟩
      cases e
      obtain ⟨o,n,e,c,hd,_⟩:=pl
      exact ⟨o,e,hd⟩
    · refine ⟨⟨o,I.kIn p o hk,hc⟩,fun a e=>?_⟩
      cases e
      exact ⟨o,I.kIn _ o hk,hd⟩
    · have z:∃ o,s.heap.get? p=some o/\o.ExactDict:=by
        rcases hk with ⟨kvs,hk⟩ | ⟨kvs,hk⟩
        · obtain ⟨_,_,_,_,o,_,_,e,ex,_⟩:=I.hok p _ hk
          exact ⟨o,e,ex⟩
        · obtain ⟨_,_,_,_,o,_,_,e,ex,_⟩:=I.hok p _ hk
          exact ⟨o,e,ex⟩
      obtain ⟨o,e,ex⟩:=z
      refine ⟨⟨o,e,ex.1⟩,fun a e2=>?_⟩
      cases e2
      exact ⟨o,e,ex.2.1⟩
    · obtain ⟨o,_,_,_,e,ex,_⟩:=I.hok p _ hk
      refine ⟨⟨o,e,ex.1⟩,fun a e2=>?_⟩
      cases e2
      exact ⟨o,e,ex.2.1⟩
  | _=>exact False.elim ty
def tBM (K:PySem.W.Frag) (T:String) (r:V->List V->Hp->VK->Prop) (to:TE) (t:TA):TE:=fun σ H Q=>to σ H fun x H1=>tyV K T x H1/\t σ H1 fun xs H2=>r x xs H2 Q
variable {o e:Expr} {es:List Expr} {to:TE} {t:TA} {name:Str} {apos cpos:Pos} {T id:String} {r:V->List V->Hp->VK->Prop}
theorem Qh2 (pa:PlainAttrs T) (slot:Slot T name id) (hty:typeOf (.builtin id)=pure (.type "method_descriptor")) (hm:MtR X id r) (ho:PE X o to) (ha:PA X (e::es) t)
    (hbase:attributeBase o name X.env (eval o X.env)=eval o X.env:=by rfl)
    (hfew:((backTo cpos (starEach (e::es) X.env)).all (fun x => !x.1)&&(backToKw cpos (keywordEach [] X.env)).all (fun x=>x.1.isSome)
      && decide ((e::es).length+([]:List Keyword).length+(if ([]:List Keyword).isEmpty then 0 else 1)<30))=true:=by rfl)
    (hline:(apos.endLine == cpos.line)=true:=by rfl) (hs:starEach (e::es) X.env=(false,eval e X.env)::starEach es X.env:=by rfl) (hplain:(backTo cpos (starEach es X.env)).any (·.1)=false:=by rfl) :
    PE X (.Call (.Attribute o name apos) (e::es) [] cpos) (tBM X.K T r to t):=by
  intro pins s σ H Q I h
  refine wpAny_Call_method_late hbase hfew hline rfl (thn (ho pins s σ H _ I h) fun v s1 ⟨x,H1,I1,r1,ty,q1⟩=>?_)
  obtain ⟨h1,h2⟩:=tyV_is I1 r1 ty
  refine ⟨T,id,pa,slot,hty,h1,h2,?_⟩
  have hA:=ha cpos pins s1 σ H1 _ I1 q1
  rw [hs] at hA ⊢
  refine Calls.callWith_builtin (by show (false||(backTo cpos (starEach es X.env)).any (·.1))=false;rw [hplain]<;>rfl) (Calls.evalArgs_plain ?_)
  exact thn hA fun us s2 ⟨vs,H2,I2,r2,q2⟩=>hm pins s2 σ H2 x vs v us Q I2 r1 r2 q2
end
def MtM (X:Cx) (id:String) (r:V->List V->Hp->VK->Prop):Prop:=
  ∀ (pins:List (Addr×Obj)) (s:Shared) (σ:St) (H:Hp) (x:V) (xs:List V) (v:Value) (us:List Value) (Q:VK),Inv X pins σ H s->RelV x v->Vals xs us->r x xs H Q ->
    wpAny (model X.prog X.w) X.A (call (.builtin id) (v::us)) (EP X pins σ Q) X.xe s
theorem Vals.one:∀ {x:V} {us:List Value},Vals [x] us->∃ u,us=[u]/\RelV x u
  | _,_,.cons r .nil=>⟨_,rfl,r⟩
theorem Vals.zero:∀ {us:List Value},Vals [] us->us=[]
  | _,.nil=>rfl
theorem Vals.dropLast {xs:List V} {us:List Value} (h:Vals xs us):Vals xs.dropLast us.dropLast:=by
  induction h with
  | nil=>exact .nil
  | cons r t ih=>
    cases t with
    | nil=>exact .nil
    | cons q t'=>exact .cons r ih
theorem Vals.reverse {xs:List V} {us:List Value} (h:Vals xs us):Vals xs.reverse us.reverse:=by
  induction h with
  | nil=>exact .nil
  | cons r t ih=>rw [List.reverse_cons,List.reverse_cons];exact Vals.append ih (.cons r .nil)
theorem Vals.rep {xs:List V} {us:List Value} (h:Vals xs us):∀ k:Nat,Vals (List.replicate k xs).flatten (List.replicate k us).flatten
  | 0=>.nil
  | k+1=>by
    rw [List.replicate_succ,List.replicate_succ,List.flatten_cons,List.flatten_cons]
    exact Vals.append h (Vals.rep h k)
theorem QeU (its:List Value):∀ (k:Nat) (acc:List Value),
    List.foldl (fun x1 x2=>x1++x2) acc.toArray (List.replicate k its.toArray)=(acc++(List.replicate k its).flatten).toArray
  | 0,acc=>by simp
  | k+1,acc=>by
    have e:acc.toArray++its.toArray=(acc++its).toArray:=by simp
    have e2:(acc++its)++(List.replicate k its).flatten=acc++(List.replicate (k+1) its).flatten:=by
      rw [List.replicate_succ,List.flatten_cons,List.append_assoc]
    rw [<- e2,<- QeU its k (acc++its),<- e,List.replicate_succ,List.foldl_cons]
section
variable {X:Cx} {pins:List (Addr×Obj)} {σ:St} {H:Hp} {s:Shared} {l b:Addr} {xs ys zs:List V}
theorem Inv.lset {its its':List Value} {n:Nat} {f:Array Value->Array Value} {t':Nat} (I:Inv X pins σ H s) (hH:H l=some (.lst xs))
    (e:s.heap.get? l=some { cls:=.type "list",data:=.seq its.toArray n }) (hf:f its.toArray=its'.toArray) (hv:Vals ys its') (hz:ys.length<=sizeLine) :
    Inv X pins σ (upd H l (.lst ys)) { s with heap:=s.heap.update l (Obj.mapSeq f),toks:=t' }:=by
  have q:=PySem.IsL.update e f
  rw [hf] at q
  refine I.write (x:=l) (e:=l) (by rw [hH];exact trivial) (.inl rfl) (fun b' u hb hu=>(Heap.get?_update_other s.heap (Obj.mapSeq f) (Ne.symm hb)).trans hu) ⟨_,q⟩ ?_
  exact ⟨hz,its',_,hv,q⟩
theorem Inv.lnew {its:List Value} {t':Nat} (I:Inv X pins σ H s) (hv:Vals ys its) (hz:ys.length<=sizeLine) :
    Inv X pins σ (upd H s.heap.objs.size (.lst ys)) { s with heap:=s.heap.push { cls:=.type "list",data:=.seq its.toArray },toks:=t' }:=
  I.laid (fun _ _ q=>Heap.get?_push_of_some _ q) (Nat.le_refl _) ⟨hz,its,0,hv,Heap.get?_push_size _ rfl⟩
theorem Inv.fresh (I:Inv X pins σ H s):H s.heap.objs.size=none:=I.hok.fresh (Nat.le_refl _)
theorem Inv.lstM (I:Inv X pins σ H s) (hH:H l=some (.lst xs)):xs.length<=sizeLine/\∃ (its:List Value) (n:Nat),Vals xs its/\xs.length=its.length/\s.heap.get? l=some { cls:=.type "list",data:=.seq its.toArray n }:=by
  obtain ⟨z,its,n,r,e⟩:=I.hok l _ hH
  exact ⟨z,its,n,r,r.length,e⟩
theorem Qgi {n:Nat} (h:n<=sizeLine):Builtin.List.listTooLong n=false:=by
  unfold Builtin.List.listTooLong
  exact decide_eq_false (by omega)
end
section
variable {X:Cx}
def QhI:V->List V->Hp->VK->Prop:=fun x vs H Q=>∃ l xs y,x=.ref l/\vs=[y]/\H l=some (.lst xs)/\xs.length<sizeLine/\Q .non (upd H l (.lst (xs++[y])))
theorem QeO:MtM X "list.append" QhI:=by
  intro pins s σ H x vs v us Q I rx rv h
  obtain ⟨l,xs,y,rfl,rfl,hH,hz,q⟩:=h
  cases rx
  obtain ⟨u,rfl,ru⟩:=rv.one
  obtain ⟨z,its,n,r,hl,e⟩:=I.lstM hH
  refine call_meets F.slot_list_append ⟨_,e,rfl⟩ F.entry_list_append (F.args_list_append_2 _ _) (PySem.list_append l its.toArray n u (by rw [List.size_toArray];omega)) ⟨e,?_⟩
  refine ⟨.non,_,I.lset (its':=its++[u]) hH e (by simp) (r.append (.cons ru .nil)) ?_,rfl,q⟩
  rw [List.length_append,List.length_singleton]
  omega
def QhH:V->List V->Hp->VK->Prop:=fun x vs H Q=>∃ l b xs zs,x=.ref l/\vs=[.ref b]/\H l=some (.lst xs)/\H b=some (.lst zs)/\xs.length+zs.length<=sizeLine/\Q .non (upd H l (.lst (xs++zs)))
theorem Qiv:MtM X "list.extend" QhH:=by
  intro pins s σ H x vs v us Q I rx rv h
  obtain ⟨l,b,xs,zs,rfl,rfl,hH,hB,hz,q⟩:=h
  cases rx
  obtain ⟨u,rfl,ru⟩:=rv.one
  cases ru
  obtain ⟨z,its,n,r,hl,e⟩:=I.lstM hH
  obtain ⟨z2,its2,n2,r2,hl2,e2⟩:=I.lstM hB
  have hsz:its.toArray.size+its2.toArray.size<=sizeLine:=by rw [List.size_toArray,List.size_toArray];omega
  have hlong:¬ (!its.toArray.isEmpty&&Builtin.List.listTooLong (its.toArray.size+its2.toArray.size))=true:=by
    rw [Qgi hsz,Bool.and_false]
    exact Bool.false_ne_true
  refine call_meets F.slot_list_extend ⟨_,e,rfl⟩ F.entry_list_extend (F.args_list_extend_2 _ _)
    (AutoSeq1.list_extend_list_list_0 l its.toArray n b its2.toArray n2 hlong (by rw [List.size_toArray];omega) (by omega)) ⟨e,e2,?_⟩
  refine ⟨.non,_,I.lset (its':=its++its2) hH e (by simp) (r.append r2) ?_,rfl,q⟩
  rw [List.length_append]
  omega
def rCat:R2:=fun x y H Q=>∃ l b xs zs,x=.ref l/\y=.ref b/\H l=some (.lst xs)/\H b=some (.lst zs)/\xs.length+zs.length<=sizeLine/\∀ p,H p=none->Q (.ref p) (upd H p (.lst (xs++zs)))
theorem Qlg:OpR X (binaryOp .Add) rCat:=by
  intro pins s σ H x y v u Q I rx ry h
  obtain ⟨l,b,xs,zs,rfl,rfl,hH,hB,hz,q⟩:=h
  cases rx
  cases ry
  obtain ⟨z,its,n,r,hl,e⟩:=I.lstM hH
  obtain ⟨z2,its2,n2,r2,hl2,e2⟩:=I.lstM hB
  refine PySem.P.add_list e e2 ?_ (by rw [List.size_toArray,List.size_toArray];omega)
  have ea:its.toArray++its2.toArray=(its++its2).toArray:=by simp
  rw [ea]
  exact ⟨.ref _,_,I.lnew (t':=s.toks) (r.append r2) (by rw [List.length_append];omega),rfl,q _ I.fresh⟩
def rRep:R2:=fun x y H Q=>∃ l k xs,x=.ref l/\y=.int k/\H l=some (.lst xs) /\ -(2^63)<=k/\k<2^63/\xs.length*k.toNat<=sizeLine /\
  ∀ p,H p=none->Q (.ref p) (upd H p (.lst (List.replicate k.toNat xs).flatten))
theorem Qm0 {α:Type} (xs:List α) (k:Nat):(List.replicate k xs).flatten.length=k*xs.length:=by
  induction k with
  | zero=>simp
  | succ k ih=>rw [List.replicate_succ,List.flatten_cons,List.length_append,ih,Nat.succ_mul,Nat.add_comm]
theorem op_rep:OpR X (binaryOp .Mult) rRep:=by
  intro pins s σ H x y v u Q I rx ry h
  obtain ⟨l,k,xs,rfl,rfl,hH,h1,h2,hz,q⟩:=h
  cases rx
  obtain ⟨t,rfl⟩:=ry
  obtain ⟨z,its,n,r,hl,e⟩:=I.lstM hH
  have hlen:its.toArray.size*k.toNat<=sizeLine:=by rw [List.size_toArray,<- hl];exact hz
  have hcap:¬ its.toArray.size*k.toNat > (2^63 - 1) / 8:=by
    have:(sizeLine:Nat)<=(2^63 - 1) / 8:=by decide
    omega
  have hfit:¬ (!Builtin.List.listFitsIndex k)=true:=by
    rw [fitsIndex_both h1 h2]
    exact Bool.false_ne_true
  have hlong:¬ Builtin.List.listTooLong (its.toArray.size*k.toNat)=true:=by
    rw [Qgi hlen]
    exact Bool.false_ne_true
  have hnew:List.foldl (fun x1 x2=>x1++x2) #[] (List.replicate (if its.toArray.isEmpty=true then 0 else k.toNat) its.toArray)=(List.replicate k.toNat its).flatten.toArray:=by
    have f0:∀ m:Nat,List.foldl (fun x1 x2=>x1++x2) #[] (List.replicate m its.toArray)=(List.replicate m its).flatten.toArray:=fun m=>by
      have:=QeU its m []
      rw [List.nil_append] at this
      exact this
    rw [f0]
    cases its with
    | nil=>simp
    | cons a r'=>rw [if_neg (by simp)]
  refine wpAny_binaryOp_repeat_ref (T := "list") (U := "int") (by decide) ⟨_,e,rfl⟩ (fun s'=>typeIs_int s' k t) noFill_list_mul F.fills_int_mul F.slot_int_rmul repeat_list F.slot_int_index.lookup
    (call_meets F.slot_int_rmul (typeIs_int s k t) F.entry_int_rmul (F.args_int_rmul_2 _ _) (int___rmul___int_list k t l its.toArray n)
      ⟨e,rfl,⟨_,e,rfl⟩,call_meets F.slot_list_mul ⟨_,e,rfl⟩ F.entry_list_mul (F.args_list_mul_2 _ _) (AutoListH.list___mul___list_int_3 l its.toArray n k t hfit hcap hlong) ⟨e,?_⟩⟩)
  rw [hnew]
  exact ⟨.ref _,_,I.lnew (t':=s.toks) (r.rep k.toNat) (by rw [Qm0,Nat.mul_comm];exact hz),rfl,q _ I.fresh⟩
end
section
variable {prog:Program} {w:World} {A:Around} {E:Value->Shared->Prop} {s:Shared}
end
section
variable {X:Cx}
end
end L2
namespace Att
open PySem PySem.W PySem.Calls PyProof.Rows
theorem Qdc {P:Params} {h:Heap}:∀ (ns:List Int) (vs:List Value),WellAll P h vs (ns.map WData.int)->IntsAre vs ns:=by
  intro ns
  induction ns with
  | nil=>
    intro vs w
    rw [List.map_nil] at w
    cases w
    exact .nil
  | cons n ns ih=>
    intro vs w
    rw [List.map_cons] at w
    cases w with
    | cons a b=>
      cases a
      exact .cons _ _ (ih _ b)
theorem Qht {l:OpenLaw} {n:Nat} (hn:l.most=some n) {P:Params} {h:Heap} {args:List WData} {vals:List Value}
    (hpre:l.row.toRowW.claim.pre args=true) (hwl:WellAll P h vals args) :
    ∃ a vs ns,vals=[Value.ref a]/\args=[WData.list (ns.map WData.int)]/\h.get? a=some { cls:=.type "list",data:=.seq vs.toArray }/\IntsAre vs ns/\ns.length<=n:=by
  have hsh:WShape.hasAll [] args [.list .int]=true:=(pre_splitW hpre).1
  have hc:l.pre.holds [] { args:=args }=true:=(pre_splitW hpre).2
  obtain ⟨d,r,rfl,h1,h2⟩:=hasAllW_cons hsh
  obtain rfl:=hasAllW_nil h2
  obtain ⟨xs,rfl,h3⟩:=hasW_list h1
  obtain ⟨ns,rfl⟩:=items_int h3
  have hlen:ns.length<=n:=by
    unfold OpenLaw.pre at hc
    have h4:(WTm.not (.lt (.lit (.int (n:Int))) (.len (.arg 0)))).holds [] { args:=[.list (ns.map .int)] }=true:=by
      have h4:=(holds_andW hc).1
      rw [hn] at h4
      exact h4
    have h5:=condW_of h4 (w_not (w_lt w_lit (w_len_list (w_arg rfl))))
    rw [List.length_map] at h5
    refine Nat.le_of_not_lt fun q=>?_
    have q':(n:Int)<((ns.length:Nat):Int):=by omega
    first
      | (rw [decide_eq_true q'] at h5;exact absurd h5 (by decide))
      | (simp at h5;omega)
  cases hwl with
  | cons w1 w2=>
    cases w2
    cases w1 with
    | list ho hall=>exact ⟨_,_,ns,rfl,rfl,ho,Qdc ns _ hall,hlen⟩
theorem QhW (l:OpenLaw) (args:List WData):l.row.toRowW.claim.post args (.bool true) args=true:=
  postW_of (r:=l.row.toRowW) (X:=(true == true))
    (show WShape.has [] (.bool true) .bool=true by first | rfl | decide | simp [WShape.has,WShape.arms,WShape.armsAll])
    (show (WTm.eq .res (.lit (.bool true))).value [] { args:=args,res:=some (.bool true),after:=args }=some (.bool (true == true)) from w_eq_bool (w_res rfl) w_lit) rfl
theorem attach_call {l:OpenLaw} {n:Nat} {q:Program} {loose:List Str} {XP:(Str->Option Value)->Heap->Prop} {YP:World->Heap->Prop} {d:DefRec}
    (hn:l.most=some n) (hdf:d.params.defaults=[])
    (call:∀ (w:World) (s₀ s₁:Shared) (mg mb:Str->Option Value) (fa:Addr) (o:Obj) (pm cd doc:Value) (a:Addr) (vs:List Value) (ns:List Int),
      Ground q loose [] XP w s₀ mg mb s₁.heap->YP w s₁.heap ->
      s₁.heap.get? fa=some o->o.data=.func (docDef d.name d.params d.body d.scope pm cd doc)->s₁.heap.CodeRec cd d.name->mg d.name=some (.ref fa) ->
      s₁.heap.get? a=some { cls:=.type "list",data:=.seq vs.toArray }->IntsAre vs ns->ns.length<=n->s₁.gens=#[] ->
      codeAny (model l.prog w) callerA (.call (.ref fa) ⟨[.ref a],[]⟩) (fun r s'=>r=.ok (.ret (.bool true))/\OldK s₁.heap s'.heap/\s'.os=s₁.os/\AllBare s'.gens) s₁) :
    WalkO q loose XP YP l.row.toRowW d [] (fun f vs=>PySem.call f vs):=by
  intro w s₀ s₁ mg mb G Y fa o pm cd doc dV kV ho hd hcd hD hmg hg args vals as hpre hlay hrd hwl hlo
  obtain rfl:dV=.none:=Dflts.none hD hdf
  obtain rfl:kV=.none:=Dflts.noKw hD
  obtain ⟨a,vs,ns,rfl,rfl,hobj,hints,hlen⟩:=Qht hn hpre hwl
  refine enter_call (codeAny_mono (call w s₀ s₁ mg mb fa o pm cd doc a vs ns G Y ho (fd_plain hd) hcd hmg hobj hints hlen hg) fun r s' hq=>?_)
  obtain ⟨rfl,h2,h3,h4⟩:=hq
  exact ⟨.inl ⟨.bool true,.bool true,[],rfl,fun _=>rfl,.bool true,QhW l _,fun _=>⟨List.Pairwise.nil,fun _ hm=>(nomatch hm)⟩⟩,h2,h3,h4⟩
section
variable {prog:Program} {w:World} {A:Around} {E:Value->Shared->Prop} {s:Shared} {K:Frag}
end
end Att
namespace L2
open PySem PySem.Spec PyProof.Rows
theorem Qes:∀ {vs:List Value} {ns:List Int},IntsAre vs ns->Vals (ns.map V.int) vs
  | _,_,.nil=>.nil
  | _,_,.cons n t h=>.cons ⟨t,rfl⟩ (Qes h)
def Only (H:Hp):Prop:=∀ b,H b=none∨∃ o xs,H b=some (.frz o (.lst xs))
theorem Qkv {P:Program} {w:World} {K:PySem.W.Frag} {mg mb:Str->Option Value} {CX:CXT} {k:Nat} {fa a:Addr} {fd:FuncData} {x:Str} {sp:Sp} {s₁:Shared} {vs:List Value} {ns:List Int}
    (KX:K.In s₁.heap) (hns:s₁.heap.Ns mainGlobals mg) (hb:s₁.heap.Ns builtinsNs mb) (hbb:∀ x:Str,x ≠ "__name__" -> mb x=bootBuiltins x) (hlim:s₁.heap.NoLimit) (hg:s₁.gens=#[])
    (ha:s₁.heap.get? a=some { cls:=.type "list",data:=.seq vs.toArray }) (hi:IntsAre vs ns) (hl:ns.length<=sizeLine) (hr:Room k callerA)
    (F:∀ base:Heap,K.In base->base.Ns mainGlobals mg->FnOk P w K mg base CX k fa fd [x] sp) (hbind:∀ (s:Shared) (u:Value),BindsTo s fd ⟨[u],[]⟩ [(x,u)])
    (hsp:∀ H:Hp,Only H->SqL K H a (ns.map V.int)->sp [.ref a] H (fun v _=>v=.bl true) fun _ _ _=>False)
    (hCX:∀ H e s',CX [] H s₁ (fun _ _ _=>False) e s'->False) :
    codeAny (model P w) callerA (.call (.ref fa) ⟨[.ref a],[]⟩) (fun r s'=>r=.ok (.ret (.bool true))/\OldK s₁.heap s'.heap/\s'.os=s₁.os/\AllBare s'.gens) s₁:=by
  have rv:=Qes hi
  have lenV:=hi.length
  have core:∀ H:Hp,Only H->SqL K H a (ns.map V.int)->HOk P w H s₁.heap->(∀ b,H b≠none->b=a)->(H a≠none->K.lookup a=none) ->
      codeAny (model P w) callerA (.call (.ref fa) ⟨[.ref a],[]⟩) (fun r s'=>r=.ok (.ret (.bool true))/\OldK s₁.heap s'.heap/\s'.os=s₁.os/\AllBare s'.gens) s₁:=by
    intro H hO hS hok hA hK
    have base_of:∀ {b:Addr} {o:Obj},s₁.heap.get? b=some o->H b=none->(hidT s₁.heap H).get? b=some o:=fun e n=>QkB e n
    have noA:∀ {b:Addr} {o:Obj} {es:Array DictEntry} {ep:Nat},s₁.heap.get? b=some o->o.data=.dict es ep->H b=none:=fun {b o es ep} e d=>by
      cases q:H b with
      | none=>rfl
      | some u=>
        have e':b=a:=hA b (by rw [q];simp)
        subst e'
        rw [ha] at e;cases e
        have d':Data.seq vs.toArray _=Data.dict es ep:=d
        cases d'
    have nsK:∀ {b:Addr} {m:Str->Option Value},s₁.heap.Ns b m->(hidT s₁.heap H).Ns b m:=fun {b m} ⟨o,es,ep,e,d,r⟩=>⟨o,es,ep,base_of e (noA e d),d,r⟩
    have hKb:K.In (hidT s₁.heap H):=fun b o e=>base_of (KX b o e) (by
      cases q:H b with
      | none=>rfl
      | some u=>
        have e':b=a:=hA b (by rw [q];simp)
        subst e'
        rw [hK (by rw [q];simp)] at e;cases e)
    have hM:Mod K mg (hidT s₁.heap H):=⟨hKb,nsK hns,⟨mb,nsK hb,hbb⟩,let ⟨mc,h1,h2⟩:=hlim;⟨mc,nsK h1,h2⟩⟩
    have e0:Env0 P w K mg (hidT s₁.heap H) callerA [] s₁ H:=⟨rfl,hM,fun b o e=>QmO e,Nat.le_of_eq (QiJ _ _),trivial,fun b hb=>absurd (show b∈([]:List Addr) from hb) (by simp),hok,.of_eq hg⟩
    refine codeAny_mono ((F _ hKb (nsK hns)).run callerA [] s₁ H ⟨[.ref a],[]⟩ [.ref a] [.ref a] _ _ hr e0 (hbind s₁ (.ref a)) (.cons rfl .nil) (hsp H hO hS)) fun r s' h=>?_
    cases r with
    | error e=>exact (hCX H e s' h).elim
    | ok fl=>
      cases fl with
      | next=>exact False.elim h
      | brk=>exact False.elim h
      | cont=>exact False.elim h
      | ret u=>
        obtain ⟨v,H',os,bare,un,hok',r',q⟩:=h
        have q':v=.bl true:=q
        subst q'
        obtain rfl:u=Value.bool true:=r'
        refine ⟨rfl,OldK.of_keep fun b o e=>?_,os,bare⟩
        cases q:H b with
        | none=>exact un.keep b o e q (by intro z;exact absurd (show b∈([]:List Addr) from z) (by simp)) (by simp)
        | some u=>
          rcases hO b with z | ⟨ob,xs,z⟩
          · rw [q] at z;cases z
          · have z2:=un.frzs b ob _ z
            obtain ⟨e1,_⟩:=hok b _ z
            obtain ⟨e2,_⟩:=hok' b _ z2
            rw [e] at e1;cases e1
            exact e2
  cases hk:K.lookup a with
  | some o=>
    have e:=KX a o hk
    rw [ha] at e
    cases e
    refine core (fun _=>none) (fun _=>.inl rfl) (.inr ⟨_,vs.toArray,_,hk,rfl,rfl,rfl,by rw [List.size_toArray,lenV];exact hl,by simpa using rv⟩) (fun b u z=>by have z':(none:Option HO)=some u:=z;cases z') (fun b z=>absurd rfl z) fun z=>absurd rfl z
  | none=>
    refine core (fun b=>if b=a then some (.frz { cls:=.type "list",data:=.seq vs.toArray } (.lst (ns.map V.int))) else none) (fun b=>?_) (.inl (.inr ⟨{ cls:=.type "list",data:=.seq vs.toArray },if_pos rfl⟩)) (fun b u z=>?_) (fun b z=>?_) fun _=>hk
    · by_cases hb:b=a
      · exact .inr ⟨_,_,if_pos hb⟩
      · exact .inl (if_neg hb)
    · by_cases hb:b=a
      · have z':=(if_pos hb).symm.trans z
        cases z'
        subst hb
        exact ⟨ha,by rw [List.length_map];exact hl,vs,_,rv,ha⟩
      · have z':=(if_neg hb).symm.trans z
        cases z'
    · by_cases hb:b=a
      · exact hb
      · exact absurd (if_neg hb) z
theorem walk_of {l:PySem.W.OpenLaw} {n k:Nat} {q:Program} {loose:List Str} {XP:(Str->Option Value)->Heap->Prop} {YP:World->Heap->Prop} {d:DefRec} {K:Params->PySem.W.Frag} {CX:World->CXT} {sp:World->Sp} {x:Str}
    (hn:l.most=some n) (hn2:n<=sizeLine) (hdf:d.params.defaults=[]) (hr:Room k callerA)
    (hY:∀ (w:World) (h:Heap),YP w h->(K w.params).In h)
    (F:∀ (w:World) (mg:Str->Option Value) (fa:Addr) (h:Heap),(K w.params).In h->h.Ns mainGlobals mg->mg d.name=some (.ref fa) ->
      ∃ fd:FuncData,(∀ (s:Shared) (u:Value),BindsTo s fd ⟨[u],[]⟩ [(x,u)]) /\
        ∀ base:Heap,(K w.params).In base->base.Ns mainGlobals mg->FnOk l.prog w (K w.params) mg base (CX w) k fa fd [x] (sp w))
    (hsp:∀ (w:World) (H:Hp) (a:Addr) (ns:List Int),ns.length<=n->Only H->SqL (K w.params) H a (ns.map V.int)->sp w [.ref a] H (fun v _=>v=.bl true) fun _ _ _=>False)
    (hCX:∀ (w:World) (H:Hp) (s:Shared) (e:Value) (s':Shared),CX w [] H s (fun _ _ _=>False) e s'->False) :
    PySem.W.WalkO q loose XP YP l.row.toRowW d [] (fun f vs=>PySem.call f vs):=by
  refine Att.attach_call hn hdf fun w s₀ s₁ mg mb fa o pm cd doc a vs ns G Y ho hd hcd hmg hobj hints hlen hg=>?_
  have KX:=hY w _ Y
  obtain ⟨fd,hb,hF⟩:=F w mg fa _ KX G.T.g hmg
  exact Qkv KX G.T.g G.T.b G.T.builtins G.T.nolimit hg hobj hints (Nat.le_trans hlen hn2) hr hF hb (fun H hO hS=>hsp w H a ns hlen hO hS) fun H e s'=>hCX w H s₁ e s'
def Qat (s:Stmt):Arguments:=match s with
  | .FunctionDef _ a _ _ _ _ _ _ _ _=>a
  | _=>{ posonlyargs:=[],args:=[],vararg:=none,kwonlyargs:=[],kw_defaults:=[],kwarg:=none,defaults:=[] }
def Qan (s:Stmt):List Stmt:=match s with
  | .FunctionDef _ _ b _ _ _ _ _ _ _=>b
  | _=>[]
def Qaa (s:Stmt):Scope:=match s with
  | .FunctionDef _ _ _ _ _ _ sc _ _ _=>sc
  | _=>{ kind:=.function,names:=[],isGenerator:=false,isCoroutine:=false }
abbrev CX0:CXT:=fun _ _ _ _ _ _=>False
abbrev E0:XK:=fun _ _ _=>False
theorem pass0 {X:Cx}:QbG CX0 X E0:=fun _ _ _ _ _ _ _ h=>h.elim
structure Fun (K:PySem.W.Frag) (x qual:Str) (st:Stmt) (f:Addr) (fd:FuncData):Prop where
  ex:∃ (oc:Value) (od:Option Addr) (kV doc pm:Value) (an:Option Addr) (cdv ct:Value) (osl:Array (Option Value)),
    fd=PySem.W.fnOf x qual (Qat st) (Qan st) (Qaa st) .none kV doc pm an cdv ct/\K.lookup f=some ⟨oc,od,.func fd,osl⟩/\PySem.W.codeIn K cdv qual=true
  kp:PySem.W.keepIn K (.ref f)=true
section
variable {P:Program} {w:World} {K:PySem.W.Frag} {mg:Str->Option Value} {base:Heap}
theorem Fun.ok {x qual:Str} {st:Stmt} {f:Addr} {fd:FuncData} {N ps:List Str} {k:Nat} {sp:Sp} (F:Fun K x qual st f fd) (S:FnScope N ps (Qaa st)) (len:∀ vs H Q E,sp vs H Q E->vs.length=ps.length)
    (hbody:∀ (cdv:Value) (A:Around) (outer:List Env) (s:Shared) (H:Hp) (vs:List V) (Q:VK) (E:XK),Room k (A.deeper (envOfC qual (Qaa st) s.heap.objs.size f cdv))->sp vs H Q E ->
      ∃ t,PSs (cxOf CX0 P w K mg base N qual (Qaa st) f cdv A outer s H E).nox (Qan st) t/\t { nx:=fun _ H'=>Q .non H',rt:=Q } (start N vs) H):FnOk P w K mg base CX0 (k+1) f fd ps sp:=by
  obtain ⟨oc,od,kV,doc,pm,an,cdv,ct,osl,rfl,lk,hcd⟩:=F.ex
  refine fn_of lk hcd S len fun A outer s H vs Q E hr hsp=>?_
  obtain ⟨t,h,q⟩:=hbody cdv A outer s H vs Q E hr hsp
  exact ⟨t,h.nox,q⟩
theorem Fun.binds {x qual:Str} {st:Stmt} {f:Addr} {fd:FuncData} {ps:List Str} (F:Fun K x qual st f fd)
    (h:∀ (kV doc pm:Value) (an:Option Addr) (cdv ct:Value) (us:List Value),us.length=ps.length->bindArgs (PySem.W.fnOf x qual (Qat st) (Qan st) (Qaa st) .none kV doc pm an cdv ct) ⟨us,[]⟩=pure (ps.zip us)):Binds K fd ps []:=by
  obtain ⟨oc,od,kV,doc,pm,an,cdv,ct,osl,rfl,lk,hcd⟩:=F.ex
  exact .all (h kV doc pm an cdv ct)
theorem QaJ {x qual:Str} {st:Stmt} {f:Addr} {oc:Value} {od an:Option Addr} {osl:Array (Option Value)} {kV doc pm cdv ct:Value} (l:K.lookup f=some ⟨oc,od,.func (PySem.W.fnOf x qual (Qat st) (Qan st) (Qaa st) .none kV doc pm an cdv ct),osl⟩)
    (c:PySem.W.codeIn K cdv qual=true) (k:PySem.W.keepIn K (.ref f)=true):Fun K x qual st f (PySem.W.fnOf x qual (Qat st) (Qan st) (Qaa st) .none kV doc pm an cdv ct):=⟨⟨oc,od,kV,doc,pm,an,cdv,ct,osl,rfl,l,c⟩,k⟩
end
section
variable {X:Cx}
theorem pv (i:Nat) {x:Str} {pos:Pos} (hN:X.N[i]? = some x:=by rfl) (hv:Vis X.env.scope x:=by first | exact Or.inl rfl | exact Or.inr (Or.inl rfl) | exact Or.inr (Or.inr rfl)) (hd:(x == ("__debug__" : Str))=false:=by decide)
    (hcd:(x == ("__classdict__" : Str))=false:=by decide):PE X (.Name x pos) (tVar i):=Qlc hN hv hd hcd
end
theorem iteF {A B:Prop} (h:B):if false=true then A else B:=by
  rw [if_neg Bool.false_ne_true]
  exact h
theorem iteT {A B:Prop} (h:A):if true=true then A else B:=by
  rw [if_pos rfl]
  exact h
theorem ite2 {c A B:Prop} [Decidable c] (h1:c->A) (h2:¬ c->B):if c then A else B:=by
  by_cases h:c
  · rw [if_pos h]
    exact h1 h
  · rw [if_neg h]
    exact h2 h
theorem QiD {c A B:Prop} [Decidable c] (hc:c) (h:B):if (!decide c)=true then A else B:=by
  rw [decide_eq_true hc]
  exact iteF h
def Same (H H':Hp):Prop:=∀ b o,H b=some o->H' b=some o
theorem Same.refl (H:Hp):Same H H:=fun _ _ h=>h
theorem Same.trans {H H1 H2:Hp} (a:Same H H1) (b:Same H1 H2):Same H H2:=fun c o h=>b c o (a c o h)
theorem Same.free {H H':Hp} (e:Same H H') {l:Addr} (h:H' l=Option.none):H l=Option.none:=by
  cases q:H l with
  | none=>rfl
  | some o=>
    rw [e l o q] at h
    cases h
theorem Same.seq {K:PySem.W.Frag} {H H':Hp} {a:Addr} {xs:List V} (e:Same H H') (h:SqL K H a xs):SqL K H' a xs:=by
  rcases h with (h | ⟨o,h⟩) | h
  · exact .inl (.inl (e _ _ h))
  · exact .inl (.inr ⟨o,e _ _ h⟩)
  · exact .inr h
end L2
set_option maxHeartbeats 4000000
namespace Rt
open PySem PyProof.Rows
def QbD:Bool->Keyed->Array Keyed->Nat->Nat->Nat->StateT SortSt Sem (Option Nat):=sortPriv% PySem.Builtin.gallop
theorem Qg0 (lf:Bool) (kk:Keyed) (xs:Array Keyed) (b n h:Nat):QbD lf kk xs b n h=(do
  let bey (z:Nat):StateT SortSt Sem (Option Bool):=do
    let x <- elem' xs (b+z)
    if lf then lt' x kk else return (<- lt' kk x).map (!·)
  let mut l0:=0
  let mut o0:=1
  let mut u:=0
  let mut v:=0
  let some r0 <- bey h | return none
  if r0 then
    let mo:=n - h
    for _ in [0:n] do
      if o0≥mo then break
      let some r1 <- bey (h+o0) | return none
      if !r1 then break
      l0:=o0
      o0:=2*o0+1
    u:=h+l0+1
    v:=h+min o0 mo
  else
    let mo:=h+1
    for _ in [0:n] do
      if o0≥mo then break
      let some r1 <- bey (h - o0) | return none
      if r1 then break
      l0:=o0
      o0:=2*o0+1
    u:=h+1 - min o0 mo
    v:=h - l0
  for _ in [0:n] do
    if u≥v then break
    let m:=u+(v - u) / 2
    let some r1 <- bey m | return none
    if r1 then u:=m+1 else v:=m
  return some v):=rfl
structure Ord (c:Keyed->Keyed->Bool):Prop where
  asym:∀ x y,c x y=true->c y x=false
  trans:∀ x y z,c y x=false->c z y=false->c z x=false
abbrev le (c:Keyed->Keyed->Bool) (x y:Keyed):Prop:=c y x=false
section
variable {c:Keyed->Keyed->Bool}
theorem Ord.irr (o:Ord c) (x:Keyed):c x x=false:=by
  cases h:c x x with
  | false=>rfl
  | true=>rw [o.asym x x h] at h;cases h
theorem Ord.tr (o:Ord c) {x y z:Keyed} (a:le c x y) (b:le c y z):le c x z:=o.trans x y z a b
theorem Ord.lt_le (o:Ord c) {x y:Keyed} (a:c x y=true):le c x y:=o.asym x y a
theorem Ord.tr_lt (o:Ord c) {x y z:Keyed} (a:le c x y) (b:c y z=true):c x z=true:=by
  cases h:c x z with
  | true=>rfl
  | false=>rw [show c y z=false from o.trans z x y h a] at b;cases b
end
def kx (xs:Array Keyed) (i:Nat):Keyed:=(xs[i]?).getD (Value.none,Value.none)
theorem Qm3 {xs:Array Keyed} {i:Nat} (h:i<xs.size):xs[i]? = some (kx xs i):=by
  unfold kx;rw [getElem?_pos xs i h];rfl
theorem QfC {xs ys:Array Keyed} {i j:Nat} (h:xs[i]? = ys[j]?):kx xs i=kx ys j:=by unfold kx;rw [h]
def Sg (c:Keyed->Keyed->Bool) (xs:Array Keyed) (lo hi:Nat):Prop:=∀ i j,lo<=i->i<=j->j<hi->le c (kx xs i) (kx xs j)
structure Asks (prog:Program) (w:World) (A:Around) (s:Shared) (κ:SortKind) (a₀:Array Keyed) (c:Keyed->Keyed->Bool):Prop where
  ord:Ord c
  lt:∀ x y,x∈a₀.toList->y∈a₀.toList->∀ (C:Bool->Shared->Prop) (E':Value->Shared->Prop),C (c x y) s->wpAny (model prog w) A (keyLt' κ x.1 y.1) C E' s
structure SB (κ:SortKind) (a₀:Array Keyed) (st:SortSt):Prop where
  perm:(arrOf st).Perm a₀
  kind:kindOf st=κ
  failed:failedOf st=none
theorem SB.size {κ:SortKind} {a₀:Array Keyed} {st:SortSt} (h:SB κ a₀ st):(arrOf st).size=a₀.size:=h.perm.size_eq
theorem SB.mem {κ:SortKind} {a₀:Array Keyed} {st:SortSt} (h:SB κ a₀ st) {p:Keyed} (e:p∈(arrOf st).toList):p∈a₀.toList:=(Array.perm_iff_toList_perm.mp h.perm).mem_iff.mp e
theorem memL {xs:Array Keyed} {i:Nat} (h:i<xs.size):kx xs i∈xs.toList:=Array.mem_toList_iff.mpr (Array.mem_of_getElem? (Qm3 h))
section
variable {prog:Program} {w:World} {A:Around} {E:Value->Shared->Prop} {s:Shared} {a₀:Array Keyed} {κ:SortKind} {c:Keyed->Keyed->Bool}
theorem Qeq {st:SortSt} {x y:Keyed} {Q:Option Bool->SortSt->Prop} (hA:Asks prog w A s κ a₀ c) (hk:kindOf st=κ) (hx:x∈a₀.toList) (hy:y∈a₀.toList) (h:Q (some (c x y)) st):wpS (model prog w) A E s (lt' x y) Q st:=by
  rw [lt'_eq]
  refine wpS_bind (wpS_get ?_)
  rw [hk]
  refine wpS_bind (wpS_lift (wpAny_attempt (hA.lt x y hx hy _ _ ⟨rfl,?_⟩)))
  exact wpS_pure h
theorem Qab {st:SortSt} {arr:Array Keyed} {i:Nat} {Q:Keyed->SortSt->Prop} (hi:i<arr.size) (h:Q (kx arr i) st):wpS (model prog w) A E s (elem' arr i) Q st:=by
  rw [elem'_eq,Qm3 hi]
  exact wpS_pure h
theorem QcR {st:SortSt} {i j:Nat} {Q:Option Bool->SortSt->Prop} (hA:Asks prog w A s κ a₀ c) (hB:SB κ a₀ st) (hi:i<a₀.size) (hj:j<a₀.size) (h:Q (some (c (kx (arrOf st) i) (kx (arrOf st) j))) st):wpS (model prog w) A E s (ltAt' i j) Q st:=by
  have h1:i<(arrOf st).size:=by rw [hB.size];exact hi
  have h2:j<(arrOf st).size:=by rw [hB.size];exact hj
  rw [ltAt'_eq]
  refine wpS_bind (wpS_get ?_)
  refine wpS_bind (Qab h1 ?_)
  refine wpS_bind (Qab h2 ?_)
  exact Qeq hA hB.kind (hB.mem (memL h1)) (hB.mem (memL h2)) h
def beyB (c:Keyed->Keyed->Bool) (lf:Bool) (kk:Keyed) (xs:Array Keyed) (i:Nat):Bool:=if lf then c (kx xs i) kk else !c kk (kx xs i)
theorem QkT (o:Ord c) {lf:Bool} {kk:Keyed} {xs:Array Keyed} {b n:Nat} (sg:Sg c xs b (b+n)) {i j:Nat} (hij:i<=j) (hj:j<n) (h:beyB c lf kk xs (b+j)=true):beyB c lf kk xs (b+i)=true:=by
  have l:=sg (b+i) (b+j) (by omega) (by omega) (by omega)
  unfold beyB at h ⊢
  cases lf with
  | true=>exact o.tr_lt l h
  | false=>
    simp only [Bool.false_eq_true,if_false,Bool.not_eq_true'] at h ⊢
    exact o.tr l h
theorem Qav {st:SortSt} {lf:Bool} {kk:Keyed} {xs:Array Keyed} {b n hint:Nat} {Q:Option Nat->SortSt->Prop} (hA:Asks prog w A s κ a₀ c) (hk:kindOf st=κ) (hkey:kk∈a₀.toList) (harr:∀ p∈xs.toList,p∈a₀.toList) (hb:b+n<=xs.size) (hh:hint<n) (sg:Sg c xs b (b+n))
    (h:∀ k,k<=n->(∀ i,i<k->beyB c lf kk xs (b+i)=true)->(∀ i,k<=i->i<n->beyB c lf kk xs (b+i)=false)->Q (some k) st):wpS (model prog w) A E s (QbD lf kk xs b n hint) Q st:=by
  have bey:∀ (i:Nat) (Q':Option Bool->SortSt->Prop),i<n->Q' (some (beyB c lf kk xs (b+i))) st->wpS (model prog w) A E s (do
      let x <- elem' xs (b+i)
      if lf then lt' x kk else return (<- lt' kk x).map (!·)) Q' st:=fun i Q' hi hq=>by
    have hs:b+i<xs.size:=by omega
    refine wpS_bind (Qab hs ?_)
    have pm:=harr _ (memL hs)
    unfold beyB at hq
    cases lf with
    | true=>exact Qeq hA hk pm hkey hq
    | false=>exact wpS_bind (Qeq hA hk hkey pm (wpS_pure hq))
  have mono:∀ {i j:Nat},i<=j->j<n->beyB c lf kk xs (b+j)=true->beyB c lf kk xs (b+i)=true:=fun hij hj h=>QkT hA.ord sg hij hj h
  have monoF:∀ {i j:Nat},i<=j->j<n->beyB c lf kk xs (b+i)=false->beyB c lf kk xs (b+j)=false:=fun {i j} hij hj h=>by
    cases e:beyB c lf kk xs (b+j) with
    | false=>rfl
    | true=>rw [mono hij hj e] at h;cases h
  rw [Qg0]
  dsimp only
  refine wpS_bind (bey hint _ hh ?_)
  cases hr:beyB c lf kk xs (b+hint) with
  | true=>
    dsimp only
    rw [if_pos rfl]
    refine wpS_bind (wpS_mono (wpS_forRange (I:=fun x z st'=>st'=st/\∃ l o,z=(none,l,o)/\l<o/\x+1<=o/\hint+l<n/\beyB c lf kk xs (b+(hint+l))=true)
      (Q:=fun z st'=>st'=st/\∃ l o,z=(none,l,o)/\l<o/\hint+l<n/\beyB c lf kk xs (b+(hint+l))=true/\(hint+o<n->beyB c lf kk xs (b+(hint+o))=false)) ?step ?fin ⟨rfl,0,1,rfl,by omega,by omega,by omega,hr⟩) ?post)
    case fin=>
      rintro z st' ⟨rfl,l,o,rfl,h1,h2,h3,h4⟩
      exact ⟨rfl,l,o,rfl,h1,h3,h4,fun h5=>by omega⟩
    case step=>
      rintro x z st' _ hx ⟨rfl,l,o,rfl,h1,h2,h3,h4⟩
      dsimp only
      by_cases g:o≥n - hint
      · rw [if_pos g]
        exact wpS_pure ⟨rfl,l,o,rfl,h1,h3,h4,fun h5=>by omega⟩
      · rw [if_neg g]
        refine wpS_bind (bey (hint+o) _ (by omega) ?_)
        cases e:beyB c lf kk xs (b+(hint+o)) with
        | true=>exact wpS_pure ⟨rfl,o,2*o+1,rfl,by omega,by omega,by omega,e⟩
        | false=>exact wpS_pure ⟨rfl,l,o,rfl,h1,h3,h4,fun _=>e⟩
    case post=>
      rintro z st' ⟨rfl,l,o,rfl,h1,h3,h4,h5⟩
      dsimp only
      refine wpS_bind (wpS_mono (wpS_forRange (I:=fun x z st''=>st''=st'/\∃ u v,z=(none,u,v)/\v<=n/\u<=v/\v - u<=n - x/\(∀ i,i<u->beyB c lf kk xs (b+i)=true)/\(∀ i,v<=i->i<n->beyB c lf kk xs (b+i)=false))
        (Q:=fun z st''=>st''=st'/\∃ v,z=(none,v,v)/\v<=n/\(∀ i,i<v->beyB c lf kk xs (b+i)=true)/\(∀ i,v<=i->i<n->beyB c lf kk xs (b+i)=false)) ?step2 ?fin2 ?init2) ?post2)
      case init2=>
        refine ⟨rfl,_,_,rfl,by omega,by omega,by omega,fun i hi=>mono (by omega) h3 h4,fun i hi hn=>?_⟩
        exact monoF (i:=hint+o) (by omega) hn (h5 (by omega))
      case fin2=>
        rintro z st'' ⟨rfl,u,v,rfl,g1,g2,g3,g4,g5⟩
        have:u=v:=by omega
        subst this
        exact ⟨rfl,u,rfl,g1,g4,g5⟩
      case step2=>
        rintro x z st'' _ hx ⟨rfl,u,v,rfl,g1,g2,g3,g4,g5⟩
        dsimp only
        by_cases g:u≥v
        · rw [if_pos g]
          have:u=v:=by omega
          subst this
          exact wpS_pure ⟨rfl,u,rfl,g1,g4,g5⟩
        · rw [if_neg g]
          refine wpS_bind (bey (u+(v - u) / 2) _ (by omega) ?_)
          cases e:beyB c lf kk xs (b+(u+(v - u) / 2)) with
          | true=>exact wpS_pure ⟨rfl,_,_,rfl,g1,by omega,by omega,fun i hi=>mono (by omega) (by omega) e,g5⟩
          | false=>exact wpS_pure ⟨rfl,_,_,rfl,by omega,by omega,by omega,g4,fun i hi hn=>monoF hi hn e⟩
      case post2=>
        rintro z st'' ⟨rfl,v,rfl,g1,g4,g5⟩
        exact wpS_pure (h v g1 g4 g5)
  | false=>
    dsimp only
    rw [if_neg (by decide)]
    refine wpS_bind (wpS_mono (wpS_forRange (I:=fun x z st'=>st'=st/\∃ l o,z=(none,l,o)/\l<o/\x+1<=o/\l<=hint/\beyB c lf kk xs (b+(hint - l))=false)
      (Q:=fun z st'=>st'=st/\∃ l o,z=(none,l,o)/\l<o/\l<=hint/\beyB c lf kk xs (b+(hint - l))=false/\(o<=hint->beyB c lf kk xs (b+(hint - o))=true)) ?step ?fin ⟨rfl,0,1,rfl,by omega,by omega,by omega,hr⟩) ?post)
    case fin=>
      rintro z st' ⟨rfl,l,o,rfl,h1,h2,h3,h4⟩
      exact ⟨rfl,l,o,rfl,h1,h3,h4,fun h5=>by omega⟩
    case step=>
      rintro x z st' _ hx ⟨rfl,l,o,rfl,h1,h2,h3,h4⟩
      dsimp only
      by_cases g:o≥hint+1
      · rw [if_pos g]
        exact wpS_pure ⟨rfl,l,o,rfl,h1,h3,h4,fun h5=>by omega⟩
      · rw [if_neg g]
        refine wpS_bind (bey (hint - o) _ (by omega) ?_)
        cases e:beyB c lf kk xs (b+(hint - o)) with
        | false=>exact wpS_pure ⟨rfl,o,2*o+1,rfl,by omega,by omega,by omega,e⟩
        | true=>exact wpS_pure ⟨rfl,l,o,rfl,h1,h3,h4,fun _=>e⟩
    case post=>
      rintro z st' ⟨rfl,l,o,rfl,h1,h3,h4,h5⟩
      dsimp only
      refine wpS_bind (wpS_mono (wpS_forRange (I:=fun x z st''=>st''=st'/\∃ u v,z=(none,u,v)/\v<=n/\u<=v/\v - u<=n - x/\(∀ i,i<u->beyB c lf kk xs (b+i)=true)/\(∀ i,v<=i->i<n->beyB c lf kk xs (b+i)=false))
        (Q:=fun z st''=>st''=st'/\∃ v,z=(none,v,v)/\v<=n/\(∀ i,i<v->beyB c lf kk xs (b+i)=true)/\(∀ i,v<=i->i<n->beyB c lf kk xs (b+i)=false)) ?step2 ?fin2 ?init2) ?post2)
      case init2=>
        refine ⟨rfl,_,_,rfl,by omega,by omega,by omega,fun i hi=>?_,fun i hi hn=>monoF hi hn h4⟩
        exact mono (j:=hint - o) (by omega) (by omega) (h5 (by omega))
      case fin2=>
        rintro z st'' ⟨rfl,u,v,rfl,g1,g2,g3,g4,g5⟩
        have:u=v:=by omega
        subst this
        exact ⟨rfl,u,rfl,g1,g4,g5⟩
      case step2=>
        rintro x z st'' _ hx ⟨rfl,u,v,rfl,g1,g2,g3,g4,g5⟩
        dsimp only
        by_cases g:u≥v
        · rw [if_pos g]
          have:u=v:=by omega
          subst this
          exact wpS_pure ⟨rfl,u,rfl,g1,g4,g5⟩
        · rw [if_neg g]
          refine wpS_bind (bey (u+(v - u) / 2) _ (by omega) ?_)
          cases e:beyB c lf kk xs (b+(u+(v - u) / 2)) with
          | true=>exact wpS_pure ⟨rfl,_,_,rfl,g1,by omega,by omega,fun i hi=>mono (by omega) (by omega) e,g5⟩
          | false=>exact wpS_pure ⟨rfl,_,_,rfl,by omega,by omega,by omega,g4,fun i hi hn=>monoF hi hn e⟩
      case post2=>
        rintro z st'' ⟨rfl,v,rfl,g1,g4,g5⟩
        exact wpS_pure (h v g1 g4 g5)
structure Fb (κ:SortKind) (a₀:Array Keyed) (lo:Nat) (st st':SortSt):Prop where
  sb:SB κ a₀ st'
  pend:pendingOf st'=pendingOf st
  low:∀ k,k<lo->kx (arrOf st') k=kx (arrOf st) k
theorem Fb.refl {st:SortSt} {lo:Nat} (h:SB κ a₀ st):Fb κ a₀ lo st st:=⟨h,rfl,fun _ _=>rfl⟩
theorem QiA {xs:Array Keyed} {i j:Nat} (hj:j<=xs.size) (k:Nat):kx (mirror xs i j ((j - i) / 2)) k=if i<=k/\k<j then kx xs (i+j - 1 - k) else kx xs k:=by
  have e:=getElem?_mirror_all (i:=i) hj k
  by_cases h1:i<=k/\k<j
  · rw [if_pos h1] at e ⊢;exact QfC e
  · rw [if_neg h1] at e ⊢;exact QfC e
theorem Qbz {st:SortSt} {i j lo:Nat} {st0:SortSt} {Q:Unit->SortSt->Prop} (fb:Fb κ a₀ lo st0 st) (hi:lo<=i) (hj:j<=a₀.size)
    (h:∀ st',Fb κ a₀ lo st0 st'->(∀ k,kx (arrOf st') k=if i<=k/\k<j then kx (arrOf st) (i+j - 1 - k) else kx (arrOf st) k)->Q () st'):wpS (model prog w) A E s (reverseSlice' i j) Q st:=by
  rw [reverseSlice'_eq]
  have km:∀ k,kx (mirror (arrOf st) i j ((j - i) / 2)) k=if i<=k/\k<j then kx (arrOf st) (i+j - 1 - k) else kx (arrOf st) k:=fun k=>QiA (by rw [fb.sb.size];exact hj) k
  refine wpS_modify (h _ ⟨⟨(mirror_perm _ _ _ _).trans fb.sb.perm,fb.sb.kind,fb.sb.failed⟩,fb.pend,fun k hk=>?_⟩ km)
  show kx (mirror (arrOf st) i j ((j - i) / 2)) k=_
  rw [km,if_neg (by omega)]
  exact fb.low k hk
def ascL (lo a nr:Nat):StateT SortSt Sem (Option (Option Nat)×Nat):=
  forIn [a:nr] ((none,a):Option (Option Nat)×Nat) fun _ z=>do
    let r <- ltAt' (lo+z.2) (lo+z.2 - 1)
    match r with
    | some b=>if b=true then pure (ForInStep.done (none,z.2)) else pure (ForInStep.yield (none,z.2+1))
    | _=>pure (ForInStep.done (some none,z.2))
theorem QcT {st:SortSt} {lo a nr:Nat} {Q:Option (Option Nat)×Nat->SortSt->Prop} (hA:Asks prog w A s κ a₀ c) (hn:lo+nr<=a₀.size) (h1:1<=a) (han:a<=nr) (hB:SB κ a₀ st) (sg:Sg c (arrOf st) lo (lo+a))
    (h:∀ n,a<=n->n<=nr->Sg c (arrOf st) lo (lo+n)->(n=nr∨c (kx (arrOf st) (lo+n)) (kx (arrOf st) (lo+n - 1))=true)->Q (none,n) st):wpS (model prog w) A E s (ascL lo a nr) Q st:=by
  unfold ascL
  refine wpS_forRange (I:=fun x z st'=>st'=st/\z=(none,x)/\Sg c (arrOf st) lo (lo+x)) ?step ?fin ⟨rfl,rfl,sg⟩
  case fin=>
    rintro z st' ⟨rfl,rfl,hs⟩
    rw [show max a nr=nr by omega] at hs ⊢
    exact h nr han (Nat.le_refl _) hs (.inl rfl)
  case step=>
    rintro x z st' hax hxn ⟨rfl,rfl,hs⟩
    dsimp only
    refine wpS_bind (QcR hA hB (by omega) (by omega) ?_)
    cases e:c (kx (arrOf st') (lo+x)) (kx (arrOf st') (lo+x - 1)) with
    | true=>exact wpS_pure (h x hax (by omega) hs (.inr e))
    | false=>
      refine wpS_pure ⟨rfl,rfl,fun i j hi hij hj=>?_⟩
      by_cases z:j<lo+x
      · exact hs i j hi hij z
      · have zj:j=lo+x:=by omega
        subst zj
        by_cases zi:i=lo+x
        · subst zi;exact hA.ord.irr _
        · exact hA.ord.tr (hs i (lo+x - 1) hi (by omega) (by omega)) e
def Ng (c:Keyed->Keyed->Bool) (xs:Array Keyed) (lo hi:Nat):Prop:=∀ i j,lo<=i->i<=j->j<hi->le c (kx xs j) (kx xs i)
def Eqv (c:Keyed->Keyed->Bool) (x y:Keyed):Prop:=le c x y/\le c y x
theorem Eqv.ng (o:Ord c) {xs ys:Array Keyed} {lo hi:Nat} (h:∀ k,lo<=k->k<hi->Eqv c (kx ys k) (kx xs k)) (n:Ng c xs lo hi):Ng c ys lo hi:=fun i j hi' hij hj=>
  o.tr (h j (by omega) hj).1 (o.tr (n i j hi' hij hj) (h i hi' (by omega)).2)
theorem QdX (o:Ord c) {xs ys:Array Keyed} {u v:Nat} (h:∀ k,kx ys k=if u<=k/\k<v then kx xs (u+v - 1 - k) else kx xs k) (q:∀ k,u<=k->k<v->Eqv c (kx xs k) (kx xs (v - 1))) (k:Nat):Eqv c (kx ys k) (kx xs k):=by
  rw [h k]
  split
  · rename_i z
    have a:=q (u+v - 1 - k) (by omega) (by omega)
    have b:=q k z.1 z.2
    exact ⟨o.tr a.1 b.2,o.tr b.1 a.2⟩
  · exact ⟨o.irr _,o.irr _⟩
def descL (lo n nr:Nat):StateT SortSt Sem (Option (Option Nat)×Nat×Nat):=
  forIn [n:nr] ((none,n,0):Option (Option Nat)×Nat×Nat) fun _ z=>do
    let r <- ltAt' (lo+z.2.1) (lo+z.2.1 - 1)
    match r with
    | some b=>
      if b=true then
        if z.2.2 > 0 then do
          reverseSlice' (lo+z.2.1 - (z.2.2+1)) (lo+z.2.1)
          pure (ForInStep.yield (none,z.2.1+1,0))
        else pure (ForInStep.yield (none,z.2.1+1,0))
      else do
        let r <- ltAt' (lo+z.2.1 - 1) (lo+z.2.1)
        match r with
        | some b=>
          if b=true then pure (ForInStep.done (none,z.2.1,z.2.2))
          else pure (ForInStep.yield (none,z.2.1+1,z.2.2+1))
        | _=>pure (ForInStep.done (some none,z.2.1,z.2.2))
    | _=>pure (ForInStep.done (some none,z.2.1,z.2.2))
theorem Qc7 (o:Ord c) {xs:Array Keyed} {lo n:Nat} (h:Ng c xs lo (lo+n)) (h1:1<=n) (l:le c (kx xs (lo+n)) (kx xs (lo+n - 1))):Ng c xs lo (lo+(n+1)):=fun i j hi hij hj=>by
  by_cases z:j<lo+n
  · exact h i j hi hij z
  · have zj:j=lo+n:=by omega
    subst zj
    by_cases zi:i=lo+n
    · subst zi;exact o.irr _
    · exact o.tr l (h i (lo+n - 1) hi (by omega) (by omega))
theorem QfS {st st0:SortSt} {lo n nr:Nat} {Q:Option (Option Nat)×Nat×Nat->SortSt->Prop} (hA:Asks prog w A s κ a₀ c) (hn:lo+nr<=a₀.size) (h1:1<=n) (han:n<=nr) (fb:Fb κ a₀ lo st0 st) (ng:Ng c (arrOf st) lo (lo+n))
    (h:∀ m q st',n<=m->m<=nr->Fb κ a₀ lo st0 st'->Ng c (arrOf st') lo (lo+m)->q+1<=m->(∀ k,lo+m - (q+1)<=k->k<lo+m->Eqv c (kx (arrOf st') k) (kx (arrOf st') (lo+m - 1)))->Q (none,m,q) st'):wpS (model prog w) A E s (descL lo n nr) Q st:=by
  unfold descL
  have ir:∀ x,Eqv c x x:=fun x=>⟨hA.ord.irr x,hA.ord.irr x⟩
  refine wpS_forRange (I:=fun x z st'=>∃ q,z=(none,x,q)/\Fb κ a₀ lo st0 st'/\Ng c (arrOf st') lo (lo+x)/\q+1<=x/\(∀ k,lo+x - (q+1)<=k->k<lo+x->Eqv c (kx (arrOf st') k) (kx (arrOf st') (lo+x - 1)))) ?step ?fin
    ⟨0,rfl,fb,ng,h1,fun k k1 k2=>by rw [show k=lo+n - 1 by omega];exact ir _⟩
  case fin=>
    rintro z st' ⟨q,rfl,f,g,g1,g2⟩
    rw [show max n nr=nr by omega] at g g1 g2 ⊢
    exact h nr q st' han (Nat.le_refl _) f g g1 g2
  case step=>
    rintro x z st' hax hxn ⟨q,rfl,f,g,g1,g2⟩
    dsimp only
    refine wpS_bind (QcR hA f.sb (by omega) (by omega) ?_)
    cases e:c (kx (arrOf st') (lo+x)) (kx (arrOf st') (lo+x - 1)) with
    | true=>
      dsimp only
      rw [if_pos rfl]
      by_cases zq:q > 0
      · rw [if_pos zq]
        refine wpS_bind (Qbz f (by omega) (by omega) fun st2 f2 km=>wpS_pure ⟨0,rfl,f2,?_,by omega,fun k k1 k2=>by rw [show k=lo+(x+1) - 1 by omega];exact ir _⟩)
        refine Eqv.ng hA.ord (xs:=arrOf st') (fun k _ _=>QdX hA.ord km g2 k) (Qc7 hA.ord g (by omega) (hA.ord.lt_le e))
      · rw [if_neg zq]
        exact wpS_pure ⟨0,rfl,f,Qc7 hA.ord g (by omega) (hA.ord.lt_le e),by omega,fun k k1 k2=>by rw [show k=lo+(x+1) - 1 by omega];exact ir _⟩
    | false=>
      dsimp only
      rw [if_neg (by decide)]
      refine wpS_bind (QcR hA f.sb (by omega) (by omega) ?_)
      cases e2:c (kx (arrOf st') (lo+x - 1)) (kx (arrOf st') (lo+x)) with
      | true=>exact wpS_pure (h x q st' hax (by omega) f g g1 g2)
      | false=>
        refine wpS_pure ⟨q+1,rfl,f,Qc7 hA.ord g (by omega) e2,by omega,fun k k1 k2=>?_⟩
        rw [show lo+(x+1) - 1=lo+x by omega]
        by_cases zk:k=lo+x
        · subst zk;exact ir _
        · have a:=g2 k (by omega) (by omega)
          exact ⟨hA.ord.tr a.1 e,hA.ord.tr e2 a.2⟩
theorem Qkm {xs ys:Array Keyed} {lo hi:Nat} (h:∀ k,kx ys k=if lo<=k/\k<hi then kx xs (lo+hi - 1 - k) else kx xs k) (n:Ng c xs lo hi):Sg c ys lo hi:=fun i j hi' hij hj=>by
  rw [h i,h j,if_pos (by omega),if_pos (by omega)]
  exact n _ _ (by omega) (by omega) (by omega)
theorem QdJ {st:SortSt} {lo nr:Nat} {Q:Option Nat->SortSt->Prop} (hA:Asks prog w A s κ a₀ c) (hn:lo+nr<=a₀.size) (h1:1<=nr) (hB:SB κ a₀ st)
    (h:∀ m st',Fb κ a₀ lo st st'->1<=m->m<=nr->Sg c (arrOf st') lo (lo+m)->Q (some m) st'):wpS (model prog w) A E s (countRun' lo nr) Q st:=by
  rw [countRun'_eq]
  dsimp only
  refine wpS_bind (QcT (lo:=lo) (a:=1) (nr:=nr) hA hn (Nat.le_refl _) h1 hB (fun i j hi hij hj=>by rw [show i=j by omega];exact hA.ord.irr _) fun n n1 n2 sg hor=>?_)
  dsimp only
  by_cases zn:n=nr
  · rw [if_pos (by simpa using zn)]
    exact wpS_pure (h n st (Fb.refl hB) n1 n2 sg)
  · rw [if_neg (by simpa using zn)]
    have hlt:=hor.resolve_left zn
    by_cases zg:n > 1
    · rw [if_pos zg]
      refine wpS_bind (QcR hA hB (by omega) (by omega) ?_)
      cases e:c (kx (arrOf st) lo) (kx (arrOf st) (lo+n - 1)) with
      | true=>exact wpS_pure (h n st (Fb.refl hB) n1 n2 sg)
      | false=>
        have all:∀ k,lo<=k->k<lo+n->Eqv c (kx (arrOf st) k) (kx (arrOf st) (lo+n - 1)):=fun k k1 k2=>
          ⟨sg k (lo+n - 1) k1 (by omega) (by omega),hA.ord.tr e (sg lo k (Nat.le_refl _) k1 k2)⟩
        dsimp only
        rw [if_neg (by decide)]
        refine wpS_bind (Qbz (Fb.refl hB) (Nat.le_refl _) (by omega) fun st2 f2 km=>?_)
        have ng2:Ng c (arrOf st2) lo (lo+(n+1)):=by
          refine Eqv.ng hA.ord (xs:=arrOf st) (fun k k1 k2=>QdX hA.ord km all k) (Qc7 hA.ord (fun i j i1 ij j1=>?_) n1 (hA.ord.lt_le hlt))
          have a:=all i i1 (by omega)
          have b:=all j (by omega) j1
          exact hA.ord.tr b.1 a.2
        refine wpS_bind (wpS_lift (wpAny_rule ⟨rfl,?_⟩))
        refine wpS_bind (QfS (lo:=lo) (n:=n+1) (nr:=nr) hA hn (by omega) (by omega) f2 (ng2) fun m q st' m1 m2 f5 g g1 g2=>?_)
        dsimp only
        by_cases zq:q > 0
        · rw [if_pos zq]
          refine wpS_bind (Qbz f5 (by omega) (by omega) fun st3 f3 km3=>?_)
          refine wpS_bind (Qbz f3 (Nat.le_refl _) (by omega) fun st4 f4 km4=>?_)
          refine wpS_bind (QcT (lo:=lo) (a:=m) (nr:=nr) hA hn (by omega) m2 f4.sb (Qkm km4 (Eqv.ng hA.ord (xs:=arrOf st') (fun k _ _=>QdX hA.ord km3 g2 k) g)) fun k k1 k2 sg4 _=>wpS_pure (h k st4 f4 (by omega) k2 sg4))
        · rw [if_neg zq]
          refine wpS_bind (Qbz f5 (Nat.le_refl _) (by omega) fun st4 f4 km4=>?_)
          refine wpS_bind (QcT (lo:=lo) (a:=m) (nr:=nr) hA hn (by omega) m2 f4.sb (Qkm km4 (g)) fun k k1 k2 sg4 _=>wpS_pure (h k st4 f4 (by omega) k2 sg4))
    · rw [if_neg zg]
      have z1:n=1:=by omega
      subst z1
      refine wpS_bind (wpS_lift (wpAny_rule ⟨rfl,?_⟩))
      refine wpS_bind (QfS (lo:=lo) (n:=1+1) (nr:=nr) hA hn (by omega) (by omega) (Fb.refl hB) (Qc7 hA.ord (fun i j i1 ij j1=>by rw [show i=j by omega];exact hA.ord.irr _) n1 (hA.ord.lt_le hlt)) fun m q st' m1 m2 f5 g g1 g2=>?_)
      dsimp only
      by_cases zq:q > 0
      · rw [if_pos zq]
        refine wpS_bind (Qbz f5 (by omega) (by omega) fun st3 f3 km3=>?_)
        refine wpS_bind (Qbz f3 (Nat.le_refl _) (by omega) fun st4 f4 km4=>?_)
        refine wpS_bind (QcT (lo:=lo) (a:=m) (nr:=nr) hA hn (by omega) m2 f4.sb (Qkm km4 (Eqv.ng hA.ord (xs:=arrOf st') (fun k _ _=>QdX hA.ord km3 g2 k) g)) fun k k1 k2 sg4 _=>wpS_pure (h k st4 f4 (by omega) k2 sg4))
      · rw [if_neg zq]
        refine wpS_bind (Qbz f5 (Nat.le_refl _) (by omega) fun st4 f4 km4=>?_)
        refine wpS_bind (QcT (lo:=lo) (a:=m) (nr:=nr) hA hn (by omega) m2 f4.sb (Qkm km4 (g)) fun k k1 k2 sg4 _=>wpS_pure (h k st4 f4 (by omega) k2 sg4))
theorem QiB {xs:Array Keyed} {src d:Nat} (hs:src<xs.size) (hd:d<=src) (k:Nat):kx (bubble xs src d) k=if k=src - d then kx xs src else if src - d<k/\k<=src then kx xs (k - 1) else kx xs k:=by
  have e:=getElem?_bubble hs d hd k
  by_cases h1:k=src - d
  · rw [if_pos h1] at e ⊢;exact QfC e
  · rw [if_neg h1] at e ⊢
    by_cases h2:src - d<k/\k<=src
    · rw [if_pos h2] at e ⊢;exact QfC e
    · rw [if_neg h2] at e ⊢;exact QfC e
theorem QcS {st:SortSt} {lo n ok:Nat} {Q:Bool->SortSt->Prop} (hA:Asks prog w A s κ a₀ c) (hn:lo+n<=a₀.size) (h1:1<=ok) (hok:ok<=n) (hB:SB κ a₀ st) (sg:Sg c (arrOf st) lo (lo+ok))
    (h:∀ st',Fb κ a₀ lo st st'->Sg c (arrOf st') lo (lo+n)->Q true st'):wpS (model prog w) A E s (binarySort' lo n ok) Q st:=by
  rw [binarySort'_eq]
  refine wpS_bind (wpS_mono (wpS_forRange (I:=fun k z st'=>z=(none,())/\Fb κ a₀ lo st st'/\Sg c (arrOf st') lo (lo+min k n)) (Q:=fun z st'=>z=(none,())/\Fb κ a₀ lo st st'/\Sg c (arrOf st') lo (lo+n)) ?step ?fin ⟨rfl,Fb.refl hB,by rw [show min (max ok 1) n=ok by omega];exact sg⟩) ?post)
  case post=>
    rintro z st' ⟨rfl,f,g⟩
    exact wpS_pure (h st' f g)
  case fin=>
    rintro z st' ⟨rfl,f,g⟩
    rw [show min (max (max ok 1) n) n=n by omega] at g
    exact ⟨rfl,f,g⟩
  case step=>
    rintro k z st' hak hkn ⟨rfl,f,g⟩
    rw [show min k n=k by omega] at g
    refine wpS_bind (wpS_mono (wpS_forRange (I:=fun x z st''=>st''=st'/\∃ l r,z=(none,l,r)/\l<=r/\r<=k/\r - l<=k - x/\(∀ i,i<l->le c (kx (arrOf st') (lo+i)) (kx (arrOf st') (lo+k)))/\(∀ i,r<=i->i<k->le c (kx (arrOf st') (lo+k)) (kx (arrOf st') (lo+i))))
      (Q:=fun z st''=>st''=st'/\∃ l r,z=(none,l,r)/\l<=k/\(∀ i,i<l->le c (kx (arrOf st') (lo+i)) (kx (arrOf st') (lo+k)))/\(∀ i,l<=i->i<k->le c (kx (arrOf st') (lo+k)) (kx (arrOf st') (lo+i)))) ?istep ?ifin ⟨rfl,0,k,rfl,by omega,by omega,by omega,fun i hi=>by omega,fun i a b=>by omega⟩) ?ipost)
    case ifin=>
      rintro z st'' ⟨rfl,l,r,rfl,h1,h2,h3,h4,h5⟩
      have:l=r:=by omega
      subst this
      exact ⟨rfl,l,l,rfl,h2,h4,h5⟩
    case istep=>
      rintro x z st'' _ hx ⟨rfl,l,r,rfl,h1,h2,h3,h4,h5⟩
      dsimp only
      by_cases zz:l≥r
      · rw [if_pos zz]
        have:l=r:=by omega
        subst this
        exact wpS_pure ⟨rfl,l,l,rfl,h2,h4,h5⟩
      · rw [if_neg zz]
        refine wpS_bind (QcR hA f.sb (by omega) (by omega) ?_)
        cases e:c (kx (arrOf st'') (lo+k)) (kx (arrOf st'') (lo+(l+r) / 2)) with
        | true=>exact wpS_pure ⟨rfl,_,_,rfl,by omega,by omega,by omega,h4,fun i a b=>hA.ord.tr (hA.ord.lt_le e) (g _ _ (by omega) (by omega) (by omega))⟩
        | false=>exact wpS_pure ⟨rfl,_,_,rfl,by omega,by omega,by omega,fun i a=>hA.ord.tr (g (lo+i) (lo+(l+r) / 2) (by omega) (by omega) (by omega)) e,h5⟩
    case ipost=>
      rintro z st'' ⟨rfl,l,r,rfl,h2,h4,h5⟩
      dsimp only
      rw [moveDown'_eq]
      have hs:lo+k<(arrOf st'').size:=by rw [f.sb.size];omega
      have kb:∀ j,kx (bubble (arrOf st'') (lo+k) (lo+k - (lo+l))) j=if j=lo+l then kx (arrOf st'') (lo+k) else if lo+l<j/\j<=lo+k then kx (arrOf st'') (j - 1) else kx (arrOf st'') j:=fun j=>by
        rw [QiB hs (by omega),show lo+k - (lo+k - (lo+l))=lo+l by omega]
      refine wpS_bind (wpS_modify (wpS_pure ⟨rfl,⟨⟨(bubble_perm _ _ _).trans f.sb.perm,f.sb.kind,f.sb.failed⟩,f.pend,fun j hj=>?_⟩,fun i j hi hij hj=>?_⟩))
      · show kx (bubble (arrOf st'') (lo+k) (lo+k - (lo+l))) j=_
        rw [kb,if_neg (by omega),if_neg (by omega)]
        exact f.low j hj
      · show le c (kx (bubble (arrOf st'') (lo+k) (lo+k - (lo+l))) i) (kx (bubble (arrOf st'') (lo+k) (lo+k - (lo+l))) j)
        rw [kb,kb]
        have low:∀ i,lo<=i->i<lo+l->le c (kx (arrOf st'') i) (kx (arrOf st'') (lo+k)):=fun i a b=>by have:=h4 (i - lo) (by omega);rwa [show lo+(i - lo)=i by omega] at this
        have high:∀ i,lo+l<=i->i<lo+k->le c (kx (arrOf st'') (lo+k)) (kx (arrOf st'') i):=fun i a b=>by have:=h5 (i - lo) (by omega) (by omega);rwa [show lo+(i - lo)=i by omega] at this
        repeat' split
        all_goals first
          | (exfalso;omega)
          | exact hA.ord.irr _
          | exact low _ (by omega) (by omega)
          | exact high _ (by omega) (by omega)
          | exact g _ _ (by omega) (by omega) (by omega)
end
def QaK:Nat->StateT SortSt Sem Unit:=sortPriv% PySem.Builtin.setMinGallop
theorem QcJ (g:Nat):QaK g=modify fun z=>SortSt.mk' (kindOf z) (arrOf z) (pendingOf z) g (failedOf z):=rfl
def Qd6:Array Keyed->Array Keyed->StateT SortSt Sem (Array Keyed):=sortPriv% PySem.Builtin.mergeLo
def Qd7:Array Keyed->Array Keyed->StateT SortSt Sem (Array Keyed):=sortPriv% PySem.Builtin.mergeHi
theorem Qfw (a b:Array Keyed):Qd6 a b=(do
  rule "list.sort.merge-lo"
  let tot:=a.size+b.size
  let dn (r:Array Keyed) (i j:Nat):=r++a.extract i a.size++b.extract j b.size
  let la (r:Array Keyed) (i j:Nat):=r++b.extract j b.size++a.extract i a.size
  let mut r:Array Keyed:=#[<- elem' b 0]
  let mut i:=0
  let mut j:=1
  if j == b.size then return dn r i j
  if i+1 == a.size then return la r i j
  let mut mg:=gallopOf (<- get)
  for _ in [0:tot] do
    let mut p:=0
    let mut q:=0
    for _ in [0:tot] do
      let some t <- lt' (<- elem' b j) (<- elem' a i) | return dn r i j
      if t then
        r:=r.push (<- elem' b j);j:=j+1;q:=q+1;p:=0
        if j == b.size then return dn r i j
        if q≥mg then break
      else
        r:=r.push (<- elem' a i);i:=i+1;p:=p+1;q:=0
        if i+1 == a.size then return la r i j
        if p≥mg then break
    rule "list.sort.gallop"
    mg:=mg+1
    for _ in [0:tot] do
      if mg > 1 then mg:=mg - 1
      QaK mg
      let some k <- QbD false (<- elem' b j) a i (a.size - i) 0 | return dn r i j
      p:=k
      if k > 0 then
        r:=r++a.extract i (i+k);i:=i+k
        if i+1 == a.size then return la r i j
        if i == a.size then return dn r i j
      r:=r.push (<- elem' b j);j:=j+1
      if j == b.size then return dn r i j
      let some k <- QbD true (<- elem' a i) b j (b.size - j) 0 | return dn r i j
      q:=k
      if k > 0 then
        r:=r++b.extract j (j+k);j:=j+k
        if j == b.size then return dn r i j
      r:=r.push (<- elem' a i);i:=i+1
      if i+1 == a.size then return la r i j
      if p<7&&q<7 then break
    mg:=mg+1
    QaK mg
  unsupported "internal:list.sort.merge-bound"):=rfl
section
variable {c:Keyed->Keyed->Bool}
abbrev Pw (c:Keyed->Keyed->Bool) (l:List Keyed):Prop:=l.Pairwise (le c)
theorem Qlx {r ch x y:List Keyed} (h1:Pw c (r++(ch++x))) (h2:Pw c (r++y)) (h:∀ u∈ch,∀ v∈y,le c u v):Pw c ((r++ch)++x)/\Pw c ((r++ch)++y):=by
  have h1':Pw c ((r++ch)++x):=by rw [List.append_assoc];exact h1
  refine ⟨h1',?_⟩
  have g:=List.pairwise_append.mp h1'
  have g2:=List.pairwise_append.mp h2
  refine List.pairwise_append.mpr ⟨g.1,g2.2.1,fun u hu v hv=>?_⟩
  rcases List.mem_append.mp hu with z | z
  · exact g2.2.2 u z v hv
  · exact h u z v hv
theorem Qbi {xs:Array Keyed} {i:Nat} (h:i<xs.size):xs.toList[i]? = some (kx xs i):=by rw [Array.getElem?_toList];exact Qm3 h
theorem QiU {xs:Array Keyed} {i:Nat} (h:i<xs.size):xs.toList.drop i=kx xs i::xs.toList.drop (i+1):=by
  have hl:i<xs.toList.length:=by rw [Array.length_toList];exact h
  rw [List.drop_eq_getElem_cons hl]
  have:=Qbi h
  rw [List.getElem?_eq_getElem hl] at this
  rw [Option.some.inj this]
theorem Qbv {xs:Array Keyed} {i:Nat} {p:Keyed} (h:p∈xs.toList.drop i):∃ k,i<=k/\k<xs.size/\p=kx xs k:=by
  obtain ⟨n,hn⟩:=List.mem_iff_getElem?.mp h
  rw [List.getElem?_drop] at hn
  have hl:=(List.getElem?_eq_some_iff.mp hn).1
  rw [Array.length_toList] at hl
  rw [Qbi hl] at hn
  exact ⟨i+n,by omega,hl,(Option.some.inj hn).symm⟩
theorem QcQ (xs:Array Keyed) (i k:Nat):(xs.extract i (i+k)).toList=(xs.toList.drop i).take k:=by
  rw [Array.toList_extract,List.extract_eq_take_drop,Nat.add_sub_cancel_left]
theorem Qcx (xs:Array Keyed) (i:Nat):(xs.extract i xs.size).toList=xs.toList.drop i:=by
  rw [Array.toList_extract,List.extract_eq_take_drop,List.take_of_length_le (by rw [List.length_drop,Array.length_toList];exact Nat.le_refl _)]
theorem Qc9 {xs:Array Keyed} {i k:Nat} {p:Keyed} (h:p∈(xs.toList.drop i).take k):∃ t,t<k/\i+t<xs.size/\p=kx xs (i+t):=by
  obtain ⟨n,hn⟩:=List.mem_iff_getElem?.mp h
  rw [List.getElem?_take] at hn
  split at hn
  · rename_i z
    rw [List.getElem?_drop] at hn
    have hl:=(List.getElem?_eq_some_iff.mp hn).1
    rw [Array.length_toList] at hl
    rw [Qbi hl] at hn
    exact ⟨n,z,hl,(Option.some.inj hn).symm⟩
  · cases hn
structure MI (c:Keyed->Keyed->Bool) (a b r:Array Keyed) (i j:Nat):Prop where
  ha:Pw c (r.toList++a.toList.drop i)
  hb:Pw c (r.toList++b.toList.drop j)
  pm:(r.toList++(a.toList.drop i++b.toList.drop j)).Perm (a.toList++b.toList)
def Out (c:Keyed->Keyed->Bool) (a b z:Array Keyed):Prop:=Pw c z.toList/\z.toList.Perm (a.toList++b.toList)
variable {a b r:Array Keyed} {i j k:Nat}
theorem MI.chA (m:MI c a b r i j) (h:∀ t,t<k->i+t<a.size->∀ n,j<=n->n<b.size->le c (kx a (i+t)) (kx b n)):MI c a b (r++a.extract i (i+k)) (i+k) j:=by
  have e:a.toList.drop i=(a.toList.drop i).take k++a.toList.drop (i+k):=by rw [<- List.drop_drop,List.take_append_drop]
  have e2:(r++a.extract i (i+k)).toList=r.toList++(a.toList.drop i).take k:=by rw [Array.toList_append,QcQ]
  have h1:=m.ha
  have pm:=m.pm
  rw [e] at h1 pm
  obtain ⟨g1,g2⟩:=Qlx h1 m.hb fun u hu v hv=>by
    obtain ⟨t,t1,t2,rfl⟩:=Qc9 hu
    obtain ⟨n,n1,n2,rfl⟩:=Qbv hv
    exact h t t1 t2 n n1 n2
  refine ⟨by rw [e2];exact g1,by rw [e2];exact g2,?_⟩
  rw [e2,List.append_assoc,<- List.append_assoc ((a.toList.drop i).take k)]
  exact pm
theorem MI.chB (m:MI c a b r i j) (h:∀ t,t<k->j+t<b.size->∀ n,i<=n->n<a.size->le c (kx b (j+t)) (kx a n)):MI c a b (r++b.extract j (j+k)) i (j+k):=by
  have e:b.toList.drop j=(b.toList.drop j).take k++b.toList.drop (j+k):=by rw [<- List.drop_drop,List.take_append_drop]
  have e2:(r++b.extract j (j+k)).toList=r.toList++(b.toList.drop j).take k:=by rw [Array.toList_append,QcQ]
  have h1:=m.hb
  have pm:=m.pm
  rw [e] at h1 pm
  obtain ⟨g1,g2⟩:=Qlx h1 m.ha fun u hu v hv=>by
    obtain ⟨t,t1,t2,rfl⟩:=Qc9 hu
    obtain ⟨n,n1,n2,rfl⟩:=Qbv hv
    exact h t t1 t2 n n1 n2
  refine ⟨by rw [e2];exact g2,by rw [e2];exact g1,?_⟩
  rw [e2,List.append_assoc]
  refine List.Perm.trans (List.Perm.append_left _ ?_) pm
  rw [<- List.append_assoc,<- List.append_assoc]
  exact List.Perm.append_right _ List.perm_append_comm
theorem Qga {xs:Array Keyed} {i:Nat} (h:i<xs.size):r.push (kx xs i)=r++xs.extract i (i+1):=by
  apply Array.toList_inj.mp
  rw [Array.toList_push,Array.toList_append,QcQ,QiU h]
  rfl
theorem MI.puA (m:MI c a b r i j) (hi:i<a.size) (h:∀ n,j<=n->n<b.size->le c (kx a i) (kx b n)):MI c a b (r.push (kx a i)) (i+1) j:=by
  rw [Qga hi]
  refine m.chA fun t t1 t2=>?_
  have:t=0:=by omega
  subst this
  exact h
theorem MI.puB (m:MI c a b r i j) (hj:j<b.size) (h:∀ n,i<=n->n<a.size->le c (kx b j) (kx a n)):MI c a b (r.push (kx b j)) i (j+1):=by
  rw [Qga hj]
  refine m.chB fun t t1 t2=>?_
  have:t=0:=by omega
  subst this
  exact h
theorem MI.dnB (m:MI c a b r i j) (hj:j=b.size):Out c a b (r++a.extract i a.size++b.extract j b.size):=by
  have e:b.toList.drop j=[]:=List.drop_of_length_le (by rw [Array.length_toList];omega)
  have e2:(r++a.extract i a.size++b.extract j b.size).toList=r.toList++a.toList.drop i:=by rw [Array.toList_append,Array.toList_append,Qcx,Qcx,e,List.append_nil]
  have pm:=m.pm
  rw [e,List.append_nil] at pm
  exact ⟨by rw [e2];exact m.ha,by rw [e2];exact pm⟩
theorem MI.dnA (m:MI c a b r i j) (hi:i=a.size):Out c a b (r++a.extract i a.size++b.extract j b.size):=by
  have e:a.toList.drop i=[]:=List.drop_of_length_le (by rw [Array.length_toList];omega)
  have e2:(r++a.extract i a.size++b.extract j b.size).toList=r.toList++b.toList.drop j:=by rw [Array.toList_append,Array.toList_append,Qcx,Qcx,e,List.append_nil]
  have pm:=m.pm
  rw [e,List.nil_append] at pm
  exact ⟨by rw [e2];exact m.hb,by rw [e2];exact pm⟩
theorem MI.last (m:MI c a b r i j) (hi:i+1=a.size) (p2:∀ k,k<b.size->le c (kx b k) (kx a (a.size - 1))):Out c a b (r++b.extract j b.size++a.extract i a.size):=by
  have e2:(r++b.extract j b.size++a.extract i a.size).toList=(r.toList++b.toList.drop j)++a.toList.drop i:=by rw [Array.toList_append,Array.toList_append,Qcx,Qcx]
  have g:=List.pairwise_append.mp m.ha
  refine ⟨by
    rw [e2]
    refine List.pairwise_append.mpr ⟨m.hb,g.2.1,fun u hu v hv=>?_⟩
    rcases List.mem_append.mp hu with z | z
    · exact g.2.2 u z v hv
    · obtain ⟨n,n1,n2,rfl⟩:=Qbv hv
      obtain ⟨n',n3,n4,rfl⟩:=Qbv z
      rw [show n=a.size - 1 by omega]
      exact p2 n' n4,?_⟩
  rw [e2,List.append_assoc]
  exact List.Perm.trans (List.Perm.append_left _ List.perm_append_comm) m.pm
end
structure Sm (st st':SortSt):Prop where
  kind:kindOf st'=kindOf st
  arr:arrOf st'=arrOf st
  pend:pendingOf st'=pendingOf st
  failed:failedOf st'=failedOf st
theorem Sm.refl (st:SortSt):Sm st st:=⟨rfl,rfl,rfl,rfl⟩
section
variable {prog:Program} {w:World} {A:Around} {E:Value->Shared->Prop} {s:Shared} {a₀:Array Keyed} {κ:SortKind} {c:Keyed->Keyed->Bool}
theorem Qdo {st st0:SortSt} {g:Nat} {Q:Unit->SortSt->Prop} (m:Sm st0 st) (h:∀ st',Sm st0 st'->Q () st'):wpS (model prog w) A E s (QaK g) Q st:=by
  rw [QcJ]
  exact wpS_modify (h _ ⟨m.kind,m.arr,m.pend,m.failed⟩)
theorem Qaj {x y:Nat} (h:x≠y):¬ ((x == y)=true):=fun z=>h (beq_iff_eq.mp z)
theorem Qfb {st:SortSt} {a b:Array Keyed} {Q:Array Keyed->SortSt->Prop} (hA:Asks prog w A s κ a₀ c) (hk:kindOf st=κ) (ma:∀ p∈a.toList,p∈a₀.toList) (mb:∀ p∈b.toList,p∈a₀.toList) (na:1<=a.size) (nb:1<=b.size)
    (sa:Sg c a 0 a.size) (sb:Sg c b 0 b.size) (p1:∀ k,k<a.size->le c (kx b 0) (kx a k)) (p2:∀ k,k<b.size->le c (kx b k) (kx a (a.size - 1))) (h:∀ z st',Sm st st'->Out c a b z->Q z st'):wpS (model prog w) A E s (Qd6 a b) Q st:=by
  have pwl:∀ {xs:Array Keyed},Sg c xs 0 xs.size->Pw c xs.toList:=fun {xs} sg=>List.pairwise_iff_getElem.mpr fun x y hx hy hxy=>by
    rw [Array.length_toList] at hx hy
    have e1:=Qbi hx
    have e2:=Qbi hy
    rw [List.getElem?_eq_getElem (by rw [Array.length_toList];exact hx)] at e1
    rw [List.getElem?_eq_getElem (by rw [Array.length_toList];exact hy)] at e2
    rw [Option.some.inj e1,Option.some.inj e2]
    exact sg x y (Nat.zero_le _) (by omega) hy
  rw [Qfw]
  dsimp only
  refine wpS_bind (wpS_lift (wpAny_rule ⟨rfl,?_⟩))
  refine wpS_bind (Qab (by omega) ?_)
  have m0:MI c a b #[] 0 0:=⟨by rw [List.drop_zero];exact pwl sa,by rw [List.drop_zero];exact pwl sb,by rw [List.drop_zero,List.drop_zero];exact List.Perm.refl _⟩
  have m1:MI c a b #[kx b 0] 0 1:=MI.puB m0 (by omega) fun n _ hn=>p1 n hn
  by_cases z1:1=b.size
  · rw [if_pos (beq_iff_eq.mpr z1)]
    exact wpS_pure (h _ _ (Sm.refl st) (m1.dnB z1))
  · rw [if_neg (Qaj z1)]
    by_cases z2:0+1=a.size
    · rw [if_pos (beq_iff_eq.mpr z2)]
      exact wpS_pure (h _ _ (Sm.refl st) (m1.last z2 p2))
    · rw [if_neg (Qaj z2)]
      refine wpS_bind (wpS_get ?_)
      refine wpS_bind (wpS_mono (wpS_forRange (I:=fun x z st'=>∃ r i j mg,z=(none,r,i,j,mg)/\MI c a b r i j/\i+1<a.size/\j<b.size/\x+1<=i+j/\Sm st st')
        (Q:=fun z st'=>∃ o y,z=(some o,y)/\Out c a b o/\Sm st st') ?step ?fin ⟨_,0,1,_,rfl,m1,by omega,by omega,by omega,Sm.refl st⟩) ?post)
      case post=>
        rintro z st' ⟨o,y,rfl,ho,sm⟩
        exact wpS_pure (h o st' sm ho)
      case fin=>
        rintro z st' ⟨r,i,j,mg,rfl,m,i1,j1,x1,sm⟩
        exfalso
        omega
      case step=>
        rintro x z st' _ hx ⟨r,i,j,mg,rfl,m,i1,j1,x1,sm⟩
        dsimp only
        refine wpS_bind (wpS_mono (wpS_forRange (I:=fun y z st2=>∃ r i j p q,z=(none,r,i,j,p,q)/\MI c a b r i j/\i+1<a.size/\j<b.size/\x+1+y<=i+j/\Sm st st2)
          (Q:=fun z st2=>(∃ o y,z=(some o,y)/\Out c a b o/\Sm st st2)∨∃ r i j p q,z=(none,r,i,j,p,q)/\MI c a b r i j/\i+1<a.size/\j<b.size/\x+2<=i+j/\Sm st st2) ?step1 ?fin1 ⟨r,i,j,0,0,rfl,m,i1,j1,by omega,sm⟩) ?post1)
        case fin1=>
          rintro z st2 ⟨r,i,j,p,q,rfl,m,i1,j1,x1,sm⟩
          exact .inr ⟨r,i,j,p,q,rfl,m,i1,j1,by omega,sm⟩
        case step1=>
          rintro y z st2 _ hy ⟨r,i,j,p,q,rfl,m,i1,j1,x1,sm⟩
          dsimp only
          refine wpS_bind (Qab j1 ?_)
          refine wpS_bind (Qab (by omega) ?_)
          refine wpS_bind (Qeq hA (sm.kind.trans hk) (mb _ (memL j1)) (ma _ (memL (by omega))) ?_)
          cases e:c (kx b j) (kx a i) with
          | true=>
            dsimp only
            rw [if_pos rfl]
            refine wpS_bind (Qab j1 ?_)
            have m2:=MI.puB m j1 fun n n1 n2=>hA.ord.tr (hA.ord.lt_le e) (sa i n (Nat.zero_le _) n1 n2)
            by_cases z3:j+1=b.size
            · rw [if_pos (beq_iff_eq.mpr z3)]
              exact wpS_pure (.inl ⟨_,_,rfl,m2.dnB z3,sm⟩)
            · rw [if_neg (Qaj z3)]
              split
              · exact wpS_pure (.inr ⟨_,_,_,_,_,rfl,m2,by omega,by omega,by omega,sm⟩)
              · exact wpS_pure ⟨_,_,_,_,_,rfl,m2,by omega,by omega,by omega,sm⟩
          | false=>
            dsimp only
            rw [if_neg (by decide)]
            refine wpS_bind (Qab (by omega) ?_)
            have m2:=MI.puA m (by omega) fun n n1 n2=>hA.ord.tr e (sb j n (Nat.zero_le _) n1 n2)
            by_cases z3:i+1+1=a.size
            · rw [if_pos (beq_iff_eq.mpr z3)]
              exact wpS_pure (.inl ⟨_,_,rfl,m2.last z3 p2,sm⟩)
            · rw [if_neg (Qaj z3)]
              split
              · exact wpS_pure (.inr ⟨_,_,_,_,_,rfl,m2,by omega,by omega,by omega,sm⟩)
              · exact wpS_pure ⟨_,_,_,_,_,rfl,m2,by omega,by omega,by omega,sm⟩
        case post1=>
          rintro z st2 (⟨o,y,rfl,ho,sm⟩ | ⟨r,i,j,p,q,rfl,m,i1,j1,x1,sm⟩)
          · exact wpS_pure ⟨o,_,rfl,ho,sm⟩
          · dsimp only
            refine wpS_bind (wpS_lift (wpAny_rule ⟨rfl,?_⟩))
            refine wpS_bind (wpS_mono (wpS_forRange (I:=fun y z st3=>∃ r i j mg p q,z=(none,r,i,j,mg,p,q)/\MI c a b r i j/\i+1<a.size/\j<b.size/\x+2<=i+j/\Sm st st3)
              (Q:=fun z st3=>(∃ o y,z=(some o,y)/\Out c a b o/\Sm st st3)∨∃ r i j mg p q,z=(none,r,i,j,mg,p,q)/\MI c a b r i j/\i+1<a.size/\j<b.size/\x+2<=i+j/\Sm st st3) ?step2 ?fin2 ⟨r,i,j,_,p,q,rfl,m,i1,j1,by omega,sm⟩) ?post2)
            case fin2=>
              rintro z st3 ⟨r,i,j,mg,p,q,rfl,m,i1,j1,x1,sm⟩
              exact .inr ⟨r,i,j,mg,p,q,rfl,m,i1,j1,by omega,sm⟩
            case post2=>
              rintro z st3 (⟨o,y,rfl,ho,sm⟩ | ⟨r,i,j,mg,p,q,rfl,m,i1,j1,x1,sm⟩)
              · exact wpS_pure ⟨o,_,rfl,ho,sm⟩
              · dsimp only
                exact wpS_bind (Qdo sm fun st4 sm4=>wpS_pure ⟨_,_,_,_,rfl,m,i1,j1,by omega,sm4⟩)
            case step2=>
              rintro y z st3 _ hy ⟨r,i,j,mg,p,q,rfl,m,i1,j1,x1,sm⟩
              dsimp only
              by_cases z0:mg > 1
              · rw [if_pos z0]
                refine wpS_bind (Qdo sm fun st4 sm4=>?_)
                refine wpS_bind (Qab (by omega) ?_)
                refine wpS_bind (Qav hA (sm4.kind.trans hk) (mb _ (memL (by omega))) ma (by omega) (by omega) (fun x y x1 xy y1=>sa x y (Nat.zero_le _) xy (by omega)) fun k kn b1 b2=>?_)
                have b1:∀ t,t<k->(!c (kx b j) (kx a (i+t)))=true:=fun t ht=>b1 t ht
                have b2:∀ t,k<=t->t<a.size - i->(!c (kx b j) (kx a (i+t)))=false:=fun t h1 h2=>b2 t h1 h2
                dsimp only
                have hB1:∀ n,i+k<=n->n<a.size->le c (kx b j) (kx a n):=fun n n1 n2=>by
                  have:=b2 (n - i) (by omega) (by omega)
                  rw [show i+(n - i)=n by omega] at this
                  exact hA.ord.lt_le (by simpa using this)
                by_cases zk:k > 0
                · rw [if_pos zk]
                  have m2:=MI.chA (k:=k) m fun t t1 t2 n n1 n2=>by
                    have:=b1 t t1
                    exact hA.ord.tr (show le c (kx a (i+t)) (kx b j) by simpa using this) (sb j n (Nat.zero_le _) n1 n2)
                  by_cases z2:i+k+1=a.size
                  · rw [if_pos (beq_iff_eq.mpr z2)]
                    exact wpS_pure (.inl ⟨_,_,rfl,m2.last z2 p2,sm4⟩)
                  · rw [if_neg (Qaj z2)]
                    by_cases z3:i+k=a.size
                    · rw [if_pos (beq_iff_eq.mpr z3)]
                      exact wpS_pure (.inl ⟨_,_,rfl,m2.dnA z3,sm4⟩)
                    · rw [if_neg (Qaj z3)]
                      refine wpS_bind (Qab (by omega) ?_)
                      have m5:=MI.puB m2 (by omega) hB1
                      by_cases z5:j+1=b.size
                      · rw [if_pos (beq_iff_eq.mpr z5)]
                        exact wpS_pure (.inl ⟨_,_,rfl,m5.dnB z5,sm4⟩)
                      · rw [if_neg (Qaj z5)]
                        refine wpS_bind (Qab (by omega) ?_)
                        refine wpS_bind (Qav hA (sm4.kind.trans hk) (ma _ (memL (by omega))) mb (by omega) (by omega) (fun x y x1 xy y1=>sb x y (Nat.zero_le _) xy (by omega)) fun k2 k2n b1 b2=>?_)
                        have b1:∀ t,t<k2->c (kx b (j+1+t)) (kx a (i+k))=true:=fun t ht=>b1 t ht
                        have b2:∀ t,k2<=t->t<b.size - (j+1)->c (kx b (j+1+t)) (kx a (i+k))=false:=fun t h1 h2=>b2 t h1 h2
                        dsimp only
                        have gA:∀ n,j+1+k2<=n->n<b.size->le c (kx a (i+k)) (kx b n):=fun n n1 n2=>by have:=b2 (n - (j+1)) (by omega) (by omega);rwa [show j+1+(n - (j+1))=n by omega] at this
                        by_cases zk2:k2 > 0
                        · rw [if_pos zk2]
                          have m6:=MI.chB (k:=k2) m5 fun t t1 t2 n n1 n2=>hA.ord.tr (hA.ord.lt_le (b1 t t1)) (sa (i+k) n (Nat.zero_le _) n1 n2)
                          by_cases z6:j+1+k2=b.size
                          · rw [if_pos (beq_iff_eq.mpr z6)]
                            exact wpS_pure (.inl ⟨_,_,rfl,m6.dnB z6,sm4⟩)
                          · rw [if_neg (Qaj z6)]
                            refine wpS_bind (Qab (by omega) ?_)
                            have m9:=MI.puA m6 (by omega) gA
                            by_cases z9:i+k+1+1=a.size
                            · rw [if_pos (beq_iff_eq.mpr z9)]
                              exact wpS_pure (.inl ⟨_,_,rfl,m9.last z9 p2,sm4⟩)
                            · rw [if_neg (Qaj z9)]
                              split
                              · exact wpS_pure (.inr ⟨_,_,_,_,_,_,rfl,m9,by omega,by omega,by omega,sm4⟩)
                              · exact wpS_pure ⟨_,_,_,_,_,_,rfl,m9,by omega,by omega,by omega,sm4⟩
                        · rw [if_neg zk2]
                          have zk2:k2=0:=by omega
                          subst zk2
                          refine wpS_bind (Qab (by omega) ?_)
                          have m9:=MI.puA m5 (by omega) gA
                          by_cases z9:i+k+1+1=a.size
                          · rw [if_pos (beq_iff_eq.mpr z9)]
                            exact wpS_pure (.inl ⟨_,_,rfl,m9.last z9 p2,sm4⟩)
                          · rw [if_neg (Qaj z9)]
                            split
                            · exact wpS_pure (.inr ⟨_,_,_,_,_,_,rfl,m9,by omega,by omega,by omega,sm4⟩)
                            · exact wpS_pure ⟨_,_,_,_,_,_,rfl,m9,by omega,by omega,by omega,sm4⟩
                · rw [if_neg zk]
                  have zk:k=0:=by omega
                  subst zk
                  refine wpS_bind (Qab (by omega) ?_)
                  have m5:=MI.puB m (by omega) hB1
                  by_cases z5:j+1=b.size
                  · rw [if_pos (beq_iff_eq.mpr z5)]
                    exact wpS_pure (.inl ⟨_,_,rfl,m5.dnB z5,sm4⟩)
                  · rw [if_neg (Qaj z5)]
                    refine wpS_bind (Qab (by omega) ?_)
                    refine wpS_bind (Qav hA (sm4.kind.trans hk) (ma _ (memL (by omega))) mb (by omega) (by omega) (fun x y x1 xy y1=>sb x y (Nat.zero_le _) xy (by omega)) fun k2 k2n b1 b2=>?_)
                    have b1:∀ t,t<k2->c (kx b (j+1+t)) (kx a (i))=true:=fun t ht=>b1 t ht
                    have b2:∀ t,k2<=t->t<b.size - (j+1)->c (kx b (j+1+t)) (kx a (i))=false:=fun t h1 h2=>b2 t h1 h2
                    dsimp only
                    have gA:∀ n,j+1+k2<=n->n<b.size->le c (kx a (i)) (kx b n):=fun n n1 n2=>by have:=b2 (n - (j+1)) (by omega) (by omega);rwa [show j+1+(n - (j+1))=n by omega] at this
                    by_cases zk2:k2 > 0
                    · rw [if_pos zk2]
                      have m6:=MI.chB (k:=k2) m5 fun t t1 t2 n n1 n2=>hA.ord.tr (hA.ord.lt_le (b1 t t1)) (sa (i) n (Nat.zero_le _) n1 n2)
                      by_cases z6:j+1+k2=b.size
                      · rw [if_pos (beq_iff_eq.mpr z6)]
                        exact wpS_pure (.inl ⟨_,_,rfl,m6.dnB z6,sm4⟩)
                      · rw [if_neg (Qaj z6)]
                        refine wpS_bind (Qab (by omega) ?_)
                        have m9:=MI.puA m6 (by omega) gA
                        by_cases z9:i+1+1=a.size
                        · rw [if_pos (beq_iff_eq.mpr z9)]
                          exact wpS_pure (.inl ⟨_,_,rfl,m9.last z9 p2,sm4⟩)
                        · rw [if_neg (Qaj z9)]
                          split
                          · exact wpS_pure (.inr ⟨_,_,_,_,_,_,rfl,m9,by omega,by omega,by omega,sm4⟩)
                          · exact wpS_pure ⟨_,_,_,_,_,_,rfl,m9,by omega,by omega,by omega,sm4⟩
                    · rw [if_neg zk2]
                      have zk2:k2=0:=by omega
                      subst zk2
                      refine wpS_bind (Qab (by omega) ?_)
                      have m9:=MI.puA m5 (by omega) gA
                      by_cases z9:i+1+1=a.size
                      · rw [if_pos (beq_iff_eq.mpr z9)]
                        exact wpS_pure (.inl ⟨_,_,rfl,m9.last z9 p2,sm4⟩)
                      · rw [if_neg (Qaj z9)]
                        split
                        · exact wpS_pure (.inr ⟨_,_,_,_,_,_,rfl,m9,by omega,by omega,by omega,sm4⟩)
                        · exact wpS_pure ⟨_,_,_,_,_,_,rfl,m9,by omega,by omega,by omega,sm4⟩
              · rw [if_neg z0]
                refine wpS_bind (Qdo sm fun st4 sm4=>?_)
                refine wpS_bind (Qab (by omega) ?_)
                refine wpS_bind (Qav hA (sm4.kind.trans hk) (mb _ (memL (by omega))) ma (by omega) (by omega) (fun x y x1 xy y1=>sa x y (Nat.zero_le _) xy (by omega)) fun k kn b1 b2=>?_)
                have b1:∀ t,t<k->(!c (kx b j) (kx a (i+t)))=true:=fun t ht=>b1 t ht
                have b2:∀ t,k<=t->t<a.size - i->(!c (kx b j) (kx a (i+t)))=false:=fun t h1 h2=>b2 t h1 h2
                dsimp only
                have hB1:∀ n,i+k<=n->n<a.size->le c (kx b j) (kx a n):=fun n n1 n2=>by
                  have:=b2 (n - i) (by omega) (by omega)
                  rw [show i+(n - i)=n by omega] at this
                  exact hA.ord.lt_le (by simpa using this)
                by_cases zk:k > 0
                · rw [if_pos zk]
                  have m2:=MI.chA (k:=k) m fun t t1 t2 n n1 n2=>by
                    have:=b1 t t1
                    exact hA.ord.tr (show le c (kx a (i+t)) (kx b j) by simpa using this) (sb j n (Nat.zero_le _) n1 n2)
                  by_cases z2:i+k+1=a.size
                  · rw [if_pos (beq_iff_eq.mpr z2)]
                    exact wpS_pure (.inl ⟨_,_,rfl,m2.last z2 p2,sm4⟩)
                  · rw [if_neg (Qaj z2)]
                    by_cases z3:i+k=a.size
                    · rw [if_pos (beq_iff_eq.mpr z3)]
                      exact wpS_pure (.inl ⟨_,_,rfl,m2.dnA z3,sm4⟩)
                    · rw [if_neg (Qaj z3)]
                      refine wpS_bind (Qab (by omega) ?_)
                      have m5:=MI.puB m2 (by omega) hB1
                      by_cases z5:j+1=b.size
                      · rw [if_pos (beq_iff_eq.mpr z5)]
                        exact wpS_pure (.inl ⟨_,_,rfl,m5.dnB z5,sm4⟩)
                      · rw [if_neg (Qaj z5)]
                        refine wpS_bind (Qab (by omega) ?_)
                        refine wpS_bind (Qav hA (sm4.kind.trans hk) (ma _ (memL (by omega))) mb (by omega) (by omega) (fun x y x1 xy y1=>sb x y (Nat.zero_le _) xy (by omega)) fun k2 k2n b1 b2=>?_)
                        have b1:∀ t,t<k2->c (kx b (j+1+t)) (kx a (i+k))=true:=fun t ht=>b1 t ht
                        have b2:∀ t,k2<=t->t<b.size - (j+1)->c (kx b (j+1+t)) (kx a (i+k))=false:=fun t h1 h2=>b2 t h1 h2
                        dsimp only
                        have gA:∀ n,j+1+k2<=n->n<b.size->le c (kx a (i+k)) (kx b n):=fun n n1 n2=>by have:=b2 (n - (j+1)) (by omega) (by omega);rwa [show j+1+(n - (j+1))=n by omega] at this
                        by_cases zk2:k2 > 0
                        · rw [if_pos zk2]
                          have m6:=MI.chB (k:=k2) m5 fun t t1 t2 n n1 n2=>hA.ord.tr (hA.ord.lt_le (b1 t t1)) (sa (i+k) n (Nat.zero_le _) n1 n2)
                          by_cases z6:j+1+k2=b.size
                          · rw [if_pos (beq_iff_eq.mpr z6)]
                            exact wpS_pure (.inl ⟨_,_,rfl,m6.dnB z6,sm4⟩)
                          · rw [if_neg (Qaj z6)]
                            refine wpS_bind (Qab (by omega) ?_)
                            have m9:=MI.puA m6 (by omega) gA
                            by_cases z9:i+k+1+1=a.size
                            · rw [if_pos (beq_iff_eq.mpr z9)]
                              exact wpS_pure (.inl ⟨_,_,rfl,m9.last z9 p2,sm4⟩)
                            · rw [if_neg (Qaj z9)]
                              split
                              · exact wpS_pure (.inr ⟨_,_,_,_,_,_,rfl,m9,by omega,by omega,by omega,sm4⟩)
                              · exact wpS_pure ⟨_,_,_,_,_,_,rfl,m9,by omega,by omega,by omega,sm4⟩
                        · rw [if_neg zk2]
                          have zk2:k2=0:=by omega
                          subst zk2
                          refine wpS_bind (Qab (by omega) ?_)
                          have m9:=MI.puA m5 (by omega) gA
                          by_cases z9:i+k+1+1=a.size
                          · rw [if_pos (beq_iff_eq.mpr z9)]
                            exact wpS_pure (.inl ⟨_,_,rfl,m9.last z9 p2,sm4⟩)
                          · rw [if_neg (Qaj z9)]
                            split
                            · exact wpS_pure (.inr ⟨_,_,_,_,_,_,rfl,m9,by omega,by omega,by omega,sm4⟩)
                            · exact wpS_pure ⟨_,_,_,_,_,_,rfl,m9,by omega,by omega,by omega,sm4⟩
                · rw [if_neg zk]
                  have zk:k=0:=by omega
                  subst zk
                  refine wpS_bind (Qab (by omega) ?_)
                  have m5:=MI.puB m (by omega) hB1
                  by_cases z5:j+1=b.size
                  · rw [if_pos (beq_iff_eq.mpr z5)]
                    exact wpS_pure (.inl ⟨_,_,rfl,m5.dnB z5,sm4⟩)
                  · rw [if_neg (Qaj z5)]
                    refine wpS_bind (Qab (by omega) ?_)
                    refine wpS_bind (Qav hA (sm4.kind.trans hk) (ma _ (memL (by omega))) mb (by omega) (by omega) (fun x y x1 xy y1=>sb x y (Nat.zero_le _) xy (by omega)) fun k2 k2n b1 b2=>?_)
                    have b1:∀ t,t<k2->c (kx b (j+1+t)) (kx a (i))=true:=fun t ht=>b1 t ht
                    have b2:∀ t,k2<=t->t<b.size - (j+1)->c (kx b (j+1+t)) (kx a (i))=false:=fun t h1 h2=>b2 t h1 h2
                    dsimp only
                    have gA:∀ n,j+1+k2<=n->n<b.size->le c (kx a (i)) (kx b n):=fun n n1 n2=>by have:=b2 (n - (j+1)) (by omega) (by omega);rwa [show j+1+(n - (j+1))=n by omega] at this
                    by_cases zk2:k2 > 0
                    · rw [if_pos zk2]
                      have m6:=MI.chB (k:=k2) m5 fun t t1 t2 n n1 n2=>hA.ord.tr (hA.ord.lt_le (b1 t t1)) (sa (i) n (Nat.zero_le _) n1 n2)
                      by_cases z6:j+1+k2=b.size
                      · rw [if_pos (beq_iff_eq.mpr z6)]
                        exact wpS_pure (.inl ⟨_,_,rfl,m6.dnB z6,sm4⟩)
                      · rw [if_neg (Qaj z6)]
                        refine wpS_bind (Qab (by omega) ?_)
                        have m9:=MI.puA m6 (by omega) gA
                        by_cases z9:i+1+1=a.size
                        · rw [if_pos (beq_iff_eq.mpr z9)]
                          exact wpS_pure (.inl ⟨_,_,rfl,m9.last z9 p2,sm4⟩)
                        · rw [if_neg (Qaj z9)]
                          split
                          · exact wpS_pure (.inr ⟨_,_,_,_,_,_,rfl,m9,by omega,by omega,by omega,sm4⟩)
                          · exact wpS_pure ⟨_,_,_,_,_,_,rfl,m9,by omega,by omega,by omega,sm4⟩
                    · rw [if_neg zk2]
                      have zk2:k2=0:=by omega
                      subst zk2
                      refine wpS_bind (Qab (by omega) ?_)
                      have m9:=MI.puA m5 (by omega) gA
                      by_cases z9:i+1+1=a.size
                      · rw [if_pos (beq_iff_eq.mpr z9)]
                        exact wpS_pure (.inl ⟨_,_,rfl,m9.last z9 p2,sm4⟩)
                      · rw [if_neg (Qaj z9)]
                        split
                        · exact wpS_pure (.inr ⟨_,_,_,_,_,_,rfl,m9,by omega,by omega,by omega,sm4⟩)
                        · exact wpS_pure ⟨_,_,_,_,_,_,rfl,m9,by omega,by omega,by omega,sm4⟩
end
theorem Qfx (a b:Array Keyed):Qd7 a b=(do
  rule "list.sort.merge-hi"
  let tot:=a.size+b.size
  let dn (r:Array Keyed) (i j:Nat):=a.extract 0 i++b.extract 0 j++r.reverse
  let fb (r:Array Keyed) (i j:Nat):=b.extract 0 j++a.extract 0 i++r.reverse
  let mut i:=a.size - 1
  let mut j:=b.size
  let mut r:Array Keyed:=#[<- elem' a i]
  if i == 0 then return dn r i j
  if j == 1 then return fb r i j
  let mut mg:=gallopOf (<- get)
  for _ in [0:tot] do
    let mut p:=0
    let mut q:=0
    for _ in [0:tot] do
      let some t <- lt' (<- elem' b (j - 1)) (<- elem' a (i - 1)) | return dn r i j
      if t then
        i:=i - 1;r:=r.push (<- elem' a i);p:=p+1;q:=0
        if i == 0 then return dn r i j
        if p≥mg then break
      else
        j:=j - 1;r:=r.push (<- elem' b j);q:=q+1;p:=0
        if j == 1 then return fb r i j
        if q≥mg then break
    rule "list.sort.gallop"
    mg:=mg+1
    for _ in [0:tot] do
      if mg > 1 then mg:=mg - 1
      QaK mg
      let some t <- QbD false (<- elem' b (j - 1)) a 0 i (i - 1) | return dn r i j
      let k:=i - t
      p:=k
      if k > 0 then
        r:=r++(a.extract t i).reverse;i:=t
        if i == 0 then return dn r i j
      j:=j - 1;r:=r.push (<- elem' b j)
      if j == 1 then return fb r i j
      let some t <- QbD true (<- elem' a (i - 1)) b 0 j (j - 1) | return dn r i j
      let k:=j - t
      q:=k
      if k > 0 then
        r:=r++(b.extract t j).reverse;j:=t
        if j == 1 then return fb r i j
        if j == 0 then return dn r i j
      i:=i - 1;r:=r.push (<- elem' a i)
      if i == 0 then return dn r i j
      if p<7&&q<7 then break
    mg:=mg+1
    QaK mg
  unsupported "internal:list.sort.merge-bound"):=rfl
section
variable {c:Keyed->Keyed->Bool}
theorem Qlw {r ch x y:List Keyed} (h1:Pw c ((x++ch)++r)) (h2:Pw c (y++r)) (h:∀ u∈y,∀ v∈ch,le c u v):Pw c (x++(ch++r))/\Pw c (y++(ch++r)):=by
  have h1':Pw c (x++(ch++r)):=by rw [<- List.append_assoc];exact h1
  refine ⟨h1',?_⟩
  have g:=List.pairwise_append.mp h1'
  have g2:=List.pairwise_append.mp h2
  refine List.pairwise_append.mpr ⟨g2.1,g.2.1,fun u hu v hv=>?_⟩
  rcases List.mem_append.mp hv with z | z
  · exact h u hu v z
  · exact g2.2.2 u hu v z
theorem Qgs (xs:Array Keyed) (i:Nat):(xs.extract 0 i).toList=xs.toList.take i:=by
  rw [Array.toList_extract,List.extract_eq_take_drop,Nat.sub_zero,List.drop_zero]
theorem Qbj (xs:Array Keyed) (t i:Nat):(xs.extract t i).toList=(xs.toList.take i).drop t:=by
  rw [Array.toList_extract,List.extract_eq_take_drop,List.take_drop]
  by_cases z:t<=i
  · rw [show t+(i - t)=i by omega]
  · rw [show i - t=0 by omega,Nat.add_zero,List.drop_of_length_le (by rw [List.length_take];omega),List.drop_of_length_le (by rw [List.length_take];omega)]
theorem QaV {xs:Array Keyed} {t i:Nat} {p:Keyed} (h:p∈(xs.toList.take i).drop t):∃ n,t<=n/\n<i/\n<xs.size/\p=kx xs n:=by
  obtain ⟨n,hn⟩:=List.mem_iff_getElem?.mp h
  rw [List.getElem?_drop,List.getElem?_take] at hn
  split at hn
  · rename_i z
    have hl:=(List.getElem?_eq_some_iff.mp hn).1
    rw [Array.length_toList] at hl
    rw [Qbi hl] at hn
    exact ⟨t+n,by omega,z,hl,(Option.some.inj hn).symm⟩
  · cases hn
structure MH (c:Keyed->Keyed->Bool) (a b r:Array Keyed) (i j:Nat):Prop where
  ha:Pw c (a.toList.take i++r.toList.reverse)
  hb:Pw c (b.toList.take j++r.toList.reverse)
  pm:((a.toList.take i++b.toList.take j)++r.toList.reverse).Perm (a.toList++b.toList)
variable {a b r:Array Keyed} {i j t:Nat}
theorem Qcn (r x:Array Keyed):(r++x.reverse).toList.reverse=x.toList++r.toList.reverse:=by
  rw [Array.toList_append,Array.toList_reverse,List.reverse_append,List.reverse_reverse]
theorem MH.chA (m:MH c a b r i j) (ht:t<=i) (h:∀ n,t<=n->n<i->n<a.size->∀ k,k<j->k<b.size->le c (kx b k) (kx a n)):MH c a b (r++(a.extract t i).reverse) t j:=by
  have e:a.toList.take i=a.toList.take t++(a.toList.take i).drop t:=by
    have:=(List.take_append_drop t (a.toList.take i)).symm
    rwa [List.take_take,Nat.min_eq_left ht] at this
  have h1:=m.ha
  have pm:=m.pm
  rw [e] at h1 pm
  obtain ⟨g1,g2⟩:=Qlw h1 m.hb fun u hu v hv=>by
    obtain ⟨n,n1,n2,n3,rfl⟩:=QaV hv
    obtain ⟨k,_,k2,k3,rfl⟩:=QaV (t:=0) (by rw [List.drop_zero];exact hu)
    exact h n n1 n2 n3 k k2 k3
  refine ⟨by rw [Qcn,Qbj];exact g1,by rw [Qcn,Qbj];exact g2,?_⟩
  rw [Qcn,Qbj]
  refine List.Perm.trans ?_ pm
  rw [<- List.append_assoc]
  refine List.Perm.append_right _ ?_
  rw [List.append_assoc,List.append_assoc]
  exact List.Perm.append_left _ List.perm_append_comm
theorem MH.chB (m:MH c a b r i j) (ht:t<=j) (h:∀ n,t<=n->n<j->n<b.size->∀ k,k<i->k<a.size->le c (kx a k) (kx b n)):MH c a b (r++(b.extract t j).reverse) i t:=by
  have e:b.toList.take j=b.toList.take t++(b.toList.take j).drop t:=by
    have:=(List.take_append_drop t (b.toList.take j)).symm
    rwa [List.take_take,Nat.min_eq_left ht] at this
  have h1:=m.hb
  have pm:=m.pm
  rw [e] at h1 pm
  obtain ⟨g1,g2⟩:=Qlw h1 m.ha fun u hu v hv=>by
    obtain ⟨n,n1,n2,n3,rfl⟩:=QaV hv
    obtain ⟨k,_,k2,k3,rfl⟩:=QaV (t:=0) (by rw [List.drop_zero];exact hu)
    exact h n n1 n2 n3 k k2 k3
  refine ⟨by rw [Qcn,Qbj];exact g2,by rw [Qcn,Qbj];exact g1,?_⟩
  rw [Qcn,Qbj]
  refine List.Perm.trans ?_ pm
  rw [<- List.append_assoc,List.append_assoc (a.toList.take i)]
theorem Qf9 {xs:Array Keyed} {i:Nat} (h1:1<=i) (h:i<=xs.size):r.push (kx xs (i - 1))=r++(xs.extract (i - 1) i).reverse:=by
  apply Array.toList_inj.mp
  have e:=QcQ xs (i - 1) 1
  rw [show i - 1+1=i by omega] at e
  rw [Array.toList_push,Array.toList_append,Array.toList_reverse,e,QiU (by omega)]
  rfl
theorem MH.puA (m:MH c a b r i j) (h1:1<=i) (hi:i<=a.size) (h:∀ k,k<j->k<b.size->le c (kx b k) (kx a (i - 1))):MH c a b (r.push (kx a (i - 1))) (i - 1) j:=by
  rw [Qf9 h1 hi]
  refine m.chA (by omega) fun n n1 n2 _=>?_
  rw [show n=i - 1 by omega]
  exact h
theorem MH.puB (m:MH c a b r i j) (h1:1<=j) (hj:j<=b.size) (h:∀ k,k<i->k<a.size->le c (kx a k) (kx b (j - 1))):MH c a b (r.push (kx b (j - 1))) i (j - 1):=by
  rw [Qf9 h1 hj]
  refine m.chB (by omega) fun n n1 n2 _=>?_
  rw [show n=j - 1 by omega]
  exact h
theorem QbJ (x y r:Array Keyed) (i j:Nat):(x.extract 0 i++y.extract 0 j++r.reverse).toList=(x.toList.take i++y.toList.take j)++r.toList.reverse:=by
  rw [Array.toList_append,Array.toList_append,Qgs,Qgs,Array.toList_reverse]
theorem MH.dnA (m:MH c a b r i j) (hi:i=0):Out c a b (a.extract 0 i++b.extract 0 j++r.reverse):=by
  have pm:=m.pm
  subst hi
  refine ⟨?_,by rw [QbJ];exact pm⟩
  rw [QbJ,List.take_zero,List.nil_append]
  exact m.hb
theorem MH.dnB (m:MH c a b r i j) (hj:j=0):Out c a b (a.extract 0 i++b.extract 0 j++r.reverse):=by
  have pm:=m.pm
  subst hj
  refine ⟨?_,by rw [QbJ];exact pm⟩
  rw [QbJ,List.take_zero,List.append_nil]
  exact m.ha
theorem MH.fb (m:MH c a b r i j) (hj:j=1) (p1:∀ k,k<a.size->le c (kx b 0) (kx a k)):Out c a b (b.extract 0 j++a.extract 0 i++r.reverse):=by
  refine ⟨?_,?_⟩
  · rw [QbJ]
    have g:=List.pairwise_append.mp m.hb
    rw [List.append_assoc]
    refine List.pairwise_append.mpr ⟨g.1,m.ha,fun u hu v hv=>?_⟩
    rcases List.mem_append.mp hv with z | z
    · obtain ⟨k,_,k2,k3,rfl⟩:=QaV (t:=0) (by rw [List.drop_zero];exact hu)
      obtain ⟨n,_,n2,n3,rfl⟩:=QaV (t:=0) (by rw [List.drop_zero];exact z)
      rw [show k=0 by omega]
      exact p1 n n3
    · exact g.2.2 u hu v z
  · rw [QbJ]
    exact List.Perm.trans (List.Perm.append_right _ List.perm_append_comm) m.pm
end
section
variable {prog:Program} {w:World} {A:Around} {E:Value->Shared->Prop} {s:Shared} {a₀:Array Keyed} {κ:SortKind} {c:Keyed->Keyed->Bool}
theorem Qf8 {xs:Array Keyed} (sg:Sg c xs 0 xs.size):Pw c xs.toList:=List.pairwise_iff_getElem.mpr fun x y hx hy hxy=>by
  rw [Array.length_toList] at hx hy
  have e1:=Qbi hx
  have e2:=Qbi hy
  rw [List.getElem?_eq_getElem (by rw [Array.length_toList];exact hx)] at e1
  rw [List.getElem?_eq_getElem (by rw [Array.length_toList];exact hy)] at e2
  rw [Option.some.inj e1,Option.some.inj e2]
  exact sg x y (Nat.zero_le _) (by omega) hy
theorem Qfc {st:SortSt} {a b:Array Keyed} {Q:Array Keyed->SortSt->Prop} (hA:Asks prog w A s κ a₀ c) (hk:kindOf st=κ) (ma:∀ p∈a.toList,p∈a₀.toList) (mb:∀ p∈b.toList,p∈a₀.toList) (na:1<=a.size) (nb:1<=b.size)
    (sa:Sg c a 0 a.size) (sb:Sg c b 0 b.size) (p1:∀ k,k<a.size->le c (kx b 0) (kx a k)) (p2:∀ k,k<b.size->le c (kx b k) (kx a (a.size - 1))) (h:∀ z st',Sm st st'->Out c a b z->Q z st'):wpS (model prog w) A E s (Qd7 a b) Q st:=by
  rw [Qfx]
  dsimp only
  refine wpS_bind (wpS_lift (wpAny_rule ⟨rfl,?_⟩))
  refine wpS_bind (Qab (by omega) ?_)
  have tk:∀ xs:Array Keyed,xs.toList.take xs.size=xs.toList:=fun xs=>List.take_of_length_le (by rw [Array.length_toList];exact Nat.le_refl _)
  have m0:MH c a b #[] a.size b.size:=⟨by rw [tk];show Pw c (a.toList++[]);rw [List.append_nil];exact Qf8 sa,by rw [tk];show Pw c (b.toList++[]);rw [List.append_nil];exact Qf8 sb,by rw [tk,tk];show ((a.toList++b.toList)++[]).Perm _;rw [List.append_nil]⟩
  have m1:MH c a b #[kx a (a.size - 1)] (a.size - 1) b.size:=MH.puA m0 na (Nat.le_refl _) fun k _ hk=>p2 k hk
  by_cases z1:a.size - 1=0
  · rw [if_pos (beq_iff_eq.mpr z1)]
    exact wpS_pure (h _ _ (Sm.refl st) (m1.dnA z1))
  · rw [if_neg (Qaj z1)]
    by_cases z2:b.size=1
    · rw [if_pos (beq_iff_eq.mpr z2)]
      exact wpS_pure (h _ _ (Sm.refl st) (m1.fb z2 p1))
    · rw [if_neg (Qaj z2)]
      refine wpS_bind (wpS_get ?_)
      refine wpS_bind (wpS_mono (wpS_forRange (I:=fun x z st'=>∃ r i j mg,z=(none,i,j,r,mg)/\MH c a b r i j/\1<=i/\i<=a.size/\2<=j/\j<=b.size/\x+1+i+j<=a.size+b.size/\Sm st st')
        (Q:=fun z st'=>∃ o y,z=(some o,y)/\Out c a b o/\Sm st st') ?step ?fin ⟨_,_,_,_,rfl,m1,by omega,by omega,by omega,by omega,by omega,Sm.refl st⟩) ?post)
      case post=>
        rintro z st' ⟨o,y,rfl,ho,sm⟩
        exact wpS_pure (h o st' sm ho)
      case fin=>
        rintro z st' ⟨r,i,j,mg,rfl,m,i1,i2,j1,j2,x1,sm⟩
        exfalso
        omega
      case step=>
        rintro x z st' _ hx ⟨r,i,j,mg,rfl,m,i1,i2,j1,j2,x1,sm⟩
        dsimp only
        refine wpS_bind (wpS_mono (wpS_forRange (I:=fun y z st2=>∃ r i j p q,z=(none,i,j,r,p,q)/\MH c a b r i j/\1<=i/\i<=a.size/\2<=j/\j<=b.size/\x+1+y+i+j<=a.size+b.size/\Sm st st2)
          (Q:=fun z st2=>(∃ o y,z=(some o,y)/\Out c a b o/\Sm st st2)∨∃ r i j p q,z=(none,i,j,r,p,q)/\MH c a b r i j/\1<=i/\i<=a.size/\2<=j/\j<=b.size/\x+2+i+j<=a.size+b.size/\Sm st st2) ?step1 ?fin1 ⟨r,i,j,0,0,rfl,m,i1,i2,j1,j2,by omega,sm⟩) ?post1)
        case fin1=>
          rintro z st2 ⟨r,i,j,p,q,rfl,m,i1,i2,j1,j2,x1,sm⟩
          exact .inr ⟨r,i,j,p,q,rfl,m,i1,i2,j1,j2,by omega,sm⟩
        case step1=>
          rintro y z st2 _ hy ⟨r,i,j,p,q,rfl,m,i1,i2,j1,j2,x1,sm⟩
          dsimp only
          refine wpS_bind (Qab (by omega) ?_)
          refine wpS_bind (Qab (by omega) ?_)
          refine wpS_bind (Qeq hA (sm.kind.trans hk) (mb _ (memL (by omega))) (ma _ (memL (by omega))) ?_)
          cases e:c (kx b (j - 1)) (kx a (i - 1)) with
          | true=>
            dsimp only
            rw [if_pos rfl]
            refine wpS_bind (Qab (by omega) ?_)
            have m2:=MH.puA m i1 i2 fun k k1 k2=>hA.ord.tr (sb k (j - 1) (Nat.zero_le _) (by omega) (by omega)) (hA.ord.lt_le e)
            by_cases z3:i - 1=0
            · rw [if_pos (beq_iff_eq.mpr z3)]
              exact wpS_pure (.inl ⟨_,_,rfl,m2.dnA z3,sm⟩)
            · rw [if_neg (Qaj z3)]
              split
              · exact wpS_pure (.inr ⟨_,_,_,_,_,rfl,m2,by omega,by omega,by omega,by omega,by omega,sm⟩)
              · exact wpS_pure ⟨_,_,_,_,_,rfl,m2,by omega,by omega,by omega,by omega,by omega,sm⟩
          | false=>
            dsimp only
            rw [if_neg (by decide)]
            refine wpS_bind (Qab (by omega) ?_)
            have m2:=MH.puB m (by omega) j2 fun k k1 k2=>hA.ord.tr (sa k (i - 1) (Nat.zero_le _) (by omega) (by omega)) e
            by_cases z3:j - 1=1
            · rw [if_pos (beq_iff_eq.mpr z3)]
              exact wpS_pure (.inl ⟨_,_,rfl,m2.fb z3 p1,sm⟩)
            · rw [if_neg (Qaj z3)]
              split
              · exact wpS_pure (.inr ⟨_,_,_,_,_,rfl,m2,by omega,by omega,by omega,by omega,by omega,sm⟩)
              · exact wpS_pure ⟨_,_,_,_,_,rfl,m2,by omega,by omega,by omega,by omega,by omega,sm⟩
        case post1=>
          rintro z st2 (⟨o,y,rfl,ho,sm⟩ | ⟨r,i,j,p,q,rfl,m,i1,i2,j1,j2,x1,sm⟩)
          · exact wpS_pure ⟨o,_,rfl,ho,sm⟩
          · dsimp only
            refine wpS_bind (wpS_lift (wpAny_rule ⟨rfl,?_⟩))
            refine wpS_bind (wpS_mono (wpS_forRange (I:=fun y z st3=>∃ r i j mg p q,z=(none,i,j,r,mg,p,q)/\MH c a b r i j/\1<=i/\i<=a.size/\2<=j/\j<=b.size/\x+2+i+j<=a.size+b.size/\Sm st st3)
              (Q:=fun z st3=>(∃ o y,z=(some o,y)/\Out c a b o/\Sm st st3)∨∃ r i j mg p q,z=(none,i,j,r,mg,p,q)/\MH c a b r i j/\1<=i/\i<=a.size/\2<=j/\j<=b.size/\x+2+i+j<=a.size+b.size/\Sm st st3) ?step2 ?fin2 ⟨r,i,j,_,p,q,rfl,m,i1,i2,j1,j2,by omega,sm⟩) ?post2)
            case fin2=>
              rintro z st3 ⟨r,i,j,mg,p,q,rfl,m,i1,i2,j1,j2,x1,sm⟩
              exact .inr ⟨r,i,j,mg,p,q,rfl,m,i1,i2,j1,j2,by omega,sm⟩
            case post2=>
              rintro z st3 (⟨o,y,rfl,ho,sm⟩ | ⟨r,i,j,mg,p,q,rfl,m,i1,i2,j1,j2,x1,sm⟩)
              · exact wpS_pure ⟨o,_,rfl,ho,sm⟩
              · dsimp only
                exact wpS_bind (Qdo sm fun st4 sm4=>wpS_pure ⟨_,_,_,_,rfl,m,i1,i2,j1,j2,by omega,sm4⟩)
            case step2=>
              rintro y z st3 _ hy ⟨r,i,j,mg,p,q,rfl,m,i1,i2,j1,j2,x1,sm⟩
              dsimp only
              by_cases z0:mg > 1
              · rw [if_pos z0]
                refine wpS_bind (Qdo sm fun st4 sm4=>?_)
                refine wpS_bind (Qab (by omega) ?_)
                refine wpS_bind (Qav hA (sm4.kind.trans hk) (mb _ (memL (by omega))) ma (by omega) (by omega) (fun x y x1 xy y1=>sa x y (Nat.zero_le _) xy (by omega)) fun t tn b1 b2=>?_)
                have lowA:∀ n,n<t->le c (kx a n) (kx b (j - 1)):=fun n hn=>by
                  have:(!c (kx b (j - 1)) (kx a (0+n)))=true:=b1 n hn
                  rw [Nat.zero_add] at this
                  simpa using this
                have b2:∀ n,t<=n->n<i->c (kx b (j - 1)) (kx a n)=true:=fun n h1 h2=>by
                  have:(!c (kx b (j - 1)) (kx a (0+n)))=false:=b2 n h1 h2
                  rw [Nat.zero_add] at this
                  simpa using this
                dsimp only
                by_cases zk:i - t > 0
                · rw [if_pos zk]
                  have m2:=MH.chA (t:=t) m tn fun n n1 n2 _ k k1 k2=>hA.ord.tr (sb k (j - 1) (Nat.zero_le _) (by omega) (by omega)) (hA.ord.lt_le (b2 n n1 n2))
                  by_cases z2:t=0
                  · rw [if_pos (beq_iff_eq.mpr z2)]
                    exact wpS_pure (.inl ⟨_,_,rfl,m2.dnA z2,sm4⟩)
                  · rw [if_neg (Qaj z2)]
                    refine wpS_bind (Qab (by omega) ?_)
                    have m5:=MH.puB m2 (by omega) (by omega) fun k k1 k2=>lowA k k1
                    by_cases z5:j - 1=1
                    · rw [if_pos (beq_iff_eq.mpr z5)]
                      exact wpS_pure (.inl ⟨_,_,rfl,m5.fb z5 p1,sm4⟩)
                    · rw [if_neg (Qaj z5)]
                      refine wpS_bind (Qab (by omega) ?_)
                      refine wpS_bind (Qav hA (sm4.kind.trans hk) (ma _ (memL (by omega))) mb (by omega) (by omega) (fun x y x1 xy y1=>sb x y (Nat.zero_le _) xy (by omega)) fun t2 t2n b1 b2=>?_)
                      have b1:∀ n,n<t2->c (kx b n) (kx a (t - 1))=true:=fun n hn=>by have:=b1 n hn;rwa [Nat.zero_add] at this
                      have b2:∀ n,t2<=n->n<j - 1->c (kx b n) (kx a (t - 1))=false:=fun n h1 h2=>by have:=b2 n h1 h2;rwa [Nat.zero_add] at this
                      dsimp only
                      by_cases zk2:j - 1 - t2 > 0
                      · rw [if_pos zk2]
                        have m6:=MH.chB (t:=t2) m5 t2n fun n n1 n2 _ k k1 k2=>hA.ord.tr (sa k (t - 1) (Nat.zero_le _) (by omega) (by omega)) (b2 n n1 n2)
                        by_cases z6:t2=1
                        · rw [if_pos (beq_iff_eq.mpr z6)]
                          exact wpS_pure (.inl ⟨_,_,rfl,m6.fb z6 p1,sm4⟩)
                        · rw [if_neg (Qaj z6)]
                          by_cases z7:t2=0
                          · rw [if_pos (beq_iff_eq.mpr z7)]
                            exact wpS_pure (.inl ⟨_,_,rfl,m6.dnB z7,sm4⟩)
                          · rw [if_neg (Qaj z7)]
                            refine wpS_bind (Qab (by omega) ?_)
                            have m9:=MH.puA m6 (by omega) (by omega) fun k k1 k2=>hA.ord.lt_le (b1 k k1)
                            by_cases z9:t - 1=0
                            · rw [if_pos (beq_iff_eq.mpr z9)]
                              exact wpS_pure (.inl ⟨_,_,rfl,m9.dnA z9,sm4⟩)
                            · rw [if_neg (Qaj z9)]
                              split
                              · exact wpS_pure (.inr ⟨_,_,_,_,_,_,rfl,m9,by omega,by omega,by omega,by omega,by omega,sm4⟩)
                              · exact wpS_pure ⟨_,_,_,_,_,_,rfl,m9,by omega,by omega,by omega,by omega,by omega,sm4⟩
                      · rw [if_neg zk2]
                        have zt:t2=j - 1:=by omega
                        refine wpS_bind (Qab (by omega) ?_)
                        have m9:=MH.puA m5 (by omega) (by omega) fun k k1 k2=>hA.ord.lt_le (b1 k (by omega))
                        by_cases z9:t - 1=0
                        · rw [if_pos (beq_iff_eq.mpr z9)]
                          exact wpS_pure (.inl ⟨_,_,rfl,m9.dnA z9,sm4⟩)
                        · rw [if_neg (Qaj z9)]
                          split
                          · exact wpS_pure (.inr ⟨_,_,_,_,_,_,rfl,m9,by omega,by omega,by omega,by omega,by omega,sm4⟩)
                          · exact wpS_pure ⟨_,_,_,_,_,_,rfl,m9,by omega,by omega,by omega,by omega,by omega,sm4⟩
                · rw [if_neg zk]
                  have zt:t=i:=by omega
                  subst zt
                  refine wpS_bind (Qab (by omega) ?_)
                  have m5:=MH.puB m (by omega) (by omega) fun k k1 k2=>lowA k k1
                  by_cases z5:j - 1=1
                  · rw [if_pos (beq_iff_eq.mpr z5)]
                    exact wpS_pure (.inl ⟨_,_,rfl,m5.fb z5 p1,sm4⟩)
                  · rw [if_neg (Qaj z5)]
                    refine wpS_bind (Qab (by omega) ?_)
                    refine wpS_bind (Qav hA (sm4.kind.trans hk) (ma _ (memL (by omega))) mb (by omega) (by omega) (fun x y x1 xy y1=>sb x y (Nat.zero_le _) xy (by omega)) fun t2 t2n b1 b2=>?_)
                    have b1:∀ n,n<t2->c (kx b n) (kx a (t - 1))=true:=fun n hn=>by have:=b1 n hn;rwa [Nat.zero_add] at this
                    have b2:∀ n,t2<=n->n<j - 1->c (kx b n) (kx a (t - 1))=false:=fun n h1 h2=>by have:=b2 n h1 h2;rwa [Nat.zero_add] at this
                    dsimp only
                    by_cases zk2:j - 1 - t2 > 0
                    · rw [if_pos zk2]
                      have m6:=MH.chB (t:=t2) m5 t2n fun n n1 n2 _ k k1 k2=>hA.ord.tr (sa k (t - 1) (Nat.zero_le _) (by omega) (by omega)) (b2 n n1 n2)
                      by_cases z6:t2=1
                      · rw [if_pos (beq_iff_eq.mpr z6)]
                        exact wpS_pure (.inl ⟨_,_,rfl,m6.fb z6 p1,sm4⟩)
                      · rw [if_neg (Qaj z6)]
                        by_cases z7:t2=0
                        · rw [if_pos (beq_iff_eq.mpr z7)]
                          exact wpS_pure (.inl ⟨_,_,rfl,m6.dnB z7,sm4⟩)
                        · rw [if_neg (Qaj z7)]
                          refine wpS_bind (Qab (by omega) ?_)
                          have m9:=MH.puA m6 (by omega) (by omega) fun k k1 k2=>hA.ord.lt_le (b1 k k1)
                          by_cases z9:t - 1=0
                          · rw [if_pos (beq_iff_eq.mpr z9)]
                            exact wpS_pure (.inl ⟨_,_,rfl,m9.dnA z9,sm4⟩)
                          · rw [if_neg (Qaj z9)]
                            split
                            · exact wpS_pure (.inr ⟨_,_,_,_,_,_,rfl,m9,by omega,by omega,by omega,by omega,by omega,sm4⟩)
                            · exact wpS_pure ⟨_,_,_,_,_,_,rfl,m9,by omega,by omega,by omega,by omega,by omega,sm4⟩
                    · rw [if_neg zk2]
                      have zt:t2=j - 1:=by omega
                      refine wpS_bind (Qab (by omega) ?_)
                      have m9:=MH.puA m5 (by omega) (by omega) fun k k1 k2=>hA.ord.lt_le (b1 k (by omega))
                      by_cases z9:t - 1=0
                      · rw [if_pos (beq_iff_eq.mpr z9)]
                        exact wpS_pure (.inl ⟨_,_,rfl,m9.dnA z9,sm4⟩)
                      · rw [if_neg (Qaj z9)]
                        split
                        · exact wpS_pure (.inr ⟨_,_,_,_,_,_,rfl,m9,by omega,by omega,by omega,by omega,by omega,sm4⟩)
                        · exact wpS_pure ⟨_,_,_,_,_,_,rfl,m9,by omega,by omega,by omega,by omega,by omega,sm4⟩
              · rw [if_neg z0]
                refine wpS_bind (Qdo sm fun st4 sm4=>?_)
                refine wpS_bind (Qab (by omega) ?_)
                refine wpS_bind (Qav hA (sm4.kind.trans hk) (mb _ (memL (by omega))) ma (by omega) (by omega) (fun x y x1 xy y1=>sa x y (Nat.zero_le _) xy (by omega)) fun t tn b1 b2=>?_)
                have lowA:∀ n,n<t->le c (kx a n) (kx b (j - 1)):=fun n hn=>by
                  have:(!c (kx b (j - 1)) (kx a (0+n)))=true:=b1 n hn
                  rw [Nat.zero_add] at this
                  simpa using this
                have b2:∀ n,t<=n->n<i->c (kx b (j - 1)) (kx a n)=true:=fun n h1 h2=>by
                  have:(!c (kx b (j - 1)) (kx a (0+n)))=false:=b2 n h1 h2
                  rw [Nat.zero_add] at this
                  simpa using this
                dsimp only
                by_cases zk:i - t > 0
                · rw [if_pos zk]
                  have m2:=MH.chA (t:=t) m tn fun n n1 n2 _ k k1 k2=>hA.ord.tr (sb k (j - 1) (Nat.zero_le _) (by omega) (by omega)) (hA.ord.lt_le (b2 n n1 n2))
                  by_cases z2:t=0
                  · rw [if_pos (beq_iff_eq.mpr z2)]
                    exact wpS_pure (.inl ⟨_,_,rfl,m2.dnA z2,sm4⟩)
                  · rw [if_neg (Qaj z2)]
                    refine wpS_bind (Qab (by omega) ?_)
                    have m5:=MH.puB m2 (by omega) (by omega) fun k k1 k2=>lowA k k1
                    by_cases z5:j - 1=1
                    · rw [if_pos (beq_iff_eq.mpr z5)]
                      exact wpS_pure (.inl ⟨_,_,rfl,m5.fb z5 p1,sm4⟩)
                    · rw [if_neg (Qaj z5)]
                      refine wpS_bind (Qab (by omega) ?_)
                      refine wpS_bind (Qav hA (sm4.kind.trans hk) (ma _ (memL (by omega))) mb (by omega) (by omega) (fun x y x1 xy y1=>sb x y (Nat.zero_le _) xy (by omega)) fun t2 t2n b1 b2=>?_)
                      have b1:∀ n,n<t2->c (kx b n) (kx a (t - 1))=true:=fun n hn=>by have:=b1 n hn;rwa [Nat.zero_add] at this
                      have b2:∀ n,t2<=n->n<j - 1->c (kx b n) (kx a (t - 1))=false:=fun n h1 h2=>by have:=b2 n h1 h2;rwa [Nat.zero_add] at this
                      dsimp only
                      by_cases zk2:j - 1 - t2 > 0
                      · rw [if_pos zk2]
                        have m6:=MH.chB (t:=t2) m5 t2n fun n n1 n2 _ k k1 k2=>hA.ord.tr (sa k (t - 1) (Nat.zero_le _) (by omega) (by omega)) (b2 n n1 n2)
                        by_cases z6:t2=1
                        · rw [if_pos (beq_iff_eq.mpr z6)]
                          exact wpS_pure (.inl ⟨_,_,rfl,m6.fb z6 p1,sm4⟩)
                        · rw [if_neg (Qaj z6)]
                          by_cases z7:t2=0
                          · rw [if_pos (beq_iff_eq.mpr z7)]
                            exact wpS_pure (.inl ⟨_,_,rfl,m6.dnB z7,sm4⟩)
                          · rw [if_neg (Qaj z7)]
                            refine wpS_bind (Qab (by omega) ?_)
                            have m9:=MH.puA m6 (by omega) (by omega) fun k k1 k2=>hA.ord.lt_le (b1 k k1)
                            by_cases z9:t - 1=0
                            · rw [if_pos (beq_iff_eq.mpr z9)]
                              exact wpS_pure (.inl ⟨_,_,rfl,m9.dnA z9,sm4⟩)
                            · rw [if_neg (Qaj z9)]
                              split
                              · exact wpS_pure (.inr ⟨_,_,_,_,_,_,rfl,m9,by omega,by omega,by omega,by omega,by omega,sm4⟩)
                              · exact wpS_pure ⟨_,_,_,_,_,_,rfl,m9,by omega,by omega,by omega,by omega,by omega,sm4⟩
                      · rw [if_neg zk2]
                        have zt:t2=j - 1:=by omega
                        refine wpS_bind (Qab (by omega) ?_)
                        have m9:=MH.puA m5 (by omega) (by omega) fun k k1 k2=>hA.ord.lt_le (b1 k (by omega))
                        by_cases z9:t - 1=0
                        · rw [if_pos (beq_iff_eq.mpr z9)]
                          exact wpS_pure (.inl ⟨_,_,rfl,m9.dnA z9,sm4⟩)
                        · rw [if_neg (Qaj z9)]
                          split
                          · exact wpS_pure (.inr ⟨_,_,_,_,_,_,rfl,m9,by omega,by omega,by omega,by omega,by omega,sm4⟩)
                          · exact wpS_pure ⟨_,_,_,_,_,_,rfl,m9,by omega,by omega,by omega,by omega,by omega,sm4⟩
                · rw [if_neg zk]
                  have zt:t=i:=by omega
                  subst zt
                  refine wpS_bind (Qab (by omega) ?_)
                  have m5:=MH.puB m (by omega) (by omega) fun k k1 k2=>lowA k k1
                  by_cases z5:j - 1=1
                  · rw [if_pos (beq_iff_eq.mpr z5)]
                    exact wpS_pure (.inl ⟨_,_,rfl,m5.fb z5 p1,sm4⟩)
                  · rw [if_neg (Qaj z5)]
                    refine wpS_bind (Qab (by omega) ?_)
                    refine wpS_bind (Qav hA (sm4.kind.trans hk) (ma _ (memL (by omega))) mb (by omega) (by omega) (fun x y x1 xy y1=>sb x y (Nat.zero_le _) xy (by omega)) fun t2 t2n b1 b2=>?_)
                    have b1:∀ n,n<t2->c (kx b n) (kx a (t - 1))=true:=fun n hn=>by have:=b1 n hn;rwa [Nat.zero_add] at this
                    have b2:∀ n,t2<=n->n<j - 1->c (kx b n) (kx a (t - 1))=false:=fun n h1 h2=>by have:=b2 n h1 h2;rwa [Nat.zero_add] at this
                    dsimp only
                    by_cases zk2:j - 1 - t2 > 0
                    · rw [if_pos zk2]
                      have m6:=MH.chB (t:=t2) m5 t2n fun n n1 n2 _ k k1 k2=>hA.ord.tr (sa k (t - 1) (Nat.zero_le _) (by omega) (by omega)) (b2 n n1 n2)
                      by_cases z6:t2=1
                      · rw [if_pos (beq_iff_eq.mpr z6)]
                        exact wpS_pure (.inl ⟨_,_,rfl,m6.fb z6 p1,sm4⟩)
                      · rw [if_neg (Qaj z6)]
                        by_cases z7:t2=0
                        · rw [if_pos (beq_iff_eq.mpr z7)]
                          exact wpS_pure (.inl ⟨_,_,rfl,m6.dnB z7,sm4⟩)
                        · rw [if_neg (Qaj z7)]
                          refine wpS_bind (Qab (by omega) ?_)
                          have m9:=MH.puA m6 (by omega) (by omega) fun k k1 k2=>hA.ord.lt_le (b1 k k1)
                          by_cases z9:t - 1=0
                          · rw [if_pos (beq_iff_eq.mpr z9)]
                            exact wpS_pure (.inl ⟨_,_,rfl,m9.dnA z9,sm4⟩)
                          · rw [if_neg (Qaj z9)]
                            split
                            · exact wpS_pure (.inr ⟨_,_,_,_,_,_,rfl,m9,by omega,by omega,by omega,by omega,by omega,sm4⟩)
                            · exact wpS_pure ⟨_,_,_,_,_,_,rfl,m9,by omega,by omega,by omega,by omega,by omega,sm4⟩
                    · rw [if_neg zk2]
                      have zt:t2=j - 1:=by omega
                      refine wpS_bind (Qab (by omega) ?_)
                      have m9:=MH.puA m5 (by omega) (by omega) fun k k1 k2=>hA.ord.lt_le (b1 k (by omega))
                      by_cases z9:t - 1=0
                      · rw [if_pos (beq_iff_eq.mpr z9)]
                        exact wpS_pure (.inl ⟨_,_,rfl,m9.dnA z9,sm4⟩)
                      · rw [if_neg (Qaj z9)]
                        split
                        · exact wpS_pure (.inr ⟨_,_,_,_,_,_,rfl,m9,by omega,by omega,by omega,by omega,by omega,sm4⟩)
                        · exact wpS_pure ⟨_,_,_,_,_,_,rfl,m9,by omega,by omega,by omega,by omega,by omega,sm4⟩
end
theorem Qfy (i:Nat):mergeAt' i=(do
  let z <- get
  let (some (u,n,pw),some (v,m,_)):=((pendingOf z)[i]?,(pendingOf z)[i+1]?) | unsupported "internal:list.sort.pending"
  set (setPending z (((pendingOf z).setIfInBounds i (u,n+m,pw)).eraseIdxIfInBounds (i+1)))
  let some k <- QbD false (<- elem' (arrOf z) v) (arrOf z) u n 0 | return false
  let (u,n):=(u+k,n - k)
  if n == 0 then return true
  let some m <- QbD true (<- elem' (arrOf z) (u+n - 1)) (arrOf z) v m (m - 1) | return false
  if m == 0 then return true
  let x:=(arrOf z).extract u v
  let y:=(arrOf z).extract v (v+m)
  let mm <- if n<=m then Qd6 x y else Qd7 x y
  modify fun z=>setArr z (mm.toList.zipIdx.foldl (fun a (p,j)=>a.setIfInBounds (u+j) p) (arrOf z))
  return (failedOf (<- get)).isNone):=rfl
theorem QlG {σ:Type} {M:Model} {A:Around} {E:Value->Shared->Prop} {s:Shared} {Q:PUnit->σ->Prop} {st st':σ} (h:Q ⟨⟩ st'):wpS M A E s (set st':StateT σ Sem PUnit) Q st:=by
  unfold wpS;rw [StateT.run_set];exact wpAny_pure ⟨rfl,h⟩
theorem Qgo (u:Nat):∀ (z:List Keyed) (m:Nat) (xs:Array Keyed),u+m+z.length<=xs.size->((z.zipIdx m).foldl (fun a (p:Keyed×Nat)=>a.setIfInBounds (u+p.2) p.1) xs).toList=xs.toList.take (u+m)++z++xs.toList.drop (u+m+z.length)
  | [],m,xs,_=>by
    show xs.toList=_
    rw [List.append_nil,List.length_nil,Nat.add_zero,List.take_append_drop]
  | p::z,m,xs,h=>by
    rw [List.length_cons] at h
    rw [List.zipIdx_cons,List.foldl_cons]
    have ih:=Qgo u z (m+1) (xs.setIfInBounds (u+m) p) (by rw [Array.size_setIfInBounds];omega)
    rw [ih,Array.toList_setIfInBounds,List.set_eq_take_append_cons_drop,if_pos (by rw [Array.length_toList];omega)]
    have lt:(xs.toList.take (u+m)).length=u+m:=by rw [List.length_take,Array.length_toList];omega
    have e1:(xs.toList.take (u+m)++p::xs.toList.drop (u+m+1)).take (u+(m+1))=xs.toList.take (u+m)++[p]:=by
      rw [List.take_append,lt,List.take_of_length_le (by omega),show u+(m+1) - (u+m)=1 by omega]
      rfl
    have e2:(xs.toList.take (u+m)++p::xs.toList.drop (u+m+1)).drop (u+(m+1)+z.length)=xs.toList.drop (u+m+(p::z).length):=by
      rw [List.drop_append,lt,List.drop_of_length_le (by omega),List.nil_append,show u+(m+1)+z.length - (u+m)=z.length+1 by omega,List.drop_succ_cons,List.drop_drop,List.length_cons]
      congr 1
      omega
    rw [e1,e2,List.append_assoc,List.append_assoc,List.append_assoc]
    rfl
theorem QeR {xs ys:Array Keyed} {i j:Nat} (h:xs.toList[i]? = ys.toList[j]?):kx xs i=kx ys j:=by
  rw [Array.getElem?_toList,Array.getElem?_toList] at h
  exact QfC h
theorem Qlm {xs:Array Keyed} {u v t:Nat} (h:u+t<v) (hv:v<=xs.size):kx (xs.extract u v) t=kx xs (u+t):=by
  refine QfC ?_
  rw [Array.getElem?_extract,if_pos (by omega)]
section
variable {c:Keyed->Keyed->Bool}
structure Laid (c:Keyed->Keyed->Bool) (xs ws z:Array Keyed) (lo hi:Nat):Prop where
  size:ws.size=xs.size
  perm:ws.Perm xs
  out:∀ n,n<lo∨hi<=n->kx ws n=kx xs n
  mid:∀ n,lo<=n->n<hi->kx ws n=kx z (n - lo)
  zs:z.size=hi - lo
  of_:∀ n,lo<=n->n<hi->∃ m,lo<=m/\m<hi/\kx ws n=kx xs m
theorem Qm2 {xs z:Array Keyed} {lo v hi:Nat} (h1:lo<=v) (h2:v<=hi) (h3:hi<=xs.size) (o:Out c (xs.extract lo v) (xs.extract v hi) z):Laid c xs (z.toList.zipIdx.foldl (fun a (p:Keyed×Nat)=>a.setIfInBounds (lo+p.2) p.1) xs) z lo hi:=by
  have ln:z.toList.length=hi - lo:=by
    rw [o.2.length_eq,List.length_append,Array.length_toList,Array.length_toList,Array.size_extract,Array.size_extract]
    omega
  have zs:z.size=hi - lo:=by rw [<- ln,Array.length_toList]
  have lb:=Qgo lo z.toList 0 xs (by omega)
  rw [Nat.add_zero,ln,show lo+(hi - lo)=hi by omega] at lb
  generalize hw:z.toList.zipIdx.foldl (fun a (p:Keyed×Nat)=>a.setIfInBounds (lo+p.2) p.1) xs=ws
  rw [show z.toList.zipIdx 0=z.toList.zipIdx from rfl,hw] at lb
  have lt:(xs.toList.take lo).length=lo:=by rw [List.length_take,Array.length_toList];omega
  have mid0:xs.toList=xs.toList.take lo++((xs.extract lo v).toList++(xs.extract v hi).toList)++xs.toList.drop hi:=by
    rw [Qbj,Qbj]
    have e1:xs.toList.take hi=xs.toList.take v++(xs.toList.take hi).drop v:=by
      have:=(List.take_append_drop v (xs.toList.take hi)).symm
      rwa [List.take_take,Nat.min_eq_left h2] at this
    have e2:xs.toList.take v=xs.toList.take lo++(xs.toList.take v).drop lo:=by
      have:=(List.take_append_drop lo (xs.toList.take v)).symm
      rwa [List.take_take,Nat.min_eq_left h1] at this
    rw [<- List.append_assoc,<- e2,<- e1,List.take_append_drop]
  have szl:ws.toList.length=xs.toList.length:=by
    rw [lb,List.length_append,List.length_append,lt,ln,List.length_drop,Array.length_toList]
    omega
  have md:∀ n,lo<=n->n<hi->kx ws n=kx z (n - lo):=fun n n1 n2=>by
    refine QeR ?_
    rw [lb,List.getElem?_append_left (by rw [List.length_append,lt,ln];omega),List.getElem?_append_right (by rw [lt];exact n1),lt]
  refine ⟨by rw [<- Array.length_toList,szl,Array.length_toList],?_,fun n hn=>?_,md,zs,fun n n1 n2=>?_⟩
  · refine Array.perm_iff_toList_perm.mpr ?_
    rw [lb]
    conv=>rhs;rw [mid0]
    exact List.Perm.append_right _ (List.Perm.append_left _ o.2)
  · refine QeR ?_
    rw [lb]
    rcases hn with hn | hn
    · rw [List.append_assoc,List.getElem?_append_left (by rw [lt];exact hn),List.getElem?_take,if_pos hn]
    · rw [List.getElem?_append_right (by rw [List.length_append,lt,ln];omega),List.length_append,lt,ln,List.getElem?_drop]
      congr 1
      omega
  · have hz:n - lo<z.size:=by omega
    have hm:=o.2.mem_iff.mp (memL hz)
    rw [md n n1 n2]
    rcases List.mem_append.mp hm with q | q
    · rw [Qbj] at q
      obtain ⟨m,m1,m2,_,e⟩:=QaV q
      exact ⟨m,m1,by omega,e⟩
    · rw [Qbj] at q
      obtain ⟨m,m1,m2,_,e⟩:=QaV q
      exact ⟨m,by omega,m2,e⟩
end
section
variable {prog:Program} {w:World} {A:Around} {E:Value->Shared->Prop} {s:Shared} {a₀:Array Keyed} {κ:SortKind} {c:Keyed->Keyed->Bool}
structure Mg (κ:SortKind) (a₀:Array Keyed) (c:Keyed->Keyed->Bool) (st st':SortSt) (i u v hi pn pw:Nat):Prop where
  sb:SB κ a₀ st'
  pend:pendingOf st'=((pendingOf st).setIfInBounds i (u,pn,pw)).eraseIdxIfInBounds (i+1)
  out:∀ n,n<u∨hi<=n->kx (arrOf st') n=kx (arrOf st) n
  sg:Sg c (arrOf st') u hi
theorem Qfd {st:SortSt} {i u n pw m pw2:Nat} {Q:Bool->SortSt->Prop} (hA:Asks prog w A s κ a₀ c) (hB:SB κ a₀ st) (e1:(pendingOf st)[i]? = some (u,n,pw)) (e2:(pendingOf st)[i+1]? = some (u+n,m,pw2)) (n1:1<=n) (m1:1<=m) (hz:u+n+m<=a₀.size)
    (s1:Sg c (arrOf st) u (u+n)) (s2:Sg c (arrOf st) (u+n) (u+n+m)) (h:∀ st',Mg κ a₀ c st st' i u (u+n) (u+n+m) (n+m) pw->Q true st'):wpS (model prog w) A E s (mergeAt' i) Q st:=by
  have sz:=hB.size
  have mem:∀ p∈(arrOf st).toList,p∈a₀.toList:=fun p hp=>hB.mem hp
  have memE:∀ {x y:Nat} {p:Keyed},p∈((arrOf st).extract x y).toList->p∈a₀.toList:=fun {x y p} hp=>mem p (by rw [Qbj] at hp;exact List.mem_of_mem_take (List.mem_of_mem_drop hp))
  rw [Qfy]
  refine wpS_bind (wpS_get ?_)
  rw [e1,e2]
  dsimp only
  refine wpS_bind (QlG ?_)
  refine wpS_bind (Qab (by omega) ?_)
  refine wpS_bind (Qav hA hB.kind (mem _ (memL (by omega))) mem (by omega) (by omega) s1 fun k kn b1 b2=>?_)
  have b1:∀ t,t<k->le c (kx (arrOf st) (u+t)) (kx (arrOf st) (u+n)):=fun t ht=>by
    have:(!c (kx (arrOf st) (u+n)) (kx (arrOf st) (u+t)))=true:=b1 t ht
    simpa using this
  have b2:∀ t,k<=t->t<n->c (kx (arrOf st) (u+n)) (kx (arrOf st) (u+t))=true:=fun t h1 h2=>by
    have:(!c (kx (arrOf st) (u+n)) (kx (arrOf st) (u+t)))=false:=b2 t h1 h2
    simpa using this
  dsimp only
  by_cases z1:n - k=0
  · rw [if_pos (beq_iff_eq.mpr z1)]
    refine wpS_pure (h _ ⟨⟨hB.perm,hB.kind,hB.failed⟩,rfl,fun _ _=>rfl,fun x y x1 xy y1=>?_⟩)
    show le c (kx (arrOf st) x) (kx (arrOf st) y)
    by_cases zx:x<u+n
    · by_cases zy:y<u+n
      · exact s1 x y x1 xy zy
      · have:=b1 (x - u) (by omega)
        rw [show u+(x - u)=x by omega] at this
        exact hA.ord.tr this (s2 (u+n) y (Nat.le_refl _) (by omega) y1)
    · exact s2 x y (by omega) xy y1
  · rw [if_neg (Qaj z1)]
    have hl:u+k+(n - k) - 1=u+n - 1:=by omega
    rw [hl]
    refine wpS_bind (Qab (by omega) ?_)
    refine wpS_bind (Qav hA hB.kind (mem _ (memL (by omega))) mem (by omega) (by omega) s2 fun m2 mn d1 d2=>?_)
    have d1:∀ t,t<m2->c (kx (arrOf st) (u+n+t)) (kx (arrOf st) (u+n - 1))=true:=fun t ht=>d1 t ht
    have d2:∀ t,m2<=t->t<m->le c (kx (arrOf st) (u+n - 1)) (kx (arrOf st) (u+n+t)):=fun t h1 h2=>d2 t h1 h2
    dsimp only
    by_cases z2:m2=0
    · rw [if_pos (beq_iff_eq.mpr z2)]
      refine wpS_pure (h _ ⟨⟨hB.perm,hB.kind,hB.failed⟩,rfl,fun _ _=>rfl,fun x y x1 xy y1=>?_⟩)
      show le c (kx (arrOf st) x) (kx (arrOf st) y)
      by_cases zx:x<u+n
      · by_cases zy:y<u+n
        · exact s1 x y x1 xy zy
        · have:=d2 (y - (u+n)) (by omega) (by omega)
          rw [show u+n+(y - (u+n))=y by omega] at this
          exact hA.ord.tr (s1 x (u+n - 1) x1 (by omega) (by omega)) this
      · exact s2 x y (by omega) xy y1
    · rw [if_neg (Qaj z2)]
      have ex:∀ t,t<n - k->kx ((arrOf st).extract (u+k) (u+n)) t=kx (arrOf st) (u+k+t):=fun t ht=>Qlm (by omega) (by omega)
      have ey:∀ t,t<m2->kx ((arrOf st).extract (u+n) (u+n+m2)) t=kx (arrOf st) (u+n+t):=fun t ht=>Qlm (by omega) (by omega)
      have sx:((arrOf st).extract (u+k) (u+n)).size=n - k:=by rw [Array.size_extract];omega
      have sy:((arrOf st).extract (u+n) (u+n+m2)).size=m2:=by rw [Array.size_extract];omega
      have fin:∀ (z:Array Keyed) (st':SortSt),Sm (setPending st (((pendingOf st).setIfInBounds i (u,n+m,pw)).eraseIdxIfInBounds (i+1))) st'->Out c ((arrOf st).extract (u+k) (u+n)) ((arrOf st).extract (u+n) (u+n+m2)) z ->
          wpS (model prog w) A E s (do
            modify fun x=>setArr x (z.toList.zipIdx.foldl (fun a (p,j)=>a.setIfInBounds (u+k+j) p) (arrOf x))
            return (failedOf (<- get)).isNone) Q st':=fun z st' sm o=>by
        refine wpS_bind (wpS_modify (wpS_bind (wpS_get ?_)))
        have fe:failedOf st'=none:=sm.failed.trans hB.failed
        have ae:arrOf st'=arrOf st:=sm.arr
        have L:=Qm2 (c:=c) (xs:=arrOf st) (z:=z) (lo:=u+k) (v:=u+n) (hi:=u+n+m2) (by omega) (by omega) (by omega) o
        refine wpS_pure ?_
        show Q ((failedOf st').isNone) _
        rw [fe,ae]
        refine h _ ⟨⟨L.perm.trans hB.perm,sm.kind.trans hB.kind,fe⟩,sm.pend,fun x hx=>L.out x (by omega),fun x y x1 xy y1=>?_⟩
        generalize z.toList.zipIdx.foldl (fun a (p:Keyed×Nat)=>a.setIfInBounds (u+k+p.2) p.1) (arrOf st)=ws at L
        show le c (kx ws x) (kx ws y)
        have a0:∀ x,u<=x->x<u+k->le c (kx (arrOf st) x) (kx (arrOf st) (u+n)):=fun x g1 g2=>by have:=b1 (x - u) (by omega);rwa [show u+(x - u)=x by omega] at this
        have b9:∀ y,u+n+m2<=y->y<u+n+m->le c (kx (arrOf st) (u+n - 1)) (kx (arrOf st) y):=fun y g1 g2=>by have:=d2 (y - (u+n)) (by omega) (by omega);rwa [show u+n+(y - (u+n))=y by omega] at this
        by_cases zx:x<u+k
        · rw [L.out x (.inl zx)]
          by_cases zy:y<u+k
          · rw [L.out y (.inl zy)]
            exact s1 x y x1 xy (by omega)
          · by_cases zy2:y<u+n+m2
            · obtain ⟨q,q1,q2,qe⟩:=L.of_ y (by omega) zy2
              rw [qe]
              by_cases zq:q<u+n
              · exact s1 x q x1 (by omega) zq
              · exact hA.ord.tr (a0 x x1 zx) (s2 (u+n) q (Nat.le_refl _) (by omega) (by omega))
            · rw [L.out y (.inr (by omega))]
              exact hA.ord.tr (a0 x x1 zx) (s2 (u+n) y (Nat.le_refl _) (by omega) y1)
        · by_cases zx2:x<u+n+m2
          · by_cases zy2:y<u+n+m2
            · rw [L.mid x (by omega) zx2,L.mid y (by omega) zy2]
              by_cases xe:x=y
              · subst xe;exact hA.ord.irr _
              · have g:=List.pairwise_iff_getElem.mp o.1 (x - (u+k)) (y - (u+k)) (by rw [Array.length_toList,L.zs];omega) (by rw [Array.length_toList,L.zs];omega) (by omega)
                have k1:=Qbi (xs:=z) (i:=x - (u+k)) (by rw [L.zs];omega)
                have k2:=Qbi (xs:=z) (i:=y - (u+k)) (by rw [L.zs];omega)
                rw [List.getElem?_eq_getElem (by rw [Array.length_toList,L.zs];omega)] at k1 k2
                rw [Option.some.inj k1,Option.some.inj k2] at g
                exact g
            · rw [L.out y (.inr (by omega))]
              obtain ⟨q,q1,q2,qe⟩:=L.of_ x (by omega) zx2
              rw [qe]
              by_cases zq:q<u+n
              · exact hA.ord.tr (s1 q (u+n - 1) (by omega) (by omega) (by omega)) (b9 y (by omega) y1)
              · exact s2 q y (by omega) (by omega) y1
          · rw [L.out x (.inr (by omega)),L.out y (.inr (by omega))]
            exact s2 x y (by omega) xy y1
      have hsx:Sg c ((arrOf st).extract (u+k) (u+n)) 0 ((arrOf st).extract (u+k) (u+n)).size:=fun x y _ xy y1=>by
        rw [sx] at y1
        rw [ex x (by omega),ex y y1]
        exact s1 _ _ (by omega) (by omega) (by omega)
      have hsy:Sg c ((arrOf st).extract (u+n) (u+n+m2)) 0 ((arrOf st).extract (u+n) (u+n+m2)).size:=fun x y _ xy y1=>by
        rw [sy] at y1
        rw [ey x (by omega),ey y y1]
        exact s2 _ _ (by omega) (by omega) (by omega)
      have hp1:∀ t,t<((arrOf st).extract (u+k) (u+n)).size->le c (kx ((arrOf st).extract (u+n) (u+n+m2)) 0) (kx ((arrOf st).extract (u+k) (u+n)) t):=fun t ht=>by
        rw [sx] at ht
        rw [ey 0 (by omega),ex t ht,Nat.add_zero]
        have:=b2 (k+t) (by omega) (by omega)
        rw [show u+(k+t)=u+k+t by omega] at this
        exact hA.ord.lt_le this
      have hp2:∀ t,t<((arrOf st).extract (u+n) (u+n+m2)).size->le c (kx ((arrOf st).extract (u+n) (u+n+m2)) t) (kx ((arrOf st).extract (u+k) (u+n)) (((arrOf st).extract (u+k) (u+n)).size - 1)):=fun t ht=>by
        rw [sy] at ht
        rw [sx,ey t ht,ex (n - k - 1) (by omega),show u+k+(n - k - 1)=u+n - 1 by omega]
        exact hA.ord.lt_le (d1 t ht)
      split
      · exact wpS_bind (Qfb hA hB.kind (fun p hp=>memE hp) (fun p hp=>memE hp) (by rw [sx];omega) (by rw [sy];omega) hsx hsy hp1 hp2 fun z st' sm o=>fin z st' sm o)
      · exact wpS_bind (Qfc hA hB.kind (fun p hp=>memE hp) (fun p hp=>memE hp) (by rw [sx];omega) (by rw [sy];omega) hsx hsy hp1 hp2 fun z st' sm o=>fin z st' sm o)
end
def RunsOk:List (Nat×Nat)->Nat->Nat->Prop
  | [],s,e=>s=e
  | (s',n)::r,s,e=>s'=s/\1<=n/\RunsOk r (s+n) e
theorem RunsOk.app:∀ {l1 l2:List (Nat×Nat)} {s e:Nat},RunsOk (l1++l2) s e↔∃ m,RunsOk l1 s m/\RunsOk l2 m e
  | [],l2,s,e=>⟨fun h=>⟨s,rfl,h⟩,fun ⟨m,h1,h2⟩=>by cases (show s=m from h1);exact h2⟩
  | (s',n)::l1,l2,s,e=>by
    constructor
    · rintro ⟨h1,h2,h3⟩
      obtain ⟨m,a,b⟩:=RunsOk.app.mp h3
      exact ⟨m,⟨h1,h2,a⟩,b⟩
    · rintro ⟨m,⟨h1,h2,a⟩,b⟩
      exact ⟨h1,h2,RunsOk.app.mpr ⟨m,a,b⟩⟩
theorem RunsOk.le:∀ {l:List (Nat×Nat)} {s e:Nat},RunsOk l s e->s+l.length<=e
  | [],s,e,h=>by cases (show s=e from h);exact Nat.le_refl _
  | (s',n)::l,s,e,⟨_,h2,h3⟩=>by
    have:=RunsOk.le h3
    rw [List.length_cons]
    omega
theorem RunsOk.mem:∀ {l:List (Nat×Nat)} {s e:Nat},RunsOk l s e->∀ p∈l,s<=p.1/\p.1+p.2<=e
  | (s',n)::l,s,e,⟨h1,h2,h3⟩,p,hp=>by
    have hl:=RunsOk.le h3
    rcases List.mem_cons.mp hp with z | z
    · subst z
      show s<=s'/\s'+n<=e
      omega
    · have:=RunsOk.mem h3 p z
      omega
def sn (p:Nat×Nat×Nat):Nat×Nat:=(p.1,p.2.1)
def QaS (st:SortSt):List (Nat×Nat):=(pendingOf st).toList.map sn
section
variable {prog:Program} {w:World} {A:Around} {E:Value->Shared->Prop} {s:Shared} {a₀:Array Keyed} {κ:SortKind} {c:Keyed->Keyed->Bool}
structure RI (κ:SortKind) (a₀:Array Keyed) (c:Keyed->Keyed->Bool) (lo:Nat) (st:SortSt):Prop where
  sb:SB κ a₀ st
  runs:RunsOk (QaS st) 0 lo
  srt:∀ p∈QaS st,Sg c (arrOf st) p.1 (p.1+p.2)
  le:lo<=a₀.size
theorem Sg.same {xs ys:Array Keyed} {u v:Nat} (h:Sg c xs u v) (k:∀ n,u<=n->n<v->kx ys n=kx xs n):Sg c ys u v:=fun i j hi hij hj=>by
  rw [k i hi (by omega),k j (by omega) hj]
  exact h i j hi hij hj
theorem two_of {l:List (Nat×Nat×Nat)} {i:Nat} (h:i+1<l.length):∃ l1 x y l2,l=l1++x::y::l2/\l1.length=i:=by
  refine ⟨l.take i,l[i],l[i+1],l.drop (i+2),?_,by rw [List.length_take];omega⟩
  rw [<- List.drop_eq_getElem_cons,<- List.drop_eq_getElem_cons,List.take_append_drop]
theorem Qcj {st:SortSt} {lo i hi:Nat} {Q:Bool->SortSt->Prop} (hA:Asks prog w A s κ a₀ c) (ri:RI κ a₀ c lo st) (hi':i+1<(pendingOf st).size)
    (h:∀ st',RI κ a₀ c lo st'->(pendingOf st').size+1=(pendingOf st).size->(∀ n,lo<=n->kx (arrOf st') n=kx (arrOf st) n)->Q true st'):wpS (model prog w) A E s (mergeAt' i) Q st:=by
  obtain ⟨l1,⟨u,n,pw⟩,⟨v,m,pw2⟩,l2,el,ll⟩:=two_of (l:=(pendingOf st).toList) (i:=i) (by rw [Array.length_toList];exact hi')
  have er:QaS st=l1.map sn++(u,n)::(v,m)::l2.map sn:=by unfold QaS;rw [el,List.map_append];rfl
  have r0:=ri.runs
  rw [er] at r0
  obtain ⟨q,ra,rb⟩:=RunsOk.app.mp r0
  obtain ⟨g1,g2,g3,g4,g5⟩:=rb
  subst g1
  subst g3
  have e1:(pendingOf st)[i]? = some (u,n,pw):=by
    rw [<- Array.getElem?_toList,el,List.getElem?_append_right (by omega),ll,Nat.sub_self];rfl
  have e2:(pendingOf st)[i+1]? = some (u+n,m,pw2):=by
    rw [<- Array.getElem?_toList,el,List.getElem?_append_right (by omega),ll,show i+1 - i=1 by omega];rfl
  have le5:=RunsOk.le g5
  have le1:=ri.le
  refine Qfd hA ri.sb e1 e2 g2 g4 (by omega) (ri.srt (u,n) (by rw [er];simp)) (ri.srt (u+n,m) (by rw [er];simp)) fun st' mg=>?_
  have ep:(pendingOf st').toList=l1++(u,n+m,pw)::l2:=by
    rw [mg.pend,Array.toList_eraseIdxIfInBounds,Array.toList_setIfInBounds,el,List.set_append_right _ _ (by omega),ll,Nat.sub_self,List.set_cons_zero,List.eraseIdx_append_of_length_le (by omega),ll,show i+1 - i=1 by omega]
    rfl
  have er':QaS st'=l1.map sn++(u,n+m)::l2.map sn:=by unfold QaS;rw [ep,List.map_append];rfl
  refine h st' ⟨mg.sb,?_,fun p hp=>?_,ri.le⟩ ?_ fun k hk=>mg.out k (.inr (by omega))
  · rw [er']
    exact RunsOk.app.mpr ⟨u,ra,rfl,by omega,by rw [show u+(n+m)=u+n+m by omega];exact g5⟩
  · rw [er'] at hp
    rcases List.mem_append.mp hp with z | z
    · have b:=RunsOk.mem ra p z
      exact (ri.srt p (by rw [er];exact List.mem_append_left _ z)).same fun k k1 k2=>mg.out k (.inl (by omega))
    · rcases List.mem_cons.mp z with z | z
      · subst z
        show Sg c (arrOf st') u (u+(n+m))
        rw [show u+(n+m)=u+n+m by omega]
        exact mg.sg
      · have b:=RunsOk.mem g5 p z
        exact (ri.srt p (by rw [er];exact List.mem_append_right _ (List.mem_cons_of_mem _ (List.mem_cons_of_mem _ z)))).same fun k k1 k2=>mg.out k (.inr (by omega))
  · rw [<- Array.length_toList,<- Array.length_toList,ep,el,List.length_append,List.length_append,List.length_cons,List.length_cons,List.length_cons]
    omega
theorem RI.pow {st:SortSt} {lo:Nat} (r:RI κ a₀ c lo st) (i pw:Nat):RI κ a₀ c lo (setPending st ((pendingOf st).modify i fun x=>(x.1,x.2.1,pw))):=by
  have er:QaS (setPending st ((pendingOf st).modify i fun x=>(x.1,x.2.1,pw)))=QaS st:=by
    show ((pendingOf st).modify i fun x=>(x.1,x.2.1,pw)).toList.map sn=(pendingOf st).toList.map sn
    rw [Array.toList_modify]
    apply List.ext_getElem?
    intro j
    rw [List.getElem?_map,List.getElem?_map,List.getElem?_modify]
    cases (pendingOf st).toList[j]? with
    | none=>rfl
    | some p=>
      show some (sn (if i=j then _ else p))=some (sn p)
      split<;>rfl
  exact ⟨⟨r.sb.perm,r.sb.kind,r.sb.failed⟩,by rw [er];exact r.runs,by rw [er];exact r.srt,r.le⟩
theorem Qfa {st:SortSt} {Q:Unit->SortSt->Prop} (hA:Asks prog w A s κ a₀ c) (hB:SB κ a₀ st) (hp:pendingOf st=#[])
    (h:∀ st',SB κ a₀ st'->Sg c (arrOf st') 0 a₀.size->Q () st'):wpS (model prog w) A E s sortRuns' Q st:=by
  rw [sortRuns'_eq]
  refine wpS_bind (wpS_get ?_)
  dsimp only
  rw [hB.size]
  have ri0:RI κ a₀ c 0 st:=⟨hB,by unfold QaS;rw [hp];rfl,fun p h=>by unfold QaS at h;rw [hp] at h;simp at h,Nat.zero_le _⟩
  refine wpS_bind (wpS_mono (wpS_forRange (I:=fun x z st'=>∃ lo,z=(none,lo)/\RI κ a₀ c lo st'/\(x<=lo∨lo=a₀.size)) (Q:=fun z st'=>z=(none,a₀.size)/\RI κ a₀ c a₀.size st') ?step ?fin ⟨0,rfl,ri0,.inl (Nat.le_refl _)⟩) ?post)
  case fin=>
    rintro z st' ⟨lo,rfl,ri,hx⟩
    have:=ri.le
    have e:lo=a₀.size:=by omega
    subst e
    exact ⟨rfl,ri⟩
  case step=>
    rintro x z st' _ hx ⟨lo,rfl,ri,hxl⟩
    dsimp only
    have hle:=ri.le
    by_cases z0:lo≥a₀.size
    · rw [if_pos z0]
      have e:lo=a₀.size:=by omega
      subst e
      exact wpS_pure ⟨rfl,ri⟩
    · rw [if_neg z0]
      refine wpS_bind (QdJ hA (by omega) (by omega) ri.sb fun m st1 f1 m1 m2 sg1=>?_)
      dsimp only
      have ri1:RI κ a₀ c lo st1:=⟨f1.sb,by unfold QaS;rw [f1.pend];exact ri.runs,fun p hp=>by
        unfold QaS at hp
        rw [f1.pend] at hp
        have b:=RunsOk.mem ri.runs p hp
        exact (ri.srt p hp).same fun k k1 k2=>f1.low k (by omega),hle⟩
      have push:∀ (n:Nat) (st2:SortSt),RI κ a₀ c lo st2->1<=n->lo+n<=a₀.size->Sg c (arrOf st2) lo (lo+n)->RI κ a₀ c (lo+n) (setPending st2 ((pendingOf st2).push (lo,n,0))):=fun n st2 r2 n1 n2 sg=>by
        have er:QaS (setPending st2 ((pendingOf st2).push (lo,n,0)))=QaS st2++[(lo,n)]:=by
          show ((pendingOf st2).push (lo,n,0)).toList.map sn=_
          rw [Array.toList_push,List.map_append];rfl
        refine ⟨⟨r2.sb.perm,r2.sb.kind,r2.sb.failed⟩,by rw [er];exact RunsOk.app.mpr ⟨lo,r2.runs,rfl,n1,rfl⟩,fun p hp=>?_,n2⟩
        rw [er] at hp
        rcases List.mem_append.mp hp with z | z
        · exact r2.srt p z
        · rw [List.mem_singleton.mp z];exact sg
      by_cases zm:m<minRun' a₀.size a₀.size 0
      · rw [if_pos zm]
        refine wpS_bind (wpS_lift (wpAny_rule ⟨rfl,?_⟩))
        refine wpS_bind (QcS hA (by omega) m1 (by omega) f1.sb sg1 fun st2 f2 sg2=>?_)
        simp only [Bool.not_true,Bool.false_eq_true,if_false]
        have ri2:RI κ a₀ c lo st2:=⟨f2.sb,by unfold QaS;rw [f2.pend];exact ri1.runs,fun p hp=>by
          unfold QaS at hp
          rw [f2.pend] at hp
          have b:=RunsOk.mem ri1.runs p hp
          exact (ri1.srt p hp).same fun k k1 k2=>f2.low k (by omega),hle⟩
        refine wpS_bind (wpS_get ?_)
        cases hb:(pendingOf st2).back? with
        | none=>
          dsimp only
          exact wpS_bind (wpS_modify (wpS_pure ⟨_,rfl,push _ st2 ri2 (by omega) (by omega) sg2,by omega⟩))
        | some bb=>
          obtain ⟨s1,s2,s3⟩:=bb
          dsimp only
          refine wpS_bind (wpS_mono (wpS_forRange (I:=fun _ z st3=>z=(none,())/\RI κ a₀ c lo st3/\Sg c (arrOf st3) lo (lo+min (a₀.size - lo) (minRun' a₀.size a₀.size 0))) (Q:=fun z st3=>z=(none,())/\RI κ a₀ c lo st3/\Sg c (arrOf st3) lo (lo+min (a₀.size - lo) (minRun' a₀.size a₀.size 0))) ?stepA (fun _ _ q=>q) ⟨rfl,ri2,sg2⟩) ?postA)
          case stepA=>
            rintro y z st3 _ hy ⟨rfl,r3,g3⟩
            refine wpS_bind (wpS_get ?_)
            by_cases z5:(pendingOf st3).size > 1
            · rw [if_pos z5,getElem?_pos (pendingOf st3) ((pendingOf st3).size - 2) (by omega)]
              generalize (pendingOf st3)[(pendingOf st3).size - 2]'(by omega)=pp
              obtain ⟨q1,q2,q3⟩:=pp
              dsimp only
              split
              · exact wpS_pure ⟨rfl,r3,g3⟩
              · refine wpS_bind (Qcj (hi:=0) hA r3 (by omega) fun st4 r4 sz k4=>?_)
                exact wpS_pure ⟨rfl,r4,g3.same fun k k1 _=>k4 k k1⟩
            · rw [if_neg z5]
              exact wpS_pure ⟨rfl,r3,g3⟩
          case postA=>
            rintro z st3 ⟨rfl,r3,g3⟩
            dsimp only
            refine wpS_bind (wpS_modify (wpS_bind (wpS_modify (wpS_pure ⟨_,rfl,push _ _ (r3.pow _ _) (by omega) (by omega) g3,by omega⟩))))
      · rw [if_neg zm]
        refine wpS_bind (wpS_get ?_)
        cases hb:(pendingOf st1).back? with
        | none=>
          dsimp only
          exact wpS_bind (wpS_modify (wpS_pure ⟨_,rfl,push _ st1 ri1 m1 (by omega) sg1,by omega⟩))
        | some bb=>
          obtain ⟨s1,s2,s3⟩:=bb
          dsimp only
          refine wpS_bind (wpS_mono (wpS_forRange (I:=fun _ z st3=>z=(none,())/\RI κ a₀ c lo st3/\Sg c (arrOf st3) lo (lo+m)) (Q:=fun z st3=>z=(none,())/\RI κ a₀ c lo st3/\Sg c (arrOf st3) lo (lo+m)) ?stepA (fun _ _ q=>q) ⟨rfl,ri1,sg1⟩) ?postA)
          case stepA=>
            rintro y z st3 _ hy ⟨rfl,r3,g3⟩
            refine wpS_bind (wpS_get ?_)
            by_cases z5:(pendingOf st3).size > 1
            · rw [if_pos z5,getElem?_pos (pendingOf st3) ((pendingOf st3).size - 2) (by omega)]
              generalize (pendingOf st3)[(pendingOf st3).size - 2]'(by omega)=pp
              obtain ⟨q1,q2,q3⟩:=pp
              dsimp only
              split
              · exact wpS_pure ⟨rfl,r3,g3⟩
              · refine wpS_bind (Qcj (hi:=0) hA r3 (by omega) fun st4 r4 sz k4=>?_)
                exact wpS_pure ⟨rfl,r4,g3.same fun k k1 _=>k4 k k1⟩
            · rw [if_neg z5]
              exact wpS_pure ⟨rfl,r3,g3⟩
          case postA=>
            rintro z st3 ⟨rfl,r3,g3⟩
            dsimp only
            refine wpS_bind (wpS_modify (wpS_bind (wpS_modify (wpS_pure ⟨_,rfl,push _ _ (r3.pow _ _) m1 (by omega) g3,by omega⟩))))
  case post=>
    rintro z st' ⟨rfl,ri⟩
    dsimp only
    refine wpS_bind (wpS_mono (wpS_forRange (I:=fun x z st3=>z=(none,())/\RI κ a₀ c a₀.size st3/\((pendingOf st3).size+x<=a₀.size∨(pendingOf st3).size<=1)) (Q:=fun z st3=>z=(none,())/\RI κ a₀ c a₀.size st3/\(pendingOf st3).size<=1) ?stepB ?finB ⟨rfl,ri,.inl ?initB⟩) ?postB)
    case initB=>
      have:=RunsOk.le ri.runs
      unfold QaS at this
      rw [List.length_map,Array.length_toList] at this
      omega
    case finB=>
      rintro z st3 ⟨rfl,r3,hx⟩
      exact ⟨rfl,r3,by omega⟩
    case stepB=>
      rintro x z st3 _ hx ⟨rfl,r3,hs⟩
      refine wpS_bind (wpS_get ?_)
      by_cases z5:(pendingOf st3).size<=1
      · rw [if_pos z5]
        exact wpS_pure ⟨rfl,r3,z5⟩
      · rw [if_neg z5]
        have key:∀ i,i+1<(pendingOf st3).size->wpS (model prog w) A E s (mergeAt' i) (fun b st4=>b=true/\RI κ a₀ c a₀.size st4/\(pendingOf st4).size+1=(pendingOf st3).size) st3:=fun i hi=>Qcj (hi:=0) hA r3 hi fun st4 r4 sz _=>⟨rfl,r4,sz⟩
        refine wpS_bind (wpS_mono (key _ ?_) ?_)
        · have ii:∀ {p:Prop} [Decidable p],(if p then (pendingOf st3).size - 2 - 1 else (pendingOf st3).size - 2)+1<(pendingOf st3).size:=by intro p _;split<;>omega
          exact ii
        · rintro bb st4 ⟨rfl,r4,sz⟩
          exact wpS_pure ⟨rfl,r4,by omega⟩
    case postB=>
      rintro z st3 ⟨rfl,r3,hs⟩
      refine wpS_pure (h st3 r3.sb ?_)
      have rr:=r3.runs
      have hl:(QaS st3).length<=1:=by unfold QaS;rw [List.length_map,Array.length_toList];exact hs
      have hsr:=r3.srt
      cases er:QaS st3 with
      | nil=>
        rw [er] at rr
        rw [<- (show 0=a₀.size from rr)]
        exact fun i j hi hij hj=>by omega
      | cons p l=>
        rw [er] at rr hl hsr
        cases l with
        | cons p' l'=>simp at hl
        | nil=>
          obtain ⟨g1,g2,g3⟩:=rr
          have:=hsr p (List.mem_singleton.mpr rfl)
          rw [g1,(show 0+p.2=a₀.size from g3)] at this
          exact this
end
end Rt
namespace L2
open PySem PySem.Spec PyProof.Rows
def blk (X:Cx) (M:List Str) (scope:Scope) (cl:List (Str×Addr)) (ex:List Addr) (s3:Shared) (H3:Hp) (C:Addr):Cx where
  prog:=X.prog
  w:=X.w
  K:=X.K
  mg:=X.mg
  base:=X.base
  A:=X.A
  N:=M
  s₀:=s3
  H₀:=H3
  env:=compEnvC scope cl C X.env
  outer:=X.stack
  stack:=X.stack
  ex:=ex
  fn:=fun _=>false
  calm:=X.calm
  pn:=[]
  xe:=fun _ _=>False
def clOf (env:Env):List (Str×NameKind)->List (Str×Addr)->List (Str×Addr)
  | [],acc=>acc
  | (n,k)::r,acc=>clOf env r (if k=.free then (n,(env.cells.lookup n).getD 0)::acc else acc)
theorem QfK {env:Env}:∀ (l:List (Str×NameKind)) (acc:List (Str×Addr)),(∀ x∈l,x.2=.free->∃ c,env.cells.lookup x.1=some c) ->
    (forIn (m:=Sem) l acc fun x cs=>(if (x.2 == NameKind.free)=true then do let a <- cellOf env x.1;pure (ForInStep.yield ((x.1,a)::cs)) else pure (ForInStep.yield cs)))=pure (clOf env l acc)
  | [],acc,_=>rfl
  | (n,k)::r,acc,h=>by
    rw [List.forIn_cons]
    by_cases hk:k=.free
    · subst hk
      obtain ⟨c,hc⟩:=h (n,.free) List.mem_cons_self rfl
      have e1:cellOf env n=pure c:=by unfold cellOf;rw [hc]
      have e2:clOf env ((n,.free)::r) acc=clOf env r ((n,c)::acc):=by
        show clOf env r (if NameKind.free=.free then (n,(env.cells.lookup n).getD 0)::acc else acc)=_
        rw [if_pos rfl,hc];rfl
      rw [e2]
      show ((if (NameKind.free == NameKind.free)=true then do let a <- cellOf env n;pure (ForInStep.yield ((n,a)::acc)) else pure (ForInStep.yield acc)) >>= _)=_
      rw [if_pos (show (NameKind.free == NameKind.free)=true by decide),e1]
      exact QfK r _ fun x hx=>h x (List.mem_cons_of_mem _ hx)
    · have hb:(k == NameKind.free)=false:=by simpa using hk
      have e2:clOf env ((n,k)::r) acc=clOf env r acc:=by
        show clOf env r (if k=.free then (n,(env.cells.lookup n).getD 0)::acc else acc)=_
        rw [if_neg hk]
      rw [e2]
      show ((if (k == NameKind.free)=true then _ else pure (ForInStep.yield acc)) >>= _)=_
      rw [hb,if_neg Bool.false_ne_true]
      exact QfK r _ fun x hx=>h x (List.mem_cons_of_mem _ hx)
theorem QfL {scope:Scope} {env:Env} (h:∀ x∈scope.names,x.2=.free->∃ c,env.cells.lookup x.1=some c):closureFor scope env=pure (clOf env scope.names []):=by
  have e:=QfK (env:=env) scope.names [] h
  unfold closureFor
  show (forIn scope.names [] _ >>= _)=_
  have e':(forIn (m:=Sem) scope.names ([]:List (Str×Addr)) fun x cs=>match x with | (name,kind)=>(if (kind == NameKind.free)=true then do let a <- cellOf env name;pure (ForInStep.yield ((name,a)::cs)) else pure (ForInStep.yield cs)))=pure (clOf env scope.names []):=e
  first
    | (rw [e'];rfl)
    | (refine Eq.trans (congrArg (fun t=>t >>= _) e') ?_;rfl)
theorem QfM {env:Env}:∀ (l:List (Str×NameKind)) (acc:List (Str×Addr)),(∀ x∈l,x.2=.free->∃ c,env.cells.lookup x.1=some c)->(∀ x c,acc.lookup x=some c->env.cells.lookup x=some c) ->
    (∀ x c,(clOf env l acc).lookup x=some c->env.cells.lookup x=some c)/\(∀ x c,acc.lookup x=some c->(clOf env l acc).lookup x=some c)/\∀ x,(x,NameKind.free)∈l->∃ c,(clOf env l acc).lookup x=some c
  | [],acc,_,ha=>⟨ha,fun _ _ h=>h,fun _ h=>nomatch h⟩
  | (n,k)::r,acc,h,ha=>by
    have hr:∀ x∈r,x.2=.free->∃ c,env.cells.lookup x.1=some c:=fun x hx=>h x (List.mem_cons_of_mem _ hx)
    by_cases hk:k=.free
    · subst hk
      obtain ⟨c,hc⟩:=h (n,.free) List.mem_cons_self rfl
      have e2:clOf env ((n,.free)::r) acc=clOf env r ((n,c)::acc):=by
        show clOf env r (if NameKind.free=.free then (n,(env.cells.lookup n).getD 0)::acc else acc)=_
        rw [if_pos rfl,hc];rfl
      rw [e2]
      have ha':∀ x c',((n,c)::acc).lookup x=some c'->env.cells.lookup x=some c':=fun x c' q=>by
        rw [List.lookup_cons] at q
        cases hx:x == n with
        | true=>
          rw [hx] at q
          have z:c=c':=Option.some.inj q
          have y:x=n:=by simpa using hx
          rw [y,<- z];exact hc
        | false=>rw [hx] at q;exact ha x c' q
      obtain ⟨i1,i2,i3⟩:=QfM r ((n,c)::acc) hr ha'
      refine ⟨i1,fun x c' q=>?_,fun x hx=>?_⟩
      · refine i2 x c' ?_
        rw [List.lookup_cons]
        cases hx:x == n with
        | true=>
          have y:x=n:=by simpa using hx
          have:=ha x c' q
          rw [y,hc] at this
          exact this
        | false=>exact q
      · rcases List.mem_cons.mp hx with z | z
        · cases z
          exact ⟨c,i2 n c (by rw [List.lookup_cons,beq_self_eq_true])⟩
        · exact i3 x z
    · have e2:clOf env ((n,k)::r) acc=clOf env r acc:=by
        show clOf env r (if k=.free then (n,(env.cells.lookup n).getD 0)::acc else acc)=_
        rw [if_neg hk]
      rw [e2]
      obtain ⟨i1,i2,i3⟩:=QfM r acc hr ha
      refine ⟨i1,i2,fun x hx=>?_⟩
      rcases List.mem_cons.mp hx with z | z
      · cases z;exact absurd rfl hk
      · exact i3 x z
theorem QbL {l:List (Str×NameKind)} {x:Str} {k:NameKind} (h:l.lookup x=some k):(x,k)∈l:=by
  induction l with
  | nil=>cases h
  | cons p r ih=>
    obtain ⟨n,q⟩:=p
    rw [List.lookup_cons] at h
    cases hx:x == n with
    | true=>
      rw [hx] at h
      have y:x=n:=by simpa using hx
      have z:q=k:=Option.some.inj h
      subst y z;exact List.mem_cons_self
    | false=>rw [hx] at h;exact List.mem_cons_of_mem _ (ih h)
theorem Qbm {env:Env}:∀ {names:List (Str×NameKind)} {x:Str} {k:NameKind},(names.map fun (n,k)=>if (k == NameKind.free&&env.scope.kind == .function&&env.kindOf n == some .cell) then (n,NameKind.cell) else (n,k)).lookup x=some k ->
    names.lookup x=some k∨(k=.cell/\names.lookup x=some .free)
  | [],x,k,h=>by cases h
  | (n,q)::r,x,k,h=>by
    have ih:=@Qbm env r x k
    rw [List.map_cons] at h
    have h':List.lookup x ((if (q == NameKind.free&&env.scope.kind == .function&&env.kindOf n == some .cell)=true then (n,NameKind.cell) else (n,q))::_)=some k:=h
    cases hx:x == n with
    | true=>
      by_cases hc:(q == NameKind.free&&env.scope.kind == .function&&env.kindOf n == some .cell)=true
      · rw [if_pos hc,List.lookup_cons,hx] at h'
        have z:NameKind.cell=k:=Option.some.inj h'
        have y:q=.free:=by simp at hc;exact hc.1.1
        refine .inr ⟨z.symm,?_⟩
        rw [List.lookup_cons,hx,y]
      · rw [if_neg hc,List.lookup_cons,hx] at h'
        refine .inl ?_
        rw [List.lookup_cons,hx];exact h'
    | false=>
      have h2:List.lookup x (r.map fun (n,k)=>if (k == NameKind.free&&env.scope.kind == .function&&env.kindOf n == some .cell) then (n,NameKind.cell) else (n,k))=some k:=by
        by_cases hc:(q == NameKind.free&&env.scope.kind == .function&&env.kindOf n == some .cell)=true
        · rw [if_pos hc,List.lookup_cons,hx] at h';exact h'
        · rw [if_neg hc,List.lookup_cons,hx] at h';exact h'
      rw [List.lookup_cons,hx]
      exact ih h2
theorem QcE {env:Env}:∀ {names:List (Str×NameKind)} {x:Str},names.lookup x=some .free->(names.map fun (n,k)=>if (k == NameKind.free&&env.scope.kind == .function&&env.kindOf n == some .cell) then (n,NameKind.cell) else (n,k)).lookup x=some .cell ∨
      (names.map fun (n,k)=>if (k == NameKind.free&&env.scope.kind == .function&&env.kindOf n == some .cell) then (n,NameKind.cell) else (n,k)).lookup x=some .free
  | [],x,h=>by cases h
  | (n,q)::r,x,h=>by
    have ih:=@QcE env r x
    rw [List.map_cons]
    show List.lookup x ((if (q == NameKind.free&&env.scope.kind == .function&&env.kindOf n == some .cell)=true then (n,NameKind.cell) else (n,q))::_)=some .cell∨List.lookup x ((if (q == NameKind.free&&env.scope.kind == .function&&env.kindOf n == some .cell)=true then (n,NameKind.cell) else (n,q))::_)=some .free
    cases hx:x == n with
    | true=>
      rw [List.lookup_cons,hx] at h
      have z:q=NameKind.free:=Option.some.inj h
      subst z
      by_cases hc:(NameKind.free == NameKind.free&&env.scope.kind == .function&&env.kindOf n == some .cell)=true
      · rw [if_pos hc,List.lookup_cons,hx];exact .inl rfl
      · rw [if_neg hc,List.lookup_cons,hx];exact .inr rfl
    | false=>
      rw [List.lookup_cons,hx] at h
      by_cases hc:(q == NameKind.free&&env.scope.kind == .function&&env.kindOf n == some .cell)=true
      · rw [if_pos hc,List.lookup_cons,hx];exact ih h
      · rw [if_neg hc,List.lookup_cons,hx];exact ih h
def Qei (N:List Str) (sc:Scope) (M:List Str) (scope:Scope) (cap:List (Option Nat)):Bool:=
  cap.length == M.length&&(M.zip cap).all (fun (x,o)=>match o with
    | none=>scope.names.lookup x == some .local
    | some j=>N[j]? == some x&&(scope.names.lookup x == some .free&&(sc.names.lookup x == some .cell||sc.names.lookup x == some .free))) &&
  (scope.kind == .function&&scope.names.all fun y=>y.2 != .cell&&((y.2 != .free||(sc.names.lookup y.1 == some .cell||sc.names.lookup y.1 == some .free))&&(y.2 != .local||scope.names.lookup y.1 == some .local)))
def capS (cap:List (Option Nat)) (σ:St):St:=cap.map fun o=>match o with
  | none=>none
  | some j=>(σ[j]?).getD none
structure CapOk (N:List Str) (sc:Scope) (M:List Str) (scope:Scope) (cap:List (Option Nat)):Prop where
  len:cap.length=M.length
  own:∀ (i j:Nat) (x:Str),M[i]? = some x->cap[i]? = some (some j)->N[j]? = some x/\scope.names.lookup x=some .free/\(sc.names.lookup x=some .cell∨sc.names.lookup x=some .free)
  kind:scope.kind=.function
  cell:∀ y∈scope.names,y.2≠.cell
  free:∀ y∈scope.names,y.2=.free->sc.names.lookup y.1=some .cell∨sc.names.lookup y.1=some .free
  loc:∀ y∈scope.names,y.2=.local->scope.names.lookup y.1=some .local
theorem CapOk.of {N:List Str} {sc:Scope} {M:List Str} {scope:Scope} {cap:List (Option Nat)} (h:Qei N sc M scope cap=true):CapOk N sc M scope cap:=by
  unfold Qei at h
  simp only [Bool.and_eq_true,List.all_eq_true,beq_iff_eq] at h
  obtain ⟨⟨h1,h2⟩,h3,h4⟩:=h
  refine ⟨h1,fun i j x e1 e2=>?_,h3,fun y hy z=>?_,fun y hy z=>?_,fun y hy z=>?_⟩
  · have hm:(x,some j)∈M.zip cap:=by
      have:(M.zip cap)[i]? = some (x,some j):=by rw [List.getElem?_zip_eq_some];exact ⟨e1,e2⟩
      exact List.mem_of_getElem? this
    have:=h2 _ hm
    simp only [Bool.and_eq_true,beq_iff_eq,Bool.or_eq_true] at this
    exact this
  · have:=(h4 y hy).1
    simp [z] at this
  · have:=(h4 y hy).2.1
    simpa [z] using this
  · have:=(h4 y hy).2.2
    simpa [z] using this
section
variable {X:Cx} {pins:List (Addr×Obj)} {σ:St} {H H3:Hp} {s3:Shared} {M:List Str} {scope:Scope} {cap:List (Option Nat)} {fp:List Addr} {h4:Heap} {t4:Nat}
theorem Cx.Ok.cells (ok:X.Ok) {N:List Str} (c:CapOk N X.env.scope M scope cap):∀ y∈scope.names,y.2=.free->∃ d,X.env.cells.lookup y.1=some d:=fun y hy z=>ok.has y.1 (c.free y hy z)
theorem Qdm (I:Inv X pins σ H3 s3) (c:CapOk X.N X.env.scope M scope cap) (hf:∀ b∈fp,FpOk X pins H3 b) (hb:∀ b∈fp,b<s3.heap.objs.size)
    (hn:h4.Ns s3.heap.objs.size fun _=>none) (hk:∀ b o,s3.heap.get? b=some o->h4.get? b=some o) :
    Inv (blk X M scope (clOf X.env scope.names []) fp s3 H3 s3.heap.objs.size) [] (capS cap σ) H3 { s3 with heap:=h4,toks:=t4 }:=by
  obtain ⟨c1,c2,c3⟩:=QfM scope.names [] (I.ok.cells c) (fun x d q=>by cases q)
  refine ⟨⟨I.ok.mod,c.kind,I.ok.glob,I.ok.blt,Nat.le_refl _,fun x y d e1 e2=>I.ok.inj x y d (c1 x d e1) (c1 y d e2),fun x hx=>?_,(fun x d z=>nomatch z),I.ok.hd,I.ok.frames,.inl rfl,fun b hb'=>?_,I.bs,
    Nat.le_trans I.ok.bsz I.sz,fun b o e z=>?_,fun b hb' z=>?_,I.stack,I.stkFree⟩,rfl,I.bare,Un.kept hk,⟨_,hn,fun i x v e1 e2 e3=>?_⟩,fun x d e=>?_,I.hok.fresh (Nat.le_refl _),fun x d e=>I.freeC x d (c1 x d e),fun p hp=>(nomatch hp),I.hok.kept hk,?_⟩
  · have hx':(relabel scope X.env).names.lookup x=some .cell∨(relabel scope X.env).names.lookup x=some .free:=hx
    rcases hx' with q | q
    · rcases Qbm q with z | ⟨_,z⟩
      · exact absurd rfl (c.cell _ (QbL z))
      · exact c3 x (QbL z)
    · rcases Qbm q with z | ⟨z,_⟩
      · exact c3 x (QbL z)
      · cases z
  · obtain ⟨f0,f1,f2,f3,f4,f5⟩:=hf b hb'
    exact ⟨Nat.ne_of_lt (hb b hb'),fun x d e=>f4 x d (c1 x d e)⟩
  · obtain ⟨f0,f1,f2,f3,f4,f5⟩:=hf b z
    rcases f3 with q | q
    · exact I.ok.noex b o e q
    · exact absurd (Nat.lt_of_lt_of_le (Heap.lt_size e) (Nat.le_trans I.ok.bsz q)) (Nat.lt_irrefl _)
  · obtain ⟨f0,f1,f2,f3,f4,f5⟩:=hf b hb'
    rcases List.mem_cons.mp (I.stkSub b z) with q | q
    · exact f1 q
    · exact f2 q
  · have e2':(cap.map fun o=>match o with | none=>none | some j=>(σ[j]?).getD none)[i]? = some (some v):=e2
    rw [List.getElem?_map] at e2'
    cases q:cap[i]? with
    | none=>rw [q] at e2';cases e2'
    | some o=>
      rw [q] at e2'
      cases o with
      | none=>cases e2'
      | some j=>
        have e4:(σ[j]?).getD none=some v:=Option.some.inj e2'
        have e5:σ[j]? = some (some v):=by
          cases r:σ[j]? with
          | none=>rw [r] at e4;cases e4
          | some o=>rw [r] at e4;exact congrArg some e4
        obtain ⟨n1,n2,n3⟩:=c.own i j x e1 q
        obtain ⟨m,hm,hl⟩:=I.loc
        obtain ⟨u,ru,lk⟩:=hl j x v n1 e5 (n3.elim (fun z=>.inr (.inl z)) fun z=>.inr (.inr z))
        refine ⟨u,ru,.inr ?_⟩
        rcases lk with ⟨k1,_⟩ | ⟨_,d,k2,k3⟩
        · have k1':X.env.scope.names.lookup x=some .local:=k1
          rcases n3 with z | z<;>(rw [z] at k1';cases k1')
        · obtain ⟨d',hd'⟩:=c3 x (QbL n2)
          have ed:d'=d:=by
            have:=c1 x d' hd'
            rw [k2] at this
            exact (Option.some.inj this).symm
          subst ed
          exact ⟨(QcE n2:(relabel scope X.env).names.lookup x=some .cell∨(relabel scope X.env).names.lookup x=some .free),d',hd',k3.keeps hk⟩
  · obtain ⟨v,q⟩:=I.cell x d (c1 x d e)
    exact ⟨v,q.keeps hk⟩
  · show (cap.map _).length=M.length
    rw [List.length_map];exact c.len
theorem Qjf {σ':St} {s':Shared} {h':Heap} (I:Inv X pins σ H3 s3) (hf:∀ b∈fp,FpOk X pins H3 b) (J:Inv (blk X M scope (clOf X.env scope.names []) fp s3 H3 s3.heap.objs.size) [] σ' H s') (hs:Heap.SameBut s3.heap.objs.size s'.heap h') :
    Inv X pins σ H { s' with heap:=h' }:=by
  have u:Un (frs X.stack) fp H3 H s3.heap s'.heap:=J.base
  have ne:∀ b o,s3.heap.get? b=some o->b≠s3.heap.objs.size:=fun b o e=>Nat.ne_of_lt (Heap.lt_size e)
  have hC:H s3.heap.objs.size=none:=J.free
  refine I.call' (ch:=fp) (s':={ s' with heap:=h' }) J.os ⟨fun b o e n hb hx=>(hs.2 b (ne b o e)).trans (u.keep b o e n hb hx),fun b o e n hb hx=>?_,u.free,fun b o e hx=>?_,u.tups,u.frzs,u.tbls⟩ (fun b o e=>?_) J.bare fun b hb=>?_
  · obtain ⟨sl,q⟩:=u.slot b o e n hb hx
    exact ⟨sl,(hs.2 b (ne b o e)).trans q⟩
  · obtain ⟨o',q⟩:=u.there b o e hx
    exact ⟨o',(hs.2 b (ne b o e)).trans q⟩
  · refine (J.hok b o e).stay (fun c v hc q=>(hs.2 c ?_).trans q) (fun _ q=>q) fun _ _ q=>q
    rintro rfl
    rcases hc with z | z
    · rw [<- z,hC] at e;cases e
    · rw [hC] at z;cases z
  · obtain ⟨f0,f1,f2,f3,f4,f5⟩:=hf b hb
    exact ⟨f3,f1,f4,f5⟩
end
def Wk:St->St->Prop
  | [],[]=>True
  | none::a,_::b=>Wk a b
  | some v::a,some u::b=>v=u/\Wk a b
  | _,_=>False
theorem Wk.len:∀ {a b:St},Wk a b->a.length=b.length
  | [],[],_=>rfl
  | none::a,_::b,h=>congrArg (·+1) (Wk.len (a:=a) (b:=b) h)
  | some v::a,some u::b,h=>congrArg (·+1) (Wk.len (a:=a) (b:=b) h.2)
  | [],_::_,h=>h.elim
  | some _::_,[],h=>h.elim
  | none::_,[],h=>h.elim
  | some _::_,none::_,h=>h.elim
theorem Wk.get:∀ {a b:St},Wk a b->∀ (i:Nat) v,a[i]? = some (some v)->b[i]? = some (some v)
  | [],[],_,i,v,h=>by simp at h
  | none::a,x::b,h,0,v,e=>by simp at e
  | none::a,x::b,h,i+1,v,e=>by
    simp only [List.getElem?_cons_succ] at e ⊢
    exact Wk.get (a:=a) (b:=b) h i v e
  | some q::a,some u::b,h,0,v,e=>by
    simp only [List.getElem?_cons_zero] at e ⊢
    rw [<- h.1];exact e
  | some q::a,some u::b,h,i+1,v,e=>by
    simp only [List.getElem?_cons_succ] at e ⊢
    exact Wk.get (a:=a) (b:=b) h.2 i v e
  | [],_::_,h,_,_,_=>h.elim
  | some _::_,[],h,_,_,_=>h.elim
  | none::_,[],h,_,_,_=>h.elim
  | some _::_,none::_,h,_,_,_=>h.elim
theorem Inv.wk {X:Cx} {pins:List (Addr×Obj)} {σ σ':St} {H:Hp} {s:Shared} (I:Inv X pins σ H s) (h:Wk σ' σ):Inv X pins σ' H s:=I.weak h.len h.get
def QgK (J:It) (body:V->Hp->(Hp->Prop)->Prop) (Qn:Hp->Prop) (H:Hp):Prop:=
  ∃ W:Nat->Nat->Hp->Prop,(∃ m,W 0 m H)/\∀ i m H2,W i m H2->(J.stop i H2/\Qn H2)∨(J.go i H2/\∀ x H3,J.yld i H2 x H3->body x H3 fun H6=>∃ m',m'<m/\W (i+1) m' H6)
abbrev Act:=(Shared->Prop)->Shared->Prop
def Qe8 (Y:Cx) (σ:St) (act:Act) (b:Hp->(Hp->Prop)->Prop):Prop:=
  ∀ (pins:List (Addr×Obj)) (s:Shared) (H:Hp) (k:Hp->Prop) (Q:Shared->Prop),Inv Y pins σ H s->b H k->(∀ s' H',Inv Y pins σ H' s'->k H'->Q s')->act Q s
theorem Qcg {Y:Cx} {σ:St} {tg:Expr} {elt:Expr} {gens:List Comprehension} {scope:Scope} {cpos:Pos} {d:Nat} {it D:Addr} {fp:List Addr} {tn:Nat->Heap->Prop} {J:It} {pins:List (Addr×Obj)} {s:Shared} {H:Hp} {body:V->Hp->(Hp->Prop)->Prop} {Qn:Hp->Prop} {R:Result->Shared->Prop} {act:Value->Act}
    (hc:Y.calm=true) (T:Turn Y.prog Y.w Y.K tg J fp it tn) (st:tn 0 s.heap) (hf:∀ b∈fp,FpOk Y pins H b)
    (hturn:∀ (Q:PySem.Fin->Shared->Prop) (E:Value->Shared->Prop) (s:Shared),wpAny (model Y.prog Y.w) Y.A (pyNext (.ref it)) (fun r s1=>match r with
      | none=>Q (.done .next) s1
      | some v=>wpAny (model Y.prog Y.w) Y.A (letOwnedTupleGo tg (.ref it) v) (fun _ s2=>act v (fun s3=>Q (.again (.compLoop (.ListComp elt gens scope cpos) d (.ref it) (.ref D) Y.env)) s3) s2) E s1) E s ->
      wpAny (model Y.prog Y.w) Y.A (compTurn (.ListComp elt gens scope cpos) d (.ref it) (.ref D) Y.env) Q E s)
    (hact:∀ (x:V) (u:Value),RelV x u->Qe8 Y σ (act u) (body x))
    (I:Inv Y pins σ H s) (h:QgK J body Qn H) (hR:∀ s' H',Inv Y pins σ H' s'->Qn H'->R (.ok .next) s') :
    codeAny (model Y.prog Y.w) Y.A (.compLoop (.ListComp elt gens scope cpos) d (.ref it) (.ref D) Y.env) R s:=by
  obtain ⟨W,⟨m0,w0⟩,turn⟩:=h
  have stat:∀ {H':Hp},(∀ b∈fp,H' b=none)->∀ b∈fp,FpOk Y pins H' b:=fun hn b hb=>⟨hn b hb,(hf b hb).2⟩
  refine codeAny_loop rfl (fun n s'=>∃ i H',Inv Y pins σ H' s'/\tn i s'.heap/\(∀ b∈fp,H' b=none)/\W i n H') (fun n s3 hI=>?_) m0 ⟨0,H,I,st,fun b hb=>(hf b hb).1,w0⟩
  show wpAny _ Y.A ((compTurn (.ListComp elt gens scope cpos) d (.ref it) (.ref D) Y.env).onRaise (fun x=>do noteFrame x Y.env;theTreesLotGoes x)) _ _ s3
  refine wpAny_noted (hturn _ _ _ ?_)
  obtain ⟨i,H3,I3,st3,fr3,w3⟩:=hI
  rcases turn i n H3 w3 with ⟨stop,qn⟩ | ⟨go,step⟩
  · refine thn (T.done Y rfl rfl rfl hc i pins s3 σ H3 _ I3 (stat fr3) st3 stop) fun r s4 ⟨hr,I4⟩=>?_
    subst hr
    exact hR s4 H3 I4 qn
  · refine thn (T.item Y rfl rfl rfl hc i pins s3 σ H3 _ I3 (stat fr3) st3 go) fun r s4 ⟨u,hr,h4⟩=>?_
    subst hr
    refine thn h4 fun _ s5 ⟨x,H5,I5,r5,y5,st5,fr5⟩=>?_
    have I5':=I5.pinned (stat fr5) (T.obj _ _ st5)
    refine hact x u r5 _ s5 H5 _ _ I5' (step x H5 y5) fun s7 H7 I7 ⟨m',hm,w7⟩=>?_
    refine ⟨rfl,m',hm,i+1,H7,I7.unpinned,T.keep _ _ _ st5 fun b hb o e=>(I7.pin (b,o) (List.mem_append_right _ (List.mem_append_right _ (QbK hb e)))).1,fun b hb=>?_,w7⟩
    obtain ⟨o,e,dd⟩:=T.obj _ _ st5 b hb
    exact (I7.pin (b,o) (List.mem_append_right _ (List.mem_append_right _ (QbK hb e)))).2.1
abbrev testsOf (ifs:List Expr) (env:Env):Sem Bool:=forIn ifs true fun c r=>if r=true then do let ok <- isTrue c env (eval c env);pure (ForInStep.yield ok) else pure (ForInStep.yield r)
def PTs (Y:Cx) (ifs:List Expr) (t:TT):Prop:=
  ∀ (pins:List (Addr×Obj)) (s:Shared) (σ:St) (H:Hp) (Q:Bool->Hp->Prop),Inv Y pins σ H s->t σ H Q->wpAny (model Y.prog Y.w) Y.A (testsOf ifs Y.env) (TP Y pins σ Q) Y.xe s
def Qfj:TT:=fun _ H Q=>Q true H
theorem QhU {Y:Cx}:PTs Y [] Qfj:=fun pins s σ H Q I h=>wpAny_tests_nil ⟨H,I,h⟩
theorem Ql3 {Y:Cx} {c:Expr} {t:TT} (h:PT Y c t):PTs Y [c] t:=fun pins s σ H Q I q=>wpAny_tests_one (h pins s σ H Q I q)
def QkW (Y:Cx) (tg:Expr) (ifs:List Expr) (inner:Act):Value->Act:=fun u Q s=>
  wpAny (model Y.prog Y.w) Y.A (assign tg Y.env u) (fun _ s4=>wpAny (model Y.prog Y.w) Y.A (testsOf ifs Y.env) (fun ok s5=>if ok=true then inner Q s5 else Q s5) (fun _ _=>False) s4) (fun _ _=>False) s
def bOf (σ:St) (g:TG) (tc:TT) (inner:St->Hp->(Hp->Prop)->Prop):V->Hp->(Hp->Prop)->Prop:=fun x H k=>g x σ H fun σ4 H4=>Wk σ σ4/\tc σ4 H4 fun b H5=>
  if b=true then inner σ4 H5 k else k H5
theorem Qen {Y:Cx} {σ:St} {tg:Expr} {ifs:List Expr} {g:TG} {tc:TT} {inner:Act} {ri:St->Hp->(Hp->Prop)->Prop} (hx:Y.xe=fun _ _=>False) (hg:PG Y tg g) (ht:PTs Y ifs tc) (he:∀ σ4,Qe8 Y σ4 inner (ri σ4)) (x:V) (u:Value) (r:RelV x u) :
    Qe8 Y σ (QkW Y tg ifs inner u) (bOf σ g tc ri x):=by
  intro pins s H k Q I h hQ
  have hx':∀ (v:Value) (s':Shared),Y.xe v s'->False:=fun v s' z=>by rw [hx] at z;exact z
  refine wpAny_mono (hg pins s σ H x u _ I r h) (fun _ s4 ⟨σ4,H4,I4,wk,q4⟩=>?_) hx'
  refine wpAny_mono (ht pins s4 σ4 H4 _ I4 q4) (fun b s5 ⟨H5,I5,q5⟩=>?_) hx'
  cases b with
  | false=>
    rw [if_neg Bool.false_ne_true] at q5
    rw [if_neg Bool.false_ne_true]
    exact hQ s5 H5 (I5.wk wk) q5
  | true=>
    rw [if_pos rfl] at q5
    rw [if_pos rfl]
    exact he σ4 pins s5 H5 k Q I5 q5 fun s' H' I' k'=>hQ s' H' (I'.wk wk) k'
def Qjp (Y:Cx) (elt:Expr) (D:Addr):Act:=fun Q s=>wpAny (model Y.prog Y.w) Y.A (eval elt Y.env) (fun v s6=>wpAny (model Y.prog Y.w) Y.A (call (.builtin "list.append") [.ref D,v]) (fun _ s7=>Q s7) (fun _ _=>False) s6) (fun _ _=>False) s
def bElt (p:Addr) (te:TE):St->Hp->(Hp->Prop)->Prop:=fun σ H k=>te σ H fun v H6=>∃ ys,H6 p=some (.lst ys)/\ys.length<sizeLine/\k (upd H6 p (.lst (ys++[v])))
theorem Qeo {Y:Cx} {σ:St} {elt:Expr} {te:TE} {D:Addr} (hx:Y.xe=fun _ _=>False) (he:PE Y elt te):Qe8 Y σ (Qjp Y elt D) (bElt D te σ):=by
  intro pins s H k Q I h hQ
  have hx':∀ (v:Value) (s':Shared),Y.xe v s'->False:=fun v s' z=>by rw [hx] at z;exact z
  refine wpAny_mono (he pins s σ H _ I h) (fun v s6 ⟨y,H6,I6,r6,ys,e,hz,q⟩=>?_) hx'
  exact wpAny_mono (QeO (X:=Y) pins s6 σ H6 (.ref D) [y] (.ref D) [v] (fun _ H'=>k H') I6 rfl (.cons r6 .nil) ⟨D,ys,y,rfl,rfl,e,hz,q⟩) (fun _ s7 ⟨_,H7,I7,_,q7⟩=>hQ s7 H7 I7 q7) hx'
theorem QfV {Y:Cx} {elt tg iter:Expr} {ifs:List Expr} {scope:Scope} {cpos:Pos} {it D:Addr} (Q:PySem.Fin->Shared->Prop) (E:Value->Shared->Prop) (s:Shared)
    (h:wpAny (model Y.prog Y.w) Y.A (pyNext (.ref it)) (fun r s1=>match r with
      | none=>Q (.done .next) s1
      | some v=>wpAny (model Y.prog Y.w) Y.A (letOwnedTupleGo tg (.ref it) v) (fun _ s2=>QkW Y tg ifs (Qjp Y elt D) v (fun s3=>Q (.again (.compLoop (.ListComp elt [⟨tg,iter,ifs,0⟩] scope cpos) 0 (.ref it) (.ref D) Y.env)) s3) s2) E s1) E s) :
    wpAny (model Y.prog Y.w) Y.A (compTurn (.ListComp elt [⟨tg,iter,ifs,0⟩] scope cpos) 0 (.ref it) (.ref D) Y.env) Q E s:=by
  rw [compTurn_list]
  refine wpAny_bind (wpAny_standAt (wpAny_bind (thn h fun r s1 h1=>?_)))
  cases r with
  | none=>exact wpAny_pure h1
  | some v=>
    refine wpAny_bind (thn h1 fun _ s2 h2=>?_)
    refine wpAny_bind (wpAny_mono h2 (fun _ s4 h4=>wpAny_bind (wpAny_mono h4 (fun ok s5 h5=>?_) fun _ _ f=>f.elim)) fun _ _ f=>f.elim)
    cases ok with
    | false=>exact wpAny_pure h5
    | true=>exact wpAny_bind (wpAny_bind (wpAny_mono h5 (fun x s6 h6=>wpAny_bind (wpAny_mono h6 (fun _ s7 h7=>wpAny_pure (wpAny_pure h7)) fun _ _ f=>f.elim)) fun _ _ f=>f.elim))
def tComp (cap:List (Option Nat)) (wi:TI) (g:TG) (tc:TT) (te:TE):TE:=fun σ H Q=>wi σ H fun J H1=>∀ p,H1 p=none->QgK J (bOf (capS cap σ) g tc (bElt p te)) (Q (.ref p)) (upd H1 p (.lst []))
theorem FpOk.upd {X:Cx} {pins:List (Addr×Obj)} {H:Hp} {b a:Addr} {o:HO} (h:FpOk X pins H b) (hne:b≠a):FpOk X pins (upd H a o) b:=⟨by rw [Qal hne];exact h.1,h.2⟩
theorem Qgd {X:Cx} {M:List Str} {cap:List (Option Nat)} {elt tg iter:Expr} {ifs:List Expr} {scope:Scope} {pos:Pos} {wi:TI} {g:TG} {tc:TT} {te:TE} (hc:X.calm=true) (ok:Qei X.N X.env.scope M scope cap=true)
    (hi:PI X tg iter wi) (hb:∀ cl ex s3 H3 C,PG (blk X M scope cl ex s3 H3 C) tg g/\PTs (blk X M scope cl ex s3 H3 C) ifs tc/\PE (blk X M scope cl ex s3 H3 C) elt te)
    (hs:∀ x,foldedSetIterable iter X.env x=pure x:=by intro _;rfl):PE X (.ListComp elt [⟨tg,iter,ifs,0⟩] scope pos) (tComp cap wi g tc te):=by
  intro pins s σ H Q I h
  have c:=CapOk.of ok
  rw [eval_ListComp]
  refine wpAny_comprehension_free (use:=none) rfl hs (QfL (I.ok.cells c)) c.kind c.loc ?_
  refine thn (hi pins s σ H _ I h) fun v s1 h1=>thn h1 fun itv s2 h2=>?_
  obtain ⟨it,fp,tn,J,H2,e,I2,T,st2,f2,hW⟩:=h2
  subst e
  refine wpAny_newObj_type (wpAny_newFunctionEnv c.cell (by intro y hy;simp at hy) (fun h₁ hns₁ hsb₁=>?_) c.kind)
  have I3:Inv X pins σ (upd H2 s2.heap.objs.size (.lst [])) { s2 with heap:=s2.heap.push { cls:=.type "list",data:=.seq ([]:List Value).toArray } }:=I2.lnew (t':=s2.toks) (ys:=[]) .nil (Nat.zero_le _)
  have lt2:∀ b∈fp,b<s2.heap.objs.size:=fun b hb=>by obtain ⟨o,e,_⟩:=T.obj _ _ st2 b hb;exact Heap.lt_size e
  have f3:∀ b∈fp,FpOk X pins (upd H2 s2.heap.objs.size (.lst [])) b:=fun b hb=>(f2 b hb).upd (Nat.ne_of_lt (lt2 b hb))
  generalize hs3:({ s2 with heap:=s2.heap.push { cls:=.type "list",data:=.seq ([]:List Value).toArray } }:Shared)=s3 at I3
  have e3:s3.heap=s2.heap.push { cls:=.type "list",data:=.seq ([]:List Value).toArray }:=by rw [<- hs3]
  have z3:s3.heap.objs.size=s2.heap.objs.size+1:=by rw [e3,Heap.size_push]
  have hk:∀ b o,s3.heap.get? b=some o->h₁.get? b=some o:=fun b o e=>hsb₁.extBut b o (by
    have:=Heap.lt_size e
    rw [e3] at this
    exact Nat.ne_of_lt this) (Heap.get?_push_of_some _ (e3 ▸ e))
  have hn₁:h₁.Ns s3.heap.objs.size fun _=>none:=by rw [e3];exact hns₁
  have B:=Qdm (t4:=s3.toks+([]:List (Str×Value)).length) (fp:=fp) I3 c f3 (fun b hb=>by rw [z3];exact Nat.lt_succ_of_lt (lt2 b hb)) hn₁ hk
  have st4:tn 0 h₁:=T.keep _ _ _ st2 fun b hb o e=>hk b o (by rw [e3];exact Heap.get?_push_of_some _ e)
  have fp4:∀ b∈fp,FpOk (blk X M scope (clOf X.env scope.names []) fp s3 (upd H2 s2.heap.objs.size (.lst [])) s3.heap.objs.size) [] (upd H2 s2.heap.objs.size (.lst [])) b:=fun b hb=>by
    refine ⟨(f3 b hb).1,(B.ok.exf b hb).1,B.ok.exfs b hb,.inl hb,(B.ok.exf b hb).2,fun p hp=>(nomatch hp)⟩
  obtain ⟨hg,ht,he⟩:=hb (clOf X.env scope.names []) fp s3 (upd H2 s2.heap.objs.size (.lst [])) s3.heap.objs.size
  have loop:codeAny (model X.prog X.w) X.A (.compLoop (.ListComp elt [⟨tg,iter,ifs,0⟩] scope pos) 0 (.ref it) (.ref s2.heap.objs.size) (compEnvC scope (clOf X.env scope.names []) s3.heap.objs.size X.env))
      (compPost (model X.prog X.w) X.A X.xe none (EP X pins σ Q) (.ref s2.heap.objs.size) s3.heap.objs.size) { s3 with heap:=h₁,toks:=s3.toks+([]:List (Str×Value)).length }:=by
    refine Qcg (Y:=blk X M scope (clOf X.env scope.names []) fp s3 (upd H2 s2.heap.objs.size (.lst [])) s3.heap.objs.size) (gens:=[⟨tg,iter,ifs,0⟩]) (d:=0) hc T st4 fp4
      (fun Q E s h=>QfV Q E s h) (fun x u r=>Qen rfl hg ht (fun σ4=>Qeo rfl he) x u r) B (hW _ (I2.hok.fresh (Nat.le_refl _))) fun s' H' I' q=>?_
    obtain ⟨m,hn,_⟩:=I'.loc
    exact ⟨m,hn,fun h' hs'=>⟨.ref s2.heap.objs.size,H',Qjf I3 f3 I' hs',rfl,q⟩⟩
  exact codeAny_compStart_list loop (T.self _ 0 _ _ _ st4 loop)
section
variable {X:Cx}
theorem QaA:CallR X (.builtin "isinstance") (fun xs H Q=>∃ x t T b,xs=[x,.ty T]/\TyOf X.K H x t/\PySem.W.kitOne X.K t (.type T)=some b/\Q (.bl b) H):=by
  intro pins s σ H xs us Q I r h
  obtain ⟨x,t,T,b,rfl,ty,e,q⟩:=h
  obtain ⟨u,v,rfl,ru,rv⟩:=Qff r
  cases (show v=Value.type T from rv)
  exact QiE I ru ty e fun tk=>⟨.bl b,H,I.tok tk,rfl,q⟩
theorem QkS {bs:List Bool}:∀ {us:List Value},Vals (bs.map V.bl) us->LSm.BoolsAre us bs:=by
  induction bs with
  | nil=>intro us r;cases r;exact .nil
  | cons b bs ih=>
    intro us r
    cases r with
    | cons r t=>
      cases (show _=Value.bool b from r)
      exact .cons b (ih t)
theorem Qem:CallR X (.builtin "all") (fun xs H Q=>∃ (p:Addr) (bs:List Bool),xs=[.ref p]/\SqL X.K H p (bs.map V.bl)/\X.calm=true/\Q (.bl (bs.all id)) H):=by
  intro pins s σ H xs us Q I r h
  obtain ⟨p,bs,rfl,hp,hc,q⟩:=h
  obtain ⟨u,rfl,ru⟩:=QdK r
  cases ru
  obtain ⟨its,rv,pl,hz⟩:=I.list hp
  have hl:=pl.isList
  have hb:=QkS rv
  have hlt:p<s.heap.objs.size:=by obtain ⟨_,e,_⟩:=hl;exact Heap.lt_size e
  refine call_all_walk (wpAny_pyIter_list hl ?_)
  refine ⟨s.heap.objs.size,[s.heap.objs.size,p],[s.heap.objs.size],its.toArray.size,_,_,fun i=>(bs[i]?).getD true,rfl,Walks.list (A:=X.A.in1) (I.ok.hd hc) _ p (Nat.ne_of_lt hlt) its.toArray,
    ⟨⟨_,Heap.get?_push_size _ rfl,rfl,rfl⟩,hl.push _⟩,fun i v s' Q' E' hP hQ=>?_,fun h' tk hk=>?_⟩
  · obtain ⟨b,e,rfl⟩:=hb.get i v (by simpa using hP)
    simp only [e,Option.getD_some] at hQ
    exact wpAny_truthy_bool hQ
  · have e:((List.range its.toArray.size).all fun i=>(bs[i]?).getD true)=bs.all id:=by
      rw [List.size_toArray,hb.length];exact LSm.range_all bs
    rw [e]
    exact ⟨.bl _,H,I.kept (LSm.kept_iter hk),rfl,q⟩
def rSlA:V->Option Int->Option Int->Hp->VK->Prop:=fun x lo hi H Q=>∃ a xs,x=.ref a/\H a=some (.tup xs)/\∀ p H',Same H H'->H' p=some (.tup (cutV xs lo hi))->Q (.ref p) H'
theorem Qad {H:Hp} {p:Addr} {o:HO} (h:H p=none):Same H (upd H p o):=fun b u e=>by rw [Qal (QaC e h)];exact e
theorem QbZ {prog:Program} {w:World} {A:Around} {E:Value->Shared->Prop} {s:Shared} {t sl:Addr} {items:Array Value} {vl vu:Value} {lo hi:Option Int} {Q:Value->Shared->Prop} (ht:IsTup s.heap t items) (hs:s.heap.IsSliceOf sl vl vu .none) (pl:IsPart vl lo) (pu:IsPart vu hi)
    (h1:HT.sIx items.size 0 lo=0) (h2:HT.sIx items.size items.size hi=items.size) (h:Q (.ref t) s):wpAny (model prog w) A (getItem (.ref t) (.ref sl)) Q E s:=by
  obtain ⟨os,hos,hcs,hds⟩:=id hs
  have hTs:s.TypeIs (.ref sl) "slice" := ⟨os,hos,hcs⟩
  unfold getItem
  try with_reducible refine wpAny_holding ?_
  first | refine wpAny_bind (wpAny_pure ?_) | skip
  refine wpAny_bind (wpAny_sequenceKey ht.typeIs (by decide) ?_)
  refine wpAny_bind (wpAny_callSpecial?_slot (name:=Str.ofString "__getitem__") ht.typeIs PyProof.Rows.slot_tuple_getitem
    (wpAny_call_entry PyProof.Rows.slot_tuple_getitem ht.typeIs entry_tuple_getitem ?_ (args_tuple_getitem _ _)))
  show wpAny _ _ (Builtin.Tuple.tupleItemsOf (.ref t) >>= _) _ _ s
  refine wpAny_bind (tupleItemsOf_ ht ?_)
  refine wpAny_bind (wpAny_typeOf hTs ?_)
  rw [if_pos (by decide)]
  refine wpAny_bind (HT.sliceApplied_gen hs pl pu ?_)
  show wpAny _ _ (if (((HT.sIx items.size 0 lo:Nat):Int) == 0&&(1:Int) == 1&&(HT.sIx items.size items.size hi - HT.sIx items.size 0 lo) == items.size)=true then _ else _) _ _ s
  rw [if_pos (by rw [h1,h2];simp)]
  refine wpAny_bind (m:=Builtin.Tuple.tupleIsExact _) (wpAny_bind (wpAny_typeOf ht.typeIs (wpAny_pure ?_)))
  rw [if_pos (by decide)]
  exact wpAny_bind (wpAny_rule (wpAny_pure ⟨_,rfl,wpAny_pure h⟩))
theorem sl_any:SlR X rSlA:=by
  intro pins s σ H x v vl vu lo hi sl Q I rx hs pl pu h
  obtain ⟨a,xs,rfl,hx,q⟩:=h
  by_cases hw:HT.sIx xs.length 0 lo=0/\HT.sIx xs.length xs.length hi=xs.length
  · cases rx
    obtain ⟨its,r,ht,hz⟩:=I.tuple (SqT.of hx)
    have hlen:its.toArray.size=xs.length:=by rw [List.size_toArray];exact r.length.symm
    refine ⟨"tuple",_,PyProof.Rows.slot_tuple_getitem.lookup,ht.typeIs,?_⟩
    refine QbZ ht hs pl pu (by rw [hlen];exact hw.1) (by rw [hlen];exact hw.2) ?_
    refine ⟨.ref a,H,I,rfl,q a H (Same.refl H) ?_⟩
    have e:cutV xs lo hi=xs:=by
      unfold cutV
      rw [hw.1,hw.2];simp
    rw [e];exact hx
  · exact sl_tup pins s σ H (.ref a) v vl vu lo hi sl Q I rx hs pl pu ⟨a,xs,rfl,SqT.of hx,hw,fun p hp=>q p _ (Qad hp) Qaf⟩
def rCatA:R2:=fun x y H Q=>∃ a b xs ys,x=.ref a/\y=.ref b/\H a=some (.tup xs)/\H b=some (.tup ys)/\xs.length+ys.length<=sizeLine/\∀ p H',Same H H'->H' p=some (.tup (xs++ys))->Q (.ref p) H'
theorem QmG:OpR X (binaryOp .Add) rCatA:=by
  intro pins s σ H x y v u Q I rx ry h
  obtain ⟨a,b,xs,ys,rfl,rfl,ha,hb,hz,q⟩:=h
  by_cases hx:xs=[]
  · subst hx
    cases rx
    cases ry
    obtain ⟨its,r1,p1,_⟩:=I.tuple (SqT.of ha)
    obtain ⟨its2,r2,p2,_⟩:=I.tuple (SqT.of hb)
    cases r1
    obtain ⟨⟨cls,dd,data,sl⟩,ho,hc,n,hd⟩:=id p1
    obtain ⟨⟨cls2,dd2,data2,sl2⟩,ho2,hc2,n2,hd2⟩:=id p2
    simp only at hc hd hc2 hd2
    subst hc hd hc2 hd2
    exact concat_meets ⟨_,ho,rfl⟩ ⟨_,ho2,rfl⟩ noFill_tuple_add seq_tuple_add PySem.F.slot_tuple_add PySem.F.entry_tuple_add (PySem.F.args_tuple_add_2 _ _)
      (tuple_addW0 a b #[] its2.toArray n n2 dd dd2 sl sl2 rfl) ⟨ho,ho2,⟨.ref b,H,I,rfl,q b H (Same.refl H) hb⟩⟩
  · exact QmF pins s σ H _ _ v u Q I rx ry ⟨a,b,xs,ys,rfl,rfl,SqT.of ha,SqT.of hb,hx,hz,fun e=>q a H (Same.refl H) (by rw [e,List.append_nil];exact ha),fun _ p hp=>q p _ (Qad hp) Qaf⟩
def tDNew:TE:=fun _ H Q=>∀ p,H p=none->Q (.ref p) (upd H p (.dK []))
theorem Qmd {pos:Pos}:PE X (.Dict [] [] pos) tDNew:=fun pins s σ H Q I h=>by
  refine wpAny_Dict_empty ⟨.ref s.heap.objs.size,_,I.laid (a:=s.heap.objs.size) (o:=.dK []) (t':=s.toks) (fun _ _ q=>Heap.get?_push_of_some _ q) (Nat.le_refl _) ?_,rfl,h _ (I.hok.fresh (Nat.le_refl _))⟩
  have hb:sysModules<s.heap.objs.size:=Nat.lt_trans (by decide) (I.mod.glob.keeps I.bk).lt
  exact ⟨Nat.zero_le _,beq_eq_false_iff_ne.mpr (Ne.symm (Nat.ne_of_lt hb)),[],.nil,Heap.DictOf.new s.heap⟩
end
end L2
namespace Rz
open PySem PyProof.Rows
open Sem (wp)
section
variable {prog:Program} {w:World} {A:Around} {E:Value->Shared->Prop} {s:Shared}
theorem Qd3 {it t:Addr} {i:Nat} {items:Array Value} {x:Value} {Q:Value->Shared->Prop} (hit:s.heap.IsTupleIter it t i) (ht:s.heap.IsTuple t items) (hx:items[i]? = some x)
    (hQ:∀ h',h'.IsTupleIter it t (i+1)->Heap.SameBut it s.heap h'->Q x { s with heap:=h' }):wpAny (model prog w) A (Builtin.SmallTypes.nextOf (.ref it)) Q E s:=by
  obtain ⟨o,ho,hc,hd⟩:=id hit
  obtain ⟨ol,hol,_,nl,hdl⟩:=ht
  unfold Builtin.SmallTypes.nextOf
  refine wpAny_bind (wpAny_callSpecial?_slot (name:=Str.ofString "__next__") hit.typeIs F.slot_tuple_iterator_next
    (wpAny_call_entry F.slot_tuple_iterator_next hit.typeIs F.entry_tuple_iterator_next ?_ (F.args_tuple_iterator_next_1 _)))
  show wpAny _ _ (field (.ref it) 0 >>= _) _ _ s
  refine wpAny_bind (wpAny_field ho hd (x:=.ref t) rfl ?_)
  show wpAny _ _ (if (Value.ref t == Value.none)=true then _ else _) _ _ s
  rw [if_neg (show ¬ ((Value.ref t == Value.none)=true) from Bool.false_ne_true)]
  show wpAny _ _ (field (.ref it) 1 >>= _) _ _ s
  refine wpAny_bind (wpAny_field ho hd (x:=.int i 0) rfl ?_)
  show wpAny _ _ (seqItems? (.ref t) >>= _) _ _ s
  refine wpAny_bind (wpAny_seqItems hol hdl ?_)
  simp only [Int.toNat_natCast,hx]
  refine wpAny_bind (wpAny_setField ho hd (by simp) (wpAny_pure ⟨x,rfl,wpAny_pure (hQ _ ?_ (Heap.SameBut.update ..))⟩))
  exact ⟨_,Heap.get?_update_self _ ho (Obj.isFreed_of_fields (Obj.data_mapFields hd _)),(Obj.cls_mapFields ..).trans hc,by
    rw [Obj.data_mapFields hd];simp [rawInt]⟩
theorem Qis {it t:Addr} {i:Nat} {items:Array Value} {Q:Value->Shared->Prop} (hh:A.handled=none) (hit:s.heap.IsTupleIter it t i) (ht:s.heap.IsTuple t items) (hx:items[i]? = none)
    (hE:∀ h' e,Heap.ExtBut it s.heap h'->(∃ o,h'.get? e=some o/\o.cls=.type "StopIteration")->E (.ref e) { s with heap:=h' }):wpAny (model prog w) A (Builtin.SmallTypes.nextOf (.ref it)) Q E s:=by
  obtain ⟨o,ho,hc,hd⟩:=id hit
  obtain ⟨ol,hol,_,nl,hdl⟩:=ht
  unfold Builtin.SmallTypes.nextOf
  refine wpAny_bind (wpAny_callSpecial?_slot (name:=Str.ofString "__next__") hit.typeIs F.slot_tuple_iterator_next
    (wpAny_call_entry F.slot_tuple_iterator_next hit.typeIs F.entry_tuple_iterator_next ?_ (F.args_tuple_iterator_next_1 _)))
  show wpAny _ _ (field (.ref it) 0 >>= _) _ _ s
  refine wpAny_bind (wpAny_field ho hd (x:=.ref t) rfl ?_)
  show wpAny _ _ (if (Value.ref t == Value.none)=true then _ else _) _ _ s
  rw [if_neg (show ¬ ((Value.ref t == Value.none)=true) from Bool.false_ne_true)]
  show wpAny _ _ (field (.ref it) 1 >>= _) _ _ s
  refine wpAny_bind (wpAny_field ho hd (x:=.int i 0) rfl ?_)
  show wpAny _ _ (seqItems? (.ref t) >>= _) _ _ s
  refine wpAny_bind (wpAny_seqItems hol hdl ?_)
  simp only [Int.toNat_natCast,hx]
  refine wpAny_bind (wpAny_rule (wpAny_bind (wpAny_setField ho hd (by simp) ?_)))
  show wpAny _ _ (newExc (.type "StopIteration") [] >>= _) _ _ _
  refine wpAny_bind ?_
  simp only [newExc,newTuple]
  refine wpAny_bind (wpAny_newObj_type ?_ (by size_fits))
  refine wpAny_bind (m:=firstArgMember _ _) (wpAny_of_eq (a:=Value.none) (by first | rfl | (simp only [firstArgMember];rfl)) ?_)
  refine wpAny_newObj_type ?_ (by size_fits)
  simp only [raiseNew]
  refine wpAny_bind (wpAny_handled ?_)
  first | rw [show A.in1.handled=none from hh] | rw [hh]
  refine wpAny_bind (wpAny_pure (wpAny_throw ?_))
  exact hE _ _ (((Heap.SameBut.update ..).extBut.push _).push _) ⟨_,Heap.get?_push_size _ rfl,rfl⟩
structure Apart (z TI TO i1 i2 t1 t2:Addr):Prop where
  a1:TI≠z
  a2:TO≠z
  a3:i1≠z
  a4:i2≠z
  a5:TI≠TO
  a6:TI≠i1
  a7:TI≠i2
  a8:TO≠i1
  a9:TO≠i2
  b1:i1≠i2
  b2:t1≠z/\t1≠TO/\t1≠i1/\t1≠i2
  b3:t2≠z/\t2≠TO/\t2≠i1/\t2≠i2
structure ZipAt (h:Heap) (z TI TO i1 i2 t1 t2:Addr) (f:Value) (k:Nat):Prop where
  zp:IsZip h z TI TO f
  ti:IsPair h TI (.ref i1) (.ref i2)
  to:∃ a b,IsPair h TO a b
  i1:h.IsTupleIter i1 t1 k
  i2:h.IsTupleIter i2 t2 k
theorem next_item {z TI TO i1 i2 t1 t2:Addr} {k:Nat} {xs ys:Array Value} {x y:Value} {Q:Option Value->Shared->Prop} (D:Apart z TI TO i1 i2 t1 t2) (Z:ZipAt s.heap z TI TO i1 i2 t1 t2 .none k)
    (hl1:s.heap.IsTuple t1 xs) (hl2:s.heap.IsTuple t2 ys) (hx:xs[k]? = some x) (hy:ys[k]? = some y)
    (hQ:∀ h',ZipAt h' z TI TO i1 i2 t1 t2 (rawInt s.heap.objs.size) (k+1)->IsPair h' s.heap.objs.size x y->(∀ c o,c≠z->c≠TO->c≠i1->c≠i2->s.heap.get? c=some o->h'.get? c=some o)->Q (some (.ref s.heap.objs.size)) { s with heap:=h' }) :
    wpAny (model prog w) A (pyNext (.ref z)) Q E s:=by
  obtain ⟨hz,hTI,⟨a,b,hTO⟩,h1,h2⟩:=Z
  have hT:s.TypeIs (.ref z) "zip" := ⟨_,hz,rfl⟩
  unfold pyNext
  refine wpAny_bind (wpAny_attempt (wpAny_callSpecial?_slot (name:=Str.ofString "__next__") hT F.slot_zip_next (wpAny_call_entry F.slot_zip_next hT F.entry_zip_next ?_ (F.args_zip_next_1 _))))
  show wpAny _ _ (field (.ref z) 2 >>= _) _ _ _
  refine wpAny_bind (wpAny_field hz rfl (x:=.bool false) rfl ?_)
  show wpAny _ _ (field (.ref z) 3 >>= _) _ _ _
  refine wpAny_bind (wpAny_field hz rfl (x:=.ref TI) rfl (wpAny_bind (wpAny_seqItems hTI rfl ?_)))
  show wpAny _ _ (Builtin.SmallTypes.ownedTupleIsFree (.ref z) >>= _) _ _ _
  refine wpAny_bind ?_
  unfold Builtin.SmallTypes.ownedTupleIsFree
  refine wpAny_bind (wpAny_field hz rfl (x:=.none) rfl (wpAny_pure ?_))
  simp only [if_true]
  refine wpAny_bind (wpAny_rule (wpAny_bind (wpAny_field hz rfl (x:=.ref TO) rfl (wpAny_bind (wpAny_setField_rec hz (by simp) fun g1 z1 s1=>?_)))))
  replace z1:IsZip g1 z TI TO .ellipsis:=z1
  refine wpAny_bind ?_
  simp only [List.zipIdx_cons,List.zipIdx_nil,List.forIn_cons,List.forIn_nil]
  refine wpAny_bind (wpAny_bind (wpAny_onRaise ?_))
  show wpAny _ _ (Builtin.SmallTypes.nextOf (.ref i1) >>= _) _ _ _
  refine wpAny_bind (Qd3 (h1.extBut s1.extBut D.a3) (hl1.extBut s1.extBut D.b2.1) hx fun g2 p2 s2=>wpAny_pure ?_)
  have o2:IsPair g2 TO a b:=s2.extBut _ _ D.a8 (s1.extBut _ _ D.a2 hTO)
  refine wpAny_bind (wpAny_seqItems o2 rfl (wpAny_bind (wpAny_updateSeq_pair o2 fun g3 o3 s3=>wpAny_bind (wpAny_letGo (wpAny_pure ?_)))))
  replace o3:IsPair g3 TO x b:=o3
  refine wpAny_bind (wpAny_bind (wpAny_onRaise ?_))
  show wpAny _ _ (Builtin.SmallTypes.nextOf (.ref i2) >>= _) _ _ _
  refine wpAny_bind (Qd3 (((h2.extBut s1.extBut D.a4).extBut s2.extBut D.b1.symm).extBut s3.extBut D.a9.symm)
    (((hl2.extBut s1.extBut D.b3.1).extBut s2.extBut D.b3.2.2.1).extBut s3.extBut D.b3.2.1) hy fun g4 p4 s4=>wpAny_pure ?_)
  have o4:IsPair g4 TO x b:=s4.extBut _ _ D.a9 o3
  refine wpAny_bind (wpAny_seqItems o4 rfl (wpAny_bind (wpAny_updateSeq_pair o4 fun g5 o5 s5=>wpAny_bind (wpAny_letGo (wpAny_pure (wpAny_pure ?_))))))
  replace o5:IsPair g5 TO x y:=o5
  refine wpAny_bind (wpAny_seqItems o5 rfl (wpAny_bind (wpAny_newTuple ?_)))
  have sz:g5.objs.size=s.heap.objs.size:=by rw [s5.1,s4.1,s3.1,s2.1,s1.1]
  have kp:∀ c o,c≠z->c≠TO->c≠i1->c≠i2->s.heap.get? c=some o->g5.get? c=some o:=fun c o c1 c2 c3 c4 e=>
    s5.extBut _ _ c2 (s4.extBut _ _ c4 (s3.extBut _ _ c2 (s2.extBut _ _ c3 (s1.extBut _ _ c1 e))))
  have z5:IsZip g5 z TI TO .ellipsis:=s5.extBut _ _ D.a2.symm (s4.extBut _ _ D.a4.symm (s3.extBut _ _ D.a2.symm (s2.extBut _ _ D.a3.symm z1)))
  have q1:g5.IsTupleIter i1 t1 (k+1):=((p2.extBut s3.extBut D.a8.symm).extBut s4.extBut D.b1).extBut s5.extBut D.a8.symm
  have q2:g5.IsTupleIter i2 t2 (k+1):=p4.extBut s5.extBut D.a9.symm
  show wpAny _ _ (Builtin.SmallTypes.ownedTupleHandOut (.ref z) (.ref g5.objs.size) >>= _) _ _ _
  refine wpAny_bind ?_
  unfold Builtin.SmallTypes.ownedTupleHandOut
  have z6:IsZip (g5.push { cls:=.type "tuple",data:=.seq #[x,y] }) z TI TO .ellipsis:=Heap.get?_push_of_some _ z5
  refine wpAny_bind (wpAny_setField_rec z6 (by simp) fun g7 z7 s7=>?_)
  replace z7:IsZip g7 z TI TO (rawInt g5.objs.size):=z7
  refine wpAny_setField_rec z7 (by simp) fun g8 z8 s8=>?_
  replace z8:IsZip g8 z TI TO (rawInt g5.objs.size):=z8
  have up:∀ c o,c≠z->g5.get? c=some o->g8.get? c=some o:=fun c o c1 e=>s8.extBut _ _ c1 (s7.extBut _ _ c1 (Heap.get?_push_of_some _ e))
  have ne:g5.objs.size≠z:=Nat.ne_of_gt (Heap.lt_size z5)
  have t8:IsPair g8 g5.objs.size x y:=s8.extBut _ _ ne (s7.extBut _ _ ne (Heap.get?_push_size _ rfl))
  rw [sz] at z8 t8
  refine wpAny_pure ⟨_,rfl,wpAny_pure ?_⟩
  show Q (some (.ref g5.objs.size)) _
  rw [sz]
  exact hQ g8 ⟨z8,up _ _ D.a1 (kp _ _ D.a1 D.a5 D.a6 D.a7 hTI),⟨x,y,up _ _ D.a2 o5⟩,q1.at fun o e=>up _ o D.a3 e,q2.at fun o e=>up _ o D.a4 e⟩ t8 fun c o c1 c2 c3 c4 e=>up c o c1 (kp c o c1 c2 c3 c4 e)
theorem next_end {z TI TO i1 i2 t1 t2:Addr} {k:Nat} {xs ys:Array Value} {Q:Option Value->Shared->Prop} (hh:A.handled=none) (D:Apart z TI TO i1 i2 t1 t2) (Z:ZipAt s.heap z TI TO i1 i2 t1 t2 .none k)
    (hl1:s.heap.IsTuple t1 xs) (hl2:s.heap.IsTuple t2 ys) (hend:xs[k]? = none∨ys[k]? = none)
    (hQ:∀ h',(∀ c o,c≠z->c≠TO->c≠i1->c≠i2->s.heap.get? c=some o->h'.get? c=some o)->Q none { s with heap:=h' }):wpAny (model prog w) A (pyNext (.ref z)) Q E s:=by
  obtain ⟨hz,hTI,⟨a,b,hTO⟩,h1,h2⟩:=Z
  have hT:s.TypeIs (.ref z) "zip" := ⟨_,hz,rfl⟩
  have fin:∀ (h':Heap) (e:Addr),(∀ c o,c≠z->c≠TO->c≠i1->c≠i2->s.heap.get? c=some o->h'.get? c=some o)->(∃ o,h'.get? e=some o/\o.cls=.type "StopIteration") ->
      wpAny (model prog w) A (isInstance (.ref e) (.type "StopIteration") >>= fun x=>if x=true then pure none else throw (.ref e)) Q E { s with heap:=h' }:=fun h' e hk he=>by
    obtain ⟨o,ho,hc⟩:=he
    refine wpAny_bind (wpAny_isInstance (T := "StopIteration") (b:=true) ⟨o,ho,hc⟩ isSubtype_stop ?_)
    exact wpAny_pure (hQ _ hk)
  unfold pyNext
  refine wpAny_bind (wpAny_attempt (wpAny_callSpecial?_slot (name:=Str.ofString "__next__") hT F.slot_zip_next (wpAny_call_entry F.slot_zip_next hT F.entry_zip_next ?_ (F.args_zip_next_1 _))))
  show wpAny _ _ (field (.ref z) 2 >>= _) _ _ _
  refine wpAny_bind (wpAny_field hz rfl (x:=.bool false) rfl ?_)
  show wpAny _ _ (field (.ref z) 3 >>= _) _ _ _
  refine wpAny_bind (wpAny_field hz rfl (x:=.ref TI) rfl (wpAny_bind (wpAny_seqItems hTI rfl ?_)))
  show wpAny _ _ (Builtin.SmallTypes.ownedTupleIsFree (.ref z) >>= _) _ _ _
  refine wpAny_bind ?_
  unfold Builtin.SmallTypes.ownedTupleIsFree
  refine wpAny_bind (wpAny_field hz rfl (x:=.none) rfl (wpAny_pure ?_))
  simp only [if_true]
  refine wpAny_bind (wpAny_rule (wpAny_bind (wpAny_field hz rfl (x:=.ref TO) rfl (wpAny_bind (wpAny_setField_rec hz (by simp) fun g1 z1 s1=>?_)))))
  replace z1:IsZip g1 z TI TO .ellipsis:=z1
  refine wpAny_bind ?_
  simp only [List.zipIdx_cons,List.zipIdx_nil,List.forIn_cons,List.forIn_nil]
  refine wpAny_bind (wpAny_bind (wpAny_onRaise ?_))
  show wpAny _ _ (Builtin.SmallTypes.nextOf (.ref i1) >>= _) _ _ _
  cases hx:xs[k]? with
  | none=>
    refine wpAny_bind (Qis hh (h1.extBut s1.extBut D.a3) (hl1.extBut s1.extBut D.b2.1) hx fun g2 e s2 he=>?_)
    obtain ⟨oe,hoe,hce⟩:=he
    have z2:IsZip g2 z TI TO .ellipsis:=s2 _ _ D.a3.symm z1
    have hez:e≠z:=fun q=>by subst q;rw [z2] at hoe;cases hoe;simp at hce
    refine wpAny_setField_rec z2 (by simp) fun g3 _ s3=>?_
    exact fin g3 e (fun c o c1 _ c3 _ q=>s3.extBut _ _ c1 (s2 _ _ c3 (s1.extBut _ _ c1 q))) ⟨oe,s3.extBut _ _ hez hoe,hce⟩
  | some x=>
    have hy:ys[k]? = none:=by
      rcases hend with q | q
      · rw [hx] at q;cases q
      · exact q
    refine wpAny_bind (Qd3 (h1.extBut s1.extBut D.a3) (hl1.extBut s1.extBut D.b2.1) hx fun g2 p2 s2=>wpAny_pure ?_)
    have o2:IsPair g2 TO a b:=s2.extBut _ _ D.a8 (s1.extBut _ _ D.a2 hTO)
    refine wpAny_bind (wpAny_seqItems o2 rfl (wpAny_bind (wpAny_updateSeq_pair o2 fun g3 o3 s3=>wpAny_bind (wpAny_letGo (wpAny_pure ?_)))))
    refine wpAny_bind (wpAny_bind (wpAny_onRaise ?_))
    show wpAny _ _ (Builtin.SmallTypes.nextOf (.ref i2) >>= _) _ _ _
    refine wpAny_bind (Qis hh (((h2.extBut s1.extBut D.a4).extBut s2.extBut D.b1.symm).extBut s3.extBut D.a9.symm)
      (((hl2.extBut s1.extBut D.b3.1).extBut s2.extBut D.b3.2.2.1).extBut s3.extBut D.b3.2.1) hy fun g4 e s4 he=>?_)
    obtain ⟨oe,hoe,hce⟩:=he
    have z4:IsZip g4 z TI TO .ellipsis:=s4 _ _ D.a4.symm (s3.extBut _ _ D.a2.symm (s2.extBut _ _ D.a3.symm z1))
    have hez:e≠z:=fun q=>by subst q;rw [z4] at hoe;cases hoe;simp at hce
    refine wpAny_setField_rec z4 (by simp) fun g5 _ s5=>?_
    exact fin g5 e (fun c o c1 c2 c3 c4 q=>s5.extBut _ _ c1 (s4 _ _ c4 (s3.extBut _ _ c2 (s2.extBut _ _ c3 (s1.extBut _ _ c1 q))))) ⟨oe,s5.extBut _ _ hez hoe,hce⟩
end
abbrev zh1 (h:Heap) (t1:Addr):Heap:=h.push { cls:=.type "tuple_iterator",data:=.fields #[.ref t1,.int 0 0] }
abbrev zh2 (h:Heap) (t1 t2:Addr):Heap:=(zh1 h t1).push { cls:=.type "tuple_iterator",data:=.fields #[.ref t2,.int 0 0] }
abbrev zh3 (h:Heap) (t1 t2:Addr):Heap:=(zh2 h t1 t2).push { cls:=.type "tuple",data:=.seq #[.ref h.objs.size,.ref (zh1 h t1).objs.size] }
abbrev zh4 (h:Heap) (t1 t2:Addr):Heap:=(zh3 h t1 t2).push { cls:=.type "tuple",data:=.seq #[.none,.none] }
abbrev zh5 (h:Heap) (t1 t2:Addr):Heap:=(zh4 h t1 t2).push { cls:=.type "zip",data:=.fields #[.none,.bool false,.bool false,.ref (zh2 h t1 t2).objs.size,.ref (zh3 h t1 t2).objs.size] }
theorem made (t1 t2:Addr) (xs ys:Array Value) :
    Meets (Builtin.«zip.__new__» ⟨[.type "zip",.ref t1,.ref t2],[]⟩) (fun _ R s=>s.heap.IsTuple t1 xs/\s.heap.IsTuple t2 ys/\R (.ok (.ret (.ref (zh4 s.heap t1 t2).objs.size))) { s with heap:=zh5 s.heap t1 t2 }):=
  .of_wp fun prog w A R s h=>by
    obtain ⟨hp,g,d,tk,os⟩:=s;obtain ⟨hl1,hl2,h⟩:=h
    have hsub:=sub_zip
    have k1:Heap.IsTuple (Shared.heap ⟨hp,g,d,tk,os⟩) t1 xs:=hl1
    have k2:Heap.IsTuple (Shared.heap ⟨hp.push { cls:=.type "tuple_iterator",data:=.fields #[.ref t1,.int 0 0] },g,d,tk,os⟩) t2 ys:=hl2.at fun o e=>Heap.get?_push_of_some _ e
    wp_walk using wpAny_pyIter_tuple k1,wpAny_pyIter_tuple k2
    exact ⟨_,rfl,h⟩
section
variable {prog:Program} {w:World} {A:Around} {E:Value->Shared->Prop} {s:Shared}
theorem call_two {t1 t2:Addr} {xs ys:Array Value} {Q:Value->Shared->Prop} (hl1:s.heap.IsTuple t1 xs) (hl2:s.heap.IsTuple t2 ys)
    (h:∀ h',ZipAt h' (s.heap.objs.size+4) (s.heap.objs.size+2) (s.heap.objs.size+3) s.heap.objs.size (s.heap.objs.size+1) t1 t2 .none 0->(∀ c o,s.heap.get? c=some o->h'.get? c=some o)->Q (.ref (s.heap.objs.size+4)) { s with heap:=h' }) :
    wpAny (model prog w) A (call (.type "zip") [.ref t1,.ref t2]) Q E s:=by
  refine callType_new F.called_zip (by decide) (F.typeCall_zip_2 _ _) (F.newCall_zip_2 _ _) (fun obj=>F.args_object_init_3 obj _ _) F.entry_zip_new (made t1 t2 xs ys) ⟨hl1,hl2,?_⟩
  have z1:(zh1 s.heap t1).objs.size=s.heap.objs.size+1:=Heap.size_push ..
  have z2:(zh2 s.heap t1 t2).objs.size=s.heap.objs.size+2:=by rw [Heap.size_push,z1]
  have z3:(zh3 s.heap t1 t2).objs.size=s.heap.objs.size+3:=by rw [Heap.size_push,z2]
  have z4:(zh4 s.heap t1 t2).objs.size=s.heap.objs.size+4:=by rw [Heap.size_push,z3]
  have g5:(zh5 s.heap t1 t2).get? (zh4 s.heap t1 t2).objs.size=some _:=Heap.get?_push_size _ rfl
  have g4:(zh5 s.heap t1 t2).get? (zh3 s.heap t1 t2).objs.size=some _:=Heap.get?_push_of_some _ (Heap.get?_push_size _ rfl)
  have g3:(zh5 s.heap t1 t2).get? (zh2 s.heap t1 t2).objs.size=some _:=Heap.get?_push_of_some _ (Heap.get?_push_of_some _ (Heap.get?_push_size _ rfl))
  have g2:(zh5 s.heap t1 t2).get? (zh1 s.heap t1).objs.size=some _:=Heap.get?_push_of_some _ (Heap.get?_push_of_some _ (Heap.get?_push_of_some _ (Heap.get?_push_size _ rfl)))
  have g1:(zh5 s.heap t1 t2).get? s.heap.objs.size=some _:=Heap.get?_push_of_some _ (Heap.get?_push_of_some _ (Heap.get?_push_of_some _ (Heap.get?_push_of_some _ (Heap.get?_push_size _ rfl))))
  show _/\_
  rw [z2,z3,z4] at g5
  rw [z1,z2] at g3
  rw [z3] at g4
  rw [z1] at g2
  rw [z4]
  exact ⟨⟨_,g5,rfl⟩,h _ ⟨g5,g3,⟨_,_,g4⟩,⟨_,g1,rfl,rfl⟩,⟨_,g2,rfl,rfl⟩⟩ fun c o x=>Heap.get?_push_of_some _ (Heap.get?_push_of_some _ (Heap.get?_push_of_some _ (Heap.get?_push_of_some _ (Heap.get?_push_of_some _ x))))⟩
end
end Rz
namespace L2
open PySem PySem.Spec PyProof.Rows
section
variable {X:Cx} {pins:List (Addr×Obj)} {σ:St} {H:Hp} {s:Shared} {h':Heap}
theorem Inv.turnedNew {t':Nat} {ch:List Addr} {a:Addr} {o:HO} (I:Inv X pins σ H s) (hch:∀ b∈ch,FpOk X pins H b) (k:∀ b u,b∉ch->s.heap.get? b=some u->h'.get? b=some u) (hp:s.heap.objs.size<=a)
    (new:ObjOk X.prog X.w (upd H a o) h' a o):Inv X pins σ (upd H a o) { s with heap:=h',toks:=t' }:=by
  have hn:H a=none:=I.hok.fresh hp
  have nch:∀ b u,H b=some u->b∉ch:=fun b u e z=>by rw [(hch b z).1] at e;cases e
  refine I.step (g':=s.gens) (d':=s.drawn) (ch:=ch) (fun b hb=>?_) (fun b u _ _ hc e _=>k b u hc e) (fun b u _ _ hc e _=>⟨u.slots,k b u hc e⟩) (fun b u hc e n=>?_) (fun b u hc e=>⟨u,k b u hc e⟩)
    (fun b xs e=>by rw [Qal (QaC e hn)];exact e) (fun b u v e=>by rw [Qal (QaC e hn)];exact e) (fun b ps e=>⟨#[],by rw [Qal (QaC e hn),e];simp⟩) (fun m hm=>?_) (fun b u e=>?_) I.bare
  · obtain ⟨f0,f1,f2,f3,f4,f5⟩:=hch b hb
    exact ⟨f3,f1,f4,f5⟩
  · rw [Qal (Nat.ne_of_lt (Nat.lt_of_lt_of_le (Heap.lt_size e) hp))];exact n
  · obtain ⟨u,es,ep,ho,r⟩:=hm
    exact ⟨u,es,ep,k _ u (fun z=>(hch _ z).2.1 rfl) ho,r⟩
  · by_cases hb:b=a
    · subst hb;rw [Qaf] at e;cases e;exact new
    · rw [Qal hb] at e
      refine (I.hok b u e).stay (fun c v hc q=>k c v ?_ q) (fun c q=>by rw [Qal (QaC q hn)];exact q) fun c xs q=>by rw [Qal (QaC q hn)];exact q
      rcases hc with z | z
      · rw [z];exact nch b u e
      · exact nch c _ z
theorem Inv.turnedAll {t':Nat} {ch:List Addr} (I:Inv X pins σ H s) (hch:∀ b∈ch,FpOk X pins H b) (k:∀ b u,b∉ch->s.heap.get? b=some u->h'.get? b=some u):Inv X pins σ H { s with heap:=h',toks:=t' }:=by
  have nch:∀ b u,H b=some u->b∉ch:=fun b u e z=>by rw [(hch b z).1] at e;cases e
  refine I.step (g':=s.gens) (d':=s.drawn) (ch:=ch) (fun b hb=>?_) (fun b u _ _ hc e _=>k b u hc e) (fun b u _ _ hc e _=>⟨u.slots,k b u hc e⟩) (fun b u hc e n=>n) (fun b u hc e=>⟨u,k b u hc e⟩)
    (fun b xs e=>e) (fun b u v e=>e) (fun b ps e=>⟨#[],by rw [e];simp⟩) (fun m hm=>?_) (fun b u e=>?_) I.bare
  · obtain ⟨f0,f1,f2,f3,f4,f5⟩:=hch b hb
    exact ⟨f3,f1,f4,f5⟩
  · obtain ⟨u,es,ep,ho,r⟩:=hm
    exact ⟨u,es,ep,k _ u (fun z=>(hch _ z).2.1 rfl) ho,r⟩
  · refine (I.hok b u e).stay (fun c v hc q=>k c v ?_ q) (fun c q=>q) fun c xs q=>q
    rcases hc with z | z
    · rw [z];exact nch b u e
    · exact nch c _ z
end
def Itz (t1 t2:Addr):It:=
  ⟨fun i H=>∃ xs ys x y,H t1=some (.tup xs)/\H t2=some (.tup ys)/\xs[i]? = some x/\ys[i]? = some y,
   fun i H v H'=>∃ p x y,H p=none/\(∀ xs,H t1=some (.tup xs)->xs[i]? = some x)/\(∀ ys,H t2=some (.tup ys)->ys[i]? = some y)/\v=.ref p/\H'=upd H p (.tup [x,y]),
   fun i H=>∃ xs ys,H t1=some (.tup xs)/\H t2=some (.tup ys)/\(xs.length<=i∨ys.length<=i)⟩
theorem Qjs {P:Program} {w:World} {K:PySem.W.Frag} {elts:List Expr} {x1} {tpos:Pos} {z TI TO i1 i2 t1 t2:Addr} (D:Rz.Apart z TI TO i1 i2 t1 t2) :
    Turn P w K (.Tuple elts x1 tpos) (Itz t1 t2) [z,TI,TO,i1,i2] z (fun i h=>Rz.ZipAt h z TI TO i1 i2 t1 t2 .none i) where
  mem:=by simp
  obj:=fun i h st b hb=>by
    obtain ⟨a1,a2,⟨_,_,a3⟩,⟨o4,a4,_,d4⟩,⟨o5,a5,_,d5⟩⟩:=st
    simp only [List.mem_cons,List.not_mem_nil,or_false] at hb
    rcases hb with rfl | rfl | rfl | rfl | rfl
    · exact ⟨_,a1,fun v q=>nomatch q⟩
    · exact ⟨_,a2,fun v q=>nomatch q⟩
    · exact ⟨_,a3,fun v q=>nomatch q⟩
    · exact ⟨_,a4,fun v q=>by rw [d4] at q;cases q⟩
    · exact ⟨_,a5,fun v q=>by rw [d5] at q;cases q⟩
  keep:=fun i h h' st k=>by
    obtain ⟨a1,a2,⟨a,b,a3⟩,a4,a5⟩:=st
    exact ⟨k z (by simp) _ a1,k TI (by simp) _ a2,⟨a,b,k TO (by simp) _ a3⟩,a4.at fun o e=>k i1 (by simp) o e,a5.at fun o e=>k i2 (by simp) o e⟩
  item:=by
    intro X hP hw hK hc i pins s σ H E I hf st hg
    subst hP hw hK
    obtain ⟨xs,ys,x,y,h1,h2,hx,hy⟩:=hg
    obtain ⟨its1,r1,p1,_⟩:=I.tuple (SqT.of h1)
    obtain ⟨its2,r2,p2,_⟩:=I.tuple (SqT.of h2)
    obtain ⟨u1,hu1,ru1⟩:=r1.get hx
    obtain ⟨u2,hu2,ru2⟩:=r2.get hy
    refine Rz.next_item D st (show s.heap.IsTuple t1 its1.toArray from p1) (show s.heap.IsTuple t2 its2.toArray from p2) (by simpa using hu1) (by simpa using hu2) fun h' st' tp kp=>?_
    have hlt:∀ b∈[z,TI,TO,i1,i2],b≠s.heap.objs.size:=fun b hb=>by
      obtain ⟨a1,a2,⟨_,_,a3⟩,⟨o4,a4,_,d4⟩,⟨o5,a5,_,d5⟩⟩:=st
      simp only [List.mem_cons,List.not_mem_nil,or_false] at hb
      rcases hb with rfl | rfl | rfl | rfl | rfl
      · exact Nat.ne_of_lt (Heap.lt_size a1)
      · exact Nat.ne_of_lt (Heap.lt_size a2)
      · exact Nat.ne_of_lt (Heap.lt_size a3)
      · exact Nat.ne_of_lt (Heap.lt_size a4)
      · exact Nat.ne_of_lt (Heap.lt_size a5)
    have fr:H s.heap.objs.size=none:=I.hok.fresh (Nat.le_refl _)
    refine ⟨_,rfl,wpAny_letOwnedTupleGo_zip st'.zp fun h2' z2 s2=>?_⟩
    have I1:Inv X pins σ (upd H s.heap.objs.size (.tup [x,y])) { s with heap:=h2',toks:=s.toks }:=by
      refine I.turnedNew (ch:=[z,TI,TO,i1,i2]) hf (fun b u hb e=>?_) (Nat.le_refl _) ⟨by show 2<=sizeLine;decide,[u1,u2],.cons ru1 (.cons ru2 .nil),?_⟩
      · simp only [List.mem_cons,List.not_mem_nil,or_false,not_or] at hb
        exact s2.extBut _ _ hb.1 (kp b u hb.1 hb.2.2.1 hb.2.2.2.1 hb.2.2.2.2 e)
      · exact ⟨_,s2.extBut _ _ (hlt z (by simp)).symm tp,rfl,0,rfl⟩
    refine ⟨.ref s.heap.objs.size,_,I1,rfl,⟨_,x,y,fr,fun xs' e=>?_,fun ys' e=>?_,rfl,rfl⟩,?_,fun b hb=>?_⟩
    · rw [h1] at e;cases e;exact hx
    · rw [h2] at e;cases e;exact hy
    · obtain ⟨a1,a2,⟨a,b,a3⟩,a4,a5⟩:=st'
      exact ⟨z2,s2.extBut _ _ D.a1 a2,⟨a,b,s2.extBut _ _ D.a2 a3⟩,a4.extBut s2.extBut D.a3,a5.extBut s2.extBut D.a4⟩
    · rw [Qal (hlt b hb)];exact (hf b hb).1
  done:=by
    intro X hP hw hK hc i pins s σ H E I hf st hg
    subst hP hw hK
    obtain ⟨xs,ys,h1,h2,he⟩:=hg
    obtain ⟨its1,r1,p1,_⟩:=I.tuple (SqT.of h1)
    obtain ⟨its2,r2,p2,_⟩:=I.tuple (SqT.of h2)
    have l1:=r1.length
    have l2:=r2.length
    refine Rz.next_end (I.ok.hd hc) D st (show s.heap.IsTuple t1 its1.toArray from p1) (show s.heap.IsTuple t2 its2.toArray from p2) ?_ fun h' kp=>⟨rfl,I.turnedAll (t':=s.toks) (ch:=[z,TI,TO,i1,i2]) hf fun b u hb e=>?_⟩
    · rcases he with q | q
      · exact .inl (by simp;omega)
      · exact .inr (by simp;omega)
    · simp only [List.mem_cons,List.not_mem_nil,or_false,not_or] at hb
      exact kp b u hb.1 hb.2.2.1 hb.2.2.2.1 hb.2.2.2.2 e
  self:=fun _ _ _ _ _ st h=>wpAny_pyIter_zip st.zp h
section
variable {X:Cx}
theorem Qjj (n t1 t2:Nat) (h1:t1<n) (h2:t2<n):Rz.Apart (n+4) (n+2) (n+3) n (n+1) t1 t2 where
  a1:=by show ¬ (n+2=n+4);omega
  a2:=by show ¬ (n+3=n+4);omega
  a3:=by show ¬ (n=n+4);omega
  a4:=by show ¬ (n+1=n+4);omega
  a5:=by show ¬ (n+2=n+3);omega
  a6:=by show ¬ (n+2=n);omega
  a7:=by show ¬ (n+2=n+1);omega
  a8:=by show ¬ (n+3=n);omega
  a9:=by show ¬ (n+3=n+1);omega
  b1:=by show ¬ (n=n+1);omega
  b2:=⟨by show ¬ (t1=n+4);omega,by show ¬ (t1=n+3);omega,by show ¬ (t1=n);omega,by show ¬ (t1=n+1);omega⟩
  b3:=⟨by show ¬ (t2=n+4);omega,by show ¬ (t2=n+3);omega,by show ¬ (t2=n);omega,by show ¬ (t2=n+1);omega⟩
def iZip (ta:TA):TI:=fun σ H R=>ta σ H fun vs H1=>∃ t1 t2 xs ys,vs=[.ref t1,.ref t2]/\H1 t1=some (.tup xs)/\H1 t2=some (.tup ys)/\R (Itz t1 t2) H1
theorem Qjb:bootBuiltins "zip" = some (.type "zip"):=by decide +kernel
theorem pi_zip {a b:Expr} {elts:List Expr} {x1} {tpos:Pos} {ta:TA} {p pos:Pos} (hg:Gl X "zip") (hm:X.mg "zip" = none) (ha:PA X [a,b] ta) (hs:starEach [a,b] X.env=[(false,eval a X.env),(false,eval b X.env)]:=by rfl) (hs2:starEach [b] X.env=[(false,eval b X.env)]:=by rfl) :
    PI X (.Tuple elts x1 tpos) (.Call (.Name "zip" p) [a,b] [] pos) (iZip ta):=by
  intro pins s σ H R I h
  refine Call_ (Qcd I hg hm Qjb (PyProof.Rows.callWith_type1 (thn (ha pos pins s σ H _ I h) fun us s1 ⟨vs,H1,I1,r1,q1⟩=>?_) (by rw [hs,hs2]) (by rw [hs2];rfl)))
  obtain ⟨t1,t2,xs,ys,e,h1,h2,q⟩:=q1
  subst e
  obtain ⟨u,v,rfl,ru,rv⟩:=Qff r1
  cases (show u=Value.ref t1 from ru)
  cases (show v=Value.ref t2 from rv)
  obtain ⟨its1,w1,p1,_⟩:=I1.tuple (SqT.of h1)
  obtain ⟨its2,w2,p2,_⟩:=I1.tuple (SqT.of h2)
  have n1:t1<s1.heap.objs.size:=I1.hok.lt h1
  have n2:t2<s1.heap.objs.size:=I1.hok.lt h2
  refine Rz.call_two (show s1.heap.IsTuple t1 its1.toArray from p1) (show s1.heap.IsTuple t2 its2.toArray from p2) fun h' st kp=>?_
  refine wpAny_pyIter_zip (s:={ s1 with heap:=h' }) st.zp ?_
  have D:=Qjj s1.heap.objs.size t1 t2 n1 n2
  refine ⟨s1.heap.objs.size+4,_,_,_,H1,rfl,I1.kept (t':=s1.toks) kp,Qjs D,st,fun b hb=>?_,q⟩
  have hb':s1.heap.objs.size<=b:=by
    simp only [List.mem_cons,List.not_mem_nil,or_false] at hb
    rcases hb with rfl | rfl | rfl | rfl | rfl<;>omega
  exact I1.fpOk hb' (I1.hok.fresh hb')
end
end L2
namespace Rk
open PySem PySem.Spec PyProof.Rows L2
def tupO:Option HO->Option (List V)
  | some (.tup xs)=>some xs
  | _=>none
def Qb5 (H:Hp):V->Option (List V)
  | .ref a=>tupO (H a)
  | _=>none
theorem tupOf_at (H:Hp) (a:Addr):Qb5 H (.ref a)=tupO (H a):=rfl
def isT (H:Hp) (x:V):Bool:=(Qb5 H x).isSome
def isI:V->Bool
  | .int _=>true
  | _=>false
def isB:V->Bool
  | .bl _=>true
  | _=>false
def Kn (p:Addr) (H:Hp):V->Prop
  | .non=>True
  | .bl _=>True
  | .int _=>True
  | .str _=>True
  | .ref a=>a≠p/\((∃ xs,H a=some (.tup xs))∨(∃ xs,H a=some (.lst xs))∨∃ kvs,H a=some (.dK kvs))
  | _=>False
def KnD (p:Addr):Nat->Hp->V->Prop
  | 0,H,x=>Kn p H x
  | n+1,H,x=>Kn p H x/\∀ xs,Qb5 H x=some xs->∀ y∈xs,KnD p n H y
def KX (p:Addr) (H H':Hp):Prop:=∀ b o,b≠p->H b=some o->H' b=some o
theorem KX.refl (p:Addr) (H:Hp):KX p H H:=fun _ _ _ e=>e
theorem KX.trans {p:Addr} {H H1 H2:Hp} (a:KX p H H1) (b:KX p H1 H2):KX p H H2:=fun c o h e=>b c o h (a c o h e)
theorem KX.of {p:Addr} {H H':Hp} (h:Same H H'):KX p H H':=fun b o _ e=>h b o e
theorem KX.upd {p:Addr} {H:Hp} {o:HO}:KX p H (upd H p o):=fun b u n e=>by rw [Qal n];exact e
theorem KX.new {p q:Addr} {H:Hp} {o:HO} (h:H q=none):KX p H (L2.upd H q o):=KX.of (Qad h)
theorem Kn.keep {p:Addr} {H H':Hp} (k:KX p H H'):∀ {x:V},Kn p H x->Kn p H' x
  | .non,h=>h
  | .bl _,h=>h
  | .int _,h=>h
  | .str _,h=>h
  | .ref a,⟨n,h⟩=>⟨n,by
    rcases h with ⟨xs,e⟩ | ⟨xs,e⟩ | ⟨xs,e⟩
    · exact .inl ⟨xs,k a _ n e⟩
    · exact .inr (.inl ⟨xs,k a _ n e⟩)
    · exact .inr (.inr ⟨xs,k a _ n e⟩)⟩
  | .byt _,h=>h.elim
  | .flt _,h=>h.elim
  | .ty _,h=>h.elim
theorem QbH {p:Addr} {H H':Hp} (k:KX p H H'):∀ {x:V},Kn p H x->Qb5 H' x=Qb5 H x
  | .non,h=>rfl
  | .bl _,h=>rfl
  | .int _,h=>rfl
  | .str _,h=>rfl
  | .ref a,⟨n,h⟩=>by
    rcases h with ⟨xs,e⟩ | ⟨xs,e⟩ | ⟨xs,e⟩<;>rw [tupOf_at,tupOf_at,e,k a _ n e]
  | .byt _,h=>h.elim
  | .flt _,h=>h.elim
  | .ty _,h=>h.elim
theorem KnD.kn {p:Addr} {H:Hp} {x:V}:∀ {n:Nat},KnD p n H x->Kn p H x
  | 0,h=>h
  | _+1,h=>h.1
theorem KnD.keep {p:Addr} {H H':Hp} (k:KX p H H'):∀ {n:Nat} {x:V},KnD p n H x->KnD p n H' x
  | 0,x,h=>Kn.keep k h
  | n+1,x,h=>⟨Kn.keep k h.1,fun xs e y hy=>KnD.keep k (h.2 xs (by rw [<- QbH k h.1];exact e) y hy)⟩
theorem KnD.low {p:Addr} {H:Hp}:∀ {n:Nat} {x:V},KnD p (n+1) H x->KnD p n H x
  | 0,x,h=>h.1
  | n+1,x,h=>⟨h.1,fun xs e y hy=>KnD.low (h.2 xs e y hy)⟩
theorem KnD.tup {p:Addr} {H:Hp} {n:Nat} {a:Addr} {xs:List V} (hp:a≠p) (e:H a=some (.tup xs)) (h:∀ y∈xs,KnD p n H y):KnD p (n+1) H (.ref a):=
  ⟨⟨hp,.inl ⟨xs,e⟩⟩,fun ys z y hy=>h y (by
    have z':some xs=some ys:=by rw [<- z,tupOf_at,e];rfl
    cases z';exact hy)⟩
theorem KnD.int {p:Addr} {H:Hp} (i:Int):∀ (n:Nat),KnD p n H (.int i)
  | 0=>trivial
  | n+1=>⟨trivial,fun _ e=>nomatch e⟩
theorem KnD.bl {p:Addr} {H:Hp} (i:Bool):∀ (n:Nat),KnD p n H (.bl i)
  | 0=>trivial
  | n+1=>⟨trivial,fun _ e=>nomatch e⟩
theorem KnD.str {p:Addr} {H:Hp} (i:Str):∀ (n:Nat),KnD p n H (.str i)
  | 0=>trivial
  | n+1=>⟨trivial,fun _ e=>nomatch e⟩
theorem KnD.non {p:Addr} {H:Hp}:∀ (n:Nat),KnD p n H .non
  | 0=>trivial
  | n+1=>⟨trivial,fun _ e=>nomatch e⟩
theorem KnD.lst {p:Addr} {H:Hp} {a:Addr} {xs:List V} (hp:a≠p) (e:H a=some (.lst xs)):∀ (n:Nat),KnD p n H (.ref a)
  | 0=>⟨hp,.inr (.inl ⟨xs,e⟩)⟩
  | n+1=>⟨⟨hp,.inr (.inl ⟨xs,e⟩)⟩,fun ys z=>by rw [tupOf_at,e] at z;cases z⟩
theorem KnD.dct {p:Addr} {H:Hp} {a:Addr} {kvs:List (Key×V)} (hp:a≠p) (e:H a=some (.dK kvs)):∀ (n:Nat),KnD p n H (.ref a)
  | 0=>⟨hp,.inr (.inr ⟨kvs,e⟩)⟩
  | n+1=>⟨⟨hp,.inr (.inr ⟨kvs,e⟩)⟩,fun ys z=>by rw [tupOf_at,e] at z;cases z⟩
theorem Qeu {H:Hp} {a:Addr} {xs:List V} (e:H a=some (.tup xs)):Qb5 H (.ref a)=some xs:=by rw [tupOf_at,e];rfl
theorem QkA {K:PySem.W.Frag} {p:Addr} {H:Hp}:∀ {x:V},Kn p H x->∃ t,TyOf K H x t/\PySem.W.kitOne K t (.type "int")=some (isI x||isB x)
  | .non,h=>⟨_,.non,rfl⟩
  | .bl _,h=>⟨_,.bl _,rfl⟩
  | .int _,h=>⟨_,.int _,rfl⟩
  | .str _,h=>⟨_,.str _,rfl⟩
  | .ref a,⟨_,h⟩=>by
    rcases h with ⟨xs,e⟩ | ⟨xs,e⟩ | ⟨xs,e⟩
    · exact ⟨_,.tup e,rfl⟩
    · exact ⟨_,.lst e,rfl⟩
    · exact ⟨_,.dK e,rfl⟩
  | .byt _,h=>h.elim
  | .flt _,h=>h.elim
  | .ty _,h=>h.elim
theorem QiH {K:PySem.W.Frag} {p:Addr} {H:Hp}:∀ {x:V},Kn p H x->∃ t,TyOf K H x t/\PySem.W.kitOne K t (.type "bool")=some (isB x)
  | .non,h=>⟨_,.non,rfl⟩
  | .bl _,h=>⟨_,.bl _,rfl⟩
  | .int _,h=>⟨_,.int _,rfl⟩
  | .str _,h=>⟨_,.str _,rfl⟩
  | .ref a,⟨_,h⟩=>by
    rcases h with ⟨xs,e⟩ | ⟨xs,e⟩ | ⟨xs,e⟩
    · exact ⟨_,.tup e,rfl⟩
    · exact ⟨_,.lst e,rfl⟩
    · exact ⟨_,.dK e,rfl⟩
  | .byt _,h=>h.elim
  | .flt _,h=>h.elim
  | .ty _,h=>h.elim
def Qlo (H:Hp) (x:V):List Int:=((Qb5 H x).getD []).map fun y=>match y with
  | .int i=>i
  | _=>0
def IntsT (H:Hp) (x:V) (ns:List Int):Prop:=∃ a,x=.ref a/\H a=some (.tup (ns.map V.int))
theorem IntsT.eq {H:Hp} {x:V} {ns:List Int} (h:IntsT H x ns):Qlo H x=ns:=by
  obtain ⟨a,rfl,e⟩:=h
  unfold Qlo
  rw [Qeu e]
  show (ns.map V.int).map _=ns
  rw [List.map_map]
  exact List.map_id _
theorem IntsT.keep {H H':Hp} (s:Same H H') {x:V} {ns:List Int} (h:IntsT H x ns):IntsT H' x ns:=by
  obtain ⟨a,e,q⟩:=h
  exact ⟨a,e,s a _ q⟩
theorem Qap:bootBuiltins "isinstance" = some (.builtin "isinstance"):=by decide +kernel
theorem QgE:bootBuiltins "int" = some (.type "int"):=by decide +kernel
theorem Qb2:bootBuiltins "bool" = some (.type "bool"):=by decide +kernel
theorem Qci:bootBuiltins "tuple" = some (.type "tuple"):=by decide +kernel
theorem QcA:bootBuiltins "list" = some (.type "list"):=by decide +kernel
theorem bt_str:bootBuiltins "str" = some (.type "str"):=by decide +kernel
theorem Qi9:bootBuiltins "all" = some (.builtin "all"):=by decide +kernel
theorem QdI:bootBuiltins "len" = some (.builtin "len"):=by decide +kernel
theorem bt_max:bootBuiltins "max" = some (.builtin "max"):=by decide +kernel
theorem Qe3:bootBuiltins "min" = some (.builtin "min"):=by decide +kernel
end Rk
namespace L2
open PySem PySem.Spec PyProof.Rows
theorem Qda {J:It} {body:V->Hp->(Hp->Prop)->Prop} {Qn:Hp->Prop} {H:Hp} (n:Nat) (Pv:Nat->Hp->Prop) (h0:Pv 0 H)
    (hs:∀ i H2,i<n->Pv i H2->J.go i H2/\∀ x H3,J.yld i H2 x H3->∀ k:Hp->Prop,(∀ H6,Pv (i+1) H6->k H6)->body x H3 k) (hd:∀ H2,Pv n H2->J.stop n H2/\Qn H2):QgK J body Qn H:=by
  refine ⟨fun i m H=>m=n - i/\i<=n/\Pv i H,⟨n,by simp,Nat.zero_le _,h0⟩,?_⟩
  rintro i m H2 ⟨rfl,hi,p⟩
  by_cases hlt:i<n
  · obtain ⟨go,st⟩:=hs i H2 hlt p
    exact .inr ⟨go,fun x H3 y=>st x H3 y _ fun H6 p6=>⟨n - (i+1),by omega,rfl,hlt,p6⟩⟩
  · have e:i=n:=by omega
    subst e
    exact .inl (hd H2 p)
theorem QdF {J:It} {σ:St} {g:TG} {te:TE} {p:Addr} {H1:Hp} {Qn:Hp->Prop} (n:Nat) (hn:n<sizeLine) (F:Nat->Bool) (hp:H1 p=none)
    (hs:∀ i H2,i<n->Same H1 H2->J.go i H2/\∀ x H3,J.yld i H2 x H3->∀ k:VK,(∀ H6,Same H2 H6->k (.bl (F i)) H6)->g x σ H3 fun σ4 H4=>Wk σ σ4/\te σ4 H4 k)
    (hst:∀ H2,Same H1 H2->J.stop n H2) (hq:∀ H2,Same H1 H2->H2 p=some (.lst (((List.range n).map F).map V.bl))->Qn H2) :
    QgK J (bOf σ g Qfj (bElt p te)) Qn (upd H1 p (.lst [])):=by
  refine Qda n (fun i H2=>Same H1 H2/\H2 p=some (.lst (((List.range i).map F).map V.bl))) ⟨Qad hp,Qaf⟩ (fun i H2 hi ⟨s2,e2⟩=>?_) fun H2 ⟨s2,e2⟩=>⟨hst H2 s2,hq H2 s2 e2⟩
  obtain ⟨go,st⟩:=hs i H2 hi s2
  refine ⟨go,fun x H3 y k hk=>?_⟩
  refine st x H3 y (fun v H6=>∃ ys,H6 p=some (.lst ys)/\ys.length<sizeLine/\k (upd H6 p (.lst (ys++[v])))) fun H6 s6=>?_
  have e6:=s6 p _ e2
  refine ⟨_,e6,?_,hk _ ⟨fun b o e=>?_,?_⟩⟩
  · rw [List.length_map,List.length_map,List.length_range];omega
  · have hb:b≠p:=QaC e hp
    rw [Qal hb];exact s6 b o (s2 b o e)
  · rw [Qaf,List.range_succ,List.map_append,List.map_append];rfl
end L2
namespace Rk
open PySem PySem.Spec PyProof.Rows L2
def Qb8 (K:PySem.W.Frag):Sp:=fun vs H Q _=>∃ a ns k,vs=[.ref a,.int k]/\SqL K H a ((ns:List Int).map V.int)/\ns.length<2^20/\0<=k/\∀ c,Q (.int c) H
def spPot:Sp:=fun vs H Q _=>∃ c,vs=[.int c]/\∀ p n,H p=none->Q (.ref p) (upd H p (.lst [.int n]))
def Cs (p:Addr) (H:Hp):List V->List (Int×Int)->Prop:=Paired fun x ij=>∃ d,d≠p/\x=.ref d/\H d=some (.tup [.int ij.1,.int ij.2])
theorem Cs.keep {p:Addr} {H H':Hp} (k:∀ d xs,d≠p->H d=some (.tup xs)->H' d=some (.tup xs)):∀ {ps:List V} {L:List (Int×Int)},Cs p H ps L->Cs p H' ps L:=fun h=>Paired.mapP h fun x ij ⟨d,n,e,q⟩=>⟨d,n,e,k d _ n q⟩
theorem Cs.kx {p:Addr} {H H':Hp} (k:KX p H H') {ps:List V} {L:List (Int×Int)} (h:Cs p H ps L):Cs p H' ps L:=h.keep fun d xs n e=>k d _ n e
theorem Cs.upd {p cl:Addr} {H:Hp} {xs:List V} {o:HO} (e:H cl=some (.lst xs)) {ps:List V} {L:List (Int×Int)} (h:Cs p H ps L):Cs p (L2.upd H cl o) ps L:=h.keep fun d ys n q=>by
  rw [Qal]
  · exact q
  · intro z;rw [z,e] at q;cases q
theorem Cs.len {p:Addr} {H:Hp} {ps:List V} {L:List (Int×Int)} (h:Cs p H ps L):ps.length=L.length:=Paired.length h
theorem Cs.snoc {p:Addr} {H:Hp} {ps:List V} {L:List (Int×Int)} {x:V} {ij:Int×Int} (h:Cs p H ps L) (q:∃ d,d≠p/\x=.ref d/\H d=some (.tup [.int ij.1,.int ij.2])):Cs p H (ps++[x]) (L++[ij]):=Paired.snoc h q
theorem Cs.mem {p:Addr} {H:Hp}:∀ {ps:List V} {L:List (Int×Int)},Cs p H ps L->∀ x∈ps,∃ ij∈L,∃ d,d≠p/\x=.ref d/\H d=some (.tup [.int ij.1,.int ij.2])
  | _,_,.nil,x,h=>nomatch h
  | _,_,.cons r t,x,h=>by
    rcases List.mem_cons.mp h with e | e
    · subst e;exact ⟨_,List.mem_cons_self,r⟩
    · obtain ⟨ij,m,q⟩:=Cs.mem t x e;exact ⟨ij,List.mem_cons_of_mem _ m,q⟩
def Before (a b:Int×Int):Prop:=a.1<b.1∨(a.1=b.1/\a.2<b.2)
structure Good (h w:Int) (L:List (Int×Int)):Prop where
  asc:L.Pairwise Before
  ins:∀ x∈L,0<=x.1/\x.1<h/\0<=x.2/\x.2<w
  len:L.length<=36
structure BoardAt (p:Addr) (H:Hp) (q:Addr) (h w:Int) (L:List (Int×Int)):Prop where
  ne:q≠p
  it:∃ c ps,c≠p/\H q=some (.tup [.int h,.int w,.ref c])/\H c=some (.tup ps)/\Cs p H ps L
  h1:1<=h
  h6:h<=6
  w1:1<=w
  w6:w<=6
  good:Good h w L
theorem BoardAt.kx {p:Addr} {H H':Hp} {q:Addr} {h w:Int} {L:List (Int×Int)} (B:BoardAt p H q h w L) (k:KX p H H'):BoardAt p H' q h w L:=by
  obtain ⟨ne,⟨c,ps,nc,e1,e2,cs⟩,h1,h6,w1,w6,g⟩:=B
  exact ⟨ne,⟨c,ps,nc,k q _ ne e1,k c _ nc e2,cs.kx k⟩,h1,h6,w1,w6,g⟩
theorem Qgu (x:Int) {m:Int} (h:0<m):0<=x % m/\x % m<m:=⟨Int.emod_nonneg _ (by omega),Int.emod_lt_of_pos _ h⟩
def notStar:Expr->Bool
  | .Starred _ _=>false
  | _=>true
theorem QaW {e:Expr} {es:List Expr} {env:Env} (h:notStar e=true):starEach (e::es) env=(false,eval e env)::starEach es env:=by
  cases e<;>first | rfl | cases h
section
variable {X:Cx}
theorem pa_c {e:Expr} {es:List Expr} {te:TE} {t:TA} (ha:PE X e te) (hr:PA X es t) (hs:notStar e=true:=by rfl):PA X (e::es) (QcI te t):=Qae ha hr (QaW hs)
end
theorem KnD.mono {p:Addr} {H:Hp} {x:V} {n m:Nat} (h:m<=n) (k:KnD p n H x):KnD p m H x:=by
  induction n with
  | zero=>
            have:m=0:=by omega
            subst this;exact k
  | succ n ih=>
    by_cases e:m=n+1
    · subst e;exact k
    · exact ih (by omega) k.low
def Sm (H:Hp) (x:V):Prop:=∀ ps,Qb5 H x=some ps->ps.length<sizeLine
def Part (p:Addr) (H:Hp) (x:V):Prop:=KnD p 2 H x/\Sm H x
def Thing (p:Addr) (H:Hp) (x:V):Prop:=KnD p 3 H x/\Sm H x/\∀ xs,Qb5 H x=some xs->∀ y∈xs,Sm H y
theorem Sm.keep {p:Addr} {H H':Hp} (k:KX p H H') {x:V} (n:Kn p H x) (h:Sm H x):Sm H' x:=fun ps e=>h ps (by rw [<- QbH k n];exact e)
theorem Part.keep {p:Addr} {H H':Hp} (k:KX p H H') {x:V} (h:Part p H x):Part p H' x:=⟨h.1.keep k,h.2.keep k h.1.kn⟩
theorem Thing.keep {p:Addr} {H H':Hp} (k:KX p H H') {x:V} (h:Thing p H x):Thing p H' x:=
  ⟨h.1.keep k,h.2.1.keep k h.1.kn,fun xs e y hy=>by
    have e':Qb5 H x=some xs:=by rw [<- QbH k h.1.kn];exact e
    exact Sm.keep k (h.1.2 xs e' y hy).kn (h.2.2 xs e' y hy)⟩
theorem Thing.int {p:Addr} {H:Hp} (i:Int):Thing p H (.int i):=⟨KnD.int i 3,(fun _ e=>nomatch e),(fun _ e=>nomatch e)⟩
theorem Thing.bl {p:Addr} {H:Hp} (i:Bool):Thing p H (.bl i):=⟨KnD.bl i 3,(fun _ e=>nomatch e),(fun _ e=>nomatch e)⟩
theorem Thing.str {p:Addr} {H:Hp} (i:Str):Thing p H (.str i):=⟨KnD.str i 3,(fun _ e=>nomatch e),(fun _ e=>nomatch e)⟩
theorem Thing.non {p:Addr} {H:Hp}:Thing p H .non:=⟨KnD.non 3,(fun _ e=>nomatch e),(fun _ e=>nomatch e)⟩
theorem Qgj {H:Hp} {a:Addr} {o:HO} (e:H a=some o) (h:tupO (some o)=none) {xs:List V} (z:Qb5 H (.ref a)=some xs):False:=by
  rw [tupOf_at,e,h] at z;cases z
theorem Thing.lst {p:Addr} {H:Hp} {a:Addr} {xs:List V} (hp:a≠p) (e:H a=some (.lst xs)):Thing p H (.ref a):=⟨KnD.lst hp e 3,(fun _ z=>(Qgj e rfl z).elim),(fun _ z=>(Qgj e rfl z).elim)⟩
theorem Thing.dct {p:Addr} {H:Hp} {a:Addr} {xs:List (Key×V)} (hp:a≠p) (e:H a=some (.dK xs)):Thing p H (.ref a):=⟨KnD.dct hp e 3,(fun _ z=>(Qgj e rfl z).elim),(fun _ z=>(Qgj e rfl z).elim)⟩
theorem Qdp {H:Hp} {a:Addr} {xs ys:List V} (e:H a=some (.tup xs)) (z:Qb5 H (.ref a)=some ys):ys=xs:=by
  rw [Qeu e] at z;cases z;rfl
theorem Thing.tup {p:Addr} {H:Hp} {a:Addr} {xs:List V} (hp:a≠p) (e:H a=some (.tup xs)) (hl:xs.length<sizeLine) (h:∀ y∈xs,Part p H y):Thing p H (.ref a):=
  ⟨KnD.tup hp e fun y hy=>(h y hy).1,(fun ps z=>by rw [Qdp e z];exact hl),fun ys z y hy=>by rw [Qdp e z] at hy;exact (h y hy).2⟩
theorem Part.tup {p:Addr} {H:Hp} {a:Addr} {xs:List V} (hp:a≠p) (e:H a=some (.tup xs)) (hl:xs.length<sizeLine) (h:∀ y∈xs,KnD p 1 H y):Part p H (.ref a):=
  ⟨KnD.tup hp e h,fun ps z=>by rw [Qdp e z];exact hl⟩
theorem fm_nil {P:V->Prop}:∀ y∈([]:List V),P y:=fun _ h=>nomatch h
theorem QiN {P:V->Prop} {a:V} {l:List V} (h:P a) (k:∀ y∈l,P y):∀ y∈a::l,P y:=fun y hy=>by
  rcases List.mem_cons.mp hy with e | e
  · subst e;exact h
  · exact k y e
theorem Cs.kn {p:Addr} {H:Hp} {ps:List V} {L:List (Int×Int)} (h:Cs p H ps L):∀ x∈ps,KnD p 1 H x:=fun x hx=>by
  obtain ⟨ij,_,d,n,rfl,e⟩:=h.mem x hx
  exact KnD.tup n e (QiN (KnD.int _ 0) (QiN (KnD.int _ 0) fm_nil))
theorem lt_line {n:Nat} (h:n<=1000):n<sizeLine:=Nat.lt_of_le_of_lt h (by decide)
def Fine (p:Addr):Nat->Hp->V->Prop
  | 0,H,x=>Kn p H x/\Sm H x
  | n+1,H,x=>Kn p H x/\Sm H x/\∀ xs,Qb5 H x=some xs->∀ y∈xs,Fine p n H y
theorem Fine.kn {p:Addr} {H:Hp} {x:V}:∀ {n:Nat},Fine p n H x->Kn p H x
  | 0,h=>h.1
  | _+1,h=>h.1
theorem Fine.knd {p:Addr} {H:Hp}:∀ {n:Nat} {x:V},Fine p n H x->KnD p n H x
  | 0,_,h=>h.1
  | _+1,_,h=>⟨h.1,fun xs e y hy=>(h.2.2 xs e y hy).knd⟩
theorem Fine.keep {p:Addr} {H H':Hp} (k:KX p H H'):∀ {n:Nat} {x:V},Fine p n H x->Fine p n H' x
  | 0,x,h=>⟨h.1.keep k,h.2.keep k h.1⟩
  | n+1,x,h=>⟨h.1.keep k,h.2.1.keep k h.1,fun xs e y hy=>(h.2.2 xs (by rw [<- QbH k h.1];exact e) y hy).keep k⟩
theorem Fine.thing {p:Addr} {H:Hp} {x:V} (h:∀ n,Fine p n H x):Thing p H x:=⟨(h 3).knd,(h 0).2,fun xs e y hy=>((h 1).2.2 xs e y hy).2⟩
theorem Qcw {p:Addr} {H:Hp} {x:V} (k:Kn p H x) (t:Qb5 H x=none):∀ n,Fine p n H x
  | 0=>⟨k,fun ps e=>by rw [t] at e;cases e⟩
  | _+1=>⟨k,(fun ps e=>by rw [t] at e;cases e),fun ps e=>by rw [t] at e;cases e⟩
theorem QkJ {p a:Addr} {H:Hp} {xs:List V} (hp:a≠p) (e:H a=some (.tup xs)) (hl:xs.length<sizeLine) (h:∀ y∈xs,∀ n,Fine p n H y):∀ n,Fine p n H (.ref a)
  | 0=>⟨⟨hp,.inl ⟨xs,e⟩⟩,fun ps z=>by rw [Qdp e z];exact hl⟩
  | n+1=>⟨⟨hp,.inl ⟨xs,e⟩⟩,(fun ps z=>by rw [Qdp e z];exact hl),fun ys z y hy=>h y (by rw [Qdp e z] at hy;exact hy) n⟩
theorem QkK {p a:Addr} {H:Hp} {xs:List V} (hp:a≠p) (e:H a=some (.lst xs)):∀ n,Fine p n H (.ref a):=Qcw ⟨hp,.inr (.inl ⟨xs,e⟩)⟩ (by rw [tupOf_at,e];rfl)
section
variable {X:Cx}
theorem Qfr {e:List Expr} {t t':TA} (h:PA X e t) (k:∀ σ H Q,t' σ H Q->t σ H Q):PA X e t':=fun pos pins s σ H Q I q=>h pos pins s σ H Q I (k σ H Q q)
end
def tTupW (t:TA):TE:=fun σ H Q=>t σ H fun xs H1=>xs.length<=1000/\∀ a H2,Same H1 H2->H1 a=none->H2 a=some (.tup xs)->Q (.ref a) H2
def tLstW (t:TA):TE:=fun σ H Q=>t σ H fun xs H1=>xs.length<=1000/\∀ a H2,Same H1 H2->H1 a=none->H2 a=some (.lst xs)->Q (.ref a) H2
section
variable {X:Cx}
theorem QhY {es:List Expr} {t:TA} {x1} {pos:Pos} (h:PA X es t):PE X (.Tuple es x1 pos) (tTupW t):=by
  intro pins s σ H Q I hq
  refine wpAny_Tuple_spliced (thn (h pos pins s σ H _ I hq) fun us s1 ⟨xs,H1,I1,r,z,q⟩=>⟨by rw [<- r.length];exact Nat.le_of_lt (lt_line z),?_⟩)
  have hf:H1 s1.heap.objs.size=none:=I1.hok.fresh (Nat.le_refl _)
  refine ⟨.ref s1.heap.objs.size,upd H1 s1.heap.objs.size (.tup xs),I1.laid (t':=s1.toks) (fun b u e=>Heap.get?_push_of_some _ e) (Nat.le_refl _) ?_,rfl,q _ _ (Qad hf) hf Qaf⟩
  exact ⟨Nat.le_of_lt (lt_line z),us,r,⟨_,Heap.get?_push_size _ rfl,rfl,_,rfl⟩⟩
theorem QbC {es:List Expr} {t:TA} {pos:Pos} (h:PA X es t):PE X (.List es pos) (tLstW t):=by
  intro pins s σ H Q I hq
  refine wpAny_List_spliced (thn (h pos pins s σ H _ I hq) fun us s1 ⟨xs,H1,I1,r,z,q⟩=>⟨by rw [<- r.length];exact Nat.le_of_lt (lt_line z),?_⟩)
  have hf:H1 s1.heap.objs.size=none:=I1.hok.fresh (Nat.le_refl _)
  refine ⟨.ref s1.heap.objs.size,upd H1 s1.heap.objs.size (.lst xs),I1.laid (t':=s1.toks) (fun b u e=>Heap.get?_push_of_some _ e) (Nat.le_refl _) ?_,rfl,q _ _ (Qad hf) hf Qaf⟩
  exact ⟨Nat.le_of_lt (lt_line z),us,0,r,Heap.get?_push_size _ rfl⟩
def rCatW:R2:=fun x y H Q=>∃ l b xs zs,x=.ref l/\y=.ref b/\H l=some (.lst xs)/\H b=some (.lst zs)/\xs.length+zs.length<=1000/\∀ a H2,Same H H2->H a=none->H2 a=some (.lst (xs++zs))->Q (.ref a) H2
theorem Qc6:OpR X (binaryOp .Add) rCatW:=fun pins s σ H x y v u Q I rx ry ⟨l,b,xs,zs,e1,e2,h1,h2,hl,k⟩=>
  Qlg pins s σ H x y v u Q I rx ry ⟨l,b,xs,zs,e1,e2,h1,h2,Nat.le_of_lt (lt_line hl),fun a ha=>k a _ (Qad ha) ha Qaf⟩
end
def FineA (p:Addr) (H:Hp) (x:V):Prop:=∀ n,Fine p n H x
theorem FineA.keep {p:Addr} {H H':Hp} {x:V} (h:FineA p H x) (k:KX p H H'):FineA p H' x:=fun n=>(h n).keep k
theorem FineA.int {p:Addr} {H:Hp} (i:Int):FineA p H (.int i):=Qcw trivial rfl
theorem FineA.bl {p:Addr} {H:Hp} (i:Bool):FineA p H (.bl i):=Qcw trivial rfl
theorem FineA.tup {p a:Addr} {H:Hp} {xs:List V} (hp:a≠p) (e:H a=some (.tup xs)) (hl:xs.length<=1000) (h:∀ y∈xs,FineA p H y):FineA p H (.ref a):=QkJ hp e (lt_line hl) h
theorem FineA.lst {p a:Addr} {H:Hp} {xs:List V} (hp:a≠p) (e:H a=some (.lst xs)):FineA p H (.ref a):=QkK hp e
theorem FineA.thing {p:Addr} {H:Hp} {x:V} (h:FineA p H x):Thing p H x:=Fine.thing h
end Rk
namespace Rx
open PySem PySem.Spec PySem.Calls PyProof.Rows L2 PySem.W Builtin Builtin.ObjectAttr Builtin.Getset_descriptor
def ExAt (a C:Addr) (h:Heap):Prop:=∃ o vs,h.get? a=some o/\o.cls=.ref C/\o.data=.fields vs
theorem ExAt.ty {M:Model} {h:Heap} {a C:Addr} (x:ExAt a C h):Looks M h (typeOf (.ref a)) (.ref C):=by
  obtain ⟨o,vs,e,c,_⟩:=x
  exact c ▸ (Looks.ld e).andThen .now
structure ExC (K:PySem.W.Frag) (C:Addr):Prop where
  ga:findIn K (.ref C) "__getattribute__" = some (some (.builtin "BaseException.__getattribute__"))
  hk:findIn K (.ref C) "__getattr__" = some none
  bas:mroIn K C (.type "BaseException")=some true
  cls:(clsIn K C).isSome=true
  att:findIn K (.ref C) "__class__" = some (some (.builtin "object.__class__"))
  spc:specialIn K (.builtin "object.__class__") "__get__" = some (some (.builtin "getset_descriptor.__get__"))
  tks:takesIn K (.builtin "object.__class__")=some true
  mro:mroIn K C (.type "object")=some true
section
variable {prog:Program} {w:World} {A:Around} {E:Value->Shared->Prop} {s:Shared} {K:PySem.W.Frag} {a C:Addr}
theorem Qnd {M:Model} {h:Heap} (X:K.In h) (c:ExC K C):Looks M h (find (.ref a) (.ref C) "__class__") (.bind (.builtin "getset_descriptor.__get__") (.builtin "object.__class__")):=by
  have l1:=looks_findIn (M:=M) X c.att
  have l2:=looks_specialIn (M:=M) X c.spc
  have l3:=looks_takesIn (M:=M) X c.tks
  have l4:Looks M h (dataDescriptor? (some (.builtin "object.__class__")) (some (.builtin "getset_descriptor.__get__"))) (some (.builtin "getset_descriptor.__get__",.builtin "object.__class__")):=l3.andThen .now
  exact l1.andThen (l2.andThen (l4.andThen (Looks.tag .now)))
theorem ex_get {R:Result->Shared->Prop} {tp:Value} (X:K.In s.heap) (I:ExAt a C s.heap) (c:ExC K C) (h:R (.ok (.ret (.ref C))) s) :
    codeAny (model prog w) A (.call (.builtin "getset_descriptor.__get__") ⟨[.builtin "object.__class__",.ref a,tp],[]⟩) R s:=by
  obtain ⟨h0,g0,d0,t0,o0⟩:=s
  have la:=I.ty (M:=model prog w)
  have lb:=looks_mroIn (M:=model prog w) X c.mro
  refine codeAny_call_builtin KF.slot_gs.plain KF.entry_gs (KF.slot_gs.check _ _ _ _ _ _ _ _ KF.type_class (KF.args_gs _ _ _) ?_)
  unfold Builtin.«getset_descriptor.__get__»
  unfold descrGet
  rw [dga_obj]
  refine wpAny_bind (wpAny_pure ?_)
  unfold descrGetter
  unfold descrCheckInstance
  unfold descrNameAndClass
  unfold isInstance
  simp only [KF.owner_class]
  repeat lk
  refine ⟨Code.quiet_builtin _ (by decide +kernel),codeAny_builtin KF.entry_class ?_⟩
  unfold Builtin.«object.__class__»
  unfold shownTypeOf
  repeat lk
  exact h
theorem QkM {M:Model} {nameV:Value} {Q:Unit->Shared->Prop} (X:K.In s.heap) (I:ExAt a C s.heap) (c:ExC K C) (hq:Q () s):wpAny M A (checkBuiltinCall "BaseException.__getattribute__" ⟨[.ref a,nameV],[]⟩) Q E s:=by
  have hk:builtinKind "BaseException.__getattribute__" = some .slot:=by decide +kernel
  have hsplit:splitId "BaseException.__getattribute__" = some ("BaseException", "__getattribute__"):=by decide +kernel
  have ha:=F.args_bexc_ga (.ref a) nameV
  have la:=I.ty (M:=M)
  have lb:=looks_mroIn (M:=M) X c.bas
  have li:Looks M s.heap (isInstance (.ref a) (.type "BaseException")) true:=la.andThen lb
  simp only [checkBuiltinCall,hk,hsplit]
  refine wpAny_bind (li.at ?_)
  repeat (first | exact hq | wp_step)
theorem QkL {Q:Option Value->Shared->Prop} (X:K.In s.heap) (I:ExAt a C s.heap) (c:ExC K C) (h:Q (some (.ref C)) { s with toks:=s.toks+1 }):wpAny (model prog w) A (getAttr? (.ref a) "__class__") Q E s:=by
  obtain ⟨h0,g0,d0,t0,o0⟩:=s
  have la:=I.ty (M:=model prog w)
  have lb:=looks_findIn (M:=model prog w) X c.ga
  have lc:=looks_findIn (M:=model prog w) X c.hk
  have ld:=Qnd (M:=model prog w) (a:=a) X c
  have f3:=F.excAttr_ValueError.ga.bind (.ref a)
  have hx2:(onTheHeap (Value.ref C)&&Value.builtin "BaseException.__getattribute__" == Value.builtin "object.__getattribute__")=false:=by
    have e:(Value.builtin "BaseException.__getattribute__" == Value.builtin "object.__getattribute__")=false:=by decide +kernel
    rw [e];rfl
  unfold getAttr?
  unfold getAttrBy?
  unfold getAttrBy
  refine wpAny_bind (wpAny_mkText (wpAny_bind (wpAny_attempt (wpAny_holding (wpAny_bind (la.at (wpAny_bind (lb.at ?_))))))))
  simp only [hx2,Bool.false_eq_true,if_false]
  unfold getAttrByItsOwn
  refine wpAny_bind (m:=hookBefore (.ref C)) ?_
  show wpAny _ _ (typeLookup (.ref C) "__getattr__") _ _ _
  refine lc.at ?_
  refine wpAny_bind (wpAny_attempt (wpAny_holding ?_))
  show wpAny _ _ (boundAndCalled _ _ _) _ _ _
  unfold boundAndCalled
  rw [f3]
  refine wpAny_bind (wpAny_pure ?_)
  refine wpAny_call (codeAny_call_builtin F.excAttr_ValueError.ga.plain F.entry_bexc_ga (QkM X I c ?_))
  unfold Builtin.«object.__getattribute__»
  refine wpAny_bind (wpAny_pure (wpAny_bind (wpAny_pure (wpAny_bind (la.at (wpAny_bind (ld.at ?_)))))))
  show wpAny _ _ (bindTo (.builtin "getset_descriptor.__get__") (.builtin "object.__class__") (.ref a) (.ref C)) _ _ _
  unfold bindTo
  refine wpAny_bind (wpAny_holding (wpAny_call (ex_get (s:=⟨h0,g0,d0,t0+1,o0⟩) X I c ?_)))
  exact wpAny_pure (handed_on rfl (wpAny_pure h))
theorem Qm4 (c:ExC K C):KitX K (.ref a) (.ref C) (ExAt a C) where
  ty:=fun _ _ _ I=>I.ty
  it:=fun _ _ X _=>by
    have q:=c.cls
    unfold clsIn at q
    split at q
    · rename_i ho
      intro A' Q' E' s' k z
      unfold isType loadHead
      exact wpAny_bind (wpAny_loadPart (k _ _ (X _ _ ho)) (wpAny_pure z))
    · cases q
  ne:=fun h tp dd its n sl X htp=>by
    have q:=c.cls
    refine Bool.eq_false_iff.mpr fun z=>?_
    cases Value.ref.inj (beq_iff_eq.mp z)
    unfold clsIn at q
    split at q
    · rename_i ho
      cases (X _ _ ho).symm.trans htp
    · cases q
  ca:=fun X I k=>QkL X I c k
end
end Rx
namespace Rx
open PySem PySem.Spec PySem.Calls PyProof.Rows L2
abbrev mroV:List Value:=[.type "ValueError",.type "Exception",.type "BaseException",.type "object"]
def Raises (h:Heap) (C:Addr):Prop:=∃ bm N nm q bs hdct sn sub ab col dd k0 k1 k2 k3 k5 mN,
  h.get? C=some (excClassObj nm q C N bs bm hdct sn sub ab col dd k0 k1 k2 k3 k5 "ValueError.__new__")/\h.Ns N mN/\mN "__init__" = none/\OwnTail h mroV bm
theorem QhD {K:PySem.W.Frag} {h:Heap} {C:Addr} (X:K.In h) (q:PySem.W.excIn K C mroV "ValueError.__new__" = true):Raises h C:=by
  unfold PySem.W.excIn at q
  split at q
  next dd cd sl ho=>
    split at q
    next C' bm k0 k1 k2 k3 n k5 hm hs=>
      obtain ⟨q,e6⟩:=Bool.and_eq_true_iff.mp q
      obtain ⟨q,e5⟩:=Bool.and_eq_true_iff.mp q
      obtain ⟨q,e4⟩:=Bool.and_eq_true_iff.mp q
      obtain ⟨q,e3⟩:=Bool.and_eq_true_iff.mp q
      obtain ⟨e1,e2⟩:=Bool.and_eq_true_iff.mp q
      cases beq_iff_eq.mp e1
      cases beq_iff_eq.mp e2
      rcases cd with ⟨c1,c2,c3,c4,c5,c6,c7,c8,c9,ca,cb⟩
      rcases sl with ⟨sl⟩
      have e7:cb=false:=by
        cases cb with
        | false=>rfl
        | true=>cases e3
      have hm:c3=.ref C::bm:=hm
      have hs:sl=[k0,k1,k2,k3,some (.builtin "ValueError.__new__"),k5]:=hs
      subst hm hs e7
      have hn:h.Ns c4 (h.nsMap c4):=.of_isNs (PySem.W.isNs_of_in X e5)
      exact ⟨_,_,_,_,_,_,_,_,_,_,_,_,_,_,_,_,_,X _ _ ho,hn,PySem.W.nsMap_none_of_in X e5 (beq_iff_eq.mp e6),PySem.W.tail_of_in X e4⟩
    next=>cases q
  next=>cases q
theorem obj_there {P:Program} {w:World} {H:Hp} {h:Heap} {a:Addr} {o:HO} (x:ObjOk P w H h a o):∃ u,h.get? a=some u:=by
  cases o with
  | lst xs=>obtain ⟨_,_,_,_,e⟩:=x;exact ⟨_,e⟩
  | tup xs=>obtain ⟨_,_,_,p⟩:=x;obtain ⟨_,e,_⟩:=p;exact ⟨_,e⟩
  | dK kvs=>obtain ⟨_,_,_,_,o,_,_,e,_⟩:=x;exact ⟨_,e⟩
  | dT kvs=>obtain ⟨_,_,_,_,o,_,_,e,_⟩:=x;exact ⟨_,e⟩
  | set S n=>obtain ⟨o,_,_,_,e,_⟩:=x;exact ⟨_,e⟩
  | ins C dx fs=>obtain ⟨_,_,_,e,_⟩:=x;exact ⟨_,e⟩
  | own y=>exact x
  | xd fs=>obtain ⟨_,⟨_,_,_,e,_⟩,_⟩:=x;exact ⟨_,e⟩
  | rng lo hi=>obtain ⟨_,_,_,e⟩:=x;exact ⟨_,e⟩
  | frz ob u=>exact ⟨_,x.1⟩
  | tbl ps=>exact ⟨_,x⟩
  | met f y=>exact ⟨_,x⟩
  | ext φ=>exact x.2.1
def Fly (P:Program) (w:World) (outer:List Env) (H:Hp) (s:Shared) (C:Addr) (H':Hp) (e:Value) (s':Shared):Prop:=
  ∃ (a t:Addr) (B:Heap),e=.ref a/\s'.os=s.os/\AllBare s'.gens/\Heap.FlyingW B outer a (.ref C) (.ref t) s'.heap/\s.heap.get? a=none/\H' a=none /\
    ∀ h2:Heap,B.StaysIn h2->s'.heap.UpToSlots h2->Un (frs outer) [] H H' s.heap h2/\HOk P w H' h2
def CXE (P:Program) (w:World):CXT:=fun outer H s E e s'=>∃ C H',Fly P w outer H s C H' e s'/\E (.ref C) none H'
def tRaise (E:XK) (C:Addr) (te:TE):TS:=fun _ σ H=>te σ H fun _ H1=>E (.ref C) none H1
section
variable {X:Cx} {E:XK} {C:Addr} {x:Str} {e0:Expr} {te:TE} {np cpos pos:Pos}
theorem fly_of {pins:List (Addr×Obj)} {σ:L2.St} {H:Hp} {s:Shared} {h1:Heap} {a:Addr} {vs:List Value} {M:Model} {EE:Value->Shared->Prop} (I:Inv X pins σ H s) (hstk:X.stack=X.env::X.outer) (hfr:X.env.frame=some X.env.locals) (hex:X.ex=[])
    (hx:Heap.MadeExcOf s.heap h1 a (.ref C) vs) :
    wpAny M X.A (leaving X.env (.ref a)) (fun _ s2=>Fly X.prog X.w X.outer X.H₀ X.s₀ C H (.ref a) s2) EE { s with heap:=h1 }:=by
  have fr:X.A.frames=some (X.env::X.outer):=by rw [<- hstk];exact I.ok.frames
  have ff:s.heap.FunFrames X.base (X.env::X.outer):=by rw [<- hstk];exact I.stack
  have hin:∀ env∈X.env::X.outer,∀ b,env.frame=some b->b∈frs (X.env::X.outer):=fun env he b hb=>List.mem_filterMap.mpr ⟨env,he,hb⟩
  refine wpAny_leaves_madeW (base:=PySem.W.hideAll s.heap (frs (X.env::X.outer))) (h:=s.heap) (L:=X.env.locals) fr hfr (fun b o q=>PySem.W.of_hideAll _ q) (PySem.W.funFrames_hide ff hin) hx fun h' t x1 x2 x3 x4=>?_
  have nex:∀ b:Addr,b∉X.ex:=fun b=>by rw [hex];simp
  have free0:X.s₀.heap.get? a=none:=by
    cases q:X.s₀.heap.get? a with
    | none=>rfl
    | some o=>
      obtain ⟨o',e⟩:=I.base.there a o q (nex a)
      rw [hx.new] at e;cases e
  have freeH:H a=none:=by
    cases q:H a with
    | none=>rfl
    | some o=>
      obtain ⟨u,e⟩:=obj_there (I.hok a o q)
      rw [hx.new] at e;cases e
  have stf:∀ b∈frs (X.env::X.outer),H b=none:=fun b hb=>I.stkFree b (by rw [hstk];exact hb)
  refine ⟨a,t,_,rfl,I.os,I.bare,x1,free0,freeH,fun h2 st up=>?_⟩
  have up2:s.heap.UpToSlots h2:=((Heap.UpToSlots.of_keeps hx.keeps).trans x4).trans up
  have kp:∀ b o,s.heap.get? b=some o->b∉frs (X.env::X.outer)->h2.get? b=some o:=fun b o e n=>st b o (PySem.W.hideAll_get _ e n)
  have own:∀ b o,X.s₀.heap.get? b=some o->b≠X.env.locals:=fun b o e z=>by
    have h1:=Heap.lt_size e
    have h2:=I.ok.above
    rw [z] at h1
    exact absurd (Nat.lt_of_lt_of_le h1 h2) (Nat.lt_irrefl _)
  have nfr:∀ b o,X.s₀.heap.get? b=some o->b∉frs X.outer->b∉frs (X.env::X.outer):=fun b o e n hb=>by
    unfold frs at hb n
    rw [List.filterMap_cons,hfr] at hb
    rcases List.mem_cons.mp hb with z | z
    · exact own b o e z
    · exact n z
  have hdat:∀ b∈frs X.outer,∀ o,s.heap.get? b=some o->∀ vs,o.data≠.fields vs:=fun b hb o e=>by
    obtain ⟨_,o',ho',hd⟩:=I.funs.mem hb
    rw [e] at ho';cases ho'
    exact hd
  refine ⟨⟨fun b o e n hb _=>kp b o (I.base.keep b o e n hb (nex b)) (nfr b o e hb),fun b o e n hb _=>?_,fun b o e n _=>I.base.free b o e n (nex b),fun b o e _=>?_,I.base.tups,I.base.frzs,I.base.tbls⟩,fun b o e=>?_⟩
  · obtain ⟨sl,e1⟩:=I.base.slot b o e n hb (nex b)
    obtain ⟨sl2,e2⟩:=up2 b _ e1 (hdat b hb _ e1)
    exact ⟨sl2,e2⟩
  · obtain ⟨o',e1⟩:=I.base.there b o e (nex b)
    by_cases hb:b∈frs X.outer
    · obtain ⟨sl2,e2⟩:=up2 b _ e1 (hdat b hb _ e1)
      exact ⟨_,e2⟩
    · exact ⟨o',kp b o' e1 (nfr b o e hb)⟩
  · refine (I.hok b o e).stay (fun c u hc q=>kp c u q fun hm=>?_) (fun _ q=>q) fun _ _ q=>q
    have z:=stf c hm
    rcases hc with r | r
    · rw [r,e] at z;cases z
    · rw [r] at z;cases z
theorem ps_raise (hxe:∀ e s1,wpAny (model X.prog X.w) X.A (leaving X.env e) (fun _ s2=>CXE X.prog X.w X.outer X.H₀ X.s₀ E e s2) (fun e' s2=>CXE X.prog X.w X.outer X.H₀ X.s₀ E e' s2) s1->X.xe e s1)
    (hstk:X.stack=X.env::X.outer) (hfr:X.env.frame=some X.env.locals) (hex:X.ex=[]) (hc:X.calm=true) (hg:Gl X x) (hm:X.mg x=some (.ref C)) (q:PySem.W.excIn X.K C mroV "ValueError.__new__" = true)
    (ha:PE X e0 te) (he:starEach [e0] X.env=[(false,eval e0 X.env)]:=by rfl) (hd:(x == ("__debug__" : Str))=false:=by decide) :
    PS X (.Raise (some (.Call (.Name x np) [e0] [] cpos)) none pos) (tRaise E C te):=by
  intro pins s σ H D I h
  obtain ⟨bm,N,nm,qn,bs,hdct,sn,sub,ab,col,dd,k0,k1,k2,k3,k5,mN,hC,hN,hni,T⟩:=QhD I.ok.mod.kin q
  refine wpAny_Raise_call_subT (k5:=k5) (k3:=k3) (k2:=k2) (k1:=k1) (k0:=k0) (dd:=dd) (col:=col) (ab:=ab) (sub:=sub) (sn:=sn) (hdct:=hdct) (bs:=bs) (N:=N) (q:=qn) (nm:=nm) (C:=C) PySem.F.excBase_ValueError (T.hasType PySem.F.excBase_ValueError.hasBase) (I.ok.hd hc) (by rw [he];rfl) hni (Qct I hg hm ?_ hd)
  refine ⟨rfl,?_⟩
  rw [he]
  refine Calls.evalArgs_plain (Calls.spliced_cons (thn (ha pins s σ H _ I h) fun u s1 ⟨v,H1,I1,r1,q1⟩=>Calls.spliced_nil ⟨rfl,by show 1<=sizeLine;decide,I1.bk _ _ hC,hN.keeps I1.bk,T.keeps I1.bk,fun h' e hx=>?_⟩))
  exact hxe _ _ (thn (fly_of I1 hstk hfr hex hx) fun _ s2 z=>⟨C,H1,z,q1⟩)
end
def exO (a C:Addr):HO:=.ext (ExAt a C)
structure ByC (K:PySem.W.Frag) (C R:Addr):Prop where
  ty:PySem.W.typeIn K (.ref R)=some (.type "type")
  cls:(PySem.W.clsIn K R).isSome=true
  base:PySem.W.mroIn K R (.type "BaseException")=some true
  sub:PySem.W.mroIn K C (.ref R)=some true
theorem QgM {K:PySem.W.Frag} {M:Model} {h:Heap} {R:Addr} (X:K.In h) (c:(PySem.W.clsIn K R).isSome=true):PySem.W.Looks M h (isType (.ref R)) true:=by
  unfold PySem.W.clsIn at c
  split at c
  · rename_i ho
    intro A' Q' E' s' k z
    unfold isType loadHead
    exact wpAny_bind (wpAny_loadPart (k _ _ (X _ _ ho)) (wpAny_pure z))
  · cases c
theorem QgV {M:Model} {A:Around} {E:Value->Shared->Prop} {K:PySem.W.Frag} {a C R:Addr} {s:Shared} {Q:Bool->Shared->Prop} (X:K.In s.heap) (I:ExAt a C s.heap) (c:ByC K C R) (h:Q true s) :
    wpAny M A (excMatches (.ref a) (.ref R)) Q E s:=by
  obtain ⟨h0,g0,d0,t0,o0⟩:=s
  have l1:=PySem.W.looks_typeIn (M:=M) X c.ty
  have l2:=QgM (M:=M) X c.cls
  have l3:=PySem.W.looks_mroIn (M:=M) X c.base
  have l4:=PySem.W.looks_mroIn (M:=M) X c.sub
  have l5:=I.ty (M:=M)
  have l6:PySem.W.Looks M h0 (isSubtype (.type "type") (.type "tuple")) false:=PySem.W.Looks.of_pure tc_notTuple
  unfold excMatches isExcClass isInstance
  repeat (first | lk | exact h)
abbrev mkd (X:Cx) (e:Value):Cx:={ X with A:=X.A.mark (some e),calm:=false,xe:=fun _ _=>False }
section
variable {X:Cx} {pins:List (Addr×Obj)} {σ:L2.St} {H:Hp} {s:Shared}
theorem QiG (I:Inv X pins σ H s) (e:Value):Inv (mkd X e) pins σ H s:=
  ⟨⟨I.ok.mod,I.ok.kind,I.ok.glob,I.ok.blt,I.ok.above,I.ok.inj,I.ok.has,I.ok.cab,(fun h=>nomatch h),I.ok.frames,I.ok.stk,I.ok.exf,I.ok.bs,I.ok.bsz,I.ok.noex,I.ok.exfs,I.ok.funs,I.ok.frf⟩,I.os,I.bare,I.base,I.loc,I.cell,I.free,I.freeC,I.pin,I.hok,I.len⟩
theorem Qky {e:Value} (ok:X.Ok) (I:Inv (mkd X e) pins σ H s):Inv X pins σ H s:=⟨ok,I.os,I.bare,I.base,I.loc,I.cell,I.free,I.freeC,I.pin,I.hok,I.len⟩
theorem QiF {a C:Addr} (I:Inv X pins σ H s) (hf:H a=none) (h0:X.s₀.heap.get? a=none) (hp:∀ p∈X.pn++pins,p.1≠a) (x:ExAt a C s.heap):Inv X pins σ (upd H a (exO a C)) s:=by
  obtain ⟨o,vs,ho,hcl,hd⟩:=id x
  have ne:∀ b u,H b=some u->b≠a:=fun b u e z=>by rw [z,hf] at e;cases e
  refine ⟨I.ok,I.os,I.bare,⟨I.base.keep,I.base.slot,fun b u e n hx=>?_,I.base.there,fun b xs e=>?_,fun b u xs e=>?_,fun b ps e=>?_⟩,I.loc,I.cell,?_,fun y c e=>?_,fun p hp'=>?_,fun b u e=>?_,I.len⟩
  · rw [Qal (fun z=>by rw [z,h0] at e;cases e)];exact I.base.free b u e n hx
  · have q:=I.base.tups b xs e
    rw [Qal (ne b _ q)];exact q
  · have q:=I.base.frzs b u xs e
    rw [Qal (ne b _ q)];exact q
  · obtain ⟨m,q⟩:=I.base.tbls b ps e
    exact ⟨m,by rw [Qal (ne b _ q)];exact q⟩
  · obtain ⟨m,⟨oL,es,ep,hoL,hdL,_⟩,_⟩:=I.loc
    rw [Qal (fun z=>by rw [z,ho] at hoL;cases hoL;rw [hd] at hdL;cases hdL)]
    exact I.free
  · obtain ⟨v,oc,hoc,hdc⟩:=I.cell y c e
    rw [Qal (fun z=>by rw [z,ho] at hoc;cases hoc;rw [hd] at hdc;cases hdc)]
    exact I.freeC y c e
  · obtain ⟨e,n,r⟩:=I.pin p hp'
    exact ⟨e,by rw [Qal (hp p hp')];exact n,r⟩
  · by_cases hb:b=a
    · subst hb
      rw [Qaf] at e
      cases e
      exact ⟨x,⟨o,ho⟩,fun h1 h2 y k=>by
        obtain ⟨o',vs',e',c',d'⟩:=y
        exact ⟨o',vs',k _ e',c',d'⟩⟩
    · rw [Qal hb] at e
      exact (I.hok b u e).stay (fun _ _ _ q=>q) (fun c q=>by rw [Qal (ne c _ q)];exact q) fun c xs q=>by rw [Qal (ne c _ q)];exact q
theorem Qkz {i:Nat} {n:Str} {m:Str->Option Value} {v:Option Value} {h':Heap} {tk:Nat} (I:Inv X pins σ H s) (hN:X.N.Nodup) (hi:X.N[i]? = some n)
    (hm:∀ (j:Nat) (x:Str) (u:V),X.N[j]? = some x->σ[j]? = some (some u)->Vis X.env.scope x->∃ y,RelV u y/\Look X.env s.heap m x y)
    (hn:h'.Ns X.env.locals (fun x=>if x=n then v else m x)) (hs:Heap.SameBut X.env.locals s.heap h'):Inv X pins (σ.set i none) H { s with heap:=h',toks:=tk }:=by
  have neL:∀ b o,X.s₀.heap.get? b=some o->b≠X.env.locals:=fun b o e=>Nat.ne_of_lt (Nat.lt_of_lt_of_le (Heap.lt_size e) I.ok.above)
  have cne:=I.cne
  refine ⟨I.ok,I.os,I.bare,⟨fun b o e z hb hx=>(hs.2 b (neL b o e)).trans (I.base.keep b o e z hb hx),fun b o e z hb hx=>?_,I.base.free,fun b o e hx=>?_,I.base.tups,I.base.frzs,I.base.tbls⟩,⟨_,hn,fun j y u e1 e2 e3=>?_⟩,fun y c e=>?_,I.free,I.freeC,fun p hp=>?_,fun b o e=>?_,?_⟩
  · obtain ⟨sl,e1⟩:=I.base.slot b o e z hb hx
    exact ⟨sl,(hs.2 b (neL b o e)).trans e1⟩
  · obtain ⟨o',e1⟩:=I.base.there b o e hx
    exact ⟨o',(hs.2 b (neL b o e)).trans e1⟩
  · by_cases hj:j=i
    · subst hj
      rw [List.getElem?_set] at e2
      split at e2
      · split at e2<;>cases e2
      · exact absurd rfl ‹¬ _›
    · rw [List.getElem?_set_ne (Ne.symm hj)] at e2
      obtain ⟨u',r',q⟩:=hm j y u e1 e2 e3
      refine ⟨u',r',?_⟩
      rcases q with ⟨k,e⟩ | ⟨k,c,e,z⟩
      · have:y≠n:=fun e=>hj (Qd4 hN e1 (e ▸ hi))
        exact .inl ⟨k,by simp [this,e]⟩
      · exact .inr ⟨k,c,e,z.sameBut hs (cne y c e)⟩
  · obtain ⟨w',z⟩:=I.cell y c e
    exact ⟨w',z.sameBut hs (cne y c e)⟩
  · obtain ⟨e,z,ne,nf,d⟩:=I.pin p hp
    exact ⟨(hs.2 p.1 ne).trans e,z,ne,nf,d⟩
  · refine (I.hok b o e).stay (fun c u hc q=>(hs.2 c ?_).trans q) (fun _ q=>q) fun _ _ q=>q
    rintro rfl
    have z:=I.free
    rcases hc with r | r
    · rw [r,e] at z;cases z
    · rw [r] at z;cases z
  · rw [List.length_set];exact I.len
end
def XP (X:Cx) (pins:List (Addr×Obj)) (Ex:L2.St->Addr->Hp->Prop) (e:Value) (s1:Shared):Prop:=
  ∃ (σ:L2.St) (C:Addr) (H':Hp) (a t:Addr) (B:Heap),e=.ref a/\Heap.FlyingW B X.stack a (.ref C) (.ref t) s1.heap/\H' a=none/\X.s₀.heap.get? a=none/\(∀ p∈X.pn++pins,p.1≠a) /\
    (∀ (h2:Heap) (tk:Nat),B.StaysIn h2->s1.heap.UpToSlots h2->Inv X pins σ H' { s1 with heap:=h2,toks:=tk })/\Ex σ C H'
abbrev TX:=L2.St->Hp->VK->(Addr->Hp->Prop)->Prop
def PEX (X:Cx) (e:Expr) (t:TX):Prop:=∀ (pins:List (Addr×Obj)) (s:Shared) (σ:L2.St) (H:Hp) (Q:VK) (Ex:Addr->Hp->Prop),Inv X pins σ H s->t σ H Q Ex ->
  wpAny (model X.prog X.w) X.A (eval e X.env) (EP X pins σ Q) (XP X pins fun σ1 C H1=>σ1=σ/\Ex C H1) s
def tCallX (sp:Sp) (t:TA):TX:=fun σ H Q Ex=>t σ H fun vs H1=>sp vs H1 Q fun cv _ H2=>∃ C,cv=.ref C/\Ex C H2
section
variable {X:Cx} {k:Nat} {f:Addr} {fd:FuncData} {ps:List Str} {sp:Sp} {x:Str} {p pos:Pos} {e:Expr} {es:List Expr} {t:TA}
theorem pex_call (F:FnOk X.prog X.w X.K X.mg X.base (CXE X.prog X.w) k f fd ps sp) (hr:Room k X.A) (hg:Gl X x) (hm:X.mg x=some (.ref f)) (hk:PySem.W.keepIn X.K (.ref f)=true) (hb:Binds X.K fd ps []) (hex:X.ex=[])
    (ha:PA X.nox (e::es) t) (hdb:(x == ("__debug__" : Str))=false:=by decide) (he:starEach (e::es) X.env=(false,eval e X.env)::starEach es X.env:=by rfl) (hpl:(backTo pos (starEach es X.env)).any (·.1)=false:=by rfl) :
    PEX X (.Call (.Name x p) (e::es) [] pos) (tCallX sp t):=by
  intro pins s σ H Q Ex I h
  refine wpAny_Call_Name_kw (Qct I hg hm ?_ hdb)
  refine PySem.W.callWith_K (h₀:=X.base) I.ok.mod.kin hk (wpAny_mono (ha pos pins s σ H _ (I.wish _) h) (fun us s1 ⟨vs,H1,J1,r,q⟩=>?_) fun _ _ z=>False.elim z) he hpl
  have I1:Inv X pins σ H1 s1:=J1.unwish
  refine ⟨I1.kIn,?_⟩
  have hl:us.length=ps.length:=by rw [<- r.length];exact F.len _ _ _ _ q
  have hbb:BindsTo s1 fd ⟨us,[]⟩ (ps.zip us):=by
    have z:=hb s1 us I1.kIn (by rw [List.append_nil];exact hl)
    rw [List.append_nil] at z
    exact z
  refine wpAny_call (codeAny_mono (F.run X.A X.stack s1 H1 ⟨us,[]⟩ us vs Q _ hr I1.env0 hbb r q) fun r s2 hq=>?_)
  cases r with
  | error e=>
    obtain ⟨C0,H2,⟨a,t',B,rfl,os,bare,fl,fa,fH,land⟩,C,eC,ex⟩:=hq
    cases eC
    refine ⟨σ,C0,H2,a,t',B,rfl,fl,fH,?_,fun p hp z=>?_,fun h2 tk st up=>?_,rfl,ex⟩
    · cases z:X.s₀.heap.get? a with
      | none=>rfl
      | some o=>
        obtain ⟨o',e'⟩:=I1.base.there a o z (by rw [hex];simp)
        rw [fa] at e';cases e'
    · have e':=(I1.pin p hp).1
      rw [z,fa] at e';cases e'
    · obtain ⟨un,hok⟩:=land h2 st up
      exact I1.call' (s':={ s2 with heap:=h2,toks:=tk }) (ch:=[]) os un hok bare (fun b z=>absurd z (by simp))
  | ok fl=>
    cases fl with
    | ret u=>exact I1.after hq
    | next=>exact False.elim hq
    | brk=>exact False.elim hq
    | cont=>exact False.elim hq
end
section
variable {X:Cx} {R:Addr} {i:Nat} {n r:Str} {call hx:Expr} {tc:TX} {th:TE} {rp np hp hpos pos:Pos}
end
structure RoomM (k:Nat) (A:Around):Prop where
  dp:A.depth+3*k+5<recursionLimit
  un:A.units+16*k+200<cLine
theorem Room.m {k:Nat} {A:Around} (r:Room k A) (e:Value):RoomM k (A.mark (some e)):=⟨r.dp,r.un⟩
theorem RoomM.mono {j k:Nat} {A:Around} (r:RoomM k A) (h:j<=k):RoomM j A:=⟨by have:=r.dp;omega,by have:=r.un;omega⟩
structure FnM (P:Program) (w:World) (K:PySem.W.Frag) (mg:Str->Option Value) (base:Heap) (k:Nat) (f:Addr) (fd:FuncData) (ps:List Str) (sp:Sp):Prop where
  len:∀ vs H Q E,sp vs H Q E->vs.length=ps.length
  run:∀ (A:Around) (outer:List Env) (s:Shared) (H:Hp) (args:Args) (us:List Value) (vs:List V) (Q:VK) (E:XK),RoomM k A->Env0 P w K mg base A outer s H->BindsTo s fd args (ps.zip us)->Vals vs us->sp vs H Q E ->
    codeAny (model P w) A (.call (.ref f) args) (CR CX0 outer P w H s Q E) s
def cxM (P:Program) (w:World) (K:PySem.W.Frag) (mg:Str->Option Value) (base:Heap) (N:List Str) (qual:Str) (scope:Scope) (f:Addr) (cd:Value) (A:Around) (outer:List Env) (s:Shared) (H:Hp) (E:XK):Cx:=
  { cxOf CX0 P w K mg base N qual scope f cd A outer s H E with calm:=false,xe:=fun _ _=>False }
section
variable {P:Program} {w:World} {K:PySem.W.Frag} {mg:Str->Option Value} {base:Heap}
theorem QgZ {N ps:List Str} {qual:Str} {scope:Scope} {f:Addr} {cd:Value} {A:Around} {outer:List Env} {s s1:Shared} {H:Hp} {E:XK} {us:List Value} {vs:List V}
    (S:FnScope N ps scope) (e0:Env0 P w K mg base A outer s H) (hl:vs.length=ps.length) (r:Vals vs us)
    (x:InCallC s s.heap.objs.size (bindL (envOfC qual scope s.heap.objs.size f cd).kindOf (ps.zip us) fun _=>none) (cellsFrom (s.heap.objs.size+1) scope.names []) (bindC (envOfC qual scope s.heap.objs.size f cd).kindOf (ps.zip us) fun _=>none) s1) :
    L2.Inv (cxM P w K mg base N qual scope f cd A outer s H E) [] (start N vs) H s1:=by
  have e1:Env0 P w K mg base { A with handled:=none } outer s H:=⟨e0.frames,e0.mod,e0.bs,e0.bsz,e0.funs,e0.frf,e0.hok,e0.bare⟩
  have I:=QeS (CX:=CX0) (E:=E) (A:={ A with handled:=none }) S rfl e1 hl r x
  exact ⟨⟨I.ok.mod,I.ok.kind,I.ok.glob,I.ok.blt,I.ok.above,I.ok.inj,I.ok.has,I.ok.cab,(fun h=>nomatch h),I.ok.frames,I.ok.stk,I.ok.exf,I.ok.bs,I.ok.bsz,I.ok.noex,I.ok.exfs,I.ok.funs,I.ok.frf⟩,I.os,I.bare,I.base,I.loc,I.cell,I.free,I.freeC,I.pin,I.hok,I.len⟩
theorem okM {x qual:Str} {st:Stmt} {f:Addr} {fd:FuncData} {N ps:List Str} {k:Nat} {sp:Sp} (F:Fun K x qual st f fd) (S:FnScope N ps (Qaa st)) (len:∀ vs H Q E,sp vs H Q E->vs.length=ps.length)
    (hbody:∀ (cdv:Value) (A:Around) (outer:List Env) (s:Shared) (H:Hp) (vs:List V) (Q:VK) (E:XK),RoomM k (A.deeper (envOfC qual (Qaa st) s.heap.objs.size f cdv))->sp vs H Q E ->
      ∃ t,PSs (cxM P w K mg base N qual (Qaa st) f cdv A outer s H E) (Qan st) t/\t { nx:=fun _ H'=>Q .non H',rt:=Q } (start N vs) H):FnM P w K mg base (k+1) f fd ps sp:=by
  obtain ⟨oc,od,kV,doc,pm,an,cdv,ct,osl,rfl,lk,hcd⟩:=F.ex
  refine ⟨len,fun A outer s H args us vs Q E hr e0 hb r hsp=>?_⟩
  have hl:=len _ _ _ _ hsp
  have KX:K.In s.heap:=e0.mod.kin.keeps fun b o e=>(e0.bs b o e).1
  have lim:s.heap.NoLimit:=e0.mod.nolimit.keeps fun b o e=>(e0.bs b o e).1
  have hkind:∀ y∈ps.zip us,(Qaa st).names.lookup y.1=some .local∨((Qaa st).names.lookup y.1=some .cell/\((cellsFrom (s.heap.objs.size+1) (Qaa st).names []).lookup y.1).isSome=true):=fun ⟨n,v⟩ hy=>by
    rcases S.par n (List.of_mem_zip hy).1 with q | q
    · exact .inl q
    · exact .inr ⟨q,PySem.W.cellsFrom_some _ _ _ (.inl q)⟩
  have hdp:A.depth<recursionLimit:=by have:=hr.dp;omega
  refine codeAny_call_function hdp (KX _ _ lk) rfl S.co S.gen rfl (PySem.W.codeRec_of KX hcd) (hb _ _ _ _ ?_)
  refine wpAny_newFunctionEnv_cells S.kind hkind fun env he s1 x=>?_
  subst he
  refine ⟨lim.keeps x.toInCall.keep,codeAny_func ?_⟩
  have hr2:RoomM k (A.deeper (envOfC qual (Qaa st) s.heap.objs.size f cdv)):=⟨by have:=hr.dp;show A.depth+1+3*k+5<_;omega,by have:=hr.un;show A.units+3+16*k+200<_;omega⟩
  obtain ⟨t,ht,hq⟩:=hbody cdv A outer s H vs Q E hr2 hsp
  have I:=QgZ (E:=E) S e0 hl r x
  refine wpAny_mono (ht [] s1 (start N vs) H _ I hq) (fun fl s' hs=>?_) fun e s' hs=>False.elim hs
  have fin:∀ {σ':L2.St} {H':Hp} {v:V} {u:Value},L2.Inv (cxM P w K mg base N qual (Qaa st) f cdv A outer s H E) [] σ' H' s'->RelV v u->Q v H'->CE outer P w H s Q u s':=
    fun {σ' H' v u} J rv q=>⟨v,H',J.os,J.bare,J.base,J.hok,rv,q⟩
  cases fl with
  | ret u=>
    obtain ⟨v,σ',H',J,rv,q⟩:=hs
    exact fin J rv q
  | next=>
    obtain ⟨σ',H',J,q⟩:=hs
    exact fin (v:=V.non) (u:=Value.none) J rfl q
  | brk=>
    obtain ⟨_,_,_,q⟩:=hs
    exact False.elim q
  | cont=>
    obtain ⟨_,_,_,q⟩:=hs
    exact False.elim q
end
section
variable {X:Cx} {k:Nat} {f:Addr} {fd:FuncData} {ps:List Str} {sp:Sp} {x:Str} {p pos:Pos} {e:Expr} {es:List Expr} {t:TA}
theorem pe_callM (F:FnM X.prog X.w X.K X.mg X.base k f fd ps sp) (hr:RoomM k X.A) (hg:Gl X x) (hm:X.mg x=some (.ref f)) (hk:PySem.W.keepIn X.K (.ref f)=true) (hb:Binds X.K fd ps [])
    (ha:PA X (e::es) t) (hdb:(x == ("__debug__" : Str))=false:=by decide) (he:starEach (e::es) X.env=(false,eval e X.env)::starEach es X.env:=by rfl) (hpl:(backTo pos (starEach es X.env)).any (·.1)=false:=by rfl) :
    PE X (.Call (.Name x p) (e::es) [] pos) (fun σ H Q=>t σ H fun vs H1=>sp vs H1 Q E0):=by
  intro pins s σ H Q I h
  refine wpAny_Call_Name_kw (Qct I hg hm ?_ hdb)
  refine PySem.W.callWith_K (h₀:=X.base) I.ok.mod.kin hk (thn (ha pos pins s σ H _ I h) fun us s1 ⟨vs,H1,I1,r,q⟩=>⟨I1.kIn,?_⟩) he hpl
  have hl:us.length=ps.length:=by rw [<- r.length];exact F.len _ _ _ _ q
  have hbb:BindsTo s1 fd ⟨us,[]⟩ (ps.zip us):=by
    have z:=hb s1 us I1.kIn (by rw [List.append_nil];exact hl)
    rw [List.append_nil] at z
    exact z
  refine wpAny_call (codeAny_mono (F.run X.A X.stack s1 H1 ⟨us,[]⟩ us vs Q _ hr I1.env0 hbb r q) fun r s2 hq=>?_)
  cases r with
  | error e=>exact False.elim hq
  | ok fl=>
    cases fl with
    | ret u=>exact I1.after hq
    | next=>exact False.elim hq
    | brk=>exact False.elim hq
    | cont=>exact False.elim hq
end
section
variable {X:Cx}
theorem call_isEx:CallR X (.builtin "isinstance") (fun xs H Q=>∃ a C y c b,xs=[.ref a,y]/\H a=some (exO a C)/\ExC X.K C/\(∀ u,RelV y u->u=c)/\PySem.W.kitOne X.K (.ref C) c=some b/\Q (.bl b) H):=by
  intro pins s σ H xs us Q I r h
  obtain ⟨a,C,y,c,b,rfl,ha,hc,hy,e,q⟩:=h
  obtain ⟨u,v,rfl,ru,rv⟩:=Qff r
  cases (show u=Value.ref a from ru)
  cases hy v rv
  exact PySem.W.kia_one (Qm4 hc) I.kIn (I.hok a _ ha).1 e (fun z=>nomatch z) fun tk=>⟨.bl b,H,I.tok tk,rfl,q⟩
theorem bools_eq {bs:List Bool} {us:List Value} (r:Vals (bs.map V.bl) us):us=bs.map Value.bool:=by
  induction bs generalizing us with
  | nil=>cases r;rfl
  | cons b bs ih=>
    cases r with
    | cons r t=>
      cases (show _=Value.bool b from r)
      rw [ih t]
      rfl
def Qcu:Value->Bool
  | .bool b=>b
  | _=>false
theorem Qg3 (bs:List Bool):(bs.map Value.bool).countP Qcu=bs.countP id:=by
  rw [List.countP_map]
  exact List.countP_congr fun b _=>Iff.rfl
def QlT:V->List V->Hp->VK->Prop:=fun x vs H Q=>∃ (l:Addr) (bs:List Bool),x=.ref l/\vs=[.bl true]/\H l=some (.lst (bs.map V.bl))/\Q (.int (bs.countP id:Nat)) H
theorem mt_count:MtR X "list.count" QlT:=by
  intro pins s σ H x vs v us Q I rx rv h
  obtain ⟨l,bs,rfl,rfl,hH,q⟩:=h
  cases rx
  obtain ⟨u,rfl,ru⟩:=rv.one
  cases (show u=Value.bool true from ru)
  obtain ⟨z,its,n,r,hl,e⟩:=I.lstM hH
  have hi:=bools_eq r
  subst hi
  refine call_meets F.slot_list_count ⟨_,e,rfl⟩ F.entry_list_count (F.args_list_count_2 _ _) (SeqAt.list_countAt l (bs.map Value.bool).toArray n none #[] (.bool true) Qcu) ⟨e,fun y hy=>?_,?_⟩
  · obtain ⟨b,_,rfl⟩:=List.mem_map.mp (List.mem_toArray.mp hy)
    have:=SeqAt.EqAt.bool_bool (A:=X.A.in1) (s:=s) b true
    rw [show (b == true)=b by cases b<;>rfl] at this
    exact this
  · have e2:((bs.map Value.bool).toArray.toList.countP Qcu:Nat)=bs.countP id:=Qg3 bs
    rw [e2]
    exact ⟨.int (bs.countP id:Nat),H,I.tok _,⟨_,rfl⟩,q⟩
def QlS:V->List V->Hp->VK->Prop:=fun x vs H Q=>∃ (l:Addr) (bs:List Bool) (j:Nat),x=.ref l/\vs=[.bl true]/\H l=some (.lst (bs.map V.bl))/\bs[j]? = some true/\(∀ m,m<j->bs[m]? = some false)/\Q (.int (j:Nat)) H
theorem mt_index:MtR X "list.index" QlS:=by
  intro pins s σ H x vs v us Q I rx rv h
  obtain ⟨l,bs,j,rfl,rfl,hH,hj,hm,q⟩:=h
  cases rx
  obtain ⟨u,rfl,ru⟩:=rv.one
  cases (show u=Value.bool true from ru)
  obtain ⟨z,its,n,r,hl,e⟩:=I.lstM hH
  have hi:=bools_eq r
  subst hi
  have hlt:=(List.getElem?_eq_some_iff.mp hj).1
  have hsz:(bs.map Value.bool).toArray.size=bs.length:=by simp
  rw [List.length_map] at z
  have hbig:bs.length<2^60:=Nat.lt_of_le_of_lt z (by decide)
  refine call_meets F.slot_list_index ⟨_,e,rfl⟩ F.entry_list_index (F.args_list_index_2 _ _) (SeqAt.list_indexAt l (bs.map Value.bool).toArray n none #[] (.bool true) Qcu j (by rw [hsz];exact hlt) (by omega) ?_ ?_) ⟨e,fun y hy=>?_,?_⟩
  · have:=(List.getElem?_eq_some_iff.mp hj).2
    simp [Qcu,this]
  · intro m hm1 hm2
    have:=(List.getElem?_eq_some_iff.mp (hm m hm2)).2
    simp [Qcu,this]
  · obtain ⟨b,_,rfl⟩:=List.mem_map.mp (List.mem_toArray.mp hy)
    have:=SeqAt.EqAt.bool_bool (A:=X.A.in1) (s:=s) b true
    rw [show (b == true)=b by cases b<;>rfl] at this
    exact this
  · exact ⟨.int (j:Nat),H,I.tok _,⟨_,rfl⟩,q⟩
end
end Rx
namespace Rd
open PySem PySem.Spec PyProof.Rows L2
mutual
inductive Dat (H:Hp):V->PyData->Prop
  | non:Dat H .non .none
  | bl (b:Bool):Dat H (.bl b) (.bool b)
  | int (i:Int):Dat H (.int i) (.int i)
  | str (x:Str):PyData.canLay0 (.str x)=true->Dat H (.str x) (.str x)
  | tup {a:Addr} {xs:List V} {ds:List PyData}:H a=some (.tup xs)->Dats H xs ds->Dat H (.ref a) (.tuple ds)
  | lst {a:Addr} {xs:List V} {ds:List PyData}:H a=some (.lst xs)->Dats H xs ds->Dat H (.ref a) (.list ds)
inductive Dats (H:Hp):List V->List PyData->Prop
  | nil:Dats H [] []
  | cons {x:V} {xs:List V} {d:PyData} {ds:List PyData}:Dat H x d->Dats H xs ds->Dats H (x::xs) (d::ds)
end
mutual
theorem Qbq {P:Program} {w:World} {H:Hp} {h:Heap} (ok:HOk P w H h):∀ (d:PyData) (x:V) (v:Value),Dat H x d->RelV x v->(∃ as,Reads h v d as)/\d.canLay0=true
  | .none,_,v,.non,r=>by cases r;exact ⟨⟨_,.none⟩,rfl⟩
  | .bool b,_,v,.bl _,r=>by cases r;exact ⟨⟨_,.bool b⟩,rfl⟩
  | .int i,_,v,.int _,r=>by obtain ⟨t,rfl⟩:=r;exact ⟨⟨_,.int i t⟩,rfl⟩
  | .str z,_,v,.str _ c,r=>by obtain ⟨t,rfl⟩:=r;exact ⟨⟨_,.str z t⟩,c⟩
  | .tuple ds,_,v,.tup (a:=a) (xs:=xs) e q,r=>by
    cases r
    obtain ⟨_,its,rv,o,ho,hc,n,hd⟩:=ok a _ e
    obtain ⟨⟨as,ra⟩,cl⟩:=Qbc ok ds xs its q rv
    exact ⟨⟨as,.tuple ho hc hd ra⟩,cl⟩
  | .list ds,_,v,.lst (a:=a) (xs:=xs) e q,r=>by
    cases r
    obtain ⟨_,its,n,rv,ho⟩:=ok a _ e
    obtain ⟨⟨as,ra⟩,cl⟩:=Qbc ok ds xs its q rv
    exact ⟨⟨a::as,.list ho rfl rfl ra⟩,cl⟩
  | .dict _,_,_,q,_=>nomatch q
theorem Qbc {P:Program} {w:World} {H:Hp} {h:Heap} (ok:HOk P w H h):∀ (ds:List PyData) (xs:List V) (vs:List Value),Dats H xs ds->Vals xs vs->(∃ as,ReadsAll h vs ds as)/\PyData.canLayAll0 ds=true
  | [],_,vs,.nil,r=>by cases r;exact ⟨⟨_,.nil⟩,rfl⟩
  | d::ds,_,vs,.cons (x:=x) (xs:=xs) q qs,r=>by
    cases r with
    | cons r rs=>
      obtain ⟨⟨a1,r1⟩,c1⟩:=Qbq ok d x _ q r
      obtain ⟨⟨a2,r2⟩,c2⟩:=Qbc ok ds xs _ qs rs
      exact ⟨⟨_,.cons r1 r2⟩,by simp [PyData.canLayAll0,c1,c2]⟩
end
mutual
theorem Qgw {H H':Hp} (s:Same H H'):∀ (d:PyData) (x:V),Dat H x d->Dat H' x d
  | .none,_,.non=>.non
  | .bool _,_,.bl _=>.bl _
  | .int _,_,.int _=>.int _
  | .str _,_,.str _ c=>.str _ c
  | .tuple ds,_,.tup (xs:=xs) e q=>.tup (s _ _ e) (Qcf s ds xs q)
  | .list ds,_,.lst (xs:=xs) e q=>.lst (s _ _ e) (Qcf s ds xs q)
  | .dict _,_,q=>nomatch q
theorem Qcf {H H':Hp} (s:Same H H'):∀ (ds:List PyData) (xs:List V),Dats H xs ds->Dats H' xs ds
  | [],_,.nil=>.nil
  | d::ds,_,.cons (x:=x) (xs:=xs) q qs=>.cons (Qgw s d x q) (Qcf s ds xs qs)
end
theorem Dat.same {H H':Hp} {x:V} {d:PyData} (q:Dat H x d) (s:Same H H'):Dat H' x d:=Qgw s d x q
theorem Dats.same {H H':Hp} {xs:List V} {ds:List PyData} (q:Dats H xs ds) (s:Same H H'):Dats H' xs ds:=Qcf s ds xs q
theorem Dats.length {H:Hp}:∀ {xs:List V} {ds:List PyData},Dats H xs ds->xs.length=ds.length
  | _,_,.nil=>rfl
  | _,_,.cons _ q=>by rw [List.length_cons,List.length_cons,q.length]
theorem Dats.get {H:Hp}:∀ {xs:List V} {ds:List PyData},Dats H xs ds->∀ (i:Nat) (x:V),xs[i]? = some x->∃ d,ds[i]? = some d/\Dat H x d
  | _,_,.nil,i,x,e=>by simp at e
  | _,_,.cons q qs,0,x,e=>by simp at e;subst e;exact ⟨_,rfl,q⟩
  | _,_,.cons q qs,i+1,x,e=>qs.get i x (by simpa using e)
theorem Dats.app {H:Hp}:∀ {xs ys:List V} {ds es:List PyData},Dats H xs ds->Dats H ys es->Dats H (xs++ys) (ds++es)
  | _,_,_,_,.nil,q=>q
  | _,_,_,_,.cons a b,q=>.cons a (b.app q)
section
variable {X:Cx}
def rEqD (X:Cx):R2:=fun x y H Q=>∃ dx dy,Dat H x dx/\Dat H y dy/\X.A.units+min dx.depth dy.depth<cLine/\Q (.bl (PyData.eqv dx dy)) H
theorem Qih:OpR X (compareOp .Eq) (rEqD X):=by
  intro pins s σ H x y v u Q I rx ry h
  obtain ⟨dx,dy,qx,qy,hu,q⟩:=h
  obtain ⟨⟨as,ra⟩,ca⟩:=Qbq I.hok dx x v qx rx
  obtain ⟨⟨bs,rb⟩,cb⟩:=Qbq I.hok dy y u qy ry
  exact SeqAt.compareEq_reads ra rb ca cb hu ⟨.bl _,H,I,rfl,q⟩
open Classical in
noncomputable def eqH (h:Heap) (d:PyData) (y:Value):Bool:=decide (∃ e as,Reads h y e as/\e.canLay0=true/\PyData.eqv e d=true)
open Classical in
theorem eqH_t {h:Heap} {d:PyData} {y:Value} (q:∃ e as,Reads h y e as/\e.canLay0=true/\PyData.eqv e d=true):eqH h d y=true:=by
  unfold eqH
  exact decide_eq_true q
open Classical in
theorem eqH_f {h:Heap} {d:PyData} {y:Value} (q:¬ ∃ e as,Reads h y e as/\e.canLay0=true/\PyData.eqv e d=true):eqH h d y=false:=by
  unfold eqH
  exact decide_eq_false q
theorem Qlr {h:Heap} {d e:PyData} {y:Value} {as:List Addr} (r:Reads h y e as) (c:e.canLay0=true):eqH h d y=PyData.eqv e d:=by
  cases q:PyData.eqv e d with
  | true=>exact eqH_t ⟨e,as,r,c,q⟩
  | false=>
    refine eqH_f fun ⟨e',as',r',c',q'⟩=>?_
    rw [<- SeqAt.Reads.unique e e' y as as' c r r',q] at q'
    cases q'
theorem QfQ {h:Heap} {d:PyData}:∀ {vs:List Value} {ds:List PyData} {as:List Addr},ReadsAll h vs ds as->PyData.canLayAll0 ds=true->vs.any (eqH h d)=ds.any fun e=>PyData.eqv e d
  | _,_,_,.nil,_=>rfl
  | _,_,_,.cons r rs,c=>by
    simp only [PyData.canLayAll0,Bool.and_eq_true] at c
    rw [List.any_cons,List.any_cons,Qlr r c.1,QfQ rs c.2]
theorem Qfz {A:Around} {s:Shared} {d:PyData} {v:Value} {bs:List Addr} (rv:Reads s.heap v d bs) (cv:d.canLay0=true):∀ {vs:List Value} {ds:List PyData} {as:List Addr},ReadsAll s.heap vs ds as->PyData.canLayAll0 ds=true->A.units+d.depth<cLine ->
    ∀ u∈vs,SeqAt.EqAt A s u v (eqH s.heap d u)
  | _,_,_,.nil,_,_=>fun u hu=>nomatch hu
  | _,_,_,.cons (d:=e) r rs,c,hu=>fun u hm=>by
    simp only [PyData.canLayAll0,Bool.and_eq_true] at c
    rcases List.mem_cons.mp hm with z | z
    · subst z
      rw [Qlr r c.1]
      exact SeqAt.eqAt_reads e d A s _ v _ bs r rv c.1 cv (Nat.lt_of_le_of_lt (Nat.add_le_add_left (Nat.min_le_right _ _) _) hu)
    · exact Qfz rv cv rs c.2 hu u z
def rInD (X:Cx) (neg:Bool):R2:=fun x y H Q=>∃ c ps ds d,y=.ref c/\H c=some (.tup ps)/\Dats H ps ds/\Dat H x d/\X.A.in1.units+d.depth<cLine/\Q (.bl (if neg then !(ds.any fun e=>PyData.eqv e d) else ds.any fun e=>PyData.eqv e d)) H
theorem Qie:OpR X (compareOp .NotIn) (rInD X true):=by
  intro pins s σ H x y v u Q I rx ry h
  obtain ⟨c,ps,ds,d,rfl,hc,qs,qx,hu,q⟩:=h
  cases ry
  obtain ⟨⟨as,ra⟩,ca⟩:=Qbq I.hok d x v qx rx
  obtain ⟨_,its,rv,tp⟩:=I.hok c _ hc
  obtain ⟨⟨bs,rb⟩,cb⟩:=Qbc I.hok ds ps its qs rv
  refine SeqAt.notIn_tupleAt (eqH s.heap d) tp (fun w hw=>Qfz ra ca rb cb hu w (List.mem_toArray.mp hw)) ⟨.bl _,H,I,rfl,?_⟩
  rw [show its.toArray.any (eqH s.heap d)=its.any (eqH s.heap d) by simp,QfQ rb cb]
  exact q
end
theorem QfU:∀ {ts:List String} {us:List Value},Vals (ts.map V.ty) us->us=ts.map Value.type
  | [],_,.nil=>rfl
  | t::ts,_,.cons r q=>by
    cases (show _=Value.type t from r)
    rw [QfU q]
    rfl
section
variable {X:Cx}
theorem Qg8:CallR X (.builtin "isinstance") (fun xs H Q=>∃ (x:V) (t:Value) (tp:Addr) (ts:List String) (b:Bool) (d:PyData),xs=[x,.ref tp]/\H tp=some (.tup (ts.map V.ty))/\Rd.Dat H x d/\TyOf X.K H x t/\PySem.W.kitAny X.K t (ts.map Value.type)=some b/\Q (.bl b) H):=by
  intro pins s σ H xs us Q I r h
  obtain ⟨x,t,tp,ts,b,d,rfl,htp,dat,ty,e,q⟩:=h
  obtain ⟨u,v,rfl,ru,rv⟩:=Qff r
  cases (show v=Value.ref tp from rv)
  obtain ⟨_,its,rt,⟨oc,od,oda,osl⟩,ho,hc,n,hd⟩:=I.hok tp _ htp
  cases QfU rt
  dsimp only at hc hd
  subst hc hd
  have fin:∀ tk,EP X pins σ Q (.bool b) { s with toks:=tk }:=fun tk=>⟨.bl b,H,I.tok tk,rfl,q⟩
  cases dat with
  | non=>cases (show u=Value.none from ru);cases ty;exact PySem.W.kia_tup PySem.W.kitx_none I.kIn True.intro ho e (fun z=>nomatch z) fin
  | bl y=>cases (show u=Value.bool y from ru);cases ty;exact PySem.W.kia_tup PySem.W.kitx_bool I.kIn True.intro ho e (fun z=>nomatch z) fin
  | int i=>obtain ⟨t,z⟩:=(show ∃ t,u=Value.int i t from ru);cases z;cases ty;exact PySem.W.kia_tup PySem.W.kitx_int I.kIn True.intro ho e (fun z=>nomatch z) fin
  | str y _=>obtain ⟨t,z⟩:=(show ∃ t,u=Value.str y t from ru);cases z;cases ty;exact PySem.W.kia_tup PySem.W.kitx_str I.kIn True.intro ho e (fun z=>nomatch z) fin
  | @tup a xs ds ea _=>
    cases (show u=Value.ref a from ru)
    obtain ⟨_,_,_,p⟩:=(show ObjOk X.prog X.w H s.heap a (.tup xs) from I.hok a _ ea)
    obtain ⟨o,h1,h2,_⟩:=p
    have et:t=.type "tuple" := by
      cases ty<;>first | rfl | (rename_i e';rw [ea] at e';cases e') | skip
    subst et
    exact PySem.W.kia_tup PySem.W.kitx_tuple I.kIn ⟨o,h1,h2⟩ ho e (fun z=>nomatch z) fin
  | @lst a xs ds ea _=>
    cases (show u=Value.ref a from ru)
    obtain ⟨_,_,n',_,h1⟩:=(show ObjOk X.prog X.w H s.heap a (.lst xs) from I.hok a _ ea)
    have et:t=.type "list" := by
      cases ty<;>first | rfl | (rename_i e';rw [ea] at e';cases e') | skip
    subst et
    exact PySem.W.kia_tup PySem.W.kitx_list I.kIn ⟨_,h1,rfl⟩ ho e (fun z=>nomatch z) fin
end
end Rd
namespace L2
open PySem PySem.Spec PyProof.Rows
def Ite (l:Addr):It:=
  ⟨fun i H=>∃ xs x,H l=some (.lst xs)/\xs[i]? = some x,
   fun i H v H'=>∃ p x,H p=none/\(∀ xs,H l=some (.lst xs)->xs[i]? = some x)/\v=.ref p/\H'=upd H p (.tup [.int (i:Nat),x]),
   fun i H=>∃ xs,H l=some (.lst xs)/\xs.length<=i⟩
theorem Qhj {P:Program} {w:World} {K:PySem.W.Frag} {elts:List Expr} {x1} {tpos:Pos} {e it l:Addr} (hne:e≠it) :
    Turn P w K (.Tuple elts x1 tpos) (Ite l) [e,it] e (fun i h=>(∃ old,IsEnum h e it (i:Nat) old)/\h.IsListIter it l i) where
  mem:=by simp
  obj:=fun i h st b hb=>by
    obtain ⟨⟨old,a1⟩,⟨o2,a2,_,d2⟩⟩:=st
    simp only [List.mem_cons,List.not_mem_nil,or_false] at hb
    rcases hb with rfl | rfl
    · exact ⟨_,a1,fun v q=>nomatch q⟩
    · exact ⟨_,a2,fun v q=>by rw [d2] at q;cases q⟩
  keep:=fun i h h' st k=>by
    obtain ⟨⟨old,a1⟩,⟨o2,a2,c2⟩⟩:=st
    exact ⟨⟨old,k e (by simp) _ a1⟩,o2,k it (by simp) _ a2,c2⟩
  item:=by
    intro X hP hw hK hc i pins s σ H E I hf st hg
    subst hP hw hK
    obtain ⟨xs,x,h1,hx⟩:=hg
    obtain ⟨⟨old,a1⟩,a2⟩:=st
    obtain ⟨its,r1,p1,_⟩:=I.list (SqL.of h1)
    obtain ⟨u,hu,ru⟩:=r1.get hx
    refine wpAny_pyNext_enum_item a1 a2 p1.isList (x:=u) (by simpa using hu) hne fun h' o' l' tp sz kp=>?_
    have fr:H s.heap.objs.size=none:=I.hok.fresh (Nat.le_refl _)
    have n1:e≠s.heap.objs.size:=Nat.ne_of_lt (Heap.lt_size a1)
    have n2:it≠s.heap.objs.size:=by
      obtain ⟨o2,a2,_⟩:=a2
      exact Nat.ne_of_lt (Heap.lt_size a2)
    refine ⟨_,rfl,wpAny_letOwnedTupleGo_enum o' fun h2 e2 s2=>?_⟩
    have I1:Inv X pins σ (upd H s.heap.objs.size (.tup [.int (i:Nat),x])) { s with heap:=h2,toks:=s.toks+1 }:=by
      refine I.turnedNew (ch:=[e,it]) hf (fun b v hb q=>?_) (Nat.le_refl _) ⟨by show 2<=sizeLine;decide,[.int (i:Nat) s.toks,u],.cons ⟨_,rfl⟩ (.cons ru .nil),?_⟩
      · simp only [List.mem_cons,List.not_mem_nil,or_false,not_or] at hb
        exact s2.extBut _ _ hb.1 (kp b v hb.1 hb.2 q)
      · exact ⟨_,s2.extBut _ _ n1.symm tp,rfl,0,rfl⟩
    refine ⟨.ref s.heap.objs.size,_,I1,rfl,⟨_,x,fr,fun xs' q=>?_,rfl,rfl⟩,⟨⟨u,e2⟩,?_⟩,fun b hb=>?_⟩
    · rw [h1] at q;cases q;exact hx
    · exact l'.extBut s2.extBut hne.symm
    · simp only [List.mem_cons,List.not_mem_nil,or_false] at hb
      rcases hb with rfl | rfl
      · rw [Qal n1];exact (hf _ (by simp)).1
      · rw [Qal n2];exact (hf _ (by simp)).1
  done:=by
    intro X hP hw hK hc i pins s σ H E I hf st hg
    subst hP hw hK
    obtain ⟨xs,h1,he⟩:=hg
    obtain ⟨⟨old,a1⟩,a2⟩:=st
    obtain ⟨its,r1,p1,_⟩:=I.list (SqL.of h1)
    have l1:=r1.length
    refine wpAny_pyNext_enum_end (I.ok.hd hc) a1 a2 p1.isList (by simp;omega) fun h' kp=>⟨rfl,I.turnedAll (t':=s.toks) (ch:=[e,it]) hf fun b v hb q=>?_⟩
    simp only [List.mem_cons,List.not_mem_nil,or_false,not_or] at hb
    exact kp b v hb.2 q
  self:=fun _ _ _ _ _ st h=>by
    obtain ⟨⟨old,a1⟩,_⟩:=st
    exact wpAny_pyIter_enum a1 h
def iEnum (ta:TA):TI:=fun σ H R=>ta σ H fun vs H1=>∃ l xs,vs=[.ref l]/\H1 l=some (.lst xs)/\R (Ite l) H1
theorem Qjc:bootBuiltins "enumerate" = some (.type "enumerate"):=by decide +kernel
section
variable {X:Cx}
theorem Qmb {a:Expr} {elts:List Expr} {x1} {tpos:Pos} {ta:TA} {p pos:Pos} (hg:Gl X "enumerate") (hm:X.mg "enumerate" = none) (ha:PA X [a] ta) (hs:starEach [a] X.env=[(false,eval a X.env)]:=by rfl) :
    PI X (.Tuple elts x1 tpos) (.Call (.Name "enumerate" p) [a] [] pos) (iEnum ta):=by
  intro pins s σ H R I h
  refine Call_ (Qcd I hg hm Qjc (PyProof.Rows.callWith_type1 (thn (ha pos pins s σ H _ I h) fun us s1 ⟨vs,H1,I1,r1,q1⟩=>?_) hs rfl))
  obtain ⟨l,xs,e,h1,q⟩:=q1
  subst e
  obtain ⟨u,rfl,ru⟩:=QdK r1
  cases (show u=Value.ref l from ru)
  obtain ⟨its,w1,p1,_⟩:=I1.list (SqL.of h1)
  refine call_enumerate_list p1.isList fun h' e1 i1 sz kp=>?_
  refine wpAny_pyIter_enum (s:={ s1 with heap:=h' }) e1 ?_
  refine ⟨s1.heap.objs.size+1,_,_,_,H1,rfl,I1.kept (t':=s1.toks) kp,Qhj (by show ¬ (s1.heap.objs.size+1=s1.heap.objs.size);omega),⟨⟨_,e1⟩,i1⟩,fun b hb=>?_,q⟩
  have hb':s1.heap.objs.size<=b:=by
    simp only [List.mem_cons,List.not_mem_nil,or_false] at hb
    rcases hb with rfl | rfl<;>omega
  exact I1.fpOk hb' (I1.hok.fresh hb')
end
section
variable {prog:Program} {w:World} {A:Around} {R:Result->Shared->Prop} {s:Shared}
theorem Qey {elt tg iter:Expr} {ifs:List Expr} {g0:Comprehension} {scope:Scope} {pos:Pos} {it acc:Value} {env:Env}
    (h0:codeAny (model prog w) A (.compLoop (.ListComp elt [g0,⟨tg,iter,ifs,0⟩] scope pos) 1 it acc env) R s)
    (h:wpAny (model prog w) A (pyIter it) (fun it' s'=>codeAny (model prog w) A (.compLoop (.ListComp elt [g0,⟨tg,iter,ifs,0⟩] scope pos) 1 it' acc env) R s') (notedBy (model prog w) A env fun x s'=>R (.error x) s') s) :
    codeAny (model prog w) A (.compStart (.ListComp elt [g0,⟨tg,iter,ifs,0⟩] scope pos) 1 it acc env) R s:=by
  refine codeAny_of_tree ?_
  show wpAny _ _ ((compStart (.ListComp elt [g0,⟨tg,iter,ifs,0⟩] scope pos) 1 it acc env).onRaise (fun x=>do noteFrame x env;standAt theWindowsPlace)) _ _ s
  refine wpAny_notedAt ?_
  unfold compStart
  show wpAny _ _ (ask >>= _) _ _ s
  refine wpAny_bind (wpAny_askSetting (wpAny_ite ?_))
  split
  · first
      | exact wpAny_bind (wpAny_pure (wpAny_pure ⟨rfl,h0⟩))
      | exact wpAny_pure ⟨rfl,h0⟩
  · first
      | exact wpAny_bind (wpAny_rule (wpAny_bind (wpAny_standAt (wpAny_bind (wpAny_mono h (fun it' s' h'=>wpAny_pure ⟨rfl,h'⟩) fun _ _ x=>x)))))
      | exact wpAny_bind (wpAny_rule (wpAny_bind (wpAny_standAt (wpAny_bind (wpAny_mono h (fun it' s' h'=>wpAny_pure (wpAny_pure ⟨rfl,h'⟩)) fun _ _ x=>x)))))
end
theorem Qhh {Y:Cx} {elt tg iter:Expr} {ifs:List Expr} {g0:Comprehension} {scope:Scope} {cpos:Pos} {it D:Addr} (Q:PySem.Fin->Shared->Prop) (E:Value->Shared->Prop) (s:Shared)
    (h:wpAny (model Y.prog Y.w) Y.A (pyNext (.ref it)) (fun r s1=>match r with
      | none=>Q (.done .next) s1
      | some v=>wpAny (model Y.prog Y.w) Y.A (letOwnedTupleGo tg (.ref it) v) (fun _ s2=>QkW Y tg ifs (Qjp Y elt D) v (fun s3=>Q (.again (.compLoop (.ListComp elt [g0,⟨tg,iter,ifs,0⟩] scope cpos) 1 (.ref it) (.ref D) Y.env)) s3) s2) E s1) E s) :
    wpAny (model Y.prog Y.w) Y.A (compTurn (.ListComp elt [g0,⟨tg,iter,ifs,0⟩] scope cpos) 1 (.ref it) (.ref D) Y.env) Q E s:=by
  have e:compTurn (.ListComp elt [g0,⟨tg,iter,ifs,0⟩] scope cpos) 1 (.ref it) (.ref D) Y.env=(do
      standAt iter.pos
      match <- pyNext (.ref it) with
      | none=>pure (.done .next)
      | some v=>
        letOwnedTupleGo tg (.ref it) v
        assign tg Y.env v
        let mut ok:=true
        for c in ifs do
          if ok then ok <- isTrue c Y.env (eval c Y.env)
        if ok then
          (do let _ <- call (.builtin "list.append") [.ref D,<- eval elt Y.env])
        again (.compLoop (.ListComp elt [g0,⟨tg,iter,ifs,0⟩] scope cpos) 1 (.ref it) (.ref D) Y.env)):=by rfl
  rw [e]
  refine wpAny_bind (wpAny_standAt (wpAny_bind (thn h fun r s1 h1=>?_)))
  cases r with
  | none=>exact wpAny_pure h1
  | some v=>
    refine wpAny_bind (thn h1 fun _ s2 h2=>?_)
    refine wpAny_bind (wpAny_mono h2 (fun _ s4 h4=>wpAny_bind (wpAny_mono h4 (fun ok s5 h5=>?_) fun _ _ f=>f.elim)) fun _ _ f=>f.elim)
    cases ok with
    | false=>exact wpAny_pure h5
    | true=>exact wpAny_bind (wpAny_bind (wpAny_mono h5 (fun x s6 h6=>wpAny_bind (wpAny_mono h6 (fun _ s7 h7=>wpAny_pure (wpAny_pure h7)) fun _ _ f=>f.elim)) fun _ _ f=>f.elim))
def Qjo (Y:Cx) (e:Expr) (iter:Expr) (D:Addr):Act:=fun Q s=>wpAny (model Y.prog Y.w) Y.A (eval iter Y.env) (fun x s1=>wpAny (model Y.prog Y.w) Y.A (pyIter x)
  (fun itv s2=>codeAny (model Y.prog Y.w) Y.A (.compStart e 1 itv (.ref D) Y.env) (fun r s3=>match r with | .ok _=>Q s3 | .error _=>False) s2) (fun _ _=>False) s1) (fun _ _=>False) s
def bNest (wi:TI) (g:TG) (tc:TT) (p:Addr) (te:TE):St->Hp->(Hp->Prop)->Prop:=fun σ H k=>wi σ H fun J H1=>QgK J (bOf σ g tc (bElt p te)) k H1
theorem Qje {Y:Cx} {σ:St} {elt tg iter:Expr} {ifs:List Expr} {g0:Comprehension} {scope:Scope} {cpos:Pos} {D:Addr} {wi:TI} {g:TG} {tc:TT} {te:TE} (hx:Y.xe=fun _ _=>False) (hc:Y.calm=true)
    (hi:PI Y tg iter wi) (hg:PG Y tg g) (ht:PTs Y ifs tc) (he:PE Y elt te):Qe8 Y σ (Qjo Y (.ListComp elt [g0,⟨tg,iter,ifs,0⟩] scope cpos) iter D) (bNest wi g tc D te σ):=by
  intro pins s H k Q I h hQ
  have hx':∀ (v:Value) (s':Shared),Y.xe v s'->False:=fun v s' z=>by rw [hx] at z;exact z
  refine wpAny_mono (hi pins s σ H _ I h) (fun v s1 h1=>wpAny_mono h1 (fun itv s2 h2=>?_) hx') hx'
  obtain ⟨it,fp,tn,J,H2,e,I2,T,st2,f2,hW⟩:=h2
  subst e
  have loop:codeAny (model Y.prog Y.w) Y.A (.compLoop (.ListComp elt [g0,⟨tg,iter,ifs,0⟩] scope cpos) 1 (.ref it) (.ref D) Y.env) (fun r s3=>match r with | .ok _=>Q s3 | .error _=>False) s2:=
    Qcg (Y:=Y) (gens:=[g0,⟨tg,iter,ifs,0⟩]) (d:=1) hc T st2 f2 (fun Q E s h=>Qhh Q E s h) (fun x u r=>Qen hx hg ht (fun σ4=>Qeo hx he) x u r) I2 hW fun s' H' I' q=>hQ s' H' I' q
  exact Qey loop (T.self _ 0 _ _ _ st2 loop)
theorem QgJ {Y:Cx} {elt tg iter tg2 iter2:Expr} {ifs ifs2:List Expr} {scope:Scope} {cpos:Pos} {it D:Addr} (hs:∀ x,foldedSetIterable iter2 Y.env x=pure x) (Q:PySem.Fin->Shared->Prop) (E:Value->Shared->Prop) (s:Shared)
    (h:wpAny (model Y.prog Y.w) Y.A (pyNext (.ref it)) (fun r s1=>match r with
      | none=>Q (.done .next) s1
      | some v=>wpAny (model Y.prog Y.w) Y.A (letOwnedTupleGo tg (.ref it) v) (fun _ s2=>QkW Y tg ifs (Qjo Y (.ListComp elt [⟨tg,iter,ifs,0⟩,⟨tg2,iter2,ifs2,0⟩] scope cpos) iter2 D) v (fun s3=>Q (.again (.compLoop (.ListComp elt [⟨tg,iter,ifs,0⟩,⟨tg2,iter2,ifs2,0⟩] scope cpos) 0 (.ref it) (.ref D) Y.env)) s3) s2) E s1) E s) :
    wpAny (model Y.prog Y.w) Y.A (compTurn (.ListComp elt [⟨tg,iter,ifs,0⟩,⟨tg2,iter2,ifs2,0⟩] scope cpos) 0 (.ref it) (.ref D) Y.env) Q E s:=by
  have e:compTurn (.ListComp elt [⟨tg,iter,ifs,0⟩,⟨tg2,iter2,ifs2,0⟩] scope cpos) 0 (.ref it) (.ref D) Y.env=(do
      standAt iter.pos
      match <- pyNext (.ref it) with
      | none=>pure (.done .next)
      | some v=>
        letOwnedTupleGo tg (.ref it) v
        assign tg Y.env v
        let mut ok:=true
        for c in ifs do
          if ok then ok <- isTrue c Y.env (eval c Y.env)
        if ok then
          let x <- eval iter2 Y.env
          standAt iter2.pos
          let x <- foldedSetIterable iter2 Y.env x
          let _ <- runOwn (.compStart (.ListComp elt [⟨tg,iter,ifs,0⟩,⟨tg2,iter2,ifs2,0⟩] scope cpos) 1 (<- holding [x] (pyIter x)) (.ref D) Y.env) Y.env
        again (.compLoop (.ListComp elt [⟨tg,iter,ifs,0⟩,⟨tg2,iter2,ifs2,0⟩] scope cpos) 0 (.ref it) (.ref D) Y.env)):=by rfl
  rw [e]
  refine wpAny_bind (wpAny_standAt (wpAny_bind (thn h fun r s1 h1=>?_)))
  cases r with
  | none=>exact wpAny_pure h1
  | some v=>
    refine wpAny_bind (thn h1 fun _ s2 h2=>?_)
    refine wpAny_bind (wpAny_mono h2 (fun _ s4 h4=>wpAny_bind (wpAny_mono h4 (fun ok s5 h5=>?_) fun _ _ f=>f.elim)) fun _ _ f=>f.elim)
    cases ok with
    | false=>exact wpAny_pure h5
    | true=>
      refine wpAny_bind (wpAny_mono h5 (fun x s6 h6=>wpAny_bind (wpAny_standAt ?_)) fun _ _ f=>f.elim)
      rw [hs x]
      refine wpAny_bind (wpAny_pure (wpAny_bind (wpAny_holding (wpAny_mono h6 (fun itv s7 h7=>?_) fun _ _ f=>f.elim))))
      refine wpAny_bind (wpAny_runOwn (h:=none) (codeAny_mono h7 fun r s8 h8=>?_))
      cases r with
      | error z=>exact h8.elim
      | ok fl=>exact wpAny_pure h8
def Qk0 (cap:List (Option Nat)) (wi:TI) (g:TG) (tc:TT) (wi2:TI) (g2:TG) (tc2:TT) (te:TE):TE:=fun σ H Q=>wi σ H fun J H1=>∀ p,H1 p=none->QgK J (bOf (capS cap σ) g tc (bNest wi2 g2 tc2 p te)) (Q (.ref p)) (upd H1 p (.lst []))
end L2
namespace Rk
open PySem PySem.Spec PyProof.Rows L2 Rd
def pairD (ij:Int×Int):PyData:=.tuple [.int ij.1,.int ij.2]
theorem Qg2 (b:Int×Int):PyData.depth (pairD b)=1:=by
  unfold pairD
  simp [PyData.depth,PyData.depthAll]
end Rk
namespace Rr
open PySem PyProof.Rows
section
variable {prog:Program} {w:World} {A:Around} {E:Value->Shared->Prop} {s:Shared}
end
end Rr
namespace L2
open PySem PySem.Spec PyProof.Rows
def tRange (ta:TA):TE:=fun σ H Q=>ta σ H fun vs H1=>∃ j,vs=[.int j]/\∀ r H2,Same H1 H2->H1 r=none->H2 r=some (.rng 0 j)->Q (.ref r) H2
section
variable {X:Cx}
theorem Qgc {a:Expr} {ta:TA} {p pos:Pos} (hg:Gl X "range") (hm:X.mg "range" = none) (ha:PA X [a] ta) (hs:starEach [a] X.env=[(false,eval a X.env)]:=by rfl):PE X (.Call (.Name "range" p) [a] [] pos) (tRange ta):=by
  intro pins s σ H Q I h
  refine wpAny_Call_Name_kw (Qcd I hg hm boot_range ?_)
  refine PyProof.Rows.callWith_type1 (thn (ha pos pins s σ H _ I h) fun us s1 ⟨vs,H1,I1,r1,q1⟩=>?_) hs rfl
  obtain ⟨j,e,q⟩:=q1
  subst e
  obtain ⟨u,rfl,ru⟩:=QdK r1
  obtain ⟨t,rfl⟩:=ru
  refine call_range_1 ?_
  have hf:H1 s1.heap.objs.size=none:=I1.hok.fresh (Nat.le_refl _)
  refine ⟨.ref s1.heap.objs.size,upd H1 s1.heap.objs.size (.rng 0 j),I1.laid (t':=s1.toks+1+1) (fun b u e=>Heap.get?_push_of_some _ e) (Nat.le_refl _) ⟨_,_,_,Heap.get?_push_size _ rfl⟩,rfl,q _ _ (Qad hf) hf Qaf⟩
theorem QgX {acc:Array Value} {n:Nat} (h:ItemsOf (fun i v=>∃ t,v=Value.int ((0:Int)+i*1) t) acc n):Vals ((List.range n).map fun i=>V.int (i:Nat)) acc.toList:=by
  obtain ⟨hs,hi⟩:=h
  have key:∀ (m:Nat) (l:List Value) (o:Nat),l.length=m->(∀ i v,l[i]? = some v->∃ t,v=Value.int ((0:Int)+((o+i:Nat):Int)*1) t)->Vals ((List.range' o m).map fun i=>V.int (i:Nat)) l:=by
    intro m
    induction m with
    | zero=>intro l o hl _;cases l with
      | nil=>exact .nil
      | cons a b=>cases hl
    | succ m ih=>
      intro l o hl hv
      cases l with
      | nil=>cases hl
      | cons a b=>
        rw [List.range'_succ,List.map_cons]
        refine .cons ?_ (ih b (o+1) (by simpa using hl) fun i v e=>?_)
        · obtain ⟨t,rfl⟩:=hv 0 a rfl
          exact ⟨t,by simp⟩
        · obtain ⟨t,rfl⟩:=hv (i+1) v (by simpa using e)
          exact ⟨t,by congr 3;omega⟩
  rw [List.range_eq_range']
  refine key n acc.toList 0 (by simpa using hs) fun i v e=>?_
  have:=hi i v (by simpa using e)
  simpa using this
end
end L2
namespace Rs
open PySem PySem.W PyProof.Rows
def sp {α:Type} (n:Nat) (c:Nat->Nat->Bool):KasT α->(α->Prop)->Prop
  | .ret a,Q=>Q a
  | .ask i j f,Q=>i<n/\j<n/\sp n c (f (c i j)) Q
section
variable {n:Nat} {K:Nat->Int}
structure Good (n:Nat) (p:Array Nat):Prop where
  perm:p.toList.Perm (List.range n)
theorem Good.size {p:Array Nat} (g:Good n p):p.size=n:=by
  have:=g.perm.length_eq
  rw [List.length_range,Array.length_toList] at this
  exact this
def at_ (p:Array Nat) (i:Nat):Nat:=p.getD i 0
theorem Qjh {p:Array Nat} {i:Nat} (h:i<p.size):p[i]? = some (at_ p i):=by
  unfold at_
  rw [Array.getD_eq_getD_getElem?,Array.getElem?_eq_getElem h]
  rfl
theorem Good.lt {p:Array Nat} (g:Good n p) (h0:0<n) (i:Nat):at_ p i<n:=by
  by_cases h:i<p.size
  · have e:=Qjh h
    have m:at_ p i∈p.toList:=by
      have:=Array.mem_of_getElem? e
      exact Array.mem_toList_iff.mpr this
    exact List.mem_range.mp (g.perm.mem_iff.mp m)
  · unfold at_
    rw [Array.getD_eq_getD_getElem?,Array.getElem?_eq_none (by omega)]
    exact h0
theorem Good.inj {p:Array Nat} (g:Good n p) {i j:Nat} (hi:i<n) (hj:j<n) (e:at_ p i=at_ p j):i=j:=by
  have nd:p.toList.Nodup:=g.perm.nodup_iff.mpr List.nodup_range
  have hs:=g.size
  have hi':i<p.toList.length:=by rw [Array.length_toList];omega
  have hj':j<p.toList.length:=by rw [Array.length_toList];omega
  have ei:p.toList[i]=at_ p i:=by
    have:=Qjh (p:=p) (i:=i) (by omega)
    rw [Array.getElem?_eq_getElem (by omega)] at this
    rw [Array.getElem_toList]
    exact Option.some.inj this
  have ej:p.toList[j]=at_ p j:=by
    have:=Qjh (p:=p) (i:=j) (by omega)
    rw [Array.getElem?_eq_getElem (by omega)] at this
    rw [Array.getElem_toList]
    exact Option.some.inj this
  have pw:=List.pairwise_iff_getElem.mp nd
  rcases Nat.lt_trichotomy i j with h | h | h
  · exact absurd (ei.trans (e.trans ej.symm)) (pw i j hi' hj' h)
  · exact h
  · exact absurd (ej.trans (e.symm.trans ei.symm)) (pw j i hj' hi' h)
def kk (K:Nat->Int) (p:Array Nat) (i:Nat):Int:=K (at_ p i)
def Adj (K:Nat->Int) (p:Array Nat) (m:Nat):Prop:=∀ i,i+1<m->kk K p i<=kk K p (i+1)
theorem Adj.le {p:Array Nat} {m:Nat} (h:Adj K p m) {i:Nat}:∀ {j:Nat},i<=j->j<m->kk K p i<=kk K p j
  | 0,hij,_=>by cases Nat.le_zero.mp hij;exact Int.le_refl _
  | j+1,hij,hj=>by
    by_cases e:i=j+1
    · rw [e];exact Int.le_refl _
    · exact Int.le_trans (h.le (i:=i) (j:=j) (by omega) (by omega)) (h j hj)
end
end Rs
namespace Rs
open PySem PySem.W PySem.Calls PyProof.Rows
section
variable {prog:Program} {w:World} {A:Around} {E:Value->Shared->Prop} {s:Shared}
def Kept (a:Addr) (h h':Heap):Prop:=∀ b x,b≠a->h.get? b=some x->h'.get? b=some x
theorem QdL {h:Heap} {a:Addr} (f:Obj->Obj):Kept a h (h.update a f):=fun b x hb e=>(Heap.get?_update_ne _ _ _ _ hb).trans e
theorem QeH {h:Heap} {a:Addr} (o:Obj):Kept a h (h.push o):=fun b x _ e=>Heap.get?_push_of_some _ e
theorem Kept.trans {a:Addr} {h h1 h2:Heap} (k:Kept a h h1) (k':Kept a h1 h2):Kept a h h2:=fun b x hb e=>k' b x hb (k b x hb e)
end
structure PairV (h:Heap) (v:Value) (ij:Int×Int):Prop where
  it:∃ (a:Addr) (o:Obj) (n:Nat) (t u:Tok),v=.ref a/\h.get? a=some o/\o.cls=.type "tuple" /\ o.data=.seq #[.int ij.1 t,.int ij.2 u] n
theorem PairV.keep {h h':Heap} {v:Value} {ij:Int×Int} (q:PairV h v ij) (k:∀ b x,h.get? b=some x->h'.get? b=some x):PairV h' v ij:=by
  obtain ⟨a,o,n,t,u,e,g,c,d⟩:=q.it
  exact ⟨a,o,n,t,u,e,k _ _ g,c,d⟩
inductive PairsV (h:Heap):List Value->List (Int×Int)->Prop
  | nil:PairsV h [] []
  | cons {v:Value} {vs:List Value} {ij:Int×Int} {L:List (Int×Int)}:PairV h v ij->PairsV h vs L->PairsV h (v::vs) (ij::L)
theorem PairsV.keep {h h':Heap} (k:∀ b x,h.get? b=some x->h'.get? b=some x):∀ {vs:List Value} {L:List (Int×Int)},PairsV h vs L->PairsV h' vs L
  | _,_,.nil=>.nil
  | _,_,.cons q r=>.cons (q.keep k) (r.keep k)
theorem PairsV.len {h:Heap}:∀ {vs:List Value} {L:List (Int×Int)},PairsV h vs L->vs.length=L.length
  | _,_,.nil=>rfl
  | _,_,.cons _ r=>by rw [List.length_cons,List.length_cons,r.len]
theorem PairsV.at_ {h:Heap}:∀ {vs:List Value} {L:List (Int×Int)},PairsV h vs L->∀ i,i<vs.length->PairV h (vs.getD i Value.none) (L.getD i (0,0))
  | _,_,.nil,i,hi=>by simp at hi
  | _,_,.cons q r,0,hi=>q
  | _,_,.cons q r,i+1,hi=>by
    have:=r.at_ i (by simpa using hi)
    simpa using this
section
variable {prog:Program} {w:World} {A:Around} {E:Value->Shared->Prop} {s:Shared}
end
end Rs
namespace L2
open PySem PySem.Spec PyProof.Rows _root_.Rd _root_.Rk _root_.Rs
section
variable {X:Cx}
end
end L2
namespace Re
open PySem PyProof.Rows
open AutoSeq1 (wpAny_loadPart')
end Re
namespace L2
open PySem PySem.Spec PyProof.Rows
section
variable {X:Cx}
def QlR:List V->Hp->VK->Prop:=fun xs H Q=>∃ r j,xs=[.ref r]/\H r=some (.rng 0 j) /\ -1000<=j/\j<=1000/\∀ t H2,Same H H2->H t=none->H2 t=some (.lst ((List.range j.toNat).map fun i=>V.int (i:Nat)))->Q (.ref t) H2
theorem QfN (hc:X.calm=true):CallR X (.type "list") QlR:=by
  intro pins s σ H xs us Q I r h
  obtain ⟨a,j,rfl,ha,h1,h2,q⟩:=h
  obtain ⟨u,rfl,ru⟩:=QdK r
  cases (show u=Value.ref a from ru)
  obtain ⟨t1,t2,t3,e⟩:=I.hok a _ ha
  have hn:Builtin.Range.rangeSize 0 j 1=((j.toNat:Nat):Int):=by rw [rangeSize_one];split<;>omega
  refine call_list_range (n:=j.toNat) (I.ok.hd hc) (show IsRange s.heap a 0 j 1 t1 t2 t3 from e) (small_one (by omega) (by omega) (by omega) (by omega)) hn (Nat.le_trans (show j.toNat<=1000 by omega) (by decide)) fun h' tk acc c' kp hS hacc=>?_
  have hz:acc.size=j.toNat:=hacc.1
  have rv:=QgX hacc
  have hf:H s.heap.objs.size=none:=I.hok.fresh (Nat.le_refl _)
  refine ⟨.ref s.heap.objs.size,upd H s.heap.objs.size (.lst ((List.range j.toNat).map fun i=>V.int (i:Nat))),I.laid (t':=tk) kp (Nat.le_refl _) ⟨?_,acc.toList,c',rv,by rw [hS]⟩,rfl,q _ _ (Qad hf) hf Qaf⟩
  rw [List.length_map,List.length_range]
  exact Nat.le_of_lt (Rk.lt_line (by omega))
end
end L2
namespace Rk
open PySem PySem.Spec PyProof.Rows L2
end Rk
namespace L2
open PySem PySem.Spec PyProof.Rows
section
variable {X:Cx} {pins:List (Addr×Obj)} {σ:St} {H:Hp}
theorem QbO {M:List Str} {scope:Scope} {fp:List Addr} {σ':St} {H3:Hp} {s3 s':Shared} {D:Addr} {i:Nat} {y:Str} {py:Pos} {Mo:Model} {A:Around} {E:Value->Shared->Prop} {Q:Value->Shared->Prop}
    (I3:Inv X pins σ H3 s3) (f3:∀ b∈fp,FpOk X pins H3 b) (J:Inv (blk X M scope (clOf X.env scope.names []) fp s3 H3 s3.heap.objs.size) [] σ' H s')
    (hN:X.N.Nodup) (hi:X.N[i]? = some y) (hl:X.env.scope.names.lookup y=some .local) (hq:∀ s2,Inv X pins (σ.set i (some (.ref D))) H s2->Q .none s2) :
    wpAny Mo A (assign (.Name y py) X.env (.ref D)) (fun _ s2=>∃ m,s2.heap.Ns s3.heap.objs.size m/\∀ h',Heap.SameBut s3.heap.objs.size s2.heap h'->Q .none { s2 with heap:=h' }) E s':=by
  have J0:Inv X pins σ H s':=Qjf I3 f3 J (Heap.SameBut.refl ..)
  obtain ⟨m,hn,_⟩:=J.loc
  have hC:H s3.heap.objs.size=none:=J.free
  have lt:X.env.locals<s3.heap.objs.size:=I3.lt
  refine wpAny_assign_Name (Qex J0 hN hi (Or.inl hl) (show RelV (.ref D) (.ref D) from rfl) (fun s2 J2 ⟨a,sb,ha⟩=>?_) (.inr hl))
  have ea:a=X.env.locals∨X.env.cells.lookup y=some a:=ha
  have na:s3.heap.objs.size≠a:=by
    rcases ea with z | z
    · rw [z];exact Nat.ne_of_gt lt
    · obtain ⟨v,o,ho,_⟩:=I3.cell y a z
      exact Nat.ne_of_gt (Heap.lt_size ho)
  refine ⟨m,hn.sameBut sb na,fun h' hs=>hq _ ?_⟩
  refine J2.turned (t':=s2.toks) (it:=s3.heap.objs.size) (fun b o hb e=>hs.extBut b o hb e) hC (Nat.ne_of_gt lt) (.inr I3.sz) (fun x c e z=>?_) fun p hp z=>?_
  · obtain ⟨v,o,ho,_⟩:=I3.cell x c e
    exact absurd (z ▸ Heap.lt_size ho) (Nat.lt_irrefl _)
  · have e:=(I3.pin p hp).1
    exact absurd (z ▸ Heap.lt_size e) (Nat.lt_irrefl _)
end
theorem QjQ {X:Cx} {M:List Str} {cap:List (Option Nat)} {elt tg iter:Expr} {ifs:List Expr} {scope:Scope} {pos:Pos} {wi:TI} {g:TG} {tc:TT} {te:TE} {i:Nat} {y:Str} {py spos:Pos} (hN:X.N.Nodup) (hiy:X.N[i]? = some y) (hly:X.env.scope.names.lookup y=some .local) (hc:X.calm=true) (ok:Qei X.N X.env.scope M scope cap=true)
    (hi:PI X tg iter wi) (hb:∀ cl ex s3 H3 C,PG (blk X M scope cl ex s3 H3 C) tg g/\PTs (blk X M scope cl ex s3 H3 C) ifs tc/\PE (blk X M scope cl ex s3 H3 C) elt te)
    (hs:∀ x,foldedSetIterable iter X.env x=pure x:=by intro _;rfl)  (hsw:swapsWith (.ListComp elt [⟨tg,iter,ifs,0⟩] scope pos) (some (.Name y py)) spos.line X.env=pure true:=by rfl):PS X (.Assign [.Name y py] (.ListComp elt [⟨tg,iter,ifs,0⟩] scope pos) spos) (tAsg (tComp cap wi g tc te) (QcK i)):=by
  intro pins s σ H D I h
  have c:=CapOk.of ok
  rw [exec_Assign_Name_used _ _ _ _ hsw]
  refine wpAny_bind (wpAny_standAt (wpAny_bind ?_))
  show wpAny _ X.A (do let _ <- comprehension (.ListComp elt [⟨tg,iter,ifs,0⟩] scope pos) scope X.env _ (newList []) false (eval iter X.env) (some (assign (.Name y py) X.env))) _ _ s
  refine wpAny_bind (wpAny_mono (wpAny_comprehension_free (use:=some (assign (.Name y py) X.env)) (Q:=fun _ s'=>SP X pins D .next s') rfl hs (QfL (I.ok.cells c)) c.kind c.loc ?_) (fun _ s' hq=>wpAny_pure (wpAny_pure hq)) fun _ _ e=>e)
  refine thn (hi pins s σ H _ I h) fun v s1 h1=>thn h1 fun itv s2 h2=>?_
  obtain ⟨it,fp,tn,J,H2,e,I2,T,st2,f2,hW⟩:=h2
  subst e
  refine wpAny_newObj_type (wpAny_newFunctionEnv c.cell (by intro y hy;simp at hy) (fun h₁ hns₁ hsb₁=>?_) c.kind)
  have I3:Inv X pins σ (upd H2 s2.heap.objs.size (.lst [])) { s2 with heap:=s2.heap.push { cls:=.type "list",data:=.seq ([]:List Value).toArray } }:=I2.lnew (t':=s2.toks) (ys:=[]) .nil (Nat.zero_le _)
  have lt2:∀ b∈fp,b<s2.heap.objs.size:=fun b hb=>by obtain ⟨o,e,_⟩:=T.obj _ _ st2 b hb;exact Heap.lt_size e
  have f3:∀ b∈fp,FpOk X pins (upd H2 s2.heap.objs.size (.lst [])) b:=fun b hb=>(f2 b hb).upd (Nat.ne_of_lt (lt2 b hb))
  generalize hs3:({ s2 with heap:=s2.heap.push { cls:=.type "list",data:=.seq ([]:List Value).toArray } }:Shared)=s3 at I3
  have e3:s3.heap=s2.heap.push { cls:=.type "list",data:=.seq ([]:List Value).toArray }:=by rw [<- hs3]
  have z3:s3.heap.objs.size=s2.heap.objs.size+1:=by rw [e3,Heap.size_push]
  have hk:∀ b o,s3.heap.get? b=some o->h₁.get? b=some o:=fun b o e=>hsb₁.extBut b o (by
    have:=Heap.lt_size e
    rw [e3] at this
    exact Nat.ne_of_lt this) (Heap.get?_push_of_some _ (e3 ▸ e))
  have hn₁:h₁.Ns s3.heap.objs.size fun _=>none:=by rw [e3];exact hns₁
  have B:=Qdm (t4:=s3.toks+([]:List (Str×Value)).length) (fp:=fp) I3 c f3 (fun b hb=>by rw [z3];exact Nat.lt_succ_of_lt (lt2 b hb)) hn₁ hk
  have st4:tn 0 h₁:=T.keep _ _ _ st2 fun b hb o e=>hk b o (by rw [e3];exact Heap.get?_push_of_some _ e)
  have fp4:∀ b∈fp,FpOk (blk X M scope (clOf X.env scope.names []) fp s3 (upd H2 s2.heap.objs.size (.lst [])) s3.heap.objs.size) [] (upd H2 s2.heap.objs.size (.lst [])) b:=fun b hb=>by
    refine ⟨(f3 b hb).1,(B.ok.exf b hb).1,B.ok.exfs b hb,.inl hb,(B.ok.exf b hb).2,fun p hp=>(nomatch hp)⟩
  obtain ⟨hg,ht,he⟩:=hb (clOf X.env scope.names []) fp s3 (upd H2 s2.heap.objs.size (.lst [])) s3.heap.objs.size
  have loop:codeAny (model X.prog X.w) X.A (.compLoop (.ListComp elt [⟨tg,iter,ifs,0⟩] scope pos) 0 (.ref it) (.ref s2.heap.objs.size) (compEnvC scope (clOf X.env scope.names []) s3.heap.objs.size X.env))
      (compPost (model X.prog X.w) X.A X.xe (some (assign (.Name y py) X.env)) (fun _ s'=>SP X pins D .next s') (.ref s2.heap.objs.size) s3.heap.objs.size) { s3 with heap:=h₁,toks:=s3.toks+([]:List (Str×Value)).length }:=by
    refine Qcg (Y:=blk X M scope (clOf X.env scope.names []) fp s3 (upd H2 s2.heap.objs.size (.lst [])) s3.heap.objs.size) (gens:=[⟨tg,iter,ifs,0⟩]) (d:=0) hc T st4 fp4
      (fun Q E s h=>QfV Q E s h) (fun x u r=>Qen rfl hg ht (fun σ4=>Qeo rfl he) x u r) B (hW _ (I2.hok.fresh (Nat.le_refl _))) fun s' H' I' q=>?_
    exact QbO (Q:=fun _ s'=>SP X pins D .next s') I3 f3 I' hN hiy hly fun s2' J2=>⟨_,H',J2,q⟩
  exact codeAny_compStart_list loop (T.self _ 0 _ _ _ st4 loop)
theorem QhV {X:Cx} {M:List Str} {cap:List (Option Nat)} {elt tg iter tg2 iter2:Expr} {ifs ifs2:List Expr} {scope:Scope} {pos:Pos} {wi wi2:TI} {g g2:TG} {tc tc2:TT} {te:TE} {i:Nat} {y:Str} {py spos:Pos} (hN:X.N.Nodup) (hiy:X.N[i]? = some y) (hly:X.env.scope.names.lookup y=some .local) (hc:X.calm=true) (ok:Qei X.N X.env.scope M scope cap=true)
    (hi:PI X tg iter wi) (hb:∀ cl ex s3 H3 C,PG (blk X M scope cl ex s3 H3 C) tg g/\PTs (blk X M scope cl ex s3 H3 C) ifs tc/\PI (blk X M scope cl ex s3 H3 C) tg2 iter2 wi2/\PG (blk X M scope cl ex s3 H3 C) tg2 g2/\PTs (blk X M scope cl ex s3 H3 C) ifs2 tc2/\PE (blk X M scope cl ex s3 H3 C) elt te)
    (hs:∀ x,foldedSetIterable iter X.env x=pure x:=by intro _;rfl) (hs2:∀ env x,foldedSetIterable iter2 env x=pure x:=by intro _ _;rfl)  (hsw:swapsWith (.ListComp elt [⟨tg,iter,ifs,0⟩,⟨tg2,iter2,ifs2,0⟩] scope pos) (some (.Name y py)) spos.line X.env=pure true:=by rfl):PS X (.Assign [.Name y py] (.ListComp elt [⟨tg,iter,ifs,0⟩,⟨tg2,iter2,ifs2,0⟩] scope pos) spos) (tAsg (Qk0 cap wi g tc wi2 g2 tc2 te) (QcK i)):=by
  intro pins s σ H D I h
  have c:=CapOk.of ok
  rw [exec_Assign_Name_used _ _ _ _ hsw]
  refine wpAny_bind (wpAny_standAt (wpAny_bind ?_))
  show wpAny _ X.A (do let _ <- comprehension (.ListComp elt [⟨tg,iter,ifs,0⟩,⟨tg2,iter2,ifs2,0⟩] scope pos) scope X.env _ (newList []) false (eval iter X.env) (some (assign (.Name y py) X.env))) _ _ s
  refine wpAny_bind (wpAny_mono (wpAny_comprehension_free (use:=some (assign (.Name y py) X.env)) (Q:=fun _ s'=>SP X pins D .next s') rfl hs (QfL (I.ok.cells c)) c.kind c.loc ?_) (fun _ s' hq=>wpAny_pure (wpAny_pure hq)) fun _ _ e=>e)
  refine thn (hi pins s σ H _ I h) fun v s1 h1=>thn h1 fun itv s2 h2=>?_
  obtain ⟨it,fp,tn,J,H2,e,I2,T,st2,f2,hW⟩:=h2
  subst e
  refine wpAny_newObj_type (wpAny_newFunctionEnv c.cell (by intro y hy;simp at hy) (fun h₁ hns₁ hsb₁=>?_) c.kind)
  have I3:Inv X pins σ (upd H2 s2.heap.objs.size (.lst [])) { s2 with heap:=s2.heap.push { cls:=.type "list",data:=.seq ([]:List Value).toArray } }:=I2.lnew (t':=s2.toks) (ys:=[]) .nil (Nat.zero_le _)
  have lt2:∀ b∈fp,b<s2.heap.objs.size:=fun b hb=>by obtain ⟨o,e,_⟩:=T.obj _ _ st2 b hb;exact Heap.lt_size e
  have f3:∀ b∈fp,FpOk X pins (upd H2 s2.heap.objs.size (.lst [])) b:=fun b hb=>(f2 b hb).upd (Nat.ne_of_lt (lt2 b hb))
  generalize hs3:({ s2 with heap:=s2.heap.push { cls:=.type "list",data:=.seq ([]:List Value).toArray } }:Shared)=s3 at I3
  have e3:s3.heap=s2.heap.push { cls:=.type "list",data:=.seq ([]:List Value).toArray }:=by rw [<- hs3]
  have z3:s3.heap.objs.size=s2.heap.objs.size+1:=by rw [e3,Heap.size_push]
  have hk:∀ b o,s3.heap.get? b=some o->h₁.get? b=some o:=fun b o e=>hsb₁.extBut b o (by
    have:=Heap.lt_size e
    rw [e3] at this
    exact Nat.ne_of_lt this) (Heap.get?_push_of_some _ (e3 ▸ e))
  have hn₁:h₁.Ns s3.heap.objs.size fun _=>none:=by rw [e3];exact hns₁
  have B:=Qdm (t4:=s3.toks+([]:List (Str×Value)).length) (fp:=fp) I3 c f3 (fun b hb=>by rw [z3];exact Nat.lt_succ_of_lt (lt2 b hb)) hn₁ hk
  have st4:tn 0 h₁:=T.keep _ _ _ st2 fun b hb o e=>hk b o (by rw [e3];exact Heap.get?_push_of_some _ e)
  have fp4:∀ b∈fp,FpOk (blk X M scope (clOf X.env scope.names []) fp s3 (upd H2 s2.heap.objs.size (.lst [])) s3.heap.objs.size) [] (upd H2 s2.heap.objs.size (.lst [])) b:=fun b hb=>by
    refine ⟨(f3 b hb).1,(B.ok.exf b hb).1,B.ok.exfs b hb,.inl hb,(B.ok.exf b hb).2,fun p hp=>(nomatch hp)⟩
  obtain ⟨hg,ht,hi2,hg2,ht2,he⟩:=hb (clOf X.env scope.names []) fp s3 (upd H2 s2.heap.objs.size (.lst [])) s3.heap.objs.size
  have loop:codeAny (model X.prog X.w) X.A (.compLoop (.ListComp elt [⟨tg,iter,ifs,0⟩,⟨tg2,iter2,ifs2,0⟩] scope pos) 0 (.ref it) (.ref s2.heap.objs.size) (compEnvC scope (clOf X.env scope.names []) s3.heap.objs.size X.env))
      (compPost (model X.prog X.w) X.A X.xe (some (assign (.Name y py) X.env)) (fun _ s'=>SP X pins D .next s') (.ref s2.heap.objs.size) s3.heap.objs.size) { s3 with heap:=h₁,toks:=s3.toks+([]:List (Str×Value)).length }:=by
    refine Qcg (Y:=blk X M scope (clOf X.env scope.names []) fp s3 (upd H2 s2.heap.objs.size (.lst [])) s3.heap.objs.size) (gens:=[⟨tg,iter,ifs,0⟩,⟨tg2,iter2,ifs2,0⟩]) (d:=0) hc T st4 fp4
      (fun Q E s h=>QgJ (hs2 _) Q E s h) (fun x u r=>Qen rfl hg ht (fun σ4=>Qje rfl hc hi2 hg2 ht2 he) x u r) B (hW _ (I2.hok.fresh (Nat.le_refl _))) fun s' H' I' q=>?_
    exact QbO (Q:=fun _ s'=>SP X pins D .next s') I3 f3 I' hN hiy hly fun s2' J2=>⟨_,H',J2,q⟩
  exact codeAny_compStart_list loop (T.self _ 0 _ _ _ st4 loop)
end L2
namespace Rk
open PySem PySem.Spec PyProof.Rows L2 _root_.Rd
theorem Cs.get {p:Addr} {H:Hp}:∀ {ps:List V} {L:List (Int×Int)},Cs p H ps L->∀ (i:Nat) (x:V),ps[i]? = some x->∃ ij,L[i]? = some ij/\∃ d,d≠p/\x=.ref d/\H d=some (.tup [.int ij.1,.int ij.2])
  | _,_,.nil,i,x,e=>by simp at e
  | _,_,.cons r t,0,x,e=>by simp at e;subst e;exact ⟨_,rfl,r⟩
  | _,_,.cons r t,i+1,x,e=>by
    obtain ⟨ij,h1,h2⟩:=Cs.get t i x (by simpa using e)
    exact ⟨ij,by simpa using h1,h2⟩
section
variable {X:Cx}
end
theorem Cs.app {p:Addr} {H:Hp}:∀ {ps qs:List V} {L M:List (Int×Int)},Cs p H ps L->Cs p H qs M->Cs p H (ps++qs) (L++M)
  | _,_,_,_,.nil,h=>h
  | _,_,_,_,.cons r t,h=>.cons r (Cs.app t h)
end Rk
namespace Rk
open PySem PySem.Spec PyProof.Rows L2
theorem bt_ve:bootBuiltins "ValueError" = some (.type "ValueError"):=by decide +kernel
def Qhr:List Expr->Option (List Str)
  | []=>some []
  | .Constant (.str x) _ _::es=>(Qhr es).map (x::·)
  | _::_=>none
theorem Qfq {X:Cx}:∀ {es:List Expr} {ws:List Str},Qhr es=some ws->PA X es (fun _ H Q=>Q (ws.map V.str) H)
  | [],ws,h=>by cases h;exact Qaq
  | e::es,ws,h=>by
    unfold Qhr at h
    split at h
    · rename_i e2;cases e2
    · rename_i e2
      cases e2
      obtain ⟨vs,hv,rfl⟩:=Option.map_eq_some_iff.mp h
      exact Qfr (pa_c QhZ (Qfq hv)) fun σ H Q q=>q
    · cases h
def Qm6 (x:Str):List Expr->Option (List Str)
  | []=>some []
  | .Call (.Name f _) [.Name y _,.Name n _] [] _::es=>if f = "isinstance" /\ y=x then (Qm6 x es).map (n::·) else none
  | _::_=>none
def tIsx (K:PySem.W.Frag) (cs:List Addr):TA:=fun σ H Q=>∃ (a C:Addr) (bs:List Bool),σ[0]? = some (some (.ref a))/\H a=some (Rx.exO a C)/\Rx.ExC K C/\Paired (fun c b=>PySem.W.kitOne K (.ref C) (.ref c)=some b) cs bs/\Q (bs.map V.bl) H
theorem Qdv {X:Cx} {x:Str} (hN:X.N[0]? = some x) (hv:Vis X.env.scope x) (hd:(x == ("__debug__" : Str))=false) (hcd:(x == ("__classdict__" : Str))=false) (hg:Gl X "isinstance") (hm:X.mg "isinstance" = none) :
    ∀ {es:List Expr} {ns:List Str} {cs:List Addr},Qm6 x es=some ns->(ns.all fun n=>(X.env.kindOf n == some .globalImplicit) && !(n == ("__debug__" : Str)))=true->Paired (fun n c=>X.mg n=some (.ref c)) ns cs->PA X es (tIsx X.K cs)
  | [],ns,cs,h,_,p=>by
    cases h
    cases p
    exact Qfr Qaq fun σ H Q ⟨a,C,bs,_,_,_,pb,q⟩=>by cases pb;exact q
  | e::es,ns,cs,h,g,p=>by
    unfold Qm6 at h
    split at h
    · rename_i e2;cases e2
    · rename_i f pf y py n pn pc es' e2
      cases e2
      split at h
      · rename_i hc
        obtain ⟨rfl,rfl⟩:=hc
        obtain ⟨ns',hns,rfl⟩:=Option.map_eq_some_iff.mp h
        cases p with
        | @cons _ c _ cs' p1 p2=>
        rw [List.all_cons,Bool.and_eq_true,Bool.and_eq_true] at g
        have g1:Gl X n:=beq_iff_eq.mp g.1.1
        have g2:(n == ("__debug__" : Str))=false:=by
          have:=g.1.2
          cases q:(n == ("__debug__" : Str)) with
          | false=>rfl
          | true=>rw [q] at this;cases this
        have one:PE X (.Call (.Name "isinstance" pf) [.Name y py,.Name n pn] [] pc) _:=Qax Rx.call_isEx hg hm Qap (pa_c (Qlc hN hv hd hcd) (pa_c (Qh1 (v:=.ref c) g1 p1 rfl g2) Qaq rfl) rfl)
        refine Qfr (pa_c one (Qdv hN hv hd hcd hg hm hns g.2 p2) rfl) fun σ H Q ⟨a,C,bs,h0,ha,hc,pb,q⟩=>?_
        cases pb with
        | @cons _ b _ bs' q1 q2=>exact ⟨_,h0,a,C,.ref c,.ref c,b,rfl,ha,hc,(fun u r=>r),q1,a,C,bs',h0,ha,hc,q2,q⟩
      · cases h
    · cases h
def Qer:List Str:=["text", "order", "lines", "few", "size", "many", "number", "stand", "cell", "square", "hits", "counts", "stairs", "alike", "parting", "place", "double", "deed", "row"]
def Qf0 (K:PySem.W.Frag) (cs:List Addr):Sp:=fun vs H Q _=>∃ (a C:Addr) (bs:List Bool) (j:Nat) (wd:Str),vs=[.ref a]/\H a=some (Rx.exO a C)/\Rx.ExC K C/\Paired (fun c b=>PySem.W.kitOne K (.ref C) (.ref c)=some b) cs bs/\PySem.W.kitOne K (.ref C) (.type "ValueError")=some true /\
  bs.countP id=1/\bs[j]? = some true/\(∀ m,m<j->bs[m]? = some false)/\Qer[j]? = some wd/\∀ H',Same H H'->Q (.str wd) H'
theorem Qai {α β:Type} {F:α->β->Prop} {a:α} {l:List α} {bs:List β} (h:Paired F (a::l) bs):∃ b bs',bs=b::bs'/\F a b/\Paired F l bs':=by
  cases h with
  | cons r t=>exact ⟨_,_,rfl,r,t⟩
theorem QgO {α β:Type} {F:α->β->Prop} {bs:List β} (h:Paired F [] bs):bs=[]:=by
  cases h
  rfl
end Rk
namespace Rx
open PySem PySem.Spec PySem.Calls PyProof.Rows L2
section
variable {X:Cx} {E:XK}
theorem passE (hxe:∀ e s1,wpAny (model X.prog X.w) X.A (leaving X.env e) (fun _ s2=>CXE X.prog X.w X.outer X.H₀ X.s₀ E e s2) (fun e' s2=>CXE X.prog X.w X.outer X.H₀ X.s₀ E e' s2) s1->X.xe e s1)
    (hstk:X.stack=X.env::X.outer) (hfr:X.env.frame=some X.env.locals) (hex:X.ex=[]):QbG (CXE X.prog X.w) X E:=by
  intro pins σ H s e s' I h
  obtain ⟨C,H',⟨a,t,B,rfl,os,bare,fl,fa,fH,land⟩,q⟩:=h
  refine hxe _ _ ?_
  have fl2:=fl
  rw [hstk] at fl2
  have fr:X.A.frames=some (X.env::X.outer):=by rw [<- hstk];exact I.ok.frames
  refine wpAny_leaves_onW fr hfr fl2 fun h' fl' up=>⟨C,H',⟨a,t,B,rfl,os.trans I.os,bare,fl',?_,fH,fun h2 st up2=>?_⟩,q⟩
  · cases z:X.s₀.heap.get? a with
    | none=>rfl
    | some o=>
      obtain ⟨o',e'⟩:=I.base.there a o z (by rw [hex];simp)
      rw [fa] at e';cases e'
  · obtain ⟨un,hok⟩:=land h2 st (up.trans up2)
    have J:=I.call' (s':={ s' with heap:=h2 }) (ch:=[]) os un hok bare (fun b z=>absurd z (by simp))
    have hb:=J.base
    rw [hex] at hb
    exact ⟨hb,hok⟩
end
section
variable {X:Cx} {tf:TE} {fe:Expr} {pos:Pos} {e:Expr} {es:List Expr} {t:TA} {M:Addr->Sp->Prop}
end
end Rx
namespace Rk
open PySem PySem.Spec PyProof.Rows L2 _root_.Rd
structure GlbA (mg:Str->Option Value):Prop where
  isinstance:mg "isinstance" = none
  int:mg "int" = none
  bool:mg "bool" = none
  str:mg "str" = none
  tuple:mg "tuple" = none
  list:mg "list" = none
  all:mg "all" = none
  len:mg "len" = none
  zip:mg "zip" = none
  enumerate:mg "enumerate" = none
  range:mg "range" = none
  max:mg "max" = none
  min:mg "min" = none
  sorted:mg "sorted" = none
  sum:mg "sum" = none
  set:mg "set" = none
  any:mg "any" = none
  reversed:mg "reversed" = none
  divmod:mg "divmod" = none
structure KOk (K:PySem.W.Frag) (cs:List Addr) (R C:Addr) (wd:Str):Prop where
  by_:Rx.ByC K C R
  ex:∃ (bs:List Bool) (j:Nat),Rx.ExC K C/\Paired (fun c b=>PySem.W.kitOne K (.ref C) (.ref c)=some b) cs bs/\PySem.W.kitOne K (.ref C) (.type "ValueError")=some true/\bs.countP id=1/\bs[j]? = some true/\(∀ m,m<j->bs[m]? = some false)/\Qer[j]? = some wd
def rInU (u:Nat) (neg:Bool):R2:=fun x y H Q=>∃ c ps ds d,y=.ref c/\H c=some (.tup ps)/\Dats H ps ds/\Dat H x d/\u+d.depth<cLine/\Q (.bl (if neg then !(ds.any fun e=>PyData.eqv e d) else ds.any fun e=>PyData.eqv e d)) H
end Rk
namespace Rx
open PySem PySem.Spec PySem.Calls PyProof.Rows L2
section
variable {P:Program} {w:World} {K:PySem.W.Frag} {mg:Str->Option Value} {base:Heap}
theorem okE {x qual:Str} {st:Stmt} {f:Addr} {fd:FuncData} {N ps:List Str} {k:Nat} {sp:Sp} (F:Fun K x qual st f fd) (S:FnScope N ps (Qaa st)) (len:∀ vs H Q E,sp vs H Q E->vs.length=ps.length)
    (hbody:∀ (cdv:Value) (A:Around) (outer:List Env) (s:Shared) (H:Hp) (vs:List V) (Q:VK) (E:XK),Room k (A.deeper (envOfC qual (Qaa st) s.heap.objs.size f cdv))->sp vs H Q E ->
      ∃ t,PSs (cxOf (CXE P w) P w K mg base N qual (Qaa st) f cdv A outer s H E) (Qan st) t/\t { nx:=fun _ H'=>Q .non H',rt:=Q } (start N vs) H):FnOk P w K mg base (CXE P w) (k+1) f fd ps sp:=by
  obtain ⟨oc,od,kV,doc,pm,an,cdv,ct,osl,rfl,lk,hcd⟩:=F.ex
  exact fn_of lk hcd S len fun A outer s H vs Q E hr hsp=>hbody cdv A outer s H vs Q E hr hsp
end
end Rx
namespace Rk
open PySem PySem.Spec PyProof.Rows L2 _root_.Rd
def FinV (is js:List Nat) (p:Addr) (σ:L2.St) (H:Hp):Prop:=(∃ o,H p=some o)/\(∀ i∈is,∃ v,σ[i]? = some (some v)/\FineA p H v)/\∀ j∈js,∃ k,σ[j]? = some (some (.int k))
theorem FinV.same {is js:List Nat} {p:Addr} {σ:L2.St} {H H':Hp} (h:FinV is js p σ H) (s:Same H H'):FinV is js p σ H':=by
  obtain ⟨⟨o,ho⟩,h1,h2⟩:=h
  refine ⟨⟨o,s _ _ ho⟩,fun i hi=>?_,h2⟩
  obtain ⟨v,e,f⟩:=h1 i hi
  exact ⟨v,e,f.keep (KX.of s)⟩
section
variable {X:Cx} {is js:List Nat}
end
theorem handled {K:PySem.W.Frag} {cs:List Addr} {R C:Addr} {wd:Str} (o:KOk K cs R C wd) {H1:Hp} {Q:VK} {σ:L2.St} {i:Nat} (hi:i < σ.length) (k:∀ H',Same H1 H'->Q (.str wd) H') :
    Rx.ByC K C R/\∀ a,H1 a=none->(QcI (tVar i) tNil) (σ.set i (some (.ref a))) (upd H1 a (Rx.exO a C)) fun vs H2=>Qf0 K cs vs H2 Q E0:=by
  refine ⟨o.by_,fun a ha=>?_⟩
  obtain ⟨bs,j,hx,pb,eV,hc,hj,hm,hw⟩:=o.ex
  exact ⟨_,List.getElem?_set_self hi,a,C,bs,j,wd,rfl,Qaf,hx,pb,eV,hc,hj,hm,hw,fun H2 s2=>k H2 ((Qad ha).trans s2)⟩
end Rk
namespace L2
open PySem PySem.Spec PyProof.Rows
theorem QaT {h:Heap} {a:Addr} {its:Array Value} (p:PlainL h a its):h.IsList a its:=by
  obtain ⟨o,n,h1,h2,_,h3⟩:=p
  exact ⟨o,h1,h2,n,h3⟩
structure ZipLAt (h:Heap) (z TI TO i1 i2 t1 t2:Addr) (f:Value) (k:Nat):Prop where
  zp:IsZip h z TI TO f
  ti:IsPair h TI (.ref i1) (.ref i2)
  to:∃ a b,IsPair h TO a b
  i1:h.IsListIter i1 t1 k
  i2:h.IsListIter i2 t2 k
section
variable {prog:Program} {w:World} {A:Around} {E:Value->Shared->Prop} {s:Shared}
theorem Qhc {z TI TO i1 i2 t1 t2:Addr} {k:Nat} {xs ys:Array Value} {x y:Value} {Q:Option Value->Shared->Prop} (D:ZipApart z TI TO i1 i2 t1 t2) (Z:ZipLAt s.heap z TI TO i1 i2 t1 t2 .none k)
    (hl1:s.heap.IsList t1 xs) (hl2:s.heap.IsList t2 ys) (hx:xs[k]? = some x) (hy:ys[k]? = some y)
    (hQ:∀ h',ZipLAt h' z TI TO i1 i2 t1 t2 (rawInt s.heap.objs.size) (k+1)->IsPair h' s.heap.objs.size x y->(∀ c o,c≠z->c≠TO->c≠i1->c≠i2->s.heap.get? c=some o->h'.get? c=some o)->Q (some (.ref s.heap.objs.size)) { s with heap:=h' }) :
    wpAny (model prog w) A (pyNext (.ref z)) Q E s:=by
  obtain ⟨hz,hTI,⟨a,b,hTO⟩,h1,h2⟩:=Z
  exact wpAny_pyNext_zip_item D hz hTI hTO h1 h2 hl1 hl2 hx hy fun h' a1 a2 a3 a4 a5 a6 a7=>hQ h' ⟨a1,a7 _ _ D.TIz D.TITO D.TIi1 D.TIi2 hTI,⟨x,y,a2⟩,a3,a4⟩ a5 a7
theorem Qjq {z TI TO i1 i2 t1 t2:Addr} {k:Nat} {xs ys:Array Value} {Q:Option Value->Shared->Prop} (hh:A.handled=none) (D:ZipApart z TI TO i1 i2 t1 t2) (Z:ZipLAt s.heap z TI TO i1 i2 t1 t2 .none k)
    (hl1:s.heap.IsList t1 xs) (hl2:s.heap.IsList t2 ys) (hend:xs[k]? = none∨ys[k]? = none)
    (hQ:∀ h',(∀ c o,c≠z->c≠TO->c≠i1->c≠i2->s.heap.get? c=some o->h'.get? c=some o)->Q none { s with heap:=h' }):wpAny (model prog w) A (pyNext (.ref z)) Q E s:=by
  obtain ⟨hz,hTI,⟨a,b,hTO⟩,h1,h2⟩:=Z
  exact wpAny_pyNext_zip_end hh D hz hTI hTO h1 h2 hl1 hl2 hend hQ
theorem Qhd {t1 t2:Addr} {xs ys:Array Value} {Q:Value->Shared->Prop} (hl1:s.heap.IsList t1 xs) (hl2:s.heap.IsList t2 ys)
    (h:∀ h',ZipLAt h' (s.heap.objs.size+4) (s.heap.objs.size+2) (s.heap.objs.size+3) s.heap.objs.size (s.heap.objs.size+1) t1 t2 .none 0->(∀ c o,s.heap.get? c=some o->h'.get? c=some o)->Q (.ref (s.heap.objs.size+4)) { s with heap:=h' }) :
    wpAny (model prog w) A (call (.type "zip") [.ref t1,.ref t2]) Q E s:=
  call_zip_2 hl1 hl2 fun h' a1 a2 a3 a4 a5 a6 a7=>h h' ⟨a1,a2,⟨_,_,a3⟩,a4,a5⟩ a7
end
def ItzL (t1 t2:Addr):It:=
  ⟨fun i H=>∃ xs ys x y,H t1=some (.lst xs)/\H t2=some (.lst ys)/\xs[i]? = some x/\ys[i]? = some y,
   fun i H v H'=>∃ p x y,H p=none/\(∀ xs,H t1=some (.lst xs)->xs[i]? = some x)/\(∀ ys,H t2=some (.lst ys)->ys[i]? = some y)/\v=.ref p/\H'=upd H p (.tup [x,y]),
   fun i H=>∃ xs ys,H t1=some (.lst xs)/\H t2=some (.lst ys)/\(xs.length<=i∨ys.length<=i)⟩
theorem Qhf {P:Program} {w:World} {K:PySem.W.Frag} {elts:List Expr} {x1} {tpos:Pos} {z TI TO i1 i2 t1 t2:Addr} (D:ZipApart z TI TO i1 i2 t1 t2) :
    Turn P w K (.Tuple elts x1 tpos) (ItzL t1 t2) [z,TI,TO,i1,i2] z (fun i h=>ZipLAt h z TI TO i1 i2 t1 t2 .none i) where
  mem:=by simp
  obj:=fun i h st b hb=>by
    obtain ⟨a1,a2,⟨_,_,a3⟩,⟨o4,a4,_,d4⟩,⟨o5,a5,_,d5⟩⟩:=st
    simp only [List.mem_cons,List.not_mem_nil,or_false] at hb
    rcases hb with rfl | rfl | rfl | rfl | rfl
    · exact ⟨_,a1,fun v q=>nomatch q⟩
    · exact ⟨_,a2,fun v q=>nomatch q⟩
    · exact ⟨_,a3,fun v q=>nomatch q⟩
    · exact ⟨_,a4,fun v q=>by rw [d4] at q;cases q⟩
    · exact ⟨_,a5,fun v q=>by rw [d5] at q;cases q⟩
  keep:=fun i h h' st k=>by
    obtain ⟨a1,a2,⟨a,b,a3⟩,a4,a5⟩:=st
    exact ⟨k z (by simp) _ a1,k TI (by simp) _ a2,⟨a,b,k TO (by simp) _ a3⟩,a4.at fun o e=>k i1 (by simp) o e,a5.at fun o e=>k i2 (by simp) o e⟩
  item:=by
    intro X hP hw hK hc i pins s σ H E I hf st hg
    subst hP hw hK
    obtain ⟨xs,ys,x,y,h1,h2,hx,hy⟩:=hg
    obtain ⟨its1,r1,p1,_⟩:=I.list (SqL.of h1)
    obtain ⟨its2,r2,p2,_⟩:=I.list (SqL.of h2)
    obtain ⟨u1,hu1,ru1⟩:=r1.get hx
    obtain ⟨u2,hu2,ru2⟩:=r2.get hy
    refine Qhc D st (QaT p1) (QaT p2) (by simpa using hu1) (by simpa using hu2) fun h' st' tp kp=>?_
    have hlt:∀ b∈[z,TI,TO,i1,i2],b≠s.heap.objs.size:=fun b hb=>by
      obtain ⟨a1,a2,⟨_,_,a3⟩,⟨o4,a4,_,d4⟩,⟨o5,a5,_,d5⟩⟩:=st
      simp only [List.mem_cons,List.not_mem_nil,or_false] at hb
      rcases hb with rfl | rfl | rfl | rfl | rfl
      · exact Nat.ne_of_lt (Heap.lt_size a1)
      · exact Nat.ne_of_lt (Heap.lt_size a2)
      · exact Nat.ne_of_lt (Heap.lt_size a3)
      · exact Nat.ne_of_lt (Heap.lt_size a4)
      · exact Nat.ne_of_lt (Heap.lt_size a5)
    have fr:H s.heap.objs.size=none:=I.hok.fresh (Nat.le_refl _)
    refine ⟨_,rfl,wpAny_letOwnedTupleGo_zip st'.zp fun h2' z2 s2=>?_⟩
    have I1:Inv X pins σ (upd H s.heap.objs.size (.tup [x,y])) { s with heap:=h2',toks:=s.toks }:=by
      refine I.turnedNew (ch:=[z,TI,TO,i1,i2]) hf (fun b u hb e=>?_) (Nat.le_refl _) ⟨by show 2<=sizeLine;decide,[u1,u2],.cons ru1 (.cons ru2 .nil),?_⟩
      · simp only [List.mem_cons,List.not_mem_nil,or_false,not_or] at hb
        exact s2.extBut _ _ hb.1 (kp b u hb.1 hb.2.2.1 hb.2.2.2.1 hb.2.2.2.2 e)
      · exact ⟨_,s2.extBut _ _ (hlt z (by simp)).symm tp,rfl,0,rfl⟩
    refine ⟨.ref s.heap.objs.size,_,I1,rfl,⟨_,x,y,fr,fun xs' e=>?_,fun ys' e=>?_,rfl,rfl⟩,?_,fun b hb=>?_⟩
    · rw [h1] at e;cases e;exact hx
    · rw [h2] at e;cases e;exact hy
    · obtain ⟨a1,a2,⟨a,b,a3⟩,a4,a5⟩:=st'
      exact ⟨z2,s2.extBut _ _ D.TIz a2,⟨a,b,s2.extBut _ _ D.TOz a3⟩,a4.extBut s2.extBut D.i1z,a5.extBut s2.extBut D.i2z⟩
    · rw [Qal (hlt b hb)];exact (hf b hb).1
  done:=by
    intro X hP hw hK hc i pins s σ H E I hf st hg
    subst hP hw hK
    obtain ⟨xs,ys,h1,h2,he⟩:=hg
    obtain ⟨its1,r1,p1,_⟩:=I.list (SqL.of h1)
    obtain ⟨its2,r2,p2,_⟩:=I.list (SqL.of h2)
    have l1:=r1.length
    have l2:=r2.length
    refine Qjq (I.ok.hd hc) D st (QaT p1) (QaT p2) ?_ fun h' kp=>⟨rfl,I.turnedAll (t':=s.toks) (ch:=[z,TI,TO,i1,i2]) hf fun b u hb e=>?_⟩
    · rcases he with q | q
      · exact .inl (by simp;omega)
      · exact .inr (by simp;omega)
    · simp only [List.mem_cons,List.not_mem_nil,or_false,not_or] at hb
      exact kp b u hb.1 hb.2.2.1 hb.2.2.2.1 hb.2.2.2.2 e
  self:=fun _ _ _ _ _ st h=>wpAny_pyIter_zip st.zp h
section
variable {X:Cx}
theorem Qha (n t1 t2:Nat) (h1:t1<n) (h2:t2<n):ZipApart (n+4) (n+2) (n+3) n (n+1) t1 t2 where
  TIz:=by show ¬ (n+2=n+4);omega
  TOz:=by show ¬ (n+3=n+4);omega
  i1z:=by show ¬ (n=n+4);omega
  i2z:=by show ¬ (n+1=n+4);omega
  TITO:=by show ¬ (n+2=n+3);omega
  TIi1:=by show ¬ (n+2=n);omega
  TIi2:=by show ¬ (n+2=n+1);omega
  TOi1:=by show ¬ (n+3=n);omega
  TOi2:=by show ¬ (n+3=n+1);omega
  i12:=by show ¬ (n=n+1);omega
  l1z:=by show ¬ (t1=n+4);omega
  l1TO:=by show ¬ (t1=n+3);omega
  l1i1:=by show ¬ (t1=n);omega
  l1i2:=by show ¬ (t1=n+1);omega
  l2z:=by show ¬ (t2=n+4);omega
  l2TO:=by show ¬ (t2=n+3);omega
  l2i1:=by show ¬ (t2=n);omega
  l2i2:=by show ¬ (t2=n+1);omega
def iZipL (ta:TA):TI:=fun σ H R=>ta σ H fun vs H1=>∃ t1 t2 xs ys,vs=[.ref t1,.ref t2]/\H1 t1=some (.lst xs)/\H1 t2=some (.lst ys)/\R (ItzL t1 t2) H1
theorem Qja:bootBuiltins "zip" = some (.type "zip"):=by decide +kernel
theorem Ql9 {a b:Expr} {elts:List Expr} {x1} {tpos:Pos} {ta:TA} {p pos:Pos} (hg:Gl X "zip") (hm:X.mg "zip" = none) (ha:PA X [a,b] ta) (hs:starEach [a,b] X.env=[(false,eval a X.env),(false,eval b X.env)]:=by rfl) (hs2:starEach [b] X.env=[(false,eval b X.env)]:=by rfl) :
    PI X (.Tuple elts x1 tpos) (.Call (.Name "zip" p) [a,b] [] pos) (iZipL ta):=by
  intro pins s σ H R I h
  refine Call_ (Qcd I hg hm Qja (PyProof.Rows.callWith_type1 (thn (ha pos pins s σ H _ I h) fun us s1 ⟨vs,H1,I1,r1,q1⟩=>?_) (by rw [hs,hs2]) (by rw [hs2];rfl)))
  obtain ⟨t1,t2,xs,ys,e,h1,h2,q⟩:=q1
  subst e
  obtain ⟨u,v,rfl,ru,rv⟩:=Qff r1
  cases (show u=Value.ref t1 from ru)
  cases (show v=Value.ref t2 from rv)
  obtain ⟨its1,w1,p1,_⟩:=I1.list (SqL.of h1)
  obtain ⟨its2,w2,p2,_⟩:=I1.list (SqL.of h2)
  have n1:t1<s1.heap.objs.size:=I1.hok.lt h1
  have n2:t2<s1.heap.objs.size:=I1.hok.lt h2
  refine Qhd (QaT p1) (QaT p2) fun h' st kp=>?_
  refine wpAny_pyIter_zip (s:={ s1 with heap:=h' }) st.zp ?_
  have D:=Qha s1.heap.objs.size t1 t2 n1 n2
  refine ⟨s1.heap.objs.size+4,_,_,_,H1,rfl,I1.kept (t':=s1.toks) kp,Qhf D,st,fun b hb=>?_,q⟩
  have hb':s1.heap.objs.size<=b:=by
    simp only [List.mem_cons,List.not_mem_nil,or_false] at hb
    rcases hb with rfl | rfl | rfl | rfl | rfl<;>omega
  exact I1.fpOk hb' (I1.hok.fresh hb')
end
def rLenK (K:PySem.W.Frag):List V->Hp->VK->Prop:=fun xs H Q=>∃ p ys,xs=[.ref p]/\(SqL K H p ys∨SqT K H p ys)/\Q (.int ys.length) H
theorem Qi8:bootBuiltins "sorted" = some (.builtin "sorted"):=by decide +kernel
def CMulB (i j:Int):Prop:=∃ k:Nat,k<=1000000/\i.natAbs<2^k/\j.natAbs<2^k
theorem Qjg {i:Int} {k:Nat} (h:i.natAbs<2^k):Builtin.Int.intBits i<=k:=by
  unfold Builtin.Int.intBits
  split
  · exact Nat.zero_le _
  · rename_i z
    have hz:i.natAbs≠0:=by
      intro q
      apply z
      have:i=0:=by omega
      subst this
      rfl
    have:=(Nat.log2_lt hz).mpr h
    omega
theorem CMulB.ok {i j:Int} (h:CMulB i j):IntMulOk i j:=by
  obtain ⟨k,hk,h1,h2⟩:=h
  have a:=Qjg h1
  have b:=Qjg h2
  unfold IntMulOk
  have c:Builtin.Int.intTooBig (Builtin.Int.intBits i+Builtin.Int.intBits j:Nat)=false:=by
    unfold Builtin.Int.intTooBig
    rw [decide_eq_false]
    have:bitsLine=134217728:=by decide +kernel
    rw [this]
    omega
  intro z
  rw [Bool.and_eq_true] at z
  have z2:=z.2
  have e:((Builtin.Int.intBits i+Builtin.Int.intBits j:Nat):Int)=(Builtin.Int.intBits i:Int)+(Builtin.Int.intBits j:Int):=by omega
  rw [e] at c
  rw [c] at z2
  cases z2
section
variable {X:Cx}
theorem QmC:OpR X (binaryOp .Mult) (rI CMulB fun i j=>.int (i*j)):=opI fun _ _ _ _ _ _ _ hc q=>mul_int q hc.ok
theorem QkE:PGet X (rIxL X.K):=by
  intro pins s σ H o i ov iv Q I ro ri h
  obtain ⟨p,xs,k,z,rfl,rfl,hq,he,q⟩:=h
  cases ro
  obtain ⟨t,rfl⟩:=ri
  obtain ⟨its,r,pl,hz⟩:=I.list hq
  obtain ⟨j,h1,h2,h3,h4,h5⟩:=QfP he
  obtain ⟨w,ew,rw'⟩:=r.get h2
  have hl:=r.length
  have hn:=QdC
  have fin:EP X pins σ Q w s:=⟨z,H,I,rw',q⟩
  by_cases h0:0<=k
  · have hj:k.toNat=j:=by
      rw [seqIndex_of h0 h5] at h1
      exact Option.some.inj h1
    exact wpAny_getItem_list pl.isList h0 (by omega) (by rw [hj];simpa using ew) fin
  · have hj:(k+(its.toArray.size:Int)).toNat=j:=by
      rw [seqIndex_neg (by omega) h4] at h1
      rw [List.size_toArray,<- hl]
      exact Option.some.inj h1
    exact wpAny_getItem_list_neg pl.isList (by omega) (by rw [List.size_toArray]<;>omega) (by omega) (by rw [hj];simpa using ew) fin
def iOr (a b:TI):TI:=fun σ H R=>a σ H R∨b σ H R
theorem pi_or {tg e:Expr} {a b:TI} (h1:PI X tg e a) (h2:PI X tg e b):PI X tg e (iOr a b):=by
  intro pins s σ H R I h
  rcases h with h | h
  · exact h1 pins s σ H R I h
  · exact h2 pins s σ H R I h
end
end L2
namespace Rk
open PySem PySem.Spec PyProof.Rows L2 _root_.Rd
def rEqU (u:Nat):R2:=fun x y H Q=>∃ dx dy,Dat H x dx/\Dat H y dy/\u+min dx.depth dy.depth<cLine/\Q (.bl (PyData.eqv dx dy)) H
theorem op_eqU {X:Cx}:OpR X (compareOp .Eq) (rEqU X.A.units):=Qih
theorem Qid {X:Cx}:OpR X (compareOp .NotIn) (rInU X.A.in1.units true):=Qie
def QcL:Nat->PyData->Bool
  | _,.none=>true
  | _,.bool _=>true
  | _,.int _=>true
  | _,.str _=>true
  | n+1,.tuple ds=>decide (ds.length<=1000)&&ds.all (QcL n)
  | n+1,.list ds=>decide (ds.length<=1000)&&ds.all (QcL n)
  | _,_=>false
def Qfl:Nat->Sp
  | 0=>fun _ _ _ _=>False
  | n+1=>fun vs H Q _=>∃ x y d,vs=[x,y]/\Dat H x d/\Dat H y d/\QcL n d=true/\∀ H',Same H H'->Q (.bl true) H'
end Rk
namespace Rx
open PySem PySem.Spec PySem.Calls PyProof.Rows L2
end Rx
namespace Rk
open PySem PySem.Spec PyProof.Rows L2 _root_.Rd
theorem Qm5 {n k:Nat} (h:k<n):ixN n (k:Nat)=some k:=by
  unfold ixN
  rw [if_pos (by omega),if_pos (by omega)]
  simp
end Rk
namespace HT
open PySem PyProof.Rows
section
open PySem.SeqAt
open PySem.AutoSeq1 (wpAny_loadPart')
open PySem.MeetsSeq PySem.MeetsSeq2 PySem.MeetsSeq3
end
section
variable {prog:Program} {w:World} {A:Around} {E:Value->Shared->Prop} {s:Shared}
end
end HT
namespace L2
open PySem PySem.Spec PyProof.Rows
def rSlLW (K:PySem.W.Frag):V->Option Int->Option Int->Hp->VK->Prop:=fun x lo hi H Q=>∃ a xs,x=.ref a/\SqL K H a xs/\∀ p H',Same H H'->H p=none->H' p=some (.lst (cutV xs lo hi))->Q (.ref p) H'
theorem Qjy {X:Cx}:SlR X (rSlLW X.K):=by
  intro pins s σ H x v vl vu lo hi sl Q I rx hs pl pu h
  obtain ⟨a,xs,e,hx,q⟩:=h
  exact QlL pins s σ H x v vl vu lo hi sl Q I rx hs pl pu ⟨a,xs,e,hx,fun p hp=>q p _ (Qad hp) hp Qaf⟩
theorem cut_last (xs:List V):(cutV xs (some (-1)) none).length<=1:=by
  unfold cutV
  rw [List.length_take,List.length_drop]
  have h2:xs.length - 1<=HT.sIx xs.length 0 (some (-1)):=by
    show xs.length - 1<=(if (-1:Int)<0 then ((-1:Int)+(xs.length:Int)).toNat else min (-1:Int).toNat xs.length)
    rw [if_pos (by decide)]
    omega
  omega
end L2
namespace Rk
open PySem PySem.Spec PyProof.Rows L2 _root_.Rd
end Rk
namespace L2
open PySem PySem.Spec PyProof.Rows
section
variable {X:Cx}
def QhE (K:PySem.W.Frag):List V->Hp->VK->Prop:=fun xs H Q=>∃ p ys,xs=[.ref p]/\((SqL K H p ys/\∀ l H',Same H H'->H l=none->H' l=some (.tup ys)->Q (.ref l) H')∨(SqT K H p ys/\Q (.ref p) H))
theorem QbQ:CallR X (.type "tuple") (QhE X.K):=by
  intro pins s σ H xs us Q I r h
  obtain ⟨p,ys,e,h⟩:=h
  refine Qek pins s σ H xs us Q I r ⟨p,ys,e,?_⟩
  rcases h with ⟨h1,h2⟩ | h
  · exact .inl ⟨h1,fun l hl=>h2 l _ (Qad hl) hl Qaf⟩
  · exact .inr h
def QhG (K:PySem.W.Frag):List V->Hp->VK->Prop:=fun xs H Q=>∃ p ys,xs=[.ref p]/\(SqL K H p ys∨SqT K H p ys)/\∀ l H',Same H H'->H l=none->H' l=some (.lst ys)->Q (.ref l) H'
theorem Qel:CallR X (.type "list") (QhG X.K):=by
  intro pins s σ H xs us Q I r h
  obtain ⟨p,ys,e,h1,h2⟩:=h
  exact Qe1 pins s σ H xs us Q I r ⟨p,ys,e,h1,fun l hl=>h2 l _ (Qad hl) hl Qaf⟩
end
end L2
namespace Rk
open PySem PySem.Spec PyProof.Rows L2 _root_.Rd
end Rk
namespace L2
open PySem PySem.Spec PyProof.Rows
section
variable {X:Cx}
end
section
variable {X:Cx}
end
end L2
namespace Rk
open PySem PySem.Spec PyProof.Rows L2 _root_.Rd
end Rk
namespace Rx
open PySem PySem.Spec PySem.Calls PyProof.Rows L2
abbrev TSX:=L2.Ends->L2.St->Hp->(Addr->Hp->Prop)->Prop
def PSX (X:Cx) (st:Stmt) (t:TSX):Prop:=∀ (pins:List (Addr×Obj)) (s:Shared) (σ:L2.St) (H:Hp) (D:L2.Ends) (Ex:Addr->Hp->Prop),Inv X pins σ H s->t D σ H Ex ->
  wpAny (model X.prog X.w) X.A (exec st X.env) (SP X pins D) (XP X pins fun σ1 C H1=>σ1=σ/\Ex C H1) s
def PSXs (X:Cx) (sts:List Stmt) (t:TSX):Prop:=∀ (pins:List (Addr×Obj)) (s:Shared) (σ:L2.St) (H:Hp) (D:L2.Ends) (Ex:Addr->Hp->Prop),Inv X pins σ H s->t D σ H Ex ->
  wpAny (model X.prog X.w) X.A (execs sts X.env) (SP X pins D) (XP X pins fun σ1 C H1=>σ1=σ/\Ex C H1) s
section
variable {X:Cx} {e:Expr} {st:Stmt} {pos:Pos} {te:TX} {t u:TSX} {tc:TT} {c:Expr} {a b:List Stmt}
theorem psxs_one (h1:PSX X st t):PSXs X [st] t:=by
  intro pins s σ H D Ex I h
  refine wpAny_execs_cons (thn (h1 pins s σ H D Ex I h) fun f s1 q=>?_)
  cases f with
  | next=>exact wpAny_execs_nil q
  | ret v=>exact q
  | brk=>exact q
  | cont=>exact q
end
def tTryS (K:PySem.W.Frag) (R:Addr) (i:Nat) (tb:TSX) (th:TE):TS:=fun D σ H=>tb D σ H fun C H1=>ByC K C R/\∀ a,H1 a=none->th (σ.set i (some (.ref a))) (upd H1 a (exO a C)) D.rt
section
variable {X:Cx} {R:Addr} {i:Nat} {n r:Str} {body:List Stmt} {hx:Expr} {tb:TSX} {th:TE} {np hp hpos pos:Pos}
theorem ps_tryS (hstk:X.stack=X.env::X.outer) (hfr:X.env.frame=some X.env.locals) (hc:PSXs X body tb) (hN:X.N.Nodup) (hi:X.N[i]? = some n) (hl:X.env.scope.names.lookup n=some .local)
    (hg:Gl X r) (hm:X.mg r=some (.ref R)) (hh:∀ e,PE (mkd X e) hx th) (hd:(r == ("__debug__" : Str))=false:=by decide) :
    PS X (.Try body [.ExceptHandler (some (.Name r np)) (some n) [.Return (some hx) hp] hpos] [] [] pos) (tTryS X.K R i tb th):=by
  intro pins s σ H D I h
  refine wpAny_Try_except (wpAny_mono (hc pins s σ H D _ I h) (fun f s1 q=>?_) fun e s1 z=>?_)
  · cases f with
    | next=>exact wpAny_execs_nil q
    | ret v=>exact q
    | brk=>exact q
    | cont=>exact q
  obtain ⟨σ1,C,H1,a,t,B,rfl,fl,fH,f0,fp,land,eσ,bc,q⟩:=z
  subst eσ
  rw [hstk] at fl
  have fr:X.A.frames=some (X.env::X.outer):=by rw [<- hstk];exact I.ok.frames
  refine wpAny_looks_onW fr hfr fl fun h4 held4 up4=>?_
  refine wpAny_landsW held4 fun h5 fl5 up5=>?_
  have I5:L2.Inv X pins σ1 H1 { s1 with heap:=h5 }:=land h5 s1.toks fl5.1 (up4.trans up5)
  have x5:ExAt a C h5:=by
    obtain ⟨oe,vs,e1,e2,e3,_⟩:=fl5.first
    exact ⟨oe,vs,e1,e2,e3⟩
  refine wpAny_handleBy_cons (codeAny_handlers_test (Qct (X:=mkd X (.ref a)) (QiG I5 _) hg hm ?_ hd)) (by intro q;cases q)
  refine QgV (s:={ s1 with heap:=h5 }) I5.kIn x5 bc ?_
  refine codeAny_handlers_suite_as ?_
  refine lands_againW fl5 fun h6 fl6 up6=>?_
  have I6:L2.Inv X pins σ1 H1 { s1 with heap:=h6 }:=land h6 s1.toks fl6.1 ((up4.trans up5).trans up6)
  have x6:ExAt a C h6:=by
    obtain ⟨oe,vs,e1,e2,e3,_⟩:=fl6.first
    exact ⟨oe,vs,e1,e2,e3⟩
  have I7:=QiF I6 fH f0 fp x6
  refine QdP I7 hN hi (Or.inl hl) (show RelV (.ref a) (.ref a) from rfl) (fun s8 I8=>?_) (.inr hl)
  refine wpAny_execs_cons (wpAny_Return_some (wpAny_mono (hh (.ref a) pins s8 _ _ _ (QiG I8 _) (q a fH)) (fun v s9 ⟨x,H9,I9,r9,q9⟩=>?_) fun _ _ z=>z.elim))
  have J9:L2.Inv X pins _ H9 s9:=Qky I.ok I9
  obtain ⟨m,hn,hmm⟩:=id J9.loc
  refine wpAny_nameGoes_keeps hl hn (by rw [I.ok.kind];rfl) fun h' v' hn' hs'=>?_
  exact ⟨x,_,H9,Qkz J9 hN hi hmm hn' hs',r9,q9⟩
end
end Rx
namespace L2
open PySem PySem.Spec PyProof.Rows
theorem FnOk.or {P:Program} {w:World} {K:PySem.W.Frag} {mg:Str->Option Value} {base:Heap} {CX:CXT} {k:Nat} {f:Addr} {fd:FuncData} {ps:List Str} {sp sp':Sp} (F:FnOk P w K mg base CX k f fd ps sp) (G:FnOk P w K mg base CX k f fd ps sp') :
    FnOk P w K mg base CX k f fd ps (fun vs H Q E=>sp vs H Q E∨sp' vs H Q E):=
  ⟨fun vs H Q E q=>q.elim (F.len vs H Q E) (G.len vs H Q E),fun A outer s H args us vs Q E hr he hb hv hs=>hs.elim (fun z=>F.run A outer s H args us vs Q E hr he hb hv z) fun z=>G.run A outer s H args us vs Q E hr he hb hv z⟩
theorem FnOk.ex {P:Program} {w:World} {K:PySem.W.Frag} {mg:Str->Option Value} {base:Heap} {CX:CXT} {k:Nat} {f:Addr} {fd:FuncData} {ps:List Str} {sp:Sp} (F:FnOk P w K mg base CX0 k f fd ps sp) :
    FnOk P w K mg base CX k f fd ps sp:=
  ⟨F.len,fun A outer s H args us vs Q E hr he hb hv hs=>codeAny_mono (F.run A outer s H args us vs Q E hr he hb hv hs) fun r s' z=>by
    cases r with
    | error e=>exact False.elim z
    | ok fl=>cases fl<;>exact z⟩
section
variable {X:Cx}
end
end L2
namespace Rk
open PySem PySem.Spec PyProof.Rows L2 _root_.Rd
def isLV (H:Hp):V->Bool
  | .ref a=>match H a with
    | some (.lst _)=>true
    | _=>false
  | _=>false
theorem QfD (H:Hp) (a:Addr):isLV H (.ref a)=(match H a with | some (.lst _)=>true | _=>false):=rfl
def NotNum (p:Addr) (H:Hp) (x:V):Prop:=isLV H x=false∨∃ l xs,x=.ref l/\H l=some (.lst xs)/\xs.length<=20/\(¬ (2<=xs.length/\xs.length<=13)∨(∀ y∈xs,Kn p H y)/\xs.all isI=false)
theorem NotNum.keep {p:Addr} {H H':Hp} {x:V} (k:Kn p H x) (s:Same H H') (h:NotNum p H x):NotNum p H' x:=by
  rcases h with z | ⟨l,xs,rfl,e,hl,z⟩
  · refine .inl ?_
    cases x with
    | ref a=>
      obtain ⟨_,⟨xs,e⟩ | ⟨xs,e⟩ | ⟨xs,e⟩⟩:=k
      · rw [QfD,s _ _ e]
      · rw [QfD,e] at z;cases z
      · rw [QfD,s _ _ e]
    | _=>exact z
  · refine .inr ⟨l,xs,rfl,s _ _ e,hl,?_⟩
    rcases z with z | ⟨z1,z2⟩
    · exact .inl z
    · exact .inr ⟨fun y hy=>(z1 y hy).keep (KX.of s),z2⟩
end Rk
namespace Dl
open PySem PySem.Spec PyProof.Rows L2 _root_.Rd Rk
mutual
inductive DA (A:Addr->Prop) (H:Hp):V->PyData->Prop
  | non:DA A H .non .none
  | bl (b:Bool):DA A H (.bl b) (.bool b)
  | int (i:Int):DA A H (.int i) (.int i)
  | str (x:Str):PyData.canLay0 (.str x)=true->DA A H (.str x) (.str x)
  | tup {a:Addr} {xs:List V} {ds:List PyData}:¬ A a->H a=some (.tup xs)->DAs A H xs ds->DA A H (.ref a) (.tuple ds)
  | lst {a:Addr} {xs:List V} {ds:List PyData}:¬ A a->H a=some (.lst xs)->DAs A H xs ds->DA A H (.ref a) (.list ds)
  | dct {a:Addr}:¬ A a->H a=some (.dK [])->DA A H (.ref a) (.dict [])
inductive DAs (A:Addr->Prop) (H:Hp):List V->List PyData->Prop
  | nil:DAs A H [] []
  | cons {x:V} {xs:List V} {d:PyData} {ds:List PyData}:DA A H x d->DAs A H xs ds->DAs A H (x::xs) (d::ds)
end
mutual
theorem da_mv {A A':Addr->Prop} {H H':Hp} (k:∀ a o,¬ A a->H a=some o->H' a=some o) (m:∀ a,A' a->A a∨H a=none):∀ (d:PyData) (x:V),DA A H x d->DA A' H' x d
  | .none,_,.non=>.non
  | .bool _,_,.bl _=>.bl _
  | .int _,_,.int _=>.int _
  | .str _,_,.str _ c=>.str _ c
  | .tuple ds,_,.tup (xs:=xs) n e q=>.tup (fun z=>(m _ z).elim n fun z=>by rw [z] at e;cases e) (k _ _ n e) (Qgx k m ds xs q)
  | .list ds,_,.lst (xs:=xs) n e q=>.lst (fun z=>(m _ z).elim n fun z=>by rw [z] at e;cases e) (k _ _ n e) (Qgx k m ds xs q)
  | .dict _,_,.dct n e=>.dct (fun z=>(m _ z).elim n fun z=>by rw [z] at e;cases e) (k _ _ n e)
theorem Qgx {A A':Addr->Prop} {H H':Hp} (k:∀ a o,¬ A a->H a=some o->H' a=some o) (m:∀ a,A' a->A a∨H a=none):∀ (ds:List PyData) (xs:List V),DAs A H xs ds->DAs A' H' xs ds
  | [],_,.nil=>.nil
  | d::ds,_,.cons (x:=x) (xs:=xs) q qs=>.cons (da_mv k m d x q) (Qgx k m ds xs qs)
end
theorem DA.mv {A A':Addr->Prop} {H H':Hp} {x:V} {d:PyData} (q:DA A H x d) (k:∀ a o,¬ A a->H a=some o->H' a=some o) (m:∀ a,A' a->A a∨H a=none):DA A' H' x d:=da_mv k m d x q
theorem DAs.mv {A A':Addr->Prop} {H H':Hp} {x:List V} {d:List PyData} (q:DAs A H x d) (k:∀ a o,¬ A a->H a=some o->H' a=some o) (m:∀ a,A' a->A a∨H a=none):DAs A' H' x d:=Qgx k m d x q
theorem DA.same {A:Addr->Prop} {H H':Hp} {x:V} {d:PyData} (q:DA A H x d) (s:Same H H'):DA A H' x d:=q.mv (fun a o _ e=>s a o e) fun a z=>.inl z
theorem DAs.same {A:Addr->Prop} {H H':Hp} {x:List V} {d:List PyData} (q:DAs A H x d) (s:Same H H'):DAs A H' x d:=q.mv (fun a o _ e=>s a o e) fun a z=>.inl z
theorem DAs.length {A:Addr->Prop} {H:Hp}:∀ {xs:List V} {ds:List PyData},DAs A H xs ds->xs.length=ds.length
  | _,_,.nil=>rfl
  | _,_,.cons _ q=>by rw [List.length_cons,List.length_cons,q.length]
theorem DAs.get {A:Addr->Prop} {H:Hp}:∀ {xs:List V} {ds:List PyData},DAs A H xs ds->∀ (i:Nat) (d:PyData),ds[i]? = some d->∃ x,xs[i]? = some x/\DA A H x d
  | _,_,.nil,i,x,e=>by simp at e
  | _,_,.cons q qs,0,x,e=>by simp at e;subst e;exact ⟨_,rfl,q⟩
  | _,_,.cons q qs,i+1,x,e=>qs.get i x (by simpa using e)
theorem DAs.getV {A:Addr->Prop} {H:Hp}:∀ {xs:List V} {ds:List PyData},DAs A H xs ds->∀ (i:Nat) (x:V),xs[i]? = some x->∃ d,ds[i]? = some d/\DA A H x d
  | _,_,.nil,i,x,e=>by simp at e
  | _,_,.cons q qs,0,x,e=>by simp at e;subst e;exact ⟨_,rfl,q⟩
  | _,_,.cons q qs,i+1,x,e=>qs.getV i x (by simpa using e)
theorem DAs.app {A:Addr->Prop} {H:Hp}:∀ {xs ys:List V} {ds es:List PyData},DAs A H xs ds->DAs A H ys es->DAs A H (xs++ys) (ds++es)
  | _,_,_,_,.nil,q=>q
  | _,_,_,_,.cons a b,q=>.cons a (b.app q)
theorem DAs.take {A:Addr->Prop} {H:Hp}:∀ {xs:List V} {ds:List PyData},DAs A H xs ds->∀ n:Nat,DAs A H (xs.take n) (ds.take n)
  | _,_,.nil,n=>by rw [List.take_nil,List.take_nil];exact .nil
  | _,_,.cons a b,0=>.nil
  | _,_,.cons a b,n+1=>.cons a (b.take n)
theorem DAs.drop {A:Addr->Prop} {H:Hp}:∀ {xs:List V} {ds:List PyData},DAs A H xs ds->∀ n:Nat,DAs A H (xs.drop n) (ds.drop n)
  | _,_,.nil,n=>by rw [List.drop_nil,List.drop_nil];exact .nil
  | _,_,.cons a b,0=>.cons a b
  | _,_,.cons a b,n+1=>b.drop n
theorem DAs.set {A:Addr->Prop} {H:Hp} {x:V} {d:PyData} (q:DA A H x d):∀ {xs:List V} {ds:List PyData},DAs A H xs ds->∀ n:Nat,DAs A H (xs.set n x) (ds.set n d)
  | _,_,.nil,n=>.nil
  | _,_,.cons a b,0=>.cons q b
  | _,_,.cons a b,n+1=>.cons a (b.set q n)
mutual
def nd:PyData->Bool
  | .dict _=>false
  | .tuple ds=>nds ds
  | .list ds=>nds ds
  | _=>true
def nds:List PyData->Bool
  | []=>true
  | d::ds=>nd d&&nds ds
end
mutual
theorem QeX {A:Addr->Prop} {H:Hp}:∀ (d:PyData) (x:V),nd d=true->DA A H x d->Dat H x d
  | .none,_,_,.non=>.non
  | .bool _,_,_,.bl _=>.bl _
  | .int _,_,_,.int _=>.int _
  | .str _,_,_,.str _ c=>.str _ c
  | .tuple ds,_,n,.tup (xs:=xs) _ e q=>.tup e (Qby ds xs n q)
  | .list ds,_,n,.lst (xs:=xs) _ e q=>.lst e (Qby ds xs n q)
theorem Qby {A:Addr->Prop} {H:Hp}:∀ (ds:List PyData) (xs:List V),nds ds=true->DAs A H xs ds->Dats H xs ds
  | [],_,_,.nil=>.nil
  | d::ds,_,n,.cons (x:=x) (xs:=xs) q qs=>by
    have n':=Bool.and_eq_true_iff.mp (show (nd d&&nds ds)=true from n)
    exact .cons (QeX d x n'.1 q) (Qby ds xs n'.2 qs)
end
theorem Qd5 {ds:List PyData}:nds ds=true↔∀ d∈ds,nd d=true:=by
  induction ds with
  | nil=>exact ⟨(fun _ _ h=>nomatch h),fun _=>rfl⟩
  | cons d ds ih=>
    rw [show nds (d::ds)=(nd d&&nds ds) from rfl,Bool.and_eq_true_iff,ih]
    constructor
    · rintro ⟨a,b⟩ e he
      rcases List.mem_cons.mp he with z | z
      · rw [z];exact a
      · exact b e z
    · intro h
      exact ⟨h d (by simp),fun e he=>h e (by simp [he])⟩
def DP (A P:Addr->Prop) (H:Hp) (v:V) (d:PyData):Prop:=DA A H v d∨∃ l xs ds,v=.ref l/\d=.list ds/\¬ P l/\H l=some (.lst xs)/\DAs A H xs ds
theorem DP.dat {A P:Addr->Prop} {H:Hp} {v:V} {d:PyData} (h:DP A P H v d) (n:nd d=true):Dat H v d:=by
  rcases h with h | ⟨l,xs,ds,rfl,rfl,_,e,q⟩
  · exact QeX d v n h
  · exact .lst e (Qby ds xs n q)
theorem DP.list {A P:Addr->Prop} {H:Hp} {v:V} {ds:List PyData} (h:DP A P H v (.list ds)):∃ l xs,v=.ref l/\H l=some (.lst xs)/\DAs A H xs ds:=by
  rcases h with h | ⟨l,xs,ds',rfl,e,_,h2,q⟩
  · cases h with | lst n e q=>exact ⟨_,_,rfl,e,q⟩
  · cases e;exact ⟨l,xs,rfl,h2,q⟩
theorem DP.tuple {A P:Addr->Prop} {H:Hp} {v:V} {ds:List PyData} (h:DP A P H v (.tuple ds)):∃ l xs,v=.ref l/\H l=some (.tup xs)/\DAs A H xs ds:=by
  rcases h with h | ⟨l,xs,ds',rfl,e,_⟩
  · cases h with | tup n e q=>exact ⟨_,_,rfl,e,q⟩
  · cases e
theorem DP.int {A P:Addr->Prop} {H:Hp} {v:V} {i:Int} (h:DP A P H v (.int i)):v=.int i:=by
  rcases h with h | ⟨l,xs,ds',rfl,e,_⟩
  · cases h;rfl
  · cases e
theorem DP.bool {A P:Addr->Prop} {H:Hp} {v:V} {i:Bool} (h:DP A P H v (.bool i)):v=.bl i:=by
  rcases h with h | ⟨l,xs,ds',rfl,e,_⟩
  · cases h;rfl
  · cases e
theorem DP.none {A P:Addr->Prop} {H:Hp} {v:V} (h:DP A P H v .none):v=.non:=by
  rcases h with h | ⟨l,xs,ds',rfl,e,_⟩
  · cases h;rfl
  · cases e
theorem DP.str {A P:Addr->Prop} {H:Hp} {v:V} {x:Str} (h:DP A P H v (.str x)):v=.str x/\PyData.canLay0 (.str x)=true:=by
  rcases h with h | ⟨l,xs,ds',rfl,e,_⟩
  · cases h with | str _ c=>exact ⟨rfl,c⟩
  · cases e
inductive Sl where
  | no | pot | scr
  | v (d:PyData)
  | own (ds:List PyData)
  | pk (ds:List PyData)
abbrev Sts:=List Sl
structure Fm where
  H0:Hp
  A0:Addr->Prop
  pt:Addr->Prop
def OwAt (σ:L2.St) (δ:Sts) (i:Nat) (a:Addr):Prop:=σ[i]? = some (some (.ref a))/\(δ[i]? = some .pot∨∃ ds,δ[i]? = some (.own ds))
def Av (F:Fm) (σ:L2.St) (δ:Sts) (a:Addr):Prop:=F.A0 a∨∃ i,OwAt σ δ i a
def PotA (σ:L2.St) (δ:Sts) (a:Addr):Prop:=∃ i:Nat,σ[i]? = some (some (.ref a))/\δ[i]? = some .pot
def SlOk (K:PySem.W.Frag) (F:Fm) (H:Hp) (A:Addr->Prop) (o:Option V):Sl->Prop
  | .no=>True
  | .v d=>∃ v,o=some v/\DA A H v d
  | .own ds=>∃ l xs,o=some (.ref l)/\H l=some (.lst xs)/\DAs A H xs ds/\F.H0 l=none
  | .pk ds=>∃ l xs,o=some (.ref l)/\H l=some (.lst xs)/\DAs A H xs ds/\∃ ys,F.H0 l=some (.lst ys)/\¬ F.pt l
  | .pot=>∃ p n,o=some (.ref p)/\H p=some (.lst [.int n])/\(F.pt p∨F.H0 p=none)
  | .scr=>∃ a ns,o=some (.ref a)/\SqL K F.H0 a ((ns:List Int).map V.int)/\¬ F.pt a/\ns.length<=63
structure Rel (K:PySem.W.Frag) (F:Fm) (σ:L2.St) (H:Hp) (δ:Sts):Prop where
  len:σ.length=δ.length
  dom:∀ a,F.A0 a->∃ xs,H a=some (.lst xs)
  dom0:∀ a,F.A0 a->∃ xs,F.H0 a=some (.lst xs)
  pt0:∀ p,F.pt p->F.A0 p/\∃ n,H p=some (.lst [.int n])
  kx:∀ b o,¬ F.pt b->F.H0 b=some o->H b=some o
  sl:∀ (i:Nat) o x,σ[i]? = some o->δ[i]? = some x->SlOk K F H (Av F σ δ) o x
  inj:∀ (i j:Nat) a ds,δ[i]? = some (.own ds)->σ[i]? = some (some (.ref a))->OwAt σ δ j a->i=j
def Kp (σ:L2.St) (δ:Sts) (H H':Hp):Prop:=(∀ b o,¬ PotA σ δ b->H b=some o->H' b=some o)/\∀ b,PotA σ δ b->∃ n,H' b=some (.lst [.int n])
def Stp (F:Fm) (σ:L2.St) (H:Hp) (δ:Sts) (σ':L2.St) (H':Hp) (δ':Sts):Prop:=(∀ b o,¬ Av F σ δ b->H b=some o->H' b=some o)/\∀ b,Av F σ' δ' b->Av F σ δ b∨H b=none
def Ke (F:Fm) (H':Hp):Prop:=(∀ b o,¬ F.pt b->F.H0 b=some o->H' b=some o)/\∀ p,F.pt p->∃ n,H' p=some (.lst [.int n])
theorem QaY {F:Fm} {σ:L2.St} {δ:Sts} {a:Addr} (h:PotA σ δ a):Av F σ δ a:=let ⟨i,h1,h2⟩:=h;.inr ⟨i,h1,.inl h2⟩
theorem Rel.ke {K:PySem.W.Frag} {F:Fm} {σ:L2.St} {H:Hp} {δ:Sts} (r:Rel K F σ H δ):Ke F H:=⟨r.kx,fun p hp=>(r.pt0 p hp).2⟩
theorem Rel.isl {K:PySem.W.Frag} {F:Fm} {σ:L2.St} {H:Hp} {δ:Sts} (r:Rel K F σ H δ) {a:Addr} (h:Av F σ δ a):∃ xs,H a=some (.lst xs):=by
  rcases h with h | ⟨i,h1,h2⟩
  · exact r.dom a h
  · rcases h2 with h2 | ⟨ds,h2⟩
    · obtain ⟨p,n,e,h,_⟩:=r.sl i _ _ h1 h2
      cases e
      exact ⟨_,h⟩
    · obtain ⟨l,xs,e,h,_⟩:=r.sl i _ _ h1 h2
      cases e
      exact ⟨_,h⟩
theorem Kp.refl {K:PySem.W.Frag} {F:Fm} {σ:L2.St} {H:Hp} {δ:Sts} (r:Rel K F σ H δ):Kp σ δ H H:=⟨fun _ _ _ e=>e,fun b ⟨i,h1,h2⟩=>by
  obtain ⟨p,n,e,h,_⟩:=r.sl i _ _ h1 h2
  cases e
  exact ⟨n,h⟩⟩
theorem Kp.trans {σ:L2.St} {δ:Sts} {H H1 H2:Hp} (a:Kp σ δ H H1) (b:Kp σ δ H1 H2):Kp σ δ H H2:=⟨fun c o n e=>b.1 c o n (a.1 c o n e),b.2⟩
theorem Kp.same {K:PySem.W.Frag} {F:Fm} {σ:L2.St} {H H':Hp} {δ:Sts} (r:Rel K F σ H δ) (s:Same H H'):Kp σ δ H H':=⟨fun b o _ e=>s b o e,fun b hb=>let ⟨n,h⟩:=(Kp.refl r).2 b hb;⟨n,s _ _ h⟩⟩
theorem Kp.da {F:Fm} {σ:L2.St} {H H':Hp} {δ:Sts} {v:V} {d:PyData} (k:Kp σ δ H H') (h:DA (Av F σ δ) H v d):DA (Av F σ δ) H' v d:=h.mv (fun a o n e=>k.1 a o (fun z=>n (QaY z)) e) fun a z=>.inl z
theorem Kp.das {F:Fm} {σ:L2.St} {H H':Hp} {δ:Sts} {v:List V} {d:List PyData} (k:Kp σ δ H H') (h:DAs (Av F σ δ) H v d):DAs (Av F σ δ) H' v d:=h.mv (fun a o n e=>k.1 a o (fun z=>n (QaY z)) e) fun a z=>.inl z
theorem Kp.dp {F:Fm} {σ:L2.St} {H H':Hp} {δ:Sts} {v:V} {d:PyData} (k:Kp σ δ H H') (h:DP (Av F σ δ) (PotA σ δ) H v d):DP (Av F σ δ) (PotA σ δ) H' v d:=by
  rcases h with h | ⟨l,xs,ds,e1,e2,n,e,q⟩
  · exact .inl (k.da h)
  · exact .inr ⟨l,xs,ds,e1,e2,n,k.1 _ _ n e,k.das q⟩
theorem Rel.own_pot {K:PySem.W.Frag} {F:Fm} {σ:L2.St} {H:Hp} {δ:Sts} (r:Rel K F σ H δ) {i:Nat} {ds:List PyData} {l:Addr} (h:δ[i]? = some (.own ds)) (e:σ[i]? = some (some (.ref l))):¬ PotA σ δ l:=by
  rintro ⟨j,h1,h2⟩
  have:=r.inj i j l _ h e ⟨h1,.inl h2⟩
  subst this
  rw [h] at h2
  cases h2
theorem Rel.pt_pot {K:PySem.W.Frag} {F:Fm} {σ:L2.St} {H H':Hp} {δ:Sts} (r:Rel K F σ H δ) (k:Kp σ δ H H') {p:Addr} (hp:F.pt p):∃ n,H' p=some (.lst [.int n]):=by
  by_cases z:PotA σ δ p
  · exact k.2 p z
  · obtain ⟨n,e⟩:=(r.pt0 p hp).2
    exact ⟨n,k.1 _ _ z e⟩
theorem Rel.kp {K:PySem.W.Frag} {F:Fm} {σ:L2.St} {H H':Hp} {δ:Sts} (r:Rel K F σ H δ) (k:Kp σ δ H H'):Rel K F σ H' δ where
  len:=r.len
  dom:=fun a ha=>by
    by_cases z:PotA σ δ a
    · exact ⟨_,(k.2 a z).choose_spec⟩
    · obtain ⟨xs,e⟩:=r.dom a ha
      exact ⟨xs,k.1 _ _ z e⟩
  dom0:=r.dom0
  pt0:=fun p hp=>⟨(r.pt0 p hp).1,r.pt_pot k hp⟩
  kx:=fun b o n e=>by
    by_cases z:PotA σ δ b
    · obtain ⟨i,h1,h2⟩:=z
      obtain ⟨p,m,e1,h,q⟩:=r.sl i _ _ h1 h2
      cases e1
      rcases q with q | q
      · exact absurd q n
      · rw [q] at e;cases e
    · exact k.1 _ _ z (r.kx b o n e)
  sl:=fun i o x h1 h2=>by
    have h:=r.sl i o x h1 h2
    cases x with
    | no=>trivial
    | v d=>obtain ⟨v,e,q⟩:=h;exact ⟨v,e,k.da q⟩
    | own ds=>obtain ⟨l,xs,rfl,e,q,f⟩:=h;exact ⟨l,xs,rfl,k.1 _ _ (r.own_pot h2 h1) e,k.das q,f⟩
    | pk ds=>
      obtain ⟨l,xs,rfl,e,q,ys,f,f2⟩:=h
      refine ⟨l,xs,rfl,k.1 _ _ ?_ e,k.das q,ys,f,f2⟩
      rintro ⟨j,j1,j2⟩
      obtain ⟨p,m,e1,_,w⟩:=r.sl j _ _ j1 j2
      cases e1
      rcases w with w | w
      · exact f2 w
      · rw [w] at f;cases f
    | pot=>
      obtain ⟨p,n,rfl,e,q⟩:=h
      obtain ⟨m,e'⟩:=k.2 p ⟨i,h1,h2⟩
      exact ⟨p,m,rfl,e',q⟩
    | scr=>exact h
  inj:=r.inj
theorem Rel.same {K:PySem.W.Frag} {F:Fm} {σ:L2.St} {H H':Hp} {δ:Sts} (r:Rel K F σ H δ) (s:Same H H'):Rel K F σ H' δ:=r.kp (Kp.same r s)
theorem Stp.refl {F:Fm} {σ:L2.St} {H:Hp} {δ:Sts}:Stp F σ H δ σ H δ:=⟨fun _ _ _ e=>e,fun _ z=>.inl z⟩
theorem Stp.trans {F:Fm} {σ σ1 σ2:L2.St} {H H1 H2:Hp} {δ δ1 δ2:Sts} (a:Stp F σ H δ σ1 H1 δ1) (b:Stp F σ1 H1 δ1 σ2 H2 δ2):Stp F σ H δ σ2 H2 δ2:=by
  refine ⟨fun c o n e=>?_,fun c z=>?_⟩
  · refine b.1 c o (fun z=>?_) (a.1 c o n e)
    rcases a.2 c z with q | q
    · exact n q
    · rw [q] at e;cases e
  · rcases b.2 c z with q | q
    · exact a.2 c q
    · by_cases y:Av F σ δ c
      · exact .inl y
      · right
        cases e:H c with
        | none=>rfl
        | some o=>rw [a.1 c o y e] at q;cases q
theorem Stp.kp {F:Fm} {σ:L2.St} {H H':Hp} {δ:Sts} (k:Kp σ δ H H'):Stp F σ H δ σ H' δ:=⟨fun b o n e=>k.1 b o (fun z=>n (QaY z)) e,fun _ z=>.inl z⟩
theorem Stp.da {F:Fm} {σ σ':L2.St} {H H':Hp} {δ δ':Sts} {v:V} {d:PyData} (k:Stp F σ H δ σ' H' δ') (h:DA (Av F σ δ) H v d):DA (Av F σ' δ') H' v d:=h.mv k.1 k.2
theorem Stp.das {F:Fm} {σ σ':L2.St} {H H':Hp} {δ δ':Sts} {v:List V} {d:List PyData} (k:Stp F σ H δ σ' H' δ') (h:DAs (Av F σ δ) H v d):DAs (Av F σ' δ') H' v d:=h.mv k.1 k.2
abbrev XP:=Addr->Prop
abbrev DE:=Sts->(PyData->Prop)->XP->Prop
abbrev DT:=Sts->(Bool->Prop)->XP->Prop
abbrev DAr:=Sts->(List PyData->Prop)->XP->Prop
abbrev DSl:=Sts->(List Sl->Prop)->XP->Prop
inductive Md where | D | P | F
def FrV (H H':Hp) (v:V):Prop:=∀ l,v=.ref l->(∃ xs,H' l=some (.lst xs))->H l=none
def Vok (m:Md) (F:Fm) (σ:L2.St) (δ:Sts) (H H':Hp) (v:V) (d:PyData):Prop:=
  match m with
  | .D=>DA (Av F σ δ) H' v d
  | .P=>DP (Av F σ δ) (PotA σ δ) H' v d
  | .F=>DA (Av F σ δ) H' v d/\FrV H H' v
def Out (F:Fm) (E:XK) (EX:XP):Prop:=∀ C,EX C->∀ H',Ke F H'->E (.ref C) none H'
def tX (m:Md) (K:PySem.W.Frag) (E:XK) (w:DE):TE:=fun σ H Q=>∃ (F:Fm) (δ:Sts) (R:PyData->Prop) (EX:XP),Rel K F σ H δ/\w δ R EX/\(∀ d,R d->∀ v H',Rel K F σ H' δ->Kp σ δ H H'->Vok m F σ δ H H' v d->Q v H')/\Out F E EX
def tT (K:PySem.W.Frag) (E:XK) (w:DT):TT:=fun σ H Q=>∃ (F:Fm) (δ:Sts) (R:Bool->Prop) (EX:XP),Rel K F σ H δ/\w δ R EX/\(∀ b,R b->∀ H',Rel K F σ H' δ->Kp σ δ H H'->Q b H')/\Out F E EX
def VD (m:Md) (A P:Addr->Prop) (H:Hp) (v:V) (d:PyData):Prop:=
  match m with
  | .P=>DP A P H v d
  | _=>DA A H v d
def tAr (n:Nat) (m:Md) (K:PySem.W.Frag) (E:XK) (w:DAr):TA:=fun σ H Q=>∃ (F:Fm) (δ:Sts) (R:List PyData->Prop) (EX:XP),Rel K F σ H δ/\w δ R EX/\(∀ ds,R ds->ds.length=n->∀ vs H',Rel K F σ H' δ->Kp σ δ H H'->Paired (VD m (Av F σ δ) (PotA σ δ) H') vs ds->Q vs H')/\Out F E EX
def Qe9 (A pt:Addr->Prop) (H:Hp) (v:V):Sl->Prop
  | .v d=>DA A H v d
  | .pot=>∃ p,v=.ref p/\pt p
  | _=>False
def tAs (K:PySem.W.Frag) (E:XK) (w:DSl):TA:=fun σ H Q=>∃ (F:Fm) (δ:Sts) (R:List Sl->Prop) (EX:XP),Rel K F σ H δ/\w δ R EX/\(∀ ds,R ds->∀ vs H',Rel K F σ H' δ->Kp σ δ H H'->Paired (Qe9 (Av F σ δ) (PotA σ δ) H') vs ds->Q vs H')/\Out F E EX
theorem Kp.vd {m:Md} {F:Fm} {σ:L2.St} {H H':Hp} {δ:Sts} {v:V} {d:PyData} (k:Kp σ δ H H') (h:VD m (Av F σ δ) (PotA σ δ) H v d):VD m (Av F σ δ) (PotA σ δ) H' v d:=by
  cases m
  · exact k.da h
  · exact k.dp h
  · exact k.da h
theorem Kp.arg {F:Fm} {σ:L2.St} {H H':Hp} {δ:Sts} {v:V} {d:Sl} (k:Kp σ δ H H') (h:Qe9 (Av F σ δ) (PotA σ δ) H v d):Qe9 (Av F σ δ) (PotA σ δ) H' v d:=by
  cases d with
  | v d=>exact k.da h
  | pot=>exact h
  | _=>exact h.elim
def QbN (H:Hp):Prop:=∀ a xs,H a=some (.lst xs)∨H a=some (.tup xs)->xs.length<=sizeLine
section
variable {X:Cx} {E:XK}
theorem Inv.lens {pins:List (Addr×Obj)} {σ:L2.St} {H:Hp} {s:Shared} (I:Inv X pins σ H s):QbN H:=fun a xs h=>by
  rcases h with h | h
  · exact (I.hok a _ h).1
  · exact (I.hok a _ h).1
theorem PE.imp {e:Expr} {t t':TE} (h:PE X e t) (i:∀ σ H Q,t' σ H Q->t σ H Q):PE X e t':=fun pins s σ H Q I q=>h pins s σ H Q I (i σ H Q q)
theorem PT.imp {e:Expr} {t t':TT} (h:PT X e t) (i:∀ σ H Q,t' σ H Q->t σ H Q):PT X e t':=fun pins s σ H Q I q=>h pins s σ H Q I (i σ H Q q)
theorem PW.imp {e:Expr} {t t':TT} (h:PW X e t) (i:∀ σ H Q,t' σ H Q->t σ H Q):PW X e t':=fun wh pins s σ H Q I q=>h wh pins s σ H Q I (i σ H Q q)
theorem PA.imp {e:List Expr} {t t':TA} (h:PA X e t) (i:∀ σ H Q,t' σ H Q->t σ H Q):PA X e t':=fun pos pins s σ H Q I q=>h pos pins s σ H Q I (i σ H Q q)
theorem OpR.len {f:Value->Value->Sem Value} {r:R2} (h:OpR X f r):OpR X f (fun x y H Q=>QbN H->r x y H Q):=fun pins s σ H x y v u Q I rx ry q=>h pins s σ H x y v u Q I rx ry (q (Inv.lens I))
theorem CallR.len {f:Value} {r:List V->Hp->VK->Prop} (h:CallR X f r):CallR X f (fun xs H Q=>QbN H->r xs H Q):=fun pins s σ H xs us Q I rx q=>h pins s σ H xs us Q I rx (q (Inv.lens I))
theorem UnR.len {f:Value->Sem Value} {r:V->Hp->VK->Prop} (h:UnR X f r):UnR X f (fun x H Q=>QbN H->r x H Q):=fun pins s σ H x v Q I rx q=>h pins s σ H x v Q I rx (q (Inv.lens I))
theorem IxR.len {r:R2} (h:IxR X r):IxR X (fun x y H Q=>QbN H->r x y H Q):=fun a b pins s σ H x y v u Q I rx ry q hs=>h a b pins s σ H x y v u Q I rx ry (q (Inv.lens I)) hs
theorem SlR.len {r:V->Option Int->Option Int->Hp->VK->Prop} (h:SlR X r):SlR X (fun x a b H Q=>QbN H->r x a b H Q):=fun pins s σ H x v vl vu lo hi sl Q I rx hs pl pu q=>h pins s σ H x v vl vu lo hi sl Q I rx hs pl pu (q (Inv.lens I))
theorem OpR.or2 {f:Value->Value->Sem Value} {r r':R2} (h:OpR X f r) (h':OpR X f r'):OpR X f (fun x y H Q=>r x y H Q∨r' x y H Q):=OpR.or h h'
theorem CallR.or2 {f:Value} {r r':List V->Hp->VK->Prop} (h:CallR X f r) (h':CallR X f r'):CallR X f (fun x H Q=>r x H Q∨r' x H Q):=fun pins s σ H xs us Q I rx q=>q.elim (h pins s σ H xs us Q I rx) (h' pins s σ H xs us Q I rx)
theorem IxR.or2 {r r':R2} (h:IxR X r) (h':IxR X r'):IxR X (fun x y H Q=>r x y H Q∨r' x y H Q):=fun a b pins s σ H x y v u Q I rx ry q hs=>q.elim (fun q=>h a b pins s σ H x y v u Q I rx ry q hs) fun q=>h' a b pins s σ H x y v u Q I rx ry q hs
theorem SlR.or2 {r r':V->Option Int->Option Int->Hp->VK->Prop} (h:SlR X r) (h':SlR X r'):SlR X (fun x a b H Q=>r x a b H Q∨r' x a b H Q):=fun pins s σ H x v vl vu lo hi sl Q I rx hs pl pu q=>q.elim (h pins s σ H x v vl vu lo hi sl Q I rx hs pl pu) (h' pins s σ H x v vl vu lo hi sl Q I rx hs pl pu)
theorem toD {e:Expr} {w:DE} (h:PE X e (tX .F X.K E w)):PE X e (tX .D X.K E w):=PE.imp h fun σ H Q ⟨F,δ,R,EX,r,hw,k,o⟩=>⟨F,δ,R,EX,r,hw,fun d hd v H' r' kp vk=>k d hd v H' r' kp vk.1,o⟩
theorem toP {e:Expr} {w:DE} (h:PE X e (tX .D X.K E w)):PE X e (tX .P X.K E w):=PE.imp h fun σ H Q ⟨F,δ,R,EX,r,hw,k,o⟩=>⟨F,δ,R,EX,r,hw,fun d hd v H' r' kp vk=>k d hd v H' r' kp (.inl vk),o⟩
theorem toPF {e:Expr} {w:DE} (h:PE X e (tX .F X.K E w)):PE X e (tX .P X.K E w):=toP (toD h)
def dVar (i:Nat):DE:=fun δ Q _=>match δ[i]? with
  | some (.v d)=>Q d
  | _=>False
def dPk (i:Nat):DE:=fun δ Q _=>match δ[i]? with
  | some (.v d)=>Q d
  | some (.own ds)=>Q (.list ds)
  | some (.pk ds)=>Q (.list ds)
  | _=>False
def dC (d:PyData):DE:=fun _ Q _=>Q d
theorem Rel.lt {K:PySem.W.Frag} {F:Fm} {σ:L2.St} {H:Hp} {δ:Sts} (r:Rel K F σ H δ) {i:Nat} {x:Sl} (h:δ[i]? = some x):∃ o,σ[i]? = some o:=by
  have:=(List.getElem?_eq_some_iff.mp h).1
  exact ⟨σ[i]'(by rw [r.len];exact this),List.getElem?_eq_getElem _⟩
theorem pd_var {e:Expr} {i:Nat} (h:PE X e (tVar i)):PE X e (tX .D X.K E (dVar i)):=PE.imp h fun σ H Q ⟨F,δ,R,EX,r,hw,k,o⟩=>by
  unfold dVar at hw
  split at hw
  · rename_i d hd
    obtain ⟨x,hx⟩:=r.lt hd
    obtain ⟨v,rfl,q⟩:=r.sl i _ _ hx hd
    exact ⟨v,hx,k d hw v H r (Kp.refl r) q⟩
  · exact hw.elim
theorem pd_pk {e:Expr} {i:Nat} (h:PE X e (tVar i)):PE X e (tX .P X.K E (dPk i)):=PE.imp h fun σ H Q ⟨F,δ,R,EX,r,hw,k,o⟩=>by
  unfold dPk at hw
  split at hw
  · rename_i d hd
    obtain ⟨x,hx⟩:=r.lt hd
    obtain ⟨v,rfl,q⟩:=r.sl i _ _ hx hd
    exact ⟨v,hx,k d hw v H r (Kp.refl r) (.inl q)⟩
  · rename_i d hd
    obtain ⟨x,hx⟩:=r.lt hd
    obtain ⟨l,xs,rfl,e,q,_⟩:=r.sl i _ _ hx hd
    exact ⟨_,hx,k _ hw _ H r (Kp.refl r) (.inr ⟨l,xs,d,rfl,rfl,r.own_pot hd hx,e,q⟩)⟩
  · rename_i d hd
    obtain ⟨x,hx⟩:=r.lt hd
    obtain ⟨l,xs,rfl,e,q,ys,f,f2⟩:=r.sl i _ _ hx hd
    refine ⟨_,hx,k _ hw _ H r (Kp.refl r) (.inr ⟨l,xs,d,rfl,rfl,?_,e,q⟩)⟩
    rintro ⟨j,j1,j2⟩
    obtain ⟨p,m,e1,_,w⟩:=r.sl j _ _ j1 j2
    cases e1
    rcases w with w | w
    · exact f2 w
    · rw [w] at f;cases f
  · exact hw.elim
theorem pd_c {e:Expr} {v:V} {d:PyData} (h:PE X e (tC v)) (q:∀ (A:Addr->Prop) (H:Hp),DA A H v d):PE X e (tX .D X.K E (dC d)):=PE.imp h fun σ H Q ⟨F,δ,R,EX,r,hw,k,o⟩=>k d hw v H r (Kp.refl r) (q _ _)
theorem pd_int {i:Int} {j pos}:PE X (.Constant (.int i) j pos) (tX .D X.K E (dC (.int i))):=pd_c QaP fun _ _=>.int i
theorem pd_bl {b:Bool} {j pos}:PE X (.Constant (.bool b) j pos) (tX .D X.K E (dC (.bool b))):=pd_c QjV fun _ _=>.bl b
theorem pd_non {j pos}:PE X (.Constant .none j pos) (tX .D X.K E (dC .none)):=pd_c Qle fun _ _=>.non
theorem pd_str {x:Str} {j pos} (h:PyData.canLay0 (.str x)=true:=by decide +kernel):PE X (.Constant (.str x) j pos) (tX .D X.K E (dC (.str x))):=pd_c QhZ fun _ _=>.str x h
def OpD (r:R2) (rD:PyData->PyData->(PyData->Prop)->Prop):Prop:=∀ (A P:Addr->Prop) (H:Hp) (x y:V) (d1 d2:PyData) (R:PyData->Prop) (Q:VK),QbN H->(∀ a,A a->∃ xs,H a=some (.lst xs))->DP A P H x d1->DP A P H y d2->rD d1 d2 R ->
  (∀ d,R d->∀ v H',Same H H'->DA A H' v d->FrV H H' v->Q v H')->r x y H Q
def OpDn (r:R2) (rD:PyData->PyData->(PyData->Prop)->Prop):Prop:=∀ (A P:Addr->Prop) (H:Hp) (x y:V) (d1 d2:PyData) (R:PyData->Prop) (Q:VK),QbN H->(∀ a,A a->∃ xs,H a=some (.lst xs))->DP A P H x d1->DP A P H y d2->rD d1 d2 R ->
  (∀ d,R d->∀ v H',Same H H'->DA A H' v d->Q v H')->r x y H Q
def dOp (rD:PyData->PyData->(PyData->Prop)->Prop) (wa wb:DE):DE:=fun δ Q EX=>wa δ (fun d1=>wb δ (fun d2=>rD d1 d2 Q) EX) EX
theorem Qfs {K:PySem.W.Frag} {r:R2} {rD:PyData->PyData->(PyData->Prop)->Prop} {wa wb:DE} (hd:OpD r rD) (σ:L2.St) (H:Hp) (Q:VK) (h:tX .F K E (dOp rD wa wb) σ H Q) :
    tOp (fun x y H Q=>QbN H->r x y H Q) (tX .P K E wa) (tX .P K E wb) σ H Q:=by
  obtain ⟨F,δ,R,EX,rel,hw,k,o⟩:=h
  refine ⟨F,δ,_,EX,rel,hw,fun d1 h1 x H1 rel1 kp1 x1=>⟨F,δ,_,EX,rel1,h1,fun d2 h2 y H2 rel2 kp2 y2=>fun ln=>?_,o⟩,o⟩
  refine hd (Av F σ δ) (PotA σ δ) H2 x y d1 d2 R Q ln (fun a ha=>rel2.isl ha) (kp2.dp x1) y2 h2 fun d hR v H' s q f=>?_
  refine k d hR v H' (rel2.same s) ((kp1.trans kp2).trans (Kp.same rel2 s)) ⟨q,fun l e1 e2=>?_⟩
  have f2:=f l e1 e2
  cases e:H l with
  | none=>rfl
  | some ob=>
    by_cases z:PotA σ δ l
    · obtain ⟨n,en⟩:=kp2.2 l z
      rw [en] at f2;cases f2
    · rw [(kp1.trans kp2).1 _ _ z e] at f2;cases f2
theorem Qkf {K:PySem.W.Frag} {r:R2} {rD:PyData->PyData->(PyData->Prop)->Prop} {wa wb:DE} (hd:OpDn r rD) (σ:L2.St) (H:Hp) (Q:VK) (h:tX .D K E (dOp rD wa wb) σ H Q) :
    tOp (fun x y H Q=>QbN H->r x y H Q) (tX .P K E wa) (tX .P K E wb) σ H Q:=by
  obtain ⟨F,δ,R,EX,rel,hw,k,o⟩:=h
  refine ⟨F,δ,_,EX,rel,hw,fun d1 h1 x H1 rel1 kp1 x1=>⟨F,δ,_,EX,rel1,h1,fun d2 h2 y H2 rel2 kp2 y2=>fun ln=>?_,o⟩,o⟩
  refine hd (Av F σ δ) (PotA σ δ) H2 x y d1 d2 R Q ln (fun a ha=>rel2.isl ha) (kp2.dp x1) y2 h2 fun d hR v H' s q=>?_
  exact k d hR v H' (rel2.same s) ((kp1.trans kp2).trans (Kp.same rel2 s)) q
variable {a b:Expr} {wa wb:DE} {pos:Pos} {r:R2} {rD:PyData->PyData->(PyData->Prop)->Prop}
theorem pd_bin {op:Operator} (ho:OpR X (binaryOp op) r) (hd:OpD r rD) (ha:PE X a (tX .P X.K E wa)) (hb:PE X b (tX .P X.K E wb)):PE X (.BinOp a op b pos) (tX .F X.K E (dOp rD wa wb)):=PE.imp (Qba (OpR.len ho) ha hb) (Qfs hd)
theorem pd_cmp {op:CmpOp} (ho:OpR X (compareOp op) r) (hd:OpD r rD) (ha:PE X a (tX .P X.K E wa)) (hb:PE X b (tX .P X.K E wb)) (hm:behindInMarks op b=false):PE X (.Compare a [op] [b] pos) (tX .F X.K E (dOp rD wa wb)):=PE.imp (Qc4 (OpR.len ho) ha hb hm) (Qfs hd)
theorem pd_ix {r:R2} {rD:PyData->PyData->(PyData->Prop)->Prop} (ho:IxR X r) (hd:OpDn r rD) (ha:PE X a (tX .P X.K E wa)) (hb:PE X b (tX .P X.K E wb)) (hs:QfR b):PE X (.Subscript a b pos) (tX .D X.K E (dOp rD wa wb)):=PE.imp (Qh0 (IxR.len ho) ha hb hs) (Qkf hd)
def dTst (w:DE):DT:=fun δ Q EX=>w δ (fun d=>match d with
  | .bool k=>Q k
  | _=>False) EX
theorem Qmi {op:CmpOp} (ho:OpR X (compareOp op) r) (hd:OpD r rD) (ha:PE X a (tX .P X.K E wa)) (hb:PE X b (tX .P X.K E wb)) (hm:behindInMarks op b=false):PT X (.Compare a [op] [b] pos) (tT X.K E (dTst (dOp rD wa wb))):=by
  refine PT.imp (QbW (OpR.len ho) ha hb hm) fun σ H Q ⟨F,δ,R,EX,rel,hw,k,o⟩=>?_
  refine Qfs hd σ H (fun x H'=>∃ k,x=.bl k/\Q k H') ⟨F,δ,_,EX,rel,hw,fun d hd2 v H' rel' kp vk=>?_,o⟩
  split at hd2
  · rename_i b
    have:v=.bl b:=by cases vk.1;rfl
    exact ⟨b,this,k b hd2 H' rel' kp⟩
  · exact hd2.elim
def tru:PyData->Bool
  | .none=>false
  | .bool b=>b
  | .int i=>i != 0
  | .str y=>(y.length:Int) != 0
  | .list ds => !ds.isEmpty
  | .tuple ds => !ds.isEmpty
  | .dict ds => !ds.isEmpty
def strOk:PyData->Prop
  | .str y=>y.length<=sizeLine
  | _=>True
def dTru (w:DE):DT:=fun δ Q EX=>w δ (fun d=>strOk d/\Q (tru d)) EX
theorem tru_of {K:PySem.W.Frag} {A P:Addr->Prop} {H:Hp} {v:V} {d:PyData} (h:DP A P H v d) (hs:strOk d):TruV K v H (tru d):=by
  have sq:∀ {xs:List V} {ds:List PyData},DAs A H xs ds->(!ds.isEmpty) = !xs.isEmpty:=fun q=>by cases q<;>rfl
  rcases h with h | ⟨l,xs,ds,rfl,rfl,_,e,q⟩
  · cases h with
    | non=>rfl
    | bl b=>rfl
    | int i=>rfl
    | str x c=>exact ⟨hs,rfl⟩
    | @tup a xs ds n e q=>exact .inr (.inl ⟨xs,SqT.of e,sq q⟩)
    | @lst a xs ds n e q=>exact .inl ⟨xs,SqL.of e,sq q⟩
    | @dct a n e=>exact .inr (.inr ⟨[],e,rfl⟩)
  · exact .inl ⟨xs,SqL.of e,sq q⟩
theorem Qmg {e:Expr} {w:DE} (h:PE X e (tX .P X.K E w)) (he:∀ whole,isTrue e X.env whole=(do let v <- whole;standAt e.pos;holding [v] (truthy v))):PT X e (tT X.K E (dTru w)):=by
  refine PT.imp (QjO h he) fun σ H Q ⟨F,δ,R,EX,rel,hw,k,o⟩=>?_
  exact ⟨F,δ,_,EX,rel,hw,fun d ⟨hs,hq⟩ v H' rel' kp vk=>⟨tru d,tru_of vk hs,k _ hq H' rel' kp⟩,o⟩
theorem Qmf {e:Expr} {w:DE} (h:PE X e (tX .P X.K E w)) (he:∀ whole,isTrue e X.env whole=(do let v <- whole;standAt e.pos;holding [v] (truthy v)):=by intro _;rfl):PT X e (tT X.K E (dTst w)):=by
  refine PT.imp (QeI h he) fun σ H Q ⟨F,δ,R,EX,rel,hw,k,o⟩=>?_
  refine ⟨F,δ,_,EX,rel,hw,fun d hd v H' rel' kp vk=>?_,o⟩
  split at hd
  · exact ⟨_,DP.bool vk,k _ hd H' rel' kp⟩
  · exact hd.elim
def dAnd (wa wb:DT):DT:=fun δ Q EX=>wa δ (fun c=>if c=true then wb δ Q EX else Q false) EX
def dNot (wa:DT):DT:=fun δ Q EX=>wa δ (fun c=>Q (!c)) EX
theorem QcH {c:Prop} [Decidable c] {p q p' q':Prop} (h:if c then p else q) (h1:p->p') (h2:q->q'):if c then p' else q':=by
  split at h
  · rw [if_pos (by assumption)];exact h1 h
  · rw [if_neg (by assumption)];exact h2 h
variable {rest:List Expr} {ta tb:DT}
theorem QjW (ha:PT X a (tT X.K E ta)):PW X (.BoolOp .And [a] pos) (tT X.K E ta):=Ql2 ha
theorem Qme (ha:PT X a (tT X.K E ta)) (hb:PW X (.BoolOp .And (b::rest) pos) (tT X.K E tb)):PW X (.BoolOp .And (a::b::rest) pos) (tT X.K E (dAnd ta tb)):=by
  refine PW.imp (pw_and ha hb) fun σ H Q ⟨F,δ,R,EX,rel,hw,k,o⟩=>?_
  refine ⟨F,δ,_,EX,rel,hw,fun c hc H' rel' kp=>?_,o⟩
  exact QcH hc (fun z=>⟨F,δ,R,EX,rel',z,fun c hc H2 rel2 kp2=>k c hc H2 rel2 (kp.trans kp2),o⟩) fun z=>k _ z H' rel' kp
theorem Qmh (ha:PT X a (tT X.K E ta)):PT X (.UnaryOp .Not a pos) (tT X.K E (dNot ta)):=by
  refine PT.imp (Qk6 ha) fun σ H Q ⟨F,δ,R,EX,rel,hw,k,o⟩=>?_
  exact ⟨F,δ,_,EX,rel,hw,fun c hc H' rel' kp=>k _ hc H' rel' kp,o⟩
def dAndV (wa wb:DE):DE:=fun δ Q EX=>wa δ (fun d=>match d with
  | .bool c=>if c=true then wb δ Q EX else Q (.bool false)
  | _=>False) EX
def dNotV (wa:DE):DE:=fun δ Q EX=>wa δ (fun d=>match d with
  | .bool c=>Q (.bool (!c))
  | _=>False) EX
theorem pd_one {op} {w:DE} (h:PE X a (tX .D X.K E w)):PE X (.BoolOp op [a] pos) (tX .D X.K E w):=QeK h
theorem pd_and (ha:PE X a (tX .P X.K E wa)) (hb:PE X (.BoolOp .And (b::rest) pos) (tX .D X.K E wb)):PE X (.BoolOp .And (a::b::rest) pos) (tX .D X.K E (dAndV wa wb)):=by
  refine PE.imp (QeM ha hb) fun σ H Q ⟨F,δ,R,EX,rel,hw,k,o⟩=>?_
  refine ⟨F,δ,_,EX,rel,hw,fun d hd v H' rel' kp vk=>?_,o⟩
  split at hd
  · exact ⟨_,DP.bool vk,QcH hd (fun z=>⟨F,δ,R,EX,rel',z,fun d hd v H2 rel2 kp2=>k d hd v H2 rel2 (kp.trans kp2),o⟩) fun z=>k _ z _ H' rel' kp (.bl _)⟩
  · exact hd.elim
theorem pd_not (ha:PE X a (tX .P X.K E wa)):PE X (.UnaryOp .Not a pos) (tX .D X.K E (dNotV wa)):=by
  refine PE.imp (Qld ha) fun σ H Q ⟨F,δ,R,EX,rel,hw,k,o⟩=>?_
  refine ⟨F,δ,_,EX,rel,hw,fun d hd v H' rel' kp vk=>?_,o⟩
  split at hd
  · exact ⟨_,DP.bool vk,k _ hd _ H' rel' kp (.bl _)⟩
  · exact hd.elim
def dIfE (t:DT) (wa wb:DE):DE:=fun δ Q EX=>t δ (fun c=>if c=true then wa δ Q EX else wb δ Q EX) EX
theorem pd_ifE {c:Expr} (hc:PT X c (tT X.K E ta)) (ha:PE X a (tX .D X.K E wa)) (hb:PE X b (tX .D X.K E wb)):PE X (.IfExp c a b pos) (tX .D X.K E (dIfE ta wa wb)):=by
  refine PE.imp (QjT hc ha hb) fun σ H Q ⟨F,δ,R,EX,rel,hw,k,o⟩=>?_
  refine ⟨F,δ,_,EX,rel,hw,fun d hd H' rel' kp=>?_,o⟩
  exact QcH hd (fun z=>⟨F,δ,R,EX,rel',z,fun d hd v H2 rel2 kp2=>k d hd v H2 rel2 (kp.trans kp2),o⟩) (fun z=>⟨F,δ,R,EX,rel',z,fun d hd v H2 rel2 kp2=>k d hd v H2 rel2 (kp.trans kp2),o⟩)
end
theorem Qc8 {A:Addr->Prop} {H H':Hp} {l:Addr} {xs:List V} {ds:List PyData} (dm:∀ a,A a->∃ xs,H a=some (.lst xs)) (s:Same H H') (n:H l=none) (e:H' l=some (.lst xs)) (q:DAs A H xs ds):DA A H' (.ref l) (.list ds):=
  .lst (fun z=>by obtain ⟨ys,e'⟩:=dm l z;rw [n] at e';cases e') e (q.same s)
theorem Qet {A:Addr->Prop} {H H':Hp} {l:Addr} {xs:List V} {ds:List PyData} (dm:∀ a,A a->∃ xs,H a=some (.lst xs)) (s:Same H H') (e:H' l=some (.tup xs)) (q:DAs A H xs ds):DA A H' (.ref l) (.tuple ds):=
  .tup (fun z=>by obtain ⟨ys,e'⟩:=dm l z;rw [s _ _ e'] at e;cases e) e (q.same s)
theorem Qbx {H H':Hp} {l:Addr} (n:H l=none):FrV H H' (.ref l):=fun l' e _=>by cases e;exact n
theorem Qdd {H H':Hp} {l:Addr} {xs:List V} (e:H' l=some (.tup xs)):FrV H H' (.ref l):=fun l' e1 ⟨ys,e2⟩=>by cases e1;rw [e] at e2;cases e2
theorem Qa1 {H H':Hp} {i:Int}:FrV H H' (.int i):=fun l' e _=>by cases e
theorem QbE {H H':Hp} {i:Bool}:FrV H H' (.bl i):=fun l' e _=>by cases e
theorem Qnc {H H':Hp}:FrV H H' .non:=fun l' e _=>by cases e
theorem DAs.rep {A:Addr->Prop} {H:Hp} {xs:List V} {ds:List PyData} (q:DAs A H xs ds):∀ k:Nat,DAs A H (List.replicate k xs).flatten (List.replicate k ds).flatten
  | 0=>.nil
  | k+1=>by rw [List.replicate_succ,List.replicate_succ,List.flatten_cons,List.flatten_cons];exact q.app (DAs.rep q k)
def addD:PyData->PyData->(PyData->Prop)->Prop
  | .int i,.int j,Q=>Q (.int (i+j))
  | .tuple a,.tuple b,Q=>a.length+b.length<=1000000/\Q (.tuple (a++b))
  | .list a,.list b,Q=>a.length+b.length<=1000000/\Q (.list (a++b))
  | _,_,_=>False
def iiD (C:Int->Int->Prop) (f:Int->Int->PyData):PyData->PyData->(PyData->Prop)->Prop
  | .int i,.int j,Q=>C i j/\Q (f i j)
  | _,_,_=>False
def ii0 (f:Int->Int->PyData):PyData->PyData->(PyData->Prop)->Prop
  | .int i,.int j,Q=>Q (f i j)
  | _,_,_=>False
def mulD:PyData->PyData->(PyData->Prop)->Prop
  | .int i,.int j,Q=>(CMul i j∨CMulB i j)/\Q (.int (i*j))
  | .list a,.int k,Q=>(k<1000000 /\ -1000000<k/\a.length*k.toNat<=1000000)/\Q (.list (List.replicate k.toNat a).flatten)
  | _,_,_=>False
theorem QeP:1000000<=sizeLine:=by show 1000000<=2^24;decide
section
variable {X:Cx} {E:XK}
theorem QgR {C:Int->Int->Prop} {g:Int->Int->Int}:OpD (rI C fun i j=>.int (g i j)) (iiD C fun i j=>.int (g i j)):=fun A P H x y d1 d2 R Q ln dm hx hy h k=>by
  cases d1<;>cases d2<;>first | exact h.elim | skip
  rw [hx.int,hy.int]
  exact ⟨_,_,rfl,rfl,h.1,k _ h.2 _ H (Same.refl H) (.int _) Qa1⟩
theorem Qlj {g:Int->Int->Int}:OpD (rI0 fun i j=>.int (g i j)) (ii0 fun i j=>.int (g i j)):=fun A P H x y d1 d2 R Q ln dm hx hy h k=>by
  cases d1<;>cases d2<;>first | exact h.elim | skip
  rw [hx.int,hy.int]
  exact ⟨_,_,rfl,rfl,k _ h _ H (Same.refl H) (.int _) Qa1⟩
theorem Qdy {g:Int->Int->Bool}:OpD (rI0 fun i j=>.bl (g i j)) (ii0 fun i j=>.bool (g i j)):=fun A P H x y d1 d2 R Q ln dm hx hy h k=>by
  cases d1<;>cases d2<;>first | exact h.elim | skip
  rw [hx.int,hy.int]
  exact ⟨_,_,rfl,rfl,k _ h _ H (Same.refl H) (.bl _) QbE⟩
def rAdd:R2:=fun x y H Q=>(rI0 (fun i j=>.int (i+j)) x y H Q∨rCatA x y H Q)∨rCat x y H Q
theorem QaI:OpR X (binaryOp .Add) rAdd:=OpR.or2 (OpR.or2 Qdx QmG) Qlg
theorem Qa5:OpD rAdd addD:=fun A P H x y d1 d2 R Q ln dm hx hy h k=>by
  cases d1<;>cases d2<;>first | exact h.elim | skip
  · rw [hx.int,hy.int]
    exact .inl (.inl ⟨_,_,rfl,rfl,k _ h _ H (Same.refl H) (.int _) Qa1⟩)
  · obtain ⟨l1,xs,rfl,e1,q1⟩:=hx.list
    obtain ⟨l2,ys,rfl,e2,q2⟩:=hy.list
    refine .inr ⟨l1,l2,xs,ys,rfl,rfl,e1,e2,Nat.le_trans (by rw [q1.length,q2.length];exact h.1) QeP,fun p hp=>?_⟩
    exact k _ h.2 _ _ (Qad hp) (Qc8 dm (Qad hp) hp Qaf (q1.app q2)) (Qbx hp)
  · obtain ⟨l1,xs,rfl,e1,q1⟩:=hx.tuple
    obtain ⟨l2,ys,rfl,e2,q2⟩:=hy.tuple
    refine .inl (.inr ⟨l1,l2,xs,ys,rfl,rfl,e1,e2,Nat.le_trans (by rw [q1.length,q2.length];exact h.1) QeP,fun p H' s e=>?_⟩)
    exact k _ h.2 _ _ s (Qet dm s e (q1.app q2)) (Qdd e)
def rMulA:R2:=fun x y H Q=>(rI CMul (fun i j=>.int (i*j)) x y H Q∨rI CMulB (fun i j=>.int (i*j)) x y H Q)∨rRep x y H Q
theorem Qif:OpR X (binaryOp .Mult) rMulA:=OpR.or2 (OpR.or2 Qdw QmC) op_rep
theorem Qli:OpD rMulA mulD:=fun A P H x y d1 d2 R Q ln dm hx hy h k=>by
  cases d1<;>cases d2<;>first | exact h.elim | skip
  · rw [hx.int,hy.int]
    rcases h.1 with c | c
    · exact .inl (.inl ⟨_,_,rfl,rfl,c,k _ h.2 _ H (Same.refl H) (.int _) Qa1⟩)
    · exact .inl (.inr ⟨_,_,rfl,rfl,c,k _ h.2 _ H (Same.refl H) (.int _) Qa1⟩)
  · obtain ⟨l1,xs,rfl,e1,q1⟩:=hx.list
    rw [hy.int]
    obtain ⟨⟨h1,h2,h3⟩,h4⟩:=h
    refine .inr ⟨l1,_,xs,rfl,rfl,e1,by omega,by omega,Nat.le_trans (by rw [q1.length];exact h3) QeP,fun p hp=>?_⟩
    exact k _ h4 _ _ (Qad hp) (Qc8 dm (Qad hp) hp Qaf (q1.rep _)) (Qbx hp)
def eqD:PyData->PyData->(PyData->Prop)->Prop
  | .int i,.int j,Q=>Q (.bool (decide (i=j)))
  | .bool i,.bool j,Q=>Q (.bool (decide (i=j)))
  | .str i,.str j,Q=>Q (.bool (decide (i=j)))
  | a,b,Q=>(nd a=true/\nd b=true/\(a.depth<=50∨b.depth<=50))/\Q (.bool (PyData.eqv a b))
theorem min50 {a b:PyData} (h:a.depth<=50∨b.depth<=50):min a.depth b.depth<=50:=by rcases h with h | h<;>omega
def rEqA (u:Nat):R2:=fun x y H Q=>rEq x y H Q∨rEqU u x y H Q
theorem Qgg:OpR X (compareOp .Eq) (rEqA X.A.units):=OpR.or2 QmE op_eqU
theorem dec_i {i j:Int}:decide (V.int i=V.int j)=decide (i=j):=by
  by_cases h:i=j
  · subst h;simp
  · rw [decide_eq_false h,decide_eq_false (fun z=>h (V.int.inj z))]
theorem dec_b {i j:Bool}:decide (V.bl i=V.bl j)=decide (i=j):=by
  by_cases h:i=j
  · subst h;simp
  · rw [decide_eq_false h,decide_eq_false (fun z=>h (V.bl.inj z))]
theorem dec_s {i j:Str}:decide (V.str i=V.str j)=decide (i=j):=by
  by_cases h:i=j
  · subst h;simp
  · rw [decide_eq_false h,decide_eq_false (fun z=>h (V.str.inj z))]
theorem Qkk {u:Nat} (hu:u+60<cLine):OpD (rEqA u) eqD:=fun A P H x y d1 d2 R Q ln dm hx hy h k=>by
  unfold eqD at h
  split at h
  · rw [hx.int,hy.int]
    exact .inl ⟨rfl,k (.bool (decide (V.int _=V.int _))) (by rw [dec_i];exact h) _ H (Same.refl H) (.bl _) QbE⟩
  · rw [hx.bool,hy.bool]
    exact .inl ⟨rfl,k (.bool (decide (V.bl _=V.bl _))) (by rw [dec_b];exact h) _ H (Same.refl H) (.bl _) QbE⟩
  · rw [hx.str.1,hy.str.1]
    exact .inl ⟨rfl,k (.bool (decide (V.str _=V.str _))) (by rw [dec_s];exact h) _ H (Same.refl H) (.bl _) QbE⟩
  · obtain ⟨⟨n1,n2,dp⟩,hR⟩:=h
    have:=min50 dp
    exact .inr ⟨_,_,hx.dat n1,hy.dat n2,by omega,k _ hR _ H (Same.refl H) (.bl _) QbE⟩
def rInLU (u:Nat) (neg:Bool):R2:=fun x y H Q=>∃ c ps ds d,y=.ref c/\H c=some (.lst ps)/\Dats H ps ds/\Dat H x d/\u+d.depth<cLine/\Q (.bl (if neg then !(ds.any fun e=>PyData.eqv e d) else ds.any fun e=>PyData.eqv e d)) H
theorem QgP:OpR X (compareOp .NotIn) (rInLU X.A.in1.units true):=by
  intro pins s σ H x y v u Q I rx ry h
  obtain ⟨c,ps,ds,d,rfl,hc,qs,qx,hu,q⟩:=h
  cases ry
  obtain ⟨⟨as,ra⟩,ca⟩:=Qbq I.hok d x v qx rx
  obtain ⟨its,rv,pl,hz⟩:=I.list (SqL.of hc)
  obtain ⟨⟨bs,rb⟩,cb⟩:=Qbc I.hok ds ps its qs rv
  refine SeqAt.notIn_listAt (eqH s.heap d) pl.isList (fun w hw=>Qfz ra ca rb cb hu w (List.mem_toArray.mp hw)) ⟨.bl _,H,I,rfl,?_⟩
  rw [show its.toArray.any (eqH s.heap d)=its.any (eqH s.heap d) by simp,QfQ rb cb]
  exact q
def inD (neg:Bool) (d:PyData):PyData->(PyData->Prop)->Prop
  | .list ds,Q=>(nds ds=true/\nd d=true/\d.depth<=50)/\Q (.bool (if neg then !(ds.any fun e=>PyData.eqv e d) else ds.any fun e=>PyData.eqv e d))
  | .tuple ds,Q=>(nds ds=true/\nd d=true/\d.depth<=50)/\Q (.bool (if neg then !(ds.any fun e=>PyData.eqv e d) else ds.any fun e=>PyData.eqv e d))
  | _,_=>False
def rInA (u:Nat) (neg:Bool):R2:=fun x y H Q=>rInU u neg x y H Q∨rInLU u neg x y H Q
theorem Qc5:OpR X (compareOp .NotIn) (rInA X.A.in1.units true):=OpR.or2 Qid QgP
theorem QmQ {u:Nat} {neg:Bool} (hu:u+60<cLine):OpD (rInA u neg) (inD neg):=fun A P H x y d1 d2 R Q ln dm hx hy h k=>by
  cases d2<;>first | exact h.elim | skip
  · obtain ⟨l,xs,rfl,e,q⟩:=hy.list
    obtain ⟨⟨n1,n2,n3⟩,hR⟩:=h
    exact .inr ⟨l,xs,_,d1,rfl,e,Qby _ _ n1 q,hx.dat n2,by omega,k _ hR _ H (Same.refl H) (.bl _) QbE⟩
  · obtain ⟨l,xs,rfl,e,q⟩:=hy.tuple
    obtain ⟨⟨n1,n2,n3⟩,hR⟩:=h
    exact .inl ⟨l,xs,_,d1,rfl,e,Qby _ _ n1 q,hx.dat n2,by omega,k _ hR _ H (Same.refl H) (.bl _) QbE⟩
def ixD:PyData->PyData->(PyData->Prop)->Prop
  | .list ds,.int i,Q=>∃ d,atI ds i=some d/\Q d
  | .tuple ds,.int i,Q=>∃ d,atI ds i=some d/\Q d
  | _,_,_=>False
theorem QlD {A:Addr->Prop} {H:Hp} {xs:List V} {ds:List PyData} {i:Int} {d:PyData} (q:DAs A H xs ds) (h:atI ds i=some d):∃ v,atI xs i=some v/\DA A H v d:=by
  unfold atI at h ⊢
  rw [q.length]
  cases e:ixN ds.length i with
  | none=>rw [e] at h;cases h
  | some j=>
    rw [e] at h
    exact q.get j d h
def rIxA (K:PySem.W.Frag):R2:=fun x y H Q=>rIxL K x y H Q∨rIxT K x y H Q
theorem QaF:IxR X (rIxA X.K):=IxR.or2 Qdb ix_tup
theorem Qa4 {K:PySem.W.Frag}:OpDn (rIxA K) ixD:=fun A P H x y d1 d2 R Q ln dm hx hy h k=>by
  cases d1<;>cases d2<;>first | exact h.elim | skip
  · obtain ⟨l,xs,rfl,e,q⟩:=hx.list
    obtain ⟨d,hd,hR⟩:=h
    obtain ⟨v,hv,dv⟩:=QlD q hd
    rw [hy.int]
    exact .inl ⟨l,xs,_,v,rfl,rfl,SqL.of e,hv,k d hR v H (Same.refl H) dv⟩
  · obtain ⟨l,xs,rfl,e,q⟩:=hx.tuple
    obtain ⟨d,hd,hR⟩:=h
    obtain ⟨v,hv,dv⟩:=QlD q hd
    rw [hy.int]
    exact .inr ⟨l,xs,_,v,rfl,rfl,SqT.of e,hv,k d hR v H (Same.refl H) dv⟩
def dUn (rD:PyData->(PyData->Prop)->Prop) (wa:DE):DE:=fun δ Q EX=>wa δ (fun d=>rD d Q) EX
def negD:PyData->(PyData->Prop)->Prop
  | .int i,Q=>Q (.int (-i))
  | _,_=>False
variable {a b c:Expr} {wa wb wc:DE} {pos:Pos}
theorem pd_neg (ha:PE X a (tX .P X.K E wa)):PE X (.UnaryOp .USub a pos) (tX .F X.K E (dUn negD wa)):=by
  refine PE.imp (pe_un un_neg ha) fun σ H Q ⟨F,δ,R,EX,rel,hw,k,o⟩=>?_
  refine ⟨F,δ,_,EX,rel,hw,fun d hd v H' rel' kp vk=>?_,o⟩
  cases d<;>first | exact (show False from hd).elim | skip
  exact ⟨_,DP.int vk,k _ hd _ H' rel' kp ⟨.int _,Qa1⟩⟩
def dCh (p q:Int->Int->Bool) (wa wb wc:DE):DE:=fun δ Q EX=>wa δ (fun x=>wb δ (fun y=>match x,y with
  | .int i,.int j=>if p i j=true then wc δ (fun z=>match z with
    | .int k=>Q (.bool (q j k))
    | _=>False) EX else Q (.bool false)
  | _,_=>False) EX) EX
theorem Qi4 {K:PySem.W.Frag} {p q:Int->Int->Bool} (σ:L2.St) (H:Hp) (Q:VK) (h:tX .F K E (dCh p q wa wb wc) σ H Q) :
    Qhn (rI0 fun i j=>.bl (p i j)) (rI0 fun i j=>.bl (q i j)) (tX .P K E wa) (tX .P K E wb) (tX .P K E wc) σ H Q:=by
  obtain ⟨F,δ,R,EX,rel,hw,k,o⟩:=h
  refine ⟨F,δ,_,EX,rel,hw,fun d1 h1 x H1 rel1 kp1 x1=>⟨F,δ,_,EX,rel1,h1,fun d2 h2 y H2 rel2 kp2 y2=>?_,o⟩,o⟩
  cases d1<;>cases d2<;>first | exact (show False from h2).elim | skip
  rw [DP.int x1,DP.int y2]
  refine ⟨_,_,rfl,rfl,_,rfl,QcH h2 (fun z=>⟨F,δ,_,EX,rel2,z,fun d3 h3 v H3 rel3 kp3 v3=>?_,o⟩) fun z=>k _ z _ H2 rel2 (kp1.trans kp2) ⟨.bl _,QbE⟩⟩
  cases d3<;>first | exact (show False from h3).elim | skip
  rw [DP.int v3]
  exact ⟨_,_,rfl,rfl,k _ h3 _ H3 rel3 ((kp1.trans kp2).trans kp3) ⟨.bl _,QbE⟩⟩
theorem pd_ch {op op':CmpOp} {p q:Int->Int->Bool} (ho:OpR X (compareOp op) (rI0 fun i j=>.bl (p i j))) (ho':OpR X (compareOp op') (rI0 fun i j=>.bl (q i j))) (ha:PE X a (tX .P X.K E wa)) (hb:PE X b (tX .P X.K E wb)) (hc:PE X c (tX .P X.K E wc)) (hm:lastMarks [op,op'] [b,c]=false:=by with_unfolding_all rfl) :
    PE X (.Compare a [op,op'] [b,c] pos) (tX .F X.K E (dCh p q wa wb wc)):=PE.imp (QjU ho ho' ha hb hc (hm:=hm)) Qi4
theorem pdt_ch {op op':CmpOp} {p q:Int->Int->Bool} (ho:OpR X (compareOp op) (rI0 fun i j=>.bl (p i j))) (ho':OpR X (compareOp op') (rI0 fun i j=>.bl (q i j))) (ha:PE X a (tX .P X.K E wa)) (hb:PE X b (tX .P X.K E wb)) (hc:PE X c (tX .P X.K E wc)) (hm:lastMarks [op,op'] [b,c]=false:=by with_unfolding_all rfl) :
    PT X (.Compare a [op,op'] [b,c] pos) (tT X.K E (dTst (dCh p q wa wb wc))):=by
  refine PT.imp (QjP ho ho' ha hb hc (hm:=hm)) fun σ H Q ⟨F,δ,R,EX,rel,hw,k,o⟩=>?_
  refine Qi4 σ H (fun x H'=>∃ k,x=.bl k/\Q k H') ⟨F,δ,_,EX,rel,hw,fun d hd2 v H' rel' kp vk=>?_,o⟩
  split at hd2
  · rename_i b
    have:v=.bl b:=by cases vk.1;rfl
    exact ⟨b,this,k b hd2 H' rel' kp⟩
  · exact hd2.elim
def dNil:DAr:=fun _ Q _=>Q []
def QiZ (we:DE) (wr:DAr):DAr:=fun δ Q EX=>we δ (fun d=>wr δ (fun ds=>Q (d::ds)) EX) EX
theorem Qmu {m:Md}:PA X [] (tAr 0 m X.K E dNil):=PA.imp Qaq fun σ H Q ⟨F,δ,R,EX,rel,hw,k,o⟩=>k [] hw rfl [] H rel (Kp.refl rel) .nil
theorem Qji {n:Nat} {m:Md} {K:PySem.W.Frag} {we:DE} {wr:DAr} (hm:∀ {F:Fm} {σ:L2.St} {δ:Sts} {H H':Hp} {v:V} {d:PyData},Vok m F σ δ H H' v d->VD m (Av F σ δ) (PotA σ δ) H' v d) (σ:L2.St) (H:Hp) (Q:List V->Hp->Prop) (h:tAr (n+1) m K E (QiZ we wr) σ H Q):QcI (tX m K E we) (tAr n m K E wr) σ H Q:=by
  obtain ⟨F,δ,R,EX,rel,hw,k,o⟩:=h
  refine ⟨F,δ,_,EX,rel,hw,fun d hd v H' rel' kp vk=>⟨F,δ,_,EX,rel',hd,fun ds hds hl vs H2 rel2 kp2 vks=>?_,o⟩,o⟩
  exact k _ hds (by rw [List.length_cons,hl]) (v::vs) H2 rel2 (kp.trans kp2) (.cons (kp2.vd (hm vk)) vks)
theorem Qh7 {n:Nat} {e:Expr} {es:List Expr} {we:DE} {wr:DAr} (he:PE X e (tX .D X.K E we)) (hr:PA X es (tAr n .D X.K E wr)) (hs:notStar e=true:=by rfl):PA X (e::es) (tAr (n+1) .D X.K E (QiZ we wr)):=PA.imp (pa_c he hr hs) (Qji fun h=>h)
theorem Qh6 {n:Nat} {e:Expr} {es:List Expr} {we:DE} {wr:DAr} (he:PE X e (tX .P X.K E we)) (hr:PA X es (tAr n .P X.K E wr)) (hs:notStar e=true:=by rfl):PA X (e::es) (tAr (n+1) .P X.K E (QiZ we wr)):=PA.imp (pa_c he hr hs) (Qji fun h=>h)
theorem Qcr {A P:Addr->Prop} {H:Hp}:∀ {vs:List V} {ds:List PyData},Paired (VD .D A P H) vs ds->DAs A H vs ds
  | _,_,.nil=>.nil
  | _,_,.cons a b=>.cons a (Qcr b)
def dTup (w:DAr):DE:=fun δ Q EX=>w δ (fun ds=>Q (.tuple ds)) EX
def dLst (w:DAr):DE:=fun δ Q EX=>w δ (fun ds=>Q (.list ds)) EX
theorem pd_tup {n:Nat} {es:List Expr} {w:DAr} {x1} (h:PA X es (tAr n .D X.K E w)) (hn:n<=1000:=by decide):PE X (.Tuple es x1 pos) (tX .F X.K E (dTup w)):=by
  refine PE.imp (QhY h) fun σ H Q ⟨F,δ,R,EX,rel,hw,k,o⟩=>?_
  refine ⟨F,δ,_,EX,rel,hw,fun ds hds hl vs H' rel' kp q=>?_,o⟩
  have q':=Qcr q
  refine ⟨by rw [q'.length,hl];exact hn,fun a H2 s n e=>k _ hds _ H2 (rel'.same s) (kp.trans (Kp.same rel' s)) ⟨Qet (fun a ha=>rel'.isl ha) s e q',Qdd e⟩⟩
theorem Qbw {σ:L2.St} {δ:Sts} {H H':Hp} {l:Addr} (k:Kp σ δ H H') (n:H' l=none):H l=none:=by
  cases e:H l with
  | none=>rfl
  | some ob=>
    by_cases z:PotA σ δ l
    · obtain ⟨m,em⟩:=k.2 l z
      rw [em] at n;cases n
    · rw [k.1 _ _ z e] at n;cases n
theorem pd_lst {n:Nat} {es:List Expr} {w:DAr} (h:PA X es (tAr n .D X.K E w)) (hn:n<=1000:=by decide):PE X (.List es pos) (tX .F X.K E (dLst w)):=by
  refine PE.imp (QbC h) fun σ H Q ⟨F,δ,R,EX,rel,hw,k,o⟩=>?_
  refine ⟨F,δ,_,EX,rel,hw,fun ds hds hl vs H' rel' kp q=>?_,o⟩
  have q':=Qcr q
  refine ⟨by rw [q'.length,hl];exact hn,fun a H2 s n e=>k _ hds _ H2 (rel'.same s) (kp.trans (Kp.same rel' s)) ⟨Qc8 (fun a ha=>rel'.isl ha) s n e q',Qbx (Qbw kp n)⟩⟩
theorem pd_dct {pos:Pos}:PE X (.Dict [] [] pos) (tX .D X.K E (dC (.dict []))):=by
  refine PE.imp Qmd fun σ H Q ⟨F,δ,R,EX,rel,hw,k,o⟩=>fun p hp=>?_
  refine k _ hw _ _ (rel.same (Qad hp)) (Kp.same rel (Qad hp)) (.dct (fun z=>?_) Qaf)
  obtain ⟨xs,e⟩:=rel.isl z
  rw [hp] at e;cases e
def QcB (r:List V->Hp->VK->Prop) (rD:List PyData->(PyData->Prop)->Prop):Prop:=∀ (A P:Addr->Prop) (H:Hp) (vs:List V) (ds:List PyData) (R:PyData->Prop) (Q:VK),QbN H->(∀ a,A a->∃ xs,H a=some (.lst xs))->Paired (DP A P H) vs ds->rD ds R ->
  (∀ d,R d->∀ v H',Same H H'->DA A H' v d->FrV H H' v->Q v H')->r vs H Q
def dCB (rD:List PyData->(PyData->Prop)->Prop) (wa:DAr):DE:=fun δ Q EX=>wa δ (fun ds=>rD ds Q) EX
theorem Qi5 {n:Nat} {K:PySem.W.Frag} {r:List V->Hp->VK->Prop} {rD:List PyData->(PyData->Prop)->Prop} {wa:DAr} (hd:QcB r rD) (σ:L2.St) (H:Hp) (Q:VK) (h:tX .F K E (dCB rD wa) σ H Q) :
    tCB (fun xs H Q=>QbN H->r xs H Q) (tAr n .P K E wa) σ H Q:=by
  obtain ⟨F,δ,R,EX,rel,hw,k,o⟩:=h
  refine ⟨F,δ,_,EX,rel,hw,fun ds hds hl vs H' rel' kp q ln=>?_,o⟩
  refine hd (Av F σ δ) (PotA σ δ) H' vs ds R Q ln (fun a ha=>rel'.isl ha) q hds fun d hR v H2 s dv fr=>?_
  exact k d hR v H2 (rel'.same s) (kp.trans (Kp.same rel' s)) ⟨dv,fun l e1 e2=>Qbw kp (fr l e1 e2)⟩
variable {x:Str} {bid T:String} {p:Pos} {e:Expr} {es:List Expr} {n:Nat} {wr:DAr} {r:List V->Hp->VK->Prop} {rD:List PyData->(PyData->Prop)->Prop}
theorem Qke (hc:CallR X (.builtin bid) r) (hd:QcB r rD) (hg:Gl X x) (hm:X.mg x=none) (hv:bootBuiltins x=some (.builtin bid)) (ha:PA X (e::es) (tAr n .P X.K E wr)) (hn:x ≠ "__name__" := by decide) (hdb:(x == ("__debug__" : Str))=false:=by decide)
    (he:starEach (e::es) X.env=(false,eval e X.env)::starEach es X.env:=by rfl) (hpl:(backTo pos (starEach es X.env)).any (·.1)=false:=by rfl):PE X (.Call (.Name x p) (e::es) [] pos) (tX .F X.K E (dCB rD wr)):=
  PE.imp (Qax (CallR.len hc) hg hm hv ha hn hdb he hpl) (Qi5 hd)
theorem Qh9 (hc:CallR X (.type T) r) (hd:QcB r rD) (hg:Gl X x) (hm:X.mg x=none) (hv:bootBuiltins x=some (.type T)) (ha:PA X (e::es) (tAr n .P X.K E wr)) (hn:x ≠ "__name__" := by decide) (hdb:(x == ("__debug__" : Str))=false:=by decide)
    (he:starEach (e::es) X.env=(false,eval e X.env)::starEach es X.env:=by rfl) (hpl:(backTo pos (starEach es X.env)).any (·.1)=false:=by rfl):PE X (.Call (.Name x p) (e::es) [] pos) (tX .F X.K E (dCB rD wr)):=
  PE.imp (QeL (CallR.len hc) hg hm hv ha hn hdb he hpl) (Qi5 hd)
theorem pd1 {A P:Addr->Prop} {H:Hp} {vs:List V} {d:PyData} (q:Paired (DP A P H) vs [d]):∃ v,vs=[v]/\DP A P H v d:=by
  cases q with
  | cons a b=>cases b;exact ⟨_,rfl,a⟩
theorem pd2 {A P:Addr->Prop} {H:Hp} {vs:List V} {d d':PyData} (q:Paired (DP A P H) vs [d,d']):∃ v v',vs=[v,v']/\DP A P H v d/\DP A P H v' d':=by
  cases q with
  | cons a b=>cases b with | cons b c=>cases c;exact ⟨_,_,rfl,a,b⟩
def lenD:List PyData->(PyData->Prop)->Prop
  | [.list ds],Q=>Q (.int ds.length)
  | [.tuple ds],Q=>Q (.int ds.length)
  | _,_=>False
theorem Qly {K:PySem.W.Frag}:QcB (rLenK K) lenD:=fun A P H vs ds R Q ln dm q h k=>by
  unfold lenD at h
  split at h
  · obtain ⟨v,rfl,hv⟩:=pd1 q
    obtain ⟨l,xs,rfl,e,qq⟩:=hv.list
    exact ⟨l,xs,rfl,.inl (SqL.of e),by rw [qq.length];exact k _ h _ H (Same.refl H) (.int _) Qa1⟩
  · obtain ⟨v,rfl,hv⟩:=pd1 q
    obtain ⟨l,xs,rfl,e,qq⟩:=hv.tuple
    exact ⟨l,xs,rfl,.inr (SqT.of e),by rw [qq.length];exact k _ h _ H (Same.refl H) (.int _) Qa1⟩
  · exact h.elim
theorem Qe2:CallR X (.builtin "len") (rLenK X.K):=Qa6
def QmX:List PyData->(PyData->Prop)->Prop
  | [.int i,.int j],Q=>Q (.int (if j<i then j else i))
  | _,_=>False
def max2D:List PyData->(PyData->Prop)->Prop
  | [.int i,.int j],Q=>Q (.int (if j > i then j else i))
  | _,_=>False
theorem Qeg:QcB (fun xs H Q=>∃ i j,xs=[.int i,.int j]/\Q (.int (if j<i then j else i)) H) QmX:=fun A P H vs ds R Q ln dm q h k=>by
  unfold QmX at h
  split at h
  · obtain ⟨v,v',rfl,h1,h2⟩:=pd2 q
    rw [h1.int,h2.int]
    exact ⟨_,_,rfl,k _ h _ H (Same.refl H) (.int _) Qa1⟩
  · exact h.elim
theorem Qnr:QcB (fun xs H Q=>∃ i j,xs=[.int i,.int j]/\Q (.int (if j > i then j else i)) H) max2D:=fun A P H vs ds R Q ln dm q h k=>by
  unfold max2D at h
  split at h
  · obtain ⟨v,v',rfl,h1,h2⟩:=pd2 q
    rw [h1.int,h2.int]
    exact ⟨_,_,rfl,k _ h _ H (Same.refl H) (.int _) Qa1⟩
  · exact h.elim
def Qb3:List PyData->Option (List Bool)
  | []=>some []
  | .bool b::ds=>(Qb3 ds).map (b::·)
  | _::_=>none
theorem Qjd (bs:List Bool):Qb3 (bs.map PyData.bool)=some bs:=by
  induction bs with
  | nil=>rfl
  | cons b bs ih=>rw [List.map_cons,Qb3,ih];rfl
theorem bools_eq:∀ {ds:List PyData} {bs:List Bool},Qb3 ds=some bs->ds=bs.map PyData.bool
  | [],bs,h=>by cases h;rfl
  | d::ds,bs,h=>by
    cases d<;>first | (unfold Qb3 at h;cases h;done) | skip
    rw [Qb3] at h
    obtain ⟨cs,h1,rfl⟩:=Option.map_eq_some_iff.mp h
    rw [bools_eq h1];rfl
theorem QeV {A:Addr->Prop} {H:Hp}:∀ {bs:List Bool} {xs:List V},DAs A H xs (bs.map PyData.bool)->xs=bs.map V.bl
  | [],_,.nil=>rfl
  | b::bs,_,.cons (.bl _) r=>by rw [QeV r];rfl
@[irreducible] def allD:List PyData->(PyData->Prop)->Prop
  | [.list ds],Q=>∃ bs,Qb3 ds=some bs/\Q (.bool (bs.all id))
  | _,_=>False
theorem Qlz {K:PySem.W.Frag} {cm:Bool} (hc:cm=true):QcB (fun xs H Q=>∃ (p:Addr) (bs:List Bool),xs=[.ref p]/\SqL K H p (bs.map V.bl)/\cm=true/\Q (.bl (bs.all id)) H) allD:=fun A P H vs ds R Q ln dm q h k=>by
  unfold allD at h
  split at h
  · obtain ⟨v,rfl,hv⟩:=pd1 q
    obtain ⟨bs,hb,hR⟩:=h
    rw [bools_eq hb] at hv
    obtain ⟨l,xs,rfl,e,qq⟩:=hv.list
    rw [QeV qq] at e
    exact ⟨l,bs,rfl,SqL.of e,hc,k _ hR _ H (Same.refl H) (.bl _) QbE⟩
  · exact h.elim
def QkZ:List PyData->(PyData->Prop)->Prop
  | [.list ds],Q=>Q (.tuple ds)
  | [.tuple ds],Q=>Q (.tuple ds)
  | _,_=>False
def listD:List PyData->(PyData->Prop)->Prop
  | [.list ds],Q=>Q (.list ds)
  | [.tuple ds],Q=>Q (.list ds)
  | _,_=>False
theorem QgC {K:PySem.W.Frag}:QcB (QhE K) QkZ:=fun A P H vs ds R Q ln dm q h k=>by
  unfold QkZ at h
  split at h
  · obtain ⟨v,rfl,hv⟩:=pd1 q
    obtain ⟨l,xs,rfl,e,qq⟩:=hv.list
    exact ⟨l,xs,rfl,.inl ⟨SqL.of e,fun l' H' s n e'=>k _ h _ H' s (Qet dm s e' qq) (Qdd e')⟩⟩
  · obtain ⟨v,rfl,hv⟩:=pd1 q
    obtain ⟨l,xs,rfl,e,qq⟩:=hv.tuple
    exact ⟨l,xs,rfl,.inr ⟨SqT.of e,k _ h _ H (Same.refl H) (Qet dm (Same.refl H) e qq) (Qdd e)⟩⟩
  · exact h.elim
theorem Qns {K:PySem.W.Frag}:QcB (QhG K) listD:=fun A P H vs ds R Q ln dm q h k=>by
  unfold listD at h
  split at h
  · obtain ⟨v,rfl,hv⟩:=pd1 q
    obtain ⟨l,xs,rfl,e,qq⟩:=hv.list
    exact ⟨l,xs,rfl,.inl (SqL.of e),fun l' H' s n e'=>k _ h _ H' s (Qc8 dm s n e' qq) (Qbx n)⟩
  · obtain ⟨v,rfl,hv⟩:=pd1 q
    obtain ⟨l,xs,rfl,e,qq⟩:=hv.tuple
    exact ⟨l,xs,rfl,.inr (SqT.of e),fun l' H' s n e'=>k _ h _ H' s (Qc8 dm s n e' qq) (Qbx n)⟩
  · exact h.elim
end
section
variable {X:Cx} {E:XK}
inductive Tn where | int | bool | str | tuple | list
def Tn.s:Tn->String
  | .int => "int"
  | .bool => "bool"
  | .str => "str"
  | .tuple => "tuple"
  | .list => "list"
def isT:Tn->PyData->Bool
  | .int,.int _=>true
  | .int,.bool _=>true
  | .bool,.bool _=>true
  | .str,.str _=>true
  | .tuple,.tuple _=>true
  | .list,.list _=>true
  | _,_=>false
theorem Qm8 {K:PySem.W.Frag} {A P:Addr->Prop} {H:Hp} {v:V} {d:PyData} (tn:Tn) (h:DP A P H v d):∃ t,TyOf K H v t/\PySem.W.kitOne K t (.type tn.s)=some (isT tn d):=by
  rcases h with h | ⟨l,xs,ds,rfl,rfl,_,e,q⟩
  · cases h with
    | non=>exact ⟨_,.non,by cases tn<;>rfl⟩
    | bl b=>exact ⟨_,.bl _,by cases tn<;>rfl⟩
    | int i=>exact ⟨_,.int _,by cases tn<;>rfl⟩
    | str x c=>exact ⟨_,.str _,by cases tn<;>rfl⟩
    | tup n e q=>exact ⟨_,.tup e,by cases tn<;>rfl⟩
    | lst n e q=>exact ⟨_,.lst e,by cases tn<;>rfl⟩
    | dct n e=>exact ⟨_,.dK e,by cases tn<;>rfl⟩
  · exact ⟨_,.lst e,by cases tn<;>rfl⟩
def dInst (tn:Tn) (we:DE):DE:=fun δ Q EX=>we δ (fun d=>Q (.bool (isT tn d))) EX
theorem Qmw {e f:Expr} {we:DE} {p pos:Pos} (tn:Tn) (hg:Gl X "isinstance") (hm:X.mg "isinstance" = none) (he:PE X e (tX .P X.K E we)) (hf:PE X f (tC (.ty tn.s))) (h1:notStar e=true:=by rfl) (h2:notStar f=true:=by rfl) :
    PE X (.Call (.Name "isinstance" p) [e,f] [] pos) (tX .F X.K E (dInst tn we)):=by
  refine PE.imp (Qax QaA hg hm Qap (pa_c he (pa_c hf Qaq h2) h1) (he:=QaW h1) (hpl:=by rw [QaW h2];rfl)) fun σ H Q ⟨F,δ,R,EX,rel,hw,k,o⟩=>?_
  refine ⟨F,δ,_,EX,rel,hw,fun d hd v H' rel' kp vk=>?_,o⟩
  obtain ⟨t,ty,et⟩:=Qm8 (K:=X.K) tn vk
  exact ⟨v,t,tn.s,_,rfl,ty,et,k _ hd _ H' rel' kp ⟨.bl _,QbE⟩⟩
theorem pb_ty {x:Str} {pos:Pos} (tn:Tn) (hg:Gl X x) (hm:X.mg x=none) (hv:bootBuiltins x=some (.type tn.s)) (hn:x ≠ "__name__" := by decide) (hd:(x == ("__debug__" : Str))=false:=by decide):PE X (.Name x pos) (tC (.ty tn.s)):=QaZ (v:=.ty tn.s) hg hm hv rfl hn hd
abbrev DO:=Sts->(Option Int->Prop)->XP->Prop
def tO (K:PySem.W.Frag) (E:XK) (w:DO):TO:=fun σ H Q=>∃ (F:Fm) (δ:Sts) (R:Option Int->Prop) (EX:XP),Rel K F σ H δ/\w δ R EX/\(∀ d,R d->∀ H',Rel K F σ H' δ->Kp σ δ H H'->Q d H')/\Out F E EX
def dNo:DO:=fun _ Q _=>Q none
def dSo (we:DE):DO:=fun δ Q EX=>we δ (fun d=>match d with
  | .int i=>Q (some i)
  | _=>False) EX
theorem PO.imp {e:Option Expr} {t t':TO} (h:PO X e t) (i:∀ σ H Q,t' σ H Q->t σ H Q):PO X e t':=fun pins s σ H Q I q=>h pins s σ H Q I (i σ H Q q)
theorem Qj8:PO X none (tO X.K E dNo):=PO.imp Ql7 fun σ H Q ⟨F,δ,R,EX,rel,hw,k,o⟩=>k _ hw H rel (Kp.refl rel)
theorem Qj7 {e:Expr} {we:DE} (he:PE X e (tX .P X.K E we)):PO X (some e) (tO X.K E (dSo we)):=by
  refine PO.imp (Ql6 he) fun σ H Q ⟨F,δ,R,EX,rel,hw,k,o⟩=>?_
  refine ⟨F,δ,_,EX,rel,hw,fun d hd v H' rel' kp vk=>?_,o⟩
  cases d<;>first | exact (show False from hd).elim | skip
  exact ⟨_,DP.int vk,k _ hd H' rel' kp⟩
def cutD (xs:List PyData) (lo hi:Option Int):List PyData:=(xs.drop (HT.sIx xs.length 0 lo)).take (HT.sIx xs.length xs.length hi - HT.sIx xs.length 0 lo)
theorem Qi1 {A:Addr->Prop} {H:Hp} {xs:List V} {ds:List PyData} (q:DAs A H xs ds) (lo hi:Option Int):DAs A H (cutV xs lo hi) (cutD ds lo hi):=by
  unfold cutV cutD
  rw [q.length]
  exact (q.drop _).take _
def slD (d:PyData) (lo hi:Option Int) (Q:PyData->Prop):Prop:=
  match d with
  | .list ds=>Q (.list (cutD ds lo hi))
  | .tuple ds=>Q (.tuple (cutD ds lo hi))
  | _=>False
def dSl (we:DE) (wl wh:DO):DE:=fun δ Q EX=>we δ (fun d=>wl δ (fun lo=>wh δ (fun hi=>slD d lo hi Q) EX) EX) EX
def rSlAny (K:PySem.W.Frag):V->Option Int->Option Int->Hp->VK->Prop:=fun x a b H Q=>rSlA x a b H Q∨rSlLW K x a b H Q
theorem Qkc {e:Expr} {lo hi:Option Expr} {we:DE} {wl wh:DO} {p2 pos:Pos} (he:PE X e (tX .P X.K E we)) (hl:PO X lo (tO X.K E wl)) (hh:PO X hi (tO X.K E wh)):PE X (.Subscript e (.Slice lo hi none p2) pos) (tX .F X.K E (dSl we wl wh)):=by
  refine PE.imp (QjS (r:=rSlAny X.K) (SlR.or2 sl_any Qjy) he hl hh) fun σ H Q ⟨F,δ,R,EX,rel,hw,k,o⟩=>?_
  refine ⟨F,δ,_,EX,rel,hw,fun d hd v H1 rel1 kp1 vk=>⟨F,δ,_,EX,rel1,hd,fun a ha H2 rel2 kp2=>⟨F,δ,_,EX,rel2,ha,fun b hb H3 rel3 kp3=>?_,o⟩,o⟩,o⟩
  have v3:=kp3.dp (kp2.dp vk)
  have K3:=(kp1.trans kp2).trans kp3
  cases d<;>first | exact (show False from hb).elim | skip
  · obtain ⟨l,xs,rfl,e,q⟩:=DP.list v3
    exact .inr ⟨l,xs,rfl,SqL.of e,fun p H' s n e'=>k _ hb _ H' (rel3.same s) (K3.trans (Kp.same rel3 s)) ⟨Qc8 (fun a ha=>rel3.isl ha) s n e' (Qi1 q _ _),Qbx (Qbw K3 n)⟩⟩
  · obtain ⟨l,xs,rfl,e,q⟩:=DP.tuple v3
    exact .inl ⟨l,xs,rfl,e,fun p H' s e'=>k _ hb _ H' (rel3.same s) (K3.trans (Kp.same rel3 s)) ⟨Qet (fun a ha=>rel3.isl ha) s e' (Qi1 q _ _),Qdd e'⟩⟩
abbrev DF:=List Sl->(PyData->Prop)->XP->Prop
def Kq (pt:Addr->Prop) (H H':Hp):Prop:=(∀ b o,¬ pt b->H b=some o->H' b=some o)/\∀ p,pt p->∃ n,H' p=some (.lst [.int n])
def toSp (fr:Bool) (f:DF):Sp:=fun vs H Q Ex=>∃ (A pt:Addr->Prop) (args:List Sl) (R:PyData->Prop) (EX:XP),(∀ a,A a->∃ xs,H a=some (.lst xs))/\(∀ p,pt p->A p/\∃ n,H p=some (.lst [.int n]))/\Paired (Qe9 A pt H) vs args/\f args R EX /\
  (∀ d,R d->∀ v H',Kq pt H H'->DA A H' v d->(fr=true->FrV H H' v)->Q v H')/\∀ C,EX C->∀ H',Kq pt H H'->Ex (.ref C) none H'
def sNil:DSl:=fun _ Q _=>Q []
def sV (we:DE) (wr:DSl):DSl:=fun δ Q EX=>we δ (fun d=>wr δ (fun ds=>Q (.v d::ds)) EX) EX
def sPot (i:Nat) (wr:DSl):DSl:=fun δ Q EX=>match δ[i]? with
  | some .pot=>wr δ (fun ds=>Q (.pot::ds)) EX
  | _=>False
theorem Qmm:PA X [] (tAs X.K E sNil):=PA.imp Qaq fun σ H Q ⟨F,δ,R,EX,rel,hw,k,o⟩=>k [] hw [] H rel (Kp.refl rel) .nil
theorem pds_v {e:Expr} {es:List Expr} {we:DE} {wr:DSl} (he:PE X e (tX .D X.K E we)) (hr:PA X es (tAs X.K E wr)) (hs:notStar e=true:=by rfl):PA X (e::es) (tAs X.K E (sV we wr)):=by
  refine PA.imp (pa_c he hr hs) fun σ H Q ⟨F,δ,R,EX,rel,hw,k,o⟩=>?_
  refine ⟨F,δ,_,EX,rel,hw,fun d hd v H' rel' kp vk=>⟨F,δ,_,EX,rel',hd,fun ds hds vs H2 rel2 kp2 vks=>?_,o⟩,o⟩
  exact k _ hds (v::vs) H2 rel2 (kp.trans kp2) (.cons (kp2.da vk) vks)
theorem Qmk {e:Expr} {es:List Expr} {i:Nat} {wr:DSl} (he:PE X e (tVar i)) (hr:PA X es (tAs X.K E wr)) (hs:notStar e=true:=by rfl):PA X (e::es) (tAs X.K E (sPot i wr)):=by
  refine PA.imp (pa_c he hr hs) fun σ H Q ⟨F,δ,R,EX,rel,hw,k,o⟩=>?_
  unfold sPot at hw
  split at hw
  · rename_i hd
    obtain ⟨x,hx⟩:=rel.lt hd
    obtain ⟨p,n,rfl,e,q⟩:=rel.sl i _ _ hx hd
    refine ⟨.ref p,hx,F,δ,_,EX,rel,hw,fun ds hds vs H2 rel2 kp2 vks=>?_,o⟩
    exact k _ hds (.ref p::vs) H2 rel2 kp2 (.cons ⟨p,rfl,i,hx,hd⟩ vks)
  · exact hw.elim
def Qi0 (f:DF) (wa:DSl):DE:=fun δ Q EX=>wa δ (fun args=>f args Q EX) EX
theorem Kq.kp {K:PySem.W.Frag} {F:Fm} {σ:L2.St} {δ:Sts} {H H':Hp} (k:Kq (PotA σ δ) H H'):Kp σ δ H H':=k
theorem Qe0 {m:Md} {fr:Bool} {K:PySem.W.Frag} {f:DF} {wa:DSl} (hm:∀ {F:Fm} {σ:L2.St} {δ:Sts} {H H':Hp} {v:V} {d:PyData},DA (Av F σ δ) H' v d->(fr=true->FrV H H' v)->Vok m F σ δ H H' v d) (σ:L2.St) (H:Hp) (Q:VK) (h:tX m K E (Qi0 f wa) σ H Q):Qjv (toSp fr f) [] E (tAs K E wa) σ H Q:=by
  obtain ⟨F,δ,R,EX,rel,hw,k,o⟩:=h
  refine ⟨F,δ,_,EX,rel,hw,fun args ha vs H1 rel1 kp1 q=>?_,o⟩
  show toSp fr f (vs++[]) H1 Q E
  rw [List.append_nil]
  refine ⟨Av F σ δ,PotA σ δ,args,R,EX,fun a ha=>rel1.isl ha,fun p hp=>⟨QaY hp,(Kp.refl rel1).2 p hp⟩,q,ha,fun d hd v H' kq dv fr=>?_,fun C hC H' kq=>o C hC H' (rel1.kp kq).ke⟩
  exact k d hd v H' (rel1.kp kq) (kp1.trans kq) (hm dv fun z l e1 e2=>Qbw kp1 (fr z l e1 e2))
variable {CX:CXT} {k:Nat} {f:Addr} {fd:FuncData} {ps:List Str} {x:Str} {p pos:Pos} {e:Expr} {es:List Expr} {fD:DF} {wa:DSl}
theorem Qmz (G:FnOk X.prog X.w X.K X.mg X.base CX k f fd ps (toSp false fD)) (hr:Room k X.A) (hg:Gl X x) (hm:X.mg x=some (.ref f)) (hk:PySem.W.keepIn X.K (.ref f)=true) (hb:Binds X.K fd ps []) (hx:QbG CX X E)
    (ha:PA X (e::es) (tAs X.K E wa)) (hdb:(x == ("__debug__" : Str))=false:=by decide) (he:starEach (e::es) X.env=(false,eval e X.env)::starEach es X.env:=by rfl) (hpl:(backTo pos (starEach es X.env)).any (·.1)=false:=by rfl) :
    PE X (.Call (.Name x p) (e::es) [] pos) (tX .D X.K E (Qi0 fD wa)):=PE.imp (Qcq G hr hg hm hk hb .nil hx ha hdb he hpl) (Qe0 fun h _=>h)
theorem Qkd (G:FnOk X.prog X.w X.K X.mg X.base CX k f fd ps (toSp true fD)) (hr:Room k X.A) (hg:Gl X x) (hm:X.mg x=some (.ref f)) (hk:PySem.W.keepIn X.K (.ref f)=true) (hb:Binds X.K fd ps []) (hx:QbG CX X E)
    (ha:PA X (e::es) (tAs X.K E wa)) (hdb:(x == ("__debug__" : Str))=false:=by decide) (he:starEach (e::es) X.env=(false,eval e X.env)::starEach es X.env:=by rfl) (hpl:(backTo pos (starEach es X.env)).any (·.1)=false:=by rfl) :
    PE X (.Call (.Name x p) (e::es) [] pos) (tX .F X.K E (Qi0 fD wa)):=PE.imp (Qcq G hr hg hm hk hb .nil hx ha hdb he hpl) (Qe0 fun h z=>⟨h,z rfl⟩)
def scal:PyData->Bool
  | .list _=>false
  | .tuple _=>false
  | .dict _=>false
  | _=>true
theorem QlM {A A':Addr->Prop} {H:Hp} {v:V} {d:PyData} (h:DA A H v d) (s:scal d=true):DA A' H v d:=by
  cases h with
  | non=>exact .non
  | bl b=>exact .bl b
  | int i=>exact .int i
  | str x c=>exact .str x c
  | tup _ _ _=>cases s
  | lst _ _ _=>cases s
  | dct _ _=>cases s
def Lent (P:Addr->Prop) (H:Hp) (vs:List V) (a:Addr):Prop:=V.ref a∈vs/\¬ P a
theorem QeQ {A P:Addr->Prop} {H:Hp} (ws:List V):∀ {vs:List V} {ds:List PyData},(∀ v∈vs,v∈ws)->Paired (VD .P A P H) vs ds->Paired (Qe9 (fun a=>A a/\¬ Lent P H ws a) (fun _=>False) H) vs (ds.map Sl.v)
  | _,_,_,.nil=>.nil
  | v::vs,d::ds,m,.cons a b=>by
    refine .cons ?_ (QeQ ws (fun v hv=>m v (List.mem_cons_of_mem _ hv)) b)
    rcases a with a | ⟨l,xs,ds,rfl,rfl,n,e,q⟩
    · exact a.mv (fun _ _ _ e=>e) fun a z=>.inl z.1
    · exact .lst (fun z=>z.2 ⟨m _ List.mem_cons_self,n⟩) e (q.mv (fun _ _ _ e=>e) fun a z=>.inl z.1)
end
abbrev DG:=PyData->Sts->(Sts->Prop)->Prop
def tG (ix:List Nat) (K:PySem.W.Frag) (w:DG):TG:=fun v σ H Q=>∃ (F:Fm) (δ:Sts) (d:PyData) (R:Sts->Prop),Rel K F σ H δ/\DA (Av F σ δ) H v d/\w d δ R /\
  ∀ δ',R δ'->∀ σ',Rel K F σ' H δ'->Stp F σ H δ σ' H δ'->σ'.length=σ.length->(∀ j,j∉ix->σ'[j]? = σ[j]?)->Q σ' H
theorem Qa7 {α:Type} {l:List α} {i j:Nat} {x:α} (h:j≠i):(l.set i x)[j]? = l[j]? := List.getElem?_set_ne (Ne.symm h)
theorem set_eq {α:Type} {l:List α} {i:Nat} {x y:α} (h:(l.set i x)[i]? = some y):y=x:=by
  rw [List.getElem?_set] at h
  simp only [if_true] at h
  split at h
  · exact (Option.some.inj h).symm
  · cases h
theorem Qdn {F:Fm} {σ:L2.St} {δ:Sts} {i:Nat} {o:Option V} {d:PyData} {a:Addr} (h:Av F (σ.set i o) (δ.set i (.v d)) a):Av F σ δ a:=by
  rcases h with h | ⟨j,h1,h2⟩
  · exact .inl h
  · by_cases z:j=i
    · subst z
      rcases h2 with h2 | ⟨ds,h2⟩<;>cases set_eq h2
    · rw [Qa7 z] at h1 h2
      exact .inr ⟨j,h1,h2⟩
theorem Rel.setv {K:PySem.W.Frag} {F:Fm} {σ:L2.St} {H:Hp} {δ:Sts} (r:Rel K F σ H δ) {i:Nat} {v:V} {d:PyData} (q:DA (Av F σ δ) H v d):Rel K F (σ.set i (some v)) H (δ.set i (.v d)) where
  len:=by rw [List.length_set,List.length_set];exact r.len
  dom:=r.dom
  dom0:=r.dom0
  pt0:=r.pt0
  kx:=r.kx
  sl:=fun j o x h1 h2=>by
    have wk:∀ {v:V} {d':PyData},DA (Av F σ δ) H v d'->DA (Av F (σ.set i (some v)) (δ.set i (.v d))) H v d':=fun h=>h.mv (fun _ _ _ e=>e) fun a z=>.inl (Qdn z)
    by_cases z:j=i
    · subst z
      cases set_eq h1
      cases set_eq h2
      exact ⟨v,rfl,q.mv (fun _ _ _ e=>e) fun a z=>.inl (Qdn z)⟩
    · rw [Qa7 z] at h1 h2
      have h:=r.sl j o x h1 h2
      cases x with
      | no=>trivial
      | v d=>obtain ⟨v',e,q'⟩:=h;exact ⟨v',e,q'.mv (fun _ _ _ e=>e) fun a z=>.inl (Qdn z)⟩
      | own ds=>obtain ⟨l,xs,e,e2,q',f⟩:=h;exact ⟨l,xs,e,e2,q'.mv (fun _ _ _ e=>e) fun a z=>.inl (Qdn z),f⟩
      | pk ds=>obtain ⟨l,xs,e,e2,q',f⟩:=h;exact ⟨l,xs,e,e2,q'.mv (fun _ _ _ e=>e) fun a z=>.inl (Qdn z),f⟩
      | pot=>exact h
      | scr=>exact h
  inj:=fun j k a ds h1 h2 ⟨h3,h4⟩=>by
    by_cases z:j=i
    · subst z;cases set_eq h1
    · rw [Qa7 z] at h1 h2
      by_cases z2:k=i
      · subst z2
        rcases h4 with h4 | ⟨ds,h4⟩<;>cases set_eq h4
      · rw [Qa7 z2] at h3 h4
        exact r.inj j k a ds h1 h2 ⟨h3,h4⟩
theorem Stp.setv {F:Fm} {σ:L2.St} {H:Hp} {δ:Sts} {i:Nat} {o:Option V} {d:PyData}:Stp F σ H δ (σ.set i o) H (δ.set i (.v d)):=⟨fun _ _ _ e=>e,fun a z=>.inl (Qdn z)⟩
def gN (i:Nat):DG:=fun d δ Q=>Q (δ.set i (.v d))
def Qf3:Sts->List Nat->List PyData->Sts
  | δ,i::is,d::ds=>Qf3 (δ.set i (.v d)) is ds
  | δ,_,_=>δ
def gTN (is:List Nat):DG:=fun d δ Q=>match d with
  | .tuple ds=>ds.length=is.length/\Q (Qf3 δ is ds)
  | _=>False
section
variable {X:Cx} {E:XK}
theorem PG.imp {e:Expr} {t t':TG} (h:PG X e t) (i:∀ v σ H Q,t' v σ H Q->t v σ H Q):PG X e t':=fun pins s σ H v u Q I r q=>h pins s σ H v u Q I r (i v σ H Q q)
theorem Qkb {e:Expr} {i:Nat} (h:PG X e (QcK i)):PG X e (tG [i] X.K (gN i)):=PG.imp h fun v σ H Q ⟨F,δ,d,R,rel,dv,hw,k⟩=>
  k _ hw _ (rel.setv dv) Stp.setv (List.length_set ..) fun j hj=>Qa7 fun z=>hj (by rw [z];exact List.mem_singleton.mpr rfl)
def gNs:List Nat->TGs
  | []=>gNil
  | i::is=>QkG (QcK i) (gNs is)
theorem Qgr {K:PySem.W.Frag} {F:Fm} {H:Hp} {Q:L2.St->Hp->Prop}:∀ (is:List Nat) (vs:List V) (ds:List PyData) (σ:L2.St) (δ:Sts),ds.length=is.length->Rel K F σ H δ->DAs (Av F σ δ) H vs ds ->
    (∀ σ',Rel K F σ' H (Qf3 δ is ds)->Stp F σ H δ σ' H (Qf3 δ is ds)->σ'.length=σ.length->(∀ j,j∉is->σ'[j]? = σ[j]?)->Q σ' H)->gNs is vs σ H Q
  | [],vs,ds,σ,δ,hl,rel,q,k=>by
    cases ds with
    | nil=>cases q;exact ⟨rfl,k σ rel Stp.refl rfl fun _ _=>rfl⟩
    | cons d ds=>cases hl
  | i::is,vs,ds,σ,δ,hl,rel,q,k=>by
    cases ds with
    | nil=>cases hl
    | cons d ds=>
      cases q with
      | @cons v vs _ _ q qs=>
        refine ⟨v,vs,rfl,?_⟩
        refine Qgr is vs ds _ _ (by simpa using hl) (rel.setv q) (qs.mv (fun _ _ _ e=>e) fun a z=>.inl (Qdn z)) fun σ' r' st hl' hj=>?_
        refine k σ' r' (Stp.setv.trans st) (by rw [hl',List.length_set]) fun j hn=>?_
        rw [hj j (fun z=>hn (List.mem_cons_of_mem _ z)),Qa7 (fun z=>hn (by rw [z];exact List.mem_cons_self))]
theorem Qmt {e:Expr} {n:Nat} {is:List Nat} (h:PG X e (gTup X.K n (gNs is))) (hn:is.length=n:=by rfl):PG X e (tG is X.K (gTN is)):=PG.imp h fun v σ H Q ⟨F,δ,d,R,rel,dv,hw,k⟩=>by
  unfold gTN at hw
  split at hw
  · obtain ⟨hl,hR⟩:=hw
    cases dv with
    | @tup a xs ds na e q=>
      exact ⟨a,xs,rfl,SqT.of e,by rw [q.length,hl,hn],Qgr is xs _ σ δ hl rel q fun σ' r' st hl' hj=>k _ hR σ' r' st hl' hj⟩
  · exact hw.elim
def ItD (A S:Addr->Prop) (J:It) (items:List PyData) (H1:Hp):Prop:=items.length<=sizeLine/\∀ (H2:Hp) (A':Addr->Prop),(∀ b o,S b->H1 b=some o->H2 b=some o)->(∀ b,A' b->A b∨H1 b=none)->(∀ a,A' a->∃ xs,H2 a=some (.lst xs)) ->
  (∀ (i:Nat) d,items[i]? = some d->J.go i H2/\∀ x H3,J.yld i H2 x H3->Same H2 H3/\DA A' H3 x d)/\J.stop items.length H2
def Sx (m:Md) (F:Fm) (σ:L2.St) (δ:Sts) (b:Addr):Prop:=
  match m with
  | .P=>¬ PotA σ δ b
  | _=>¬ Av F σ δ b
abbrev DI:=Sts->(List PyData->Prop)->XP->Prop
def tI (m:Md) (K:PySem.W.Frag) (E:XK) (w:DI):TI:=fun σ H R=>∃ (F:Fm) (δ:Sts) (R':List PyData->Prop) (EX:XP),Rel K F σ H δ/\w δ R' EX/\(∀ items,R' items->∀ J H',Rel K F σ H' δ->Kp σ δ H H'->ItD (Av F σ δ) (Sx m F σ δ) J items H'->R J H')/\Out F E EX
theorem PI.imp {tg e:Expr} {t t':TI} (h:PI X tg e t) (i:∀ σ H R,QbN H->t' σ H R->t σ H R):PI X tg e t':=fun pins s σ H R I q=>h pins s σ H R I (i σ H R (Inv.lens I) q)
theorem PI.len {tg e:Expr} {t:TI} (h:PI X tg e t):PI X tg e (fun σ H R=>t σ H fun J H1=>QbN H1->R J H1):=fun pins s σ H R I q=>by
  refine thn (h pins s σ H _ I q) fun v s1 h1=>thn h1 fun itv s2 h2=>?_
  obtain ⟨it,fp,tn,J,H',e,I',T,t0,fo,hR⟩:=h2
  exact ⟨it,fp,tn,J,H',e,I',T,t0,fo,hR (Inv.lens I')⟩
def dItL (w:DE):DI:=fun δ Q EX=>w δ (fun d=>match d with
  | .list ds=>Q ds
  | _=>False) EX
def dItT (w:DE):DI:=fun δ Q EX=>w δ (fun d=>match d with
  | .tuple ds=>Q ds
  | _=>False) EX
theorem QdT {A S:Addr->Prop} {H H2:Hp} {A':Addr->Prop} {xs:List V} {ds:List PyData} (sA:∀ b,¬ A b->S b) (k:∀ b o,S b->H b=some o->H2 b=some o) (m:∀ b,A' b->A b∨H b=none) (q:DAs A H xs ds):DAs A' H2 xs ds:=q.mv (fun a o n e=>k a o (sA a n) e) m
theorem itl_d {K:PySem.W.Frag} {A S:Addr->Prop} {H:Hp} {l:Addr} {xs:List V} {ds:List PyData} (sA:∀ b,¬ A b->S b) (sl:S l) (e:H l=some (.lst xs)) (q:DAs A H xs ds) (ln:xs.length<=sizeLine):ItD A S (Itl K l) ds H:=by
  refine ⟨by rw [<- q.length];exact ln,fun H2 A' k m dm=>⟨fun i d hd=>?_,xs,SqL.of (k _ _ sl e),by rw [q.length];exact Nat.le_refl _⟩⟩
  obtain ⟨x,hx,dx⟩:=(QdT sA k m q).get i d hd
  refine ⟨⟨xs,x,SqL.of (k _ _ sl e),hx⟩,fun y H3 ⟨e3,hy⟩=>?_⟩
  subst e3
  have:=hy xs (SqL.of (k _ _ sl e))
  rw [hx] at this
  cases this
  exact ⟨Same.refl _,dx⟩
theorem itt_d {K:PySem.W.Frag} {A S:Addr->Prop} {H:Hp} {l:Addr} {xs:List V} {ds:List PyData} (sA:∀ b,¬ A b->S b) (sl:S l) (e:H l=some (.tup xs)) (q:DAs A H xs ds) (ln:xs.length<=sizeLine):ItD A S (Itt K l) ds H:=by
  refine ⟨by rw [<- q.length];exact ln,fun H2 A' k m dm=>⟨fun i d hd=>?_,xs,SqT.of (k _ _ sl e),by rw [q.length];exact Nat.le_refl _⟩⟩
  obtain ⟨x,hx,dx⟩:=(QdT sA k m q).get i d hd
  refine ⟨⟨xs,x,SqT.of (k _ _ sl e),hx⟩,fun y H3 ⟨e3,hy⟩=>?_⟩
  subst e3
  have:=hy xs (SqT.of (k _ _ sl e))
  rw [hx] at this
  cases this
  exact ⟨Same.refl _,dx⟩
theorem Qho {m:Md} {F:Fm} {σ:L2.St} {δ:Sts} {b:Addr} (h:¬ Av F σ δ b):Sx m F σ δ b:=by
  cases m
  · exact h
  · exact fun z=>h (QaY z)
  · exact h
theorem stL {m:Md} {F:Fm} {σ:L2.St} {δ:Sts} {H H':Hp} {v:V} {ds:List PyData} (h:VD m (Av F σ δ) (PotA σ δ) H v (.list ds)):∃ l xs,v=.ref l/\Sx m F σ δ l/\H l=some (.lst xs)/\DAs (Av F σ δ) H xs ds:=by
  cases m
  · cases h with | @lst a xs _ n e q=>exact ⟨a,xs,rfl,n,e,q⟩
  · rcases h with h | ⟨l,xs,ds',rfl,e,n,e2,q⟩
    · cases h with | @lst a xs _ n e q=>exact ⟨a,xs,rfl,Qho n,e,q⟩
    · cases e;exact ⟨l,xs,rfl,n,e2,q⟩
  · cases h with | @lst a xs _ n e q=>exact ⟨a,xs,rfl,n,e,q⟩
theorem stT {m:Md} {F:Fm} {σ:L2.St} {δ:Sts} {H H':Hp} {v:V} {ds:List PyData} (h:VD m (Av F σ δ) (PotA σ δ) H v (.tuple ds)):∃ l xs,v=.ref l/\Sx m F σ δ l/\H l=some (.tup xs)/\DAs (Av F σ δ) H xs ds:=by
  cases m
  · cases h with | @tup a xs _ n e q=>exact ⟨a,xs,rfl,n,e,q⟩
  · rcases h with h | ⟨l,xs,ds',rfl,e,n,e2,q⟩
    · cases h with | @tup a xs _ n e q=>exact ⟨a,xs,rfl,Qho n,e,q⟩
    · cases e
  · cases h with | @tup a xs _ n e q=>exact ⟨a,xs,rfl,n,e,q⟩
theorem Qhe {m:Md} {F:Fm} {σ:L2.St} {δ:Sts} {H H':Hp} {v:V} {d:PyData} (h:Vok m F σ δ H H' v d):VD m (Av F σ δ) (PotA σ δ) H' v d:=by
  cases m
  · exact h
  · exact h
  · exact h.1
variable {m:Md} {tg e e':Expr} {w w':DE} {p pos tpos:Pos}
theorem Qka (h:PE X e (tX m X.K E w)):PI X tg e (tI m X.K E (dItL w)):=by
  refine PI.imp (PI.len (Qma h)) fun σ H R _ ⟨F,δ,R',EX,rel,hw,k,o⟩=>?_
  refine ⟨F,δ,_,EX,rel,hw,fun d hd v H' rel' kp vk=>?_,o⟩
  cases d<;>first | exact (show False from hd).elim | skip
  obtain ⟨l,xs,rfl,sl,e,q⟩:=stL (H':=H') (Qhe vk)
  exact ⟨l,rfl,⟨xs,SqL.of e⟩,fun ln=>k _ hd _ H' rel' kp (itl_d (fun b=>Qho) sl e q (ln _ _ (.inl e)))⟩
theorem Qms (h:PE X e (tX m X.K E w)):PI X tg e (tI m X.K E (dItT w)):=by
  refine PI.imp (PI.len (pi_tup h)) fun σ H R _ ⟨F,δ,R',EX,rel,hw,k,o⟩=>?_
  refine ⟨F,δ,_,EX,rel,hw,fun d hd v H' rel' kp vk=>?_,o⟩
  cases d<;>first | exact (show False from hd).elim | skip
  obtain ⟨l,xs,rfl,sl,e,q⟩:=stT (H':=H') (Qhe vk)
  exact ⟨l,rfl,⟨xs,SqT.of e⟩,fun ln=>k _ hd _ H' rel' kp (itt_d (fun b=>Qho) sl e q (ln _ _ (.inr e)))⟩
def rngD (lo:Int) (n:Nat):List PyData:=(List.range n).map fun (i:Nat)=>.int (lo+i)
theorem QdU {lo:Int} {n i:Nat} {d:PyData} (h:(rngD lo n)[i]? = some d):i<n/\d=.int (lo+i):=by
  unfold rngD at h
  rw [List.getElem?_map] at h
  by_cases z:i<n
  · rw [List.getElem?_range z] at h
    exact ⟨z,(Option.some.inj h).symm⟩
  · rw [List.getElem?_eq_none (by rw [List.length_range];omega)] at h
    cases h
theorem Qfm {lo:Int} {n:Nat}:(rngD lo n).length=n:=by unfold rngD;rw [List.length_map,List.length_range]
theorem itr_d {A S:Addr->Prop} {H:Hp} {lo:Int} {n:Nat} (hn:n<=1000000):ItD A S (Itr lo n) (rngD lo n) H:=by
  refine ⟨by rw [Qfm];exact Nat.le_trans hn QeP,fun H2 A' k m dm=>⟨fun i d hd=>?_,by rw [Qfm];exact Nat.le_refl _⟩⟩
  obtain ⟨hi,rfl⟩:=QdU hd
  exact ⟨hi,fun x H3 ⟨e1,e2⟩=>by subst e1 e2;exact ⟨Same.refl _,.int _⟩⟩
def dRng1 (w:DE):DI:=fun δ Q EX=>w δ (fun d=>match d with
  | .int j=>(-1000000<=j/\j<=1000000)/\Q (rngD 0 j.toNat)
  | _=>False) EX
theorem Qj9 (hg:Gl X "range") (hm:X.mg "range" = none) (h:PE X e (tX .P X.K E w)) (hs:notStar e=true:=by rfl):PI X tg (.Call (.Name "range" p) [e] [] pos) (tI m X.K E (dRng1 w)):=by
  refine PI.imp (QeJ hg hm (pa_c h Qaq hs) (by rw [QaW hs];rfl)) fun σ H R _ ⟨F,δ,R',EX,rel,hw,k,o⟩=>?_
  refine ⟨F,δ,_,EX,rel,hw,fun d hd v H' rel' kp vk=>?_,o⟩
  cases d<;>first | exact (show False from hd).elim | skip
  obtain ⟨⟨h1,h2⟩,hR⟩:=hd
  rw [DP.int vk]
  exact ⟨_,rfl,by omega,by omega,k _ hR _ H' rel' kp (itr_d (by omega))⟩
theorem QmA {A':Addr->Prop} {H2:Hp} {r:Addr} {x y:V} {d d':PyData} (dm:∀ a,A' a->∃ xs,H2 a=some (.lst xs)) (n:H2 r=none) (q:DA A' H2 x d) (q':DA A' H2 y d'):DA A' (upd H2 r (.tup [x,y])) (.ref r) (.tuple [d,d']):=
  .tup (fun z=>by obtain ⟨xs,e⟩:=dm r z;rw [n] at e;cases e) Qaf (.cons (q.same (Qad n)) (.cons (q'.same (Qad n)) .nil))
def Qg1 (ds:List PyData):List PyData:=(List.range ds.length).map fun (i:Nat)=>.tuple [.int i,ds.getD i .none]
theorem Qgt {ds:List PyData} {i:Nat} {d:PyData} (h:(Qg1 ds)[i]? = some d):∃ e,ds[i]? = some e/\d=.tuple [.int i,e]:=by
  unfold Qg1 at h
  rw [List.getElem?_map] at h
  by_cases z:i<ds.length
  · rw [List.getElem?_range z] at h
    refine ⟨ds[i],List.getElem?_eq_getElem z,?_⟩
    rw [<- Option.some.inj h]
    show PyData.tuple [.int i,ds.getD i .none]=_
    rw [List.getD_eq_getElem?_getD,List.getElem?_eq_getElem z]
    rfl
  · rw [List.getElem?_eq_none (by rw [List.length_range];omega)] at h
    cases h
theorem Qec {ds:List PyData}:(Qg1 ds).length=ds.length:=by unfold Qg1;rw [List.length_map,List.length_range]
def dEnL (w:DE):DI:=fun δ Q EX=>w δ (fun d=>match d with
  | .list ds=>Q (Qg1 ds)
  | _=>False) EX
variable {elts:List Expr}
theorem Qh5 {x1} (hg:Gl X "enumerate") (hm:X.mg "enumerate" = none) (h:PE X e (tX m X.K E w)) (hs:notStar e=true:=by rfl):PI X (.Tuple elts x1 tpos) (.Call (.Name "enumerate" p) [e] [] pos) (tI m X.K E (dEnL w)):=by
  refine PI.imp (PI.len (Qmb hg hm (pa_c h Qaq hs) (by rw [QaW hs];rfl))) fun σ H R _ ⟨F,δ,R',EX,rel,hw,k,o⟩=>?_
  refine ⟨F,δ,_,EX,rel,hw,fun d hd v H' rel' kp vk=>?_,o⟩
  cases d<;>first | exact (show False from hd).elim | skip
  obtain ⟨l,xs,rfl,sl,e,q⟩:=stL (H':=H') (Qhe vk)
  refine ⟨l,xs,rfl,e,fun ln=>k _ hd _ H' rel' kp ⟨by rw [Qec,<- q.length];exact ln _ _ (.inl e),fun H2 A' kk mm dm=>⟨fun i d hd'=>?_,xs,kk _ _ sl e,by rw [Qec,q.length];exact Nat.le_refl _⟩⟩⟩
  obtain ⟨d',hd2,rfl⟩:=Qgt hd'
  obtain ⟨x,hx,dx⟩:=(QdT (S:=Sx m F σ δ) (fun b=>Qho) kk mm q).get i d' hd2
  refine ⟨⟨xs,x,kk _ _ sl e,hx⟩,fun y H3 ⟨r,x',nr,hx',e1,e2⟩=>?_⟩
  subst e1 e2
  have:=hx' xs (kk _ _ sl e)
  rw [hx] at this
  cases this
  exact ⟨Qad nr,QmA dm nr (.int _) dx⟩
end
def Qnt:Option Sl->Sl
  | some (.v d)=>.v d
  | some (.own ds)=>.pk ds
  | some (.pk ds)=>.pk ds
  | some .pot=>.pot
  | _=>.no
def capD (cap:List (Option Nat)) (δ:Sts):Sts:=cap.map fun o=>match o with
  | none=>.no
  | some j=>Qnt δ[j]?
theorem Qeh {cap:List (Option Nat)} {σ:L2.St} {i:Nat} {o:Option V} (h:(capS cap σ)[i]? = some o):(cap[i]? = some none/\o=none)∨∃ j,cap[i]? = some (some j)/\o=(σ[j]?).getD none:=by
  unfold capS at h
  rw [List.getElem?_map] at h
  obtain ⟨c,hc,rfl⟩:=Option.map_eq_some_iff.mp h
  cases c with
  | none=>exact .inl ⟨hc,rfl⟩
  | some j=>exact .inr ⟨j,hc,rfl⟩
theorem Qej {cap:List (Option Nat)} {δ:Sts} {i:Nat} {x:Sl} (h:(capD cap δ)[i]? = some x):(cap[i]? = some none/\x=.no)∨∃ j,cap[i]? = some (some j)/\x=Qnt δ[j]? := by
  unfold capD at h
  rw [List.getElem?_map] at h
  obtain ⟨c,hc,rfl⟩:=Option.map_eq_some_iff.mp h
  cases c with
  | none=>exact .inl ⟨hc,rfl⟩
  | some j=>exact .inr ⟨j,hc,rfl⟩
theorem Qbl {cap:List (Option Nat)} {σ:L2.St} {δ:Sts} {i:Nat} {o:Option V} {x:Sl} (h1:(capS cap σ)[i]? = some o) (h2:(capD cap δ)[i]? = some x) (hx:x≠.no):∃ (j:Nat) (y:Sl),δ[j]? = some y/\x=Qnt (some y)/\o=(σ[j]?).getD none:=by
  rcases Qej h2 with ⟨_,e⟩ | ⟨j,hj,e⟩
  · exact absurd e hx
  · rcases Qeh h1 with ⟨z,_⟩ | ⟨j',hj',e'⟩
    · rw [hj] at z;cases z
    · rw [hj] at hj'
      cases hj'
      cases e2:δ[j]? with
      | none=>rw [e2] at e;exact absurd e hx
      | some y=>exact ⟨j,y,e2,by rw [e,e2],e'⟩
theorem Qb1 {cap:List (Option Nat)} {σ:L2.St} {δ:Sts} {a:Addr} (h:PotA (capS cap σ) (capD cap δ) a):PotA σ δ a:=by
  obtain ⟨i,h1,h2⟩:=h
  obtain ⟨j,y,hy,e,eo⟩:=Qbl h1 h2 (fun z=>by cases z)
  cases y<;>first | (cases e;done) | skip
  refine ⟨j,?_,hy⟩
  cases e2:σ[j]? with
  | none=>rw [e2] at eo;cases eo
  | some o'=>rw [e2] at eo;exact congrArg some eo.symm
def inF (A1:Addr->Prop) (cap:List (Option Nat)) (σ:L2.St) (δ:Sts) (H:Hp):Fm:=⟨H,A1,PotA (capS cap σ) (capD cap δ)⟩
theorem Qgq {A1:Addr->Prop} {cap:List (Option Nat)} {σ:L2.St} {δ:Sts} {H:Hp} (h:∀ a,PotA σ δ a->A1 a) {a:Addr}:Av (inF A1 cap σ δ H) (capS cap σ) (capD cap δ) a↔A1 a:=by
  constructor
  · rintro (z | ⟨i,h1,h2⟩)
    · exact z
    · rcases h2 with h2 | ⟨ds,h2⟩
      · exact h a (Qb1 ⟨i,h1,h2⟩)
      · obtain ⟨j,y,hy,e,eo⟩:=Qbl h1 h2 (fun z=>by cases z)
        cases y<;>cases e
  · exact .inl
theorem QiI {K:PySem.W.Frag} {F:Fm} {σ:L2.St} {δ:Sts} {H1 H3:Hp} {A1:Addr->Prop} {cap:List (Option Nat)} (rel:Rel K F σ H1 δ) (hA:∀ a,Av F σ δ a->A1 a) (hN:∀ a,A1 a->Av F σ δ a∨H1 a=none)
    (dm:∀ a,A1 a->∃ xs,H3 a=some (.lst xs)) (kp:Kp σ δ H1 H3):Rel K (inF A1 cap σ δ H3) (capS cap σ) H3 (capD cap δ) where
  len:=by unfold capS capD;rw [List.length_map,List.length_map]
  dom:=dm
  dom0:=dm
  pt0:=fun p hp=>⟨hA p (QaY (Qb1 hp)),kp.2 p (Qb1 hp)⟩
  kx:=fun b o _ e=>e
  sl:=fun i o x h1 h2=>by
    have iv:∀ {a:Addr},Av (inF A1 cap σ δ H3) (capS cap σ) (capD cap δ) a->A1 a:=fun {a}=>(Qgq fun a z=>hA a (QaY z)).mp
    have mv:∀ {v:V} {d:PyData},DA (Av F σ δ) H1 v d->DA (Av (inF A1 cap σ δ H3) (capS cap σ) (capD cap δ)) H3 v d:=fun q=>q.mv (fun a o n e=>kp.1 a o (fun z=>n (QaY z)) e) fun a z=>hN a (iv z)
    have mvs:∀ {v:List V} {d:List PyData},DAs (Av F σ δ) H1 v d->DAs (Av (inF A1 cap σ δ H3) (capS cap σ) (capD cap δ)) H3 v d:=fun q=>q.mv (fun a o n e=>kp.1 a o (fun z=>n (QaY z)) e) fun a z=>hN a (iv z)
    cases x with
    | no=>trivial
    | own ds=>
      obtain ⟨j,y,hy,e,eo⟩:=Qbl h1 h2 (fun z=>by cases z)
      cases y<;>cases e
    | scr=>
      obtain ⟨j,y,hy,e,eo⟩:=Qbl h1 h2 (fun z=>by cases z)
      cases y<;>cases e
    | v d=>
      obtain ⟨j,y,hy,e,eo⟩:=Qbl h1 h2 (fun z=>by cases z)
      cases y<;>first | (cases e;done) | skip
      cases e
      obtain ⟨x,hx⟩:=rel.lt hy
      obtain ⟨v,rfl,q⟩:=rel.sl j _ _ hx hy
      rw [hx] at eo
      exact ⟨v,eo,mv q⟩
    | pk ds=>
      obtain ⟨j,y,hy,e,eo⟩:=Qbl h1 h2 (fun z=>by cases z)
      cases y<;>first | (cases e;done) | skip
      · cases e
        obtain ⟨x,hx⟩:=rel.lt hy
        obtain ⟨l,xs,rfl,e,q,f⟩:=rel.sl j _ _ hx hy
        rw [hx] at eo
        have np:=rel.own_pot hy hx
        exact ⟨l,xs,eo,kp.1 _ _ np e,mvs q,xs,kp.1 _ _ np e,fun z=>np (Qb1 z)⟩
      · cases e
        obtain ⟨x,hx⟩:=rel.lt hy
        obtain ⟨l,xs,rfl,e,q,ys,f,f2⟩:=rel.sl j _ _ hx hy
        rw [hx] at eo
        have np:¬ PotA σ δ l:=by
          rintro ⟨j,j1,j2⟩
          obtain ⟨p,m,e1,_,w⟩:=rel.sl j _ _ j1 j2
          cases e1
          rcases w with w | w
          · exact f2 w
          · rw [w] at f;cases f
        exact ⟨l,xs,eo,kp.1 _ _ np e,mvs q,xs,kp.1 _ _ np e,fun z=>np (Qb1 z)⟩
    | pot=>
      obtain ⟨j,y,hy,e,eo⟩:=Qbl h1 h2 (fun z=>by cases z)
      cases y<;>first | (cases e;done) | skip
      obtain ⟨x,hx⟩:=rel.lt hy
      obtain ⟨p,n,rfl,e,q⟩:=rel.sl j _ _ hx hy
      rw [hx] at eo
      obtain ⟨m,em⟩:=kp.2 p ⟨j,hx,hy⟩
      have eo':o=some (.ref p):=eo
      subst eo'
      exact ⟨p,m,rfl,em,.inl ⟨i,h1,h2⟩⟩
  inj:=fun i j a ds h1 h2 _=>by
    obtain ⟨j,y,hy,e,eo⟩:=Qbl h2 h1 (fun z=>by cases z)
    cases y<;>cases e
theorem Qjr:∀ {σ σ':L2.St},σ'.length=σ.length->(∀ (i:Nat) v,σ[i]? = some (some v)->σ'[i]? = some (some v))->Wk σ σ'
  | [],[],_,_=>trivial
  | [],_::_,h,_=>by cases h
  | _::_,[],h,_=>by cases h
  | none::a,x::b,h,g=>Qjr (σ:=a) (σ':=b) (by simpa using h) fun i v e=>by simpa using g (i+1) v (by simpa using e)
  | some u::a,x::b,h,g=>by
    have h0:=g 0 u rfl
    simp only [List.getElem?_cons_zero,Option.some.injEq] at h0
    subst h0
    exact ⟨rfl,Qjr (σ:=a) (σ':=b) (by simpa using h) fun i v e=>by simpa using g (i+1) v (by simpa using e)⟩
def Qb0 (cap:List (Option Nat)) (ix:List Nat):Bool:=ix.all fun i=>match cap[i]? with
  | some none=>true
  | _=>false
theorem QlA {cap:List (Option Nat)} {ix:List Nat} (hf:Qb0 cap ix=true) {σ σ4:L2.St} (hl:σ4.length=(capS cap σ).length) (hj:∀ j,j∉ix->σ4[j]? = (capS cap σ)[j]?):Wk (capS cap σ) σ4:=by
  refine Qjr hl fun i v e=>?_
  by_cases z:i∈ix
  · have:=List.all_eq_true.mp hf i z
    rcases Qeh e with ⟨_,e2⟩ | ⟨j,hj2,_⟩
    · cases e2
    · rw [hj2] at this;cases this
  · rw [hj i z];exact e
def XF:XP:=fun _=>False
@[irreducible] def Qep (items:List PyData) (wg:DG) (wt:DT) (we:DE) (δ:Sts) (Q:PyData->Prop):Prop:=∃ Iv:Nat->List PyData->Prop,Iv 0 [] /\
  (∀ (i:Nat) acc d,items[i]? = some d->Iv i acc->wg d δ fun δ4=>wt δ4 (fun b=>if b=true then we δ4 (fun e=>Iv (i+1) (acc++[e])) XF else Iv (i+1) acc) XF)/\∀ acc,Iv items.length acc->Q (.list acc)
def dComp (cap:List (Option Nat)) (wi:DI) (wg:DG) (wt:DT) (we:DE):DE:=fun δ Q EX=>wi δ (fun items=>Qep items wg wt we (capD cap δ) Q) EX
def dNoT:DT:=fun _ Q _=>Q true
section
variable {X:Cx} {E:XK}
theorem outF {F:Fm} {E:XK}:Out F E XF:=fun _ z=>z.elim
theorem PTs.imp {es:List Expr} {t t':TT} (h:PTs X es t) (i:∀ σ H Q,t' σ H Q->t σ H Q):PTs X es t':=fun pins s σ H Q I q=>h pins s σ H Q I (i σ H Q q)
theorem QjY:PTs X [] (tT X.K E dNoT):=PTs.imp QhU fun σ H Q ⟨F,δ,R,EX,rel,hw,k,o⟩=>k _ hw H rel (Kp.refl rel)
theorem QjX {c:Expr} {t:DT} (h:PT X c (tT X.K E t)):PTs X [c] (tT X.K E t):=Ql3 h
theorem QfE {K:PySem.W.Frag} {A1:Addr->Prop} {cap:List (Option Nat)} {σ σ4:L2.St} {δ δ4:Sts} {H3 H4:Hp} (r:Rel K (inF A1 cap σ δ H3) σ4 H4 δ4) (hk:∀ b o,¬ PotA σ δ b->H4 b=some o->H3 b=none->False) {b:Addr} (h:PotA σ4 δ4 b):PotA σ δ b:=by
  obtain ⟨i,h1,h2⟩:=h
  obtain ⟨p,n,e,hp,w⟩:=r.sl i _ _ h1 h2
  cases e
  rcases w with w | w
  · exact Qb1 w
  · by_cases z:PotA σ δ b
    · exact z
    · exact (hk b _ z hp w).elim
theorem Qhi {K:PySem.W.Frag} {F:Fm} {σ:L2.St} {δ:Sts} {H1 H3:Hp} {cap:List (Option Nat)} {ix:List Nat} {wg:DG} {wt:DT} {A1:Addr->Prop} {x:V} {d:PyData} {inner:L2.St->Hp->(Hp->Prop)->Prop} {kk:Hp->Prop} {T:Sts->Prop} {N:Prop}
    (hf:Qb0 cap ix=true) (rel:Rel K F σ H1 δ) (hA:∀ a,Av F σ δ a->A1 a) (hN:∀ a,A1 a->Av F σ δ a∨H1 a=none) (dm:∀ a,A1 a->∃ xs,H3 a=some (.lst xs)) (kp:Kp σ δ H1 H3) (dx:DA A1 H3 x d)
    (h:wg d (capD cap δ) fun δ4=>wt δ4 (fun b=>if b=true then T δ4 else N) XF)
    (hT:∀ σ4 δ4 H5,T δ4->Rel K (inF A1 cap σ δ H3) σ4 H5 δ4->Kp σ δ H3 H5->(∀ b,PotA σ4 δ4 b->PotA σ δ b)->inner σ4 H5 kk) (hF:N->∀ H5,Kp σ δ H3 H5->kk H5) :
    bOf (capS cap σ) (tG ix K wg) (tT K E0 wt) inner x H3 kk:=by
  have ri:=QiI (cap:=cap) rel hA hN dm kp
  have iv:∀ {a:Addr},Av (inF A1 cap σ δ H3) (capS cap σ) (capD cap δ) a->A1 a:=fun {a}=>(Qgq fun a z=>hA a (QaY z)).mp
  refine ⟨inF A1 cap σ δ H3,capD cap δ,d,_,ri,dx.mv (fun _ _ _ e=>e) fun a z=>.inl (iv z),h,fun δ4 h4 σ4 r4 st4 l4 j4=>⟨QlA hf l4 j4,inF A1 cap σ δ H3,δ4,_,XF,r4,h4,fun b hb H5 r5 kp5=>?_,outF⟩⟩
  have pots:∀ {b:Addr},PotA σ4 δ4 b->PotA σ δ b:=fun z=>QfE r4 (fun b o _ e1 e2=>by rw [e2] at e1;cases e1) z
  have K5:Kp σ δ H3 H5:=by
    refine ⟨fun b o n e=>kp5.1 b o (fun z=>n (pots z)) e,fun b hb=>?_⟩
    by_cases z:PotA σ4 δ4 b
    · exact kp5.2 b z
    · obtain ⟨n,e⟩:=kp.2 b hb
      exact ⟨n,kp5.1 _ _ z e⟩
  exact QcH hb (fun z=>hT σ4 δ4 H5 z r5 K5 fun b=>pots) fun z=>hF z H5 K5
structure Lp (σ:L2.St) (δ:Sts) (A1:Addr->Prop) (p:Addr) (H1 H2:Hp) (acc:List PyData):Prop where
  kp:Kp σ δ H1 H2
  at_:∃ ys,H2 p=some (.lst ys)/\DAs A1 H2 ys acc
theorem Lp.step {σ:L2.St} {δ:Sts} {A1:Addr->Prop} {p:Addr} {H1 H2 H3:Hp} {acc:List PyData} (hpA:∀ a,PotA σ δ a->A1 a) (hpn:¬ PotA σ δ p) (h:Lp σ δ A1 p H1 H2 acc) (k:Kp σ δ H2 H3):Lp σ δ A1 p H1 H3 acc:=by
  obtain ⟨ys,e,q⟩:=h.at_
  exact ⟨h.kp.trans k,ys,k.1 _ _ hpn e,q.mv (fun a o n e=>k.1 a o (fun z=>n (hpA a z)) e) fun a z=>.inl z⟩
theorem Qls {K:PySem.W.Frag} {σ σ4:L2.St} {δ δ4:Sts} {H1 H3 H5:Hp} {cap:List (Option Nat)} {we:DE} {A1:Addr->Prop} {p:Addr} {acc:List PyData} {kk:Hp->Prop} {G:PyData->Prop}
    (hpA:A1 p) (hP:∀ a,PotA σ δ a->A1 a) (hp1:H1 p=none) (hpn:¬ PotA σ δ p) (lp:Lp σ δ A1 p H1 H5 acc) (hl:acc.length<sizeLine) (r5:Rel K (inF A1 cap σ δ H3) σ4 H5 δ4) (pots:∀ b,PotA σ4 δ4 b->PotA σ δ b)
    (h:we δ4 G XF) (hk:∀ e,G e->∀ H',Lp σ δ A1 p H1 H' (acc++[e])->kk H'):bElt p (tX .D K E0 we) σ4 H5 kk:=by
  refine ⟨inF A1 cap σ δ H3,δ4,G,XF,r5,h,fun e he v H6 r6 kp6 dv=>?_,outF⟩
  have k56:Kp σ δ H5 H6:=by
    refine ⟨fun b o n e=>kp6.1 b o (fun z=>n (pots b z)) e,fun b hb=>?_⟩
    by_cases z:PotA σ4 δ4 b
    · exact kp6.2 b z
    · obtain ⟨n,e⟩:=lp.kp.2 b hb
      exact ⟨n,kp6.1 _ _ z e⟩
  obtain ⟨k6,ys,e6,q6⟩:=lp.step hP hpn k56
  have up:∀ {b:Addr} {o:HO},¬ A1 b->H6 b=some o->upd H6 p (.lst (ys++[v])) b=some o:=fun {b o} n e=>by rw [Qal (fun z=>n (by rw [z];exact hpA))];exact e
  refine ⟨ys,e6,by rw [q6.length];exact hl,hk e he _ ⟨⟨fun b o n e=>?_,fun b hb=>?_⟩,ys++[v],Qaf,DAs.app (q6.mv (fun _ _=>up) fun a z=>.inl z) (.cons (DA.mv dv (fun a o n e=>up (fun z=>n (.inl z)) e) fun a z=>.inl (.inl z)) .nil)⟩⟩
  · rw [Qal (fun z=>by rw [z,hp1] at e;cases e)]
    exact k6.1 b o n e
  · rw [Qal (fun z=>hpn (by rw [<- z];exact hb))]
    exact k6.2 b hb
theorem Qmx {M:List Str} {cap:List (Option Nat)} {elt tg iter:Expr} {ifs:List Expr} {scope:Scope} {pos:Pos} {ix:List Nat} {wi:DI} {wg:DG} {wt:DT} {we:DE} (hc:X.calm=true) (ok:Qei X.N X.env.scope M scope cap=true) (hf:Qb0 cap ix=true)
    (hi:PI X tg iter (tI .P X.K E wi)) (hb:∀ cl ex s3 H3 C,PG (blk X M scope cl ex s3 H3 C) tg (tG ix X.K wg)/\PTs (blk X M scope cl ex s3 H3 C) ifs (tT X.K E0 wt)/\PE (blk X M scope cl ex s3 H3 C) elt (tX .D X.K E0 we))
    (hs:∀ x,foldedSetIterable iter X.env x=pure x:=by intro _;rfl):PE X (.ListComp elt [⟨tg,iter,ifs,0⟩] scope pos) (tX .F X.K E (dComp cap wi wg wt we)):=by
  refine PE.imp (Qgd hc ok hi hb hs) fun σ H Q ⟨F,δ,R,EX,rel,hw,k,o⟩=>?_
  refine ⟨F,δ,_,EX,rel,hw,fun items hC J H1 rel1 kp1 ⟨ln,it⟩ p hp=>?_,o⟩
  unfold Qep at hC
  obtain ⟨Iv,i0,step,fin⟩:=hC
  have hpn:¬ PotA σ δ p:=fun z=>by obtain ⟨xs,e⟩:=rel1.isl (QaY (F:=F) z);rw [hp] at e;cases e
  let A1:Addr->Prop:=fun a=>Av F σ δ a∨a=p
  have hP:∀ a,PotA σ δ a->A1 a:=fun a z=>.inl (QaY z)
  have hN:∀ a,A1 a->Av F σ δ a∨H1 a=none:=fun a z=>z.elim .inl fun z=>.inr (by rw [z];exact hp)
  have dmK:∀ {H2:Hp},Kp σ δ H1 H2->(∃ ys,H2 p=some (.lst ys))->∀ a,A1 a->∃ xs,H2 a=some (.lst xs):=fun {H2} k2 e2 a z=>by
    rcases z with z | z
    · exact (rel1.kp k2).isl z
    · rw [z];exact e2
  refine Qda items.length (fun i H2=>i<=items.length/\∃ acc,Iv i acc/\acc.length<=i/\Lp σ δ A1 p H1 H2 acc) ⟨Nat.zero_le _,[],i0,Nat.le_refl _,Kp.same rel1 (Qad hp),[],Qaf,.nil⟩ (fun i H2 hi ⟨_,acc,iv,hl,lp⟩=>?_) fun H2 ⟨_,acc,iv,hl,lp⟩=>?_
  · obtain ⟨k2,ys,e2,q2⟩:=lp
    obtain ⟨go,_⟩:=it H2 A1 (fun b o n e=>k2.1 b o n e) hN (dmK k2 ⟨ys,e2⟩)
    have hd:items[i]? = some items[i]:=List.getElem?_eq_getElem hi
    obtain ⟨g1,g2⟩:=go i _ hd
    refine ⟨g1,fun x H3 y kk hk=>?_⟩
    obtain ⟨s3,dx⟩:=g2 x H3 y
    have k23:=Kp.same (rel1.kp k2) s3
    have lp3:Lp σ δ A1 p H1 H3 acc:=Lp.step hP hpn ⟨k2,ys,e2,q2⟩ k23
    refine Qhi hf rel1 (fun a z=>.inl z) hN (dmK lp3.kp ⟨ys,s3 _ _ e2⟩) lp3.kp dx (step i acc _ hd iv) (fun σ4 δ4 H5 h5 r5 k5 pots=>?_) fun h5 H5 k5=>hk _ ⟨hi,acc,h5,by omega,lp3.step hP hpn k5⟩
    exact Qls (.inr rfl) hP hp hpn (lp3.step hP hpn k5) (by omega) r5 pots h5 fun e he H' lp'=>hk _ ⟨hi,acc++[e],he,by rw [List.length_append];show _+1<=_;omega,lp'⟩
  · obtain ⟨k2,ys,e2,q2⟩:=lp
    obtain ⟨_,st⟩:=it H2 A1 (fun b o n e=>k2.1 b o n e) hN (dmK k2 ⟨ys,e2⟩)
    refine ⟨st,k _ (fin acc iv) (.ref p) H2 (rel1.kp k2) (kp1.trans k2) ⟨.lst (fun z=>?_) e2 (q2.mv (fun _ _ _ e=>e) fun a z=>.inl (.inl z)),fun l e1 _=>?_⟩⟩
    · obtain ⟨xs,e⟩:=rel1.isl z
      rw [hp] at e;cases e
    · cases e1
      exact Qbw kp1 hp
theorem Qg5 {items:List PyData} {wg:DG} {wt:DT} {we:DE} {δ:Sts} {Q:PyData->Prop} (G:PyData->Option PyData)
    (h:∀ d∈items,∀ (k1:Prop) (k2:PyData->Prop),(G d=none->k1)->(∀ e,G d=some e->k2 e)->wg d δ fun δ4=>wt δ4 (fun b=>if b=true then we δ4 k2 XF else k1) XF) (q:Q (.list (items.filterMap G))) :
    Qep items wg wt we δ Q:=by
  unfold Qep
  refine ⟨fun i acc=>acc=(items.take i).filterMap G,by simp,fun i acc d hd e=>?_,fun acc e=>by rw [e,List.take_length];exact q⟩
  have hs:(items.take (i+1)).filterMap G=(items.take i).filterMap G++(G d).toList:=by
    rw [List.take_add_one,hd,List.filterMap_append]
    cases e2:G d<;>simp [e2]
  have e:acc=(items.take i).filterMap G:=e
  refine h d (List.mem_of_getElem? hd) _ _ (fun e2=>?_) fun e' e2=>?_
  · show acc=(items.take (i+1)).filterMap G
    rw [hs,e2,e];simp
  · show acc++[e']=(items.take (i+1)).filterMap G
    rw [hs,e2,e];rfl
theorem QdG {items:List PyData} {wg:DG} {we:DE} {δ:Sts} {Q:PyData->Prop} (G:PyData->PyData)
    (h:∀ d∈items,∀ (k2:PyData->Prop),k2 (G d)->wg d δ fun δ4=>we δ4 k2 XF) (q:Q (.list (items.map G))) :
    Qep items wg dNoT we δ Q:=by
  unfold Qep
  refine ⟨fun i acc=>acc=(items.take i).map G,by simp,fun i acc d hd e=>?_,fun acc e=>by rw [e,List.take_length];exact q⟩
  have hs:(items.take (i+1)).map G=(items.take i).map G++[G d]:=by
    rw [List.take_add_one,hd,List.map_append]
    simp
  have e:acc=(items.take i).map G:=e
  have hh:=h d (List.mem_of_getElem? hd) (fun e=>acc++[e]=(items.take (i+1)).map G) (by show acc++[G d]=_;rw [hs,e])
  simp only [dNoT,if_true]
  exact hh
end
mutual
theorem QiY {A B:Addr->Prop} {H:Hp}:∀ (d d':PyData) (x:V),DA A H x d->DA B H x d'->d=d'
  | .none,d',_,.non,h=>by cases h;rfl
  | .bool _,d',_,.bl _,h=>by cases h;rfl
  | .int _,d',_,.int _,h=>by cases h;rfl
  | .str _,d',_,.str _ _,h=>by cases h;rfl
  | .tuple ds,d',_,.tup (xs:=xs) n e q,h=>by
    cases h with
    | @tup a ys es n' e' q'=>
      rw [e] at e'
      cases e'
      rw [Qed ds es xs q q']
    | @lst a ys es n' e' q'=>rw [e] at e';cases e'
    | @dct a n' e'=>rw [e] at e';cases e'
  | .list ds,d',_,.lst (xs:=xs) n e q,h=>by
    cases h with
    | @tup a ys es n' e' q'=>rw [e] at e';cases e'
    | @lst a ys es n' e' q'=>
      rw [e] at e'
      cases e'
      rw [Qed ds es xs q q']
    | @dct a n' e'=>rw [e] at e';cases e'
  | .dict _,d',_,.dct n e,h=>by
    cases h with
    | @tup a ys es n' e' q'=>rw [e] at e';cases e'
    | @lst a ys es n' e' q'=>rw [e] at e';cases e'
    | @dct a n' e'=>rfl
theorem Qed {A B:Addr->Prop} {H:Hp}:∀ (ds es:List PyData) (xs:List V),DAs A H xs ds->DAs B H xs es->ds=es
  | [],es,_,.nil,h=>by cases h;rfl
  | d::ds,es,_,.cons q qs,h=>by
    cases h with
    | @cons x xs e es q' qs'=>rw [QiY d e _ q q',Qed ds es _ qs qs']
end
mutual
theorem da_off {A:Addr->Prop} {H:Hp} {l:Addr} {rs:List PyData} (root:DA A H (.ref l) (.list rs)):∀ (d:PyData) (x:V),sizeOf d<sizeOf (PyData.list rs)->DA A H x d->DA (fun a=>A a∨a=l) H x d
  | .none,_,_,.non=>.non
  | .bool _,_,_,.bl _=>.bl _
  | .int _,_,_,.int _=>.int _
  | .str _,_,_,.str _ c=>.str _ c
  | .tuple ds,_,hs,.tup (a:=a) (xs:=xs) n e q=>.tup (fun z=>z.elim n fun z=>by subst z;cases root with | @lst _ ys _ n' e' q'=>(rw [e] at e';cases e')) e (Qee root ds xs (by simp at hs ⊢;omega) q)
  | .list ds,_,hs,.lst (a:=a) (xs:=xs) n e q=>.lst (fun z=>z.elim n fun z=>by
      subst z
      have:=QiY _ _ _ root (.lst n e q)
      rw [this] at hs
      omega) e (Qee root ds xs (by simp at hs ⊢;omega) q)
  | .dict _,_,hs,.dct (a:=a) n e=>.dct (fun z=>z.elim n fun z=>by subst z;cases root with | @lst _ ys _ n' e' q'=>(rw [e] at e';cases e')) e
theorem Qee {A:Addr->Prop} {H:Hp} {l:Addr} {rs:List PyData} (root:DA A H (.ref l) (.list rs)):∀ (ds:List PyData) (xs:List V),sizeOf ds<sizeOf (PyData.list rs)->DAs A H xs ds->DAs (fun a=>A a∨a=l) H xs ds
  | [],_,_,.nil=>.nil
  | d::ds,_,hs,.cons q qs=>.cons (da_off root d _ (by simp at hs ⊢;omega) q) (Qee root ds _ (by simp at hs ⊢;omega) qs)
end
theorem DA.items {A:Addr->Prop} {H:Hp} {l:Addr} {ds:List PyData} (root:DA A H (.ref l) (.list ds)):∃ xs,H l=some (.lst xs)/\DAs (fun a=>A a∨a=l) H xs ds:=by
  have root':=root
  cases root with
  | @lst _ xs _ n e q=>exact ⟨xs,e,Qee root' ds xs (by simp) q⟩
structure DEnds where
  nx:Sts->Prop
  rt:PyData->Prop
  rtF:PyData->Prop
  bk:Sts->Prop
  ct:Sts->Prop
  ex:XP
abbrev DS:=DEnds->Sts->Prop
structure Nx (K:PySem.W.Frag) (F:Fm) (σ:L2.St) (H:Hp) (δ:Sts) (R:Sts->Prop) (T:L2.St->Hp->Prop):Prop where
  go:∀ δ',R δ'->∀ σ' H',Rel K F σ' H' δ'->Stp F σ H δ σ' H' δ'->T σ' H'
structure Ends1 (K:PySem.W.Frag) (E:XK) (F:Fm) (σ:L2.St) (H:Hp) (δ:Sts) (DD:DEnds) (D:Ends):Prop where
  nx:Nx K F σ H δ DD.nx D.nx
  rt:∀ d,DD.rt d->∀ v H',Ke F H'->DA F.A0 H' v d->D.rt v H'
  rtF:∀ d,DD.rtF d->∀ v H',Ke F H'->DA F.A0 H' v d->FrV F.H0 H' v->D.rt v H'
  bk:Nx K F σ H δ DD.bk D.bk
  ct:Nx K F σ H δ DD.ct D.ct
  ex:Out F E DD.ex
def tS (K:PySem.W.Frag) (E:XK) (w:DS):TS:=fun D σ H=>∃ (F:Fm) (δ:Sts) (DD:DEnds),Rel K F σ H δ/\w DD δ/\Ends1 K E F σ H δ DD D
theorem Nx.step {K:PySem.W.Frag} {F:Fm} {σ σ1:L2.St} {H H1:Hp} {δ δ1:Sts} {R:Sts->Prop} {T:L2.St->Hp->Prop} (h:Nx K F σ H δ R T) (s:Stp F σ H δ σ1 H1 δ1):Nx K F σ1 H1 δ1 R T:=⟨fun δ' hR σ' H' r st=>h.go δ' hR σ' H' r (s.trans st)⟩
theorem Ends1.step {K:PySem.W.Frag} {E:XK} {F:Fm} {σ σ1:L2.St} {H H1:Hp} {δ δ1:Sts} {DD:DEnds} {D:Ends} (h:Ends1 K E F σ H δ DD D) (s:Stp F σ H δ σ1 H1 δ1):Ends1 K E F σ1 H1 δ1 DD D:=⟨h.nx.step s,h.rt,h.rtF,h.bk.step s,h.ct.step s,h.ex⟩
section
variable {X:Cx} {E:XK}
theorem PS.imp {e:Stmt} {t t':TS} (h:PS X e t) (i:∀ D σ H,t' D σ H->t D σ H):PS X e t':=fun pins s σ H D I q=>h pins s σ H D I (i D σ H q)
theorem PSs.imp {e:List Stmt} {t t':TS} (h:PSs X e t) (i:∀ D σ H,t' D σ H->t D σ H):PSs X e t':=fun pins s σ H D I q=>h pins s σ H D I (i D σ H q)
def dSeq (a b:DS):DS:=fun D δ=>a { D with nx:=b D } δ
def dSkip:DS:=fun D δ=>D.nx δ
theorem QjZ:PSs X [] (tS X.K E dSkip):=PSs.imp QbX fun D σ H ⟨F,δ,DD,rel,hw,en⟩=>en.nx.go δ hw σ H rel Stp.refl
theorem Qml {st:Stmt} {w:DS} (h:PS X st (tS X.K E w)):PSs X [st] (tS X.K E w):=QaX h
theorem Qj5 {st:Stmt} {rest:List Stmt} {w w':DS} (h:PS X st (tS X.K E w)) (h':PSs X rest (tS X.K E w')):PSs X (st::rest) (tS X.K E (dSeq w w')):=by
  refine PSs.imp (Qaw h h') fun D σ H ⟨F,δ,DD,rel,hw,en⟩=>?_
  exact ⟨F,δ,_,rel,hw,⟨fun δ' h' σ' H' r st=>⟨F,δ',DD,r,h',en.step st⟩⟩,en.rt,en.rtF,en.bk,en.ct,en.ex⟩
def dSet (i:Nat) (we:DE):DS:=fun D δ=>we δ (fun d=>D.nx (δ.set i (.v d))) D.ex
def Qnh (i:Nat) (we:DE):DS:=fun D δ=>we δ (fun d=>match d with
  | .list ds=>D.nx (δ.set i (.own ds))
  | _=>False) D.ex
def dSetP (i:Nat) (we:DE):DS:=fun D δ=>we δ (fun d=>match d with
  | .list [.int _]=>D.nx (δ.set i .pot)
  | _=>False) D.ex
variable {i:Nat} {e:Expr} {st:Stmt} {we wi:DE}
theorem Qh3 (h:PS X st (tAsg (tX .D X.K E we) (QcK i))):PS X st (tS X.K E (dSet i we)):=by
  refine PS.imp h fun D σ H ⟨F,δ,DD,rel,hw,en⟩=>?_
  refine ⟨F,δ,_,DD.ex,rel,hw,fun d hd v H' rel' kp vk=>?_,en.ex⟩
  exact en.nx.go _ hd _ H' (rel'.setv vk) ((Stp.kp kp).trans Stp.setv)
theorem QlC {F:Fm} {σ:L2.St} {δ:Sts} {i:Nat} {l:Addr} {x:Sl} {a:Addr} (h:Av F (σ.set i (some (.ref l))) (δ.set i x) a):Av F σ δ a∨a=l:=by
  rcases h with h | ⟨j,h1,h2⟩
  · exact .inl (.inl h)
  · by_cases z:j=i
    · subst z
      cases set_eq h1
      exact .inr rfl
    · rw [Qa7 z] at h1 h2
      exact .inl (.inr ⟨j,h1,h2⟩)
theorem Rel.seto {K:PySem.W.Frag} {F:Fm} {σ:L2.St} {H H':Hp} {δ:Sts} {l:Addr} {x:Sl} (r:Rel K F σ H δ) (r':Rel K F σ H' δ) (kp:Kp σ δ H H') (n:H l=none) (hx:∀ A:Addr->Prop,(∀ a,A a->Av F σ δ a∨H a=none)->(∀ a,A a->Av F σ δ a∨a=l)->SlOk K F H' A (some (.ref l)) x) :
    Rel K F (σ.set i (some (.ref l))) H' (δ.set i x)/\Stp F σ H δ (σ.set i (some (.ref l))) H' (δ.set i x):=by
  have nA:∀ a,Av F (σ.set i (some (.ref l))) (δ.set i x) a->Av F σ δ a∨H a=none:=fun a z=>(QlC z).elim .inl fun z=>.inr (by rw [z];exact n)
  have kk:∀ a o,¬ Av F σ δ a->H a=some o->H' a=some o:=fun a o m e=>kp.1 a o (fun z=>m (QaY z)) e
  refine ⟨?_,⟨kk,nA⟩⟩
  exact {
    len:=by rw [List.length_set,List.length_set];exact r.len
    dom:=r'.dom
    dom0:=r'.dom0
    pt0:=r'.pt0
    kx:=r'.kx
    sl:=fun j o y h1 h2=>by
      by_cases z:j=i
      · subst z
        cases set_eq h1
        cases set_eq h2
        exact hx _ nA fun a z=>QlC z
      · rw [Qa7 z] at h1 h2
        have h:=r.sl j o y h1 h2
        have h':=r'.sl j o y h1 h2
        cases y with
        | no=>trivial
        | v d=>obtain ⟨v',e,q'⟩:=h;exact ⟨v',e,q'.mv kk nA⟩
        | own ds=>obtain ⟨l',xs,rfl,e2,q',f⟩:=h;exact ⟨l',xs,rfl,kp.1 _ _ (r.own_pot h2 h1) e2,q'.mv kk nA,f⟩
        | pk ds=>
          obtain ⟨l',xs,rfl,e2,q',ys,f,f2⟩:=h
          refine ⟨l',xs,rfl,kp.1 _ _ ?_ e2,q'.mv kk nA,ys,f,f2⟩
          rintro ⟨j,j1,j2⟩
          obtain ⟨p,m,e1,_,w⟩:=r.sl j _ _ j1 j2
          cases e1
          rcases w with w | w
          · exact f2 w
          · rw [w] at f;cases f
        | pot=>exact h'
        | scr=>exact h'
    inj:=fun j k a ds h1 h2 ⟨h3,h4⟩=>by
      have ne:∀ (k:Nat),k≠i->σ[k]? = some (some (.ref l))->(δ[k]? = some .pot∨∃ ds,δ[k]? = some (.own ds))->False:=fun k _ h3 h4=>by
        obtain ⟨xs,e⟩:=r.isl (a:=l) (.inr ⟨k,h3,h4⟩)
        rw [n] at e;cases e
      by_cases z:j=i
      · subst z
        cases set_eq h2
        by_cases z2:k=j
        · exact z2.symm
        · rw [Qa7 z2] at h3 h4
          exact (ne k z2 h3 h4).elim
      · rw [Qa7 z] at h1 h2
        by_cases z2:k=i
        · subst z2
          cases set_eq h3
          exact (ne j z h2 (.inr ⟨ds,h1⟩)).elim
        · rw [Qa7 z2] at h3 h4
          exact r.inj j k a ds h1 h2 ⟨h3,h4⟩ }
theorem QeT {K:PySem.W.Frag} {F:Fm} {σ:L2.St} {H:Hp} {δ:Sts} (r:Rel K F σ H δ) {l:Addr} (n:H l=none):F.H0 l=none:=by
  cases e:F.H0 l with
  | none=>rfl
  | some o=>
    by_cases z:F.pt l
    · obtain ⟨_,m,e'⟩:=r.pt0 l z
      rw [n] at e';cases e'
    · rw [r.kx l o z e] at n;cases n
theorem Qge (h:PS X st (tAsg (tX .F X.K E we) (QcK i))):PS X st (tS X.K E (Qnh i we)):=by
  refine PS.imp h fun D σ H ⟨F,δ,DD,rel,hw,en⟩=>?_
  refine ⟨F,δ,_,DD.ex,rel,hw,fun d hd v H' rel' kp ⟨vk,fr⟩=>?_,en.ex⟩
  obtain ⟨ds,rfl⟩:∃ ds,d=.list ds:=by cases d<;>first | exact ⟨_,rfl⟩ | exact (show False from hd).elim
  obtain ⟨l,rfl⟩:∃ l,v=.ref l:=by cases vk;exact ⟨_,rfl⟩
  obtain ⟨xs,e,q⟩:=DA.items vk
  have n:=fr l rfl ⟨xs,e⟩
  obtain ⟨r2,st⟩:=rel.seto (i:=i) (x:=.own ds) rel' kp n fun A hA hB=>⟨l,xs,rfl,e,q.mv (fun _ _ _ e=>e) fun a z=>.inl (hB a z),QeT rel n⟩
  exact en.nx.go _ hd _ H' r2 st
theorem Qj1 (h:PS X st (tAsg (tX .F X.K E we) (QcK i))):PS X st (tS X.K E (dSetP i we)):=by
  refine PS.imp h fun D σ H ⟨F,δ,DD,rel,hw,en⟩=>?_
  refine ⟨F,δ,_,DD.ex,rel,hw,fun d hd v H' rel' kp ⟨vk,fr⟩=>?_,en.ex⟩
  split at hd
  · cases vk with
    | @lst l xs ds na e q=>
      have n:=fr l rfl ⟨xs,e⟩
      cases q with
      | cons q1 q2=>
        cases q1
        cases q2
        obtain ⟨r2,st⟩:=rel.seto (i:=i) (x:=.pot) rel' kp n fun A hA hB=>⟨l,_,rfl,e,.inr (QeT rel n)⟩
        exact en.nx.go _ hd _ H' r2 st
  · exact hd.elim
def dAsg (we:DE) (wg:DG):DS:=fun D δ=>we δ (fun d=>wg d δ D.nx) D.ex
theorem Qmq {ix:List Nat} {wg:DG} (h:PS X st (tAsg (tX .D X.K E we) (tG ix X.K wg))):PS X st (tS X.K E (dAsg we wg)):=by
  refine PS.imp h fun D σ H ⟨F,δ,DD,rel,hw,en⟩=>?_
  refine ⟨F,δ,_,DD.ex,rel,hw,fun d hd v H' rel' kp vk=>?_,en.ex⟩
  exact ⟨F,δ,d,_,rel',vk,hd,fun δ' h' σ' r' st' _ _=>en.nx.go _ h' _ H' r' ((Stp.kp kp).trans st')⟩
def dRet (we:DE):DS:=fun D δ=>we δ D.rt D.ex
def Qnj (we:DE):DS:=fun D δ=>we δ D.rtF D.ex
theorem QkN {F:Fm} {σ:L2.St} {δ:Sts} {H:Hp} {v:V} {d:PyData} (h:DA (Av F σ δ) H v d):DA F.A0 H v d:=h.mv (fun _ _ _ e=>e) fun a z=>.inl (.inl z)
theorem Qmj {e:Expr} {pos:Pos} (h:PE X e (tX .D X.K E we)):PS X (.Return (some e) pos) (tS X.K E (dRet we)):=by
  refine PS.imp (Qbh h) fun D σ H ⟨F,δ,DD,rel,hw,en⟩=>?_
  exact ⟨F,δ,_,DD.ex,rel,hw,fun d hd v H' rel' kp vk=>en.rt d hd v H' rel'.ke (QkN vk),en.ex⟩
theorem Qj3 {e:Expr} {pos:Pos} (h:PE X e (tX .F X.K E we)):PS X (.Return (some e) pos) (tS X.K E (Qnj we)):=by
  refine PS.imp (Qbh h) fun D σ H ⟨F,δ,DD,rel,hw,en⟩=>?_
  exact ⟨F,δ,_,DD.ex,rel,hw,fun d hd v H' rel' kp vk=>en.rtF d hd v H' rel'.ke (QkN vk.1) fun l e1 e2=>QeT rel (vk.2 l e1 e2),en.ex⟩
def Qni (i:Nat):DS:=fun D δ=>match δ[i]? with
  | some (.own ds)=>D.rtF (.list ds)
  | some (.v d)=>D.rt d
  | _=>False
theorem Qj2 {e:Expr} {pos:Pos} (h:PE X e (tVar i)):PS X (.Return (some e) pos) (tS X.K E (Qni i)):=by
  refine PS.imp (Qbh h) fun D σ H ⟨F,δ,DD,rel,hw,en⟩=>?_
  unfold Qni at hw
  split at hw
  · rename_i ds hd
    obtain ⟨x,hx⟩:=rel.lt hd
    obtain ⟨l,xs,rfl,e,q,f⟩:=rel.sl i _ _ hx hd
    refine ⟨_,hx,en.rtF _ hw _ H rel.ke (.lst (fun z=>?_) e (q.mv (fun _ _ _ e=>e) fun a z=>.inl (.inl z))) fun l' e1 _=>by cases e1;exact f⟩
    obtain ⟨ys,e'⟩:=rel.dom0 l z
    rw [f] at e';cases e'
  · rename_i d hd
    obtain ⟨x,hx⟩:=rel.lt hd
    obtain ⟨v,rfl,q⟩:=rel.sl i _ _ hx hd
    exact ⟨v,hx,en.rt _ hw _ H rel.ke (QkN q)⟩
  · exact hw.elim
def dIf (t:DT) (a b:DS):DS:=fun D δ=>t δ (fun c=>if c=true then a D δ else b D δ) D.ex
theorem pds_if {c:Expr} {a b:List Stmt} {pos:Pos} {t:DT} {w w':DS} (hc:PT X c (tT X.K E t)) (ha:PSs X a (tS X.K E w)) (hb:PSs X b (tS X.K E w')):PS X (.If c a b pos) (tS X.K E (dIf t w w')):=by
  refine PS.imp (Qfp hc ha hb) fun D σ H ⟨F,δ,DD,rel,hw,en⟩=>?_
  exact ⟨F,δ,_,DD.ex,rel,hw,fun b hb H' rel' kp=>QcH hb (fun z=>⟨F,δ,DD,rel',z,en.step (Stp.kp kp)⟩) fun z=>⟨F,δ,DD,rel',z,en.step (Stp.kp kp)⟩,en.ex⟩
theorem QmP {g:Int->Int->Int}:OpDn (ipI g) (ii0 fun i j=>.int (g i j)):=fun A P H x y d1 d2 R Q ln dm hx hy h k=>by
  cases d1<;>cases d2<;>first | exact h.elim | skip
  rw [hx.int,hy.int]
  exact ⟨_,_,rfl,rfl,k _ h _ H (Same.refl H) (.int _)⟩
theorem PIp.len {op:Operator} {t:TIp} (h:PIp X op t):PIp X op (fun x y H Q=>QbN H->t x y H Q):=fun pins s σ H x y v u Q I rx ry q=>h pins s σ H x y v u Q I rx ry (q (Inv.lens I))
theorem Rel.mut {K:PySem.W.Frag} {F:Fm} {σ:L2.St} {H:Hp} {δ:Sts} (r:Rel K F σ H δ) {l:Addr} {ds ds':List PyData} {ys:List V} (h:δ[i]? = some (.own ds)) (hx:σ[i]? = some (some (.ref l))) (q:DAs (Av F σ δ) H ys ds') :
    Rel K F σ (upd H l (.lst ys)) (δ.set i (.own ds'))/\Stp F σ H δ σ (upd H l (.lst ys)) (δ.set i (.own ds')):=by
  have hl:Av F σ δ l:=.inr ⟨i,hx,.inr ⟨ds,h⟩⟩
  obtain ⟨l',xs0,e0,el,_,f⟩:=r.sl i _ _ hx h
  cases e0
  have lt:i < δ.length:=(List.getElem?_eq_some_iff.mp h).1
  have ge:(δ.set i (.own ds'))[i]? = some (.own ds'):=by rw [List.getElem?_set_self lt]
  have kk:∀ a o,¬ Av F σ δ a->H a=some o->upd H l (.lst ys) a=some o:=fun a o n e=>by rw [Qal (fun z=>n (by rw [z];exact hl))];exact e
  have av:∀ a,Av F σ (δ.set i (.own ds')) a->Av F σ δ a:=fun a z=>by
    rcases z with z | ⟨j,h1,h2⟩
    · exact .inl z
    · by_cases z:j=i
      · subst z;exact .inr ⟨j,h1,.inr ⟨ds,h⟩⟩
      · rw [Qa7 z] at h2;exact .inr ⟨j,h1,h2⟩
  have up:∀ {b:Addr} {o:HO},b≠l->H b=some o->upd H l (.lst ys) b=some o:=fun n e=>by rw [Qal n];exact e
  refine ⟨?_,⟨kk,fun a z=>.inl (av a z)⟩⟩
  exact {
    len:=by rw [List.length_set];exact r.len
    dom:=fun a ha=>by
      by_cases z:a=l
      · rw [z];exact ⟨_,Qaf⟩
      · obtain ⟨xs,e⟩:=r.dom a ha;exact ⟨xs,up z e⟩
    dom0:=r.dom0
    pt0:=fun p hp=>by
      obtain ⟨h1,n,e⟩:=r.pt0 p hp
      refine ⟨h1,n,up (fun z=>?_) e⟩
      obtain ⟨xs,e'⟩:=r.dom0 p h1
      rw [z,f] at e';cases e'
    kx:=fun b o n e=>up (fun z=>by rw [z,f] at e;cases e) (r.kx b o n e)
    sl:=fun j o y h1 h2=>by
      by_cases z:j=i
      · subst z
        rw [ge] at h2
        cases h2
        rw [hx] at h1
        cases h1
        exact ⟨l,ys,rfl,Qaf,q.mv kk fun a z=>.inl (av a z),f⟩
      · rw [Qa7 z] at h2
        have hh:=r.sl j o y h1 h2
        cases y with
        | no=>trivial
        | v d=>obtain ⟨v',e,q'⟩:=hh;exact ⟨v',e,q'.mv kk fun a z=>.inl (av a z)⟩
        | own es=>
          obtain ⟨l',xs,rfl,e2,q',f'⟩:=hh
          exact ⟨l',xs,rfl,up (fun z2=>z (r.inj j i l' es h2 h1 ⟨by rw [z2];exact hx,.inr ⟨ds,h⟩⟩)) e2,q'.mv kk fun a z=>.inl (av a z),f'⟩
        | pk es=>
          obtain ⟨l',xs,rfl,e2,q',ys',f',f2⟩:=hh
          exact ⟨l',xs,rfl,up (fun z2=>by rw [z2,f] at f';cases f') e2,q'.mv kk fun a z=>.inl (av a z),ys',f',f2⟩
        | pot=>
          obtain ⟨p,n,rfl,e2,w⟩:=hh
          refine ⟨p,n,rfl,up (fun z2=>?_) e2,w⟩
          subst z2
          exact r.own_pot h hx ⟨j,h1,h2⟩
        | scr=>exact hh
    inj:=fun j k a es h1 h2 ⟨h3,h4⟩=>by
      have h4':δ[k]? = some .pot∨∃ ds,δ[k]? = some (.own ds):=by
        by_cases z:k=i
        · subst z;exact .inr ⟨ds,h⟩
        · rw [Qa7 z] at h4;exact h4
      by_cases z:j=i
      · subst z;exact r.inj j k a ds h h2 ⟨h3,h4'⟩
      · rw [Qa7 z] at h1;exact r.inj j k a es h1 h2 ⟨h3,h4'⟩ }
def dApp (i:Nat) (we:DE):DS:=fun D δ=>match δ[i]? with
  | some (.own ds)=>we δ (fun d=>ds.length<1000000/\D.nx (δ.set i (.own (ds++[d])))) D.ex
  | _=>False
theorem Qmr (h:PS X st (Qhm (tBM X.K "list" QhI (tVar i) (QcI (tX .D X.K E we) tNil)))):PS X st (tS X.K E (dApp i we)):=by
  refine PS.imp h fun D σ H ⟨F,δ,DD,rel,hw,en⟩=>?_
  unfold dApp at hw
  split at hw
  · rename_i ds hd
    obtain ⟨x,hx⟩:=rel.lt hd
    obtain ⟨l,xs,rfl,e,q,f⟩:=rel.sl i _ _ hx hd
    have np:=rel.own_pot hd hx
    refine ⟨.ref l,hx,.inl ⟨rfl,_,SqL.of e⟩,F,δ,_,DD.ex,rel,hw,fun d ⟨hl,hn⟩ v H' rel' kp vk=>?_,en.ex⟩
    have q':=kp.das q
    refine ⟨l,xs,v,rfl,rfl,kp.1 _ _ np e,Nat.lt_of_lt_of_le (by rw [q.length];exact hl) QeP,?_⟩
    obtain ⟨r2,st⟩:=rel'.mut hd hx (q'.app (.cons vk .nil))
    exact en.nx.go _ hn _ _ r2 ((Stp.kp kp).trans st)
  · exact hw.elim
def dExt (i:Nat) (we:DE):DS:=fun D δ=>match δ[i]? with
  | some (.own ds)=>we δ (fun d=>match d with
    | .list es=>ds.length+es.length<=1000000/\D.nx (δ.set i (.own (ds++es)))
    | _=>False) D.ex
  | _=>False
theorem Qmp (h:PS X st (Qhm (tBM X.K "list" QhH (tVar i) (QcI (tX .P X.K E we) tNil)))):PS X st (tS X.K E (dExt i we)):=by
  refine PS.imp h fun D σ H ⟨F,δ,DD,rel,hw,en⟩=>?_
  unfold dExt at hw
  split at hw
  · rename_i ds hd
    obtain ⟨x,hx⟩:=rel.lt hd
    obtain ⟨l,xs,rfl,e,q,f⟩:=rel.sl i _ _ hx hd
    have np:=rel.own_pot hd hx
    refine ⟨.ref l,hx,.inl ⟨rfl,_,SqL.of e⟩,F,δ,_,DD.ex,rel,hw,fun d hd2 v H' rel' kp vk=>?_,en.ex⟩
    cases d<;>first | exact (show False from hd2).elim | skip
    obtain ⟨hl,hn⟩:=hd2
    obtain ⟨l2,ys,rfl,e2,q2⟩:=DP.list vk
    have q':=kp.das q
    refine ⟨l,l2,xs,ys,rfl,rfl,kp.1 _ _ np e,e2,Nat.le_trans (by rw [q.length,q2.length];exact hl) QeP,?_⟩
    obtain ⟨r2,st⟩:=rel'.mut hd hx (q'.app q2)
    exact en.nx.go _ hn _ _ r2 ((Stp.kp kp).trans st)
  · exact hw.elim
def dPut (i:Nat) (wi we:DE):DS:=fun D δ=>we δ (fun d=>match δ[i]? with
  | some (.own ds)=>wi δ (fun z=>match z with
    | .int k=>∃ j,ixN ds.length k=some j/\D.nx (δ.set i (.own (ds.set j d)))
    | _=>False) D.ex
  | _=>False) D.ex
def Qnm (i:Nat) (rD:PyData->PyData->(PyData->Prop)->Prop) (wi we:DE):DS:=fun D δ=>match δ[i]? with
  | some (.own ds)=>wi δ (fun z=>match z with
    | .int k=>∃ j a,ixN ds.length k=some j/\ds[j]? = some a/\we δ (fun e=>rD a e fun b=>D.nx (δ.set i (.own (ds.set j b)))) D.ex
    | _=>False) D.ex
  | _=>False
theorem Qj6 {r:TIp} {rD:PyData->PyData->(PyData->Prop)->Prop} (hd:OpDn r rD) (h:PS X st (tAugS (tVar i) (tX .P X.K E wi) (tX .P X.K E we) (rIxL X.K) (fun x y H Q=>QbN H->r x y H Q) rSetL)):PS X st (tS X.K E (Qnm i rD wi we)):=by
  refine PS.imp h fun D σ H ⟨F,δ,DD,rel,hw,en⟩=>?_
  unfold Qnm at hw
  split at hw
  · rename_i ds hds
    obtain ⟨x,hx⟩:=rel.lt hds
    obtain ⟨l,xs,rfl,e,q,f⟩:=rel.sl i _ _ hx hds
    have np:=rel.own_pot hds hx
    refine ⟨.ref l,hx,F,δ,_,DD.ex,rel,hw,fun z hz y H1 rel1 kp1 yk=>?_,en.ex⟩
    cases z<;>first | exact (show False from hz).elim | skip
    obtain ⟨j,a,hj,ha,hn⟩:=hz
    have q1:=kp1.das q
    obtain ⟨va,hva,da⟩:=q1.get j a ha
    rw [DP.int yk]
    refine ⟨l,xs,_,va,rfl,rfl,SqL.of (kp1.1 _ _ np e),by unfold atI;rw [q.length,hj];exact hva,F,δ,_,DD.ex,rel1,hn,fun b hb u H2 rel2 kp2 uk ln=>?_,en.ex⟩
    refine hd (Av F σ δ) (PotA σ δ) H2 va u a b _ _ ln (fun a ha=>rel2.isl ha) (.inl (kp2.da da)) uk hb fun c hc w H3 s dw=>?_
    have r3:=rel2.same s
    have k3:=kp2.trans (Kp.same rel2 s)
    refine ⟨l,xs,_,j,rfl,rfl,k3.1 _ _ np (kp1.1 _ _ np e),by rw [q.length];exact hj,?_⟩
    obtain ⟨r4,st⟩:=r3.mut hds hx ((k3.das q1).set dw j)
    exact en.nx.go _ hc _ _ r4 (((Stp.kp kp1).trans (Stp.kp k3)).trans st)
  · exact hw.elim
@[irreducible] def ForR (items:List PyData) (wg:DG) (wb:DS) (D:DEnds) (δ:Sts):Prop:=∃ Iv:Nat->Sts->Prop,Iv 0 δ/\(∀ (i:Nat) d δ,items[i]? = some d->Iv i δ->wg d δ fun δ2=>wb { D with nx:=Iv (i+1),ct:=Iv (i+1),bk:=D.nx } δ2)/\∀ δ,Iv items.length δ->D.nx δ
def dFor (wi:DI) (wg:DG) (wb:DS):DS:=fun D δ=>wi δ (fun items=>ForR items wg wb D δ) D.ex
theorem Qmo {tg iter:Expr} {body:List Stmt} {pos:Pos} {ix:List Nat} {wi:DI} {wg:DG} {wb:DS} (hp:PassesOwn (model X.prog X.w) X.A X.env X.xe) (hc:X.calm=true) (hi:PI X tg iter (tI .D X.K E wi)) (hg:PG X tg (tG ix X.K wg)) (hb:PSs X body (tS X.K E wb))
    (hs:∀ x,foldedSetIterable iter X.env x=pure x:=by intro _;rfl):PS X (.For tg iter body [] pos) (tS X.K E (dFor wi wg wb)):=by
  refine PS.imp (Qk7 hp hc hi hg hb hs) fun D σ H ⟨F,δ,DD,rel,hw,en⟩=>?_
  refine ⟨F,δ,_,DD.ex,rel,hw,fun items hC J H1 rel1 kp1 ⟨ln,it⟩=>?_,en.ex⟩
  unfold ForR at hC
  obtain ⟨Iv,i0,step,fin⟩:=hC
  have en1:=en.step (Stp.kp (F:=F) kp1)
  refine ⟨fun i m σ' H'=>m=items.length - i/\i<=items.length/\∃ δ',Iv i δ'/\Rel X.K F σ' H' δ'/\Stp F σ H1 δ σ' H' δ',⟨_,rfl,Nat.zero_le _,δ,i0,rel1,Stp.refl⟩,?_⟩
  rintro i m σ' H' ⟨rfl,hi',δ',iv,r',st'⟩
  obtain ⟨go,stop⟩:=it H' (Av F σ' δ') st'.1 st'.2 fun a ha=>r'.isl ha
  by_cases hlt:i<items.length
  · have hd:items[i]? = some items[i]:=List.getElem?_eq_getElem hlt
    obtain ⟨g1,g2⟩:=go i _ hd
    refine .inr ⟨g1,fun σ2 H2=>∃ δ2,Iv (i+1) δ2/\Rel X.K F σ2 H2 δ2/\Stp F σ H1 δ σ2 H2 δ2,fun σ2 H2 ⟨δ2,h2,r2,s2⟩=>⟨_,by omega,rfl,hlt,δ2,h2,r2,s2⟩,fun x H3 y=>?_⟩
    obtain ⟨s3,dx⟩:=g2 x H3 y
    have r3:=r'.same s3
    have st3:Stp F σ H1 δ σ' H3 δ':=st'.trans (Stp.kp (Kp.same r' s3))
    refine ⟨F,δ',_,_,r3,dx,step i _ δ' hd iv,fun δ4 h4 σ4 r4 st4 _ _=>⟨F,δ4,_,r4,h4,?_⟩⟩
    have st5:=st3.trans st4
    exact ⟨⟨fun δ6 h6 σ6 H6 r6 s6=>⟨δ6,h6,r6,st5.trans s6⟩⟩,en.rt,en.rtF,(en1.step st5).nx,⟨fun δ6 h6 σ6 H6 r6 s6=>⟨δ6,h6,r6,st5.trans s6⟩⟩,en.ex⟩
  · have e:i=items.length:=by omega
    subst e
    exact .inl ⟨stop,(en1.step st').nx.go δ' (fin δ' iv) σ' H' r' Stp.refl⟩
theorem Qcv {lo:Int} {n:Nat} {wg:DG} {wb:DS} {D:DEnds} {δ:Sts} (Iv:Nat->Sts->Prop) (h0:Iv 0 δ)
    (hs:∀ (i:Nat) δ,i<n->Iv i δ->wg (.int (lo+i)) δ fun δ2=>wb { D with nx:=Iv (i+1),ct:=Iv (i+1),bk:=D.nx } δ2) (hd:∀ δ,Iv n δ->D.nx δ):ForR (rngD lo n) wg wb D δ:=by
  unfold ForR
  exact ⟨Iv,h0,fun i d δ hd iv=>by obtain ⟨hi,rfl⟩:=QdU hd;exact hs i δ hi iv,fun δ iv=>hd δ (by rw [Qfm] at iv;exact iv)⟩
theorem Qce {items:List PyData} {wg:DG} {wb:DS} {D:DEnds} {δ:Sts} (Iv:Nat->Sts->Prop) (h0:Iv 0 δ)
    (hs:∀ (i:Nat) d δ,items[i]? = some d->Iv i δ->wg d δ fun δ2=>wb { D with nx:=Iv (i+1),ct:=Iv (i+1),bk:=D.nx } δ2) (hd:∀ δ,Iv items.length δ->D.nx δ):ForR items wg wb D δ:=by
  unfold ForR
  exact ⟨Iv,h0,hs,hd⟩
def Qlu (C:Addr) (we:DE):DS:=fun D δ=>we δ (fun _=>D.ex C) D.ex
theorem Qh4 {C:Addr} (h:PS X st (Rx.tRaise E C (tX .P X.K E we))):PS X st (tS X.K E (Qlu C we)):=by
  refine PS.imp h fun D σ H ⟨F,δ,DD,rel,hw,en⟩=>?_
  exact ⟨F,δ,_,DD.ex,rel,hw,fun d hd v H' rel' kp vk=>en.ex C hd H' rel'.ke,en.ex⟩
def dExpr (we:DE):DS:=fun D δ=>we δ (fun _=>D.nx δ) D.ex
theorem Qj4 (h:PS X st (Qhm (tX .P X.K E we))):PS X st (tS X.K E (dExpr we)):=by
  refine PS.imp h fun D σ H ⟨F,δ,DD,rel,hw,en⟩=>?_
  exact ⟨F,δ,_,DD.ex,rel,hw,fun d hd v H' rel' kp vk=>en.nx.go δ hd σ H' rel' (Stp.kp kp),en.ex⟩
end
def stD (N:List Str) (args:List Sl):Sts:=args++List.replicate (N.length - args.length) .no
theorem Qdu {α β:Type} {R:α->β->Prop}:∀ {xs:List α} {ys:List β},Paired R xs ys->∀ (i:Nat) x y,xs[i]? = some x->ys[i]? = some y->R x y
  | _,_,.nil,i,x,y,h,_=>by simp at h
  | _,_,.cons a b,0,x,y,h,h'=>by simp at h h';subst h h';exact a
  | _,_,.cons a b,i+1,x,y,h,h'=>Qdu b i x y (by simpa using h) (by simpa using h')
theorem Qez {K:PySem.W.Frag} {N:List Str} {A pt:Addr->Prop} {H:Hp} {vs:List V} {args:List Sl} (dm:∀ a,A a->∃ xs,H a=some (.lst xs)) (hp:∀ p,pt p->A p/\∃ n,H p=some (.lst [.int n])) (q:Paired (Qe9 A pt H) vs args):Rel K ⟨H,A,pt⟩ (L2.start N vs) H (stD N args):=by
  have hl:vs.length=args.length:=q.length
  have no:∀ (i:Nat) x,(stD N args)[i]? = some x->(i<args.length/\args[i]? = some x)∨x=.no:=fun i x h=>by
    unfold stD at h
    by_cases z:i<args.length
    · rw [List.getElem?_append_left z] at h;exact .inl ⟨z,h⟩
    · rw [List.getElem?_append_right (by omega),List.getElem?_replicate] at h
      split at h
      · exact .inr (Option.some.inj h).symm
      · cases h
  have arg:∀ (i:Nat) o x,(L2.start N vs)[i]? = some o->(stD N args)[i]? = some x->x≠.no->∃ v,o=some v/\Qe9 A pt H v x:=fun i o x h1 h2 hx=>by
    rcases no i x h2 with ⟨z,e⟩ | e
    · unfold L2.start at h1
      rw [List.getElem?_append_left (by rw [List.length_map];omega),List.getElem?_map] at h1
      obtain ⟨v,hv,rfl⟩:=Option.map_eq_some_iff.mp h1
      exact ⟨v,rfl,Qdu q i v x hv e⟩
    · exact absurd e hx
  have av:∀ a,Av ⟨H,A,pt⟩ (L2.start N vs) (stD N args) a->A a:=fun a z=>by
    rcases z with z | ⟨i,h1,h2⟩
    · exact z
    · rcases h2 with h2 | ⟨ds,h2⟩
      · obtain ⟨v,e,p,rfl,hp'⟩:=arg i _ _ h1 h2 (fun z=>by cases z)
        cases e
        exact (hp _ hp').1
      · obtain ⟨v,e,hh⟩:=arg i _ _ h1 h2 (fun z=>by cases z)
        exact hh.elim
  exact {
    len:=by unfold L2.start stD;rw [List.length_append,List.length_append,List.length_map,List.length_replicate,List.length_replicate,hl]
    dom:=dm
    dom0:=dm
    pt0:=hp
    kx:=fun _ _ _ e=>e
    sl:=fun i o x h1 h2=>by
      cases x with
      | no=>trivial
      | v d=>
        obtain ⟨v,e,hh⟩:=arg i _ _ h1 h2 (fun z=>by cases z)
        exact ⟨v,e,DA.mv hh (fun _ _ _ e=>e) fun a z=>.inl (av a z)⟩
      | pot=>
        obtain ⟨v,e,p,rfl,hp'⟩:=arg i _ _ h1 h2 (fun z=>by cases z)
        obtain ⟨_,n,en⟩:=hp p hp'
        exact ⟨p,n,e,en,.inl hp'⟩
      | own ds=>obtain ⟨v,e,hh⟩:=arg i _ _ h1 h2 (fun z=>by cases z);exact hh.elim
      | pk ds=>obtain ⟨v,e,hh⟩:=arg i _ _ h1 h2 (fun z=>by cases z);exact hh.elim
      | scr=>obtain ⟨v,e,hh⟩:=arg i _ _ h1 h2 (fun z=>by cases z);exact hh.elim
    inj:=fun i j a ds h1 h2 _=>by
      obtain ⟨v,e,hh⟩:=arg i _ _ h2 h1 (fun z=>by cases z)
      exact hh.elim }
def notL:PyData->Bool
  | .list _=>false
  | _=>true
def rtD:Bool->(PyData->Prop)->PyData->Prop
  | true,R,d=>notL d=true/\R d
  | false,R,d=>R d
def QiT (fr:Bool) (R:PyData->Prop) (EX:XP):DEnds:=⟨fun _=>R .none,rtD fr R,R,fun _=>False,fun _=>False,EX⟩
theorem QiS {K:PySem.W.Frag} {E Ex:XK} {fr:Bool} {A pt:Addr->Prop} {H:Hp} {R:PyData->Prop} {EX EX':XP} {Q:VK} {σ:L2.St} {δ:Sts} (k:∀ d,R d->∀ v H',Kq pt H H'->DA A H' v d->(fr=true->FrV H H' v)->Q v H') (o:Out ⟨H,A,pt⟩ E EX') :
    Ends1 K E ⟨H,A,pt⟩ σ H δ (QiT fr R EX') { nx:=fun _ H'=>Q .non H',rt:=Q } where
  nx:=⟨fun δ' hR σ' H' r st=>k _ hR _ H' r.ke .non fun _=>Qnc⟩
  rt:=fun d h v H' ke dv=>by
    cases fr with
    | false=>exact k d h v H' ke dv fun z=>by cases z
    | true=>
      obtain ⟨h1,h2⟩:=h
      refine k d h2 v H' ke dv fun z l e1 ⟨xs,e2⟩=>?_
      subst e1
      cases dv with
      | @tup a ys ds n e q=>rw [e] at e2;cases e2
      | @lst a ys ds n e q=>cases h1
      | @dct a n e=>rw [e] at e2;cases e2
  rtF:=fun d h v H' ke dv fr'=>k d h v H' ke dv fun _=>fr'
  bk:=⟨fun _ h=>h.elim⟩
  ct:=⟨fun _ h=>h.elim⟩
  ex:=o
section
variable {P:Program} {w:World} {K:PySem.W.Frag} {mg:Str->Option Value} {base:Heap}
theorem okD {x qual:Str} {st:Stmt} {f:Addr} {fd:FuncData} {N ps:List Str} {k:Nat} {fD:DF} (fr:Bool) (F:Fun K x qual st f fd) (S:FnScope N ps (Qaa st)) (len:∀ args R EX,fD args R EX->args.length=ps.length)
    (hbody:∀ (cdv:Value) (A:Around) (outer:List Env) (s:Shared) (H:Hp) (E:XK),Room k (A.deeper (envOfC qual (Qaa st) s.heap.objs.size f cdv)) ->
      ∃ wd,PSs (cxOf CX0 P w K mg base N qual (Qaa st) f cdv A outer s H E).nox (Qan st) (tS K E0 wd)/\∀ args R EX,fD args R EX->wd (QiT fr R XF) (stD N args)):FnOk P w K mg base CX0 (k+1) f fd ps (toSp fr fD):=by
  refine F.ok S (fun vs H Q E h=>?_) fun cdv A outer s H vs Q E hr h=>?_
  · obtain ⟨A,pt,args,R,EX,_,_,q,h,_⟩:=h
    rw [q.length];exact len _ _ _ h
  · obtain ⟨wd,hp,hw⟩:=hbody cdv A outer s H E hr
    obtain ⟨A',pt,args,R,EX,dm,hpt,q,h,k,_⟩:=h
    exact ⟨_,hp,⟨H,A',pt⟩,_,_,Qez dm hpt q,hw args R EX h,QiS (Ex:=E) (EX:=EX) k outF⟩
theorem okDE {x qual:Str} {st:Stmt} {f:Addr} {fd:FuncData} {N ps:List Str} {k:Nat} {fD:DF} (fr:Bool) (F:Fun K x qual st f fd) (S:FnScope N ps (Qaa st)) (len:∀ args R EX,fD args R EX->args.length=ps.length)
    (hbody:∀ (cdv:Value) (A:Around) (outer:List Env) (s:Shared) (H:Hp) (E:XK),Room k (A.deeper (envOfC qual (Qaa st) s.heap.objs.size f cdv)) ->
      ∃ wd,PSs (cxOf (Rx.CXE P w) P w K mg base N qual (Qaa st) f cdv A outer s H E) (Qan st) (tS K E wd)/\∀ args R EX,fD args R EX->wd (QiT fr R EX) (stD N args)):FnOk P w K mg base (Rx.CXE P w) (k+1) f fd ps (toSp fr fD):=by
  refine Rx.okE F S (fun vs H Q E h=>?_) fun cdv A outer s H vs Q E hr h=>?_
  · obtain ⟨A,pt,args,R,EX,_,_,q,h,_⟩:=h
    rw [q.length];exact len _ _ _ h
  · obtain ⟨wd,hp,hw⟩:=hbody cdv A outer s H E hr
    obtain ⟨A',pt,args,R,EX,dm,hpt,q,h,k,kx⟩:=h
    exact ⟨_,hp,⟨H,A',pt⟩,_,_,Qez dm hpt q,hw args R EX h,QiS (Ex:=E) (EX:=EX) k fun C hC H' ke=>kx C hC H' ke⟩
end
end Dl
namespace L2
open PySem PySem.Spec PyProof.Rows
def CDivC (i j:Int):Prop:=0<j/\j<=10^40
theorem Qkg {X:Cx}:OpR X (binaryOp .FloorDiv) (rI CDivC fun i j=>.int (i / j)):=opI fun i j _ _ _ _ _ hc q=>by
  have h1:(0:Int)<j:=hc.1
  have h2:j<=10^40:=hc.2
  refine floordiv_int (by omega) (by rw [Int.fdiv_eq_ediv_of_nonneg i (by omega)];exact q) (.inl (PyProof.noPylong_of_log2 ?_))
  have h3:j.natAbs<2^200:=by
    have:(10:Int)^40<2^200:=by decide
    omega
  have:=(Nat.log2_lt (by omega:j.natAbs≠0)).mpr h3
  omega
end L2
namespace Rk
open PySem PySem.Spec PyProof.Rows L2 _root_.Rd
def QfZ:Sp:=fun vs H Q _=>∃ p n f,vs=[.ref p,.int f]/\H p=some (.lst [.int n])/\0<f/\f<=10^40/\∀ r m,0<=r->r<f->Q (.int r) (upd H p (.lst [.int m]))
end Rk
namespace Dl
open PySem PySem.Spec PyProof.Rows L2 _root_.Rd Rk
theorem QaL {X:Cx} {E:XK}:QbG CX0 X E:=fun _ _ _ _ _ _ _ h=>h.elim
theorem Room.u60 {k:Nat} {A:Around} (r:Room k A):A.units+60<cLine:=by have:=r.un;omega
theorem Room.i60 {k:Nat} {A:Around} (r:Room k A):A.in1.units+60<cLine:=by
  have:=r.un
  show A.units+1+60<cLine
  omega
section
variable {X:Cx} {E:XK} {CX:CXT} {k:Nat} {f:Addr} {fd:FuncData} {ps:List Str} {x:Str} {p pos:Pos} {e:Expr} {es:List Expr} {fD:DF}
def QfH (f:DF) (wa:DAr):DE:=fun δ Q EX=>wa δ (fun ds=>f (ds.map Sl.v) (fun d=>scal d=true/\Q d) EX) EX
theorem QfO {n:Nat} {fr:Bool} {K:PySem.W.Frag} {f:DF} {wa:DAr} (σ:L2.St) (H:Hp) (Q:VK) (h:tX .F K E (QfH f wa) σ H Q):Qjv (toSp fr f) [] E (tAr n .P K E wa) σ H Q:=by
  obtain ⟨F,δ,R,EX,rel,hw,k,o⟩:=h
  refine ⟨F,δ,_,EX,rel,hw,fun args ha _ vs H1 rel1 kp1 q=>?_,o⟩
  show toSp fr f (vs++[]) H1 Q E
  rw [List.append_nil]
  refine ⟨fun a=>Av F σ δ a/\¬ Lent (PotA σ δ) H1 vs a,fun _=>False,args.map Sl.v,_,EX,fun a ha=>rel1.isl ha.1,fun p hp=>hp.elim,QeQ vs (fun _ h=>h) q,ha,fun d hd v H' kq dv fr=>?_,fun C hC H' kq=>o C hC H' (rel1.same fun b o e=>kq.1 b o (fun z=>z) e).ke⟩
  have s:Same H1 H':=fun b o e=>kq.1 b o (fun z=>z) e
  refine k d hd.2 v H' (rel1.same s) (kp1.trans (Kp.same rel1 s)) ⟨QlM dv hd.1,fun l e1 e2=>?_⟩
  subst e1
  have hf:=hd.1
  cases dv<;>cases hf
theorem Qia {n:Nat} {fr:Bool} {wr:DAr} (G:FnOk X.prog X.w X.K X.mg X.base CX k f fd ps (toSp fr fD)) (hr:Room k X.A) (hg:Gl X x) (hm:X.mg x=some (.ref f)) (hk:PySem.W.keepIn X.K (.ref f)=true) (hb:Binds X.K fd ps []) (hx:QbG CX X E)
    (ha:PA X (e::es) (tAr n .P X.K E wr)) (hdb:(x == ("__debug__" : Str))=false:=by decide) (he:starEach (e::es) X.env=(false,eval e X.env)::starEach es X.env:=by rfl) (hpl:(backTo pos (starEach es X.env)).any (·.1)=false:=by rfl) :
    PE X (.Call (.Name x p) (e::es) [] pos) (tX .F X.K E (QfH fD wr)):=PE.imp (Qcq G hr hg hm hk hb .nil hx ha hdb he hpl) QfO
def takeD:DF:=fun args R _=>∃ f,args=[.pot,.v (.int f)]/\0<f/\f<=10^40/\∀ r,0<=r->r<f->R (.int r)
theorem take_d {vs:List V} {H:Hp} {Q:VK} {Ex:XK} (h:toSp true takeD vs H Q Ex):QfZ vs H Q Ex:=by
  obtain ⟨A,pt,args,R,EX,dm,hp,q,⟨f,rfl,f0,f1,hR⟩,k,_⟩:=h
  cases q with
  | cons q1 q2=>cases q2 with
    | cons q2 q3=>
      cases q3
      obtain ⟨p,rfl,pp⟩:=q1
      cases q2
      obtain ⟨_,n,e⟩:=hp p pp
      refine ⟨p,n,f,rfl,e,f0,f1,fun r m r0 r1=>k _ (hR r r0 r1) _ _ ⟨fun b o nb eb=>?_,fun z hz=>?_⟩ (.int _) fun _=>Qa1⟩
      · rw [Qal (fun z=>nb (by rw [z];exact pp))];exact eb
      · by_cases y:z=p
        · rw [y];exact ⟨m,Qaf⟩
        · obtain ⟨_,n',e'⟩:=hp z hz
          exact ⟨n',by rw [Qal y];exact e'⟩
def potD:DF:=fun args R _=>∃ c,args=[.v (.int c)]/\∀ n,R (.list [.int n])
theorem pot_d {vs:List V} {H:Hp} {Q:VK} {Ex:XK} (h:toSp true potD vs H Q Ex):spPot vs H Q Ex:=by
  obtain ⟨A,pt,args,R,EX,dm,hp,q,⟨c,rfl,hR⟩,k,_⟩:=h
  cases q with
  | cons q1 q2=>
    cases q2
    cases q1
    refine ⟨c,rfl,fun p n hn=>k _ (hR n) _ _ ⟨fun b o _ eb=>Qad hn b o eb,fun z hz=>?_⟩ (.lst (fun z=>?_) Qaf (.cons (.int _) .nil)) fun _=>Qbx hn⟩
    · obtain ⟨_,n',e'⟩:=hp z hz
      exact ⟨n',Qad hn _ _ e'⟩
    · obtain ⟨xs,e⟩:=dm p z
      rw [hn] at e;cases e
def isW:PyData->Bool
  | .int _=>true
  | _=>false
def wholeD:DF:=fun args R _=>∃ d,args=[.v d]/\R (.bool (isW d))
def sameD (n:Nat):DF:=fun args R _=>∃ d,args=[.v d,.v d]/\nd d=true/\QcL n d=true/\R (.bool true)
theorem same_d {n:Nat} {vs:List V} {H:Hp} {Q:VK} {Ex:XK} (h:toSp false (sameD n) vs H Q Ex):Qfl (n+1) vs H Q Ex:=by
  obtain ⟨A,pt,args,R,EX,dm,hp,q,⟨d,rfl,hn,hf,hR⟩,k,_⟩:=h
  cases q with
  | cons q1 q2=>cases q2 with
    | cons q2 q3=>
      cases q3
      exact ⟨_,_,d,rfl,QeX d _ hn q1,QeX d _ hn q2,hf,fun H' s=>k _ hR _ H' ⟨fun b o _ e=>s b o e,fun p hp'=>let ⟨_,n,e⟩:=hp p hp';⟨n,s _ _ e⟩⟩ (.bl _) fun z=>by cases z⟩
theorem Qhu {K:PySem.W.Frag} {F:Fm} {σ:L2.St} {H:Hp} {δ:Sts} (r:Rel K F σ H δ) {a:Addr} {xs:List V} (h:SqL K F.H0 a xs) (n:¬ F.pt a):SqL K H a xs:=by
  rcases h with h | h
  · rcases h with h | ⟨o,h⟩
    · exact .inl (.inl (r.kx _ _ n h))
    · exact .inl (.inr ⟨o,r.kx _ _ n h⟩)
  · exact .inr h
def Qnk (i:Nat):DE:=fun δ Q _=>match δ[i]? with
  | some .scr=>∀ n:Nat,n<=63->Q (.int n)
  | _=>False
theorem Qmv {i:Nat} {a:Expr} (hg:Gl X "len") (hm:X.mg "len" = none) (h:PE X a (tVar i)) (hs:notStar a=true:=by rfl):PE X (.Call (.Name "len" p) [a] [] pos) (tX .F X.K E (Qnk i)):=by
  refine PE.imp (Qax Qa6 hg hm QdI (pa_c h Qaq hs) (he:=by rw [QaW hs])) fun σ H Q ⟨F,δ,R,EX,rel,hw,k,o⟩=>?_
  unfold Qnk at hw
  split at hw
  · rename_i hd
    obtain ⟨x,hx⟩:=rel.lt hd
    obtain ⟨l,ns,rfl,sq,np,n63⟩:=rel.sl i _ _ hx hd
    refine ⟨_,hx,l,_,rfl,.inl (Qhu rel sq np),?_⟩
    rw [List.length_map]
    exact k _ (hw _ n63) _ H rel (Kp.refl rel) ⟨.int _,Qa1⟩
  · exact hw.elim
def Qnl (i:Nat) (wb:DE):DE:=fun δ Q EX=>match δ[i]? with
  | some .scr=>wb δ (fun d=>match d with
    | .int k=>0<=k/\∀ c,Q (.int c)
    | _=>False) EX
  | _=>False
theorem Qmy {i:Nat} {a b:Expr} {wb:DE} (G:FnOk X.prog X.w X.K X.mg X.base CX0 k f fd ps (Qb8 X.K)) (hr:Room k X.A) (hg:Gl X x) (hm:X.mg x=some (.ref f)) (hk:PySem.W.keepIn X.K (.ref f)=true) (hb:Binds X.K fd ps [])
    (ha:PE X a (tVar i)) (h:PE X b (tX .P X.K E wb)) (h1:notStar a=true:=by rfl) (h2:notStar b=true:=by rfl) (hdb:(x == ("__debug__" : Str))=false:=by decide) :
    PE X (.Call (.Name x p) [a,b] [] pos) (tX .F X.K E (Qnl i wb)):=by
  refine PE.imp (Qcq (E:=E) G hr hg hm hk hb .nil QaL (pa_c ha (pa_c h Qaq h2) h1) hdb (QaW h1) (by rw [QaW h2];rfl)) fun σ H Q ⟨F,δ,R,EX,rel,hw,k,o⟩=>?_
  unfold Qnl at hw
  split at hw
  · rename_i hd
    obtain ⟨x,hx⟩:=rel.lt hd
    obtain ⟨l,ns,rfl,sq,np,n63⟩:=rel.sl i _ _ hx hd
    refine ⟨_,hx,F,δ,_,EX,rel,hw,fun d hd2 v H' rel' kp vk=>?_,o⟩
    cases d<;>first | exact (show False from hd2).elim | skip
    rw [DP.int vk]
    exact ⟨l,ns,_,rfl,Qhu rel' sq np,Nat.lt_of_le_of_lt n63 (by decide),hd2.1,fun c=>k _ (hd2.2 c) _ H' rel' kp ⟨.int _,Qa1⟩⟩
  · exact hw.elim
end
section
variable {P:Program} {w:World} {K:PySem.W.Frag} {mg:Str->Option Value} {base:Heap}
def spLawD (K:PySem.W.Frag):Sp:=fun vs H Q _=>∃ (a:Addr) (ns:List Int),vs=[.ref a]/\SqL K H a (ns.map V.int)/\ns.length<=63/\∀ H',Q (.bl true) H'
def endsL:DEnds:=⟨fun _=>False,fun d=>d=.bool true,fun d=>d=.bool true,fun _=>False,fun _=>False,XF⟩
theorem okLaw {x qual:Str} {st:Stmt} {f:Addr} {fd:FuncData} {N:List Str} {p:Str} {k:Nat} (F:Fun K x qual st f fd) (S:FnScope N [p] (Qaa st))
    (hbody:∀ (cdv:Value) (A:Around) (outer:List Env) (s:Shared) (H:Hp) (E:XK),Room k (A.deeper (envOfC qual (Qaa st) s.heap.objs.size f cdv)) ->
      ∃ wd,PSs (cxOf CX0 P w K mg base N qual (Qaa st) f cdv A outer s H E).nox (Qan st) (tS K E0 wd)/\wd endsL (stD N [.scr])):FnOk P w K mg base CX0 (k+1) f fd [p] (spLawD K):=by
  refine F.ok S (fun vs H Q E h=>?_) fun cdv A outer s H vs Q E hr h=>?_
  · obtain ⟨a,ns,rfl,_⟩:=h
    rfl
  · obtain ⟨wd,hp,hw⟩:=hbody cdv A outer s H E hr
    obtain ⟨a,ns,rfl,sq,n63,k⟩:=h
    have get0:∀ (i:Nat) o y,(L2.start N [V.ref a])[i]? = some o->(stD N [.scr])[i]? = some y->y≠.no->o=some (.ref a)/\y=.scr:=fun i o y h1 h2 hy=>by
      cases i with
      | zero=>cases h1;cases h2;exact ⟨rfl,rfl⟩
      | succ i=>
        unfold stD at h2
        rw [List.getElem?_append_right (by simp),List.getElem?_replicate] at h2
        split at h2
        · exact absurd (Option.some.inj h2).symm hy
        · cases h2
    have noav:∀ b,¬ Av (⟨H,fun _=>False,fun _=>False⟩:Fm) (L2.start N [V.ref a]) (stD N [.scr]) b:=fun b z=>by
      rcases z with z | ⟨i,h1,h2⟩
      · exact z
      · rcases h2 with h2 | ⟨ds,h2⟩
        · cases (get0 i _ _ h1 h2 (fun z=>by cases z)).2
        · cases (get0 i _ _ h1 h2 (fun z=>by cases z)).2
    refine ⟨_,hp,⟨H,fun _=>False,fun _=>False⟩,_,_,?_,hw,?_⟩
    · exact {
        len:=by unfold L2.start stD;simp
        dom:=fun _ h=>h.elim
        dom0:=fun _ h=>h.elim
        pt0:=fun _ h=>h.elim
        kx:=fun _ _ _ e=>e
        sl:=fun i o y h1 h2=>by
          cases y with
          | no=>trivial
          | scr=>
            obtain ⟨rfl,_⟩:=get0 i _ _ h1 h2 (fun z=>by cases z)
            exact ⟨a,ns,rfl,sq,fun z=>z,n63⟩
          | v d=>cases (get0 i _ _ h1 h2 (fun z=>by cases z)).2
          | own d=>cases (get0 i _ _ h1 h2 (fun z=>by cases z)).2
          | pk d=>cases (get0 i _ _ h1 h2 (fun z=>by cases z)).2
          | pot=>cases (get0 i _ _ h1 h2 (fun z=>by cases z)).2
        inj:=fun i j b ds h1 h2 _=>by cases (get0 i _ _ h2 h1 (fun z=>by cases z)).2 }
    · exact {
        nx:=⟨fun _ h=>h.elim⟩
        rt:=fun d h v H' ke dv=>by cases (show d=.bool true from h);cases dv;exact k H'
        rtF:=fun d h v H' ke dv _=>by cases (show d=.bool true from h);cases dv;exact k H'
        bk:=⟨fun _ h=>h.elim⟩
        ct:=⟨fun _ h=>h.elim⟩
        ex:=outF }
end
theorem Qjn {α:Type} {p:α->Prop}:∀ x∈([]:List α),p x:=fun _ h=>nomatch h
theorem Qar {α:Type} {p:α->Prop} {a:α} {l:List α} (h:p a) (t:∀ x∈l,p x):∀ x∈a::l,p x:=fun x hx=>by
  rcases List.mem_cons.mp hx with z | z
  · rw [z];exact h
  · exact t x z
theorem and_if {b c:Bool} {R:PyData->Prop} (h:R (.bool (b&&c))):if b=true then R (.bool c) else R (.bool false):=by
  cases b
  · exact iteF h
  · exact iteT h
theorem ifF {c:Bool} {A B:Prop} (h:c=false) (k:B):if c=true then A else B:=by subst h;exact k
theorem ifT {c:Bool} {A B:Prop} (h:c=true) (k:A):if c=true then A else B:=by subst h;exact k
theorem ifC {c:Bool} {A B:Prop} (t:c=true->A) (f:c=false->B):if c=true then A else B:=by
  cases c
  · exact f rfl
  · exact t rfl
theorem all_map {α:Type} (l:List α) (g:α->Bool):(l.map g).all id=l.all g:=by
  rw [List.all_map];rfl
theorem Qjm {ds:List PyData} {Q:PyData->Prop} {g:PyData->Bool} {items:List PyData} (h:ds=[.list (items.map fun d=>.bool (g d))]) (q:Q (.bool (items.all g))):allD ds Q:=by
  subst h
  unfold allD
  refine ⟨items.map g,?_,by rw [all_map];exact q⟩
  rw [show items.map (fun d=>PyData.bool (g d))=(items.map g).map PyData.bool by rw [List.map_map];rfl,Qjd]
theorem cm_all {items:List PyData} {wg:DG} {we:DE} {δ:Sts} {Q:PyData->Prop} (Pd:PyData->Prop) (h:∀ d∈items,∀ (k2:PyData->Prop),(∀ e,Pd e->k2 e)->wg d δ fun δ4=>we δ4 k2 XF) (q:∀ acc,acc.length=items.length->(∀ e∈acc,Pd e)->Q (.list acc)) :
    Qep items wg dNoT we δ Q:=by
  unfold Qep
  refine ⟨fun i acc=>acc.length=i/\∀ e∈acc,Pd e,⟨rfl,fun _ h=>nomatch h⟩,fun i acc d hd ⟨hl,ha⟩=>?_,fun acc ⟨hl,ha⟩=>q acc hl ha⟩
  have hh:=h d (List.mem_of_getElem? hd) (fun e=>(acc++[e]).length=i+1/\∀ x∈acc++[e],Pd x) fun e he=>⟨by rw [List.length_append,hl];rfl,fun x hx=>by
    rcases List.mem_append.mp hx with z | z
    · exact ha x z
    · rw [List.mem_singleton.mp z];exact he⟩
  simp only [dNoT,if_true]
  exact hh
end Dl
namespace L2
open PySem PySem.Spec PyProof.Rows
section
variable {X:Cx}
end
end L2
namespace Dl
open PySem PySem.Spec PyProof.Rows L2 _root_.Rd Rk
section
variable {X:Cx} {E:XK}
def revLD (d:PyData) (Q:PyData->Prop):Prop:=
  match d with
  | .list ds=>Q (.list ds.reverse)
  | _=>False
def dRevL (we ws:DE):DE:=fun δ Q EX=>we δ (fun d=>ws δ (fun s=>(match s with | .int i=>i = -1 | _=>False)/\revLD d Q) EX) EX
def dLRng (w:DE):DE:=fun δ Q EX=>w δ (fun d=>match d with
  | .int j=>(-1000<=j/\j<=1000)/\Q (.list ((List.range j.toNat).map fun (i:Nat)=>.int i))
  | _=>False) EX
theorem Qng {A:Addr->Prop} {H:Hp} (l:List Nat):DAs A H (l.map fun (i:Nat)=>V.int (i:Nat)) (l.map fun (i:Nat)=>PyData.int (i:Nat)):=by
  induction l with
  | nil=>exact .nil
  | cons i l ih=>exact .cons (.int _) ih
variable {e:Expr} {w:DE} {p p2 pos pos2:Pos}
theorem Qh8 (hg:Gl X "list") (hm:X.mg "list" = none) (hg2:Gl X "range") (hm2:X.mg "range" = none) (h:PE X e (tX .P X.K E w)) (hc:X.calm=true:=by rfl) (hs:notStar e=true:=by rfl):PE X (.Call (.Name "list" p) [.Call (.Name "range" p2) [e] [] pos2] [] pos) (tX .F X.K E (dLRng w)):=by
  refine PE.imp (QeL (QfN hc) hg hm QcA (pa_c (Qgc hg2 hm2 (pa_c h Qaq hs) (by rw [QaW hs];rfl)) Qaq)) fun σ H Q ⟨F,δ,R,EX,rel,hw,k,o⟩=>?_
  refine ⟨F,δ,_,EX,rel,hw,fun d hd v H1 rel1 kp1 vk=>?_,o⟩
  cases d<;>first | exact (show False from hd).elim | skip
  obtain ⟨⟨h1,h2⟩,hR⟩:=hd
  rw [DP.int vk]
  refine ⟨_,rfl,fun r H2 s2 n2 e2=>⟨r,_,rfl,e2,h1,h2,fun t H3 s3 n3 e3=>?_⟩⟩
  have r2:=rel1.same s2
  have K2:=kp1.trans (Kp.same rel1 s2)
  exact k _ hR _ H3 (r2.same s3) (K2.trans (Kp.same r2 s3)) ⟨Qc8 (fun a ha=>r2.isl ha) s3 n3 e3 (Qng _),Qbx (Qbw K2 n3)⟩
end
theorem at_mem {ds:List PyData} {i:Int} (h0:0<=i) (h1:i<ds.length):∃ d,d∈ds/\atI ds i=some d:=by
  obtain ⟨j,rfl⟩:∃ j:Nat,i=j:=⟨i.toNat,by omega⟩
  have hj:j<ds.length:=by omega
  exact ⟨ds[j],List.getElem_mem hj,Qau (List.getElem?_eq_getElem hj)⟩
theorem Qkx {ds:List PyData} {i:Int} {Q:PyData->Prop} (h0:0<=i) (h1:i<ds.length) (q:∀ d∈ds,Q d):∃ d,atI ds i=some d/\Q d:=by
  obtain ⟨d,hd,e⟩:=at_mem h0 h1
  exact ⟨d,e,q d hd⟩
structure QE (m:Md) (X:Cx) (E:XK) (e:Expr) (w:DE):Prop where h:PE X e (tX m X.K E w)
structure QT (X:Cx) (E:XK) (e:Expr) (w:DT):Prop where h:PT X e (tT X.K E w)
structure QW (X:Cx) (E:XK) (e:Expr) (w:DT):Prop where h:PW X e (tT X.K E w)
structure QTs (X:Cx) (E:XK) (es:List Expr) (w:DT):Prop where h:PTs X es (tT X.K E w)
structure QA (n:Nat) (m:Md) (X:Cx) (E:XK) (es:List Expr) (w:DAr):Prop where h:PA X es (tAr n m X.K E w)
structure QAs (X:Cx) (E:XK) (es:List Expr) (w:DSl):Prop where h:PA X es (tAs X.K E w)
structure QO (X:Cx) (E:XK) (o:Option Expr) (w:DO):Prop where h:PO X o (tO X.K E w)
structure QG (ix:List Nat) (X:Cx) (tg:Expr) (w:DG):Prop where h:PG X tg (tG ix X.K w)
structure QI (m:Md) (X:Cx) (E:XK) (tg it:Expr) (w:DI):Prop where h:PI X tg it (tI m X.K E w)
structure QS (X:Cx) (E:XK) (st:Stmt) (w:DS):Prop where h:PS X st (tS X.K E w)
structure QSs (X:Cx) (E:XK) (sts:List Stmt) (w:DS):Prop where h:PSs X sts (tS X.K E w)
section
variable {X:Cx} {E:XK}
theorem Qas {e:Expr} {w:DE} (h:QE .F X E e w):QE .D X E e w:=⟨toD h.h⟩
theorem Qao {e:Expr} {w:DE} (h:QE .D X E e w):QE .P X E e w:=⟨toP h.h⟩
theorem Qag {e:Expr} {w:DE} (h:QE .F X E e w):QE .P X E e w:=⟨toPF h.h⟩
theorem qv (i:Nat) {x:Str} {pos:Pos} (hN:X.N[i]? = some x:=by rfl) (hv:Vis X.env.scope x:=by first | exact Or.inl rfl | exact Or.inr (Or.inl rfl) | exact Or.inr (Or.inr rfl)) (hd:(x == ("__debug__" : Str))=false:=by decide) (hcd:(x == ("__classdict__" : Str))=false:=by decide):QE .D X E (.Name x pos) (dVar i):=⟨pd_var (pv i hN hv hd hcd)⟩
theorem qp (i:Nat) {x:Str} {pos:Pos} (hN:X.N[i]? = some x:=by rfl) (hv:Vis X.env.scope x:=by first | exact Or.inl rfl | exact Or.inr (Or.inl rfl) | exact Or.inr (Or.inr rfl)) (hd:(x == ("__debug__" : Str))=false:=by decide) (hcd:(x == ("__classdict__" : Str))=false:=by decide):QE .P X E (.Name x pos) (dPk i):=⟨pd_pk (pv i hN hv hd hcd)⟩
theorem Qak {i:Int} {j pos}:QE .D X E (.Constant (.int i) j pos) (dC (.int i)):=⟨pd_int⟩
theorem q_bl {b:Bool} {j pos}:QE .D X E (.Constant (.bool b) j pos) (dC (.bool b)):=⟨pd_bl⟩
theorem q_non {j pos}:QE .D X E (.Constant .none j pos) (dC .none):=⟨pd_non⟩
theorem Qfo {x:Str} {j pos} (h:PyData.canLay0 (.str x)=true:=by decide +kernel):QE .D X E (.Constant (.str x) j pos) (dC (.str x)):=⟨pd_str h⟩
theorem q_glob {x:Str} (i:Int) {u:Value} {pos:Pos} (hg:Gl X x) (hm:X.mg x=some u) (r:RelV (.int i) u) (hd:(x == ("__debug__" : Str))=false:=by decide):QE .D X E (.Name x pos) (dC (.int i)):=⟨pd_c (Qh1 hg hm r hd) fun _ _=>.int i⟩
theorem Qa0 {a b:Expr} {wa wb:DE} {pos:Pos} {r:R2} {rD:PyData->PyData->(PyData->Prop)->Prop} {op:Operator} (ho:OpR X (binaryOp op) r) (hd:OpD r rD) (ha:QE .P X E a wa) (hb:QE .P X E b wb):QE .F X E (.BinOp a op b pos) (dOp rD wa wb):=⟨pd_bin ho hd ha.h hb.h⟩
theorem QjM {a b:Expr} {wa wb:DE} {pos:Pos} {r:R2} {rD:PyData->PyData->(PyData->Prop)->Prop} {op:CmpOp} (ho:OpR X (compareOp op) r) (hd:OpD r rD) (ha:QE .P X E a wa) (hb:QE .P X E b wb) (hm:behindInMarks op b=false):QE .F X E (.Compare a [op] [b] pos) (dOp rD wa wb):=⟨pd_cmp ho hd ha.h hb.h hm⟩
theorem Qcb {a b:Expr} {wa wb:DE} {pos:Pos} {r:R2} {rD:PyData->PyData->(PyData->Prop)->Prop} {op:CmpOp} (ho:OpR X (compareOp op) r) (hd:OpD r rD) (ha:QE .P X E a wa) (hb:QE .P X E b wb) (hm:behindInMarks op b=false):QT X E (.Compare a [op] [b] pos) (dTst (dOp rD wa wb)):=⟨Qmi ho hd ha.h hb.h hm⟩
theorem q_ix {a b:Expr} {wa wb:DE} {pos:Pos} {r:R2} {rD:PyData->PyData->(PyData->Prop)->Prop} (ho:IxR X r) (hd:OpDn r rD) (ha:QE .P X E a wa) (hb:QE .P X E b wb) (hs:QfR b):QE .D X E (.Subscript a b pos) (dOp rD wa wb):=⟨pd_ix ho hd ha.h hb.h hs⟩
theorem QjK {a:Expr} {wa:DE} {pos:Pos} (ha:QE .P X E a wa):QE .F X E (.UnaryOp .USub a pos) (dUn negD wa):=⟨pd_neg ha.h⟩
theorem q_ch {a b c:Expr} {wa wb wc:DE} {pos:Pos} {op op':CmpOp} {p q:Int->Int->Bool} (ho:OpR X (compareOp op) (rI0 fun i j=>.bl (p i j))) (ho':OpR X (compareOp op') (rI0 fun i j=>.bl (q i j))) (ha:QE .P X E a wa) (hb:QE .P X E b wb) (hc:QE .P X E c wc) (hm:lastMarks [op,op'] [b,c]=false:=by with_unfolding_all rfl):QE .F X E (.Compare a [op,op'] [b,c] pos) (dCh p q wa wb wc):=⟨pd_ch ho ho' ha.h hb.h hc.h hm⟩
theorem qt_ch {a b c:Expr} {wa wb wc:DE} {pos:Pos} {op op':CmpOp} {p q:Int->Int->Bool} (ho:OpR X (compareOp op) (rI0 fun i j=>.bl (p i j))) (ho':OpR X (compareOp op') (rI0 fun i j=>.bl (q i j))) (ha:QE .P X E a wa) (hb:QE .P X E b wb) (hc:QE .P X E c wc) (hm:lastMarks [op,op'] [b,c]=false:=by with_unfolding_all rfl):QT X E (.Compare a [op,op'] [b,c] pos) (dTst (dCh p q wa wb wc)):=⟨pdt_ch ho ho' ha.h hb.h hc.h hm⟩
theorem QhL {e:Expr} {w:DE} (h:QE .P X E e w) (he:∀ whole,isTrue e X.env whole=(do let v <- whole;standAt e.pos;holding [v] (truthy v)):=by intro _;rfl):QT X E e (dTru w):=⟨Qmg h.h he⟩
theorem Qdt {e:Expr} {w:DE} (h:QE .P X E e w) (he:∀ whole,isTrue e X.env whole=(do let v <- whole;standAt e.pos;holding [v] (truthy v)):=by intro _;rfl):QT X E e (dTst w):=⟨Qmf h.h he⟩
theorem QhJ {a:Expr} {pos:Pos} {ta:DT} (ha:QT X E a ta):QW X E (.BoolOp .And [a] pos) ta:=⟨QjW ha.h⟩
theorem QhK {a b:Expr} {rest:List Expr} {pos:Pos} {ta tb:DT} (ha:QT X E a ta) (hb:QW X E (.BoolOp .And (b::rest) pos) tb):QW X E (.BoolOp .And (a::b::rest) pos) (dAnd ta tb):=⟨Qme ha.h hb.h⟩
theorem Ql0 {a b:Expr} {rest:List Expr} {pos:Pos} {wa wb:DE} (ha:QE .P X E a wa) (hb:QE .D X E (.BoolOp .And (b::rest) pos) wb):QE .D X E (.BoolOp .And (a::b::rest) pos) (dAndV wa wb):=⟨pd_and ha.h hb.h⟩
theorem q_pw {e:Expr} {t:DT} (h:QW X E e t):QT X E e t:=⟨PW.pt h.h⟩
theorem QeC {a:Expr} {pos:Pos} {ta:DT} (ha:QT X E a ta):QT X E (.UnaryOp .Not a pos) (dNot ta):=⟨Qmh ha.h⟩
theorem QlZ {op} {a:Expr} {pos:Pos} {w:DE} (h:QE .D X E a w):QE .D X E (.BoolOp op [a] pos) w:=⟨pd_one h.h⟩
theorem q_not {a:Expr} {pos:Pos} {wa:DE} (ha:QE .P X E a wa):QE .D X E (.UnaryOp .Not a pos) (dNotV wa):=⟨pd_not ha.h⟩
theorem q_ifE {c a b:Expr} {pos:Pos} {ta:DT} {wa wb:DE} (hc:QT X E c ta) (ha:QE .D X E a wa) (hb:QE .D X E b wb):QE .D X E (.IfExp c a b pos) (dIfE ta wa wb):=⟨pd_ifE hc.h ha.h hb.h⟩
theorem Qah {m:Md}:QA 0 m X E [] dNil:=⟨Qmu⟩
theorem qa_D {n:Nat} {e:Expr} {es:List Expr} {we:DE} {wr:DAr} (he:QE .D X E e we) (hr:QA n .D X E es wr) (hs:notStar e=true:=by rfl):QA (n+1) .D X E (e::es) (QiZ we wr):=⟨Qh7 he.h hr.h hs⟩
theorem qa_P {n:Nat} {e:Expr} {es:List Expr} {we:DE} {wr:DAr} (he:QE .P X E e we) (hr:QA n .P X E es wr) (hs:notStar e=true:=by rfl):QA (n+1) .P X E (e::es) (QiZ we wr):=⟨Qh6 he.h hr.h hs⟩
theorem Qbk {n:Nat} {es:List Expr} {w:DAr} {x1} {pos:Pos} (h:QA n .D X E es w) (hn:n<=1000:=by decide):QE .F X E (.Tuple es x1 pos) (dTup w):=⟨pd_tup h.h hn⟩
theorem QbM {n:Nat} {es:List Expr} {w:DAr} {pos:Pos} (h:QA n .D X E es w) (hn:n<=1000:=by decide):QE .F X E (.List es pos) (dLst w):=⟨pd_lst h.h hn⟩
theorem q_dct {pos:Pos}:QE .D X E (.Dict [] [] pos) (dC (.dict [])):=⟨pd_dct⟩
theorem Qbg {x:Str} {bid:String} {p pos:Pos} {e:Expr} {es:List Expr} {n:Nat} {wr:DAr} {r:List V->Hp->VK->Prop} {rD:List PyData->(PyData->Prop)->Prop} (hc:CallR X (.builtin bid) r) (hd:QcB r rD) (hg:Gl X x) (hm:X.mg x=none) (hv:bootBuiltins x=some (.builtin bid)) (ha:QA n .P X E (e::es) wr) (hn:x ≠ "__name__" := by decide) (hdb:(x == ("__debug__" : Str))=false:=by decide) (he:starEach (e::es) X.env=(false,eval e X.env)::starEach es X.env:=by rfl) (hpl:(backTo pos (starEach es X.env)).any (·.1)=false:=by rfl):QE .F X E (.Call (.Name x p) (e::es) [] pos) (dCB rD wr):=⟨Qke hc hd hg hm hv ha.h hn hdb he hpl⟩
theorem QdZ {x:Str} {T:String} {p pos:Pos} {e:Expr} {es:List Expr} {n:Nat} {wr:DAr} {r:List V->Hp->VK->Prop} {rD:List PyData->(PyData->Prop)->Prop} (hc:CallR X (.type T) r) (hd:QcB r rD) (hg:Gl X x) (hm:X.mg x=none) (hv:bootBuiltins x=some (.type T)) (ha:QA n .P X E (e::es) wr) (hn:x ≠ "__name__" := by decide) (hdb:(x == ("__debug__" : Str))=false:=by decide) (he:starEach (e::es) X.env=(false,eval e X.env)::starEach es X.env:=by rfl) (hpl:(backTo pos (starEach es X.env)).any (·.1)=false:=by rfl):QE .F X E (.Call (.Name x p) (e::es) [] pos) (dCB rD wr):=⟨Qh9 hc hd hg hm hv ha.h hn hdb he hpl⟩
theorem Qc2 {e:Expr} {we:DE} {p pos pos2:Pos} {x:Str} (tn:Tn) (hg:Gl X "isinstance") (hm:X.mg "isinstance" = none) (he:QE .P X E e we) (hg2:Gl X x) (hm2:X.mg x=none) (hv:bootBuiltins x=some (.type tn.s)) (hn:x ≠ "__name__" := by decide) (hd:(x == ("__debug__" : Str))=false:=by decide) (h1:notStar e=true:=by rfl):QE .F X E (.Call (.Name "isinstance" p) [e,.Name x pos2] [] pos) (dInst tn we):=⟨Qmw tn hg hm he.h (pb_ty tn hg2 hm2 hv hn hd) h1 rfl⟩
theorem QhR  : QO X E none dNo:=⟨Qj8⟩
theorem QhQ {e:Expr} {we:DE} (he:QE .P X E e we):QO X E (some e) (dSo we):=⟨Qj7 he.h⟩
theorem QhS {e:Expr} {lo hi:Option Expr} {we:DE} {wl wh:DO} {p2 pos:Pos} (he:QE .P X E e we) (hl:QO X E lo wl) (hh:QO X E hi wh):QE .F X E (.Subscript e (.Slice lo hi none p2) pos) (dSl we wl wh):=⟨Qkc he.h hl.h hh.h⟩
theorem QjL {e:Expr} {w:DE} {p p2 pos pos2:Pos} (hg:Gl X "list") (hm:X.mg "list" = none) (hg2:Gl X "range") (hm2:X.mg "range" = none) (h:QE .P X E e w) (hc:X.calm=true:=by rfl) (hs:notStar e=true:=by rfl):QE .F X E (.Call (.Name "list" p) [.Call (.Name "range" p2) [e] [] pos2] [] pos) (dLRng w):=⟨Qh8 hg hm hg2 hm2 h.h hc hs⟩
theorem Qay  : QAs X E [] sNil:=⟨Qmm⟩
theorem qs_v {e:Expr} {es:List Expr} {we:DE} {wr:DSl} (he:QE .D X E e we) (hr:QAs X E es wr) (hs:notStar e=true:=by rfl):QAs X E (e::es) (sV we wr):=⟨pds_v he.h hr.h hs⟩
theorem Qbo (i:Nat) {x:Str} {pos:Pos} {es:List Expr} {wr:DSl} (hr:QAs X E es wr) (hN:X.N[i]? = some x:=by rfl) (hv:Vis X.env.scope x:=by first | exact Or.inl rfl | exact Or.inr (Or.inl rfl) | exact Or.inr (Or.inr rfl)) (hd:(x == ("__debug__" : Str))=false:=by decide) (hcd:(x == ("__classdict__" : Str))=false:=by decide):QAs X E (.Name x pos::es) (sPot i wr):=⟨Qmk (pv i hN hv hd hcd) hr.h rfl⟩
theorem Qbp {CX:CXT} {k:Nat} {f:Addr} {fd:FuncData} {ps:List Str} {x:Str} {p pos:Pos} {e:Expr} {es:List Expr} {fD:DF} {wa:DSl} (G:FnOk X.prog X.w X.K X.mg X.base CX k f fd ps (toSp false fD)) (hr:Room k X.A) (hg:Gl X x) (hm:X.mg x=some (.ref f)) (hk:PySem.W.keepIn X.K (.ref f)=true) (hb:Binds X.K fd ps []) (hx:QbG CX X E) (ha:QAs X E (e::es) wa) (hdb:(x == ("__debug__" : Str))=false:=by decide) (he:starEach (e::es) X.env=(false,eval e X.env)::starEach es X.env:=by rfl) (hpl:(backTo pos (starEach es X.env)).any (·.1)=false:=by rfl):QE .D X E (.Call (.Name x p) (e::es) [] pos) (Qi0 fD wa):=⟨Qmz G hr hg hm hk hb hx ha.h hdb he hpl⟩
theorem QaG {CX:CXT} {k:Nat} {f:Addr} {fd:FuncData} {ps:List Str} {x:Str} {p pos:Pos} {e:Expr} {es:List Expr} {fD:DF} {wa:DSl} (G:FnOk X.prog X.w X.K X.mg X.base CX k f fd ps (toSp true fD)) (hr:Room k X.A) (hg:Gl X x) (hm:X.mg x=some (.ref f)) (hk:PySem.W.keepIn X.K (.ref f)=true) (hb:Binds X.K fd ps []) (hx:QbG CX X E) (ha:QAs X E (e::es) wa) (hdb:(x == ("__debug__" : Str))=false:=by decide) (he:starEach (e::es) X.env=(false,eval e X.env)::starEach es X.env:=by rfl) (hpl:(backTo pos (starEach es X.env)).any (·.1)=false:=by rfl):QE .F X E (.Call (.Name x p) (e::es) [] pos) (Qi0 fD wa):=⟨Qkd G hr hg hm hk hb hx ha.h hdb he hpl⟩
theorem Qf7 {CX:CXT} {k:Nat} {f:Addr} {fd:FuncData} {ps:List Str} {x:Str} {p pos:Pos} {e:Expr} {es:List Expr} {fD:DF} {n:Nat} {fr:Bool} {wr:DAr} (G:FnOk X.prog X.w X.K X.mg X.base CX k f fd ps (toSp fr fD)) (hr:Room k X.A) (hg:Gl X x) (hm:X.mg x=some (.ref f)) (hk:PySem.W.keepIn X.K (.ref f)=true) (hb:Binds X.K fd ps []) (hx:QbG CX X E) (ha:QA n .P X E (e::es) wr) (hdb:(x == ("__debug__" : Str))=false:=by decide) (he:starEach (e::es) X.env=(false,eval e X.env)::starEach es X.env:=by rfl) (hpl:(backTo pos (starEach es X.env)).any (·.1)=false:=by rfl):QE .F X E (.Call (.Name x p) (e::es) [] pos) (QfH fD wr):=⟨Qia G hr hg hm hk hb hx ha.h hdb he hpl⟩
theorem Qk5 {k:Nat} {f:Addr} {fd:FuncData} {ps:List Str} {x y:Str} {p pos pos2:Pos} {b:Expr} {wb:DE} (i:Nat) (G:FnOk X.prog X.w X.K X.mg X.base CX0 k f fd ps (Qb8 X.K)) (hr:Room k X.A) (hg:Gl X x) (hm:X.mg x=some (.ref f)) (hk:PySem.W.keepIn X.K (.ref f)=true) (hb:Binds X.K fd ps []) (h:QE .P X E b wb) (hN:X.N[i]? = some y:=by rfl) (hv:Vis X.env.scope y:=by first | exact Or.inl rfl | exact Or.inr (Or.inl rfl) | exact Or.inr (Or.inr rfl)) (hd:(y == ("__debug__" : Str))=false:=by decide) (hcd:(y == ("__classdict__" : Str))=false:=by decide) (h2:notStar b=true:=by rfl) (hdb:(x == ("__debug__" : Str))=false:=by decide):QE .F X E (.Call (.Name x p) [.Name y pos2,b] [] pos) (Qnl i wb):=⟨Qmy G hr hg hm hk hb (pv i hN hv hd hcd) h.h rfl h2 hdb⟩
theorem q_lenS {y:Str} {p pos pos2:Pos} (i:Nat) (hg:Gl X "len") (hm:X.mg "len" = none) (hN:X.N[i]? = some y:=by rfl) (hv:Vis X.env.scope y:=by first | exact Or.inl rfl | exact Or.inr (Or.inl rfl) | exact Or.inr (Or.inr rfl)) (hd:(y == ("__debug__" : Str))=false:=by decide) (hcd:(y == ("__classdict__" : Str))=false:=by decide):QE .F X E (.Call (.Name "len" p) [.Name y pos2] [] pos) (Qnk i):=⟨Qmv hg hm (pv i hN hv hd hcd) rfl⟩
theorem QaB (i:Nat) {x:Str} {pos:Pos} (hN:X.N.Nodup) (hi:X.N[i]? = some x) (hx:Loc X.env.scope x) (hf:X.fn x=true∨X.env.scope.names.lookup x=some .local:=by first | exact .inl rfl | exact .inr rfl | assumption):QG [i] X (.Name x pos) (gN i):=⟨Qkb (Qc3 hN hi hx hf)⟩
structure QGs (X:Cx) (es:List Expr) (is:List Nat):Prop where h:PGs X es (gNs is)
theorem QeF  : QGs X [] []:=⟨QhX⟩
theorem Qbf (i:Nat) {is:List Nat} {x:Str} {pos:Pos} {es:List Expr} (h:QGs X es is) (hN:X.N.Nodup) (hi:X.N[i]? = some x) (hx:Loc X.env.scope x) (hf:X.fn x=true∨X.env.scope.names.lookup x=some .local:=by first | exact .inl rfl | exact .inr rfl | assumption) (hs:(assignEach (.Name x pos::es) X.env).map (·.2)=assign (.Name x pos) X.env::(assignEach es X.env).map (·.2):=by rfl):QGs X (.Name x pos::es) (i::is):=⟨Qd2 (Qc3 hN hi hx hf) h.h hs⟩
theorem QeE {es:List Expr} {k:Nat} {pos:Pos} {is:List Nat} (hc:X.calm=true) (h:QGs X es is) (hn:(assignEach es X.env).length=is.length:=by rfl) (hst:(assignEach es X.env).findIdx? (·.1)=none:=by rfl):QG is X (.Tuple es k pos) (gTN is):=⟨Qmt (Qlb hc h.h hn hst) rfl⟩
theorem QbV {m:Md} {tg e:Expr} {w:DE} (h:QE m X E e w):QI m X E tg e (dItL w):=⟨Qka h.h⟩
theorem QeD {m:Md} {tg e:Expr} {w:DE} (h:QE m X E e w):QI m X E tg e (dItT w):=⟨Qms h.h⟩
theorem Qbe {m:Md} {tg e:Expr} {w:DE} {p pos:Pos} (hg:Gl X "range") (hm:X.mg "range" = none) (h:QE .P X E e w) (hs:notStar e=true:=by rfl):QI m X E tg (.Call (.Name "range" p) [e] [] pos) (dRng1 w):=⟨Qj9 hg hm h.h hs⟩
theorem QjJ {m:Md} {e:Expr} {w:DE} {p pos tpos:Pos} {elts:List Expr} {x1} (hg:Gl X "enumerate") (hm:X.mg "enumerate" = none) (h:QE m X E e w) (hs:notStar e=true:=by rfl):QI m X E (.Tuple elts x1 tpos) (.Call (.Name "enumerate" p) [e] [] pos) (dEnL w):=⟨Qh5 hg hm h.h hs⟩
theorem Qbs  : QTs X E [] dNoT:=⟨QjY⟩
theorem Qcp {c:Expr} {t:DT} (h:QT X E c t):QTs X E [c] t:=⟨QjX h.h⟩
theorem QbB (M:List Str) (cap:List (Option Nat)) {elt tg iter:Expr} {ifs:List Expr} {scope:Scope} {pos:Pos} {ix:List Nat} {wi:DI} {wg:DG} {wt:DT} {we:DE} (hi:QI .P X E tg iter wi) (hb:∀ cl ex s3 H3 C,QG ix (blk X M scope cl ex s3 H3 C) tg wg/\QTs (blk X M scope cl ex s3 H3 C) E0 ifs wt/\QE .D (blk X M scope cl ex s3 H3 C) E0 elt we) (hc:X.calm=true:=by rfl) (ok:Qei X.N X.env.scope M scope cap=true:=by rfl) (hf:Qb0 cap ix=true:=by rfl) (hs:∀ x,foldedSetIterable iter X.env x=pure x:=by intro _;rfl):QE .F X E (.ListComp elt [⟨tg,iter,ifs,0⟩] scope pos) (dComp cap wi wg wt we):=⟨Qmx hc ok hf hi.h (fun cl ex s3 H3 C=>⟨(hb cl ex s3 H3 C).1.h,(hb cl ex s3 H3 C).2.1.h,(hb cl ex s3 H3 C).2.2.h⟩) hs⟩
theorem Qbt  : QSs X E [] dSkip:=⟨QjZ⟩
theorem Qam {st:Stmt} {w:DS} (h:QS X E st w):QSs X E [st] w:=⟨Qml h.h⟩
theorem Qac {st:Stmt} {rest:List Stmt} {w w':DS} (h:QS X E st w) (h':QSs X E rest w'):QSs X E (st::rest) (dSeq w w'):=⟨Qj5 h.h h'.h⟩
theorem QaN (i:Nat) {x:Str} {e:Expr} {pos pos':Pos} {we:DE} (he:QE .D X E e we) (hN:X.N.Nodup) (hi:X.N[i]? = some x:=by rfl) (hx:Loc X.env.scope x:=by first | exact Or.inl rfl | exact Or.inr rfl) (hs:swapsWith e (some (.Name x pos')) pos.line X.env=pure false:=by rfl) (hf:X.fn x=true∨X.env.scope.names.lookup x=some .local:=by first | exact .inl rfl | exact .inr rfl | assumption):QS X E (.Assign [.Name x pos'] e pos) (dSet i we):=⟨Qh3 (Qa8 hN hi hx he.h hs hf)⟩
theorem QbU (i:Nat) {x:Str} {e:Expr} {pos pos':Pos} {we:DE} (he:QE .F X E e we) (hN:X.N.Nodup) (hi:X.N[i]? = some x:=by rfl) (hx:Loc X.env.scope x:=by first | exact Or.inl rfl | exact Or.inr rfl) (hs:swapsWith e (some (.Name x pos')) pos.line X.env=pure false:=by rfl) (hf:X.fn x=true∨X.env.scope.names.lookup x=some .local:=by first | exact .inl rfl | exact .inr rfl | assumption):QS X E (.Assign [.Name x pos'] e pos) (Qnh i we):=⟨Qge (Qa8 hN hi hx he.h hs hf)⟩
theorem QhM (i:Nat) {x:Str} {e:Expr} {pos pos':Pos} {we:DE} (he:QE .F X E e we) (hN:X.N.Nodup) (hi:X.N[i]? = some x:=by rfl) (hx:Loc X.env.scope x:=by first | exact Or.inl rfl | exact Or.inr rfl) (hs:swapsWith e (some (.Name x pos')) pos.line X.env=pure false:=by rfl) (hf:X.fn x=true∨X.env.scope.names.lookup x=some .local:=by first | exact .inl rfl | exact .inr rfl | assumption):QS X E (.Assign [.Name x pos'] e pos) (dSetP i we):=⟨Qj1 (Qa8 hN hi hx he.h hs hf)⟩
theorem Qk4 {tg e:Expr} {pos:Pos} {ix:List Nat} {we:DE} {wg:DG} (he:QE .D X E e we) (hg:QG ix X tg wg) (hs:swapsWithSole [tg] e pos.line X.env=pure false:=by rfl) (hw:swappedStores [tg] e X.env=pure none:=by rfl) (h1:(assignEach [tg] X.env).map (·.2)=[assign tg X.env]:=by rfl):QS X E (.Assign [tg] e pos) (dAsg we wg):=⟨Qmq (Qk8 he.h hg.h hs hw h1)⟩
theorem Qc1 {e:Expr} {pos:Pos} {we:DE} (h:QE .D X E e we):QS X E (.Return (some e) pos) (dRet we):=⟨Qmj h.h⟩
theorem QbA {e:Expr} {pos:Pos} {we:DE} (h:QE .F X E e we):QS X E (.Return (some e) pos) (Qnj we):=⟨Qj3 h.h⟩
theorem Qfn (i:Nat) {x:Str} {pos pos2:Pos} (hN:X.N[i]? = some x:=by rfl) (hv:Vis X.env.scope x:=by first | exact Or.inl rfl | exact Or.inr (Or.inl rfl) | exact Or.inr (Or.inr rfl)) (hd:(x == ("__debug__" : Str))=false:=by decide) (hcd:(x == ("__classdict__" : Str))=false:=by decide):QS X E (.Return (some (.Name x pos)) pos2) (Qni i):=⟨Qj2 (pv i hN hv hd hcd)⟩
theorem QdY {c:Expr} {a b:List Stmt} {pos:Pos} {t:DT} {w w':DS} (hc:QT X E c t) (ha:QSs X E a w) (hb:QSs X E b w'):QS X E (.If c a b pos) (dIf t w w'):=⟨pds_if hc.h ha.h hb.h⟩
theorem QhP {y:Str} {e:Expr} {we:DE} {apos cpos pos npos:Pos} (i:Nat) (he:QE .D X E e we) (hN:X.N[i]? = some y:=by rfl) (hv:Vis X.env.scope y:=by first | exact Or.inl rfl | exact Or.inr (Or.inl rfl) | exact Or.inr (Or.inr rfl)) (hd:(y == ("__debug__" : Str))=false:=by decide) (hcd:(y == ("__classdict__" : Str))=false:=by decide) (hst:notStar e=true:=by rfl) (hbase:attributeBase (.Name y npos) "append" X.env (eval (.Name y npos) X.env)=eval (.Name y npos) X.env:=by rfl) (hfew:((backTo cpos (starEach [e] X.env)).all (fun x => !x.1)&&(backToKw cpos (keywordEach [] X.env)).all (fun x=>x.1.isSome)&&decide ([e].length+([]:List Keyword).length+(if ([]:List Keyword).isEmpty then 0 else 1)<30))=true:=by rfl) (hline:(apos.endLine == cpos.line)=true:=by rfl) (hsw:swapsWith (.Call (.Attribute (.Name y npos) "append" apos) [e] [] cpos) none pos.line X.env=pure false:=by rfl):QS X E (.Expr (.Call (.Attribute (.Name y npos) "append" apos) [e] [] cpos) pos) (dApp i we):=⟨Qmr (Qd0 (Qh2 PySem.F.plainAttrs_list PySem.F.slot_list_append PySem.F.type_list_append QeO (pv i hN hv hd hcd) (pa_c he.h Qaq hst) hbase hfew hline (QaW hst) rfl) hsw)⟩
theorem Qk3 {y:Str} {e:Expr} {we:DE} {apos cpos pos npos:Pos} (i:Nat) (he:QE .P X E e we) (hN:X.N[i]? = some y:=by rfl) (hv:Vis X.env.scope y:=by first | exact Or.inl rfl | exact Or.inr (Or.inl rfl) | exact Or.inr (Or.inr rfl)) (hd:(y == ("__debug__" : Str))=false:=by decide) (hcd:(y == ("__classdict__" : Str))=false:=by decide) (hst:notStar e=true:=by rfl) (hbase:attributeBase (.Name y npos) "extend" X.env (eval (.Name y npos) X.env)=eval (.Name y npos) X.env:=by rfl) (hfew:((backTo cpos (starEach [e] X.env)).all (fun x => !x.1)&&(backToKw cpos (keywordEach [] X.env)).all (fun x=>x.1.isSome)&&decide ([e].length+([]:List Keyword).length+(if ([]:List Keyword).isEmpty then 0 else 1)<30))=true:=by rfl) (hline:(apos.endLine == cpos.line)=true:=by rfl) (hsw:swapsWith (.Call (.Attribute (.Name y npos) "extend" apos) [e] [] cpos) none pos.line X.env=pure false:=by rfl):QS X E (.Expr (.Call (.Attribute (.Name y npos) "extend" apos) [e] [] cpos) pos) (dExt i we):=⟨Qmp (Qd0 (Qh2 PySem.F.plainAttrs_list PySem.F.slot_list_extend PySem.F.type_list_extend Qiv (pv i hN hv hd hcd) (pa_c he.h Qaq hst) hbase hfew hline (QaW hst) rfl) hsw)⟩
theorem QlW {y:Str} {e k:Expr} {we wk:DE} {op:Operator} {ti:TIp} {rD:PyData->PyData->(PyData->Prop)->Prop} {pos tpos npos:Pos} (i:Nat) (ho:PIp X op ti) (hd:OpDn ti rD) (hk:QE .P X E k wk) (he:QE .P X E e we) (hN:X.N[i]? = some y:=by rfl) (hv:Vis X.env.scope y:=by first | exact Or.inl rfl | exact Or.inr (Or.inl rfl) | exact Or.inr (Or.inr rfl)) (hdd:(y == ("__debug__" : Str))=false:=by decide) (hcd:(y == ("__classdict__" : Str))=false:=by decide) (ha:∀ ov iv new,augStore k ov iv new=(do holding [new,ov,iv] (setItem ov iv new);release [new,ov,iv] [];pure .next):=by intros;rfl):QS X E (.AugAssign (.Subscript (.Name y npos) k tpos) op e pos) (Qnm i rD wk we):=⟨Qj6 hd (Ql4 (pv i hN hv hdd hcd) hk.h QkE he.h (PIp.len ho) Qf2 ha)⟩
theorem QbP {tg iter:Expr} {body:List Stmt} {pos:Pos} {ix:List Nat} {wi:DI} {wg:DG} {wb:DS} (hp:PassesOwn (model X.prog X.w) X.A X.env X.xe) (hc:X.calm=true) (hi:QI .D X E tg iter wi) (hg:QG ix X tg wg) (hb:QSs X E body wb) (hs:∀ x,foldedSetIterable iter X.env x=pure x:=by intro _;rfl):QS X E (.For tg iter body [] pos) (dFor wi wg wb):=⟨Qmo hp hc hi.h hg.h hb.h hs⟩
theorem Qf6 {x:Str} {C:Addr} {e0:Expr} {we:DE} {np cpos pos:Pos} (hxe:∀ e s1,wpAny (model X.prog X.w) X.A (leaving X.env e) (fun _ s2=>Rx.CXE X.prog X.w X.outer X.H₀ X.s₀ E e s2) (fun e' s2=>Rx.CXE X.prog X.w X.outer X.H₀ X.s₀ E e' s2) s1->X.xe e s1) (hm:X.mg x=some (.ref C)) (q:PySem.W.excIn X.K C Rx.mroV "ValueError.__new__" = true) (ha:QE .P X E e0 we) (hstk:X.stack=X.env::X.outer:=by rfl) (hfr:X.env.frame=some X.env.locals:=by rfl) (hex:X.ex=[]:=by rfl) (hc:X.calm=true:=by rfl) (hg:Gl X x:=by rfl) (he:starEach [e0] X.env=[(false,eval e0 X.env)]:=by rfl) (hd:(x == ("__debug__" : Str))=false:=by decide):QS X E (.Raise (some (.Call (.Name x np) [e0] [] cpos)) none pos) (Qlu C we):=⟨Qh4 (Rx.ps_raise hxe hstk hfr hex hc hg hm q ha.h he hd)⟩
theorem QlV {e:Expr} {we:DE} {pos:Pos} (he:QE .P X E e we) (hs:swapsWith e none pos.line X.env=pure false:=by rfl):QS X E (.Expr e pos) (dExpr we):=⟨Qj4 (Qd0 he.h hs)⟩
end
section
variable {P:Program} {w:World} {K:PySem.W.Frag} {mg:Str->Option Value} {base:Heap}
theorem okQ {x qual:Str} {st:Stmt} {f:Addr} {fd:FuncData} {N ps:List Str} {k:Nat} {fD:DF} (fr:Bool) (F:Fun K x qual st f fd) (S:FnScope N ps (Qaa st)) (len:∀ args R EX,fD args R EX->args.length=ps.length)
    (hbody:∀ (cdv:Value) (A:Around) (outer:List Env) (s:Shared) (H:Hp) (E:XK),Room k (A.deeper (envOfC qual (Qaa st) s.heap.objs.size f cdv)) ->
      ∃ wd,QSs (cxOf CX0 P w K mg base N qual (Qaa st) f cdv A outer s H E).nox E0 (Qan st) wd/\∀ args R EX,fD args R EX->wd (QiT fr R XF) (stD N args)):FnOk P w K mg base CX0 (k+1) f fd ps (toSp fr fD):=
  okD fr F S len fun cdv A outer s H E hr=>let ⟨wd,h,q⟩:=hbody cdv A outer s H E hr;⟨wd,h.h,q⟩
theorem okQE {x qual:Str} {st:Stmt} {f:Addr} {fd:FuncData} {N ps:List Str} {k:Nat} {fD:DF} (fr:Bool) (F:Fun K x qual st f fd) (S:FnScope N ps (Qaa st)) (len:∀ args R EX,fD args R EX->args.length=ps.length)
    (hbody:∀ (cdv:Value) (A:Around) (outer:List Env) (s:Shared) (H:Hp) (E:XK),Room k (A.deeper (envOfC qual (Qaa st) s.heap.objs.size f cdv)) ->
      ∃ wd,QSs (cxOf (Rx.CXE P w) P w K mg base N qual (Qaa st) f cdv A outer s H E) E (Qan st) wd/\∀ args R EX,fD args R EX->wd (QiT fr R EX) (stD N args)):FnOk P w K mg base (Rx.CXE P w) (k+1) f fd ps (toSp fr fD):=
  okDE fr F S len fun cdv A outer s H E hr=>let ⟨wd,h,q⟩:=hbody cdv A outer s H E hr;⟨wd,h.h,q⟩
theorem okQL {x qual:Str} {st:Stmt} {f:Addr} {fd:FuncData} {N:List Str} {p:Str} {k:Nat} (F:Fun K x qual st f fd) (S:FnScope N [p] (Qaa st))
    (hbody:∀ (cdv:Value) (A:Around) (outer:List Env) (s:Shared) (H:Hp) (E:XK),Room k (A.deeper (envOfC qual (Qaa st) s.heap.objs.size f cdv)) ->
      ∃ wd,QSs (cxOf CX0 P w K mg base N qual (Qaa st) f cdv A outer s H E).nox E0 (Qan st) wd/\wd endsL (stD N [.scr])):FnOk P w K mg base CX0 (k+1) f fd [p] (spLawD K):=
  okLaw F S fun cdv A outer s H E hr=>let ⟨wd,h,q⟩:=hbody cdv A outer s H E hr;⟨wd,h.h,q⟩
end
structure GOk (wg:DG):Prop where h:∀ d δ Q,wg d δ Q->wg d δ fun δ'=>(∀ (j:Nat) x,δ'[j]? = some x->(∃ e,x=.v e)∨δ[j]? = some x)/\Q δ'
theorem QkC (i:Nat):GOk (gN i):=⟨fun d δ Q h=>⟨fun j x e=>by
  by_cases z:j=i
  · subst z;exact .inl ⟨d,set_eq e⟩
  · rw [Qa7 z] at e;exact .inr e,h⟩⟩
theorem QiK {cap:List (Option Nat)} {ix:List Nat} (hf:Qb0 cap ix=true) {i:Nat} (hi:i∈ix):cap[i]? = some none:=by
  have:=List.all_eq_true.mp hf i hi
  split at this
  · assumption
  · cases this
theorem QcO {cap:List (Option Nat)} {ix:List Nat} (hf:Qb0 cap ix=true) {δ:Sts} {i:Nat} {x:Sl} (h:(capD cap δ)[i]? = some x) (hx:x≠.no):i∉ix:=fun z=>by
  rcases Qej h with ⟨_,e⟩ | ⟨j,hj,_⟩
  · exact hx e
  · rw [QiK hf z] at hj;cases hj
section
variable {K:PySem.W.Frag} {σ σ4:L2.St} {δ δ4:Sts} {cap:List (Option Nat)} {ix:List Nat} {A1:Addr->Prop} {H3 H5 H6:Hp}
theorem Qlp (hP:∀ a,PotA σ δ a->A1 a) (hf:Qb0 cap ix=true) (j4:∀ j,j∉ix->σ4[j]? = (capS cap σ)[j]?) (gk:∀ (j:Nat) x,δ4[j]? = some x->(∃ e,x=.v e)∨(capD cap δ)[j]? = some x) {a:Addr} (h:Av (inF A1 cap σ δ H3) σ4 δ4 a):A1 a:=by
  rcases h with z | ⟨i,h1,h2⟩
  · exact z
  · refine (Qgq (cap:=cap) (H:=H3) hP).mp ?_
    rcases h2 with h2 | ⟨ds,h2⟩
    · rcases gk i _ h2 with ⟨e,z⟩ | z
      · cases z
      · exact .inr ⟨i,by rw [<- j4 i (QcO hf z (fun z=>by cases z))];exact h1,.inl z⟩
    · rcases gk i _ h2 with ⟨e,z⟩ | z
      · cases z
      · exact .inr ⟨i,by rw [<- j4 i (QcO hf z (fun z=>by cases z))];exact h1,.inr ⟨ds,z⟩⟩
theorem Qna (hP:∀ a,PotA σ δ a->A1 a) (hf:Qb0 cap ix=true) (j4:∀ j,j∉ix->σ4[j]? = (capS cap σ)[j]?) (gk:∀ (j:Nat) x,δ4[j]? = some x->(∃ e,x=.v e)∨(capD cap δ)[j]? = some x)
    (ri:Rel K (inF A1 cap σ δ H6) (capS cap σ) H6 (capD cap δ)) (r5:Rel K (inF A1 cap σ δ H3) σ4 H5 δ4) (kk:∀ a o,¬ A1 a->H5 a=some o->H6 a=some o):Rel K (inF A1 cap σ δ H6) σ4 H6 δ4 where
  len:=r5.len
  dom:=ri.dom
  dom0:=ri.dom0
  pt0:=ri.pt0
  kx:=ri.kx
  sl:=fun i o x h1 h2=>by
    have iv:∀ {a:Addr},Av (inF A1 cap σ δ H6) σ4 δ4 a->A1 a:=fun {a} z=>Qlp hP hf j4 gk z
    rcases gk i x h2 with ⟨d,rfl⟩ | hx
    · obtain ⟨v,e,q⟩:=r5.sl i o _ h1 h2
      exact ⟨v,e,q.mv (fun a o n e=>kk a o (fun z=>n (.inl z)) e) fun a z=>.inl (.inl (iv z))⟩
    · by_cases hn:x=.no
      · subst hn;trivial
      · have h1':(capS cap σ)[i]? = some o:=by rw [<- j4 i (QcO hf hx hn)];exact h1
        have h:=ri.sl i o x h1' hx
        cases x with
        | no=>trivial
        | v d=>obtain ⟨v',e,q'⟩:=h;exact ⟨v',e,q'.mv (fun _ _ _ e=>e) fun a z=>.inl (.inl (iv z))⟩
        | own ds=>obtain ⟨l,xs,e,e2,q',f⟩:=h;exact ⟨l,xs,e,e2,q'.mv (fun _ _ _ e=>e) fun a z=>.inl (.inl (iv z)),f⟩
        | pk ds=>obtain ⟨l,xs,e,e2,q',f⟩:=h;exact ⟨l,xs,e,e2,q'.mv (fun _ _ _ e=>e) fun a z=>.inl (.inl (iv z)),f⟩
        | pot=>exact h
        | scr=>exact h
  inj:=fun i j a ds h1 h2 _=>by
    rcases gk i _ h1 with ⟨e,z⟩ | z
    · cases z
    · rcases Qej z with ⟨_,e⟩ | ⟨j,hj,e⟩
      · cases e
      · exfalso
        cases e2:δ[j]? with
        | none=>rw [e2] at e;cases e
        | some y=>rw [e2] at e;cases y<;>cases e
end
theorem Qjt {K:PySem.W.Frag} {F:Fm} {σ:L2.St} {δ:Sts} {H1 H3:Hp} {cap:List (Option Nat)} {ix:List Nat} {wg:DG} {wt:DT} {A1:Addr->Prop} {x:V} {d:PyData} {inner:L2.St->Hp->(Hp->Prop)->Prop} {kk:Hp->Prop} {T:Sts->Prop} {N:Prop} (gok:GOk wg)
    (hf:Qb0 cap ix=true) (rel:Rel K F σ H1 δ) (hA:∀ a,Av F σ δ a->A1 a) (hN:∀ a,A1 a->Av F σ δ a∨H1 a=none) (dm:∀ a,A1 a->∃ xs,H3 a=some (.lst xs)) (kp:Kp σ δ H1 H3) (dx:DA A1 H3 x d)
    (h:wg d (capD cap δ) fun δ4=>wt δ4 (fun b=>if b=true then T δ4 else N) XF)
    (hT:∀ σ4 δ4 H5,T δ4->Rel K (inF A1 cap σ δ H3) σ4 H5 δ4->Kp σ δ H3 H5->(∀ j,j∉ix->σ4[j]? = (capS cap σ)[j]?)->σ4.length=(capS cap σ).length->(∀ (j:Nat) x,δ4[j]? = some x->(∃ e,x=.v e)∨(capD cap δ)[j]? = some x)->inner σ4 H5 kk) (hF:N->∀ H5,Kp σ δ H3 H5->kk H5) :
    bOf (capS cap σ) (tG ix K wg) (tT K E0 wt) inner x H3 kk:=by
  have ri:=QiI (cap:=cap) rel hA hN dm kp
  have iv:∀ {a:Addr},Av (inF A1 cap σ δ H3) (capS cap σ) (capD cap δ) a->A1 a:=fun {a}=>(Qgq fun a z=>hA a (QaY z)).mp
  refine ⟨inF A1 cap σ δ H3,capD cap δ,d,_,ri,dx.mv (fun _ _ _ e=>e) fun a z=>.inl (iv z),gok.h _ _ _ h,fun δ4 ⟨g4,h4⟩ σ4 r4 st4 l4 j4=>⟨QlA hf l4 j4,inF A1 cap σ δ H3,δ4,_,XF,r4,h4,fun b hb H5 r5 kp5=>?_,outF⟩⟩
  have pots:∀ {b:Addr},PotA σ4 δ4 b->PotA σ δ b:=fun z=>QfE r4 (fun b o _ e1 e2=>by rw [e2] at e1;cases e1) z
  have K5:Kp σ δ H3 H5:=by
    refine ⟨fun b o n e=>kp5.1 b o (fun z=>n (pots z)) e,fun b hb=>?_⟩
    by_cases z:PotA σ4 δ4 b
    · exact kp5.2 b z
    · obtain ⟨n,e⟩:=kp.2 b hb
      exact ⟨n,kp5.1 _ _ z e⟩
  exact QcH hb (fun z=>hT σ4 δ4 H5 z r5 K5 j4 l4 g4) fun z=>hF z H5 K5
theorem Qnf {K:PySem.W.Frag} {σ σ4:L2.St} {δ δ4:Sts} {H1 H3 H5:Hp} {cap:List (Option Nat)} {we:DE} {A1:Addr->Prop} {p:Addr} {acc:List PyData} {kk:Hp->Prop} {G:PyData->Prop}
    (hpA:A1 p) (hP:∀ a,PotA σ δ a->A1 a) (hp1:H1 p=none) (hpn:¬ PotA σ δ p) (lp:Lp σ δ A1 p H1 H5 acc) (hl:acc.length<sizeLine) (r5:Rel K (inF A1 cap σ δ H3) σ4 H5 δ4) (pots:∀ b,PotA σ4 δ4 b->PotA σ δ b)
    (h:we δ4 G XF) (hk:∀ e,G e->∀ H',Lp σ δ A1 p H1 H' (acc++[e])->(∀ b o,¬ A1 b->H5 b=some o->H' b=some o)->kk H'):bElt p (tX .D K E0 we) σ4 H5 kk:=by
  refine ⟨inF A1 cap σ δ H3,δ4,G,XF,r5,h,fun e he v H6 r6 kp6 dv=>?_,outF⟩
  have k56:Kp σ δ H5 H6:=by
    refine ⟨fun b o n e=>kp6.1 b o (fun z=>n (pots b z)) e,fun b hb=>?_⟩
    by_cases z:PotA σ4 δ4 b
    · exact kp6.2 b z
    · obtain ⟨n,e⟩:=lp.kp.2 b hb
      exact ⟨n,kp6.1 _ _ z e⟩
  obtain ⟨k6,ys,e6,q6⟩:=lp.step hP hpn k56
  have up:∀ {b:Addr} {o:HO},¬ A1 b->H6 b=some o->upd H6 p (.lst (ys++[v])) b=some o:=fun {b o} n e=>by rw [Qal (fun z=>n (by rw [z];exact hpA))];exact e
  refine ⟨ys,e6,by rw [q6.length];exact hl,hk e he _ ⟨⟨fun b o n e=>?_,fun b hb=>?_⟩,ys++[v],Qaf,DAs.app (q6.mv (fun _ _=>up) fun a z=>.inl z) (.cons (DA.mv dv (fun a o n e=>up (fun z=>n (.inl z)) e) fun a z=>.inl (.inl z)) .nil)⟩ fun b o n e=>up n (kp6.1 b o (fun z=>n (hP b (pots b z))) e)⟩
  · rw [Qal (fun z=>by rw [z,hp1] at e;cases e)]
    exact k6.1 b o n e
  · rw [Qal (fun z=>hpn (by rw [<- z];exact hb))]
    exact k6.2 b hb
def Qkt:Nat:=1000000
@[irreducible] def InR (items2:List PyData) (wg2:DG) (wt2:DT) (we:DE) (δ4:Sts) (acc:List PyData) (N:List PyData->Prop):Prop:=∃ Jv:Nat->List PyData->Prop,Jv 0 acc /\
  (∀ (j:Nat) acc2 d2,items2[j]? = some d2->Jv j acc2->acc2.length<Qkt/\wg2 d2 δ4 fun δ5=>wt2 δ5 (fun b=>if b=true then we δ5 (fun e=>Jv (j+1) (acc2++[e])) XF else Jv (j+1) acc2) XF)/\∀ acc2,Jv items2.length acc2->N acc2
@[irreducible] def QgG (items:List PyData) (wg:DG) (wt:DT) (wi2:DI) (wg2:DG) (wt2:DT) (we:DE) (δ:Sts) (Q:PyData->Prop):Prop:=∃ Iv:Nat->List PyData->Prop,Iv 0 [] /\
  (∀ (i:Nat) acc d,items[i]? = some d->Iv i acc->wg d δ fun δ4=>wt δ4 (fun b=>if b=true then wi2 δ4 (fun items2=>InR items2 wg2 wt2 we δ4 acc (Iv (i+1))) XF else Iv (i+1) acc) XF)/\∀ acc,Iv items.length acc->Q (.list acc)
def Qlv (cap:List (Option Nat)) (wi:DI) (wg:DG) (wt:DT) (wi2:DI) (wg2:DG) (wt2:DT) (we:DE):DE:=fun δ Q EX=>wi δ (fun items=>QgG items wg wt wi2 wg2 wt2 we (capD cap δ) Q) EX
section
variable {X:Cx} {E:XK}
theorem Qks:Qkt<=sizeLine:=Nat.le_trans (by decide) QeP
end
section
variable {X:Cx} {E:XK}
end
theorem in_fm {items2:List PyData} {wg2:DG} {wt2:DT} {we:DE} {δ4:Sts} {acc:List PyData} {N:List PyData->Prop} (G:PyData->Option PyData) (hl:acc.length+items2.length<Qkt)
    (h:∀ d∈items2,∀ (k1:Prop) (k2:PyData->Prop),(G d=none->k1)->(∀ e,G d=some e->k2 e)->wg2 d δ4 fun δ5=>wt2 δ5 (fun b=>if b=true then we δ5 k2 XF else k1) XF) (q:N (acc++items2.filterMap G)) :
    InR items2 wg2 wt2 we δ4 acc N:=by
  unfold InR
  refine ⟨fun i acc2=>acc2=acc++(items2.take i).filterMap G,by simp,fun i acc2 d hd e=>?_,fun acc2 e=>by rw [e,List.take_length];exact q⟩
  have e:acc2=acc++(items2.take i).filterMap G:=e
  have hs:(items2.take (i+1)).filterMap G=(items2.take i).filterMap G++(G d).toList:=by
    rw [List.take_add_one,hd,List.filterMap_append]
    cases e2:G d<;>simp [e2]
  refine ⟨?_,h d (List.mem_of_getElem? hd) _ _ (fun e2=>?_) fun e' e2=>?_⟩
  · have:=List.length_filterMap_le G (items2.take i)
    have h2:(items2.take i).length<=items2.length:=by rw [List.length_take];exact Nat.min_le_right _ _
    rw [e,List.length_append]
    omega
  · show acc2=acc++(items2.take (i+1)).filterMap G
    rw [hs,e2,e];simp
  · show acc2++[e']=acc++(items2.take (i+1)).filterMap G
    rw [hs,e2,e];simp
theorem in_map {items2:List PyData} {wg2:DG} {we:DE} {δ4:Sts} {acc:List PyData} {N:List PyData->Prop} (G:PyData->PyData) (hl:acc.length+items2.length<Qkt)
    (h:∀ d∈items2,∀ (k2:PyData->Prop),k2 (G d)->wg2 d δ4 fun δ5=>we δ5 k2 XF) (q:N (acc++items2.map G)):InR items2 wg2 dNoT we δ4 acc N:=by
  refine in_fm (fun d=>some (G d)) hl (fun d hd k1 k2 _ h2=>?_) (by rw [show items2.filterMap (fun d=>some (G d))=items2.map G from by rw [<- List.filterMap_eq_map];rfl];exact q)
  have hh:=h d hd k2 (h2 _ rfl)
  simp only [dNoT,if_true]
  exact hh
section
open Rs PySem.W PySem.Calls
variable {X:Cx}
end
end Dl
namespace PySem
namespace AutoSeq1
open PyProof PyProof.Rows
end AutoSeq1
end PySem
namespace L2
open PySem PySem.Spec PyProof.Rows
end L2
namespace Dl
open PySem PySem.Spec PyProof.Rows L2 _root_.Rd Rk
section
variable {X:Cx} {E:XK}
end
theorem Qi2 {K:PySem.W.Frag} {E:XK} {cap:List (Option Nat)} {ix:List Nat} {wi:DI} {wg:DG} {wt:DT} {we:DE} (hf:Qb0 cap ix=true) (σ:L2.St) (H:Hp) (Q:VK) (h:tX .F K E (dComp cap wi wg wt we) σ H Q) :
    tComp cap (tI .P K E wi) (tG ix K wg) (tT K E0 wt) (tX .D K E0 we) σ H Q:=by
  obtain ⟨F,δ,R,EX,rel,hw,k,o⟩:=h
  refine ⟨F,δ,_,EX,rel,hw,fun items hC J H1 rel1 kp1 ⟨ln,it⟩ p hp=>?_,o⟩
  unfold Qep at hC
  obtain ⟨Iv,i0,step,fin⟩:=hC
  have hpn:¬ PotA σ δ p:=fun z=>by obtain ⟨xs,e⟩:=rel1.isl (QaY (F:=F) z);rw [hp] at e;cases e
  let A1:Addr->Prop:=fun a=>Av F σ δ a∨a=p
  have hP:∀ a,PotA σ δ a->A1 a:=fun a z=>.inl (QaY z)
  have hN:∀ a,A1 a->Av F σ δ a∨H1 a=none:=fun a z=>z.elim .inl fun z=>.inr (by rw [z];exact hp)
  have dmK:∀ {H2:Hp},Kp σ δ H1 H2->(∃ ys,H2 p=some (.lst ys))->∀ a,A1 a->∃ xs,H2 a=some (.lst xs):=fun {H2} k2 e2 a z=>by
    rcases z with z | z
    · exact (rel1.kp k2).isl z
    · rw [z];exact e2
  refine Qda items.length (fun i H2=>i<=items.length/\∃ acc,Iv i acc/\acc.length<=i/\Lp σ δ A1 p H1 H2 acc) ⟨Nat.zero_le _,[],i0,Nat.le_refl _,Kp.same rel1 (Qad hp),[],Qaf,.nil⟩ (fun i H2 hi ⟨_,acc,iv,hl,lp⟩=>?_) fun H2 ⟨_,acc,iv,hl,lp⟩=>?_
  · obtain ⟨k2,ys,e2,q2⟩:=lp
    obtain ⟨go,_⟩:=it H2 A1 (fun b o n e=>k2.1 b o n e) hN (dmK k2 ⟨ys,e2⟩)
    have hd:items[i]? = some items[i]:=List.getElem?_eq_getElem hi
    obtain ⟨g1,g2⟩:=go i _ hd
    refine ⟨g1,fun x H3 y kk hk=>?_⟩
    obtain ⟨s3,dx⟩:=g2 x H3 y
    have k23:=Kp.same (rel1.kp k2) s3
    have lp3:Lp σ δ A1 p H1 H3 acc:=Lp.step hP hpn ⟨k2,ys,e2,q2⟩ k23
    refine Qhi hf rel1 (fun a z=>.inl z) hN (dmK lp3.kp ⟨ys,s3 _ _ e2⟩) lp3.kp dx (step i acc _ hd iv) (fun σ4 δ4 H5 h5 r5 k5 pots=>?_) fun h5 H5 k5=>hk _ ⟨hi,acc,h5,by omega,lp3.step hP hpn k5⟩
    exact Qls (.inr rfl) hP hp hpn (lp3.step hP hpn k5) (by omega) r5 pots h5 fun e he H' lp'=>hk _ ⟨hi,acc++[e],he,by rw [List.length_append];show _+1<=_;omega,lp'⟩
  · obtain ⟨k2,ys,e2,q2⟩:=lp
    obtain ⟨_,st⟩:=it H2 A1 (fun b o n e=>k2.1 b o n e) hN (dmK k2 ⟨ys,e2⟩)
    refine ⟨st,k _ (fin acc iv) (.ref p) H2 (rel1.kp k2) (kp1.trans k2) ⟨.lst (fun z=>?_) e2 (q2.mv (fun _ _ _ e=>e) fun a z=>.inl (.inl z)),fun l e1 _=>?_⟩⟩
    · obtain ⟨xs,e⟩:=rel1.isl z
      rw [hp] at e;cases e
    · cases e1
      exact Qbw kp1 hp
theorem fToD {K:PySem.W.Frag} {E:XK} {w:DE} (σ:L2.St) (H:Hp) (Q:VK) (h:tX .D K E w σ H Q):tX .F K E w σ H Q:=by
  obtain ⟨F,δ,R,EX,rel,hw,k,o⟩:=h
  exact ⟨F,δ,R,EX,rel,hw,fun d hd v H' r kp vk=>k d hd v H' r kp vk.1,o⟩
section
variable {X:Cx} {E:XK}
theorem QhO (M:List Str) (cap:List (Option Nat)) (i:Nat) {elt tg iter:Expr} {ifs:List Expr} {scope:Scope} {pos py spos:Pos} {y:Str} {ix:List Nat} {wi:DI} {wg:DG} {wt:DT} {we:DE} (hN:X.N.Nodup) (hi:QI .P X E tg iter wi) (hb:∀ cl ex s3 H3 C,QG ix (blk X M scope cl ex s3 H3 C) tg wg/\QTs (blk X M scope cl ex s3 H3 C) E0 ifs wt/\QE .D (blk X M scope cl ex s3 H3 C) E0 elt we) (hiy:X.N[i]? = some y:=by rfl) (hly:X.env.scope.names.lookup y=some .local:=by rfl) (hc:X.calm=true:=by rfl) (ok:Qei X.N X.env.scope M scope cap=true:=by rfl) (hf:Qb0 cap ix=true:=by rfl) (hs:∀ x,foldedSetIterable iter X.env x=pure x:=by intro _;rfl) (hsw:swapsWith (.ListComp elt [⟨tg,iter,ifs,0⟩] scope pos) (some (.Name y py)) spos.line X.env=pure true:=by rfl):QS X E (.Assign [.Name y py] (.ListComp elt [⟨tg,iter,ifs,0⟩] scope pos) spos) (dSet i (dComp cap wi wg wt we)):=
  ⟨Qh3 (PS.imp (PS.imp (QjQ hN hiy hly hc ok hi.h (fun cl ex s3 H3 C=>⟨(hb cl ex s3 H3 C).1.h,(hb cl ex s3 H3 C).2.1.h,(hb cl ex s3 H3 C).2.2.h⟩) hs hsw) fun D σ H q=>Qi2 (E:=E) hf σ H _ q) fun D σ H q=>fToD σ H _ q)⟩
end
theorem Qg4 {K:PySem.W.Frag} {E:XK} {cap:List (Option Nat)} {ix ix2:List Nat} {wi wi2:DI} {wg wg2:DG} {wt wt2:DT} {we:DE} (gok:GOk wg) (hf:Qb0 cap ix=true) (hf2:Qb0 cap ix2=true) (hd:ix2.all (fun i => !ix.contains i)=true) (σ:L2.St) (H:Hp) (Q:VK) (h:tX .F K E (Qlv cap wi wg wt wi2 wg2 wt2 we) σ H Q) :
    Qk0 cap (tI .P K E wi) (tG ix K wg) (tT K E0 wt) (tI .D K E0 wi2) (tG ix2 K wg2) (tT K E0 wt2) (tX .D K E0 we) σ H Q:=by
  obtain ⟨F,δ,R,EX,rel,hw,k,o⟩:=h
  refine ⟨F,δ,_,EX,rel,hw,fun items hC J H1 rel1 kp1 ⟨ln,it⟩ p hp=>?_,o⟩
  unfold QgG at hC
  obtain ⟨Iv,i0,step,fin⟩:=hC
  have hpn:¬ PotA σ δ p:=fun z=>by obtain ⟨xs,e⟩:=rel1.isl (QaY (F:=F) z);rw [hp] at e;cases e
  let A1:Addr->Prop:=fun a=>Av F σ δ a∨a=p
  have hP:∀ a,PotA σ δ a->A1 a:=fun a z=>.inl (QaY z)
  have hN:∀ a,A1 a->Av F σ δ a∨H1 a=none:=fun a z=>z.elim .inl fun z=>.inr (by rw [z];exact hp)
  have dmK:∀ {H2:Hp},Kp σ δ H1 H2->(∃ ys,H2 p=some (.lst ys))->∀ a,A1 a->∃ xs,H2 a=some (.lst xs):=fun {H2} k2 e2 a z=>by
    rcases z with z | z
    · exact (rel1.kp k2).isl z
    · rw [z];exact e2
  refine Qda items.length (fun i H2=>i<=items.length/\∃ acc,Iv i acc/\Lp σ δ A1 p H1 H2 acc) ⟨Nat.zero_le _,[],i0,Kp.same rel1 (Qad hp),[],Qaf,.nil⟩ (fun i H2 hi ⟨_,acc,iv,lp⟩=>?_) fun H2 ⟨_,acc,iv,lp⟩=>?_
  · obtain ⟨k2,ys,e2,q2⟩:=lp
    obtain ⟨go,_⟩:=it H2 A1 (fun b o n e=>k2.1 b o n e) hN (dmK k2 ⟨ys,e2⟩)
    have hd':items[i]? = some items[i]:=List.getElem?_eq_getElem hi
    obtain ⟨g1,g2⟩:=go i _ hd'
    refine ⟨g1,fun x H3 y kk hk=>?_⟩
    obtain ⟨s3,dx⟩:=g2 x H3 y
    have k23:=Kp.same (rel1.kp k2) s3
    have lp3:Lp σ δ A1 p H1 H3 acc:=Lp.step hP hpn ⟨k2,ys,e2,q2⟩ k23
    refine Qjt gok hf rel1 (fun a z=>.inl z) hN (dmK lp3.kp ⟨ys,s3 _ _ e2⟩) lp3.kp dx (step i acc _ hd' iv) (fun σ4 δ4 H5 h5 r5 k5 j4 l4 g4=>?_) fun h5 H5 k5=>hk _ ⟨hi,acc,h5,lp3.step hP hpn k5⟩
    have av4:∀ {H:Hp} {a:Addr},Av (inF A1 cap σ δ H) σ4 δ4 a->A1 a:=fun {H a} z=>Qlp hP hf j4 g4 z
    refine ⟨inF A1 cap σ δ H3,δ4,_,XF,r5,h5,fun items2 hJ J2 H7 rel7 kp7 ⟨ln2,it2⟩=>?_,outF⟩
    unfold InR at hJ
    obtain ⟨Jv,z0,step2,fin2⟩:=hJ
    have pots4:∀ {b:Addr},PotA σ4 δ4 b->PotA σ δ b:=fun {b} z=>by
      obtain ⟨j,z1,z2⟩:=z
      rcases g4 j _ z2 with ⟨e,z⟩ | z
      · cases z
      · exact Qb1 ⟨j,by rw [<- j4 j (QcO hf z (fun z=>by cases z))];exact z1,z⟩
    have k57:Kp σ δ H5 H7:=by
      refine ⟨fun b o n e=>kp7.1 b o (fun z=>n (pots4 z)) e,fun b hb=>?_⟩
      by_cases z:PotA σ4 δ4 b
      · exact kp7.2 b z
      · obtain ⟨n,e⟩:=k5.2 b hb
        exact ⟨n,kp7.1 _ _ z e⟩
    refine Qda items2.length (fun j H8=>j<=items2.length/\∃ acc2,Jv j acc2/\Lp σ δ A1 p H1 H8 acc2/\∀ b o,¬ A1 b->H7 b=some o->H8 b=some o) ⟨Nat.zero_le _,acc,z0,(lp3.step hP hpn k5).step hP hpn k57,fun _ _ _ e=>e⟩ (fun j H8 hj ⟨_,acc2,jv,lp8,s78⟩=>?_) fun H8 ⟨_,acc2,jv,lp8,s78⟩=>?_
    · obtain ⟨ys8,e8,q8⟩:=lp8.at_
      obtain ⟨go2,_⟩:=it2 H8 A1 (fun b o n e=>s78 b o (fun z=>n (.inl z)) e) (fun b z=>.inl (.inl z)) (dmK lp8.kp ⟨ys8,e8⟩)
      have hd2:items2[j]? = some items2[j]:=List.getElem?_eq_getElem hj
      obtain ⟨g3,g5⟩:=go2 j _ hd2
      refine ⟨g3,fun x2 H9 y2 kk2 hk2=>?_⟩
      obtain ⟨s9,dx2⟩:=g5 x2 H9 y2
      have k89:=Kp.same (rel1.kp lp8.kp) s9
      have lp9:Lp σ δ A1 p H1 H9 acc2:=lp8.step hP hpn k89
      have ri:=QiI (cap:=cap) rel1 (fun a z=>.inl z) hN (dmK lp9.kp ⟨ys8,s9 _ _ e8⟩) lp9.kp
      have r9:=Qna hP hf j4 g4 ri r5 fun a o n e=>s9 _ _ (s78 a o n (k57.1 a o (fun z=>n (hP a z)) e))
      obtain ⟨hl2,hw2⟩:=step2 j acc2 _ hd2 jv
      refine ⟨inF A1 cap σ δ H9,δ4,_,_,r9,dx2.mv (fun _ _ _ e=>e) fun a z=>.inl (av4 z),hw2,fun δ5 h6 σ5 r10 st5 l5 j5=>⟨Qjr l5 fun i v e=>?_,inF A1 cap σ δ H9,δ5,_,XF,r10,h6,fun b hb H10 r11 kp11=>?_,outF⟩⟩
      · by_cases z:i∈ix2
        · have n1:i∉ix:=fun z2=>by
            have:=List.all_eq_true.mp hd i z
            simp [z2] at this
          rw [j4 i n1] at e
          rcases Qeh e with ⟨_,e2⟩ | ⟨j,hj2,_⟩
          · cases e2
          · rw [QiK hf2 z] at hj2;cases hj2
        · rw [j5 i z];exact e
      · have pots:∀ {b:Addr},PotA σ5 δ5 b->PotA σ δ b:=fun z=>QfE r10 (fun b o _ e1 e2=>by rw [e2] at e1;cases e1) z
        have K10:Kp σ δ H9 H10:=by
          refine ⟨fun b o n e=>kp11.1 b o (fun z=>n (pots z)) e,fun b hb=>?_⟩
          by_cases z:PotA σ5 δ5 b
          · exact kp11.2 b z
          · obtain ⟨n,e⟩:=lp9.kp.2 b hb
            exact ⟨n,kp11.1 _ _ z e⟩
        have s710:∀ b o,¬ A1 b->H7 b=some o->H10 b=some o:=fun b o n e=>K10.1 b o (fun z=>n (hP b z)) (s9 _ _ (s78 b o n e))
        refine QcH hb (fun z=>?_) fun z=>hk2 _ ⟨hj,acc2,z,lp9.step hP hpn K10,s710⟩
        exact Qnf (.inr rfl) hP hp hpn (lp9.step hP hpn K10) (Nat.lt_of_lt_of_le hl2 Qks) r11 (fun b=>pots) z fun e he H' lp' kk'=>hk2 _ ⟨hj,acc2++[e],he,lp',fun b o n e=>kk' b o n (s710 b o n e)⟩
    · obtain ⟨ys8,e8,q8⟩:=lp8.at_
      obtain ⟨_,st2⟩:=it2 H8 A1 (fun b o n e=>s78 b o (fun z=>n (.inl z)) e) (fun b z=>.inl (.inl z)) (dmK lp8.kp ⟨ys8,e8⟩)
      exact ⟨st2,hk _ ⟨hi,acc2,fin2 acc2 jv,lp8⟩⟩
  · obtain ⟨k2,ys,e2,q2⟩:=lp
    obtain ⟨_,st⟩:=it H2 A1 (fun b o n e=>k2.1 b o n e) hN (dmK k2 ⟨ys,e2⟩)
    refine ⟨st,k _ (fin acc iv) (.ref p) H2 (rel1.kp k2) (kp1.trans k2) ⟨.lst (fun z=>?_) e2 (q2.mv (fun _ _ _ e=>e) fun a z=>.inl (.inl z)),fun l e1 _=>?_⟩⟩
    · obtain ⟨xs,e⟩:=rel1.isl z
      rw [hp] at e;cases e
    · cases e1
      exact Qbw kp1 hp
section
variable {X:Cx} {E:XK}
theorem QhN (M:List Str) (cap:List (Option Nat)) (i:Nat) {elt tg iter tg2 iter2:Expr} {ifs ifs2:List Expr} {scope:Scope} {pos py spos:Pos} {y:Str} {ix ix2:List Nat} {wi wi2:DI} {wg wg2:DG} {wt wt2:DT} {we:DE} (hN:X.N.Nodup) (gok:GOk wg) (hi:QI .P X E tg iter wi) (hb:∀ cl ex s3 H3 C,QG ix (blk X M scope cl ex s3 H3 C) tg wg/\QTs (blk X M scope cl ex s3 H3 C) E0 ifs wt/\QI .D (blk X M scope cl ex s3 H3 C) E0 tg2 iter2 wi2/\QG ix2 (blk X M scope cl ex s3 H3 C) tg2 wg2/\QTs (blk X M scope cl ex s3 H3 C) E0 ifs2 wt2/\QE .D (blk X M scope cl ex s3 H3 C) E0 elt we) (hiy:X.N[i]? = some y:=by rfl) (hly:X.env.scope.names.lookup y=some .local:=by rfl) (hc:X.calm=true:=by rfl) (ok:Qei X.N X.env.scope M scope cap=true:=by rfl) (hf:Qb0 cap ix=true:=by rfl) (hf2:Qb0 cap ix2=true:=by rfl) (hd:ix2.all (fun i => !ix.contains i)=true:=by rfl) (hs:∀ x,foldedSetIterable iter X.env x=pure x:=by intro _;rfl) (hs2:∀ env x,foldedSetIterable iter2 env x=pure x:=by intro _ _;rfl) (hsw:swapsWith (.ListComp elt [⟨tg,iter,ifs,0⟩,⟨tg2,iter2,ifs2,0⟩] scope pos) (some (.Name y py)) spos.line X.env=pure true:=by rfl):QS X E (.Assign [.Name y py] (.ListComp elt [⟨tg,iter,ifs,0⟩,⟨tg2,iter2,ifs2,0⟩] scope pos) spos) (Qnh i (Qlv cap wi wg wt wi2 wg2 wt2 we)):=
  ⟨Qge (PS.imp (QhV hN hiy hly hc ok hi.h (fun cl ex s3 H3 C=>⟨(hb cl ex s3 H3 C).1.h,(hb cl ex s3 H3 C).2.1.h,(hb cl ex s3 H3 C).2.2.1.h,(hb cl ex s3 H3 C).2.2.2.1.h,(hb cl ex s3 H3 C).2.2.2.2.1.h,(hb cl ex s3 H3 C).2.2.2.2.2.h⟩) hs hs2 hsw) fun D σ H q=>Qg4 (E:=E) gok hf hf2 hd σ H _ q)⟩
end
theorem Qit (L:List (Int×Int)):nds (L.map Rk.pairD)=true:=Qd5.mpr fun d hd=>by
  obtain ⟨i,_,rfl⟩:=List.mem_map.mp hd
  rfl
def rkD:PyData->Nat
  | .int _=>0
  | .tuple _=>1
  | _=>2
def cmpI (i j:Int):Ordering:=if i<j then .lt else if i=j then .eq else .gt
def cmpN (i j:Nat):Ordering:=if i<j then .lt else if i=j then .eq else .gt
def thn (o:Ordering) (p:Ordering):Ordering:=match o with
  | .eq=>p
  | o=>o
mutual
def cmpD:PyData->PyData->Ordering
  | .int i,.int j=>cmpI i j
  | .tuple a,.tuple b=>Qbr a b
  | x,y=>cmpN (rkD x) (rkD y)
def Qbr:List PyData->List PyData->Ordering
  | [],[]=>.eq
  | [],_::_=>.lt
  | _::_,[]=>.gt
  | x::xs,y::ys=>thn (cmpD x y) (Qbr xs ys)
end
def isL:Ordering->Bool
  | .lt=>true
  | _=>false
def ltD (x y:PyData):Bool:=isL (cmpD x y)
def ltDs (x y:List PyData):Bool:=isL (Qbr x y)
def sw:Ordering->Ordering
  | .lt=>.gt
  | .gt=>.lt
  | .eq=>.eq
def isLe:Ordering->Bool
  | .gt=>false
  | _=>true
theorem thn_sw (a b:Ordering):sw (thn a b)=thn (sw a) (sw b):=by cases a<;>rfl
theorem Qno (i j:Int):cmpI j i=sw (cmpI i j):=by
  unfold cmpI
  by_cases h:i<j
  · rw [if_neg (by omega),if_neg (by omega),if_pos h];rfl
  · by_cases h2:i=j
    · rw [if_neg (by omega),if_pos h2.symm,if_neg h,if_pos h2];rfl
    · rw [if_pos (by omega),if_neg h,if_neg h2];rfl
theorem Qnp (i j:Int):isLe (cmpI i j)=decide (i<=j):=by
  unfold cmpI
  by_cases h:i<j
  · rw [if_pos h];exact (decide_eq_true (by omega)).symm
  · by_cases h2:i=j
    · rw [if_neg h,if_pos h2];exact (decide_eq_true (by omega)).symm
    · rw [if_neg h,if_neg h2];exact (decide_eq_false (by omega)).symm
mutual
theorem Qcy:∀ (x y:PyData),cmpD y x=sw (cmpD x y)
  | .int i,.int j=>Qno i j
  | .tuple a,.tuple b=>QgA a b
  | .int _,.tuple _=>rfl
  | .tuple _,.int _=>rfl
  | .int _,.none=>rfl
  | .int _,.bool _=>rfl
  | .int _,.str _=>rfl
  | .int _,.list _=>rfl
  | .int _,.dict _=>rfl
  | .tuple _,.none=>rfl
  | .tuple _,.bool _=>rfl
  | .tuple _,.str _=>rfl
  | .tuple _,.list _=>rfl
  | .tuple _,.dict _=>rfl
  | .none,y=>by cases y<;>rfl
  | .bool _,y=>by cases y<;>rfl
  | .str _,y=>by cases y<;>rfl
  | .list _,y=>by cases y<;>rfl
  | .dict _,y=>by cases y<;>rfl
theorem QgA:∀ (xs ys:List PyData),Qbr ys xs=sw (Qbr xs ys)
  | [],[]=>rfl
  | [],_::_=>rfl
  | _::_,[]=>rfl
  | x::xs,y::ys=>by
    show thn (cmpD y x) (Qbr ys xs)=sw (thn (cmpD x y) (Qbr xs ys))
    rw [Qcy x y,QgA xs ys,thn_sw]
end
theorem le_lt {a c:Ordering} (hab:isLe a=true) (h:isLe (sw c)=true->isLe (sw a)=true) (ha:a=.lt):c=.lt:=by
  subst ha
  cases c with
  | lt=>rfl
  | eq=>cases h rfl
  | gt=>cases h rfl
mutual
theorem Qef:∀ (x y z:PyData),isLe (cmpD x y)=true->isLe (cmpD y z)=true->isLe (cmpD x z)=true
  | .int i,.int j,.int k,h1,h2=>by
    have h1:isLe (cmpI i j)=true:=h1
    have h2:isLe (cmpI j k)=true:=h2
    show isLe (cmpI i k)=true
    rw [Qnp] at h1 h2 ⊢
    have a:=of_decide_eq_true h1
    have b:=of_decide_eq_true h2
    exact decide_eq_true (by omega)
  | .tuple a,.tuple b,.tuple c,h1,h2=>Qgz a b c h1 h2
  | .int _,y,.tuple _,h1,h2=>rfl
  | .int _,.tuple _,.int _,h1,h2=>by cases h2
  | .tuple _,.int _,z,h1,h2=>by cases h1
  | .tuple _,.tuple _,.int _,h1,h2=>by cases h2
  | .int _,y,.none,_,_=>rfl
  | .int _,y,.bool _,_,_=>rfl
  | .int _,y,.str _,_,_=>rfl
  | .int _,y,.list _,_,_=>rfl
  | .int _,y,.dict _,_,_=>rfl
  | .tuple _,y,.none,_,_=>rfl
  | .tuple _,y,.bool _,_,_=>rfl
  | .tuple _,y,.str _,_,_=>rfl
  | .tuple _,y,.list _,_,_=>rfl
  | .tuple _,y,.dict _,_,_=>rfl
  | .int _,.none,.int _,h1,h2=>by cases h2
  | .int _,.bool _,.int _,h1,h2=>by cases h2
  | .int _,.str _,.int _,h1,h2=>by cases h2
  | .int _,.list _,.int _,h1,h2=>by cases h2
  | .int _,.dict _,.int _,h1,h2=>by cases h2
  | .tuple _,.none,.int _,h1,h2=>by cases h2
  | .tuple _,.bool _,.int _,h1,h2=>by cases h2
  | .tuple _,.str _,.int _,h1,h2=>by cases h2
  | .tuple _,.list _,.int _,h1,h2=>by cases h2
  | .tuple _,.dict _,.int _,h1,h2=>by cases h2
  | .tuple _,.none,.tuple _,h1,h2=>by cases h2
  | .tuple _,.bool _,.tuple _,h1,h2=>by cases h2
  | .tuple _,.str _,.tuple _,h1,h2=>by cases h2
  | .tuple _,.list _,.tuple _,h1,h2=>by cases h2
  | .tuple _,.dict _,.tuple _,h1,h2=>by cases h2
  | .none,y,z,h1,h2=>by cases y<;>cases z<;>first | rfl | (cases h1;done) | (cases h2;done)
  | .bool _,y,z,h1,h2=>by cases y<;>cases z<;>first | rfl | (cases h1;done) | (cases h2;done)
  | .str _,y,z,h1,h2=>by cases y<;>cases z<;>first | rfl | (cases h1;done) | (cases h2;done)
  | .list _,y,z,h1,h2=>by cases y<;>cases z<;>first | rfl | (cases h1;done) | (cases h2;done)
  | .dict _,y,z,h1,h2=>by cases y<;>cases z<;>first | rfl | (cases h1;done) | (cases h2;done)
  termination_by x y z=>sizeOf x+sizeOf y+sizeOf z
theorem Qgz:∀ (xs ys zs:List PyData),isLe (Qbr xs ys)=true->isLe (Qbr ys zs)=true->isLe (Qbr xs zs)=true
  | [],_,[],_,_=>rfl
  | [],_,_::_,_,_=>rfl
  | _::_,[],_,h1,_=>by cases h1
  | _::_,_::_,[],_,h2=>by cases h2
  | x::xs,y::ys,z::zs,h1,h2=>by
    have h1:isLe (thn (cmpD x y) (Qbr xs ys))=true:=h1
    have h2:isLe (thn (cmpD y z) (Qbr ys zs))=true:=h2
    show isLe (thn (cmpD x z) (Qbr xs zs))=true
    have a1:isLe (cmpD x y)=true:=by cases e:cmpD x y<;>rw [e] at h1<;>first | rfl | cases h1
    have a2:isLe (cmpD y z)=true:=by cases e:cmpD y z<;>rw [e] at h2<;>first | rfl | cases h2
    have a3:=Qef x y z a1 a2
    cases e1:cmpD x y with
    | gt=>rw [e1] at a1;cases a1
    | lt=>
      have:cmpD x z=.lt:=le_lt (a:=cmpD x y) a1 (fun q=>by
        rw [<- Qcy x z] at q
        rw [<- Qcy x y]
        exact Qef y z x a2 q) e1
      rw [this];rfl
    | eq=>
      cases e2:cmpD y z with
      | gt=>rw [e2] at a2;cases a2
      | lt=>
        have:cmpD x z=.lt:=le_lt (a:=cmpD y z) a2 (fun q=>by
          rw [<- Qcy x z] at q
          rw [<- Qcy y z]
          exact Qef z x y q a1) e2
        rw [this];rfl
      | eq=>
        rw [e1] at h1
        rw [e2] at h2
        cases e3:cmpD x z with
        | gt=>rw [e3] at a3;cases a3
        | lt=>rfl
        | eq=>exact Qgz xs ys zs h1 h2
  termination_by x y z=>sizeOf x+sizeOf y+sizeOf z
end
theorem isL_sw (o:Ordering):isL (sw o) = !isLe o:=by cases o<;>rfl
theorem Qll (x y:PyData):ltD y x = !isLe (cmpD x y):=by unfold ltD;rw [Qcy x y,isL_sw]
theorem Qgm (x y:PyData) (h:ltD x y=true):ltD y x=false:=by
  rw [Qll]
  unfold ltD at h
  cases e:cmpD x y<;>rw [e] at h<;>first | rfl | cases h
theorem ltD_nt (x y z:PyData) (h1:ltD y x=false) (h2:ltD z y=false):ltD z x=false:=by
  rw [Qll] at h1 h2 ⊢
  rw [Qef x y z (by simpa using h1) (by simpa using h2)]
  rfl
mutual
def cmpK:PyData->PyData->Bool
  | .int _,.int _=>true
  | .tuple a,.tuple b=>Qch a b
  | _,_=>false
def Qch:List PyData->List PyData->Bool
  | x::xs,y::ys=>cmpK x y&&Qch xs ys
  | _,_=>true
end
def isE:Ordering->Bool
  | .eq=>true
  | _=>false
theorem Qm7 (a b:Ordering):isE (thn a b)=(isE a&&isE b):=by cases a<;>rfl
mutual
theorem QiR:∀ (x y:PyData),cmpK x y=true->PyData.eqv x y=isE (cmpD x y)
  | .int i,.int j,_=>by
    show (i == j)=isE (cmpI i j)
    unfold cmpI
    by_cases h:i=j
    · subst h;simp [isE]
    · rw [beq_eq_false_iff_ne.mpr h]
      split
      · rfl
      · rfl
  | .tuple a,.tuple b,h=>QiQ a b h
  | .int _,.tuple _,h=>by cases h
  | .tuple _,.int _,h=>by cases h
  | .int _,.none,h=>by cases h
  | .int _,.bool _,h=>by cases h
  | .int _,.str _,h=>by cases h
  | .int _,.list _,h=>by cases h
  | .int _,.dict _,h=>by cases h
  | .tuple _,.none,h=>by cases h
  | .tuple _,.bool _,h=>by cases h
  | .tuple _,.str _,h=>by cases h
  | .tuple _,.list _,h=>by cases h
  | .tuple _,.dict _,h=>by cases h
  | .none,y,h=>by cases y<;>cases h
  | .bool _,y,h=>by cases y<;>cases h
  | .str _,y,h=>by cases y<;>cases h
  | .list _,y,h=>by cases y<;>cases h
  | .dict _,y,h=>by cases y<;>cases h
theorem QiQ:∀ (xs ys:List PyData),Qch xs ys=true->PyData.eqvAll xs ys=isE (Qbr xs ys)
  | [],[],_=>rfl
  | [],_::_,_=>rfl
  | _::_,[],_=>rfl
  | x::xs,y::ys,h=>by
    have h:=Bool.and_eq_true_iff.mp (show (cmpK x y&&Qch xs ys)=true from h)
    show (PyData.eqv x y&&PyData.eqvAll xs ys)=isE (thn (cmpD x y) (Qbr xs ys))
    rw [QiR x y h.1,QiQ xs ys h.2,Qm7]
end
end Dl
namespace Rt
open PySem PySem.Spec PySem.Calls PyProof.Rows Dl
theorem Qdh:∀ {ds:List PyData} {d:PyData},d∈ds->d.depth<=PyData.depthAll ds
  | x::ds,d,h=>by
    show d.depth<=max x.depth (PyData.depthAll ds)
    rcases List.mem_cons.mp h with z | z
    · subst z;exact Nat.le_max_left _ _
    · exact Nat.le_trans (Qdh z) (Nat.le_max_right _ _)
theorem Qa3 {h:Heap}:∀ {vs:List Value} {ds:List PyData} {as:List Addr},ReadsAll h vs ds as->vs.length=ds.length
  | _,_,_,.nil=>rfl
  | _,_,_,.cons _ r=>by rw [List.length_cons,List.length_cons,Qa3 r]
section
open PySem.SeqAt
open PySem.AutoSeq1 (wpAny_loadPart')
open PySem.MeetsSeq PySem.MeetsSeq2 PySem.MeetsSeq3
theorem QcC {l b:Addr} {items items2:Array Value} {n n2:Nat} {dd dd2:Option Addr} {sl sl2:Array (Option Value)} {ds es:List PyData} {as bs:List Addr} {N:Nat} (hk:Qch ds es=true) (hc1:PyData.canLayAll0 ds=true) (hc2:PyData.canLayAll0 es=true) (hd:PyData.depthAll ds<=N)
    (ih:∀ (x y:PyData) (A:Around) (s:Shared) (v u:Value) (p q:List Addr),Reads s.heap v x p->Reads s.heap u y q->x.canLay0=true->y.canLay0=true->cmpK x y=true->x.depth<=N->A.units+2*N+2<cLine->∀ (prog:Program) (w:World) (E Q:Value->Shared->Prop),Q (.bool (ltD x y)) s->wpAny (model prog w) A (richCompare .Lt v u) Q E s) :
    Meets (Builtin.«tuple.__lt__» ⟨[.ref l,.ref b],[]⟩)
      (fun A R s=>s.heap.get? l=some { cls:=.type "tuple",dict:=dd,data:=.seq items n,slots:=sl }/\s.heap.get? b=some { cls:=.type "tuple",dict:=dd2,data:=.seq items2 n2,slots:=sl2 }/\ReadsAll s.heap items.toList ds as/\ReadsAll s.heap items2.toList es bs/\A.units+2*N+4<cLine /\
        R (.ok (.ret (.bool (ltDs ds es)))) s):=
  .of_wp fun prog w A R s h=>by
    obtain ⟨hp,g,d,tk,os⟩:=s;obtain ⟨hl,hb,hr1,hr2,hu,h⟩:=h
    have f2:=AutoSeq1.sub_tuple_tuple
    have hu1:A.in1.units+2*N+2<cLine:=by show A.units+1+2*N+2<cLine;omega
    have z1:items.size=ds.length:=by rw [<- Qa3 hr1];simp
    have z2:items2.size=es.length:=by rw [<- Qa3 hr2];simp
    wp_walk using wpAny_loadPart' hl,wpAny_loadPart' hb,wpAny_forIn_list _ (fun rest b s'=>b.1=none/\s'=⟨hp,g,d,tk,os⟩/\∃ (vs ws:List Value) (xs ys:List PyData) (p q:List Addr),rest=vs.zip ws /\
      ReadsAll hp vs xs p/\ReadsAll hp ws ys q/\Qch xs ys=true/\PyData.canLayAll0 xs=true/\PyData.canLayAll0 ys=true/\PyData.depthAll xs<=N/\xs.length+items2.size=ys.length+items.size/\R (.ok (.ret (.bool (ltDs xs ys)))) ⟨hp,g,d,tk,os⟩) _
    case turn=>
      rintro ⟨y,x⟩ rest b s' ⟨hb',rfl,vs,ws,xs,ys,p,q,hz,hvi,hwi,hkk,c1,c2,hdd,hlen,hR⟩
      cases hvi with
      | nil=>rw [List.zip_nil_left] at hz;cases hz
      | @cons v0 vs0 d1 ds1 as1 as2 r1 hvi'=>
        cases hwi with
        | nil=>rw [List.zip_nil_right] at hz;cases hz
        | @cons u0 us0 d2 ds2 bs1 bs2 r2 hwi'=>
          rw [List.zip_cons_cons] at hz
          injection hz with hyx hrest
          injection hyx with hy hx
          subst hy hx
          have hkk:=Bool.and_eq_true_iff.mp (show (cmpK d1 d2&&Qch ds1 ds2)=true from hkk)
          simp only [PyData.canLayAll0,Bool.and_eq_true] at c1 c2
          have dm1:d1.depth<=N:=Nat.le_trans (Qdh (ds:=d1::ds1) (.head _)) hdd
          have dm2:PyData.depthAll ds1<=N:=Nat.le_trans (show PyData.depthAll ds1<=max d1.depth (PyData.depthAll ds1) from Nat.le_max_right _ _) hdd
          simp only [List.length_cons] at hlen
          have he:=SeqAt.eqAt_reads d1 d2 A.in1 ⟨hp,g,d,tk,os⟩ y x _ _ r1 r2 c1.1 c2.1 (by omega)
          have hR:R (.ok (.ret (.bool (isL (thn (cmpD d1 d2) (Qbr ds1 ds2)))))) ⟨hp,g,d,tk,os⟩:=hR
          rw [QiR d1 d2 hkk.1] at he
          have hri:=fun E Q=>ih d1 d2 A.in1 ⟨hp,g,d,tk,os⟩ y x _ _ r1 r2 c1.1 c2.1 hkk.1 dm1 hu1 prog w E Q
          unfold ltD at hri
          cases e1:cmpD d1 d2 with
          | lt=>
            rw [e1] at he hR hri
            refine wpAny_bind (he prog w _ _ ?_)
            wp_walk using hri
            exact ⟨_,rfl,hR⟩
          | gt=>
            rw [e1] at he hR hri
            refine wpAny_bind (he prog w _ _ ?_)
            wp_walk using hri
            exact ⟨_,rfl,hR⟩
          | eq=>
            rw [e1] at he hR
            refine wpAny_bind (he prog w _ _ ?_)
            wp_walk
            exact ⟨rfl,rfl,_,_,_,_,_,_,hrest,hvi',hwi',hkk.2,c1.2,c2.2,dm2,by omega,hR⟩
    case fin=>
      rintro ⟨b1,b2⟩ s' ⟨hb',rfl,vs,ws,xs,ys,p,q,hz,hvi,hwi,hkk,c1,c2,hdd,hlen,hR⟩
      simp only at hb'
      subst hb'
      have hv:ltDs xs ys=decide (items.size<items2.size):=by
        cases hvi with
        | nil=>
          cases hwi with
          | nil=>
            simp only [List.length_nil] at hlen
            exact (decide_eq_false (by omega)).symm
          | cons r2 hw=>
            simp only [List.length_nil,List.length_cons] at hlen
            exact (decide_eq_true (by omega)).symm
        | cons r1 hv=>
          cases hwi with
          | nil=>
            simp only [List.length_nil,List.length_cons] at hlen
            exact (decide_eq_false (by omega)).symm
          | cons r2 hw=>
            rw [List.zip_cons_cons] at hz
            cases hz
      rw [hv] at hR
      wp_walk
      exact ⟨_,rfl,by simpa [Builtin.Tuple.tupleCompareSizes] using hR⟩
    case h=>
      exact ⟨rfl,rfl,items.toList,items2.toList,ds,es,as,bs,rfl,hr1,hr2,hk,hc1,hc2,hd,by omega,h⟩
end
end Rt
namespace Rt
open PySem PySem.Spec PySem.Calls PySem.W PyProof.Rows Dl
mutual
def okK:PyData->Bool
  | .int _=>true
  | .tuple ds=>okKs ds
  | _=>false
def okKs:List PyData->Bool
  | []=>true
  | d::ds=>okK d&&okKs ds
end
mutual
theorem Qco {h h':Heap} (k:∀ b o,h.get? b=some o->h'.get? b=some o):∀ (d:PyData) (v:Value) (as:List Addr),okK d=true->Reads h v d as->Reads h' v d as
  | .int _,_,_,_,.int i t=>.int i t
  | .tuple ds,_,_,hk,.tuple (vs:=vs) e c d r=>.tuple (k _ _ e) c d (Qa9 k ds _ _ hk r)
  | .none,_,_,hk,_=>by cases hk
  | .bool _,_,_,hk,_=>by cases hk
  | .str _,_,_,hk,_=>by cases hk
  | .list _,_,_,hk,_=>by cases hk
  | .dict _,_,_,hk,_=>by cases hk
theorem Qa9 {h h':Heap} (k:∀ b o,h.get? b=some o->h'.get? b=some o):∀ (ds:List PyData) (vs:List Value) (as:List Addr),okKs ds=true->ReadsAll h vs ds as->ReadsAll h' vs ds as
  | [],_,_,_,.nil=>.nil
  | d::ds,_,_,hk,.cons r rs=>by
    have hk:=Bool.and_eq_true_iff.mp (show (okK d&&okKs ds)=true from hk)
    exact .cons (Qco k d _ _ hk.1 r) (Qa9 k ds _ _ hk.2 rs)
end
theorem rc_lt:∀ (N:Nat) (x y:PyData) (A:Around) (s:Shared) (v u:Value) (p q:List Addr),Reads s.heap v x p->Reads s.heap u y q->x.canLay0=true->y.canLay0=true->cmpK x y=true->x.depth<=N->A.units+2*N+2<cLine->∀ (prog:Program) (w:World) (E Q:Value->Shared->Prop),Q (.bool (ltD x y)) s->wpAny (model prog w) A (richCompare .Lt v u) Q E s:=by
  intro N
  have intz:∀ (i j:Int) (A:Around) (s:Shared) (v u:Value) (p q:List Addr),Reads s.heap v (.int i) p->Reads s.heap u (.int j) q->∀ (prog:Program) (w:World) (E Q:Value->Shared->Prop),Q (.bool (ltD (.int i) (.int j))) s->wpAny (model prog w) A (richCompare .Lt v u) Q E s:=by
    intro i j A s v u p q r1 r2 prog w E Q h
    cases r1
    cases r2
    refine HT.rcLt_int A s i _ j _ prog w E Q ?_
    have e:ltD (.int i) (.int j)=decide (i<j):=by
      show isL (cmpI i j)=_
      unfold cmpI
      by_cases z:i<j
      · rw [if_pos z,decide_eq_true z];rfl
      · rw [if_neg z,decide_eq_false z]
        split<;>rfl
    rw [e] at h
    exact h
  induction N with
  | zero=>
    intro x y A s v u p q r1 r2 c1 c2 hk hd hu prog w E Q h
    cases x<;>cases y<;>first | (cases hk;done) | skip
    · exact intz _ _ A s v u p q r1 r2 prog w E Q h
    · unfold PyData.depth at hd;omega
  | succ N ih=>
    intro x y A s v u p q r1 r2 c1 c2 hk hd hu prog w E Q h
    cases x<;>cases y<;>first | (cases hk;done) | skip
    · exact intz _ _ A s v u p q r1 r2 prog w E Q h
    · rename_i ds es
      cases r1 with
      | @tuple a o vs n _ _ ho hc hd' ra=>
        cases r2 with
        | @tuple b o2 vs2 n2 _ _ ho2 hc2 hd2 rb=>
          obtain ⟨cls,dd,data,sl⟩:=o
          obtain ⟨cls2,dd2,data2,sl2⟩:=o2
          simp only at hc hd' hc2 hd2
          subst hc hd' hc2 hd2
          have dd3:PyData.depthAll ds<=N:=by unfold PyData.depth at hd;omega
          exact richCompare_meets_room (op:=.Lt) ⟨_,ho,rfl⟩ ⟨_,ho2,rfl⟩ PySem.F.slot_tuple_lt PySem.F.entry_tuple_lt (PySem.F.args_tuple_lt_2 _ _) (QcC (N:=N) hk c1 c2 dd3 ih)
            ⟨ho,ho2,ra,rb,by omega,show Value.bool (ltDs ds es)≠Value.notImplemented/\Q (.bool (ltDs ds es)) s from ⟨(fun x=>nomatch x),h⟩⟩ (by omega)
theorem QgQ {N:Nat} {ds es:List PyData} {A:Around} {s:Shared} {v u:Value} {p q:List Addr} (r1:Reads s.heap v (.tuple ds) p) (r2:Reads s.heap u (.tuple es) q) (c1:PyData.canLayAll0 ds=true) (c2:PyData.canLayAll0 es=true) (hk:Qch ds es=true) (hd:PyData.depthAll ds<=N) (hu:A.units+2*N+4<cLine) {prog:Program} {w:World} {E:Value->Shared->Prop} {C:Bool->Shared->Prop} (h:C (ltDs ds es) s):wpAny (model prog w) A (oneLt' true v u) C E s:=by
  cases r1 with
  | @tuple a o vs n _ _ ho hc hd' ra=>
    cases r2 with
    | @tuple b o2 vs2 n2 _ _ ho2 hc2 hd2 rb=>
      obtain ⟨cls,dd,data,sl⟩:=o
      obtain ⟨cls2,dd2,data2,sl2⟩:=o2
      simp only at hc hd' hc2 hd2
      subst hc hd' hc2 hd2
      rw [oneLt'_eq]
      simp only [if_true]
      refine wpAny_bind (wpAny_cRoomFor (by omega) ?_)
      refine wpAny_bind (wpAny_callSpecialIfBound?_slot ⟨_,ho,rfl⟩ PySem.F.slot_tuple_lt (call_meets PySem.F.slot_tuple_lt ⟨_,ho,rfl⟩ PySem.F.entry_tuple_lt (PySem.F.args_tuple_lt_2 _ _) (QcC (N:=N) hk c1 c2 hd fun x y=>rc_lt N x y) ⟨ho,ho2,ra,rb,hu,?_⟩))
      exact wpAny_truthy_bool h
section
variable {prog:Program} {w:World} {A:Around} {E:Value->Shared->Prop} {s:Shared}
theorem Qlh {N:Nat} {x y:PyData} {v u:Value} {p q:List Addr} (r1:Reads s.heap v x p) (r2:Reads s.heap u y q) (c1:x.canLay0=true) (c2:y.canLay0=true) (hk:cmpK x y=true) (hd:x.depth<=N) (hu:A.units+2*N+2<cLine) {C:Bool->Shared->Prop} (h:C (ltD x y) s):wpAny (model prog w) A (oneLt' false v u) C E s:=by
  refine kat_one v u ?_
  exact rc_lt N x y A s v u p q r1 r2 c1 c2 hk hd hu prog w E _ h
theorem Qiw (i j:Int):ltD (.int i) (.int j)=decide (i<j):=by
  show isL (cmpI i j)=_
  unfold cmpI
  by_cases z:i<j
  · rw [if_pos z,decide_eq_true z];rfl
  · rw [if_neg z,decide_eq_false z]
    split<;>rfl
def Qnb:List PyData->Prop
  | .int _::_=>True
  | _=>False
theorem Qln {b:Bool} {n1 n2 N:Nat} {C:Bool->Shared->Prop} (hu:A.units+2*N+2<cLine):∀ (vs us:List Value) (xs ys:List PyData) (p q:List Addr) (i:Nat),ReadsAll s.heap vs xs p->ReadsAll s.heap us ys q->PyData.canLayAll0 xs=true->PyData.canLayAll0 ys=true->Qch xs ys=true->PyData.depthAll xs<=N->(b=true->i=0->Qnb xs)->xs.length+n2=ys.length+n1 ->
    C (ltDs xs ys) s->KatLex prog w A b (decide (n1<n2)) C (vs.zip us) i s
  | [],us,xs,ys,p,q,i,r1,r2,c1,c2,hk,hd,hb,hl,h=>by
    cases r1
    refine kat_nil ?_
    cases r2 with
    | nil=>rw [show decide (n1<n2)=false from decide_eq_false (by simp at hl;omega)];exact h
    | cons r rs=>rw [show decide (n1<n2)=true from decide_eq_true (by simp at hl;omega)];exact h
  | v::vs,[],xs,ys,p,q,i,r1,r2,c1,c2,hk,hd,hb,hl,h=>by
    cases r2
    cases r1
    refine kat_nil ?_
    rw [show decide (n1<n2)=false from decide_eq_false (by simp at hl;omega)];exact h
  | v::vs,u::us,xs,ys,p,q,i,r1,r2,c1,c2,hk,hd,hb,hl,h=>by
    cases r1 with
    | @cons _ _ d1 ds1 as1 as2 r1 rs1=>
      cases r2 with
      | @cons _ _ d2 ds2 bs1 bs2 r2 rs2=>
        have hk:=Bool.and_eq_true_iff.mp (show (cmpK d1 d2&&Qch ds1 ds2)=true from hk)
        simp only [PyData.canLayAll0,Bool.and_eq_true] at c1 c2
        have dm1:d1.depth<=N:=Nat.le_trans (Qdh (ds:=d1::ds1) (.head _)) hd
        have dm2:PyData.depthAll ds1<=N:=Nat.le_trans (show PyData.depthAll ds1<=max d1.depth (PyData.depthAll ds1) from Nat.le_max_right _ _) hd
        have h:C (isL (thn (cmpD d1 d2) (Qbr ds1 ds2))) s:=h
        have one:C (ltD d1 d2) s->wpAny (model prog w) A (oneLt' (b&&i == 0) v u) C (fun _ _=>False) s:=fun hc=>by
          cases e:(b&&i == 0) with
          | false=>exact Qlh (N:=N) r1 r2 c1.1 c2.1 hk.1 dm1 hu hc
          | true=>
            have e:=Bool.and_eq_true_iff.mp e
            have hh:=hb e.1 (beq_iff_eq.mp e.2)
            cases d1<;>first | exact hh.elim | skip
            cases d2<;>first | (cases hk.1;done) | skip
            cases r1
            cases r2
            rw [Qiw] at hc
            exact oneLt_int hc
        refine kat_cons (SeqAt.eqAt_reads d1 d2 A s v u _ _ r1 r2 c1.1 c2.1 (by omega) prog w _ _ ?_)
        rw [QiR d1 d2 hk.1]
        cases e1:cmpD d1 d2 with
        | lt=>rw [e1] at h;exact kat_no (one (by unfold ltD;rw [e1];exact h))
        | gt=>rw [e1] at h;exact kat_no (one (by unfold ltD;rw [e1];exact h))
        | eq=>
          rw [e1] at h
          refine kat_yes (Qln hu vs us ds1 ds2 _ _ (i+1) rs1 rs2 c1.2 c2.2 hk.2 dm2 (fun _ z=>by omega) (by simp only [List.length_cons] at hl;omega) h)
def QkX (ds:List PyData) (κ:SortKind):Prop:=κ=general'∨κ=oneType'∨κ=tuples' false∨(κ=tuples' true/\∀ d∈ds,∃ es,d=.tuple es/\Qnb es)
theorem key_lt {N:Nat} {ds:List PyData} {κ:SortKind} {x y:PyData} {v u:Value} {p q:List Addr} (su:QkX ds κ) (hx:x∈ds) (r1:Reads s.heap v x p) (r2:Reads s.heap u y q) (c1:x.canLay0=true) (c2:y.canLay0=true) (hk:cmpK x y=true) (tb:∀ b,κ=tuples' b->∃ es,x=.tuple es) (hd:x.depth<=N) (hu:A.units+2*N+4<cLine) {C:Bool->Shared->Prop} (h:C (ltD x y) s) :
    wpAny (model prog w) A (keyLt' κ v u) C E s:=by
  have tup:∀ b,κ=tuples' b->(b=true->∃ es,x=.tuple es/\Qnb es)->wpAny (model prog w) A (keyLt' κ v u) C E s:=fun b hb hh=>by
    subst hb
    obtain ⟨es,rfl⟩:=tb b rfl
    cases y<;>first | (cases hk;done) | skip
    rename_i fs
    cases r1 with
    | @tuple a o vs n _ _ ho hc hd' ra=>
      cases r2 with
      | @tuple b2 o2 vs2 n2 _ _ ho2 hc2 hd2 rb=>
        have dd3:PyData.depthAll es<=N:=by unfold PyData.depth at hd;omega
        refine kat_lt ho hd' ho2 hd2 (Qln (N:=N) (by omega) _ _ es fs _ _ 0 ra rb c1 c2 hk dd3 (fun e _=>?_) ?_ h)
        · obtain ⟨es',e',hh⟩:=hh e
          cases e'
          exact hh
        · have e1:=Qa3 ra
          have e2:=Qa3 rb
          rw [Array.length_toList] at e1 e2
          omega
  rcases su with rfl | rfl | rfl | ⟨rfl,hall⟩
  · exact Qlh (N:=N) r1 r2 c1 c2 hk hd (by omega) h
  · cases x<;>cases y<;>first | (cases hk;done) | skip
    · cases r1
      cases r2
      rw [Qiw] at h
      exact oneLt_int h
    · have dd3:∀ {es:List PyData},(PyData.tuple es).depth<=N->PyData.depthAll es<=N:=fun {es} h=>by unfold PyData.depth at h;omega
      exact QgQ (N:=N) r1 r2 c1 c2 hk (dd3 hd) hu h
  · exact tup false rfl fun e=>by cases e
  · exact tup true rfl fun _=>hall x hx
end
section
variable {M:Model} {A:Around} {E:Value->Shared->Prop} {s:Shared}
theorem QdB {α β:Type} {f:α->Sem β} {g:α->β}:∀ (l:List α) {Q:List β->Shared->Prop},(∀ v∈l,∀ (Q':β->Shared->Prop),Q' (g v) s->wpAny M A (f v) Q' E s)->Q (l.map g) s->wpAny M A (l.mapM f) Q E s
  | [],_,_,h=>by rw [List.mapM_nil];exact wpAny_pure h
  | x::l,Q,hf,h=>by
    rw [List.mapM_cons]
    exact wpAny_bind (hf x (.head _) _ (wpAny_bind (QdB l (Q:=fun bs s'=>wpAny M A (pure (g x::bs)) Q E s') (fun v hv=>hf v (.tail _ hv)) (wpAny_pure h))))
end
def fst1 (h:Heap) (v:Value):Option Value:=match v with
  | .ref a=>(match h.get? a with
    | some o=>(match o.data with
      | .seq xs _=>xs[0]?
      | _=>none)
    | none=>none)
  | _=>none
def tyV (h:Heap) (v:Value):Value:=match v with
  | .int _ _=>.type "int"
  | .ref a=>(match h.get? a with
    | some o=>o.cls
    | none=>.none)
  | _=>.none
theorem QaM:∀ {ds:List PyData},okKs ds=true->∀ d∈ds,okK d=true
  | x::ds,h,d,hd=>by
    have h:=Bool.and_eq_true_iff.mp (show (okK x&&okKs ds)=true from h)
    rcases List.mem_cons.mp hd with z | z
    · rw [z];exact h.1
    · exact QaM h.2 d z
theorem Qft:∀ {ds:List PyData},(∀ d∈ds,okK d=true)->okKs ds=true
  | [],_=>rfl
  | x::ds,h=>by
    show (okK x&&okKs ds)=true
    rw [h x (.head _),Qft fun d hd=>h d (.tail _ hd)];rfl
theorem QaD {h:Heap}:∀ {vs:List Value} {ds:List PyData} {as:List Addr},ReadsAll h vs ds as->∀ v∈vs,∃ d∈ds,∃ bs,Reads h v d bs
  | _,_,_,.cons (d:=d) r rs,v,hv=>by
    rcases List.mem_cons.mp hv with z | z
    · rw [z];exact ⟨d,.head _,_,r⟩
    · obtain ⟨d',hd,bs,r'⟩:=QaD rs v z
      exact ⟨d',.tail _ hd,bs,r'⟩
theorem Qca {h:Heap}:∀ {vs:List Value} {ds:List PyData} {as:List Addr},ReadsAll h vs ds as->∀ d∈ds,∃ v∈vs,∃ bs,Reads h v d bs
  | _,_,_,.cons (d:=d) (v:=v) r rs,d',hd=>by
    rcases List.mem_cons.mp hd with z | z
    · rw [z];exact ⟨v,.head _,_,r⟩
    · obtain ⟨v',hv,bs,r'⟩:=Qca rs d' z
      exact ⟨v',.tail _ hv,bs,r'⟩
section
variable {prog:Program} {w:World} {A:Around} {E:Value->Shared->Prop} {s:Shared}
theorem Qfg {v:Value} {d:PyData} {bs:List Addr} (r:Reads s.heap v d bs) (hk:okK d=true) {Q:Value->Shared->Prop} (q:Q (tyV s.heap v) s):wpAny (model prog w) A (typeOf v) Q E s:=by
  cases r<;>first | (cases hk;done) | skip
  · exact wpAny_pure q
  · rename_i a o vs n xs ho hc hd ra
    refine wpAny_typeOf_ref ho ?_
    have e:tyV s.heap (.ref a)=o.cls:=by unfold tyV;simp only [ho]
    rw [e] at q
    exact q
theorem Qgp {vs:List Value} {ds:List PyData} {as:List Addr} {Q:SortKind->Shared->Prop} (ra:ReadsAll s.heap vs ds as) (hk:okKs ds=true) (ht:∀ d∈ds,∃ es,d=.tuple es) (h:∀ κ,QkX ds κ->Q κ s):wpAny (model prog w) A (keyKind' vs.toArray) Q E s:=by
  have rd:=QaD ra
  have fs:∀ v∈vs,∀ (Q':Option Value->Shared->Prop),Q' (fst1 s.heap v) s->wpAny (model prog w) A (firstOfTuple' v) Q' E s:=fun v hv Q' q=>by
    obtain ⟨d,hd,bs,r⟩:=rd v hv
    obtain ⟨es,rfl⟩:=ht d hd
    cases r with
    | @tuple a o xs n _ _ ho hc hd' r'=>
      rw [kas_first_eq]
      refine wpAny_bind (wpAny_typeOf_ref ho ?_)
      rw [hc]
      rw [if_neg (by decide)]
      refine wpAny_bind (listItems_at ho hd' (wpAny_pure ?_))
      have e:fst1 s.heap (.ref a)=xs[0]? := by unfold fst1;simp only [ho,hd']
      rw [<- e]
      exact q
  rw [keyKind'_eq,List.mapM_toArray,map_eq_pure_bind]
  refine wpAny_bind (wpAny_bind (QdB (g:=fst1 s.heap) vs fs (wpAny_pure ?_)))
  by_cases z:((vs.map (fst1 s.heap)).toArray.all fun x=>x.isSome)=true
  · rw [if_pos z]
    refine wpAny_bind (wpAny_rule ?_)
    have hfm:((vs.map (fst1 s.heap)).toArray.filterMap id)=(vs.filterMap (fst1 s.heap)).toArray:=by simp [List.filterMap_map]
    have heads:∀ u∈vs.filterMap (fst1 s.heap),∃ d bs,Reads s.heap u d bs/\okK d=true:=fun u hu=>by
      obtain ⟨v,hv,e⟩:=List.mem_filterMap.mp hu
      obtain ⟨d,hd,bs,r⟩:=rd v hv
      obtain ⟨es,rfl⟩:=ht d hd
      have ko:=QaM hk _ hd
      cases r with
      | @tuple a o xs n _ _ ho hc hd' r'=>
        have e2:fst1 s.heap (.ref a)=xs[0]? := by unfold fst1;simp only [ho,hd']
        rw [e2] at e
        have hm:u∈xs.toList:=by rw [<- Array.getElem?_toList] at e;exact List.mem_of_getElem? e
        obtain ⟨d2,hd2,bs2,r2⟩:=QaD r' u hm
        exact ⟨d2,bs2,r2,QaM ko _ hd2⟩
    rw [hfm,oneTypeOnly'_eq,List.mapM_toArray,map_eq_pure_bind]
    refine wpAny_bind (wpAny_bind (wpAny_bind (QdB (g:=tyV s.heap) _ (fun u hu Q' q=>?_) (wpAny_pure ?_))))
    · obtain ⟨d,bs,r,ko⟩:=heads u hu
      exact Qfg r ko q
    · have fin:∀ o:Option Value,(o.any (· != Value.type "tuple")=true->∀ u∈vs.filterMap (fst1 s.heap),tyV s.heap u≠Value.type "tuple")->Q (tuples' (o.any (· != Value.type "tuple"))) s:=fun o ho=>by
        cases e:o.any (· != Value.type "tuple") with
        | false=>exact h _ (.inr (.inr (.inl rfl)))
        | true=>
          refine h _ (.inr (.inr (.inr ⟨rfl,fun d hd=>?_⟩)))
          obtain ⟨es,rfl⟩:=ht d hd
          obtain ⟨v,hv,bs,r⟩:=Qca ra _ hd
          refine ⟨es,rfl,?_⟩
          have ko:=QaM hk _ hd
          cases r with
          | @tuple a oo xs n _ _ ho' hc hd' r'=>
            have e2:fst1 s.heap (.ref a)=xs[0]? := by unfold fst1;simp only [ho',hd']
            have some1:(fst1 s.heap (.ref a)).isSome=true:=by
              have z':=Array.all_eq_true_iff_forall_mem.mp z (fst1 s.heap (Value.ref a)) (by simp;exact ⟨_,hv,rfl⟩)
              exact z'
            rw [e2] at some1
            obtain ⟨u,hu⟩:=Option.isSome_iff_exists.mp some1
            have hl:=(Array.getElem?_eq_some_iff.mp hu).1
            have nt:=ho e u (List.mem_filterMap.mpr ⟨_,hv,by rw [e2];exact hu⟩)
            have hu':xs.toList[0]? = some u:=by rw [Array.getElem?_toList];exact hu
            cases hx:xs.toList with
            | nil=>rw [hx] at hu';cases hu'
            | cons u0 us=>
              rw [hx] at hu' r'
              have e0:u0=u:=by simpa using hu'
              subst e0
              cases r' with
              | @cons _ _ d1 ds1 as1 as2 r1 rs1=>
                have ko1:=(Bool.and_eq_true_iff.mp (show (okK d1&&okKs ds1)=true from ko)).1
                cases r1<;>first | (cases ko1;done) | skip
                · trivial
                · rename_i a2 o2 vs2 n2 xs2 ho2 hc2 hd2 ra2
                  exfalso
                  apply nt
                  unfold tyV
                  simp only [ho2]
                  exact hc2
      cases hg:((vs.filterMap (fst1 s.heap)).map (tyV s.heap)).toArray[0]? with
      | none=>exact wpAny_pure (wpAny_pure (fin none fun e=>by cases e))
      | some t=>
        dsimp only
        refine wpAny_pure (wpAny_pure (fin _ fun e u hu=>?_))
        split at e
        · rename_i hall
          have ne:(t != Value.type "tuple")=true:=e
          have te:(tyV s.heap u == t)=true:=by
            have:=Array.all_eq_true_iff_forall_mem.mp hall (tyV s.heap u) (by simp;exact ⟨u,by simpa using List.mem_filterMap.mp hu,rfl⟩)
            exact this
          rw [eq_of_beq te]
          simpa using ne
        · cases e
  · rw [if_neg z]
    split
    · exact wpAny_pure (h _ (.inl rfl))
    · rw [oneTypeOnly'_eq,List.mapM_toArray,map_eq_pure_bind]
      refine wpAny_bind (wpAny_bind (wpAny_bind (QdB (g:=tyV s.heap) _ (fun v hv Q' q=>?_) (wpAny_pure ?_))))
      · obtain ⟨d,hd,bs,r⟩:=rd v hv
        exact Qfg r (QaM hk _ hd) q
      · have fin:∀ b:Bool,wpAny (model prog w) A (pure (if b=true then oneType' else general')) Q E s:=fun b=>by
          cases b
          · exact wpAny_pure (h _ (.inl rfl))
          · exact wpAny_pure (h _ (.inr (.inl rfl)))
        split
        · exact wpAny_pure (fin _)
        · exact wpAny_pure (fin _)
end
end Rt
namespace Rt
open PySem PySem.Spec PySem.Calls PySem.W PyProof.Rows Dl Rs
section
variable {prog:Program} {w:World} {A:Around} {E:Value->Shared->Prop} {s:Shared}
def prs (vs:List Value):Array Keyed:=vs.toArray.zip vs.toArray
theorem QcN (vs:List Value):(prs vs).toList=vs.zip vs:=by unfold prs;rw [Array.toList_zip]
theorem Ql5 (vs:List Value):(prs vs).toList.map (·.2)=vs:=by rw [QcN];exact List.map_snd_zip (Nat.le_refl _)
theorem Qb4:∀ {vs:List Value} {p:Keyed},p∈vs.zip vs->p.1=p.2/\p.2∈vs
  | v::vs,p,h=>by
    rw [List.zip_cons_cons] at h
    rcases List.mem_cons.mp h with z | z
    · rw [z];exact ⟨rfl,.head _⟩
    · exact ⟨(Qb4 z).1,.tail _ (Qb4 z).2⟩
theorem Qea {a:Addr} {vs:List Value} {n:Nat} {P:PySem.Fin->Shared->Prop} (ho:s.heap.get? a=some (seqObj "list" vs.toArray n)) (hz:vs.length<=sizeLine) {c:Keyed->Keyed->Bool} (oc:Ord c)
    (hkind:∀ h':Heap,Kept a s.heap h'->∀ (Q':SortKind->Shared->Prop) (E':Value->Shared->Prop),(∀ κ,Asks prog w A { s with heap:=h' } κ (prs vs) c->Q' κ { s with heap:=h' })->wpAny (model prog w) A (keyKind' vs.toArray) Q' E' { s with heap:=h' })
    (h:∀ arr:Array Keyed,arr.Perm (prs vs)->Sg c arr 0 arr.size->∀ (h':Heap) (e:Nat),Kept a s.heap h'->h'.get? a=some (seqObj "list" (arr.toList.map (·.2)).toArray e)->P (.done (.ret .none)) { s with heap:=h' }) :
    wpAny (model prog w) A (Builtin.«list.sort» ⟨[.ref a],[]⟩) P E s:=by
  have ha:a<s.heap.objs.size:=Heap.lt_size ho
  obtain ⟨e1,ho1⟩:∃ e1,(s.heap.update a (Obj.mapSeq fun _=>(#[]:Array Value))).get? a=some (seqObj "list" #[] e1):=⟨_,get?_update_seq ho fun _=>#[]⟩
  have K3:Kept a s.heap (((s.heap.update a (Obj.mapSeq fun _=>(#[]:Array Value))).push (seqObj "tuple" vs.toArray 0)).push (seqObj "list" #[] 0)):=(QdL _).trans ((QeH _).trans (QeH _))
  have ho6:(((s.heap.update a (Obj.mapSeq fun _=>(#[]:Array Value))).push (seqObj "tuple" vs.toArray 0)).push (seqObj "list" #[] 0)).get? a=some (seqObj "list" #[] e1):=Heap.get?_push_of_some _ (Heap.get?_push_of_some _ ho1)
  rw [list_sort_plain]
  refine wpAny_bind (listItems_at ho rfl ?_)
  refine wpAny_bind (listUpdate_at ho rfl ?_ (by rw [List.size_toArray];exact hz) (Nat.zero_le _))
  refine wpAny_bind (seqEpoch_at ho1 rfl ?_)
  refine wpAny_bind (wpAny_newTuple ?_ (by show vs.length<=_;exact hz))
  refine wpAny_bind (wpAny_newList ?_ (Nat.zero_le _))
  refine wpAny_holding ?_
  show wpAny (model prog w) A _ P E { s with heap:=((s.heap.update a (Obj.mapSeq fun _=>(#[]:Array Value))).push (seqObj "tuple" vs.toArray 0)).push (seqObj "list" #[] 0) }
  dsimp only
  generalize (((s.heap.update a (Obj.mapSeq fun _=>(#[]:Array Value))).push (seqObj "tuple" vs.toArray 0)).push (seqObj "list" #[] 0))=h3 at K3 ho6 ⊢
  have out:∀ arr:Array Keyed,arr.map (·.2)=(arr.toList.map (·.2)).toArray:=fun arr=>by
    apply Array.toList_inj.mp
    rw [Array.toList_map]
  have psz:(prs vs).size=vs.length:=by rw [<- Array.length_toList,QcN,List.length_zip,Nat.min_self]
  by_cases h2:vs.toArray.size<2
  · rw [if_pos h2,if_pos h2]
    refine wpAny_bind (wpAny_pure ?_)
    rw [StateT.run_pure]
    refine wpAny_bind (wpAny_pure ?_)
    dsimp only
    have f:Sg c (prs vs) 0 (prs vs).size:=fun i j _ hij hj=>by
      rw [psz] at hj
      rw [List.size_toArray] at h2
      rw [show i=j by omega]
      exact oc.irr _
    refine wpAny_bind (seqEpoch_at ho6 rfl ?_)
    refine wpAny_bind (listUpdate_at ho6 rfl ?_ (Nat.zero_le _) (by rw [Array.size_map];show (prs vs).size<=_;rw [(Array.Perm.refl (prs vs)).size_eq,psz];omega))
    simp only [bne_self_eq_false,Bool.false_eq_true,if_false]
    show wpAny _ _ (ret Value.none) _ _ { s with heap:=h3.update a (Obj.mapSeq fun _=>Array.map (fun x=>x.snd) (prs vs)) }
    rw [out]
    exact wpAny_pure (h (prs vs) (Array.Perm.refl (prs vs)) (f) _ _ (K3.trans (QdL _)) (get?_update_seq ho6 fun _=>_))
  · rw [if_neg h2,if_neg h2]
    refine wpAny_bind (hkind h3 K3 _ _ fun κ hA=>?_)
    refine wpAny_bind (wpAny_mono (Qfa (a₀:=prs vs) (κ:=κ) (st:=SortSt.mk' κ (prs vs) #[] 7 none) (Q:=fun _ st'=>SB κ (prs vs) st'/\Sg c (arrOf st') 0 (prs vs).size) hA ⟨Array.Perm.refl _,rfl,rfl⟩ rfl fun st' b g=>⟨b,g⟩) ?_ fun _ _ e=>e)
    rintro ⟨⟨⟩,st'⟩ s' ⟨rfl,b,g⟩
    dsimp only
    rw [b.failed]
    have g2:Sg c (arrOf st') 0 (arrOf st').size:=by rw [b.size];exact g
    refine wpAny_bind (seqEpoch_at ho6 rfl ?_)
    refine wpAny_bind (listUpdate_at ho6 rfl ?_ (Nat.zero_le _) (by rw [Array.size_map];show (arrOf st').size<=_;rw [(b.perm).size_eq,psz];omega))
    simp only [bne_self_eq_false,Bool.false_eq_true,if_false]
    show wpAny _ _ (ret Value.none) _ _ { s with heap:=h3.update a (Obj.mapSeq fun _=>Array.map (fun x=>x.snd) (arrOf st')) }
    rw [out]
    exact wpAny_pure (h (arrOf st') (b.perm) (g2) _ _ (K3.trans (QdL _)) (get?_update_seq ho6 fun _=>_))
theorem QdQ {Q:Value->Shared->Prop} {l:Addr} {T:String} {o:Obj} {vs:List Value} {n:Nat} (hT:T = "list" ∨ T = "tuple") (ho:s.heap.get? l=some o) (hc:o.cls=.type T) (hd:o.data=.seq vs.toArray n) (hz:vs.length<=sizeLine)
    (h:∀ h':Heap,(∀ b x,s.heap.get? b=some x->h'.get? b=some x)->∀ (P:PySem.Fin->Shared->Prop) (E':Value->Shared->Prop),(∀ s2,Q (.ref h'.objs.size) s2->P (.done (.ret .none)) s2) ->
      wpAny (model prog w) A.in1.in1 (Builtin.«list.sort» ⟨[.ref h'.objs.size],[]⟩) P E' { s with heap:=h'.push (seqObj "list" vs.toArray 0) }) :
    wpAny (model prog w) A (call (.builtin "sorted") [.ref l]) Q E s:=by
  refine Calls.call_function_entry kind_sorted plain_sorted entry_sorted (args_sorted1 _) ?_
  unfold Builtin.«sorted»
  refine wpAny_bind (m:=checkCount "sorted" 1 1 _) (wpAny_pure ?_)
  refine wpAny_bind (wpAny_collect_seq (items:=vs.toArray) l hT ho hc hd (fun h' kp=>?_) (by rw [List.size_toArray];exact hz))
  refine wpAny_bind (wpAny_newList ?_ (by rw [List.toList_toArray];exact hz))
  have hoL:(h'.push (seqObj "list" vs.toArray 0)).get? h'.objs.size=some (seqObj "list" vs.toArray 0):=Heap.get?_push_size _ rfl
  show wpAny _ _ _ _ _ { s with heap:=h'.push (seqObj "list" vs.toArray 0) }
  refine wpAny_bind (wpAny_holding (wpAny_call_entry slot_list_sort ⟨_,hoL,rfl⟩ entry_list_sort ?body (args_list_sort _)))
  exact h h' kp _ _ fun s2 hq=>⟨_,rfl,wpAny_pure ⟨_,rfl,hq⟩⟩
open Classical in
noncomputable def rdV (h:Heap) (v:Value):PyData:=if q:∃ d as,Reads h v d as/\d.canLay0=true then q.choose else .none
theorem QhC {h:Heap} {v:Value} {d:PyData} {as:List Addr} (r:Reads h v d as) (c:d.canLay0=true):rdV h v=d:=by
  unfold rdV
  have q:∃ d as,Reads h v d as/\d.canLay0=true:=⟨d,as,r,c⟩
  rw [dif_pos q]
  obtain ⟨as',r',c'⟩:=q.choose_spec
  exact (SeqAt.Reads.unique d _ v as as' c r r').symm
theorem QcF {α β:Type} (f:α->β) {l m:List β} (p:l.Perm m):∀ {T:List α},m=T.map f->∃ T':List α,T'.Perm T/\l=T'.map f:=by
  induction p with
  | nil=>intro T e;exact ⟨T,List.Perm.refl _,e⟩
  | @cons x l1 l2 _ ih=>
    intro T e
    cases T with
    | nil=>cases e
    | cons t T=>
      rw [List.map_cons] at e
      injection e with e1 e2
      obtain ⟨T',p',e'⟩:=ih e2
      exact ⟨t::T',p'.cons t,by rw [List.map_cons,<- e1,<- e']⟩
  | @swap x y l=>
    intro T e
    cases T with
    | nil=>cases e
    | cons t T=>
      cases T with
      | nil=>rw [List.map_cons] at e;injection e with e1 e2;cases e2
      | cons t2 T=>
        rw [List.map_cons,List.map_cons] at e
        injection e with e1 e2
        injection e2 with e3 e4
        exact ⟨t2::t::T,List.Perm.swap t t2 T,by rw [List.map_cons,List.map_cons,<- e1,<- e3,<- e4]⟩
  | @trans l1 l2 l3 _ _ ih1 ih2=>
    intro T e
    obtain ⟨T2,p2,e2⟩:=ih2 e
    obtain ⟨T1,p1,e1⟩:=ih1 e2
    exact ⟨T1,p1.trans p2,e1⟩
end
mutual
theorem QfJ:∀ (d:PyData),cmpK d d=true->okK d=true
  | .int _,_=>rfl
  | .tuple ds,h=>Qgy ds h
  | .none,h=>by cases h
  | .bool _,h=>by cases h
  | .str _,h=>by cases h
  | .list _,h=>by cases h
  | .dict _,h=>by cases h
theorem Qgy:∀ (ds:List PyData),Qch ds ds=true->okKs ds=true
  | [],_=>rfl
  | d::ds,h=>by
    have h:=Bool.and_eq_true_iff.mp (show (cmpK d d&&Qch ds ds)=true from h)
    show (okK d&&okKs ds)=true
    rw [QfJ d h.1,Qgy ds h.2];rfl
end
mutual
theorem Qcs:∀ (d:PyData),okK d=true->d.canLay0=true
  | .int _,_=>rfl
  | .tuple ds,h=>Qgh ds h
  | .none,h=>by cases h
  | .bool _,h=>by cases h
  | .str _,h=>by cases h
  | .list _,h=>by cases h
  | .dict _,h=>by cases h
theorem Qgh:∀ (ds:List PyData),okKs ds=true->PyData.canLayAll0 ds=true
  | [],_=>rfl
  | d::ds,h=>by
    have h:=Bool.and_eq_true_iff.mp (show (okK d&&okKs ds)=true from h)
    simp only [PyData.canLayAll0,Qcs d h.1,Qgh ds h.2,Bool.and_self]
end
structure Sortable (ds:List PyData):Prop where
  cmp:∀ x∈ds,∀ y∈ds,cmpK x y=true
  dep:∀ x∈ds,x.depth<=20
end Rt
namespace L2
open PySem PySem.Spec PySem.Calls PyProof.Rows _root_.Rd _root_.Rk _root_.Rs Rt Dl
structure Trp where
  x:V
  v:Value
  d:PyData
theorem trips {H:Hp}:∀ {xs:List V} {ds:List PyData} {vs:List Value},Dats H xs ds->Vals xs vs->∃ T:List Trp,xs=T.map (·.x)/\vs=T.map (·.v)/\ds=T.map (·.d)/\∀ t∈T,Dat H t.x t.d/\RelV t.x t.v
  | _,_,_,.nil,.nil=>⟨[],rfl,rfl,rfl,fun _ h=>nomatch h⟩
  | _,_,_,.cons q qs,.cons r rs=>by
    obtain ⟨T,e1,e2,e3,h⟩:=trips qs rs
    refine ⟨⟨_,_,_⟩::T,by rw [e1];rfl,by rw [e2];rfl,by rw [e3];rfl,fun t ht=>?_⟩
    rcases List.mem_cons.mp ht with z | z
    · rw [z];exact ⟨q,r⟩
    · exact h t z
theorem QkY {H:Hp}:∀ {T:List Trp},(∀ t∈T,Dat H t.x t.d/\RelV t.x t.v)->Dats H (T.map (·.x)) (T.map (·.d))/\Vals (T.map (·.x)) (T.map (·.v))
  | [],_=>⟨.nil,.nil⟩
  | t::T,h=>by
    obtain ⟨a,b⟩:=QkY (T:=T) fun t ht=>h t (.tail _ ht)
    exact ⟨.cons (h t (.head _)).1 a,.cons (h t (.head _)).2 b⟩
def QhF:List V->Hp->VK->Prop:=fun xs H Q=>∃ (l:Addr) (vs:List V) (ds:List PyData),xs=[.ref l]/\(H l=some (.lst vs)∨H l=some (.tup vs))/\Dats H vs ds/\Sortable ds /\
  ∀ (t:Addr) (ys:List V) (es:List PyData) (H2:Hp),Same H H2->H t=none->H2 t=some (.lst ys)->Dats H2 ys es->es.Perm ds->es.Pairwise (fun a b=>ltD b a=false)->(∀ y∈ys,y∈vs)->Q (.ref t) H2
section
variable {X:Cx}
theorem Qg7 (hu:X.A.units+60<cLine):CallR X (.builtin "sorted") QhF:=by
  intro pins s σ H xs us Q I r h
  obtain ⟨l,vs,ds,rfl,hl,dts,so,q⟩:=h
  obtain ⟨u,rfl,ru⟩:=QdK r
  cases ru
  have hu2:X.A.in1.in1.units+2*20+4<cLine:=by show X.A.units+1+1+2*20+4<cLine;omega
  obtain ⟨T,o,its,n,hT,ho,hc,hd,rv,hz⟩:∃ (T:String) (o:Obj) (its:List Value) (n:Nat),(T = "list" ∨ T = "tuple")/\s.heap.get? l=some o/\o.cls=.type T/\o.data=.seq its.toArray n/\Vals vs its/\vs.length<=sizeLine:=by
    rcases hl with hl | hl
    · obtain ⟨hz,its,n,rv,ho⟩:=I.hok l _ hl
      exact ⟨"list",_,its,n,.inl rfl,ho,rfl,rfl,rv,hz⟩
    · obtain ⟨hz,its,rv,o,ho,hc,n,hd⟩:=I.hok l _ hl
      exact ⟨"tuple",o,its,n,.inr rfl,ho,hc,hd,rv,hz⟩
  have li:=rv.length
  obtain ⟨⟨as,ra⟩,cl⟩:=Qbc I.hok ds vs its dts rv
  have okds:okKs ds=true:=Qft fun d hd=>QfJ d (so.cmp d hd d hd)
  refine QdQ hT ho hc hd (by omega) fun h' kp P E' hP=>?_
  have ra':=Qa9 kp ds its as okds ra
  let c:Keyed->Keyed->Bool:=fun x y=>ltD (rdV h' x.1) (rdV h' y.1)
  have oc:Ord c:=⟨fun x y=>Qgm _ _,fun x y z=>ltD_nt _ _ _⟩
  refine Qea (s:={ s with heap:=h'.push (seqObj "list" its.toArray 0) }) (c:=c) (Heap.get?_push_size _ rfl) (by omega) oc (fun h2 k2 Q' E' hq=>?_) fun arr pm sg h2 e k2 e2=>hP _ ?_
  · have kk:∀ b x,h'.get? b=some x->h2.get? b=some x:=fun b x e=>k2 b x (Nat.ne_of_lt (Heap.lt_size e)) (Heap.get?_push_of_some _ e)
    have ra2:=Qa9 kk ds its as okds ra'
    have asks:∀ κ,QkX ds κ->(∀ b,κ=tuples' b->∀ d∈ds,∃ es,d=.tuple es)->Asks X.prog X.w X.A.in1.in1 { s with heap:=h2 } κ (prs its) c:=fun κ su tb=>by
      refine ⟨oc,fun x y hx hy C E'' hC=>?_⟩
      rw [QcN] at hx hy
      obtain ⟨ex,hx⟩:=Qb4 hx
      obtain ⟨ey,hy⟩:=Qb4 hy
      obtain ⟨d1,m1,b1,r1⟩:=QaD ra2 x.2 hx
      obtain ⟨d2,m2,b2,r2⟩:=QaD ra2 y.2 hy
      obtain ⟨d1',m1',b1',r1'⟩:=QaD ra' x.2 hx
      obtain ⟨d2',m2',b2',r2'⟩:=QaD ra' y.2 hy
      have k1:=QaM okds d1 m1
      have k2:=QaM okds d2 m2
      have c1:=Qcs d1 k1
      have c2:=Qcs d2 k2
      have c1':=Qcs d1' (QaM okds d1' m1')
      have c2':=Qcs d2' (QaM okds d2' m2')
      have q1:d1'=d1:=SeqAt.Reads.unique d1' d1 x.2 _ _ c1' (Qco kk d1' _ _ (QaM okds d1' m1') r1') r1
      have q2:d2'=d2:=SeqAt.Reads.unique d2' d2 y.2 _ _ c2' (Qco kk d2' _ _ (QaM okds d2' m2') r2') r2
      subst q1 q2
      have hC:C (ltD (rdV h' x.1) (rdV h' y.1)) { s with heap:=h2 }:=hC
      rw [ex,ey,QhC r1' c1',QhC r2' c2'] at hC
      rw [ex,ey]
      exact key_lt (N:=20) su m1 r1 r2 c1 c2 (so.cmp _ m1 _ m2) (fun b e=>tb b e _ m1) (so.dep _ m1) hu2 hC
    cases ds with
    | nil=>
      cases ra2
      exact Qgp (s:={ s with heap:=h2 }) .nil rfl (fun d hd=>nomatch hd) fun κ su=>hq κ (asks κ su fun b _ d hd=>nomatch hd)
    | cons d0 ds0=>
      have sh:(∀ d∈d0::ds0,∃ es,d=.tuple es)∨∀ d∈d0::ds0,∃ i,d=.int i:=by
        cases d0 with
        | int i=>exact .inr fun d hd=>by have:=so.cmp _ (.head _) d hd;cases d<;>first | exact ⟨_,rfl⟩ | (cases this;done)
        | tuple es=>exact .inl fun d hd=>by have:=so.cmp _ (.head _) d hd;cases d<;>first | exact ⟨_,rfl⟩ | (cases this;done)
        | _=>have:=so.cmp _ (.head _) _ (.head _);cases this
      rcases sh with sh | sh
      · exact Qgp (s:={ s with heap:=h2 }) ra2 okds sh fun κ su=>hq κ (asks κ su fun b _=>sh)
      · have one:QkX (d0::ds0) oneType':=.inr (.inl rfl)
        by_cases l2:its.length<2
        · have hk1:∀ v∈its,∀ (Q'':Option Value->Shared->Prop),Q'' none { s with heap:=h2 }->wpAny (model X.prog X.w) X.A.in1.in1 (firstOfTuple' v) Q'' E' { s with heap:=h2 }:=fun v hv Q'' q''=>by
            obtain ⟨d,hd,bs,r⟩:=QaD ra2 v hv
            obtain ⟨i,rfl⟩:=sh d hd
            cases r
            exact wpAny_pure q''
          have hk2:∀ v∈its,∀ (Q'':Value->Shared->Prop),Q'' (Rt.tyV h2 v) { s with heap:=h2 }->wpAny (model X.prog X.w) X.A.in1.in1 (typeOf v) Q'' E' { s with heap:=h2 }:=fun v hv Q'' q''=>by
            obtain ⟨d,hd,bs,r⟩:=QaD ra2 v hv
            exact Qfg (s:={ s with heap:=h2 }) r (QaM okds d hd) q''
          rw [keyKind'_eq,List.mapM_toArray,map_eq_pure_bind]
          refine wpAny_bind (wpAny_bind (QdB (g:=fun _=>(none:Option Value)) its hk1 (wpAny_pure ?_)))
          cases its with
          | nil=>cases ra2
          | cons v0 vs0=>
            rw [if_neg (by simp)]
            rw [if_neg (by simp)]
            rw [oneTypeOnly'_eq,List.mapM_toArray,map_eq_pure_bind]
            refine wpAny_bind (wpAny_bind (wpAny_bind (QdB (g:=Rt.tyV h2) _ hk2 (wpAny_pure ?_))))
            have fin:∀ b:Bool,wpAny (model X.prog X.w) X.A.in1.in1 (pure (if b=true then oneType' else general')) Q' E' { s with heap:=h2 }:=fun b=>by
              have ni:∀ {κ:SortKind},(∀ b',κ≠tuples' b')->∀ b',κ=tuples' b'->∀ d∈d0::ds0,∃ es,d=PyData.tuple es:=fun h b' e=>(h b' e).elim
              cases b
              · exact wpAny_pure (hq _ (asks _ (.inl rfl) (ni fun b' e=>by cases e)))
              · exact wpAny_pure (hq _ (asks _ (.inr (.inl rfl)) (ni fun b' e=>by cases e)))
            split
            · exact wpAny_pure (fin _)
            · exact wpAny_pure (fin _)
        · have ia:∀ {vs:List Value} {ds:List PyData} {as:List Addr},ReadsAll h2 vs ds as->(∀ d∈ds,∃ i,d=PyData.int i)->∃ ns,IntsAre vs ns:=by
            intro vs ds as ra hs
            induction vs generalizing ds as with
            | nil=>exact ⟨[],.nil⟩
            | cons v vs ih=>
              cases ra with
              | cons r rs=>
                obtain ⟨i,rfl⟩:=hs _ (.head _)
                obtain ⟨ns,hn⟩:=ih rs fun d hd=>hs d (.tail _ hd)
                cases r
                exact ⟨i::ns,.cons _ _ hn⟩
          obtain ⟨ns,hn⟩:=ia ra2 sh
          match its,hn,l2 with
          | v1::v2::vs',hn,_=>
            rw [keyKind_ints hn]
            exact wpAny_pure (hq _ (asks _ one fun b e=>by cases e))
          | [_],_,l2=>exact absurd (Nat.lt_succ_self 1) l2
          | [],_,l2=>exact absurd (Nat.zero_lt_two) l2
  · have I1:Inv X pins σ H { s with heap:=h' }:=I.kept (t':=s.toks) kp
    have hf:H h'.objs.size=none:=I1.hok.fresh (Nat.le_refl _)
    have pv:(arr.toList.map (·.2)).Perm its:=by
      have:=(Array.perm_iff_toList_perm.mp pm).map (·.2)
      rwa [Ql5] at this
    obtain ⟨Tr,t1,t2,t3,th⟩:=trips dts rv
    obtain ⟨Tr',p',e'⟩:=QcF Trp.v (l:=arr.toList.map (·.2)) (by rw [<- t2];exact pv) (T:=Tr) rfl
    have th':∀ t∈Tr',Dat H t.x t.d/\RelV t.x t.v:=fun t ht=>th t (p'.mem_iff.mp ht)
    obtain ⟨dts',rv'⟩:=QkY th'
    have ll:(Tr'.map (·.x)).length<=sizeLine:=by
      have:=p'.length_eq
      rw [List.length_map,this,<- List.length_map (f:=Trp.x),<- t1]
      exact hz
    have I2:Inv X pins σ (upd H h'.objs.size (.lst (Tr'.map (·.x)))) { s with heap:=h2 }:=
      I1.laid (t':=s.toks) (fun b x e'=>k2 b x (Nat.ne_of_lt (Heap.lt_size e')) (Heap.get?_push_of_some _ e')) (Nat.le_refl _) (show ObjOk X.prog X.w _ _ _ (.lst _) from ⟨ll,_,e,by rw [e'];exact rv',e2⟩)
    refine ⟨.ref h'.objs.size,_,I2,rfl,q _ _ (Tr'.map (·.d)) _ (Qad hf) hf Qaf (dts'.same (Qad hf)) (by rw [t3];exact p'.map _) ?_ fun y hy=>?_⟩
    · -- in order
      have len:arr.toList.length=Tr'.length:=by have:=congrArg List.length e';rwa [List.length_map,List.length_map] at this
      rw [List.pairwise_iff_getElem]
      intro i j hi hj hij
      rw [List.length_map] at hi hj
      rw [List.getElem_map,List.getElem_map]
      have ka:∀ (k:Nat) (hk:k<Tr'.length),rdV h' (kx arr k).1=Tr'[k].d:=fun k hk=>by
        have hk':k<arr.size:=by rw [<- Array.length_toList,len];exact hk
        have m:=memL hk'
        have m2:=(Array.perm_iff_toList_perm.mp pm).mem_iff.mp m
        rw [QcN] at m2
        have e3:=(Qb4 m2).1
        have e4:(kx arr k).2=Tr'[k].v:=by
          have h5:(arr.toList.map (·.2))[k]? = some (kx arr k).2:=by rw [List.getElem?_map,Qbi hk'];rfl
          rw [e',List.getElem?_map,List.getElem?_eq_getElem hk] at h5
          exact (Option.some.inj h5).symm
        rw [e3,e4]
        obtain ⟨dt,rv0⟩:=th' _ (List.getElem_mem hk)
        obtain ⟨⟨bs,rr⟩,cc⟩:=Qbq I1.hok _ _ _ dt rv0
        exact QhC rr cc
      have g:ltD (rdV h' (kx arr j).1) (rdV h' (kx arr i).1)=false:=sg i j (Nat.zero_le _) (by omega) (by rw [<- Array.length_toList,len];exact hj)
      rw [ka i hi,ka j hj] at g
      exact g
    · obtain ⟨t,ht,rfl⟩:=List.mem_map.mp hy
      rw [t1]
      exact List.mem_map.mpr ⟨t,p'.mem_iff.mp ht,rfl⟩
end
end L2
namespace Dl
open PySem PySem.Spec PyProof.Rows L2 _root_.Rd Rk Rt
theorem das_at {A:Addr->Prop} {H:Hp} {xs:List V} {ds:List PyData} (q:DAs A H xs ds) {v:V} (hv:v∈xs):∃ d∈ds,DA A H v d:=by
  obtain ⟨i,hi⟩:=List.mem_iff_getElem?.mp hv
  obtain ⟨d,hd,h⟩:=q.getV i v hi
  exact ⟨d,List.mem_of_getElem? hd,h⟩
theorem QeW {A:Addr->Prop} {H:Hp}:∀ {ys:List V} {es:List PyData},Dats H ys es->(∀ y∈ys,∃ d,DA A H y d/\nd d=true/\d.canLay0=true/\Dat H y d)->(∀ y d e,y∈ys->Dat H y d->Dat H y e->d=e)->DAs A H ys es
  | _,_,.nil,_,_=>.nil
  | _,_,.cons (x:=x) (d:=d) q qs,h,u=>by
    obtain ⟨d',h1,_,_,h4⟩:=h x (.head _)
    have:d=d':=u x d d' (.head _) q h4
    subst this
    exact .cons h1 (QeW qs (fun y hy=>h y (.tail _ hy)) fun y d e hy=>u y d e (.tail _ hy))
mutual
theorem Qgv {H:Hp}:∀ (d e:PyData) (x:V),Dat H x d->Dat H x e->d=e
  | .none,e,_,.non,h=>by cases h;rfl
  | .bool _,e,_,.bl _,h=>by cases h;rfl
  | .int _,e,_,.int _,h=>by cases h;rfl
  | .str _,e,_,.str _ _,h=>by cases h;rfl
  | .tuple ds,e,_,.tup (xs:=xs) e1 q,h=>by
    cases h with
    | @tup a ys es e2 q'=>
      rw [e1] at e2
      cases e2
      rw [Qdj ds es xs q q']
    | @lst a ys es e2 q'=>rw [e1] at e2;cases e2
  | .list ds,e,_,.lst (xs:=xs) e1 q,h=>by
    cases h with
    | @tup a ys es e2 q'=>rw [e1] at e2;cases e2
    | @lst a ys es e2 q'=>
      rw [e1] at e2
      cases e2
      rw [Qdj ds es xs q q']
  | .dict _,_,_,q,_=>nomatch q
theorem Qdj {H:Hp}:∀ (ds es:List PyData) (xs:List V),Dats H xs ds->Dats H xs es->ds=es
  | [],es,_,.nil,h=>by cases h;rfl
  | d::ds,es,_,.cons q qs,h=>by
    cases h with
    | @cons x xs e es q' qs'=>rw [Qgv d e _ q q',Qdj ds es _ qs qs']
end
mutual
theorem Qiq:∀ (d:PyData),okK d=true->nd d=true
  | .int _,_=>rfl
  | .tuple ds,h=>Qfu ds h
  | .none,h=>by cases h
  | .bool _,h=>by cases h
  | .str _,h=>by cases h
  | .list _,h=>by cases h
  | .dict _,h=>by cases h
theorem Qfu:∀ (ds:List PyData),okKs ds=true->nds ds=true
  | [],_=>rfl
  | d::ds,h=>by
    have h:=Bool.and_eq_true_iff.mp (show (okK d&&okKs ds)=true from h)
    show (nd d&&nds ds)=true
    rw [Qiq d h.1,Qfu ds h.2];rfl
end
@[irreducible] def QeA:List PyData->(PyData->Prop)->Prop
  | [.list ds],Q=>Sortable ds/\∀ es:List PyData,es.Perm ds->es.Pairwise (fun a b=>ltD b a=false)->Q (.list es)
  | [.tuple ds],Q=>Sortable ds/\∀ es:List PyData,es.Perm ds->es.Pairwise (fun a b=>ltD b a=false)->Q (.list es)
  | _,_=>False
theorem Qjx {ds:List PyData} {Q:PyData->Prop} (h:Sortable ds) (k:∀ es:List PyData,es.Perm ds->es.Pairwise (fun a b=>ltD b a=false)->Q (.list es)):QeA [.list ds] Q/\QeA [.tuple ds] Q:=by
  unfold QeA
  exact ⟨⟨h,k⟩,h,k⟩
theorem QkR:QcB QhF QeA:=fun A P H vs ds R Q ln dm q h k=>by
  have go:∀ (l:Addr) (xs:List V) (ds:List PyData),(H l=some (.lst xs)∨H l=some (.tup xs))->DAs A H xs ds->Sortable ds->(∀ es:List PyData,es.Perm ds->es.Pairwise (fun a b=>ltD b a=false)->R (.list es))->QhF [.ref l] H Q:=fun l xs ds hl qq so hR=>by
    have okds:okKs ds=true:=Qft fun d hd=>QfJ d (so.cmp d hd d hd)
    refine ⟨l,xs,ds,rfl,hl,Qby _ _ (Qfu ds okds) qq,so,fun t ys es H2 s n e2 dts pm pw sub=>?_⟩
    have dm2:∀ a,A a->∃ xs,H2 a=some (.lst xs):=fun a z=>by obtain ⟨xs,e⟩:=dm a z;exact ⟨xs,s _ _ e⟩
    refine k _ (hR es pm pw) _ H2 s (.lst (fun z=>?_) e2 (QeW dts (fun y hy=>?_) fun y d e _=>Qgv d e y)) (Qbx n)
    · obtain ⟨xs,e⟩:=dm t z
      rw [n] at e;cases e
    · obtain ⟨d,hd,da⟩:=das_at qq (sub y hy)
      have ok:=QaM okds d hd
      exact ⟨d,da.same s,Qiq d ok,Qcs d ok,QeX d y (Qiq d ok) (da.same s)⟩
  unfold QeA at h
  split at h
  · obtain ⟨v,rfl,hv⟩:=pd1 q
    obtain ⟨l,xs,rfl,e,qq⟩:=hv.list
    exact go l xs _ (.inl e) qq h.1 h.2
  · obtain ⟨v,rfl,hv⟩:=pd1 q
    obtain ⟨l,xs,rfl,e,qq⟩:=hv.tuple
    exact go l xs _ (.inr e) qq h.1 h.2
  · exact h.elim
end Dl
namespace L2
open PySem PySem.Spec PySem.Calls PyProof.Rows _root_.Rd _root_.Rk Rt
section
variable {X:Cx}
end
end L2
namespace Dl
open PySem PySem.Spec PyProof.Rows L2 _root_.Rd Rk Rt
theorem any_map {α:Type} (l:List α) (g:α->Bool):(l.map g).any id=l.any g:=by rw [List.any_map];rfl
section
variable {X:Cx} {E:XK}
end
end Dl
namespace Rk
open PySem PySem.Spec PyProof.Rows L2 _root_.Rd Dl
def inW (d:PyData) (a b:Int):Bool:=match d with
  | .int i=>decide (a<=i)&&decide (i<=b)
  | _=>false
theorem inW_t {i a b:Int} (h1:a<=i) (h2:i<=b):inW (.int i) a b=true:=by
  show (decide (a<=i)&&decide (i<=b))=true
  rw [decide_eq_true h1,decide_eq_true h2];rfl
theorem inW_e {d:PyData} {a b:Int} (h:inW d a b=true):∃ i,d=.int i/\a<=i/\i<=b:=by
  cases d<;>first | (cases h;done) | skip
  rename_i i
  have h:=Bool.and_eq_true_iff.mp (show (decide (a<=i)&&decide (i<=b))=true from h)
  exact ⟨i,rfl,of_decide_eq_true h.1,of_decide_eq_true h.2⟩
def Qfe:DF:=fun args R _=>∃ d a b,args=[.v d,.v (.int a),.v (.int b)]/\R (.bool (inW d a b))
theorem Qgk (ns:List Int):nds (ns.map PyData.int)=true:=Qd5.mpr fun d hd=>by
  obtain ⟨i,_,rfl⟩:=List.mem_map.mp hd
  rfl
theorem QkO (xs:List PyData) (k:Int) (h:0<=k):Dl.cutD xs none (some k)=xs.take k.toNat:=by
  unfold Dl.cutD
  obtain ⟨j,rfl⟩:∃ j:Nat,k=j:=⟨k.toNat,by omega⟩
  rw [HT.sIx_none,HT.sIx_nat,List.drop_zero,Nat.sub_zero,Int.toNat_natCast]
  by_cases z:j<=xs.length
  · rw [Nat.min_eq_left z]
  · rw [Nat.min_eq_right (by omega),List.take_length,List.take_of_length_le (by omega)]
end Rk
namespace Rx
open PySem PySem.Spec PySem.Calls PyProof.Rows L2
section
variable {X:Cx} {e:Expr} {st:Stmt} {rest:List Stmt} {pos:Pos} {te:TX} {t u:TSX}
theorem psx_ret (he:PEX X e te):PSX X (.Return (some e) pos) (fun D σ H Ex=>te σ H D.rt Ex):=by
  intro pins s σ H D Ex I h
  exact wpAny_Return_some (thn (he pins s σ H _ _ I h) fun v s1 ⟨x,H1,I1,r1,q1⟩=>⟨x,σ,H1,I1,r1,q1⟩)
end
end Rx
namespace L2
open PySem PySem.Spec PyProof.Rows Dl
end L2
namespace Dl
open PySem PySem.Spec PyProof.Rows L2 _root_.Rd Rk
def tXx (m:Md) (K:PySem.W.Frag) (w:DE):Rx.TX:=fun σ H Q Ex=>∃ (F:Fm) (δ:Sts) (R:PyData->Prop) (EX:XP),Rel K F σ H δ/\w δ R EX/\(∀ d,R d->∀ v H',Rel K F σ H' δ->Kp σ δ H H'->Vok m F σ δ H H' v d->Q v H')/\∀ C,EX C->∀ H',Rel K F σ H' δ->Kp σ δ H H'->Ex C H'
structure EndsX (K:PySem.W.Frag) (F:Fm) (σ:L2.St) (H:Hp) (δ:Sts) (DD:DEnds) (D:L2.Ends) (Ex:Addr->Hp->Prop):Prop where
  nx:∀ δ',DD.nx δ'->δ'=δ/\∀ H',Rel K F σ H' δ->Kp σ δ H H'->D.nx σ H'
  rt:∀ d,DD.rt d->∀ v H',Ke F H'->DA F.A0 H' v d->D.rt v H'
  rtF:∀ d,DD.rtF d->∀ v H',Ke F H'->DA F.A0 H' v d->FrV F.H0 H' v->D.rt v H'
  ex:∀ C,DD.ex C->∀ H',Rel K F σ H' δ->Kp σ δ H H'->Ex C H'
def tSx (K:PySem.W.Frag) (w:DS):Rx.TSX:=fun D σ H Ex=>∃ (F:Fm) (δ:Sts) (DD:DEnds),Rel K F σ H δ/\w DD δ/\EndsX K F σ H δ DD D Ex
structure QX (m:Md) (X:Cx) (e:Expr) (w:DE):Prop where h:Rx.PEX X e (tXx m X.K w)
structure QSX (X:Cx) (st:Stmt) (w:DS):Prop where h:Rx.PSX X st (tSx X.K w)
structure QSXs (X:Cx) (sts:List Stmt) (w:DS):Prop where h:Rx.PSXs X sts (tSx X.K w)
theorem EndsX.step {K:PySem.W.Frag} {F:Fm} {σ:L2.St} {H H1:Hp} {δ:Sts} {DD:DEnds} {D:L2.Ends} {Ex:Addr->Hp->Prop} (h:EndsX K F σ H δ DD D Ex) (k:Kp σ δ H H1):EndsX K F σ H1 δ DD D Ex:=
  ⟨fun δ' h'=>⟨(h.nx δ' h').1,fun H' r k'=>(h.nx δ' h').2 H' r (k.trans k')⟩,h.rt,h.rtF,fun C hC H' r k'=>h.ex C hC H' r (k.trans k')⟩
section
variable {X:Cx}
theorem PEX.imp {e:Expr} {t t':Rx.TX} (h:Rx.PEX X e t) (i:∀ σ H Q Ex,t' σ H Q Ex->t σ H Q Ex):Rx.PEX X e t':=fun pins s σ H Q Ex I q=>h pins s σ H Q Ex I (i σ H Q Ex q)
theorem PSX.imp {e:Stmt} {t t':Rx.TSX} (h:Rx.PSX X e t) (i:∀ D σ H Ex,t' D σ H Ex->t D σ H Ex):Rx.PSX X e t':=fun pins s σ H D Ex I q=>h pins s σ H D Ex I (i D σ H Ex q)
theorem PSXs.imp {e:List Stmt} {t t':Rx.TSX} (h:Rx.PSXs X e t) (i:∀ D σ H Ex,t' D σ H Ex->t D σ H Ex):Rx.PSXs X e t':=fun pins s σ H D Ex I q=>h pins s σ H D Ex I (i D σ H Ex q)
def dCallX (f:DF) (wa:DSl):DE:=fun δ Q EX=>wa δ (fun args=>f args Q EX) XF
variable {k:Nat} {f:Addr} {fd:FuncData} {ps:List Str} {x:Str} {p pos:Pos} {e:Expr} {es:List Expr} {fD:DF} {wa:DSl}
theorem Qi7 {m:Md} {fr:Bool} {K:PySem.W.Frag} {F:Fm} {σ:L2.St} {δ:Sts} {H H1:Hp} {R:PyData->Prop} {EX:XP} {Q:VK} {Ex:Addr->Hp->Prop} {vs:List V} {args:List Sl} (hm:∀ {v:V} {d:PyData} {H':Hp},DA (Av F σ δ) H' v d->(fr=true->FrV H H' v)->Vok m F σ δ H H' v d)
    (k:∀ d,R d->∀ v H',Rel K F σ H' δ->Kp σ δ H H'->Vok m F σ δ H H' v d->Q v H') (kx:∀ C,EX C->∀ H',Rel K F σ H' δ->Kp σ δ H H'->Ex C H') (rel1:Rel K F σ H1 δ) (kp1:Kp σ δ H H1) (q:Paired (Qe9 (Av F σ δ) (PotA σ δ) H1) vs args) (ha:fD args R EX) :
    toSp fr fD vs H1 Q fun cv _ H2=>∃ C,cv=.ref C/\Ex C H2:=by
  refine ⟨Av F σ δ,PotA σ δ,args,R,EX,fun a ha=>rel1.isl ha,fun p hp=>⟨QaY hp,(Kp.refl rel1).2 p hp⟩,q,ha,fun d hd v H' kq dv fr=>?_,fun C hC H' kq=>⟨C,rfl,kx C hC H' (rel1.kp kq) (kp1.trans kq)⟩⟩
  exact k d hd v H' (rel1.kp kq) (kp1.trans kq) (hm dv fun z l e1 e2=>Qbw kp1 (fr z l e1 e2))
theorem QlE (G:FnOk X.prog X.w X.K X.mg X.base (Rx.CXE X.prog X.w) k f fd ps (toSp true fD)) (hr:Room k X.A) (hg:Gl X x) (hm:X.mg x=some (.ref f)) (hk:PySem.W.keepIn X.K (.ref f)=true) (hb:Binds X.K fd ps []) (ha:QAs X.nox E0 (e::es) wa) (hex:X.ex=[]:=by rfl)
    (hdb:(x == ("__debug__" : Str))=false:=by decide) (he:starEach (e::es) X.env=(false,eval e X.env)::starEach es X.env:=by rfl) (hpl:(backTo pos (starEach es X.env)).any (·.1)=false:=by rfl) :
    QX .F X (.Call (.Name x p) (e::es) [] pos) (dCallX fD wa):=by
  refine ⟨PEX.imp (Rx.pex_call G hr hg hm hk hb hex ha.h hdb he hpl) fun σ H Q Ex ⟨F,δ,R,EX,rel,hw,k,kx⟩=>?_⟩
  exact ⟨F,δ,_,XF,rel,hw,fun args ha vs H1 rel1 kp1 q=>Qi7 (m:=.F) (fun h z=>⟨h,z rfl⟩) k kx rel1 kp1 q ha,outF⟩
theorem QlK {w:DE} (h:QX .F X e w):QSX X (.Return (some e) pos) (Qnj w):=by
  refine ⟨PSX.imp (Rx.psx_ret h.h) fun D σ H Ex ⟨F,δ,DD,rel,hw,en⟩=>?_⟩
  exact ⟨F,δ,_,DD.ex,rel,hw,fun d hd v H' r' kp vk=>en.rtF d hd v H' r'.ke (QkN vk.1) fun l e1 e2=>QeT rel (vk.2 l e1 e2),en.ex⟩
theorem QlJ {st:Stmt} {w:DS} (h:QSX X st w):QSXs X [st] w:=⟨Rx.psxs_one h.h⟩
def dTry (ks:Addr->Str->Prop) (w:DS):DS:=fun D δ=>w { D with nx:=fun δ'=>δ'=δ/\D.nx δ,ex:=fun C=>∃ wd,ks C wd/\PyData.canLay0 (.str wd)=true/\D.rt (.str wd) } δ
structure QH (X:Cx) (i:Nat) (hx:Expr) (sp:Sp):Prop where h:∀ e,PE (Rx.mkd X e) hx (fun σ H Q=>(QcI (tVar i) tNil) σ H fun vs H1=>sp vs H1 Q E0)
theorem QlY {i:Nat} {sp:Sp} {y:Str} {pos2:Pos} (G:Rx.FnM X.prog X.w X.K X.mg X.base 1 f fd ps sp) (hr:Room 1 X.A) (hm:X.mg x=some (.ref f)) (hk:PySem.W.keepIn X.K (.ref f)=true) (hb:Binds X.K fd ps []) (hg:Gl X x:=by rfl) (hN:X.N[i]? = some y:=by rfl) (hv:Vis X.env.scope y:=by first | exact Or.inl rfl | exact Or.inr (Or.inl rfl) | exact Or.inr (Or.inr rfl)) (hd:(y == ("__debug__" : Str))=false:=by decide) (hcd:(y == ("__classdict__" : Str))=false:=by decide) (hdb:(x == ("__debug__" : Str))=false:=by decide) :
    QH X i (.Call (.Name x p) [.Name y pos2] [] pos) sp:=⟨fun e=>Rx.pe_callM (X:=Rx.mkd X e) G (Rx.Room.m hr e) hg hm hk hb (pa_c (X:=Rx.mkd X e) (pv (X:=Rx.mkd X e) i hN hv hd hcd) Qaq rfl) hdb rfl rfl⟩
theorem qs_try {E:XK} {R:Addr} {i:Nat} {n r:Str} {body:List Stmt} {hx:Expr} {w:DS} {ks:Addr->Str->Prop} {sp:Sp} {np hp hpos pos:Pos} (hb:QSXs X body w) (hN:X.N.Nodup) (hm:X.mg r=some (.ref R)) (hh:QH X i hx sp)
    (hk:∀ {C:Addr} {wd:Str},ks C wd->∀ {H1:Hp} {Q:VK} {σ:L2.St},i < σ.length->(∀ H',Same H1 H'->Q (.str wd) H')->Rx.ByC X.K C R/\∀ a,H1 a=none->(QcI (tVar i) tNil) (σ.set i (some (.ref a))) (upd H1 a (Rx.exO a C)) fun vs H2=>sp vs H2 Q E0)
    (hstk:X.stack=X.env::X.outer:=by rfl) (hfr:X.env.frame=some X.env.locals:=by rfl) (hi:X.N[i]? = some n:=by rfl) (hl:X.env.scope.names.lookup n=some .local:=by rfl) (hg:Gl X r:=by rfl) (hd:(r == ("__debug__" : Str))=false:=by decide) :
    QS X E (.Try body [.ExceptHandler (some (.Name r np)) (some n) [.Return (some hx) hp] hpos] [] [] pos) (dTry ks w):=by
  refine ⟨fun pins s σ H D I ⟨F,δ,DD,rel,hw,en⟩=>Rx.ps_tryS hstk hfr hb.h hN hi hl hg hm hh.h hd pins s σ H D I ?_⟩
  have hlen:i < σ.length:=by rw [I.len];exact (List.getElem?_eq_some_iff.mp hi).1
  refine ⟨F,δ,_,rel,hw,fun δ' ⟨e1,h1⟩=>⟨e1,fun H' r' kp=>en.nx.go δ h1 σ H' r' (Stp.kp kp)⟩,en.rt,en.rtF,fun C ⟨wd,hks,cl,hr⟩ H' r' kp=>?_⟩
  exact hk hks hlen fun H2 s2=>en.rt _ hr _ H2 (r'.same s2).ke (.str wd cl)
end
end Dl
namespace Rk
open PySem PySem.Spec PyProof.Rows L2 _root_.Rd Dl Rt
def riseD:List PyData->Bool
  | x::y::r=>ltD x y&&riseD (y::r)
  | _=>true
def ltP2:PyData->Bool
  | .tuple [a,b]=>ltD a b
  | _=>false
def isPl (h w:Int):PyData->Bool
  | .tuple [a,b]=>inW a 0 (h - 1)&&inW b 0 (w - 1)
  | _=>false
def toP:PyData->Int×Int
  | .tuple [.int a,.int b]=>(a,b)
  | _=>(0,0)
theorem Qib (L:List (Int×Int)):(L.map pairD).map toP=L:=by
  rw [List.map_map]
  conv=>rhs;rw [<- List.map_id L]
  rfl
theorem QfG (p:Int×Int):(pairD p).depth<=1:=by
  show PyData.depthAll [.int p.1,.int p.2]+1<=1
  simp [PyData.depthAll,PyData.depth]
theorem Qdi {n:Nat}:∀ {ds:List PyData},(∀ d∈ds,d.depth<=n)->PyData.depthAll ds<=n
  | [],_=>Nat.zero_le _
  | d::ds,h=>by
    show max d.depth (PyData.depthAll ds)<=n
    exact Nat.max_le.mpr ⟨h d (.head _),Qdi fun d hd=>h d (.tail _ hd)⟩
theorem Qdl:∀ (L M:List (Int×Int)),Qch (L.map pairD) (M.map pairD)=true
  | [],[]=>rfl
  | [],_::_=>rfl
  | _::_,[]=>rfl
  | _::L,_::M=>by show (true&&Qch (L.map pairD) (M.map pairD))=true;rw [Qdl L M];rfl
theorem QfF (L:List (Int×Int)):(PyData.tuple (L.map pairD)).depth<=2:=by
  show PyData.depthAll (L.map pairD)+1<=2
  have:=Qdi (n:=1) (ds:=L.map pairD) fun d hd=>by obtain ⟨p,_,rfl⟩:=List.mem_map.mp hd;exact QfG p
  omega
def stT (L:List (Int×Int)):PyData:=.tuple (L.map pairD)
theorem Qc0 (Ls:List (List (Int×Int))):Sortable (Ls.map stT):=⟨fun x hx y hy=>by
  obtain ⟨L,_,rfl⟩:=List.mem_map.mp hx
  obtain ⟨M,_,rfl⟩:=List.mem_map.mp hy
  exact Qdl L M,fun x hx=>by
  obtain ⟨L,_,rfl⟩:=List.mem_map.mp hx
  exact Nat.le_trans (QfF L) (by decide)⟩
def plt (p q:Int×Int):Prop:=p.1<q.1∨(p.1=q.1/\p.2<q.2)
instance plt_dec (p q:Int×Int):Decidable (plt p q):=by unfold plt;exact inferInstance
def isCl (h w:Int):PyData->Bool
  | .tuple ds=>ds.all (isPl h w)&&riseD ds
  | _=>false
def bdD (h w:Int) (cs:List (Int×Int)):PyData:=.tuple [.int h,.int w,.tuple (cs.map pairD)]
def Qf1 (d:PyData):Prop:=∀ ds,d=.tuple ds->ds.length<=1000
theorem QaQ {d:PyData} (h:(match d with | .tuple _=>false | _=>true)=true):Qf1 d:=fun ls e=>by subst e;cases h
theorem QdS {ds:List PyData} (h:ds.length<=1000):Qf1 (.tuple ds):=fun ls e=>by cases e;exact h
def rowF (r n:Nat) (f:Nat->Nat->Bool):List (Int×Int):=((List.range n).filter (f r)).map fun (c:Nat)=>((r:Int),(c:Int))
def QaE (h w:Nat) (f:Nat->Nat->Bool):List (Int×Int):=(List.range h).flatMap fun r=>rowF r w f
def updF (f:Nat->Nat->Bool) (i j:Nat) (b:Bool):Nat->Nat->Bool:=fun r c=>if r=i/\c=j then b else f r c
theorem QaR (h w:Nat) (f:Nat->Nat->Bool):QaE (h+1) w f=QaE h w f++rowF h w f:=by
  unfold QaE
  rw [List.range_succ,List.flatMap_append]
  simp
theorem QhA (r n:Nat) (f:Nat->Nat->Bool):rowF r (n+1) f=rowF r n f++(if f r n=true then [((r:Int),(n:Int))] else []):=by
  unfold rowF
  rw [List.range_succ,List.filter_append,List.map_append]
  congr 1
  by_cases z:f r n=true
  · rw [if_pos z];simp [z]
  · rw [if_neg z];simp [z]
theorem Qds {r n:Nat} {f g:Nat->Nat->Bool} (h:∀ c,c<n->f r c=g r c):rowF r n f=rowF r n g:=by
  unfold rowF
  congr 1
  exact List.filter_congr fun c hc=>h c (List.mem_range.mp hc)
theorem QeY {h w:Nat} {f g:Nat->Nat->Bool} (q:∀ r c,r<h->c<w->f r c=g r c):QaE h w f=QaE h w g:=by
  induction h with
  | zero=>rfl
  | succ h ih=>rw [QaR,QaR,ih fun r c hr=>q r c (by omega),Qds fun c hc=>q h c (by omega) hc]
theorem Qg6 {h w i j:Nat} {f:Nat->Nat->Bool} {b:Bool} (hi:h<=i):QaE h w (updF f i j b)=QaE h w f:=QeY fun r c hr _=>if_neg fun z=>by omega
theorem QjE {i n j:Nat} {f:Nat->Nat->Bool} {b:Bool} (hj:n<=j):rowF i n (updF f i j b)=rowF i n f:=Qds fun c hc=>if_neg fun z=>by omega
theorem Qcc {r n:Nat} {f:Nat->Nat->Bool} {p:Int×Int}:p∈rowF r n f↔∃ c:Nat,c<n/\f r c=true/\p=((r:Int),(c:Int)):=by
  unfold rowF
  rw [List.mem_map]
  constructor
  · rintro ⟨c,hc,rfl⟩
    have hc:=List.mem_filter.mp hc
    exact ⟨c,List.mem_range.mp hc.1,hc.2,rfl⟩
  · rintro ⟨c,hc,hf,rfl⟩
    exact ⟨c,List.mem_filter.mpr ⟨List.mem_range.mpr hc,hf⟩,rfl⟩
theorem QdA {h w:Nat} {f:Nat->Nat->Bool} {p:Int×Int}:p∈QaE h w f↔∃ r c:Nat,r<h/\c<w/\f r c=true/\p=((r:Int),(c:Int)):=by
  unfold QaE
  rw [List.mem_flatMap]
  constructor
  · rintro ⟨r,hr,hp⟩
    obtain ⟨c,hc,hf,rfl⟩:=Qcc.mp hp
    exact ⟨r,c,List.mem_range.mp hr,hc,hf,rfl⟩
  · rintro ⟨r,c,hr,hc,hf,rfl⟩
    exact ⟨r,List.mem_range.mpr hr,Qcc.mpr ⟨c,hc,hf,rfl⟩⟩
theorem QeZ {h w:Nat} {f:Nat->Nat->Bool} {p:Int×Int} (q:p∈QaE h w f):0<=p.1/\p.1<h/\0<=p.2/\p.2<w:=by
  obtain ⟨r,c,hr,hc,_,rfl⟩:=QdA.mp q
  exact ⟨Int.natCast_nonneg _,by show (r:Int)<h;omega,Int.natCast_nonneg _,by show (c:Int)<w;omega⟩
theorem QcM (r n:Nat) (f:Nat->Nat->Bool):(rowF r n f).length<=n:=by
  unfold rowF
  rw [List.length_map]
  exact Nat.le_trans (List.length_filter_le _ _) (by rw [List.length_range];exact Nat.le_refl _)
theorem Qcz (w:Nat) (f:Nat->Nat->Bool):∀ h,(QaE h w f).length<=h*w
  | 0=>Nat.zero_le _
  | h+1=>by
    have:=Qcz w f h
    have:=QcM h w f
    rw [QaR,List.length_append,Nat.succ_mul]
    omega
theorem Qde (r n:Nat) (f:Nat->Nat->Bool):(rowF r n f).filter (fun p=>decide (p.1=(r:Int)))=rowF r n f:=List.filter_eq_self.mpr fun p hp=>by
  obtain ⟨c,_,_,rfl⟩:=Qcc.mp hp
  exact decide_eq_true rfl
theorem Qdf {r k n:Nat} (h:r≠k) (f:Nat->Nat->Bool):(rowF r n f).filter (fun p=>decide (p.1=(k:Int)))=[]:=List.filter_eq_nil_iff.mpr fun p hp=>by
  obtain ⟨c,_,_,rfl⟩:=Qcc.mp hp
  show ¬ decide ((r:Int)=(k:Int))=true
  rw [decide_eq_false (by omega)]
  exact Bool.false_ne_true
theorem QdH (w k:Nat) (f:Nat->Nat->Bool):∀ h,(QaE h w f).filter (fun p=>decide (p.1=(k:Int)))=if k<h then rowF k w f else []
  | 0=>rfl
  | h+1=>by
    rw [QaR,List.filter_append,QdH w k f h]
    by_cases z:k=h
    · subst z
      rw [if_neg (by omega),Qde,if_pos (by omega)];rfl
    · rw [Qdf (fun e=>z e.symm),List.append_nil]
      by_cases z2:k<h
      · rw [if_pos z2,if_pos (by omega)]
      · rw [if_neg z2,if_neg (by omega)]
theorem Ql1 (r n:Nat) (f:Nat->Nat->Bool):(rowF r n f).Pairwise plt:=by
  unfold rowF
  refine List.Pairwise.map (R:=fun a b=>a<b) _ (fun a b hab=>.inr ⟨rfl,by show (a:Int)<b;omega⟩) ?_
  exact List.Pairwise.filter _ List.pairwise_lt_range
theorem QeG (w:Nat) (f:Nat->Nat->Bool):∀ h,(QaE h w f).Pairwise plt
  | 0=>.nil
  | h+1=>by
    rw [QaR]
    refine List.pairwise_append.mpr ⟨QeG w f h,Ql1 h w f,fun p hp q hq=>?_⟩
    obtain ⟨r,c,hr,_,_,rfl⟩:=QdA.mp hp
    obtain ⟨c',_,_,rfl⟩:=Qcc.mp hq
    exact .inl (by show (r:Int)<h;omega)
theorem Qla {p q:Int×Int} (h:plt p q):p≠q:=fun e=>by subst e;rcases h with z | z<;>omega
def QfB:DF:=fun args R _=>∃ m:Int,args=[.pot,.v (.int m)]/\1<=m/\m<=6/\∀ (h w:Nat) (f:Nat->Nat->Bool),1<=h->(h:Int)<=m->1<=w->(w:Int)<=m->R (bdD h w (QaE h w f))
def rowC (cs:List (Int×Int)) (r:Int):List (Int×Int):=cs.filter fun p=>decide (p.1=r)
def extS (cells L:List (Int×Int)):List (List (Int×Int)):=(cells.filter fun c => !decide (c.2∈L.map (·.2))).map fun c=>L++[c]
def stsN (cs:List (Int×Int)):Nat->List (List (Int×Int))
  | 0=>[[]]
  | i+1=>stsN cs i++(stsN cs i).flatMap (extS (rowC cs i))
theorem Qeb (cells L:List (Int×Int)):(extS cells L).length<=cells.length:=by
  unfold extS
  rw [List.length_map]
  exact List.length_filter_le _ _
theorem QcP {α β:Type} {f:α->List β} {k:Nat}:∀ {xs:List α},(∀ x∈xs,(f x).length<=k)->(xs.flatMap f).length<=xs.length*k
  | [],_=>Nat.zero_le _
  | x::xs,h=>by
    have h1:=h x (.head _)
    have h2:=QcP (xs:=xs) fun y hy=>h y (.tail _ hy)
    rw [List.flatMap_cons,List.length_append,List.length_cons,Nat.succ_mul]
    omega
theorem QdO {cs:List (Int×Int)} {k:Nat} (h:∀ r,(rowC cs r).length<=k):∀ i,(stsN cs i).length<=(k+1)^i
  | 0=>Nat.le_refl _
  | i+1=>by
    have h1:=QdO h i
    have h2:=QcP (xs:=stsN cs i) (k:=k) fun L _=>Nat.le_trans (Qeb (rowC cs i) L) (h i)
    show (stsN cs i++(stsN cs i).flatMap (extS (rowC cs i))).length<=_
    rw [List.length_append,Nat.pow_succ,Nat.mul_add,Nat.mul_one]
    have h3:(stsN cs i).length*k<=(k+1)^i*k:=Nat.mul_le_mul_right k h1
    omega
theorem Qbu {cells L M:List (Int×Int)}:M∈extS cells L↔∃ c∈cells,c.2∉L.map (·.2)/\M=L++[c]:=by
  unfold extS
  rw [List.mem_map]
  constructor
  · rintro ⟨c,hc,rfl⟩
    have hc:=List.mem_filter.mp hc
    exact ⟨c,hc.1,by simpa using hc.2,rfl⟩
  · rintro ⟨c,hc,hn,rfl⟩
    exact ⟨c,List.mem_filter.mpr ⟨hc,by simpa using hn⟩,rfl⟩
theorem QcZ {cs:List (Int×Int)}:∀ i,∀ L∈stsN cs i,L.length<=i
  | 0,L,h=>by rw [List.mem_singleton.mp h];exact Nat.le_refl _
  | i+1,L,h=>by
    rcases List.mem_append.mp (show L∈stsN cs i++(stsN cs i).flatMap (extS (rowC cs i)) from h) with z | z
    · exact Nat.le_succ_of_le (QcZ i L z)
    · obtain ⟨M,hM,hL⟩:=List.mem_flatMap.mp z
      obtain ⟨c,_,_,rfl⟩:=Qbu.mp hL
      have:=QcZ i M hM
      rw [List.length_append]
      exact Nat.succ_le_succ this
theorem Qhq (cs:List (Int×Int)):∀ i,[]∈stsN cs i
  | 0=>.head _
  | i+1=>List.mem_append.mpr (.inl (Qhq cs i))
theorem row_fm (cs:List (Int×Int)) (r:Int):(cs.map pairD).filterMap (fun d=>if (toP d).1=r then some d else none)=(rowC cs r).map pairD:=by
  unfold rowC
  induction cs with
  | nil=>rfl
  | cons c cs ih=>
    rw [List.map_cons]
    by_cases z:c.1=r
    · rw [List.filterMap_cons_some (by show (if c.1=r then _ else _)=_;rw [if_pos z]),ih,List.filter_cons_of_pos (by simpa using z)];rfl
    · rw [List.filterMap_cons_none (by show (if c.1=r then _ else _)=_;rw [if_neg z]),ih,List.filter_cons_of_neg (by simpa using z)]
theorem ext_fm (cells L:List (Int×Int)):(cells.map pairD).filterMap (fun d=>if (toP d).2∈L.map (·.2) then none else some (.tuple (L.map pairD++[d])))=(extS cells L).map stT:=by
  unfold extS
  induction cells with
  | nil=>rfl
  | cons c cs ih=>
    rw [List.map_cons]
    by_cases z:c.2∈L.map (·.2)
    · rw [List.filterMap_cons_none (by show (if c.2∈L.map (·.2) then _ else _)=_;rw [if_pos z]),ih,List.filter_cons_of_neg (by simpa using z)]
    · rw [List.filterMap_cons_some (by show (if c.2∈L.map (·.2) then _ else _)=_;rw [if_neg z]),ih,List.filter_cons_of_pos (by simpa using z)]
      show PyData.tuple (L.map pairD++[pairD c])::_=PyData.tuple ((L++[c]).map pairD)::_
      rw [List.map_append];rfl
theorem Qjk (ns:List Int) (i:Int):((ns.map PyData.int).any fun e=>PyData.eqv e (.int i))=decide (i∈ns):=by
  rw [List.any_map,Bool.eq_iff_iff,List.any_eq_true,decide_eq_true_iff]
  constructor
  · rintro ⟨c,hc,h⟩
    have:c=i:=by simpa [PyData.eqv] using h
    rw [<- this];exact hc
  · intro h
    refine ⟨i,h,?_⟩
    show (i == i)=true
    simp
theorem QbT (w h:Nat) (f:Nat->Nat->Bool) (r:Int):(rowC (QaE h w f) r).length<=w:=by
  by_cases z:0<=r
  · obtain ⟨k,rfl⟩:∃ k:Nat,r=k:=⟨r.toNat,by omega⟩
    unfold rowC
    rw [QdH]
    split
    · exact QcM _ _ _
    · exact Nat.zero_le _
  · have:rowC (QaE h w f) r=[]:=List.filter_eq_nil_iff.mpr fun p hp e=>by
      have:=QeZ hp
      have:=of_decide_eq_true e
      omega
    rw [this]
    exact Nat.zero_le _
def QmZ:DF:=fun args R _=>args=[.pot]/\∀ d,Qf1 d->R d
def Qd9:DF:=fun args R _=>∃ (h:Nat) (w:Int) (cs:List (Int×Int)),args=[.v (bdD h w cs)]/\h<=6/\(∀ r,(rowC cs r).length<=6)/\∀ Ls:List (List (Int×Int)),Ls.Perm (stsN cs h)->(Ls.map stT).Pairwise (fun a b=>ltD b a=false)->R (.list (Ls.map stT))
theorem pow7 {i:Nat} (h:i<6):7^i*7<=823543:=by
  have:7^i<=7^5:=Nat.pow_le_pow_right (by decide) (by omega)
  have e:(7:Nat)^5=16807:=rfl
  omega
def toI:PyData->Int
  | .int i=>i
  | _=>0
theorem QiM {α β:Type} {g:α->Option β} {p:α->Bool} {k:α->β}:∀ {xs:List α},(∀ x∈xs,g x=if p x=true then some (k x) else none)->xs.filterMap g=(xs.filter p).map k
  | [],_=>rfl
  | x::xs,h=>by
    have ih:=QiM (xs:=xs) fun y hy=>h y (.tail _ hy)
    by_cases z:p x=true
    · rw [List.filterMap_cons_some (by rw [h x (.head _),if_pos z]),ih,List.filter_cons_of_pos z];rfl
    · rw [List.filterMap_cons_none (by rw [h x (.head _),if_neg z]),ih,List.filter_cons_of_neg z]
@[irreducible] def Qkr:List PyData->(PyData->Prop)->Prop:=QmX
theorem QgD:QcB (fun xs H Q=>∃ i j,xs=[.int i,.int j]/\Q (.int (if j<i then j else i)) H) Qkr:=by unfold Qkr;exact Qeg
theorem Qfv {i j k:Int} {Q:PyData->Prop} (e:(if j<i then j else i)=k) (h:Q (.int k)):Qkr [.int i,.int j] Q:=by
  unfold Qkr
  show Q (.int (if j<i then j else i))
  rw [e];exact h
theorem QkH (g:Int×Int->Bool) (cs:List (Int×Int)):(cs.map pairD).filterMap (fun d=>if g (toP d)=true then some d else none)=(cs.filter g).map pairD:=by
  rw [List.filterMap_map]
  exact QiM (p:=g) (k:=pairD) fun p _=>rfl
theorem Qnq {items:List PyData} {wg wg2:DG} {wt wt2:DT} {wi2:DI} {we:DE} {δ:Sts} {Q:PyData->Prop} (G:PyData->List PyData) (k:Nat) (hl:(items.flatMap G).length<=k)
    (h:∀ d∈items,∀ (acc:List PyData) (N:List PyData->Prop),acc.length+(G d).length<=k->N (acc++G d)->wg d δ fun δ4=>wt δ4 (fun b=>if b=true then wi2 δ4 (fun items2=>InR items2 wg2 wt2 we δ4 acc N) XF else N acc) XF) (q:Q (.list (items.flatMap G))) :
    QgG items wg wt wi2 wg2 wt2 we δ Q:=by
  unfold QgG
  refine ⟨fun i acc=>acc=(items.take i).flatMap G,by simp,fun i acc d hd e=>?_,fun acc e=>by rw [e,List.take_length];exact q⟩
  have e:acc=(items.take i).flatMap G:=e
  have hs:(items.take (i+1)).flatMap G=(items.take i).flatMap G++G d:=by
    rw [List.take_add_one,hd,List.flatMap_append]
    simp
  refine h d (List.mem_of_getElem? hd) acc _ ?_ (by show acc++G d=_;rw [hs,e])
  have h1:(items.flatMap G).length=((items.take (i+1)).flatMap G).length+((items.drop (i+1)).flatMap G).length:=by
    rw [<- List.length_append,<- List.flatMap_append,List.take_append_drop]
  rw [hs,<- e,List.length_append] at h1
  omega
end Rk
namespace Rv
open PySem PySem.Spec PyProof.Rows
theorem sub_ri:isSubtype (.type "range_iterator") (.type "reversed")=pure false:=by rw [isSubtype_type];kernel_rfl
section
variable {prog:Program} {w:World} {A:Around} {E:Value->Shared->Prop} {s:Shared}
def revIt (a b:Int):Obj:={ cls:=.type "range_iterator",data:=.fields #[rawInt (a+(Builtin.Range.rangeSize a b 1 - 1)*1),rawInt (Builtin.Range.rangeSize a b 1),rawInt (-1)] }
theorem Qg9 {r:Addr} {j:Int} {t u v:Tok} {Q:Value->Shared->Prop} (hr:IsRange s.heap r 0 j 1 t u v) (h0 : -1000<=j) (h1:j<=1000)
    (h:Q (.ref s.heap.objs.size) { s with heap:=s.heap.push (revIt 0 j) }):wpAny (model prog w) A (call (.builtin "range.__reversed__") [.ref r]) Q E s:=by
  refine wpAny_call_entry F.slot_range_reversed ⟨_,hr,rfl⟩ F.entry_range_reversed ?_ (F.args_range_reversed_1 _)
  unfold Builtin.«range.__reversed__»
  refine wpAny_bind (wpAny_of_eq (a:=Value.ref r) rfl ?_)
  refine wpAny_bind ?_
  unfold Builtin.Range.rangeFields
  refine wpAny_bind (wpAny_field hr rfl (x:=.int 0 t) rfl ?_)
  refine wpAny_bind (wpAny_of_eq (a:=some 0) rfl ?_)
  refine wpAny_bind (wpAny_field hr rfl (x:=.int j u) rfl ?_)
  refine wpAny_bind (wpAny_of_eq (a:=some j) rfl ?_)
  refine wpAny_bind (wpAny_field hr rfl (x:=.int 1 v) rfl ?_)
  refine wpAny_bind (wpAny_of_eq (a:=some 1) rfl ?_)
  refine wpAny_pure ?_
  dsimp only
  have hz:Builtin.Range.rangeSize 0 j 1=if 0<j then j else 0:=by rw [rangeSize_one];split<;>omega
  have fit:∀ x:Int,-2000<=x->x<=2000->Builtin.Range.rangeFitsLong x=true:=fun x a b=>by
    unfold Builtin.Range.rangeFitsLong
    simp only [Bool.and_eq_true,decide_eq_true_eq]
    omega
  have hs:(Builtin.Range.rangeFitsLong 0&&Builtin.Range.rangeFitsLong j&&Builtin.Range.rangeFitsLong 1&&Builtin.Range.rangeFitsLong (-1)&&Builtin.Range.rangeFitsLong (0 - 1)&&Builtin.Range.rangeFitsLong (Builtin.Range.rangeSize 0 j 1))=true:=by
    rw [fit 0 (by decide) (by decide),fit j (by omega) (by omega),fit 1 (by decide) (by decide),fit (-1) (by decide) (by decide),fit (0 - 1) (by decide) (by decide),fit _ (by rw [hz];split<;>omega) (by rw [hz];split<;>omega)]
    rfl
  rw [hs,if_neg (by decide),if_pos rfl]
  exact wpAny_bind (wpAny_newObj_type (wpAny_pure ⟨_,rfl,h⟩))
theorem QkU {r:Addr} {j:Int} {t u v:Tok} {Q:Value->Shared->Prop} (hr:IsRange s.heap r 0 j 1 t u v) (h0 : -1000<=j) (h1:j<=1000)
    (h:Q (.ref s.heap.objs.size) { s with heap:=s.heap.push (revIt 0 j) }):codeAny (model prog w) A (.call (.builtin "reversed.__new__") ⟨[.type "reversed",.ref r],[]⟩) (wants Q E) s:=by
  have hT:s.TypeIs (.ref r) "range" := ⟨_,hr,rfl⟩
  refine codeAny_of_tree ?_
  show wpAny _ A.in1 (do checkBuiltinCall "reversed.__new__" ⟨[.type "reversed",.ref r],[]⟩;again (.builtin "reversed.__new__" ⟨[.type "reversed",.ref r],[]⟩)) _ _ s
  refine wpAny_bind (wpAny_of_eq (F.newCall_reversed_1 _) (wpAny_pure ⟨plainId_quiet F.plain_reversed_new _,codeAny_builtin F.entry_reversed_new ?_⟩))
  rw [Around.under_plainId F.plain_reversed_new _]
  unfold Builtin.«reversed.__new__»
  refine wpAny_bind (wpAny_of_eq (newClass_reversed _) ?_)
  dsimp only
  refine wpAny_bind (wpAny_of_eq (a:=()) (by first | rfl | kernel_rfl) ?_)
  refine wpAny_bind (wpAny_of_eq (a:=()) (by first | rfl | kernel_rfl) ?_)
  try dsimp only
  refine wpAny_bind (wpAny_specialOf hT F.slot_range_reversed.lookup ?_)
  try dsimp only
  refine wpAny_bind (wpAny_of_eq (F.slot_range_reversed.bind _) ?_)
  try dsimp only
  first
  | rw [if_neg (show ¬ ((Value.builtin "range.__reversed__" == Value.none)=true) from Bool.false_ne_true)]
  | (show wpAny _ _ (if (Value.builtin "range.__reversed__" == Value.none)=true then _ else _) _ _ _;rw [if_neg (show ¬ ((Value.builtin "range.__reversed__" == Value.none)=true) from Bool.false_ne_true)])
  refine wpAny_bind (wpAny_rule ?_)
  refine wpAny_bind (m:=runValue (.call (.builtin "range.__reversed__") ⟨[.ref r],[]⟩)) (show wpAny _ _ (call (.builtin "range.__reversed__") [.ref r]) _ _ _ from Qg9 hr h0 h1 ?_)
  first
  | exact wpAny_pure h
  | exact wpAny_bind (wpAny_pure (wpAny_pure h))
theorem call_back {r:Addr} {j:Int} {t u v:Tok} {Q:Value->Shared->Prop} (hr:IsRange s.heap r 0 j 1 t u v) (h0 : -1000<=j) (h1:j<=1000)
    (h:Q (.ref s.heap.objs.size) { s with heap:=s.heap.push (revIt 0 j) }):wpAny (model prog w) A (call (.type "reversed") [.ref r]) Q E s:=by
  refine callType_other (U := "range_iterator") (Q₁:=fun obj s₁=>obj=.ref s.heap.objs.size/\s₁={ s with heap:=s.heap.push (revIt 0 j) }) (by decide +kernel) F.create_reversed ⟨_,_,F.mro_reversed⟩ F.made_reversed sub_ri (F.typeCall_reversed_1 _) (QkU hr h0 h1 ⟨rfl,rfl⟩) ?_
  rintro obj s₁ ⟨rfl,rfl⟩
  exact ⟨⟨_,Heap.get?_push_size _ rfl,rfl⟩,h⟩
end
end Rv
namespace L2
open PySem PySem.Spec PyProof.Rows
def Itv (n:Nat):It:=⟨fun i _=>i<n,fun i H x H'=>H'=H/\x=.int ((n:Int) - 1 - i),fun i _=>n<=i⟩
theorem Qhk {P:Program} {w:World} {K:PySem.W.Frag} {tg:Expr} (it:Addr) (n:Nat):Turn P w K tg (Itv n) [it] it (fun i h=>IsRangeIter h it ((n:Int) - 1+(i:Nat)*(-1)) ((n:Int) - (i:Nat)) (-1)) where
  mem:=by simp
  obj:=fun i h st b hb=>by
    have e:b=it:=by simpa using hb
    subst e
    exact ⟨_,st,fun v z=>by
      have z':Data.fields _=Data.cell v:=z
      cases z'⟩
  keep:=fun i h h' st k=>k it (by simp) _ st
  item:=by
    intro X hP hw hK hc i pins s σ H E I hf st hg
    subst hP hw hK
    obtain ⟨f0,f1,f2,f3,f4,f5⟩:=hf it (by simp)
    have W:=Walks.range (prog:=X.prog) (w:=X.w) (I.ok.hd hc) it ((n:Int) - 1) (-1) n
    refine W.item i s _ _ hg st fun v h' tk hv st' kk=>?_
    obtain ⟨t,rfl⟩:=hv
    have I1:Inv X pins σ H { s with heap:=h',toks:=tk }:=I.turned (fun b o hb e=>kk b o (by simpa using hb) e) f0 f1 f3 f4 f5
    refine ⟨_,rfl,QkD (s:={ s with heap:=h',toks:=tk }) (n := "range_iterator") st' rfl rfl (by decide) ⟨.int ((n:Int) - 1 - i),H,I1,⟨t,?_⟩,⟨rfl,rfl⟩,st',fun b hb=>(hf b hb).1⟩⟩
    rw [show (n:Int) - 1+(i:Int)*(-1)=(n:Int) - 1 - i by omega]
  done:=by
    intro X hP hw hK hc i pins s σ H E I hf st hg
    subst hP hw hK
    obtain ⟨f0,f1,f2,f3,f4,f5⟩:=hf it (by simp)
    exact wpAny_pyNext_range_end (I.ok.hd hc) st (by have:n<=i:=hg;omega) fun h' eb=>⟨rfl,I.turned (t':=s.toks) (fun b o hb e=>eb b o hb e) f0 f1 f3 f4 f5⟩
  self:=fun _ _ _ _ _ st h=>wpAny_pyIter_rangeiter st h
def iBack (ta:TA):TI:=fun σ H R=>ta σ H fun vs H1=>∃ (r:Addr) (j:Int),vs=[.ref r]/\H1 r=some (.rng 0 j) /\ -1000<=j/\j<=1000/\R (Itv j.toNat) H1
section
variable {X:Cx} {tg:Expr}
theorem Qmc {a:Expr} {ta:TA} {p pos:Pos} (hg:Gl X "reversed") (hm:X.mg "reversed" = none) (ha:PA X [a] ta) (hs:starEach [a] X.env=[(false,eval a X.env)]:=by rfl):PI X tg (.Call (.Name "reversed" p) [a] [] pos) (iBack ta):=by
  intro pins s σ H R I h
  refine Call_ (Qcd I hg hm boot_reversed (PyProof.Rows.callWith_type1 (thn (ha pos pins s σ H _ I h) fun us s1 ⟨vs,H1,I1,r1,q1⟩=>?_) hs rfl))
  obtain ⟨r,j,e,hr,q1,q2,q⟩:=q1
  subst e
  obtain ⟨u,rfl,ru⟩:=QdK r1
  cases (show u=Value.ref r from ru)
  obtain ⟨t1,t2,t3,e⟩:=I1.hok r _ hr
  refine Rv.call_back (show IsRange s1.heap r 0 j 1 t1 t2 t3 from e) q1 q2 ?_
  have hz:Builtin.Range.rangeSize 0 j 1=((j.toNat:Nat):Int):=by rw [rangeSize_one];split<;>omega
  have it0:IsRangeIter (s1.heap.push (Rv.revIt 0 j)) s1.heap.objs.size (((j.toNat:Nat):Int) - 1+((0:Nat):Int)*(-1)) (((j.toNat:Nat):Int) - ((0:Nat):Int)) (-1):=by
    have:=Heap.get?_push_size (h:=s1.heap) (o:=Rv.revIt 0 j) rfl
    unfold Rv.revIt at this
    rw [hz,show (0:Int)+(((j.toNat:Nat):Int) - 1)*1=((j.toNat:Nat):Int) - 1+((0:Nat):Int)*(-1) by omega] at this
    rw [show ((j.toNat:Nat):Int) - ((0:Nat):Int)=((j.toNat:Nat):Int) by omega]
    unfold Rv.revIt
    rw [hz,show (0:Int)+(((j.toNat:Nat):Int) - 1)*1=((j.toNat:Nat):Int) - 1+((0:Nat):Int)*(-1) by omega]
    exact this
  refine wpAny_pyIter_rangeiter it0 ?_
  refine ⟨s1.heap.objs.size,[s1.heap.objs.size],_,_,H1,rfl,I1.kept (t':=s1.toks) fun b o e=>Heap.get?_push_of_some _ e,Qhk _ j.toNat,it0,fun b hb=>?_,q⟩
  have e:b=s1.heap.objs.size:=by simpa using hb
  subst e
  exact I1.fpOk (Nat.le_refl _) (I1.hok.fresh (Nat.le_refl _))
end
section
variable {X:Cx}
def Qf5:V->List V->Hp->VK->Prop:=fun x vs H Q=>∃ l xs y,x=.ref l/\vs=[.int 0,y]/\H l=some (.lst xs)/\xs.length<sizeLine/\Q .non (upd H l (.lst (y::xs)))
theorem QgU:MtM X "list.insert" Qf5:=by
  intro pins s σ H x vs v us Q I rx rv h
  obtain ⟨l,xs,y,rfl,rfl,hH,hz,q⟩:=h
  cases rx
  cases rv with
  | cons r0 rv=>
    obtain ⟨u,rfl,ru⟩:=Vals.one rv
    obtain ⟨t,rfl⟩:=r0
    obtain ⟨z,its,n,r,hl,e⟩:=I.lstM hH
    refine call_meets F.slot_list_insert ⟨_,e,rfl⟩ F.entry_list_insert (F.args_list_insert_3 _ _ _) (AutoSeq1.list_insert_list_int_val_1 l its.toArray n 0 t u (by decide) (by rw [List.size_toArray];omega)) ⟨e,?_⟩
    refine ⟨.non,_,I.lset (its':=u::its) hH e (by simp) (.cons ru r) ?_,rfl,q⟩
    rw [List.length_cons]
    omega
end
end L2
namespace Dl
open PySem PySem.Spec PyProof.Rows L2 _root_.Rd Rk
section
variable {X:Cx} {E:XK} {st:Stmt} {i:Nat} {we:DE}
def rngB (n:Nat):List PyData:=(List.range n).map fun (i:Nat)=>.int ((n:Int) - 1 - i)
theorem QdV (n:Nat):(rngB n).length=n:=by unfold rngB;rw [List.length_map,List.length_range]
theorem Qf4 {n i:Nat} {d:PyData} (h:(rngB n)[i]? = some d):i<n/\d=.int ((n:Int) - 1 - i):=by
  unfold rngB at h
  rw [List.getElem?_map] at h
  by_cases z:i<n
  · rw [List.getElem?_range z] at h
    exact ⟨z,(Option.some.inj h).symm⟩
  · rw [List.getElem?_eq_none (by rw [List.length_range];omega)] at h;cases h
def dBack (w:DE):DI:=fun δ Q EX=>w δ (fun d=>match d with
  | .int j=>(-1000<=j/\j<=1000)/\Q (rngB j.toNat)
  | _=>False) EX
theorem itb_d {A S:Addr->Prop} {n:Nat} {H1:Hp} (h:n<=sizeLine):ItD A S (Itv n) (rngB n) H1:=by
  refine ⟨by rw [QdV];exact h,fun H2 A' _ _ _=>⟨fun i d hd=>?_,?_⟩⟩
  · obtain ⟨hi,rfl⟩:=Qf4 hd
    refine ⟨hi,fun x H3 hy=>?_⟩
    obtain ⟨rfl,rfl⟩:=hy
    exact ⟨Same.refl _,.int _⟩
  · show n<=(rngB n).length
    rw [QdV];exact Nat.le_refl _
theorem QlX {m:Md} {tg e:Expr} {w:DE} {p p2 pos pos2:Pos} (hg:Gl X "reversed") (hm:X.mg "reversed" = none) (hg2:Gl X "range") (hm2:X.mg "range" = none) (h:QE .P X E e w) (hs:notStar e=true:=by rfl):QI m X E tg (.Call (.Name "reversed" p) [.Call (.Name "range" p2) [e] [] pos2] [] pos) (dBack w):=⟨by
  refine PI.imp (Qmc hg hm (pa_c (Qgc hg2 hm2 (pa_c h.h Qaq hs) (by rw [QaW hs];rfl)) Qaq)) fun σ H R _ ⟨F,δ,R',EX,rel,hw,k,o⟩=>?_
  refine ⟨F,δ,_,EX,rel,hw,fun d hd v H' rel' kp vk=>?_,o⟩
  cases d<;>first | exact (show False from hd).elim | skip
  obtain ⟨⟨h1,h2⟩,hR⟩:=hd
  rw [DP.int vk]
  exact ⟨_,rfl,fun r H2 s2 n2 e2=>⟨r,_,rfl,e2,h1,h2,k _ hR _ H2 (rel'.same s2) (kp.trans (Kp.same rel' s2)) (itb_d (Nat.le_of_lt (Rk.lt_line (by omega))))⟩⟩⟩
def dIns (i:Nat) (we:DE):DS:=fun D δ=>match δ[i]? with
  | some (.own ds)=>we δ (fun d=>ds.length<1000000/\D.nx (δ.set i (.own (d::ds)))) D.ex
  | _=>False
theorem Qmn (h:PS X st (Qhm (tBM X.K "list" Qf5 (tVar i) (QcI (tX .D X.K E (dC (.int 0))) (QcI (tX .D X.K E we) tNil))))):PS X st (tS X.K E (dIns i we)):=by
  refine PS.imp h fun D σ H ⟨F,δ,DD,rel,hw,en⟩=>?_
  unfold dIns at hw
  split at hw
  · rename_i ds hd
    obtain ⟨x,hx⟩:=rel.lt hd
    obtain ⟨l,xs,rfl,e,q,f⟩:=rel.sl i _ _ hx hd
    have np:=rel.own_pot hd hx
    refine ⟨.ref l,hx,.inl ⟨rfl,_,SqL.of e⟩,F,δ,(fun d=>d=.int 0),DD.ex,rel,rfl,fun d hd0 v0 H0 rel0 kp0 vk0=>?_,en.ex⟩
    subst hd0
    cases vk0
    refine ⟨F,δ,_,DD.ex,rel0,hw,fun d ⟨hl,hn⟩ v H' rel' kp vk=>?_,en.ex⟩
    have kk:=kp0.trans kp
    have q':=kk.das q
    refine ⟨l,xs,v,rfl,rfl,kk.1 _ _ np e,Nat.lt_of_lt_of_le (by rw [q.length];exact hl) QeP,?_⟩
    obtain ⟨r2,st⟩:=rel'.mut hd hx (.cons vk q')
    exact en.nx.go _ hn _ _ r2 ((Stp.kp kk).trans st)
  · exact hw.elim
theorem qs_ins {y:Str} {e e0:Expr} {we:DE} {apos cpos pos npos:Pos} (i:Nat) (h0:QE .D X E e0 (dC (.int 0))) (he:QE .D X E e we) (hN:X.N[i]? = some y:=by rfl) (hv:Vis X.env.scope y:=by first | exact Or.inl rfl | exact Or.inr (Or.inl rfl) | exact Or.inr (Or.inr rfl)) (hd:(y == ("__debug__" : Str))=false:=by decide) (hcd:(y == ("__classdict__" : Str))=false:=by decide) (hs0:notStar e0=true:=by rfl) (hst:notStar e=true:=by rfl) (hbase:attributeBase (.Name y npos) "insert" X.env (eval (.Name y npos) X.env)=eval (.Name y npos) X.env:=by rfl) (hfew:((backTo cpos (starEach [e0,e] X.env)).all (fun x => !x.1)&&(backToKw cpos (keywordEach [] X.env)).all (fun x=>x.1.isSome)&&decide ([e0,e].length+([]:List Keyword).length+(if ([]:List Keyword).isEmpty then 0 else 1)<30))=true:=by rfl) (hline:(apos.endLine == cpos.line)=true:=by rfl) (hsw:swapsWith (.Call (.Attribute (.Name y npos) "insert" apos) [e0,e] [] cpos) none pos.line X.env=pure false:=by rfl):QS X E (.Expr (.Call (.Attribute (.Name y npos) "insert" apos) [e0,e] [] cpos) pos) (dIns i we):=⟨Qmn (Qd0 (Qh2 PySem.F.plainAttrs_list PySem.F.slot_list_insert PySem.F.type_list_insert QgU (pv i hN hv hd hcd) (pa_c h0.h (pa_c he.h Qaq hst) hs0) hbase hfew hline (QaW hs0) (by rw [QaW hst];rfl)) hsw)⟩
end
end Dl
namespace Rk
open PySem PySem.Spec PyProof.Rows L2 _root_.Rd Dl Rt
def sumC (B:Nat->Nat->Int) (t:Nat):List Nat->Nat->Int
  | [],_=>0
  | c::cs,k=>(if t.testBit c=true then 0 else B (t ||| 2^c) k)+sumC B t cs k
theorem QcY (B:Nat->Nat->Int) (t c k:Nat):∀ cs:List Nat,sumC B t (cs++[c]) k=sumC B t cs k+(if t.testBit c=true then 0 else B (t ||| 2^c) k)
  | []=>by show _+0=0+_;omega
  | d::cs=>by
    show _+sumC B t (cs++[c]) k=_+sumC B t cs k+_
    rw [QcY B t c k cs];omega
def rowB (h:Nat) (F:Nat->Int):List PyData:=(List.range (h+1)).map fun (k:Nat)=>.int (F k)
def tabB (h w:Nat) (B:Nat->Nat->Int):List PyData:=(List.range (2^w)).map fun (t:Nat)=>.list (rowB h (B t))
def stepB (B:Nat->Nat->Int) (cols:List Nat) (t k:Nat):Int:=B t k+if k=0 then 0 else sumC B t cols (k - 1)
def colN (cs:List (Int×Int)) (r:Nat):List Nat:=(rowC cs r).map fun p=>p.2.toNat
def Wc (cs:List (Int×Int)) (h:Nat):Nat->Nat->Nat->Int
  | 0,_,k=>if k=0 then 1 else 0
  | i+1,t,k=>stepB (Wc cs h i) (colN cs (h - 1 - i)) t k
def tabs (cs:List (Int×Int)) (h w:Nat):Nat->List PyData
  | 0=>[.list (tabB h w (Wc cs h 0))]
  | i+1=>.list (tabB h w (Wc cs h (i+1)))::tabs cs h w i
def intN (ns:List Nat):List PyData:=ns.map fun (c:Nat)=>.int (c:Int)
def cntW (cs:List (Int×Int)) (h w:Nat):List PyData:=(List.range (min h w+1)).map fun (k:Nat)=>.int (Wc cs h h 0 k)
def Qkp:DF:=fun args R _=>∃ (h w:Nat) (cs:List (Int×Int)),args=[.v (bdD h w cs)]/\R (.int ((min h w:Nat):Int))
def QlF:DF:=fun args R _=>∃ (h w:Nat) (B:Nat->Nat->Int) (cols:List Nat) (t:Nat),args=[.v (.list (tabB h w B)),.v (.list (intN cols)),.v (.int t)]/\t<2^w/\(∀ c∈cols,c<w)/\h<=6/\w<=6/\R (.list (rowB h (stepB B cols t)))
def QlH:DF:=fun args R _=>∃ (h w:Nat) (cs:List (Int×Int)),args=[.v (bdD h w cs)]/\h<=6/\w<=6/\(∀ p∈cs,0<=p.2/\p.2<w)/\R (.list (tabs cs h w h))
def QfI:DF:=fun args R _=>∃ (h w:Nat) (cs:List (Int×Int)),args=[.v (bdD h w cs)]/\h<=6/\w<=6/\(∀ p∈cs,0<=p.2/\p.2<w)/\R (.list (cntW cs h w))
theorem Qcm {h k:Nat} {F:Nat->Int} (hk:k<=h):(rowB h F)[k]? = some (.int (F k)):=by
  unfold rowB
  rw [List.getElem?_map,List.getElem?_range (by omega)];rfl
theorem QbI (h:Nat) (F:Nat->Int):(rowB h F).length=h+1:=by unfold rowB;rw [List.length_map,List.length_range]
theorem Qfi {h w t:Nat} {B:Nat->Nat->Int} (ht:t<2^w):(tabB h w B)[t]? = some (.list (rowB h (B t))):=by
  unfold tabB
  rw [List.getElem?_map,List.getElem?_range ht];rfl
theorem Qbn {h:Nat} {F G:Nat->Int} (e:∀ k,k<=h->F k=G k):rowB h F=rowB h G:=by
  unfold rowB
  refine List.map_congr_left fun k hk=>?_
  rw [e k (by have:=List.mem_range.mp hk;omega)]
theorem QjF {h j:Nat} {F:Nat->Int} {v:Int} (hj:j<=h):(rowB h F).set j (.int v)=rowB h (fun k=>if k=j then v else F k):=by
  apply List.ext_getElem?
  intro k
  rw [List.getElem?_set]
  by_cases z:j=k
  · subst z
    rw [if_pos rfl,if_pos (by rw [QbI];omega),Qcm hj,if_pos rfl]
  · rw [if_neg z]
    by_cases z2:k<=h
    · rw [Qcm z2,Qcm z2,if_neg (fun e=>z e.symm)]
    · rw [List.getElem?_eq_none (by rw [QbI];omega),List.getElem?_eq_none (by rw [QbI];omega)]
theorem cut_last (xs:List PyData):Dl.cutD xs none (some (-1))=xs.take (xs.length - 1):=by
  unfold Dl.cutD
  rw [HT.sIx_none,List.drop_zero,Nat.sub_zero]
  congr 1
  have e:HT.sIx xs.length xs.length (some (-1))=((-1:Int)+(xs.length:Int)).toNat:=by unfold HT.sIx;dsimp only;rw [if_pos (by decide)]
  rw [e]
  omega
theorem Qnv:∀ t:Fin 64,∀ c:Fin 6,Builtin.bitAnd ((t:Nat):Int) (1*2^((c:Nat):Int).toNat)=if (t:Nat).testBit c=true then 2^(c:Nat) else 0:=by decide +kernel
theorem bit_or:∀ t:Fin 64,∀ c:Fin 6,Builtin.bitOr ((t:Nat):Int) (1*2^((c:Nat):Int).toNat)=(((t:Nat) ||| 2^(c:Nat):Nat):Int):=by decide +kernel
theorem or_lt {t c w:Nat} (ht:t<2^w) (hc:c<w):t ||| 2^c<2^w:=Nat.or_lt_two_pow ht (Nat.pow_lt_pow_right (by decide) hc)
theorem QjH (h:Nat) (F:Nat->Int):Dl.cutD (rowB h F) none (some (-1))=(List.range h).map fun (k:Nat)=>PyData.int (F k):=by
  rw [cut_last,QbI]
  unfold rowB
  rw [<- List.map_take,Nat.add_sub_cancel,List.take_range,Nat.min_eq_left (Nat.le_succ h)]
theorem Qnw {t c w:Nat} (ht:t<2^w) (hc:c<w) (w6:w<=6):Builtin.bitAnd (t:Int) (1*2^((c:Nat):Int).toNat)=if t.testBit c=true then 2^c else 0:=by
  have h64:2^w<=2^6:=Nat.pow_le_pow_right (by decide) w6
  exact Qnv ⟨t,by have e:2^6=64:=rfl;omega⟩ ⟨c,by omega⟩
theorem or_bit {t c w:Nat} (ht:t<2^w) (hc:c<w) (w6:w<=6):Builtin.bitOr (t:Int) (1*2^((c:Nat):Int).toNat)=((t ||| 2^c:Nat):Int):=by
  have h64:2^w<=2^6:=Nat.pow_le_pow_right (by decide) w6
  exact bit_or ⟨t,by have e:2^6=64:=rfl;omega⟩ ⟨c,by omega⟩
theorem Qd1 (w:Nat):(1*2^((w:Nat):Int).toNat:Int)=((2^w:Nat):Int):=by
  rw [Int.one_mul,Int.toNat_natCast]
  simp
theorem col_fm (cs:List (Int×Int)) (r:Nat) (hb:∀ p∈cs,0<=p.2):(cs.map pairD).filterMap (fun d=>if (toP d).1=(r:Int) then some (.int (toP d).2) else none)=intN (colN cs r):=by
  unfold intN colN rowC
  rw [List.filterMap_map,List.map_map]
  refine QiM (p:=fun p:Int×Int=>decide (p.1=(r:Int))) fun p hp=>?_
  show (if p.1=(r:Int) then some (PyData.int p.2) else none)=if decide (p.1=(r:Int))=true then some (PyData.int ((p.2.toNat:Nat):Int)) else none
  rw [show ((p.2.toNat:Nat):Int)=p.2 by have:=hb p hp;omega]
  by_cases z:p.1=(r:Int)
  · rw [if_pos z,if_pos (decide_eq_true z)]
  · rw [if_neg z,if_neg (by simpa using z)]
theorem Qnn {cs:List (Int×Int)} {w r c:Nat} (hb:∀ p∈cs,0<=p.2/\p.2<w) (h:c∈colN cs r):c<w:=by
  unfold colN rowC at h
  obtain ⟨p,hp,rfl⟩:=List.mem_map.mp h
  have:=hb p (List.mem_filter.mp hp).1
  omega
theorem QfW (cs:List (Int×Int)) (h w:Nat):∀ i,(tabs cs h w i).length=i+1
  | 0=>rfl
  | i+1=>by show (tabs cs h w i).length+1=_;rw [QfW cs h w i]
theorem Qhl (cs:List (Int×Int)) (h w:Nat):∀ i,(tabs cs h w i)[0]? = some (.list (tabB h w (Wc cs h i)))
  | 0=>rfl
  | _+1=>rfl
theorem QjG (cs:List (Int×Int)) (h t:Nat):rowB h (Wc cs h 0 t)=PyData.int 1::List.replicate h (.int 0):=by
  apply List.ext_getElem?
  intro k
  cases k with
  | zero=>rw [Qcm (Nat.zero_le _)];rfl
  | succ k=>
    by_cases z:k+1<=h
    · rw [Qcm z,List.getElem?_cons_succ,List.getElem?_replicate,if_pos (by omega)];rfl
    · rw [List.getElem?_eq_none (by rw [QbI];omega),List.getElem?_cons_succ,List.getElem?_replicate,if_neg (by omega)]
theorem QlQ (h:Nat):(List.replicate h [PyData.int 0]).flatten=List.replicate h (.int 0):=by
  induction h with
  | zero=>rfl
  | succ h ih=>rw [List.replicate_succ,List.flatten_cons,ih];rfl
theorem Qk9 {w:Nat} (h:w<=6) : -1000000<=(1*2^((w:Nat):Int).toNat:Int)/\(1*2^((w:Nat):Int).toNat:Int)<=1000000:=by
  have p64:2^w<=64:=Nat.pow_le_pow_right (n:=2) (by decide) h
  rw [Qd1]
  generalize 2^w=x at p64
  omega
def sumZ {α:Type} (f:α->Int):List α->Int
  | []=>0
  | x::xs=>f x+sumZ f xs
theorem QdM {α:Type} (f:α->Int):∀ a b:List α,sumZ f (a++b)=sumZ f a+sumZ f b
  | [],b=>by show _=0+_;rw [Int.zero_add];rfl
  | x::a,b=>by show _+sumZ f (a++b)=_+sumZ f a+_;rw [QdM f a b];omega
theorem Qev {α β:Type} (f:β->Int) (g:α->List β):∀ a:List α,sumZ f (a.flatMap g)=sumZ (fun x=>sumZ f (g x)) a
  | []=>rfl
  | x::a=>by rw [List.flatMap_cons,QdM,Qev f g a];rfl
theorem Qbb {α:Type} {f g:α->Int}:∀ {a:List α},(∀ x∈a,f x=g x)->sumZ f a=sumZ g a
  | [],_=>rfl
  | x::a,h=>by show f x+_=g x+_;rw [h x (.head _),Qbb fun y hy=>h y (.tail _ hy)]
theorem QfY {α:Type} (f g:α->Int):∀ a:List α,sumZ (fun x=>f x+g x) a=sumZ f a+sumZ g a
  | []=>rfl
  | x::a=>by show (f x+g x)+sumZ _ a=f x+sumZ f a+(g x+sumZ g a);rw [QfY f g a];omega
theorem QbR {α:Type} (f:α->Int) (p:α->Bool):∀ a:List α,sumZ f (a.filter p)=sumZ (fun x=>if p x=true then f x else 0) a
  | []=>rfl
  | x::a=>by
    by_cases z:p x=true
    · rw [List.filter_cons_of_pos z]
      show f x+_=(if p x=true then f x else 0)+_
      rw [if_pos z,QbR f p a]
    · rw [List.filter_cons_of_neg z]
      show _=(if p x=true then f x else 0)+_
      rw [if_neg z,QbR f p a,Int.zero_add]
theorem QfX {α β:Type} (f:β->Int) (g:α->β):∀ a:List α,sumZ f (a.map g)=sumZ (fun x=>f (g x)) a
  | []=>rfl
  | x::a=>by show _+sumZ f (a.map g)=_+_;rw [QfX f g a]
theorem QcX {α:Type}:∀ a:List α,sumZ (fun _=>0) a=0
  | []=>rfl
  | x::a=>by show 0+sumZ _ a=0;rw [QcX a];rfl
theorem Qdq {α:Type} (p:α->Bool):∀ a:List α,sumZ (fun x=>if p x=true then 1 else 0) a=((a.countP p:Nat):Int)
  | []=>rfl
  | x::a=>by
    show (if p x=true then 1 else 0)+_=_
    rw [Qdq p a]
    by_cases z:p x=true
    · rw [if_pos z,List.countP_cons_of_pos z];omega
    · rw [if_neg z,List.countP_cons_of_neg z];omega
theorem Qew {α:Type} (B:Nat->Nat->Int) (t k:Nat) (g:α->Nat):∀ a:List α,sumC B t (a.map g) k=sumZ (fun x=>if t.testBit (g x)=true then 0 else B (t ||| 2^g x) k) a
  | []=>rfl
  | x::a=>by show _+sumC B t (a.map g) k=_+_;rw [Qew B t k g a]
def mkL (L:List (Int×Int)):Nat:=L.foldl (fun t p=>t ||| 2^p.2.toNat) 0
theorem Qkq (L:List (Int×Int)) (p:Int×Int):mkL (L++[p])=mkL L ||| 2^p.2.toNat:=by
  unfold mkL
  rw [List.foldl_append];rfl
theorem QgF (c:Nat):∀ (L:List (Int×Int)) (t:Nat),(L.foldl (fun t p=>t ||| 2^p.2.toNat) t).testBit c=(t.testBit c||decide (c∈L.map fun p=>p.2.toNat))
  | [],t=>by simp
  | p::L,t=>by
    rw [List.foldl_cons,QgF c L,Nat.testBit_or,Nat.testBit_two_pow,Bool.or_assoc]
    congr 1
    rw [List.map_cons,Bool.eq_iff_iff]
    simp only [Bool.or_eq_true,decide_eq_true_eq,List.mem_cons]
    constructor
    · rintro (z | z)
      · exact .inl z.symm
      · exact .inr z
    · rintro (z | z)
      · exact .inl z.symm
      · exact .inr z
theorem Qnu (L:List (Int×Int)) (c:Nat):(mkL L).testBit c=decide (c∈L.map fun p=>p.2.toNat):=by
  unfold mkL
  rw [QgF]
  simp
theorem QdN {cs:List (Int×Int)}:∀ i,∀ L∈stsN cs i,∀ p∈L,p∈cs
  | 0,L,h,p,hp=>by rw [List.mem_singleton.mp h] at hp;cases hp
  | i+1,L,h,p,hp=>by
    rcases List.mem_append.mp (show L∈stsN cs i++(stsN cs i).flatMap (extS (rowC cs i)) from h) with z | z
    · exact QdN i L z p hp
    · obtain ⟨M,hM,hL⟩:=List.mem_flatMap.mp z
      obtain ⟨c,hc,_,rfl⟩:=Qbu.mp hL
      rcases List.mem_append.mp hp with y | y
      · exact QdN i M hM p y
      · rw [List.mem_singleton.mp y];exact (List.mem_filter.mp hc).1
theorem QmY {L:List (Int×Int)} {c:Int×Int} (hL:∀ p∈L,0<=p.2) (hc:0<=c.2):(c.2.toNat∈L.map fun p=>p.2.toNat)↔c.2∈L.map (·.2):=by
  rw [List.mem_map,List.mem_map]
  constructor
  · rintro ⟨p,hp,e⟩
    refine ⟨p,hp,?_⟩
    have:=hL p hp
    have e:p.2.toNat=c.2.toNat:=e
    show p.2=c.2
    omega
  · rintro ⟨p,hp,e⟩
    exact ⟨p,hp,by show p.2.toNat=c.2.toNat;rw [show p.2=c.2 from e]⟩
def trm (cs:List (Int×Int)) (h r k:Nat) (L:List (Int×Int)):Int:=if L.length<=k then Wc cs h (h - r) (mkL L) (k - L.length) else 0
theorem Qju {cs:List (Int×Int)} {h r k:Nat} (hr:r<h) (hb:∀ p∈cs,0<=p.2) {L:List (Int×Int)} (hL:∀ p∈L,p∈cs) :
    trm cs h r k L=trm cs h (r+1) k L+sumZ (trm cs h (r+1) k) (extS (rowC cs r) L):=by
  have e1:h - r=(h - (r+1))+1:=by omega
  have e2:h - 1 - (h - (r+1))=r:=by omega
  unfold extS
  rw [QfX,QbR]
  unfold trm
  rw [e1]
  by_cases z:L.length<=k
  · rw [if_pos z,if_pos z]
    show stepB (Wc cs h (h - (r+1))) (colN cs (h - 1 - (h - (r+1)))) (mkL L) (k - L.length)=_
    rw [e2]
    unfold stepB
    congr 1
    by_cases z2:k - L.length=0
    · rw [if_pos z2]
      refine (Eq.trans (Qbb (g:=fun _=>0) fun c hc=>?_) (QcX _)).symm
      rw [List.length_append,if_neg (show ¬ (L.length+[c].length<=k) by show ¬ (L.length+1<=k);omega)]
      split<;>rfl
    · rw [if_neg z2]
      unfold colN
      rw [Qew]
      refine Qbb fun c hc=>?_
      have hc':=hb c (List.mem_filter.mp hc).1
      rw [Qnu,Qkq,List.length_append,if_pos (show L.length+[c].length<=k by show L.length+1<=k;omega)]
      have em:=QmY (c:=c) (fun p hp=>hb p (hL p hp)) hc'
      by_cases y:c.2∈L.map (·.2)
      · rw [if_pos (decide_eq_true (em.mpr y)),if_neg (by simpa using y)]
      · rw [if_neg (by rw [decide_eq_true_eq];exact fun q=>y (em.mp q)),if_pos (by simpa using y)]
        show _=Wc cs h (h - (r+1)) _ (k - (L.length+1))
        rw [show k - L.length - 1=k - (L.length+1) by omega]
  · rw [if_neg z,if_neg z,Int.zero_add]
    refine (Eq.trans (Qbb (g:=fun _=>0) fun c hc=>?_) (QcX _)).symm
    rw [List.length_append,if_neg (show ¬ (L.length+[c].length<=k) by show ¬ (L.length+1<=k);omega)]
    split<;>rfl
theorem QfT {cs:List (Int×Int)} {h k:Nat} (hb:∀ p∈cs,0<=p.2):∀ r,r<=h->sumZ (trm cs h r k) (stsN cs r)=Wc cs h h 0 k
  | 0,_=>by
    show (if 0<=k then Wc cs h (h - 0) (mkL []) (k - 0) else 0)+0=_
    rw [if_pos (Nat.zero_le _),Int.add_zero];rfl
  | r+1,hr=>by
    rw [<- QfT hb r (by omega)]
    show sumZ _ (stsN cs r++(stsN cs r).flatMap (extS (rowC cs r)))=_
    rw [QdM,Qev,<- QfY]
    exact (Qbb fun L hL=>Qju (by omega) hb (QdN r L hL)).symm
def cntS (cs:List (Int×Int)) (h k:Nat):Int:=(((stsN cs h).countP fun L=>L.length == k:Nat):Int)
theorem QkP {cs:List (Int×Int)} {h:Nat} (hb:∀ p∈cs,0<=p.2) (k:Nat):cntS cs h k=Wc cs h h 0 k:=by
  rw [<- QfT (k:=k) hb h (Nat.le_refl _)]
  unfold cntS
  rw [<- Qdq]
  refine Qbb fun L _=>?_
  unfold trm
  rw [Nat.sub_self]
  show (if (L.length == k)=true then 1 else 0)=if L.length<=k then (if k - L.length=0 then 1 else 0) else 0
  by_cases z:L.length=k
  · rw [if_pos (by simpa using z),if_pos (by omega),if_pos (by omega)]
  · rw [if_neg (by simpa using z)]
    by_cases z2:L.length<=k
    · rw [if_pos z2,if_neg (by omega)]
    · rw [if_neg z2]
end Rk
namespace L2
open PySem PySem.Spec PyProof.Rows
section
variable {X:Cx}
end
end L2
namespace Dl
open PySem PySem.Spec PyProof.Rows L2 _root_.Rd Rk
end Dl
namespace Rk
open PySem PySem.Spec PyProof.Rows L2 _root_.Rd Dl Rt
theorem QdE {α β:Type} {f g:α->List β}:∀ {xs:List α},(∀ x∈xs,f x=g x)->xs.flatMap f=xs.flatMap g
  | [],_=>rfl
  | x::xs,h=>by rw [List.flatMap_cons,List.flatMap_cons,h x (.head _),QdE fun y hy=>h y (.tail _ hy)]
def Bds (h w:Nat) (cs:List (Int×Int)):Prop:=h<=6/\w<=6/\∀ p∈cs,0<=p.1/\p.1<h/\0<=p.2/\p.2<w
theorem Bds.col {h w:Nat} {cs:List (Int×Int)} (b:Bds h w cs):∀ p∈cs,0<=p.2/\p.2<(w:Int):=fun p hp=>(b.2.2 p hp).2.2
theorem Bds.nn {h w:Nat} {cs:List (Int×Int)} (b:Bds h w cs):∀ p∈cs,0<=p.2:=fun p hp=>(b.2.2 p hp).2.2.1
def lexL:List (Int×Int)->List (Int×Int)->Prop
  | [],[]=>False
  | [],_::_=>True
  | _::_,[]=>False
  | p::L,q::M=>plt p q∨(p=q/\lexL L M)
theorem QkQ (p q:Int×Int):cmpD (pairD p) (pairD q)=if plt p q then .lt else if p=q then .eq else .gt:=by
  obtain ⟨a,b⟩:=p
  obtain ⟨c,d⟩:=q
  show thn (cmpI a c) (thn (cmpI b d) .eq)=_
  unfold cmpI
  by_cases h1:a<c
  · rw [if_pos h1,if_pos (show plt (a,b) (c,d) from Or.inl h1)];rfl
  · rw [if_neg h1]
    by_cases h2:a=c
    · subst h2
      rw [if_pos rfl]
      by_cases h3:b<d
      · rw [if_pos h3,if_pos (show plt (a,b) (a,d) from Or.inr ⟨rfl,h3⟩)];rfl
      · have hn:¬ plt (a,b) (a,d):=fun z=>by
          have z:a<a∨(a=a/\b<d):=z
          omega
        rw [if_neg h3,if_neg hn]
        by_cases h4:b=d
        · subst h4;rw [if_pos rfl,if_pos rfl];rfl
        · rw [if_neg h4,if_neg (fun e=>h4 (Prod.mk.inj e).2)];rfl
    · have hn:¬ plt (a,b) (c,d):=fun z=>by
        have z:a<c∨(a=c/\b<d):=z
        omega
      rw [if_neg h2,if_neg hn,if_neg (fun e=>h2 (Prod.mk.inj e).1)];rfl
theorem Qd8:∀ L M:List (Int×Int),ltD (stT L) (stT M)=true↔lexL L M
  | [],[]=>by
    constructor
    · intro h;cases h
    · intro h;exact h.elim
  | [],_::_=>⟨fun _=>trivial,fun _=>rfl⟩
  | _::_,[]=>by
    constructor
    · intro h;cases h
    · intro h;exact h.elim
  | p::L,q::M=>by
    have ih:=Qd8 L M
    show isL (thn (cmpD (pairD p) (pairD q)) (Qbr (L.map pairD) (M.map pairD)))=true↔_
    have ih:isL (Qbr (L.map pairD) (M.map pairD))=true↔lexL L M:=ih
    rw [QkQ]
    by_cases z:plt p q
    · rw [if_pos z]
      exact ⟨fun _=>.inl z,fun _=>rfl⟩
    · rw [if_neg z]
      by_cases y:p=q
      · rw [if_pos y]
        show isL (Qbr (L.map pairD) (M.map pairD))=true↔_
        rw [ih]
        exact ⟨fun h=>.inr ⟨y,h⟩,fun h=>h.elim (fun e=>absurd e z) fun e=>e.2⟩
      · rw [if_neg y]
        constructor
        · intro h;cases h
        · rintro (h | h)
          · exact absurd h z
          · exact absurd h.1 y
theorem QfA:∀ L:List (Int×Int),¬ lexL L L
  | [],h=>h
  | p::L,h=>by
    rcases h with z | z
    · rcases z with z | z<;>omega
    · exact QfA L z.2
theorem Qku {L M:List (Int×Int)} (h1:lexL L M) (h2:lexL M L):False:=by
  have a:=(Qd8 L M).mpr h1
  have b:=(Qd8 M L).mpr h2
  rw [Qgm _ _ a] at b
  cases b
theorem Ql8 (p q:Int×Int):plt p q∨p=q∨plt q p:=by
  obtain ⟨a,b⟩:=p
  obtain ⟨c,d⟩:=q
  by_cases e:a=c/\b=d
  · exact .inr (.inl (by rw [e.1,e.2]))
  · have:a<c∨(a=c/\b<d)∨c<a∨(c=a/\d<b):=by omega
    rcases this with z | z | z | z
    · exact .inl (.inl z)
    · exact .inl (.inr z)
    · exact .inr (.inr (.inl z))
    · exact .inr (.inr (.inr z))
theorem Qiy:∀ L M:List (Int×Int),lexL L M∨L=M∨lexL M L
  | [],[]=>.inr (.inl rfl)
  | [],_::_=>.inl trivial
  | _::_,[]=>.inr (.inr trivial)
  | p::L,q::M=>by
    rcases Ql8 p q with z | z | z
    · exact .inl (.inl z)
    · subst z
      rcases Qiy L M with y | y | y
      · exact .inl (.inr ⟨rfl,y⟩)
      · exact .inr (.inl (by rw [y]))
      · exact .inr (.inr (.inr ⟨rfl,y⟩))
    · exact .inr (.inr (.inl z))
theorem Qiz:∀ {S T:List (Int×Int)} (c d:Int×Int),S.length=T.length->lexL S T->lexL (S++[c]) (T++[d])
  | [],[],_,_,_,h=>h.elim
  | [],_::_,_,_,e,_=>by cases e
  | _::_,[],_,_,e,_=>by cases e
  | p::S,q::T,c,d,e,h=>by
    rcases h with z | z
    · exact .inl z
    · exact .inr ⟨z.1,Qiz c d (by simpa using e) z.2⟩
theorem Qgn:∀ (S:List (Int×Int)) {c d:Int×Int},plt c d->lexL (S++[c]) (S++[d])
  | [],c,d,h=>.inl h
  | p::S,c,d,h=>.inr ⟨rfl,Qgn S h⟩
def rbI (S:List (Int×Int)):Int:=match S.getLast? with
  | some c=>c.1+1
  | none=>0
def fol (cs S:List (Int×Int)):List (Int×Int):=cs.filter fun c=>decide (rbI S<=c.1) && !decide (c.2∈S.map (·.2))
def evS (cs:List (Int×Int)):Nat->List (List (Int×Int))
  | 0=>[[]]
  | k+1=>(evS cs k).flatMap fun S=>(fol cs S).map fun c=>S++[c]
structure Std (cs L:List (Int×Int)):Prop where
  sub:∀ p∈L,p∈cs
  rows:L.Pairwise fun p q=>p.1<q.1
  cols:(L.map (·.2)).Nodup
theorem Std.nil {cs:List (Int×Int)}:Std cs []:=⟨fun p hp=>(nomatch hp),.nil,.nil⟩
theorem Std.init {cs S:List (Int×Int)} {c:Int×Int} (h:Std cs (S++[c])):Std cs S/\c∈cs/\(∀ p∈S,p.1<c.1)/\c.2∉S.map (·.2):=by
  have r:=List.pairwise_append.mp h.rows
  have k:=h.cols
  rw [List.map_append] at k
  have k:=List.nodup_append.mp k
  refine ⟨⟨fun p hp=>h.sub p (List.mem_append_left _ hp),r.1,k.1⟩,h.sub c (by simp),fun p hp=>r.2.2 p hp c (by simp),fun z=>?_⟩
  exact k.2.2 c.2 z c.2 (by simp) rfl
theorem Std.snoc {cs S:List (Int×Int)} {c:Int×Int} (h:Std cs S) (h1:c∈cs) (h2:∀ p∈S,p.1<c.1) (h3:c.2∉S.map (·.2)):Std cs (S++[c]):=by
  refine ⟨fun p hp=>?_,List.pairwise_append.mpr ⟨h.rows,by simp,fun p hp q hq=>?_⟩,?_⟩
  · rcases List.mem_append.mp hp with z | z
    · exact h.sub p z
    · rw [List.mem_singleton.mp z];exact h1
  · rw [List.mem_singleton.mp hq];exact h2 p hp
  · rw [List.map_append]
    refine List.nodup_append.mpr ⟨h.cols,by simp,fun a ha b hb e=>?_⟩
    have hb:b=c.2:=by simpa using hb
    rw [e,hb] at ha
    exact h3 ha
theorem Qkw {S:List (Int×Int)} (h:S.Pairwise fun p q=>p.1<q.1) {c:Int×Int}:(∀ p∈S,p.1<c.1)∨¬ rbI S<=c.1∨(S=[] ):=by
  by_cases z:S=[]
  · exact .inr (.inr z)
  · by_cases y:rbI S<=c.1
    · refine .inl fun p hp=>?_
      obtain ⟨T,d,rfl⟩:∃ T d,S=T++[d]:=⟨S.dropLast,S.getLast z,(List.dropLast_concat_getLast z).symm⟩
      have y:d.1+1<=c.1:=by unfold rbI at y;rw [List.getLast?_append] at y;simpa using y
      rcases List.mem_append.mp hp with q | q
      · have:=(List.pairwise_append.mp h).2.2 p q d (by simp)
        omega
      · rw [List.mem_singleton.mp q];omega
    · exact .inr (.inl y)
theorem rb_le {S:List (Int×Int)} {c:Int×Int} (h:∀ p∈S,p.1<c.1) (h0:0<=c.1):rbI S<=c.1:=by
  unfold rbI
  cases e:S.getLast? with
  | none=>exact h0
  | some d=>
    have:=h d (List.mem_of_getLast? e)
    show d.1+1<=c.1
    omega
theorem QcG {cs:List (Int×Int)} (h0:∀ p∈cs,0<=p.1):∀ (k:Nat) (L:List (Int×Int)),L∈evS cs k↔Std cs L/\L.length=k
  | 0,L=>by
    constructor
    · intro h;rw [List.mem_singleton.mp h];exact ⟨.nil,rfl⟩
    · rintro ⟨_,h⟩
      cases L with
      | nil=>exact .head _
      | cons a b=>cases h
  | k+1,L=>by
    show L∈(evS cs k).flatMap (fun S=>(fol cs S).map fun c=>S++[c])↔_
    rw [List.mem_flatMap]
    constructor
    · rintro ⟨S,hS,hL⟩
      obtain ⟨c,hc,rfl⟩:=List.mem_map.mp hL
      obtain ⟨st,hl⟩:=(QcG h0 k S).mp hS
      have hc:=List.mem_filter.mp hc
      have hc2:=Bool.and_eq_true_iff.mp hc.2
      refine ⟨st.snoc hc.1 ?_ (by simpa using hc2.2),by rw [List.length_append,hl];rfl⟩
      rcases Qkw st.rows (c:=c) with z | z | z
      · exact z
      · exact absurd (of_decide_eq_true hc2.1) z
      · rw [z];exact fun p hp=>(nomatch hp)
    · rintro ⟨st,hl⟩
      have hne:L≠[]:=fun e=>by rw [e] at hl;cases hl
      obtain ⟨S,c,rfl⟩:∃ T d,L=T++[d]:=⟨L.dropLast,L.getLast hne,(List.dropLast_concat_getLast hne).symm⟩
      obtain ⟨s1,s2,s3,s4⟩:=st.init
      refine ⟨S,(QcG h0 k S).mpr ⟨s1,by rw [List.length_append] at hl;exact Nat.succ.inj hl⟩,List.mem_map.mpr ⟨c,List.mem_filter.mpr ⟨s2,?_⟩,rfl⟩⟩
      rw [Bool.and_eq_true]
      exact ⟨decide_eq_true (rb_le s3 (h0 c s2)),by simpa using s4⟩
theorem Qdg {cs:List (Int×Int)} (hp:cs.Pairwise plt) (h0:∀ p∈cs,0<=p.1):∀ k,(evS cs k).Pairwise lexL
  | 0=>List.pairwise_singleton _ _
  | k+1=>by
    show ((evS cs k).flatMap fun S=>(fol cs S).map fun c=>S++[c]).Pairwise lexL
    rw [List.pairwise_flatMap]
    refine ⟨fun S _=>?_,?_⟩
    · exact List.pairwise_map.mpr ((List.Pairwise.filter _ hp).imp fun h=>Qgn S h)
    · refine List.Pairwise.imp_of_mem (fun {S T} hS hT h=>?_) (Qdg hp h0 k)
      intro x hx y hy
      obtain ⟨c,_,rfl⟩:=List.mem_map.mp hx
      obtain ⟨d,_,rfl⟩:=List.mem_map.mp hy
      exact Qiz c d (by rw [((QcG h0 k S).mp hS).2,((QcG h0 k T).mp hT).2]) h
theorem QbY {cs:List (Int×Int)} (h0:∀ p∈cs,0<=p.1):∀ (i:Nat) (L:List (Int×Int)),L∈stsN cs i↔Std cs L/\∀ p∈L,p.1<(i:Int)
  | 0,L=>by
    constructor
    · intro h;rw [List.mem_singleton.mp h];exact ⟨.nil,fun p hp=>(nomatch hp)⟩
    · rintro ⟨s,h⟩
      cases L with
      | nil=>exact .head _
      | cons a b=>
        have h1:=h a (.head _)
        have h2:=h0 a (s.sub a (.head _))
        exact absurd h1 (by show ¬ a.1<0;omega)
  | i+1,L=>by
    show L∈stsN cs i++(stsN cs i).flatMap (extS (rowC cs i))↔_
    rw [List.mem_append,List.mem_flatMap]
    constructor
    · rintro (h | ⟨S,hS,hL⟩)
      · obtain ⟨a,b⟩:=(QbY h0 i L).mp h
        exact ⟨a,fun p hp=>by have:=b p hp;omega⟩
      · obtain ⟨c,hc,hn,rfl⟩:=Qbu.mp hL
        obtain ⟨a,b⟩:=(QbY h0 i S).mp hS
        have hc:=List.mem_filter.mp hc
        have hr:c.1=(i:Int):=of_decide_eq_true hc.2
        refine ⟨a.snoc hc.1 (fun p hp=>by rw [hr];exact b p hp) hn,fun p hp=>?_⟩
        rcases List.mem_append.mp hp with z | z
        · have:=b p z;omega
        · rw [List.mem_singleton.mp z,hr];omega
    · rintro ⟨s,h⟩
      by_cases z:L=[]
      · left
        rw [z];exact Qhq cs i
      · obtain ⟨S,c,rfl⟩:∃ T d,L=T++[d]:=⟨L.dropLast,L.getLast z,(List.dropLast_concat_getLast z).symm⟩
        obtain ⟨s1,s2,s3,s4⟩:=s.init
        have hc:=h c (by simp)
        by_cases y:c.1=(i:Int)
        · right
          exact ⟨S,(QbY h0 i S).mpr ⟨s1,fun p hp=>by have:=s3 p hp;omega⟩,Qbu.mpr ⟨c,List.mem_filter.mpr ⟨s2,decide_eq_true y⟩,s4,rfl⟩⟩
        · left
          refine (QbY h0 i _).mpr ⟨s,fun p hp=>?_⟩
          rcases List.mem_append.mp hp with q | q
          · have:=s3 p q;omega
          · rw [List.mem_singleton.mp q];omega
theorem Qhp {cs:List (Int×Int)} (nd:cs.Nodup) (h0:∀ p∈cs,0<=p.1):∀ i,(stsN cs i).Nodup
  | 0=>by show [([]:List (Int×Int))].Nodup;simp
  | i+1=>by
    have ih:=Qhp nd h0 i
    show (stsN cs i++(stsN cs i).flatMap (extS (rowC cs i))).Nodup
    refine List.nodup_append.mpr ⟨ih,?_,fun L hL M hM e=>?_⟩
    · show List.Pairwise _ _
      rw [List.pairwise_flatMap]
      refine ⟨fun S _=>?_,ih.imp fun {S T} hne x hx y hy e=>?_⟩
      · unfold extS
        refine List.pairwise_map.mpr ((List.Pairwise.filter _ (List.Pairwise.filter _ nd)).imp fun {c d} hne e=>hne ?_)
        have:=List.append_inj_right' e rfl
        simpa using this
      · obtain ⟨c,_,_,rfl⟩:=Qbu.mp hx
        obtain ⟨d,_,_,rfl⟩:=Qbu.mp hy
        exact hne (List.append_inj_left' e rfl)
    · obtain ⟨S,hS,hM⟩:=List.mem_flatMap.mp hM
      obtain ⟨c,hc,_,rfl⟩:=Qbu.mp hM
      have hr:c.1=(i:Int):=of_decide_eq_true (List.mem_filter.mp hc).2
      have:=((QbY h0 i L).mp hL).2 c (by rw [e];simp)
      omega
theorem Qne {cs:List (Int×Int)} {h k:Nat} (hp:cs.Pairwise plt) (h0:∀ p∈cs,0<=p.1) (hh:∀ p∈cs,p.1<(h:Int)) {Ls:List (List (Int×Int))} (pm:Ls.Perm (stsN cs h)) (pw:(Ls.map stT).Pairwise (fun a b=>ltD b a=false)):Ls.filter (fun L=>L.length == k)=evS cs k:=by
  have nd:Ls.Nodup:=pm.nodup_iff.mpr (Qhp (hp.imp Qla) h0 h)
  have ps:Ls.Pairwise lexL:=by
    have pw:=List.pairwise_map.mp pw
    refine (List.pairwise_and_iff.mpr ⟨nd,pw⟩).imp fun {S T} q=>?_
    rcases Qiy S T with z | z | z
    · exact z
    · exact absurd z q.1
    · have:=(Qd8 T S).mpr z
      rw [q.2] at this;cases this
  have s1:(Ls.filter fun L=>L.length == k).Pairwise lexL:=List.Pairwise.filter _ ps
  have s2:=Qdg hp h0 k
  have n2:(evS cs k).Nodup:=List.Pairwise.imp (R:=lexL) (S:=fun a b=>a≠b) (fun {S T} z (e:S=T)=>QfA S (by rw [<- e] at z;exact z)) s2
  have n1:(Ls.filter fun L=>L.length == k).Nodup:=List.Pairwise.filter _ nd
  have pe:(Ls.filter fun L=>L.length == k).Perm (evS cs k):=(List.perm_ext_iff_of_nodup n1 n2).mpr fun L=>by
    rw [List.mem_filter,QcG h0,pm.mem_iff,QbY h0]
    constructor
    · rintro ⟨⟨a,_⟩,b⟩;exact ⟨a,by simpa using b⟩
    · rintro ⟨a,b⟩;exact ⟨⟨a,fun p hp=>hh p (a.sub p hp)⟩,by simpa using b⟩
  exact List.Perm.eq_of_pairwise (le:=lexL) (fun a b _ _ h1 h2=>(Qku h1 h2).elim) s1 s2 pe
end Rk
namespace Dl
open PySem PySem.Spec PyProof.Rows L2 _root_.Rd Rk
section
variable {X:Cx} {E:XK} {st:Stmt} {we:DE}
def dSetX (i:Nat) (we:DE):DS:=fun D δ=>we δ (fun d=>match d with
  | .list ds=>D.nx (δ.set i (.own ds))
  | d=>D.nx (δ.set i (.v d))) D.ex
theorem Qj0 {i:Nat} (h:PS X st (tAsg (tX .F X.K E we) (QcK i))):PS X st (tS X.K E (dSetX i we)):=by
  refine PS.imp h fun D σ H ⟨F,δ,DD,rel,hw,en⟩=>?_
  refine ⟨F,δ,_,DD.ex,rel,hw,fun d hd v H' rel' kp ⟨vk,fr⟩=>?_,en.ex⟩
  by_cases z:∃ ds,d=.list ds
  · obtain ⟨ds,rfl⟩:=z
    obtain ⟨l,rfl⟩:∃ l,v=.ref l:=by cases vk;exact ⟨_,rfl⟩
    obtain ⟨xs,e,q⟩:=DA.items vk
    have n:=fr l rfl ⟨xs,e⟩
    obtain ⟨r2,st⟩:=rel.seto (i:=i) (x:=.own ds) rel' kp n fun A hA hB=>⟨l,xs,rfl,e,q.mv (fun _ _ _ e=>e) fun a z=>.inl (hB a z),QeT rel n⟩
    exact en.nx.go _ hd _ H' r2 st
  · have hd:DD.nx (δ.set i (.v d)):=by
      cases d<;>first | exact hd | exact absurd ⟨_,rfl⟩ z
    exact en.nx.go _ hd _ H' (rel'.setv vk) ((Stp.kp kp).trans Stp.setv)
theorem QlU (i:Nat) {x:Str} {e:Expr} {pos pos':Pos} {we:DE} (he:QE .F X E e we) (hN:X.N.Nodup) (hi:X.N[i]? = some x:=by rfl) (hx:Loc X.env.scope x:=by first | exact Or.inl rfl | exact Or.inr rfl) (hs:swapsWith e (some (.Name x pos')) pos.line X.env=pure false:=by rfl) (hf:X.fn x=true∨X.env.scope.names.lookup x=some .local:=by first | exact .inl rfl | exact .inr rfl | assumption):QS X E (.Assign [.Name x pos'] e pos) (dSetX i we):=⟨Qj0 (Qa8 hN hi hx he.h hs hf)⟩
end
end Dl
namespace Rk
open PySem PySem.Spec PyProof.Rows L2 _root_.Rd Dl Rt
structure GB (h w:Nat) (cs:List (Int×Int)):Prop where
  bds:Bds h w cs
  srt:cs.Pairwise plt
  few:(stsN cs h).length<=200000
theorem GB.r0 {h w:Nat} {cs:List (Int×Int)} (g:GB h w cs):∀ p∈cs,0<=p.1:=fun p hp=>(g.bds.2.2 p hp).1
theorem GB.rh {h w:Nat} {cs:List (Int×Int)} (g:GB h w cs):∀ p∈cs,p.1<(h:Int):=fun p hp=>(g.bds.2.2 p hp).2.1
theorem QiO {h w:Nat} {cs:List (Int×Int)} (g:GB h w cs) (k:Nat):(evS cs k).Perm ((stsN cs h).filter fun L=>L.length == k):=by
  have nd:=Qhp (g.srt.imp Qla) g.r0 h
  have s2:=Qdg g.srt g.r0 k
  have n2:(evS cs k).Nodup:=List.Pairwise.imp (R:=lexL) (S:=fun a b=>a≠b) (fun {S T} z (e:S=T)=>QfA S (by rw [<- e] at z;exact z)) s2
  refine (List.perm_ext_iff_of_nodup n2 (List.Pairwise.filter _ nd)).mpr fun L=>?_
  rw [List.mem_filter,QcG g.r0,QbY g.r0]
  constructor
  · rintro ⟨a,b⟩;exact ⟨⟨a,fun p hp=>g.rh p (a.sub p hp)⟩,by simpa using b⟩
  · rintro ⟨⟨a,_⟩,b⟩;exact ⟨a,by simpa using b⟩
theorem Qlq {h w:Nat} {cs:List (Int×Int)} (g:GB h w cs) (k:Nat):((evS cs k).length:Int)=Wc cs h h 0 k:=by
  rw [<- QkP g.bds.nn]
  unfold cntS
  rw [(QiO g k).length_eq,List.countP_eq_length_filter]
theorem ev_few {h w:Nat} {cs:List (Int×Int)} (g:GB h w cs) (k:Nat):(evS cs k).length<=200000:=by
  rw [(QiO g k).length_eq]
  exact Nat.le_trans (List.length_filter_le _ _) g.few
def stL:PyData->List (Int×Int)
  | .tuple ds=>ds.map toP
  | _=>[]
theorem Qjw (L:List (Int×Int)):stL (stT L)=L:=Qib L
def QhB (C:Addr):DF:=fun args R EX=>∃ (h w:Nat) (cs:List (Int×Int)) (d:PyData),args=[.v (bdD h w cs),.v d]/\(inW d 0 ((min h w:Nat):Int)=true->R .none)/\(inW d 0 ((min h w:Nat):Int)=false->EX C)
def QlP:DF:=fun args R _=>∃ S:List (Int×Int),args=[.v (stT S)]/\R (.int (rbI S))
def folD:DF:=fun args R _=>∃ (h w:Nat) (cs S:List (Int×Int)),args=[.v (bdD h w cs),.v (stT S)]/\R (.list ((fol cs S).map pairD))
def evD:DF:=fun args R _=>∃ (h w:Nat) (cs:List (Int×Int)) (k:Nat),args=[.v (bdD h w cs),.v (.int k)]/\GB h w cs/\k<=6/\R (.list ((evS cs k).map stT))
def Qfk (CS CM:Addr):DF:=fun args R EX=>∃ (h w:Nat) (cs:List (Int×Int)) (d:PyData),args=[.v (bdD h w cs),.v d]/\GB h w cs/\(inW d 0 ((min h w:Nat):Int)=false->EX CS)/\(∀ k:Nat,d=.int k->k<=min h w->300<Wc cs h h 0 k->EX CM)/\∀ k:Nat,d=.int k->k<=min h w->Wc cs h h 0 k<=300->R (.list ((evS cs k).map stT))
def Qb7 (h w:Nat) (cs:List (Int×Int)) (d:PyData):PyData:=if inW d 0 ((min h w:Nat):Int)=true then (if 300<Wc cs h h 0 (toI d).toNat then .str "many" else .list ((evS cs (toI d).toNat).map stT)) else .str "size"
def Qfh:DF:=fun args R _=>∃ (h w:Nat) (cs:List (Int×Int)) (d:PyData),args=[.v (bdD h w cs),.v d]/\GB h w cs/\R (Qb7 h w cs d)
def QdW:DF:=fun args R _=>∃ (h w:Nat) (cs:List (Int×Int)) (Ls:List (List (Int×Int))) (d:PyData),args=[.v (bdD h w cs),.v (.list (Ls.map stT)),.v d]/\GB h w cs/\Ls.Perm (stsN cs h)/\(Ls.map stT).Pairwise (fun a b=>ltD b a=false)/\R (.bool true)
theorem QcU {h w:Nat} {cs:List (Int×Int)} {d:PyData} (q:inW d 0 ((min h w:Nat):Int)=false):Qb7 h w cs d=.str "size" := by
  unfold Qb7;rw [if_neg (by rw [q];exact Bool.false_ne_true)]
theorem QcV {h w k:Nat} {cs:List (Int×Int)} (q:k<=min h w) (r:300<Wc cs h h 0 k):Qb7 h w cs (.int k)=.str "many" := by
  unfold Qb7
  rw [if_pos (inW_t (by omega) (by omega)),show (toI (.int (k:Int))).toNat=k from Int.toNat_natCast k,if_pos r]
theorem QcW {h w k:Nat} {cs:List (Int×Int)} (q:k<=min h w) (r:Wc cs h h 0 k<=300):Qb7 h w cs (.int k)=.list ((evS cs k).map stT):=by
  unfold Qb7
  rw [if_pos (inW_t (by omega) (by omega)),show (toI (.int (k:Int))).toNat=k from Int.toNat_natCast k,if_neg (by omega)]
theorem Qck {h w:Nat} {cs:List (Int×Int)} (d:PyData):(inW d 0 ((min h w:Nat):Int)=false)∨∃ k:Nat,d=.int k/\k<=min h w:=by
  cases e:inW d 0 ((min h w:Nat):Int) with
  | false=>exact .inl rfl
  | true=>
    obtain ⟨i,rfl,a,b⟩:=inW_e e
    exact .inr ⟨i.toNat,by rw [show ((i.toNat:Nat):Int)=i by omega],by omega⟩
theorem QkI {Ls:List (List (Int×Int))} (h1:Ls.length<=1000) (h2:∀ L∈Ls,L.length<=1000):nd (.list (Ls.map stT))=true/\QcL 3 (.list (Ls.map stT))=true:=by
  refine ⟨Qd5.mpr fun d hd=>?_,?_⟩
  · obtain ⟨L,_,rfl⟩:=List.mem_map.mp hd
    exact Qit L
  · show (decide ((Ls.map stT).length<=1000)&&(Ls.map stT).all (QcL 2))=true
    rw [decide_eq_true (by rw [List.length_map];exact h1),Bool.true_and]
    refine List.all_eq_true.mpr fun d hd=>?_
    obtain ⟨L,hL,rfl⟩:=List.mem_map.mp hd
    show (decide ((L.map pairD).length<=1000)&&(L.map pairD).all (QcL 1))=true
    rw [decide_eq_true (by rw [List.length_map];exact h2 L hL),Bool.true_and]
    refine List.all_eq_true.mpr fun d hd=>?_
    obtain ⟨p,_,rfl⟩:=List.mem_map.mp hd
    rfl
theorem Qb6 {h w:Nat} {cs:List (Int×Int)} (g:GB h w cs) (d:PyData):nd (Qb7 h w cs d)=true/\QcL 3 (Qb7 h w cs d)=true:=by
  rcases Qck (h:=h) (w:=w) (cs:=cs) d with q | ⟨k,rfl,hk⟩
  · rw [QcU q];exact ⟨rfl,rfl⟩
  · by_cases z:300<Wc cs h h 0 k
    · rw [QcV hk z];exact ⟨rfl,rfl⟩
    · rw [QcW hk (by omega)]
      have:=Qlq g k
      refine QkI (by omega) fun L hL=>?_
      have:=((QcG g.r0 k L).mp hL).2
      have:=g.bds.1
      omega
theorem Qm1 {S:List (Int×Int)} {c:Int×Int} (h:S.getLast? = some c):atI (S.map pairD) (-1)=some (pairD c):=by
  obtain ⟨xs,rfl⟩:=List.getLast?_eq_some_iff.mp h
  rw [List.map_append]
  exact QkV _ _
def evG (cs:List (Int×Int)) (d:PyData):List PyData:=(fol cs (stL d)).map fun c=>stT (stL d++[c])
theorem QiP (cs:List (Int×Int)) (k:Nat):((evS cs k).map stT).flatMap (evG cs)=(evS cs (k+1)).map stT:=by
  show _=((evS cs k).flatMap fun S=>(fol cs S).map fun c=>S++[c]).map stT
  rw [List.flatMap_map,List.map_flatMap]
  refine QdE fun S _=>?_
  unfold evG
  rw [Qjw,List.map_map];rfl
end Rk
namespace L2
open PySem PySem.Spec PyProof.Rows
def QlB (N:List Str) (sc:Scope) (M:List Str) (scope:Scope) (cap:List (Option Nat)):Bool:=
  cap.length == M.length&&(M.zip cap).all (fun (x,o)=>match o with
    | none=>true
    | some j=>N[j]? == some x&&(scope.names.lookup x == some .free&&(sc.names.lookup x == some .cell||sc.names.lookup x == some .free))) &&
  (scope.kind == .function&&scope.names.all fun y=>(y.2 != .cell||scope.names.lookup y.1 == some .cell)&&((y.2 != .free||(sc.names.lookup y.1 == some .cell||sc.names.lookup y.1 == some .free))&&(y.2 != .local||scope.names.lookup y.1 == some .local)))
structure CapOkC (N:List Str) (sc:Scope) (M:List Str) (scope:Scope) (cap:List (Option Nat)):Prop where
  len:cap.length=M.length
  own:∀ (i j:Nat) (x:Str),M[i]? = some x->cap[i]? = some (some j)->N[j]? = some x/\scope.names.lookup x=some .free/\(sc.names.lookup x=some .cell∨sc.names.lookup x=some .free)
  kind:scope.kind=.function
  cell:∀ y∈scope.names,y.2=.cell->scope.names.lookup y.1=some .cell
  free:∀ y∈scope.names,y.2=.free->sc.names.lookup y.1=some .cell∨sc.names.lookup y.1=some .free
  loc:∀ y∈scope.names,y.2=.local->scope.names.lookup y.1=some .local
theorem CapOkC.of {N:List Str} {sc:Scope} {M:List Str} {scope:Scope} {cap:List (Option Nat)} (h:QlB N sc M scope cap=true):CapOkC N sc M scope cap:=by
  unfold QlB at h
  simp only [Bool.and_eq_true,List.all_eq_true,beq_iff_eq] at h
  obtain ⟨⟨h1,h2⟩,h3,h4⟩:=h
  refine ⟨h1,fun i j x e1 e2=>?_,h3,fun y hy z=>?_,fun y hy z=>?_,fun y hy z=>?_⟩
  · have hm:(x,some j)∈M.zip cap:=by
      have:(M.zip cap)[i]? = some (x,some j):=by rw [List.getElem?_zip_eq_some];exact ⟨e1,e2⟩
      exact List.mem_of_getElem? this
    have:=h2 _ hm
    simp only [Bool.and_eq_true,beq_iff_eq,Bool.or_eq_true] at this
    exact this
  · have:=(h4 y hy).1
    simpa [z] using this
  · have:=(h4 y hy).2.1
    simpa [z] using this
  · have:=(h4 y hy).2.2
    simpa [z] using this
section
variable {X:Cx} {pins:List (Addr×Obj)} {σ:St} {H H3:Hp} {s3:Shared} {M:List Str} {scope:Scope} {cap:List (Option Nat)} {fp:List Addr} {h4:Heap} {t4:Nat}
end
section
variable {X:Cx} {pins:List (Addr×Obj)} {σ:St} {H:Hp}
end
end L2
namespace Rk
open PySem PySem.Spec PyProof.Rows L2 _root_.Rd Dl
end Rk
namespace Dl
open PySem PySem.Spec PyProof.Rows L2
section
variable {X:Cx} {E:XK}
end
end Dl
namespace Rk
open PySem PySem.Spec PyProof.Rows L2 _root_.Rd
def top (i:Nat):Stmt:=PySem.Challenge.pw_rooklands_k13_stands_listed.main.body.getD i (.Pass ⟨0,0,0,0⟩)
abbrev sWhole:Stmt:=top 22
abbrev sWithin:Stmt:=top 23
abbrev sStandsOf:Stmt:=top 28
abbrev sCounts:Stmt:=top 26
abbrev sMost:Stmt:=top 27
abbrev sEvery:Stmt:=top 29
abbrev sRefSz:Stmt:=top 30
abbrev sFol:Stmt:=top 31
abbrev sRowB:Stmt:=top 32
abbrev sWays:Stmt:=top 33
abbrev sRow:Stmt:=top 34
abbrev lCellAt:Stmt:=top 36
abbrev lPot:Stmt:=top 37
abbrev lTake:Stmt:=top 38
abbrev lBoard:Stmt:=top 39
abbrev lOdd:Stmt:=top 40
abbrev lWhole:Stmt:=top 42
abbrev lSame:Stmt:=top 43
abbrev lStands:Stmt:=top 44
abbrev lKind:Stmt:=top 41
abbrev lTold:Stmt:=top 45
abbrev lRight:Stmt:=top 46
abbrev sLaw:Stmt:=top 47
section
variable {P:Program} {w:World} {K:PySem.W.Frag} {mg:Str->Option Value} {base:Heap}
theorem QjD:FnScope ["_law_script", "_law_k"] ["_law_script", "_law_k"] (Qaa lCellAt):=⟨rfl,rfl,rfl,by decide +kernel,rfl,by decide +kernel,by decide +kernel⟩
theorem Qip {f:Addr} {fd:FuncData} (F:Fun K "_law_cell_at" "_law_cell_at" lCellAt f fd) (T:GlbA mg):FnOk P w K mg base CX0 1 f fd ["_law_script", "_law_k"] (Qb8 K):=by
  refine F.ok QjD (fun vs H Q E h=>?_) (fun cdv A outer s H vs Q E hr h=>?_)
  · obtain ⟨a,ns,k,rfl,_⟩:=h
    rfl
  · obtain ⟨a,ns,n,rfl,hs,hl,h0,k⟩:=h
    refine ⟨_,Qaw (Qfp (QbW QmD (pv 1) (Qax Qa6 (by rfl) T.len QdI (Qae (pv 0) Qaq)) (QaU _)) (QaX (Qbh (Qh0 Qdb (pv 0) (pv 1) (fun _ _=>rfl)))) QbX) (QaX (Qbh QaP)),?_⟩
    refine ⟨_,rfl,_,rfl,a,_,rfl,.inl hs,_,_,rfl,rfl,_,rfl,?_⟩
    refine ite2 (fun hlt=>?_) (fun _=>k 0)
    have hlt':n<(ns.map V.int).length:=of_decide_eq_true hlt
    rw [List.length_map] at hlt'
    obtain ⟨j,rfl⟩:=Int.eq_ofNat_of_zero_le h0
    have hj:j<ns.length:=by omega
    refine ⟨_,rfl,_,rfl,a,_,_,.int ns[j],rfl,rfl,hs,Qau ?_,k _⟩
    rw [List.getElem?_map,List.getElem?_eq_getElem hj];rfl
theorem QgL:FnScope ["_law_cell", "_law_number", "_law_j", "_law_more"] ["_law_cell"] (Qaa lPot):=⟨rfl,rfl,rfl,by decide +kernel,rfl,by decide +kernel,by decide +kernel⟩
theorem ok_pot {f:Addr} {fd:FuncData} (F:Fun K "_law_pot" "_law_pot" lPot f fd) (T:GlbA mg):FnOk P w K mg base CX0 1 f fd ["_law_cell"] spPot:=by
  refine F.ok QgL (fun vs H Q E h=>?_) (fun cdv A outer s H vs Q E hr h=>?_)
  · obtain ⟨c,rfl,_⟩:=h
    rfl
  · obtain ⟨c,rfl,k⟩:=h
    refine ⟨_,Qaw (Qfp (QbW op_ge (pv 0) (Qba Qgf QaP QaP) (QaU _)) (QaX (Qbh (Qlf (Qae (Qba op_sub (pv 0) (Qba Qgf QaP QaP)) Qaq)))) QbX)
      (Qaw (Qa8 (i:=1) QgL.nd rfl (Or.inl rfl) QaP)
      (Qaw (Qk7 PassesOwn.never rfl (QeJ (by rfl) T.range (Qae QaP Qaq)) (Qc3 (i:=2) QgL.nd rfl (Or.inl rfl))
        (Qaw (Qa8 (i:=3) QgL.nd rfl (Or.inl rfl) (Qba QeN (Qba Qdw (Qba Qdx (Qba Qdx (Qba QeN (pv 0) QaP) (Qba Qdw QaP (pv 2))) QaP) QaP) QaP))
        (Qaw (Qa8 (i:=3) QgL.nd rfl (Or.inl rfl) (Qba QeN (Qba Qdx (Qba Qdx (Qba Qdw (pv 3) (pv 3)) (Qba Qdw QaP (pv 2))) QaP) QaP))
        (QaX (Qa8 (i:=1) QgL.nd rfl (Or.inl rfl) (Qba Qdx (Qba Qdw (pv 1) QaP) (pv 3)))))))
      (QaX (Qbh (Qlf (Qae (pv 1) Qaq)))))),?_⟩
    refine ⟨_,rfl,_,_,rfl,rfl,⟨by decide,by decide,by decide⟩,_,_,rfl,rfl,_,rfl,?_⟩
    refine ite2 (fun _=>?_) (fun _=>?_)
    · exact ⟨_,rfl,_,_,rfl,rfl,⟨by decide,by decide,by decide⟩,_,_,rfl,rfl,by show 1<=sizeLine;decide,fun p hp=>k p _ hp⟩
    · refine ⟨64,rfl,by decide,by decide,QiL (n:=64) (fun i σ H2=>∃ n v u,σ=[some (.int c),some (.int n),v,u]/\H2=H) ⟨0,none,none,rfl,rfl⟩ ?_ ?_⟩
      · rintro i σ H2 hi ⟨n,v,u,rfl,rfl⟩
        have b1:=Qgu ((c % 2147483629+7919*(0+(i:Int))+1)*48271) (m:=2147483647) (by decide)
        refine ⟨_,rfl,_,_,rfl,rfl,by show (0:Int)<2147483629;decide,_,rfl,_,_,rfl,rfl,.inl ⟨by decide,by decide⟩,_,_,rfl,rfl,_,_,rfl,rfl,_,_,rfl,rfl,.inr ⟨by decide,by decide⟩,_,_,rfl,rfl,by show (0:Int)<2147483647;decide,?_⟩
        refine ⟨_,rfl,_,rfl,_,_,rfl,rfl,.inl ⟨by omega,by omega⟩,_,rfl,_,_,rfl,rfl,.inl ⟨by decide,by decide⟩,_,_,rfl,rfl,_,_,rfl,rfl,_,_,rfl,rfl,by show (0:Int)<2147483587;decide,?_⟩
        exact ⟨_,rfl,_,_,rfl,rfl,.inr ⟨by decide,by decide⟩,_,rfl,_,_,rfl,rfl,_,_,_,rfl,rfl⟩
      · rintro σ H2 ⟨n,v,u,rfl,rfl⟩
        exact ⟨_,rfl,by show 1<=sizeLine;decide,fun p hp=>k p _ hp⟩
theorem Qk2:FnScope ["_law_pot_here", "_law_far", "_law_found"] ["_law_pot_here", "_law_far"] (Qaa lTake):=⟨rfl,rfl,rfl,by decide +kernel,rfl,by decide +kernel,by decide +kernel⟩
theorem QmK {f:Addr} {fd:FuncData} (F:Fun K "_law_take" "_law_take" lTake f fd) (T:GlbA mg):FnOk P w K mg base CX0 1 f fd ["_law_pot_here", "_law_far"] QfZ:=by
  refine F.ok Qk2 (fun vs H Q E h=>?_) (fun cdv A outer s H vs Q E hr h=>?_)
  · obtain ⟨p,n,m,rfl,_⟩:=h
    rfl
  · obtain ⟨p,n,m,rfl,hp,h0,h1,k⟩:=h
    refine ⟨_,Qaw (Qa8 (i:=2) Qk2.nd rfl (Or.inl rfl) (Qba QeN (Qh0 Qdb (pv 0) QaP (fun _ _=>rfl)) (pv 1)))
      (Qaw (Qk8 (Qba Qkg (Qh0 Qdb (pv 0) QaP (fun _ _=>rfl)) (pv 1)) (pg_sub (pv 0) QaP Qf2))
      (QaX (Qbh (pv 2)))),?_⟩
    have b:=Qgu n h0
    exact ⟨_,rfl,p,_,_,_,rfl,rfl,SqL.of hp,rfl,_,rfl,_,_,rfl,rfl,h0,_,rfl,p,_,_,_,rfl,rfl,SqL.of hp,rfl,_,rfl,_,_,rfl,rfl,⟨h0,h1⟩,_,rfl,p,_,_,_,rfl,rfl,hp,rfl,_,rfl,k _ _ b.1 b.2⟩
end
end Rk
namespace Rk
open PySem PySem.Spec PyProof.Rows L2 _root_.Rd
open Dl
open Rt
section
variable {P:Program} {w:World} {K:PySem.W.Frag} {mg:Str->Option Value} {base:Heap}
theorem Qjz:FnScope ["thing"] ["thing"] (Qaa sWhole):=⟨rfl,rfl,rfl,by decide +kernel,rfl,by decide +kernel,by decide +kernel⟩
theorem Qkh {f   : Addr} {fd  : FuncData} (F:Fun K "is_whole" "is_whole" sWhole f fd) (T:GlbA mg) :
    FnOk P w K mg base CX0 1 f fd ["thing"] (toSp false wholeD):=by
  refine okQ false F Qjz (fun args R EX h=>?_) (fun cdv A outer s H E hr=>?_)
  · obtain ⟨d,rfl,_⟩:=h
    rfl
  · have hU:=Room.u60 hr
    have hI:=Room.i60 hr
    refine ⟨_,Qam (Qc1 (Ql0 (Qag (Qc2 .int (by rfl) T.isinstance (qp 0) (by rfl) T.int QgE)) (QlZ (q_not (Qag (Qc2 .bool (by rfl) T.isinstance (qp 0) (by rfl) T.bool Qb2)))))),fun args R EX h=>?_⟩
    obtain ⟨d,rfl,hR⟩:=h
    cases d<;>exact hR
theorem Qhv:FnScope ["thing", "least", "most"] ["thing", "least", "most"] (Qaa sWithin):=⟨rfl,rfl,rfl,by decide +kernel,rfl,by decide +kernel,by decide +kernel⟩
theorem Qii {f f1  : Addr} {fd fd1:FuncData} (F:Fun K "is_whole_within" "is_whole_within" sWithin f fd) (T:GlbA mg)
    (m1:mg "is_whole" = some (.ref f1)) (G1:FnOk P w K mg base CX0 1 f1 fd1 ["thing"] (toSp false wholeD)) (b1:Binds K fd1 ["thing"] []) (k1:PySem.W.keepIn K (.ref f1)=true) :
    FnOk P w K mg base CX0 2 f fd ["thing", "least", "most"] (toSp false Qfe):=by
  refine okQ false F Qhv (fun args R EX h=>?_) (fun cdv A outer s H E hr=>?_)
  · obtain ⟨d,a,b,rfl,_⟩:=h
    rfl
  · have hU:=Room.u60 hr
    have hI:=Room.i60 hr
    refine ⟨_,Qam (Qc1 (Ql0 (Qao (Qbp G1 (hr.mono (by decide)) (by rfl) m1 k1 b1 QaL (qs_v (qv 0) Qay))) (QlZ (Qas (q_ch Qig Qig (qp 1) (qp 0) (qp 2)))))),fun args R EX h=>?_⟩
    obtain ⟨d,a,b,rfl,hR⟩:=h
    refine ⟨d,rfl,?_⟩
    cases d with
    | int i=>exact iteT (and_if hR)
    | _=>exact hR
theorem QlO:FnScope ["board"] ["board"] (Qaa sMost):=⟨rfl,rfl,rfl,by decide +kernel,rfl,by decide +kernel,by decide +kernel⟩
theorem QmM {f   : Addr} {fd  : FuncData} (F:Fun K "most_size" "most_size" sMost f fd) (T:GlbA mg) :
    FnOk P w K mg base CX0 1 f fd ["board"] (toSp false Qkp):=by
  refine okQ false F QlO (fun args R EX h=>?_) (fun cdv A outer s H E hr=>?_)
  · obtain ⟨h,w,cs,rfl,_⟩:=h
    rfl
  · have hU:=Room.u60 hr
    have hI:=Room.i60 hr
    refine ⟨_,Qam (QbA (Qbg (QbF rfl) QgD (by rfl) T.min Qe3 (qa_P (Qao (q_ix QaF Qa4 (qp 0) (Qao Qak) (fun _ _=>rfl))) (qa_P (Qao (q_ix QaF Qa4 (qp 0) (Qao Qak) (fun _ _=>rfl))) Qah)))),fun args R EX h=>?_⟩
    obtain ⟨h,w,cs,rfl,hR⟩:=h
    exact ⟨_,Qau (j:=0) rfl,_,Qau (j:=1) rfl,Qfv (by split<;>omega) hR⟩
theorem Qcl:FnScope ["below", "columns", "taken", "ways", "column", "bit", "size", "many"] ["below", "columns", "taken"] (Qaa sRow):=⟨rfl,rfl,rfl,by decide +kernel,rfl,by decide +kernel,by decide +kernel⟩
theorem QmH {f   : Addr} {fd  : FuncData} (F:Fun K "ways_with_row" "ways_with_row" sRow f fd) (T:GlbA mg) :
    FnOk P w K mg base CX0 1 f fd ["below", "columns", "taken"] (toSp true QlF):=by
  refine okQ true F Qcl (fun args R EX h=>?_) (fun cdv A outer s H E hr=>?_)
  · obtain ⟨h,w,B,cols,t,rfl,_⟩:=h
    rfl
  · have hU:=Room.u60 hr
    have hI:=Room.i60 hr
    refine ⟨_,Qac (QbU 3 (QdZ Qel Qns (by rfl) T.list QcA (qa_P (Qao (q_ix QaF Qa4 (qp 0) (qp 2) (fun _ _=>rfl))) Qah)) Qcl.nd)
      (Qac (QbP PassesOwn.never rfl (QbV (qv 1)) (QaB 4 Qcl.nd rfl (by first | exact Or.inl rfl | exact Or.inr rfl))
        (Qac (QaN 5 (Qas (Qa0 Qic QgR (Qao Qak) (qp 4))) Qcl.nd)
      (Qam (QdY (QeC (QhL (Qag (Qa0 op_and Qlj (qp 2) (qp 5))))) (Qam (QbP PassesOwn.never rfl (QjJ (by rfl) T.enumerate (Qas (QhS (Qao (q_ix QaF Qa4 (qp 0) (Qag (Qa0 op_or Qlj (qp 2) (qp 5))) (fun _ _=>rfl))) QhR (QhQ (Qag (QjK (Qao Qak))))))) (QeE rfl (Qbf 6 (Qbf 7 QeF Qcl.nd rfl (by first | exact Or.inl rfl | exact Or.inr rfl)) Qcl.nd rfl (by first | exact Or.inl rfl | exact Or.inr rfl)))
        (Qam (QlW 3 ip_add QmP (Qag (Qa0 QaI Qa5 (qp 6) (Qao Qak))) (qp 7))))) Qbt))))
      (Qam (Qfn 3))),fun args R EX h=>?_⟩
    obtain ⟨h,w,B,cols,t,rfl,ht,hc,h6,w6,hR⟩:=h
    refine ⟨_,Qau (Qfi ht),?_⟩
    refine Qce (fun j δ=>∃ ds x4 x5 x6 x7,δ=[.v (.list (tabB h w B)),.v (.list (intN cols)),.v (.int t),.own ds,x4,x5,x6,x7]/\ds=rowB h (stepB B (cols.take j) t)) ⟨_,_,_,_,_,rfl,Qbn fun k _=>?_⟩ ?_ ?_
    · show B t k=B t k+if k=0 then 0 else 0
      split<;>omega
    · rintro j d δ hd ⟨ds,x4,x5,x6,x7,rfl,rfl⟩
      unfold intN at hd
      rw [List.getElem?_map] at hd
      obtain ⟨c,ec,rfl⟩:∃ c:Nat,cols[j]? = some c/\d=.int (c:Int):=by
        cases e:cols[j]? with
        | none=>rw [e] at hd;cases hd
        | some p=>rw [e] at hd;cases hd;exact ⟨p,rfl,rfl⟩
      have hcw:=hc c (List.mem_of_getElem? ec)
      have et:cols.take (j+1)=cols.take j++[c]:=by rw [List.take_add_one,ec];rfl
      refine ⟨⟨by omega,by omega,by decide⟩,trivial,?_⟩
      show if (!tru (.int (Builtin.bitAnd (t:Int) (1*2^((c:Nat):Int).toNat))))=true then _ else _
      rw [Qnw ht hcw w6]
      cases hb:t.testBit c with
      | true=>
        have np:(2:Int)^c≠0:=by
          have:(0:Int)<2^c:=Int.pow_pos (by decide)
          omega
        rw [if_pos rfl]
        refine ifF ?_ ⟨_,_,_,_,_,rfl,Qbn fun k _=>?_⟩
        · show (!((2:Int)^c != 0))=false
          simp [np]
        · unfold stepB
          rw [et,QcY,if_pos hb,Int.add_zero]
      | false=>
        refine ifT rfl ?_
        have olt:=or_lt ht hcw
        refine ⟨.list (rowB h (B (t ||| 2^c))),?_,?_⟩
        · show atI (tabB h w B) (Builtin.bitOr (t:Int) (1*2^((c:Nat):Int).toNat))=_
          rw [or_bit ht hcw w6]
          exact Qau (Qfi olt)
        · show ForR (Qg1 (Dl.cutD (rowB h (B (t ||| 2^c))) none (some (-1)))) _ _ _ _
          rw [QjH]
          refine Qce (fun i δ=>∃ ds x6 x7,δ=[.v (.list (tabB h w B)),.v (.list (intN cols)),.v (.int t),.own ds,.v (.int c),.v (.int (1*2^((c:Nat):Int).toNat)),x6,x7]/\ds=rowB h (fun k=>stepB B (cols.take j) t k+if 1<=k/\k<=i then B (t ||| 2^c) (k - 1) else 0)) ⟨_,_,_,rfl,Qbn fun k _=>?_⟩ ?_ ?_
          · rw [if_neg (by omega),Int.add_zero]
          · rintro i d δ hd ⟨ds,x6,x7,rfl,rfl⟩
            obtain ⟨e,he,rfl⟩:=Qgt hd
            rw [List.getElem?_map] at he
            have hi:i<h:=by
              by_cases z:i<h
              · exact z
              · rw [List.getElem?_eq_none (by rw [List.length_range];omega)] at he;cases he
            rw [List.getElem?_range hi] at he
            cases he
            refine ⟨rfl,i+1,_,?_,Qcm (by omega),_,_,_,rfl,?_⟩
            · rw [QbI]
              exact Qm5 (k:=i+1) (by omega)
            · rw [QjF (by omega)]
              refine Qbn fun k hk=>?_
              show (if k=i+1 then (stepB B (cols.take j) t (i+1)+if 1<=i+1/\i+1<=i then B (t ||| 2^c) (i+1 - 1) else 0)+B (t ||| 2^c) i else stepB B (cols.take j) t k+if 1<=k/\k<=i then B (t ||| 2^c) (k - 1) else 0)=stepB B (cols.take j) t k+if 1<=k/\k<=i+1 then B (t ||| 2^c) (k - 1) else 0
              by_cases z:k=i+1
              · subst z
                rw [if_pos rfl,if_neg (by omega),if_pos (by omega),Nat.add_sub_cancel,Int.add_zero]
              · rw [if_neg z]
                by_cases z2:1<=k/\k<=i
                · rw [if_pos z2,if_pos (by omega)]
                · rw [if_neg z2,if_neg (by omega)]
          · rintro δ ⟨ds,x6,x7,rfl,rfl⟩
            rw [Qec,List.length_map,List.length_range]
            refine ⟨_,_,_,_,_,rfl,Qbn fun k hk=>?_⟩
            unfold stepB
            rw [et]
            by_cases z:k=0
            · subst z
              rw [if_pos rfl,if_neg (by omega),if_pos rfl];omega
            · rw [if_neg z,if_neg z,if_pos (by omega),QcY,if_neg (by rw [hb];decide)];omega
    · rintro δ ⟨ds,x4,x5,x6,x7,rfl,rfl⟩
      unfold intN
      rw [List.length_map,List.take_length]
      exact hR
theorem Qko:(["taken", "high"]:List Str).Nodup:=by decide +kernel
theorem Qgl:(["at", "column", "row"]:List Str).Nodup:=by decide +kernel
theorem Qkn:(["taken", "columns", "table"]:List Str).Nodup:=by decide +kernel
theorem QbS:FnScope ["board", "high", "wide", "cells", "table", "row", "columns"] ["board"] (Qaa sWays):=⟨rfl,rfl,rfl,by decide +kernel,rfl,by decide +kernel,by decide +kernel⟩
theorem QmI {f f1  : Addr} {fd fd1:FuncData} (F:Fun K "ways_to_go_on" "ways_to_go_on" sWays f fd) (T:GlbA mg)
    (m1:mg "ways_with_row" = some (.ref f1)) (G1:FnOk P w K mg base CX0 1 f1 fd1 ["below", "columns", "taken"] (toSp true QlF)) (b1:Binds K fd1 ["below", "columns", "taken"] []) (k1:PySem.W.keepIn K (.ref f1)=true) :
    FnOk P w K mg base CX0 2 f fd ["board"] (toSp true QlH):=by
  refine okQ true F QbS (fun args R EX h=>?_) (fun cdv A outer s H E hr=>?_)
  · obtain ⟨h,w,cs,rfl,_⟩:=h
    rfl
  · have hU:=Room.u60 hr
    have hI:=Room.i60 hr
    refine ⟨_,Qac (Qk4 (qv 0) (QeE rfl (Qbf 1 (Qbf 2 (Qbf 3 QeF QbS.nd rfl (by first | exact Or.inl rfl | exact Or.inr rfl)) QbS.nd rfl (by first | exact Or.inl rfl | exact Or.inr rfl)) QbS.nd rfl (by first | exact Or.inl rfl | exact Or.inr rfl))))
      (Qac (QbU 4 (QbM (qa_D (Qas (QbB ["taken", "high"] [none,some 1] (Qbe (by rfl) T.range (Qag (Qa0 Qic QgR (Qao Qak) (qp 2)))) (fun cl ex s3 H3 C=>⟨(QaB 0 Qko rfl (Or.inl rfl) (Or.inr rfl)),Qbs,(Qas (Qa0 QaI Qa5 (Qag (QbM (qa_D Qak Qah))) (Qag (Qa0 Qif Qli (Qag (QbM (qa_D Qak Qah))) (qp 1)))))⟩))) Qah)) QbS.nd)
      (Qac (QbP PassesOwn.never rfl (QlX (by rfl) T.reversed (by rfl) T.range (qp 1)) (QaB 5 QbS.nd rfl (by first | exact Or.inl rfl | exact Or.inr rfl))
        (Qac (QaN 6 (Qas (QbB ["at", "column", "row"] [none,none,some 5] (QeD (qp 3)) (fun cl ex s3 H3 C=>⟨(QeE rfl (Qbf 0 (Qbf 1 QeF Qgl rfl (Or.inl rfl) (Or.inr rfl)) Qgl rfl (Or.inl rfl) (Or.inr rfl))),(Qcp (Qcb Qgg (Qkk hU) (qp 0) (qp 2) (QaU _))),(qv 1)⟩))) QbS.nd)
      (Qam (qs_ins 4 Qak (Qas (QbB ["taken", "columns", "table"] [none,some 6,some 4] (Qbe (by rfl) T.range (Qag (Qa0 Qic QgR (Qao Qak) (qp 2)))) (fun cl ex s3 H3 C=>⟨(QaB 0 Qkn rfl (Or.inl rfl) (Or.inr rfl)),Qbs,(Qas (QaG G1 (hr.mono (by decide)) (by rfl) m1 k1 b1 QaL (qs_v (q_ix QaF Qa4 (qp 2) (Qao Qak) (fun _ _=>rfl)) (qs_v (qv 1) (qs_v (qv 0) Qay)))))⟩)))))))
      (Qam (Qfn 4)))),fun args R EX h=>?_⟩
    obtain ⟨h,w,cs,rfl,h6,w6,hb,hR⟩:=h
    refine ⟨rfl,⟨by omega,by omega,by decide⟩,?_,QdG (fun _=>.list (PyData.int 1::List.replicate h (.int 0))) (fun d hd k2 hk=>?_) ?_⟩
    · exact Qk9 w6
    · refine ⟨⟨by omega,by omega,by rw [Int.toNat_natCast];show 1*h<=_;omega⟩,?_⟩
      rw [Int.toNat_natCast,QlQ]
      refine ⟨by rw [List.length_replicate];show 1+h<=_;omega,hk⟩
    · have e0:(rngD 0 (1*2^((w:Nat):Int).toNat:Int).toNat).map (fun _=>PyData.list (PyData.int 1::List.replicate h (.int 0)))=tabB h w (Wc cs h 0):=by
        rw [Qd1,Int.toNat_natCast]
        unfold rngD tabB
        rw [List.map_map]
        refine List.map_congr_left fun t _=>?_
        show PyData.list _=PyData.list _
        rw [QjG]
      rw [e0]
      refine ⟨⟨by omega,by omega⟩,Qce (fun i δ=>∃ ds x5 x6,δ=[.v (bdD h w cs),.v (.int h),.v (.int w),.v (.tuple (cs.map pairD)),.own ds,x5,x6]/\ds=tabs cs h w i) ⟨_,_,_,rfl,rfl⟩ ?_ ?_⟩
      · rintro i d δ hd ⟨ds,x5,x6,rfl,rfl⟩
        obtain ⟨hi,rfl⟩:=Qf4 hd
        rw [Int.toNat_natCast] at hi
        have er:((((h:Nat):Int).toNat:Nat):Int) - 1 - (i:Int)=((h - 1 - i:Nat):Int):=by omega
        rw [er]
        refine Qg5 (fun d=>if (toP d).1=((h - 1 - i:Nat):Int) then some (.int (toP d).2) else none) (fun d hd k1 k2 h1 h2=>?_) ?_
        · obtain ⟨p,_,rfl⟩:=List.mem_map.mp hd
          have h1:(if p.1=((h - 1 - i:Nat):Int) then some (PyData.int p.2) else none)=none->k1:=h1
          have h2:∀ e,(if p.1=((h - 1 - i:Nat):Int) then some (PyData.int p.2) else none)=some e->k2 e:=h2
          refine ⟨rfl,?_⟩
          show if decide (p.1=((h - 1 - i:Nat):Int))=true then k2 (.int p.2) else k1
          by_cases z:p.1=((h - 1 - i:Nat):Int)
          · rw [if_pos (decide_eq_true z)];exact h2 _ (if_pos z)
          · rw [if_neg (by simpa using z)];exact h1 (if_neg z)
        · rw [col_fm cs (h - 1 - i) fun p hp=>(hb p hp).1]
          refine ⟨⟨by omega,by omega,by decide⟩,?_,QdG (fun d=>match d with | .int t=>.list (rowB h (Wc cs h (i+1) t.toNat)) | _=>.none) (fun d hd k2 hk=>?_) ?_⟩
          · exact Qk9 w6
          · obtain ⟨t,ht⟩:=List.mem_iff_getElem?.mp hd
            obtain ⟨htl,rfl⟩:=QdU ht
            rw [Qd1,Int.toNat_natCast] at htl
            have hk:k2 (.list (rowB h (Wc cs h (i+1) (0+(t:Int)).toNat))):=hk
            rw [show (0+(t:Int)).toNat=t by omega] at hk
            refine ⟨_,Qau (j:=0) (Qhl cs h w i),h,w,Wc cs h i,colN cs (h - 1 - i),t,by rw [show (0:Int)+(t:Int)=(t:Int) by omega],htl,fun c hc=>Qnn hb hc,h6,w6,hk⟩
          · refine ⟨by rw [QfW];omega,_,_,_,rfl,?_⟩
            show PyData.list _::tabs cs h w i=PyData.list (tabB h w (Wc cs h (i+1)))::tabs cs h w i
            congr 2
            rw [Qd1,Int.toNat_natCast]
            unfold rngD tabB
            rw [List.map_map]
            refine List.map_congr_left fun t _=>?_
            show PyData.list (rowB h (Wc cs h (i+1) (0+(t:Int)).toNat))=_
            rw [show (0+(t:Int)).toNat=t by omega]
      · rintro δ ⟨ds,x5,x6,rfl,rfl⟩
        rw [QdV,Int.toNat_natCast]
        exact hR
theorem Qhz:FnScope ["board"] ["board"] (Qaa sCounts):=⟨rfl,rfl,rfl,by decide +kernel,rfl,by decide +kernel,by decide +kernel⟩
theorem Qio {f f1 f2  : Addr} {fd fd1 fd2:FuncData} (F:Fun K "counts" "counts" sCounts f fd) (T:GlbA mg)
    (m1:mg "ways_to_go_on" = some (.ref f1)) (G1:FnOk P w K mg base CX0 2 f1 fd1 ["board"] (toSp true QlH)) (b1:Binds K fd1 ["board"] []) (k1:PySem.W.keepIn K (.ref f1)=true)
    (m2:mg "most_size" = some (.ref f2)) (G2:FnOk P w K mg base CX0 1 f2 fd2 ["board"] (toSp false Qkp)) (b2:Binds K fd2 ["board"] []) (k2:PySem.W.keepIn K (.ref f2)=true) :
    FnOk P w K mg base CX0 3 f fd ["board"] (toSp true QfI):=by
  refine okQ true F Qhz (fun args R EX h=>?_) (fun cdv A outer s H E hr=>?_)
  · obtain ⟨h,w,cs,rfl,_⟩:=h
    rfl
  · have hU:=Room.u60 hr
    have hI:=Room.i60 hr
    refine ⟨_,Qam (QbA (QhS (Qao (q_ix QaF Qa4 (Qao (q_ix QaF Qa4 (Qag (QaG G1 (hr.mono (by decide)) (by rfl) m1 k1 b1 QaL (qs_v (qv 0) Qay))) (Qao Qak) (fun _ _=>rfl))) (Qao Qak) (fun _ _=>rfl))) QhR (QhQ (Qag (Qa0 QaI Qa5 (Qao (Qbp G2 (hr.mono (by decide)) (by rfl) m2 k2 b2 QaL (qs_v (qv 0) Qay))) (Qao Qak)))))),fun args R EX h=>?_⟩
    obtain ⟨h,w,cs,rfl,h6,w6,hb,hR⟩:=h
    refine ⟨_,_,_,rfl,h6,w6,hb,_,Qau (j:=0) (Qhl cs h w h),_,Qau (j:=0) (Qfi (Nat.two_pow_pos w)),_,_,_,rfl,?_⟩
    have e:Dl.cutD (rowB h (Wc cs h h 0)) none (some (((min h w:Nat):Int)+1))=cntW cs h w:=by
      rw [QkO _ _ (by omega)]
      unfold rowB cntW
      rw [<- List.map_take,List.take_range,show min (((min h w:Nat):Int)+1).toNat (h+1)=min h w+1 by omega]
    have hR:R (.list (cntW cs h w)):=hR
    rw [<- e] at hR
    exact hR
theorem QlN:FnScope ["start"] ["start"] (Qaa sRowB):=⟨rfl,rfl,rfl,by decide +kernel,rfl,by decide +kernel,by decide +kernel⟩
theorem QmL {f   : Addr} {fd  : FuncData} (F:Fun K "row_behind" "row_behind" sRowB f fd) (T:GlbA mg) :
    FnOk P w K mg base CX0 1 f fd ["start"] (toSp false QlP):=by
  refine okQ false F QlN (fun args R EX h=>?_) (fun cdv A outer s H E hr=>?_)
  · obtain ⟨S,rfl,_⟩:=h
    rfl
  · have hU:=Room.u60 hr
    have hI:=Room.i60 hr
    refine ⟨_,Qam (Qc1 (q_ifE (QhL (qp 0)) (Qas (Qa0 QaI Qa5 (Qao (q_ix QaF Qa4 (Qao (q_ix QaF Qa4 (qp 0) (Qag (QjK (Qao Qak))) (fun _ _=>rfl))) (Qao Qak) (fun _ _=>rfl))) (Qao Qak))) Qak)),fun args R EX h=>?_⟩
    obtain ⟨S,rfl,hR⟩:=h
    refine ⟨trivial,?_⟩
    unfold rbI at hR
    cases e:S.getLast? with
    | none=>
      rw [e] at hR
      rw [List.getLast?_eq_none_iff] at e
      subst e
      exact hR
    | some c=>
      rw [e] at hR
      refine ifT ?_ ⟨_,Qm1 e,_,Qau (j:=0) rfl,hR⟩
      cases S with
      | nil=>cases e
      | cons a b=>rfl
theorem QmW:(["cell"]:List Str).Nodup:=by decide +kernel
theorem QmV:(["cell", "row", "taken"]:List Str).Nodup:=by decide +kernel
theorem Qhy:FnScope ["board", "start", "row", "taken"] ["board", "start"] (Qaa sFol):=⟨rfl,rfl,rfl,by decide +kernel,rfl,by decide +kernel,by decide +kernel⟩
theorem ok_fol {f f1  : Addr} {fd fd1:FuncData} (F:Fun K "followers" "followers" sFol f fd) (T:GlbA mg)
    (m1:mg "row_behind" = some (.ref f1)) (G1:FnOk P w K mg base CX0 1 f1 fd1 ["start"] (toSp false QlP)) (b1:Binds K fd1 ["start"] []) (k1:PySem.W.keepIn K (.ref f1)=true) :
    FnOk P w K mg base CX0 2 f fd ["board", "start"] (toSp false folD):=by
  refine okQ false F Qhy (fun args R EX h=>?_) (fun cdv A outer s H E hr=>?_)
  · obtain ⟨h,w,cs,S,rfl,_⟩:=h
    rfl
  · have hU:=Room.u60 hr
    have hI:=Room.i60 hr
    refine ⟨_,Qac (QaN 2 (Qbp G1 (hr.mono (by decide)) (by rfl) m1 k1 b1 QaL (qs_v (qv 1) Qay)) Qhy.nd)
      (Qac (QaN 3 (Qas (QbB ["cell"] [none] (QeD (qp 1)) (fun cl ex s3 H3 C=>⟨(QaB 0 QmW rfl (Or.inl rfl) (Or.inr rfl)),Qbs,(q_ix QaF Qa4 (qp 0) (Qao Qak) (fun _ _=>rfl))⟩))) Qhy.nd)
      (Qam (QbA (QbB ["cell", "row", "taken"] [none,some 2,some 3] (QeD (Qao (q_ix QaF Qa4 (qp 0) (Qao Qak) (fun _ _=>rfl)))) (fun cl ex s3 H3 C=>⟨(QaB 0 QmV rfl (Or.inl rfl) (Or.inr rfl)),(Qcp (q_pw (QhK (Qcb op_ge Qdy (Qao (q_ix QaF Qa4 (qp 0) (Qao Qak) (fun _ _=>rfl))) (qp 1) (QaU _)) (QhJ (Qcb Qc5 (QmQ hI) (Qao (q_ix QaF Qa4 (qp 0) (Qao Qak) (fun _ _=>rfl))) (qp 2) (by rfl)))))),(qv 0)⟩))))),fun args R EX h=>?_⟩
    obtain ⟨h,w,cs,S,rfl,hR⟩:=h
    refine ⟨_,rfl,QdG (fun d=>.int (toP d).2) (fun d hd k2 hk=>?_) ?_⟩
    · obtain ⟨p,_,rfl⟩:=List.mem_map.mp hd
      exact ⟨_,Qau (j:=1) rfl,hk⟩
    · rw [show (S.map pairD).map (fun d=>PyData.int (toP d).2)=(S.map (·.2)).map PyData.int by rw [List.map_map,List.map_map];rfl]
      refine ⟨_,Qau (j:=2) rfl,Qg5 (fun d=>if (fun c:Int×Int=>decide (rbI S<=c.1) && !decide (c.2∈S.map (·.2))) (toP d)=true then some d else none) (fun d hd k1 k2 h1 h2=>?_) ?_⟩
      · obtain ⟨c,_,rfl⟩:=List.mem_map.mp hd
        have h1:(if (decide (rbI S<=c.1) && !decide (c.2∈S.map (·.2)))=true then some (pairD c) else none)=none->k1:=h1
        have h2:∀ e,(if (decide (rbI S<=c.1) && !decide (c.2∈S.map (·.2)))=true then some (pairD c) else none)=some e->k2 e:=h2
        refine ⟨_,Qau (j:=0) rfl,?_⟩
        refine ifC (fun z1=>?_) fun z1=>?_
        · have z1:decide (rbI S<=c.1)=true:=z1
          rw [z1,Bool.true_and] at h1 h2
          refine ⟨_,Qau (j:=1) rfl,⟨Qgk _,rfl,by show PyData.depth (.int _)<=50;unfold PyData.depth;decide⟩,?_⟩
          show if (!((S.map (·.2)).map PyData.int).any fun e=>PyData.eqv e (.int c.2))=true then _ else k1
          rw [Qjk]
          by_cases z:(!decide (c.2∈S.map (·.2)))=true
          · rw [if_pos z];exact h2 _ (if_pos z)
          · rw [if_neg z];exact h1 (if_neg z)
        · have z1:decide (rbI S<=c.1)=false:=z1
          rw [z1] at h1;exact h1 rfl
      · rw [QkH (fun c:Int×Int=>decide (rbI S<=c.1) && !decide (c.2∈S.map (·.2)))]
        exact hR
theorem Qlk:(["stand", "cell", "board"]:List Str).Nodup:=by decide +kernel
theorem QjB:FnScope ["board", "size", "stands", "step"] ["board", "size"] (Qaa sEvery):=⟨rfl,rfl,rfl,by decide +kernel,rfl,by decide +kernel,by decide +kernel⟩
theorem ok_ev {f f1  : Addr} {fd fd1:FuncData} (F:Fun K "every_stand" "every_stand" sEvery f fd) (T:GlbA mg)
    (m1:mg "followers" = some (.ref f1)) (G1:FnOk P w K mg base CX0 2 f1 fd1 ["board", "start"] (toSp false folD)) (b1:Binds K fd1 ["board", "start"] []) (k1:PySem.W.keepIn K (.ref f1)=true) :
    FnOk P w K mg base CX0 3 f fd ["board", "size"] (toSp true evD):=by
  refine okQ true F QjB (fun args R EX h=>?_) (fun cdv A outer s H E hr=>?_)
  · obtain ⟨h,w,cs,k,rfl,_⟩:=h
    rfl
  · have hU:=Room.u60 hr
    have hI:=Room.i60 hr
    refine ⟨_,Qac (QbU 2 (QbM (qa_D (Qas (Qbk Qah)) Qah)) QjB.nd)
      (Qac (QbP PassesOwn.never rfl (Qbe (by rfl) T.range (qp 1)) (QaB 3 QjB.nd rfl (by first | exact Or.inl rfl | exact Or.inr rfl))
        (Qam (QhN ["stand", "cell", "board"] [none,none,some 0] 2 QjB.nd (QkC 0) (QbV (qp 2)) (fun cl ex s3 H3 C=>⟨(QaB 0 Qlk rfl (Or.inl rfl) (Or.inr rfl)),Qbs,(QbV (Qbp G1 (hr.mono (by decide)) (by rfl) m1 k1 b1 QaL (qs_v (qv 2) (qs_v (qv 0) Qay)))),(QaB 1 Qlk rfl (Or.inl rfl) (Or.inr rfl)),Qbs,(Qas (Qa0 QaI Qa5 (qp 0) (Qag (Qbk (qa_D (qv 1) Qah)))))⟩))))
      (Qam (Qfn 2))),fun args R EX h=>?_⟩
    obtain ⟨h,w,cs,k,rfl,g,k6,hR⟩:=h
    refine ⟨⟨by omega,by omega⟩,Qcv (fun i δ=>∃ ds x3,δ=[.v (bdD h w cs),.v (.int k),.own ds,x3]/\ds=(evS cs i).map stT) ⟨_,_,rfl,rfl⟩ ?_ ?_⟩
    · rintro i δ hi ⟨ds,x3,rfl,rfl⟩
      rw [Int.toNat_natCast] at hi
      refine Qnq (evG cs) 200000 (by rw [QiP,List.length_map];exact ev_few g (i+1)) (fun d hd acc N hb hN=>?_) ?_
      · obtain ⟨S,hS,rfl⟩:=List.mem_map.mp hd
        have lS:=((QcG g.r0 i S).mp hS).2
        unfold evG at hb hN
        rw [Qjw] at hb hN
        rw [List.length_map] at hb
        refine ⟨_,_,_,_,rfl,in_map (fun d=>.tuple (S.map pairD++[d])) (by rw [List.length_map];exact Nat.lt_of_le_of_lt hb (by decide)) (fun d hd k2 hk=>?_) ?_⟩
        · exact ⟨by rw [List.length_map];show _+1<=_;omega,hk⟩
        · rw [List.map_map]
          have e:(fol cs S).map ((fun d=>PyData.tuple (S.map pairD++[d]))∘pairD)=(fol cs S).map fun c=>stT (S++[c]):=List.map_congr_left fun c _=>by
            show PyData.tuple (S.map pairD++[pairD c])=PyData.tuple ((S++[c]).map pairD)
            rw [List.map_append];rfl
          rw [e];exact hN
      · rw [QiP]
        exact ⟨_,_,rfl,rfl⟩
    · rintro δ ⟨ds,x3,rfl,rfl⟩
      rw [Int.toNat_natCast]
      exact hR
theorem QjA:FnScope ["board", "size"] ["board", "size"] (Qaa sRefSz):=⟨rfl,rfl,rfl,by decide +kernel,rfl,by decide +kernel,by decide +kernel⟩
theorem Qkj {f f1 f2 CS:Addr} {fd fd1 fd2:FuncData} (F:Fun K "refuse_no_size" "refuse_no_size" sRefSz f fd) (T:GlbA mg)
    (m1:mg "is_whole_within" = some (.ref f1)) (G1:FnOk P w K mg base CX0 2 f1 fd1 ["thing", "least", "most"] (toSp false Qfe)) (b1:Binds K fd1 ["thing", "least", "most"] []) (k1:PySem.W.keepIn K (.ref f1)=true)
    (m2:mg "most_size" = some (.ref f2)) (G2:FnOk P w K mg base CX0 1 f2 fd2 ["board"] (toSp false Qkp)) (b2:Binds K fd2 ["board"] []) (k2:PySem.W.keepIn K (.ref f2)=true)
    (mCS:mg "NoSize" = some (.ref CS)) (qCS:PySem.W.excIn K CS Rx.mroV "ValueError.__new__" = true) :
    FnOk P w K mg base (Rx.CXE P w) 3 f fd ["board", "size"] (toSp false (QhB CS)):=by
  refine okQE false F QjA (fun args R EX h=>?_) (fun cdv A outer s H E hr=>?_)
  · obtain ⟨h,w,cs,d,rfl,_⟩:=h
    rfl
  · have hU:=Room.u60 hr
    have hI:=Room.i60 hr
    refine ⟨_,Qam (QdY (QeC (Qdt (Qao (Qbp G1 (hr.mono (by decide)) (by rfl) m1 k1 b1 QaL (qs_v (qv 1) (qs_v Qak (qs_v (Qbp G2 (hr.mono (by decide)) (by rfl) m2 k2 b2 QaL (qs_v (qv 0) Qay)) Qay))))))) (Qam (Qf6 (fun _ _ h=>h) mCS qCS (Qao Qfo))) Qbt),fun args R EX h=>?_⟩
    obtain ⟨h,w,cs,d,rfl,hR,hX⟩:=h
    refine ⟨_,_,_,rfl,_,_,_,rfl,?_⟩
    cases ha:inW d 0 ((min h w:Nat):Int) with
    | false=>exact hX ha
    | true=>exact hR ha
theorem sc_so:FnScope ["board", "size"] ["board", "size"] (Qaa sStandsOf):=⟨rfl,rfl,rfl,by decide +kernel,rfl,by decide +kernel,by decide +kernel⟩
theorem ok_so {f f1 f2 f3 CM:Addr} {fd fd1 fd2 fd3:FuncData} {CS:Addr} (hA:∃ t,mg "MOST_TOLD" = some (.int 300 t)) (F:Fun K "stands_of" "stands_of" sStandsOf f fd) (T:GlbA mg)
    (m1:mg "refuse_no_size" = some (.ref f1)) (G1:FnOk P w K mg base (Rx.CXE P w) 3 f1 fd1 ["board", "size"] (toSp false (QhB CS))) (b1:Binds K fd1 ["board", "size"] []) (k1:PySem.W.keepIn K (.ref f1)=true)
    (m2:mg "counts" = some (.ref f2)) (G2:FnOk P w K mg base CX0 3 f2 fd2 ["board"] (toSp true QfI)) (b2:Binds K fd2 ["board"] []) (k2:PySem.W.keepIn K (.ref f2)=true)
    (m3:mg "every_stand" = some (.ref f3)) (G3:FnOk P w K mg base CX0 3 f3 fd3 ["board", "size"] (toSp true evD)) (b3:Binds K fd3 ["board", "size"] []) (k3:PySem.W.keepIn K (.ref f3)=true)
    (mCM:mg "TooMany" = some (.ref CM)) (qCM:PySem.W.excIn K CM Rx.mroV "ValueError.__new__" = true) :
    FnOk P w K mg base (Rx.CXE P w) 4 f fd ["board", "size"] (toSp true (Qfk CS CM)):=by
  refine okQE true F sc_so (fun args R EX h=>?_) (fun cdv A outer s H E hr=>?_)
  · obtain ⟨h,w,cs,d,rfl,_⟩:=h
    rfl
  · obtain ⟨tA,mA⟩:=hA
    have hU:=Room.u60 hr
    have hI:=Room.i60 hr
    refine ⟨_,Qac (QlV (Qao (Qbp G1 (hr.mono (by decide)) (by rfl) m1 k1 b1 (Rx.passE (E:=E) (fun _ _ h=>h) rfl rfl rfl) (qs_v (qv 0) (qs_v (qv 1) Qay)))))
      (Qac (QdY (Qcb op_gt Qdy (Qao (q_ix QaF Qa4 (Qag (QaG G2 (hr.mono (by decide)) (by rfl) m2 k2 b2 QaL (qs_v (qv 0) Qay))) (qp 1) (fun _ _=>rfl))) (Qao (q_glob 300 (by rfl) mA ⟨_,rfl⟩)) (QaU _)) (Qam (Qf6 (fun _ _ h=>h) mCM qCM (Qao Qfo))) Qbt)
      (Qam (QbA (QaG G3 (hr.mono (by decide)) (by rfl) m3 k3 b3 QaL (qs_v (qv 0) (qs_v (qv 1) Qay)))))),fun args R EX h=>?_⟩
    obtain ⟨h,w,cs,d,rfl,g,hS,hM,hR⟩:=h
    refine ⟨_,_,_,_,rfl,fun ha=>?_,hS⟩
    rcases Qck (h:=h) (w:=w) (cs:=cs) d with q | ⟨k,rfl,hk⟩
    · rw [q] at ha;cases ha
    · have h6:=g.bds.1
      refine ⟨_,_,_,rfl,g.bds.1,g.bds.2.1,g.bds.col,.int (Wc cs h h 0 k),?_,?_⟩
      · exact Qau (by unfold cntW;rw [List.getElem?_map,List.getElem?_range (by omega)];rfl)
      · refine ifC (fun z=>?_) fun z=>?_
        · exact hM k rfl hk (of_decide_eq_true z)
        · exact ⟨_,_,_,_,rfl,g,by omega,hR k rfl hk (by have:=of_decide_eq_false z;omega)⟩
end
section
variable {P:Program} {w:World} {K:PySem.W.Frag} {mg:Str->Option Value} {base:Heap}
theorem Qhx:FnScope ["_law_thing"] ["_law_thing"] (Qaa lWhole):=⟨rfl,rfl,rfl,by decide +kernel,rfl,by decide +kernel,by decide +kernel⟩
theorem Qim {f   : Addr} {fd  : FuncData} (F:Fun K "_law_whole" "_law_whole" lWhole f fd) (T:GlbA mg) :
    FnOk P w K mg base CX0 1 f fd ["_law_thing"] (toSp false wholeD):=by
  refine okQ false F Qhx (fun args R EX h=>?_) (fun cdv A outer s H E hr=>?_)
  · obtain ⟨d,rfl,_⟩:=h
    rfl
  · have hU:=Room.u60 hr
    have hI:=Room.i60 hr
    refine ⟨_,Qam (Qc1 (Ql0 (Qag (Qc2 .int (by rfl) T.isinstance (qp 0) (by rfl) T.int QgE)) (QlZ (q_not (Qag (Qc2 .bool (by rfl) T.isinstance (qp 0) (by rfl) T.bool Qb2)))))),fun args R EX h=>?_⟩
    obtain ⟨d,rfl,hR⟩:=h
    cases d<;>exact hR
theorem QaO:FnScope ["_law_pot_here", "_law_most", "_law_high", "_law_wide", "_law_way", "_law_thick", "_law_cells", "_law_row", "_law_column", "_law_drawn", "_law_some"] ["_law_pot_here", "_law_most"] (Qaa lBoard):=⟨rfl,rfl,rfl,by decide +kernel,rfl,by decide +kernel,by decide +kernel⟩
theorem Qin {f f1  : Addr} {fd fd1:FuncData} (F:Fun K "_law_board" "_law_board" lBoard f fd) (T:GlbA mg)
    (m1:mg "_law_take" = some (.ref f1)) (G1:FnOk P w K mg base CX0 1 f1 fd1 ["_law_pot_here", "_law_far"] (toSp true takeD)) (b1:Binds K fd1 ["_law_pot_here", "_law_far"] []) (k1:PySem.W.keepIn K (.ref f1)=true) :
    FnOk P w K mg base CX0 2 f fd ["_law_pot_here", "_law_most"] (toSp false QfB):=by
  refine okQ false F QaO (fun args R EX h=>?_) (fun cdv A outer s H E hr=>?_)
  · obtain ⟨m,rfl,_⟩:=h
    rfl
  · have hU:=Room.u60 hr
    have hI:=Room.i60 hr
    refine ⟨_,Qac (QaN 2 (Qas (Qa0 QaI Qa5 (Qao Qak) (Qag (QaG G1 (hr.mono (by decide)) (by rfl) m1 k1 b1 QaL (Qbo 0 (qs_v (qv 1) Qay)))))) QaO.nd)
      (Qac (QaN 3 (Qas (Qa0 QaI Qa5 (Qao Qak) (Qag (QaG G1 (hr.mono (by decide)) (by rfl) m1 k1 b1 QaL (Qbo 0 (qs_v (qv 1) Qay)))))) QaO.nd)
      (Qac (QaN 4 (Qas (QaG G1 (hr.mono (by decide)) (by rfl) m1 k1 b1 QaL (Qbo 0 (qs_v Qak Qay)))) QaO.nd)
      (Qac (QaN 5 (Qas (Qa0 QaI Qa5 (Qao Qak) (Qag (QaG G1 (hr.mono (by decide)) (by rfl) m1 k1 b1 QaL (Qbo 0 (qs_v Qak Qay)))))) QaO.nd)
      (Qac (QbU 6 (QbM Qah) QaO.nd)
      (Qac (QbP PassesOwn.never rfl (Qbe (by rfl) T.range (qp 2)) (QaB 7 QaO.nd rfl (by first | exact Or.inl rfl | exact Or.inr rfl))
        (Qam (QbP PassesOwn.never rfl (Qbe (by rfl) T.range (qp 3)) (QaB 8 QaO.nd rfl (by first | exact Or.inl rfl | exact Or.inr rfl))
        (Qac (QaN 9 (Qas (QjM QmD Qdy (Qag (QaG G1 (hr.mono (by decide)) (by rfl) m1 k1 b1 QaL (Qbo 0 (qs_v Qak Qay)))) (qp 5) (QaU _))) QaO.nd)
      (Qac (QaN 10 (Qas (Qa0 QaI Qa5 (Qag (Qa0 Qif Qli (Qag (QbM (qa_D (qv 9) Qah))) (Qao Qak))) (Qag (QbM (qa_D q_bl (qa_D q_bl (qa_D (Qas (QjM QmD Qdy (qp 8) (qp 7) (QaU _))) (qa_D (Qas (QjM Qgg (Qkk hU) (Qag (Qa0 QeN QgR (Qag (Qa0 QaI Qa5 (qp 7) (qp 8))) (Qao Qak))) (Qao Qak) (QaU _))) (qa_D (Qas (QjM Qig Qdy (qp 7) (qp 8) (QaU _))) Qah))))))))) QaO.nd)
      (Qam (QdY (QhL (Qao (q_ix QaF Qa4 (qp 10) (qp 4) (fun _ _=>rfl)))) (Qam (QhP 6 (Qas (Qbk (qa_D (qv 7) (qa_D (qv 8) Qah)))))) Qbt)))))))
      (Qam (QbA (Qbk (qa_D (qv 2) (qa_D (qv 3) (qa_D (Qas (QdZ QbQ QgC (by rfl) T.tuple Qci (qa_P (qp 6) Qah))) Qah))))))))))),fun args R EX h=>?_⟩
    obtain ⟨m,rfl,m1,m6,hR⟩:=h
    refine ⟨_,rfl,by omega,by omega,fun rh rh0 rh1=>⟨_,rfl,by omega,by omega,fun rw0 rw1 rw2=>?_⟩⟩
    refine ⟨_,rfl,by decide,by decide,fun way way0 way1=>⟨_,rfl,by decide,by decide,fun th th0 th1=>?_⟩⟩
    obtain ⟨h,hh⟩:∃ h:Nat,(h:Int)=1+rh:=⟨(1+rh).toNat,by omega⟩
    obtain ⟨w,hw⟩:∃ w:Nat,(w:Int)=1+rw0:=⟨(1+rw0).toNat,by omega⟩
    rw [<- hh,<- hw]
    refine ⟨⟨by omega,by omega⟩,Qcv (fun i δ=>∃ f ds x1 x2 x3 x4,δ=[.pot,.v (.int m),.v (.int h),.v (.int w),.v (.int way),.v (.int (1+th)),.own ds,x1,x2,x3,x4]/\ds=(QaE i w f).map pairD) ⟨fun _ _=>false,_,_,_,_,_,rfl,rfl⟩ ?_ ?_⟩
    · rintro i δ hi ⟨f,ds,x1,x2,x3,x4,rfl,rfl⟩
      refine ⟨⟨by omega,by omega⟩,Qcv (fun j δ=>∃ f ds x2 x3 x4,δ=[.pot,.v (.int m),.v (.int h),.v (.int w),.v (.int way),.v (.int (1+th)),.own ds,.v (.int (0+(i:Int))),x2,x3,x4]/\ds=(QaE i w f++rowF i j f).map pairD) ⟨f,_,_,_,_,rfl,by rw [show rowF i 0 f=[] from rfl,List.append_nil]⟩ ?_ ?_⟩
      · rintro j δ hj ⟨f,ds,x2,x3,x4,rfl,rfl⟩
        refine ⟨_,rfl,by decide,by decide,fun dr dr0 dr1=>?_⟩
        refine ⟨⟨by decide,by decide,by show 1*5<=_;decide⟩,by show (0:Int)<2;decide,by show 5+5<=_;decide,?_⟩
        refine Qkx way0 (by show way<10;exact way1) fun d hd=>?_
        obtain ⟨b,rfl⟩:∃ b,d=.bool b:=Qar (p:=fun d=>∃ b,d=PyData.bool b) ⟨_,rfl⟩ (Qar ⟨_,rfl⟩ (Qar ⟨_,rfl⟩ (Qar ⟨_,rfl⟩ (Qar ⟨_,rfl⟩ (Qar ⟨_,rfl⟩ (Qar ⟨_,rfl⟩ (Qar ⟨_,rfl⟩ (Qar ⟨_,rfl⟩ (Qar ⟨_,rfl⟩ Qjn))))))))) d hd
        refine ⟨trivial,?_⟩
        have ec:QaE i w (updF f i j b)++rowF i (j+1) (updF f i j b)=QaE i w f++rowF i j f++(if b=true then [((i:Int),(j:Int))] else []):=by
          rw [Qg6 (Nat.le_refl _),QhA,QjE (Nat.le_refl _),<- List.append_assoc,show updF f i j b i j=b from if_pos ⟨rfl,rfl⟩]
        cases b with
        | false=>
          refine ⟨updF f i j false,_,_,_,_,rfl,?_⟩
          rw [ec,if_neg (by decide),List.append_nil]
        | true=>
          have l1:=Qcz w f i
          have l2:=QcM i j f
          have l3:i*w<=6*6:=Nat.mul_le_mul (by omega) (by omega)
          refine ⟨by rw [List.length_map,List.length_append];omega,updF f i j true,_,_,_,_,rfl,?_⟩
          rw [ec,if_pos rfl,List.map_append (l₁:=QaE i w f++rowF i j f),show (0:Int)+(i:Int)=(i:Int) by omega,show (0:Int)+(j:Int)=(j:Int) by omega]
          rfl
      · rintro δ ⟨f,ds,x2,x3,x4,rfl,rfl⟩
        exact ⟨f,_,_,_,_,_,rfl,by rw [QaR,Int.toNat_natCast]⟩
    · rintro δ ⟨f,ds,x1,x2,x3,x4,rfl,rfl⟩
      rw [Int.toNat_natCast]
      exact hR h w f (by omega) (by omega) (by omega) (by omega)
theorem QgT:(["_law_cell", "_law_row"]:List Str).Nodup:=by decide +kernel
theorem Qdz:(["_law_line", "_law_column"]:List Str).Nodup:=by decide +kernel
theorem QgS:(["_law_cell", "_law_columns", "_law_stand"]:List Str).Nodup:=by decide +kernel
theorem Qa2:FnScope ["_law_board_here", "_law_found", "_law_row", "_law_cells", "_law_more", "_law_stand", "_law_columns"] ["_law_board_here"] (Qaa lStands):=⟨rfl,rfl,rfl,by decide +kernel,rfl,by decide +kernel,by decide +kernel⟩
theorem Qik {f   : Addr} {fd  : FuncData} (F:Fun K "_law_stands" "_law_stands" lStands f fd) (T:GlbA mg) :
    FnOk P w K mg base CX0 2 f fd ["_law_board_here"] (toSp false Qd9):=by
  refine okQ false F Qa2 (fun args R EX h=>?_) (fun cdv A outer s H E hr=>?_)
  · obtain ⟨h,w,cs,rfl,_⟩:=h
    rfl
  · have hU:=Room.u60 hr
    have hI:=Room.i60 hr
    refine ⟨_,Qac (QaN 1 (Qas (QbM (qa_D (Qas (Qbk Qah)) Qah))) Qa2.nd)
      (Qac (QbP PassesOwn.never rfl (Qbe (by rfl) T.range (Qao (q_ix QaF Qa4 (qp 0) (Qao Qak) (fun _ _=>rfl)))) (QaB 2 Qa2.nd rfl (by first | exact Or.inl rfl | exact Or.inr rfl))
        (Qac (QhO ["_law_cell", "_law_row"] [none,some 2] 3 Qa2.nd (QeD (Qao (q_ix QaF Qa4 (qp 0) (Qao Qak) (fun _ _=>rfl)))) (fun cl ex s3 H3 C=>⟨(QaB 0 QgT rfl (Or.inl rfl) (Or.inr rfl)),(Qcp (Qcb Qgg (Qkk hU) (Qao (q_ix QaF Qa4 (qp 0) (Qao Qak) (fun _ _=>rfl))) (qp 1) (QaU _))),(qv 0)⟩))
      (Qac (QbU 4 (QbM Qah) Qa2.nd)
      (Qac (QbP PassesOwn.never rfl (QbV (qv 1)) (QaB 5 Qa2.nd rfl (by first | exact Or.inl rfl | exact Or.inr rfl))
        (Qac (QaN 6 (Qas (QbB ["_law_line", "_law_column"] [none,none] (QeD (qp 5)) (fun cl ex s3 H3 C=>⟨(QeE rfl (Qbf 0 (Qbf 1 QeF Qdz rfl (Or.inl rfl) (Or.inr rfl)) Qdz rfl (Or.inl rfl) (Or.inr rfl))),Qbs,(qv 1)⟩))) Qa2.nd)
      (Qam (Qk3 4 (Qag (QbB ["_law_cell", "_law_columns", "_law_stand"] [none,some 6,some 5] (QbV (qp 3)) (fun cl ex s3 H3 C=>⟨(QaB 0 QgS rfl (Or.inl rfl) (Or.inr rfl)),(Qcp (Qcb Qc5 (QmQ hI) (Qao (q_ix QaF Qa4 (qp 0) (Qao Qak) (fun _ _=>rfl))) (qp 1) (by rfl))),(Qas (Qa0 QaI Qa5 (qp 2) (Qag (Qbk (qa_D (qv 0) Qah)))))⟩)))))))
      (Qam (QaN 1 (Qas (Qa0 QaI Qa5 (qp 1) (qp 4))) Qa2.nd))))))
      (Qam (QbA (Qbg (Qg7 hU) QkR (by rfl) T.sorted Qi8 (qa_P (qp 1) Qah))))),fun args R EX h=>?_⟩
    obtain ⟨h,w,cs,rfl,h6,hr,hR⟩:=h
    refine ⟨_,Qau (j:=0) rfl,⟨by omega,by omega⟩,Qcv (fun i δ=>∃ x1 x2 x3 x4 x5 x6,δ=[.v (bdD h w cs),x1,x2,x3,x4,x5,x6]/\x1=.v (.list ((stsN cs i).map stT))) ⟨_,_,_,_,_,_,rfl,rfl⟩ ?_ ?_⟩
    · rintro i δ hi ⟨x1,x2,x3,x4,x5,x6,rfl,rfl⟩
      rw [Int.toNat_natCast] at hi
      have b1:=QdO hr i
      have b2:=pow7 (i:=i) (by omega)
      refine ⟨_,Qau (j:=2) rfl,Qg5 (fun d=>if (toP d).1=(i:Int) then some d else none) (fun d hd k1 k2 hk1 hk2=>?_) ?_⟩
      · obtain ⟨p,_,rfl⟩:=List.mem_map.mp hd
        refine ⟨_,Qau (j:=0) rfl,?_⟩
        have hk1:(if p.1=(i:Int) then some (pairD p) else none)=none->k1:=hk1
        have hk2:∀ e,(if p.1=(i:Int) then some (pairD p) else none)=some e->k2 e:=hk2
        show if decide (p.1=0+(i:Int))=true then k2 (pairD p) else k1
        rw [show (0:Int)+(i:Int)=(i:Int) by omega]
        by_cases z:p.1=(i:Int)
        · rw [if_pos (decide_eq_true z)];exact hk2 _ (if_pos z)
        · rw [if_neg (by simpa using z)];exact hk1 (if_neg z)
      · rw [row_fm]
        refine Qce (fun j δ=>∃ ds x5 x6,δ=[.v (bdD h w cs),.v (.list ((stsN cs i).map stT)),.v (.int (0+(i:Int))),.v (.list ((rowC cs i).map pairD)),.own ds,x5,x6]/\ds=(((stsN cs i).take j).flatMap (extS (rowC cs i))).map stT) ⟨_,_,_,rfl,rfl⟩ ?_ ?_
        · rintro j d δ hd ⟨ds,x5,x6,rfl,rfl⟩
          rw [List.getElem?_map] at hd
          obtain ⟨L,eL,rfl⟩:∃ L,(stsN cs i)[j]? = some L/\d=stT L:=by
            cases e:(stsN cs i)[j]? with
            | none=>rw [e] at hd;cases hd
            | some L=>rw [e] at hd;cases hd;exact ⟨L,rfl,rfl⟩
          refine QdG (fun d=>.int (toP d).2) (fun d hd k2 hk=>?_) ?_
          · obtain ⟨p,_,rfl⟩:=List.mem_map.mp hd
            exact ⟨rfl,hk⟩
          · rw [show (L.map pairD).map (fun d=>PyData.int (toP d).2)=(L.map (·.2)).map PyData.int by rw [List.map_map,List.map_map];rfl]
            have lL:=QcZ i L (List.mem_of_getElem? eL)
            refine Qg5 (fun d=>if (toP d).2∈L.map (·.2) then none else some (.tuple (L.map pairD++[d]))) (fun d hd k1 k2 hk1 hk2=>?_) ?_
            · obtain ⟨p,_,rfl⟩:=List.mem_map.mp hd
              have hk1:(if p.2∈L.map (·.2) then none else some (PyData.tuple (L.map pairD++[pairD p])))=none->k1:=hk1
              have hk2:∀ e,(if p.2∈L.map (·.2) then none else some (PyData.tuple (L.map pairD++[pairD p])))=some e->k2 e:=hk2
              refine ⟨_,Qau (j:=1) rfl,⟨Qgk _,rfl,by show PyData.depth (.int _)<=50;unfold PyData.depth;decide⟩,?_⟩
              show if (!((L.map (·.2)).map PyData.int).any fun e=>PyData.eqv e (.int p.2))=true then _ else k1
              rw [Qjk]
              by_cases z:p.2∈L.map (·.2)
              · rw [if_neg (by simpa using z)];exact hk1 (if_pos z)
              · rw [if_pos (by simpa using z)]
                exact ⟨by rw [List.length_map];show _+1<=_;omega,hk2 _ (if_neg z)⟩
            · rw [ext_fm]
              have c1:((stsN cs i).take (j+1)).flatMap (extS (rowC cs i))=((stsN cs i).take j).flatMap (extS (rowC cs i))++extS (rowC cs i) L:=by
                rw [List.take_add_one,eL,List.flatMap_append];simp
              have c2:=QcP (xs:=(stsN cs i).take (j+1)) (f:=extS (rowC cs i)) (k:=6) fun L _=>Nat.le_trans (Qeb (rowC cs i) L) (hr i)
              rw [c1,List.length_append] at c2
              have c3:((stsN cs i).take (j+1)).length<=(stsN cs i).length:=List.length_take_le' _ _
              have c4:((stsN cs i).take (j+1)).length*6<=7^i*6:=Nat.mul_le_mul_right 6 (Nat.le_trans c3 b1)
              refine ⟨by rw [List.length_map,List.length_map];omega,_,_,_,rfl,?_⟩
              rw [c1,List.map_append]
        · rintro δ ⟨ds,x5,x6,rfl,rfl⟩
          rw [List.length_map,List.take_length]
          have c2:=QcP (xs:=stsN cs i) (f:=extS (rowC cs i)) (k:=6) fun L _=>Nat.le_trans (Qeb (rowC cs i) L) (hr i)
          have c4:(stsN cs i).length*6<=7^i*6:=Nat.mul_le_mul_right 6 b1
          refine ⟨by rw [List.length_map,List.length_map];omega,_,_,_,_,_,_,rfl,?_⟩
          show Sl.v (.list ((stsN cs i).map stT++((stsN cs i).flatMap (extS (rowC cs i))).map stT))=.v (.list ((stsN cs i++(stsN cs i).flatMap (extS (rowC cs i))).map stT))
          rw [List.map_append]
    · rintro δ ⟨x1,x2,x3,x4,x5,x6,rfl,rfl⟩
      rw [Int.toNat_natCast]
      refine (Qjx (Qc0 (stsN cs h)) fun es pm pw=>?_).1
      obtain ⟨Ls,p2,rfl⟩:=QcF stT pm rfl
      exact hR Ls p2 pw
theorem Qk1:FnScope ["_law_pot_here", "_law_some"] ["_law_pot_here"] (Qaa lOdd):=⟨rfl,rfl,rfl,by decide +kernel,rfl,by decide +kernel,by decide +kernel⟩
theorem ok_odd {f f1  : Addr} {fd fd1:FuncData} (F:Fun K "_law_odd" "_law_odd" lOdd f fd) (T:GlbA mg)
    (m1:mg "_law_take" = some (.ref f1)) (G1:FnOk P w K mg base CX0 1 f1 fd1 ["_law_pot_here", "_law_far"] (toSp true takeD)) (b1:Binds K fd1 ["_law_pot_here", "_law_far"] []) (k1:PySem.W.keepIn K (.ref f1)=true) :
    FnOk P w K mg base CX0 2 f fd ["_law_pot_here"] (toSp false QmZ):=by
  refine okQ false F Qk1 (fun args R EX h=>?_) (fun cdv A outer s H E hr=>?_)
  · obtain ⟨rfl,_⟩:=h
    rfl
  · have hU:=Room.u60 hr
    have hI:=Room.i60 hr
    refine ⟨_,Qac (QaN 1 (Qas (QbM (qa_D q_non (qa_D q_bl (qa_D q_bl (qa_D (Qas (QjK (Qao Qak))) (qa_D Qak (qa_D (Qas (Qa0 Qgf QgR (Qao Qak) (Qao Qak))) (qa_D Qfo (qa_D Qfo (qa_D Qfo (qa_D (Qas (Qbk Qah)) (qa_D (Qas (Qbk (qa_D Qak Qah))) (qa_D (Qas (Qbk (qa_D Qak (qa_D Qak Qah)))) (qa_D (Qas (QbM (qa_D Qak Qah))) (qa_D q_dct (qa_D (Qas (Qbk (qa_D (Qas (Qbk (qa_D Qak (qa_D Qak Qah)))) Qah))) (qa_D (Qas (QbM (qa_D (Qas (Qbk (qa_D Qak (qa_D Qak Qah)))) Qah))) Qah)))))))))))))))))) Qk1.nd)
      (Qam (Qc1 (q_ix QaF Qa4 (qp 1) (Qag (QaG G1 (hr.mono (by decide)) (by rfl) m1 k1 b1 QaL (Qbo 0 (qs_v Qak Qay)))) (fun _ _=>rfl)))),fun args R EX h=>?_⟩
    obtain ⟨rfl,hR⟩:=h
    refine ⟨⟨by decide,by decide,by decide⟩,_,rfl,by decide,by decide,fun r r0 r1=>Qkx r0 r1 fun d hd=>hR d ?_⟩
    exact Qar (p:=Qf1) (QaQ rfl) (Qar (QaQ rfl) (Qar (QaQ rfl) (Qar (QaQ rfl) (Qar (QaQ rfl) (Qar (QaQ rfl) (Qar (QaQ rfl) (Qar (QaQ rfl) (Qar (QaQ rfl) (Qar (QdS (by decide)) (Qar (QdS (by decide)) (Qar (QdS (by decide)) (Qar (QaQ rfl) (Qar (QaQ rfl) (Qar (QdS (by decide)) (Qar (QaQ rfl) (Qjn)))))))))))))))) d hd
end
end Rk
namespace Rk
open PySem PySem.Spec PyProof.Rows L2 _root_.Rd
section
variable {P:Program} {w:World} {K:PySem.W.Frag} {mg:Str->Option Value} {base:Heap}
theorem QcD:FnScope ["_law_e", "_law_some", "_law_words"] ["_law_e"] (Qaa lKind):=⟨rfl,rfl,rfl,by decide +kernel,rfl,by decide +kernel,by decide +kernel⟩
theorem QmN {f c1 c2 c3 c4 c5 c6 c7 c8 c9 c10 c11 c12 c13 c14 c15 c16 c17 c18 c19:Addr} {fd:FuncData} (F:Fun K "_law_kind_of" "_law_kind_of" lKind f fd) (T:GlbA mg) (mV:mg "ValueError" = none)
    (m1:mg "NoText" = some (.ref c1)) (m2:mg "NoOrder" = some (.ref c2)) (m3:mg "NoLines" = some (.ref c3)) (m4:mg "TooFew" = some (.ref c4)) (m5:mg "NoSize" = some (.ref c5)) (m6:mg "TooMany" = some (.ref c6)) (m7:mg "NoNumber" = some (.ref c7)) (m8:mg "NoStand" = some (.ref c8)) (m9:mg "NoCell" = some (.ref c9)) (m10:mg "NotSquare" = some (.ref c10)) (m11:mg "NoHits" = some (.ref c11)) (m12:mg "NoCounts" = some (.ref c12)) (m13:mg "NoStairs" = some (.ref c13)) (m14:mg "NotAlike" = some (.ref c14)) (m15:mg "NoParting" = some (.ref c15)) (m16:mg "NoPlace" = some (.ref c16)) (m17:mg "Double" = some (.ref c17)) (m18:mg "NoDeed" = some (.ref c18)) (m19:mg "NoRow" = some (.ref c19)) :
    Rx.FnM P w K mg base 1 f fd ["_law_e"] (Qf0 K [c1,c2,c3,c4,c5,c6,c7,c8,c9,c10,c11,c12,c13,c14,c15,c16,c17,c18,c19]):=by
  refine Rx.okM F QcD (fun vs H Q E h=>?_) (fun cdv A outer s H vs Q E hr h=>?_)
  · obtain ⟨a,C,bs,j,wd,rfl,_⟩:=h
    rfl
  · obtain ⟨a,C,bs,j,wd,rfl,ha,hc,pb,eV,hcnt,hj,hm,hw,k⟩:=h
    refine' ⟨_,Qaw (Qa8 (i:=1) QcD.nd rfl (Or.inl rfl) (QbC (Qdv (x := "_law_e") (ns:=["NoText", "NoOrder", "NoLines", "TooFew"]) (cs:=[c1,c2,c3,c4]) rfl (Or.inl rfl) (by decide) (by decide) (by rfl) T.isinstance (by decide +kernel) (by rfl) (.cons m1 (.cons m2 (.cons m3 (.cons m4 .nil))))))) ?p1,?rd⟩
    case p1=>
      show PSs _ _ _
      refine' Qaw (Qa8 (i:=1) QcD.nd rfl (Or.inl rfl) (Qba Qc6 (pv 1) (QbC (Qdv (x := "_law_e") (ns:=["NoSize", "TooMany", "NoNumber", "NoStand"]) (cs:=[c5,c6,c7,c8]) rfl (Or.inl rfl) (by decide) (by decide) (by rfl) T.isinstance (by decide +kernel) (by rfl) (.cons m5 (.cons m6 (.cons m7 (.cons m8 .nil)))))))) ?_
      show PSs _ _ _
      refine' Qaw (Qa8 (i:=1) QcD.nd rfl (Or.inl rfl) (Qba Qc6 (pv 1) (QbC (Qdv (x := "_law_e") (ns:=["NoCell", "NotSquare", "NoHits", "NoCounts"]) (cs:=[c9,c10,c11,c12]) rfl (Or.inl rfl) (by decide) (by decide) (by rfl) T.isinstance (by decide +kernel) (by rfl) (.cons m9 (.cons m10 (.cons m11 (.cons m12 .nil)))))))) ?_
      show PSs _ _ _
      refine' Qaw (Qa8 (i:=1) QcD.nd rfl (Or.inl rfl) (Qba Qc6 (pv 1) (QbC (Qdv (x := "_law_e") (ns:=["NoStairs", "NotAlike", "NoParting", "NoPlace"]) (cs:=[c13,c14,c15,c16]) rfl (Or.inl rfl) (by decide) (by decide) (by rfl) T.isinstance (by decide +kernel) (by rfl) (.cons m13 (.cons m14 (.cons m15 (.cons m16 .nil)))))))) ?_
      show PSs _ _ _
      refine' Qaw (Qa8 (i:=1) QcD.nd rfl (Or.inl rfl) (Qba Qc6 (pv 1) (QbC (Qdv (x := "_law_e") (ns:=["Double", "NoDeed", "NoRow"]) (cs:=[c17,c18,c19]) rfl (Or.inl rfl) (by decide) (by decide) (by rfl) T.isinstance (by decide +kernel) (by rfl) (.cons m17 (.cons m18 (.cons m19 .nil))))))) ?_
      show PSs _ _ _
      refine' Qaw (Qfp (QjN (QbW QmB (Qh2 PySem.F.plainAttrs_list PySem.F.slot_list_count PySem.F.type_list_count Rx.mt_count (pv 1) (Qae QjV Qaq)) QaP (QaU _)) (QhT (Qk6 (QeI (Qax Rx.call_isEx (by rfl) T.isinstance Qap (Qae (pv 0) (Qae (QaZ (v:=.ty "ValueError") (by rfl) mV bt_ve rfl) Qaq))))))).pt (QaX (Qbh QhZ)) QbX) ?_
      show PSs _ _ _
      refine' Qaw ?a1 ?_
      case a1=>
        refine' Qa8 (i:=2) (hs:=?hh) (hf:=?hf) ?hN ?hi ?hx ?he
        case hN=>exact QcD.nd
        case hi=>exact rfl
        case hx=>exact Or.inl rfl
        case hf=>exact Or.inl rfl
        case hh=>kernel_rfl
        case he=>
          refine' QbC ?ww
          case ww=>exact Qfq (ws:=Qer.take 10) (by kernel_rfl)
      show PSs _ _ _
      refine' Qaw ?a2 ?_
      case a2=>
        refine' Qa8 (i:=2) (hs:=?hh) (hf:=?hf) ?hN ?hi ?hx ?he
        case hN=>exact QcD.nd
        case hi=>exact rfl
        case hx=>exact Or.inl rfl
        case hf=>exact Or.inl rfl
        case hh=>kernel_rfl
        case he=>
          refine' Qba Qc6 (pv 2) ?ww
          case ww=>
            refine' QbC ?w2
            case w2=>exact Qfq (ws:=Qer.drop 10) (by kernel_rfl)
      show PSs _ _ _
      exact QaX (Qbh (Qh0 Qdb (pv 2) (Qh2 PySem.F.plainAttrs_list PySem.F.slot_list_index PySem.F.type_list_index Rx.mt_index (pv 1) (Qae QjV Qaq)) (fun _ _=>rfl)))
    obtain ⟨b1,bs1,rfl,q1,pb1⟩:=Qai pb
    obtain ⟨b2,bs2,rfl,q2,pb2⟩:=Qai pb1
    obtain ⟨b3,bs3,rfl,q3,pb3⟩:=Qai pb2
    obtain ⟨b4,bs4,rfl,q4,pb4⟩:=Qai pb3
    obtain ⟨b5,bs5,rfl,q5,pb5⟩:=Qai pb4
    obtain ⟨b6,bs6,rfl,q6,pb6⟩:=Qai pb5
    obtain ⟨b7,bs7,rfl,q7,pb7⟩:=Qai pb6
    obtain ⟨b8,bs8,rfl,q8,pb8⟩:=Qai pb7
    obtain ⟨b9,bs9,rfl,q9,pb9⟩:=Qai pb8
    obtain ⟨b10,bs10,rfl,q10,pb10⟩:=Qai pb9
    obtain ⟨b11,bs11,rfl,q11,pb11⟩:=Qai pb10
    obtain ⟨b12,bs12,rfl,q12,pb12⟩:=Qai pb11
    obtain ⟨b13,bs13,rfl,q13,pb13⟩:=Qai pb12
    obtain ⟨b14,bs14,rfl,q14,pb14⟩:=Qai pb13
    obtain ⟨b15,bs15,rfl,q15,pb15⟩:=Qai pb14
    obtain ⟨b16,bs16,rfl,q16,pb16⟩:=Qai pb15
    obtain ⟨b17,bs17,rfl,q17,pb17⟩:=Qai pb16
    obtain ⟨b18,bs18,rfl,q18,pb18⟩:=Qai pb17
    obtain ⟨b19,bs19,rfl,q19,pb19⟩:=Qai pb18
    cases QgO pb19
    refine ⟨a,C,[b1,b2,b3,b4],rfl,ha,hc,(.cons q1 (.cons q2 (.cons q3 (.cons q4 .nil)))),by show 4<=1000;decide,fun l1 H1 s1 n1 e_1=>?_⟩
    have h1:=s1 _ _ ha
    refine ⟨_,rfl,a,C,[b5,b6,b7,b8],rfl,h1,hc,(.cons q5 (.cons q6 (.cons q7 (.cons q8 .nil)))),by show 4<=1000;decide,fun l2 H2 s2 n2 e_2=>⟨l1,l2,_,_,rfl,rfl,s2 _ _ e_1,e_2,by show 8<=1000;decide,fun l3 H3 s3 n3 e_3=>?_⟩⟩
    have h3:=s3 _ _ (s2 _ _ h1)
    refine ⟨_,rfl,a,C,[b9,b10,b11,b12],rfl,h3,hc,(.cons q9 (.cons q10 (.cons q11 (.cons q12 .nil)))),by show 4<=1000;decide,fun l4 H4 s4 n4 e_4=>⟨l3,l4,_,_,rfl,rfl,s4 _ _ e_3,e_4,by show 12<=1000;decide,fun l5 H5 s5 n5 e_5=>?_⟩⟩
    have h5:=s5 _ _ (s4 _ _ h3)
    refine ⟨_,rfl,a,C,[b13,b14,b15,b16],rfl,h5,hc,(.cons q13 (.cons q14 (.cons q15 (.cons q16 .nil)))),by show 4<=1000;decide,fun l6 H6 s6 n6 e_6=>⟨l5,l6,_,_,rfl,rfl,s6 _ _ e_5,e_6,by show 16<=1000;decide,fun l7 H7 s7 n7 e_7=>?_⟩⟩
    have h7:=s7 _ _ (s6 _ _ h5)
    refine ⟨_,rfl,a,C,[b17,b18,b19],rfl,h7,hc,(.cons q17 (.cons q18 (.cons q19 .nil))),by show 3<=1000;decide,fun l8 H8 s8 n8 e_8=>⟨l7,l8,_,_,rfl,rfl,s8 _ _ e_7,e_8,by show 19<=1000;decide,fun l9 H9 s9 n9 e_9=>?_⟩⟩
    have h9:=s9 _ _ (s8 _ _ h7)
    have S:=((((((((s1.trans s2).trans s3).trans s4).trans s5).trans s6).trans s7).trans s8).trans s9)
    have EL:H9 l9=some (.lst (([b1,b2,b3,b4,b5,b6,b7,b8,b9,b10,b11,b12,b13,b14,b15,b16,b17,b18,b19]:List Bool).map V.bl)):=e_9
    refine ⟨_,rfl,.inl ⟨rfl,_,SqL.of EL⟩,l9,_,rfl,rfl,EL,rfl,_,rfl,?_⟩
    rw [hcnt]
    refine QiD rfl ?_
    refine ⟨_,rfl,a,C,.ty "ValueError",.type "ValueError",true,rfl,h9,hc,(fun u r=>r),eV,_,rfl,?_⟩
    refine ⟨by show 10<=1000;decide,fun l10 H10 s10 n10 e_10=>?_⟩
    refine ⟨_,rfl,by show 9<=1000;decide,fun l11 H11 s11 n11 e_11=>⟨l10,l11,_,_,rfl,rfl,s11 _ _ e_10,e_11,by show 19<=1000;decide,fun l12 H12 s12 n12 e_12=>?_⟩⟩
    have EL2:=s12 _ _ (s11 _ _ (s10 _ _ EL))
    refine ⟨_,rfl,_,rfl,.inl ⟨rfl,_,SqL.of EL2⟩,l9,_,j,rfl,rfl,EL2,hj,hm,?_⟩
    have EW:H12 l12=some (.lst (Qer.map V.str)):=e_12
    exact ⟨l12,_,_,.str wd,rfl,rfl,SqL.of EW,Qau (by rw [List.getElem?_map,hw];rfl),k H12 (((S.trans s10).trans s11).trans s12)⟩
end
end Rk
namespace Rk
open PySem PySem.Spec PyProof.Rows L2 _root_.Rd
open Dl
open Rt
theorem fm_sts (g:List (Int×Int)->Bool) (Ls:List (List (Int×Int))):(Ls.map stT).filterMap (fun d=>if g (stL d)=true then some d else none)=(Ls.filter g).map stT:=by
  rw [List.filterMap_map]
  refine QiM (p:=g) (k:=stT) fun L _=>?_
  show (if g (stL (stT L))=true then some (stT L) else none)=_
  rw [Qjw]
section
variable {P:Program} {w:World} {K:PySem.W.Frag} {mg:Str->Option Value} {base:Heap}
theorem Qhw:FnScope ["_law_board_here", "_law_size", "_law_e"] ["_law_board_here", "_law_size"] (Qaa lTold):=⟨rfl,rfl,rfl,by decide +kernel,rfl,by decide +kernel,by decide +kernel⟩
theorem QmJ {f f1  : Addr} {fd fd1:FuncData} {CS CM:Addr} (F:Fun K "_law_told" "_law_told" lTold f fd) (T:GlbA mg)
    (m1:mg "stands_of" = some (.ref f1)) (G1:FnOk P w K mg base (Rx.CXE P w) 4 f1 fd1 ["board", "size"] (toSp true (Qfk CS CM))) (b1:Binds K fd1 ["board", "size"] []) (k1:PySem.W.keepIn K (.ref f1)=true)
    {fK R:Addr} {cs:List Addr} {fdK:FuncData} (mK:mg "_law_kind_of" = some (.ref fK)) (GK:Rx.FnM P w K mg base 1 fK fdK ["_law_e"] (Qf0 K cs)) (bK:Binds K fdK ["_law_e"] []) (kK:PySem.W.keepIn K (.ref fK)=true) (mR:mg "RookError" = some (.ref R)) (oS:KOk K cs R CS "size") (oM:KOk K cs R CM "many") :
    FnOk P w K mg base CX0 5 f fd ["_law_board_here", "_law_size"] (toSp true Qfh):=by
  refine okQ true F Qhw (fun args R EX h=>?_) (fun cdv A outer s H E hr=>?_)
  · obtain ⟨h,w,cs,d,rfl,_⟩:=h
    rfl
  · have hU:=Room.u60 hr
    have hI:=Room.i60 hr
    refine ⟨_,Qam (qs_try (i:=2) (ks:=fun C wd=>KOk K cs R C wd) (QlJ (QlK (QlE G1 (hr.mono (by decide)) (by rfl) m1 k1 b1 (qs_v (qv 0) (qs_v (qv 1) Qay))))) Qhw.nd mR (QlY GK (hr.mono (by decide)) mK kK bK) (fun o=>handled o)),fun args R EX h=>?_⟩
    obtain ⟨h,w,cs,d,rfl,g,hR⟩:=h
    refine ⟨_,_,_,_,rfl,g,fun ha=>⟨"size",oS,by decide +kernel,?_⟩,fun k ed hk hm=>⟨"many",oM,by decide +kernel,?_⟩,fun k ed hk hm=>?_⟩
    · rw [QcU ha] at hR;exact ⟨rfl,hR⟩
    · subst ed
      rw [QcV hk hm] at hR;exact ⟨rfl,hR⟩
    · subst ed
      rw [QcW hk hm] at hR;exact hR
theorem Qiu:(["_law_stand", "_law_size"]:List Str).Nodup:=by decide +kernel
theorem Qb9:FnScope ["_law_board_here", "_law_every", "_law_size", "_law_due", "_law_found"] ["_law_board_here", "_law_every", "_law_size"] (Qaa lRight):=⟨rfl,rfl,rfl,by decide +kernel,rfl,by decide +kernel,by decide +kernel⟩
theorem Qki {f f1 f2  : Addr} {fd fd1 fd2:FuncData} (F:Fun K "_law_right" "_law_right" lRight f fd) (T:GlbA mg)
    (m1:mg "_law_told" = some (.ref f1)) (G1:FnOk P w K mg base CX0 5 f1 fd1 ["_law_board_here", "_law_size"] (toSp true Qfh)) (b1:Binds K fd1 ["_law_board_here", "_law_size"] []) (k1:PySem.W.keepIn K (.ref f1)=true)
    (m2:mg "_law_same" = some (.ref f2)) (G2:FnOk P w K mg base CX0 5 f2 fd2 ["_law_found", "_law_due"] (toSp false (sameD 3))) (b2:Binds K fd2 ["_law_found", "_law_due"] []) (k2:PySem.W.keepIn K (.ref f2)=true) :
    FnOk P w K mg base CX0 6 f fd ["_law_board_here", "_law_every", "_law_size"] (toSp false QdW):=by
  refine okQ false F Qb9 (fun args R EX h=>?_) (fun cdv A outer s H E hr=>?_)
  · obtain ⟨h,w,cs,Ls,d,rfl,_⟩:=h
    rfl
  · have hU:=Room.u60 hr
    have hI:=Room.i60 hr
    refine ⟨_,Qac (QaN 3 Qfo Qb9.nd)
      (Qac (QdY (q_pw (QhK (Qdt (Qag (Qc2 .int (by rfl) T.isinstance (qp 2) (by rfl) T.int QgE))) (QhK (QeC (Qdt (Qag (Qc2 .bool (by rfl) T.isinstance (qp 2) (by rfl) T.bool Qb2)))) (QhJ (qt_ch Qig Qig (Qao Qak) (qp 2) (Qag (Qbg (QbF rfl) QgD (by rfl) T.min Qe3 (qa_P (Qao (q_ix QaF Qa4 (qp 0) (Qao Qak) (fun _ _=>rfl))) (qa_P (Qao (q_ix QaF Qa4 (qp 0) (Qao Qak) (fun _ _=>rfl))) Qah))))))))) (Qac (QhO ["_law_stand", "_law_size"] [none,some 2] 3 Qb9.nd (QbV (qp 1)) (fun cl ex s3 H3 C=>⟨(QaB 0 Qiu rfl (Or.inl rfl) (Or.inr rfl)),(Qcp (Qcb Qgg (Qkk hU) (Qag (Qbg Qe2 Qly (by rfl) T.len QdI (qa_P (qp 0) Qah))) (qp 1) (QaU _))),(qv 0)⟩))
      (Qam (QdY (Qcb op_gt Qdy (Qag (Qbg Qe2 Qly (by rfl) T.len QdI (qa_P (qp 3) Qah))) (Qao Qak) (QaU _)) (Qam (QaN 3 Qfo Qb9.nd)) Qbt))) Qbt)
      (Qac (QlU 4 (QaG G1 (hr.mono (by decide)) (by rfl) m1 k1 b1 QaL (qs_v (qv 0) (qs_v (qv 2) Qay))) Qb9.nd)
      (Qac (QdY (QeC (Qdt (Qag (Qf7 G2 (hr.mono (by decide)) (by rfl) m2 k2 b2 QaL (qa_P (qp 4) (qa_P (qp 3) Qah)))))) (Qam (Qc1 q_bl)) Qbt)
      (Qac (QdY (Qdt (Qag (Qc2 .list (by rfl) T.isinstance (qp 4) (by rfl) T.list QcA))) (Qam (QhP 4 (Qas (Qbk Qah)))) Qbt)
      (Qam (QbA (Qf7 G2 (hr.mono (by decide)) (by rfl) m2 k2 b2 QaL (qa_P (Qag (QaG G1 (hr.mono (by decide)) (by rfl) m1 k1 b1 QaL (qs_v (qv 0) (qs_v (qv 2) Qay)))) (qa_P (qp 3) Qah))))))))),fun args R EX h=>?_⟩
    obtain ⟨h,w,cs,Ls,d,rfl,g,pm,pw,hR⟩:=h
    rcases Qck (h:=h) (w:=w) (cs:=cs) d with q | ⟨k,rfl,hk⟩
    · have E:=QcU (cs:=cs) q
      cases d with
      | int i=>
        have q:(decide (0<=i)&&decide (i<=((min h w:Nat):Int)))=false:=q
        refine ifC (fun z1=>?_) fun z1=>?_
        · rw [show decide (0<=i)=true from z1,Bool.true_and] at q
          refine ⟨_,Qau (j:=0) rfl,_,Qau (j:=1) rfl,Qfv (k:=((min h w:Nat):Int)) (by split<;>omega) (ifF q ?_)⟩
          obtain ⟨f1,f2⟩:=Qb6 g (.int i)
          rw [E] at f1 f2
          refine ⟨_,_,_,_,rfl,g,?_⟩
          rw [E]
          refine ⟨_,rfl,f1,f2,rfl,?_⟩
          refine ⟨_,_,_,_,rfl,g,?_⟩
          rw [E]
          exact ⟨_,rfl,f1,f2,rfl,hR⟩
        · skip
          obtain ⟨f1,f2⟩:=Qb6 g (.int i)
          rw [E] at f1 f2
          refine ⟨_,_,_,_,rfl,g,?_⟩
          rw [E]
          refine ⟨_,rfl,f1,f2,rfl,?_⟩
          refine ⟨_,_,_,_,rfl,g,?_⟩
          rw [E]
          exact ⟨_,rfl,f1,f2,rfl,hR⟩
      | _=>
        skip
        refine ⟨_,_,_,_,rfl,g,?_⟩
        rw [E]
        refine ⟨_,rfl,rfl,rfl,rfl,?_⟩
        refine ⟨_,_,_,_,rfl,g,?_⟩
        rw [E]
        exact ⟨_,rfl,rfl,rfl,rfl,hR⟩
    · refine ⟨_,Qau (j:=0) rfl,_,Qau (j:=1) rfl,Qfv (k:=((min h w:Nat):Int)) (by split<;>omega) (ifT (decide_eq_true (show (k:Int)<=((min h w:Nat):Int) by omega)) ?_)⟩
      have cnt:=Qlq g k
      refine Qg5 (fun d=>if (fun L:List (Int×Int)=>L.length == k) (stL d)=true then some d else none) (fun d hd k1 k2 h1 h2=>?_) ?_
      · obtain ⟨L,_,rfl⟩:=List.mem_map.mp hd
        rw [Qjw] at h1 h2
        have h1:(if (L.length == k)=true then some (stT L) else none)=none->k1:=h1
        have h2:∀ e,(if (L.length == k)=true then some (stT L) else none)=some e->k2 e:=h2
        show if decide (((L.map pairD).length:Int)=(k:Int))=true then k2 (stT L) else k1
        rw [List.length_map]
        by_cases z:L.length=k
        · rw [if_pos (decide_eq_true (by omega))];exact h2 _ (if_pos (by simpa using z))
        · rw [if_neg (by rw [decide_eq_true_eq];omega)];exact h1 (if_neg (by simpa using z))
      · rw [fm_sts (fun L:List (Int×Int)=>L.length == k),Qne g.srt g.r0 g.rh pm pw]
        refine ifC (fun z=>?_) fun z=>?_
        · have z:=of_decide_eq_true z
          rw [List.length_map] at z
          have E:=QcV (cs:=cs) hk (by omega)
          obtain ⟨f1,f2⟩:=Qb6 g (.int k)
          rw [E] at f1 f2
          refine ⟨_,_,_,_,rfl,g,?_⟩
          rw [E]
          refine ⟨_,rfl,f1,f2,rfl,?_⟩
          refine ⟨_,_,_,_,rfl,g,?_⟩
          rw [E]
          exact ⟨_,rfl,f1,f2,rfl,hR⟩
        · have z:=of_decide_eq_false z
          rw [List.length_map] at z
          have E:=QcW (cs:=cs) hk (by omega)
          obtain ⟨f1,f2⟩:=Qb6 g (.int k)
          rw [E] at f1 f2
          refine ⟨_,_,_,_,rfl,g,?_⟩
          rw [E]
          refine ⟨_,rfl,f1,f2,rfl,?_⟩
          refine ⟨by rw [List.length_map];omega,?_⟩
          refine ⟨_,_,_,_,rfl,g,?_⟩
          rw [E]
          exact ⟨_,rfl,f1,f2,rfl,hR⟩
end
theorem Qjl (xs:List PyData):xs.all (fun _=>true)=true:=List.all_eq_true.mpr fun _ _=>rfl
theorem gb_of {h w:Nat} (f:Nat->Nat->Bool) (h6:h<=6) (w6:w<=6) (few:(w+1)^h<=200000):GB h w (QaE h w f):=⟨⟨h6,w6,fun p hp=>QeZ hp⟩,QeG w f h,Nat.le_trans (QdO (fun r=>QbT w h f r) h) few⟩
theorem QkF {h w:Nat} (f:Nat->Nat->Bool) (h5:h<=5) (w5:w<=5):GB h w (QaE h w f):=gb_of f (by omega) (by omega) (by
  have a:(w+1)^h<=6^h:=Nat.pow_le_pow_left (by omega) h
  have b:6^h<=6^5:=Nat.pow_le_pow_right (by decide) h5
  have e:(6:Nat)^5=7776:=rfl
  omega)
section
variable {P:Program} {w:World} {K:PySem.W.Frag} {mg:Str->Option Value} {base:Heap}
theorem QmU:(["_law_size", "_law_board_here", "_law_every"]:List Str).Nodup:=by decide +kernel
theorem QmT:(["_law_turn", "_law_high", "_law_pot_here", "_law_wide"]:List Str).Nodup:=by decide +kernel
theorem QmS:(["_law_column", "_law_gone", "_law_row"]:List Str).Nodup:=by decide +kernel
theorem QmR:(["_law_size", "_law_board_here", "_law_every"]:List Str).Nodup:=by decide +kernel
theorem Qbd:FnScope ["_law_script", "_law_k", "_law_pot_here", "_law_board_here", "_law_every", "_law_few", "_law_sizes", "_law_high", "_law_wide", "_law_gone", "_law_cells", "_law_row"] ["_law_script"] (Qaa sLaw):=⟨rfl,rfl,rfl,by decide +kernel,rfl,by decide +kernel,by decide +kernel⟩
theorem ok_law {f f1 f2 f3 f4 f5 f6 f7  : Addr} {fd fd1 fd2 fd3 fd4 fd5 fd6 fd7:FuncData} (F:Fun K "law" "law" sLaw f fd) (T:GlbA mg)
    (m1:mg "_law_cell_at" = some (.ref f1)) (G1:FnOk P w K mg base CX0 1 f1 fd1 ["_law_script", "_law_k"] (Qb8 K)) (b1:Binds K fd1 ["_law_script", "_law_k"] []) (k1:PySem.W.keepIn K (.ref f1)=true)
    (m2:mg "_law_pot" = some (.ref f2)) (G2:FnOk P w K mg base CX0 1 f2 fd2 ["_law_cell"] (toSp true potD)) (b2:Binds K fd2 ["_law_cell"] []) (k2:PySem.W.keepIn K (.ref f2)=true)
    (m3:mg "_law_take" = some (.ref f3)) (G3:FnOk P w K mg base CX0 1 f3 fd3 ["_law_pot_here", "_law_far"] (toSp true takeD)) (b3:Binds K fd3 ["_law_pot_here", "_law_far"] []) (k3:PySem.W.keepIn K (.ref f3)=true)
    (m4:mg "_law_board" = some (.ref f4)) (G4:FnOk P w K mg base CX0 2 f4 fd4 ["_law_pot_here", "_law_most"] (toSp false QfB)) (b4:Binds K fd4 ["_law_pot_here", "_law_most"] []) (k4:PySem.W.keepIn K (.ref f4)=true)
    (m5:mg "_law_stands" = some (.ref f5)) (G5:FnOk P w K mg base CX0 2 f5 fd5 ["_law_board_here"] (toSp false Qd9)) (b5:Binds K fd5 ["_law_board_here"] []) (k5:PySem.W.keepIn K (.ref f5)=true)
    (m6:mg "_law_odd" = some (.ref f6)) (G6:FnOk P w K mg base CX0 2 f6 fd6 ["_law_pot_here"] (toSp false QmZ)) (b6:Binds K fd6 ["_law_pot_here"] []) (k6:PySem.W.keepIn K (.ref f6)=true)
    (m7:mg "_law_right" = some (.ref f7)) (G7:FnOk P w K mg base CX0 6 f7 fd7 ["_law_board_here", "_law_every", "_law_size"] (toSp false QdW)) (b7:Binds K fd7 ["_law_board_here", "_law_every", "_law_size"] []) (k7:PySem.W.keepIn K (.ref f7)=true) :
    FnOk P w K mg base CX0 7 f fd ["_law_script"] (spLawD K):=by
  refine okQL F Qbd (fun cdv A outer s H E hr=>?_)
  have hU:=Room.u60 hr
  have hI:=Room.i60 hr
  refine ⟨_,Qac (QbP PassesOwn.never rfl (Qbe (by rfl) T.range (Qag (Qbg (Qi6 rfl) Qnr (by rfl) T.max bt_max (qa_P (Qao Qak) (qa_P (Qag (Qbg (QbF rfl) Qeg (by rfl) T.min Qe3 (qa_P (Qag (q_lenS 0 (by rfl) T.len)) (qa_P (Qao Qak) Qah)))) Qah))))) (QaB 1 Qbd.nd rfl (by first | exact Or.inl rfl | exact Or.inr rfl))
        (Qac (QhM 2 (QaG G2 (hr.mono (by decide)) (by rfl) m2 k2 b2 QaL (qs_v (Qas (Qk5 0 G1 (hr.mono (by decide)) (by rfl) m1 k1 b1 (qp 1))) Qay)) Qbd.nd)
      (Qac (QaN 3 (Qbp G4 (hr.mono (by decide)) (by rfl) m4 k4 b4 QaL (Qbo 2 (qs_v Qak Qay))) Qbd.nd)
      (Qac (QaN 4 (Qbp G5 (hr.mono (by decide)) (by rfl) m5 k5 b5 QaL (qs_v (qv 3) Qay)) Qbd.nd)
      (Qac (QaN 5 (Qas (Qbg (QbF rfl) Qeg (by rfl) T.min Qe3 (qa_P (Qao (q_ix QaF Qa4 (qp 3) (Qao Qak) (fun _ _=>rfl))) (qa_P (Qao (q_ix QaF Qa4 (qp 3) (Qao Qak) (fun _ _=>rfl))) Qah)))) Qbd.nd)
      (Qac (QbU 6 (Qa0 QaI Qa5 (Qag (QjL (by rfl) T.list (by rfl) T.range (Qag (Qa0 QaI Qa5 (qp 5) (Qao Qak))))) (Qag (QbM (qa_D (Qas (QjK (Qao Qak))) (qa_D (Qas (Qa0 QaI Qa5 (qp 5) (Qao Qak))) (qa_D (q_ix QaF Qa4 (Qag (QbM (qa_D (Qas (Qa0 QaI Qa5 (qp 5) (Qag (Qa0 Qgf QgR (Qao Qak) (Qao Qak))))) (qa_D q_bl (qa_D q_bl (qa_D q_non Qah)))))) (Qag (QaG G3 (hr.mono (by decide)) (by rfl) m3 k3 b3 QaL (Qbo 2 (qs_v Qak Qay)))) (fun _ _=>rfl)) Qah)))))) Qbd.nd)
      (Qac (QhP 6 (Qbp G6 (hr.mono (by decide)) (by rfl) m6 k6 b6 QaL (Qbo 2 Qay)))
      (Qam (QdY (QeC (Qdt (Qag (Qbg Qem (Qlz rfl) (by rfl) T.all Qi9 (qa_P (Qag (QbB ["_law_size", "_law_board_here", "_law_every"] [none,some 3,some 4] (QbV (qp 6)) (fun cl ex s3 H3 C=>⟨(QaB 0 QmU rfl (Or.inl rfl) (Or.inr rfl)),Qbs,(Qbp G7 (hr.mono (by decide)) (by rfl) m7 k7 b7 QaL (qs_v (qv 1) (qs_v (qv 2) (qs_v (qv 0) Qay))))⟩))) Qah))))) (Qam (Qc1 q_bl)) Qbt)))))))))
      (Qac (QhM 2 (QaG G2 (hr.mono (by decide)) (by rfl) m2 k2 b2 QaL (qs_v (Qas (Qk5 0 G1 (hr.mono (by decide)) (by rfl) m1 k1 b1 (Qao Qak))) Qay)) Qbd.nd)
      (Qac (Qk4 (q_ix QaF Qa4 (Qag (QbM (qa_D (Qas (Qbk (qa_D Qak (qa_D Qak Qah)))) (qa_D (Qas (Qbk (qa_D Qak (qa_D Qak Qah)))) (qa_D (Qas (Qbk (qa_D Qak (qa_D Qak Qah)))) (qa_D (Qas (Qbk (qa_D Qak (qa_D Qak Qah)))) (qa_D (Qas (Qbk (qa_D Qak (qa_D Qak Qah)))) Qah))))))) (Qag (QaG G3 (hr.mono (by decide)) (by rfl) m3 k3 b3 QaL (Qbo 2 (qs_v Qak Qay)))) (fun _ _=>rfl)) (QeE rfl (Qbf 7 (Qbf 8 QeF Qbd.nd rfl (by first | exact Or.inl rfl | exact Or.inr rfl)) Qbd.nd rfl (by first | exact Or.inl rfl | exact Or.inr rfl))))
      (Qac (QaN 9 (Qas (QbB ["_law_turn", "_law_high", "_law_pot_here", "_law_wide"] [none,some 7,some 2,some 8] (Qbe (by rfl) T.range (Qag (QaG G3 (hr.mono (by decide)) (by rfl) m3 k3 b3 QaL (Qbo 2 (qs_v Qak Qay))))) (fun cl ex s3 H3 C=>⟨(QaB 0 QmT rfl (Or.inl rfl) (Or.inr rfl)),Qbs,(Qas (Qbk (qa_D (Qas (QaG G3 (hr.mono (by decide)) (by rfl) m3 k3 b3 QaL (Qbo 2 (qs_v (qv 1) Qay)))) (qa_D (Qas (QaG G3 (hr.mono (by decide)) (by rfl) m3 k3 b3 QaL (Qbo 2 (qs_v (qv 3) Qay)))) Qah))))⟩))) Qbd.nd)
      (Qac (QbU 10 (QbM Qah) Qbd.nd)
      (Qac (QbP PassesOwn.never rfl (Qbe (by rfl) T.range (qp 7)) (QaB 11 Qbd.nd rfl (by first | exact Or.inl rfl | exact Or.inr rfl))
        (Qam (Qk3 10 (Qag (QbB ["_law_column", "_law_gone", "_law_row"] [none,some 9,some 11] (Qbe (by rfl) T.range (qp 8)) (fun cl ex s3 H3 C=>⟨(QaB 0 QmS rfl (Or.inl rfl) (Or.inr rfl)),(Qcp (Qcb Qc5 (QmQ hI) (Qag (Qbk (qa_D (qv 2) (qa_D (qv 0) Qah)))) (qp 1) (by rfl))),(Qas (Qbk (qa_D (qv 2) (qa_D (qv 0) Qah))))⟩))))))
      (Qac (QaN 3 (Qas (Qbk (qa_D (qv 7) (qa_D (qv 8) (qa_D (Qas (QdZ QbQ QgC (by rfl) T.tuple Qci (qa_P (qp 10) Qah))) Qah))))) Qbd.nd)
      (Qac (QaN 4 (Qbp G5 (hr.mono (by decide)) (by rfl) m5 k5 b5 QaL (qs_v (qv 3) Qay)) Qbd.nd)
      (Qam (QbA (Qbg Qem (Qlz rfl) (by rfl) T.all Qi9 (qa_P (Qag (QbB ["_law_size", "_law_board_here", "_law_every"] [none,some 3,some 4] (Qbe (by rfl) T.range (Qag (Qa0 QaI Qa5 (Qag (Qbg (QbF rfl) Qeg (by rfl) T.min Qe3 (qa_P (qp 7) (qa_P (qp 8) Qah)))) (Qao Qak)))) (fun cl ex s3 H3 C=>⟨(QaB 0 QmR rfl (Or.inl rfl) (Or.inr rfl)),Qbs,(Qbp G7 (hr.mono (by decide)) (by rfl) m7 k7 b7 QaL (qs_v (qv 1) (qs_v (qv 2) (qs_v (qv 0) Qay))))⟩))) Qah))))))))))),?_⟩
  intro n0 n63
  refine ⟨⟨by split<;>split<;>omega,by split<;>split<;>omega⟩,Qcv (fun i δ=>∃ x1 x2 x3 x4 x5 x6 x7 x8 x9 x10 x11,δ=[.scr,x1,x2,x3,x4,x5,x6,x7,x8,x9,x10,x11]) ⟨_,_,_,_,_,_,_,_,_,_,_,rfl⟩ ?_ ?_⟩
  · rintro i δ hi ⟨x1,x2,x3,x4,x5,x6,x7,x8,x9,x10,x11,rfl⟩
    refine ⟨by omega,fun c=>⟨c,rfl,fun n1=>?_⟩⟩
    refine ⟨_,rfl,by decide,by decide,fun h w f h1 hm w1 wm=>?_⟩
    have g:=QkF f (show h<=5 by omega) (show w<=5 by omega)
    have hrow:∀ r,(rowC (QaE h w f) r).length<=6:=fun r=>Nat.le_trans (QbT w h f r) (by omega)
    generalize QaE h w f=cs at g hrow
    refine ⟨_,_,_,rfl,by omega,hrow,fun Ls pm pw=>?_⟩
    refine ⟨_,Qau (j:=0) rfl,_,Qau (j:=1) rfl,?_⟩
    have h6:=g.bds.1
    have w6:=g.bds.2.1
    refine ⟨⟨by split<;>omega,by split<;>omega⟩,⟨by decide,by decide,by decide⟩,⟨_,rfl,by decide,by decide,fun r r0 r1=>Qkx r0 r1 fun sd hsd=>?_⟩⟩
    refine ⟨by rw [List.length_map,List.length_range];show _+3<=_;split<;>omega,rfl,fun od hod=>⟨by rw [List.length_append,List.length_map,List.length_range];show _+3<_;split<;>omega,?_⟩⟩
    refine QdG (fun _=>.bool true) (fun d hd k2 hk=>⟨_,_,_,_,_,rfl,g,pm,pw,hk⟩) (Qjm (g:=fun _=>true) rfl ?_)
    rw [Qjl]
    exact ⟨_,_,_,_,_,_,_,_,_,_,_,rfl⟩
  · rintro δ ⟨x1,x2,x3,x4,x5,x6,x7,x8,x9,x10,x11,rfl⟩
    refine ⟨by decide,fun c=>⟨c,rfl,fun n1=>?_⟩⟩
    refine ⟨_,rfl,by decide,by decide,fun r r0 r1=>Qkx r0 r1 fun d hd=>?_⟩
    obtain ⟨h,w,rfl,h1,h6,w1,w6,few⟩:=Qar (p:=fun d=>∃ h w:Nat,d=PyData.tuple [.int h,.int w]/\1<=h/\h<=6/\1<=w/\w<=6/\(w+1)^h<=200000) ⟨5,5,rfl,by decide⟩ (Qar ⟨5,6,rfl,by decide⟩ (Qar ⟨6,4,rfl,by decide⟩ (Qar ⟨5,4,rfl,by decide⟩ (Qar ⟨6,3,rfl,by decide⟩ Qjn)))) d hd
    refine ⟨rfl,?_⟩
    refine ⟨_,rfl,by decide,by decide,fun r2 r20 r21=>⟨⟨by omega,by omega⟩,cm_all (fun d=>∃ p,d=pairD p) (fun d hd k2 hk=>⟨_,rfl,by omega,by omega,fun a a0 a1=>⟨_,rfl,by omega,by omega,fun b b0 b1=>hk _ ⟨(a,b),rfl⟩⟩⟩) fun gone lg hg=>?_⟩⟩
    have ng:nds gone=true:=Qd5.mpr fun d hd=>by obtain ⟨p,rfl⟩:=hg d hd;rfl
    obtain ⟨f,hf⟩:∃ f:Nat->Nat->Bool,f=fun (r c:Nat) => !(gone.any fun e=>PyData.eqv e (pairD ((r:Int),(c:Int)))):=⟨_,rfl⟩
    have g:=gb_of f h6 w6 few
    have hrow:∀ r,(rowC (QaE h w f) r).length<=6:=fun r=>Nat.le_trans (QbT w h f r) (by omega)
    refine ⟨⟨by omega,by omega⟩,Qcv (fun i δ=>∃ y1 y3 y4 y5 y6 ds y11,δ=[.scr,y1,.pot,y3,y4,y5,y6,.v (.int h),.v (.int w),.v (.list gone),.own ds,y11]/\ds=(QaE i w f).map pairD) ⟨_,_,_,_,_,_,_,rfl,rfl⟩ ?_ ?_⟩
    · rintro i δ hi ⟨y1,y3,y4,y5,y6,ds,y11,rfl,rfl⟩
      rw [Int.toNat_natCast] at hi
      refine ⟨⟨by omega,by omega⟩,Qg5 (fun d=>match d with | .int c=>if f i c.toNat=true then some (pairD ((i:Int),c)) else none | _=>none) (fun d hd k1 k2 h1 h2=>?_) ?_⟩
      · obtain ⟨c,hc⟩:=List.mem_iff_getElem?.mp hd
        obtain ⟨hcl,rfl⟩:=QdU hc
        have h1:(if f i (0+(c:Int)).toNat=true then some (pairD ((i:Int),0+(c:Int))) else none)=none->k1:=h1
        have h2:∀ e,(if f i (0+(c:Int)).toNat=true then some (pairD ((i:Int),0+(c:Int))) else none)=some e->k2 e:=h2
        rw [show (0+(c:Int)).toNat=c by omega,show (0:Int)+(c:Int)=(c:Int) by omega] at h1 h2
        refine ⟨⟨ng,rfl,by have:=Qg2 ((0+(i:Int)),(0+(c:Int)));exact Nat.le_trans (Nat.le_of_eq this) (by decide)⟩,?_⟩
        show if (!gone.any fun e=>PyData.eqv e (pairD (0+(i:Int),0+(c:Int))))=true then k2 (pairD (0+(i:Int),0+(c:Int))) else k1
        rw [show (0:Int)+(i:Int)=(i:Int) by omega,show (0:Int)+(c:Int)=(c:Int) by omega]
        have ef:f i c = !(gone.any fun e=>PyData.eqv e (pairD ((i:Int),(c:Int)))):=by rw [hf]
        rw [<- ef]
        by_cases z:f i c=true
        · rw [if_pos z];exact h2 _ (if_pos z)
        · rw [if_neg z];exact h1 (if_neg z)
      · have er:(rngD 0 ((w:Int)).toNat).filterMap (fun d=>match d with | .int c=>if f i c.toNat=true then some (pairD ((i:Int),c)) else none | _=>none)=(rowF i w f).map pairD:=by
          unfold rngD rowF
          rw [Int.toNat_natCast,List.filterMap_map,List.map_map]
          refine QiM (p:=f i) fun c _=>?_
          show (if f i (0+(c:Int)).toNat=true then some (pairD ((i:Int),0+(c:Int))) else none)=if f i c=true then some (pairD ((i:Int),(c:Int))) else none
          rw [show (0+(c:Int)).toNat=c by omega,show (0:Int)+(c:Int)=(c:Int) by omega]
        rw [er]
        have l1:=Qcz w f i
        have l2:=QcM i w f
        have l3:i*w<=6*6:=Nat.mul_le_mul (by omega) (by omega)
        refine ⟨by rw [List.length_map,List.length_map];omega,_,_,_,_,_,_,_,rfl,?_⟩
        rw [QaR,List.map_append]
    · rintro δ ⟨y1,y3,y4,y5,y6,ds,y11,rfl,rfl⟩
      rw [Int.toNat_natCast]
      refine ⟨h,w,QaE h w f,rfl,h6,hrow,fun Ls pm pw=>?_⟩
      refine ⟨⟨by split<;>omega,by split<;>omega⟩,QdG (fun _=>.bool true) (fun d hd k2 hk=>⟨_,_,_,_,_,rfl,g,pm,pw,hk⟩) (Qjm (g:=fun _=>true) rfl ?_)⟩
      rw [Qjl]
      rfl
end
end Rk
namespace Rk
open PySem PySem.Spec PyProof.Rows L2 _root_.Rd
def isSeqD:PyData->Bool
  | .tuple _=>true
  | .list _=>true
  | _=>false
def isLD:PyData->Bool
  | .list _=>true
  | _=>false
def isTD:PyData->Bool
  | .tuple _=>true
  | _=>false
def isBD:PyData->Bool
  | .bool _=>true
  | _=>false
def isSD:PyData->Bool
  | .str _=>true
  | _=>false
theorem ty_of {K:PySem.W.Frag} {H:Hp}:∀ {x:V} {d:PyData},Dat H x d->∃ t,TyOf K H x t/\PySem.W.kitAny K t [.type "list",.type "tuple"]=some (isSeqD d)/\PySem.W.kitOne K t (.type "list")=some (isLD d)/\PySem.W.kitOne K t (.type "tuple")=some (isTD d) /\
    PySem.W.kitOne K t (.type "bool")=some (isBD d)/\PySem.W.kitOne K t (.type "str")=some (isSD d)
  | _,_,.non=>⟨_,.non,rfl,rfl,rfl,rfl,rfl⟩
  | _,_,.bl _=>⟨_,.bl _,rfl,rfl,rfl,rfl,rfl⟩
  | _,_,.int _=>⟨_,.int _,rfl,rfl,rfl,rfl,rfl⟩
  | _,_,.str _ _=>⟨_,.str _,rfl,rfl,rfl,rfl,rfl⟩
  | _,_,.tup e _=>⟨_,.tup e,rfl,rfl,rfl,rfl,rfl⟩
  | _,_,.lst e _=>⟨_,.lst e,rfl,rfl,rfl,rfl,rfl⟩
theorem nd_sm:(["_law_one", "_law_other"]:List Str).Nodup:=by decide +kernel
def Qhs:Sp:=fun vs H Q _=>∃ p x,vs=[x]/\Kn p H x/\Q (.bl (isI x)) H
section
variable {P:Program} {w:World} {K:PySem.W.Frag} {mg:Str->Option Value} {base:Heap}
theorem QjC:FnScope ["_law_thing"] ["_law_thing"] (Qaa lWhole):=⟨rfl,rfl,rfl,by decide +kernel,rfl,by decide +kernel,by decide +kernel⟩
theorem Qij {f:Addr} {fd:FuncData} (F:Fun K "_law_whole" "_law_whole" lWhole f fd) (T:GlbA mg):FnOk P w K mg base CX0 1 f fd ["_law_thing"] Qhs:=by
  refine F.ok QjC (fun vs H Q E h=>?_) (fun cdv A outer s H vs Q E hr h=>?_)
  · obtain ⟨p,x,rfl,_⟩:=h
    rfl
  · obtain ⟨p,x,rfl,kn,k⟩:=h
    refine ⟨_,QaX (Qbh (QeM (Qax QaA (by rfl) T.isinstance Qap (Qae (pv 0) (Qae (QaZ (v:=.ty "int") (by rfl) T.int QgE rfl) Qaq)))
      (QeK (Qld (Qax QaA (by rfl) T.isinstance Qap (Qae (pv 0) (Qae (QaZ (v:=.ty "bool") (by rfl) T.bool Qb2 rfl) Qaq))))))),?_⟩
    obtain ⟨t,ty,e⟩:=QkA (K:=K) kn
    obtain ⟨t2,ty2,e2⟩:=QiH (K:=K) kn
    refine ⟨_,rfl,_,t,_,_,rfl,ty,e,_,rfl,?_⟩
    cases x with
    | int i=>exact iteT ⟨_,rfl,_,t2,_,_,rfl,ty2,e2,_,rfl,k⟩
    | bl i=>exact iteT ⟨_,rfl,_,t2,_,_,rfl,ty2,e2,_,rfl,k⟩
    | _=>exact iteF k
theorem scSame:FnScope ["_law_found", "_law_due"] ["_law_found", "_law_due"] (Qaa lSame):=⟨rfl,rfl,rfl,by decide +kernel,rfl,by decide +kernel,by decide +kernel⟩
theorem Qil {f f1:Addr} {fd fd1:FuncData} (F:Fun K "_law_same" "_law_same" lSame f fd) (T:GlbA mg) (mf:mg "_law_same" = some (.ref f)) (bf:Binds K fd ["_law_found", "_law_due"] []) (kf:PySem.W.keepIn K (.ref f)=true)
    (m1:mg "_law_whole" = some (.ref f1)) (G1:FnOk P w K mg base CX0 1 f1 fd1 ["_law_thing"] Qhs) (b1:Binds K fd1 ["_law_thing"] []) (k1:PySem.W.keepIn K (.ref f1)=true) :
    ∀ n:Nat,FnOk P w K mg base CX0 (n+1) f fd ["_law_found", "_law_due"] (Qfl n)
  | 0=>⟨fun _ _ _ _ h=>h.elim,fun _ _ _ _ _ _ _ _ _ _ _ _ _ h=>h.elim⟩
  | n+1=>by
    have IH:=Qil F T mf bf kf m1 G1 b1 k1 n
    refine F.ok scSame (fun vs H Q E h=>?_) (fun cdv A outer s H vs Q E hr h=>?_)
    · obtain ⟨x,y,d,rfl,_⟩:=h
      rfl
    · obtain ⟨x,y,d,rfl,qx,qy,fl,k⟩:=h
      have hr1:Room 1 _:=hr.mono (by omega)
      refine ⟨_,Qaw (Qfp (QeI (Qax Qg8 (by rfl) T.isinstance Qap (Qae (pv 1) (Qae (QhY (Qae (QaZ (v:=.ty "list") (by rfl) T.list QcA rfl) (Qae (QaZ (v:=.ty "tuple") (by rfl) T.tuple Qci rfl) Qaq))) Qaq))))
          (Qaw (Qfp (QjN (QbW QmB (Qax QaA (by rfl) T.isinstance Qap (Qae (pv 1) (Qae (QaZ (v:=.ty "list") (by rfl) T.list QcA rfl) Qaq))) (Qax QaA (by rfl) T.isinstance Qap (Qae (pv 0) (Qae (QaZ (v:=.ty "list") (by rfl) T.list QcA rfl) Qaq))) (QaU _))
            (QhT (QbW QmB (Qax QaA (by rfl) T.isinstance Qap (Qae (pv 1) (Qae (QaZ (v:=.ty "tuple") (by rfl) T.tuple Qci rfl) Qaq))) (Qax QaA (by rfl) T.isinstance Qap (Qae (pv 0) (Qae (QaZ (v:=.ty "tuple") (by rfl) T.tuple Qci rfl) Qaq))) (QaU _)))).pt (QaX (Qbh QjV)) QbX)
          (QaX (Qbh (QeM (Qc4 QmE (Qax Qa6 (by rfl) T.len QdI (Qae (pv 0) Qaq)) (Qax Qa6 (by rfl) T.len QdI (Qae (pv 1) Qaq)) (QaU _))
            (QeK (Qax Qem (by rfl) T.all Qi9 (Qae (Qgd (M:=["_law_one", "_law_other"]) (cap:=[none,none]) (g:=gTup K 2 (QkG (QcK 0) (QkG (QcK 1) gNil))) (tc:=Qfj) (te:=Qjv (Qfl n) [] E0 (QcI (tVar 0) (QcI (tVar 1) tNil))) rfl (by rfl)
              (pi_or (pi_zip (by rfl) T.zip (Qae (pv 0) (Qae (pv 1) Qaq))) (Ql9 (by rfl) T.zip (Qae (pv 0) (Qae (pv 1) Qaq))))
              (fun cl ex s3 H3 C=>⟨Qlb rfl (Qd2 (Qc3 (i:=0) nd_sm rfl (Or.inl rfl) (Or.inr rfl)) (Qd2 (Qc3 (i:=1) nd_sm rfl (Or.inl rfl) (Or.inr rfl)) QhX)),QhU,Qcq IH (hr.mono (Nat.le_refl _)) (by rfl) mf kf bf .nil pass0 (Qae (pv 0) (Qae (pv 1) Qaq))⟩)) Qaq)))))))
          QbX)
        (Qaw (Qfp (QjN (QbW op_isN (pv 1) Qle (QaU _)) (QjN (QeI (Qax QaA (by rfl) T.isinstance Qap (Qae (pv 1) (Qae (QaZ (v:=.ty "bool") (by rfl) T.bool Qb2 rfl) Qaq)))) (QhT (QeI (Qax QaA (by rfl) T.isinstance Qap (Qae (pv 1) (Qae (QaZ (v:=.ty "str") (by rfl) T.str bt_str rfl) Qaq))))))).pt
          (QaX (Qbh (QeM (Qc4 Qih (pv 0) (pv 1) (QaU _)) (QeK (Qc4 QmE (Qax QaA (by rfl) T.isinstance Qap (Qae (pv 0) (Qae (QaZ (v:=.ty "bool") (by rfl) T.bool Qb2 rfl) Qaq))) (Qax QaA (by rfl) T.isinstance Qap (Qae (pv 1) (Qae (QaZ (v:=.ty "bool") (by rfl) T.bool Qb2 rfl) Qaq))) (QaU _)))))) QbX)
        (QaX (Qbh (QeM (Qcq G1 hr1 (by rfl) m1 k1 b1 .nil pass0 (Qae (pv 0) Qaq)) (QeK (Qc4 Qih (pv 0) (pv 1) (QaU _))))))),?_⟩
      refine ⟨_,rfl,by show 2<=1000;decide,fun tp H1 s1 n1 e1=>?_⟩
      have qx1:=qx.same s1
      have qy1:=qy.same s1
      obtain ⟨t,ty,a1,a2,a3,a4,a5⟩:=ty_of (K:=K) qy1
      obtain ⟨t',ty',a1',a2',a3',a4',a5'⟩:=ty_of (K:=K) qx1
      refine ⟨y,t,tp,["list", "tuple"],_,d,rfl,e1,qy1,ty,a1,_,rfl,?_⟩
      have k1':∀ H',Same H1 H'->Q (.bl true) H':=fun H' s'=>k H' (s1.trans s')
      cases d with
      | tuple ds=>
        obtain ⟨m,rfl⟩:∃ m,n=m+1:=by
          cases n with
          | zero=>cases fl
          | succ m=>exact ⟨m,rfl⟩
        have fl':=Bool.and_eq_true_iff.mp (show (decide (ds.length<=1000)&&ds.all (QcL m))=true from fl)
        have hdl:ds.length<=1000:=of_decide_eq_true fl'.1
        refine iteT ?_
        cases qy1 with
        | @tup b ys _ eb qs=>
        cases qx1 with
        | @tup a xs _ ea ps=>
        refine ⟨_,rfl,_,t,_,_,rfl,ty,a2,_,rfl,_,t',_,_,rfl,ty',a2',rfl,_,rfl,QiD rfl ?_⟩
        refine ⟨_,rfl,_,t,_,_,rfl,ty,a3,_,rfl,_,t',_,_,rfl,ty',a3',rfl,_,rfl,QiD rfl ?_⟩
        have hxl:=ps.length
        have hyl:=qs.length
        refine ⟨_,rfl,a,xs,rfl,.inr (SqT.of ea),_,rfl,b,ys,rfl,.inr (SqT.of eb),rfl,_,rfl,?_⟩
        rw [show decide (V.int (xs.length:Nat)=V.int (ys.length:Nat))=true from decide_eq_true (by rw [hxl,hyl])]
        refine iteT (.inl ⟨_,rfl,_,rfl,a,b,xs,ys,rfl,ea,eb,fun p hp=>?_⟩)
        refine QdF ds.length (lt_line hdl) (fun _=>true) hp (fun i H2 hi2 s2=>?_) (fun H2 s2=>?_) fun H2 s2 e2=>?_
        · have hx:xs[i]? = some xs[i]:=List.getElem?_eq_getElem (by omega)
          have hy:ys[i]? = some ys[i]:=List.getElem?_eq_getElem (by omega)
          have ea2:=s2 a _ ea
          have eb2:=s2 b _ eb
          refine ⟨⟨xs,ys,_,_,ea2,eb2,hx,hy⟩,fun v H3 ⟨r,x',y',hr0,ex,ey,ev,eH⟩ kk hk=>?_⟩
          have ex':=ex xs ea2
          have ey':=ey ys eb2
          rw [hx] at ex'
          rw [hy] at ey'
          cases ex'
          cases ey'
          subst ev eH
          obtain ⟨d1,hd1,q1⟩:=ps.get i _ hx
          obtain ⟨d2,hd2,q2⟩:=qs.get i _ hy
          rw [hd1] at hd2
          cases hd2
          have fd1:QcL m d1=true:=List.all_eq_true.mp fl'.2 d1 (List.mem_of_getElem? hd1)
          refine ⟨r,[xs[i],ys[i]],rfl,SqT.of Qaf,rfl,xs[i],[ys[i]],rfl,ys[i],[],rfl,rfl,⟨trivial,?_⟩⟩
          exact ⟨_,rfl,_,rfl,xs[i],ys[i],d1,rfl,(q1.same s2).same (Qad hr0),(q2.same s2).same (Qad hr0),fd1,fun H' s'=>hk H' ((Qad hr0).trans s')⟩
        · refine ⟨xs,ys,s2 a _ ea,s2 b _ eb,?_⟩
          omega
        · refine ⟨p,_,rfl,SqL.of e2,rfl,?_⟩
          have e3:((List.range ds.length).map fun _=>true).all id=true:=by
            rw [List.all_eq_true]
            intro z hz
            obtain ⟨_,_,rfl⟩:=List.mem_map.mp hz
            rfl
          rw [e3]
          exact k1' H2 s2
      | list ds=>
        obtain ⟨m,rfl⟩:∃ m,n=m+1:=by
          cases n with
          | zero=>cases fl
          | succ m=>exact ⟨m,rfl⟩
        have fl':=Bool.and_eq_true_iff.mp (show (decide (ds.length<=1000)&&ds.all (QcL m))=true from fl)
        have hdl:ds.length<=1000:=of_decide_eq_true fl'.1
        refine iteT ?_
        cases qy1 with
        | @lst b ys _ eb qs=>
        cases qx1 with
        | @lst a xs _ ea ps=>
        refine ⟨_,rfl,_,t,_,_,rfl,ty,a2,_,rfl,_,t',_,_,rfl,ty',a2',rfl,_,rfl,QiD rfl ?_⟩
        refine ⟨_,rfl,_,t,_,_,rfl,ty,a3,_,rfl,_,t',_,_,rfl,ty',a3',rfl,_,rfl,QiD rfl ?_⟩
        have hxl:=ps.length
        have hyl:=qs.length
        refine ⟨_,rfl,a,xs,rfl,.inl (SqL.of ea),_,rfl,b,ys,rfl,.inl (SqL.of eb),rfl,_,rfl,?_⟩
        rw [show decide (V.int (xs.length:Nat)=V.int (ys.length:Nat))=true from decide_eq_true (by rw [hxl,hyl])]
        refine iteT (.inr ⟨_,rfl,_,rfl,a,b,xs,ys,rfl,ea,eb,fun p hp=>?_⟩)
        refine QdF ds.length (lt_line hdl) (fun _=>true) hp (fun i H2 hi2 s2=>?_) (fun H2 s2=>?_) fun H2 s2 e2=>?_
        · have hx:xs[i]? = some xs[i]:=List.getElem?_eq_getElem (by omega)
          have hy:ys[i]? = some ys[i]:=List.getElem?_eq_getElem (by omega)
          have ea2:=s2 a _ ea
          have eb2:=s2 b _ eb
          refine ⟨⟨xs,ys,_,_,ea2,eb2,hx,hy⟩,fun v H3 ⟨r,x',y',hr0,ex,ey,ev,eH⟩ kk hk=>?_⟩
          have ex':=ex xs ea2
          have ey':=ey ys eb2
          rw [hx] at ex'
          rw [hy] at ey'
          cases ex'
          cases ey'
          subst ev eH
          obtain ⟨d1,hd1,q1⟩:=ps.get i _ hx
          obtain ⟨d2,hd2,q2⟩:=qs.get i _ hy
          rw [hd1] at hd2
          cases hd2
          have fd1:QcL m d1=true:=List.all_eq_true.mp fl'.2 d1 (List.mem_of_getElem? hd1)
          refine ⟨r,[xs[i],ys[i]],rfl,SqT.of Qaf,rfl,xs[i],[ys[i]],rfl,ys[i],[],rfl,rfl,⟨trivial,?_⟩⟩
          exact ⟨_,rfl,_,rfl,xs[i],ys[i],d1,rfl,(q1.same s2).same (Qad hr0),(q2.same s2).same (Qad hr0),fd1,fun H' s'=>hk H' ((Qad hr0).trans s')⟩
        · refine ⟨xs,ys,s2 a _ ea,s2 b _ eb,?_⟩
          omega
        · refine ⟨p,_,rfl,SqL.of e2,rfl,?_⟩
          have e3:((List.range ds.length).map fun _=>true).all id=true:=by
            rw [List.all_eq_true]
            intro z hz
            obtain ⟨_,_,rfl⟩:=List.mem_map.mp hz
            rfl
          rw [e3]
          exact k1' H2 s2
      | none=>
        refine iteF ?_
        have hy:y=.non:=by cases qy1;rfl
        subst hy
        refine ⟨_,rfl,rfl,_,rfl,iteT (iteT ?_)⟩
        refine ⟨_,rfl,_,rfl,PyData.none,PyData.none,qx1,qy1,by rw [Nat.min_self];show _+PyData.depth PyData.none<cLine;rw [show PyData.depth PyData.none=0 from by simp [PyData.depth]];exact hr.units0,_,rfl,?_⟩
        rw [SeqAt.eqv_refl PyData.none rfl]
        refine iteT ?_
        refine ⟨_,rfl,_,t',_,_,rfl,ty',a4',_,rfl,_,t,_,_,rfl,ty,a4,rfl,?_⟩
        rw [show ∀ b:Bool,decide (V.bl b=V.bl b)=true from fun b=>decide_eq_true rfl]
        exact k1' H1 (Same.refl H1)
      | bool v=>
        refine iteF ?_
        have hy:y=.bl v:=by cases qy1;rfl
        subst hy
        refine ⟨_,rfl,rfl,_,rfl,iteF ?_⟩
        refine ⟨_,rfl,_,t,_,_,rfl,ty,a4,_,rfl,iteT (iteT ?_)⟩
        refine ⟨_,rfl,_,rfl,(PyData.bool v),(PyData.bool v),qx1,qy1,by rw [Nat.min_self];show _+PyData.depth (PyData.bool v)<cLine;rw [show PyData.depth (PyData.bool v)=0 from by simp [PyData.depth]];exact hr.units0,_,rfl,?_⟩
        rw [SeqAt.eqv_refl (PyData.bool v) rfl]
        refine iteT ?_
        refine ⟨_,rfl,_,t',_,_,rfl,ty',a4',_,rfl,_,t,_,_,rfl,ty,a4,rfl,?_⟩
        rw [show ∀ b:Bool,decide (V.bl b=V.bl b)=true from fun b=>decide_eq_true rfl]
        exact k1' H1 (Same.refl H1)
      | str v=>
        refine iteF ?_
        have hy:y=.str v:=by cases qy1;rfl
        subst hy
        have cl:PyData.canLay0 (.str v)=true:=by cases qy1 with | str _ c=>exact c
        refine ⟨_,rfl,rfl,_,rfl,iteF ?_⟩
        refine ⟨_,rfl,_,t,_,_,rfl,ty,a4,_,rfl,iteF ?_⟩
        refine ⟨_,rfl,_,t,_,_,rfl,ty,a5,_,rfl,iteT ?_⟩
        refine ⟨_,rfl,_,rfl,(PyData.str v),(PyData.str v),qx1,qy1,by rw [Nat.min_self];show _+PyData.depth (PyData.str v)<cLine;rw [show PyData.depth (PyData.str v)=0 from by simp [PyData.depth]];exact hr.units0,_,rfl,?_⟩
        rw [SeqAt.eqv_refl (PyData.str v) cl]
        refine iteT ?_
        refine ⟨_,rfl,_,t',_,_,rfl,ty',a4',_,rfl,_,t,_,_,rfl,ty,a4,rfl,?_⟩
        rw [show ∀ b:Bool,decide (V.bl b=V.bl b)=true from fun b=>decide_eq_true rfl]
        exact k1' H1 (Same.refl H1)
      | int i=>
        refine iteF ?_
        have hy:y=.int i:=by cases qy1;rfl
        have hx:x=.int i:=by cases qx1;rfl
        subst hy
        subst hx
        refine ⟨_,rfl,rfl,_,rfl,iteF ?_⟩
        refine ⟨_,rfl,_,t,_,_,rfl,ty,a4,_,rfl,iteF ?_⟩
        refine ⟨_,rfl,_,t,_,_,rfl,ty,a5,_,rfl,iteF ?_⟩
        refine ⟨_,rfl,0,.int i,rfl,trivial,_,rfl,iteT ?_⟩
        refine ⟨_,rfl,_,rfl,.int i,.int i,qx1,qy1,by rw [Nat.min_self];show _+PyData.depth (.int i)<cLine;rw [show PyData.depth (.int i)=0 from by simp [PyData.depth]];exact hr.units0,?_⟩
        rw [SeqAt.eqv_refl (.int i) rfl]
        exact k1' H1 (Same.refl H1)
      | dict ds=>cases qx
end
end Rk
def PySem.W.Fast.tw7225006420240678209:Nat:=0
def PySem.W.Fast.tw7273950751369264154:Nat:=0
def PySem.W.Fast.tw10146913458349810164:Nat:=0
def PySem.W.Fast.tw15485322297662846596:Nat:=0
def PySem.W.Fast.tw8999772745526403775:Nat:=0
def PySem.W.Fast.tw23460769263092067:Nat:=0
def PySem.W.Fast.tw14740115663167766181:Nat:=0
def PySem.W.Fast.tw3783163188445749859:Nat:=0
def PySem.W.Fast.tw3580783056631732893:Nat:=0
def PySem.W.Fast.tw10490497805793058967:Nat:=0
def PySem.W.Fast.tw14600049130335712770:Nat:=0
def PySem.W.Fast.tw7824016291840671735:Nat:=0
def PySem.W.Fast.tw8764623633040869285:Nat:=0
def PySem.W.Fast.tw7854369493436558424:Nat:=0
def PySem.W.Fast.tw10269415915443894154:Nat:=0
def PySem.W.Fast.tw2763862861715880096:Nat:=0
def PySem.W.Fast.tw15025872495931471969:Nat:=0
def PySem.W.Fast.tw12882352073848123504:Nat:=0
def PySem.W.Fast.tw16462447319569020900:Nat:=0
def PySem.W.Fast.tw12401176172110467476:Nat:=0
def PySem.W.Fast.tw5393562534738512550:Nat:=0
def PySem.W.Fast.tw14502945056993915890:Nat:=0
def PySem.W.Fast.tw1581126330060784489:Nat:=0
def PySem.W.Fast.tw15436360371710967825:Nat:=0
def PySem.W.Fast.tw12674345953857046220:Nat:=0
def PySem.W.Fast.tw13053330221970952223:Nat:=0
def PySem.W.Fast.tw7855983172334672394:Nat:=0
def PySem.W.Fast.tw4032269381574088945:Nat:=0
def PySem.W.Fast.tw14843124318448262230:Nat:=0
def PySem.W.Fast.tw17242846667288631396:Nat:=0
def PySem.W.Fast.tw11517911494214729234:Nat:=0
def PySem.W.Fast.tw8247032712508367684:Nat:=0
def PySem.W.Fast.tw16163860534665485506:Nat:=0
def PySem.W.Fast.tw8430257295744343114:Nat:=0
def PySem.W.Fast.tw9042417239239294255:Nat:=0
def PySem.W.Fast.tw11997615879984680510:Nat:=0
def PySem.W.Fast.tw10130590704145482790:Nat:=0
def PySem.W.Fast.tw12230512454131527321:Nat:=0
def PySem.W.Fast.tw32280950469603847:Nat:=0
def PySem.W.Fast.tw15303441984142330406:Nat:=0
def PySem.W.Fast.tw63298041107876638:Nat:=0
def PySem.W.Fast.tw3867256122918865312:Nat:=0
def PySem.W.Fast.tw18358302391217029068:Nat:=0
def PySem.W.Fast.tw6254626812400531605:Nat:=0
def PySem.W.Fast.tw17788917870395835083:Nat:=0
def PySem.W.Fast.tw16724656585849402682:Nat:=0
def PySem.W.Fast.tw2090390493445170845:Nat:=0
def PySem.W.Fast.tw17946431803027743160:Nat:=0
def PySem.W.Fast.tw9464562008976585294:Nat:=0
def PySem.W.Fast.tw4685734947043982858:Nat:=0
def PySem.W.Fast.tw313824881748752761:Nat:=0
def PySem.W.Fast.tw16481709077923421282:Nat:=0
def PySem.W.Fast.tw13336800676145784963:Nat:=0
def PySem.W.Fast.tw10854942547906560559:Nat:=0
def PySem.W.Fast.tw3832949363480014429:Nat:=0
def PySem.W.Fast.tw7463653787941356534:Nat:=0
def PySem.W.Fast.tw8369367712263058392:Nat:=0
def PySem.W.Fast.tw10900373573380326217:Nat:=0
def PySem.W.Fast.tw18170059250505852984:Nat:=0
def PySem.W.Fast.tw4874821257527638904:Nat:=0
def PySem.W.Fast.tw15275797320654080985:Nat:=0
def PySem.W.Fast.tw5268437597558024711:Nat:=0
def PySem.W.Fast.tw18436217656056370057:Nat:=0
def PySem.W.Fast.tw7834117916546980698:Nat:=0
def PySem.W.Fast.tw16733237649085749122:Nat:=0
def PySem.W.Fast.tw9834925586096312029:Nat:=0
def PySem.W.Fast.tw18336803878741563203:Nat:=0
def PySem.W.Fast.tw9071319482701386711:Nat:=0
def PySem.W.Fast.tw5066706489797684090:Nat:=0
def PySem.W.Fast.tw15022824804511146949:Nat:=0
def PySem.W.Fast.tw15873468679549888984:Nat:=0
def PySem.W.Fast.tw6404731758681835209:Nat:=0
def PySem.W.Fast.tw10206360979564676311:Nat:=0
def PySem.W.Fast.tw624095324275057225:Nat:=0
def PySem.W.Fast.tw15310395460924216969:Nat:=0
def PySem.W.Fast.tw897635780682702948:Nat:=0
def PySem.W.Fast.tw2115301397823333022:Nat:=0
def PySem.W.Fast.tw11356933499945390275:Nat:=0
def PySem.W.Fast.tw249708528734617908:Nat:=0
def PySem.W.Fast.tw2820358761997525298:Nat:=0
def PySem.W.Fast.tw2489164547803519345:Nat:=0
def PySem.W.Fast.tw9626716558500795735:Nat:=0
def PySem.W.Fast.tw841888155371471418:Nat:=0
def PySem.W.Fast.tw1965133924355820680:Nat:=0
def PySem.W.Fast.tw7985704799834816930:Nat:=0
def PySem.W.Fast.tw5376684213382096679:Nat:=0
def PySem.W.Fast.tw16177275086843445790:Nat:=0
def PySem.W.Fast.tw10194235590715671109:Nat:=0
def PySem.W.Fast.tw5897543316711315658:Nat:=0
def PySem.W.Fast.tw4316921972156369173:Nat:=0
def PySem.W.Fast.tw5427784532614882379:Nat:=0
def PySem.W.Fast.tw16210108729395574303:Nat:=0
def PySem.W.Fast.tw350333831016694204:Nat:=0
def PySem.W.Fast.tw7064482382783441507:Nat:=0
def PySem.W.Fast.tw9416414613695038231:Nat:=0
def PySem.W.Fast.tw6205822224901641001:Nat:=0
def PySem.W.Fast.tw4523798621265045293:Nat:=0
def PySem.W.Fast.tw18397683936582508014:Nat:=0
def PySem.W.Fast.tw7683869351349701245:Nat:=0
def PySem.W.Fast.tw10934650987367191264:Nat:=0
def PySem.W.Fast.tw12214870367310527614:Nat:=0
namespace Rk
open PySem PySem.Spec PyProof.Rows L2
theorem all_mk {l:PySem.W.OpenLaw} {w:World} {K:PySem.W.Frag} {h:Heap} {mg:Str->Option Value} {fa f1 f2 f3 f4 f5 f6 f7 f8 f9 f10 f11 f12 f13 f14 f15 f16 f17 f18 f19 f20 f21 f22 f23:Addr} (X:K.In h) (G:h.Ns mainGlobals mg) (hfa:mg "law" = some (.ref fa))
    {od1 an1 od2 an2 od3 an3 od4 an4 od5 an5 od6 an6 od7 an7 od8 an8 od9 an9 od10 an10 od11 an11 od12 an12 od13 an13 od14 an14 od15 an15 od16 an16 od17 an17 od18 an18 od19 an19 od20 an20 od21 an21 od22 an22 od23 an23:Option Addr} {sl1 sl2 sl3 sl4 sl5 sl6 sl7 sl8 sl9 sl10 sl11 sl12 sl13 sl14 sl15 sl16 sl17 sl18 sl19 sl20 sl21 sl22 sl23:Array (Option Value)} {oc1 kV1 dc1 pm1 cd1 ct1 oc2 kV2 dc2 pm2 cd2 ct2 oc3 kV3 dc3 pm3 cd3 ct3 oc4 kV4 dc4 pm4 cd4 ct4 oc5 kV5 dc5 pm5 cd5 ct5 oc6 kV6 dc6 pm6 cd6 ct6 oc7 kV7 dc7 pm7 cd7 ct7 oc8 kV8 dc8 pm8 cd8 ct8 oc9 kV9 dc9 pm9 cd9 ct9 oc10 kV10 dc10 pm10 cd10 ct10 oc11 kV11 dc11 pm11 cd11 ct11 oc12 kV12 dc12 pm12 cd12 ct12 oc13 kV13 dc13 pm13 cd13 ct13 oc14 kV14 dc14 pm14 cd14 ct14 oc15 kV15 dc15 pm15 cd15 ct15 oc16 kV16 dc16 pm16 cd16 ct16 oc17 kV17 dc17 pm17 cd17 ct17 oc18 kV18 dc18 pm18 cd18 ct18 oc19 kV19 dc19 pm19 cd19 ct19 oc20 kV20 dc20 pm20 cd20 ct20 oc21 kV21 dc21 pm21 cd21 ct21 oc22 kV22 dc22 pm22 cd22 ct22 oc23 kV23 dc23 pm23 cd23 ct23:Value}
    (a1:PySem.W.nsIn K mainGlobals "is_whole" = some (some (.ref f1))) (l1:K.lookup f1=some ⟨oc1,od1,.func (PySem.W.fnOf "is_whole" "is_whole" (Qat sWhole) (Qan sWhole) (Qaa sWhole) .none kV1 dc1 pm1 an1 cd1 ct1),sl1⟩) (c1:PySem.W.codeIn K cd1 "is_whole" = true) (k1:PySem.W.keepIn K (.ref f1)=true)
    (a2:PySem.W.nsIn K mainGlobals "is_whole_within" = some (some (.ref f2))) (l2:K.lookup f2=some ⟨oc2,od2,.func (PySem.W.fnOf "is_whole_within" "is_whole_within" (Qat sWithin) (Qan sWithin) (Qaa sWithin) .none kV2 dc2 pm2 an2 cd2 ct2),sl2⟩) (c2:PySem.W.codeIn K cd2 "is_whole_within" = true) (k2:PySem.W.keepIn K (.ref f2)=true)
    (a3:PySem.W.nsIn K mainGlobals "stands_of" = some (some (.ref f3))) (l3:K.lookup f3=some ⟨oc3,od3,.func (PySem.W.fnOf "stands_of" "stands_of" (Qat sStandsOf) (Qan sStandsOf) (Qaa sStandsOf) .none kV3 dc3 pm3 an3 cd3 ct3),sl3⟩) (c3:PySem.W.codeIn K cd3 "stands_of" = true) (k3:PySem.W.keepIn K (.ref f3)=true)
    (a4:PySem.W.nsIn K mainGlobals "counts" = some (some (.ref f4))) (l4:K.lookup f4=some ⟨oc4,od4,.func (PySem.W.fnOf "counts" "counts" (Qat sCounts) (Qan sCounts) (Qaa sCounts) .none kV4 dc4 pm4 an4 cd4 ct4),sl4⟩) (c4:PySem.W.codeIn K cd4 "counts" = true) (k4:PySem.W.keepIn K (.ref f4)=true)
    (a5:PySem.W.nsIn K mainGlobals "most_size" = some (some (.ref f5))) (l5:K.lookup f5=some ⟨oc5,od5,.func (PySem.W.fnOf "most_size" "most_size" (Qat sMost) (Qan sMost) (Qaa sMost) .none kV5 dc5 pm5 an5 cd5 ct5),sl5⟩) (c5:PySem.W.codeIn K cd5 "most_size" = true) (k5:PySem.W.keepIn K (.ref f5)=true)
    (a6:PySem.W.nsIn K mainGlobals "every_stand" = some (some (.ref f6))) (l6:K.lookup f6=some ⟨oc6,od6,.func (PySem.W.fnOf "every_stand" "every_stand" (Qat sEvery) (Qan sEvery) (Qaa sEvery) .none kV6 dc6 pm6 an6 cd6 ct6),sl6⟩) (c6:PySem.W.codeIn K cd6 "every_stand" = true) (k6:PySem.W.keepIn K (.ref f6)=true)
    (a7:PySem.W.nsIn K mainGlobals "refuse_no_size" = some (some (.ref f7))) (l7:K.lookup f7=some ⟨oc7,od7,.func (PySem.W.fnOf "refuse_no_size" "refuse_no_size" (Qat sRefSz) (Qan sRefSz) (Qaa sRefSz) .none kV7 dc7 pm7 an7 cd7 ct7),sl7⟩) (c7:PySem.W.codeIn K cd7 "refuse_no_size" = true) (k7:PySem.W.keepIn K (.ref f7)=true)
    (a8:PySem.W.nsIn K mainGlobals "followers" = some (some (.ref f8))) (l8:K.lookup f8=some ⟨oc8,od8,.func (PySem.W.fnOf "followers" "followers" (Qat sFol) (Qan sFol) (Qaa sFol) .none kV8 dc8 pm8 an8 cd8 ct8),sl8⟩) (c8:PySem.W.codeIn K cd8 "followers" = true) (k8:PySem.W.keepIn K (.ref f8)=true)
    (a9:PySem.W.nsIn K mainGlobals "row_behind" = some (some (.ref f9))) (l9:K.lookup f9=some ⟨oc9,od9,.func (PySem.W.fnOf "row_behind" "row_behind" (Qat sRowB) (Qan sRowB) (Qaa sRowB) .none kV9 dc9 pm9 an9 cd9 ct9),sl9⟩) (c9:PySem.W.codeIn K cd9 "row_behind" = true) (k9:PySem.W.keepIn K (.ref f9)=true)
    (a10:PySem.W.nsIn K mainGlobals "ways_to_go_on" = some (some (.ref f10))) (l10:K.lookup f10=some ⟨oc10,od10,.func (PySem.W.fnOf "ways_to_go_on" "ways_to_go_on" (Qat sWays) (Qan sWays) (Qaa sWays) .none kV10 dc10 pm10 an10 cd10 ct10),sl10⟩) (c10:PySem.W.codeIn K cd10 "ways_to_go_on" = true) (k10:PySem.W.keepIn K (.ref f10)=true)
    (a11:PySem.W.nsIn K mainGlobals "ways_with_row" = some (some (.ref f11))) (l11:K.lookup f11=some ⟨oc11,od11,.func (PySem.W.fnOf "ways_with_row" "ways_with_row" (Qat sRow) (Qan sRow) (Qaa sRow) .none kV11 dc11 pm11 an11 cd11 ct11),sl11⟩) (c11:PySem.W.codeIn K cd11 "ways_with_row" = true) (k11:PySem.W.keepIn K (.ref f11)=true)
    (a12:PySem.W.nsIn K mainGlobals "_law_cell_at" = some (some (.ref f12))) (l12:K.lookup f12=some ⟨oc12,od12,.func (PySem.W.fnOf "_law_cell_at" "_law_cell_at" (Qat lCellAt) (Qan lCellAt) (Qaa lCellAt) .none kV12 dc12 pm12 an12 cd12 ct12),sl12⟩) (c12:PySem.W.codeIn K cd12 "_law_cell_at" = true) (k12:PySem.W.keepIn K (.ref f12)=true)
    (a13:PySem.W.nsIn K mainGlobals "_law_pot" = some (some (.ref f13))) (l13:K.lookup f13=some ⟨oc13,od13,.func (PySem.W.fnOf "_law_pot" "_law_pot" (Qat lPot) (Qan lPot) (Qaa lPot) .none kV13 dc13 pm13 an13 cd13 ct13),sl13⟩) (c13:PySem.W.codeIn K cd13 "_law_pot" = true) (k13:PySem.W.keepIn K (.ref f13)=true)
    (a14:PySem.W.nsIn K mainGlobals "_law_take" = some (some (.ref f14))) (l14:K.lookup f14=some ⟨oc14,od14,.func (PySem.W.fnOf "_law_take" "_law_take" (Qat lTake) (Qan lTake) (Qaa lTake) .none kV14 dc14 pm14 an14 cd14 ct14),sl14⟩) (c14:PySem.W.codeIn K cd14 "_law_take" = true) (k14:PySem.W.keepIn K (.ref f14)=true)
    (a15:PySem.W.nsIn K mainGlobals "_law_board" = some (some (.ref f15))) (l15:K.lookup f15=some ⟨oc15,od15,.func (PySem.W.fnOf "_law_board" "_law_board" (Qat lBoard) (Qan lBoard) (Qaa lBoard) .none kV15 dc15 pm15 an15 cd15 ct15),sl15⟩) (c15:PySem.W.codeIn K cd15 "_law_board" = true) (k15:PySem.W.keepIn K (.ref f15)=true)
    (a16:PySem.W.nsIn K mainGlobals "_law_odd" = some (some (.ref f16))) (l16:K.lookup f16=some ⟨oc16,od16,.func (PySem.W.fnOf "_law_odd" "_law_odd" (Qat lOdd) (Qan lOdd) (Qaa lOdd) .none kV16 dc16 pm16 an16 cd16 ct16),sl16⟩) (c16:PySem.W.codeIn K cd16 "_law_odd" = true) (k16:PySem.W.keepIn K (.ref f16)=true)
    (a17:PySem.W.nsIn K mainGlobals "_law_kind_of" = some (some (.ref f17))) (l17:K.lookup f17=some ⟨oc17,od17,.func (PySem.W.fnOf "_law_kind_of" "_law_kind_of" (Qat lKind) (Qan lKind) (Qaa lKind) .none kV17 dc17 pm17 an17 cd17 ct17),sl17⟩) (c17:PySem.W.codeIn K cd17 "_law_kind_of" = true) (k17:PySem.W.keepIn K (.ref f17)=true)
    (a18:PySem.W.nsIn K mainGlobals "_law_whole" = some (some (.ref f18))) (l18:K.lookup f18=some ⟨oc18,od18,.func (PySem.W.fnOf "_law_whole" "_law_whole" (Qat lWhole) (Qan lWhole) (Qaa lWhole) .none kV18 dc18 pm18 an18 cd18 ct18),sl18⟩) (c18:PySem.W.codeIn K cd18 "_law_whole" = true) (k18:PySem.W.keepIn K (.ref f18)=true)
    (a19:PySem.W.nsIn K mainGlobals "_law_same" = some (some (.ref f19))) (l19:K.lookup f19=some ⟨oc19,od19,.func (PySem.W.fnOf "_law_same" "_law_same" (Qat lSame) (Qan lSame) (Qaa lSame) .none kV19 dc19 pm19 an19 cd19 ct19),sl19⟩) (c19:PySem.W.codeIn K cd19 "_law_same" = true) (k19:PySem.W.keepIn K (.ref f19)=true)
    (a20:PySem.W.nsIn K mainGlobals "_law_stands" = some (some (.ref f20))) (l20:K.lookup f20=some ⟨oc20,od20,.func (PySem.W.fnOf "_law_stands" "_law_stands" (Qat lStands) (Qan lStands) (Qaa lStands) .none kV20 dc20 pm20 an20 cd20 ct20),sl20⟩) (c20:PySem.W.codeIn K cd20 "_law_stands" = true) (k20:PySem.W.keepIn K (.ref f20)=true)
    (a21:PySem.W.nsIn K mainGlobals "_law_told" = some (some (.ref f21))) (l21:K.lookup f21=some ⟨oc21,od21,.func (PySem.W.fnOf "_law_told" "_law_told" (Qat lTold) (Qan lTold) (Qaa lTold) .none kV21 dc21 pm21 an21 cd21 ct21),sl21⟩) (c21:PySem.W.codeIn K cd21 "_law_told" = true) (k21:PySem.W.keepIn K (.ref f21)=true)
    (a22:PySem.W.nsIn K mainGlobals "_law_right" = some (some (.ref f22))) (l22:K.lookup f22=some ⟨oc22,od22,.func (PySem.W.fnOf "_law_right" "_law_right" (Qat lRight) (Qan lRight) (Qaa lRight) .none kV22 dc22 pm22 an22 cd22 ct22),sl22⟩) (c22:PySem.W.codeIn K cd22 "_law_right" = true) (k22:PySem.W.keepIn K (.ref f22)=true)
    (a23:PySem.W.nsIn K mainGlobals "law" = some (some (.ref f23))) (l23:K.lookup f23=some ⟨oc23,od23,.func (PySem.W.fnOf "law" "law" (Qat sLaw) (Qan sLaw) (Qaa sLaw) .none kV23 dc23 pm23 an23 cd23 ct23),sl23⟩) (c23:PySem.W.codeIn K cd23 "law" = true) (k23:PySem.W.keepIn K (.ref f23)=true)
    (z1:PySem.W.nsIn K mainGlobals "isinstance" = some none)
    (z2:PySem.W.nsIn K mainGlobals "int" = some none)
    (z3:PySem.W.nsIn K mainGlobals "bool" = some none)
    (z4:PySem.W.nsIn K mainGlobals "str" = some none)
    (z5:PySem.W.nsIn K mainGlobals "tuple" = some none)
    (z6:PySem.W.nsIn K mainGlobals "list" = some none)
    (z7:PySem.W.nsIn K mainGlobals "all" = some none)
    (z8:PySem.W.nsIn K mainGlobals "len" = some none)
    (z9:PySem.W.nsIn K mainGlobals "zip" = some none)
    (z10:PySem.W.nsIn K mainGlobals "enumerate" = some none)
    (z11:PySem.W.nsIn K mainGlobals "range" = some none)
    (z12:PySem.W.nsIn K mainGlobals "max" = some none)
    (z13:PySem.W.nsIn K mainGlobals "min" = some none)
    (z14:PySem.W.nsIn K mainGlobals "sorted" = some none)
    (z15:PySem.W.nsIn K mainGlobals "sum" = some none)
    (z16:PySem.W.nsIn K mainGlobals "set" = some none)
    (z17:PySem.W.nsIn K mainGlobals "any" = some none)
    (z18:PySem.W.nsIn K mainGlobals "reversed" = some none)
    (z19:PySem.W.nsIn K mainGlobals "divmod" = some none)
    (z20:PySem.W.nsIn K mainGlobals "ValueError" = some none)
    {tA:_} (aA:PySem.W.nsIn K mainGlobals "MOST_TOLD" = some (some (.int 300 tA)))
    {cc1:Addr} (e1:PySem.W.nsIn K mainGlobals "NoText" = some (some (.ref cc1)))
    {cc2:Addr} (e2:PySem.W.nsIn K mainGlobals "NoOrder" = some (some (.ref cc2)))
    {cc3:Addr} (e3:PySem.W.nsIn K mainGlobals "NoLines" = some (some (.ref cc3)))
    {cc4:Addr} (e4:PySem.W.nsIn K mainGlobals "TooFew" = some (some (.ref cc4)))
    {cc5:Addr} (e5:PySem.W.nsIn K mainGlobals "NoSize" = some (some (.ref cc5)))
    {cc6:Addr} (e6:PySem.W.nsIn K mainGlobals "TooMany" = some (some (.ref cc6)))
    {cc7:Addr} (e7:PySem.W.nsIn K mainGlobals "NoNumber" = some (some (.ref cc7)))
    {cc8:Addr} (e8:PySem.W.nsIn K mainGlobals "NoStand" = some (some (.ref cc8)))
    {cc9:Addr} (e9:PySem.W.nsIn K mainGlobals "NoCell" = some (some (.ref cc9)))
    {cc10:Addr} (e10:PySem.W.nsIn K mainGlobals "NotSquare" = some (some (.ref cc10)))
    {cc11:Addr} (e11:PySem.W.nsIn K mainGlobals "NoHits" = some (some (.ref cc11)))
    {cc12:Addr} (e12:PySem.W.nsIn K mainGlobals "NoCounts" = some (some (.ref cc12)))
    {cc13:Addr} (e13:PySem.W.nsIn K mainGlobals "NoStairs" = some (some (.ref cc13)))
    {cc14:Addr} (e14:PySem.W.nsIn K mainGlobals "NotAlike" = some (some (.ref cc14)))
    {cc15:Addr} (e15:PySem.W.nsIn K mainGlobals "NoParting" = some (some (.ref cc15)))
    {cc16:Addr} (e16:PySem.W.nsIn K mainGlobals "NoPlace" = some (some (.ref cc16)))
    {cc17:Addr} (e17:PySem.W.nsIn K mainGlobals "Double" = some (some (.ref cc17)))
    {cc18:Addr} (e18:PySem.W.nsIn K mainGlobals "NoDeed" = some (some (.ref cc18)))
    {cc19:Addr} (e19:PySem.W.nsIn K mainGlobals "NoRow" = some (some (.ref cc19)))
    {cR:Addr} (eR:PySem.W.nsIn K mainGlobals "RookError" = some (some (.ref cR)))
    (r1:PySem.W.typeIn K (.ref cR)=some (.type "type"))
    {dR:_} (r2:PySem.W.clsIn K cR=some dR)
    (r3:PySem.W.mroIn K cR (.type "BaseException")=some true)
    (u1:PySem.W.specialIn K (.builtin "object.__class__") "__get__" = some (some (.builtin "getset_descriptor.__get__")))
    (u2:PySem.W.takesIn K (.builtin "object.__class__")=some true)
    (q5x:PySem.W.excIn K cc5 Rx.mroV "ValueError.__new__" = true)
    (q5r:PySem.W.mroIn K cc5 (.ref cR)=some true)
    (q5g:PySem.W.findIn K (.ref cc5) "__getattribute__" = some (some (.builtin "BaseException.__getattribute__")))
    (q5h:PySem.W.findIn K (.ref cc5) "__getattr__" = some none)
    (q5b:PySem.W.mroIn K cc5 (.type "BaseException")=some true)
    {dq5:_} (q5c:PySem.W.clsIn K cc5=some dq5)
    (q5a:PySem.W.findIn K (.ref cc5) "__class__" = some (some (.builtin "object.__class__")))
    (q5o:PySem.W.mroIn K cc5 (.type "object")=some true)
    (q5v:PySem.W.kitOne K (.ref cc5) (.type "ValueError")=some true)
    (q5k1:PySem.W.kitOne K (.ref cc5) (.ref cc1)=some false)
    (q5k2:PySem.W.kitOne K (.ref cc5) (.ref cc2)=some false)
    (q5k3:PySem.W.kitOne K (.ref cc5) (.ref cc3)=some false)
    (q5k4:PySem.W.kitOne K (.ref cc5) (.ref cc4)=some false)
    (q5k5:PySem.W.kitOne K (.ref cc5) (.ref cc5)=some true)
    (q5k6:PySem.W.kitOne K (.ref cc5) (.ref cc6)=some false)
    (q5k7:PySem.W.kitOne K (.ref cc5) (.ref cc7)=some false)
    (q5k8:PySem.W.kitOne K (.ref cc5) (.ref cc8)=some false)
    (q5k9:PySem.W.kitOne K (.ref cc5) (.ref cc9)=some false)
    (q5k10:PySem.W.kitOne K (.ref cc5) (.ref cc10)=some false)
    (q5k11:PySem.W.kitOne K (.ref cc5) (.ref cc11)=some false)
    (q5k12:PySem.W.kitOne K (.ref cc5) (.ref cc12)=some false)
    (q5k13:PySem.W.kitOne K (.ref cc5) (.ref cc13)=some false)
    (q5k14:PySem.W.kitOne K (.ref cc5) (.ref cc14)=some false)
    (q5k15:PySem.W.kitOne K (.ref cc5) (.ref cc15)=some false)
    (q5k16:PySem.W.kitOne K (.ref cc5) (.ref cc16)=some false)
    (q5k17:PySem.W.kitOne K (.ref cc5) (.ref cc17)=some false)
    (q5k18:PySem.W.kitOne K (.ref cc5) (.ref cc18)=some false)
    (q5k19:PySem.W.kitOne K (.ref cc5) (.ref cc19)=some false)
    (q6x:PySem.W.excIn K cc6 Rx.mroV "ValueError.__new__" = true)
    (q6r:PySem.W.mroIn K cc6 (.ref cR)=some true)
    (q6g:PySem.W.findIn K (.ref cc6) "__getattribute__" = some (some (.builtin "BaseException.__getattribute__")))
    (q6h:PySem.W.findIn K (.ref cc6) "__getattr__" = some none)
    (q6b:PySem.W.mroIn K cc6 (.type "BaseException")=some true)
    {dq6:_} (q6c:PySem.W.clsIn K cc6=some dq6)
    (q6a:PySem.W.findIn K (.ref cc6) "__class__" = some (some (.builtin "object.__class__")))
    (q6o:PySem.W.mroIn K cc6 (.type "object")=some true)
    (q6v:PySem.W.kitOne K (.ref cc6) (.type "ValueError")=some true)
    (q6k1:PySem.W.kitOne K (.ref cc6) (.ref cc1)=some false)
    (q6k2:PySem.W.kitOne K (.ref cc6) (.ref cc2)=some false)
    (q6k3:PySem.W.kitOne K (.ref cc6) (.ref cc3)=some false)
    (q6k4:PySem.W.kitOne K (.ref cc6) (.ref cc4)=some false)
    (q6k5:PySem.W.kitOne K (.ref cc6) (.ref cc5)=some false)
    (q6k6:PySem.W.kitOne K (.ref cc6) (.ref cc6)=some true)
    (q6k7:PySem.W.kitOne K (.ref cc6) (.ref cc7)=some false)
    (q6k8:PySem.W.kitOne K (.ref cc6) (.ref cc8)=some false)
    (q6k9:PySem.W.kitOne K (.ref cc6) (.ref cc9)=some false)
    (q6k10:PySem.W.kitOne K (.ref cc6) (.ref cc10)=some false)
    (q6k11:PySem.W.kitOne K (.ref cc6) (.ref cc11)=some false)
    (q6k12:PySem.W.kitOne K (.ref cc6) (.ref cc12)=some false)
    (q6k13:PySem.W.kitOne K (.ref cc6) (.ref cc13)=some false)
    (q6k14:PySem.W.kitOne K (.ref cc6) (.ref cc14)=some false)
    (q6k15:PySem.W.kitOne K (.ref cc6) (.ref cc15)=some false)
    (q6k16:PySem.W.kitOne K (.ref cc6) (.ref cc16)=some false)
    (q6k17:PySem.W.kitOne K (.ref cc6) (.ref cc17)=some false)
    (q6k18:PySem.W.kitOne K (.ref cc6) (.ref cc18)=some false)
    (q6k19:PySem.W.kitOne K (.ref cc6) (.ref cc19)=some false)
    :
    ∃ fd:FuncData,(∀ (s:Shared) (v:Value),BindsTo s fd ⟨[v],[]⟩ [("_law_script",v)])/\∀ base:Heap,K.In base->base.Ns mainGlobals mg->FnOk l.prog w K mg base CX0 7 fa fd ["_law_script"] (Dl.spLawD K):=by
  have e:=hfa.symm.trans (PySem.W.mg_of X G a23)
  cases e
  have T:=(⟨(PySem.W.mg_none_of X G z1),(PySem.W.mg_none_of X G z2),(PySem.W.mg_none_of X G z3),(PySem.W.mg_none_of X G z4),(PySem.W.mg_none_of X G z5),(PySem.W.mg_none_of X G z6),(PySem.W.mg_none_of X G z7),(PySem.W.mg_none_of X G z8),(PySem.W.mg_none_of X G z9),(PySem.W.mg_none_of X G z10),(PySem.W.mg_none_of X G z11),(PySem.W.mg_none_of X G z12),(PySem.W.mg_none_of X G z13),(PySem.W.mg_none_of X G z14),(PySem.W.mg_none_of X G z15),(PySem.W.mg_none_of X G z16),(PySem.W.mg_none_of X G z17),(PySem.W.mg_none_of X G z18),(PySem.W.mg_none_of X G z19)⟩:GlbA mg)
  have F1:=QaJ (st:=sWhole) l1 c1 k1
  have b1:=F1.binds (ps:=["thing"]) fun _ _ _ _ _ _ us hl=>match us,hl with | [_],_=>rfl
  have m1:=PySem.W.mg_of X G a1
  have F2:=QaJ (st:=sWithin) l2 c2 k2
  have b2:=F2.binds (ps:=["thing", "least", "most"]) fun _ _ _ _ _ _ us hl=>match us,hl with | [_,_,_],_=>rfl
  have m2:=PySem.W.mg_of X G a2
  have F3:=QaJ (st:=sStandsOf) l3 c3 k3
  have b3:=F3.binds (ps:=["board", "size"]) fun _ _ _ _ _ _ us hl=>match us,hl with | [_,_],_=>rfl
  have m3:=PySem.W.mg_of X G a3
  have F4:=QaJ (st:=sCounts) l4 c4 k4
  have b4:=F4.binds (ps:=["board"]) fun _ _ _ _ _ _ us hl=>match us,hl with | [_],_=>rfl
  have m4:=PySem.W.mg_of X G a4
  have F5:=QaJ (st:=sMost) l5 c5 k5
  have b5:=F5.binds (ps:=["board"]) fun _ _ _ _ _ _ us hl=>match us,hl with | [_],_=>rfl
  have m5:=PySem.W.mg_of X G a5
  have F6:=QaJ (st:=sEvery) l6 c6 k6
  have b6:=F6.binds (ps:=["board", "size"]) fun _ _ _ _ _ _ us hl=>match us,hl with | [_,_],_=>rfl
  have m6:=PySem.W.mg_of X G a6
  have F7:=QaJ (st:=sRefSz) l7 c7 k7
  have b7:=F7.binds (ps:=["board", "size"]) fun _ _ _ _ _ _ us hl=>match us,hl with | [_,_],_=>rfl
  have m7:=PySem.W.mg_of X G a7
  have F8:=QaJ (st:=sFol) l8 c8 k8
  have b8:=F8.binds (ps:=["board", "start"]) fun _ _ _ _ _ _ us hl=>match us,hl with | [_,_],_=>rfl
  have m8:=PySem.W.mg_of X G a8
  have F9:=QaJ (st:=sRowB) l9 c9 k9
  have b9:=F9.binds (ps:=["start"]) fun _ _ _ _ _ _ us hl=>match us,hl with | [_],_=>rfl
  have m9:=PySem.W.mg_of X G a9
  have F10:=QaJ (st:=sWays) l10 c10 k10
  have b10:=F10.binds (ps:=["board"]) fun _ _ _ _ _ _ us hl=>match us,hl with | [_],_=>rfl
  have m10:=PySem.W.mg_of X G a10
  have F11:=QaJ (st:=sRow) l11 c11 k11
  have b11:=F11.binds (ps:=["below", "columns", "taken"]) fun _ _ _ _ _ _ us hl=>match us,hl with | [_,_,_],_=>rfl
  have m11:=PySem.W.mg_of X G a11
  have F12:=QaJ (st:=lCellAt) l12 c12 k12
  have b12:=F12.binds (ps:=["_law_script", "_law_k"]) fun _ _ _ _ _ _ us hl=>match us,hl with | [_,_],_=>rfl
  have m12:=PySem.W.mg_of X G a12
  have F13:=QaJ (st:=lPot) l13 c13 k13
  have b13:=F13.binds (ps:=["_law_cell"]) fun _ _ _ _ _ _ us hl=>match us,hl with | [_],_=>rfl
  have m13:=PySem.W.mg_of X G a13
  have F14:=QaJ (st:=lTake) l14 c14 k14
  have b14:=F14.binds (ps:=["_law_pot_here", "_law_far"]) fun _ _ _ _ _ _ us hl=>match us,hl with | [_,_],_=>rfl
  have m14:=PySem.W.mg_of X G a14
  have F15:=QaJ (st:=lBoard) l15 c15 k15
  have b15:=F15.binds (ps:=["_law_pot_here", "_law_most"]) fun _ _ _ _ _ _ us hl=>match us,hl with | [_,_],_=>rfl
  have m15:=PySem.W.mg_of X G a15
  have F16:=QaJ (st:=lOdd) l16 c16 k16
  have b16:=F16.binds (ps:=["_law_pot_here"]) fun _ _ _ _ _ _ us hl=>match us,hl with | [_],_=>rfl
  have m16:=PySem.W.mg_of X G a16
  have F17:=QaJ (st:=lKind) l17 c17 k17
  have b17:=F17.binds (ps:=["_law_e"]) fun _ _ _ _ _ _ us hl=>match us,hl with | [_],_=>rfl
  have m17:=PySem.W.mg_of X G a17
  have F18:=QaJ (st:=lWhole) l18 c18 k18
  have b18:=F18.binds (ps:=["_law_thing"]) fun _ _ _ _ _ _ us hl=>match us,hl with | [_],_=>rfl
  have m18:=PySem.W.mg_of X G a18
  have F19:=QaJ (st:=lSame) l19 c19 k19
  have b19:=F19.binds (ps:=["_law_found", "_law_due"]) fun _ _ _ _ _ _ us hl=>match us,hl with | [_,_],_=>rfl
  have m19:=PySem.W.mg_of X G a19
  have F20:=QaJ (st:=lStands) l20 c20 k20
  have b20:=F20.binds (ps:=["_law_board_here"]) fun _ _ _ _ _ _ us hl=>match us,hl with | [_],_=>rfl
  have m20:=PySem.W.mg_of X G a20
  have F21:=QaJ (st:=lTold) l21 c21 k21
  have b21:=F21.binds (ps:=["_law_board_here", "_law_size"]) fun _ _ _ _ _ _ us hl=>match us,hl with | [_,_],_=>rfl
  have m21:=PySem.W.mg_of X G a21
  have F22:=QaJ (st:=lRight) l22 c22 k22
  have b22:=F22.binds (ps:=["_law_board_here", "_law_every", "_law_size"]) fun _ _ _ _ _ _ us hl=>match us,hl with | [_,_,_],_=>rfl
  have m22:=PySem.W.mg_of X G a22
  have F23:=QaJ (st:=sLaw) l23 c23 k23
  refine ⟨PySem.W.fnOf "law" "law" (Qat sLaw) (Qan sLaw) (Qaa sLaw) .none kV23 dc23 pm23 an23 cd23 ct23,fun s v=>.of_eq rfl,fun base _ _=>?_⟩
  have G1:FnOk l.prog w K mg base CX0 1 f1 _ ["thing"] (Dl.toSp false Dl.wholeD):=Qkh F1 T 
  have G2:FnOk l.prog w K mg base CX0 2 f2 _ ["thing", "least", "most"] (Dl.toSp false Qfe):=Qii F2 T m1 G1 b1 k1
  have G5:FnOk l.prog w K mg base CX0 1 f5 _ ["board"] (Dl.toSp false Qkp):=QmM F5 T 
  have G11:FnOk l.prog w K mg base CX0 1 f11 _ ["below", "columns", "taken"] (Dl.toSp true QlF):=QmH F11 T 
  have G10:FnOk l.prog w K mg base CX0 2 f10 _ ["board"] (Dl.toSp true QlH):=QmI F10 T m11 G11 b11 k11
  have G4:FnOk l.prog w K mg base CX0 3 f4 _ ["board"] (Dl.toSp true QfI):=Qio F4 T m10 G10 b10 k10 m5 G5 b5 k5
  have G9:FnOk l.prog w K mg base CX0 1 f9 _ ["start"] (Dl.toSp false QlP):=QmL F9 T 
  have G8:FnOk l.prog w K mg base CX0 2 f8 _ ["board", "start"] (Dl.toSp false folD):=ok_fol F8 T m9 G9 b9 k9
  have G6:FnOk l.prog w K mg base CX0 3 f6 _ ["board", "size"] (Dl.toSp true evD):=ok_ev F6 T m8 G8 b8 k8
  have G7:FnOk l.prog w K mg base (Rx.CXE l.prog w) 3 f7 _ ["board", "size"] (Dl.toSp false (QhB cc5)):=Qkj F7 T m2 G2 b2 k2 m5 G5 b5 k5 (PySem.W.mg_of X G e5) q5x
  have G3:FnOk l.prog w K mg base (Rx.CXE l.prog w) 4 f3 _ ["board", "size"] (Dl.toSp true (Qfk cc5 cc6)):=ok_so ⟨_,PySem.W.mg_of X G aA⟩ F3 T m7 G7 b7 k7 m4 G4 b4 k4 m6 G6 b6 k6 (PySem.W.mg_of X G e6) q6x
  have G12:FnOk l.prog w K mg base CX0 1 f12 _ ["_law_script", "_law_k"] (Qb8 K):=Qip F12 T 
  have G13:FnOk l.prog w K mg base CX0 1 f13 _ ["_law_cell"] (Dl.toSp true Dl.potD):=(ok_pot F13 T).imp fun _ _ _ _ h=>Dl.pot_d h
  have G14:FnOk l.prog w K mg base CX0 1 f14 _ ["_law_pot_here", "_law_far"] (Dl.toSp true Dl.takeD):=(QmK F14 T).imp fun _ _ _ _ h=>Dl.take_d h
  have G15:FnOk l.prog w K mg base CX0 2 f15 _ ["_law_pot_here", "_law_most"] (Dl.toSp false QfB):=Qin F15 T m14 G14 b14 k14
  have G16:FnOk l.prog w K mg base CX0 2 f16 _ ["_law_pot_here"] (Dl.toSp false QmZ):=ok_odd F16 T m14 G14 b14 k14
  have G18:FnOk l.prog w K mg base CX0 1 f18 _ ["_law_thing"] (Dl.toSp false Dl.wholeD):=Qim F18 T 
  have G19:FnOk l.prog w K mg base CX0 5 f19 _ ["_law_found", "_law_due"] (Dl.toSp false (Dl.sameD 3)):=(Qil F19 T m19 b19 k19 m18 (Qij F18 T) b18 k18 4).imp fun _ _ _ _ h=>Dl.same_d h
  have G20:FnOk l.prog w K mg base CX0 2 f20 _ ["_law_board_here"] (Dl.toSp false Qd9):=Qik F20 T 
  have G17:Rx.FnM l.prog w K mg base 1 f17 _ ["_law_e"] (Qf0 K [cc1,cc2,cc3,cc4,cc5,cc6,cc7,cc8,cc9,cc10,cc11,cc12,cc13,cc14,cc15,cc16,cc17,cc18,cc19]):=QmN F17 T (PySem.W.mg_none_of X G z20) (PySem.W.mg_of X G e1) (PySem.W.mg_of X G e2) (PySem.W.mg_of X G e3) (PySem.W.mg_of X G e4) (PySem.W.mg_of X G e5) (PySem.W.mg_of X G e6) (PySem.W.mg_of X G e7) (PySem.W.mg_of X G e8) (PySem.W.mg_of X G e9) (PySem.W.mg_of X G e10) (PySem.W.mg_of X G e11) (PySem.W.mg_of X G e12) (PySem.W.mg_of X G e13) (PySem.W.mg_of X G e14) (PySem.W.mg_of X G e15) (PySem.W.mg_of X G e16) (PySem.W.mg_of X G e17) (PySem.W.mg_of X G e18) (PySem.W.mg_of X G e19)
  have G21:FnOk l.prog w K mg base CX0 5 f21 _ ["_law_board_here", "_law_size"] (Dl.toSp true Qfh):=QmJ F21 T m3 G3 b3 k3 m17 G17 b17 k17 (PySem.W.mg_of X G eR) (⟨⟨r1,(by rw [r2];rfl),r3,q5r⟩,[false,false,false,false,true,false,false,false,false,false,false,false,false,false,false,false,false,false,false],4,⟨q5g,q5h,q5b,(by rw [q5c];rfl),q5a,u1,u2,q5o⟩,(.cons q5k1 (.cons q5k2 (.cons q5k3 (.cons q5k4 (.cons q5k5 (.cons q5k6 (.cons q5k7 (.cons q5k8 (.cons q5k9 (.cons q5k10 (.cons q5k11 (.cons q5k12 (.cons q5k13 (.cons q5k14 (.cons q5k15 (.cons q5k16 (.cons q5k17 (.cons q5k18 (.cons q5k19 .nil))))))))))))))))))),q5v,rfl,rfl,(by decide),rfl⟩:KOk K [cc1,cc2,cc3,cc4,cc5,cc6,cc7,cc8,cc9,cc10,cc11,cc12,cc13,cc14,cc15,cc16,cc17,cc18,cc19] cR cc5 "size") (⟨⟨r1,(by rw [r2];rfl),r3,q6r⟩,[false,false,false,false,false,true,false,false,false,false,false,false,false,false,false,false,false,false,false],5,⟨q6g,q6h,q6b,(by rw [q6c];rfl),q6a,u1,u2,q6o⟩,(.cons q6k1 (.cons q6k2 (.cons q6k3 (.cons q6k4 (.cons q6k5 (.cons q6k6 (.cons q6k7 (.cons q6k8 (.cons q6k9 (.cons q6k10 (.cons q6k11 (.cons q6k12 (.cons q6k13 (.cons q6k14 (.cons q6k15 (.cons q6k16 (.cons q6k17 (.cons q6k18 (.cons q6k19 .nil))))))))))))))))))),q6v,rfl,rfl,(by decide),rfl⟩:KOk K [cc1,cc2,cc3,cc4,cc5,cc6,cc7,cc8,cc9,cc10,cc11,cc12,cc13,cc14,cc15,cc16,cc17,cc18,cc19] cR cc6 "many")
  have G22:FnOk l.prog w K mg base CX0 6 f22 _ ["_law_board_here", "_law_every", "_law_size"] (Dl.toSp false QdW):=Qki F22 T m21 G21 b21 k21 m19 G19 b19 k19
  exact ok_law F23 T m12 G12 b12 k12 m13 G13 b13 k13 m14 G14 b14 k14 m15 G15 b15 k15 m20 G20 b20 k20 m16 G16 b16 k16 m22 G22 b22 k22
theorem walk {l:PySem.W.OpenLaw} {q:Program} {loose:List Str} {XP:(Str->Option Value)->Heap->Prop} {YP:World->Heap->Prop} {d:DefRec} {K:Params->PySem.W.Frag} (hn:l.most=some 63) (hdf:d.params.defaults=[])
    (hY:∀ (w:World) (h:Heap),YP w h->(K w.params).In h)
    (F:∀ (w:World) (mg:Str->Option Value) (fa:Addr) (h:Heap),(K w.params).In h->h.Ns mainGlobals mg->mg d.name=some (.ref fa) ->
      ∃ fd:FuncData,(∀ (s:Shared) (u:Value),BindsTo s fd ⟨[u],[]⟩ [("_law_script",u)])/\∀ base:Heap,(K w.params).In base->base.Ns mainGlobals mg->FnOk l.prog w (K w.params) mg base CX0 7 fa fd ["_law_script"] (Dl.spLawD (K w.params))) :
    PySem.W.WalkO q loose XP YP l.row.toRowW d [] (fun f vs=>PySem.call f vs):=
  L2.walk_of (n:=63) (k:=7) (x := "_law_script") (CX:=fun _=>CX0) (sp:=fun w=>(Dl.spLawD (K w.params))) hn (by decide) hdf ⟨rfl,by decide,by decide⟩ hY F (fun _ _ a ns hl _ hS=>⟨a,ns,rfl,hS,hl,fun _=>rfl⟩) fun _ _ _ _ _ z=>z
end Rk
open PySem PySem.W PyProof.Rows
set_option maxRecDepth 100000 in
set_option maxHeartbeats 0 in
theorem PySem.Challenge.cw_rooklands_k13_stands_listed_holds : PySem.Challenge.rw_rooklands_k13_stands_listed.Holds := by
  w_on;o_law;k_head;(case hw=>w_witness2)
  k_fill
  refine Rk.walk (l:=PySem.Challenge.rw_rooklands_k13_stands_listed) rfl rfl (fun w h Y=>PySem.W.kIn_of Y) ?F
  case F=>
    intro w mg fa h KX G hmg
    refine' Rk.all_mk KX G hmg ?a1 ?l1 ?c1 ?k1 ?a2 ?l2 ?c2 ?k2 ?a3 ?l3 ?c3 ?k3 ?a4 ?l4 ?c4 ?k4 ?a5 ?l5 ?c5 ?k5 ?a6 ?l6 ?c6 ?k6 ?a7 ?l7 ?c7 ?k7 ?a8 ?l8 ?c8 ?k8 ?a9 ?l9 ?c9 ?k9 ?a10 ?l10 ?c10 ?k10 ?a11 ?l11 ?c11 ?k11 ?a12 ?l12 ?c12 ?k12 ?a13 ?l13 ?c13 ?k13 ?a14 ?l14 ?c14 ?k14 ?a15 ?l15 ?c15 ?k15 ?a16 ?l16 ?c16 ?k16 ?a17 ?l17 ?c17 ?k17 ?a18 ?l18 ?c18 ?k18 ?a19 ?l19 ?c19 ?k19 ?a20 ?l20 ?c20 ?k20 ?a21 ?l21 ?c21 ?k21 ?a22 ?l22 ?c22 ?k22 ?a23 ?l23 ?c23 ?k23 ?z1 ?z2 ?z3 ?z4 ?z5 ?z6 ?z7 ?z8 ?z9 ?z10 ?z11 ?z12 ?z13 ?z14 ?z15 ?z16 ?z17 ?z18 ?z19 ?z20 ?aA ?e1 ?e2 ?e3 ?e4 ?e5 ?e6 ?e7 ?e8 ?e9 ?e10 ?e11 ?e12 ?e13 ?e14 ?e15 ?e16 ?e17 ?e18 ?e19 ?eR ?r1 ?r2 ?r3 ?u1 ?u2 ?q5x ?q5r ?q5g ?q5h ?q5b ?q5c ?q5a ?q5o ?q5v ?q5k1 ?q5k2 ?q5k3 ?q5k4 ?q5k5 ?q5k6 ?q5k7 ?q5k8 ?q5k9 ?q5k10 ?q5k11 ?q5k12 ?q5k13 ?q5k14 ?q5k15 ?q5k16 ?q5k17 ?q5k18 ?q5k19 ?q6x ?q6r ?q6g ?q6h ?q6b ?q6c ?q6a ?q6o ?q6v ?q6k1 ?q6k2 ?q6k3 ?q6k4 ?q6k5 ?q6k6 ?q6k7 ?q6k8 ?q6k9 ?q6k10 ?q6k11 ?q6k12 ?q6k13 ?q6k14 ?q6k15 ?q6k16 ?q6k17 ?q6k18 ?q6k19
    (case a1=>k_is)
    (case l1=>k_is)
    (case c1=>k_is)
    (case k1=>k_is)
    (case a2=>k_is)
    (case l2=>k_is)
    (case c2=>k_is)
    (case k2=>k_is)
    (case a3=>k_is)
    (case l3=>k_is)
    (case c3=>k_is)
    (case k3=>k_is)
    (case a4=>k_is)
    (case l4=>k_is)
    (case c4=>k_is)
    (case k4=>k_is)
    (case a5=>k_is)
    (case l5=>k_is)
    (case c5=>k_is)
    (case k5=>k_is)
    (case a6=>k_is)
    (case l6=>k_is)
    (case c6=>k_is)
    (case k6=>k_is)
    (case a7=>k_is)
    (case l7=>k_is)
    (case c7=>k_is)
    (case k7=>k_is)
    (case a8=>k_is)
    (case l8=>k_is)
    (case c8=>k_is)
    (case k8=>k_is)
    (case a9=>k_is)
    (case l9=>k_is)
    (case c9=>k_is)
    (case k9=>k_is)
    (case a10=>k_is)
    (case l10=>k_is)
    (case c10=>k_is)
    (case k10=>k_is)
    (case a11=>k_is)
    (case l11=>k_is)
    (case c11=>k_is)
    (case k11=>k_is)
    (case a12=>k_is)
    (case l12=>k_is)
    (case c12=>k_is)
    (case k12=>k_is)
    (case a13=>k_is)
    (case l13=>k_is)
    (case c13=>k_is)
    (case k13=>k_is)
    (case a14=>k_is)
    (case l14=>k_is)
    (case c14=>k_is)
    (case k14=>k_is)
    (case a15=>k_is)
    (case l15=>k_is)
    (case c15=>k_is)
    (case k15=>k_is)
    (case a16=>k_is)
    (case l16=>k_is)
    (case c16=>k_is)
    (case k16=>k_is)
    (case a17=>k_is)
    (case l17=>k_is)
    (case c17=>k_is)
    (case k17=>k_is)
    (case a18=>k_is)
    (case l18=>k_is)
    (case c18=>k_is)
    (case k18=>k_is)
    (case a19=>k_is)
    (case l19=>k_is)
    (case c19=>k_is)
    (case k19=>k_is)
    (case a20=>k_is)
    (case l20=>k_is)
    (case c20=>k_is)
    (case k20=>k_is)
    (case a21=>k_is)
    (case l21=>k_is)
    (case c21=>k_is)
    (case k21=>k_is)
    (case a22=>k_is)
    (case l22=>k_is)
    (case c22=>k_is)
    (case k22=>k_is)
    (case a23=>k_is)
    (case l23=>k_is)
    (case c23=>k_is)
    (case k23=>k_is)
    (case z1=>k_is)
    (case z2=>k_is)
    (case z3=>k_is)
    (case z4=>k_is)
    (case z5=>k_is)
    (case z6=>k_is)
    (case z7=>k_is)
    (case z8=>k_is)
    (case z9=>k_is)
    (case z10=>k_is)
    (case z11=>k_is)
    (case z12=>k_is)
    (case z13=>k_is)
    (case z14=>k_is)
    (case z15=>k_is)
    (case z16=>k_is)
    (case z17=>k_is)
    (case z18=>k_is)
    (case z19=>k_is)
    (case z20=>k_is)
    (case aA=>k_is)
    (case e1=>k_is)
    (case e2=>k_is)
    (case e3=>k_is)
    (case e4=>k_is)
    (case e5=>k_is)
    (case e6=>k_is)
    (case e7=>k_is)
    (case e8=>k_is)
    (case e9=>k_is)
    (case e10=>k_is)
    (case e11=>k_is)
    (case e12=>k_is)
    (case e13=>k_is)
    (case e14=>k_is)
    (case e15=>k_is)
    (case e16=>k_is)
    (case e17=>k_is)
    (case e18=>k_is)
    (case e19=>k_is)
    (case eR=>k_is)
    (case r1=>k_is)
    (case r2=>k_is)
    (case r3=>k_is)
    (case u1=>k_is)
    (case u2=>k_is)
    (case q5x=>k_exc)
    (case q5r=>k_is)
    (case q5g=>k_is)
    (case q5h=>k_is)
    (case q5b=>k_is)
    (case q5c=>k_is)
    (case q5a=>k_is)
    (case q5o=>k_is)
    (case q5v=>kit_is)
    (case q5k1=>kit_is)
    (case q5k2=>kit_is)
    (case q5k3=>kit_is)
    (case q5k4=>kit_is)
    (case q5k5=>kit_is)
    (case q5k6=>kit_is)
    (case q5k7=>kit_is)
    (case q5k8=>kit_is)
    (case q5k9=>kit_is)
    (case q5k10=>kit_is)
    (case q5k11=>kit_is)
    (case q5k12=>kit_is)
    (case q5k13=>kit_is)
    (case q5k14=>kit_is)
    (case q5k15=>kit_is)
    (case q5k16=>kit_is)
    (case q5k17=>kit_is)
    (case q5k18=>kit_is)
    (case q5k19=>kit_is)
    (case q6x=>k_exc)
    (case q6r=>k_is)
    (case q6g=>k_is)
    (case q6h=>k_is)
    (case q6b=>k_is)
    (case q6c=>k_is)
    (case q6a=>k_is)
    (case q6o=>k_is)
    (case q6v=>kit_is)
    (case q6k1=>kit_is)
    (case q6k2=>kit_is)
    (case q6k3=>kit_is)
    (case q6k4=>kit_is)
    (case q6k5=>kit_is)
    (case q6k6=>kit_is)
    (case q6k7=>kit_is)
    (case q6k8=>kit_is)
    (case q6k9=>kit_is)
    (case q6k10=>kit_is)
    (case q6k11=>kit_is)
    (case q6k12=>kit_is)
    (case q6k13=>kit_is)
    (case q6k14=>kit_is)
    (case q6k15=>kit_is)
    (case q6k16=>kit_is)
    (case q6k17=>kit_is)
    (case q6k18=>kit_is)
    (case q6k19=>kit_is)
