import PyProof.Rows.All
import Wide.All
import OpenK.AllK
import Wide.FinOn
import Lean
import PyProof.EqAt
import PyProof.EqKinds
import PyProof.TupleCall
import PyProof.Rows.SortRuns
import PyProof.Rows.SortShellK
import PyProof.P3Eq
import PyProof.Draws
import PyProof.EnumMake
import PyProof.NeData
import KE.LcSums
import PyProof.WalkInts
import PyProof.SeqI3
import KE.KSortTup
import KE.KRevIter
import PyProof.FactsAll.range_2
import PyProof.Rows.CallKwBuiltin
import PyProof.Rows.SortRev
import PyProof.SetRoads
import PyProof.FactsAll.set_1
import PyProof.Rows.SetFrom
import PyProof.CollectWalk
import PyProof.Walks
import PyProof.TupleIter
import PyProof.TupleKey
import KE.KDictOf
import PyProof.Rows.TupDisplay
import PySem.Challenge.RW_rooklands_k87_names_and_own_ways
set_option Elab.async false
set_option linter.all false
set_option maxRecDepth 100000
namespace L2
open PySem PySem.Spec PyProof.Rows
abbrev Key := Sum Int Str
def keyIs : Key → Value → Bool
  | .inl k, v => Value.isInt k v
  | .inr x, v => Value.isStrOf x v
def keyH (w : World) : Key → Int
  | .inl k => hashInt k
  | .inr x => hashStr w x
theorem keyIs_shape : ∀ {k : Key} {v : Value}, keyIs k v = true → (∃ i t, k = Sum.inl i ∧ v = Value.int i t) ∨ (∃ x t, k = Sum.inr x ∧ v = Value.str x t)
  | .inl i, v, h => by
    obtain ⟨t, e⟩ := Value.isInt_shape (k := i) (v := v) h
    exact .inl ⟨i, t, rfl, e⟩
  | .inr x, v, h => by
    obtain ⟨t, e⟩ := Value.isStrOf_shape (x := x) (v := v) h
    exact .inr ⟨x, t, rfl, e⟩
theorem key_ll (a b : Int) : decide ((Sum.inl a : Key) = Sum.inl b) = (a == b) := by
  by_cases e : a = b
  · subst e; simp
  · have h : ¬ (Sum.inl a : Key) = Sum.inl b := fun q => e (Sum.inl.inj q)
    rw [decide_eq_false h]
    exact (beq_eq_false_iff_ne.mpr e).symm
theorem key_rr (a b : Str) : decide ((Sum.inr a : Key) = Sum.inr b) = decide (a = b) := by
  by_cases e : a = b
  · subst e; simp
  · have h : ¬ (Sum.inr a : Key) = Sum.inr b := fun q => e (Sum.inr.inj q)
    rw [decide_eq_false h, decide_eq_false e]
theorem key_lr (a : Int) (b : Str) : decide ((Sum.inl a : Key) = Sum.inr b) = false := decide_eq_false (fun q => nomatch q)
theorem key_rl (a : Str) (b : Int) : decide ((Sum.inr a : Key) = Sum.inl b) = false := decide_eq_false (fun q => nomatch q)
def mixKind (prog : Program) (w : World) : PySem.KeyKind prog w Key where
  is := keyIs
  hash := keyH w
  inj := fun v a b ha hb => by
    rcases keyIs_shape ha with ⟨i, t, rfl, rfl⟩ | ⟨x, t, rfl, rfl⟩
    · rcases keyIs_shape hb with ⟨j, u, rfl, e⟩ | ⟨y, u, rfl, e⟩
      · injection e with e1 _; rw [e1]
      · exact nomatch e
    · rcases keyIs_shape hb with ⟨j, u, rfl, e⟩ | ⟨y, u, rfl, e⟩
      · exact nomatch e
      · injection e with e1 _; rw [e1]
  byValue := fun k v h => by
    rcases keyIs_shape h with ⟨i, t, rfl, rfl⟩ | ⟨x, t, rfl, rfl⟩ <;> rfl
  pyHash := fun hv h => by
    rcases keyIs_shape hv with ⟨i, t, rfl, rfl⟩ | ⟨x, t, rfl, rfl⟩
    · exact wpAny_pyHash_int h
    · exact wpAny_pyHash_str h
  eqBool := fun hu hv h => by
    rcases keyIs_shape hu with ⟨i, t, rfl, rfl⟩ | ⟨x, t, rfl, rfl⟩
    · rcases keyIs_shape hv with ⟨j, u, rfl, rfl⟩ | ⟨y, u, rfl, rfl⟩
      · rw [key_ll] at h; exact wpAny_eqBool_int h
      · rw [key_lr] at h; exact SeqAt.EqAt.int_str i t y u _ _ _ _ h
    · rcases keyIs_shape hv with ⟨j, u, rfl, rfl⟩ | ⟨y, u, rfl, rfl⟩
      · rw [key_rl] at h; exact SeqAt.EqAt.str_int x t j u _ _ _ _ h
      · rw [key_rr] at h; exact wpAny_eqBool_str h
  «strs» := fun k x t v h => by
    rcases keyIs_shape h with ⟨i, u, rfl, e⟩ | ⟨y, u, rfl, e⟩
    · exact nomatch e
    · injection e with e1 _
      subst e1
      cases v <;> rfl
end L2
namespace L2
open PySem PySem.Spec PyProof.Rows
inductive V where
  | non | bl (b : Bool) | int (i : Int) | str (x : Str) | byt (b : Array UInt8) | flt (b : UInt64) | ref (a : Addr) | ty (n : String)
  deriving DecidableEq
def RelV : V → Value → Prop
  | .non, u => u = Value.none
  | .bl b, u => u = Value.bool b
  | .int i, u => ∃ t, u = Value.int i t
  | .str x, u => ∃ t, u = Value.str x t
  | .byt b, u => ∃ t, u = Value.bytes b t
  | .flt b, u => ∃ t, u = Value.float b t
  | .ref a, u => u = Value.ref a
  | .ty n, u => u = Value.type n
abbrev Vals : List V → List Value → Prop := Paired RelV
theorem Vals.length {xs : List V} {us : List Value} (r : Vals xs us) : xs.length = us.length := Paired.length r
theorem Vals.get : ∀ {xs : List V} {us : List Value} {i : Nat} {x : V}, Vals xs us → xs[i]? = some x → ∃ u, us[i]? = some u ∧ RelV x u
  | _, _, _, _, .nil, e => by simp at e
  | _, _, 0, _, .cons r _, e => by simp at e; subst e; exact ⟨_, rfl, r⟩
  | _, _, i + 1, x, .cons _ t, e => by
    obtain ⟨u, h1, h2⟩ := Vals.get (i := i) (x := x) t (by simpa using e)
    exact ⟨u, by simpa using h1, h2⟩
theorem Vals.set {x : V} {u : Value} (r : RelV x u) : ∀ {xs : List V} {us : List Value} (i : Nat), Vals xs us → Vals (xs.set i x) (us.set i u)
  | _, _, _, .nil => .nil
  | _, _, 0, .cons _ t => .cons r t
  | _, _, i + 1, .cons q t => .cons q (Vals.set r i t)
theorem Vals.append : ∀ {xs ys : List V} {us ws : List Value}, Vals xs us → Vals ys ws → Vals (xs ++ ys) (us ++ ws)
  | _, _, _, _, .nil, s => s
  | _, _, _, _, .cons r t, s => .cons r (Vals.append t s)
def RelO : Option V → Option Value → Prop
  | some v, some u => RelV v u
  | none, none => True
  | _, _ => False
def KV {κ : Type} : List (κ × V) → List (κ × Value) → Prop := Paired fun (p : κ × V) (q : κ × Value) => p.1 = q.1 ∧ RelV p.2 q.2
def kV : Key → V
  | .inl i => .int i
  | .inr x => .str x
inductive HO where
  /-- a list -/
  | lst (xs : List V)
  /-- a tuple (never changes) -/
  | tup (xs : List V)
  /-- a dict whose keys are ints and texts; one whose keys are tuples of ints and texts (the empty one is both) -/
  | dK (kvs : List (Key × V)) | dT (kvs : List (List Key × V))
  /-- a set of ints: its members, its size -/
  | set (S : Int → Bool) (n : Nat)
  /-- an instance of the class at C, its dict at dx, its attributes -/
  | ins (C dx : Addr) (fs : List (Str × V))
  /-- the dict of the instance at x -/
  | own (x : Addr)
  /-- the dict of an exception -/
  | xd (fs : List (Str × V))
  /-- a bound method, f of x -/
  | met (f x : Addr)
  /-- a range object lo, lo + 1, .. below hi -/
  | rng (lo hi : Int)
  /-- a thing that is known to the object (the script; a dict while a loop walks it): read, never written while it is so -/
  | frz (o : Obj) (u : HO)
  /-- a code object's table -/
  | tbl (ps : Array Value)
  /-- any other thing, by what is true of its one object (a def of one's own: SetO a S n := HO.ext fun h => ..) -/
  | ext (φ : Heap → Prop)
abbrev Hp := Addr → Option HO
def upd (H : Hp) (a : Addr) (o : HO) : Hp := fun b => if b = a then some o else H b
theorem upd_same {H : Hp} {a : Addr} {o : HO} : upd H a o a = some o := by unfold upd; rw [if_pos rfl]
theorem upd_ne {H : Hp} {a b : Addr} {o : HO} (h : b ≠ a) : upd H a o b = H b := by unfold upd; rw [if_neg h]
theorem ne_of_none {H : Hp} {a b : Addr} {o : HO} (h : H a = some o) (h' : H b = none) : a ≠ b := by
  intro e; subst e; rw [h] at h'; cases h'
def TupN (h : Heap) (a : Addr) (items : Array Value) : Prop := ∃ o, h.get? a = some o ∧ o.cls = .type "tuple" ∧ o.dict = none ∧ ∃ n, o.data = .seq items n
theorem TupN.tup {h : Heap} {a : Addr} {items : Array Value} (x : TupN h a items) : IsTup h a items := let ⟨o, e, c, _, d⟩ := x; ⟨o, e, c, d⟩
theorem TupN.lt {h : Heap} {a : Addr} {items : Array Value} (x : TupN h a items) : a < h.objs.size := let ⟨_, e, _⟩ := x; Heap.lt_size e
theorem TupN.new (h : Heap) (items : Array Value) : TupN (h.push { cls := .type "tuple", data := .seq items }) h.objs.size items := ⟨_, Heap.get?_push_size _ rfl, rfl, rfl, _, rfl⟩
section
variable (P : Program) (w : World)
def ObjOk (H : Hp) (h : Heap) (a : Addr) : HO → Prop
  | .lst xs => xs.length ≤ sizeLine ∧ ∃ (its : List Value) (n : Nat), Vals xs its ∧ h.get? a = some { cls := .type "list", data := .seq its.toArray n }
  | .tup xs => xs.length ≤ sizeLine ∧ ∃ its : List Value, Vals xs its ∧ TupN h a its.toArray
  | .dK kvs => kvs.length ≤ sizeLine ∧ (a == sysModules) = false ∧ ∃ vs, KV kvs vs ∧ h.DictOf (mixKind P w) a vs
  | .dT kvs => kvs.length ≤ sizeLine ∧ (a == sysModules) = false ∧ ∃ xs : List (List Key × Addr × Value),
      Paired (fun (p : List Key × V) (q : List Key × Addr × Value) => p.1 = q.1 ∧ H q.2.1 = some (.tup (p.1.map kV)) ∧ RelV p.2 q.2.2) kvs xs ∧
      ∃ o es ep, h.get? a = some o ∧ o.ExactDict ∧ o.data = .dict es ep ∧ es.toList = xs.map (entryOfKey (tupleKind (mixKind P w))) ∧ (xs.map (·.1)).Nodup
  | .set S n => h.SetOf (intKind P w) a S n
  | .ins C dx fs => H dx = some (.own a) ∧ fs.length ≤ 1000 ∧ dx ≠ a ∧ h.get? a = some (PySem.W.instObj C dx) ∧
      ∃ mA, h.Ns1 dx mA ∧ (∀ f, RelO (fs.lookup f) (mA f)) ∧ PySem.Within mA (fs.map (·.1))
  | .own _ => ∃ o, h.get? a = some o
  | .xd fs => ∃ mA, h.Ns1 a mA ∧ ∀ f, RelO (fs.lookup f) (mA f)
  | .rng lo hi => ∃ t u v, h.get? a = some { cls := .type "range", data := .fields #[.int lo t, .int hi u, .int 1 v] }
  | .frz o u => h.get? a = some o ∧ ObjOk H h a u
  | .tbl ps => h.get? a = some { cls := .none, data := .fields ps }
  | .met f x => h.get? a = some (PySem.W.methodObj (.ref f) (.ref x))
  | .ext φ => φ h ∧ (∃ o, h.get? a = some o) ∧ ∀ h1 h2 : Heap, φ h1 → (∀ o, h1.get? a = some o → h2.get? a = some o) → φ h2
def HOk (H : Hp) (h : Heap) : Prop := ∀ a o, H a = some o → ObjOk P w H h a o
end
section
variable {P : Program} {w : World} {H H' : Hp} {h h' : Heap} {a : Addr} {o : HO}
theorem ObjOk.lt (x : ObjOk P w H h a o) : a < h.objs.size := by
  cases o with
  | lst xs => obtain ⟨_, _, _, _, e⟩ := x; exact Heap.lt_size e
  | tup xs => obtain ⟨_, _, _, p⟩ := x; exact p.lt
  | dK kvs => obtain ⟨_, _, _, _, o, _, _, e, _⟩ := x; exact Heap.lt_size e
  | dT kvs => obtain ⟨_, _, _, _, o, _, _, e, _⟩ := x; exact Heap.lt_size e
  | set S n => obtain ⟨o, _, _, _, e, _⟩ := x; exact Heap.lt_size e
  | ins C dx fs => obtain ⟨_, _, _, e, _⟩ := x; exact Heap.lt_size e
  | own y => obtain ⟨_, e⟩ := x; exact Heap.lt_size e
  | xd fs => obtain ⟨_, ⟨_, _, _, e, _⟩, _⟩ := x; exact Heap.lt_size e
  | rng lo hi => obtain ⟨_, _, _, e⟩ := x; exact Heap.lt_size e
  | frz ob u => obtain ⟨e, _⟩ := x; exact Heap.lt_size e
  | tbl ps => exact Heap.lt_size (show h.get? a = some _ from x)
  | met f y => exact Heap.lt_size (show h.get? a = some _ from x)
  | ext φ => obtain ⟨_, ⟨_, e⟩, _⟩ := x; exact Heap.lt_size e
theorem Paired.mapP {α β : Type} {F G : α → β → Prop} : ∀ {l₁ : List α} {l₂ : List β}, Paired F l₁ l₂ → (∀ a b, F a b → G a b) → Paired G l₁ l₂
  | _, _, .nil, _ => .nil
  | _, _, .cons r t, f => .cons (f _ _ r) (Paired.mapP t f)
theorem ObjOk.stay (x : ObjOk P w H h a o) (k : ∀ b u, (b = a ∨ H b = some (.own a)) → h.get? b = some u → h'.get? b = some u)
    (ho : ∀ b, H b = some (.own a) → H' b = some (.own a)) (ht : ∀ b xs, H b = some (.tup xs) → H' b = some (.tup xs)) : ObjOk P w H' h' a o := by
  induction o with
  | lst xs => obtain ⟨z, its, n, r, e⟩ := x; exact ⟨z, its, n, r, k _ _ (.inl rfl) e⟩
  | tup xs => obtain ⟨z, its, r, ob, e, c⟩ := x; exact ⟨z, its, r, ob, k _ _ (.inl rfl) e, c⟩
  | dK kvs => obtain ⟨z, y, vs, r, ob, es, ep, e, c⟩ := x; exact ⟨z, y, vs, r, ob, es, ep, k _ _ (.inl rfl) e, c⟩
  | dT kvs =>
    obtain ⟨z, y, xs, r, ob, es, ep, e, c⟩ := x
    exact ⟨z, y, xs, Paired.mapP r fun p q z => ⟨z.1, ht _ _ z.2.1, z.2.2⟩, ob, es, ep, k _ _ (.inl rfl) e, c⟩
  | set S n => obtain ⟨ob, es, ep, t, e, c⟩ := x; exact ⟨ob, es, ep, t, k _ _ (.inl rfl) e, c⟩
  | ins C dx fs =>
    obtain ⟨d, z, ne, e, mA, ⟨od, es, ep, e2, c⟩, r⟩ := x
    exact ⟨ho _ d, z, ne, k _ _ (.inl rfl) e, mA, ⟨od, es, ep, k _ _ (.inr d) e2, c⟩, r⟩
  | own y => obtain ⟨ob, e⟩ := x; exact ⟨ob, k _ _ (.inl rfl) e⟩
  | xd fs => obtain ⟨mA, ⟨od, es, ep, e, c⟩, r⟩ := x; exact ⟨mA, ⟨od, es, ep, k _ _ (.inl rfl) e, c⟩, r⟩
  | rng lo hi => obtain ⟨t, u, v, e⟩ := x; exact ⟨t, u, v, k _ _ (.inl rfl) e⟩
  | frz ob u ih => obtain ⟨e, q⟩ := x; exact ⟨k _ _ (.inl rfl) e, ih q⟩
  | tbl ps =>
    have e : h.get? a = some { cls := .none, data := .fields ps } := x
    show h'.get? a = some { cls := .none, data := .fields ps }
    exact k a _ (.inl rfl) e
  | met f y =>
    have e : h.get? a = some (PySem.W.methodObj (.ref f) (.ref y)) := x
    show h'.get? a = some (PySem.W.methodObj (.ref f) (.ref y))
    exact k a _ (.inl rfl) e
  | ext φ => obtain ⟨p, ⟨o, e⟩, st⟩ := x; exact ⟨st _ _ p fun o q => k _ _ (.inl rfl) q, ⟨o, k _ _ (.inl rfl) e⟩, st⟩
theorem HOk.lt (x : HOk P w H h) (e : H a = some o) : a < h.objs.size := (x a o e).lt
theorem HOk.fresh (x : HOk P w H h) (e : h.objs.size ≤ a) : H a = none := by
  cases q : H a with
  | none => rfl
  | some u => exact absurd (Nat.lt_of_lt_of_le (x.lt q) e) (Nat.lt_irrefl _)
theorem HOk.kept (x : HOk P w H h) (k : ∀ b u, h.get? b = some u → h'.get? b = some u) : HOk P w H h' := fun a o e =>
  (x a o e).stay (fun b u _ q => k b u q) (fun _ q => q) fun _ _ q => q
theorem HOk.laid (x : HOk P w H h) (k : ∀ b u, h.get? b = some u → h'.get? b = some u) (hp : h.objs.size ≤ a) (new : ObjOk P w (upd H a o) h' a o) : HOk P w (upd H a o) h' := fun b u e => by
  have hn := x.fresh hp
  by_cases hb : b = a
  · subst hb; rw [upd_same] at e; cases e; exact new
  · rw [upd_ne hb] at e
    exact (x b u e).stay (fun c v _ q => k c v q) (fun c q => by rw [upd_ne (ne_of_none q hn)]; exact q) fun c xs q => by rw [upd_ne (ne_of_none q hn)]; exact q
end
def Rd (H : Hp) (a : Addr) (u : HO) : Prop := H a = some u ∨ ∃ o, H a = some (.frz o u)
theorem Rd.ok {P : Program} {w : World} {H : Hp} {h : Heap} {a : Addr} {u : HO} (r : Rd H a u) (x : HOk P w H h) : ObjOk P w H h a u := by
  rcases r with r | ⟨o, r⟩
  · exact x a u r
  · obtain ⟨_, q⟩ := x a _ r
    exact q
def Mut : Option HO → Prop
  | some (.lst _) => True
  | some (.dK _) => True
  | some (.dT _) => True
  | some (.set _ _) => True
  | some (.ins _ _ _) => True
  | some (.ext _) => True
  | _ => False
section
variable {P : Program} {w : World} {H : Hp} {h h' : Heap} {x e : Addr} {o' : HO}
theorem HOk.write (ok : HOk P w H h) (mu : Mut (H x)) (he : e = x ∨ H e = some (.own x)) (k : ∀ b u, b ≠ e → h.get? b = some u → h'.get? b = some u) (heo : ∃ u, h'.get? e = some u)
    (new : ObjOk P w (upd H x o') h' x o') : HOk P w (upd H x o') h' := fun b u q => by
  have nown : ∀ c y, H c = some (.own y) → c ≠ x := fun c y r z => by subst z; rw [r] at mu; exact mu
  have ntup : ∀ c xs, H c = some (.tup xs) → c ≠ x := fun c xs r z => by subst z; rw [r] at mu; exact mu
  by_cases hb : b = x
  · subst hb; rw [upd_same] at q; cases q; exact new
  · rw [upd_ne hb] at q
    by_cases hbe : b = e
    · have q' : H b = some (.own x) := by
        rcases he with z | z
        · exact absurd (hbe.trans z) hb
        · rw [hbe]; exact z
      rw [q] at q'; cases q'
      obtain ⟨v, hv⟩ := heo
      exact ⟨v, by rw [hbe]; exact hv⟩
    · refine (ok b u q).stay (fun c v hc r => k c v ?_ r) (fun c r => by rw [upd_ne (nown c b r)]; exact r) fun c xs r => by rw [upd_ne (ntup c xs r)]; exact r
      rcases hc with rfl | hc
      · exact hbe
      · rintro rfl
        rcases he with z | z
        · exact nown c b hc z
        · rw [hc] at z; cases z; exact hb rfl
end
structure Un (fs ex : List Addr) (H H' : Hp) (h h' : Heap) : Prop where
  keep : ∀ b o, h.get? b = some o → H b = none → b ∉ fs → b ∉ ex → h'.get? b = some o
  slot : ∀ b o, h.get? b = some o → H b = none → b ∈ fs → b ∉ ex → ∃ sl, h'.get? b = some { o with slots := sl }
  free : ∀ b o, h.get? b = some o → H b = none → b ∉ ex → H' b = none
  there : ∀ b o, h.get? b = some o → b ∉ ex → ∃ o', h'.get? b = some o'
  tups : ∀ b xs, H b = some (.tup xs) → H' b = some (.tup xs)
  frzs : ∀ b o u, H b = some (.frz o u) → H' b = some (.frz o u)
  tbls : ∀ b ps, H b = some (.tbl ps) → ∃ more, H' b = some (.tbl (ps ++ more))
section
variable {fs fs' ex ex' : List Addr} {H H1 H2 : Hp} {h h1 h2 h' : Heap} {a x e : Addr} {o : HO}
theorem Un.any (u : Un fs ex H H1 h h1) {b : Addr} {ob : Obj} (q : h.get? b = some ob) (n : H b = none) (hx : b ∉ ex) : ∃ sl, h1.get? b = some { ob with slots := sl } := by
  by_cases hb : b ∈ fs
  · exact u.slot b ob q n hb hx
  · exact ⟨ob.slots, u.keep b ob q n hb hx⟩
theorem Un.kept (k : ∀ b u, h.get? b = some u → h'.get? b = some u) : Un fs ex H H h h' :=
  ⟨fun b ob q _ _ _ => k b ob q, fun b ob q _ _ _ => ⟨ob.slots, k b ob q⟩, fun _ _ _ n _ => n, fun b ob q _ => ⟨ob, k b ob q⟩, fun _ _ q => q, fun _ _ _ q => q, fun _ ps q => ⟨#[], by rw [q]; simp⟩⟩
theorem Un.refl : Un fs ex H H h h := Un.kept fun _ _ q => q
theorem Un.laid (k : ∀ b u, h.get? b = some u → h'.get? b = some u) (hp : h.objs.size ≤ a) (hn : H a = none) : Un fs ex H (upd H a o) h h' where
  keep := fun b u q _ _ _ => k b u q
  slot := fun b u q _ _ _ => ⟨u.slots, k b u q⟩
  free := fun b u q n _ => by rw [upd_ne (Nat.ne_of_lt (Nat.lt_of_lt_of_le (Heap.lt_size q) hp))]; exact n
  there := fun b u q _ => ⟨u, k b u q⟩
  tups := fun b xs q => by rw [upd_ne (ne_of_none q hn)]; exact q
  frzs := fun b u xs q => by rw [upd_ne (ne_of_none q hn)]; exact q
  tbls := fun b ps q => ⟨#[], by rw [upd_ne (ne_of_none q hn), q]; simp⟩
theorem Un.write (mu : Mut (H x)) (he : e = x ∨ H e = some (.own x)) (k : ∀ b u, b ≠ e → h.get? b = some u → h'.get? b = some u) (heo : ∃ u, h'.get? e = some u) : Un fs ex H (upd H x o) h h' := by
  have hx : ∀ b, H b = none → b ≠ x := fun b n z => by subst z; rw [n] at mu; exact mu
  have hb : ∀ b, H b = none → b ≠ e := fun b n z => by
    subst z
    rcases he with r | r
    · exact hx b n r
    · rw [n] at r; cases r
  have hm : ∀ b u, H b = some u → ¬ Mut (some u) → b ≠ x := fun b u q nm z => by subst z; rw [q] at mu; exact nm mu
  refine ⟨fun b u q n _ _ => k b u (hb b n) q, fun b u q n _ _ => ⟨u.slots, k b u (hb b n) q⟩, fun b u q n _ => by rw [upd_ne (hx b n)]; exact n, fun b u q _ => ?_,
    fun b xs q => by rw [upd_ne (hm b _ q fun z => z)]; exact q, fun b u xs q => by rw [upd_ne (hm b _ q fun z => z)]; exact q, fun b ps q => ⟨#[], by rw [upd_ne (hm b _ q fun z => z), q]; simp⟩⟩
  by_cases hbe : b = e
  · subst hbe; exact heo
  · exact ⟨u, k b u hbe q⟩
end
def trk (h : Heap) (H : Hp) : List Addr := (List.range h.objs.size).filter fun a => (H a).isSome
def hidT (h : Heap) (H : Hp) : Heap := PySem.W.hideAll h (trk h H)
theorem hidT_size (h : Heap) (H : Hp) : (hidT h H).objs.size = h.objs.size := PySem.W.hideAll_size _ _
theorem hidT_get {h : Heap} {H : Hp} {b : Addr} {o : Obj} (e : h.get? b = some o) (n : H b = none) : (hidT h H).get? b = some o :=
  PySem.W.hideAll_get _ e fun hm => by
    have q : (H b).isSome = true := (List.mem_filter.mp hm).2
    rw [n] at q; simp at q
theorem of_hidT {h : Heap} {H : Hp} {b : Addr} {o : Obj} (e : (hidT h H).get? b = some o) : h.get? b = some o ∧ H b = none := by
  have e' : h.get? b = some o := PySem.W.of_hideAll (trk h H) e
  refine ⟨e', ?_⟩
  cases q : H b with
  | none => rfl
  | some x =>
    have hm : b ∈ trk h H := List.mem_filter.mpr ⟨List.mem_range.mpr (Heap.lt_size e'), by simp [q]⟩
    have z : (hidT h H).get? b = none := PySem.W.hideAll_none (trk h H) hm
    rw [z] at e; cases e
def allNews (g h : Heap) (L : Addr) : List (Addr × Obj) := (List.range h.objs.size).filterMap fun a => if a = L ∨ (g.get? a).isSome = true then none else (h.get? a).map fun o => (a, o)
def rest (g h : Heap) (L d : Addr) : List (Addr × Obj) := (allNews g h L).filter fun p => decide (p.1 ≠ d)
end L2
namespace L2
open PySem PySem.Spec PyProof.Rows
structure Mod (K : PySem.W.Frag) (mg : Str → Option Value) (base : Heap) : Prop where
  kin : K.In base
  glob : base.Ns mainGlobals mg
  blt : ∃ mb, base.Ns builtinsNs mb ∧ ∀ x : Str, x ≠ "__name__" → mb x = bootBuiltins x
  nolimit : base.NoLimit
structure Cx where
  prog : Program
  w : World
  K : PySem.W.Frag
  mg : Str → Option Value
  base : Heap
  A : Around
  N : List Str
  s₀ : Shared
  H₀ : Hp
  env : Env
  outer : List Env
  stack : List Env
  ex : List Addr
  fn : Str → Bool
  calm : Bool
  pn : List (Addr × Obj)
  xe : Value → Shared → Prop
def frs (l : List Env) : List Addr := l.filterMap (·.frame)
abbrev Cx.fs (X : Cx) : List Addr := frs X.outer
def Vis (sc : Scope) (x : Str) : Prop := sc.names.lookup x = some .local ∨ sc.names.lookup x = some .cell ∨ sc.names.lookup x = some .free
def Loc (sc : Scope) (x : Str) : Prop := sc.names.lookup x = some .local ∨ sc.names.lookup x = some .cell
def Look (env : Env) (h : Heap) (m : Str → Option Value) (x : Str) (u : Value) : Prop :=
  (env.kindOf x = some .local ∧ m x = some u) ∨ ((env.kindOf x = some .cell ∨ env.kindOf x = some .free) ∧ ∃ c, env.cells.lookup x = some c ∧ h.IsCell c (some u))
structure Cx.Ok (X : Cx) : Prop where
  mod : Mod X.K X.mg X.base
  kind : X.env.scope.kind = .function
  glob : X.env.globals = mainGlobals
  blt : X.env.builtins = builtinsNs
  above : X.s₀.heap.objs.size ≤ X.env.locals
  inj : ∀ x y c, X.env.cells.lookup x = some c → X.env.cells.lookup y = some c → x = y
  has : ∀ x, (X.env.kindOf x = some .cell ∨ X.env.kindOf x = some .free) → ∃ c, X.env.cells.lookup x = some c
  cab : ∀ x c, X.fn x = true → X.env.cells.lookup x = some c → X.s₀.heap.objs.size ≤ c
  hd : X.calm = true → X.A.handled = none
  frames : X.A.frames = some X.stack
  stk : X.stack = X.outer ∨ (X.stack = X.env :: X.outer ∧ X.env.frame = some X.env.locals)
  exf : ∀ b ∈ X.ex, b ≠ X.env.locals ∧ ∀ x c, X.env.cells.lookup x = some c → c ≠ b
  bs : ∀ b o, X.base.get? b = some o → X.s₀.heap.get? b = some o ∧ X.H₀ b = none
  bsz : X.base.objs.size ≤ X.s₀.heap.objs.size
  noex : ∀ b o, X.base.get? b = some o → b ∉ X.ex
  exfs : ∀ b ∈ X.ex, b ∉ X.fs
  funs : X.s₀.heap.FunFrames X.base X.outer
  frf : ∀ b ∈ X.fs, X.H₀ b = none
structure Inv (X : Cx) (pins : List (Addr × Obj)) (σ : List (Option V)) (H : Hp) (s : Shared) : Prop where
  ok : X.Ok
  os : s.os = X.s₀.os
  bare : AllBare s.gens
  base : Un X.fs X.ex X.H₀ H X.s₀.heap s.heap
  loc : ∃ m, s.heap.Ns X.env.locals m ∧ ∀ (i : Nat) (x : Str) (v : V), X.N[i]? = some x → σ[i]? = some (some v) → Vis X.env.scope x → ∃ u, RelV v u ∧ Look X.env s.heap m x u
  cell : ∀ x c, X.env.cells.lookup x = some c → ∃ v, s.heap.IsCell c v
  free : H X.env.locals = none
  freeC : ∀ x c, X.env.cells.lookup x = some c → H c = none
  pin : ∀ p ∈ X.pn ++ pins, s.heap.get? p.1 = some p.2 ∧ H p.1 = none ∧ p.1 ≠ X.env.locals ∧ p.1 ∉ X.fs ∧ ∀ v, p.2.data ≠ .cell v
  hok : HOk X.prog X.w H s.heap
  len : σ.length = X.N.length
section
variable {X : Cx} {pins : List (Addr × Obj)} {σ : List (Option V)} {H H' : Hp} {s : Shared} {h' : Heap}
theorem Cx.Ok.nofr (ok : X.Ok) {b : Addr} {o : Obj} (e : X.base.get? b = some o) : b ∉ X.fs := fun hb => by
  have := (ok.funs.mem hb).1
  rw [e] at this; cases this
theorem Inv.bs (I : Inv X pins σ H s) : ∀ b o, X.base.get? b = some o → s.heap.get? b = some o ∧ H b = none := fun b o e =>
  ⟨I.base.keep b o (I.ok.bs b o e).1 (I.ok.bs b o e).2 (I.ok.nofr e) (I.ok.noex b o e), I.base.free b o (I.ok.bs b o e).1 (I.ok.bs b o e).2 (I.ok.noex b o e)⟩
theorem Inv.bk (I : Inv X pins σ H s) : ∀ b o, X.base.get? b = some o → s.heap.get? b = some o := fun b o e => (I.bs b o e).1
theorem Inv.mod (I : Inv X pins σ H s) : Mod X.K X.mg X.base := I.ok.mod
theorem Inv.kIn (I : Inv X pins σ H s) : X.K.In s.heap := I.ok.mod.kin.keeps I.bk
theorem Inv.fr (I : Inv X pins σ H s) : ∃ m, Fr X.base X.env.locals s.heap m :=
  let ⟨m, hn, _⟩ := I.loc
  ⟨m, hn, I.bk, Nat.le_trans I.ok.bsz I.ok.above⟩
theorem Inv.lt (I : Inv X pins σ H s) : X.env.locals < s.heap.objs.size := let ⟨_, hn, _⟩ := I.loc; hn.lt
theorem Inv.sz (I : Inv X pins σ H s) : X.s₀.heap.objs.size ≤ s.heap.objs.size := Nat.le_trans I.ok.above (Nat.le_of_lt I.lt)
theorem Inv.nofs (I : Inv X pins σ H s) {a : Addr} (h : s.heap.objs.size ≤ a) : a ∉ X.fs := fun hb => by
  obtain ⟨_, o, ho, _⟩ := I.ok.funs.mem hb
  exact absurd (Nat.lt_of_lt_of_le (Heap.lt_size ho) (Nat.le_trans I.sz h)) (Nat.lt_irrefl _)
theorem Inv.cne (I : Inv X pins σ H s) : ∀ x c, X.env.cells.lookup x = some c → c ≠ X.env.locals := fun x c e z => by
  obtain ⟨v, o, ho, hd⟩ := I.cell x c e
  obtain ⟨m, ⟨o', es, ep, ho', hd', _⟩, _⟩ := I.loc
  rw [z, ho'] at ho; cases ho; rw [hd'] at hd; cases hd
theorem Inv.funs (I : Inv X pins σ H s) : s.heap.FunFrames X.base X.outer := by
  have all : ∀ (l : List Env), (∀ b ∈ frs l, b ∈ X.fs) → X.s₀.heap.FunFrames X.base l → s.heap.FunFrames X.base l := by
    intro l
    induction l with
    | nil => intro _ _; trivial
    | cons env r ih =>
      intro hs hl
      obtain ⟨hk, ⟨L, o, hf, hn, ho, hd⟩, hr⟩ := hl
      have hL : L ∈ X.fs := hs L (by unfold frs; rw [List.filterMap_cons, hf]; exact List.mem_cons_self)
      obtain ⟨sl, e⟩ := I.base.slot L o ho (I.ok.frf L hL) hL fun z => I.ok.exfs L z hL
      exact ⟨hk, ⟨L, _, hf, hn, e, hd⟩, ih (fun b hb => hs b (by unfold frs; rw [List.filterMap_cons, hf]; exact List.mem_cons_of_mem _ hb)) hr⟩
  exact all X.outer (fun _ hb => hb) I.ok.funs
theorem Inv.stack (I : Inv X pins σ H s) : s.heap.FunFrames X.base X.stack := by
  rcases I.ok.stk with e | ⟨e, hf⟩
  · rw [e]; exact I.funs
  · rw [e]
    obtain ⟨m, hn, _⟩ := I.loc
    refine .cons (by rw [I.ok.kind]; decide) hf hn ?_ I.funs
    exact Heap.get?_none_of_le (Nat.le_trans I.ok.bsz I.ok.above)
theorem Inv.stkSub (I : Inv X pins σ H s) : ∀ b ∈ frs X.stack, b ∈ X.env.locals :: X.fs := fun b hb => by
  rcases I.ok.stk with e | ⟨e, hf⟩
  · rw [e] at hb; exact List.mem_cons_of_mem _ hb
  · rw [e] at hb
    unfold frs at hb
    rw [List.filterMap_cons, hf] at hb
    exact hb
theorem Inv.stkFree (I : Inv X pins σ H s) : ∀ b ∈ frs X.stack, H b = none := fun b hb => by
  rcases List.mem_cons.mp (I.stkSub b hb) with e | hb
  · rw [e]; exact I.free
  · obtain ⟨_, o, ho, _⟩ := I.ok.funs.mem hb
    exact I.base.free b o ho (I.ok.frf b hb) fun z => I.ok.exfs b z hb
theorem Inv.step {g' : Array GenState} {t' : Nat} {d' : Drawn} {ch : List Addr} (I : Inv X pins σ H s)
    (hch : ∀ b ∈ ch, (b ∈ X.ex ∨ X.s₀.heap.objs.size ≤ b) ∧ b ≠ X.env.locals ∧ (∀ x c, X.env.cells.lookup x = some c → c ≠ b) ∧ ∀ p ∈ X.pn ++ pins, p.1 ≠ b)
    (keep : ∀ b o, b ≠ X.env.locals → b ∉ X.fs → b ∉ ch → s.heap.get? b = some o → H b = none → h'.get? b = some o)
    (slot : ∀ b o, b ≠ X.env.locals → b ∈ X.fs → b ∉ ch → s.heap.get? b = some o → H b = none → ∃ sl, h'.get? b = some { o with slots := sl }) (free : ∀ b o, b ∉ ch → s.heap.get? b = some o → H b = none → H' b = none)
    (there : ∀ b o, b ∉ ch → s.heap.get? b = some o → ∃ o', h'.get? b = some o')
    (tups : ∀ b xs, H b = some (.tup xs) → H' b = some (.tup xs)) (frzs : ∀ b o u, H b = some (.frz o u) → H' b = some (.frz o u)) (tbls : ∀ b ps, H b = some (.tbl ps) → ∃ more, H' b = some (.tbl (ps ++ more)))
    (ns : ∀ m, s.heap.Ns X.env.locals m → h'.Ns X.env.locals m) (hok : HOk X.prog X.w H' h') (hg : AllBare g') :
    Inv X pins σ H' { s with heap := h', gens := g', drawn := d', toks := t' } := by
  have neL : ∀ b o, X.s₀.heap.get? b = some o → b ≠ X.env.locals := fun b o e => Nat.ne_of_lt (Nat.lt_of_lt_of_le (Heap.lt_size e) I.ok.above)
  have neC : ∀ b o, X.s₀.heap.get? b = some o → b ∉ X.ex → b ∉ ch := fun b o e hx hb => by
    rcases (hch b hb).1 with z | z
    · exact hx z
    · exact absurd (Nat.lt_of_lt_of_le (Heap.lt_size e) z) (Nat.lt_irrefl _)
  have cellK : ∀ x c, X.env.cells.lookup x = some c → ∀ v, s.heap.IsCell c v → h'.IsCell c v := fun x c e v ⟨o, ho, hd⟩ => by
    have nch : c ∉ ch := fun z => (hch c z).2.2.1 x c e rfl
    by_cases hc : c ∈ X.fs
    · obtain ⟨sl, q⟩ := slot c o (I.cne x c e) hc nch ho (I.freeC x c e)
      exact ⟨_, q, hd⟩
    · exact ⟨o, keep c o (I.cne x c e) hc nch ho (I.freeC x c e), hd⟩
  refine ⟨I.ok, I.os, hg, ⟨fun b o e n hb hx => ?_, fun b o e n hb hx => ?_, fun b o e n hx => ?_, fun b o e hx => ?_, fun b xs e => tups b xs (I.base.tups b xs e), fun b o xs e => frzs b o xs (I.base.frzs b o xs e), fun b ps e => ?_⟩, ?_, fun x c e => ?_, ?_, fun x c e => ?_, fun p hp => ?_, hok, I.len⟩
  · exact keep b o (neL b o e) hb (neC b o e hx) (I.base.keep b o e n hb hx) (I.base.free b o e n hx)
  · obtain ⟨sl, e1⟩ := I.base.slot b o e n hb hx
    obtain ⟨sl', e2⟩ := slot b _ (neL b o e) hb (neC b o e hx) e1 (I.base.free b o e n hx)
    exact ⟨sl', e2⟩
  · obtain ⟨o', e1⟩ := I.base.there b o e hx
    exact free b o' (neC b o e hx) e1 (I.base.free b o e n hx)
  · obtain ⟨o', e1⟩ := I.base.there b o e hx
    exact there b o' (neC b o e hx) e1
  · obtain ⟨m1, e1⟩ := I.base.tbls b ps e
    obtain ⟨m2, e2⟩ := tbls b _ e1
    exact ⟨m1 ++ m2, by rw [e2, Array.append_assoc]⟩
  · obtain ⟨m, hn, hl⟩ := I.loc
    refine ⟨m, ns m hn, fun i x v e1 e2 e3 => ?_⟩
    obtain ⟨u, r, l⟩ := hl i x v e1 e2 e3
    refine ⟨u, r, ?_⟩
    rcases l with l | ⟨k, c, e, z⟩
    · exact .inl l
    · exact .inr ⟨k, c, e, cellK x c e _ z⟩
  · obtain ⟨v, z⟩ := I.cell x c e
    exact ⟨v, cellK x c e v z⟩
  · obtain ⟨m, ⟨o, _, _, ho, _⟩, _⟩ := I.loc
    exact free _ o (fun z => (hch _ z).2.1 rfl) ho I.free
  · obtain ⟨v, o, ho, hd⟩ := I.cell x c e
    exact free c o (fun z => (hch c z).2.2.1 x c e rfl) ho (I.freeC x c e)
  · obtain ⟨e, n, ne, nf, d⟩ := I.pin p hp
    have nch : p.1 ∉ ch := fun z => (hch p.1 z).2.2.2 p hp rfl
    exact ⟨keep p.1 p.2 ne nf nch e n, free p.1 p.2 nch e n, ne, nf, d⟩
theorem Inv.un {t' : Nat} (I : Inv X pins σ H s) (u : Un X.fs [] H H' s.heap h') (hok : HOk X.prog X.w H' h') : Inv X pins σ H' { s with heap := h', toks := t' } := by
  obtain ⟨m, ⟨o, es, ep, ho, r⟩, _⟩ := id I.loc
  obtain ⟨sl, hL⟩ := u.any ho I.free (by simp)
  exact I.step (g' := s.gens) (d' := s.drawn) (ch := []) (fun _ z => nomatch z) (fun b o _ hb _ e n => u.keep b o e n hb (by simp)) (fun b o _ hb _ e n => u.slot b o e n hb (by simp)) (fun b o _ e n => u.free b o e n (by simp)) (fun b o _ e => u.there b o e (by simp)) u.tups u.frzs u.tbls (fun m' hm => by
    obtain ⟨o', es', ep', ho', r'⟩ := hm
    rw [ho] at ho'; cases ho'
    exact ⟨_, es', ep', hL, r'⟩) hok I.bare
theorem Inv.call {g' : Array GenState} {t' : Nat} {d' : Drawn} {ch : List Addr} (I : Inv X pins σ H s) (u : Un (frs X.stack) ch H H' s.heap h') (hok : HOk X.prog X.w H' h') (hg : AllBare g')
    (hch : ∀ b ∈ ch, (b ∈ X.ex ∨ X.s₀.heap.objs.size ≤ b) ∧ b ≠ X.env.locals ∧ (∀ x c, X.env.cells.lookup x = some c → c ≠ b) ∧ ∀ p ∈ X.pn ++ pins, p.1 ≠ b) :
    Inv X pins σ H' { s with heap := h', gens := g', drawn := d', toks := t' } := by
  obtain ⟨m, ⟨o, es, ep, ho, r⟩, _⟩ := id I.loc
  obtain ⟨sl, hL⟩ := u.any ho I.free fun z => (hch _ z).2.1 rfl
  exact I.step (ch := ch) hch (fun b o hL hb hc e n => u.keep b o e n (fun z => (List.mem_cons.mp (I.stkSub b z)).elim hL hb) hc) (fun b o _ _ hc e n => u.any e n hc) (fun b o hc e n => u.free b o e n hc) (fun b o hc e => u.there b o e hc) u.tups u.frzs u.tbls (fun m' hm => by
    obtain ⟨o', es', ep', ho', r'⟩ := hm
    rw [ho] at ho'; cases ho'
    exact ⟨_, es', ep', hL, r'⟩) hok hg
theorem Inv.turned {t' : Nat} {it : Addr} (I : Inv X pins σ H s) (k : ∀ b o, b ≠ it → s.heap.get? b = some o → h'.get? b = some o) (hn : H it = none) (hL : it ≠ X.env.locals)
    (h1 : it ∈ X.ex ∨ X.s₀.heap.objs.size ≤ it) (h2 : ∀ x c, X.env.cells.lookup x = some c → c ≠ it) (h3 : ∀ p ∈ X.pn ++ pins, p.1 ≠ it) : Inv X pins σ H { s with heap := h', toks := t' } := by
  have nit : ∀ b u, H b = some u → b ≠ it := fun b u e z => by rw [z, hn] at e; cases e
  refine I.step (g' := s.gens) (d' := s.drawn) (ch := [it]) (fun b hb => ?_) (fun b o _ _ hc e _ => k b o (fun z => hc (by simp [z])) e) (fun b o _ _ hc e _ => ⟨o.slots, k b o (fun z => hc (by simp [z])) e⟩) (fun _ _ _ _ n => n)
    (fun b o hc e => ⟨o, k b o (fun z => hc (by simp [z])) e⟩) (fun _ _ e => e) (fun _ _ _ e => e) (fun b ps e => ⟨#[], by rw [e]; simp⟩) (fun m hm => ?_) (fun b u e => ?_) I.bare
  · have e : b = it := by simpa using hb
    subst e
    exact ⟨h1, hL, h2, h3⟩
  · obtain ⟨o, es, ep, ho, r⟩ := hm
    exact ⟨o, es, ep, k _ o (Ne.symm hL) ho, r⟩
  · refine (I.hok b u e).stay (fun c v hc q => k c v ?_ q) (fun _ q => q) fun _ _ q => q
    rcases hc with z | z
    · rw [z]; exact nit b u e
    · exact nit c _ z
theorem Inv.tok (I : Inv X pins σ H s) (t : Nat) : Inv X pins σ H { s with toks := t } := I.un (h' := s.heap) (t' := t) Un.refl I.hok
theorem Inv.kept {t' : Nat} (I : Inv X pins σ H s) (k : ∀ b u, s.heap.get? b = some u → h'.get? b = some u) : Inv X pins σ H { s with heap := h', toks := t' } := I.un (Un.kept k) (I.hok.kept k)
theorem Inv.laid {a : Addr} {o : HO} {t' : Nat} (I : Inv X pins σ H s) (k : ∀ b u, s.heap.get? b = some u → h'.get? b = some u) (hp : s.heap.objs.size ≤ a) (new : ObjOk X.prog X.w (upd H a o) h' a o) :
    Inv X pins σ (upd H a o) { s with heap := h', toks := t' } := I.un (Un.laid k hp (I.hok.fresh hp)) (I.hok.laid k hp new)
theorem Inv.write {x e : Addr} {o : HO} {t' : Nat} (I : Inv X pins σ H s) (mu : Mut (H x)) (he : e = x ∨ H e = some (.own x)) (k : ∀ b u, b ≠ e → s.heap.get? b = some u → h'.get? b = some u) (heo : ∃ u, h'.get? e = some u)
    (new : ObjOk X.prog X.w (upd H x o) h' x o) : Inv X pins σ (upd H x o) { s with heap := h', toks := t' } := I.un (Un.write mu he k heo) (I.hok.write mu he k heo new)
theorem Inv.weak {σ' : List (Option V)} (I : Inv X pins σ H s) (hl : σ'.length = σ.length) (w : ∀ (i : Nat) v, σ'[i]? = some (some v) → σ[i]? = some (some v)) : Inv X pins σ' H s :=
  ⟨I.ok, I.os, I.bare, I.base, let ⟨m, hn, hl'⟩ := I.loc; ⟨m, hn, fun i x v e1 e2 e3 => hl' i x v e1 (w i v e2) e3⟩, I.cell, I.free, I.freeC, I.pin, I.hok, hl.trans I.len⟩
theorem Inv.pins_of {pins' : List (Addr × Obj)} (I : Inv X pins σ H s) (h : ∀ p ∈ pins', s.heap.get? p.1 = some p.2 ∧ H p.1 = none ∧ p.1 ≠ X.env.locals ∧ p.1 ∉ X.fs ∧ ∀ v, p.2.data ≠ .cell v) : Inv X pins' σ H s :=
  ⟨I.ok, I.os, I.bare, I.base, I.loc, I.cell, I.free, I.freeC, fun p hp => (List.mem_append.mp hp).elim (fun z => I.pin p (List.mem_append_left _ z)) (h p), I.hok, I.len⟩
theorem nodup_ix {N : List Str} (hN : N.Nodup) {i j : Nat} {x : Str} (a : N[i]? = some x) (b : N[j]? = some x) : i = j := by
  obtain ⟨h1, e1⟩ := List.getElem?_eq_some_iff.mp a
  obtain ⟨h2, e2⟩ := List.getElem?_eq_some_iff.mp b
  exact (List.getElem_inj hN).mp (e1.trans e2.symm)
theorem store_ok2 {M : Model} {A : Around} {E : Value → Shared → Prop} {i : Nat} {x : Str} {v : V} {u : Value} {Q : Unit → Shared → Prop} (I : Inv X pins σ H s) (hN : X.N.Nodup) (hi : X.N[i]? = some x) (hx : Loc X.env.scope x) (r : RelV v u)
    (h : ∀ s', Inv X pins (σ.set i (some v)) H s' → (∃ a, Heap.SameBut a s.heap s'.heap ∧ (a = X.env.locals ∨ X.env.cells.lookup x = some a)) → Q () s') (hf : X.fn x = true ∨ X.env.scope.names.lookup x = some .local := by first | exact .inl rfl | exact .inr rfl | assumption) : wpAny M A (storeName X.env x u) Q E s := by
  obtain ⟨m, hn, hl⟩ := id I.loc
  have hcls : (X.env.scope.kind == .class || (X.env.scope.kind == .module && X.env.locals != X.env.globals)) = false := by rw [I.ok.kind]; rfl
  have hiσ : i < σ.length := by rw [I.len]; exact (List.getElem?_eq_some_iff.mp hi).1
  have cne := I.cne
  have tracked : ∀ {a : Addr} {h' : Heap}, (∃ o, s.heap.get? a = some o ∧ H a = none) → Heap.SameBut a s.heap h' → HOk X.prog X.w H h' := fun {a h'} ha hs b ob e => by
    obtain ⟨_, _, hfree⟩ := ha
    refine (I.hok b ob e).stay (fun c w' hc q => (hs.2 c ?_).trans q) (fun _ q => q) fun _ _ q => q
    rintro rfl
    rcases hc with rfl | hc
    · rw [hfree] at e; cases e
    · rw [hfree] at hc; cases hc
  rcases hx with hk | hk
  · refine wpAny_storeName_local hk hn (fun h' hn' hs => ?_) hcls
    obtain ⟨oL, _, _, hoL, _⟩ := id hn
    refine h _ ⟨I.ok, I.os, I.bare, ⟨fun b o e n hb hx => ?_, fun b o e n hb hx => ?_, I.base.free, fun b o e hx => ?_, I.base.tups, I.base.frzs, I.base.tbls⟩, ⟨_, hn', fun j y v' e1 e2 e3 => ?_⟩, fun y c e => ?_, I.free, I.freeC, fun p hp => ?_, tracked ⟨oL, hoL, I.free⟩ hs, by simpa using I.len⟩ ⟨_, hs, .inl rfl⟩
    · exact (hs.2 b (Nat.ne_of_lt (Nat.lt_of_lt_of_le (Heap.lt_size e) I.ok.above))).trans (I.base.keep b o e n hb hx)
    · obtain ⟨sl, e1⟩ := I.base.slot b o e n hb hx
      exact ⟨sl, (hs.2 b (Nat.ne_of_lt (Nat.lt_of_lt_of_le (Heap.lt_size e) I.ok.above))).trans e1⟩
    · obtain ⟨o', e1⟩ := I.base.there b o e hx
      exact ⟨o', (hs.2 b (Nat.ne_of_lt (Nat.lt_of_lt_of_le (Heap.lt_size e) I.ok.above))).trans e1⟩
    · by_cases hj : j = i
      · subst hj
        rw [hi] at e1; cases e1
        rw [List.getElem?_set_self hiσ] at e2
        cases e2
        exact ⟨u, r, .inl ⟨hk, by simp⟩⟩
      · rw [List.getElem?_set_ne (Ne.symm hj)] at e2
        obtain ⟨u', r', q⟩ := hl j y v' e1 e2 e3
        refine ⟨u', r', ?_⟩
        rcases q with ⟨k, e⟩ | ⟨k, c, e, z⟩
        · refine .inl ⟨k, ?_⟩
          have : y ≠ x := fun e => hj (nodup_ix hN e1 (e ▸ hi))
          simp [this, e]
        · exact .inr ⟨k, c, e, z.sameBut hs (cne y c e)⟩
    · obtain ⟨w', z⟩ := I.cell y c e
      exact ⟨w', z.sameBut hs (cne y c e)⟩
    · obtain ⟨e, n, ne, nf, d⟩ := I.pin p hp
      exact ⟨(hs.2 p.1 ne).trans e, n, ne, nf, d⟩
  · have hfn : X.fn x = true := by
      rcases hf with z | z
      · exact z
      · rw [z] at hk; cases hk
    obtain ⟨c, hc⟩ := I.ok.has x (.inl hk)
    obtain ⟨w', z⟩ := I.cell x c hc
    refine wpAny_storeName_cell I.ok.kind hk hc z (fun h' hc' hs => ?_)
    obtain ⟨oc, hoc, hocd⟩ := id z
    refine h { s with heap := h' } ⟨I.ok, I.os, I.bare, ⟨fun b o e n hb hx => ?_, fun b o e n hb hx => ?_, I.base.free, fun b o e hx => ?_, I.base.tups, I.base.frzs, I.base.tbls⟩, ⟨m, hn.sameBut hs (Ne.symm (cne x c hc)), fun j y v' e1 e2 e3 => ?_⟩, fun y c' e => ?_, I.free, I.freeC, fun p hp => ?_, tracked ⟨oc, hoc, I.freeC x c hc⟩ hs, by simpa using I.len⟩ ⟨c, hs, .inr hc⟩
    · exact (hs.2 b (Nat.ne_of_lt (Nat.lt_of_lt_of_le (Heap.lt_size e) (I.ok.cab x c hfn hc)))).trans (I.base.keep b o e n hb hx)
    · obtain ⟨sl, e1⟩ := I.base.slot b o e n hb hx
      exact ⟨sl, (hs.2 b (Nat.ne_of_lt (Nat.lt_of_lt_of_le (Heap.lt_size e) (I.ok.cab x c hfn hc)))).trans e1⟩
    · obtain ⟨o', e1⟩ := I.base.there b o e hx
      exact ⟨o', (hs.2 b (Nat.ne_of_lt (Nat.lt_of_lt_of_le (Heap.lt_size e) (I.ok.cab x c hfn hc)))).trans e1⟩
    · by_cases hj : j = i
      · subst hj
        rw [hi] at e1; cases e1
        rw [List.getElem?_set_self hiσ] at e2
        cases e2
        exact ⟨u, r, .inr ⟨.inl hk, c, hc, hc'⟩⟩
      · rw [List.getElem?_set_ne (Ne.symm hj)] at e2
        obtain ⟨u', r', q⟩ := hl j y v' e1 e2 e3
        refine ⟨u', r', ?_⟩
        rcases q with q | ⟨k, c', e, z'⟩
        · exact .inl q
        · refine .inr ⟨k, c', e, z'.sameBut hs ?_⟩
          rintro rfl
          exact hj (nodup_ix hN e1 (I.ok.inj _ _ _ e hc ▸ hi))
    · by_cases hcc : c' = c
      · subst hcc; exact ⟨_, hc'⟩
      · obtain ⟨w2, z2⟩ := I.cell y c' e
        exact ⟨w2, z2.sameBut hs hcc⟩
    · obtain ⟨e, n, ne, nf, d⟩ := I.pin p hp
      refine ⟨(hs.2 p.1 ?_).trans e, n, ne, nf, d⟩
      intro q
      rw [q, hoc] at e
      have q' : oc = p.2 := Option.some.inj e
      exact d w' (by rw [← q']; exact hocd)
theorem store_ok {M : Model} {A : Around} {E : Value → Shared → Prop} {i : Nat} {x : Str} {v : V} {u : Value} {Q : Unit → Shared → Prop} (I : Inv X pins σ H s) (hN : X.N.Nodup) (hi : X.N[i]? = some x) (hx : Loc X.env.scope x) (r : RelV v u)
    (h : ∀ s', Inv X pins (σ.set i (some v)) H s' → Q () s') (hf : X.fn x = true ∨ X.env.scope.names.lookup x = some .local := by first | exact .inl rfl | exact .inr rfl | assumption) : wpAny M A (storeName X.env x u) Q E s :=
  store_ok2 I hN hi hx r (fun s' I' _ => h s' I') hf
theorem Inv.call' {s' : Shared} {ch : List Addr} (I : Inv X pins σ H s) (ho : s'.os = s.os) (u : Un (frs X.stack) ch H H' s.heap s'.heap) (hok : HOk X.prog X.w H' s'.heap) (hg : AllBare s'.gens)
    (hch : ∀ b ∈ ch, (b ∈ X.ex ∨ X.s₀.heap.objs.size ≤ b) ∧ b ≠ X.env.locals ∧ (∀ x c, X.env.cells.lookup x = some c → c ≠ b) ∧ ∀ p ∈ X.pn ++ pins, p.1 ≠ b) : Inv X pins σ H' s' := by
  obtain ⟨h', g', d', t', o'⟩ := s'
  have e : o' = s.os := ho
  subst e
  exact I.call (g' := g') (t' := t') (d' := d') u hok hg hch
end
abbrev XK := Value → Option Addr → Hp → Prop
abbrev St := List (Option V)
abbrev VK := V → Hp → Prop
abbrev TE := St → Hp → VK → Prop
abbrev TT := St → Hp → (Bool → Hp → Prop) → Prop
abbrev TA := St → Hp → (List V → Hp → Prop) → Prop
structure Ends where
  nx : St → Hp → Prop
  rt : VK
  bk : St → Hp → Prop := fun _ _ => False
  ct : St → Hp → Prop := fun _ _ => False
abbrev TS := Ends → St → Hp → Prop
def EP (X : Cx) (pins : List (Addr × Obj)) (σ : St) (Q : VK) (u : Value) (s' : Shared) : Prop := ∃ v H', Inv X pins σ H' s' ∧ RelV v u ∧ Q v H'
def TP (X : Cx) (pins : List (Addr × Obj)) (σ : St) (Q : Bool → Hp → Prop) (b : Bool) (s' : Shared) : Prop := ∃ H', Inv X pins σ H' s' ∧ Q b H'
def AP (X : Cx) (pins : List (Addr × Obj)) (σ : St) (Q : List V → Hp → Prop) (us : List Value) (s' : Shared) : Prop := ∃ vs H', Inv X pins σ H' s' ∧ Vals vs us ∧ Q vs H'
def SP (X : Cx) (pins : List (Addr × Obj)) (D : Ends) (f : Flow) (s' : Shared) : Prop :=
  match f with
  | .next => ∃ σ' H', Inv X pins σ' H' s' ∧ D.nx σ' H'
  | .brk => ∃ σ' H', Inv X pins σ' H' s' ∧ D.bk σ' H'
  | .cont => ∃ σ' H', Inv X pins σ' H' s' ∧ D.ct σ' H'
  | .ret u => ∃ v σ' H', Inv X pins σ' H' s' ∧ RelV v u ∧ D.rt v H'
def PE (X : Cx) (e : Expr) (t : TE) : Prop :=
  ∀ (pins : List (Addr × Obj)) (s : Shared) (σ : St) (H : Hp) (Q : VK), Inv X pins σ H s → t σ H Q → wpAny (model X.prog X.w) X.A (eval e X.env) (EP X pins σ Q) X.xe s
def PT (X : Cx) (e : Expr) (t : TT) : Prop :=
  ∀ (pins : List (Addr × Obj)) (s : Shared) (σ : St) (H : Hp) (Q : Bool → Hp → Prop), Inv X pins σ H s → t σ H Q → wpAny (model X.prog X.w) X.A (isTrue e X.env (eval e X.env)) (TP X pins σ Q) X.xe s
def PW (X : Cx) (e : Expr) (t : TT) : Prop :=
  ∀ (whole : Sem Value) (pins : List (Addr × Obj)) (s : Shared) (σ : St) (H : Hp) (Q : Bool → Hp → Prop), Inv X pins σ H s → t σ H Q → wpAny (model X.prog X.w) X.A (isTrue e X.env whole) (TP X pins σ Q) X.xe s
theorem PW.pt {X : Cx} {e : Expr} {t : TT} (h : PW X e t) : PT X e t := h _
def PA (X : Cx) (es : List Expr) (t : TA) : Prop :=
  ∀ (pos : Pos) (pins : List (Addr × Obj)) (s : Shared) (σ : St) (H : Hp) (Q : List V → Hp → Prop), Inv X pins σ H s → t σ H Q → wpAny (model X.prog X.w) X.A (spliced (backTo pos (starEach es X.env))) (AP X pins σ Q) X.xe s
def PS (X : Cx) (st : Stmt) (t : TS) : Prop :=
  ∀ (pins : List (Addr × Obj)) (s : Shared) (σ : St) (H : Hp) (D : Ends), Inv X pins σ H s → t D σ H → wpAny (model X.prog X.w) X.A (exec st X.env) (SP X pins D) X.xe s
def PSs (X : Cx) (st : List Stmt) (t : TS) : Prop :=
  ∀ (pins : List (Addr × Obj)) (s : Shared) (σ : St) (H : Hp) (D : Ends), Inv X pins σ H s → t D σ H → wpAny (model X.prog X.w) X.A (execs st X.env) (SP X pins D) X.xe s
theorem thn {α : Type} {t : Sem α} {Q Q' : α → Shared → Prop} {M : Model} {A : Around} {E : Value → Shared → Prop} {s : Shared} (h : wpAny M A t Q E s) (hQ : ∀ a s, Q a s → Q' a s) : wpAny M A t Q' E s := wpAny_mono h hQ fun _ _ x => x
end L2
namespace L2
open PySem PySem.Spec PyProof.Rows
section
variable {X : Cx}
def tVar (i : Nat) : TE := fun σ H Q => ∃ v, σ[i]? = some (some v) ∧ Q v H
def tC (v : V) : TE := fun _ H Q => Q v H
theorem pe_var {i : Nat} {x : Str} {pos : Pos} (hN : X.N[i]? = some x) (hv : Vis X.env.scope x) (hd : (x == ("__debug__" : Str)) = false := by decide) (hcd : (x == ("__classdict__" : Str)) = false := by decide) : PE X (.Name x pos) (tVar i) := by
  intro pins s σ H Q I h
  obtain ⟨v, e, h⟩ := h
  obtain ⟨m, hn, hl⟩ := I.loc
  obtain ⟨u, r, l⟩ := hl i x v hN e hv
  have fin : EP X pins σ Q u s := ⟨v, H, I, r, h⟩
  rcases l with ⟨hk, hm⟩ | ⟨hk, c, hc, hcell⟩
  · exact wpAny_Name (wpAny_loadName_local I.ok.kind hk hn hm fin) hd
  · rcases hk with hk | hk
    · exact wpAny_Name (wpAny_loadName_cell I.ok.kind hk hc hcell fin) hd
    · exact wpAny_Name (wpAny_loadName_free I.ok.kind hk hc hcell fin hcd) hd
theorem pe_int {i j pos} : PE X (.Constant (.int i) j pos) (tC (.int i)) := fun _ _ _ H _ I h => wpAny_Constant_int ⟨.int i, H, I.tok _, ⟨_, rfl⟩, h⟩
theorem pe_bl {b j pos} : PE X (.Constant (.bool b) j pos) (tC (.bl b)) := fun _ _ _ H _ I h => Constant_bool ⟨.bl b, H, I, rfl, h⟩
theorem pe_non {j pos} : PE X (.Constant .none j pos) (tC .non) := fun _ _ _ H _ I h => Constant_none ⟨.non, H, I, rfl, h⟩
def Gl (X : Cx) (x : Str) : Prop := X.env.kindOf x = some .globalImplicit
theorem ld_glob {E : Value → Shared → Prop} {pins : List (Addr × Obj)} {s : Shared} {σ : St} {H : Hp} {x : Str} {u : Value} {pos : Pos} {Q : Value → Shared → Prop} (I : Inv X pins σ H s) (hg : Gl X x) (hm : X.mg x = some u) (h : Q u s)
    (hd : (x == ("__debug__" : Str)) = false := by decide) : wpAny (model X.prog X.w) X.A (eval (.Name x pos) X.env) Q E s :=
  Calls.Name_function_global I.ok.kind hg (Calls.loadGlobal_global (by rw [I.ok.glob]; exact I.mod.glob.keeps I.bk) hm h) hd
theorem ld_blt {E : Value → Shared → Prop} {pins : List (Addr × Obj)} {s : Shared} {σ : St} {H : Hp} {x : Str} {u : Value} {pos : Pos} {Q : Value → Shared → Prop} (I : Inv X pins σ H s) (hg : Gl X x) (hm : X.mg x = none) (hv : bootBuiltins x = some u) (h : Q u s)
    (hn : x ≠ "__name__" := by decide) (hd : (x == ("__debug__" : Str)) = false := by decide) : wpAny (model X.prog X.w) X.A (eval (.Name x pos) X.env) Q E s := by
  obtain ⟨mb, h1, h2⟩ := I.mod.blt
  exact Calls.Name_function_global I.ok.kind hg (Calls.loadGlobal_builtin (by rw [I.ok.glob]; exact I.mod.glob.keeps I.bk) hm (by rw [I.ok.blt]; exact h1.keeps I.bk) ((h2 x hn).trans hv) h) hd
theorem pe_bltn {x : Str} {v : V} {u : Value} {pos : Pos} (hg : Gl X x) (hm : X.mg x = none) (hv : bootBuiltins x = some u) (r : RelV v u) (hn : x ≠ "__name__" := by decide) (hd : (x == ("__debug__" : Str)) = false := by decide) : PE X (.Name x pos) (tC v) :=
  fun _ _ _ H _ I h => ld_blt I hg hm hv ⟨v, H, I, r, h⟩ hn hd
variable {a b : Expr} {ta tb : TE} {pos : Pos}
def tB (t : TE) : TT := fun σ H Q => t σ H fun x H1 => ∃ c, x = .bl c ∧ Q c H1
theorem pt_val {e : Expr} {t : TE} (h : PE X e t) (he : ∀ whole, isTrue e X.env whole = (do let v ← whole; standAt e.pos; holding [v] (truthy v)) := by intro _; rfl) : PT X e (tB t) := by
  intro pins s σ H Q I hw
  refine isTrue_plain (thn (h pins s σ H _ I hw) fun v s1 ⟨x, H1, I1, r1, q1⟩ => ?_) (he _)
  obtain ⟨d, rfl, q⟩ := q1
  cases r1
  exact wpAny_truthy_bool ⟨H1, I1, q⟩
variable {tA tB' : TT} {rest : List Expr}
def tOr (t u : TT) : TT := fun σ H Q => t σ H fun c H1 => if c = true then Q true H1 else u σ H1 Q
def tNot (t : TT) : TT := fun σ H Q => t σ H fun c H1 => Q (!c) H1
theorem pw_or1 (ha : PT X a tA) : PW X (.BoolOp .Or [a] pos) tA := by
  intro wh pins s σ H Q I h
  refine isTrue_or (thn (ha pins s σ H Q I h) fun c s1 e => ?_)
  cases c with
  | false => exact isTrue_or_nil e
  | true => exact e
theorem pw_or (ha : PT X a tA) (hb : PW X (.BoolOp .Or (b :: rest) pos) tB') : PW X (.BoolOp .Or (a :: b :: rest) pos) (tOr tA tB') := by
  intro wh pins s σ H Q I h
  refine isTrue_or (thn (ha pins s σ H _ I h) fun c s1 ⟨H1, I1, q1⟩ => ?_)
  cases c with
  | true => exact ⟨H1, I1, q1⟩
  | false => exact hb wh pins s1 σ H1 Q I1 q1
theorem pt_not (ha : PT X a tA) : PT X (.UnaryOp .Not a pos) (tNot tA) := by
  intro pins s σ H Q I h
  exact isTrue_not (ha pins s σ H (fun c H1 => Q (!c) H1) I h)
def tAndV (ta tb : TE) : TE := fun σ H Q => ta σ H fun x H1 => ∃ c, x = .bl c ∧ if c = true then tb σ H1 Q else Q (.bl false) H1
def tNotV (ta : TE) : TE := fun σ H Q => ta σ H fun x H1 => ∃ c, x = .bl c ∧ Q (.bl (!c)) H1
theorem pe_one {op} {t : TE} (h : PE X a t) : PE X (.BoolOp op [a] pos) t := fun pins s σ H Q I hw => BoolOp_one (h pins s σ H Q I hw)
theorem pe_and (ha : PE X a ta) (hb : PE X (.BoolOp .And (b :: rest) pos) tb) : PE X (.BoolOp .And (a :: b :: rest) pos) (tAndV ta tb) := by
  intro pins s σ H Q I h
  refine BoolOp_and (thn (ha pins s σ H _ I h) fun v s1 ⟨x, H1, I1, r1, q1⟩ => ?_)
  obtain ⟨c, rfl, q1⟩ := q1
  cases r1
  refine wpAny_truthy_bool ?_
  cases c with
  | true => exact hb pins s1 σ H1 Q I1 q1
  | false => exact ⟨.bl false, H1, I1, rfl, q1⟩
theorem pe_not (ha : PE X a ta) : PE X (.UnaryOp .Not a pos) (tNotV ta) := by
  intro pins s σ H Q I h
  refine UnaryOp_ (thn (ha pins s σ H _ I h) fun v s1 ⟨x, H1, I1, r1, q1⟩ => ?_)
  obtain ⟨c, rfl, q1⟩ := q1
  cases r1
  exact not_of (wpAny_truthy_bool ⟨.bl (!c), H1, I1, rfl, q1⟩)
end
end L2
namespace L2
open PySem PySem.Spec PyProof.Rows
def SqL (K : PySem.W.Frag) (H : Hp) (a : Addr) (xs : List V) : Prop :=
  Rd H a (.lst xs) ∨
    ∃ (o : Obj) (its : Array Value) (n : Nat), K.lookup a = some o ∧ o.cls = .type "list" ∧ o.dict = none ∧ o.data = .seq its n ∧ its.size ≤ sizeLine ∧ Vals xs its.toList
def SqT (K : PySem.W.Frag) (H : Hp) (a : Addr) (xs : List V) : Prop :=
  Rd H a (.tup xs) ∨
    ∃ (o : Obj) (its : Array Value) (n : Nat), K.lookup a = some o ∧ o.cls = .type "tuple" ∧ o.data = .seq its n ∧ its.size ≤ sizeLine ∧ Vals xs its.toList
def absV : Value → Option V
  | .none => some .non
  | .bool b => some (.bl b)
  | .int i _ => some (.int i)
  | .str x _ => some (.str x)
  | .bytes b _ => some (.byt b)
  | .float b _ => some (.flt b)
  | .ref a => some (.ref a)
  | .type n => some (.ty n)
  | _ => none
theorem RelV.abs {x : V} {u : Value} (r : RelV x u) : absV u = some x := by
  cases x with
  | non => cases r; rfl
  | bl _ => cases r; rfl
  | int _ => obtain ⟨t, rfl⟩ := r; rfl
  | str _ => obtain ⟨t, rfl⟩ := r; rfl
  | byt _ => obtain ⟨t, rfl⟩ := r; rfl
  | flt _ => obtain ⟨t, rfl⟩ := r; rfl
  | ref _ => cases r; rfl
  | ty _ => cases r; rfl
theorem RelV.inj {x y : V} {u : Value} (r : RelV x u) (q : RelV y u) : x = y := Option.some.inj (r.abs.symm.trans q.abs)
theorem Vals.inj : ∀ {xs ys : List V} {us : List Value}, Vals xs us → Vals ys us → xs = ys
  | _, _, _, .nil, .nil => rfl
  | _, _, _, .cons r t, .cons r' t' => by rw [r.inj r', Vals.inj t t']
section
variable {X : Cx} {pins : List (Addr × Obj)} {σ : St} {H : Hp} {s : Shared} {a : Addr} {xs ys : List V}
theorem SqL.of {K : PySem.W.Frag} (h : H a = some (.lst xs)) : SqL K H a xs := .inl (.inl h)
theorem SqT.of {K : PySem.W.Frag} (h : H a = some (.tup xs)) : SqT K H a xs := .inl (.inl h)
theorem Inv.list (I : Inv X pins σ H s) (h : SqL X.K H a xs) : ∃ its : List Value, Vals xs its ∧ PlainL s.heap a its.toArray ∧ xs.length ≤ sizeLine := by
  rcases h with h | ⟨o, its, n, hk, hc, hd, hs, hz, r⟩
  · obtain ⟨z, its, n, r, e⟩ := h.ok I.hok
    exact ⟨its, r, ⟨_, n, e, rfl, rfl, rfl⟩, z⟩
  · refine ⟨its.toList, r, ⟨o, n, I.kIn a o hk, hc, hd, by simpa using hs⟩, ?_⟩
    have e := r.length
    simp only [Array.length_toList] at e
    omega
theorem Inv.tuple (I : Inv X pins σ H s) (h : SqT X.K H a xs) : ∃ its : List Value, Vals xs its ∧ IsTup s.heap a its.toArray ∧ xs.length ≤ sizeLine := by
  rcases h with h | ⟨o, its, n, hk, hc, hs, hz, r⟩
  · obtain ⟨z, its, r, p⟩ := h.ok I.hok
    exact ⟨its, r, p.tup, z⟩
  · refine ⟨its.toList, r, ⟨o, I.kIn a o hk, hc, n, by simpa using hs⟩, ?_⟩
    have e := r.length
    simp only [Array.length_toList] at e
    omega
theorem Inv.list_inj (I : Inv X pins σ H s) (h : SqL X.K H a xs) (h' : SqL X.K H a ys) : xs = ys := by
  obtain ⟨its, r, ⟨o, n, e, _, _, d⟩, _⟩ := I.list h
  obtain ⟨its', r', ⟨o', n', e', _, _, d'⟩, _⟩ := I.list h'
  rw [e] at e'; cases e'
  rw [d] at d'
  injection d' with d1 _
  have : its = its' := by simpa using congrArg Array.toList d1
  subst this
  exact r.inj r'
theorem Inv.tuple_inj (I : Inv X pins σ H s) (h : SqT X.K H a xs) (h' : SqT X.K H a ys) : xs = ys := by
  obtain ⟨its, r, ⟨o, e, _, n, d⟩, _⟩ := I.tuple h
  obtain ⟨its', r', ⟨o', e', _, n', d'⟩, _⟩ := I.tuple h'
  rw [e] at e'; cases e'
  rw [d] at d'
  injection d' with d1 _
  have : its = its' := by simpa using congrArg Array.toList d1
  subst this
  exact r.inj r'
end
abbrev Cx.wish (X : Cx) (E : Value → Shared → Prop) : Cx := { X with xe := E }
abbrev Cx.nox (X : Cx) : Cx := X.wish fun _ _ => False
theorem Cx.Ok.wish {X : Cx} (ok : X.Ok) (E : Value → Shared → Prop) : (X.wish E).Ok :=
  ⟨ok.mod, ok.kind, ok.glob, ok.blt, ok.above, ok.inj, ok.has, ok.cab, ok.hd, ok.frames, ok.stk, ok.exf, ok.bs, ok.bsz, ok.noex, ok.exfs, ok.funs, ok.frf⟩
theorem Cx.Ok.unwish {X : Cx} {E : Value → Shared → Prop} (ok : (X.wish E).Ok) : X.Ok :=
  ⟨ok.mod, ok.kind, ok.glob, ok.blt, ok.above, ok.inj, ok.has, ok.cab, ok.hd, ok.frames, ok.stk, ok.exf, ok.bs, ok.bsz, ok.noex, ok.exfs, ok.funs, ok.frf⟩
section
variable {X : Cx} {pins : List (Addr × Obj)} {σ : St} {H : Hp} {s : Shared} {E : Value → Shared → Prop}
theorem Inv.wish (I : Inv X pins σ H s) (E : Value → Shared → Prop) : Inv (X.wish E) pins σ H s := ⟨I.ok.wish E, I.os, I.bare, I.base, I.loc, I.cell, I.free, I.freeC, I.pin, I.hok, I.len⟩
theorem Inv.unwish (I : Inv (X.wish E) pins σ H s) : Inv X pins σ H s := ⟨I.ok.unwish, I.os, I.bare, I.base, I.loc, I.cell, I.free, I.freeC, I.pin, I.hok, I.len⟩
theorem SP.unwish {D : Ends} {f : Flow} {s' : Shared} (h : SP (X.wish E) pins D f s') : SP X pins D f s' := by
  cases f with
  | next => obtain ⟨σ', H', I, q⟩ := h; exact ⟨σ', H', I.unwish, q⟩
  | brk => obtain ⟨σ', H', I, q⟩ := h; exact ⟨σ', H', I.unwish, q⟩
  | cont => obtain ⟨σ', H', I, q⟩ := h; exact ⟨σ', H', I.unwish, q⟩
  | ret u => obtain ⟨v, σ', H', I, r, q⟩ := h; exact ⟨v, σ', H', I.unwish, r, q⟩
theorem PE.nox {e : Expr} {t : TE} (h : PE X.nox e t) : PE X e t := fun pins s σ H Q I hw =>
  wpAny_mono (h pins s σ H Q (I.wish _) hw) (fun _ _ ⟨v, H', I', r, q⟩ => ⟨v, H', I'.unwish, r, q⟩) fun _ _ z => False.elim z
theorem PT.nox {e : Expr} {t : TT} (h : PT X.nox e t) : PT X e t := fun pins s σ H Q I hw =>
  wpAny_mono (h pins s σ H Q (I.wish _) hw) (fun _ _ ⟨H', I', q⟩ => ⟨H', I'.unwish, q⟩) fun _ _ z => False.elim z
theorem PSs.nox {st : List Stmt} {t : TS} (h : PSs X.nox st t) : PSs X st t := fun pins s σ H D I hw =>
  wpAny_mono (h pins s σ H D (I.wish _) hw) (fun _ _ q => q.unwish) fun _ _ z => False.elim z
end
section
variable {X : Cx} {st : Stmt} {rest : List Stmt} {t u : TS} {e : Expr} {te : TE} {pos : Pos}
def tNext : TS := fun D σ H => D.nx σ H
def tSeq (t u : TS) : TS := fun D σ H => t { D with nx := u D } σ H
theorem pss_nil : PSs X [] tNext := fun _ _ σ H _ I h => wpAny_execs_nil ⟨σ, H, I, h⟩
theorem pss_cons (h1 : PS X st t) (h2 : PSs X rest u) : PSs X (st :: rest) (tSeq t u) := by
  intro pins s σ H D I h
  refine wpAny_execs_cons (thn (h1 pins s σ H { D with nx := u D } I h) fun f s1 q => ?_)
  cases f with
  | next =>
    obtain ⟨σ', H', I', q⟩ := q
    exact h2 pins s1 σ' H' D I' q
  | ret v => exact q
  | brk => exact q
  | cont => exact q
theorem pss_one (h1 : PS X st t) : PSs X [st] t := by
  intro pins s σ H D I h
  refine wpAny_execs_cons (thn (h1 pins s σ H D I h) fun f s1 q => ?_)
  cases f with
  | next => exact wpAny_execs_nil q
  | ret v => exact q
  | brk => exact q
  | cont => exact q
theorem Inv.quiet {pins : List (Addr × Obj)} {σ : St} {H : Hp} {s : Shared} (I : Inv X pins σ H s) : interactive X.env = false := by simp [interactive, I.ok.kind]
def tDrop (te : TE) : TS := fun D σ H => te σ H fun _ H1 => D.nx σ H1
theorem ps_expr (he : PE X e te) (hs : swapsWith e none pos.line X.env = pure false := by rfl) : PS X (.Expr e pos) (tDrop te) := by
  intro pins s σ H D I h
  exact wpAny_Expr_any (thn (he pins s σ H _ I h) fun v s1 ⟨x, H1, I1, r1, q1⟩ => ⟨σ, H1, I1, q1⟩) I.quiet hs
def tRet (te : TE) : TS := fun D σ H => te σ H D.rt
theorem ps_ret (he : PE X e te) : PS X (.Return (some e) pos) (tRet te) := by
  intro pins s σ H D I h
  exact wpAny_Return_some (thn (he pins s σ H _ I h) fun v s1 ⟨x, H1, I1, r1, q1⟩ => ⟨x, σ, H1, I1, r1, q1⟩)
def tIfS (c : TT) (t u : TS) : TS := fun D σ H => c σ H fun b H1 => if b = true then t D σ H1 else u D σ H1
theorem ps_if {c : Expr} {a b : List Stmt} {tc : TT} (hc : PT X c tc) (ha : PSs X a t) (hb : PSs X b u) : PS X (.If c a b pos) (tIfS tc t u) := by
  intro pins s σ H D I h
  refine wpAny_If (thn (hc pins s σ H _ I h) fun d s1 ⟨H1, I1, q1⟩ => ?_)
  cases d with
  | true => exact ha pins s1 σ H1 D I1 q1
  | false => exact hb pins s1 σ H1 D I1 q1
end
abbrev TG := V → St → Hp → (St → Hp → Prop) → Prop
abbrev TGs := List V → St → Hp → (St → Hp → Prop) → Prop
def PG (X : Cx) (target : Expr) (t : TG) : Prop :=
  ∀ (pins : List (Addr × Obj)) (s : Shared) (σ : St) (H : Hp) (v : V) (u : Value) (Q : St → Hp → Prop), Inv X pins σ H s → RelV v u → t v σ H Q →
    wpAny (model X.prog X.w) X.A (assign target X.env u) (fun _ s' => ∃ σ' H', Inv X pins σ' H' s' ∧ Q σ' H') X.xe s
def PGs (X : Cx) (ts : List Expr) (t : TGs) : Prop :=
  ∀ (pins : List (Addr × Obj)) (s : Shared) (σ : St) (H : Hp) (vs : List V) (us : List Value) (Q : St → Hp → Prop), Inv X pins σ H s → Vals vs us → t vs σ H Q →
    wpAny (model X.prog X.w) X.A (assignInOrder ((assignEach ts X.env).map (·.2)) us) (fun _ s' => ∃ σ' H', Inv X pins σ' H' s' ∧ Q σ' H') X.xe s
abbrev TSet := V → V → V → Hp → (Hp → Prop) → Prop
def PSet (X : Cx) (t : TSet) : Prop :=
  ∀ (pins : List (Addr × Obj)) (s : Shared) (σ : St) (H : Hp) (o i v : V) (ov iv u : Value) (Q : Hp → Prop), Inv X pins σ H s → RelV o ov → RelV i iv → RelV v u → t o i v H Q →
    wpAny (model X.prog X.w) X.A (setItem ov iv u) (fun _ s' => ∃ H', Inv X pins σ H' s' ∧ Q H') X.xe s
abbrev TIp := V → V → Hp → VK → Prop
def PIp (X : Cx) (op : Operator) (t : TIp) : Prop :=
  ∀ (pins : List (Addr × Obj)) (s : Shared) (σ : St) (H : Hp) (x y : V) (v u : Value) (Q : VK), Inv X pins σ H s → RelV x v → RelV y u → t x y H Q →
    wpAny (model X.prog X.w) X.A (inplaceOp op v u) (EP X pins σ Q) X.xe s
section
variable {X : Cx} {pos : Pos}
def gName (i : Nat) : TG := fun v σ H Q => Q (σ.set i (some v)) H
theorem pg_name {i : Nat} {x : Str} (hN : X.N.Nodup) (hi : X.N[i]? = some x) (hx : Loc X.env.scope x) (hf : X.fn x = true ∨ X.env.scope.names.lookup x = some .local := by first | exact .inl rfl | exact .inr rfl | assumption) : PG X (.Name x pos) (gName i) := by
  intro pins s σ H v u Q I r h
  exact wpAny_assign_Name (store_ok I hN hi hx r (fun s' I' => ⟨_, H, I', h⟩) hf)
def gNil : TGs := fun vs σ H Q => vs = [] ∧ Q σ H
def gCons (t : TG) (u : TGs) : TGs := fun vs σ H Q => ∃ v r, vs = v :: r ∧ t v σ H fun σ' H' => u r σ' H' Q
theorem pgs_nil : PGs X [] gNil := by
  intro pins s σ H vs us Q I r h
  obtain ⟨e, h⟩ := h
  subst e
  cases r
  exact assignInOrder_nil ⟨σ, H, I, h⟩
theorem pgs_cons {e : Expr} {es : List Expr} {t : TG} {u : TGs} (h1 : PG X e t) (h2 : PGs X es u)
    (hs : (assignEach (e :: es) X.env).map (·.2) = assign e X.env :: (assignEach es X.env).map (·.2) := by rfl) : PGs X (e :: es) (gCons t u) := by
  intro pins s σ H vs us Q I r h
  obtain ⟨v, vr, e1, h⟩ := h
  subst e1
  cases r with
  | cons r rr =>
    rw [hs]
    refine assignInOrder_cons (thn (h1 pins s σ H _ _ _ I r h) fun _ s1 ⟨σ1, H1, I1, q1⟩ => ?_)
    exact h2 pins s1 σ1 H1 _ _ Q I1 rr q1
def gTup (K : PySem.W.Frag) (n : Nat) (t : TGs) : TG := fun v σ H Q => ∃ a xs, v = .ref a ∧ SqT K H a xs ∧ xs.length = n ∧ t xs σ H Q
theorem pg_tup {es : List Expr} {k : Nat} {t : TGs} {n : Nat} (hc : X.calm = true) (h : PGs X es t)
    (hn : (assignEach es X.env).length = n := by rfl) (hst : (assignEach es X.env).findIdx? (·.1) = none := by rfl) : PG X (.Tuple es k pos) (gTup X.K n t) := by
  intro pins s σ H v u Q I r hw
  obtain ⟨a, xs, e1, hq, hl, hw⟩ := hw
  subst e1
  cases r
  obtain ⟨its, rv, ht, hz⟩ := I.tuple hq
  refine assign_Tuple_tuple (I.ok.hd hc) ht (by simp [hn, ← hl, rv.length]) hst fun h' hx => ?_
  have I1 : Inv X pins σ H { s with heap := h' } := I.kept (t' := s.toks) fun b o e => hx b o (Nat.ne_of_lt (Heap.lt_size e)) e
  exact h pins _ σ H xs _ Q I1 (by simpa using rv) hw
def gSub (to ti : TE) (t : TSet) : TG := fun v σ H Q => to σ H fun o H1 => ti σ H1 fun i H2 => t o i v H2 fun H3 => Q σ H3
theorem pg_sub {o i : Expr} {to ti : TE} {t : TSet} (ho : PE X o to) (hi : PE X i ti) (hs : PSet X t)
    (ha : ∀ v, assign (.Subscript o i pos) X.env v = (do
      let ov ← holding [v] (eval o X.env)
      let iv ← holding [v, ov] (eval i X.env)
      standAt pos
      holding [v, ov, iv] (setItem ov iv v)
      release [v, ov, iv] []) := by intro _; rfl) : PG X (.Subscript o i pos) (gSub to ti t) := by
  intro pins s σ H v u Q I r h
  rw [ha]
  refine wpAny_bind (wpAny_holding (thn (ho pins s σ H _ I h) fun ov s1 ⟨x, H1, I1, r1, q1⟩ => ?_))
  refine wpAny_bind (wpAny_holding (thn (hi pins s1 σ H1 _ I1 q1) fun iv s2 ⟨y, H2, I2, r2, q2⟩ => ?_))
  refine wpAny_bind (wpAny_standAt (wpAny_bind (wpAny_holding (thn (hs pins s2 σ H2 x y v ov iv u _ I2 r1 r2 r q2) fun _ s3 ⟨H3, I3, q3⟩ => ?_))))
  exact wpAny_release ⟨σ, H3, I3, q3⟩
def tAsg (te : TE) (g : TG) : TS := fun D σ H => te σ H fun x H1 => g x σ H1 D.nx
theorem ps_asg {tg e : Expr} {te : TE} {g : TG} (he : PE X e te) (hg : PG X tg g) (hs : swapsWithSole [tg] e pos.line X.env = pure false := by rfl) (hw : swappedStores [tg] e X.env = pure none := by rfl)
    (h1 : (assignEach [tg] X.env).map (·.2) = [assign tg X.env] := by rfl) : PS X (.Assign [tg] e pos) (tAsg te g) := by
  intro pins s σ H D I h
  refine wpAny_Assign_stores (thn (he pins s σ H _ I h) fun v s1 ⟨x, H1, I1, r1, q1⟩ => ?_) hs hw
  rw [h1]
  exact thn (hg pins s1 σ H1 x v _ I1 r1 q1) fun _ s2 q => q
theorem ps_set {i : Nat} {x : Str} {e : Expr} {te : TE} {pos' : Pos} (hN : X.N.Nodup) (hi : X.N[i]? = some x) (hx : Loc X.env.scope x) (he : PE X e te) (hs : swapsWith e (some (.Name x pos')) pos.line X.env = pure false := by rfl) (hf : X.fn x = true ∨ X.env.scope.names.lookup x = some .local := by first | exact .inl rfl | exact .inr rfl | assumption) :
    PS X (.Assign [.Name x pos'] e pos) (tAsg te (gName i)) := by
  intro pins s σ H D I h
  refine wpAny_Assign_Name (thn (he pins s σ H _ I h) fun v s1 ⟨y, H1, I1, r1, q1⟩ => ?_) hs
  exact store_ok I1 hN hi hx r1 (fun s2 I2 => ⟨_, H1, I2, q1⟩) hf
def tPar (i j : Nat) (ta : TA) : TS := fun D σ H => ta σ H fun vs H1 => ∃ v w, vs = [v, w] ∧ D.nx ((σ.set i (some v)).set j (some w)) H1
theorem ps_par {i j : Nat} {x y : Str} {a b : Expr} {ta : TA} {px py pt : Pos} {kt k2 pt2} (hc : X.calm = true) (hN : X.N.Nodup) (hi : X.N[i]? = some x) (hj : X.N[j]? = some y) (hij : i ≠ j)
    (hx : X.env.scope.names.lookup x = some .local) (hy : X.env.scope.names.lookup y = some .local) (ha : PA X [a, b] ta)
    (hw : swappedStores [.Tuple [.Name x px, .Name y py] kt pt] (.Tuple [a, b] k2 pt2) X.env = pure (some [x, y]))
    (hs : swapsWithSole [.Tuple [.Name x px, .Name y py] kt pt] (.Tuple [a, b] k2 pt2) pos.line X.env = pure false := by rfl) :
    PS X (.Assign [.Tuple [.Name x px, .Name y py] kt pt] (.Tuple [a, b] k2 pt2) pos) (tPar i j ta) := by
  intro pins s σ H D I h
  rw [exec_Assign_arm]
  refine wpAny_bind (wpAny_standAt ?_)
  rw [hs]
  refine wpAny_bind (wpAny_pure ?_)
  rw [if_neg (by decide)]
  refine wpAny_bind (Tuple_ (thn (ha _ pins s σ H _ I h) fun us s1 ⟨vs, H1, I1, r1, q1⟩ => ?_))
  obtain ⟨v, w, e1, q1⟩ := q1
  subst e1
  obtain ⟨u1, u2, rfl, rv, rw'⟩ : ∃ u1 u2, us = [u1, u2] ∧ RelV v u1 ∧ RelV w u2 := by
    cases r1 with
    | cons p q =>
      cases q with
      | cons p' q' =>
        cases q'
        exact ⟨_, _, rfl, p, p'⟩
  refine wpAny_newObj_type ?_ (by show 2 ≤ sizeLine; decide)
  have I2 : Inv X pins σ H1 { s1 with heap := s1.heap.push { cls := .type "tuple", data := .seq [u1, u2].toArray } } := I1.kept (t' := s1.toks) fun b o e => Heap.get?_push_of_some _ e
  rw [hw]
  refine wpAny_bind (wpAny_pure ?_)
  show wpAny (model X.prog X.w) X.A (do rule "assign.swapped-stores"; let items ← unpackItems (.ref s1.heap.objs.size) 2 none; assignInOrder [fun v => bindName X.env y v, fun v => bindName X.env x v] items.reverse; pure Flow.next) _ _ _
  refine wpAny_bind (wpAny_rule (wpAny_bind (unpackItems_tuple (items := #[u1, u2]) (I.ok.hd hc) (IsTup.new s1.heap _) fun h' hx' => ?_)))
  have I3 := I2.kept (h' := h') (t' := s1.toks) fun b o e => hx' b o (Nat.ne_of_lt (Heap.lt_size e)) e
  show wpAny _ _ (assignInOrder [fun v => bindName X.env y v, fun v => bindName X.env x v] [u2, u1] >>= fun _ => pure Flow.next) _ _ _
  refine wpAny_bind (assignInOrder_cons (wpAny_bindName (store_ok I3 hN hj (.inl hy) rw' (fun s2 I4 => ?_) (.inr hy))))
  refine assignInOrder_cons (wpAny_bindName (store_ok I4 hN hi (.inl hx) rv (fun s3 I5 => assignInOrder_nil (wpAny_pure ?_)) (.inr hx)))
  rw [List.set_comm _ _ (Ne.symm hij)] at I5
  exact ⟨_, H1, I5, q1⟩
def tAug (i : Nat) (te : TE) (ti : TIp) : TS := fun D σ H => ∃ x, σ[i]? = some (some x) ∧ te σ H fun y H1 => ti x y H1 fun z H2 => D.nx (σ.set i (some z)) H2
theorem ps_aug {i : Nat} {x : Str} {e : Expr} {te : TE} {op : Operator} {ti : TIp} {pos' : Pos} (hN : X.N.Nodup) (hi : X.N[i]? = some x) (hx : Loc X.env.scope x) (he : PE X e te) (ho : PIp X op ti) (hf : X.fn x = true ∨ X.env.scope.names.lookup x = some .local := by first | exact .inl rfl | exact .inr rfl | assumption) :
    PS X (.AugAssign (.Name x pos') op e pos) (tAug i te ti) := by
  intro pins s σ H D I h
  obtain ⟨v, e1, h⟩ := h
  obtain ⟨m, hn, hl⟩ := I.loc
  have vis : Vis X.env.scope x := by rcases hx with k | k; exact .inl k; exact .inr (.inl k)
  obtain ⟨u, r, l⟩ := hl i x v hi e1 vis
  refine wpAny_AugAssign_Name ?_
  have go : wpAny (model X.prog X.w) X.A (eval e X.env) (fun w s₂ => wpAny (model X.prog X.w) X.A (inplaceOp op u w) (fun r s₃ => wpAny (model X.prog X.w) X.A (storeName X.env x r) (fun _ => SP X pins D .next) X.xe s₃) X.xe s₂) X.xe s := by
    refine thn (he pins s σ H _ I h) fun w s1 ⟨y, H1, I1, r1, q1⟩ => ?_
    refine thn (ho pins s1 σ H1 v y u w _ I1 r r1 q1) fun z s2 ⟨zv, H2, I2, r2, q2⟩ => ?_
    exact store_ok I2 hN hi hx r2 (fun s3 I3 => ⟨_, H2, I3, q2⟩) hf
  rcases l with ⟨hk, hm⟩ | ⟨hk, c, hc, hcell⟩
  · exact wpAny_loadName_local I.ok.kind hk hn hm go
  · rcases hk with hk | hk
    · exact wpAny_loadName_cell I.ok.kind hk hc hcell go
    · rcases hx with k | k
      · have : X.env.scope.names.lookup x = some .free := hk
        rw [k] at this; cases this
      · have : X.env.scope.names.lookup x = some .free := hk
        rw [k] at this; cases this
def tAugS (to ti te : TE) (tget : V → V → Hp → VK → Prop) (tip : TIp) (tset : TSet) : TS := fun D σ H => to σ H fun o H1 => ti σ H1 fun i H2 => tget o i H2 fun x H3 => te σ H3 fun y H4 => tip x y H4 fun z H5 => tset o i z H5 fun H6 => D.nx σ H6
def PGet (X : Cx) (t : V → V → Hp → VK → Prop) : Prop :=
  ∀ (pins : List (Addr × Obj)) (s : Shared) (σ : St) (H : Hp) (o i : V) (ov iv : Value) (Q : VK), Inv X pins σ H s → RelV o ov → RelV i iv → t o i H Q →
    wpAny (model X.prog X.w) X.A (getItem ov iv) (EP X pins σ Q) X.xe s
theorem ps_augS {o i e : Expr} {to ti te : TE} {tget : V → V → Hp → VK → Prop} {tip : TIp} {tset : TSet} {op : Operator} {tpos : Pos} (ho : PE X o to) (hi : PE X i ti) (hg : PGet X tget) (he : PE X e te) (hp : PIp X op tip) (hs : PSet X tset)
    (ha : ∀ ov iv new, augStore i ov iv new = (do holding [new, ov, iv] (setItem ov iv new); release [new, ov, iv] []; pure .next) := by intros; rfl) : PS X (.AugAssign (.Subscript o i tpos) op e pos) (tAugS to ti te tget tip tset) := by
  intro pins s σ H D I h
  refine wpAny_AugAssign_SubscriptAny (thn (ho pins s σ H _ I h) fun ov s1 ⟨x1, H1, I1, r1, q1⟩ => ?_) ha
  refine thn (hi pins s1 σ H1 _ I1 q1) fun iv s2 ⟨x2, H2, I2, r2, q2⟩ => ?_
  refine thn (hg pins s2 σ H2 x1 x2 ov iv _ I2 r1 r2 q2) fun old s3 ⟨x3, H3, I3, r3, q3⟩ => ?_
  refine thn (he pins s3 σ H3 _ I3 q3) fun v s4 ⟨x4, H4, I4, r4, q4⟩ => ?_
  refine thn (hp pins s4 σ H4 x3 x4 old v _ I4 r3 r4 q4) fun new s5 ⟨x5, H5, I5, r5, q5⟩ => ?_
  exact thn (hs pins s5 σ H5 x1 x2 x5 ov iv new _ I5 r1 r2 r5 q5) fun _ s6 ⟨H6, I6, q6⟩ => ⟨σ, H6, I6, q6⟩
def ipI (f : Int → Int → Int) : TIp := fun x y H Q => ∃ i j, x = .int i ∧ y = .int j ∧ Q (.int (f i j)) H
theorem ip_add : PIp X .Add (ipI fun i j => i + j) := by
  intro pins s σ H x y v u Q I r1 r2 h
  obtain ⟨i, j, e1, e2, q⟩ := h
  subst e1; subst e2
  obtain ⟨t, rfl⟩ := r1
  obtain ⟨t', rfl⟩ := r2
  exact iadd_int ⟨.int _, H, I.tok _, ⟨_, rfl⟩, q⟩
end
section
variable {X : Cx} {pos : Pos}
end
structure It where
  go : Nat → Hp → Prop
  yld : Nat → Hp → V → Hp → Prop
  stop : Nat → Hp → Prop
def FpOk (X : Cx) (pins : List (Addr × Obj)) (H : Hp) (b : Addr) : Prop :=
  H b = none ∧ b ≠ X.env.locals ∧ b ∉ X.fs ∧ (b ∈ X.ex ∨ X.s₀.heap.objs.size ≤ b) ∧ (∀ x c, X.env.cells.lookup x = some c → c ≠ b) ∧ ∀ p ∈ X.pn ++ pins, p.1 ≠ b
theorem Inv.fpOk {X : Cx} {pins : List (Addr × Obj)} {σ : St} {H H' : Hp} {s : Shared} {b : Addr} (I : Inv X pins σ H s) (hb : s.heap.objs.size ≤ b) (hn : H' b = none) : FpOk X pins H' b := by
  refine ⟨hn, Nat.ne_of_gt (Nat.lt_of_lt_of_le I.lt hb), I.nofs hb, .inr (Nat.le_trans I.sz hb), fun x c e z => ?_, fun p hp z => ?_⟩
  · obtain ⟨v, q⟩ := I.cell x c e
    exact absurd (Nat.lt_of_lt_of_le q.lt (by rw [z]; exact hb)) (Nat.lt_irrefl _)
  · exact absurd (Nat.lt_of_lt_of_le (Heap.lt_size (I.pin p hp).1) (by rw [z]; exact hb)) (Nat.lt_irrefl _)
structure Turn (P : Program) (w : World) (K : PySem.W.Frag) (tg : Expr) (J : It) (fp : List Addr) (it : Addr) (tn : Nat → Heap → Prop) : Prop where
  mem : it ∈ fp
  obj : ∀ i h, tn i h → ∀ b ∈ fp, ∃ o, h.get? b = some o ∧ ∀ v, o.data ≠ .cell v
  keep : ∀ i h h', tn i h → (∀ b ∈ fp, ∀ o, h.get? b = some o → h'.get? b = some o) → tn i h'
  item : ∀ (X : Cx), X.prog = P → X.w = w → X.K = K → X.calm = true → ∀ (i : Nat) (pins : List (Addr × Obj)) (s : Shared) (σ : St) (H : Hp) (E : Value → Shared → Prop), Inv X pins σ H s → (∀ b ∈ fp, FpOk X pins H b) → tn i s.heap → J.go i H →
    wpAny (model P w) X.A (pyNext (.ref it)) (fun r s1 => ∃ u, r = some u ∧
      wpAny (model P w) X.A (letOwnedTupleGo tg (.ref it) u) (fun _ s2 => ∃ x H', Inv X pins σ H' s2 ∧ RelV x u ∧ J.yld i H x H' ∧ tn (i + 1) s2.heap ∧ ∀ b ∈ fp, H' b = none) E s1) E s
  done : ∀ (X : Cx), X.prog = P → X.w = w → X.K = K → X.calm = true → ∀ (i : Nat) (pins : List (Addr × Obj)) (s : Shared) (σ : St) (H : Hp) (E : Value → Shared → Prop), Inv X pins σ H s → (∀ b ∈ fp, FpOk X pins H b) → tn i s.heap → J.stop i H →
    wpAny (model P w) X.A (pyNext (.ref it)) (fun r s1 => r = none ∧ Inv X pins σ H s1) E s
  self : ∀ (A : Around) (i : Nat) (s : Shared) (Q : Value → Shared → Prop) (E : Value → Shared → Prop), tn i s.heap → Q (.ref it) s → wpAny (model P w) A (pyIter (.ref it)) Q E s
abbrev TI := St → Hp → (It → Hp → Prop) → Prop
def PIE (X : Cx) (pins : List (Addr × Obj)) (σ : St) (tg : Expr) (R : It → Hp → Prop) (itv : Value) (s2 : Shared) : Prop :=
  ∃ (it : Addr) (fp : List Addr) (tn : Nat → Heap → Prop) (J : It) (H' : Hp), itv = .ref it ∧ Inv X pins σ H' s2 ∧ Turn X.prog X.w X.K tg J fp it tn ∧ tn 0 s2.heap ∧ (∀ b ∈ fp, FpOk X pins H' b) ∧ R J H'
def PI (X : Cx) (tg iter : Expr) (wi : TI) : Prop :=
  ∀ (pins : List (Addr × Obj)) (s : Shared) (σ : St) (H : Hp) (R : It → Hp → Prop), Inv X pins σ H s → wi σ H R →
    wpAny (model X.prog X.w) X.A (eval iter X.env) (fun v s1 => wpAny (model X.prog X.w) X.A (pyIter v) (PIE X pins σ tg R) X.xe s1) X.xe s
theorem go_of {M : Model} {A : Around} {E : Value → Shared → Prop} {s : Shared} {tg : Expr} {it : Addr} {u : Value} {o : Obj} {n : String} {vs : Array Value} {Q : Unit → Shared → Prop} (ho : s.heap.get? it = some o) (hc : o.cls = .type n) (hd : o.data = .fields vs)
    (hn : ["enumerate", "zip", "dict_itemiterator", "dict_reverseitemiterator", "odict_iterator", "itertools.zip_longest", "itertools.pairwise"].contains n = false) (hQ : Q () s) : wpAny M A (letOwnedTupleGo tg (.ref it) u) Q E s := by
  unfold letOwnedTupleGo
  cases tg <;> first
    | exact wpAny_pure hQ
    | (cases u <;> first
        | exact wpAny_pure hQ
        | (refine wpAny_bind (wpAny_load ho ?_)
           rw [hc, hd]
           show wpAny M A (if (["enumerate", "zip", "dict_itemiterator", "dict_reverseitemiterator", "odict_iterator", "itertools.zip_longest", "itertools.pairwise"].contains n && vs[0]? == some (rawInt _)) = true then _ else _) Q E s
           rw [if_neg (by intro h; rw [hn, Bool.false_and] at h; cases h)]
           exact wpAny_pure hQ))
def Itl (K : PySem.W.Frag) (a : Addr) : It :=
  ⟨fun i H => ∃ xs x, SqL K H a xs ∧ xs[i]? = some x, fun i H x H' => H' = H ∧ ∀ xs, SqL K H a xs → xs[i]? = some x, fun i H => ∃ xs, SqL K H a xs ∧ xs.length ≤ i⟩
def Itt (K : PySem.W.Frag) (a : Addr) : It :=
  ⟨fun i H => ∃ xs x, SqT K H a xs ∧ xs[i]? = some x, fun i H x H' => H' = H ∧ ∀ xs, SqT K H a xs → xs[i]? = some x, fun i H => ∃ xs, SqT K H a xs ∧ xs.length ≤ i⟩
def Itr (lo : Int) (n : Nat) : It := ⟨fun i _ => i < n, fun i H x H' => H' = H ∧ x = .int (lo + i), fun i _ => n ≤ i⟩
theorem turn_list {P : Program} {w : World} {K : PySem.W.Frag} {tg : Expr} (a it : Addr) : Turn P w K tg (Itl K a) [it] it (fun i h => h.IsListIter it a i) where
  mem := by simp
  obj := fun i h st b hb => by
    have e : b = it := by simpa using hb
    subst e
    obtain ⟨o, e, c, d⟩ := st
    exact ⟨o, e, fun v z => by rw [d] at z; cases z⟩
  keep := fun i h h' st k => st.at fun o e => k it (by simp) o e
  item := by
    intro X hP hw hK hc i pins s σ H E I hf st hg
    subst hP hw hK
    obtain ⟨xs, x, hq, hx⟩ := hg
    obtain ⟨its, rv, p, hz⟩ := I.list hq
    obtain ⟨u, hu, ru⟩ := rv.get hx
    obtain ⟨f0, f1, f2, f3, f4, f5⟩ := hf it (by simp)
    refine wpAny_pyNext_list_item st p.isList (x := u) (by simpa using hu) fun h' st' sb => ?_
    have I1 : Inv X pins σ H { s with heap := h' } := I.turned (t' := s.toks) (fun b o hb e => (sb.2 b hb).trans e) f0 f1 f3 f4 f5
    obtain ⟨o, e, c, d⟩ := id st'
    exact ⟨u, rfl, go_of (s := { s with heap := h' }) e c d (by decide) ⟨x, H, I1, ru, ⟨rfl, fun ys hy => by rw [I.list_inj hy hq]; exact hx⟩, st', fun b hb => (hf b hb).1⟩⟩
  done := by
    intro X hP hw hK hc i pins s σ H E I hf st hg
    subst hP hw hK
    obtain ⟨xs, hq, hx⟩ := hg
    obtain ⟨its, rv, p, hz⟩ := I.list hq
    obtain ⟨f0, f1, f2, f3, f4, f5⟩ := hf it (by simp)
    have hl := rv.length
    exact wpAny_pyNext_list_end (I.ok.hd hc) st p.isList (by simp; omega) fun h' eb => ⟨rfl, I.turned (t' := s.toks) (fun b o hb e => eb b o hb e) f0 f1 f3 f4 f5⟩
  self := fun _ _ _ _ _ st h => wpAny_pyIter_listiter st h
theorem turn_tuple {P : Program} {w : World} {K : PySem.W.Frag} {tg : Expr} (a it : Addr) : Turn P w K tg (Itt K a) [it] it (fun i h => h.IsTupleIter it a i) where
  mem := by simp
  obj := fun i h st b hb => by
    have e : b = it := by simpa using hb
    subst e
    obtain ⟨o, e, c, d⟩ := st
    exact ⟨o, e, fun v z => by rw [d] at z; cases z⟩
  keep := fun i h h' st k => st.at fun o e => k it (by simp) o e
  item := by
    intro X hP hw hK hc i pins s σ H E I hf st hg
    subst hP hw hK
    obtain ⟨xs, x, hq, hx⟩ := hg
    obtain ⟨its, rv, p, hz⟩ := I.tuple hq
    obtain ⟨u, hu, ru⟩ := rv.get hx
    obtain ⟨f0, f1, f2, f3, f4, f5⟩ := hf it (by simp)
    refine wpAny_pyNext_tuple_item st (show s.heap.IsTuple a its.toArray from p) (x := u) (by simpa using hu) fun h' st' sb => ?_
    have I1 : Inv X pins σ H { s with heap := h' } := I.turned (t' := s.toks) (fun b o hb e => (sb.2 b hb).trans e) f0 f1 f3 f4 f5
    obtain ⟨o, e, c, d⟩ := id st'
    exact ⟨u, rfl, go_of (s := { s with heap := h' }) e c d (by decide) ⟨x, H, I1, ru, ⟨rfl, fun ys hy => by rw [I.tuple_inj hy hq]; exact hx⟩, st', fun b hb => (hf b hb).1⟩⟩
  done := by
    intro X hP hw hK hc i pins s σ H E I hf st hg
    subst hP hw hK
    obtain ⟨xs, hq, hx⟩ := hg
    obtain ⟨its, rv, p, hz⟩ := I.tuple hq
    obtain ⟨f0, f1, f2, f3, f4, f5⟩ := hf it (by simp)
    have hl := rv.length
    exact wpAny_pyNext_tuple_end (I.ok.hd hc) st (show s.heap.IsTuple a its.toArray from p) (by simp; omega) fun h' eb => ⟨rfl, I.turned (t' := s.toks) (fun b o hb e => eb b o hb e) f0 f1 f3 f4 f5⟩
  self := fun _ _ _ _ _ st h => wpAny_pyIter_tupleiter st h
theorem turn_range {P : Program} {w : World} {K : PySem.W.Frag} {tg : Expr} (it : Addr) (lo : Int) (n : Nat) : Turn P w K tg (Itr lo n) [it] it (fun i h => IsRangeIter h it (lo + (i : Nat) * 1) ((n : Int) - (i : Nat)) 1) where
  mem := by simp
  obj := fun i h st b hb => by
    have e : b = it := by simpa using hb
    subst e
    exact ⟨_, st, fun v z => by
      have z' : Data.fields _ = Data.cell v := z
      cases z'⟩
  keep := fun i h h' st k => k it (by simp) _ st
  item := by
    intro X hP hw hK hc i pins s σ H E I hf st hg
    subst hP hw hK
    obtain ⟨f0, f1, f2, f3, f4, f5⟩ := hf it (by simp)
    have W := Walks.range (prog := X.prog) (w := X.w) (I.ok.hd hc) it lo 1 n
    refine W.item i s _ _ hg st fun v h' tk hv st' kk => ?_
    obtain ⟨t, rfl⟩ := hv
    have I1 : Inv X pins σ H { s with heap := h', toks := tk } := I.turned (fun b o hb e => kk b o (by simpa using hb) e) f0 f1 f3 f4 f5
    refine ⟨_, rfl, go_of (s := { s with heap := h', toks := tk }) (n := "range_iterator") st' rfl rfl (by decide) ⟨.int (lo + i), H, I1, ⟨t, ?_⟩, ⟨rfl, rfl⟩, st', fun b hb => (hf b hb).1⟩⟩
    rw [Int.mul_one]
  done := by
    intro X hP hw hK hc i pins s σ H E I hf st hg
    subst hP hw hK
    obtain ⟨f0, f1, f2, f3, f4, f5⟩ := hf it (by simp)
    exact wpAny_pyNext_range_end (I.ok.hd hc) st (by have : n ≤ i := hg; omega) fun h' eb => ⟨rfl, I.turned (t' := s.toks) (fun b o hb e => eb b o hb e) f0 f1 f3 f4 f5⟩
  self := fun _ _ _ _ _ st h => wpAny_pyIter_rangeiter st h
end L2
namespace L2
open PySem PySem.Spec PyProof.Rows
section
variable {X : Cx} {tg : Expr}
def iList (K : PySem.W.Frag) (tl : TE) : TI := fun σ H R => tl σ H fun x H1 => ∃ a, x = .ref a ∧ (∃ xs, SqL K H1 a xs) ∧ R (Itl K a) H1
def iTup (K : PySem.W.Frag) (tl : TE) : TI := fun σ H R => tl σ H fun x H1 => ∃ a, x = .ref a ∧ (∃ xs, SqT K H1 a xs) ∧ R (Itt K a) H1
theorem pi_list {l : Expr} {tl : TE} (hl : PE X l tl) : PI X tg l (iList X.K tl) := by
  intro pins s σ H R I h
  refine thn (hl pins s σ H _ I h) fun v s1 ⟨x, H1, I1, r1, q1⟩ => ?_
  obtain ⟨a, e, ⟨xs, hq⟩, q⟩ := q1
  subst e
  cases r1
  obtain ⟨its, rv, p, hz⟩ := I1.list hq
  refine wpAny_pyIter_list p.isList ?_
  refine ⟨s1.heap.objs.size, [s1.heap.objs.size], _, _, H1, rfl, I1.kept (t' := s1.toks) fun b o e => Heap.get?_push_of_some _ e, turn_list a _, ⟨_, Heap.get?_push_size _ rfl, rfl, rfl⟩, fun b hb => ?_, q⟩
  have e : b = s1.heap.objs.size := by simpa using hb
  subst e
  exact I1.fpOk (Nat.le_refl _) (I1.hok.fresh (Nat.le_refl _))
theorem pi_tup {l : Expr} {tl : TE} (hl : PE X l tl) : PI X tg l (iTup X.K tl) := by
  intro pins s σ H R I h
  refine thn (hl pins s σ H _ I h) fun v s1 ⟨x, H1, I1, r1, q1⟩ => ?_
  obtain ⟨a, e, ⟨xs, hq⟩, q⟩ := q1
  subst e
  cases r1
  obtain ⟨its, rv, p, hz⟩ := I1.tuple hq
  refine wpAny_pyIter_tuple (show s1.heap.IsTuple a its.toArray from p) ?_
  refine ⟨s1.heap.objs.size, [s1.heap.objs.size], _, _, H1, rfl, I1.kept (t' := s1.toks) fun b o e => Heap.get?_push_of_some _ e, turn_tuple a _, ⟨_, Heap.get?_push_size _ rfl, rfl, rfl⟩, fun b hb => ?_, q⟩
  have e : b = s1.heap.objs.size := by simpa using hb
  subst e
  exact I1.fpOk (Nat.le_refl _) (I1.hok.fresh (Nat.le_refl _))
theorem range_it {pins : List (Addr × Obj)} {σ : St} {H : Hp} {s : Shared} {R : It → Hp → Prop} {E : Value → Shared → Prop} {lo hi : Int} {t u v : Tok} {tk : Nat} (I : Inv X pins σ H s) (h1 : -(2 ^ 62) ≤ lo) (h2 : lo < 2 ^ 62) (h3 : -(2 ^ 62) ≤ hi) (h4 : hi < 2 ^ 62)
    (q : R (Itr lo (hi - lo).toNat) H) : wpAny (model X.prog X.w) X.A (pyIter (.ref s.heap.objs.size)) (PIE X pins σ tg R) E { s with heap := s.heap.push { cls := .type "range", data := .fields #[.int lo t, .int hi u, .int 1 v] }, toks := tk } := by
  refine wpAny_pyIter_range (IsRange.new ..) (small_one h1 h2 h3 h4) ?_
  have I1 : Inv X pins σ H { s with heap := s.heap.push { cls := .type "range", data := .fields #[.int lo t, .int hi u, .int 1 v] }, toks := tk } := I.kept fun b o e => Heap.get?_push_of_some _ e
  refine ⟨(s.heap.push { cls := .type "range", data := .fields #[.int lo t, .int hi u, .int 1 v] }).objs.size, [(s.heap.push { cls := .type "range", data := .fields #[.int lo t, .int hi u, .int 1 v] }).objs.size], _, _, H, rfl,
    I1.kept (t' := tk) fun b o e => Heap.get?_push_of_some _ e, turn_range _ lo (hi - lo).toNat, ?_, fun b hb => ?_, q⟩
  · have e1 : lo + ((0 : Nat) : Int) * 1 = lo := by simp
    have e2 : (((hi - lo).toNat : Nat) : Int) - ((0 : Nat) : Int) = Builtin.Range.rangeSize lo hi 1 := by rw [rangeSize_one]; split <;> omega
    show IsRangeIter _ _ (lo + ((0 : Nat) : Int) * 1) ((((hi - lo).toNat : Nat) : Int) - ((0 : Nat) : Int)) 1
    rw [e1, e2]
    exact Heap.get?_push_size _ rfl
  · have e : b = (s.heap.push { cls := .type "range", data := .fields #[.int lo t, .int hi u, .int 1 v] }).objs.size := by simpa using hb
    subst e
    exact I1.fpOk (Nat.le_refl _) (I1.hok.fresh (Nat.le_refl _))
def iRng1 (ta : TA) : TI := fun σ H R => ta σ H fun vs H1 => ∃ j : Int, vs = [.int j] ∧ -(2 ^ 62) ≤ j ∧ j < 2 ^ 62 ∧ R (Itr 0 j.toNat) H1
def iRng2 (ta : TA) : TI := fun σ H R => ta σ H fun vs H1 => ∃ i j : Int, vs = [.int i, .int j] ∧ (-(2 ^ 62) ≤ i ∧ i < 2 ^ 62 ∧ -(2 ^ 62) ≤ j ∧ j < 2 ^ 62) ∧ R (Itr i (j - i).toNat) H1
theorem pi_range1 {a : Expr} {ta : TA} {p pos : Pos} (hg : Gl X "range") (hm : X.mg "range" = none) (ha : PA X [a] ta) (hs : starEach [a] X.env = [(false, eval a X.env)] := by rfl) : PI X tg (.Call (.Name "range" p) [a] [] pos) (iRng1 ta) := by
  intro pins s σ H R I h
  refine Call_ (ld_blt I hg hm boot_range (PyProof.Rows.callWith_type1 (thn (ha pos pins s σ H _ I h) fun us s1 ⟨vs, H1, I1, r1, q1⟩ => ?_) hs rfl))
  obtain ⟨j, e, q1, q2, q⟩ := q1
  subst e
  cases r1 with
  | cons r rr =>
    cases rr
    obtain ⟨t, rfl⟩ := r
    exact call_range_1 (range_it I1 (by omega) (by omega) q1 q2 (by simpa using q))
theorem pi_range2 {a b : Expr} {ta : TA} {p pos : Pos} (hg : Gl X "range") (hm : X.mg "range" = none) (ha : PA X [a, b] ta) (hs : starEach [a, b] X.env = [(false, eval a X.env), (false, eval b X.env)] := by rfl) (hs2 : starEach [b] X.env = [(false, eval b X.env)] := by rfl) :
    PI X tg (.Call (.Name "range" p) [a, b] [] pos) (iRng2 ta) := by
  intro pins s σ H R I h
  refine Call_ (ld_blt I hg hm boot_range (PyProof.Rows.callWith_type1 (thn (ha pos pins s σ H _ I h) fun us s1 ⟨vs, H1, I1, r1, q1⟩ => ?_) (by rw [hs, hs2]) (by rw [hs2]; rfl)))
  obtain ⟨i, j, e, ⟨q1, q2, q3, q4⟩, q⟩ := q1
  subst e
  cases r1 with
  | cons r rr =>
    cases rr with
    | cons r' rr =>
      cases rr
      obtain ⟨t, rfl⟩ := r
      obtain ⟨t', rfl⟩ := r'
      exact call_range_2 (range_it I1 q1 q2 q3 q4 q)
def tFor (wi : TI) (g : TG) (tb : TS) : TS := fun D σ H => wi σ H fun J H1 => ∃ W : Nat → Nat → St → Hp → Prop, (∃ m, W 0 m σ H1) ∧ ∀ i m σ H, W i m σ H →
  (J.stop i H ∧ D.nx σ H) ∨ (J.go i H ∧ ∃ N : St → Hp → Prop, (∀ σ' H', N σ' H' → ∃ m', m' < m ∧ W (i + 1) m' σ' H') ∧ ∀ x H', J.yld i H x H' → g x σ H' fun σ2 H2 => tb { D with nx := N, ct := N, bk := D.nx } σ2 H2)
def pinsAt (fp : List Addr) (h : Heap) : List (Addr × Obj) := fp.filterMap fun b => (h.get? b).map fun o => (b, o)
theorem mem_pinsAt {fp : List Addr} {h : Heap} {b : Addr} {o : Obj} (hb : b ∈ fp) (e : h.get? b = some o) : (b, o) ∈ pinsAt fp h := List.mem_filterMap.mpr ⟨b, hb, by rw [e]; rfl⟩
theorem of_pinsAt {fp : List Addr} {h : Heap} {p : Addr × Obj} (hp : p ∈ pinsAt fp h) : p.1 ∈ fp ∧ h.get? p.1 = some p.2 := by
  obtain ⟨b, hb, e⟩ := List.mem_filterMap.mp hp
  cases q : h.get? b with
  | none => rw [q] at e; cases e
  | some o =>
    rw [q] at e
    have e' : (b, o) = p := Option.some.inj e
    subst e'
    exact ⟨hb, q⟩
theorem Inv.pinned {pins : List (Addr × Obj)} {σ : St} {H : Hp} {s : Shared} {fp : List Addr} (I : Inv X pins σ H s) (hf : ∀ b ∈ fp, FpOk X pins H b) (ho : ∀ b ∈ fp, ∃ o, s.heap.get? b = some o ∧ ∀ v, o.data ≠ .cell v) : Inv X (pins ++ pinsAt fp s.heap) σ H s :=
  I.pins_of fun p hp => (List.mem_append.mp hp).elim (fun z => I.pin p (List.mem_append_right _ z)) fun z => by
    obtain ⟨hb, e⟩ := of_pinsAt z
    obtain ⟨f0, f1, f2, _⟩ := hf p.1 hb
    obtain ⟨o, e', d⟩ := ho p.1 hb
    rw [e] at e'; cases e'
    exact ⟨e, f0, f1, f2, d⟩
theorem Inv.unpinned {pins pl : List (Addr × Obj)} {σ : St} {H : Hp} {s : Shared} (I : Inv X (pins ++ pl) σ H s) : Inv X pins σ H s := I.pins_of fun p hp => I.pin p (List.mem_append_right _ (List.mem_append_left _ hp))
theorem ps_for {iter : Expr} {body : List Stmt} {wi : TI} {g : TG} {tb : TS} {pos : Pos} (hp : PassesOwn (model X.prog X.w) X.A X.env X.xe) (hc : X.calm = true) (hi : PI X tg iter wi) (hg : PG X tg g) (hb : PSs X body tb)
    (hs : ∀ x, foldedSetIterable iter X.env x = pure x := by intro _; rfl) : PS X (.For tg iter body [] pos) (tFor wi g tb) := by
  intro pins s σ H D I h
  refine wpAny_For (thn (hi pins s σ H _ I h) fun v s1 h1 => thn h1 fun itv s2 h2 => ?_) hs
  obtain ⟨it, fp, tn, J, H2, e, I2, T, st2, f2, W, ⟨m0, w0⟩, turn⟩ := h2
  subst e
  have stat : ∀ {H' : Hp}, (∀ b ∈ fp, H' b = none) → ∀ b ∈ fp, FpOk X pins H' b := fun hn b hb => ⟨hn b hb, (f2 b hb).2⟩
  refine codeAny_forLoop_any (fun n s' => ∃ i σ' H', Inv X pins σ' H' s' ∧ tn i s'.heap ∧ (∀ b ∈ fp, H' b = none) ∧ W i n σ' H') ?_ m0 ⟨0, σ, H2, I2, st2, fun b hb => (f2 b hb).1, w0⟩
  rintro n s3 ⟨i, σ3, H3, I3, st3, fr3, w3⟩
  rcases turn i n σ3 H3 w3 with ⟨stop, qn⟩ | ⟨go, N, hN, step⟩
  · refine wpAny_passesOwn hp (thn (T.done X rfl rfl rfl hc i pins s3 σ3 H3 X.xe I3 (stat fr3) st3 stop) fun r s4 ⟨hr, I4⟩ => ?_)
    subst hr
    exact wpAny_execs_nil ⟨σ3, H3, I4, qn⟩
  · refine wpAny_passesOwn hp (thn (T.item X rfl rfl rfl hc i pins s3 σ3 H3 X.xe I3 (stat fr3) st3 go) fun r s4 ⟨u, hr, h4⟩ => ?_)
    subst hr
    refine wpAny_passesOwn hp (thn h4 fun _ s5 ⟨x, H5, I5, r5, y5, st5, fr5⟩ => ?_)
    have I5' := I5.pinned (stat fr5) (T.obj _ _ st5)
    refine wpAny_passesOwn hp (thn (hg _ s5 σ3 H5 x u _ I5' r5 (step x H5 y5)) fun _ s6 ⟨σ6, H6, I6, q6⟩ => ?_)
    refine wpAny_passesOwn hp (thn (hb _ s6 σ6 H6 _ I6 q6) fun f s7 q7 => ?_)
    have again : ∀ {σ7 : St} {H7 : Hp}, Inv X (pins ++ pinsAt fp s5.heap) σ7 H7 s7 → N σ7 H7 → ∃ m, m < n ∧ ∃ i σ' H', Inv X pins σ' H' s7 ∧ tn i s7.heap ∧ (∀ b ∈ fp, H' b = none) ∧ W i m σ' H' := fun {σ7 H7} I7 n7 => by
      obtain ⟨m', hm, w7⟩ := hN σ7 H7 n7
      refine ⟨m', hm, i + 1, σ7, H7, I7.unpinned, T.keep _ _ _ st5 fun b hb o e => (I7.pin (b, o) (List.mem_append_right _ (List.mem_append_right _ (mem_pinsAt hb e)))).1, fun b hb => ?_, w7⟩
      obtain ⟨o, e, d⟩ := T.obj _ _ st5 b hb
      exact (I7.pin (b, o) (List.mem_append_right _ (List.mem_append_right _ (mem_pinsAt hb e)))).2.1
    cases f with
    | next => obtain ⟨σ7, H7, I7, n7⟩ := q7; exact again I7 n7
    | cont => obtain ⟨σ7, H7, I7, n7⟩ := q7; exact again I7 n7
    | brk => obtain ⟨σ7, H7, I7, q7⟩ := q7; exact ⟨σ7, H7, I7.unpinned, q7⟩
    | ret v => obtain ⟨x7, σ7, H7, I7, r7, q7⟩ := q7; exact ⟨x7, σ7, H7, I7.unpinned, r7, q7⟩
end
theorem for_range {lo : Int} {n : Nat} {g : TG} {tb : TS} {D : Ends} {σ : St} {H : Hp} (Pv : Nat → St → Hp → Prop) (h0 : Pv 0 σ H)
    (hs : ∀ i σ H, i < n → Pv i σ H → g (.int (lo + i)) σ H fun σ2 H2 => tb { D with nx := Pv (i + 1), ct := Pv (i + 1), bk := D.nx } σ2 H2) (hd : ∀ σ H, Pv n σ H → D.nx σ H) :
    ∃ W : Nat → Nat → St → Hp → Prop, (∃ m, W 0 m σ H) ∧ ∀ i m σ H, W i m σ H →
      ((Itr lo n).stop i H ∧ D.nx σ H) ∨ ((Itr lo n).go i H ∧ ∃ N : St → Hp → Prop, (∀ σ' H', N σ' H' → ∃ m', m' < m ∧ W (i + 1) m' σ' H') ∧ ∀ x H', (Itr lo n).yld i H x H' → g x σ H' fun σ2 H2 => tb { D with nx := N, ct := N, bk := D.nx } σ2 H2) := by
  refine ⟨fun i m σ H => m = n - i ∧ i ≤ n ∧ Pv i σ H, ⟨n, by simp, Nat.zero_le _, h0⟩, ?_⟩
  rintro i m σ H ⟨rfl, hi, p⟩
  by_cases hlt : i < n
  · refine .inr ⟨hlt, Pv (i + 1), fun σ' H' p' => ⟨n - (i + 1), by omega, rfl, hlt, p'⟩, fun x H' y => ?_⟩
    obtain ⟨e, y⟩ := y
    subst e y
    exact hs i σ _ hlt p
  · have e : i = n := by omega
    subst e
    exact .inl ⟨Nat.le_refl _, hd σ H p⟩
end L2
namespace L2
open PySem PySem.Spec PyProof.Rows
abbrev R2 := V → V → Hp → VK → Prop
def OpR (X : Cx) (f : Value → Value → Sem Value) (r : R2) : Prop :=
  ∀ (pins : List (Addr × Obj)) (s : Shared) (σ : St) (H : Hp) (x y : V) (v u : Value) (Q : VK), Inv X pins σ H s → RelV x v → RelV y u → r x y H Q →
    wpAny (model X.prog X.w) X.A (f v u) (EP X pins σ Q) X.xe s
def CallR (X : Cx) (f : Value) (r : List V → Hp → VK → Prop) : Prop :=
  ∀ (pins : List (Addr × Obj)) (s : Shared) (σ : St) (H : Hp) (xs : List V) (us : List Value) (Q : VK), Inv X pins σ H s → Vals xs us → r xs H Q →
    wpAny (model X.prog X.w) X.A (call f us) (EP X pins σ Q) X.xe s
def TruR (X : Cx) (r : V → Hp → (Bool → Hp → Prop) → Prop) : Prop :=
  ∀ (pins : List (Addr × Obj)) (s : Shared) (σ : St) (H : Hp) (x : V) (v : Value) (Q : Bool → Hp → Prop), Inv X pins σ H s → RelV x v → r x H Q →
    wpAny (model X.prog X.w) X.A (truthy v) (TP X pins σ Q) X.xe s
def tOp (r : R2) (ta tb : TE) : TE := fun σ H Q => ta σ H fun x H1 => tb σ H1 fun y H2 => r x y H2 Q
def rI (C : Int → Int → Prop) (g : Int → Int → V) : R2 := fun x y H Q => ∃ i j, x = .int i ∧ y = .int j ∧ C i j ∧ Q (g i j) H
def rI0 (g : Int → Int → V) : R2 := fun x y H Q => ∃ i j, x = .int i ∧ y = .int j ∧ Q (g i j) H
section
variable {X : Cx} {a b c : Expr} {ta tb tc : TE} {pos : Pos}
theorem binT (ha : PE X a ta) (hb : PE X b tb) {pins : List (Addr × Obj)} {s : Shared} {σ : St} {H : Hp} {R : V → V → Hp → Prop} (I : Inv X pins σ H s)
    (h : ta σ H fun x H1 => tb σ H1 fun y H2 => R x y H2) {Q : Value → Shared → Prop} {f : Value → Value → Sem Value}
    (hf : ∀ v u s2 x y H2, Inv X pins σ H2 s2 → RelV x v → RelV y u → R x y H2 → wpAny (model X.prog X.w) X.A (f v u) Q X.xe s2) :
    wpAny (model X.prog X.w) X.A (eval a X.env) (fun v s₁ => wpAny (model X.prog X.w) X.A (eval b X.env) (fun u s₂ => wpAny (model X.prog X.w) X.A (f v u) Q X.xe s₂) X.xe s₁) X.xe s := by
  refine thn (ha pins s σ H _ I h) fun v s1 ⟨x, H1, I1, r1, q1⟩ => ?_
  refine thn (hb pins s1 σ H1 _ I1 q1) fun u s2 ⟨y, H2, I2, r2, q2⟩ => ?_
  exact hf v u s2 x y H2 I2 r1 r2 q2
theorem pe_op {op : Operator} {r : R2} (ho : OpR X (binaryOp op) r) (ha : PE X a ta) (hb : PE X b tb) : PE X (.BinOp a op b pos) (tOp r ta tb) := by
  intro pins s σ H Q I h
  exact wpAny_BinOp (binT ha hb I h fun v u s2 x y H2 I2 rx ry q => ho pins s2 σ H2 x y v u Q I2 rx ry q)
theorem opI {f : Value → Value → Sem Value} {C : Int → Int → Prop} {g : Int → Int → Int}
    (rule : ∀ (i j : Int) (t u : Tok) (s : Shared) (Q : Value → Shared → Prop) (E : Value → Shared → Prop), C i j → Q (.int (g i j) s.toks) { s with toks := s.toks + 1 } → wpAny (model X.prog X.w) X.A (f (.int i t) (.int j u)) Q E s) :
    OpR X f (rI C fun i j => .int (g i j)) := by
  intro pins s σ H x y v u Q I rx ry h
  obtain ⟨i, j, rfl, rfl, hc, q⟩ := h
  obtain ⟨t, rfl⟩ := rx
  obtain ⟨t', rfl⟩ := ry
  exact rule i j t t' s _ _ hc ⟨.int (g i j), H, I.tok _, ⟨_, rfl⟩, q⟩
theorem opI0 {f : Value → Value → Sem Value} {g : Int → Int → Int}
    (rule : ∀ (i j : Int) (t u : Tok) (s : Shared) (Q : Value → Shared → Prop) (E : Value → Shared → Prop), Q (.int (g i j) s.toks) { s with toks := s.toks + 1 } → wpAny (model X.prog X.w) X.A (f (.int i t) (.int j u)) Q E s) :
    OpR X f (rI0 fun i j => .int (g i j)) := by
  intro pins s σ H x y v u Q I rx ry h
  obtain ⟨i, j, rfl, rfl, q⟩ := h
  obtain ⟨t, rfl⟩ := rx
  obtain ⟨t', rfl⟩ := ry
  exact rule i j t t' s _ _ ⟨.int (g i j), H, I.tok _, ⟨_, rfl⟩, q⟩
theorem opB0 {f : Value → Value → Sem Value} {g : Int → Int → Bool}
    (rule : ∀ (i j : Int) (t u : Tok) (s : Shared) (Q : Value → Shared → Prop) (E : Value → Shared → Prop), Q (.bool (g i j)) s → wpAny (model X.prog X.w) X.A (f (.int i t) (.int j u)) Q E s) :
    OpR X f (rI0 fun i j => .bl (g i j)) := by
  intro pins s σ H x y v u Q I rx ry h
  obtain ⟨i, j, rfl, rfl, q⟩ := h
  obtain ⟨t, rfl⟩ := rx
  obtain ⟨t', rfl⟩ := ry
  exact rule i j t t' s _ _ ⟨.bl (g i j), H, I, rfl, q⟩
def CPow (i j : Int) : Prop := 0 ≤ j ∧ j ≤ 1000000 ∧ i.natAbs < 2 ^ 64
def CMul (i j : Int) : Prop := (-(2 ^ 64) < i ∧ i < 2 ^ 64) ∨ (-(2 ^ 64) < j ∧ j < 2 ^ 64)
theorem CMul.ok {i j : Int} (h : CMul i j) : IntMulOk i j := by
  rcases h with ⟨h1, h2⟩ | ⟨h1, h2⟩
  · exact .of_left (intBits_le_64 h1 h2)
  · exact .of_right (intBits_le_64 h1 h2)
theorem op_add : OpR X (binaryOp .Add) (rI0 fun i j => .int (i + j)) := opI0 fun _ _ _ _ _ _ _ q => add_int q
theorem op_sub : OpR X (binaryOp .Sub) (rI0 fun i j => .int (i - j)) := opI0 fun _ _ _ _ _ _ _ q => sub_int q
theorem op_mul : OpR X (binaryOp .Mult) (rI CMul fun i j => .int (i * j)) := opI fun _ _ _ _ _ _ _ hc q => mul_int q hc.ok
theorem op_mod : OpR X (binaryOp .Mod) (rI (fun _ j => 0 < j) fun i j => .int (i % j)) := opI fun i j _ _ _ _ _ hc q => by
  have h1 : (0 : Int) < j := hc
  exact mod_int' (by omega) (by rw [Int.fmod_eq_emod_of_nonneg i (by omega)]; exact q)
theorem op_pow : OpR X (binaryOp .Pow) (rI CPow fun i j => .int (i ^ j.toNat)) := opI fun _ _ _ _ _ _ _ hc q => pow_int_small hc.1 hc.2.1 hc.2.2 q
theorem op_shl : OpR X (binaryOp .LShift) (rI CPow fun i j => .int (i * 2 ^ j.toNat)) := opI fun _ _ _ _ _ _ _ hc q => lshift_int_small hc.1 hc.2.1 hc.2.2 q
theorem op_and : OpR X (binaryOp .BitAnd) (rI0 fun i j => .int (Builtin.bitAnd i j)) := opI0 fun _ _ _ _ _ _ _ q => and_int q
theorem iop_mul : OpR X (inplaceOp .Mult) (rI CMul fun i j => .int (i * j)) := opI fun _ _ _ _ _ _ _ hc q => imul_int q hc.ok
end
def scal : V → V → Bool
  | .non, .non => true | .non, .int _ => true | .int _, .non => true | .non, .bl _ => true | .bl _, .non => true | .non, .str _ => true | .str _, .non => true
  | .int _, .int _ => true | .bl _, .bl _ => true | .str _, .str _ => true | .byt _, .byt _ => true
  | .int _, .str _ => true | .str _, .int _ => true | .bl _, .str _ => true | .str _, .bl _ => true
  | _, _ => false
def rEq : R2 := fun x y H Q => scal x y = true ∧ Q (.bl (decide (x = y))) H
def rNe : R2 := fun x y H Q => scal x y = true ∧ Q (.bl (!decide (x = y))) H
theorem dec_int {i j : Int} : decide (V.int i = V.int j) = (i == j) := by
  rw [Bool.eq_iff_iff]
  simp
theorem dec_bl {i j : Bool} : decide (V.bl i = V.bl j) = (i == j) := by
  rw [Bool.eq_iff_iff]
  simp
theorem dec_str {i j : Str} : decide (V.str i = V.str j) = (i == j) := by
  rw [Bool.eq_iff_iff]
  simp
theorem dec_byt {i j : Array UInt8} : decide (V.byt i = V.byt j) = (i.toList == j.toList) := by
  rw [Bool.eq_iff_iff]
  cases i
  cases j
  simp
section
variable {X : Cx} {a b c : Expr} {ta tb tc : TE} {pos : Pos}
theorem fin_bl {pins : List (Addr × Obj)} {σ : St} {H : Hp} {s : Shared} {Q : VK} {k k' : Bool} (I : Inv X pins σ H s) (q : Q (.bl k) H) (e : k = k') : EP X pins σ Q (.bool k') s := by
  subst e
  exact ⟨.bl k, H, I, rfl, q⟩
theorem op_eq : OpR X (compareOp .Eq) rEq := by
  intro pins s σ H x y v u Q I rx ry h
  obtain ⟨hs, q⟩ := h
  cases x with
  | non =>
    cases rx
    cases y with
    | non => cases ry; exact PySem.EqNone.eq_none_none (fin_bl I q (by simp))
    | bl j => cases ry; exact PySem.EqNone.eq_none_bool (fin_bl I q (by simp))
    | int j => obtain ⟨t', rfl⟩ := ry; exact PySem.EqNone.eq_none_int (fin_bl I q (by simp))
    | str j => obtain ⟨t', rfl⟩ := ry; exact PySem.EqNone.eq_none_str (fin_bl I q (by simp))
    | _ => exact absurd (show false = true from hs) Bool.false_ne_true
  | bl i =>
    cases rx
    cases y with
    | non => cases ry; exact PySem.EqNone.eq_bool_none (fin_bl I q (by simp))
    | bl j => cases ry; exact eq_bool (fin_bl I q dec_bl)
    | str j => obtain ⟨t', rfl⟩ := ry; exact PySem.EqMixed.eq_bool_str (fin_bl I q (by simp))
    | _ => exact absurd (show false = true from hs) Bool.false_ne_true
  | int i =>
    obtain ⟨t, rfl⟩ := rx
    cases y with
    | non => cases ry; exact PySem.EqNone.eq_int_none (fin_bl I q (by simp))
    | int j => obtain ⟨t', rfl⟩ := ry; exact eq_int (fin_bl I q dec_int)
    | str j => obtain ⟨t', rfl⟩ := ry; exact PySem.EqMixed.eq_int_str (fin_bl I q (by simp))
    | _ => exact absurd (show false = true from hs) Bool.false_ne_true
  | str i =>
    obtain ⟨t, rfl⟩ := rx
    cases y with
    | non => cases ry; exact PySem.EqNone.eq_str_none (fin_bl I q (by simp))
    | bl j => cases ry; exact PySem.EqMixed.eq_str_bool (fin_bl I q (by simp))
    | int j => obtain ⟨t', rfl⟩ := ry; exact PySem.EqMixed.eq_str_int (fin_bl I q (by simp))
    | str j => obtain ⟨t', rfl⟩ := ry; exact eq_str (fin_bl I q dec_str)
    | _ => exact absurd (show false = true from hs) Bool.false_ne_true
  | byt i =>
    obtain ⟨t, rfl⟩ := rx
    cases y with
    | byt j => obtain ⟨t', rfl⟩ := ry; exact PySem.W.eq_bytes (fin_bl I q dec_byt)
    | _ => exact absurd (show false = true from hs) Bool.false_ne_true
  | _ => cases y <;> exact absurd (show false = true from hs) Bool.false_ne_true
theorem op_ne : OpR X (compareOp .NotEq) rNe := by
  intro pins s σ H x y v u Q I rx ry h
  obtain ⟨hs, q⟩ := h
  cases x with
  | non =>
    cases rx
    cases y with
    | non => cases ry; exact PySem.EqNone.ne_none_none (fin_bl I q (by simp))
    | bl j => cases ry; exact PySem.EqNone.ne_none_bool (fin_bl I q (by simp))
    | int j => obtain ⟨t', rfl⟩ := ry; exact PySem.EqNone.ne_none_int (fin_bl I q (by simp))
    | str j => obtain ⟨t', rfl⟩ := ry; exact PySem.EqNone.ne_none_str (fin_bl I q (by simp))
    | _ => exact absurd (show false = true from hs) Bool.false_ne_true
  | bl i =>
    cases rx
    cases y with
    | non => cases ry; exact PySem.EqNone.ne_bool_none (fin_bl I q (by simp))
    | bl j => cases ry; exact ne_bool (fin_bl I q (congrArg not dec_bl))
    | str j => obtain ⟨t', rfl⟩ := ry; exact PySem.EqMixed.ne_bool_str (fin_bl I q (by simp))
    | _ => exact absurd (show false = true from hs) Bool.false_ne_true
  | int i =>
    obtain ⟨t, rfl⟩ := rx
    cases y with
    | non => cases ry; exact PySem.EqNone.ne_int_none (fin_bl I q (by simp))
    | int j => obtain ⟨t', rfl⟩ := ry; exact ne_int (fin_bl I q (congrArg not dec_int))
    | str j => obtain ⟨t', rfl⟩ := ry; exact PySem.EqMixed.ne_int_str (fin_bl I q (by simp))
    | _ => exact absurd (show false = true from hs) Bool.false_ne_true
  | str i =>
    obtain ⟨t, rfl⟩ := rx
    cases y with
    | non => cases ry; exact PySem.EqNone.ne_str_none (fin_bl I q (by simp))
    | bl j => cases ry; exact PySem.EqMixed.ne_str_bool (fin_bl I q (by simp))
    | int j => obtain ⟨t', rfl⟩ := ry; exact PySem.EqMixed.ne_str_int (fin_bl I q (by simp))
    | str j => obtain ⟨t', rfl⟩ := ry; exact ne_str (fin_bl I q (congrArg not dec_str))
    | _ => exact absurd (show false = true from hs) Bool.false_ne_true
  | byt i =>
    obtain ⟨t, rfl⟩ := rx
    cases y with
    | byt j => obtain ⟨t', rfl⟩ := ry; exact PySem.W.ne_bytes (fin_bl I q (congrArg not dec_byt))
    | _ => exact absurd (show false = true from hs) Bool.false_ne_true
  | _ => cases y <;> exact absurd (show false = true from hs) Bool.false_ne_true
theorem op_lt : OpR X (compareOp .Lt) (rI0 fun i j => .bl (decide (i < j))) := opB0 fun _ _ _ _ _ _ _ q => lt_int q
theorem op_ge : OpR X (compareOp .GtE) (rI0 fun i j => .bl (decide (j ≤ i))) := opB0 fun _ _ _ _ _ _ _ q => ge_int q
theorem op_isN : OpR X (compareOp .Is) (fun x y H Q => y = .non ∧ Q (.bl (decide (x = .non))) H) := by
  intro pins s σ H x y v u Q I rx ry h
  obtain ⟨rfl, q⟩ := h
  cases ry
  refine is_none_gen (fin_bl I q ?_)
  cases x <;> first
    | (cases rx; rfl)
    | (obtain ⟨t, rfl⟩ := rx; rfl)
theorem OpR.or {f : Value → Value → Sem Value} {r r' : R2} (h : OpR X f r) (h' : OpR X f r') : OpR X f (fun x y H Q => r x y H Q ∨ r' x y H Q) := by
  intro pins s σ H x y v u Q I rx ry q
  rcases q with q | q
  · exact h pins s σ H x y v u Q I rx ry q
  · exact h' pins s σ H x y v u Q I rx ry q
theorem nomark (b : Expr) {op : CmpOp} (h : op ≠ .In := by decide) (h2 : op ≠ .NotIn := by decide) : behindInMarks op b = false := by
  have e1 : (op == CmpOp.In) = false := by cases op <;> first | rfl | exact absurd rfl h
  have e2 : (op == CmpOp.NotIn) = false := by cases op <;> first | rfl | exact absurd rfl h2
  cases b <;> simp [behindInMarks, e1, e2]
theorem pe_cmpR {op : CmpOp} {r : R2} (ho : OpR X (compareOp op) r) (ha : PE X a ta) (hb : PE X b tb) (hm : behindInMarks op b = false) : PE X (.Compare a [op] [b] pos) (tOp r ta tb) := by
  intro pins s σ H Q I h
  exact wpAny_Compare1 (binT ha hb I h fun v u s2 x y H2 I2 rx ry q => ho pins s2 σ H2 x y v u Q I2 rx ry q) hm
def tTest (t : TE) : TT := fun σ H Q => t σ H fun x H' => ∃ k, x = .bl k ∧ Q k H'
theorem pt_cmpR {op : CmpOp} {r : R2} (ho : OpR X (compareOp op) r) (ha : PE X a ta) (hb : PE X b tb) (hm : behindInMarks op b = false) : PT X (.Compare a [op] [b] pos) (tTest (tOp r ta tb)) := by
  intro pins s σ H Q I h
  refine wpAny_isTrue_Compare1 (thn (ha pins s σ H _ I h) fun v s1 ⟨x, H1, I1, r1, q1⟩ => thn (hb pins s1 σ H1 _ I1 q1) fun u s2 ⟨y, H2, I2, r2, q2⟩ =>
    thn (ho pins s2 σ H2 x y v u _ I2 r1 r2 q2) fun c s3 ⟨z, H3, I3, r3, k, e, q3⟩ => ?_) hm
  subst e
  cases r3
  exact wpAny_truthy_bool ⟨H3, I3, q3⟩
def TruV (K : PySem.W.Frag) (x : V) (H : Hp) (k : Bool) : Prop :=
  match x with
  | .non => k = false
  | .bl b => k = b
  | .int i => k = (i != 0)
  | .str y => y.length ≤ sizeLine ∧ k = ((y.length : Int) != 0)
  | .byt y => y.size ≤ sizeLine ∧ k = ((y.size : Int) != 0)
  | .ref p => (∃ xs, SqL K H p xs ∧ k = !xs.isEmpty) ∨ (∃ xs, SqT K H p xs ∧ k = !xs.isEmpty) ∨ ∃ kvs, H p = some (.dK kvs) ∧ k = !kvs.isEmpty
  | _ => False
theorem isEmpty_kv {κ : Type} {kvs : List (κ × V)} {vs : List (κ × Value)} (r : KV kvs vs) : (!vs.isEmpty) = !kvs.isEmpty := by
  cases r <;> rfl
theorem isEmpty_of {xs : List V} {its : List Value} (r : Vals xs its) : (!its.toArray.isEmpty) = !xs.isEmpty := by
  cases r <;> simp
theorem line63 : (sizeLine : Nat) < 2 ^ 63 := by rw [sizeLine_eq]; decide
theorem tru_ok : TruR X (fun x H Q => ∃ k, TruV X.K x H k ∧ Q k H) := by
  intro pins s σ H x v Q I rx h
  obtain ⟨k, e, q⟩ := h
  have hl := line63
  have hs : sizeLine = 16777216 := sizeLine_eq
  cases x with
  | non =>
    cases rx
    have e' : k = false := e
    subst e'
    exact truthy_none ⟨H, I, q⟩
  | bl b =>
    cases rx
    have e' : k = b := e
    subst e'
    exact wpAny_truthy_bool ⟨H, I, q⟩
  | int i =>
    obtain ⟨t, rfl⟩ := rx
    have e' : k = (i != 0) := e
    subst e'
    exact PySem.P.truthy_int ⟨H, I, q⟩
  | str y =>
    obtain ⟨t, rfl⟩ := rx
    obtain ⟨hy, e'⟩ : y.length ≤ sizeLine ∧ k = ((y.length : Int) != 0) := e
    subst e'
    exact PySem.P.truthy_str (by omega) ⟨H, I.tok _, q⟩
  | byt y =>
    obtain ⟨t, rfl⟩ := rx
    obtain ⟨hy, e'⟩ : y.size ≤ sizeLine ∧ k = ((y.size : Int) != 0) := e
    subst e'
    exact PySem.W.truthy_bytes (by omega) ⟨H, I.tok _, q⟩
  | ref p =>
    cases rx
    have e' : (∃ xs, SqL X.K H p xs ∧ k = !xs.isEmpty) ∨ (∃ xs, SqT X.K H p xs ∧ k = !xs.isEmpty) ∨ ∃ kvs, H p = some (.dK kvs) ∧ k = !kvs.isEmpty := e
    rcases e' with ⟨xs, hx, e'⟩ | ⟨xs, hx, e'⟩ | ⟨kvs, hx, e'⟩
    · subst e'
      obtain ⟨its, r, pl, hz⟩ := I.list hx
      have hlen := r.length
      exact wpAny_truthy_list pl.isList (by simp only [List.size_toArray]; omega) ⟨H, I.tok _, by rw [isEmpty_of r]; exact q⟩
    · subst e'
      obtain ⟨its, r, pl, hz⟩ := I.tuple hx
      have hlen := r.length
      exact truthy_tuple pl (by simp only [List.size_toArray]; omega) ⟨H, I.tok _, by rw [isEmpty_of r]; exact q⟩
    · subst e'
      obtain ⟨hz, hS, vs, r, m⟩ : kvs.length ≤ sizeLine ∧ (p == sysModules) = false ∧ ∃ vs, KV kvs vs ∧ s.heap.DictOf (mixKind X.prog X.w) p vs := I.hok p _ hx
      have hlen : kvs.length = vs.length := Paired.length r
      exact wpAny_truthy_dict hS m (by omega) ⟨H, I.tok _, by rw [isEmpty_kv r]; exact q⟩
  | _ => exact (show False from e).elim
theorem pt_truth (ha : PE X a ta) (he : ∀ whole, isTrue a X.env whole = (do let v ← whole; standAt a.pos; holding [v] (truthy v))) :
    PT X a (fun σ H Q => ta σ H fun x H' => ∃ k, TruV X.K x H' k ∧ Q k H') := by
  intro pins s σ H Q I h
  exact isTrue_plain (thn (ha pins s σ H _ I h) fun v s1 ⟨x, H1, I1, r1, q1⟩ => tru_ok pins s1 σ H1 x v Q I1 r1 q1) (he _)
theorem vals1 {x : V} {us : List Value} (r : Vals [x] us) : ∃ u, us = [u] ∧ RelV x u := by
  cases r with
  | cons r1 r2 => cases r2; exact ⟨_, rfl, r1⟩
theorem vals2 {x y : V} {us : List Value} (r : Vals [x, y] us) : ∃ u w', us = [u, w'] ∧ RelV x u ∧ RelV y w' := by
  cases r with
  | cons r1 r2 =>
    cases r2 with
    | cons r3 r4 => cases r4; exact ⟨_, _, rfl, r1, r3⟩
theorem call_max2 (hc : X.calm = true) : CallR X (.builtin "max") (fun xs H Q => ∃ i j, xs = [.int i, .int j] ∧ Q (.int (if j > i then j else i)) H) := by
  intro pins s σ H xs us Q I r h
  obtain ⟨i, j, rfl, q⟩ := h
  obtain ⟨u, w', rfl, ⟨t, rfl⟩, ⟨t', rfl⟩⟩ := vals2 r
  refine max_two_ints (I.ok.hd hc) fun h' tk k => ⟨_, H, I.kept k, ?_, q⟩
  by_cases hj : j > i
  · rw [if_pos hj, if_pos hj]; exact ⟨_, rfl⟩
  · rw [if_neg hj, if_neg hj]; exact ⟨_, rfl⟩
theorem call_min2 (hc : X.calm = true) : CallR X (.builtin "min") (fun xs H Q => ∃ i j, xs = [.int i, .int j] ∧ Q (.int (if j < i then j else i)) H) := by
  intro pins s σ H xs us Q I r h
  obtain ⟨i, j, rfl, q⟩ := h
  obtain ⟨u, w', rfl, ⟨t, rfl⟩, ⟨t', rfl⟩⟩ := vals2 r
  refine min_two_ints (I.ok.hd hc) fun h' tk k => ⟨_, H, I.kept k, ?_, q⟩
  by_cases hj : j < i
  · rw [if_pos hj, if_pos hj]; exact ⟨_, rfl⟩
  · rw [if_neg hj, if_neg hj]; exact ⟨_, rfl⟩
end
end L2
namespace L2
open PySem PySem.Spec PyProof.Rows
structure ObjM (h : Heap) (x dx C : Addr) (mA : Str → Option Value) : Prop where
  obj : h.get? x = some (PySem.W.instObj C dx)
  ns : h.Ns1 dx mA
  ne : dx ≠ x
theorem lookIn_ns {h : Heap} {dx : Addr} {mA : Str → Option Value} (n : h.Ns1 dx mA) : ∃ od, h.get? dx = some od ∧ ∀ name, PySem.W.lookIn name od = some (mA name) := by
  obtain ⟨o, es, ep, ho, hd, hk, _, hm⟩ := n
  refine ⟨o, ho, fun name => ?_⟩
  have e := hm name
  unfold nsFind findBy at e
  rw [← Array.find?_toList] at e
  unfold PySem.W.lookIn
  rw [hd]
  dsimp only
  split
  · rename_i y q
    rw [q] at e
    exact congrArg some e
  · rename_i q
    rw [q] at e
    have a : es.toList.any (·.refKey) = false := by
      rw [List.any_eq_false]
      intro y hy
      obtain ⟨z, t, hkey⟩ := hk y (Array.mem_toList_iff.mp hy)
      simp [DictEntry.refKey, hkey]
    have a' : ¬ es.toList.any (·.refKey) = true := by rw [a]; exact Bool.false_ne_true
    rw [if_neg a']
    exact congrArg some e
theorem ObjM.look {h : Heap} {x dx C : Addr} {mA : Str → Option Value} (I : ObjM h x dx C mA) : ∃ od, PySem.W.InstAt h x (PySem.W.instObj C dx) C (some od) ∧ ∀ name, PySem.W.lookIn name od = some (mA name) :=
  let ⟨od, ho, hl⟩ := lookIn_ns I.ns
  ⟨od, ⟨I.obj, rfl, rfl, ho⟩, hl⟩
section
variable {prog : Program} {w : World} {A : Around} {E : Value → Shared → Prop} {s : Shared} {K : PySem.W.Frag} {x dx C f : Addr} {mA : Str → Option Value} {name : Str} {v : Value}
end
section
variable {P : Program} {w : World} {H H' : Hp} {h h' : Heap} {a C dx : Addr} {fs fs' : List (Str × V)}
theorem ins_get (hok : HOk P w H h) (e : H a = some (.ins C dx fs)) : ∃ mA, ObjM h a dx C mA ∧ (∀ f, RelO (fs.lookup f) (mA f)) ∧ PySem.Within mA (fs.map (·.1)) ∧ fs.length ≤ 1000 ∧ H dx = some (.own a) := by
  obtain ⟨d, z, ne, ob, mA, n, r, q⟩ := (show ObjOk P w H h a (.ins C dx fs) from hok a _ e)
  exact ⟨mA, ⟨ob, n, ne⟩, r, q, z, d⟩
end
structure Cls (K : PySem.W.Frag) (C : Addr) : Prop where
  pg : PySem.W.plainGet K C Str.empty = true
  hd : PySem.W.hasDictIn K C = true
  po : PySem.W.plainOver K C = true
  sa : PySem.W.findIn K (.ref C) "__setattr__" = some (some (.builtin "object.__setattr__"))
theorem Cls.get {K : PySem.W.Frag} {C : Addr} (c : Cls K C) (f : Str) : PySem.W.plainGet K C f = true := c.pg
section
variable {X : Cx} {pins : List (Addr × Obj)} {σ : St} {H : Hp} {s : Shared} {a C dx : Addr} {fs : List (Str × V)} {f : Str} {v : V} {A : Around} {E : Value → Shared → Prop}
end
section
variable {X : Cx} {o e value : Expr} {f : Str} {pos pos' tpos : Pos} {ta tv : TE}
def rAdd : V → V → Hp → VK → Prop := fun x y H Q => ∃ i j, x = .int i ∧ y = .int j ∧ Q (.int (i + j)) H
end
section
variable {X : Cx} {pins : List (Addr × Obj)} {σ : St} {H : Hp} {s : Shared} {A : Around} {E : Value → Shared → Prop} {Q : Value → Shared → Prop} {c : Value} {b : Bool}
inductive TyOf (K : PySem.W.Frag) (H : Hp) : V → Value → Prop where
  | non : TyOf K H .non (.type "NoneType")
  | bl (x : Bool) : TyOf K H (.bl x) (.type "bool")
  | int (i : Int) : TyOf K H (.int i) (.type "int")
  | str (x : Str) : TyOf K H (.str x) (.type "str")
  | flt (x : UInt64) : TyOf K H (.flt x) (.type "float")
  | lst {a : Addr} {xs : List V} (e : H a = some (.lst xs)) : TyOf K H (.ref a) (.type "list")
  | frz {a : Addr} {o : Obj} {xs : List V} (e : H a = some (.frz o (.lst xs))) : TyOf K H (.ref a) (.type "list")
  | tup {a : Addr} {xs : List V} (e : H a = some (.tup xs)) : TyOf K H (.ref a) (.type "tuple")
  | dK {a : Addr} {kvs : List (Key × V)} (e : H a = some (.dK kvs)) : TyOf K H (.ref a) (.type "dict")
  | dT {a : Addr} {kvs : List (List Key × V)} (e : H a = some (.dT kvs)) : TyOf K H (.ref a) (.type "dict")
  | ins {a C dx : Addr} {fs : List (Str × V)} (e : H a = some (.ins C dx fs)) (cl : Cls K C) (ha : PySem.W.findIn K (.ref C) "__class__" = some (some (.builtin "object.__class__")))
      (hn : PySem.W.specialIn K (.builtin "object.__class__") "__get__" = some (some (.builtin "getset_descriptor.__get__"))) (htk : PySem.W.takesIn K (.builtin "object.__class__") = some true)
      (hm : PySem.W.mroIn K C (.type "object") = some true) : TyOf K H (.ref a) (.ref C)
theorem isinst_ok {x : V} {u t : Value} (I : Inv X pins σ H s) (rx : RelV x u) (ty : TyOf X.K H x t) (e : PySem.W.kitOne X.K t c = some b) (h : ∀ tk, Q (.bool b) { s with toks := tk }) :
    wpAny (model X.prog X.w) A (call (.builtin "isinstance") [u, c]) Q E s := by
  cases ty with
  | non => cases (show u = Value.none from rx); exact PySem.W.kia_one PySem.W.kitx_none I.kIn True.intro e (fun z => nomatch z) h
  | bl y => cases (show u = Value.bool y from rx); exact PySem.W.kia_one PySem.W.kitx_bool I.kIn True.intro e (fun z => nomatch z) h
  | int i => obtain ⟨t, q⟩ := (show ∃ t, u = Value.int i t from rx); cases q; exact PySem.W.kia_one PySem.W.kitx_int I.kIn True.intro e (fun z => nomatch z) h
  | str y => obtain ⟨t, q⟩ := (show ∃ t, u = Value.str y t from rx); cases q; exact PySem.W.kia_one PySem.W.kitx_str I.kIn True.intro e (fun z => nomatch z) h
  | flt y => obtain ⟨t, q⟩ := (show ∃ t, u = Value.float y t from rx); cases q; exact PySem.W.kia_one PySem.W.kitx_float I.kIn True.intro e (fun z => nomatch z) h
  | @lst a xs ea =>
    cases (show u = Value.ref a from rx)
    obtain ⟨_, _, n, _, h1⟩ := (show ObjOk X.prog X.w H s.heap a (.lst xs) from I.hok a _ ea)
    exact PySem.W.kia_one PySem.W.kitx_list I.kIn ⟨_, h1, rfl⟩ e (fun z => nomatch z) h
  | @frz a ob xs ea =>
    cases (show u = Value.ref a from rx)
    obtain ⟨_, _, _, n, _, h1⟩ := (show ObjOk X.prog X.w H s.heap a (.frz ob (.lst xs)) from I.hok a _ ea)
    exact PySem.W.kia_one PySem.W.kitx_list I.kIn ⟨_, h1, rfl⟩ e (fun z => nomatch z) h
  | @tup a xs ea =>
    cases (show u = Value.ref a from rx)
    obtain ⟨_, _, _, p⟩ := (show ObjOk X.prog X.w H s.heap a (.tup xs) from I.hok a _ ea)
    obtain ⟨o, h1, h2, _⟩ := p
    exact PySem.W.kia_one PySem.W.kitx_tuple I.kIn ⟨o, h1, h2⟩ e (fun z => nomatch z) h
  | @dK a kvs ea =>
    cases (show u = Value.ref a from rx)
    obtain ⟨_, _, vs, _, p⟩ := (show ObjOk X.prog X.w H s.heap a (.dK kvs) from I.hok a _ ea)
    obtain ⟨o, es, ep, h1, h2, _⟩ := p
    exact PySem.W.kia_one PySem.W.kitx_dict I.kIn ⟨o, h1, h2.1⟩ e (fun z => nomatch z) h
  | @dT a kvs ea =>
    cases (show u = Value.ref a from rx)
    obtain ⟨_, _, xs, _, o, es, ep, h1, h2, _⟩ := (show ObjOk X.prog X.w H s.heap a (.dT kvs) from I.hok a _ ea)
    exact PySem.W.kia_one PySem.W.kitx_dict I.kIn ⟨o, h1, h2.1⟩ e (fun z => nomatch z) h
  | @ins a C dx fs ea cl ha hn htk hm =>
    cases (show u = Value.ref a from rx)
    obtain ⟨mA, O, _⟩ := ins_get I.hok ea
    obtain ⟨od, J, _⟩ := O.look
    exact PySem.W.kia_one (PySem.W.kitx_own (cl.get _) cl.hd ha hn htk hm) I.kIn J e (fun z => nomatch z) h
end
end L2
namespace L2
open PySem PySem.Spec PyProof.Rows
structure Room (k : Nat) (A : Around) : Prop where
  hd : A.handled = none
  dp : A.depth + 3 * k + 5 < recursionLimit
  un : A.units + 16 * k + 200 < cLine
theorem Room.mono {j k : Nat} {A : Around} (r : Room k A) (h : j ≤ k) : Room j A := ⟨r.hd, by have := r.dp; omega, by have := r.un; omega⟩
theorem Room.deeper {k : Nat} {A : Around} (r : Room (k + 1) A) (env : Env) : Room k (A.deeper env) :=
  ⟨r.hd, by have := r.dp; show A.depth + 1 + 3 * k + 5 < _; omega, by have := r.un; show A.units + 3 + 16 * k + 200 < _; omega⟩
theorem Room.depth {k : Nat} {A : Around} (r : Room k A) : A.depth < recursionLimit := by have := r.dp; omega
theorem Room.units0 {k : Nat} {A : Around} (r : Room k A) : A.units < cLine := by have := r.un; omega
def tNil : TA := fun _ H Q => Q [] H
def tCons (ta : TE) (tr : TA) : TA := fun σ H Q => ta σ H fun x H1 => tr σ H1 fun xs H2 => Q (x :: xs) H2
section
variable {X : Cx} {e : Expr} {es : List Expr} {te : TE} {t : TA} {pos : Pos}
theorem pa_nil : PA X [] tNil := fun _ _ _ _ H Q I h => Calls.spliced_nil ⟨[], H, I, .nil, h⟩
theorem pa_cons (ha : PE X e te) (hr : PA X es t) (hs : starEach (e :: es) X.env = (false, eval e X.env) :: starEach es X.env := by rfl) : PA X (e :: es) (tCons te t) := by
  intro pos pins s σ H Q I h
  rw [hs]
  show wpAny _ _ (spliced ((false, eval e X.env) :: backTo pos (starEach es X.env))) _ _ s
  refine Calls.spliced_cons (thn (ha pins s σ H _ I h) fun u s1 ⟨x, H1, I1, r1, q1⟩ => ?_)
  exact thn (hr pos pins s1 σ H1 _ I1 q1) fun us s2 ⟨xs, H2, I2, r2, q2⟩ => ⟨x :: xs, H2, I2, .cons r1 r2, q2⟩
def tLst (t : TA) : TE := fun σ H Q => t σ H fun xs H1 => xs.length ≤ sizeLine ∧ ∀ p, H1 p = none → Q (.ref p) (upd H1 p (.lst xs))
theorem pe_lst (h : PA X es t) : PE X (.List es pos) (tLst t) := by
  intro pins s σ H Q I hq
  refine wpAny_List_spliced (thn (h pos pins s σ H _ I hq) fun us s1 ⟨xs, H1, I1, r, z, q⟩ => ⟨by rw [← r.length]; exact z, ?_⟩)
  have hf : H1 s1.heap.objs.size = none := I1.hok.fresh (Nat.le_refl _)
  refine ⟨.ref s1.heap.objs.size, upd H1 s1.heap.objs.size (.lst xs), I1.laid (t' := s1.toks) (fun b u e => Heap.get?_push_of_some _ e) (Nat.le_refl _) ?_, rfl, q _ hf⟩
  exact ⟨z, us, 0, r, Heap.get?_push_size _ rfl⟩
end
abbrev Sp := List V → Hp → VK → XK → Prop
abbrev CXT := List Env → Hp → Shared → XK → Value → Shared → Prop
structure Env0 (P : Program) (w : World) (K : PySem.W.Frag) (mg : Str → Option Value) (base : Heap) (A : Around) (outer : List Env) (s : Shared) (H : Hp) : Prop where
  frames : A.frames = some outer
  mod : Mod K mg base
  bs : ∀ b o, base.get? b = some o → s.heap.get? b = some o ∧ H b = none
  bsz : base.objs.size ≤ s.heap.objs.size
  funs : s.heap.FunFrames base outer
  frf : ∀ b ∈ frs outer, H b = none
  hok : HOk P w H s.heap
  bare : AllBare s.gens
def CE (outer : List Env) (P : Program) (w : World) (H : Hp) (s : Shared) (Q : VK) (u : Value) (s' : Shared) : Prop :=
  ∃ v H', s'.os = s.os ∧ AllBare s'.gens ∧ Un (frs outer) [] H H' s.heap s'.heap ∧ HOk P w H' s'.heap ∧ RelV v u ∧ Q v H'
def CR (CX : CXT) (outer : List Env) (P : Program) (w : World) (H : Hp) (s : Shared) (Q : VK) (E : XK) (r : Result) (s' : Shared) : Prop :=
  match r with
  | .ok (.ret u) => CE outer P w H s Q u s'
  | .ok _ => False
  | .error e => CX outer H s E e s'
structure FnOk (P : Program) (w : World) (K : PySem.W.Frag) (mg : Str → Option Value) (base : Heap) (CX : CXT) (k : Nat) (f : Addr) (fd : FuncData) (ps : List Str) (sp : Sp) : Prop where
  len : ∀ vs H Q E, sp vs H Q E → vs.length = ps.length
  run : ∀ (A : Around) (outer : List Env) (s : Shared) (H : Hp) (args : Args) (us : List Value) (vs : List V) (Q : VK) (E : XK), Room k A → Env0 P w K mg base A outer s H → BindsTo s fd args (ps.zip us) → Vals vs us → sp vs H Q E →
    codeAny (model P w) A (.call (.ref f) args) (CR CX outer P w H s Q E) s
theorem FnOk.imp {P : Program} {w : World} {K : PySem.W.Frag} {mg : Str → Option Value} {base : Heap} {CX : CXT} {k : Nat} {f : Addr} {fd : FuncData} {ps : List Str} {sp sp' : Sp} (F : FnOk P w K mg base CX k f fd ps sp)
    (h : ∀ vs H Q E, sp' vs H Q E → sp vs H Q E) : FnOk P w K mg base CX k f fd ps sp' :=
  ⟨fun vs H Q E q => F.len vs H Q E (h _ _ _ _ q), fun A outer s H args us vs Q E hr he hb hv hs => F.run A outer s H args us vs Q E hr he hb hv (h _ _ _ _ hs)⟩
section
variable {X : Cx} {pins : List (Addr × Obj)} {σ : St} {H : Hp} {s s' : Shared}
theorem Inv.env0 (I : Inv X pins σ H s) : Env0 X.prog X.w X.K X.mg X.base X.A X.stack s H :=
  ⟨I.ok.frames, I.ok.mod, I.bs, Nat.le_trans I.ok.bsz I.sz, I.stack, I.stkFree, I.hok, I.bare⟩
theorem Inv.after {Q : VK} {u : Value} (I : Inv X pins σ H s) (h : CE X.stack X.prog X.w H s Q u s') : EP X pins σ Q u s' := by
  obtain ⟨v, H', os, bare, un, hok, r, q⟩ := h
  obtain ⟨hh, g, d, t, os'⟩ := s'
  obtain rfl : os' = s.os := os
  exact ⟨v, H', I.call (h' := hh) (g' := g) (d' := d) (t' := t) (ch := []) un hok bare (fun b z => absurd z (by simp)), r, q⟩
end
def tCall (sp : Sp) (dvs : List V) (E : XK) (t : TA) : TE := fun σ H Q => t σ H fun vs H1 => sp (vs ++ dvs) H1 Q E
def Binds (K : PySem.W.Frag) (fd : FuncData) (ps : List Str) (ds : List Value) : Prop :=
  ∀ (s : Shared) (us : List Value), K.In s.heap → (us ++ ds).length = ps.length → BindsTo s fd ⟨us, []⟩ (ps.zip (us ++ ds))
theorem Binds.all {K : PySem.W.Frag} {fd : FuncData} {ps : List Str} (h : ∀ us : List Value, us.length = ps.length → bindArgs fd ⟨us, []⟩ = pure (ps.zip us)) : Binds K fd ps [] := fun s us _ hl => by
  rw [List.append_nil] at hl ⊢
  exact .of_eq (h us hl)
def Passes (CX : CXT) (X : Cx) (E : XK) : Prop := ∀ (pins : List (Addr × Obj)) (σ : St) (H : Hp) (s : Shared) (e : Value) (s' : Shared), Inv X pins σ H s → CX X.stack H s E e s' → X.xe e s'
section
variable {X : Cx} {CX : CXT} {k : Nat} {f C : Addr} {fd : FuncData} {ps : List Str} {sp : Sp} {dvs : List V} {ds : List Value} {E : XK} {x m : Str} {p pos apos : Pos} {e o : Expr} {es : List Expr} {ta : TE} {t : TA}
theorem run_fn {pins : List (Addr × Obj)} {σ : St} {H : Hp} {s : Shared} {Q : VK} {us : List Value} {vs : List V} (F : FnOk X.prog X.w X.K X.mg X.base CX k f fd ps sp) (hr : Room k X.A) (hb : Binds X.K fd ps ds) (hd : Vals dvs ds) (hx : Passes CX X E)
    (I : Inv X pins σ H s) (r : Vals vs us) (h : sp (vs ++ dvs) H Q E) : wpAny (model X.prog X.w) X.A (call (.ref f) us) (EP X pins σ Q) X.xe s := by
  have r2 : Vals (vs ++ dvs) (us ++ ds) := r.append hd
  have hl : (us ++ ds).length = ps.length := by rw [← r2.length]; exact F.len _ _ _ _ h
  refine wpAny_call (codeAny_mono (F.run X.A X.stack s H ⟨us, []⟩ (us ++ ds) (vs ++ dvs) Q E hr I.env0 (hb s us I.kIn hl) r2 h) fun r s' hq => ?_)
  cases r with
  | error e => exact hx pins σ H s e s' I hq
  | ok fl =>
    cases fl with
    | ret u => exact I.after hq
    | next => exact False.elim hq
    | brk => exact False.elim hq
    | cont => exact False.elim hq
theorem pe_call (F : FnOk X.prog X.w X.K X.mg X.base CX k f fd ps sp) (hr : Room k X.A) (hg : Gl X x) (hm : X.mg x = some (.ref f)) (hk : PySem.W.keepIn X.K (.ref f) = true) (hb : Binds X.K fd ps ds) (hd : Vals dvs ds) (hx : Passes CX X E)
    (ha : PA X (e :: es) t) (hdb : (x == ("__debug__" : Str)) = false := by decide) (he : starEach (e :: es) X.env = (false, eval e X.env) :: starEach es X.env := by rfl) (hpl : (backTo pos (starEach es X.env)).any (·.1) = false := by rfl) :
    PE X (.Call (.Name x p) (e :: es) [] pos) (tCall sp dvs E t) := by
  intro pins s σ H Q I h
  refine wpAny_Call_Name_kw (ld_glob I hg hm ?_ hdb)
  refine PySem.W.callWith_K (h₀ := X.base) I.ok.mod.kin hk (thn (ha pos pins s σ H _ I h) fun us s1 ⟨vs, H1, I1, r, q⟩ => ⟨I1.kIn, ?_⟩) he hpl
  exact run_fn F hr hb hd hx I1 r q
end
section
variable {X : Cx} {CX : CXT} {k : Nat} {f C : Addr} {fd : FuncData} {ps ks : List Str} {sp : Sp} {E : XK} {x m : Str} {p pos apos kpos : Pos} {e o : Expr} {es : List Expr} {kws : List Keyword} {te ta : TE} {t tk : TA} {nm : Option Str}
variable {g : List Value → List Value → List Value} {gV : List V → List V → List V}
end
structure FnScope (N P : List Str) (sc : Scope) : Prop where
  kind : sc.kind = .function
  co : sc.isCoroutine = false
  gen : sc.isGenerator = false
  nd : N.Nodup
  pre : N.take P.length = P
  par : ∀ x ∈ P, sc.names.lookup x = some .local ∨ sc.names.lookup x = some .cell
  nofree : ∀ y ∈ sc.names, y.2 ≠ .free
theorem bindL_out {kindOf : Str → Option NameKind} {x : Str} : ∀ {binds : List (Str × Value)} {m : Str → Option Value}, (∀ v, (x, v) ∉ binds) → bindL kindOf binds m x = m x
  | [], _, _ => rfl
  | (n, v) :: r, m, h => by
    unfold bindL
    rw [bindL_out fun w hw => h w (List.mem_cons_of_mem _ hw)]
    split
    · have : x ≠ n := by rintro rfl; exact h v List.mem_cons_self
      simp [this]
    · rfl
theorem bindC_out {kindOf : Str → Option NameKind} {x : Str} : ∀ {binds : List (Str × Value)} {m : Str → Option Value}, (∀ v, (x, v) ∉ binds) → bindC kindOf binds m x = m x
  | [], _, _ => rfl
  | (n, v) :: r, m, h => by
    unfold bindC
    rw [bindC_out fun w hw => h w (List.mem_cons_of_mem _ hw)]
    split
    · rfl
    · have : x ≠ n := by rintro rfl; exact h v List.mem_cons_self
      simp [this]
theorem bindL_get {kindOf : Str → Option NameKind} {x : Str} {v : Value} : ∀ {P : List Str} {vs : List Value} {i : Nat} {m : Str → Option Value}, P.Nodup → P[i]? = some x → vs[i]? = some v → kindOf x = some .local →
    bindL kindOf (P.zip vs) m x = some v
  | [], _, _, _, _, h, _, _ => by simp at h
  | _ :: _, [], _, _, _, _, h, _ => by simp at h
  | p :: P, w :: vs, 0, m, nd, h1, h2, hk => by
    simp at h1 h2; subst h1; subst h2
    show bindL kindOf ((p, w) :: P.zip vs) m p = _
    unfold bindL
    rw [bindL_out fun v hv => (List.nodup_cons.mp nd).1 (List.of_mem_zip hv).1, if_pos hk]
    simp
  | p :: P, w :: vs, i + 1, m, nd, h1, h2, hk => by
    show bindL kindOf ((p, w) :: P.zip vs) m x = _
    unfold bindL
    exact bindL_get (i := i) (List.nodup_cons.mp nd).2 (by simpa using h1) (by simpa using h2) hk
theorem bindC_get {kindOf : Str → Option NameKind} {x : Str} {v : Value} : ∀ {P : List Str} {vs : List Value} {i : Nat} {m : Str → Option Value}, P.Nodup → P[i]? = some x → vs[i]? = some v → kindOf x ≠ some .local →
    bindC kindOf (P.zip vs) m x = some v
  | [], _, _, _, _, h, _, _ => by simp at h
  | _ :: _, [], _, _, _, _, h, _ => by simp at h
  | p :: P, w :: vs, 0, m, nd, h1, h2, hk => by
    simp at h1 h2; subst h1; subst h2
    show bindC kindOf ((p, w) :: P.zip vs) m p = _
    unfold bindC
    rw [bindC_out fun v hv => (List.nodup_cons.mp nd).1 (List.of_mem_zip hv).1, if_neg hk]
    simp
  | p :: P, w :: vs, i + 1, m, nd, h1, h2, hk => by
    show bindC kindOf ((p, w) :: P.zip vs) m x = _
    unfold bindC
    exact bindC_get (i := i) (List.nodup_cons.mp nd).2 (by simpa using h1) (by simpa using h2) hk
def start (N : List Str) (vs : List V) : St := vs.map some ++ List.replicate (N.length - vs.length) none
def cxOf (CX : CXT) (P : Program) (w : World) (K : PySem.W.Frag) (mg : Str → Option Value) (base : Heap) (N : List Str) (qual : Str) (scope : Scope) (f : Addr) (cd : Value) (A : Around) (outer : List Env) (s : Shared) (H : Hp) (E : XK) : Cx where
  prog := P
  w := w
  K := K
  mg := mg
  base := base
  A := A.deeper (envOfC qual scope s.heap.objs.size f cd)
  N := N
  s₀ := s
  H₀ := H
  env := envOfC qual scope s.heap.objs.size f cd
  outer := outer
  stack := envOfC qual scope s.heap.objs.size f cd :: outer
  ex := []
  calm := true
  fn := fun _ => true
  pn := []
  xe := fun e s' => wpAny (model P w) (A.deeper (envOfC qual scope s.heap.objs.size f cd)) (leaving (envOfC qual scope s.heap.objs.size f cd) e) (fun _ s'' => CX outer H s E e s'') (fun e' s'' => CX outer H s E e' s'') s'
theorem cell_has {sc : Scope} {n : Nat} {x : Str} (h : sc.names.lookup x = some .cell) : ∃ c, (cellsFrom n sc.names []).lookup x = some c := by
  have q := PySem.W.cellsFrom_some sc.names n [] (.inl h)
  exact Option.isSome_iff_exists.mp q
theorem inv_start {CX : CXT} {P : Program} {w : World} {K : PySem.W.Frag} {mg : Str → Option Value} {base : Heap} {N ps : List Str} {qual : Str} {scope : Scope} {f : Addr} {cd : Value} {A : Around} {outer : List Env} {s s1 : Shared} {H : Hp} {E : XK} {us : List Value} {vs : List V}
    (S : FnScope N ps scope) (hd : A.handled = none) (e0 : Env0 P w K mg base A outer s H) (hl : vs.length = ps.length) (r : Vals vs us)
    (x : InCallC s s.heap.objs.size (bindL (envOfC qual scope s.heap.objs.size f cd).kindOf (ps.zip us) fun _ => none) (cellsFrom (s.heap.objs.size + 1) scope.names []) (bindC (envOfC qual scope s.heap.objs.size f cd).kindOf (ps.zip us) fun _ => none) s1) :
    Inv (cxOf CX P w K mg base N qual scope f cd A outer s H E) [] (start N vs) H s1 := by
  have hpl : ps.length ≤ N.length := by have := congrArg List.length S.pre; rw [List.length_take] at this; omega
  obtain ⟨h1, tk, rfl, hk⟩ := x.done
  have noA : ∀ b : Addr, b ∉ (cxOf CX P w K mg base N qual scope f cd A outer s H E).ex := fun b z => absurd (show b ∈ ([] : List Addr) from z) (by simp)
  refine ⟨⟨e0.mod, S.kind, rfl, rfl, Nat.le_refl _, fun y z c h1 h2 => ?_, fun y hy => ?_, fun y c _ h => ?_, fun _ => hd, Around.frames_deeper e0.frames, .inr ⟨rfl, rfl⟩, fun b z => absurd z (noA b), e0.bs, e0.bsz, fun b _ _ => noA b, fun b z => absurd z (noA b), e0.funs, e0.frf⟩,
    rfl, e0.bare, Un.kept hk, ⟨_, x.toInCall.ns, fun i y v h1 h2 h3 => ?_⟩, fun y c h => ⟨_, x.cell y c h⟩, e0.hok.fresh (Nat.le_refl _), fun y c h => ?_, fun p hp => absurd (show p ∈ ([] : List (Addr × Obj)) from hp) (by simp), e0.hok.kept hk, ?_⟩
  · exact name_of_addr x.apart (PySem.mem_of_lookup h1) (PySem.mem_of_lookup h2)
  · have hy : scope.names.lookup y = some .cell ∨ scope.names.lookup y = some .free := hy
    rcases hy with hy | hy
    · exact cell_has hy
    · exact absurd rfl (S.nofree _ (PySem.mem_of_lookup hy))
  · exact Nat.le_of_lt (x.above y c (PySem.mem_of_lookup h))
  · have hi : i < vs.length := by
      unfold start at h2
      by_cases hi : i < vs.length
      · exact hi
      · rw [List.getElem?_append_right (by simpa using hi)] at h2
        rw [List.getElem?_replicate] at h2
        split at h2 <;> cases h2
    have ha : vs[i]? = some v := by
      unfold start at h2
      rw [List.getElem?_append_left (by simpa using hi), List.getElem?_map] at h2
      cases e : vs[i]? with
      | none => rw [e] at h2; cases h2
      | some a => rw [e] at h2; cases h2; rfl
    obtain ⟨u, hu, rv⟩ := r.get ha
    have hp : ps[i]? = some y := by
      rw [← S.pre, List.getElem?_take_of_lt (by omega)]; exact h1
    have ndP : ps.Nodup := by rw [← S.pre]; exact S.nd.sublist (List.take_sublist _ _)
    refine ⟨u, rv, ?_⟩
    rcases S.par y (List.mem_of_getElem? hp) with k | k
    · exact .inl ⟨k, bindL_get ndP hp hu k⟩
    · obtain ⟨c, e⟩ := cell_has (n := s.heap.objs.size + 1) k
      refine .inr ⟨.inl k, c, e, ?_⟩
      have q := x.cell y c e
      rw [bindC_get ndP hp hu (by show scope.names.lookup y ≠ _; rw [k]; decide)] at q
      exact q
  · exact e0.hok.fresh (Nat.le_of_lt (x.above y c (PySem.mem_of_lookup h)))
  · unfold start
    show _ = N.length
    rw [List.length_append, List.length_map, List.length_replicate]
    omega
theorem fn_of {CX : CXT} {P : Program} {w : World} {K : PySem.W.Frag} {mg : Str → Option Value} {base : Heap} {k : Nat} {f : Addr} {name qual : Str} {params : Arguments} {body : List Stmt} {scope : Scope} {dV kV doc pm cdv ct oc : Value} {an od : Option Addr}
    {osl : Array (Option Value)} {N ps : List Str} {sp : Sp} (lk : K.lookup f = some ⟨oc, od, .func (PySem.W.fnOf name qual params body scope dV kV doc pm an cdv ct), osl⟩) (hcd : PySem.W.codeIn K cdv qual = true) (S : FnScope N ps scope)
    (len : ∀ vs H Q E, sp vs H Q E → vs.length = ps.length)
    (hbody : ∀ (A : Around) (outer : List Env) (s : Shared) (H : Hp) (vs : List V) (Q : VK) (E : XK), Room k (A.deeper (envOfC qual scope s.heap.objs.size f cdv)) → sp vs H Q E →
      ∃ t, PSs (cxOf CX P w K mg base N qual scope f cdv A outer s H E) body t ∧ t { nx := fun _ H' => Q .non H', rt := Q } (start N vs) H) :
    FnOk P w K mg base CX (k + 1) f (PySem.W.fnOf name qual params body scope dV kV doc pm an cdv ct) ps sp := by
  refine ⟨len, fun A outer s H args us vs Q E hr e0 hb r hsp => ?_⟩
  have hl := len _ _ _ _ hsp
  have KX : K.In s.heap := e0.mod.kin.keeps fun b o e => (e0.bs b o e).1
  have lim : s.heap.NoLimit := e0.mod.nolimit.keeps fun b o e => (e0.bs b o e).1
  have hkind : ∀ y ∈ ps.zip us, scope.names.lookup y.1 = some .local ∨ (scope.names.lookup y.1 = some .cell ∧ ((cellsFrom (s.heap.objs.size + 1) scope.names []).lookup y.1).isSome = true) := fun ⟨n, v⟩ hy => by
    rcases S.par n (List.of_mem_zip hy).1 with q | q
    · exact .inl q
    · exact .inr ⟨q, PySem.W.cellsFrom_some _ _ _ (.inl q)⟩
  refine codeAny_call_function hr.depth (KX _ _ lk) rfl S.co S.gen rfl (PySem.W.codeRec_of KX hcd) (hb _ _ _ _ ?_)
  refine wpAny_newFunctionEnv_cells S.kind hkind fun env he s1 x => ?_
  subst he
  refine ⟨lim.keeps x.toInCall.keep, codeAny_func ?_⟩
  obtain ⟨t, ht, hq⟩ := hbody A outer s H vs Q E (hr.deeper _) hsp
  have I : Inv (cxOf CX P w K mg base N qual scope f cdv A outer s H E) [] (start N vs) H s1 := inv_start S hr.hd e0 hl r x
  refine wpAny_mono (ht [] s1 (start N vs) H _ I hq) (fun fl s' hs => ?_) fun e s' hs => hs
  have fin : ∀ {σ' : St} {H' : Hp} {v : V} {u : Value}, Inv (cxOf CX P w K mg base N qual scope f cdv A outer s H E) [] σ' H' s' → RelV v u → Q v H' → CE outer P w H s Q u s' :=
    fun {σ' H' v u} J rv q => ⟨v, H', J.os, J.bare, J.base, J.hok, rv, q⟩
  cases fl with
  | ret u =>
    obtain ⟨v, σ', H', J, rv, q⟩ := hs
    exact fin J rv q
  | next =>
    obtain ⟨σ', H', J, q⟩ := hs
    exact fin (v := V.non) (u := Value.none) J rfl q
  | brk =>
    obtain ⟨_, _, _, q⟩ := hs
    exact False.elim q
  | cont =>
    obtain ⟨_, _, _, q⟩ := hs
    exact False.elim q
end L2
namespace L2
open PySem PySem.Spec PyProof.Rows
section
variable {X : Cx} {x : Str} {p pos : Pos} {e : Expr} {es : List Expr} {t : TA} {id T : String} {r : List V → Hp → VK → Prop}
def tCB (r : List V → Hp → VK → Prop) (t : TA) : TE := fun σ H Q => t σ H fun vs H1 => r vs H1 Q
theorem pe_callB (hc : CallR X (.builtin id) r) (hg : Gl X x) (hm : X.mg x = none) (hv : bootBuiltins x = some (.builtin id)) (ha : PA X (e :: es) t) (hn : x ≠ "__name__" := by decide) (hdb : (x == ("__debug__" : Str)) = false := by decide)
    (he : starEach (e :: es) X.env = (false, eval e X.env) :: starEach es X.env := by rfl) (hpl : (backTo pos (starEach es X.env)).any (·.1) = false := by rfl) : PE X (.Call (.Name x p) (e :: es) [] pos) (tCB r t) := by
  intro pins s σ H Q I h
  refine wpAny_Call_Name_kw (ld_blt I hg hm hv ?_ hn hdb)
  exact PyProof.Rows.callWith_builtin1 (thn (ha pos pins s σ H _ I h) fun us s1 ⟨vs, H1, I1, r1, q1⟩ => hc pins s1 σ H1 vs us Q I1 r1 q1) he hpl
theorem pe_callTy (hc : CallR X (.type T) r) (hg : Gl X x) (hm : X.mg x = none) (hv : bootBuiltins x = some (.type T)) (ha : PA X (e :: es) t) (hn : x ≠ "__name__" := by decide) (hdb : (x == ("__debug__" : Str)) = false := by decide)
    (he : starEach (e :: es) X.env = (false, eval e X.env) :: starEach es X.env := by rfl) (hpl : (backTo pos (starEach es X.env)).any (·.1) = false := by rfl) : PE X (.Call (.Name x p) (e :: es) [] pos) (tCB r t) := by
  intro pins s σ H Q I h
  refine wpAny_Call_Name_kw (ld_blt I hg hm hv ?_ hn hdb)
  exact PyProof.Rows.callWith_type1 (thn (ha pos pins s σ H _ I h) fun us s1 ⟨vs, H1, I1, r1, q1⟩ => hc pins s1 σ H1 vs us Q I1 r1 q1) he hpl
end
end L2
namespace HT
open PySem PyProof.Rows
theorem rcLt_int (A : Around) (s : Shared) (a : Int) (t : Tok) (c : Int) (u : Tok) (prog : Program) (w : World) (E : Value → Shared → Prop) (Q : Value → Shared → Prop) (h : Q (.bool (decide (a < c))) s) :
    wpAny (model prog w) A (richCompare .Lt (.int a t) (.int c u)) Q E s :=
  (PyProof.Rows.lt_int h : wpAny (model prog w) A (compareOp .Lt (.int a t) (.int c u)) Q E s)
section
open PySem.SeqAt
open PySem.AutoSeq1 (wpAny_loadPart')
open PySem.MeetsSeq PySem.MeetsSeq2 PySem.MeetsSeq3
end
section
variable {prog : Program} {w : World} {A : Around} {E : Value → Shared → Prop} {s : Shared}
theorem cat_tup {t b : Addr} {vs ws : List Value} {Q : Value → Shared → Prop} (ht : IsTup s.heap t vs.toArray) (hb : IsTup s.heap b ws.toArray) (hv : vs ≠ [])
    (h1 : ws = [] → Q (.ref t) s) (h2 : ws ≠ [] → Q (.ref s.heap.objs.size) { s with heap := s.heap.push { cls := .type "tuple", data := .seq (vs ++ ws).toArray } })
    (hsz : vs.length + ws.length ≤ sizeLine) : wpAny (model prog w) A (binaryOp .Add (.ref t) (.ref b)) Q E s := by
  obtain ⟨⟨cls, dd, data, sl⟩, ho, hc, n, hd⟩ := id ht
  obtain ⟨⟨cls2, dd2, data2, sl2⟩, ho2, hc2, n2, hd2⟩ := id hb
  simp only at hc hd hc2 hd2
  subst hc hd hc2 hd2
  have e : vs.toArray ++ ws.toArray = (vs ++ ws).toArray := by simp
  by_cases hw : ws = []
  · exact concat_meets ⟨_, ho, rfl⟩ ⟨_, ho2, rfl⟩ noFill_tuple_add seq_tuple_add PySem.F.slot_tuple_add PySem.F.entry_tuple_add (PySem.F.args_tuple_add_2 _ _)
      (tuple_addW1 t b vs.toArray ws.toArray n n2 dd dd2 sl sl2 (by simpa using hv) (by simp [hw])) ⟨ho, ho2, h1 hw⟩
  · refine concat_meets ⟨_, ho, rfl⟩ ⟨_, ho2, rfl⟩ noFill_tuple_add seq_tuple_add PySem.F.slot_tuple_add PySem.F.entry_tuple_add (PySem.F.args_tuple_add_2 _ _)
      (tuple_addW2 t b vs.toArray ws.toArray n n2 dd dd2 sl sl2 (by simpa using hv) (by simpa using hw) (by rw [List.size_toArray, List.size_toArray]; exact hsz)) ⟨ho, ho2, ?_⟩
    rw [e]
    exact h2 hw
end
end HT
namespace L2
open PySem PySem.Spec PyProof.Rows
abbrev TO := St → Hp → (Option Int → Hp → Prop) → Prop
theorem intsAre_of {ns : List Int} : ∀ {us : List Value}, Vals (ns.map V.int) us → IntsAre us ns := by
  induction ns with
  | nil => intro us r; rw [List.map_nil] at r; cases r; exact .nil
  | cons n ns ih =>
    intro us r
    rw [List.map_cons] at r
    cases r with
    | cons r1 r2 =>
      obtain ⟨t, e⟩ := r1
      subst e
      exact .cons n t (ih r2)
section
variable {X : Cx} {e : Expr} {te : TE} {lo hi : Option Expr} {tl th : TO} {pos p2 : Pos}
def rCatT (K : PySem.W.Frag) : R2 := fun x y H Q => ∃ a b xs ys, x = .ref a ∧ y = .ref b ∧ SqT K H a xs ∧ SqT K H b ys ∧ xs ≠ [] ∧ xs.length + ys.length ≤ sizeLine ∧
  (ys = [] → Q (.ref a) H) ∧ (ys ≠ [] → ∀ p, H p = none → Q (.ref p) (upd H p (.tup (xs ++ ys))))
theorem Vals.nil_iff {xs : List V} {us : List Value} (r : Vals xs us) : us = [] ↔ xs = [] := by
  cases r with
  | nil => simp
  | cons _ _ => simp
theorem op_catT : OpR X (binaryOp .Add) (rCatT X.K) := by
  intro pins s σ H x y v u Q I rx ry h
  obtain ⟨a, b, xs, ys, rfl, rfl, ha, hb, hx, hz, q1, q2⟩ := h
  cases rx
  cases ry
  obtain ⟨its, r1, p1, _⟩ := I.tuple ha
  obtain ⟨its2, r2, p2, _⟩ := I.tuple hb
  refine HT.cat_tup p1 p2 (fun z => hx (r1.nil_iff.mp z)) (fun z => ⟨.ref a, H, I, rfl, q1 (r2.nil_iff.mp z)⟩) (fun z => ?_) (by rw [← r1.length, ← r2.length]; exact hz)
  refine ⟨.ref s.heap.objs.size, _, I.laid (t' := s.toks) (o := .tup (xs ++ ys)) (fun b ob q => Heap.get?_push_of_some _ q) (Nat.le_refl _) ?_, rfl, q2 (fun w => z (r2.nil_iff.mpr w)) _ (I.hok.fresh (Nat.le_refl _))⟩
  exact ⟨by rw [List.length_append]; exact hz, _, r1.append r2, TupN.new _ _⟩
end
end L2
namespace L2
open PySem PySem.Spec PyProof.Rows
def ixN (n : Nat) (i : Int) : Option Nat := if 0 ≤ i then (if i < n then some i.toNat else none) else if -(n : Int) ≤ i then some (i + n).toNat else none
def atI {α : Type} (xs : List α) (i : Int) : Option α := (ixN xs.length i).bind fun j => xs[j]?
theorem ixN_seq {n : Nat} {i : Int} {j : Nat} (h : ixN n i = some j) : seqIndex? i n = some j ∧ j < n ∧ -(n : Int) ≤ i ∧ i < n := by
  unfold ixN at h
  by_cases h0 : 0 ≤ i
  · rw [if_pos h0] at h
    by_cases h1 : i < n
    · rw [if_pos h1] at h
      have e : i.toNat = j := Option.some.inj h
      exact ⟨by rw [seqIndex_of h0 h1, e], by omega, by omega, h1⟩
    · rw [if_neg h1] at h; cases h
  · rw [if_neg h0] at h
    by_cases h1 : -(n : Int) ≤ i
    · rw [if_pos h1] at h
      have e : (i + n).toNat = j := Option.some.inj h
      exact ⟨by rw [seqIndex_neg (by omega) h1, e], by omega, h1, by omega⟩
    · rw [if_neg h1] at h; cases h
theorem atI_get {α : Type} {xs : List α} {i : Int} {v : α} (h : atI xs i = some v) : ∃ j, seqIndex? i xs.length = some j ∧ xs[j]? = some v ∧ j < xs.length ∧ -(xs.length : Int) ≤ i ∧ i < xs.length := by
  unfold atI at h
  cases e : ixN xs.length i with
  | none => rw [e] at h; cases h
  | some j =>
    rw [e] at h
    obtain ⟨h1, h2, h3, h4⟩ := ixN_seq e
    exact ⟨j, h1, h, h2, h3, h4⟩
theorem atI_nat {α : Type} {xs : List α} {j : Nat} {v : α} (h : xs[j]? = some v) : atI xs (j : Int) = some v := by
  have hj : j < xs.length := (List.getElem?_eq_some_iff.mp h).1
  have e : ixN xs.length (j : Int) = some j := by
    unfold ixN
    rw [if_pos (by omega), if_pos (by omega)]; simp
  unfold atI; rw [e]; exact h
def PlainIx (b : Expr) : Prop := ∀ o i, subscripted b false o i = operate [o, i] (getItem o i)
def IxR (X : Cx) (r : R2) : Prop :=
  ∀ (value slice : Expr) (pins : List (Addr × Obj)) (s : Shared) (σ : St) (H : Hp) (x y : V) (v u : Value) (Q : VK), Inv X pins σ H s → RelV x v → RelV y u → r x y H Q →
    subscripted slice false v u = operate [v, u] (getItem v u) → wpAny (model X.prog X.w) X.A (subscriptTail value slice v u) (EP X pins σ Q) X.xe s
def MtR (X : Cx) (id : String) (r : V → List V → Hp → VK → Prop) : Prop :=
  ∀ (pins : List (Addr × Obj)) (s : Shared) (σ : St) (H : Hp) (x : V) (xs : List V) (v : Value) (us : List Value) (Q : VK), Inv X pins σ H s → RelV x v → Vals xs us → r x xs H Q →
    wpAny (model X.prog X.w) X.A (call (.builtin id) (v :: us)) (EP X pins σ Q) X.xe s
section
variable {X : Cx} {a b : Expr} {ta tb : TE} {pos : Pos}
theorem pe_ix {r : R2} (hr : IxR X r) (ha : PE X a ta) (hb : PE X b tb) (hs : PlainIx b) : PE X (.Subscript a b pos) (tOp r ta tb) := by
  intro pins s σ H Q I h
  exact Subscript_ (binT ha hb I h fun v u s2 x y H2 I2 rx ry q => hr a b pins s2 σ H2 x y v u Q I2 rx ry q (hs _ _))
def rIxL (K : PySem.W.Frag) : R2 := fun x y H Q => ∃ p xs i v, x = .ref p ∧ y = .int i ∧ SqL K H p xs ∧ atI xs i = some v ∧ Q v H
def rIxT (K : PySem.W.Frag) : R2 := fun x y H Q => ∃ p xs i v, x = .ref p ∧ y = .int i ∧ SqT K H p xs ∧ atI xs i = some v ∧ Q v H
theorem ix_list : IxR X (rIxL X.K) := by
  intro value slice pins s σ H x y v u Q I rx ry h hs
  obtain ⟨p, xs, i, z, rfl, rfl, hq, he, q⟩ := h
  cases rx
  obtain ⟨t, rfl⟩ := ry
  obtain ⟨its, r, pl, hz⟩ := I.list hq
  obtain ⟨j, h1, h2, h3, h4, h5⟩ := atI_get he
  obtain ⟨w, ew, rw'⟩ := r.get h2
  have hl := r.length
  have hn := line63
  have fin : EP X pins σ Q w s := ⟨z, H, I, rw', q⟩
  by_cases h0 : 0 ≤ i
  · have hj : i.toNat = j := by
      rw [seqIndex_of h0 h5] at h1
      exact Option.some.inj h1
    exact item_listR pl.isList h0 (by omega) (by rw [hj]; simpa using ew) fin hs
  · have hj : (i + (its.toArray.size : Int)).toNat = j := by
      rw [seqIndex_neg (by omega) h4] at h1
      rw [List.size_toArray, ← hl]
      exact Option.some.inj h1
    exact subscriptTail_builtinR (x := w) pl.isList.typeIs slot_list_getitem.lookup
      (wpAny_getItem_list_neg (Q := fun r s' => r = w ∧ EP X pins σ Q r s') pl.isList (by omega) (by rw [List.size_toArray] <;> omega) (by omega) (by rw [hj]; simpa using ew) ⟨rfl, fin⟩) hs
theorem ix_tup : IxR X (rIxT X.K) := by
  intro value slice pins s σ H x y v u Q I rx ry h hs
  obtain ⟨p, xs, i, z, rfl, rfl, hq, he, q⟩ := h
  cases rx
  obtain ⟨t, rfl⟩ := ry
  obtain ⟨its, r, pl, hz⟩ := I.tuple hq
  obtain ⟨j, h1, h2, h3, h4, h5⟩ := atI_get he
  obtain ⟨w, ew, rw'⟩ := r.get h2
  have hl := r.length
  have hn := line63
  have fin : EP X pins σ Q w s := ⟨z, H, I, rw', q⟩
  exact subscriptTail_builtinR (x := w) pl.typeIs slot_tuple_getitem.lookup
    (getItem_tuple (j := j) (Q := fun r s' => r = w ∧ EP X pins σ Q r s') pl (by omega) (by omega) (by rw [List.size_toArray, ← hl]; exact h1) (by simpa using ew) ⟨rfl, fin⟩) hs
theorem mapSeq_set (its : List Value) (n j : Nat) (u : Value) : Obj.mapSeq (·.setIfInBounds j u) { cls := .type "list", data := .seq its.toArray n } = { cls := .type "list", data := .seq (its.set j u).toArray n } := by
  simp [Obj.mapSeq]
theorem Inv.lst {pins : List (Addr × Obj)} {σ : St} {H : Hp} {s : Shared} {p : Addr} {xs : List V} (I : Inv X pins σ H s) (h : H p = some (.lst xs)) :
    ∃ (its : List Value) (n : Nat), Vals xs its ∧ s.heap.get? p = some { cls := .type "list", data := .seq its.toArray n } ∧ xs.length ≤ sizeLine := by
  obtain ⟨z, its, n, r, e⟩ := I.hok p _ h
  exact ⟨its, n, r, e, z⟩
theorem Inv.lstUpd {pins : List (Addr × Obj)} {σ : St} {H : Hp} {s : Shared} {p : Addr} {xs ys : List V} {its its' : List Value} {n n' : Nat} {f : Obj → Obj} (I : Inv X pins σ H s) (h : H p = some (.lst xs))
    (ho : s.heap.get? p = some { cls := .type "list", data := .seq its.toArray n }) (hf : f { cls := .type "list", data := .seq its.toArray n } = { cls := .type "list", data := .seq its'.toArray n' }) (r : Vals ys its') (hz : ys.length ≤ sizeLine) (t : Nat) :
    Inv X pins σ (upd H p (.lst ys)) { s with heap := s.heap.update p f, toks := t } := by
  have e : (s.heap.update p f).get? p = some { cls := .type "list", data := .seq its'.toArray n' } := by
    rw [Heap.get?_update_self f ho (by rw [hf] <;> rfl), hf]
  refine I.write (x := p) (e := p) (by rw [h]; trivial) (.inl rfl) (fun b u hb q => (Heap.get?_update_other _ _ (Ne.symm hb)).trans q) ⟨_, e⟩ ?_
  exact ⟨hz, its', n', r, e⟩
def rSetL : V → V → V → Hp → (Hp → Prop) → Prop := fun o i v H Q => ∃ p xs k j, o = .ref p ∧ i = .int k ∧ H p = some (.lst xs) ∧ ixN xs.length k = some j ∧ Q (upd H p (.lst (xs.set j v)))
theorem set_list : PSet X rSetL := by
  intro pins s σ H o i v ov iv u Q I ro ri rv h
  obtain ⟨p, xs, k, j, rfl, rfl, hp, hj, q⟩ := h
  cases ro
  obtain ⟨t, rfl⟩ := ri
  obtain ⟨its, n, r, ho, hz⟩ := I.lst hp
  obtain ⟨h1, h2, h3, h4⟩ := ixN_seq hj
  have hl := r.length
  have hn := line63
  have I' : Inv X pins σ (upd H p (.lst (xs.set j v))) { s with heap := s.heap.update p (Obj.mapSeq (·.setIfInBounds j u)) } :=
    I.lstUpd hp ho (mapSeq_set its n j u) (r.set rv j) (by rw [List.length_set]; exact hz) s.toks
  by_cases h0 : 0 ≤ k
  · have hk : k.toNat = j := by
      rw [seqIndex_of h0 h4] at h1
      exact Option.some.inj h1
    exact PySem.W.ki_setAt ho h0 (by omega) (by rw [List.size_toArray, ← hl]; exact h4) (by rw [hk]; exact ⟨_, I', q⟩)
  · have hk : (k + (its.toArray.size : Int)).toNat = j := by
      rw [seqIndex_neg (by omega) h3] at h1
      rw [List.size_toArray, ← hl]
      exact Option.some.inj h1
    exact PySem.W.ki_setBack ho (by omega) (by rw [List.size_toArray, ← hl]; exact h3) (by omega) (by rw [hk]; exact ⟨_, I', q⟩)
theorem call_len_seq : CallR X (.builtin "len") (fun xs H Q => ∃ p ys, xs = [.ref p] ∧ (SqL X.K H p ys ∨ SqT X.K H p ys) ∧ Q (.int ys.length) H) := by
  intro pins s σ H xs us Q I r h
  obtain ⟨p, ys, rfl, hq, q⟩ := h
  obtain ⟨u, rfl, rx⟩ := vals1 r
  cases rx
  have hn := line63
  rcases hq with hq | hq
  · obtain ⟨its, r', pl, hz⟩ := I.list hq
    have hlen := r'.length
    exact Calls.call_len_list pl.isList (by simp only [List.size_toArray] <;> omega) ⟨.int ys.length, H, I.tok _, ⟨s.toks + 1, by rw [List.size_toArray, hlen]⟩, q⟩
  · obtain ⟨its, r', pl, hz⟩ := I.tuple hq
    have hlen := r'.length
    exact len_tuple pl (by simp only [List.size_toArray] <;> omega) ⟨.int ys.length, H, I.tok _, ⟨s.toks + 1, by rw [List.size_toArray, hlen]⟩, q⟩
theorem call_tuple_of : CallR X (.type "tuple") (fun xs H Q => ∃ p ys, xs = [.ref p] ∧ ((SqL X.K H p ys ∧ ∀ l, H l = none → Q (.ref l) (upd H l (.tup ys))) ∨ (SqT X.K H p ys ∧ Q (.ref p) H))) := by
  intro pins s σ H xs us Q I r h
  obtain ⟨p, ys, rfl, h⟩ := h
  obtain ⟨u, rfl, rx⟩ := vals1 r
  cases rx
  rcases h with ⟨hq, q⟩ | ⟨hq, q⟩
  · obtain ⟨its, r', pl, hz⟩ := I.list hq
    have hlen := r'.length
    refine call_tuple_list pl.isList (fun h' kp => ?_) (by simp only [List.size_toArray] <;> omega)
    have I1 : Inv X pins σ H { s with heap := h' } := I.kept (t' := s.toks) kp
    have I2 : Inv X pins σ (upd H h'.objs.size (.tup ys)) { s with heap := h'.push { cls := .type "tuple", data := .seq its.toArray } } :=
      I1.laid (t' := s.toks) (fun b o e => Heap.get?_push_of_some _ e) (Nat.le_refl _) (show ObjOk X.prog X.w _ _ _ (.tup ys) from ⟨hz, its, r', TupN.new _ _⟩)
    exact ⟨.ref h'.objs.size, _, I2, rfl, q _ (I1.hok.fresh (Nat.le_refl _))⟩
  · obtain ⟨its, r', pl, hz⟩ := I.tuple hq
    exact call_tuple_same pl ⟨.ref p, H, I, rfl, q⟩
def tyV (K : PySem.W.Frag) (T : String) (x : V) (H : Hp) : Prop := match x with
  | .str _ => T = "str"
  | .int _ => T = "int"
  | .ref p => (T = "list" ∧ ∃ xs, SqL K H p xs) ∨ (T = "tuple" ∧ ∃ o, K.lookup p = some o ∧ o.cls = .type "tuple" ∧ o.dict = none) ∨
      (T = "dict" ∧ ((∃ kvs, H p = some (.dK kvs)) ∨ ∃ kvs, H p = some (.dT kvs))) ∨ (T = "set" ∧ ∃ S n, H p = some (.set S n))
  | _ => False
theorem tyV_is {pins : List (Addr × Obj)} {σ : St} {H : Hp} {s : Shared} {T : String} {x : V} {v : Value} (I : Inv X pins σ H s) (r : RelV x v) (ty : tyV X.K T x H) :
    s.TypeIs v T ∧ ∀ a, v = .ref a → ∃ ob, s.heap.get? a = some ob ∧ ob.dict = none := by
  cases x with
  | str z =>
    obtain ⟨t, rfl⟩ := r
    cases (show T = "str" from ty)
    exact ⟨typeIs_str s z t, fun _ e => nomatch e⟩
  | int i =>
    obtain ⟨t, rfl⟩ := r
    cases (show T = "int" from ty)
    exact ⟨typeIs_int s i t, fun _ e => nomatch e⟩
  | ref p =>
    cases r
    rcases ty with ⟨rfl, xs, hq⟩ | ⟨rfl, o, hk, hc, hd⟩ | ⟨rfl, hk⟩ | ⟨rfl, S, n, hk⟩
    · obtain ⟨its, _, pl, _⟩ := I.list hq
      refine ⟨pl.isList.typeIs, fun a e => ?_⟩
      cases e
      obtain ⟨o, n, e, c, hd, _⟩ := pl
      exact ⟨o, e, hd⟩
    · refine ⟨⟨o, I.kIn p o hk, hc⟩, fun a e => ?_⟩
      cases e
      exact ⟨o, I.kIn _ o hk, hd⟩
    · have z : ∃ o, s.heap.get? p = some o ∧ o.ExactDict := by
        rcases hk with ⟨kvs, hk⟩ | ⟨kvs, hk⟩
        · obtain ⟨_, _, _, _, o, _, _, e, ex, _⟩ := I.hok p _ hk
          exact ⟨o, e, ex⟩
        · obtain ⟨_, _, _, _, o, _, _, e, ex, _⟩ := I.hok p _ hk
          exact ⟨o, e, ex⟩
      obtain ⟨o, e, ex⟩ := z
      refine ⟨⟨o, e, ex.1⟩, fun a e2 => ?_⟩
      cases e2
      exact ⟨o, e, ex.2.1⟩
    · obtain ⟨o, _, _, _, e, ex, _⟩ := I.hok p _ hk
      refine ⟨⟨o, e, ex.1⟩, fun a e2 => ?_⟩
      cases e2
      exact ⟨o, e, ex.2.1⟩
  | _ => exact False.elim ty
def tBM (K : PySem.W.Frag) (T : String) (r : V → List V → Hp → VK → Prop) (to : TE) (t : TA) : TE := fun σ H Q => to σ H fun x H1 => tyV K T x H1 ∧ t σ H1 fun xs H2 => r x xs H2 Q
variable {o e : Expr} {es : List Expr} {to : TE} {t : TA} {name : Str} {apos cpos : Pos} {T id : String} {r : V → List V → Hp → VK → Prop}
theorem pe_bm (pa : PlainAttrs T) (slot : Slot T name id) (hty : typeOf (.builtin id) = pure (.type "method_descriptor")) (hm : MtR X id r) (ho : PE X o to) (ha : PA X (e :: es) t)
    (hbase : attributeBase o name X.env (eval o X.env) = eval o X.env := by rfl)
    (hfew : ((backTo cpos (starEach (e :: es) X.env)).all (fun x => !x.1) && (backToKw cpos (keywordEach [] X.env)).all (fun x => x.1.isSome)
      && decide ((e :: es).length + ([] : List Keyword).length + (if ([] : List Keyword).isEmpty then 0 else 1) < 30)) = true := by rfl)
    (hline : (apos.endLine == cpos.line) = true := by rfl) (hs : starEach (e :: es) X.env = (false, eval e X.env) :: starEach es X.env := by rfl) (hplain : (backTo cpos (starEach es X.env)).any (·.1) = false := by rfl) :
    PE X (.Call (.Attribute o name apos) (e :: es) [] cpos) (tBM X.K T r to t) := by
  intro pins s σ H Q I h
  refine wpAny_Call_method_late hbase hfew hline rfl (thn (ho pins s σ H _ I h) fun v s1 ⟨x, H1, I1, r1, ty, q1⟩ => ?_)
  obtain ⟨h1, h2⟩ := tyV_is I1 r1 ty
  refine ⟨T, id, pa, slot, hty, h1, h2, ?_⟩
  have hA := ha cpos pins s1 σ H1 _ I1 q1
  rw [hs] at hA ⊢
  refine Calls.callWith_builtin (by show (false || (backTo cpos (starEach es X.env)).any (·.1)) = false; rw [hplain] <;> rfl) (Calls.evalArgs_plain ?_)
  exact thn hA fun us s2 ⟨vs, H2, I2, r2, q2⟩ => hm pins s2 σ H2 x vs v us Q I2 r1 r2 q2
end
end L2
namespace L2
open PySem PySem.Spec PyProof.Rows
def MtM (X : Cx) (id : String) (r : V → List V → Hp → VK → Prop) : Prop :=
  ∀ (pins : List (Addr × Obj)) (s : Shared) (σ : St) (H : Hp) (x : V) (xs : List V) (v : Value) (us : List Value) (Q : VK), Inv X pins σ H s → RelV x v → Vals xs us → r x xs H Q →
    wpAny (model X.prog X.w) X.A (call (.builtin id) (v :: us)) (EP X pins σ Q) X.xe s
theorem Vals.one : ∀ {x : V} {us : List Value}, Vals [x] us → ∃ u, us = [u] ∧ RelV x u
  | _, _, .cons r .nil => ⟨_, rfl, r⟩
theorem Vals.zero : ∀ {us : List Value}, Vals [] us → us = []
  | _, .nil => rfl
theorem Vals.reverse {xs : List V} {us : List Value} (h : Vals xs us) : Vals xs.reverse us.reverse := by
  induction h with
  | nil => exact .nil
  | cons r t ih => rw [List.reverse_cons, List.reverse_cons]; exact Vals.append ih (.cons r .nil)
theorem Vals.rep {xs : List V} {us : List Value} (h : Vals xs us) : ∀ k : Nat, Vals (List.replicate k xs).flatten (List.replicate k us).flatten
  | 0 => .nil
  | k + 1 => by
    rw [List.replicate_succ, List.replicate_succ, List.flatten_cons, List.flatten_cons]
    exact Vals.append h (Vals.rep h k)
theorem foldl_rep (its : List Value) : ∀ (k : Nat) (acc : List Value),
    List.foldl (fun x1 x2 => x1 ++ x2) acc.toArray (List.replicate k its.toArray) = (acc ++ (List.replicate k its).flatten).toArray
  | 0, acc => by simp
  | k + 1, acc => by
    have e : acc.toArray ++ its.toArray = (acc ++ its).toArray := by simp
    have e2 : (acc ++ its) ++ (List.replicate k its).flatten = acc ++ (List.replicate (k + 1) its).flatten := by
      rw [List.replicate_succ, List.flatten_cons, List.append_assoc]
    rw [← e2, ← foldl_rep its k (acc ++ its), ← e, List.replicate_succ, List.foldl_cons]
section
variable {X : Cx} {pins : List (Addr × Obj)} {σ : St} {H : Hp} {s : Shared} {l b : Addr} {xs ys zs : List V}
theorem Inv.lset {its its' : List Value} {n : Nat} {f : Array Value → Array Value} {t' : Nat} (I : Inv X pins σ H s) (hH : H l = some (.lst xs))
    (e : s.heap.get? l = some { cls := .type "list", data := .seq its.toArray n }) (hf : f its.toArray = its'.toArray) (hv : Vals ys its') (hz : ys.length ≤ sizeLine) :
    Inv X pins σ (upd H l (.lst ys)) { s with heap := s.heap.update l (Obj.mapSeq f), toks := t' } := by
  have q := PySem.IsL.update e f
  rw [hf] at q
  refine I.write (x := l) (e := l) (by rw [hH]; exact trivial) (.inl rfl) (fun b' u hb hu => (Heap.get?_update_other s.heap (Obj.mapSeq f) (Ne.symm hb)).trans hu) ⟨_, q⟩ ?_
  exact ⟨hz, its', _, hv, q⟩
theorem Inv.lnew {its : List Value} {t' : Nat} (I : Inv X pins σ H s) (hv : Vals ys its) (hz : ys.length ≤ sizeLine) :
    Inv X pins σ (upd H s.heap.objs.size (.lst ys)) { s with heap := s.heap.push { cls := .type "list", data := .seq its.toArray }, toks := t' } :=
  I.laid (fun _ _ q => Heap.get?_push_of_some _ q) (Nat.le_refl _) ⟨hz, its, 0, hv, Heap.get?_push_size _ rfl⟩
theorem Inv.fresh (I : Inv X pins σ H s) : H s.heap.objs.size = none := I.hok.fresh (Nat.le_refl _)
theorem Inv.lstM (I : Inv X pins σ H s) (hH : H l = some (.lst xs)) : xs.length ≤ sizeLine ∧ ∃ (its : List Value) (n : Nat), Vals xs its ∧ xs.length = its.length ∧ s.heap.get? l = some { cls := .type "list", data := .seq its.toArray n } := by
  obtain ⟨z, its, n, r, e⟩ := I.hok l _ hH
  exact ⟨z, its, n, r, r.length, e⟩
theorem notLongL {n : Nat} (h : n ≤ sizeLine) : Builtin.List.listTooLong n = false := by
  unfold Builtin.List.listTooLong
  exact decide_eq_false (by omega)
end
section
variable {X : Cx}
def rAppend : V → List V → Hp → VK → Prop := fun x vs H Q => ∃ l xs y, x = .ref l ∧ vs = [y] ∧ H l = some (.lst xs) ∧ xs.length < sizeLine ∧ Q .non (upd H l (.lst (xs ++ [y])))
theorem mt_append : MtM X "list.append" rAppend := by
  intro pins s σ H x vs v us Q I rx rv h
  obtain ⟨l, xs, y, rfl, rfl, hH, hz, q⟩ := h
  cases rx
  obtain ⟨u, rfl, ru⟩ := rv.one
  obtain ⟨z, its, n, r, hl, e⟩ := I.lstM hH
  refine call_meets F.slot_list_append ⟨_, e, rfl⟩ F.entry_list_append (F.args_list_append_2 _ _) (PySem.list_append l its.toArray n u (by rw [List.size_toArray]; omega)) ⟨e, ?_⟩
  refine ⟨.non, _, I.lset (its' := its ++ [u]) hH e (by simp) (r.append (.cons ru .nil)) ?_, rfl, q⟩
  rw [List.length_append, List.length_singleton]
  omega
def rExtend : V → List V → Hp → VK → Prop := fun x vs H Q => ∃ l b xs zs, x = .ref l ∧ vs = [.ref b] ∧ H l = some (.lst xs) ∧ H b = some (.lst zs) ∧ xs.length + zs.length ≤ sizeLine ∧ Q .non (upd H l (.lst (xs ++ zs)))
theorem mt_extend : MtM X "list.extend" rExtend := by
  intro pins s σ H x vs v us Q I rx rv h
  obtain ⟨l, b, xs, zs, rfl, rfl, hH, hB, hz, q⟩ := h
  cases rx
  obtain ⟨u, rfl, ru⟩ := rv.one
  cases ru
  obtain ⟨z, its, n, r, hl, e⟩ := I.lstM hH
  obtain ⟨z2, its2, n2, r2, hl2, e2⟩ := I.lstM hB
  have hsz : its.toArray.size + its2.toArray.size ≤ sizeLine := by rw [List.size_toArray, List.size_toArray]; omega
  have hlong : ¬ (!its.toArray.isEmpty && Builtin.List.listTooLong (its.toArray.size + its2.toArray.size)) = true := by
    rw [notLongL hsz, Bool.and_false]
    exact Bool.false_ne_true
  refine call_meets F.slot_list_extend ⟨_, e, rfl⟩ F.entry_list_extend (F.args_list_extend_2 _ _)
    (AutoSeq1.list_extend_list_list_0 l its.toArray n b its2.toArray n2 hlong (by rw [List.size_toArray]; omega) (by omega)) ⟨e, e2, ?_⟩
  refine ⟨.non, _, I.lset (its' := its ++ its2) hH e (by simp) (r.append r2) ?_, rfl, q⟩
  rw [List.length_append]
  omega
def rCat : R2 := fun x y H Q => ∃ l b xs zs, x = .ref l ∧ y = .ref b ∧ H l = some (.lst xs) ∧ H b = some (.lst zs) ∧ xs.length + zs.length ≤ sizeLine ∧ ∀ p, H p = none → Q (.ref p) (upd H p (.lst (xs ++ zs)))
theorem op_cat : OpR X (binaryOp .Add) rCat := by
  intro pins s σ H x y v u Q I rx ry h
  obtain ⟨l, b, xs, zs, rfl, rfl, hH, hB, hz, q⟩ := h
  cases rx
  cases ry
  obtain ⟨z, its, n, r, hl, e⟩ := I.lstM hH
  obtain ⟨z2, its2, n2, r2, hl2, e2⟩ := I.lstM hB
  refine PySem.P.add_list e e2 ?_ (by rw [List.size_toArray, List.size_toArray]; omega)
  have ea : its.toArray ++ its2.toArray = (its ++ its2).toArray := by simp
  rw [ea]
  exact ⟨.ref _, _, I.lnew (t' := s.toks) (r.append r2) (by rw [List.length_append]; omega), rfl, q _ I.fresh⟩
def rRep : R2 := fun x y H Q => ∃ l k xs, x = .ref l ∧ y = .int k ∧ H l = some (.lst xs) ∧ -(2 ^ 63) ≤ k ∧ k < 2 ^ 63 ∧ xs.length * k.toNat ≤ sizeLine ∧
  ∀ p, H p = none → Q (.ref p) (upd H p (.lst (List.replicate k.toNat xs).flatten))
theorem len_rep {α : Type} (xs : List α) (k : Nat) : (List.replicate k xs).flatten.length = k * xs.length := by
  induction k with
  | zero => simp
  | succ k ih => rw [List.replicate_succ, List.flatten_cons, List.length_append, ih, Nat.succ_mul, Nat.add_comm]
theorem op_rep : OpR X (binaryOp .Mult) rRep := by
  intro pins s σ H x y v u Q I rx ry h
  obtain ⟨l, k, xs, rfl, rfl, hH, h1, h2, hz, q⟩ := h
  cases rx
  obtain ⟨t, rfl⟩ := ry
  obtain ⟨z, its, n, r, hl, e⟩ := I.lstM hH
  have hlen : its.toArray.size * k.toNat ≤ sizeLine := by rw [List.size_toArray, ← hl]; exact hz
  have hcap : ¬ its.toArray.size * k.toNat > (2 ^ 63 - 1) / 8 := by
    have : (sizeLine : Nat) ≤ (2 ^ 63 - 1) / 8 := by decide
    omega
  have hfit : ¬ (!Builtin.List.listFitsIndex k) = true := by
    rw [fitsIndex_both h1 h2]
    exact Bool.false_ne_true
  have hlong : ¬ Builtin.List.listTooLong (its.toArray.size * k.toNat) = true := by
    rw [notLongL hlen]
    exact Bool.false_ne_true
  have hnew : List.foldl (fun x1 x2 => x1 ++ x2) #[] (List.replicate (if its.toArray.isEmpty = true then 0 else k.toNat) its.toArray) = (List.replicate k.toNat its).flatten.toArray := by
    have f0 : ∀ m : Nat, List.foldl (fun x1 x2 => x1 ++ x2) #[] (List.replicate m its.toArray) = (List.replicate m its).flatten.toArray := fun m => by
      have := foldl_rep its m []
      rw [List.nil_append] at this
      exact this
    rw [f0]
    cases its with
    | nil => simp
    | cons a r' => rw [if_neg (by simp)]
  refine wpAny_binaryOp_repeat_ref (T := "list") (U := "int") (by decide) ⟨_, e, rfl⟩ (fun s' => typeIs_int s' k t) noFill_list_mul F.fills_int_mul F.slot_int_rmul repeat_list F.slot_int_index.lookup
    (call_meets F.slot_int_rmul (typeIs_int s k t) F.entry_int_rmul (F.args_int_rmul_2 _ _) (int___rmul___int_list k t l its.toArray n)
      ⟨e, rfl, ⟨_, e, rfl⟩, call_meets F.slot_list_mul ⟨_, e, rfl⟩ F.entry_list_mul (F.args_list_mul_2 _ _) (AutoListH.list___mul___list_int_3 l its.toArray n k t hfit hcap hlong) ⟨e, ?_⟩⟩)
  rw [hnew]
  exact ⟨.ref _, _, I.lnew (t' := s.toks) (r.rep k.toNat) (by rw [len_rep, Nat.mul_comm]; exact hz), rfl, q _ I.fresh⟩
end
section
variable {prog : Program} {w : World} {A : Around} {E : Value → Shared → Prop} {s : Shared}
end
section
variable {X : Cx}
end
end L2
namespace Att
open PySem PySem.W PySem.Calls PyProof.Rows
theorem ints_of_wellAll {P : Params} {h : Heap} : ∀ (ns : List Int) (vs : List Value), WellAll P h vs (ns.map WData.int) → IntsAre vs ns := by
  intro ns
  induction ns with
  | nil =>
    intro vs w
    rw [List.map_nil] at w
    cases w
    exact .nil
  | cons n ns ih =>
    intro vs w
    rw [List.map_cons] at w
    cases w with
    | cons a b =>
      cases a
      exact .cons _ _ (ih _ b)
theorem script_of {l : OpenLaw} {n : Nat} (hn : l.most = some n) {P : Params} {h : Heap} {args : List WData} {vals : List Value}
    (hpre : l.row.toRowW.claim.pre args = true) (hwl : WellAll P h vals args) :
    ∃ a vs ns, vals = [Value.ref a] ∧ args = [WData.list (ns.map WData.int)] ∧ h.get? a = some { cls := .type "list", data := .seq vs.toArray } ∧ IntsAre vs ns ∧ ns.length ≤ n := by
  have hsh : WShape.hasAll [] args [.list .int] = true := (pre_splitW hpre).1
  have hc : l.pre.holds [] { args := args } = true := (pre_splitW hpre).2
  obtain ⟨d, r, rfl, h1, h2⟩ := hasAllW_cons hsh
  obtain rfl := hasAllW_nil h2
  obtain ⟨xs, rfl, h3⟩ := hasW_list h1
  obtain ⟨ns, rfl⟩ := items_int h3
  have hlen : ns.length ≤ n := by
    unfold OpenLaw.pre at hc
    have h4 : (WTm.not (.lt (.lit (.int (n : Int))) (.len (.arg 0)))).holds [] { args := [.list (ns.map .int)] } = true := by
      have h4 := (holds_andW hc).1
      rw [hn] at h4
      exact h4
    have h5 := condW_of h4 (w_not (w_lt w_lit (w_len_list (w_arg rfl))))
    rw [List.length_map] at h5
    refine Nat.le_of_not_lt fun q => ?_
    have q' : (n : Int) < ((ns.length : Nat) : Int) := by omega
    first
      | (rw [decide_eq_true q'] at h5; exact absurd h5 (by decide))
      | (simp at h5; omega)
  cases hwl with
  | cons w1 w2 =>
    cases w2
    cases w1 with
    | list ho hall => exact ⟨_, _, ns, rfl, rfl, ho, ints_of_wellAll ns _ hall, hlen⟩
theorem post_true (l : OpenLaw) (args : List WData) : l.row.toRowW.claim.post args (.bool true) args = true :=
  postW_of (r := l.row.toRowW) (X := (true == true))
    (show WShape.has [] (.bool true) .bool = true by first | rfl | decide | simp [WShape.has, WShape.arms, WShape.armsAll])
    (show (WTm.eq .res (.lit (.bool true))).value [] { args := args, res := some (.bool true), after := args } = some (.bool (true == true)) from w_eq_bool (w_res rfl) w_lit) rfl
theorem attach_call {l : OpenLaw} {n : Nat} {q : Program} {loose : List Str} {XP : (Str → Option Value) → Heap → Prop} {YP : World → Heap → Prop} {d : DefRec}
    (hn : l.most = some n) (hdf : d.params.defaults = [])
    (call : ∀ (w : World) (s₀ s₁ : Shared) (mg mb : Str → Option Value) (fa : Addr) (o : Obj) (pm cd doc : Value) (a : Addr) (vs : List Value) (ns : List Int),
      Ground q loose [] XP w s₀ mg mb s₁.heap → YP w s₁.heap →
      s₁.heap.get? fa = some o → o.data = .func (docDef d.name d.params d.body d.scope pm cd doc) → s₁.heap.CodeRec cd d.name → mg d.name = some (.ref fa) →
      s₁.heap.get? a = some { cls := .type "list", data := .seq vs.toArray } → IntsAre vs ns → ns.length ≤ n → s₁.gens = #[] →
      codeAny (model l.prog w) callerA (.call (.ref fa) ⟨[.ref a], []⟩) (fun r s' => r = .ok (.ret (.bool true)) ∧ OldK s₁.heap s'.heap ∧ s'.os = s₁.os ∧ AllBare s'.gens) s₁) :
    WalkO q loose XP YP l.row.toRowW d [] (fun f vs => PySem.call f vs) := by
  intro w s₀ s₁ mg mb G Y fa o pm cd doc dV kV ho hd hcd hD hmg hg args vals as hpre hlay hrd hwl hlo
  obtain rfl : dV = .none := Dflts.none hD hdf
  obtain rfl : kV = .none := Dflts.noKw hD
  obtain ⟨a, vs, ns, rfl, rfl, hobj, hints, hlen⟩ := script_of hn hpre hwl
  refine enter_call (codeAny_mono (call w s₀ s₁ mg mb fa o pm cd doc a vs ns G Y ho (fd_plain hd) hcd hmg hobj hints hlen hg) fun r s' hq => ?_)
  obtain ⟨rfl, h2, h3, h4⟩ := hq
  exact ⟨.inl ⟨.bool true, .bool true, [], rfl, fun _ => rfl, .bool true, post_true l _, fun _ => ⟨List.Pairwise.nil, fun _ hm => (nomatch hm)⟩⟩, h2, h3, h4⟩
section
variable {prog : Program} {w : World} {A : Around} {E : Value → Shared → Prop} {s : Shared} {K : Frag}
end
end Att
namespace L2
open PySem PySem.Spec PyProof.Rows
theorem vals_ints : ∀ {vs : List Value} {ns : List Int}, IntsAre vs ns → Vals (ns.map V.int) vs
  | _, _, .nil => .nil
  | _, _, .cons n t h => .cons ⟨t, rfl⟩ (vals_ints h)
def Only (H : Hp) : Prop := ∀ b, H b = none ∨ ∃ o xs, H b = some (.frz o (.lst xs))
theorem law_call {P : Program} {w : World} {K : PySem.W.Frag} {mg mb : Str → Option Value} {CX : CXT} {k : Nat} {fa a : Addr} {fd : FuncData} {x : Str} {sp : Sp} {s₁ : Shared} {vs : List Value} {ns : List Int}
    (KX : K.In s₁.heap) (hns : s₁.heap.Ns mainGlobals mg) (hb : s₁.heap.Ns builtinsNs mb) (hbb : ∀ x : Str, x ≠ "__name__" → mb x = bootBuiltins x) (hlim : s₁.heap.NoLimit) (hg : s₁.gens = #[])
    (ha : s₁.heap.get? a = some { cls := .type "list", data := .seq vs.toArray }) (hi : IntsAre vs ns) (hl : ns.length ≤ sizeLine) (hr : Room k callerA)
    (F : ∀ base : Heap, K.In base → base.Ns mainGlobals mg → FnOk P w K mg base CX k fa fd [x] sp) (hbind : ∀ (s : Shared) (u : Value), BindsTo s fd ⟨[u], []⟩ [(x, u)])
    (hsp : ∀ H : Hp, Only H → SqL K H a (ns.map V.int) → sp [.ref a] H (fun v _ => v = .bl true) fun _ _ _ => False)
    (hCX : ∀ H e s', CX [] H s₁ (fun _ _ _ => False) e s' → False) :
    codeAny (model P w) callerA (.call (.ref fa) ⟨[.ref a], []⟩) (fun r s' => r = .ok (.ret (.bool true)) ∧ OldK s₁.heap s'.heap ∧ s'.os = s₁.os ∧ AllBare s'.gens) s₁ := by
  have rv := vals_ints hi
  have lenV := hi.length
  have core : ∀ H : Hp, Only H → SqL K H a (ns.map V.int) → HOk P w H s₁.heap → (∀ b, H b ≠ none → b = a) → (H a ≠ none → K.lookup a = none) →
      codeAny (model P w) callerA (.call (.ref fa) ⟨[.ref a], []⟩) (fun r s' => r = .ok (.ret (.bool true)) ∧ OldK s₁.heap s'.heap ∧ s'.os = s₁.os ∧ AllBare s'.gens) s₁ := by
    intro H hO hS hok hA hK
    have base_of : ∀ {b : Addr} {o : Obj}, s₁.heap.get? b = some o → H b = none → (hidT s₁.heap H).get? b = some o := fun e n => hidT_get e n
    have noA : ∀ {b : Addr} {o : Obj} {es : Array DictEntry} {ep : Nat}, s₁.heap.get? b = some o → o.data = .dict es ep → H b = none := fun {b o es ep} e d => by
      cases q : H b with
      | none => rfl
      | some u =>
        have e' : b = a := hA b (by rw [q]; simp)
        subst e'
        rw [ha] at e; cases e
        have d' : Data.seq vs.toArray _ = Data.dict es ep := d
        cases d'
    have nsK : ∀ {b : Addr} {m : Str → Option Value}, s₁.heap.Ns b m → (hidT s₁.heap H).Ns b m := fun {b m} ⟨o, es, ep, e, d, r⟩ => ⟨o, es, ep, base_of e (noA e d), d, r⟩
    have hKb : K.In (hidT s₁.heap H) := fun b o e => base_of (KX b o e) (by
      cases q : H b with
      | none => rfl
      | some u =>
        have e' : b = a := hA b (by rw [q]; simp)
        subst e'
        rw [hK (by rw [q]; simp)] at e; cases e)
    have hM : Mod K mg (hidT s₁.heap H) := ⟨hKb, nsK hns, ⟨mb, nsK hb, hbb⟩, let ⟨mc, h1, h2⟩ := hlim; ⟨mc, nsK h1, h2⟩⟩
    have e0 : Env0 P w K mg (hidT s₁.heap H) callerA [] s₁ H := ⟨rfl, hM, fun b o e => of_hidT e, Nat.le_of_eq (hidT_size _ _), trivial, fun b hb => absurd (show b ∈ ([] : List Addr) from hb) (by simp), hok, .of_eq hg⟩
    refine codeAny_mono ((F _ hKb (nsK hns)).run callerA [] s₁ H ⟨[.ref a], []⟩ [.ref a] [.ref a] _ _ hr e0 (hbind s₁ (.ref a)) (.cons rfl .nil) (hsp H hO hS)) fun r s' h => ?_
    cases r with
    | error e => exact (hCX H e s' h).elim
    | ok fl =>
      cases fl with
      | next => exact False.elim h
      | brk => exact False.elim h
      | cont => exact False.elim h
      | ret u =>
        obtain ⟨v, H', os, bare, un, hok', r', q⟩ := h
        have q' : v = .bl true := q
        subst q'
        obtain rfl : u = Value.bool true := r'
        refine ⟨rfl, OldK.of_keep fun b o e => ?_, os, bare⟩
        cases q : H b with
        | none => exact un.keep b o e q (by intro z; exact absurd (show b ∈ ([] : List Addr) from z) (by simp)) (by simp)
        | some u =>
          rcases hO b with z | ⟨ob, xs, z⟩
          · rw [q] at z; cases z
          · have z2 := un.frzs b ob _ z
            obtain ⟨e1, _⟩ := hok b _ z
            obtain ⟨e2, _⟩ := hok' b _ z2
            rw [e] at e1; cases e1
            exact e2
  cases hk : K.lookup a with
  | some o =>
    have e := KX a o hk
    rw [ha] at e
    cases e
    refine core (fun _ => none) (fun _ => .inl rfl) (.inr ⟨_, vs.toArray, _, hk, rfl, rfl, rfl, by rw [List.size_toArray, lenV]; exact hl, by simpa using rv⟩) (fun b u z => by have z' : (none : Option HO) = some u := z; cases z') (fun b z => absurd rfl z) fun z => absurd rfl z
  | none =>
    refine core (fun b => if b = a then some (.frz { cls := .type "list", data := .seq vs.toArray } (.lst (ns.map V.int))) else none) (fun b => ?_) (.inl (.inr ⟨{ cls := .type "list", data := .seq vs.toArray }, if_pos rfl⟩)) (fun b u z => ?_) (fun b z => ?_) fun _ => hk
    · by_cases hb : b = a
      · exact .inr ⟨_, _, if_pos hb⟩
      · exact .inl (if_neg hb)
    · by_cases hb : b = a
      · have z' := (if_pos hb).symm.trans z
        cases z'
        subst hb
        exact ⟨ha, by rw [List.length_map]; exact hl, vs, _, rv, ha⟩
      · have z' := (if_neg hb).symm.trans z
        cases z'
    · by_cases hb : b = a
      · exact hb
      · exact absurd (if_neg hb) z
end L2
namespace L2
open PySem PySem.Spec PyProof.Rows
theorem walk_of {l : PySem.W.OpenLaw} {n k : Nat} {q : Program} {loose : List Str} {XP : (Str → Option Value) → Heap → Prop} {YP : World → Heap → Prop} {d : DefRec} {K : Params → PySem.W.Frag} {CX : World → CXT} {sp : World → Sp} {x : Str}
    (hn : l.most = some n) (hn2 : n ≤ sizeLine) (hdf : d.params.defaults = []) (hr : Room k callerA)
    (hY : ∀ (w : World) (h : Heap), YP w h → (K w.params).In h)
    (F : ∀ (w : World) (mg : Str → Option Value) (fa : Addr) (h : Heap), (K w.params).In h → h.Ns mainGlobals mg → mg d.name = some (.ref fa) →
      ∃ fd : FuncData, (∀ (s : Shared) (u : Value), BindsTo s fd ⟨[u], []⟩ [(x, u)]) ∧
        ∀ base : Heap, (K w.params).In base → base.Ns mainGlobals mg → FnOk l.prog w (K w.params) mg base (CX w) k fa fd [x] (sp w))
    (hsp : ∀ (w : World) (H : Hp) (a : Addr) (ns : List Int), ns.length ≤ n → Only H → SqL (K w.params) H a (ns.map V.int) → sp w [.ref a] H (fun v _ => v = .bl true) fun _ _ _ => False)
    (hCX : ∀ (w : World) (H : Hp) (s : Shared) (e : Value) (s' : Shared), CX w [] H s (fun _ _ _ => False) e s' → False) :
    PySem.W.WalkO q loose XP YP l.row.toRowW d [] (fun f vs => PySem.call f vs) := by
  refine Att.attach_call hn hdf fun w s₀ s₁ mg mb fa o pm cd doc a vs ns G Y ho hd hcd hmg hobj hints hlen hg => ?_
  have KX := hY w _ Y
  obtain ⟨fd, hb, hF⟩ := F w mg fa _ KX G.T.g hmg
  exact law_call KX G.T.g G.T.b G.T.builtins G.T.nolimit hg hobj hints (Nat.le_trans hlen hn2) hr hF hb (fun H hO hS => hsp w H a ns hlen hO hS) fun H e s' => hCX w H s₁ e s'
end L2
namespace L2
open PySem PySem.Spec PyProof.Rows
def defArgs (s : Stmt) : Arguments := match s with
  | .FunctionDef _ a _ _ _ _ _ _ _ _ => a
  | _ => { posonlyargs := [], args := [], vararg := none, kwonlyargs := [], kw_defaults := [], kwarg := none, defaults := [] }
def defBody (s : Stmt) : List Stmt := match s with
  | .FunctionDef _ _ b _ _ _ _ _ _ _ => b
  | _ => []
def defScope (s : Stmt) : Scope := match s with
  | .FunctionDef _ _ _ _ _ _ sc _ _ _ => sc
  | _ => { kind := .function, names := [], isGenerator := false, isCoroutine := false }
abbrev CX0 : CXT := fun _ _ _ _ _ _ => False
abbrev E0 : XK := fun _ _ _ => False
theorem pass0 {X : Cx} : Passes CX0 X E0 := fun _ _ _ _ _ _ _ h => h.elim
structure Fun (K : PySem.W.Frag) (x qual : Str) (st : Stmt) (f : Addr) (fd : FuncData) : Prop where
  ex : ∃ (oc : Value) (od : Option Addr) (kV doc pm : Value) (an : Option Addr) (cdv ct : Value) (osl : Array (Option Value)),
    fd = PySem.W.fnOf x qual (defArgs st) (defBody st) (defScope st) .none kV doc pm an cdv ct ∧ K.lookup f = some ⟨oc, od, .func fd, osl⟩ ∧ PySem.W.codeIn K cdv qual = true
  kp : PySem.W.keepIn K (.ref f) = true
section
variable {P : Program} {w : World} {K : PySem.W.Frag} {mg : Str → Option Value} {base : Heap}
theorem Fun.ok {x qual : Str} {st : Stmt} {f : Addr} {fd : FuncData} {N ps : List Str} {k : Nat} {sp : Sp} (F : Fun K x qual st f fd) (S : FnScope N ps (defScope st)) (len : ∀ vs H Q E, sp vs H Q E → vs.length = ps.length)
    (hbody : ∀ (cdv : Value) (A : Around) (outer : List Env) (s : Shared) (H : Hp) (vs : List V) (Q : VK) (E : XK), Room k (A.deeper (envOfC qual (defScope st) s.heap.objs.size f cdv)) → sp vs H Q E →
      ∃ t, PSs (cxOf CX0 P w K mg base N qual (defScope st) f cdv A outer s H E).nox (defBody st) t ∧ t { nx := fun _ H' => Q .non H', rt := Q } (start N vs) H) : FnOk P w K mg base CX0 (k + 1) f fd ps sp := by
  obtain ⟨oc, od, kV, doc, pm, an, cdv, ct, osl, rfl, lk, hcd⟩ := F.ex
  refine fn_of lk hcd S len fun A outer s H vs Q E hr hsp => ?_
  obtain ⟨t, h, q⟩ := hbody cdv A outer s H vs Q E hr hsp
  exact ⟨t, h.nox, q⟩
theorem Fun.binds {x qual : Str} {st : Stmt} {f : Addr} {fd : FuncData} {ps : List Str} (F : Fun K x qual st f fd)
    (h : ∀ (kV doc pm : Value) (an : Option Addr) (cdv ct : Value) (us : List Value), us.length = ps.length → bindArgs (PySem.W.fnOf x qual (defArgs st) (defBody st) (defScope st) .none kV doc pm an cdv ct) ⟨us, []⟩ = pure (ps.zip us)) : Binds K fd ps [] := by
  obtain ⟨oc, od, kV, doc, pm, an, cdv, ct, osl, rfl, lk, hcd⟩ := F.ex
  exact .all (h kV doc pm an cdv ct)
theorem fun_mk {x qual : Str} {st : Stmt} {f : Addr} {oc : Value} {od an : Option Addr} {osl : Array (Option Value)} {kV doc pm cdv ct : Value} (l : K.lookup f = some ⟨oc, od, .func (PySem.W.fnOf x qual (defArgs st) (defBody st) (defScope st) .none kV doc pm an cdv ct), osl⟩)
    (c : PySem.W.codeIn K cdv qual = true) (k : PySem.W.keepIn K (.ref f) = true) : Fun K x qual st f (PySem.W.fnOf x qual (defArgs st) (defBody st) (defScope st) .none kV doc pm an cdv ct) := ⟨⟨oc, od, kV, doc, pm, an, cdv, ct, osl, rfl, l, c⟩, k⟩
end
section
variable {X : Cx}
theorem pv (i : Nat) {x : Str} {pos : Pos} (hN : X.N[i]? = some x := by rfl) (hv : Vis X.env.scope x := by first | exact Or.inl rfl | exact Or.inr (Or.inl rfl) | exact Or.inr (Or.inr rfl)) (hd : (x == ("__debug__" : Str)) = false := by decide)
    (hcd : (x == ("__classdict__" : Str)) = false := by decide) : PE X (.Name x pos) (tVar i) := pe_var hN hv hd hcd
end
theorem iteF {A B : Prop} (h : B) : if false = true then A else B := by
  rw [if_neg Bool.false_ne_true]
  exact h
theorem iteT {A B : Prop} (h : A) : if true = true then A else B := by
  rw [if_pos rfl]
  exact h
theorem ite2 {c A B : Prop} [Decidable c] (h1 : c → A) (h2 : ¬ c → B) : if c then A else B := by
  by_cases h : c
  · rw [if_pos h]
    exact h1 h
  · rw [if_neg h]
    exact h2 h
theorem iteNS {c A B : Prop} [Decidable c] (hc : c) (h : B) : if (!decide c) = true then A else B := by
  rw [decide_eq_true hc]
  exact iteF h
def Same (H H' : Hp) : Prop := ∀ b o, H b = some o → H' b = some o
theorem Same.refl (H : Hp) : Same H H := fun _ _ h => h
theorem Same.trans {H H1 H2 : Hp} (a : Same H H1) (b : Same H1 H2) : Same H H2 := fun c o h => b c o (a c o h)
theorem Same.free {H H' : Hp} (e : Same H H') {l : Addr} (h : H' l = Option.none) : H l = Option.none := by
  cases q : H l with
  | none => rfl
  | some o =>
    rw [e l o q] at h
    cases h
theorem Same.seq {K : PySem.W.Frag} {H H' : Hp} {a : Addr} {xs : List V} (e : Same H H') (h : SqL K H a xs) : SqL K H' a xs := by
  rcases h with (h | ⟨o, h⟩) | h
  · exact .inl (.inl (e _ _ h))
  · exact .inl (.inr ⟨o, e _ _ h⟩)
  · exact .inr h
end L2
set_option maxHeartbeats 4000000
namespace Rt
open PySem PyProof.Rows
abbrev le (c : Keyed → Keyed → Bool) (x y : Keyed) : Prop := c y x = false
section
variable {c : Keyed → Keyed → Bool}
end
def kx (xs : Array Keyed) (i : Nat) : Keyed := (xs[i]?).getD (Value.none, Value.none)
structure SB (κ : SortKind) (a₀ : Array Keyed) (st : SortSt) : Prop where
  perm : (arrOf st).Perm a₀
  kind : kindOf st = κ
  failed : failedOf st = none
theorem SB.size {κ : SortKind} {a₀ : Array Keyed} {st : SortSt} (h : SB κ a₀ st) : (arrOf st).size = a₀.size := h.perm.size_eq
section
variable {prog : Program} {w : World} {A : Around} {E : Value → Shared → Prop} {s : Shared} {a₀ : Array Keyed} {κ : SortKind} {c : Keyed → Keyed → Bool}
end
end Rt
namespace Rt
open PySem PyProof.Rows
section
variable {c : Keyed → Keyed → Bool}
variable {a b r : Array Keyed} {i j k : Nat}
end
structure Sm (st st' : SortSt) : Prop where
  kind : kindOf st' = kindOf st
  arr : arrOf st' = arrOf st
  pend : pendingOf st' = pendingOf st
  failed : failedOf st' = failedOf st
section
variable {prog : Program} {w : World} {A : Around} {E : Value → Shared → Prop} {s : Shared} {a₀ : Array Keyed} {κ : SortKind} {c : Keyed → Keyed → Bool}
end
end Rt
namespace Rt
open PySem PyProof.Rows
section
variable {c : Keyed → Keyed → Bool}
theorem ext_take (xs : Array Keyed) (i : Nat) : (xs.extract 0 i).toList = xs.toList.take i := by
  rw [Array.toList_extract, List.extract_eq_take_drop, Nat.sub_zero, List.drop_zero]
variable {a b r : Array Keyed} {i j t : Nat}
theorem out_list (x y r : Array Keyed) (i j : Nat) : (x.extract 0 i ++ y.extract 0 j ++ r.reverse).toList = (x.toList.take i ++ y.toList.take j) ++ r.toList.reverse := by
  rw [Array.toList_append, Array.toList_append, ext_take, ext_take, Array.toList_reverse]
end
section
variable {prog : Program} {w : World} {A : Around} {E : Value → Shared → Prop} {s : Shared} {a₀ : Array Keyed} {κ : SortKind} {c : Keyed → Keyed → Bool}
end
end Rt
namespace Rt
open PySem PyProof.Rows
section
variable {c : Keyed → Keyed → Bool}
end
section
variable {prog : Program} {w : World} {A : Around} {E : Value → Shared → Prop} {s : Shared} {a₀ : Array Keyed} {κ : SortKind} {c : Keyed → Keyed → Bool}
end
end Rt
namespace Rt
open PySem PyProof.Rows
def RunsOk : List (Nat × Nat) → Nat → Nat → Prop
  | [], s, e => s = e
  | (s', n) :: r, s, e => s' = s ∧ 1 ≤ n ∧ RunsOk r (s + n) e
section
variable {prog : Program} {w : World} {A : Around} {E : Value → Shared → Prop} {s : Shared} {a₀ : Array Keyed} {κ : SortKind} {c : Keyed → Keyed → Bool}
end
end Rt
namespace L2
open PySem PySem.Spec PyProof.Rows
def blk (X : Cx) (M : List Str) (scope : Scope) (cl : List (Str × Addr)) (ex : List Addr) (s3 : Shared) (H3 : Hp) (C : Addr) : Cx where
  prog := X.prog
  w := X.w
  K := X.K
  mg := X.mg
  base := X.base
  A := X.A
  N := M
  s₀ := s3
  H₀ := H3
  env := compEnvC scope cl C X.env
  outer := X.stack
  stack := X.stack
  ex := ex
  fn := fun _ => false
  calm := X.calm
  pn := []
  xe := fun _ _ => False
def clOf (env : Env) : List (Str × NameKind) → List (Str × Addr) → List (Str × Addr)
  | [], acc => acc
  | (n, k) :: r, acc => clOf env r (if k = .free then (n, (env.cells.lookup n).getD 0) :: acc else acc)
theorem clos_go {env : Env} : ∀ (l : List (Str × NameKind)) (acc : List (Str × Addr)), (∀ x ∈ l, x.2 = .free → ∃ c, env.cells.lookup x.1 = some c) →
    (forIn (m := Sem) l acc fun x cs => (if (x.2 == NameKind.free) = true then do let a ← cellOf env x.1; pure (ForInStep.yield ((x.1, a) :: cs)) else pure (ForInStep.yield cs))) = pure (clOf env l acc)
  | [], acc, _ => rfl
  | (n, k) :: r, acc, h => by
    rw [List.forIn_cons]
    by_cases hk : k = .free
    · subst hk
      obtain ⟨c, hc⟩ := h (n, .free) List.mem_cons_self rfl
      have e1 : cellOf env n = pure c := by unfold cellOf; rw [hc]
      have e2 : clOf env ((n, .free) :: r) acc = clOf env r ((n, c) :: acc) := by
        show clOf env r (if NameKind.free = .free then (n, (env.cells.lookup n).getD 0) :: acc else acc) = _
        rw [if_pos rfl, hc]; rfl
      rw [e2]
      show ((if (NameKind.free == NameKind.free) = true then do let a ← cellOf env n; pure (ForInStep.yield ((n, a) :: acc)) else pure (ForInStep.yield acc)) >>= _) = _
      rw [if_pos (show (NameKind.free == NameKind.free) = true by decide), e1]
      exact clos_go r _ fun x hx => h x (List.mem_cons_of_mem _ hx)
    · have hb : (k == NameKind.free) = false := by simpa using hk
      have e2 : clOf env ((n, k) :: r) acc = clOf env r acc := by
        show clOf env r (if k = .free then (n, (env.cells.lookup n).getD 0) :: acc else acc) = _
        rw [if_neg hk]
      rw [e2]
      show ((if (k == NameKind.free) = true then _ else pure (ForInStep.yield acc)) >>= _) = _
      rw [hb, if_neg Bool.false_ne_true]
      exact clos_go r _ fun x hx => h x (List.mem_cons_of_mem _ hx)
theorem clos_eq {scope : Scope} {env : Env} (h : ∀ x ∈ scope.names, x.2 = .free → ∃ c, env.cells.lookup x.1 = some c) : closureFor scope env = pure (clOf env scope.names []) := by
  have e := clos_go (env := env) scope.names [] h
  unfold closureFor
  show (forIn scope.names [] _ >>= _) = _
  have e' : (forIn (m := Sem) scope.names ([] : List (Str × Addr)) fun x cs => match x with | (name, kind) => (if (kind == NameKind.free) = true then do let a ← cellOf env name; pure (ForInStep.yield ((name, a) :: cs)) else pure (ForInStep.yield cs))) = pure (clOf env scope.names []) := e
  first
    | (rw [e']; rfl)
    | (refine Eq.trans (congrArg (fun t => t >>= _) e') ?_; rfl)
theorem clOf_ok {env : Env} : ∀ (l : List (Str × NameKind)) (acc : List (Str × Addr)), (∀ x ∈ l, x.2 = .free → ∃ c, env.cells.lookup x.1 = some c) → (∀ x c, acc.lookup x = some c → env.cells.lookup x = some c) →
    (∀ x c, (clOf env l acc).lookup x = some c → env.cells.lookup x = some c) ∧ (∀ x c, acc.lookup x = some c → (clOf env l acc).lookup x = some c) ∧ ∀ x, (x, NameKind.free) ∈ l → ∃ c, (clOf env l acc).lookup x = some c
  | [], acc, _, ha => ⟨ha, fun _ _ h => h, fun _ h => nomatch h⟩
  | (n, k) :: r, acc, h, ha => by
    have hr : ∀ x ∈ r, x.2 = .free → ∃ c, env.cells.lookup x.1 = some c := fun x hx => h x (List.mem_cons_of_mem _ hx)
    by_cases hk : k = .free
    · subst hk
      obtain ⟨c, hc⟩ := h (n, .free) List.mem_cons_self rfl
      have e2 : clOf env ((n, .free) :: r) acc = clOf env r ((n, c) :: acc) := by
        show clOf env r (if NameKind.free = .free then (n, (env.cells.lookup n).getD 0) :: acc else acc) = _
        rw [if_pos rfl, hc]; rfl
      rw [e2]
      have ha' : ∀ x c', ((n, c) :: acc).lookup x = some c' → env.cells.lookup x = some c' := fun x c' q => by
        rw [List.lookup_cons] at q
        cases hx : x == n with
        | true =>
          rw [hx] at q
          have z : c = c' := Option.some.inj q
          have y : x = n := by simpa using hx
          rw [y, ← z]; exact hc
        | false => rw [hx] at q; exact ha x c' q
      obtain ⟨i1, i2, i3⟩ := clOf_ok r ((n, c) :: acc) hr ha'
      refine ⟨i1, fun x c' q => ?_, fun x hx => ?_⟩
      · refine i2 x c' ?_
        rw [List.lookup_cons]
        cases hx : x == n with
        | true =>
          have y : x = n := by simpa using hx
          have := ha x c' q
          rw [y, hc] at this
          exact this
        | false => exact q
      · rcases List.mem_cons.mp hx with z | z
        · cases z
          exact ⟨c, i2 n c (by rw [List.lookup_cons, beq_self_eq_true])⟩
        · exact i3 x z
    · have e2 : clOf env ((n, k) :: r) acc = clOf env r acc := by
        show clOf env r (if k = .free then (n, (env.cells.lookup n).getD 0) :: acc else acc) = _
        rw [if_neg hk]
      rw [e2]
      obtain ⟨i1, i2, i3⟩ := clOf_ok r acc hr ha
      refine ⟨i1, i2, fun x hx => ?_⟩
      rcases List.mem_cons.mp hx with z | z
      · cases z; exact absurd rfl hk
      · exact i3 x z
theorem lookup_mem {l : List (Str × NameKind)} {x : Str} {k : NameKind} (h : l.lookup x = some k) : (x, k) ∈ l := by
  induction l with
  | nil => cases h
  | cons p r ih =>
    obtain ⟨n, q⟩ := p
    rw [List.lookup_cons] at h
    cases hx : x == n with
    | true =>
      rw [hx] at h
      have y : x = n := by simpa using hx
      have z : q = k := Option.some.inj h
      subst y z; exact List.mem_cons_self
    | false => rw [hx] at h; exact List.mem_cons_of_mem _ (ih h)
theorem relabel_lookup {env : Env} : ∀ {names : List (Str × NameKind)} {x : Str} {k : NameKind}, (names.map fun (n, k) => if (k == NameKind.free && env.scope.kind == .function && env.kindOf n == some .cell) then (n, NameKind.cell) else (n, k)).lookup x = some k →
    names.lookup x = some k ∨ (k = .cell ∧ names.lookup x = some .free)
  | [], x, k, h => by cases h
  | (n, q) :: r, x, k, h => by
    have ih := @relabel_lookup env r x k
    rw [List.map_cons] at h
    have h' : List.lookup x ((if (q == NameKind.free && env.scope.kind == .function && env.kindOf n == some .cell) = true then (n, NameKind.cell) else (n, q)) :: _) = some k := h
    cases hx : x == n with
    | true =>
      by_cases hc : (q == NameKind.free && env.scope.kind == .function && env.kindOf n == some .cell) = true
      · rw [if_pos hc, List.lookup_cons, hx] at h'
        have z : NameKind.cell = k := Option.some.inj h'
        have y : q = .free := by simp at hc; exact hc.1.1
        refine .inr ⟨z.symm, ?_⟩
        rw [List.lookup_cons, hx, y]
      · rw [if_neg hc, List.lookup_cons, hx] at h'
        refine .inl ?_
        rw [List.lookup_cons, hx]; exact h'
    | false =>
      have h2 : List.lookup x (r.map fun (n, k) => if (k == NameKind.free && env.scope.kind == .function && env.kindOf n == some .cell) then (n, NameKind.cell) else (n, k)) = some k := by
        by_cases hc : (q == NameKind.free && env.scope.kind == .function && env.kindOf n == some .cell) = true
        · rw [if_pos hc, List.lookup_cons, hx] at h'; exact h'
        · rw [if_neg hc, List.lookup_cons, hx] at h'; exact h'
      rw [List.lookup_cons, hx]
      exact ih h2
theorem relabel_free {env : Env} : ∀ {names : List (Str × NameKind)} {x : Str}, names.lookup x = some .free → (names.map fun (n, k) => if (k == NameKind.free && env.scope.kind == .function && env.kindOf n == some .cell) then (n, NameKind.cell) else (n, k)).lookup x = some .cell ∨
      (names.map fun (n, k) => if (k == NameKind.free && env.scope.kind == .function && env.kindOf n == some .cell) then (n, NameKind.cell) else (n, k)).lookup x = some .free
  | [], x, h => by cases h
  | (n, q) :: r, x, h => by
    have ih := @relabel_free env r x
    rw [List.map_cons]
    show List.lookup x ((if (q == NameKind.free && env.scope.kind == .function && env.kindOf n == some .cell) = true then (n, NameKind.cell) else (n, q)) :: _) = some .cell ∨ List.lookup x ((if (q == NameKind.free && env.scope.kind == .function && env.kindOf n == some .cell) = true then (n, NameKind.cell) else (n, q)) :: _) = some .free
    cases hx : x == n with
    | true =>
      rw [List.lookup_cons, hx] at h
      have z : q = NameKind.free := Option.some.inj h
      subst z
      by_cases hc : (NameKind.free == NameKind.free && env.scope.kind == .function && env.kindOf n == some .cell) = true
      · rw [if_pos hc, List.lookup_cons, hx]; exact .inl rfl
      · rw [if_neg hc, List.lookup_cons, hx]; exact .inr rfl
    | false =>
      rw [List.lookup_cons, hx] at h
      by_cases hc : (q == NameKind.free && env.scope.kind == .function && env.kindOf n == some .cell) = true
      · rw [if_pos hc, List.lookup_cons, hx]; exact ih h
      · rw [if_neg hc, List.lookup_cons, hx]; exact ih h
def capOk (N : List Str) (sc : Scope) (M : List Str) (scope : Scope) (cap : List (Option Nat)) : Bool :=
  cap.length == M.length && (M.zip cap).all (fun (x, o) => match o with
    | none => scope.names.lookup x == some .local
    | some j => N[j]? == some x && (scope.names.lookup x == some .free && (sc.names.lookup x == some .cell || sc.names.lookup x == some .free))) &&
  (scope.kind == .function && scope.names.all fun y => y.2 != .cell && ((y.2 != .free || (sc.names.lookup y.1 == some .cell || sc.names.lookup y.1 == some .free)) && (y.2 != .local || scope.names.lookup y.1 == some .local)))
def capS (cap : List (Option Nat)) (σ : St) : St := cap.map fun o => match o with
  | none => none
  | some j => (σ[j]?).getD none
structure CapOk (N : List Str) (sc : Scope) (M : List Str) (scope : Scope) (cap : List (Option Nat)) : Prop where
  len : cap.length = M.length
  own : ∀ (i j : Nat) (x : Str), M[i]? = some x → cap[i]? = some (some j) → N[j]? = some x ∧ scope.names.lookup x = some .free ∧ (sc.names.lookup x = some .cell ∨ sc.names.lookup x = some .free)
  kind : scope.kind = .function
  cell : ∀ y ∈ scope.names, y.2 ≠ .cell
  free : ∀ y ∈ scope.names, y.2 = .free → sc.names.lookup y.1 = some .cell ∨ sc.names.lookup y.1 = some .free
  loc : ∀ y ∈ scope.names, y.2 = .local → scope.names.lookup y.1 = some .local
theorem CapOk.of {N : List Str} {sc : Scope} {M : List Str} {scope : Scope} {cap : List (Option Nat)} (h : capOk N sc M scope cap = true) : CapOk N sc M scope cap := by
  unfold capOk at h
  simp only [Bool.and_eq_true, List.all_eq_true, beq_iff_eq] at h
  obtain ⟨⟨h1, h2⟩, h3, h4⟩ := h
  refine ⟨h1, fun i j x e1 e2 => ?_, h3, fun y hy z => ?_, fun y hy z => ?_, fun y hy z => ?_⟩
  · have hm : (x, some j) ∈ M.zip cap := by
      have : (M.zip cap)[i]? = some (x, some j) := by rw [List.getElem?_zip_eq_some]; exact ⟨e1, e2⟩
      exact List.mem_of_getElem? this
    have := h2 _ hm
    simp only [Bool.and_eq_true, beq_iff_eq, Bool.or_eq_true] at this
    exact this
  · have := (h4 y hy).1
    simp [z] at this
  · have := (h4 y hy).2.1
    simpa [z] using this
  · have := (h4 y hy).2.2
    simpa [z] using this
section
variable {X : Cx} {pins : List (Addr × Obj)} {σ : St} {H H3 : Hp} {s3 : Shared} {M : List Str} {scope : Scope} {cap : List (Option Nat)} {fp : List Addr} {h4 : Heap} {t4 : Nat}
theorem Cx.Ok.cells (ok : X.Ok) {N : List Str} (c : CapOk N X.env.scope M scope cap) : ∀ y ∈ scope.names, y.2 = .free → ∃ d, X.env.cells.lookup y.1 = some d := fun y hy z => ok.has y.1 (c.free y hy z)
theorem blk_start (I : Inv X pins σ H3 s3) (c : CapOk X.N X.env.scope M scope cap) (hf : ∀ b ∈ fp, FpOk X pins H3 b) (hb : ∀ b ∈ fp, b < s3.heap.objs.size)
    (hn : h4.Ns s3.heap.objs.size fun _ => none) (hk : ∀ b o, s3.heap.get? b = some o → h4.get? b = some o) :
    Inv (blk X M scope (clOf X.env scope.names []) fp s3 H3 s3.heap.objs.size) [] (capS cap σ) H3 { s3 with heap := h4, toks := t4 } := by
  obtain ⟨c1, c2, c3⟩ := clOf_ok scope.names [] (I.ok.cells c) (fun x d q => by cases q)
  refine ⟨⟨I.ok.mod, c.kind, I.ok.glob, I.ok.blt, Nat.le_refl _, fun x y d e1 e2 => I.ok.inj x y d (c1 x d e1) (c1 y d e2), fun x hx => ?_, (fun x d z => nomatch z), I.ok.hd, I.ok.frames, .inl rfl, fun b hb' => ?_, I.bs,
    Nat.le_trans I.ok.bsz I.sz, fun b o e z => ?_, fun b hb' z => ?_, I.stack, I.stkFree⟩, rfl, I.bare, Un.kept hk, ⟨_, hn, fun i x v e1 e2 e3 => ?_⟩, fun x d e => ?_, I.hok.fresh (Nat.le_refl _), fun x d e => I.freeC x d (c1 x d e), fun p hp => (nomatch hp), I.hok.kept hk, ?_⟩
  · have hx' : (relabel scope X.env).names.lookup x = some .cell ∨ (relabel scope X.env).names.lookup x = some .free := hx
    rcases hx' with q | q
    · rcases relabel_lookup q with z | ⟨_, z⟩
      · exact absurd rfl (c.cell _ (lookup_mem z))
      · exact c3 x (lookup_mem z)
    · rcases relabel_lookup q with z | ⟨z, _⟩
      · exact c3 x (lookup_mem z)
      · cases z
  · obtain ⟨f0, f1, f2, f3, f4, f5⟩ := hf b hb'
    exact ⟨Nat.ne_of_lt (hb b hb'), fun x d e => f4 x d (c1 x d e)⟩
  · obtain ⟨f0, f1, f2, f3, f4, f5⟩ := hf b z
    rcases f3 with q | q
    · exact I.ok.noex b o e q
    · exact absurd (Nat.lt_of_lt_of_le (Heap.lt_size e) (Nat.le_trans I.ok.bsz q)) (Nat.lt_irrefl _)
  · obtain ⟨f0, f1, f2, f3, f4, f5⟩ := hf b hb'
    rcases List.mem_cons.mp (I.stkSub b z) with q | q
    · exact f1 q
    · exact f2 q
  · have e2' : (cap.map fun o => match o with | none => none | some j => (σ[j]?).getD none)[i]? = some (some v) := e2
    rw [List.getElem?_map] at e2'
    cases q : cap[i]? with
    | none => rw [q] at e2'; cases e2'
    | some o =>
      rw [q] at e2'
      cases o with
      | none => cases e2'
      | some j =>
        have e4 : (σ[j]?).getD none = some v := Option.some.inj e2'
        have e5 : σ[j]? = some (some v) := by
          cases r : σ[j]? with
          | none => rw [r] at e4; cases e4
          | some o => rw [r] at e4; exact congrArg some e4
        obtain ⟨n1, n2, n3⟩ := c.own i j x e1 q
        obtain ⟨m, hm, hl⟩ := I.loc
        obtain ⟨u, ru, lk⟩ := hl j x v n1 e5 (n3.elim (fun z => .inr (.inl z)) fun z => .inr (.inr z))
        refine ⟨u, ru, .inr ?_⟩
        rcases lk with ⟨k1, _⟩ | ⟨_, d, k2, k3⟩
        · have k1' : X.env.scope.names.lookup x = some .local := k1
          rcases n3 with z | z <;> (rw [z] at k1'; cases k1')
        · obtain ⟨d', hd'⟩ := c3 x (lookup_mem n2)
          have ed : d' = d := by
            have := c1 x d' hd'
            rw [k2] at this
            exact (Option.some.inj this).symm
          subst ed
          exact ⟨(relabel_free n2 : (relabel scope X.env).names.lookup x = some .cell ∨ (relabel scope X.env).names.lookup x = some .free), d', hd', k3.keeps hk⟩
  · obtain ⟨v, q⟩ := I.cell x d (c1 x d e)
    exact ⟨v, q.keeps hk⟩
  · show (cap.map _).length = M.length
    rw [List.length_map]; exact c.len
theorem blk_end {σ' : St} {s' : Shared} {h' : Heap} (I : Inv X pins σ H3 s3) (hf : ∀ b ∈ fp, FpOk X pins H3 b) (J : Inv (blk X M scope (clOf X.env scope.names []) fp s3 H3 s3.heap.objs.size) [] σ' H s') (hs : Heap.SameBut s3.heap.objs.size s'.heap h') :
    Inv X pins σ H { s' with heap := h' } := by
  have u : Un (frs X.stack) fp H3 H s3.heap s'.heap := J.base
  have ne : ∀ b o, s3.heap.get? b = some o → b ≠ s3.heap.objs.size := fun b o e => Nat.ne_of_lt (Heap.lt_size e)
  have hC : H s3.heap.objs.size = none := J.free
  refine I.call' (ch := fp) (s' := { s' with heap := h' }) J.os ⟨fun b o e n hb hx => (hs.2 b (ne b o e)).trans (u.keep b o e n hb hx), fun b o e n hb hx => ?_, u.free, fun b o e hx => ?_, u.tups, u.frzs, u.tbls⟩ (fun b o e => ?_) J.bare fun b hb => ?_
  · obtain ⟨sl, q⟩ := u.slot b o e n hb hx
    exact ⟨sl, (hs.2 b (ne b o e)).trans q⟩
  · obtain ⟨o', q⟩ := u.there b o e hx
    exact ⟨o', (hs.2 b (ne b o e)).trans q⟩
  · refine (J.hok b o e).stay (fun c v hc q => (hs.2 c ?_).trans q) (fun _ q => q) fun _ _ q => q
    rintro rfl
    rcases hc with z | z
    · rw [← z, hC] at e; cases e
    · rw [hC] at z; cases z
  · obtain ⟨f0, f1, f2, f3, f4, f5⟩ := hf b hb
    exact ⟨f3, f1, f4, f5⟩
end
end L2
namespace L2
open PySem PySem.Spec PyProof.Rows
def Wk : St → St → Prop
  | [], [] => True
  | none :: a, _ :: b => Wk a b
  | some v :: a, some u :: b => v = u ∧ Wk a b
  | _, _ => False
theorem Wk.len : ∀ {a b : St}, Wk a b → a.length = b.length
  | [], [], _ => rfl
  | none :: a, _ :: b, h => congrArg (· + 1) (Wk.len (a := a) (b := b) h)
  | some v :: a, some u :: b, h => congrArg (· + 1) (Wk.len (a := a) (b := b) h.2)
  | [], _ :: _, h => h.elim
  | some _ :: _, [], h => h.elim
  | none :: _, [], h => h.elim
  | some _ :: _, none :: _, h => h.elim
theorem Wk.get : ∀ {a b : St}, Wk a b → ∀ (i : Nat) v, a[i]? = some (some v) → b[i]? = some (some v)
  | [], [], _, i, v, h => by simp at h
  | none :: a, x :: b, h, 0, v, e => by simp at e
  | none :: a, x :: b, h, i + 1, v, e => by
    simp only [List.getElem?_cons_succ] at e ⊢
    exact Wk.get (a := a) (b := b) h i v e
  | some q :: a, some u :: b, h, 0, v, e => by
    simp only [List.getElem?_cons_zero] at e ⊢
    rw [← h.1]; exact e
  | some q :: a, some u :: b, h, i + 1, v, e => by
    simp only [List.getElem?_cons_succ] at e ⊢
    exact Wk.get (a := a) (b := b) h.2 i v e
  | [], _ :: _, h, _, _, _ => h.elim
  | some _ :: _, [], h, _, _, _ => h.elim
  | none :: _, [], h, _, _, _ => h.elim
  | some _ :: _, none :: _, h, _, _, _ => h.elim
theorem Inv.wk {X : Cx} {pins : List (Addr × Obj)} {σ σ' : St} {H : Hp} {s : Shared} (I : Inv X pins σ H s) (h : Wk σ' σ) : Inv X pins σ' H s := I.weak h.len h.get
def tLoop (J : It) (body : V → Hp → (Hp → Prop) → Prop) (Qn : Hp → Prop) (H : Hp) : Prop :=
  ∃ W : Nat → Nat → Hp → Prop, (∃ m, W 0 m H) ∧ ∀ i m H2, W i m H2 → (J.stop i H2 ∧ Qn H2) ∨ (J.go i H2 ∧ ∀ x H3, J.yld i H2 x H3 → body x H3 fun H6 => ∃ m', m' < m ∧ W (i + 1) m' H6)
abbrev Act := (Shared → Prop) → Shared → Prop
def BodyOk (Y : Cx) (σ : St) (act : Act) (b : Hp → (Hp → Prop) → Prop) : Prop :=
  ∀ (pins : List (Addr × Obj)) (s : Shared) (H : Hp) (k : Hp → Prop) (Q : Shared → Prop), Inv Y pins σ H s → b H k → (∀ s' H', Inv Y pins σ H' s' → k H' → Q s') → act Q s
theorem comp_loop {Y : Cx} {σ : St} {tg : Expr} {elt : Expr} {gens : List Comprehension} {scope : Scope} {cpos : Pos} {d : Nat} {it D : Addr} {fp : List Addr} {tn : Nat → Heap → Prop} {J : It} {pins : List (Addr × Obj)} {s : Shared} {H : Hp} {body : V → Hp → (Hp → Prop) → Prop} {Qn : Hp → Prop} {R : Result → Shared → Prop} {act : Value → Act}
    (hc : Y.calm = true) (T : Turn Y.prog Y.w Y.K tg J fp it tn) (st : tn 0 s.heap) (hf : ∀ b ∈ fp, FpOk Y pins H b)
    (hturn : ∀ (Q : PySem.Fin → Shared → Prop) (E : Value → Shared → Prop) (s : Shared), wpAny (model Y.prog Y.w) Y.A (pyNext (.ref it)) (fun r s1 => match r with
      | none => Q (.done .next) s1
      | some v => wpAny (model Y.prog Y.w) Y.A (letOwnedTupleGo tg (.ref it) v) (fun _ s2 => act v (fun s3 => Q (.again (.compLoop (.ListComp elt gens scope cpos) d (.ref it) (.ref D) Y.env)) s3) s2) E s1) E s →
      wpAny (model Y.prog Y.w) Y.A (compTurn (.ListComp elt gens scope cpos) d (.ref it) (.ref D) Y.env) Q E s)
    (hact : ∀ (x : V) (u : Value), RelV x u → BodyOk Y σ (act u) (body x))
    (I : Inv Y pins σ H s) (h : tLoop J body Qn H) (hR : ∀ s' H', Inv Y pins σ H' s' → Qn H' → R (.ok .next) s') :
    codeAny (model Y.prog Y.w) Y.A (.compLoop (.ListComp elt gens scope cpos) d (.ref it) (.ref D) Y.env) R s := by
  obtain ⟨W, ⟨m0, w0⟩, turn⟩ := h
  have stat : ∀ {H' : Hp}, (∀ b ∈ fp, H' b = none) → ∀ b ∈ fp, FpOk Y pins H' b := fun hn b hb => ⟨hn b hb, (hf b hb).2⟩
  refine codeAny_loop rfl (fun n s' => ∃ i H', Inv Y pins σ H' s' ∧ tn i s'.heap ∧ (∀ b ∈ fp, H' b = none) ∧ W i n H') (fun n s3 hI => ?_) m0 ⟨0, H, I, st, fun b hb => (hf b hb).1, w0⟩
  show wpAny _ Y.A ((compTurn (.ListComp elt gens scope cpos) d (.ref it) (.ref D) Y.env).onRaise (fun x => do noteFrame x Y.env; theTreesLotGoes x)) _ _ s3
  refine wpAny_noted (hturn _ _ _ ?_)
  obtain ⟨i, H3, I3, st3, fr3, w3⟩ := hI
  rcases turn i n H3 w3 with ⟨stop, qn⟩ | ⟨go, step⟩
  · refine thn (T.done Y rfl rfl rfl hc i pins s3 σ H3 _ I3 (stat fr3) st3 stop) fun r s4 ⟨hr, I4⟩ => ?_
    subst hr
    exact hR s4 H3 I4 qn
  · refine thn (T.item Y rfl rfl rfl hc i pins s3 σ H3 _ I3 (stat fr3) st3 go) fun r s4 ⟨u, hr, h4⟩ => ?_
    subst hr
    refine thn h4 fun _ s5 ⟨x, H5, I5, r5, y5, st5, fr5⟩ => ?_
    have I5' := I5.pinned (stat fr5) (T.obj _ _ st5)
    refine hact x u r5 _ s5 H5 _ _ I5' (step x H5 y5) fun s7 H7 I7 ⟨m', hm, w7⟩ => ?_
    refine ⟨rfl, m', hm, i + 1, H7, I7.unpinned, T.keep _ _ _ st5 fun b hb o e => (I7.pin (b, o) (List.mem_append_right _ (List.mem_append_right _ (mem_pinsAt hb e)))).1, fun b hb => ?_, w7⟩
    obtain ⟨o, e, dd⟩ := T.obj _ _ st5 b hb
    exact (I7.pin (b, o) (List.mem_append_right _ (List.mem_append_right _ (mem_pinsAt hb e)))).2.1
abbrev testsOf (ifs : List Expr) (env : Env) : Sem Bool := forIn ifs true fun c r => if r = true then do let ok ← isTrue c env (eval c env); pure (ForInStep.yield ok) else pure (ForInStep.yield r)
def PTs (Y : Cx) (ifs : List Expr) (t : TT) : Prop :=
  ∀ (pins : List (Addr × Obj)) (s : Shared) (σ : St) (H : Hp) (Q : Bool → Hp → Prop), Inv Y pins σ H s → t σ H Q → wpAny (model Y.prog Y.w) Y.A (testsOf ifs Y.env) (TP Y pins σ Q) Y.xe s
def tNoTest : TT := fun _ H Q => Q true H
theorem pts_nil {Y : Cx} : PTs Y [] tNoTest := fun pins s σ H Q I h => wpAny_tests_nil ⟨H, I, h⟩
theorem pts_one {Y : Cx} {c : Expr} {t : TT} (h : PT Y c t) : PTs Y [c] t := fun pins s σ H Q I q => wpAny_tests_one (h pins s σ H Q I q)
def actOf (Y : Cx) (tg : Expr) (ifs : List Expr) (inner : Act) : Value → Act := fun u Q s =>
  wpAny (model Y.prog Y.w) Y.A (assign tg Y.env u) (fun _ s4 => wpAny (model Y.prog Y.w) Y.A (testsOf ifs Y.env) (fun ok s5 => if ok = true then inner Q s5 else Q s5) (fun _ _ => False) s4) (fun _ _ => False) s
def bOf (σ : St) (g : TG) (tc : TT) (inner : St → Hp → (Hp → Prop) → Prop) : V → Hp → (Hp → Prop) → Prop := fun x H k => g x σ H fun σ4 H4 => Wk σ σ4 ∧ tc σ4 H4 fun b H5 =>
  if b = true then inner σ4 H5 k else k H5
theorem body_of {Y : Cx} {σ : St} {tg : Expr} {ifs : List Expr} {g : TG} {tc : TT} {inner : Act} {ri : St → Hp → (Hp → Prop) → Prop} (hx : Y.xe = fun _ _ => False) (hg : PG Y tg g) (ht : PTs Y ifs tc) (he : ∀ σ4, BodyOk Y σ4 inner (ri σ4)) (x : V) (u : Value) (r : RelV x u) :
    BodyOk Y σ (actOf Y tg ifs inner u) (bOf σ g tc ri x) := by
  intro pins s H k Q I h hQ
  have hx' : ∀ (v : Value) (s' : Shared), Y.xe v s' → False := fun v s' z => by rw [hx] at z; exact z
  refine wpAny_mono (hg pins s σ H x u _ I r h) (fun _ s4 ⟨σ4, H4, I4, wk, q4⟩ => ?_) hx'
  refine wpAny_mono (ht pins s4 σ4 H4 _ I4 q4) (fun b s5 ⟨H5, I5, q5⟩ => ?_) hx'
  cases b with
  | false =>
    rw [if_neg Bool.false_ne_true] at q5
    rw [if_neg Bool.false_ne_true]
    exact hQ s5 H5 (I5.wk wk) q5
  | true =>
    rw [if_pos rfl] at q5
    rw [if_pos rfl]
    exact he σ4 pins s5 H5 k Q I5 q5 fun s' H' I' k' => hQ s' H' (I'.wk wk) k'
def actElt (Y : Cx) (elt : Expr) (D : Addr) : Act := fun Q s => wpAny (model Y.prog Y.w) Y.A (eval elt Y.env) (fun v s6 => wpAny (model Y.prog Y.w) Y.A (call (.builtin "list.append") [.ref D, v]) (fun _ s7 => Q s7) (fun _ _ => False) s6) (fun _ _ => False) s
def bElt (p : Addr) (te : TE) : St → Hp → (Hp → Prop) → Prop := fun σ H k => te σ H fun v H6 => ∃ ys, H6 p = some (.lst ys) ∧ ys.length < sizeLine ∧ k (upd H6 p (.lst (ys ++ [v])))
theorem body_elt {Y : Cx} {σ : St} {elt : Expr} {te : TE} {D : Addr} (hx : Y.xe = fun _ _ => False) (he : PE Y elt te) : BodyOk Y σ (actElt Y elt D) (bElt D te σ) := by
  intro pins s H k Q I h hQ
  have hx' : ∀ (v : Value) (s' : Shared), Y.xe v s' → False := fun v s' z => by rw [hx] at z; exact z
  refine wpAny_mono (he pins s σ H _ I h) (fun v s6 ⟨y, H6, I6, r6, ys, e, hz, q⟩ => ?_) hx'
  exact wpAny_mono (mt_append (X := Y) pins s6 σ H6 (.ref D) [y] (.ref D) [v] (fun _ H' => k H') I6 rfl (.cons r6 .nil) ⟨D, ys, y, rfl, rfl, e, hz, q⟩) (fun _ s7 ⟨_, H7, I7, _, q7⟩ => hQ s7 H7 I7 q7) hx'
theorem turn_one {Y : Cx} {elt tg iter : Expr} {ifs : List Expr} {scope : Scope} {cpos : Pos} {it D : Addr} (Q : PySem.Fin → Shared → Prop) (E : Value → Shared → Prop) (s : Shared)
    (h : wpAny (model Y.prog Y.w) Y.A (pyNext (.ref it)) (fun r s1 => match r with
      | none => Q (.done .next) s1
      | some v => wpAny (model Y.prog Y.w) Y.A (letOwnedTupleGo tg (.ref it) v) (fun _ s2 => actOf Y tg ifs (actElt Y elt D) v (fun s3 => Q (.again (.compLoop (.ListComp elt [⟨tg, iter, ifs, 0⟩] scope cpos) 0 (.ref it) (.ref D) Y.env)) s3) s2) E s1) E s) :
    wpAny (model Y.prog Y.w) Y.A (compTurn (.ListComp elt [⟨tg, iter, ifs, 0⟩] scope cpos) 0 (.ref it) (.ref D) Y.env) Q E s := by
  rw [compTurn_list]
  refine wpAny_bind (wpAny_standAt (wpAny_bind (thn h fun r s1 h1 => ?_)))
  cases r with
  | none => exact wpAny_pure h1
  | some v =>
    refine wpAny_bind (thn h1 fun _ s2 h2 => ?_)
    refine wpAny_bind (wpAny_mono h2 (fun _ s4 h4 => wpAny_bind (wpAny_mono h4 (fun ok s5 h5 => ?_) fun _ _ f => f.elim)) fun _ _ f => f.elim)
    cases ok with
    | false => exact wpAny_pure h5
    | true => exact wpAny_bind (wpAny_bind (wpAny_mono h5 (fun x s6 h6 => wpAny_bind (wpAny_mono h6 (fun _ s7 h7 => wpAny_pure (wpAny_pure h7)) fun _ _ f => f.elim)) fun _ _ f => f.elim))
def tComp (cap : List (Option Nat)) (wi : TI) (g : TG) (tc : TT) (te : TE) : TE := fun σ H Q => wi σ H fun J H1 => ∀ p, H1 p = none → tLoop J (bOf (capS cap σ) g tc (bElt p te)) (Q (.ref p)) (upd H1 p (.lst []))
theorem FpOk.upd {X : Cx} {pins : List (Addr × Obj)} {H : Hp} {b a : Addr} {o : HO} (h : FpOk X pins H b) (hne : b ≠ a) : FpOk X pins (upd H a o) b := ⟨by rw [upd_ne hne]; exact h.1, h.2⟩
theorem pe_lcomp {X : Cx} {M : List Str} {cap : List (Option Nat)} {elt tg iter : Expr} {ifs : List Expr} {scope : Scope} {pos : Pos} {wi : TI} {g : TG} {tc : TT} {te : TE} (hc : X.calm = true) (ok : capOk X.N X.env.scope M scope cap = true)
    (hi : PI X tg iter wi) (hb : ∀ cl ex s3 H3 C, PG (blk X M scope cl ex s3 H3 C) tg g ∧ PTs (blk X M scope cl ex s3 H3 C) ifs tc ∧ PE (blk X M scope cl ex s3 H3 C) elt te)
    (hs : ∀ x, foldedSetIterable iter X.env x = pure x := by intro _; rfl) : PE X (.ListComp elt [⟨tg, iter, ifs, 0⟩] scope pos) (tComp cap wi g tc te) := by
  intro pins s σ H Q I h
  have c := CapOk.of ok
  rw [eval_ListComp]
  refine wpAny_comprehension_free (use := none) rfl hs (clos_eq (I.ok.cells c)) c.kind c.loc ?_
  refine thn (hi pins s σ H _ I h) fun v s1 h1 => thn h1 fun itv s2 h2 => ?_
  obtain ⟨it, fp, tn, J, H2, e, I2, T, st2, f2, hW⟩ := h2
  subst e
  refine wpAny_newObj_type (wpAny_newFunctionEnv c.cell (by intro y hy; simp at hy) (fun h₁ hns₁ hsb₁ => ?_) c.kind)
  have I3 : Inv X pins σ (upd H2 s2.heap.objs.size (.lst [])) { s2 with heap := s2.heap.push { cls := .type "list", data := .seq ([] : List Value).toArray } } := I2.lnew (t' := s2.toks) (ys := []) .nil (Nat.zero_le _)
  have lt2 : ∀ b ∈ fp, b < s2.heap.objs.size := fun b hb => by obtain ⟨o, e, _⟩ := T.obj _ _ st2 b hb; exact Heap.lt_size e
  have f3 : ∀ b ∈ fp, FpOk X pins (upd H2 s2.heap.objs.size (.lst [])) b := fun b hb => (f2 b hb).upd (Nat.ne_of_lt (lt2 b hb))
  generalize hs3 : ({ s2 with heap := s2.heap.push { cls := .type "list", data := .seq ([] : List Value).toArray } } : Shared) = s3 at I3
  have e3 : s3.heap = s2.heap.push { cls := .type "list", data := .seq ([] : List Value).toArray } := by rw [← hs3]
  have z3 : s3.heap.objs.size = s2.heap.objs.size + 1 := by rw [e3, Heap.size_push]
  have hk : ∀ b o, s3.heap.get? b = some o → h₁.get? b = some o := fun b o e => hsb₁.extBut b o (by
    have := Heap.lt_size e
    rw [e3] at this
    exact Nat.ne_of_lt this) (Heap.get?_push_of_some _ (e3 ▸ e))
  have hn₁ : h₁.Ns s3.heap.objs.size fun _ => none := by rw [e3]; exact hns₁
  have B := blk_start (t4 := s3.toks + ([] : List (Str × Value)).length) (fp := fp) I3 c f3 (fun b hb => by rw [z3]; exact Nat.lt_succ_of_lt (lt2 b hb)) hn₁ hk
  have st4 : tn 0 h₁ := T.keep _ _ _ st2 fun b hb o e => hk b o (by rw [e3]; exact Heap.get?_push_of_some _ e)
  have fp4 : ∀ b ∈ fp, FpOk (blk X M scope (clOf X.env scope.names []) fp s3 (upd H2 s2.heap.objs.size (.lst [])) s3.heap.objs.size) [] (upd H2 s2.heap.objs.size (.lst [])) b := fun b hb => by
    refine ⟨(f3 b hb).1, (B.ok.exf b hb).1, B.ok.exfs b hb, .inl hb, (B.ok.exf b hb).2, fun p hp => (nomatch hp)⟩
  obtain ⟨hg, ht, he⟩ := hb (clOf X.env scope.names []) fp s3 (upd H2 s2.heap.objs.size (.lst [])) s3.heap.objs.size
  have loop : codeAny (model X.prog X.w) X.A (.compLoop (.ListComp elt [⟨tg, iter, ifs, 0⟩] scope pos) 0 (.ref it) (.ref s2.heap.objs.size) (compEnvC scope (clOf X.env scope.names []) s3.heap.objs.size X.env))
      (compPost (model X.prog X.w) X.A X.xe none (EP X pins σ Q) (.ref s2.heap.objs.size) s3.heap.objs.size) { s3 with heap := h₁, toks := s3.toks + ([] : List (Str × Value)).length } := by
    refine comp_loop (Y := blk X M scope (clOf X.env scope.names []) fp s3 (upd H2 s2.heap.objs.size (.lst [])) s3.heap.objs.size) (gens := [⟨tg, iter, ifs, 0⟩]) (d := 0) hc T st4 fp4
      (fun Q E s h => turn_one Q E s h) (fun x u r => body_of rfl hg ht (fun σ4 => body_elt rfl he) x u r) B (hW _ (I2.hok.fresh (Nat.le_refl _))) fun s' H' I' q => ?_
    obtain ⟨m, hn, _⟩ := I'.loc
    exact ⟨m, hn, fun h' hs' => ⟨.ref s2.heap.objs.size, H', blk_end I3 f3 I' hs', rfl, q⟩⟩
  exact codeAny_compStart_list loop (T.self _ 0 _ _ _ st4 loop)
end L2
namespace L2
open PySem PySem.Spec PyProof.Rows
section
variable {X : Cx}
theorem call_isinst : CallR X (.builtin "isinstance") (fun xs H Q => ∃ x t T b, xs = [x, .ty T] ∧ TyOf X.K H x t ∧ PySem.W.kitOne X.K t (.type T) = some b ∧ Q (.bl b) H) := by
  intro pins s σ H xs us Q I r h
  obtain ⟨x, t, T, b, rfl, ty, e, q⟩ := h
  obtain ⟨u, v, rfl, ru, rv⟩ := vals2 r
  cases (show v = Value.type T from rv)
  exact isinst_ok I ru ty e fun tk => ⟨.bl b, H, I.tok tk, rfl, q⟩
theorem bools_of {bs : List Bool} : ∀ {us : List Value}, Vals (bs.map V.bl) us → LSm.BoolsAre us bs := by
  induction bs with
  | nil => intro us r; cases r; exact .nil
  | cons b bs ih =>
    intro us r
    cases r with
    | cons r t =>
      cases (show _ = Value.bool b from r)
      exact .cons b (ih t)
theorem call_all : CallR X (.builtin "all") (fun xs H Q => ∃ (p : Addr) (bs : List Bool), xs = [.ref p] ∧ SqL X.K H p (bs.map V.bl) ∧ X.calm = true ∧ Q (.bl (bs.all id)) H) := by
  intro pins s σ H xs us Q I r h
  obtain ⟨p, bs, rfl, hp, hc, q⟩ := h
  obtain ⟨u, rfl, ru⟩ := vals1 r
  cases ru
  obtain ⟨its, rv, pl, hz⟩ := I.list hp
  have hl := pl.isList
  have hb := bools_of rv
  have hlt : p < s.heap.objs.size := by obtain ⟨_, e, _⟩ := hl; exact Heap.lt_size e
  refine call_all_walk (wpAny_pyIter_list hl ?_)
  refine ⟨s.heap.objs.size, [s.heap.objs.size, p], [s.heap.objs.size], its.toArray.size, _, _, fun i => (bs[i]?).getD true, rfl, Walks.list (A := X.A.in1) (I.ok.hd hc) _ p (Nat.ne_of_lt hlt) its.toArray,
    ⟨⟨_, Heap.get?_push_size _ rfl, rfl, rfl⟩, hl.push _⟩, fun i v s' Q' E' hP hQ => ?_, fun h' tk hk => ?_⟩
  · obtain ⟨b, e, rfl⟩ := hb.get i v (by simpa using hP)
    simp only [e, Option.getD_some] at hQ
    exact wpAny_truthy_bool hQ
  · have e : ((List.range its.toArray.size).all fun i => (bs[i]?).getD true) = bs.all id := by
      rw [List.size_toArray, hb.length]; exact LSm.range_all bs
    rw [e]
    exact ⟨.bl _, H, I.kept (LSm.kept_iter hk), rfl, q⟩
theorem same_upd {H : Hp} {p : Addr} {o : HO} (h : H p = none) : Same H (upd H p o) := fun b u e => by rw [upd_ne (ne_of_none e h)]; exact e
def rCatA : R2 := fun x y H Q => ∃ a b xs ys, x = .ref a ∧ y = .ref b ∧ H a = some (.tup xs) ∧ H b = some (.tup ys) ∧ xs.length + ys.length ≤ sizeLine ∧ ∀ p H', Same H H' → H' p = some (.tup (xs ++ ys)) → Q (.ref p) H'
theorem op_catA : OpR X (binaryOp .Add) rCatA := by
  intro pins s σ H x y v u Q I rx ry h
  obtain ⟨a, b, xs, ys, rfl, rfl, ha, hb, hz, q⟩ := h
  by_cases hx : xs = []
  · subst hx
    cases rx
    cases ry
    obtain ⟨its, r1, p1, _⟩ := I.tuple (SqT.of ha)
    obtain ⟨its2, r2, p2, _⟩ := I.tuple (SqT.of hb)
    cases r1
    obtain ⟨⟨cls, dd, data, sl⟩, ho, hc, n, hd⟩ := id p1
    obtain ⟨⟨cls2, dd2, data2, sl2⟩, ho2, hc2, n2, hd2⟩ := id p2
    simp only at hc hd hc2 hd2
    subst hc hd hc2 hd2
    exact concat_meets ⟨_, ho, rfl⟩ ⟨_, ho2, rfl⟩ noFill_tuple_add seq_tuple_add PySem.F.slot_tuple_add PySem.F.entry_tuple_add (PySem.F.args_tuple_add_2 _ _)
      (tuple_addW0 a b #[] its2.toArray n n2 dd dd2 sl sl2 rfl) ⟨ho, ho2, ⟨.ref b, H, I, rfl, q b H (Same.refl H) hb⟩⟩
  · exact op_catT pins s σ H _ _ v u Q I rx ry ⟨a, b, xs, ys, rfl, rfl, SqT.of ha, SqT.of hb, hx, hz, fun e => q a H (Same.refl H) (by rw [e, List.append_nil]; exact ha), fun _ p hp => q p _ (same_upd hp) upd_same⟩
end
end L2
namespace Rz
open PySem PyProof.Rows
open Sem (wp)
section
variable {prog : Program} {w : World} {A : Around} {E : Value → Shared → Prop} {s : Shared}
theorem nxt_item {it t : Addr} {i : Nat} {items : Array Value} {x : Value} {Q : Value → Shared → Prop} (hit : s.heap.IsTupleIter it t i) (ht : s.heap.IsTuple t items) (hx : items[i]? = some x)
    (hQ : ∀ h', h'.IsTupleIter it t (i + 1) → Heap.SameBut it s.heap h' → Q x { s with heap := h' }) : wpAny (model prog w) A (Builtin.SmallTypes.nextOf (.ref it)) Q E s := by
  obtain ⟨o, ho, hc, hd⟩ := id hit
  obtain ⟨ol, hol, _, nl, hdl⟩ := ht
  unfold Builtin.SmallTypes.nextOf
  refine wpAny_bind (wpAny_callSpecial?_slot (name := Str.ofString "__next__") hit.typeIs F.slot_tuple_iterator_next
    (wpAny_call_entry F.slot_tuple_iterator_next hit.typeIs F.entry_tuple_iterator_next ?_ (F.args_tuple_iterator_next_1 _)))
  show wpAny _ _ (field (.ref it) 0 >>= _) _ _ s
  refine wpAny_bind (wpAny_field ho hd (x := .ref t) rfl ?_)
  show wpAny _ _ (if (Value.ref t == Value.none) = true then _ else _) _ _ s
  rw [if_neg (show ¬ ((Value.ref t == Value.none) = true) from Bool.false_ne_true)]
  show wpAny _ _ (field (.ref it) 1 >>= _) _ _ s
  refine wpAny_bind (wpAny_field ho hd (x := .int i 0) rfl ?_)
  show wpAny _ _ (seqItems? (.ref t) >>= _) _ _ s
  refine wpAny_bind (wpAny_seqItems hol hdl ?_)
  simp only [Int.toNat_natCast, hx]
  refine wpAny_bind (wpAny_setField ho hd (by simp) (wpAny_pure ⟨x, rfl, wpAny_pure (hQ _ ?_ (Heap.SameBut.update ..))⟩))
  exact ⟨_, Heap.get?_update_self _ ho (Obj.isFreed_of_fields (Obj.data_mapFields hd _)), (Obj.cls_mapFields ..).trans hc, by
    rw [Obj.data_mapFields hd]; simp [rawInt]⟩
theorem nxt_end {it t : Addr} {i : Nat} {items : Array Value} {Q : Value → Shared → Prop} (hh : A.handled = none) (hit : s.heap.IsTupleIter it t i) (ht : s.heap.IsTuple t items) (hx : items[i]? = none)
    (hE : ∀ h' e, Heap.ExtBut it s.heap h' → (∃ o, h'.get? e = some o ∧ o.cls = .type "StopIteration") → E (.ref e) { s with heap := h' }) : wpAny (model prog w) A (Builtin.SmallTypes.nextOf (.ref it)) Q E s := by
  obtain ⟨o, ho, hc, hd⟩ := id hit
  obtain ⟨ol, hol, _, nl, hdl⟩ := ht
  unfold Builtin.SmallTypes.nextOf
  refine wpAny_bind (wpAny_callSpecial?_slot (name := Str.ofString "__next__") hit.typeIs F.slot_tuple_iterator_next
    (wpAny_call_entry F.slot_tuple_iterator_next hit.typeIs F.entry_tuple_iterator_next ?_ (F.args_tuple_iterator_next_1 _)))
  show wpAny _ _ (field (.ref it) 0 >>= _) _ _ s
  refine wpAny_bind (wpAny_field ho hd (x := .ref t) rfl ?_)
  show wpAny _ _ (if (Value.ref t == Value.none) = true then _ else _) _ _ s
  rw [if_neg (show ¬ ((Value.ref t == Value.none) = true) from Bool.false_ne_true)]
  show wpAny _ _ (field (.ref it) 1 >>= _) _ _ s
  refine wpAny_bind (wpAny_field ho hd (x := .int i 0) rfl ?_)
  show wpAny _ _ (seqItems? (.ref t) >>= _) _ _ s
  refine wpAny_bind (wpAny_seqItems hol hdl ?_)
  simp only [Int.toNat_natCast, hx]
  refine wpAny_bind (wpAny_rule (wpAny_bind (wpAny_setField ho hd (by simp) ?_)))
  show wpAny _ _ (newExc (.type "StopIteration") [] >>= _) _ _ _
  refine wpAny_bind ?_
  simp only [newExc, newTuple]
  refine wpAny_bind (wpAny_newObj_type ?_ (by size_fits))
  refine wpAny_bind (m := firstArgMember _ _) (wpAny_of_eq (a := Value.none) (by first | rfl | (simp only [firstArgMember]; rfl)) ?_)
  refine wpAny_newObj_type ?_ (by size_fits)
  simp only [raiseNew]
  refine wpAny_bind (wpAny_handled ?_)
  first | rw [show A.in1.handled = none from hh] | rw [hh]
  refine wpAny_bind (wpAny_pure (wpAny_throw ?_))
  exact hE _ _ (((Heap.SameBut.update ..).extBut.push _).push _) ⟨_, Heap.get?_push_size _ rfl, rfl⟩
structure Apart (z TI TO i1 i2 t1 t2 : Addr) : Prop where
  a1 : TI ≠ z
  a2 : TO ≠ z
  a3 : i1 ≠ z
  a4 : i2 ≠ z
  a5 : TI ≠ TO
  a6 : TI ≠ i1
  a7 : TI ≠ i2
  a8 : TO ≠ i1
  a9 : TO ≠ i2
  b1 : i1 ≠ i2
  b2 : t1 ≠ z ∧ t1 ≠ TO ∧ t1 ≠ i1 ∧ t1 ≠ i2
  b3 : t2 ≠ z ∧ t2 ≠ TO ∧ t2 ≠ i1 ∧ t2 ≠ i2
structure ZipAt (h : Heap) (z TI TO i1 i2 t1 t2 : Addr) (f : Value) (k : Nat) : Prop where
  zp : IsZip h z TI TO f
  ti : IsPair h TI (.ref i1) (.ref i2)
  to : ∃ a b, IsPair h TO a b
  i1 : h.IsTupleIter i1 t1 k
  i2 : h.IsTupleIter i2 t2 k
theorem next_item {z TI TO i1 i2 t1 t2 : Addr} {k : Nat} {xs ys : Array Value} {x y : Value} {Q : Option Value → Shared → Prop} (D : Apart z TI TO i1 i2 t1 t2) (Z : ZipAt s.heap z TI TO i1 i2 t1 t2 .none k)
    (hl1 : s.heap.IsTuple t1 xs) (hl2 : s.heap.IsTuple t2 ys) (hx : xs[k]? = some x) (hy : ys[k]? = some y)
    (hQ : ∀ h', ZipAt h' z TI TO i1 i2 t1 t2 (rawInt s.heap.objs.size) (k + 1) → IsPair h' s.heap.objs.size x y → (∀ c o, c ≠ z → c ≠ TO → c ≠ i1 → c ≠ i2 → s.heap.get? c = some o → h'.get? c = some o) → Q (some (.ref s.heap.objs.size)) { s with heap := h' }) :
    wpAny (model prog w) A (pyNext (.ref z)) Q E s := by
  obtain ⟨hz, hTI, ⟨a, b, hTO⟩, h1, h2⟩ := Z
  have hT : s.TypeIs (.ref z) "zip" := ⟨_, hz, rfl⟩
  unfold pyNext
  refine wpAny_bind (wpAny_attempt (wpAny_callSpecial?_slot (name := Str.ofString "__next__") hT F.slot_zip_next (wpAny_call_entry F.slot_zip_next hT F.entry_zip_next ?_ (F.args_zip_next_1 _))))
  show wpAny _ _ (field (.ref z) 2 >>= _) _ _ _
  refine wpAny_bind (wpAny_field hz rfl (x := .bool false) rfl ?_)
  show wpAny _ _ (field (.ref z) 3 >>= _) _ _ _
  refine wpAny_bind (wpAny_field hz rfl (x := .ref TI) rfl (wpAny_bind (wpAny_seqItems hTI rfl ?_)))
  show wpAny _ _ (Builtin.SmallTypes.ownedTupleIsFree (.ref z) >>= _) _ _ _
  refine wpAny_bind ?_
  unfold Builtin.SmallTypes.ownedTupleIsFree
  refine wpAny_bind (wpAny_field hz rfl (x := .none) rfl (wpAny_pure ?_))
  simp only [if_true]
  refine wpAny_bind (wpAny_rule (wpAny_bind (wpAny_field hz rfl (x := .ref TO) rfl (wpAny_bind (wpAny_setField_rec hz (by simp) fun g1 z1 s1 => ?_)))))
  replace z1 : IsZip g1 z TI TO .ellipsis := z1
  refine wpAny_bind ?_
  simp only [List.zipIdx_cons, List.zipIdx_nil, List.forIn_cons, List.forIn_nil]
  refine wpAny_bind (wpAny_bind (wpAny_onRaise ?_))
  show wpAny _ _ (Builtin.SmallTypes.nextOf (.ref i1) >>= _) _ _ _
  refine wpAny_bind (nxt_item (h1.extBut s1.extBut D.a3) (hl1.extBut s1.extBut D.b2.1) hx fun g2 p2 s2 => wpAny_pure ?_)
  have o2 : IsPair g2 TO a b := s2.extBut _ _ D.a8 (s1.extBut _ _ D.a2 hTO)
  refine wpAny_bind (wpAny_seqItems o2 rfl (wpAny_bind (wpAny_updateSeq_pair o2 fun g3 o3 s3 => wpAny_bind (wpAny_letGo (wpAny_pure ?_)))))
  replace o3 : IsPair g3 TO x b := o3
  refine wpAny_bind (wpAny_bind (wpAny_onRaise ?_))
  show wpAny _ _ (Builtin.SmallTypes.nextOf (.ref i2) >>= _) _ _ _
  refine wpAny_bind (nxt_item (((h2.extBut s1.extBut D.a4).extBut s2.extBut D.b1.symm).extBut s3.extBut D.a9.symm)
    (((hl2.extBut s1.extBut D.b3.1).extBut s2.extBut D.b3.2.2.1).extBut s3.extBut D.b3.2.1) hy fun g4 p4 s4 => wpAny_pure ?_)
  have o4 : IsPair g4 TO x b := s4.extBut _ _ D.a9 o3
  refine wpAny_bind (wpAny_seqItems o4 rfl (wpAny_bind (wpAny_updateSeq_pair o4 fun g5 o5 s5 => wpAny_bind (wpAny_letGo (wpAny_pure (wpAny_pure ?_))))))
  replace o5 : IsPair g5 TO x y := o5
  refine wpAny_bind (wpAny_seqItems o5 rfl (wpAny_bind (wpAny_newTuple ?_)))
  have sz : g5.objs.size = s.heap.objs.size := by rw [s5.1, s4.1, s3.1, s2.1, s1.1]
  have kp : ∀ c o, c ≠ z → c ≠ TO → c ≠ i1 → c ≠ i2 → s.heap.get? c = some o → g5.get? c = some o := fun c o c1 c2 c3 c4 e =>
    s5.extBut _ _ c2 (s4.extBut _ _ c4 (s3.extBut _ _ c2 (s2.extBut _ _ c3 (s1.extBut _ _ c1 e))))
  have z5 : IsZip g5 z TI TO .ellipsis := s5.extBut _ _ D.a2.symm (s4.extBut _ _ D.a4.symm (s3.extBut _ _ D.a2.symm (s2.extBut _ _ D.a3.symm z1)))
  have q1 : g5.IsTupleIter i1 t1 (k + 1) := ((p2.extBut s3.extBut D.a8.symm).extBut s4.extBut D.b1).extBut s5.extBut D.a8.symm
  have q2 : g5.IsTupleIter i2 t2 (k + 1) := p4.extBut s5.extBut D.a9.symm
  show wpAny _ _ (Builtin.SmallTypes.ownedTupleHandOut (.ref z) (.ref g5.objs.size) >>= _) _ _ _
  refine wpAny_bind ?_
  unfold Builtin.SmallTypes.ownedTupleHandOut
  have z6 : IsZip (g5.push { cls := .type "tuple", data := .seq #[x, y] }) z TI TO .ellipsis := Heap.get?_push_of_some _ z5
  refine wpAny_bind (wpAny_setField_rec z6 (by simp) fun g7 z7 s7 => ?_)
  replace z7 : IsZip g7 z TI TO (rawInt g5.objs.size) := z7
  refine wpAny_setField_rec z7 (by simp) fun g8 z8 s8 => ?_
  replace z8 : IsZip g8 z TI TO (rawInt g5.objs.size) := z8
  have up : ∀ c o, c ≠ z → g5.get? c = some o → g8.get? c = some o := fun c o c1 e => s8.extBut _ _ c1 (s7.extBut _ _ c1 (Heap.get?_push_of_some _ e))
  have ne : g5.objs.size ≠ z := Nat.ne_of_gt (Heap.lt_size z5)
  have t8 : IsPair g8 g5.objs.size x y := s8.extBut _ _ ne (s7.extBut _ _ ne (Heap.get?_push_size _ rfl))
  rw [sz] at z8 t8
  refine wpAny_pure ⟨_, rfl, wpAny_pure ?_⟩
  show Q (some (.ref g5.objs.size)) _
  rw [sz]
  exact hQ g8 ⟨z8, up _ _ D.a1 (kp _ _ D.a1 D.a5 D.a6 D.a7 hTI), ⟨x, y, up _ _ D.a2 o5⟩, q1.at fun o e => up _ o D.a3 e, q2.at fun o e => up _ o D.a4 e⟩ t8 fun c o c1 c2 c3 c4 e => up c o c1 (kp c o c1 c2 c3 c4 e)
theorem next_end {z TI TO i1 i2 t1 t2 : Addr} {k : Nat} {xs ys : Array Value} {Q : Option Value → Shared → Prop} (hh : A.handled = none) (D : Apart z TI TO i1 i2 t1 t2) (Z : ZipAt s.heap z TI TO i1 i2 t1 t2 .none k)
    (hl1 : s.heap.IsTuple t1 xs) (hl2 : s.heap.IsTuple t2 ys) (hend : xs[k]? = none ∨ ys[k]? = none)
    (hQ : ∀ h', (∀ c o, c ≠ z → c ≠ TO → c ≠ i1 → c ≠ i2 → s.heap.get? c = some o → h'.get? c = some o) → Q none { s with heap := h' }) : wpAny (model prog w) A (pyNext (.ref z)) Q E s := by
  obtain ⟨hz, hTI, ⟨a, b, hTO⟩, h1, h2⟩ := Z
  have hT : s.TypeIs (.ref z) "zip" := ⟨_, hz, rfl⟩
  have fin : ∀ (h' : Heap) (e : Addr), (∀ c o, c ≠ z → c ≠ TO → c ≠ i1 → c ≠ i2 → s.heap.get? c = some o → h'.get? c = some o) → (∃ o, h'.get? e = some o ∧ o.cls = .type "StopIteration") →
      wpAny (model prog w) A (isInstance (.ref e) (.type "StopIteration") >>= fun x => if x = true then pure none else throw (.ref e)) Q E { s with heap := h' } := fun h' e hk he => by
    obtain ⟨o, ho, hc⟩ := he
    refine wpAny_bind (wpAny_isInstance (T := "StopIteration") (b := true) ⟨o, ho, hc⟩ isSubtype_stop ?_)
    exact wpAny_pure (hQ _ hk)
  unfold pyNext
  refine wpAny_bind (wpAny_attempt (wpAny_callSpecial?_slot (name := Str.ofString "__next__") hT F.slot_zip_next (wpAny_call_entry F.slot_zip_next hT F.entry_zip_next ?_ (F.args_zip_next_1 _))))
  show wpAny _ _ (field (.ref z) 2 >>= _) _ _ _
  refine wpAny_bind (wpAny_field hz rfl (x := .bool false) rfl ?_)
  show wpAny _ _ (field (.ref z) 3 >>= _) _ _ _
  refine wpAny_bind (wpAny_field hz rfl (x := .ref TI) rfl (wpAny_bind (wpAny_seqItems hTI rfl ?_)))
  show wpAny _ _ (Builtin.SmallTypes.ownedTupleIsFree (.ref z) >>= _) _ _ _
  refine wpAny_bind ?_
  unfold Builtin.SmallTypes.ownedTupleIsFree
  refine wpAny_bind (wpAny_field hz rfl (x := .none) rfl (wpAny_pure ?_))
  simp only [if_true]
  refine wpAny_bind (wpAny_rule (wpAny_bind (wpAny_field hz rfl (x := .ref TO) rfl (wpAny_bind (wpAny_setField_rec hz (by simp) fun g1 z1 s1 => ?_)))))
  replace z1 : IsZip g1 z TI TO .ellipsis := z1
  refine wpAny_bind ?_
  simp only [List.zipIdx_cons, List.zipIdx_nil, List.forIn_cons, List.forIn_nil]
  refine wpAny_bind (wpAny_bind (wpAny_onRaise ?_))
  show wpAny _ _ (Builtin.SmallTypes.nextOf (.ref i1) >>= _) _ _ _
  cases hx : xs[k]? with
  | none =>
    refine wpAny_bind (nxt_end hh (h1.extBut s1.extBut D.a3) (hl1.extBut s1.extBut D.b2.1) hx fun g2 e s2 he => ?_)
    obtain ⟨oe, hoe, hce⟩ := he
    have z2 : IsZip g2 z TI TO .ellipsis := s2 _ _ D.a3.symm z1
    have hez : e ≠ z := fun q => by subst q; rw [z2] at hoe; cases hoe; simp at hce
    refine wpAny_setField_rec z2 (by simp) fun g3 _ s3 => ?_
    exact fin g3 e (fun c o c1 _ c3 _ q => s3.extBut _ _ c1 (s2 _ _ c3 (s1.extBut _ _ c1 q))) ⟨oe, s3.extBut _ _ hez hoe, hce⟩
  | some x =>
    have hy : ys[k]? = none := by
      rcases hend with q | q
      · rw [hx] at q; cases q
      · exact q
    refine wpAny_bind (nxt_item (h1.extBut s1.extBut D.a3) (hl1.extBut s1.extBut D.b2.1) hx fun g2 p2 s2 => wpAny_pure ?_)
    have o2 : IsPair g2 TO a b := s2.extBut _ _ D.a8 (s1.extBut _ _ D.a2 hTO)
    refine wpAny_bind (wpAny_seqItems o2 rfl (wpAny_bind (wpAny_updateSeq_pair o2 fun g3 o3 s3 => wpAny_bind (wpAny_letGo (wpAny_pure ?_)))))
    refine wpAny_bind (wpAny_bind (wpAny_onRaise ?_))
    show wpAny _ _ (Builtin.SmallTypes.nextOf (.ref i2) >>= _) _ _ _
    refine wpAny_bind (nxt_end hh (((h2.extBut s1.extBut D.a4).extBut s2.extBut D.b1.symm).extBut s3.extBut D.a9.symm)
      (((hl2.extBut s1.extBut D.b3.1).extBut s2.extBut D.b3.2.2.1).extBut s3.extBut D.b3.2.1) hy fun g4 e s4 he => ?_)
    obtain ⟨oe, hoe, hce⟩ := he
    have z4 : IsZip g4 z TI TO .ellipsis := s4 _ _ D.a4.symm (s3.extBut _ _ D.a2.symm (s2.extBut _ _ D.a3.symm z1))
    have hez : e ≠ z := fun q => by subst q; rw [z4] at hoe; cases hoe; simp at hce
    refine wpAny_setField_rec z4 (by simp) fun g5 _ s5 => ?_
    exact fin g5 e (fun c o c1 c2 c3 c4 q => s5.extBut _ _ c1 (s4 _ _ c4 (s3.extBut _ _ c2 (s2.extBut _ _ c3 (s1.extBut _ _ c1 q))))) ⟨oe, s5.extBut _ _ hez hoe, hce⟩
end
abbrev zh1 (h : Heap) (t1 : Addr) : Heap := h.push { cls := .type "tuple_iterator", data := .fields #[.ref t1, .int 0 0] }
abbrev zh2 (h : Heap) (t1 t2 : Addr) : Heap := (zh1 h t1).push { cls := .type "tuple_iterator", data := .fields #[.ref t2, .int 0 0] }
abbrev zh3 (h : Heap) (t1 t2 : Addr) : Heap := (zh2 h t1 t2).push { cls := .type "tuple", data := .seq #[.ref h.objs.size, .ref (zh1 h t1).objs.size] }
abbrev zh4 (h : Heap) (t1 t2 : Addr) : Heap := (zh3 h t1 t2).push { cls := .type "tuple", data := .seq #[.none, .none] }
abbrev zh5 (h : Heap) (t1 t2 : Addr) : Heap := (zh4 h t1 t2).push { cls := .type "zip", data := .fields #[.none, .bool false, .bool false, .ref (zh2 h t1 t2).objs.size, .ref (zh3 h t1 t2).objs.size] }
theorem made (t1 t2 : Addr) (xs ys : Array Value) :
    Meets (Builtin.«zip.__new__» ⟨[.type "zip", .ref t1, .ref t2], []⟩) (fun _ R s => s.heap.IsTuple t1 xs ∧ s.heap.IsTuple t2 ys ∧ R (.ok (.ret (.ref (zh4 s.heap t1 t2).objs.size))) { s with heap := zh5 s.heap t1 t2 }) :=
  .of_wp fun prog w A R s h => by
    obtain ⟨hp, g, d, tk, os⟩ := s; obtain ⟨hl1, hl2, h⟩ := h
    have hsub := sub_zip
    have k1 : Heap.IsTuple (Shared.heap ⟨hp, g, d, tk, os⟩) t1 xs := hl1
    have k2 : Heap.IsTuple (Shared.heap ⟨hp.push { cls := .type "tuple_iterator", data := .fields #[.ref t1, .int 0 0] }, g, d, tk, os⟩) t2 ys := hl2.at fun o e => Heap.get?_push_of_some _ e
    wp_walk using wpAny_pyIter_tuple k1, wpAny_pyIter_tuple k2
    exact ⟨_, rfl, h⟩
section
variable {prog : Program} {w : World} {A : Around} {E : Value → Shared → Prop} {s : Shared}
theorem call_two {t1 t2 : Addr} {xs ys : Array Value} {Q : Value → Shared → Prop} (hl1 : s.heap.IsTuple t1 xs) (hl2 : s.heap.IsTuple t2 ys)
    (h : ∀ h', ZipAt h' (s.heap.objs.size + 4) (s.heap.objs.size + 2) (s.heap.objs.size + 3) s.heap.objs.size (s.heap.objs.size + 1) t1 t2 .none 0 → (∀ c o, s.heap.get? c = some o → h'.get? c = some o) → Q (.ref (s.heap.objs.size + 4)) { s with heap := h' }) :
    wpAny (model prog w) A (call (.type "zip") [.ref t1, .ref t2]) Q E s := by
  refine callType_new F.called_zip (by decide) (F.typeCall_zip_2 _ _) (F.newCall_zip_2 _ _) (fun obj => F.args_object_init_3 obj _ _) F.entry_zip_new (made t1 t2 xs ys) ⟨hl1, hl2, ?_⟩
  have z1 : (zh1 s.heap t1).objs.size = s.heap.objs.size + 1 := Heap.size_push ..
  have z2 : (zh2 s.heap t1 t2).objs.size = s.heap.objs.size + 2 := by rw [Heap.size_push, z1]
  have z3 : (zh3 s.heap t1 t2).objs.size = s.heap.objs.size + 3 := by rw [Heap.size_push, z2]
  have z4 : (zh4 s.heap t1 t2).objs.size = s.heap.objs.size + 4 := by rw [Heap.size_push, z3]
  have g5 : (zh5 s.heap t1 t2).get? (zh4 s.heap t1 t2).objs.size = some _ := Heap.get?_push_size _ rfl
  have g4 : (zh5 s.heap t1 t2).get? (zh3 s.heap t1 t2).objs.size = some _ := Heap.get?_push_of_some _ (Heap.get?_push_size _ rfl)
  have g3 : (zh5 s.heap t1 t2).get? (zh2 s.heap t1 t2).objs.size = some _ := Heap.get?_push_of_some _ (Heap.get?_push_of_some _ (Heap.get?_push_size _ rfl))
  have g2 : (zh5 s.heap t1 t2).get? (zh1 s.heap t1).objs.size = some _ := Heap.get?_push_of_some _ (Heap.get?_push_of_some _ (Heap.get?_push_of_some _ (Heap.get?_push_size _ rfl)))
  have g1 : (zh5 s.heap t1 t2).get? s.heap.objs.size = some _ := Heap.get?_push_of_some _ (Heap.get?_push_of_some _ (Heap.get?_push_of_some _ (Heap.get?_push_of_some _ (Heap.get?_push_size _ rfl))))
  show _ ∧ _
  rw [z2, z3, z4] at g5
  rw [z1, z2] at g3
  rw [z3] at g4
  rw [z1] at g2
  rw [z4]
  exact ⟨⟨_, g5, rfl⟩, h _ ⟨g5, g3, ⟨_, _, g4⟩, ⟨_, g1, rfl, rfl⟩, ⟨_, g2, rfl, rfl⟩⟩ fun c o x => Heap.get?_push_of_some _ (Heap.get?_push_of_some _ (Heap.get?_push_of_some _ (Heap.get?_push_of_some _ (Heap.get?_push_of_some _ x))))⟩
end
end Rz
namespace L2
open PySem PySem.Spec PyProof.Rows
section
variable {X : Cx} {pins : List (Addr × Obj)} {σ : St} {H : Hp} {s : Shared} {h' : Heap}
theorem Inv.turnedNew {t' : Nat} {ch : List Addr} {a : Addr} {o : HO} (I : Inv X pins σ H s) (hch : ∀ b ∈ ch, FpOk X pins H b) (k : ∀ b u, b ∉ ch → s.heap.get? b = some u → h'.get? b = some u) (hp : s.heap.objs.size ≤ a)
    (new : ObjOk X.prog X.w (upd H a o) h' a o) : Inv X pins σ (upd H a o) { s with heap := h', toks := t' } := by
  have hn : H a = none := I.hok.fresh hp
  have nch : ∀ b u, H b = some u → b ∉ ch := fun b u e z => by rw [(hch b z).1] at e; cases e
  refine I.step (g' := s.gens) (d' := s.drawn) (ch := ch) (fun b hb => ?_) (fun b u _ _ hc e _ => k b u hc e) (fun b u _ _ hc e _ => ⟨u.slots, k b u hc e⟩) (fun b u hc e n => ?_) (fun b u hc e => ⟨u, k b u hc e⟩)
    (fun b xs e => by rw [upd_ne (ne_of_none e hn)]; exact e) (fun b u v e => by rw [upd_ne (ne_of_none e hn)]; exact e) (fun b ps e => ⟨#[], by rw [upd_ne (ne_of_none e hn), e]; simp⟩) (fun m hm => ?_) (fun b u e => ?_) I.bare
  · obtain ⟨f0, f1, f2, f3, f4, f5⟩ := hch b hb
    exact ⟨f3, f1, f4, f5⟩
  · rw [upd_ne (Nat.ne_of_lt (Nat.lt_of_lt_of_le (Heap.lt_size e) hp))]; exact n
  · obtain ⟨u, es, ep, ho, r⟩ := hm
    exact ⟨u, es, ep, k _ u (fun z => (hch _ z).2.1 rfl) ho, r⟩
  · by_cases hb : b = a
    · subst hb; rw [upd_same] at e; cases e; exact new
    · rw [upd_ne hb] at e
      refine (I.hok b u e).stay (fun c v hc q => k c v ?_ q) (fun c q => by rw [upd_ne (ne_of_none q hn)]; exact q) fun c xs q => by rw [upd_ne (ne_of_none q hn)]; exact q
      rcases hc with z | z
      · rw [z]; exact nch b u e
      · exact nch c _ z
theorem Inv.turnedAll {t' : Nat} {ch : List Addr} (I : Inv X pins σ H s) (hch : ∀ b ∈ ch, FpOk X pins H b) (k : ∀ b u, b ∉ ch → s.heap.get? b = some u → h'.get? b = some u) : Inv X pins σ H { s with heap := h', toks := t' } := by
  have nch : ∀ b u, H b = some u → b ∉ ch := fun b u e z => by rw [(hch b z).1] at e; cases e
  refine I.step (g' := s.gens) (d' := s.drawn) (ch := ch) (fun b hb => ?_) (fun b u _ _ hc e _ => k b u hc e) (fun b u _ _ hc e _ => ⟨u.slots, k b u hc e⟩) (fun b u hc e n => n) (fun b u hc e => ⟨u, k b u hc e⟩)
    (fun b xs e => e) (fun b u v e => e) (fun b ps e => ⟨#[], by rw [e]; simp⟩) (fun m hm => ?_) (fun b u e => ?_) I.bare
  · obtain ⟨f0, f1, f2, f3, f4, f5⟩ := hch b hb
    exact ⟨f3, f1, f4, f5⟩
  · obtain ⟨u, es, ep, ho, r⟩ := hm
    exact ⟨u, es, ep, k _ u (fun z => (hch _ z).2.1 rfl) ho, r⟩
  · refine (I.hok b u e).stay (fun c v hc q => k c v ?_ q) (fun c q => q) fun c xs q => q
    rcases hc with z | z
    · rw [z]; exact nch b u e
    · exact nch c _ z
end
def Itz (t1 t2 : Addr) : It :=
  ⟨fun i H => ∃ xs ys x y, H t1 = some (.tup xs) ∧ H t2 = some (.tup ys) ∧ xs[i]? = some x ∧ ys[i]? = some y,
   fun i H v H' => ∃ p x y, H p = none ∧ (∀ xs, H t1 = some (.tup xs) → xs[i]? = some x) ∧ (∀ ys, H t2 = some (.tup ys) → ys[i]? = some y) ∧ v = .ref p ∧ H' = upd H p (.tup [x, y]),
   fun i H => ∃ xs ys, H t1 = some (.tup xs) ∧ H t2 = some (.tup ys) ∧ (xs.length ≤ i ∨ ys.length ≤ i)⟩
theorem turn_zip {P : Program} {w : World} {K : PySem.W.Frag} {elts : List Expr} {x1} {tpos : Pos} {z TI TO i1 i2 t1 t2 : Addr} (D : Rz.Apart z TI TO i1 i2 t1 t2) :
    Turn P w K (.Tuple elts x1 tpos) (Itz t1 t2) [z, TI, TO, i1, i2] z (fun i h => Rz.ZipAt h z TI TO i1 i2 t1 t2 .none i) where
  mem := by simp
  obj := fun i h st b hb => by
    obtain ⟨a1, a2, ⟨_, _, a3⟩, ⟨o4, a4, _, d4⟩, ⟨o5, a5, _, d5⟩⟩ := st
    simp only [List.mem_cons, List.not_mem_nil, or_false] at hb
    rcases hb with rfl | rfl | rfl | rfl | rfl
    · exact ⟨_, a1, fun v q => nomatch q⟩
    · exact ⟨_, a2, fun v q => nomatch q⟩
    · exact ⟨_, a3, fun v q => nomatch q⟩
    · exact ⟨_, a4, fun v q => by rw [d4] at q; cases q⟩
    · exact ⟨_, a5, fun v q => by rw [d5] at q; cases q⟩
  keep := fun i h h' st k => by
    obtain ⟨a1, a2, ⟨a, b, a3⟩, a4, a5⟩ := st
    exact ⟨k z (by simp) _ a1, k TI (by simp) _ a2, ⟨a, b, k TO (by simp) _ a3⟩, a4.at fun o e => k i1 (by simp) o e, a5.at fun o e => k i2 (by simp) o e⟩
  item := by
    intro X hP hw hK hc i pins s σ H E I hf st hg
    subst hP hw hK
    obtain ⟨xs, ys, x, y, h1, h2, hx, hy⟩ := hg
    obtain ⟨its1, r1, p1, _⟩ := I.tuple (SqT.of h1)
    obtain ⟨its2, r2, p2, _⟩ := I.tuple (SqT.of h2)
    obtain ⟨u1, hu1, ru1⟩ := r1.get hx
    obtain ⟨u2, hu2, ru2⟩ := r2.get hy
    refine Rz.next_item D st (show s.heap.IsTuple t1 its1.toArray from p1) (show s.heap.IsTuple t2 its2.toArray from p2) (by simpa using hu1) (by simpa using hu2) fun h' st' tp kp => ?_
    have hlt : ∀ b ∈ [z, TI, TO, i1, i2], b ≠ s.heap.objs.size := fun b hb => by
      obtain ⟨a1, a2, ⟨_, _, a3⟩, ⟨o4, a4, _, d4⟩, ⟨o5, a5, _, d5⟩⟩ := st
      simp only [List.mem_cons, List.not_mem_nil, or_false] at hb
      rcases hb with rfl | rfl | rfl | rfl | rfl
      · exact Nat.ne_of_lt (Heap.lt_size a1)
      · exact Nat.ne_of_lt (Heap.lt_size a2)
      · exact Nat.ne_of_lt (Heap.lt_size a3)
      · exact Nat.ne_of_lt (Heap.lt_size a4)
      · exact Nat.ne_of_lt (Heap.lt_size a5)
    have fr : H s.heap.objs.size = none := I.hok.fresh (Nat.le_refl _)
    refine ⟨_, rfl, wpAny_letOwnedTupleGo_zip st'.zp fun h2' z2 s2 => ?_⟩
    have I1 : Inv X pins σ (upd H s.heap.objs.size (.tup [x, y])) { s with heap := h2', toks := s.toks } := by
      refine I.turnedNew (ch := [z, TI, TO, i1, i2]) hf (fun b u hb e => ?_) (Nat.le_refl _) ⟨by show 2 ≤ sizeLine; decide, [u1, u2], .cons ru1 (.cons ru2 .nil), ?_⟩
      · simp only [List.mem_cons, List.not_mem_nil, or_false, not_or] at hb
        exact s2.extBut _ _ hb.1 (kp b u hb.1 hb.2.2.1 hb.2.2.2.1 hb.2.2.2.2 e)
      · exact ⟨_, s2.extBut _ _ (hlt z (by simp)).symm tp, rfl, rfl, 0, rfl⟩
    refine ⟨.ref s.heap.objs.size, _, I1, rfl, ⟨_, x, y, fr, fun xs' e => ?_, fun ys' e => ?_, rfl, rfl⟩, ?_, fun b hb => ?_⟩
    · rw [h1] at e; cases e; exact hx
    · rw [h2] at e; cases e; exact hy
    · obtain ⟨a1, a2, ⟨a, b, a3⟩, a4, a5⟩ := st'
      exact ⟨z2, s2.extBut _ _ D.a1 a2, ⟨a, b, s2.extBut _ _ D.a2 a3⟩, a4.extBut s2.extBut D.a3, a5.extBut s2.extBut D.a4⟩
    · rw [upd_ne (hlt b hb)]; exact (hf b hb).1
  done := by
    intro X hP hw hK hc i pins s σ H E I hf st hg
    subst hP hw hK
    obtain ⟨xs, ys, h1, h2, he⟩ := hg
    obtain ⟨its1, r1, p1, _⟩ := I.tuple (SqT.of h1)
    obtain ⟨its2, r2, p2, _⟩ := I.tuple (SqT.of h2)
    have l1 := r1.length
    have l2 := r2.length
    refine Rz.next_end (I.ok.hd hc) D st (show s.heap.IsTuple t1 its1.toArray from p1) (show s.heap.IsTuple t2 its2.toArray from p2) ?_ fun h' kp => ⟨rfl, I.turnedAll (t' := s.toks) (ch := [z, TI, TO, i1, i2]) hf fun b u hb e => ?_⟩
    · rcases he with q | q
      · exact .inl (by simp; omega)
      · exact .inr (by simp; omega)
    · simp only [List.mem_cons, List.not_mem_nil, or_false, not_or] at hb
      exact kp b u hb.1 hb.2.2.1 hb.2.2.2.1 hb.2.2.2.2 e
  self := fun _ _ _ _ _ st h => wpAny_pyIter_zip st.zp h
section
variable {X : Cx}
theorem apart_new (n t1 t2 : Nat) (h1 : t1 < n) (h2 : t2 < n) : Rz.Apart (n + 4) (n + 2) (n + 3) n (n + 1) t1 t2 where
  a1 := by show ¬ (n + 2 = n + 4); omega
  a2 := by show ¬ (n + 3 = n + 4); omega
  a3 := by show ¬ (n = n + 4); omega
  a4 := by show ¬ (n + 1 = n + 4); omega
  a5 := by show ¬ (n + 2 = n + 3); omega
  a6 := by show ¬ (n + 2 = n); omega
  a7 := by show ¬ (n + 2 = n + 1); omega
  a8 := by show ¬ (n + 3 = n); omega
  a9 := by show ¬ (n + 3 = n + 1); omega
  b1 := by show ¬ (n = n + 1); omega
  b2 := ⟨by show ¬ (t1 = n + 4); omega, by show ¬ (t1 = n + 3); omega, by show ¬ (t1 = n); omega, by show ¬ (t1 = n + 1); omega⟩
  b3 := ⟨by show ¬ (t2 = n + 4); omega, by show ¬ (t2 = n + 3); omega, by show ¬ (t2 = n); omega, by show ¬ (t2 = n + 1); omega⟩
def iZip (ta : TA) : TI := fun σ H R => ta σ H fun vs H1 => ∃ t1 t2 xs ys, vs = [.ref t1, .ref t2] ∧ H1 t1 = some (.tup xs) ∧ H1 t2 = some (.tup ys) ∧ R (Itz t1 t2) H1
theorem boot_zip' : bootBuiltins "zip" = some (.type "zip") := by decide +kernel
theorem pi_zip {a b : Expr} {elts : List Expr} {x1} {tpos : Pos} {ta : TA} {p pos : Pos} (hg : Gl X "zip") (hm : X.mg "zip" = none) (ha : PA X [a, b] ta) (hs : starEach [a, b] X.env = [(false, eval a X.env), (false, eval b X.env)] := by rfl) (hs2 : starEach [b] X.env = [(false, eval b X.env)] := by rfl) :
    PI X (.Tuple elts x1 tpos) (.Call (.Name "zip" p) [a, b] [] pos) (iZip ta) := by
  intro pins s σ H R I h
  refine Call_ (ld_blt I hg hm boot_zip' (PyProof.Rows.callWith_type1 (thn (ha pos pins s σ H _ I h) fun us s1 ⟨vs, H1, I1, r1, q1⟩ => ?_) (by rw [hs, hs2]) (by rw [hs2]; rfl)))
  obtain ⟨t1, t2, xs, ys, e, h1, h2, q⟩ := q1
  subst e
  obtain ⟨u, v, rfl, ru, rv⟩ := vals2 r1
  cases (show u = Value.ref t1 from ru)
  cases (show v = Value.ref t2 from rv)
  obtain ⟨its1, w1, p1, _⟩ := I1.tuple (SqT.of h1)
  obtain ⟨its2, w2, p2, _⟩ := I1.tuple (SqT.of h2)
  have n1 : t1 < s1.heap.objs.size := I1.hok.lt h1
  have n2 : t2 < s1.heap.objs.size := I1.hok.lt h2
  refine Rz.call_two (show s1.heap.IsTuple t1 its1.toArray from p1) (show s1.heap.IsTuple t2 its2.toArray from p2) fun h' st kp => ?_
  refine wpAny_pyIter_zip (s := { s1 with heap := h' }) st.zp ?_
  have D := apart_new s1.heap.objs.size t1 t2 n1 n2
  refine ⟨s1.heap.objs.size + 4, _, _, _, H1, rfl, I1.kept (t' := s1.toks) kp, turn_zip D, st, fun b hb => ?_, q⟩
  have hb' : s1.heap.objs.size ≤ b := by
    simp only [List.mem_cons, List.not_mem_nil, or_false] at hb
    rcases hb with rfl | rfl | rfl | rfl | rfl <;> omega
  exact I1.fpOk hb' (I1.hok.fresh hb')
end
end L2
namespace Rk
open PySem PySem.Spec PyProof.Rows L2
def tupO : Option HO → Option (List V)
  | some (.tup xs) => some xs
  | _ => none
def tupOf (H : Hp) : V → Option (List V)
  | .ref a => tupO (H a)
  | _ => none
theorem tupOf_at (H : Hp) (a : Addr) : tupOf H (.ref a) = tupO (H a) := rfl
def isT (H : Hp) (x : V) : Bool := (tupOf H x).isSome
def isI : V → Bool
  | .int _ => true
  | _ => false
def isB : V → Bool
  | .bl _ => true
  | _ => false
def Kn (p : Addr) (H : Hp) : V → Prop
  | .non => True
  | .bl _ => True
  | .int _ => True
  | .str _ => True
  | .ref a => a ≠ p ∧ ((∃ xs, H a = some (.tup xs)) ∨ (∃ xs, H a = some (.lst xs)) ∨ ∃ kvs, H a = some (.dK kvs))
  | _ => False
def KnD (p : Addr) : Nat → Hp → V → Prop
  | 0, H, x => Kn p H x
  | n + 1, H, x => Kn p H x ∧ ∀ xs, tupOf H x = some xs → ∀ y ∈ xs, KnD p n H y
def KX (p : Addr) (H H' : Hp) : Prop := ∀ b o, b ≠ p → H b = some o → H' b = some o
theorem KX.of {p : Addr} {H H' : Hp} (h : Same H H') : KX p H H' := fun b o _ e => h b o e
theorem KX.new {p q : Addr} {H : Hp} {o : HO} (h : H q = none) : KX p H (L2.upd H q o) := KX.of (same_upd h)
theorem tupOf_keep {p : Addr} {H H' : Hp} (k : KX p H H') : ∀ {x : V}, Kn p H x → tupOf H' x = tupOf H x
  | .non, h => rfl
  | .bl _, h => rfl
  | .int _, h => rfl
  | .str _, h => rfl
  | .ref a, ⟨n, h⟩ => by
    rcases h with ⟨xs, e⟩ | ⟨xs, e⟩ | ⟨xs, e⟩ <;> rw [tupOf_at, tupOf_at, e, k a _ n e]
  | .byt _, h => h.elim
  | .flt _, h => h.elim
  | .ty _, h => h.elim
theorem KnD.tup {p : Addr} {H : Hp} {n : Nat} {a : Addr} {xs : List V} (hp : a ≠ p) (e : H a = some (.tup xs)) (h : ∀ y ∈ xs, KnD p n H y) : KnD p (n + 1) H (.ref a) :=
  ⟨⟨hp, .inl ⟨xs, e⟩⟩, fun ys z y hy => h y (by
    have z' : some xs = some ys := by rw [← z, tupOf_at, e]; rfl
    cases z'; exact hy)⟩
theorem KnD.int {p : Addr} {H : Hp} (i : Int) : ∀ (n : Nat), KnD p n H (.int i)
  | 0 => trivial
  | n + 1 => ⟨trivial, fun _ e => nomatch e⟩
theorem tupOf_ref {H : Hp} {a : Addr} {xs : List V} (e : H a = some (.tup xs)) : tupOf H (.ref a) = some xs := by rw [tupOf_at, e]; rfl
theorem inst_int {K : PySem.W.Frag} {p : Addr} {H : Hp} : ∀ {x : V}, Kn p H x → ∃ t, TyOf K H x t ∧ PySem.W.kitOne K t (.type "int") = some (isI x || isB x)
  | .non, h => ⟨_, .non, rfl⟩
  | .bl _, h => ⟨_, .bl _, rfl⟩
  | .int _, h => ⟨_, .int _, rfl⟩
  | .str _, h => ⟨_, .str _, rfl⟩
  | .ref a, ⟨_, h⟩ => by
    rcases h with ⟨xs, e⟩ | ⟨xs, e⟩ | ⟨xs, e⟩
    · exact ⟨_, .tup e, rfl⟩
    · exact ⟨_, .lst e, rfl⟩
    · exact ⟨_, .dK e, rfl⟩
  | .byt _, h => h.elim
  | .flt _, h => h.elim
  | .ty _, h => h.elim
theorem inst_bool {K : PySem.W.Frag} {p : Addr} {H : Hp} : ∀ {x : V}, Kn p H x → ∃ t, TyOf K H x t ∧ PySem.W.kitOne K t (.type "bool") = some (isB x)
  | .non, h => ⟨_, .non, rfl⟩
  | .bl _, h => ⟨_, .bl _, rfl⟩
  | .int _, h => ⟨_, .int _, rfl⟩
  | .str _, h => ⟨_, .str _, rfl⟩
  | .ref a, ⟨_, h⟩ => by
    rcases h with ⟨xs, e⟩ | ⟨xs, e⟩ | ⟨xs, e⟩
    · exact ⟨_, .tup e, rfl⟩
    · exact ⟨_, .lst e, rfl⟩
    · exact ⟨_, .dK e, rfl⟩
  | .byt _, h => h.elim
  | .flt _, h => h.elim
  | .ty _, h => h.elim
def intsOf (H : Hp) (x : V) : List Int := ((tupOf H x).getD []).map fun y => match y with
  | .int i => i
  | _ => 0
def IntsT (H : Hp) (x : V) (ns : List Int) : Prop := ∃ a, x = .ref a ∧ H a = some (.tup (ns.map V.int))
theorem IntsT.eq {H : Hp} {x : V} {ns : List Int} (h : IntsT H x ns) : intsOf H x = ns := by
  obtain ⟨a, rfl, e⟩ := h
  unfold intsOf
  rw [tupOf_ref e]
  show (ns.map V.int).map _ = ns
  rw [List.map_map]
  exact List.map_id _
end Rk
namespace Rk
open PySem PySem.Spec PyProof.Rows L2
theorem bt_isinstance : bootBuiltins "isinstance" = some (.builtin "isinstance") := by decide +kernel
theorem bt_int : bootBuiltins "int" = some (.type "int") := by decide +kernel
theorem bt_bool : bootBuiltins "bool" = some (.type "bool") := by decide +kernel
theorem bt_tuple : bootBuiltins "tuple" = some (.type "tuple") := by decide +kernel
theorem bt_list : bootBuiltins "list" = some (.type "list") := by decide +kernel
theorem bt_str : bootBuiltins "str" = some (.type "str") := by decide +kernel
theorem bt_all : bootBuiltins "all" = some (.builtin "all") := by decide +kernel
theorem bt_len : bootBuiltins "len" = some (.builtin "len") := by decide +kernel
theorem bt_max : bootBuiltins "max" = some (.builtin "max") := by decide +kernel
theorem bt_min : bootBuiltins "min" = some (.builtin "min") := by decide +kernel
end Rk
namespace L2
open PySem PySem.Spec PyProof.Rows
theorem loop_by {J : It} {body : V → Hp → (Hp → Prop) → Prop} {Qn : Hp → Prop} {H : Hp} (n : Nat) (Pv : Nat → Hp → Prop) (h0 : Pv 0 H)
    (hs : ∀ i H2, i < n → Pv i H2 → J.go i H2 ∧ ∀ x H3, J.yld i H2 x H3 → ∀ k : Hp → Prop, (∀ H6, Pv (i + 1) H6 → k H6) → body x H3 k) (hd : ∀ H2, Pv n H2 → J.stop n H2 ∧ Qn H2) : tLoop J body Qn H := by
  refine ⟨fun i m H => m = n - i ∧ i ≤ n ∧ Pv i H, ⟨n, by simp, Nat.zero_le _, h0⟩, ?_⟩
  rintro i m H2 ⟨rfl, hi, p⟩
  by_cases hlt : i < n
  · obtain ⟨go, st⟩ := hs i H2 hlt p
    exact .inr ⟨go, fun x H3 y => st x H3 y _ fun H6 p6 => ⟨n - (i + 1), by omega, rfl, hlt, p6⟩⟩
  · have e : i = n := by omega
    subst e
    exact .inl (hd H2 p)
theorem comp_bools {J : It} {σ : St} {g : TG} {te : TE} {p : Addr} {H1 : Hp} {Qn : Hp → Prop} (n : Nat) (hn : n < sizeLine) (F : Nat → Bool) (hp : H1 p = none)
    (hs : ∀ i H2, i < n → Same H1 H2 → J.go i H2 ∧ ∀ x H3, J.yld i H2 x H3 → ∀ k : VK, (∀ H6, Same H2 H6 → k (.bl (F i)) H6) → g x σ H3 fun σ4 H4 => Wk σ σ4 ∧ te σ4 H4 k)
    (hst : ∀ H2, Same H1 H2 → J.stop n H2) (hq : ∀ H2, Same H1 H2 → H2 p = some (.lst (((List.range n).map F).map V.bl)) → Qn H2) :
    tLoop J (bOf σ g tNoTest (bElt p te)) Qn (upd H1 p (.lst [])) := by
  refine loop_by n (fun i H2 => Same H1 H2 ∧ H2 p = some (.lst (((List.range i).map F).map V.bl))) ⟨same_upd hp, upd_same⟩ (fun i H2 hi ⟨s2, e2⟩ => ?_) fun H2 ⟨s2, e2⟩ => ⟨hst H2 s2, hq H2 s2 e2⟩
  obtain ⟨go, st⟩ := hs i H2 hi s2
  refine ⟨go, fun x H3 y k hk => ?_⟩
  refine st x H3 y (fun v H6 => ∃ ys, H6 p = some (.lst ys) ∧ ys.length < sizeLine ∧ k (upd H6 p (.lst (ys ++ [v])))) fun H6 s6 => ?_
  have e6 := s6 p _ e2
  refine ⟨_, e6, ?_, hk _ ⟨fun b o e => ?_, ?_⟩⟩
  · rw [List.length_map, List.length_map, List.length_range]; omega
  · have hb : b ≠ p := ne_of_none e hp
    rw [upd_ne hb]; exact s6 b o (s2 b o e)
  · rw [upd_same, List.range_succ, List.map_append, List.map_append]; rfl
end L2
namespace Rk
open PySem PySem.Spec PyProof.Rows L2
end Rk
namespace Rk
open PySem PySem.Spec PyProof.Rows L2
def spCellAt (K : PySem.W.Frag) : Sp := fun vs H Q _ => ∃ a ns k, vs = [.ref a, .int k] ∧ SqL K H a ((ns : List Int).map V.int) ∧ ns.length < 2 ^ 20 ∧ 0 ≤ k ∧ ∀ c, Q (.int c) H
def spPot : Sp := fun vs H Q _ => ∃ c, vs = [.int c] ∧ ∀ p n, H p = none → Q (.ref p) (upd H p (.lst [.int n]))
def Cs (p : Addr) (H : Hp) : List V → List (Int × Int) → Prop := Paired fun x ij => ∃ d, d ≠ p ∧ x = .ref d ∧ H d = some (.tup [.int ij.1, .int ij.2])
def Before (a b : Int × Int) : Prop := a.1 < b.1 ∨ (a.1 = b.1 ∧ a.2 < b.2)
structure Good (h w : Int) (L : List (Int × Int)) : Prop where
  asc : L.Pairwise Before
  ins : ∀ x ∈ L, 0 ≤ x.1 ∧ x.1 < h ∧ 0 ≤ x.2 ∧ x.2 < w
  len : L.length ≤ 36
structure BoardAt (p : Addr) (H : Hp) (q : Addr) (h w : Int) (L : List (Int × Int)) : Prop where
  ne : q ≠ p
  it : ∃ c ps, c ≠ p ∧ H q = some (.tup [.int h, .int w, .ref c]) ∧ H c = some (.tup ps) ∧ Cs p H ps L
  h1 : 1 ≤ h
  h6 : h ≤ 6
  w1 : 1 ≤ w
  w6 : w ≤ 6
  good : Good h w L
theorem emod_lt' (x : Int) {m : Int} (h : 0 < m) : 0 ≤ x % m ∧ x % m < m := ⟨Int.emod_nonneg _ (by omega), Int.emod_lt_of_pos _ h⟩
end Rk
namespace Rk
open PySem PySem.Spec PyProof.Rows L2
def notStar : Expr → Bool
  | .Starred _ _ => false
  | _ => true
theorem star_of {e : Expr} {es : List Expr} {env : Env} (h : notStar e = true) : starEach (e :: es) env = (false, eval e env) :: starEach es env := by
  cases e <;> first | rfl | cases h
section
variable {X : Cx}
theorem pa_c {e : Expr} {es : List Expr} {te : TE} {t : TA} (ha : PE X e te) (hr : PA X es t) (hs : notStar e = true := by rfl) : PA X (e :: es) (tCons te t) := pa_cons ha hr (star_of hs)
inductive PEs (X : Cx) : List Expr → List TE → Prop
  | nil : PEs X [] []
  | cons {e es te ts} : PE X e te → notStar e = true → PEs X es ts → PEs X (e :: es) (te :: ts)
def tAll : List TE → TA
  | [] => tNil
  | t :: ts => tCons t (tAll ts)
theorem PEs.pa {es : List Expr} {ts : List TE} (h : PEs X es ts) : PA X es (tAll ts) := by
  induction h with
  | nil => exact pa_nil
  | cons a s _ ih => exact pa_c a ih s
end
def Sm (H : Hp) (x : V) : Prop := ∀ ps, tupOf H x = some ps → ps.length < sizeLine
def Part (p : Addr) (H : Hp) (x : V) : Prop := KnD p 2 H x ∧ Sm H x
def Thing (p : Addr) (H : Hp) (x : V) : Prop := KnD p 3 H x ∧ Sm H x ∧ ∀ xs, tupOf H x = some xs → ∀ y ∈ xs, Sm H y
theorem fm_nil {P : V → Prop} : ∀ y ∈ ([] : List V), P y := fun _ h => nomatch h
theorem fm_cons {P : V → Prop} {a : V} {l : List V} (h : P a) (k : ∀ y ∈ l, P y) : ∀ y ∈ a :: l, P y := fun y hy => by
  rcases List.mem_cons.mp hy with e | e
  · subst e; exact h
  · exact k y e
theorem lt_line {n : Nat} (h : n ≤ 1000) : n < sizeLine := Nat.lt_of_le_of_lt h (by decide)
end Rk
namespace Rk
open PySem PySem.Spec PyProof.Rows L2
def Fine (p : Addr) : Nat → Hp → V → Prop
  | 0, H, x => Kn p H x ∧ Sm H x
  | n + 1, H, x => Kn p H x ∧ Sm H x ∧ ∀ xs, tupOf H x = some xs → ∀ y ∈ xs, Fine p n H y
theorem Fine.sm {p : Addr} {H : Hp} {x : V} : ∀ {n : Nat}, Fine p n H x → Sm H x
  | 0, h => h.2
  | _ + 1, h => h.2.1
theorem Fine.knd {p : Addr} {H : Hp} : ∀ {n : Nat} {x : V}, Fine p n H x → KnD p n H x
  | 0, _, h => h.1
  | _ + 1, _, h => ⟨h.1, fun xs e y hy => (h.2.2 xs e y hy).knd⟩
section
variable {X : Cx}
end
end Rk
namespace Rk
open PySem PySem.Spec PyProof.Rows L2
def tTupW (t : TA) : TE := fun σ H Q => t σ H fun xs H1 => xs.length ≤ 1000 ∧ ∀ a H2, Same H1 H2 → H1 a = none → H2 a = some (.tup xs) → Q (.ref a) H2
def tLstW (t : TA) : TE := fun σ H Q => t σ H fun xs H1 => xs.length ≤ 1000 ∧ ∀ a H2, Same H1 H2 → H1 a = none → H2 a = some (.lst xs) → Q (.ref a) H2
section
variable {X : Cx}
theorem pe_tupW {es : List Expr} {t : TA} {x1} {pos : Pos} (h : PA X es t) : PE X (.Tuple es x1 pos) (tTupW t) := by
  intro pins s σ H Q I hq
  refine wpAny_Tuple_spliced (thn (h pos pins s σ H _ I hq) fun us s1 ⟨xs, H1, I1, r, z, q⟩ => ⟨by rw [← r.length]; exact Nat.le_of_lt (lt_line z), ?_⟩)
  have hf : H1 s1.heap.objs.size = none := I1.hok.fresh (Nat.le_refl _)
  refine ⟨.ref s1.heap.objs.size, upd H1 s1.heap.objs.size (.tup xs), I1.laid (t' := s1.toks) (fun b u e => Heap.get?_push_of_some _ e) (Nat.le_refl _) ?_, rfl, q _ _ (same_upd hf) hf upd_same⟩
  exact ⟨Nat.le_of_lt (lt_line z), us, r, ⟨_, Heap.get?_push_size _ rfl, rfl, rfl, _, rfl⟩⟩
theorem pe_lstW {es : List Expr} {t : TA} {pos : Pos} (h : PA X es t) : PE X (.List es pos) (tLstW t) := by
  intro pins s σ H Q I hq
  refine wpAny_List_spliced (thn (h pos pins s σ H _ I hq) fun us s1 ⟨xs, H1, I1, r, z, q⟩ => ⟨by rw [← r.length]; exact Nat.le_of_lt (lt_line z), ?_⟩)
  have hf : H1 s1.heap.objs.size = none := I1.hok.fresh (Nat.le_refl _)
  refine ⟨.ref s1.heap.objs.size, upd H1 s1.heap.objs.size (.lst xs), I1.laid (t' := s1.toks) (fun b u e => Heap.get?_push_of_some _ e) (Nat.le_refl _) ?_, rfl, q _ _ (same_upd hf) hf upd_same⟩
  exact ⟨Nat.le_of_lt (lt_line z), us, 0, r, Heap.get?_push_size _ rfl⟩
end
def FineA (p : Addr) (H : Hp) (x : V) : Prop := ∀ n, Fine p n H x
end Rk
namespace Rx
open PySem PySem.Spec PySem.Calls PyProof.Rows L2 PySem.W Builtin Builtin.ObjectAttr Builtin.Getset_descriptor
def ExAt (a C : Addr) (h : Heap) : Prop := ∃ o vs, h.get? a = some o ∧ o.cls = .ref C ∧ o.data = .fields vs
theorem ExAt.ty {M : Model} {h : Heap} {a C : Addr} (x : ExAt a C h) : Looks M h (typeOf (.ref a)) (.ref C) := by
  obtain ⟨o, vs, e, c, _⟩ := x
  exact c ▸ (Looks.ld e).andThen .now
section
variable {prog : Program} {w : World} {A : Around} {E : Value → Shared → Prop} {s : Shared} {K : PySem.W.Frag} {a C : Addr}
end
end Rx
namespace Rx
open PySem PySem.Spec PySem.Calls PyProof.Rows L2
section
variable {X : Cx} {E : XK} {C : Addr} {x : Str} {e0 : Expr} {te : TE} {np cpos pos : Pos}
end
end Rx
namespace Rx
open PySem PySem.Spec PySem.Calls PyProof.Rows L2
end Rx
namespace Rx
open PySem PySem.Spec PySem.Calls PyProof.Rows L2
section
variable {X : Cx} {pins : List (Addr × Obj)} {σ : L2.St} {H : Hp} {s : Shared}
end
def XP (X : Cx) (pins : List (Addr × Obj)) (Ex : L2.St → Addr → Hp → Prop) (e : Value) (s1 : Shared) : Prop :=
  ∃ (σ : L2.St) (C : Addr) (H' : Hp) (a t : Addr) (B : Heap), e = .ref a ∧ Heap.FlyingW B X.stack a (.ref C) (.ref t) s1.heap ∧ H' a = none ∧ X.s₀.heap.get? a = none ∧ (∀ p ∈ X.pn ++ pins, p.1 ≠ a) ∧
    (∀ (h2 : Heap) (tk : Nat), B.StaysIn h2 → s1.heap.UpToSlots h2 → Inv X pins σ H' { s1 with heap := h2, toks := tk }) ∧ Ex σ C H'
section
variable {X : Cx} {k : Nat} {f : Addr} {fd : FuncData} {ps : List Str} {sp : Sp} {x : Str} {p pos : Pos} {e : Expr} {es : List Expr} {t : TA}
end
section
variable {X : Cx} {R : Addr} {i : Nat} {n r : Str} {call hx : Expr} {tc : TX} {th : TE} {rp np hp hpos pos : Pos}
end
end Rx
namespace Rx
open PySem PySem.Spec PySem.Calls PyProof.Rows L2
section
variable {P : Program} {w : World} {K : PySem.W.Frag} {mg : Str → Option Value} {base : Heap}
end
section
variable {X : Cx} {k : Nat} {f : Addr} {fd : FuncData} {ps : List Str} {sp : Sp} {x : Str} {p pos : Pos} {e : Expr} {es : List Expr} {t : TA}
end
section
variable {X : Cx}
theorem bools_eq {bs : List Bool} {us : List Value} (r : Vals (bs.map V.bl) us) : us = bs.map Value.bool := by
  induction bs generalizing us with
  | nil => cases r; rfl
  | cons b bs ih =>
    cases r with
    | cons r t =>
      cases (show _ = Value.bool b from r)
      rw [ih t]
      rfl
def isTrueV : Value → Bool
  | .bool b => b
  | _ => false
theorem count_true (bs : List Bool) : (bs.map Value.bool).countP isTrueV = bs.countP id := by
  rw [List.countP_map]
  exact List.countP_congr fun b _ => Iff.rfl
def rCountT : V → List V → Hp → VK → Prop := fun x vs H Q => ∃ (l : Addr) (bs : List Bool), x = .ref l ∧ vs = [.bl true] ∧ H l = some (.lst (bs.map V.bl)) ∧ Q (.int (bs.countP id : Nat)) H
theorem mt_count : MtR X "list.count" rCountT := by
  intro pins s σ H x vs v us Q I rx rv h
  obtain ⟨l, bs, rfl, rfl, hH, q⟩ := h
  cases rx
  obtain ⟨u, rfl, ru⟩ := rv.one
  cases (show u = Value.bool true from ru)
  obtain ⟨z, its, n, r, hl, e⟩ := I.lstM hH
  have hi := bools_eq r
  subst hi
  refine call_meets F.slot_list_count ⟨_, e, rfl⟩ F.entry_list_count (F.args_list_count_2 _ _) (SeqAt.list_countAt l (bs.map Value.bool).toArray n none #[] (.bool true) isTrueV) ⟨e, fun y hy => ?_, ?_⟩
  · obtain ⟨b, _, rfl⟩ := List.mem_map.mp (List.mem_toArray.mp hy)
    have := SeqAt.EqAt.bool_bool (A := X.A.in1) (s := s) b true
    rw [show (b == true) = b by cases b <;> rfl] at this
    exact this
  · have e2 : ((bs.map Value.bool).toArray.toList.countP isTrueV : Nat) = bs.countP id := count_true bs
    rw [e2]
    exact ⟨.int (bs.countP id : Nat), H, I.tok _, ⟨_, rfl⟩, q⟩
end
end Rx
namespace Rd
open PySem PySem.Spec PyProof.Rows L2
mutual
inductive Dat (H : Hp) : V → PyData → Prop
  | non : Dat H .non .none
  | bl (b : Bool) : Dat H (.bl b) (.bool b)
  | int (i : Int) : Dat H (.int i) (.int i)
  | str (x : Str) : PyData.canLay0 (.str x) = true → Dat H (.str x) (.str x)
  | tup {a : Addr} {xs : List V} {ds : List PyData} : H a = some (.tup xs) → Dats H xs ds → Dat H (.ref a) (.tuple ds)
  | lst {a : Addr} {xs : List V} {ds : List PyData} : H a = some (.lst xs) → Dats H xs ds → Dat H (.ref a) (.list ds)
inductive Dats (H : Hp) : List V → List PyData → Prop
  | nil : Dats H [] []
  | cons {x : V} {xs : List V} {d : PyData} {ds : List PyData} : Dat H x d → Dats H xs ds → Dats H (x :: xs) (d :: ds)
end
mutual
theorem dat_reads {P : Program} {w : World} {H : Hp} {h : Heap} (ok : HOk P w H h) : ∀ (d : PyData) (x : V) (v : Value), Dat H x d → RelV x v → (∃ as, Reads h v d as) ∧ d.canLay0 = true
  | .none, _, v, .non, r => by cases r; exact ⟨⟨_, .none⟩, rfl⟩
  | .bool b, _, v, .bl _, r => by cases r; exact ⟨⟨_, .bool b⟩, rfl⟩
  | .int i, _, v, .int _, r => by obtain ⟨t, rfl⟩ := r; exact ⟨⟨_, .int i t⟩, rfl⟩
  | .str z, _, v, .str _ c, r => by obtain ⟨t, rfl⟩ := r; exact ⟨⟨_, .str z t⟩, c⟩
  | .tuple ds, _, v, .tup (a := a) (xs := xs) e q, r => by
    cases r
    obtain ⟨_, its, rv, o, ho, hc, _, n, hd⟩ := ok a _ e
    obtain ⟨⟨as, ra⟩, cl⟩ := dats_reads ok ds xs its q rv
    exact ⟨⟨as, .tuple ho hc hd ra⟩, cl⟩
  | .list ds, _, v, .lst (a := a) (xs := xs) e q, r => by
    cases r
    obtain ⟨_, its, n, rv, ho⟩ := ok a _ e
    obtain ⟨⟨as, ra⟩, cl⟩ := dats_reads ok ds xs its q rv
    exact ⟨⟨a :: as, .list ho rfl rfl ra⟩, cl⟩
  | .dict _, _, _, q, _ => nomatch q
theorem dats_reads {P : Program} {w : World} {H : Hp} {h : Heap} (ok : HOk P w H h) : ∀ (ds : List PyData) (xs : List V) (vs : List Value), Dats H xs ds → Vals xs vs → (∃ as, ReadsAll h vs ds as) ∧ PyData.canLayAll0 ds = true
  | [], _, vs, .nil, r => by cases r; exact ⟨⟨_, .nil⟩, rfl⟩
  | d :: ds, _, vs, .cons (x := x) (xs := xs) q qs, r => by
    cases r with
    | cons r rs =>
      obtain ⟨⟨a1, r1⟩, c1⟩ := dat_reads ok d x _ q r
      obtain ⟨⟨a2, r2⟩, c2⟩ := dats_reads ok ds xs _ qs rs
      exact ⟨⟨_, .cons r1 r2⟩, by simp [PyData.canLayAll0, c1, c2]⟩
end
mutual
theorem dat_same {H H' : Hp} (s : Same H H') : ∀ (d : PyData) (x : V), Dat H x d → Dat H' x d
  | .none, _, .non => .non
  | .bool _, _, .bl _ => .bl _
  | .int _, _, .int _ => .int _
  | .str _, _, .str _ c => .str _ c
  | .tuple ds, _, .tup (xs := xs) e q => .tup (s _ _ e) (dats_same s ds xs q)
  | .list ds, _, .lst (xs := xs) e q => .lst (s _ _ e) (dats_same s ds xs q)
  | .dict _, _, q => nomatch q
theorem dats_same {H H' : Hp} (s : Same H H') : ∀ (ds : List PyData) (xs : List V), Dats H xs ds → Dats H' xs ds
  | [], _, .nil => .nil
  | d :: ds, _, .cons (x := x) (xs := xs) q qs => .cons (dat_same s d x q) (dats_same s ds xs qs)
end
theorem Dat.same {H H' : Hp} {x : V} {d : PyData} (q : Dat H x d) (s : Same H H') : Dat H' x d := dat_same s d x q
theorem Dats.length {H : Hp} : ∀ {xs : List V} {ds : List PyData}, Dats H xs ds → xs.length = ds.length
  | _, _, .nil => rfl
  | _, _, .cons _ q => by rw [List.length_cons, List.length_cons, q.length]
theorem Dats.get {H : Hp} : ∀ {xs : List V} {ds : List PyData}, Dats H xs ds → ∀ (i : Nat) (x : V), xs[i]? = some x → ∃ d, ds[i]? = some d ∧ Dat H x d
  | _, _, .nil, i, x, e => by simp at e
  | _, _, .cons q qs, 0, x, e => by simp at e; subst e; exact ⟨_, rfl, q⟩
  | _, _, .cons q qs, i + 1, x, e => qs.get i x (by simpa using e)
section
variable {X : Cx}
def rEqD (X : Cx) : R2 := fun x y H Q => ∃ dx dy, Dat H x dx ∧ Dat H y dy ∧ X.A.units + min dx.depth dy.depth < cLine ∧ Q (.bl (PyData.eqv dx dy)) H
theorem op_eqD : OpR X (compareOp .Eq) (rEqD X) := by
  intro pins s σ H x y v u Q I rx ry h
  obtain ⟨dx, dy, qx, qy, hu, q⟩ := h
  obtain ⟨⟨as, ra⟩, ca⟩ := dat_reads I.hok dx x v qx rx
  obtain ⟨⟨bs, rb⟩, cb⟩ := dat_reads I.hok dy y u qy ry
  exact SeqAt.compareEq_reads ra rb ca cb hu ⟨.bl _, H, I, rfl, q⟩
open Classical in
noncomputable def eqH (h : Heap) (d : PyData) (y : Value) : Bool := decide (∃ e as, Reads h y e as ∧ e.canLay0 = true ∧ PyData.eqv e d = true)
open Classical in
theorem eqH_t {h : Heap} {d : PyData} {y : Value} (q : ∃ e as, Reads h y e as ∧ e.canLay0 = true ∧ PyData.eqv e d = true) : eqH h d y = true := by
  unfold eqH
  exact decide_eq_true q
open Classical in
theorem eqH_f {h : Heap} {d : PyData} {y : Value} (q : ¬ ∃ e as, Reads h y e as ∧ e.canLay0 = true ∧ PyData.eqv e d = true) : eqH h d y = false := by
  unfold eqH
  exact decide_eq_false q
theorem eqH_of {h : Heap} {d e : PyData} {y : Value} {as : List Addr} (r : Reads h y e as) (c : e.canLay0 = true) : eqH h d y = PyData.eqv e d := by
  cases q : PyData.eqv e d with
  | true => exact eqH_t ⟨e, as, r, c, q⟩
  | false =>
    refine eqH_f fun ⟨e', as', r', c', q'⟩ => ?_
    rw [← SeqAt.Reads.unique e e' y as as' c r r', q] at q'
    cases q'
theorem any_eqH {h : Heap} {d : PyData} : ∀ {vs : List Value} {ds : List PyData} {as : List Addr}, ReadsAll h vs ds as → PyData.canLayAll0 ds = true → vs.any (eqH h d) = ds.any fun e => PyData.eqv e d
  | _, _, _, .nil, _ => rfl
  | _, _, _, .cons r rs, c => by
    simp only [PyData.canLayAll0, Bool.and_eq_true] at c
    rw [List.any_cons, List.any_cons, eqH_of r c.1, any_eqH rs c.2]
theorem mem_eqH {A : Around} {s : Shared} {d : PyData} {v : Value} {bs : List Addr} (rv : Reads s.heap v d bs) (cv : d.canLay0 = true) : ∀ {vs : List Value} {ds : List PyData} {as : List Addr}, ReadsAll s.heap vs ds as → PyData.canLayAll0 ds = true → A.units + d.depth < cLine →
    ∀ u ∈ vs, SeqAt.EqAt A s u v (eqH s.heap d u)
  | _, _, _, .nil, _, _ => fun u hu => nomatch hu
  | _, _, _, .cons (d := e) r rs, c, hu => fun u hm => by
    simp only [PyData.canLayAll0, Bool.and_eq_true] at c
    rcases List.mem_cons.mp hm with z | z
    · subst z
      rw [eqH_of r c.1]
      exact SeqAt.eqAt_reads e d A s _ v _ bs r rv c.1 cv (Nat.lt_of_le_of_lt (Nat.add_le_add_left (Nat.min_le_right _ _) _) hu)
    · exact mem_eqH rv cv rs c.2 hu u z
def rInD (X : Cx) (neg : Bool) : R2 := fun x y H Q => ∃ c ps ds d, y = .ref c ∧ H c = some (.tup ps) ∧ Dats H ps ds ∧ Dat H x d ∧ X.A.in1.units + d.depth < cLine ∧ Q (.bl (if neg then !(ds.any fun e => PyData.eqv e d) else ds.any fun e => PyData.eqv e d)) H
theorem op_inD : OpR X (compareOp .In) (rInD X false) := by
  intro pins s σ H x y v u Q I rx ry h
  obtain ⟨c, ps, ds, d, rfl, hc, qs, qx, hu, q⟩ := h
  cases ry
  obtain ⟨⟨as, ra⟩, ca⟩ := dat_reads I.hok d x v qx rx
  obtain ⟨_, its, rv, tp⟩ := I.hok c _ hc; have tp := TupN.tup tp
  obtain ⟨⟨bs, rb⟩, cb⟩ := dats_reads I.hok ds ps its qs rv
  refine SeqAt.in_tupleAt (eqH s.heap d) tp (fun w hw => mem_eqH ra ca rb cb hu w (List.mem_toArray.mp hw)) ⟨.bl _, H, I, rfl, ?_⟩
  rw [show its.toArray.any (eqH s.heap d) = its.any (eqH s.heap d) by simp, any_eqH rb cb]
  exact q
theorem op_notInD : OpR X (compareOp .NotIn) (rInD X true) := by
  intro pins s σ H x y v u Q I rx ry h
  obtain ⟨c, ps, ds, d, rfl, hc, qs, qx, hu, q⟩ := h
  cases ry
  obtain ⟨⟨as, ra⟩, ca⟩ := dat_reads I.hok d x v qx rx
  obtain ⟨_, its, rv, tp⟩ := I.hok c _ hc; have tp := TupN.tup tp
  obtain ⟨⟨bs, rb⟩, cb⟩ := dats_reads I.hok ds ps its qs rv
  refine SeqAt.notIn_tupleAt (eqH s.heap d) tp (fun w hw => mem_eqH ra ca rb cb hu w (List.mem_toArray.mp hw)) ⟨.bl _, H, I, rfl, ?_⟩
  rw [show its.toArray.any (eqH s.heap d) = its.any (eqH s.heap d) by simp, any_eqH rb cb]
  exact q
end
end Rd
namespace Rd
open PySem PySem.Spec PyProof.Rows L2
section
variable {X : Cx}
end
end Rd
namespace L2
open PySem PySem.Spec PyProof.Rows
def Ite (l : Addr) : It :=
  ⟨fun i H => ∃ xs x, H l = some (.lst xs) ∧ xs[i]? = some x,
   fun i H v H' => ∃ p x, H p = none ∧ (∀ xs, H l = some (.lst xs) → xs[i]? = some x) ∧ v = .ref p ∧ H' = upd H p (.tup [.int (i : Nat), x]),
   fun i H => ∃ xs, H l = some (.lst xs) ∧ xs.length ≤ i⟩
theorem turn_enum {P : Program} {w : World} {K : PySem.W.Frag} {elts : List Expr} {x1} {tpos : Pos} {e it l : Addr} (hne : e ≠ it) :
    Turn P w K (.Tuple elts x1 tpos) (Ite l) [e, it] e (fun i h => (∃ old, IsEnum h e it (i : Nat) old) ∧ h.IsListIter it l i) where
  mem := by simp
  obj := fun i h st b hb => by
    obtain ⟨⟨old, a1⟩, ⟨o2, a2, _, d2⟩⟩ := st
    simp only [List.mem_cons, List.not_mem_nil, or_false] at hb
    rcases hb with rfl | rfl
    · exact ⟨_, a1, fun v q => nomatch q⟩
    · exact ⟨_, a2, fun v q => by rw [d2] at q; cases q⟩
  keep := fun i h h' st k => by
    obtain ⟨⟨old, a1⟩, ⟨o2, a2, c2⟩⟩ := st
    exact ⟨⟨old, k e (by simp) _ a1⟩, o2, k it (by simp) _ a2, c2⟩
  item := by
    intro X hP hw hK hc i pins s σ H E I hf st hg
    subst hP hw hK
    obtain ⟨xs, x, h1, hx⟩ := hg
    obtain ⟨⟨old, a1⟩, a2⟩ := st
    obtain ⟨its, r1, p1, _⟩ := I.list (SqL.of h1)
    obtain ⟨u, hu, ru⟩ := r1.get hx
    refine wpAny_pyNext_enum_item a1 a2 p1.isList (x := u) (by simpa using hu) hne fun h' o' l' tp sz kp => ?_
    have fr : H s.heap.objs.size = none := I.hok.fresh (Nat.le_refl _)
    have n1 : e ≠ s.heap.objs.size := Nat.ne_of_lt (Heap.lt_size a1)
    have n2 : it ≠ s.heap.objs.size := by
      obtain ⟨o2, a2, _⟩ := a2
      exact Nat.ne_of_lt (Heap.lt_size a2)
    refine ⟨_, rfl, wpAny_letOwnedTupleGo_enum o' fun h2 e2 s2 => ?_⟩
    have I1 : Inv X pins σ (upd H s.heap.objs.size (.tup [.int (i : Nat), x])) { s with heap := h2, toks := s.toks + 1 } := by
      refine I.turnedNew (ch := [e, it]) hf (fun b v hb q => ?_) (Nat.le_refl _) ⟨by show 2 ≤ sizeLine; decide, [.int (i : Nat) s.toks, u], .cons ⟨_, rfl⟩ (.cons ru .nil), ?_⟩
      · simp only [List.mem_cons, List.not_mem_nil, or_false, not_or] at hb
        exact s2.extBut _ _ hb.1 (kp b v hb.1 hb.2 q)
      · exact ⟨_, s2.extBut _ _ n1.symm tp, rfl, rfl, 0, rfl⟩
    refine ⟨.ref s.heap.objs.size, _, I1, rfl, ⟨_, x, fr, fun xs' q => ?_, rfl, rfl⟩, ⟨⟨u, e2⟩, ?_⟩, fun b hb => ?_⟩
    · rw [h1] at q; cases q; exact hx
    · exact l'.extBut s2.extBut hne.symm
    · simp only [List.mem_cons, List.not_mem_nil, or_false] at hb
      rcases hb with rfl | rfl
      · rw [upd_ne n1]; exact (hf _ (by simp)).1
      · rw [upd_ne n2]; exact (hf _ (by simp)).1
  done := by
    intro X hP hw hK hc i pins s σ H E I hf st hg
    subst hP hw hK
    obtain ⟨xs, h1, he⟩ := hg
    obtain ⟨⟨old, a1⟩, a2⟩ := st
    obtain ⟨its, r1, p1, _⟩ := I.list (SqL.of h1)
    have l1 := r1.length
    refine wpAny_pyNext_enum_end (I.ok.hd hc) a1 a2 p1.isList (by simp; omega) fun h' kp => ⟨rfl, I.turnedAll (t' := s.toks) (ch := [e, it]) hf fun b v hb q => ?_⟩
    simp only [List.mem_cons, List.not_mem_nil, or_false, not_or] at hb
    exact kp b v hb.2 q
  self := fun _ _ _ _ _ st h => by
    obtain ⟨⟨old, a1⟩, _⟩ := st
    exact wpAny_pyIter_enum a1 h
def iEnum (ta : TA) : TI := fun σ H R => ta σ H fun vs H1 => ∃ l xs, vs = [.ref l] ∧ H1 l = some (.lst xs) ∧ R (Ite l) H1
theorem boot_enum : bootBuiltins "enumerate" = some (.type "enumerate") := by decide +kernel
section
variable {X : Cx}
theorem pi_enum {a : Expr} {elts : List Expr} {x1} {tpos : Pos} {ta : TA} {p pos : Pos} (hg : Gl X "enumerate") (hm : X.mg "enumerate" = none) (ha : PA X [a] ta) (hs : starEach [a] X.env = [(false, eval a X.env)] := by rfl) :
    PI X (.Tuple elts x1 tpos) (.Call (.Name "enumerate" p) [a] [] pos) (iEnum ta) := by
  intro pins s σ H R I h
  refine Call_ (ld_blt I hg hm boot_enum (PyProof.Rows.callWith_type1 (thn (ha pos pins s σ H _ I h) fun us s1 ⟨vs, H1, I1, r1, q1⟩ => ?_) hs rfl))
  obtain ⟨l, xs, e, h1, q⟩ := q1
  subst e
  obtain ⟨u, rfl, ru⟩ := vals1 r1
  cases (show u = Value.ref l from ru)
  obtain ⟨its, w1, p1, _⟩ := I1.list (SqL.of h1)
  refine call_enumerate_list p1.isList fun h' e1 i1 sz kp => ?_
  refine wpAny_pyIter_enum (s := { s1 with heap := h' }) e1 ?_
  refine ⟨s1.heap.objs.size + 1, _, _, _, H1, rfl, I1.kept (t' := s1.toks) kp, turn_enum (by show ¬ (s1.heap.objs.size + 1 = s1.heap.objs.size); omega), ⟨⟨_, e1⟩, i1⟩, fun b hb => ?_, q⟩
  have hb' : s1.heap.objs.size ≤ b := by
    simp only [List.mem_cons, List.not_mem_nil, or_false] at hb
    rcases hb with rfl | rfl <;> omega
  exact I1.fpOk hb' (I1.hok.fresh hb')
end
end L2
namespace L2
open PySem PySem.Spec PyProof.Rows
section
variable {prog : Program} {w : World} {A : Around} {R : Result → Shared → Prop} {s : Shared}
theorem start_second {elt tg iter : Expr} {ifs : List Expr} {g0 : Comprehension} {scope : Scope} {pos : Pos} {it acc : Value} {env : Env}
    (h0 : codeAny (model prog w) A (.compLoop (.ListComp elt [g0, ⟨tg, iter, ifs, 0⟩] scope pos) 1 it acc env) R s)
    (h : wpAny (model prog w) A (pyIter it) (fun it' s' => codeAny (model prog w) A (.compLoop (.ListComp elt [g0, ⟨tg, iter, ifs, 0⟩] scope pos) 1 it' acc env) R s') (notedBy (model prog w) A env fun x s' => R (.error x) s') s) :
    codeAny (model prog w) A (.compStart (.ListComp elt [g0, ⟨tg, iter, ifs, 0⟩] scope pos) 1 it acc env) R s := by
  refine codeAny_of_tree ?_
  show wpAny _ _ ((compStart (.ListComp elt [g0, ⟨tg, iter, ifs, 0⟩] scope pos) 1 it acc env).onRaise (fun x => do noteFrame x env; standAt theWindowsPlace)) _ _ s
  refine wpAny_notedAt ?_
  unfold compStart
  show wpAny _ _ (ask >>= _) _ _ s
  refine wpAny_bind (wpAny_askSetting (wpAny_ite ?_))
  split
  · first
      | exact wpAny_bind (wpAny_pure (wpAny_pure ⟨rfl, h0⟩))
      | exact wpAny_pure ⟨rfl, h0⟩
  · first
      | exact wpAny_bind (wpAny_rule (wpAny_bind (wpAny_standAt (wpAny_bind (wpAny_mono h (fun it' s' h' => wpAny_pure ⟨rfl, h'⟩) fun _ _ x => x)))))
      | exact wpAny_bind (wpAny_rule (wpAny_bind (wpAny_standAt (wpAny_bind (wpAny_mono h (fun it' s' h' => wpAny_pure (wpAny_pure ⟨rfl, h'⟩)) fun _ _ x => x)))))
end
theorem turn_last {Y : Cx} {elt tg iter : Expr} {ifs : List Expr} {g0 : Comprehension} {scope : Scope} {cpos : Pos} {it D : Addr} (Q : PySem.Fin → Shared → Prop) (E : Value → Shared → Prop) (s : Shared)
    (h : wpAny (model Y.prog Y.w) Y.A (pyNext (.ref it)) (fun r s1 => match r with
      | none => Q (.done .next) s1
      | some v => wpAny (model Y.prog Y.w) Y.A (letOwnedTupleGo tg (.ref it) v) (fun _ s2 => actOf Y tg ifs (actElt Y elt D) v (fun s3 => Q (.again (.compLoop (.ListComp elt [g0, ⟨tg, iter, ifs, 0⟩] scope cpos) 1 (.ref it) (.ref D) Y.env)) s3) s2) E s1) E s) :
    wpAny (model Y.prog Y.w) Y.A (compTurn (.ListComp elt [g0, ⟨tg, iter, ifs, 0⟩] scope cpos) 1 (.ref it) (.ref D) Y.env) Q E s := by
  have e : compTurn (.ListComp elt [g0, ⟨tg, iter, ifs, 0⟩] scope cpos) 1 (.ref it) (.ref D) Y.env = (do
      standAt iter.pos
      match ← pyNext (.ref it) with
      | none => pure (.done .next)
      | some v =>
        letOwnedTupleGo tg (.ref it) v
        assign tg Y.env v
        let mut ok := true
        for c in ifs do
          if ok then ok ← isTrue c Y.env (eval c Y.env)
        if ok then
          (do let _ ← call (.builtin "list.append") [.ref D, ← eval elt Y.env])
        again (.compLoop (.ListComp elt [g0, ⟨tg, iter, ifs, 0⟩] scope cpos) 1 (.ref it) (.ref D) Y.env)) := by rfl
  rw [e]
  refine wpAny_bind (wpAny_standAt (wpAny_bind (thn h fun r s1 h1 => ?_)))
  cases r with
  | none => exact wpAny_pure h1
  | some v =>
    refine wpAny_bind (thn h1 fun _ s2 h2 => ?_)
    refine wpAny_bind (wpAny_mono h2 (fun _ s4 h4 => wpAny_bind (wpAny_mono h4 (fun ok s5 h5 => ?_) fun _ _ f => f.elim)) fun _ _ f => f.elim)
    cases ok with
    | false => exact wpAny_pure h5
    | true => exact wpAny_bind (wpAny_bind (wpAny_mono h5 (fun x s6 h6 => wpAny_bind (wpAny_mono h6 (fun _ s7 h7 => wpAny_pure (wpAny_pure h7)) fun _ _ f => f.elim)) fun _ _ f => f.elim))
def actNest (Y : Cx) (e : Expr) (iter : Expr) (D : Addr) : Act := fun Q s => wpAny (model Y.prog Y.w) Y.A (eval iter Y.env) (fun x s1 => wpAny (model Y.prog Y.w) Y.A (pyIter x)
  (fun itv s2 => codeAny (model Y.prog Y.w) Y.A (.compStart e 1 itv (.ref D) Y.env) (fun r s3 => match r with | .ok _ => Q s3 | .error _ => False) s2) (fun _ _ => False) s1) (fun _ _ => False) s
def bNest (wi : TI) (g : TG) (tc : TT) (p : Addr) (te : TE) : St → Hp → (Hp → Prop) → Prop := fun σ H k => wi σ H fun J H1 => tLoop J (bOf σ g tc (bElt p te)) k H1
theorem body_nest {Y : Cx} {σ : St} {elt tg iter : Expr} {ifs : List Expr} {g0 : Comprehension} {scope : Scope} {cpos : Pos} {D : Addr} {wi : TI} {g : TG} {tc : TT} {te : TE} (hx : Y.xe = fun _ _ => False) (hc : Y.calm = true)
    (hi : PI Y tg iter wi) (hg : PG Y tg g) (ht : PTs Y ifs tc) (he : PE Y elt te) : BodyOk Y σ (actNest Y (.ListComp elt [g0, ⟨tg, iter, ifs, 0⟩] scope cpos) iter D) (bNest wi g tc D te σ) := by
  intro pins s H k Q I h hQ
  have hx' : ∀ (v : Value) (s' : Shared), Y.xe v s' → False := fun v s' z => by rw [hx] at z; exact z
  refine wpAny_mono (hi pins s σ H _ I h) (fun v s1 h1 => wpAny_mono h1 (fun itv s2 h2 => ?_) hx') hx'
  obtain ⟨it, fp, tn, J, H2, e, I2, T, st2, f2, hW⟩ := h2
  subst e
  have loop : codeAny (model Y.prog Y.w) Y.A (.compLoop (.ListComp elt [g0, ⟨tg, iter, ifs, 0⟩] scope cpos) 1 (.ref it) (.ref D) Y.env) (fun r s3 => match r with | .ok _ => Q s3 | .error _ => False) s2 :=
    comp_loop (Y := Y) (gens := [g0, ⟨tg, iter, ifs, 0⟩]) (d := 1) hc T st2 f2 (fun Q E s h => turn_last Q E s h) (fun x u r => body_of hx hg ht (fun σ4 => body_elt hx he) x u r) I2 hW fun s' H' I' q => hQ s' H' I' q
  exact start_second loop (T.self _ 0 _ _ _ st2 loop)
theorem turn_first {Y : Cx} {elt tg iter tg2 iter2 : Expr} {ifs ifs2 : List Expr} {scope : Scope} {cpos : Pos} {it D : Addr} (hs : ∀ x, foldedSetIterable iter2 Y.env x = pure x) (Q : PySem.Fin → Shared → Prop) (E : Value → Shared → Prop) (s : Shared)
    (h : wpAny (model Y.prog Y.w) Y.A (pyNext (.ref it)) (fun r s1 => match r with
      | none => Q (.done .next) s1
      | some v => wpAny (model Y.prog Y.w) Y.A (letOwnedTupleGo tg (.ref it) v) (fun _ s2 => actOf Y tg ifs (actNest Y (.ListComp elt [⟨tg, iter, ifs, 0⟩, ⟨tg2, iter2, ifs2, 0⟩] scope cpos) iter2 D) v (fun s3 => Q (.again (.compLoop (.ListComp elt [⟨tg, iter, ifs, 0⟩, ⟨tg2, iter2, ifs2, 0⟩] scope cpos) 0 (.ref it) (.ref D) Y.env)) s3) s2) E s1) E s) :
    wpAny (model Y.prog Y.w) Y.A (compTurn (.ListComp elt [⟨tg, iter, ifs, 0⟩, ⟨tg2, iter2, ifs2, 0⟩] scope cpos) 0 (.ref it) (.ref D) Y.env) Q E s := by
  have e : compTurn (.ListComp elt [⟨tg, iter, ifs, 0⟩, ⟨tg2, iter2, ifs2, 0⟩] scope cpos) 0 (.ref it) (.ref D) Y.env = (do
      standAt iter.pos
      match ← pyNext (.ref it) with
      | none => pure (.done .next)
      | some v =>
        letOwnedTupleGo tg (.ref it) v
        assign tg Y.env v
        let mut ok := true
        for c in ifs do
          if ok then ok ← isTrue c Y.env (eval c Y.env)
        if ok then
          let x ← eval iter2 Y.env
          standAt iter2.pos
          let x ← foldedSetIterable iter2 Y.env x
          let _ ← runOwn (.compStart (.ListComp elt [⟨tg, iter, ifs, 0⟩, ⟨tg2, iter2, ifs2, 0⟩] scope cpos) 1 (← holding [x] (pyIter x)) (.ref D) Y.env) Y.env
        again (.compLoop (.ListComp elt [⟨tg, iter, ifs, 0⟩, ⟨tg2, iter2, ifs2, 0⟩] scope cpos) 0 (.ref it) (.ref D) Y.env)) := by rfl
  rw [e]
  refine wpAny_bind (wpAny_standAt (wpAny_bind (thn h fun r s1 h1 => ?_)))
  cases r with
  | none => exact wpAny_pure h1
  | some v =>
    refine wpAny_bind (thn h1 fun _ s2 h2 => ?_)
    refine wpAny_bind (wpAny_mono h2 (fun _ s4 h4 => wpAny_bind (wpAny_mono h4 (fun ok s5 h5 => ?_) fun _ _ f => f.elim)) fun _ _ f => f.elim)
    cases ok with
    | false => exact wpAny_pure h5
    | true =>
      refine wpAny_bind (wpAny_mono h5 (fun x s6 h6 => wpAny_bind (wpAny_standAt ?_)) fun _ _ f => f.elim)
      rw [hs x]
      refine wpAny_bind (wpAny_pure (wpAny_bind (wpAny_holding (wpAny_mono h6 (fun itv s7 h7 => ?_) fun _ _ f => f.elim))))
      refine wpAny_bind (wpAny_runOwn (h := none) (codeAny_mono h7 fun r s8 h8 => ?_))
      cases r with
      | error z => exact h8.elim
      | ok fl => exact wpAny_pure h8
def tComp2 (cap : List (Option Nat)) (wi : TI) (g : TG) (tc : TT) (wi2 : TI) (g2 : TG) (tc2 : TT) (te : TE) : TE := fun σ H Q => wi σ H fun J H1 => ∀ p, H1 p = none → tLoop J (bOf (capS cap σ) g tc (bNest wi2 g2 tc2 p te)) (Q (.ref p)) (upd H1 p (.lst []))
end L2
namespace L2
open PySem PySem.Spec PyProof.Rows
end L2
namespace Rk
open PySem PySem.Spec PyProof.Rows L2 Rd
def pairD (ij : Int × Int) : PyData := .tuple [.int ij.1, .int ij.2]
end Rk
namespace Rr
open PySem PyProof.Rows
section
variable {prog : Program} {w : World} {A : Around} {E : Value → Shared → Prop} {s : Shared}
theorem gather {Q : List Value → Shared → Prop} {r : Addr} {a b : Int} {t u v : Tok} {n : Nat} (hh : A.handled = none) (hr : IsRange s.heap r a b 1 t u v) (hsm : Builtin.Range.small a b 1 = true) (hn : Builtin.Range.rangeSize a b 1 = n) (hl : n ≤ 2 ^ 24)
    (hQ : ∀ (h' : Heap) (tk : Nat) (acc : Array Value), (∀ c o, s.heap.get? c = some o → h'.get? c = some o) → ItemsOf (fun i v => ∃ t, v = .int (a + i * 1) t) acc n → Q acc.toList { s with heap := h', toks := tk }) :
    wpAny (model prog w) A (collect (.ref r)) Q E s := by
  unfold collect
  refine wpAny_bind (wpAny_runValue (codeAny_builtin F.entry_proto_collect ?_))
  rw [Around.under_plainId F.plain_proto_collect _]
  show wpAny _ A.in1 (newList [] >>= fun l => again (.builtin "list.__iadd__" ⟨[l, .ref r], []⟩)) _ _ s
  refine wpAny_bind (wpAny_newObj_type (wpAny_pure ⟨plainId_quiet F.plain_list_iadd _, codeAny_builtin F.entry_list_iadd ?_⟩))
  rw [Around.under_plainId F.plain_list_iadd _]
  have hS : (s.heap.push { cls := .type "list", data := .seq ([] : List Value).toArray }).get? s.heap.objs.size = some { cls := .type "list", data := .seq #[] } := Heap.get?_push_size _ rfl
  show wpAny _ A.in1 (Builtin.List.listExtendWith (.ref s.heap.objs.size) (.ref r) (.ref s.heap.objs.size)) _ _ _
  refine wpAny_extend_range (A := A) (R := fun rr s' => match rr with
    | .ok (.ret v) => wpAny (model prog w) A (match v with
      | .ref a => do
        let o ← load a
        match o.data with
        | .seq xs _ => pure xs.toList
        | _ => unsupported "internal:collect"
      | _ => unsupported "internal:collect") Q E s'
    | .ok _ => False
    | .error e => E e s') (s := { s with heap := s.heap.push { cls := .type "list", data := .seq ([] : List Value).toArray } }) hh (Heap.get?_push_of_some _ hr) hsm hn hl s.heap.objs.size (.ref s.heap.objs.size) 0 hS fun h' tk acc' c' kp hS' hacc => ?_
  show wpAny _ A (load s.heap.objs.size >>= _) _ _ _
  refine wpAny_bind (wpAny_load hS' (wpAny_pure (hQ h' tk acc' (fun c o e => kp c o (Nat.ne_of_lt (Heap.lt_size e)) (Heap.get?_push_of_some _ e)) hacc)))
theorem new_of (r : Addr) (a b : Int) (t u v : Tok) (n : Nat) (hsm : Builtin.Range.small a b 1 = true) (hn : Builtin.Range.rangeSize a b 1 = n) (hl : n ≤ 1000) :
    Meets (Builtin.«tuple.__new__» ⟨[.type "tuple", .ref r], []⟩) (fun A R s => A.handled = none ∧ IsRange s.heap r a b 1 t u v ∧ ∀ (h' : Heap) (tk : Nat) (acc : Array Value), (∀ c o, s.heap.get? c = some o → h'.get? c = some o) → ItemsOf (fun i v => ∃ t, v = .int (a + i * 1) t) acc n →
        R (.ok (.ret (.ref h'.objs.size))) { s with heap := h'.push { cls := .type "tuple", data := .seq acc }, toks := tk }) :=
  .of_wp fun prog w A R s h => by
    obtain ⟨hh, hr, h⟩ := h
    have hsub := sub_tuple_self
    have hinit := init_tuple_lookup
    have hmh := madeHere_tuple
    have hT : s.TypeIs (.ref r) "range" := ⟨_, hr, rfl⟩
    have hh1 : A.in1.handled = none := hh
    wp_walk using wpAny_typeOf hT, gather hh1 hr hsm hn (Nat.le_trans hl (by decide))
    intro h' tk acc kp hacc
    have hz : acc.size = n := hacc.1
    show wpAny _ _ (Builtin.Tuple.tupleExact acc.toList.toArray >>= fun v => ret v) _ _ _
    unfold Builtin.Tuple.tupleExact
    have e : acc.toList.toArray = acc := by simp
    rw [e]
    refine wpAny_bind (wpAny_newObj_type ?_ (by show acc.size ≤ sizeLine; rw [hz]; exact Nat.le_trans hl (by decide)))
    exact wpAny_pure ⟨_, rfl, h h' tk acc kp hacc⟩
theorem call_of {Q : Value → Shared → Prop} {r : Addr} {a b : Int} {t u v : Tok} {n : Nat} (hh : A.handled = none) (hr : IsRange s.heap r a b 1 t u v) (hsm : Builtin.Range.small a b 1 = true) (hn : Builtin.Range.rangeSize a b 1 = n) (hl : n ≤ 1000)
    (hQ : ∀ (h' : Heap) (tk : Nat) (acc : Array Value), (∀ c o, s.heap.get? c = some o → h'.get? c = some o) → ItemsOf (fun i v => ∃ t, v = .int (a + i * 1) t) acc n → Q (.ref h'.objs.size) { s with heap := h'.push { cls := .type "tuple", data := .seq acc }, toks := tk }) :
    wpAny (model prog w) A (call (.type "tuple") [.ref r]) Q E s :=
  callType_new F.called_tuple (by decide) (F.typeCall_tuple_1 _) (F.newCall_tuple_1 _) (fun obj => F.args_object_init_2 obj _) F.entry_tuple_new (new_of r a b t u v n hsm hn hl)
    ⟨hh, hr, fun h' tk acc kp hacc => ⟨⟨_, Heap.get?_push_size _ rfl, rfl⟩, hQ h' tk acc kp hacc⟩⟩
end
end Rr
namespace L2
open PySem PySem.Spec PyProof.Rows
def tRange (ta : TA) : TE := fun σ H Q => ta σ H fun vs H1 => ∃ j, vs = [.int j] ∧ ∀ r H2, Same H1 H2 → H1 r = none → H2 r = some (.rng 0 j) → Q (.ref r) H2
section
variable {X : Cx}
theorem pe_range {a : Expr} {ta : TA} {p pos : Pos} (hg : Gl X "range") (hm : X.mg "range" = none) (ha : PA X [a] ta) (hs : starEach [a] X.env = [(false, eval a X.env)] := by rfl) : PE X (.Call (.Name "range" p) [a] [] pos) (tRange ta) := by
  intro pins s σ H Q I h
  refine wpAny_Call_Name_kw (ld_blt I hg hm boot_range ?_)
  refine PyProof.Rows.callWith_type1 (thn (ha pos pins s σ H _ I h) fun us s1 ⟨vs, H1, I1, r1, q1⟩ => ?_) hs rfl
  obtain ⟨j, e, q⟩ := q1
  subst e
  obtain ⟨u, rfl, ru⟩ := vals1 r1
  obtain ⟨t, rfl⟩ := ru
  refine call_range_1 ?_
  have hf : H1 s1.heap.objs.size = none := I1.hok.fresh (Nat.le_refl _)
  refine ⟨.ref s1.heap.objs.size, upd H1 s1.heap.objs.size (.rng 0 j), I1.laid (t' := s1.toks + 1 + 1) (fun b u e => Heap.get?_push_of_some _ e) (Nat.le_refl _) ⟨_, _, _, Heap.get?_push_size _ rfl⟩, rfl, q _ _ (same_upd hf) hf upd_same⟩
theorem items_ints {acc : Array Value} {n : Nat} (h : ItemsOf (fun i v => ∃ t, v = Value.int ((0 : Int) + i * 1) t) acc n) : Vals ((List.range n).map fun i => V.int (i : Nat)) acc.toList := by
  obtain ⟨hs, hi⟩ := h
  have key : ∀ (m : Nat) (l : List Value) (o : Nat), l.length = m → (∀ i v, l[i]? = some v → ∃ t, v = Value.int ((0 : Int) + ((o + i : Nat) : Int) * 1) t) → Vals ((List.range' o m).map fun i => V.int (i : Nat)) l := by
    intro m
    induction m with
    | zero => intro l o hl _; cases l with
      | nil => exact .nil
      | cons a b => cases hl
    | succ m ih =>
      intro l o hl hv
      cases l with
      | nil => cases hl
      | cons a b =>
        rw [List.range'_succ, List.map_cons]
        refine .cons ?_ (ih b (o + 1) (by simpa using hl) fun i v e => ?_)
        · obtain ⟨t, rfl⟩ := hv 0 a rfl
          exact ⟨t, by simp⟩
        · obtain ⟨t, rfl⟩ := hv (i + 1) v (by simpa using e)
          exact ⟨t, by congr 3; omega⟩
  rw [List.range_eq_range']
  refine key n acc.toList 0 (by simpa using hs) fun i v e => ?_
  have := hi i v (by simpa using e)
  simpa using this
def rTupRng : List V → Hp → VK → Prop := fun xs H Q => ∃ r j, xs = [.ref r] ∧ H r = some (.rng 0 j) ∧ -1000 ≤ j ∧ j ≤ 1000 ∧ ∀ t H2, Same H H2 → H t = none → H2 t = some (.tup ((List.range j.toNat).map fun i => V.int (i : Nat))) → Q (.ref t) H2
theorem call_tupRng (hc : X.calm = true) : CallR X (.type "tuple") rTupRng := by
  intro pins s σ H xs us Q I r h
  obtain ⟨a, j, rfl, ha, h1, h2, q⟩ := h
  obtain ⟨u, rfl, ru⟩ := vals1 r
  cases (show u = Value.ref a from ru)
  obtain ⟨t1, t2, t3, e⟩ := I.hok a _ ha
  have hn : Builtin.Range.rangeSize 0 j 1 = ((j.toNat : Nat) : Int) := by rw [rangeSize_one]; split <;> omega
  refine Rr.call_of (n := j.toNat) (I.ok.hd hc) (show IsRange s.heap a 0 j 1 t1 t2 t3 from e) (small_one (by omega) (by omega) (by omega) (by omega)) hn (by omega) fun h' tk acc kp hacc => ?_
  have hz : acc.size = j.toNat := hacc.1
  have rv := items_ints hacc
  have I1 : Inv X pins σ H { s with heap := h', toks := tk } := I.kept kp
  have hf : H h'.objs.size = none := I1.hok.fresh (Nat.le_refl _)
  refine ⟨.ref h'.objs.size, upd H h'.objs.size (.tup ((List.range j.toNat).map fun i => V.int (i : Nat))), I1.laid (t' := tk) (fun b u e => Heap.get?_push_of_some _ e) (Nat.le_refl _) ⟨?_, acc.toList, rv, ⟨_, Heap.get?_push_size _ rfl, rfl, rfl, 0, by simp⟩⟩, rfl, q _ _ (same_upd hf) hf upd_same⟩
  rw [List.length_map, List.length_range]
  exact Nat.le_of_lt (Rk.lt_line (by omega))
end
end L2
namespace Rs
open PySem PySem.W PyProof.Rows
def sp {α : Type} (n : Nat) (c : Nat → Nat → Bool) : KasT α → (α → Prop) → Prop
  | .ret a, Q => Q a
  | .ask i j f, Q => i < n ∧ j < n ∧ sp n c (f (c i j)) Q
section
variable {n : Nat} {K : Nat → Int}
structure Good (n : Nat) (p : Array Nat) : Prop where
  perm : p.toList.Perm (List.range n)
theorem Good.size {p : Array Nat} (g : Good n p) : p.size = n := by
  have := g.perm.length_eq
  rw [List.length_range, Array.length_toList] at this
  exact this
def at_ (p : Array Nat) (i : Nat) : Nat := p.getD i 0
theorem at_get {p : Array Nat} {i : Nat} (h : i < p.size) : p[i]? = some (at_ p i) := by
  unfold at_
  rw [Array.getD_eq_getD_getElem?, Array.getElem?_eq_getElem h]
  rfl
theorem Good.lt {p : Array Nat} (g : Good n p) (h0 : 0 < n) (i : Nat) : at_ p i < n := by
  by_cases h : i < p.size
  · have e := at_get h
    have m : at_ p i ∈ p.toList := by
      have := Array.mem_of_getElem? e
      exact Array.mem_toList_iff.mpr this
    exact List.mem_range.mp (g.perm.mem_iff.mp m)
  · unfold at_
    rw [Array.getD_eq_getD_getElem?, Array.getElem?_eq_none (by omega)]
    exact h0
theorem Good.inj {p : Array Nat} (g : Good n p) {i j : Nat} (hi : i < n) (hj : j < n) (e : at_ p i = at_ p j) : i = j := by
  have nd : p.toList.Nodup := g.perm.nodup_iff.mpr List.nodup_range
  have hs := g.size
  have hi' : i < p.toList.length := by rw [Array.length_toList]; omega
  have hj' : j < p.toList.length := by rw [Array.length_toList]; omega
  have ei : p.toList[i] = at_ p i := by
    have := at_get (p := p) (i := i) (by omega)
    rw [Array.getElem?_eq_getElem (by omega)] at this
    rw [Array.getElem_toList]
    exact Option.some.inj this
  have ej : p.toList[j] = at_ p j := by
    have := at_get (p := p) (i := j) (by omega)
    rw [Array.getElem?_eq_getElem (by omega)] at this
    rw [Array.getElem_toList]
    exact Option.some.inj this
  have pw := List.pairwise_iff_getElem.mp nd
  rcases Nat.lt_trichotomy i j with h | h | h
  · exact absurd (ei.trans (e.trans ej.symm)) (pw i j hi' hj' h)
  · exact h
  · exact absurd (ej.trans (e.symm.trans ei.symm)) (pw j i hj' hi' h)
def kk (K : Nat → Int) (p : Array Nat) (i : Nat) : Int := K (at_ p i)
def Adj (K : Nat → Int) (p : Array Nat) (m : Nat) : Prop := ∀ i, i + 1 < m → kk K p i ≤ kk K p (i + 1)
end
end Rs
namespace Rs
open PySem PySem.W PySem.Calls PyProof.Rows
section
variable {prog : Program} {w : World} {A : Around} {E : Value → Shared → Prop} {s : Shared}
theorem sorted_shell {Q : Value → Shared → Prop} {l : Addr} {T : String} {o : Obj} {vs : List Value} {n : Nat} (hT : T = "list" ∨ T = "tuple") (ho : s.heap.get? l = some o) (hc : o.cls = .type T) (hd : o.data = .seq vs.toArray n) (h64 : vs.length < 64)
    (h : ∀ h' : Heap, (∀ b x, s.heap.get? b = some x → h'.get? b = some x) → ∀ (P : PySem.Fin → Shared → Prop) (E' : Value → Shared → Prop), (∀ s2, Q (.ref h'.objs.size) s2 → P (.done (.ret .none)) s2) →
      wpAny (model prog w) A.in1.in1 (Builtin.«list.sort» ⟨[.ref h'.objs.size], []⟩) P E' { s with heap := h'.push (seqObj "list" vs.toArray 0) }) :
    wpAny (model prog w) A (call (.builtin "sorted") [.ref l]) Q E s := by
  refine Calls.call_function_entry kind_sorted plain_sorted entry_sorted (args_sorted1 _) ?_
  unfold Builtin.«sorted»
  refine wpAny_bind (m := checkCount "sorted" 1 1 _) (wpAny_pure ?_)
  refine wpAny_bind (wpAny_collect_seq (items := vs.toArray) l hT ho hc hd (fun h' kp => ?_) (by rw [List.size_toArray, sizeLine_eq]; omega))
  refine wpAny_bind (wpAny_newList ?_ (by rw [List.toList_toArray, sizeLine_eq]; omega))
  have hoL : (h'.push (seqObj "list" vs.toArray 0)).get? h'.objs.size = some (seqObj "list" vs.toArray 0) := Heap.get?_push_size _ rfl
  show wpAny _ _ _ _ _ { s with heap := h'.push (seqObj "list" vs.toArray 0) }
  refine wpAny_bind (wpAny_holding (wpAny_call_entry slot_list_sort ⟨_, hoL, rfl⟩ entry_list_sort ?body (args_list_sort _)))
  exact h h' kp _ _ fun s2 hq => ⟨_, rfl, wpAny_pure ⟨_, rfl, hq⟩⟩
end
end Rs
namespace Rs
open PySem PySem.W PySem.Calls PyProof.Rows
structure PairV (h : Heap) (v : Value) (ij : Int × Int) : Prop where
  it : ∃ (a : Addr) (o : Obj) (n : Nat) (t u : Tok), v = .ref a ∧ h.get? a = some o ∧ o.cls = .type "tuple" ∧ o.data = .seq #[.int ij.1 t, .int ij.2 u] n
inductive PairsV (h : Heap) : List Value → List (Int × Int) → Prop
  | nil : PairsV h [] []
  | cons {v : Value} {vs : List Value} {ij : Int × Int} {L : List (Int × Int)} : PairV h v ij → PairsV h vs L → PairsV h (v :: vs) (ij :: L)
theorem PairsV.at_ {h : Heap} : ∀ {vs : List Value} {L : List (Int × Int)}, PairsV h vs L → ∀ i, i < vs.length → PairV h (vs.getD i Value.none) (L.getD i (0, 0))
  | _, _, .nil, i, hi => by simp at hi
  | _, _, .cons q r, 0, hi => q
  | _, _, .cons q r, i + 1, hi => by
    have := r.at_ i (by simpa using hi)
    simpa using this
section
variable {prog : Program} {w : World} {A : Around} {E : Value → Shared → Prop} {s : Shared}
end
end Rs
namespace L2
open PySem PySem.Spec PyProof.Rows _root_.Rd _root_.Rk _root_.Rs
section
variable {X : Cx}
theorem ints_are : ∀ {ns : List Int} {vs : List Value}, Vals (ns.map V.int) vs → IntsAre vs ns
  | [], _, .nil => .nil
  | i :: ns, _, .cons ⟨t, e⟩ r => by subst e; exact .cons _ _ (ints_are r)
theorem are_ints : ∀ {ns : List Int} {vs : List Value}, IntsAre vs ns → Vals (ns.map V.int) vs
  | _, _, .nil => .nil
  | _, _, .cons n t r => .cons ⟨t, rfl⟩ (are_ints r)
def rSortI (K : PySem.W.Frag) : List V → Hp → VK → Prop := fun xs H Q => ∃ l ns, xs = [.ref l] ∧ SqT K H l ((ns : List Int).map V.int) ∧ ns.length < 64 ∧
  ∀ t ms H2, Same H H2 → H t = none → H2 t = some (.lst ((ms : List Int).map V.int)) → ms.Perm ns → ms.Pairwise (· ≤ ·) → Q (.ref t) H2
theorem call_sortI : CallR X (.builtin "sorted") (rSortI X.K) := by
  intro pins s σ H xs us Q I r h
  obtain ⟨l, ns, rfl, hl, h64, q⟩ := h
  obtain ⟨u, rfl, ru⟩ := vals1 r
  cases ru
  obtain ⟨its, rv, tp, hz⟩ := I.tuple hl
  obtain ⟨o, ho, hc, n, hd⟩ := tp
  have li := rv.length
  rw [List.length_map] at li
  refine sorted_shell (.inr rfl) ho hc hd (by omega) fun h' kp P E' hP => ?_
  have hn : (h'.push (seqObj "list" its.toArray 0)).get? h'.objs.size = some (seqObj "list" its.toArray 0) := Heap.get?_push_size _ rfl
  refine list_sort_tree (s := { s with heap := h'.push (seqObj "list" its.toArray 0) }) hn (ints_are rv) (by omega) fun out ns' ia pm pw => hP _ ?_
  have I1 : Inv X pins σ H { s with heap := h' } := I.kept (t' := s.toks) kp
  have hf : H h'.objs.size = none := I1.hok.fresh (Nat.le_refl _)
  obtain ⟨e, he⟩ : ∃ e, (sortedHeap (h'.push (seqObj "list" its.toArray 0)) h'.objs.size its out).get? h'.objs.size = some (seqObj "list" out e) := sortedHeap_at hn
  have rv' := are_ints ia
  have lp := pm.length_eq
  have I2 : Inv X pins σ (upd H h'.objs.size (.lst (ns'.map V.int))) { s with heap := sortedHeap (h'.push (seqObj "list" its.toArray 0)) h'.objs.size its out } :=
    I1.laid (t' := s.toks) (fun b x e' => (sortedHeap_old (Nat.ne_of_lt (Heap.lt_size e')) (Nat.lt_of_lt_of_le (Heap.lt_size e') (by rw [size_push']; exact Nat.le_succ _))).trans (Heap.get?_push_of_some _ e')) (Nat.le_refl _) (show ObjOk X.prog X.w _ _ _ (.lst _) from ⟨by rw [List.length_map]; exact Nat.le_of_lt (Rk.lt_line (by omega)), out.toList, e, rv', by rw [he]⟩)
  exact ⟨.ref h'.objs.size, _, I2, rfl, q _ ns' _ (same_upd hf) hf upd_same pm pw⟩
end
end L2
namespace Re
open PySem PyProof.Rows
open AutoSeq1 (wpAny_loadPart')
theorem drawsT {prog : Program} {w : World} {A : Around} {it t : Addr} {items : Array Value} (hh : A.handled = none) (hti : t ≠ it) :
    Draws prog w A it [it, t] items.size (fun i x => items[i]? = some x) (fun i h => h.IsTupleIter it t i ∧ h.IsTuple t items) where
  live := fun i h st => by
    obtain ⟨⟨o, ho, _⟩, _⟩ := st
    exact ⟨o, ho⟩
  frame := fun i h h' st k => by
    obtain ⟨⟨o, ho, c⟩, ⟨o2, h2, c2⟩⟩ := st
    exact ⟨⟨o, k it (by simp) _ ho, c⟩, ⟨o2, k t (by simp) _ h2, c2⟩⟩
  item := fun i s Q E hi st hQ => by
    refine Rz.nxt_item st.1 st.2 (x := items[i]) (by simp [hi]) fun h' hit' hs' => ?_
    refine hQ _ h' s.toks (by simp [hi]) ⟨hit', ?_⟩ hs'
    obtain ⟨o2, h2, c2⟩ := st.2
    exact ⟨o2, (hs'.2 t hti).trans h2, c2⟩
  done := fun s Q E st hE => Rz.nxt_end hh st.1 st.2 (by simp) hE
theorem meets_newT (l : Addr) (items : Array Value) (n : Nat) (dct : Option Addr) (sl : Array (Option Value)) :
    Meets (Builtin.«enumerate.__new__» ⟨[.type "enumerate", .ref l], []⟩) (fun _ R s => s.heap.get? l = some { cls := .type "tuple", dict := dct, data := .seq items n, slots := sl } ∧
      R (.ok (.ret (.ref (s.heap.push { cls := .type "tuple_iterator", data := .fields #[.ref l, .int 0 0] }).objs.size)))
        { s with heap := (s.heap.push { cls := .type "tuple_iterator", data := .fields #[.ref l, .int 0 0] }).push { cls := .type "enumerate", data := .fields #[.none, .bool false, .ref s.heap.objs.size, rawInt 0, .none, .none] } }) :=
  .of_wp fun prog w A R s h => by
    obtain ⟨hp, g, d, tk, os⟩ := s
    obtain ⟨hl, h⟩ := h
    have hsub := sub_enumerate
    have hL : Heap.IsTuple (Shared.heap ⟨hp, g, d, tk, os⟩) l items := ⟨_, hl, rfl, n, rfl⟩
    wp_walk using wpAny_loadPart' hl
    refine wpAny_stack_any fun st => wpAny_pure ?_
    split
    · rename_i c _ _ _ _ _
      cases (c == Value.type "enumerate")
      · wp_walk using wpAny_loadPart' hl, wpAny_pyIter_tuple hL
        exact ⟨_, rfl, h⟩
      · wp_walk using wpAny_loadPart' hl, wpAny_pyIter_tuple hL
        exact ⟨_, rfl, h⟩
    · wp_walk using wpAny_loadPart' hl, wpAny_pyIter_tuple hL
      exact ⟨_, rfl, h⟩
theorem call_enumT {prog : Program} {w : World} {A : Around} {E : Value → Shared → Prop} {s : Shared} {l : Addr} {items : Array Value} {Q : Value → Shared → Prop} (hL : s.heap.IsTuple l items)
    (h : ∀ h', IsEnum h' (s.heap.objs.size + 1) s.heap.objs.size 0 .none → h'.IsTupleIter s.heap.objs.size l 0 → (∀ b o, s.heap.get? b = some o → h'.get? b = some o) → Q (.ref (s.heap.objs.size + 1)) { s with heap := h' }) :
    wpAny (model prog w) A (call (.type "enumerate") [.ref l]) Q E s := by
  obtain ⟨⟨c, dct, dt, sl⟩, hl, hc, n, hd⟩ := hL
  replace hc : c = .type "tuple" := hc
  replace hd : dt = .seq items n := hd
  subst hc hd
  refine callType_new F.called_enumerate (by decide) (F.typeCall_enumerate_1 _) (F.newCall_enumerate_1 _) (fun obj => F.args_object_init_2 obj _) F.entry_enumerate_new (meets_newT l items n dct sl) ⟨hl, ?_⟩
  have hz : (s.heap.push { cls := .type "tuple_iterator", data := .fields #[.ref l, .int 0 0] }).objs.size = s.heap.objs.size + 1 := Heap.size_push ..
  show _ ∧ _
  rw [hz]
  have he := Heap.get?_push_size (s.heap.push { cls := .type "tuple_iterator", data := .fields #[.ref l, .int 0 0] }) (o := { cls := .type "enumerate", data := .fields #[.none, .bool false, .ref s.heap.objs.size, rawInt 0, .none, .none] }) rfl
  rw [hz] at he
  exact ⟨⟨_, he, rfl⟩, h _ he ⟨_, Heap.get?_push_of_some _ (Heap.get?_push_size _ rfl), rfl, rfl⟩ fun b o x => Heap.get?_push_of_some _ (Heap.get?_push_of_some _ x)⟩
end Re
namespace L2
open PySem PySem.Spec PyProof.Rows
def Iet (l : Addr) : It :=
  ⟨fun i H => ∃ xs x, H l = some (.tup xs) ∧ xs[i]? = some x,
   fun i H v H' => ∃ p x, H p = none ∧ (∀ xs, H l = some (.tup xs) → xs[i]? = some x) ∧ v = .ref p ∧ H' = upd H p (.tup [.int (i : Nat), x]),
   fun i H => ∃ xs, H l = some (.tup xs) ∧ xs.length = i⟩
theorem turn_enumT {P : Program} {w : World} {K : PySem.W.Frag} {elts : List Expr} {x1} {tpos : Pos} {e it l : Addr} (hne : e ≠ it) :
    Turn P w K (.Tuple elts x1 tpos) (Iet l) [e, it] e (fun i h => (∃ old, IsEnum h e it (i : Nat) old) ∧ h.IsTupleIter it l i) where
  mem := by simp
  obj := fun i h st b hb => by
    obtain ⟨⟨old, a1⟩, ⟨o2, a2, _, d2⟩⟩ := st
    simp only [List.mem_cons, List.not_mem_nil, or_false] at hb
    rcases hb with rfl | rfl
    · exact ⟨_, a1, fun v q => nomatch q⟩
    · exact ⟨_, a2, fun v q => by rw [d2] at q; cases q⟩
  keep := fun i h h' st k => by
    obtain ⟨⟨old, a1⟩, ⟨o2, a2, c2⟩⟩ := st
    exact ⟨⟨old, k e (by simp) _ a1⟩, o2, k it (by simp) _ a2, c2⟩
  item := by
    intro X hP hw hK hc i pins s σ H E I hf st hg
    subst hP hw hK
    obtain ⟨xs, x, h1, hx⟩ := hg
    obtain ⟨⟨old, a1⟩, a2⟩ := st
    obtain ⟨its, r1, p1, _⟩ := I.tuple (SqT.of h1)
    obtain ⟨u, hu, ru⟩ := r1.get hx
    have nel : e ≠ l := fun z => by have q := (hf e (by simp)).1; rw [z, h1] at q; cases q
    have nil : l ≠ it := fun z => by have q := (hf it (by simp)).1; rw [← z, h1] at q; cases q
    have hi : i < its.toArray.size := by
      have := (List.getElem?_eq_some_iff.mp hu).1
      simpa using this
    refine wpAny_pyNext_enum_itemD (Re.drawsT (A := X.A.in1) (t := l) (I.ok.hd hc) nil) a1 ⟨a2, p1⟩ hi hne (by simp [hne, nel]) fun y h' tk hy o' l' tp sz kp => ?_
    have ey : y = u := by
      have e1 : its.toArray[i]? = some u := by simpa using hu
      rw [e1] at hy
      exact (Option.some.inj hy).symm
    subst ey
    obtain ⟨l', tq⟩ := l'
    have fr : H s.heap.objs.size = none := I.hok.fresh (Nat.le_refl _)
    have n1 : e ≠ s.heap.objs.size := Nat.ne_of_lt (Heap.lt_size a1)
    have n2 : it ≠ s.heap.objs.size := by
      obtain ⟨o2, a2, _⟩ := a2
      exact Nat.ne_of_lt (Heap.lt_size a2)
    refine ⟨_, rfl, wpAny_letOwnedTupleGo_enum o' fun h2 e2 s2 => ?_⟩
    have I1 : Inv X pins σ (upd H s.heap.objs.size (.tup [.int (i : Nat), x])) { s with heap := h2, toks := tk + 1 } := by
      refine I.turnedNew (ch := [e, it]) hf (fun b v hb q => ?_) (Nat.le_refl _) ⟨by show 2 ≤ sizeLine; decide, [.int (i : Nat) tk, y], .cons ⟨_, rfl⟩ (.cons ru .nil), ?_⟩
      · simp only [List.mem_cons, List.not_mem_nil, or_false, not_or] at hb
        exact s2.extBut _ _ hb.1 (kp b v hb.1 hb.2 q)
      · exact ⟨_, s2.extBut _ _ n1.symm tp, rfl, rfl, 0, rfl⟩
    refine ⟨.ref s.heap.objs.size, _, I1, rfl, ⟨_, x, fr, fun xs' q => ?_, rfl, rfl⟩, ⟨⟨y, e2⟩, ?_⟩, fun b hb => ?_⟩
    · rw [h1] at q; cases q; exact hx
    · exact l'.extBut s2.extBut hne.symm
    · simp only [List.mem_cons, List.not_mem_nil, or_false] at hb
      rcases hb with rfl | rfl
      · rw [upd_ne n1]; exact (hf _ (by simp)).1
      · rw [upd_ne n2]; exact (hf _ (by simp)).1
  done := by
    intro X hP hw hK hc i pins s σ H E I hf st hg
    subst hP hw hK
    obtain ⟨xs, h1, he⟩ := hg
    obtain ⟨⟨old, a1⟩, a2⟩ := st
    obtain ⟨its, r1, p1, _⟩ := I.tuple (SqT.of h1)
    have l1 := r1.length
    have nel : e ≠ l := fun z => by have q := (hf e (by simp)).1; rw [z, h1] at q; cases q
    have nil : l ≠ it := fun z => by have q := (hf it (by simp)).1; rw [← z, h1] at q; cases q
    have e0 : its.toArray.size = i := by rw [List.size_toArray]; omega
    have D := Re.drawsT (prog := X.prog) (w := X.w) (A := X.A.in1) (t := l) (items := its.toArray) (I.ok.hd hc) nil
    rw [e0] at D
    refine wpAny_pyNext_enum_endD D a1 ⟨a2, p1⟩ fun h' kp => ⟨rfl, I.turnedAll (t' := s.toks) (ch := [e, it]) hf fun b v hb q => ?_⟩
    simp only [List.mem_cons, List.not_mem_nil, or_false, not_or] at hb
    exact kp b v hb.2 q
  self := fun _ _ _ _ _ st h => by
    obtain ⟨⟨old, a1⟩, _⟩ := st
    exact wpAny_pyIter_enum a1 h
def iEnumT (ta : TA) : TI := fun σ H R => ta σ H fun vs H1 => ∃ l xs, vs = [.ref l] ∧ H1 l = some (.tup xs) ∧ R (Iet l) H1
section
variable {X : Cx}
theorem pi_enumT {a : Expr} {elts : List Expr} {x1} {tpos : Pos} {ta : TA} {p pos : Pos} (hg : Gl X "enumerate") (hm : X.mg "enumerate" = none) (ha : PA X [a] ta) (hs : starEach [a] X.env = [(false, eval a X.env)] := by rfl) :
    PI X (.Tuple elts x1 tpos) (.Call (.Name "enumerate" p) [a] [] pos) (iEnumT ta) := by
  intro pins s σ H R I h
  refine Call_ (ld_blt I hg hm boot_enum (PyProof.Rows.callWith_type1 (thn (ha pos pins s σ H _ I h) fun us s1 ⟨vs, H1, I1, r1, q1⟩ => ?_) hs rfl))
  obtain ⟨l, xs, e, h1, q⟩ := q1
  subst e
  obtain ⟨u, rfl, ru⟩ := vals1 r1
  cases (show u = Value.ref l from ru)
  obtain ⟨its, w1, p1, _⟩ := I1.tuple (SqT.of h1)
  refine Re.call_enumT p1 fun h' e1 i1 kp => ?_
  refine wpAny_pyIter_enum (s := { s1 with heap := h' }) e1 ?_
  refine ⟨s1.heap.objs.size + 1, _, _, _, H1, rfl, I1.kept (t' := s1.toks) kp, turn_enumT (by show ¬ (s1.heap.objs.size + 1 = s1.heap.objs.size); omega), ⟨⟨_, e1⟩, i1⟩, fun b hb => ?_, q⟩
  have hb' : s1.heap.objs.size ≤ b := by
    simp only [List.mem_cons, List.not_mem_nil, or_false] at hb
    rcases hb with rfl | rfl <;> omega
  exact I1.fpOk hb' (I1.hok.fresh hb')
end
end L2
namespace Rk
open PySem PySem.Spec PyProof.Rows L2
end Rk
namespace L2
open PySem PySem.Spec PyProof.Rows
section
variable {X : Cx} {pins : List (Addr × Obj)} {σ : St} {H : Hp}
theorem store_then_end {M : List Str} {scope : Scope} {fp : List Addr} {σ' : St} {H3 : Hp} {s3 s' : Shared} {D : Addr} {i : Nat} {y : Str} {py : Pos} {Mo : Model} {A : Around} {E : Value → Shared → Prop} {Q : Value → Shared → Prop}
    (I3 : Inv X pins σ H3 s3) (f3 : ∀ b ∈ fp, FpOk X pins H3 b) (J : Inv (blk X M scope (clOf X.env scope.names []) fp s3 H3 s3.heap.objs.size) [] σ' H s')
    (hN : X.N.Nodup) (hi : X.N[i]? = some y) (hl : X.env.scope.names.lookup y = some .local) (hq : ∀ s2, Inv X pins (σ.set i (some (.ref D))) H s2 → Q .none s2) :
    wpAny Mo A (assign (.Name y py) X.env (.ref D)) (fun _ s2 => ∃ m, s2.heap.Ns s3.heap.objs.size m ∧ ∀ h', Heap.SameBut s3.heap.objs.size s2.heap h' → Q .none { s2 with heap := h' }) E s' := by
  have J0 : Inv X pins σ H s' := blk_end I3 f3 J (Heap.SameBut.refl ..)
  obtain ⟨m, hn, _⟩ := J.loc
  have hC : H s3.heap.objs.size = none := J.free
  have lt : X.env.locals < s3.heap.objs.size := I3.lt
  refine wpAny_assign_Name (store_ok2 J0 hN hi (Or.inl hl) (show RelV (.ref D) (.ref D) from rfl) (fun s2 J2 ⟨a, sb, ha⟩ => ?_) (.inr hl))
  have ea : a = X.env.locals ∨ X.env.cells.lookup y = some a := ha
  have na : s3.heap.objs.size ≠ a := by
    rcases ea with z | z
    · rw [z]; exact Nat.ne_of_gt lt
    · obtain ⟨v, o, ho, _⟩ := I3.cell y a z
      exact Nat.ne_of_gt (Heap.lt_size ho)
  refine ⟨m, hn.sameBut sb na, fun h' hs => hq _ ?_⟩
  refine J2.turned (t' := s2.toks) (it := s3.heap.objs.size) (fun b o hb e => hs.extBut b o hb e) hC (Nat.ne_of_gt lt) (.inr I3.sz) (fun x c e z => ?_) fun p hp z => ?_
  · obtain ⟨v, o, ho, _⟩ := I3.cell x c e
    exact absurd (z ▸ Heap.lt_size ho) (Nat.lt_irrefl _)
  · have e := (I3.pin p hp).1
    exact absurd (z ▸ Heap.lt_size e) (Nat.lt_irrefl _)
end
theorem ps_lcomp {X : Cx} {M : List Str} {cap : List (Option Nat)} {elt tg iter : Expr} {ifs : List Expr} {scope : Scope} {pos : Pos} {wi : TI} {g : TG} {tc : TT} {te : TE} {i : Nat} {y : Str} {py spos : Pos} (hN : X.N.Nodup) (hiy : X.N[i]? = some y) (hly : X.env.scope.names.lookup y = some .local) (hc : X.calm = true) (ok : capOk X.N X.env.scope M scope cap = true)
    (hi : PI X tg iter wi) (hb : ∀ cl ex s3 H3 C, PG (blk X M scope cl ex s3 H3 C) tg g ∧ PTs (blk X M scope cl ex s3 H3 C) ifs tc ∧ PE (blk X M scope cl ex s3 H3 C) elt te)
    (hs : ∀ x, foldedSetIterable iter X.env x = pure x := by intro _; rfl)  (hsw : swapsWith (.ListComp elt [⟨tg, iter, ifs, 0⟩] scope pos) (some (.Name y py)) spos.line X.env = pure true := by rfl) : PS X (.Assign [.Name y py] (.ListComp elt [⟨tg, iter, ifs, 0⟩] scope pos) spos) (tAsg (tComp cap wi g tc te) (gName i)) := by
  intro pins s σ H D I h
  have c := CapOk.of ok
  rw [exec_Assign_Name_used _ _ _ _ hsw]
  refine wpAny_bind (wpAny_standAt (wpAny_bind ?_))
  show wpAny _ X.A (do let _ ← comprehension (.ListComp elt [⟨tg, iter, ifs, 0⟩] scope pos) scope X.env _ (newList []) false (eval iter X.env) (some (assign (.Name y py) X.env))) _ _ s
  refine wpAny_bind (wpAny_mono (wpAny_comprehension_free (use := some (assign (.Name y py) X.env)) (Q := fun _ s' => SP X pins D .next s') rfl hs (clos_eq (I.ok.cells c)) c.kind c.loc ?_) (fun _ s' hq => wpAny_pure (wpAny_pure hq)) fun _ _ e => e)
  refine thn (hi pins s σ H _ I h) fun v s1 h1 => thn h1 fun itv s2 h2 => ?_
  obtain ⟨it, fp, tn, J, H2, e, I2, T, st2, f2, hW⟩ := h2
  subst e
  refine wpAny_newObj_type (wpAny_newFunctionEnv c.cell (by intro y hy; simp at hy) (fun h₁ hns₁ hsb₁ => ?_) c.kind)
  have I3 : Inv X pins σ (upd H2 s2.heap.objs.size (.lst [])) { s2 with heap := s2.heap.push { cls := .type "list", data := .seq ([] : List Value).toArray } } := I2.lnew (t' := s2.toks) (ys := []) .nil (Nat.zero_le _)
  have lt2 : ∀ b ∈ fp, b < s2.heap.objs.size := fun b hb => by obtain ⟨o, e, _⟩ := T.obj _ _ st2 b hb; exact Heap.lt_size e
  have f3 : ∀ b ∈ fp, FpOk X pins (upd H2 s2.heap.objs.size (.lst [])) b := fun b hb => (f2 b hb).upd (Nat.ne_of_lt (lt2 b hb))
  generalize hs3 : ({ s2 with heap := s2.heap.push { cls := .type "list", data := .seq ([] : List Value).toArray } } : Shared) = s3 at I3
  have e3 : s3.heap = s2.heap.push { cls := .type "list", data := .seq ([] : List Value).toArray } := by rw [← hs3]
  have z3 : s3.heap.objs.size = s2.heap.objs.size + 1 := by rw [e3, Heap.size_push]
  have hk : ∀ b o, s3.heap.get? b = some o → h₁.get? b = some o := fun b o e => hsb₁.extBut b o (by
    have := Heap.lt_size e
    rw [e3] at this
    exact Nat.ne_of_lt this) (Heap.get?_push_of_some _ (e3 ▸ e))
  have hn₁ : h₁.Ns s3.heap.objs.size fun _ => none := by rw [e3]; exact hns₁
  have B := blk_start (t4 := s3.toks + ([] : List (Str × Value)).length) (fp := fp) I3 c f3 (fun b hb => by rw [z3]; exact Nat.lt_succ_of_lt (lt2 b hb)) hn₁ hk
  have st4 : tn 0 h₁ := T.keep _ _ _ st2 fun b hb o e => hk b o (by rw [e3]; exact Heap.get?_push_of_some _ e)
  have fp4 : ∀ b ∈ fp, FpOk (blk X M scope (clOf X.env scope.names []) fp s3 (upd H2 s2.heap.objs.size (.lst [])) s3.heap.objs.size) [] (upd H2 s2.heap.objs.size (.lst [])) b := fun b hb => by
    refine ⟨(f3 b hb).1, (B.ok.exf b hb).1, B.ok.exfs b hb, .inl hb, (B.ok.exf b hb).2, fun p hp => (nomatch hp)⟩
  obtain ⟨hg, ht, he⟩ := hb (clOf X.env scope.names []) fp s3 (upd H2 s2.heap.objs.size (.lst [])) s3.heap.objs.size
  have loop : codeAny (model X.prog X.w) X.A (.compLoop (.ListComp elt [⟨tg, iter, ifs, 0⟩] scope pos) 0 (.ref it) (.ref s2.heap.objs.size) (compEnvC scope (clOf X.env scope.names []) s3.heap.objs.size X.env))
      (compPost (model X.prog X.w) X.A X.xe (some (assign (.Name y py) X.env)) (fun _ s' => SP X pins D .next s') (.ref s2.heap.objs.size) s3.heap.objs.size) { s3 with heap := h₁, toks := s3.toks + ([] : List (Str × Value)).length } := by
    refine comp_loop (Y := blk X M scope (clOf X.env scope.names []) fp s3 (upd H2 s2.heap.objs.size (.lst [])) s3.heap.objs.size) (gens := [⟨tg, iter, ifs, 0⟩]) (d := 0) hc T st4 fp4
      (fun Q E s h => turn_one Q E s h) (fun x u r => body_of rfl hg ht (fun σ4 => body_elt rfl he) x u r) B (hW _ (I2.hok.fresh (Nat.le_refl _))) fun s' H' I' q => ?_
    exact store_then_end (Q := fun _ s' => SP X pins D .next s') I3 f3 I' hN hiy hly fun s2' J2 => ⟨_, H', J2, q⟩
  exact codeAny_compStart_list loop (T.self _ 0 _ _ _ st4 loop)
theorem ps_lcomp2 {X : Cx} {M : List Str} {cap : List (Option Nat)} {elt tg iter tg2 iter2 : Expr} {ifs ifs2 : List Expr} {scope : Scope} {pos : Pos} {wi wi2 : TI} {g g2 : TG} {tc tc2 : TT} {te : TE} {i : Nat} {y : Str} {py spos : Pos} (hN : X.N.Nodup) (hiy : X.N[i]? = some y) (hly : X.env.scope.names.lookup y = some .local) (hc : X.calm = true) (ok : capOk X.N X.env.scope M scope cap = true)
    (hi : PI X tg iter wi) (hb : ∀ cl ex s3 H3 C, PG (blk X M scope cl ex s3 H3 C) tg g ∧ PTs (blk X M scope cl ex s3 H3 C) ifs tc ∧ PI (blk X M scope cl ex s3 H3 C) tg2 iter2 wi2 ∧ PG (blk X M scope cl ex s3 H3 C) tg2 g2 ∧ PTs (blk X M scope cl ex s3 H3 C) ifs2 tc2 ∧ PE (blk X M scope cl ex s3 H3 C) elt te)
    (hs : ∀ x, foldedSetIterable iter X.env x = pure x := by intro _; rfl) (hs2 : ∀ env x, foldedSetIterable iter2 env x = pure x := by intro _ _; rfl)  (hsw : swapsWith (.ListComp elt [⟨tg, iter, ifs, 0⟩, ⟨tg2, iter2, ifs2, 0⟩] scope pos) (some (.Name y py)) spos.line X.env = pure true := by rfl) : PS X (.Assign [.Name y py] (.ListComp elt [⟨tg, iter, ifs, 0⟩, ⟨tg2, iter2, ifs2, 0⟩] scope pos) spos) (tAsg (tComp2 cap wi g tc wi2 g2 tc2 te) (gName i)) := by
  intro pins s σ H D I h
  have c := CapOk.of ok
  rw [exec_Assign_Name_used _ _ _ _ hsw]
  refine wpAny_bind (wpAny_standAt (wpAny_bind ?_))
  show wpAny _ X.A (do let _ ← comprehension (.ListComp elt [⟨tg, iter, ifs, 0⟩, ⟨tg2, iter2, ifs2, 0⟩] scope pos) scope X.env _ (newList []) false (eval iter X.env) (some (assign (.Name y py) X.env))) _ _ s
  refine wpAny_bind (wpAny_mono (wpAny_comprehension_free (use := some (assign (.Name y py) X.env)) (Q := fun _ s' => SP X pins D .next s') rfl hs (clos_eq (I.ok.cells c)) c.kind c.loc ?_) (fun _ s' hq => wpAny_pure (wpAny_pure hq)) fun _ _ e => e)
  refine thn (hi pins s σ H _ I h) fun v s1 h1 => thn h1 fun itv s2 h2 => ?_
  obtain ⟨it, fp, tn, J, H2, e, I2, T, st2, f2, hW⟩ := h2
  subst e
  refine wpAny_newObj_type (wpAny_newFunctionEnv c.cell (by intro y hy; simp at hy) (fun h₁ hns₁ hsb₁ => ?_) c.kind)
  have I3 : Inv X pins σ (upd H2 s2.heap.objs.size (.lst [])) { s2 with heap := s2.heap.push { cls := .type "list", data := .seq ([] : List Value).toArray } } := I2.lnew (t' := s2.toks) (ys := []) .nil (Nat.zero_le _)
  have lt2 : ∀ b ∈ fp, b < s2.heap.objs.size := fun b hb => by obtain ⟨o, e, _⟩ := T.obj _ _ st2 b hb; exact Heap.lt_size e
  have f3 : ∀ b ∈ fp, FpOk X pins (upd H2 s2.heap.objs.size (.lst [])) b := fun b hb => (f2 b hb).upd (Nat.ne_of_lt (lt2 b hb))
  generalize hs3 : ({ s2 with heap := s2.heap.push { cls := .type "list", data := .seq ([] : List Value).toArray } } : Shared) = s3 at I3
  have e3 : s3.heap = s2.heap.push { cls := .type "list", data := .seq ([] : List Value).toArray } := by rw [← hs3]
  have z3 : s3.heap.objs.size = s2.heap.objs.size + 1 := by rw [e3, Heap.size_push]
  have hk : ∀ b o, s3.heap.get? b = some o → h₁.get? b = some o := fun b o e => hsb₁.extBut b o (by
    have := Heap.lt_size e
    rw [e3] at this
    exact Nat.ne_of_lt this) (Heap.get?_push_of_some _ (e3 ▸ e))
  have hn₁ : h₁.Ns s3.heap.objs.size fun _ => none := by rw [e3]; exact hns₁
  have B := blk_start (t4 := s3.toks + ([] : List (Str × Value)).length) (fp := fp) I3 c f3 (fun b hb => by rw [z3]; exact Nat.lt_succ_of_lt (lt2 b hb)) hn₁ hk
  have st4 : tn 0 h₁ := T.keep _ _ _ st2 fun b hb o e => hk b o (by rw [e3]; exact Heap.get?_push_of_some _ e)
  have fp4 : ∀ b ∈ fp, FpOk (blk X M scope (clOf X.env scope.names []) fp s3 (upd H2 s2.heap.objs.size (.lst [])) s3.heap.objs.size) [] (upd H2 s2.heap.objs.size (.lst [])) b := fun b hb => by
    refine ⟨(f3 b hb).1, (B.ok.exf b hb).1, B.ok.exfs b hb, .inl hb, (B.ok.exf b hb).2, fun p hp => (nomatch hp)⟩
  obtain ⟨hg, ht, hi2, hg2, ht2, he⟩ := hb (clOf X.env scope.names []) fp s3 (upd H2 s2.heap.objs.size (.lst [])) s3.heap.objs.size
  have loop : codeAny (model X.prog X.w) X.A (.compLoop (.ListComp elt [⟨tg, iter, ifs, 0⟩, ⟨tg2, iter2, ifs2, 0⟩] scope pos) 0 (.ref it) (.ref s2.heap.objs.size) (compEnvC scope (clOf X.env scope.names []) s3.heap.objs.size X.env))
      (compPost (model X.prog X.w) X.A X.xe (some (assign (.Name y py) X.env)) (fun _ s' => SP X pins D .next s') (.ref s2.heap.objs.size) s3.heap.objs.size) { s3 with heap := h₁, toks := s3.toks + ([] : List (Str × Value)).length } := by
    refine comp_loop (Y := blk X M scope (clOf X.env scope.names []) fp s3 (upd H2 s2.heap.objs.size (.lst [])) s3.heap.objs.size) (gens := [⟨tg, iter, ifs, 0⟩, ⟨tg2, iter2, ifs2, 0⟩]) (d := 0) hc T st4 fp4
      (fun Q E s h => turn_first (hs2 _) Q E s h) (fun x u r => body_of rfl hg ht (fun σ4 => body_nest rfl hc hi2 hg2 ht2 he) x u r) B (hW _ (I2.hok.fresh (Nat.le_refl _))) fun s' H' I' q => ?_
    exact store_then_end (Q := fun _ s' => SP X pins D .next s') I3 f3 I' hN hiy hly fun s2' J2 => ⟨_, H', J2, q⟩
  exact codeAny_compStart_list loop (T.self _ 0 _ _ _ st4 loop)
end L2
namespace Rk
open PySem PySem.Spec PyProof.Rows L2 _root_.Rd
section
variable {X : Cx}
end
end Rk
namespace Rk
open PySem PySem.Spec PyProof.Rows L2 _root_.Rd
end Rk
namespace Rk
open PySem PySem.Spec PyProof.Rows L2
end Rk
namespace Rx
open PySem PySem.Spec PySem.Calls PyProof.Rows L2
section
variable {X : Cx} {E : XK}
end
section
variable {X : Cx} {tf : TE} {fe : Expr} {pos : Pos} {e : Expr} {es : List Expr} {t : TA} {M : Addr → Sp → Prop}
end
end Rx
namespace Rk
open PySem PySem.Spec PyProof.Rows L2 _root_.Rd
structure GlbA (mg : Str → Option Value) : Prop where
  isinstance : mg "isinstance" = none
  int : mg "int" = none
  bool : mg "bool" = none
  str : mg "str" = none
  tuple : mg "tuple" = none
  list : mg "list" = none
  all : mg "all" = none
  len : mg "len" = none
  zip : mg "zip" = none
  enumerate : mg "enumerate" = none
  range : mg "range" = none
  max : mg "max" = none
  min : mg "min" = none
  sorted : mg "sorted" = none
  sum : mg "sum" = none
  set : mg "set" = none
  any : mg "any" = none
  reversed : mg "reversed" = none
  divmod : mg "divmod" = none
def rInU (u : Nat) (neg : Bool) : R2 := fun x y H Q => ∃ c ps ds d, y = .ref c ∧ H c = some (.tup ps) ∧ Dats H ps ds ∧ Dat H x d ∧ u + d.depth < cLine ∧ Q (.bl (if neg then !(ds.any fun e => PyData.eqv e d) else ds.any fun e => PyData.eqv e d)) H
theorem op_inU {X : Cx} : OpR X (compareOp .In) (rInU X.A.in1.units false) := op_inD
end Rk
namespace Rx
open PySem PySem.Spec PySem.Calls PyProof.Rows L2
section
variable {P : Program} {w : World} {K : PySem.W.Frag} {mg : Str → Option Value} {base : Heap}
end
end Rx
namespace Rk
open PySem PySem.Spec PyProof.Rows L2 _root_.Rd
section
variable {X : Cx} {is js : List Nat}
end
end Rk
namespace L2
open PySem PySem.Spec PyProof.Rows
theorem plain_isList {h : Heap} {a : Addr} {its : Array Value} (p : PlainL h a its) : h.IsList a its := by
  obtain ⟨o, n, h1, h2, _, h3⟩ := p
  exact ⟨o, h1, h2, n, h3⟩
structure ZipLAt (h : Heap) (z TI TO i1 i2 t1 t2 : Addr) (f : Value) (k : Nat) : Prop where
  zp : IsZip h z TI TO f
  ti : IsPair h TI (.ref i1) (.ref i2)
  to : ∃ a b, IsPair h TO a b
  i1 : h.IsListIter i1 t1 k
  i2 : h.IsListIter i2 t2 k
section
variable {prog : Program} {w : World} {A : Around} {E : Value → Shared → Prop} {s : Shared}
theorem zipL_item {z TI TO i1 i2 t1 t2 : Addr} {k : Nat} {xs ys : Array Value} {x y : Value} {Q : Option Value → Shared → Prop} (D : ZipApart z TI TO i1 i2 t1 t2) (Z : ZipLAt s.heap z TI TO i1 i2 t1 t2 .none k)
    (hl1 : s.heap.IsList t1 xs) (hl2 : s.heap.IsList t2 ys) (hx : xs[k]? = some x) (hy : ys[k]? = some y)
    (hQ : ∀ h', ZipLAt h' z TI TO i1 i2 t1 t2 (rawInt s.heap.objs.size) (k + 1) → IsPair h' s.heap.objs.size x y → (∀ c o, c ≠ z → c ≠ TO → c ≠ i1 → c ≠ i2 → s.heap.get? c = some o → h'.get? c = some o) → Q (some (.ref s.heap.objs.size)) { s with heap := h' }) :
    wpAny (model prog w) A (pyNext (.ref z)) Q E s := by
  obtain ⟨hz, hTI, ⟨a, b, hTO⟩, h1, h2⟩ := Z
  exact wpAny_pyNext_zip_item D hz hTI hTO h1 h2 hl1 hl2 hx hy fun h' a1 a2 a3 a4 a5 a6 a7 => hQ h' ⟨a1, a7 _ _ D.TIz D.TITO D.TIi1 D.TIi2 hTI, ⟨x, y, a2⟩, a3, a4⟩ a5 a7
theorem zipL_end {z TI TO i1 i2 t1 t2 : Addr} {k : Nat} {xs ys : Array Value} {Q : Option Value → Shared → Prop} (hh : A.handled = none) (D : ZipApart z TI TO i1 i2 t1 t2) (Z : ZipLAt s.heap z TI TO i1 i2 t1 t2 .none k)
    (hl1 : s.heap.IsList t1 xs) (hl2 : s.heap.IsList t2 ys) (hend : xs[k]? = none ∨ ys[k]? = none)
    (hQ : ∀ h', (∀ c o, c ≠ z → c ≠ TO → c ≠ i1 → c ≠ i2 → s.heap.get? c = some o → h'.get? c = some o) → Q none { s with heap := h' }) : wpAny (model prog w) A (pyNext (.ref z)) Q E s := by
  obtain ⟨hz, hTI, ⟨a, b, hTO⟩, h1, h2⟩ := Z
  exact wpAny_pyNext_zip_end hh D hz hTI hTO h1 h2 hl1 hl2 hend hQ
theorem zipL_call {t1 t2 : Addr} {xs ys : Array Value} {Q : Value → Shared → Prop} (hl1 : s.heap.IsList t1 xs) (hl2 : s.heap.IsList t2 ys)
    (h : ∀ h', ZipLAt h' (s.heap.objs.size + 4) (s.heap.objs.size + 2) (s.heap.objs.size + 3) s.heap.objs.size (s.heap.objs.size + 1) t1 t2 .none 0 → (∀ c o, s.heap.get? c = some o → h'.get? c = some o) → Q (.ref (s.heap.objs.size + 4)) { s with heap := h' }) :
    wpAny (model prog w) A (call (.type "zip") [.ref t1, .ref t2]) Q E s :=
  call_zip_2 hl1 hl2 fun h' a1 a2 a3 a4 a5 a6 a7 => h h' ⟨a1, a2, ⟨_, _, a3⟩, a4, a5⟩ a7
end
def ItzL (t1 t2 : Addr) : It :=
  ⟨fun i H => ∃ xs ys x y, H t1 = some (.lst xs) ∧ H t2 = some (.lst ys) ∧ xs[i]? = some x ∧ ys[i]? = some y,
   fun i H v H' => ∃ p x y, H p = none ∧ (∀ xs, H t1 = some (.lst xs) → xs[i]? = some x) ∧ (∀ ys, H t2 = some (.lst ys) → ys[i]? = some y) ∧ v = .ref p ∧ H' = upd H p (.tup [x, y]),
   fun i H => ∃ xs ys, H t1 = some (.lst xs) ∧ H t2 = some (.lst ys) ∧ (xs.length ≤ i ∨ ys.length ≤ i)⟩
theorem turn_zipL {P : Program} {w : World} {K : PySem.W.Frag} {elts : List Expr} {x1} {tpos : Pos} {z TI TO i1 i2 t1 t2 : Addr} (D : ZipApart z TI TO i1 i2 t1 t2) :
    Turn P w K (.Tuple elts x1 tpos) (ItzL t1 t2) [z, TI, TO, i1, i2] z (fun i h => ZipLAt h z TI TO i1 i2 t1 t2 .none i) where
  mem := by simp
  obj := fun i h st b hb => by
    obtain ⟨a1, a2, ⟨_, _, a3⟩, ⟨o4, a4, _, d4⟩, ⟨o5, a5, _, d5⟩⟩ := st
    simp only [List.mem_cons, List.not_mem_nil, or_false] at hb
    rcases hb with rfl | rfl | rfl | rfl | rfl
    · exact ⟨_, a1, fun v q => nomatch q⟩
    · exact ⟨_, a2, fun v q => nomatch q⟩
    · exact ⟨_, a3, fun v q => nomatch q⟩
    · exact ⟨_, a4, fun v q => by rw [d4] at q; cases q⟩
    · exact ⟨_, a5, fun v q => by rw [d5] at q; cases q⟩
  keep := fun i h h' st k => by
    obtain ⟨a1, a2, ⟨a, b, a3⟩, a4, a5⟩ := st
    exact ⟨k z (by simp) _ a1, k TI (by simp) _ a2, ⟨a, b, k TO (by simp) _ a3⟩, a4.at fun o e => k i1 (by simp) o e, a5.at fun o e => k i2 (by simp) o e⟩
  item := by
    intro X hP hw hK hc i pins s σ H E I hf st hg
    subst hP hw hK
    obtain ⟨xs, ys, x, y, h1, h2, hx, hy⟩ := hg
    obtain ⟨its1, r1, p1, _⟩ := I.list (SqL.of h1)
    obtain ⟨its2, r2, p2, _⟩ := I.list (SqL.of h2)
    obtain ⟨u1, hu1, ru1⟩ := r1.get hx
    obtain ⟨u2, hu2, ru2⟩ := r2.get hy
    refine zipL_item D st (plain_isList p1) (plain_isList p2) (by simpa using hu1) (by simpa using hu2) fun h' st' tp kp => ?_
    have hlt : ∀ b ∈ [z, TI, TO, i1, i2], b ≠ s.heap.objs.size := fun b hb => by
      obtain ⟨a1, a2, ⟨_, _, a3⟩, ⟨o4, a4, _, d4⟩, ⟨o5, a5, _, d5⟩⟩ := st
      simp only [List.mem_cons, List.not_mem_nil, or_false] at hb
      rcases hb with rfl | rfl | rfl | rfl | rfl
      · exact Nat.ne_of_lt (Heap.lt_size a1)
      · exact Nat.ne_of_lt (Heap.lt_size a2)
      · exact Nat.ne_of_lt (Heap.lt_size a3)
      · exact Nat.ne_of_lt (Heap.lt_size a4)
      · exact Nat.ne_of_lt (Heap.lt_size a5)
    have fr : H s.heap.objs.size = none := I.hok.fresh (Nat.le_refl _)
    refine ⟨_, rfl, wpAny_letOwnedTupleGo_zip st'.zp fun h2' z2 s2 => ?_⟩
    have I1 : Inv X pins σ (upd H s.heap.objs.size (.tup [x, y])) { s with heap := h2', toks := s.toks } := by
      refine I.turnedNew (ch := [z, TI, TO, i1, i2]) hf (fun b u hb e => ?_) (Nat.le_refl _) ⟨by show 2 ≤ sizeLine; decide, [u1, u2], .cons ru1 (.cons ru2 .nil), ?_⟩
      · simp only [List.mem_cons, List.not_mem_nil, or_false, not_or] at hb
        exact s2.extBut _ _ hb.1 (kp b u hb.1 hb.2.2.1 hb.2.2.2.1 hb.2.2.2.2 e)
      · exact ⟨_, s2.extBut _ _ (hlt z (by simp)).symm tp, rfl, rfl, 0, rfl⟩
    refine ⟨.ref s.heap.objs.size, _, I1, rfl, ⟨_, x, y, fr, fun xs' e => ?_, fun ys' e => ?_, rfl, rfl⟩, ?_, fun b hb => ?_⟩
    · rw [h1] at e; cases e; exact hx
    · rw [h2] at e; cases e; exact hy
    · obtain ⟨a1, a2, ⟨a, b, a3⟩, a4, a5⟩ := st'
      exact ⟨z2, s2.extBut _ _ D.TIz a2, ⟨a, b, s2.extBut _ _ D.TOz a3⟩, a4.extBut s2.extBut D.i1z, a5.extBut s2.extBut D.i2z⟩
    · rw [upd_ne (hlt b hb)]; exact (hf b hb).1
  done := by
    intro X hP hw hK hc i pins s σ H E I hf st hg
    subst hP hw hK
    obtain ⟨xs, ys, h1, h2, he⟩ := hg
    obtain ⟨its1, r1, p1, _⟩ := I.list (SqL.of h1)
    obtain ⟨its2, r2, p2, _⟩ := I.list (SqL.of h2)
    have l1 := r1.length
    have l2 := r2.length
    refine zipL_end (I.ok.hd hc) D st (plain_isList p1) (plain_isList p2) ?_ fun h' kp => ⟨rfl, I.turnedAll (t' := s.toks) (ch := [z, TI, TO, i1, i2]) hf fun b u hb e => ?_⟩
    · rcases he with q | q
      · exact .inl (by simp; omega)
      · exact .inr (by simp; omega)
    · simp only [List.mem_cons, List.not_mem_nil, or_false, not_or] at hb
      exact kp b u hb.1 hb.2.2.1 hb.2.2.2.1 hb.2.2.2.2 e
  self := fun _ _ _ _ _ st h => wpAny_pyIter_zip st.zp h
section
variable {X : Cx}
theorem apart_newL (n t1 t2 : Nat) (h1 : t1 < n) (h2 : t2 < n) : ZipApart (n + 4) (n + 2) (n + 3) n (n + 1) t1 t2 where
  TIz := by show ¬ (n + 2 = n + 4); omega
  TOz := by show ¬ (n + 3 = n + 4); omega
  i1z := by show ¬ (n = n + 4); omega
  i2z := by show ¬ (n + 1 = n + 4); omega
  TITO := by show ¬ (n + 2 = n + 3); omega
  TIi1 := by show ¬ (n + 2 = n); omega
  TIi2 := by show ¬ (n + 2 = n + 1); omega
  TOi1 := by show ¬ (n + 3 = n); omega
  TOi2 := by show ¬ (n + 3 = n + 1); omega
  i12 := by show ¬ (n = n + 1); omega
  l1z := by show ¬ (t1 = n + 4); omega
  l1TO := by show ¬ (t1 = n + 3); omega
  l1i1 := by show ¬ (t1 = n); omega
  l1i2 := by show ¬ (t1 = n + 1); omega
  l2z := by show ¬ (t2 = n + 4); omega
  l2TO := by show ¬ (t2 = n + 3); omega
  l2i1 := by show ¬ (t2 = n); omega
  l2i2 := by show ¬ (t2 = n + 1); omega
def iZipL (ta : TA) : TI := fun σ H R => ta σ H fun vs H1 => ∃ t1 t2 xs ys, vs = [.ref t1, .ref t2] ∧ H1 t1 = some (.lst xs) ∧ H1 t2 = some (.lst ys) ∧ R (ItzL t1 t2) H1
theorem boot_zipL : bootBuiltins "zip" = some (.type "zip") := by decide +kernel
theorem pi_zipL {a b : Expr} {elts : List Expr} {x1} {tpos : Pos} {ta : TA} {p pos : Pos} (hg : Gl X "zip") (hm : X.mg "zip" = none) (ha : PA X [a, b] ta) (hs : starEach [a, b] X.env = [(false, eval a X.env), (false, eval b X.env)] := by rfl) (hs2 : starEach [b] X.env = [(false, eval b X.env)] := by rfl) :
    PI X (.Tuple elts x1 tpos) (.Call (.Name "zip" p) [a, b] [] pos) (iZipL ta) := by
  intro pins s σ H R I h
  refine Call_ (ld_blt I hg hm boot_zipL (PyProof.Rows.callWith_type1 (thn (ha pos pins s σ H _ I h) fun us s1 ⟨vs, H1, I1, r1, q1⟩ => ?_) (by rw [hs, hs2]) (by rw [hs2]; rfl)))
  obtain ⟨t1, t2, xs, ys, e, h1, h2, q⟩ := q1
  subst e
  obtain ⟨u, v, rfl, ru, rv⟩ := vals2 r1
  cases (show u = Value.ref t1 from ru)
  cases (show v = Value.ref t2 from rv)
  obtain ⟨its1, w1, p1, _⟩ := I1.list (SqL.of h1)
  obtain ⟨its2, w2, p2, _⟩ := I1.list (SqL.of h2)
  have n1 : t1 < s1.heap.objs.size := I1.hok.lt h1
  have n2 : t2 < s1.heap.objs.size := I1.hok.lt h2
  refine zipL_call (plain_isList p1) (plain_isList p2) fun h' st kp => ?_
  refine wpAny_pyIter_zip (s := { s1 with heap := h' }) st.zp ?_
  have D := apart_newL s1.heap.objs.size t1 t2 n1 n2
  refine ⟨s1.heap.objs.size + 4, _, _, _, H1, rfl, I1.kept (t' := s1.toks) kp, turn_zipL D, st, fun b hb => ?_, q⟩
  have hb' : s1.heap.objs.size ≤ b := by
    simp only [List.mem_cons, List.not_mem_nil, or_false] at hb
    rcases hb with rfl | rfl | rfl | rfl | rfl <;> omega
  exact I1.fpOk hb' (I1.hok.fresh hb')
end
end L2
namespace L2
open PySem PySem.Spec PyProof.Rows
def rLenK (K : PySem.W.Frag) : List V → Hp → VK → Prop := fun xs H Q => ∃ p ys, xs = [.ref p] ∧ (SqL K H p ys ∨ SqT K H p ys) ∧ Q (.int ys.length) H
theorem bt_set : bootBuiltins "set" = some (.type "set") := by decide +kernel
theorem bt_sorted : bootBuiltins "sorted" = some (.builtin "sorted") := by decide +kernel
def CMulB (i j : Int) : Prop := ∃ k : Nat, k ≤ 1000000 ∧ i.natAbs < 2 ^ k ∧ j.natAbs < 2 ^ k
theorem bits_le {i : Int} {k : Nat} (h : i.natAbs < 2 ^ k) : Builtin.Int.intBits i ≤ k := by
  unfold Builtin.Int.intBits
  split
  · exact Nat.zero_le _
  · rename_i z
    have hz : i.natAbs ≠ 0 := by
      intro q
      apply z
      have : i = 0 := by omega
      subst this
      rfl
    have := (Nat.log2_lt hz).mpr h
    omega
theorem CMulB.ok {i j : Int} (h : CMulB i j) : IntMulOk i j := by
  obtain ⟨k, hk, h1, h2⟩ := h
  have a := bits_le h1
  have b := bits_le h2
  unfold IntMulOk
  have c : Builtin.Int.intTooBig (Builtin.Int.intBits i + Builtin.Int.intBits j : Nat) = false := by
    unfold Builtin.Int.intTooBig
    rw [decide_eq_false]
    have : bitsLine = 134217728 := by decide +kernel
    rw [this]
    omega
  intro z
  rw [Bool.and_eq_true] at z
  have z2 := z.2
  have e : ((Builtin.Int.intBits i + Builtin.Int.intBits j : Nat) : Int) = (Builtin.Int.intBits i : Int) + (Builtin.Int.intBits j : Int) := by omega
  rw [e] at c
  rw [c] at z2
  cases z2
section
variable {X : Cx}
theorem op_mulB : OpR X (binaryOp .Mult) (rI CMulB fun i j => .int (i * j)) := opI fun _ _ _ _ _ _ _ hc q => mul_int q hc.ok
theorem get_list : PGet X (rIxL X.K) := by
  intro pins s σ H o i ov iv Q I ro ri h
  obtain ⟨p, xs, k, z, rfl, rfl, hq, he, q⟩ := h
  cases ro
  obtain ⟨t, rfl⟩ := ri
  obtain ⟨its, r, pl, hz⟩ := I.list hq
  obtain ⟨j, h1, h2, h3, h4, h5⟩ := atI_get he
  obtain ⟨w, ew, rw'⟩ := r.get h2
  have hl := r.length
  have hn := line63
  have fin : EP X pins σ Q w s := ⟨z, H, I, rw', q⟩
  by_cases h0 : 0 ≤ k
  · have hj : k.toNat = j := by
      rw [seqIndex_of h0 h5] at h1
      exact Option.some.inj h1
    exact wpAny_getItem_list pl.isList h0 (by omega) (by rw [hj]; simpa using ew) fin
  · have hj : (k + (its.toArray.size : Int)).toNat = j := by
      rw [seqIndex_neg (by omega) h4] at h1
      rw [List.size_toArray, ← hl]
      exact Option.some.inj h1
    exact wpAny_getItem_list_neg pl.isList (by omega) (by rw [List.size_toArray] <;> omega) (by omega) (by rw [hj]; simpa using ew) fin
def iOr (a b : TI) : TI := fun σ H R => a σ H R ∨ b σ H R
theorem pi_or {tg e : Expr} {a b : TI} (h1 : PI X tg e a) (h2 : PI X tg e b) : PI X tg e (iOr a b) := by
  intro pins s σ H R I h
  rcases h with h | h
  · exact h1 pins s σ H R I h
  · exact h2 pins s σ H R I h
end
end L2
namespace Rk
open PySem PySem.Spec PyProof.Rows L2 _root_.Rd
def rEqU (u : Nat) : R2 := fun x y H Q => ∃ dx dy, Dat H x dx ∧ Dat H y dy ∧ u + min dx.depth dy.depth < cLine ∧ Q (.bl (PyData.eqv dx dy)) H
theorem op_eqU {X : Cx} : OpR X (compareOp .Eq) (rEqU X.A.units) := op_eqD
theorem op_notInU {X : Cx} : OpR X (compareOp .NotIn) (rInU X.A.in1.units true) := op_notInD
def flatL : Nat → PyData → Bool
  | _, .none => true
  | _, .bool _ => true
  | _, .int _ => true
  | _, .str _ => true
  | n + 1, .tuple ds => decide (ds.length ≤ 1000) && ds.all (flatL n)
  | n + 1, .list ds => decide (ds.length ≤ 1000) && ds.all (flatL n)
  | _, _ => false
def spSameL : Nat → Sp
  | 0 => fun _ _ _ _ => False
  | n + 1 => fun vs H Q _ => ∃ x y d, vs = [x, y] ∧ Dat H x d ∧ Dat H y d ∧ flatL n d = true ∧ ∀ H', Same H H' → Q (.bl true) H'
end Rk
namespace Rk
open PySem PySem.Spec PyProof.Rows L2 _root_.Rd
end Rk
namespace Rx
open PySem PySem.Spec PySem.Calls PyProof.Rows L2
end Rx
namespace Rk
open PySem PySem.Spec PyProof.Rows L2 _root_.Rd
theorem ixN_nat {n k : Nat} (h : k < n) : ixN n (k : Nat) = some k := by
  unfold ixN
  rw [if_pos (by omega), if_pos (by omega)]
  simp
end Rk
namespace HT
open PySem PyProof.Rows
section
open PySem.SeqAt
open PySem.AutoSeq1 (wpAny_loadPart')
open PySem.MeetsSeq PySem.MeetsSeq2 PySem.MeetsSeq3
end
section
variable {prog : Program} {w : World} {A : Around} {E : Value → Shared → Prop} {s : Shared}
end
end HT
namespace L2
open PySem PySem.Spec PyProof.Rows
end L2
namespace L2
open PySem PySem.Spec PyProof.Rows
end L2
namespace Rk
open PySem PySem.Spec PyProof.Rows L2 _root_.Rd
end Rk
namespace L2
open PySem PySem.Spec PyProof.Rows
section
variable {X : Cx}
def rTupOfW (K : PySem.W.Frag) : List V → Hp → VK → Prop := fun xs H Q => ∃ p ys, xs = [.ref p] ∧ ((SqL K H p ys ∧ ∀ l H', Same H H' → H l = none → H' l = some (.tup ys) → Q (.ref l) H') ∨ (SqT K H p ys ∧ Q (.ref p) H))
theorem call_tuple_ofW : CallR X (.type "tuple") (rTupOfW X.K) := by
  intro pins s σ H xs us Q I r h
  obtain ⟨p, ys, e, h⟩ := h
  refine call_tuple_of pins s σ H xs us Q I r ⟨p, ys, e, ?_⟩
  rcases h with ⟨h1, h2⟩ | h
  · exact .inl ⟨h1, fun l hl => h2 l _ (same_upd hl) hl upd_same⟩
  · exact .inr h
end
end L2
namespace Rk
open PySem PySem.Spec PyProof.Rows L2 _root_.Rd
end Rk
namespace Rk
open PySem PySem.Spec PyProof.Rows L2 _root_.Rd
def fctI : Nat → Int
  | 0 => 1
  | n + 1 => fctI n * ((n : Int) + 1)
theorem fct_all : ∀ n : Fin 13, 0 < fctI n.val ∧ fctI n.val ≤ 479001600 := by decide +kernel
theorem fct_ok {n : Nat} (h : n ≤ 12) : 0 < fctI n ∧ fctI n ≤ 479001600 := fct_all ⟨n, by omega⟩
end Rk
namespace L2
open PySem PySem.Spec PyProof.Rows
section
variable {X : Cx}
theorem ip_of {op : Operator} {r : R2} (h : OpR X (inplaceOp op) r) : PIp X op r := fun pins s σ H x y v u Q I rx ry q => h pins s σ H x y v u Q I rx ry q
end
end L2
namespace L2
open PySem PySem.Spec PyProof.Rows
section
variable {X : Cx}
end
end L2
namespace Rk
open PySem PySem.Spec PyProof.Rows L2 _root_.Rd
end Rk
namespace Rx
open PySem PySem.Spec PySem.Calls PyProof.Rows L2
section
variable {X : Cx} {e : Expr} {st : Stmt} {pos : Pos} {te : TX} {t u : TSX} {tc : TT} {c : Expr} {a b : List Stmt}
end
section
variable {X : Cx} {R : Addr} {i : Nat} {n r : Str} {body : List Stmt} {hx : Expr} {tb : TSX} {th : TE} {np hp hpos pos : Pos}
end
end Rx
namespace L2
open PySem PySem.Spec PyProof.Rows
section
variable {X : Cx}
end
end L2
namespace Rk
open PySem PySem.Spec PyProof.Rows L2 _root_.Rd
def isLV (H : Hp) : V → Bool
  | .ref a => match H a with
    | some (.lst _) => true
    | _ => false
  | _ => false
end Rk
namespace Rk
open PySem PySem.Spec PyProof.Rows L2 _root_.Rd
end Rk
namespace Dl
open PySem PySem.Spec PyProof.Rows L2 _root_.Rd Rk
def dkV (kvs : List (Int × Int)) : List (Key × V) := kvs.map fun p => (Sum.inl p.1, V.int p.2)
def dkD (kvs : List (Int × Int)) : List (PyData × PyData) := kvs.map fun p => (PyData.int p.1, PyData.int p.2)
mutual
inductive DA (A : Addr → Prop) (H : Hp) : V → PyData → Prop
  | non : DA A H .non .none
  | bl (b : Bool) : DA A H (.bl b) (.bool b)
  | int (i : Int) : DA A H (.int i) (.int i)
  | str (x : Str) : PyData.canLay0 (.str x) = true → DA A H (.str x) (.str x)
  | tup {a : Addr} {xs : List V} {ds : List PyData} : ¬ A a → H a = some (.tup xs) → DAs A H xs ds → DA A H (.ref a) (.tuple ds)
  | lst {a : Addr} {xs : List V} {ds : List PyData} : ¬ A a → H a = some (.lst xs) → DAs A H xs ds → DA A H (.ref a) (.list ds)
  | dct {a : Addr} {kvs : List (Int × Int)} {ds : List (PyData × PyData)} : ¬ A a → H a = some (.dK (dkV kvs)) → ds = dkD kvs → DA A H (.ref a) (.dict ds)
inductive DAs (A : Addr → Prop) (H : Hp) : List V → List PyData → Prop
  | nil : DAs A H [] []
  | cons {x : V} {xs : List V} {d : PyData} {ds : List PyData} : DA A H x d → DAs A H xs ds → DAs A H (x :: xs) (d :: ds)
end
mutual
theorem da_mv {A A' : Addr → Prop} {H H' : Hp} (k : ∀ a o, ¬ A a → H a = some o → H' a = some o) (m : ∀ a, A' a → A a ∨ H a = none) : ∀ (d : PyData) (x : V), DA A H x d → DA A' H' x d
  | .none, _, .non => .non
  | .bool _, _, .bl _ => .bl _
  | .int _, _, .int _ => .int _
  | .str _, _, .str _ c => .str _ c
  | .tuple ds, _, .tup (xs := xs) n e q => .tup (fun z => (m _ z).elim n fun z => by rw [z] at e; cases e) (k _ _ n e) (das_mv k m ds xs q)
  | .list ds, _, .lst (xs := xs) n e q => .lst (fun z => (m _ z).elim n fun z => by rw [z] at e; cases e) (k _ _ n e) (das_mv k m ds xs q)
  | .dict _, _, .dct n e q => .dct (fun z => (m _ z).elim n fun z => by rw [z] at e; cases e) (k _ _ n e) q
theorem das_mv {A A' : Addr → Prop} {H H' : Hp} (k : ∀ a o, ¬ A a → H a = some o → H' a = some o) (m : ∀ a, A' a → A a ∨ H a = none) : ∀ (ds : List PyData) (xs : List V), DAs A H xs ds → DAs A' H' xs ds
  | [], _, .nil => .nil
  | d :: ds, _, .cons (x := x) (xs := xs) q qs => .cons (da_mv k m d x q) (das_mv k m ds xs qs)
end
theorem DA.mv {A A' : Addr → Prop} {H H' : Hp} {x : V} {d : PyData} (q : DA A H x d) (k : ∀ a o, ¬ A a → H a = some o → H' a = some o) (m : ∀ a, A' a → A a ∨ H a = none) : DA A' H' x d := da_mv k m d x q
theorem DAs.mv {A A' : Addr → Prop} {H H' : Hp} {x : List V} {d : List PyData} (q : DAs A H x d) (k : ∀ a o, ¬ A a → H a = some o → H' a = some o) (m : ∀ a, A' a → A a ∨ H a = none) : DAs A' H' x d := das_mv k m d x q
theorem DA.same {A : Addr → Prop} {H H' : Hp} {x : V} {d : PyData} (q : DA A H x d) (s : Same H H') : DA A H' x d := q.mv (fun a o _ e => s a o e) fun a z => .inl z
theorem DAs.same {A : Addr → Prop} {H H' : Hp} {x : List V} {d : List PyData} (q : DAs A H x d) (s : Same H H') : DAs A H' x d := q.mv (fun a o _ e => s a o e) fun a z => .inl z
theorem DAs.length {A : Addr → Prop} {H : Hp} : ∀ {xs : List V} {ds : List PyData}, DAs A H xs ds → xs.length = ds.length
  | _, _, .nil => rfl
  | _, _, .cons _ q => by rw [List.length_cons, List.length_cons, q.length]
theorem DAs.get {A : Addr → Prop} {H : Hp} : ∀ {xs : List V} {ds : List PyData}, DAs A H xs ds → ∀ (i : Nat) (d : PyData), ds[i]? = some d → ∃ x, xs[i]? = some x ∧ DA A H x d
  | _, _, .nil, i, x, e => by simp at e
  | _, _, .cons q qs, 0, x, e => by simp at e; subst e; exact ⟨_, rfl, q⟩
  | _, _, .cons q qs, i + 1, x, e => qs.get i x (by simpa using e)
theorem DAs.app {A : Addr → Prop} {H : Hp} : ∀ {xs ys : List V} {ds es : List PyData}, DAs A H xs ds → DAs A H ys es → DAs A H (xs ++ ys) (ds ++ es)
  | _, _, _, _, .nil, q => q
  | _, _, _, _, .cons a b, q => .cons a (b.app q)
theorem DAs.set {A : Addr → Prop} {H : Hp} {x : V} {d : PyData} (q : DA A H x d) : ∀ {xs : List V} {ds : List PyData}, DAs A H xs ds → ∀ n : Nat, DAs A H (xs.set n x) (ds.set n d)
  | _, _, .nil, n => .nil
  | _, _, .cons a b, 0 => .cons q b
  | _, _, .cons a b, n + 1 => .cons a (b.set q n)
mutual
def nd : PyData → Bool
  | .dict _ => false
  | .tuple ds => nds ds
  | .list ds => nds ds
  | _ => true
def nds : List PyData → Bool
  | [] => true
  | d :: ds => nd d && nds ds
end
mutual
theorem da_dat {A : Addr → Prop} {H : Hp} : ∀ (d : PyData) (x : V), nd d = true → DA A H x d → Dat H x d
  | .none, _, _, .non => .non
  | .bool _, _, _, .bl _ => .bl _
  | .int _, _, _, .int _ => .int _
  | .str _, _, _, .str _ c => .str _ c
  | .tuple ds, _, n, .tup (xs := xs) _ e q => .tup e (das_dats ds xs n q)
  | .list ds, _, n, .lst (xs := xs) _ e q => .lst e (das_dats ds xs n q)
theorem das_dats {A : Addr → Prop} {H : Hp} : ∀ (ds : List PyData) (xs : List V), nds ds = true → DAs A H xs ds → Dats H xs ds
  | [], _, _, .nil => .nil
  | d :: ds, _, n, .cons (x := x) (xs := xs) q qs => by
    have n' := Bool.and_eq_true_iff.mp (show (nd d && nds ds) = true from n)
    exact .cons (da_dat d x n'.1 q) (das_dats ds xs n'.2 qs)
end
theorem nds_all {ds : List PyData} : nds ds = true ↔ ∀ d ∈ ds, nd d = true := by
  induction ds with
  | nil => exact ⟨(fun _ _ h => nomatch h), fun _ => rfl⟩
  | cons d ds ih =>
    rw [show nds (d :: ds) = (nd d && nds ds) from rfl, Bool.and_eq_true_iff, ih]
    constructor
    · rintro ⟨a, b⟩ e he
      rcases List.mem_cons.mp he with z | z
      · rw [z]; exact a
      · exact b e z
    · intro h
      exact ⟨h d (by simp), fun e he => h e (by simp [he])⟩
def DP (A P : Addr → Prop) (H : Hp) (v : V) (d : PyData) : Prop := DA A H v d ∨ ∃ l xs ds, v = .ref l ∧ d = .list ds ∧ ¬ P l ∧ H l = some (.lst xs) ∧ DAs A H xs ds
theorem DP.dat {A P : Addr → Prop} {H : Hp} {v : V} {d : PyData} (h : DP A P H v d) (n : nd d = true) : Dat H v d := by
  rcases h with h | ⟨l, xs, ds, rfl, rfl, _, e, q⟩
  · exact da_dat d v n h
  · exact .lst e (das_dats ds xs n q)
theorem DP.list {A P : Addr → Prop} {H : Hp} {v : V} {ds : List PyData} (h : DP A P H v (.list ds)) : ∃ l xs, v = .ref l ∧ H l = some (.lst xs) ∧ DAs A H xs ds := by
  rcases h with h | ⟨l, xs, ds', rfl, e, _, h2, q⟩
  · cases h with | lst n e q => exact ⟨_, _, rfl, e, q⟩
  · cases e; exact ⟨l, xs, rfl, h2, q⟩
theorem DP.tuple {A P : Addr → Prop} {H : Hp} {v : V} {ds : List PyData} (h : DP A P H v (.tuple ds)) : ∃ l xs, v = .ref l ∧ H l = some (.tup xs) ∧ DAs A H xs ds := by
  rcases h with h | ⟨l, xs, ds', rfl, e, _⟩
  · cases h with | tup n e q => exact ⟨_, _, rfl, e, q⟩
  · cases e
theorem DP.int {A P : Addr → Prop} {H : Hp} {v : V} {i : Int} (h : DP A P H v (.int i)) : v = .int i := by
  rcases h with h | ⟨l, xs, ds', rfl, e, _⟩
  · cases h; rfl
  · cases e
theorem DP.bool {A P : Addr → Prop} {H : Hp} {v : V} {i : Bool} (h : DP A P H v (.bool i)) : v = .bl i := by
  rcases h with h | ⟨l, xs, ds', rfl, e, _⟩
  · cases h; rfl
  · cases e
theorem DP.none {A P : Addr → Prop} {H : Hp} {v : V} (h : DP A P H v .none) : v = .non := by
  rcases h with h | ⟨l, xs, ds', rfl, e, _⟩
  · cases h; rfl
  · cases e
theorem DP.str {A P : Addr → Prop} {H : Hp} {v : V} {x : Str} (h : DP A P H v (.str x)) : v = .str x ∧ PyData.canLay0 (.str x) = true := by
  rcases h with h | ⟨l, xs, ds', rfl, e, _⟩
  · cases h with | str _ c => exact ⟨rfl, c⟩
  · cases e
inductive Sl where
  | no | pot | scr
  | v (d : PyData)
  | own (ds : List PyData)
  | pk (ds : List PyData)
abbrev Sts := List Sl
structure Fm where
  H0 : Hp
  A0 : Addr → Prop
  pt : Addr → Prop
def OwAt (σ : L2.St) (δ : Sts) (i : Nat) (a : Addr) : Prop := σ[i]? = some (some (.ref a)) ∧ (δ[i]? = some .pot ∨ ∃ ds, δ[i]? = some (.own ds))
def Av (F : Fm) (σ : L2.St) (δ : Sts) (a : Addr) : Prop := F.A0 a ∨ ∃ i, OwAt σ δ i a
def PotA (σ : L2.St) (δ : Sts) (a : Addr) : Prop := ∃ i : Nat, σ[i]? = some (some (.ref a)) ∧ δ[i]? = some .pot
def SlOk (K : PySem.W.Frag) (F : Fm) (H : Hp) (A : Addr → Prop) (o : Option V) : Sl → Prop
  | .no => True
  | .v d => ∃ v, o = some v ∧ DA A H v d
  | .own ds => ∃ l xs, o = some (.ref l) ∧ H l = some (.lst xs) ∧ DAs A H xs ds ∧ F.H0 l = none
  | .pk ds => ∃ l xs, o = some (.ref l) ∧ H l = some (.lst xs) ∧ DAs A H xs ds ∧ ∃ ys, F.H0 l = some (.lst ys) ∧ ¬ F.pt l
  | .pot => ∃ p n, o = some (.ref p) ∧ H p = some (.lst [.int n]) ∧ (F.pt p ∨ F.H0 p = none)
  | .scr => ∃ a ns, o = some (.ref a) ∧ SqL K F.H0 a ((ns : List Int).map V.int) ∧ ¬ F.pt a ∧ ns.length ≤ 63
structure Rel (K : PySem.W.Frag) (F : Fm) (σ : L2.St) (H : Hp) (δ : Sts) : Prop where
  len : σ.length = δ.length
  dom : ∀ a, F.A0 a → ∃ xs, H a = some (.lst xs)
  dom0 : ∀ a, F.A0 a → ∃ xs, F.H0 a = some (.lst xs)
  pt0 : ∀ p, F.pt p → F.A0 p ∧ ∃ n, H p = some (.lst [.int n])
  kx : ∀ b o, ¬ F.pt b → F.H0 b = some o → H b = some o
  sl : ∀ (i : Nat) o x, σ[i]? = some o → δ[i]? = some x → SlOk K F H (Av F σ δ) o x
  inj : ∀ (i j : Nat) a ds, δ[i]? = some (.own ds) → σ[i]? = some (some (.ref a)) → OwAt σ δ j a → i = j
def Kp (σ : L2.St) (δ : Sts) (H H' : Hp) : Prop := (∀ b o, ¬ PotA σ δ b → H b = some o → H' b = some o) ∧ ∀ b, PotA σ δ b → ∃ n, H' b = some (.lst [.int n])
def Stp (F : Fm) (σ : L2.St) (H : Hp) (δ : Sts) (σ' : L2.St) (H' : Hp) (δ' : Sts) : Prop := (∀ b o, ¬ Av F σ δ b → H b = some o → H' b = some o) ∧ ∀ b, Av F σ' δ' b → Av F σ δ b ∨ H b = none
def Ke (F : Fm) (H' : Hp) : Prop := (∀ b o, ¬ F.pt b → F.H0 b = some o → H' b = some o) ∧ ∀ p, F.pt p → ∃ n, H' p = some (.lst [.int n])
theorem pot_av {F : Fm} {σ : L2.St} {δ : Sts} {a : Addr} (h : PotA σ δ a) : Av F σ δ a := let ⟨i, h1, h2⟩ := h; .inr ⟨i, h1, .inl h2⟩
theorem Rel.ke {K : PySem.W.Frag} {F : Fm} {σ : L2.St} {H : Hp} {δ : Sts} (r : Rel K F σ H δ) : Ke F H := ⟨r.kx, fun p hp => (r.pt0 p hp).2⟩
theorem Rel.isl {K : PySem.W.Frag} {F : Fm} {σ : L2.St} {H : Hp} {δ : Sts} (r : Rel K F σ H δ) {a : Addr} (h : Av F σ δ a) : ∃ xs, H a = some (.lst xs) := by
  rcases h with h | ⟨i, h1, h2⟩
  · exact r.dom a h
  · rcases h2 with h2 | ⟨ds, h2⟩
    · obtain ⟨p, n, e, h, _⟩ := r.sl i _ _ h1 h2
      cases e
      exact ⟨_, h⟩
    · obtain ⟨l, xs, e, h, _⟩ := r.sl i _ _ h1 h2
      cases e
      exact ⟨_, h⟩
theorem Kp.refl {K : PySem.W.Frag} {F : Fm} {σ : L2.St} {H : Hp} {δ : Sts} (r : Rel K F σ H δ) : Kp σ δ H H := ⟨fun _ _ _ e => e, fun b ⟨i, h1, h2⟩ => by
  obtain ⟨p, n, e, h, _⟩ := r.sl i _ _ h1 h2
  cases e
  exact ⟨n, h⟩⟩
theorem Kp.trans {σ : L2.St} {δ : Sts} {H H1 H2 : Hp} (a : Kp σ δ H H1) (b : Kp σ δ H1 H2) : Kp σ δ H H2 := ⟨fun c o n e => b.1 c o n (a.1 c o n e), b.2⟩
theorem Kp.same {K : PySem.W.Frag} {F : Fm} {σ : L2.St} {H H' : Hp} {δ : Sts} (r : Rel K F σ H δ) (s : Same H H') : Kp σ δ H H' := ⟨fun b o _ e => s b o e, fun b hb => let ⟨n, h⟩ := (Kp.refl r).2 b hb; ⟨n, s _ _ h⟩⟩
theorem Kp.da {F : Fm} {σ : L2.St} {H H' : Hp} {δ : Sts} {v : V} {d : PyData} (k : Kp σ δ H H') (h : DA (Av F σ δ) H v d) : DA (Av F σ δ) H' v d := h.mv (fun a o n e => k.1 a o (fun z => n (pot_av z)) e) fun a z => .inl z
theorem Kp.das {F : Fm} {σ : L2.St} {H H' : Hp} {δ : Sts} {v : List V} {d : List PyData} (k : Kp σ δ H H') (h : DAs (Av F σ δ) H v d) : DAs (Av F σ δ) H' v d := h.mv (fun a o n e => k.1 a o (fun z => n (pot_av z)) e) fun a z => .inl z
theorem Kp.dp {F : Fm} {σ : L2.St} {H H' : Hp} {δ : Sts} {v : V} {d : PyData} (k : Kp σ δ H H') (h : DP (Av F σ δ) (PotA σ δ) H v d) : DP (Av F σ δ) (PotA σ δ) H' v d := by
  rcases h with h | ⟨l, xs, ds, e1, e2, n, e, q⟩
  · exact .inl (k.da h)
  · exact .inr ⟨l, xs, ds, e1, e2, n, k.1 _ _ n e, k.das q⟩
theorem Rel.own_pot {K : PySem.W.Frag} {F : Fm} {σ : L2.St} {H : Hp} {δ : Sts} (r : Rel K F σ H δ) {i : Nat} {ds : List PyData} {l : Addr} (h : δ[i]? = some (.own ds)) (e : σ[i]? = some (some (.ref l))) : ¬ PotA σ δ l := by
  rintro ⟨j, h1, h2⟩
  have := r.inj i j l _ h e ⟨h1, .inl h2⟩
  subst this
  rw [h] at h2
  cases h2
theorem Rel.pt_pot {K : PySem.W.Frag} {F : Fm} {σ : L2.St} {H H' : Hp} {δ : Sts} (r : Rel K F σ H δ) (k : Kp σ δ H H') {p : Addr} (hp : F.pt p) : ∃ n, H' p = some (.lst [.int n]) := by
  by_cases z : PotA σ δ p
  · exact k.2 p z
  · obtain ⟨n, e⟩ := (r.pt0 p hp).2
    exact ⟨n, k.1 _ _ z e⟩
theorem Rel.kp {K : PySem.W.Frag} {F : Fm} {σ : L2.St} {H H' : Hp} {δ : Sts} (r : Rel K F σ H δ) (k : Kp σ δ H H') : Rel K F σ H' δ where
  len := r.len
  dom := fun a ha => by
    by_cases z : PotA σ δ a
    · exact ⟨_, (k.2 a z).choose_spec⟩
    · obtain ⟨xs, e⟩ := r.dom a ha
      exact ⟨xs, k.1 _ _ z e⟩
  dom0 := r.dom0
  pt0 := fun p hp => ⟨(r.pt0 p hp).1, r.pt_pot k hp⟩
  kx := fun b o n e => by
    by_cases z : PotA σ δ b
    · obtain ⟨i, h1, h2⟩ := z
      obtain ⟨p, m, e1, h, q⟩ := r.sl i _ _ h1 h2
      cases e1
      rcases q with q | q
      · exact absurd q n
      · rw [q] at e; cases e
    · exact k.1 _ _ z (r.kx b o n e)
  sl := fun i o x h1 h2 => by
    have h := r.sl i o x h1 h2
    cases x with
    | no => trivial
    | v d => obtain ⟨v, e, q⟩ := h; exact ⟨v, e, k.da q⟩
    | own ds => obtain ⟨l, xs, rfl, e, q, f⟩ := h; exact ⟨l, xs, rfl, k.1 _ _ (r.own_pot h2 h1) e, k.das q, f⟩
    | pk ds =>
      obtain ⟨l, xs, rfl, e, q, ys, f, f2⟩ := h
      refine ⟨l, xs, rfl, k.1 _ _ ?_ e, k.das q, ys, f, f2⟩
      rintro ⟨j, j1, j2⟩
      obtain ⟨p, m, e1, _, w⟩ := r.sl j _ _ j1 j2
      cases e1
      rcases w with w | w
      · exact f2 w
      · rw [w] at f; cases f
    | pot =>
      obtain ⟨p, n, rfl, e, q⟩ := h
      obtain ⟨m, e'⟩ := k.2 p ⟨i, h1, h2⟩
      exact ⟨p, m, rfl, e', q⟩
    | scr => exact h
  inj := r.inj
theorem Rel.same {K : PySem.W.Frag} {F : Fm} {σ : L2.St} {H H' : Hp} {δ : Sts} (r : Rel K F σ H δ) (s : Same H H') : Rel K F σ H' δ := r.kp (Kp.same r s)
theorem Stp.refl {F : Fm} {σ : L2.St} {H : Hp} {δ : Sts} : Stp F σ H δ σ H δ := ⟨fun _ _ _ e => e, fun _ z => .inl z⟩
theorem Stp.trans {F : Fm} {σ σ1 σ2 : L2.St} {H H1 H2 : Hp} {δ δ1 δ2 : Sts} (a : Stp F σ H δ σ1 H1 δ1) (b : Stp F σ1 H1 δ1 σ2 H2 δ2) : Stp F σ H δ σ2 H2 δ2 := by
  refine ⟨fun c o n e => ?_, fun c z => ?_⟩
  · refine b.1 c o (fun z => ?_) (a.1 c o n e)
    rcases a.2 c z with q | q
    · exact n q
    · rw [q] at e; cases e
  · rcases b.2 c z with q | q
    · exact a.2 c q
    · by_cases y : Av F σ δ c
      · exact .inl y
      · right
        cases e : H c with
        | none => rfl
        | some o => rw [a.1 c o y e] at q; cases q
theorem Stp.kp {F : Fm} {σ : L2.St} {H H' : Hp} {δ : Sts} (k : Kp σ δ H H') : Stp F σ H δ σ H' δ := ⟨fun b o n e => k.1 b o (fun z => n (pot_av z)) e, fun _ z => .inl z⟩
theorem Stp.da {F : Fm} {σ σ' : L2.St} {H H' : Hp} {δ δ' : Sts} {v : V} {d : PyData} (k : Stp F σ H δ σ' H' δ') (h : DA (Av F σ δ) H v d) : DA (Av F σ' δ') H' v d := h.mv k.1 k.2
end Dl
namespace Dl
open PySem PySem.Spec PyProof.Rows L2 _root_.Rd Rk
abbrev XP := Addr → Prop
abbrev DE := Sts → (PyData → Prop) → XP → Prop
abbrev DT := Sts → (Bool → Prop) → XP → Prop
abbrev DAr := Sts → (List PyData → Prop) → XP → Prop
abbrev DSl := Sts → (List Sl → Prop) → XP → Prop
inductive Md where | D | P | F
def FrV (H H' : Hp) (v : V) : Prop := ∀ l, v = .ref l → (∃ xs, H' l = some (.lst xs)) → H l = none
def Vok (m : Md) (F : Fm) (σ : L2.St) (δ : Sts) (H H' : Hp) (v : V) (d : PyData) : Prop :=
  match m with
  | .D => DA (Av F σ δ) H' v d
  | .P => DP (Av F σ δ) (PotA σ δ) H' v d
  | .F => DA (Av F σ δ) H' v d ∧ FrV H H' v
def Out (F : Fm) (E : XK) (EX : XP) : Prop := ∀ C, EX C → ∀ H', Ke F H' → E (.ref C) none H'
def tX (m : Md) (K : PySem.W.Frag) (E : XK) (w : DE) : TE := fun σ H Q => ∃ (F : Fm) (δ : Sts) (R : PyData → Prop) (EX : XP), Rel K F σ H δ ∧ w δ R EX ∧ (∀ d, R d → ∀ v H', Rel K F σ H' δ → Kp σ δ H H' → Vok m F σ δ H H' v d → Q v H') ∧ Out F E EX
def tT (K : PySem.W.Frag) (E : XK) (w : DT) : TT := fun σ H Q => ∃ (F : Fm) (δ : Sts) (R : Bool → Prop) (EX : XP), Rel K F σ H δ ∧ w δ R EX ∧ (∀ b, R b → ∀ H', Rel K F σ H' δ → Kp σ δ H H' → Q b H') ∧ Out F E EX
def VD (m : Md) (A P : Addr → Prop) (H : Hp) (v : V) (d : PyData) : Prop :=
  match m with
  | .P => DP A P H v d
  | _ => DA A H v d
def tAr (n : Nat) (m : Md) (K : PySem.W.Frag) (E : XK) (w : DAr) : TA := fun σ H Q => ∃ (F : Fm) (δ : Sts) (R : List PyData → Prop) (EX : XP), Rel K F σ H δ ∧ w δ R EX ∧ (∀ ds, R ds → ds.length = n → ∀ vs H', Rel K F σ H' δ → Kp σ δ H H' → Paired (VD m (Av F σ δ) (PotA σ δ) H') vs ds → Q vs H') ∧ Out F E EX
def ArgOk (A pt : Addr → Prop) (H : Hp) (v : V) : Sl → Prop
  | .v d => DA A H v d
  | .pot => ∃ p, v = .ref p ∧ pt p
  | _ => False
def tAs (K : PySem.W.Frag) (E : XK) (w : DSl) : TA := fun σ H Q => ∃ (F : Fm) (δ : Sts) (R : List Sl → Prop) (EX : XP), Rel K F σ H δ ∧ w δ R EX ∧ (∀ ds, R ds → ∀ vs H', Rel K F σ H' δ → Kp σ δ H H' → Paired (ArgOk (Av F σ δ) (PotA σ δ) H') vs ds → Q vs H') ∧ Out F E EX
theorem Kp.vd {m : Md} {F : Fm} {σ : L2.St} {H H' : Hp} {δ : Sts} {v : V} {d : PyData} (k : Kp σ δ H H') (h : VD m (Av F σ δ) (PotA σ δ) H v d) : VD m (Av F σ δ) (PotA σ δ) H' v d := by
  cases m
  · exact k.da h
  · exact k.dp h
  · exact k.da h
theorem Kp.arg {F : Fm} {σ : L2.St} {H H' : Hp} {δ : Sts} {v : V} {d : Sl} (k : Kp σ δ H H') (h : ArgOk (Av F σ δ) (PotA σ δ) H v d) : ArgOk (Av F σ δ) (PotA σ δ) H' v d := by
  cases d with
  | v d => exact k.da h
  | pot => exact h
  | _ => exact h.elim
def LenOk (H : Hp) : Prop := ∀ a xs, H a = some (.lst xs) ∨ H a = some (.tup xs) → xs.length ≤ sizeLine
section
variable {X : Cx} {E : XK}
theorem Inv.lens {pins : List (Addr × Obj)} {σ : L2.St} {H : Hp} {s : Shared} (I : Inv X pins σ H s) : LenOk H := fun a xs h => by
  rcases h with h | h
  · exact (I.hok a _ h).1
  · exact (I.hok a _ h).1
theorem PE.imp {e : Expr} {t t' : TE} (h : PE X e t) (i : ∀ σ H Q, t' σ H Q → t σ H Q) : PE X e t' := fun pins s σ H Q I q => h pins s σ H Q I (i σ H Q q)
theorem PT.imp {e : Expr} {t t' : TT} (h : PT X e t) (i : ∀ σ H Q, t' σ H Q → t σ H Q) : PT X e t' := fun pins s σ H Q I q => h pins s σ H Q I (i σ H Q q)
theorem PW.imp {e : Expr} {t t' : TT} (h : PW X e t) (i : ∀ σ H Q, t' σ H Q → t σ H Q) : PW X e t' := fun wh pins s σ H Q I q => h wh pins s σ H Q I (i σ H Q q)
theorem PA.imp {e : List Expr} {t t' : TA} (h : PA X e t) (i : ∀ σ H Q, t' σ H Q → t σ H Q) : PA X e t' := fun pos pins s σ H Q I q => h pos pins s σ H Q I (i σ H Q q)
theorem OpR.len {f : Value → Value → Sem Value} {r : R2} (h : OpR X f r) : OpR X f (fun x y H Q => LenOk H → r x y H Q) := fun pins s σ H x y v u Q I rx ry q => h pins s σ H x y v u Q I rx ry (q (Inv.lens I))
theorem CallR.len {f : Value} {r : List V → Hp → VK → Prop} (h : CallR X f r) : CallR X f (fun xs H Q => LenOk H → r xs H Q) := fun pins s σ H xs us Q I rx q => h pins s σ H xs us Q I rx (q (Inv.lens I))
theorem IxR.len {r : R2} (h : IxR X r) : IxR X (fun x y H Q => LenOk H → r x y H Q) := fun a b pins s σ H x y v u Q I rx ry q hs => h a b pins s σ H x y v u Q I rx ry (q (Inv.lens I)) hs
theorem OpR.or2 {f : Value → Value → Sem Value} {r r' : R2} (h : OpR X f r) (h' : OpR X f r') : OpR X f (fun x y H Q => r x y H Q ∨ r' x y H Q) := OpR.or h h'
theorem IxR.or2 {r r' : R2} (h : IxR X r) (h' : IxR X r') : IxR X (fun x y H Q => r x y H Q ∨ r' x y H Q) := fun a b pins s σ H x y v u Q I rx ry q hs => q.elim (fun q => h a b pins s σ H x y v u Q I rx ry q hs) fun q => h' a b pins s σ H x y v u Q I rx ry q hs
theorem toD {e : Expr} {w : DE} (h : PE X e (tX .F X.K E w)) : PE X e (tX .D X.K E w) := PE.imp h fun σ H Q ⟨F, δ, R, EX, r, hw, k, o⟩ => ⟨F, δ, R, EX, r, hw, fun d hd v H' r' kp vk => k d hd v H' r' kp vk.1, o⟩
theorem toP {e : Expr} {w : DE} (h : PE X e (tX .D X.K E w)) : PE X e (tX .P X.K E w) := PE.imp h fun σ H Q ⟨F, δ, R, EX, r, hw, k, o⟩ => ⟨F, δ, R, EX, r, hw, fun d hd v H' r' kp vk => k d hd v H' r' kp (.inl vk), o⟩
theorem toPF {e : Expr} {w : DE} (h : PE X e (tX .F X.K E w)) : PE X e (tX .P X.K E w) := toP (toD h)
def dVar (i : Nat) : DE := fun δ Q _ => match δ[i]? with
  | some (.v d) => Q d
  | _ => False
def dPk (i : Nat) : DE := fun δ Q _ => match δ[i]? with
  | some (.v d) => Q d
  | some (.own ds) => Q (.list ds)
  | some (.pk ds) => Q (.list ds)
  | _ => False
def dC (d : PyData) : DE := fun _ Q _ => Q d
theorem Rel.lt {K : PySem.W.Frag} {F : Fm} {σ : L2.St} {H : Hp} {δ : Sts} (r : Rel K F σ H δ) {i : Nat} {x : Sl} (h : δ[i]? = some x) : ∃ o, σ[i]? = some o := by
  have := (List.getElem?_eq_some_iff.mp h).1
  exact ⟨σ[i]'(by rw [r.len]; exact this), List.getElem?_eq_getElem _⟩
theorem pd_var {e : Expr} {i : Nat} (h : PE X e (tVar i)) : PE X e (tX .D X.K E (dVar i)) := PE.imp h fun σ H Q ⟨F, δ, R, EX, r, hw, k, o⟩ => by
  unfold dVar at hw
  split at hw
  · rename_i d hd
    obtain ⟨x, hx⟩ := r.lt hd
    obtain ⟨v, rfl, q⟩ := r.sl i _ _ hx hd
    exact ⟨v, hx, k d hw v H r (Kp.refl r) q⟩
  · exact hw.elim
theorem pd_pk {e : Expr} {i : Nat} (h : PE X e (tVar i)) : PE X e (tX .P X.K E (dPk i)) := PE.imp h fun σ H Q ⟨F, δ, R, EX, r, hw, k, o⟩ => by
  unfold dPk at hw
  split at hw
  · rename_i d hd
    obtain ⟨x, hx⟩ := r.lt hd
    obtain ⟨v, rfl, q⟩ := r.sl i _ _ hx hd
    exact ⟨v, hx, k d hw v H r (Kp.refl r) (.inl q)⟩
  · rename_i d hd
    obtain ⟨x, hx⟩ := r.lt hd
    obtain ⟨l, xs, rfl, e, q, _⟩ := r.sl i _ _ hx hd
    exact ⟨_, hx, k _ hw _ H r (Kp.refl r) (.inr ⟨l, xs, d, rfl, rfl, r.own_pot hd hx, e, q⟩)⟩
  · rename_i d hd
    obtain ⟨x, hx⟩ := r.lt hd
    obtain ⟨l, xs, rfl, e, q, ys, f, f2⟩ := r.sl i _ _ hx hd
    refine ⟨_, hx, k _ hw _ H r (Kp.refl r) (.inr ⟨l, xs, d, rfl, rfl, ?_, e, q⟩)⟩
    rintro ⟨j, j1, j2⟩
    obtain ⟨p, m, e1, _, w⟩ := r.sl j _ _ j1 j2
    cases e1
    rcases w with w | w
    · exact f2 w
    · rw [w] at f; cases f
  · exact hw.elim
theorem pd_c {e : Expr} {v : V} {d : PyData} (h : PE X e (tC v)) (q : ∀ (A : Addr → Prop) (H : Hp), DA A H v d) : PE X e (tX .D X.K E (dC d)) := PE.imp h fun σ H Q ⟨F, δ, R, EX, r, hw, k, o⟩ => k d hw v H r (Kp.refl r) (q _ _)
theorem pd_int {i : Int} {j pos} : PE X (.Constant (.int i) j pos) (tX .D X.K E (dC (.int i))) := pd_c pe_int fun _ _ => .int i
theorem pd_bl {b : Bool} {j pos} : PE X (.Constant (.bool b) j pos) (tX .D X.K E (dC (.bool b))) := pd_c pe_bl fun _ _ => .bl b
def OpD (r : R2) (rD : PyData → PyData → (PyData → Prop) → Prop) : Prop := ∀ (A P : Addr → Prop) (H : Hp) (x y : V) (d1 d2 : PyData) (R : PyData → Prop) (Q : VK), LenOk H → (∀ a, A a → ∃ xs, H a = some (.lst xs)) → DP A P H x d1 → DP A P H y d2 → rD d1 d2 R →
  (∀ d, R d → ∀ v H', Same H H' → DA A H' v d → FrV H H' v → Q v H') → r x y H Q
def OpDn (r : R2) (rD : PyData → PyData → (PyData → Prop) → Prop) : Prop := ∀ (A P : Addr → Prop) (H : Hp) (x y : V) (d1 d2 : PyData) (R : PyData → Prop) (Q : VK), LenOk H → (∀ a, A a → ∃ xs, H a = some (.lst xs)) → DP A P H x d1 → DP A P H y d2 → rD d1 d2 R →
  (∀ d, R d → ∀ v H', Same H H' → DA A H' v d → Q v H') → r x y H Q
def dOp (rD : PyData → PyData → (PyData → Prop) → Prop) (wa wb : DE) : DE := fun δ Q EX => wa δ (fun d1 => wb δ (fun d2 => rD d1 d2 Q) EX) EX
theorem op_read {K : PySem.W.Frag} {r : R2} {rD : PyData → PyData → (PyData → Prop) → Prop} {wa wb : DE} (hd : OpD r rD) (σ : L2.St) (H : Hp) (Q : VK) (h : tX .F K E (dOp rD wa wb) σ H Q) :
    tOp (fun x y H Q => LenOk H → r x y H Q) (tX .P K E wa) (tX .P K E wb) σ H Q := by
  obtain ⟨F, δ, R, EX, rel, hw, k, o⟩ := h
  refine ⟨F, δ, _, EX, rel, hw, fun d1 h1 x H1 rel1 kp1 x1 => ⟨F, δ, _, EX, rel1, h1, fun d2 h2 y H2 rel2 kp2 y2 => fun ln => ?_, o⟩, o⟩
  refine hd (Av F σ δ) (PotA σ δ) H2 x y d1 d2 R Q ln (fun a ha => rel2.isl ha) (kp2.dp x1) y2 h2 fun d hR v H' s q f => ?_
  refine k d hR v H' (rel2.same s) ((kp1.trans kp2).trans (Kp.same rel2 s)) ⟨q, fun l e1 e2 => ?_⟩
  have f2 := f l e1 e2
  cases e : H l with
  | none => rfl
  | some ob =>
    by_cases z : PotA σ δ l
    · obtain ⟨n, en⟩ := kp2.2 l z
      rw [en] at f2; cases f2
    · rw [(kp1.trans kp2).1 _ _ z e] at f2; cases f2
theorem op_readn {K : PySem.W.Frag} {r : R2} {rD : PyData → PyData → (PyData → Prop) → Prop} {wa wb : DE} (hd : OpDn r rD) (σ : L2.St) (H : Hp) (Q : VK) (h : tX .D K E (dOp rD wa wb) σ H Q) :
    tOp (fun x y H Q => LenOk H → r x y H Q) (tX .P K E wa) (tX .P K E wb) σ H Q := by
  obtain ⟨F, δ, R, EX, rel, hw, k, o⟩ := h
  refine ⟨F, δ, _, EX, rel, hw, fun d1 h1 x H1 rel1 kp1 x1 => ⟨F, δ, _, EX, rel1, h1, fun d2 h2 y H2 rel2 kp2 y2 => fun ln => ?_, o⟩, o⟩
  refine hd (Av F σ δ) (PotA σ δ) H2 x y d1 d2 R Q ln (fun a ha => rel2.isl ha) (kp2.dp x1) y2 h2 fun d hR v H' s q => ?_
  exact k d hR v H' (rel2.same s) ((kp1.trans kp2).trans (Kp.same rel2 s)) q
variable {a b : Expr} {wa wb : DE} {pos : Pos} {r : R2} {rD : PyData → PyData → (PyData → Prop) → Prop}
theorem pd_bin {op : Operator} (ho : OpR X (binaryOp op) r) (hd : OpD r rD) (ha : PE X a (tX .P X.K E wa)) (hb : PE X b (tX .P X.K E wb)) : PE X (.BinOp a op b pos) (tX .F X.K E (dOp rD wa wb)) := PE.imp (pe_op (OpR.len ho) ha hb) (op_read hd)
theorem pd_ix {r : R2} {rD : PyData → PyData → (PyData → Prop) → Prop} (ho : IxR X r) (hd : OpDn r rD) (ha : PE X a (tX .P X.K E wa)) (hb : PE X b (tX .P X.K E wb)) (hs : PlainIx b) : PE X (.Subscript a b pos) (tX .D X.K E (dOp rD wa wb)) := PE.imp (pe_ix (IxR.len ho) ha hb hs) (op_readn hd)
def dTst (w : DE) : DT := fun δ Q EX => w δ (fun d => match d with
  | .bool k => Q k
  | _ => False) EX
theorem pdt_cmp {op : CmpOp} (ho : OpR X (compareOp op) r) (hd : OpD r rD) (ha : PE X a (tX .P X.K E wa)) (hb : PE X b (tX .P X.K E wb)) (hm : behindInMarks op b = false) : PT X (.Compare a [op] [b] pos) (tT X.K E (dTst (dOp rD wa wb))) := by
  refine PT.imp (pt_cmpR (OpR.len ho) ha hb hm) fun σ H Q ⟨F, δ, R, EX, rel, hw, k, o⟩ => ?_
  refine op_read hd σ H (fun x H' => ∃ k, x = .bl k ∧ Q k H') ⟨F, δ, _, EX, rel, hw, fun d hd2 v H' rel' kp vk => ?_, o⟩
  split at hd2
  · rename_i b
    have : v = .bl b := by cases vk.1; rfl
    exact ⟨b, this, k b hd2 H' rel' kp⟩
  · exact hd2.elim
def tru : PyData → Bool
  | .none => false
  | .bool b => b
  | .int i => i != 0
  | .str y => (y.length : Int) != 0
  | .list ds => !ds.isEmpty
  | .tuple ds => !ds.isEmpty
  | .dict ds => !ds.isEmpty
def strOk : PyData → Prop
  | .str y => y.length ≤ sizeLine
  | _ => True
def dTru (w : DE) : DT := fun δ Q EX => w δ (fun d => strOk d ∧ Q (tru d)) EX
theorem tru_of {K : PySem.W.Frag} {A P : Addr → Prop} {H : Hp} {v : V} {d : PyData} (h : DP A P H v d) (hs : strOk d) : TruV K v H (tru d) := by
  have sq : ∀ {xs : List V} {ds : List PyData}, DAs A H xs ds → (!ds.isEmpty) = !xs.isEmpty := fun q => by cases q <;> rfl
  rcases h with h | ⟨l, xs, ds, rfl, rfl, _, e, q⟩
  · cases h with
    | non => rfl
    | bl b => rfl
    | int i => rfl
    | str x c => exact ⟨hs, rfl⟩
    | @tup a xs ds n e q => exact .inr (.inl ⟨xs, SqT.of e, sq q⟩)
    | @lst a xs ds n e q => exact .inl ⟨xs, SqL.of e, sq q⟩
    | @dct a kvs ds n e q => subst q; exact .inr (.inr ⟨dkV kvs, e, by cases kvs <;> rfl⟩)
  · exact .inl ⟨xs, SqL.of e, sq q⟩
theorem pdt_tru {e : Expr} {w : DE} (h : PE X e (tX .P X.K E w)) (he : ∀ whole, isTrue e X.env whole = (do let v ← whole; standAt e.pos; holding [v] (truthy v))) : PT X e (tT X.K E (dTru w)) := by
  refine PT.imp (pt_truth h he) fun σ H Q ⟨F, δ, R, EX, rel, hw, k, o⟩ => ?_
  exact ⟨F, δ, _, EX, rel, hw, fun d ⟨hs, hq⟩ v H' rel' kp vk => ⟨tru d, tru_of vk hs, k _ hq H' rel' kp⟩, o⟩
theorem pdt_val {e : Expr} {w : DE} (h : PE X e (tX .P X.K E w)) (he : ∀ whole, isTrue e X.env whole = (do let v ← whole; standAt e.pos; holding [v] (truthy v)) := by intro _; rfl) : PT X e (tT X.K E (dTst w)) := by
  refine PT.imp (pt_val h he) fun σ H Q ⟨F, δ, R, EX, rel, hw, k, o⟩ => ?_
  refine ⟨F, δ, _, EX, rel, hw, fun d hd v H' rel' kp vk => ?_, o⟩
  split at hd
  · exact ⟨_, DP.bool vk, k _ hd H' rel' kp⟩
  · exact hd.elim
def dOr (wa wb : DT) : DT := fun δ Q EX => wa δ (fun c => if c = true then Q true else wb δ Q EX) EX
def dNot (wa : DT) : DT := fun δ Q EX => wa δ (fun c => Q (!c)) EX
theorem if_imp {c : Prop} [Decidable c] {p q p' q' : Prop} (h : if c then p else q) (h1 : p → p') (h2 : q → q') : if c then p' else q' := by
  split at h
  · rw [if_pos (by assumption)]; exact h1 h
  · rw [if_neg (by assumption)]; exact h2 h
variable {rest : List Expr} {ta tb : DT}
theorem pdw_or1 (ha : PT X a (tT X.K E ta)) : PW X (.BoolOp .Or [a] pos) (tT X.K E ta) := pw_or1 ha
theorem pdw_or (ha : PT X a (tT X.K E ta)) (hb : PW X (.BoolOp .Or (b :: rest) pos) (tT X.K E tb)) : PW X (.BoolOp .Or (a :: b :: rest) pos) (tT X.K E (dOr ta tb)) := by
  refine PW.imp (pw_or ha hb) fun σ H Q ⟨F, δ, R, EX, rel, hw, k, o⟩ => ?_
  refine ⟨F, δ, _, EX, rel, hw, fun c hc H' rel' kp => ?_, o⟩
  exact if_imp hc (fun z => k _ z H' rel' kp) (fun z => ⟨F, δ, R, EX, rel', z, fun c hc H2 rel2 kp2 => k c hc H2 rel2 (kp.trans kp2), o⟩)
theorem pdt_not (ha : PT X a (tT X.K E ta)) : PT X (.UnaryOp .Not a pos) (tT X.K E (dNot ta)) := by
  refine PT.imp (pt_not ha) fun σ H Q ⟨F, δ, R, EX, rel, hw, k, o⟩ => ?_
  exact ⟨F, δ, _, EX, rel, hw, fun c hc H' rel' kp => k _ hc H' rel' kp, o⟩
def dAndV (wa wb : DE) : DE := fun δ Q EX => wa δ (fun d => match d with
  | .bool c => if c = true then wb δ Q EX else Q (.bool false)
  | _ => False) EX
def dNotV (wa : DE) : DE := fun δ Q EX => wa δ (fun d => match d with
  | .bool c => Q (.bool (!c))
  | _ => False) EX
theorem pd_one {op} {w : DE} (h : PE X a (tX .D X.K E w)) : PE X (.BoolOp op [a] pos) (tX .D X.K E w) := pe_one h
theorem pd_and (ha : PE X a (tX .P X.K E wa)) (hb : PE X (.BoolOp .And (b :: rest) pos) (tX .D X.K E wb)) : PE X (.BoolOp .And (a :: b :: rest) pos) (tX .D X.K E (dAndV wa wb)) := by
  refine PE.imp (pe_and ha hb) fun σ H Q ⟨F, δ, R, EX, rel, hw, k, o⟩ => ?_
  refine ⟨F, δ, _, EX, rel, hw, fun d hd v H' rel' kp vk => ?_, o⟩
  split at hd
  · exact ⟨_, DP.bool vk, if_imp hd (fun z => ⟨F, δ, R, EX, rel', z, fun d hd v H2 rel2 kp2 => k d hd v H2 rel2 (kp.trans kp2), o⟩) fun z => k _ z _ H' rel' kp (.bl _)⟩
  · exact hd.elim
theorem pd_not (ha : PE X a (tX .P X.K E wa)) : PE X (.UnaryOp .Not a pos) (tX .D X.K E (dNotV wa)) := by
  refine PE.imp (pe_not ha) fun σ H Q ⟨F, δ, R, EX, rel, hw, k, o⟩ => ?_
  refine ⟨F, δ, _, EX, rel, hw, fun d hd v H' rel' kp vk => ?_, o⟩
  split at hd
  · exact ⟨_, DP.bool vk, k _ hd _ H' rel' kp (.bl _)⟩
  · exact hd.elim
end
end Dl
namespace Dl
open PySem PySem.Spec PyProof.Rows L2 _root_.Rd Rk
theorem new_da {A : Addr → Prop} {H H' : Hp} {l : Addr} {xs : List V} {ds : List PyData} (dm : ∀ a, A a → ∃ xs, H a = some (.lst xs)) (s : Same H H') (n : H l = none) (e : H' l = some (.lst xs)) (q : DAs A H xs ds) : DA A H' (.ref l) (.list ds) :=
  .lst (fun z => by obtain ⟨ys, e'⟩ := dm l z; rw [n] at e'; cases e') e (q.same s)
theorem tup_da {A : Addr → Prop} {H H' : Hp} {l : Addr} {xs : List V} {ds : List PyData} (dm : ∀ a, A a → ∃ xs, H a = some (.lst xs)) (s : Same H H') (e : H' l = some (.tup xs)) (q : DAs A H xs ds) : DA A H' (.ref l) (.tuple ds) :=
  .tup (fun z => by obtain ⟨ys, e'⟩ := dm l z; rw [s _ _ e'] at e; cases e) e (q.same s)
theorem frv_new {H H' : Hp} {l : Addr} (n : H l = none) : FrV H H' (.ref l) := fun l' e _ => by cases e; exact n
theorem frv_tup {H H' : Hp} {l : Addr} {xs : List V} (e : H' l = some (.tup xs)) : FrV H H' (.ref l) := fun l' e1 ⟨ys, e2⟩ => by cases e1; rw [e] at e2; cases e2
theorem frv_int {H H' : Hp} {i : Int} : FrV H H' (.int i) := fun l' e _ => by cases e
theorem frv_bl {H H' : Hp} {i : Bool} : FrV H H' (.bl i) := fun l' e _ => by cases e
theorem frv_non {H H' : Hp} : FrV H H' .non := fun l' e _ => by cases e
theorem DAs.rep {A : Addr → Prop} {H : Hp} {xs : List V} {ds : List PyData} (q : DAs A H xs ds) : ∀ k : Nat, DAs A H (List.replicate k xs).flatten (List.replicate k ds).flatten
  | 0 => .nil
  | k + 1 => by rw [List.replicate_succ, List.replicate_succ, List.flatten_cons, List.flatten_cons]; exact q.app (DAs.rep q k)
def addD : PyData → PyData → (PyData → Prop) → Prop
  | .int i, .int j, Q => Q (.int (i + j))
  | .tuple a, .tuple b, Q => a.length + b.length ≤ 1000000 ∧ Q (.tuple (a ++ b))
  | .list a, .list b, Q => a.length + b.length ≤ 1000000 ∧ Q (.list (a ++ b))
  | _, _, _ => False
def iiD (C : Int → Int → Prop) (f : Int → Int → PyData) : PyData → PyData → (PyData → Prop) → Prop
  | .int i, .int j, Q => C i j ∧ Q (f i j)
  | _, _, _ => False
def ii0 (f : Int → Int → PyData) : PyData → PyData → (PyData → Prop) → Prop
  | .int i, .int j, Q => Q (f i j)
  | _, _, _ => False
def mulD : PyData → PyData → (PyData → Prop) → Prop
  | .int i, .int j, Q => (CMul i j ∨ CMulB i j) ∧ Q (.int (i * j))
  | .list a, .int k, Q => (k < 1000000 ∧ -1000000 < k ∧ a.length * k.toNat ≤ 1000000) ∧ Q (.list (List.replicate k.toNat a).flatten)
  | _, _, _ => False
theorem lineM : 1000000 ≤ sizeLine := by show 1000000 ≤ 2 ^ 24; decide
section
variable {X : Cx} {E : XK}
theorem od_ii {C : Int → Int → Prop} {g : Int → Int → Int} : OpD (rI C fun i j => .int (g i j)) (iiD C fun i j => .int (g i j)) := fun A P H x y d1 d2 R Q ln dm hx hy h k => by
  cases d1 <;> cases d2 <;> first | exact h.elim | skip
  rw [hx.int, hy.int]
  exact ⟨_, _, rfl, rfl, h.1, k _ h.2 _ H (Same.refl H) (.int _) frv_int⟩
theorem od_ii0 {g : Int → Int → Int} : OpD (rI0 fun i j => .int (g i j)) (ii0 fun i j => .int (g i j)) := fun A P H x y d1 d2 R Q ln dm hx hy h k => by
  cases d1 <;> cases d2 <;> first | exact h.elim | skip
  rw [hx.int, hy.int]
  exact ⟨_, _, rfl, rfl, k _ h _ H (Same.refl H) (.int _) frv_int⟩
theorem od_ib0 {g : Int → Int → Bool} : OpD (rI0 fun i j => .bl (g i j)) (ii0 fun i j => .bool (g i j)) := fun A P H x y d1 d2 R Q ln dm hx hy h k => by
  cases d1 <;> cases d2 <;> first | exact h.elim | skip
  rw [hx.int, hy.int]
  exact ⟨_, _, rfl, rfl, k _ h _ H (Same.refl H) (.bl _) frv_bl⟩
def rAdd : R2 := fun x y H Q => (rI0 (fun i j => .int (i + j)) x y H Q ∨ rCatA x y H Q) ∨ rCat x y H Q
theorem op_addD : OpR X (binaryOp .Add) rAdd := OpR.or2 (OpR.or2 op_add op_catA) op_cat
theorem od_add : OpD rAdd addD := fun A P H x y d1 d2 R Q ln dm hx hy h k => by
  cases d1 <;> cases d2 <;> first | exact h.elim | skip
  · rw [hx.int, hy.int]
    exact .inl (.inl ⟨_, _, rfl, rfl, k _ h _ H (Same.refl H) (.int _) frv_int⟩)
  · obtain ⟨l1, xs, rfl, e1, q1⟩ := hx.list
    obtain ⟨l2, ys, rfl, e2, q2⟩ := hy.list
    refine .inr ⟨l1, l2, xs, ys, rfl, rfl, e1, e2, Nat.le_trans (by rw [q1.length, q2.length]; exact h.1) lineM, fun p hp => ?_⟩
    exact k _ h.2 _ _ (same_upd hp) (new_da dm (same_upd hp) hp upd_same (q1.app q2)) (frv_new hp)
  · obtain ⟨l1, xs, rfl, e1, q1⟩ := hx.tuple
    obtain ⟨l2, ys, rfl, e2, q2⟩ := hy.tuple
    refine .inl (.inr ⟨l1, l2, xs, ys, rfl, rfl, e1, e2, Nat.le_trans (by rw [q1.length, q2.length]; exact h.1) lineM, fun p H' s e => ?_⟩)
    exact k _ h.2 _ _ s (tup_da dm s e (q1.app q2)) (frv_tup e)
def rMulA : R2 := fun x y H Q => (rI CMul (fun i j => .int (i * j)) x y H Q ∨ rI CMulB (fun i j => .int (i * j)) x y H Q) ∨ rRep x y H Q
theorem op_mulD : OpR X (binaryOp .Mult) rMulA := OpR.or2 (OpR.or2 op_mul op_mulB) op_rep
theorem od_mul : OpD rMulA mulD := fun A P H x y d1 d2 R Q ln dm hx hy h k => by
  cases d1 <;> cases d2 <;> first | exact h.elim | skip
  · rw [hx.int, hy.int]
    rcases h.1 with c | c
    · exact .inl (.inl ⟨_, _, rfl, rfl, c, k _ h.2 _ H (Same.refl H) (.int _) frv_int⟩)
    · exact .inl (.inr ⟨_, _, rfl, rfl, c, k _ h.2 _ H (Same.refl H) (.int _) frv_int⟩)
  · obtain ⟨l1, xs, rfl, e1, q1⟩ := hx.list
    rw [hy.int]
    obtain ⟨⟨h1, h2, h3⟩, h4⟩ := h
    refine .inr ⟨l1, _, xs, rfl, rfl, e1, by omega, by omega, Nat.le_trans (by rw [q1.length]; exact h3) lineM, fun p hp => ?_⟩
    exact k _ h4 _ _ (same_upd hp) (new_da dm (same_upd hp) hp upd_same (q1.rep _)) (frv_new hp)
def eqD : PyData → PyData → (PyData → Prop) → Prop
  | .int i, .int j, Q => Q (.bool (decide (i = j)))
  | .bool i, .bool j, Q => Q (.bool (decide (i = j)))
  | .str i, .str j, Q => Q (.bool (decide (i = j)))
  | a, b, Q => (nd a = true ∧ nd b = true ∧ (a.depth ≤ 50 ∨ b.depth ≤ 50)) ∧ Q (.bool (PyData.eqv a b))
theorem min50 {a b : PyData} (h : a.depth ≤ 50 ∨ b.depth ≤ 50) : min a.depth b.depth ≤ 50 := by rcases h with h | h <;> omega
def rEqA (u : Nat) : R2 := fun x y H Q => rEq x y H Q ∨ rEqU u x y H Q
theorem op_eqA : OpR X (compareOp .Eq) (rEqA X.A.units) := OpR.or2 op_eq op_eqU
theorem dec_i {i j : Int} : decide (V.int i = V.int j) = decide (i = j) := by
  by_cases h : i = j
  · subst h; simp
  · rw [decide_eq_false h, decide_eq_false (fun z => h (V.int.inj z))]
theorem dec_b {i j : Bool} : decide (V.bl i = V.bl j) = decide (i = j) := by
  by_cases h : i = j
  · subst h; simp
  · rw [decide_eq_false h, decide_eq_false (fun z => h (V.bl.inj z))]
theorem dec_s {i j : Str} : decide (V.str i = V.str j) = decide (i = j) := by
  by_cases h : i = j
  · subst h; simp
  · rw [decide_eq_false h, decide_eq_false (fun z => h (V.str.inj z))]
theorem od_eq {u : Nat} (hu : u + 60 < cLine) : OpD (rEqA u) eqD := fun A P H x y d1 d2 R Q ln dm hx hy h k => by
  unfold eqD at h
  split at h
  · rw [hx.int, hy.int]
    exact .inl ⟨rfl, k (.bool (decide (V.int _ = V.int _))) (by rw [dec_i]; exact h) _ H (Same.refl H) (.bl _) frv_bl⟩
  · rw [hx.bool, hy.bool]
    exact .inl ⟨rfl, k (.bool (decide (V.bl _ = V.bl _))) (by rw [dec_b]; exact h) _ H (Same.refl H) (.bl _) frv_bl⟩
  · rw [hx.str.1, hy.str.1]
    exact .inl ⟨rfl, k (.bool (decide (V.str _ = V.str _))) (by rw [dec_s]; exact h) _ H (Same.refl H) (.bl _) frv_bl⟩
  · obtain ⟨⟨n1, n2, dp⟩, hR⟩ := h
    have := min50 dp
    exact .inr ⟨_, _, hx.dat n1, hy.dat n2, by omega, k _ hR _ H (Same.refl H) (.bl _) frv_bl⟩
def rInLU (u : Nat) (neg : Bool) : R2 := fun x y H Q => ∃ c ps ds d, y = .ref c ∧ H c = some (.lst ps) ∧ Dats H ps ds ∧ Dat H x d ∧ u + d.depth < cLine ∧ Q (.bl (if neg then !(ds.any fun e => PyData.eqv e d) else ds.any fun e => PyData.eqv e d)) H
theorem op_inLU : OpR X (compareOp .In) (rInLU X.A.in1.units false) := by
  intro pins s σ H x y v u Q I rx ry h
  obtain ⟨c, ps, ds, d, rfl, hc, qs, qx, hu, q⟩ := h
  cases ry
  obtain ⟨⟨as, ra⟩, ca⟩ := dat_reads I.hok d x v qx rx
  obtain ⟨its, rv, pl, hz⟩ := I.list (SqL.of hc)
  obtain ⟨⟨bs, rb⟩, cb⟩ := dats_reads I.hok ds ps its qs rv
  refine SeqAt.in_listAt (eqH s.heap d) pl.isList (fun w hw => mem_eqH ra ca rb cb hu w (List.mem_toArray.mp hw)) ⟨.bl _, H, I, rfl, ?_⟩
  rw [show its.toArray.any (eqH s.heap d) = its.any (eqH s.heap d) by simp, any_eqH rb cb]
  exact q
theorem op_notInLU : OpR X (compareOp .NotIn) (rInLU X.A.in1.units true) := by
  intro pins s σ H x y v u Q I rx ry h
  obtain ⟨c, ps, ds, d, rfl, hc, qs, qx, hu, q⟩ := h
  cases ry
  obtain ⟨⟨as, ra⟩, ca⟩ := dat_reads I.hok d x v qx rx
  obtain ⟨its, rv, pl, hz⟩ := I.list (SqL.of hc)
  obtain ⟨⟨bs, rb⟩, cb⟩ := dats_reads I.hok ds ps its qs rv
  refine SeqAt.notIn_listAt (eqH s.heap d) pl.isList (fun w hw => mem_eqH ra ca rb cb hu w (List.mem_toArray.mp hw)) ⟨.bl _, H, I, rfl, ?_⟩
  rw [show its.toArray.any (eqH s.heap d) = its.any (eqH s.heap d) by simp, any_eqH rb cb]
  exact q
def inD (neg : Bool) (d : PyData) : PyData → (PyData → Prop) → Prop
  | .list ds, Q => (nds ds = true ∧ nd d = true ∧ d.depth ≤ 50) ∧ Q (.bool (if neg then !(ds.any fun e => PyData.eqv e d) else ds.any fun e => PyData.eqv e d))
  | .tuple ds, Q => (nds ds = true ∧ nd d = true ∧ d.depth ≤ 50) ∧ Q (.bool (if neg then !(ds.any fun e => PyData.eqv e d) else ds.any fun e => PyData.eqv e d))
  | _, _ => False
def rInA (u : Nat) (neg : Bool) : R2 := fun x y H Q => rInU u neg x y H Q ∨ rInLU u neg x y H Q
theorem op_inA : OpR X (compareOp .In) (rInA X.A.in1.units false) := OpR.or2 op_inU op_inLU
theorem op_notInA : OpR X (compareOp .NotIn) (rInA X.A.in1.units true) := OpR.or2 op_notInU op_notInLU
theorem od_in {u : Nat} {neg : Bool} (hu : u + 60 < cLine) : OpD (rInA u neg) (inD neg) := fun A P H x y d1 d2 R Q ln dm hx hy h k => by
  cases d2 <;> first | exact h.elim | skip
  · obtain ⟨l, xs, rfl, e, q⟩ := hy.list
    obtain ⟨⟨n1, n2, n3⟩, hR⟩ := h
    exact .inr ⟨l, xs, _, d1, rfl, e, das_dats _ _ n1 q, hx.dat n2, by omega, k _ hR _ H (Same.refl H) (.bl _) frv_bl⟩
  · obtain ⟨l, xs, rfl, e, q⟩ := hy.tuple
    obtain ⟨⟨n1, n2, n3⟩, hR⟩ := h
    exact .inl ⟨l, xs, _, d1, rfl, e, das_dats _ _ n1 q, hx.dat n2, by omega, k _ hR _ H (Same.refl H) (.bl _) frv_bl⟩
def ixD : PyData → PyData → (PyData → Prop) → Prop
  | .list ds, .int i, Q => ∃ d, atI ds i = some d ∧ Q d
  | .tuple ds, .int i, Q => ∃ d, atI ds i = some d ∧ Q d
  | _, _, _ => False
theorem atI_da {A : Addr → Prop} {H : Hp} {xs : List V} {ds : List PyData} {i : Int} {d : PyData} (q : DAs A H xs ds) (h : atI ds i = some d) : ∃ v, atI xs i = some v ∧ DA A H v d := by
  unfold atI at h ⊢
  rw [q.length]
  cases e : ixN ds.length i with
  | none => rw [e] at h; cases h
  | some j =>
    rw [e] at h
    exact q.get j d h
def rIxA (K : PySem.W.Frag) : R2 := fun x y H Q => rIxL K x y H Q ∨ rIxT K x y H Q
theorem ix_any : IxR X (rIxA X.K) := IxR.or2 ix_list ix_tup
theorem od_ix {K : PySem.W.Frag} : OpDn (rIxA K) ixD := fun A P H x y d1 d2 R Q ln dm hx hy h k => by
  cases d1 <;> cases d2 <;> first | exact h.elim | skip
  · obtain ⟨l, xs, rfl, e, q⟩ := hx.list
    obtain ⟨d, hd, hR⟩ := h
    obtain ⟨v, hv, dv⟩ := atI_da q hd
    rw [hy.int]
    exact .inl ⟨l, xs, _, v, rfl, rfl, SqL.of e, hv, k d hR v H (Same.refl H) dv⟩
  · obtain ⟨l, xs, rfl, e, q⟩ := hx.tuple
    obtain ⟨d, hd, hR⟩ := h
    obtain ⟨v, hv, dv⟩ := atI_da q hd
    rw [hy.int]
    exact .inr ⟨l, xs, _, v, rfl, rfl, SqT.of e, hv, k d hR v H (Same.refl H) dv⟩
variable {a b c : Expr} {wa wb wc : DE} {pos : Pos}
def dNil : DAr := fun _ Q _ => Q []
def dCons (we : DE) (wr : DAr) : DAr := fun δ Q EX => we δ (fun d => wr δ (fun ds => Q (d :: ds)) EX) EX
theorem pda_nil {m : Md} : PA X [] (tAr 0 m X.K E dNil) := PA.imp pa_nil fun σ H Q ⟨F, δ, R, EX, rel, hw, k, o⟩ => k [] hw rfl [] H rel (Kp.refl rel) .nil
theorem ar_read {n : Nat} {m : Md} {K : PySem.W.Frag} {we : DE} {wr : DAr} (hm : ∀ {F : Fm} {σ : L2.St} {δ : Sts} {H H' : Hp} {v : V} {d : PyData}, Vok m F σ δ H H' v d → VD m (Av F σ δ) (PotA σ δ) H' v d) (σ : L2.St) (H : Hp) (Q : List V → Hp → Prop) (h : tAr (n + 1) m K E (dCons we wr) σ H Q) : tCons (tX m K E we) (tAr n m K E wr) σ H Q := by
  obtain ⟨F, δ, R, EX, rel, hw, k, o⟩ := h
  refine ⟨F, δ, _, EX, rel, hw, fun d hd v H' rel' kp vk => ⟨F, δ, _, EX, rel', hd, fun ds hds hl vs H2 rel2 kp2 vks => ?_, o⟩, o⟩
  exact k _ hds (by rw [List.length_cons, hl]) (v :: vs) H2 rel2 (kp.trans kp2) (.cons (kp2.vd (hm vk)) vks)
theorem pda_consD {n : Nat} {e : Expr} {es : List Expr} {we : DE} {wr : DAr} (he : PE X e (tX .D X.K E we)) (hr : PA X es (tAr n .D X.K E wr)) (hs : notStar e = true := by rfl) : PA X (e :: es) (tAr (n + 1) .D X.K E (dCons we wr)) := PA.imp (pa_c he hr hs) (ar_read fun h => h)
theorem pda_consP {n : Nat} {e : Expr} {es : List Expr} {we : DE} {wr : DAr} (he : PE X e (tX .P X.K E we)) (hr : PA X es (tAr n .P X.K E wr)) (hs : notStar e = true := by rfl) : PA X (e :: es) (tAr (n + 1) .P X.K E (dCons we wr)) := PA.imp (pa_c he hr hs) (ar_read fun h => h)
theorem paired_das {A P : Addr → Prop} {H : Hp} : ∀ {vs : List V} {ds : List PyData}, Paired (VD .D A P H) vs ds → DAs A H vs ds
  | _, _, .nil => .nil
  | _, _, .cons a b => .cons a (paired_das b)
def dTup (w : DAr) : DE := fun δ Q EX => w δ (fun ds => Q (.tuple ds)) EX
def dLst (w : DAr) : DE := fun δ Q EX => w δ (fun ds => Q (.list ds)) EX
theorem pd_tup {n : Nat} {es : List Expr} {w : DAr} {x1} (h : PA X es (tAr n .D X.K E w)) (hn : n ≤ 1000 := by decide) : PE X (.Tuple es x1 pos) (tX .F X.K E (dTup w)) := by
  refine PE.imp (pe_tupW h) fun σ H Q ⟨F, δ, R, EX, rel, hw, k, o⟩ => ?_
  refine ⟨F, δ, _, EX, rel, hw, fun ds hds hl vs H' rel' kp q => ?_, o⟩
  have q' := paired_das q
  refine ⟨by rw [q'.length, hl]; exact hn, fun a H2 s n e => k _ hds _ H2 (rel'.same s) (kp.trans (Kp.same rel' s)) ⟨tup_da (fun a ha => rel'.isl ha) s e q', frv_tup e⟩⟩
theorem kp_none {σ : L2.St} {δ : Sts} {H H' : Hp} {l : Addr} (k : Kp σ δ H H') (n : H' l = none) : H l = none := by
  cases e : H l with
  | none => rfl
  | some ob =>
    by_cases z : PotA σ δ l
    · obtain ⟨m, em⟩ := k.2 l z
      rw [em] at n; cases n
    · rw [k.1 _ _ z e] at n; cases n
theorem pd_lst {n : Nat} {es : List Expr} {w : DAr} (h : PA X es (tAr n .D X.K E w)) (hn : n ≤ 1000 := by decide) : PE X (.List es pos) (tX .F X.K E (dLst w)) := by
  refine PE.imp (pe_lstW h) fun σ H Q ⟨F, δ, R, EX, rel, hw, k, o⟩ => ?_
  refine ⟨F, δ, _, EX, rel, hw, fun ds hds hl vs H' rel' kp q => ?_, o⟩
  have q' := paired_das q
  refine ⟨by rw [q'.length, hl]; exact hn, fun a H2 s n e => k _ hds _ H2 (rel'.same s) (kp.trans (Kp.same rel' s)) ⟨new_da (fun a ha => rel'.isl ha) s n e q', frv_new (kp_none kp n)⟩⟩
def CallD (r : List V → Hp → VK → Prop) (rD : List PyData → (PyData → Prop) → Prop) : Prop := ∀ (A P : Addr → Prop) (H : Hp) (vs : List V) (ds : List PyData) (R : PyData → Prop) (Q : VK), LenOk H → (∀ a, A a → ∃ xs, H a = some (.lst xs)) → Paired (DP A P H) vs ds → rD ds R →
  (∀ d, R d → ∀ v H', Same H H' → DA A H' v d → FrV H H' v → Q v H') → r vs H Q
def dCB (rD : List PyData → (PyData → Prop) → Prop) (wa : DAr) : DE := fun δ Q EX => wa δ (fun ds => rD ds Q) EX
theorem cb_read {n : Nat} {K : PySem.W.Frag} {r : List V → Hp → VK → Prop} {rD : List PyData → (PyData → Prop) → Prop} {wa : DAr} (hd : CallD r rD) (σ : L2.St) (H : Hp) (Q : VK) (h : tX .F K E (dCB rD wa) σ H Q) :
    tCB (fun xs H Q => LenOk H → r xs H Q) (tAr n .P K E wa) σ H Q := by
  obtain ⟨F, δ, R, EX, rel, hw, k, o⟩ := h
  refine ⟨F, δ, _, EX, rel, hw, fun ds hds hl vs H' rel' kp q ln => ?_, o⟩
  refine hd (Av F σ δ) (PotA σ δ) H' vs ds R Q ln (fun a ha => rel'.isl ha) q hds fun d hR v H2 s dv fr => ?_
  exact k d hR v H2 (rel'.same s) (kp.trans (Kp.same rel' s)) ⟨dv, fun l e1 e2 => kp_none kp (fr l e1 e2)⟩
variable {x : Str} {bid T : String} {p : Pos} {e : Expr} {es : List Expr} {n : Nat} {wr : DAr} {r : List V → Hp → VK → Prop} {rD : List PyData → (PyData → Prop) → Prop}
theorem pd_callB (hc : CallR X (.builtin bid) r) (hd : CallD r rD) (hg : Gl X x) (hm : X.mg x = none) (hv : bootBuiltins x = some (.builtin bid)) (ha : PA X (e :: es) (tAr n .P X.K E wr)) (hn : x ≠ "__name__" := by decide) (hdb : (x == ("__debug__" : Str)) = false := by decide)
    (he : starEach (e :: es) X.env = (false, eval e X.env) :: starEach es X.env := by rfl) (hpl : (backTo pos (starEach es X.env)).any (·.1) = false := by rfl) : PE X (.Call (.Name x p) (e :: es) [] pos) (tX .F X.K E (dCB rD wr)) :=
  PE.imp (pe_callB (CallR.len hc) hg hm hv ha hn hdb he hpl) (cb_read hd)
theorem pd_callTy (hc : CallR X (.type T) r) (hd : CallD r rD) (hg : Gl X x) (hm : X.mg x = none) (hv : bootBuiltins x = some (.type T)) (ha : PA X (e :: es) (tAr n .P X.K E wr)) (hn : x ≠ "__name__" := by decide) (hdb : (x == ("__debug__" : Str)) = false := by decide)
    (he : starEach (e :: es) X.env = (false, eval e X.env) :: starEach es X.env := by rfl) (hpl : (backTo pos (starEach es X.env)).any (·.1) = false := by rfl) : PE X (.Call (.Name x p) (e :: es) [] pos) (tX .F X.K E (dCB rD wr)) :=
  PE.imp (pe_callTy (CallR.len hc) hg hm hv ha hn hdb he hpl) (cb_read hd)
theorem pd1 {A P : Addr → Prop} {H : Hp} {vs : List V} {d : PyData} (q : Paired (DP A P H) vs [d]) : ∃ v, vs = [v] ∧ DP A P H v d := by
  cases q with
  | cons a b => cases b; exact ⟨_, rfl, a⟩
theorem pd2 {A P : Addr → Prop} {H : Hp} {vs : List V} {d d' : PyData} (q : Paired (DP A P H) vs [d, d']) : ∃ v v', vs = [v, v'] ∧ DP A P H v d ∧ DP A P H v' d' := by
  cases q with
  | cons a b => cases b with | cons b c => cases c; exact ⟨_, _, rfl, a, b⟩
def lenD : List PyData → (PyData → Prop) → Prop
  | [.list ds], Q => Q (.int ds.length)
  | [.tuple ds], Q => Q (.int ds.length)
  | _, _ => False
theorem cd_len {K : PySem.W.Frag} : CallD (rLenK K) lenD := fun A P H vs ds R Q ln dm q h k => by
  unfold lenD at h
  split at h
  · obtain ⟨v, rfl, hv⟩ := pd1 q
    obtain ⟨l, xs, rfl, e, qq⟩ := hv.list
    exact ⟨l, xs, rfl, .inl (SqL.of e), by rw [qq.length]; exact k _ h _ H (Same.refl H) (.int _) frv_int⟩
  · obtain ⟨v, rfl, hv⟩ := pd1 q
    obtain ⟨l, xs, rfl, e, qq⟩ := hv.tuple
    exact ⟨l, xs, rfl, .inr (SqT.of e), by rw [qq.length]; exact k _ h _ H (Same.refl H) (.int _) frv_int⟩
  · exact h.elim
theorem call_lenK : CallR X (.builtin "len") (rLenK X.K) := call_len_seq
def min2D : List PyData → (PyData → Prop) → Prop
  | [.int i, .int j], Q => Q (.int (if j < i then j else i))
  | _, _ => False
def max2D : List PyData → (PyData → Prop) → Prop
  | [.int i, .int j], Q => Q (.int (if j > i then j else i))
  | _, _ => False
theorem cd_min2 : CallD (fun xs H Q => ∃ i j, xs = [.int i, .int j] ∧ Q (.int (if j < i then j else i)) H) min2D := fun A P H vs ds R Q ln dm q h k => by
  unfold min2D at h
  split at h
  · obtain ⟨v, v', rfl, h1, h2⟩ := pd2 q
    rw [h1.int, h2.int]
    exact ⟨_, _, rfl, k _ h _ H (Same.refl H) (.int _) frv_int⟩
  · exact h.elim
theorem cd_max2 : CallD (fun xs H Q => ∃ i j, xs = [.int i, .int j] ∧ Q (.int (if j > i then j else i)) H) max2D := fun A P H vs ds R Q ln dm q h k => by
  unfold max2D at h
  split at h
  · obtain ⟨v, v', rfl, h1, h2⟩ := pd2 q
    rw [h1.int, h2.int]
    exact ⟨_, _, rfl, k _ h _ H (Same.refl H) (.int _) frv_int⟩
  · exact h.elim
def asInts : List PyData → Option (List Int)
  | [] => some []
  | .int b :: ds => (asInts ds).map (b :: ·)
  | _ :: _ => none
theorem ints_map (bs : List Int) : asInts (bs.map PyData.int) = some bs := by
  induction bs with
  | nil => rfl
  | cons b bs ih => rw [List.map_cons, asInts, ih]; rfl
theorem ints_eq : ∀ {ds : List PyData} {bs : List Int}, asInts ds = some bs → ds = bs.map PyData.int
  | [], bs, h => by cases h; rfl
  | d :: ds, bs, h => by
    cases d <;> first | (unfold asInts at h; cases h; done) | skip
    rw [asInts] at h
    obtain ⟨cs, h1, rfl⟩ := Option.map_eq_some_iff.mp h
    rw [ints_eq h1]; rfl
theorem das_ints {A : Addr → Prop} {H : Hp} : ∀ {bs : List Int} {xs : List V}, DAs A H xs (bs.map PyData.int) → xs = bs.map V.int
  | [], _, .nil => rfl
  | b :: bs, _, .cons (.int _) r => by rw [das_ints r]; rfl
def tupleD : List PyData → (PyData → Prop) → Prop
  | [.list ds], Q => Q (.tuple ds)
  | [.tuple ds], Q => Q (.tuple ds)
  | _, _ => False
theorem cd_tuple {K : PySem.W.Frag} : CallD (rTupOfW K) tupleD := fun A P H vs ds R Q ln dm q h k => by
  unfold tupleD at h
  split at h
  · obtain ⟨v, rfl, hv⟩ := pd1 q
    obtain ⟨l, xs, rfl, e, qq⟩ := hv.list
    exact ⟨l, xs, rfl, .inl ⟨SqL.of e, fun l' H' s n e' => k _ h _ H' s (tup_da dm s e' qq) (frv_tup e')⟩⟩
  · obtain ⟨v, rfl, hv⟩ := pd1 q
    obtain ⟨l, xs, rfl, e, qq⟩ := hv.tuple
    exact ⟨l, xs, rfl, .inr ⟨SqT.of e, k _ h _ H (Same.refl H) (tup_da dm (Same.refl H) e qq) (frv_tup e)⟩⟩
  · exact h.elim
end
end Dl
namespace Dl
open PySem PySem.Spec PyProof.Rows L2 _root_.Rd Rk
section
variable {X : Cx} {E : XK}
inductive Tn where | int | bool | str | tuple | list
def Tn.s : Tn → String
  | .int => "int"
  | .bool => "bool"
  | .str => "str"
  | .tuple => "tuple"
  | .list => "list"
def isT : Tn → PyData → Bool
  | .int, .int _ => true
  | .int, .bool _ => true
  | .bool, .bool _ => true
  | .str, .str _ => true
  | .tuple, .tuple _ => true
  | .list, .list _ => true
  | _, _ => false
theorem inst_dp {K : PySem.W.Frag} {A P : Addr → Prop} {H : Hp} {v : V} {d : PyData} (tn : Tn) (h : DP A P H v d) : ∃ t, TyOf K H v t ∧ PySem.W.kitOne K t (.type tn.s) = some (isT tn d) := by
  rcases h with h | ⟨l, xs, ds, rfl, rfl, _, e, q⟩
  · cases h with
    | non => exact ⟨_, .non, by cases tn <;> rfl⟩
    | bl b => exact ⟨_, .bl _, by cases tn <;> rfl⟩
    | int i => exact ⟨_, .int _, by cases tn <;> rfl⟩
    | str x c => exact ⟨_, .str _, by cases tn <;> rfl⟩
    | tup n e q => exact ⟨_, .tup e, by cases tn <;> rfl⟩
    | lst n e q => exact ⟨_, .lst e, by cases tn <;> rfl⟩
    | dct n e q => exact ⟨_, .dK e, by cases tn <;> rfl⟩
  · exact ⟨_, .lst e, by cases tn <;> rfl⟩
def dInst (tn : Tn) (we : DE) : DE := fun δ Q EX => we δ (fun d => Q (.bool (isT tn d))) EX
theorem pd_inst {e f : Expr} {we : DE} {p pos : Pos} (tn : Tn) (hg : Gl X "isinstance") (hm : X.mg "isinstance" = none) (he : PE X e (tX .P X.K E we)) (hf : PE X f (tC (.ty tn.s))) (h1 : notStar e = true := by rfl) (h2 : notStar f = true := by rfl) :
    PE X (.Call (.Name "isinstance" p) [e, f] [] pos) (tX .F X.K E (dInst tn we)) := by
  refine PE.imp (pe_callB call_isinst hg hm bt_isinstance (pa_c he (pa_c hf pa_nil h2) h1) (he := star_of h1) (hpl := by rw [star_of h2]; rfl)) fun σ H Q ⟨F, δ, R, EX, rel, hw, k, o⟩ => ?_
  refine ⟨F, δ, _, EX, rel, hw, fun d hd v H' rel' kp vk => ?_, o⟩
  obtain ⟨t, ty, et⟩ := inst_dp (K := X.K) tn vk
  exact ⟨v, t, tn.s, _, rfl, ty, et, k _ hd _ H' rel' kp ⟨.bl _, frv_bl⟩⟩
theorem pb_ty {x : Str} {pos : Pos} (tn : Tn) (hg : Gl X x) (hm : X.mg x = none) (hv : bootBuiltins x = some (.type tn.s)) (hn : x ≠ "__name__" := by decide) (hd : (x == ("__debug__" : Str)) = false := by decide) : PE X (.Name x pos) (tC (.ty tn.s)) := pe_bltn (v := .ty tn.s) hg hm hv rfl hn hd
abbrev DF := List Sl → (PyData → Prop) → XP → Prop
def Kq (pt : Addr → Prop) (H H' : Hp) : Prop := (∀ b o, ¬ pt b → H b = some o → H' b = some o) ∧ ∀ p, pt p → ∃ n, H' p = some (.lst [.int n])
def toSp (fr : Bool) (f : DF) : Sp := fun vs H Q Ex => ∃ (A pt : Addr → Prop) (args : List Sl) (R : PyData → Prop) (EX : XP), (∀ a, A a → ∃ xs, H a = some (.lst xs)) ∧ (∀ p, pt p → A p ∧ ∃ n, H p = some (.lst [.int n])) ∧ Paired (ArgOk A pt H) vs args ∧ f args R EX ∧
  (∀ d, R d → ∀ v H', Kq pt H H' → DA A H' v d → (fr = true → FrV H H' v) → Q v H') ∧ ∀ C, EX C → ∀ H', Kq pt H H' → Ex (.ref C) none H'
def sNil : DSl := fun _ Q _ => Q []
def sV (we : DE) (wr : DSl) : DSl := fun δ Q EX => we δ (fun d => wr δ (fun ds => Q (.v d :: ds)) EX) EX
def sPot (i : Nat) (wr : DSl) : DSl := fun δ Q EX => match δ[i]? with
  | some .pot => wr δ (fun ds => Q (.pot :: ds)) EX
  | _ => False
theorem pds_nil : PA X [] (tAs X.K E sNil) := PA.imp pa_nil fun σ H Q ⟨F, δ, R, EX, rel, hw, k, o⟩ => k [] hw [] H rel (Kp.refl rel) .nil
theorem pds_v {e : Expr} {es : List Expr} {we : DE} {wr : DSl} (he : PE X e (tX .D X.K E we)) (hr : PA X es (tAs X.K E wr)) (hs : notStar e = true := by rfl) : PA X (e :: es) (tAs X.K E (sV we wr)) := by
  refine PA.imp (pa_c he hr hs) fun σ H Q ⟨F, δ, R, EX, rel, hw, k, o⟩ => ?_
  refine ⟨F, δ, _, EX, rel, hw, fun d hd v H' rel' kp vk => ⟨F, δ, _, EX, rel', hd, fun ds hds vs H2 rel2 kp2 vks => ?_, o⟩, o⟩
  exact k _ hds (v :: vs) H2 rel2 (kp.trans kp2) (.cons (kp2.da vk) vks)
theorem pds_pot {e : Expr} {es : List Expr} {i : Nat} {wr : DSl} (he : PE X e (tVar i)) (hr : PA X es (tAs X.K E wr)) (hs : notStar e = true := by rfl) : PA X (e :: es) (tAs X.K E (sPot i wr)) := by
  refine PA.imp (pa_c he hr hs) fun σ H Q ⟨F, δ, R, EX, rel, hw, k, o⟩ => ?_
  unfold sPot at hw
  split at hw
  · rename_i hd
    obtain ⟨x, hx⟩ := rel.lt hd
    obtain ⟨p, n, rfl, e, q⟩ := rel.sl i _ _ hx hd
    refine ⟨.ref p, hx, F, δ, _, EX, rel, hw, fun ds hds vs H2 rel2 kp2 vks => ?_, o⟩
    exact k _ hds (.ref p :: vs) H2 rel2 kp2 (.cons ⟨p, rfl, i, hx, hd⟩ vks)
  · exact hw.elim
def dCall (f : DF) (wa : DSl) : DE := fun δ Q EX => wa δ (fun args => f args Q EX) EX
theorem Kq.kp {K : PySem.W.Frag} {F : Fm} {σ : L2.St} {δ : Sts} {H H' : Hp} (k : Kq (PotA σ δ) H H') : Kp σ δ H H' := k
theorem call_read {m : Md} {fr : Bool} {K : PySem.W.Frag} {f : DF} {wa : DSl} (hm : ∀ {F : Fm} {σ : L2.St} {δ : Sts} {H H' : Hp} {v : V} {d : PyData}, DA (Av F σ δ) H' v d → (fr = true → FrV H H' v) → Vok m F σ δ H H' v d) (σ : L2.St) (H : Hp) (Q : VK) (h : tX m K E (dCall f wa) σ H Q) : tCall (toSp fr f) [] E (tAs K E wa) σ H Q := by
  obtain ⟨F, δ, R, EX, rel, hw, k, o⟩ := h
  refine ⟨F, δ, _, EX, rel, hw, fun args ha vs H1 rel1 kp1 q => ?_, o⟩
  show toSp fr f (vs ++ []) H1 Q E
  rw [List.append_nil]
  refine ⟨Av F σ δ, PotA σ δ, args, R, EX, fun a ha => rel1.isl ha, fun p hp => ⟨pot_av hp, (Kp.refl rel1).2 p hp⟩, q, ha, fun d hd v H' kq dv fr => ?_, fun C hC H' kq => o C hC H' (rel1.kp kq).ke⟩
  exact k d hd v H' (rel1.kp kq) (kp1.trans kq) (hm dv fun z l e1 e2 => kp_none kp1 (fr z l e1 e2))
variable {CX : CXT} {k : Nat} {f : Addr} {fd : FuncData} {ps : List Str} {x : Str} {p pos : Pos} {e : Expr} {es : List Expr} {fD : DF} {wa : DSl}
theorem pd_call (G : FnOk X.prog X.w X.K X.mg X.base CX k f fd ps (toSp false fD)) (hr : Room k X.A) (hg : Gl X x) (hm : X.mg x = some (.ref f)) (hk : PySem.W.keepIn X.K (.ref f) = true) (hb : Binds X.K fd ps []) (hx : Passes CX X E)
    (ha : PA X (e :: es) (tAs X.K E wa)) (hdb : (x == ("__debug__" : Str)) = false := by decide) (he : starEach (e :: es) X.env = (false, eval e X.env) :: starEach es X.env := by rfl) (hpl : (backTo pos (starEach es X.env)).any (·.1) = false := by rfl) :
    PE X (.Call (.Name x p) (e :: es) [] pos) (tX .D X.K E (dCall fD wa)) := PE.imp (pe_call G hr hg hm hk hb .nil hx ha hdb he hpl) (call_read fun h _ => h)
theorem pd_callF (G : FnOk X.prog X.w X.K X.mg X.base CX k f fd ps (toSp true fD)) (hr : Room k X.A) (hg : Gl X x) (hm : X.mg x = some (.ref f)) (hk : PySem.W.keepIn X.K (.ref f) = true) (hb : Binds X.K fd ps []) (hx : Passes CX X E)
    (ha : PA X (e :: es) (tAs X.K E wa)) (hdb : (x == ("__debug__" : Str)) = false := by decide) (he : starEach (e :: es) X.env = (false, eval e X.env) :: starEach es X.env := by rfl) (hpl : (backTo pos (starEach es X.env)).any (·.1) = false := by rfl) :
    PE X (.Call (.Name x p) (e :: es) [] pos) (tX .F X.K E (dCall fD wa)) := PE.imp (pe_call G hr hg hm hk hb .nil hx ha hdb he hpl) (call_read fun h z => ⟨h, z rfl⟩)
def scal : PyData → Bool
  | .list _ => false
  | .tuple _ => false
  | .dict _ => false
  | _ => true
theorem scal_da {A A' : Addr → Prop} {H : Hp} {v : V} {d : PyData} (h : DA A H v d) (s : scal d = true) : DA A' H v d := by
  cases h with
  | non => exact .non
  | bl b => exact .bl b
  | int i => exact .int i
  | str x c => exact .str x c
  | tup _ _ _ => cases s
  | lst _ _ _ => cases s
  | dct _ _ _ => cases s
def Lent (P : Addr → Prop) (H : Hp) (vs : List V) (a : Addr) : Prop := V.ref a ∈ vs ∧ ¬ P a
theorem lent_args {A P : Addr → Prop} {H : Hp} (ws : List V) : ∀ {vs : List V} {ds : List PyData}, (∀ v ∈ vs, v ∈ ws) → Paired (VD .P A P H) vs ds → Paired (ArgOk (fun a => A a ∧ ¬ Lent P H ws a) (fun _ => False) H) vs (ds.map Sl.v)
  | _, _, _, .nil => .nil
  | v :: vs, d :: ds, m, .cons a b => by
    refine .cons ?_ (lent_args ws (fun v hv => m v (List.mem_cons_of_mem _ hv)) b)
    rcases a with a | ⟨l, xs, ds, rfl, rfl, n, e, q⟩
    · exact a.mv (fun _ _ _ e => e) fun a z => .inl z.1
    · exact .lst (fun z => z.2 ⟨m _ List.mem_cons_self, n⟩) e (q.mv (fun _ _ _ e => e) fun a z => .inl z.1)
end
end Dl
namespace Dl
open PySem PySem.Spec PyProof.Rows L2 _root_.Rd Rk
abbrev DG := PyData → Sts → (Sts → Prop) → Prop
def tG (ix : List Nat) (K : PySem.W.Frag) (w : DG) : TG := fun v σ H Q => ∃ (F : Fm) (δ : Sts) (d : PyData) (R : Sts → Prop), Rel K F σ H δ ∧ DA (Av F σ δ) H v d ∧ w d δ R ∧
  ∀ δ', R δ' → ∀ σ', Rel K F σ' H δ' → Stp F σ H δ σ' H δ' → σ'.length = σ.length → (∀ j, j ∉ ix → σ'[j]? = σ[j]?) → Q σ' H
theorem set_ne {α : Type} {l : List α} {i j : Nat} {x : α} (h : j ≠ i) : (l.set i x)[j]? = l[j]? := List.getElem?_set_ne (Ne.symm h)
theorem set_eq {α : Type} {l : List α} {i : Nat} {x y : α} (h : (l.set i x)[i]? = some y) : y = x := by
  rw [List.getElem?_set] at h
  simp only [if_true] at h
  split at h
  · exact (Option.some.inj h).symm
  · cases h
theorem av_set {F : Fm} {σ : L2.St} {δ : Sts} {i : Nat} {o : Option V} {d : PyData} {a : Addr} (h : Av F (σ.set i o) (δ.set i (.v d)) a) : Av F σ δ a := by
  rcases h with h | ⟨j, h1, h2⟩
  · exact .inl h
  · by_cases z : j = i
    · subst z
      rcases h2 with h2 | ⟨ds, h2⟩ <;> cases set_eq h2
    · rw [set_ne z] at h1 h2
      exact .inr ⟨j, h1, h2⟩
theorem Rel.setv {K : PySem.W.Frag} {F : Fm} {σ : L2.St} {H : Hp} {δ : Sts} (r : Rel K F σ H δ) {i : Nat} {v : V} {d : PyData} (q : DA (Av F σ δ) H v d) : Rel K F (σ.set i (some v)) H (δ.set i (.v d)) where
  len := by rw [List.length_set, List.length_set]; exact r.len
  dom := r.dom
  dom0 := r.dom0
  pt0 := r.pt0
  kx := r.kx
  sl := fun j o x h1 h2 => by
    have wk : ∀ {v : V} {d' : PyData}, DA (Av F σ δ) H v d' → DA (Av F (σ.set i (some v)) (δ.set i (.v d))) H v d' := fun h => h.mv (fun _ _ _ e => e) fun a z => .inl (av_set z)
    by_cases z : j = i
    · subst z
      cases set_eq h1
      cases set_eq h2
      exact ⟨v, rfl, q.mv (fun _ _ _ e => e) fun a z => .inl (av_set z)⟩
    · rw [set_ne z] at h1 h2
      have h := r.sl j o x h1 h2
      cases x with
      | no => trivial
      | v d => obtain ⟨v', e, q'⟩ := h; exact ⟨v', e, q'.mv (fun _ _ _ e => e) fun a z => .inl (av_set z)⟩
      | own ds => obtain ⟨l, xs, e, e2, q', f⟩ := h; exact ⟨l, xs, e, e2, q'.mv (fun _ _ _ e => e) fun a z => .inl (av_set z), f⟩
      | pk ds => obtain ⟨l, xs, e, e2, q', f⟩ := h; exact ⟨l, xs, e, e2, q'.mv (fun _ _ _ e => e) fun a z => .inl (av_set z), f⟩
      | pot => exact h
      | scr => exact h
  inj := fun j k a ds h1 h2 ⟨h3, h4⟩ => by
    by_cases z : j = i
    · subst z; cases set_eq h1
    · rw [set_ne z] at h1 h2
      by_cases z2 : k = i
      · subst z2
        rcases h4 with h4 | ⟨ds, h4⟩ <;> cases set_eq h4
      · rw [set_ne z2] at h3 h4
        exact r.inj j k a ds h1 h2 ⟨h3, h4⟩
theorem Stp.setv {F : Fm} {σ : L2.St} {H : Hp} {δ : Sts} {i : Nat} {o : Option V} {d : PyData} : Stp F σ H δ (σ.set i o) H (δ.set i (.v d)) := ⟨fun _ _ _ e => e, fun a z => .inl (av_set z)⟩
def gN (i : Nat) : DG := fun d δ Q => Q (δ.set i (.v d))
def setAll : Sts → List Nat → List PyData → Sts
  | δ, i :: is, d :: ds => setAll (δ.set i (.v d)) is ds
  | δ, _, _ => δ
def gTN (is : List Nat) : DG := fun d δ Q => match d with
  | .tuple ds => ds.length = is.length ∧ Q (setAll δ is ds)
  | _ => False
section
variable {X : Cx} {E : XK}
theorem PG.imp {e : Expr} {t t' : TG} (h : PG X e t) (i : ∀ v σ H Q, t' v σ H Q → t v σ H Q) : PG X e t' := fun pins s σ H v u Q I r q => h pins s σ H v u Q I r (i v σ H Q q)
theorem pdg_name {e : Expr} {i : Nat} (h : PG X e (gName i)) : PG X e (tG [i] X.K (gN i)) := PG.imp h fun v σ H Q ⟨F, δ, d, R, rel, dv, hw, k⟩ =>
  k _ hw _ (rel.setv dv) Stp.setv (List.length_set ..) fun j hj => set_ne fun z => hj (by rw [z]; exact List.mem_singleton.mpr rfl)
def gNs : List Nat → TGs
  | [] => gNil
  | i :: is => gCons (gName i) (gNs is)
theorem gns_read {K : PySem.W.Frag} {F : Fm} {H : Hp} {Q : L2.St → Hp → Prop} : ∀ (is : List Nat) (vs : List V) (ds : List PyData) (σ : L2.St) (δ : Sts), ds.length = is.length → Rel K F σ H δ → DAs (Av F σ δ) H vs ds →
    (∀ σ', Rel K F σ' H (setAll δ is ds) → Stp F σ H δ σ' H (setAll δ is ds) → σ'.length = σ.length → (∀ j, j ∉ is → σ'[j]? = σ[j]?) → Q σ' H) → gNs is vs σ H Q
  | [], vs, ds, σ, δ, hl, rel, q, k => by
    cases ds with
    | nil => cases q; exact ⟨rfl, k σ rel Stp.refl rfl fun _ _ => rfl⟩
    | cons d ds => cases hl
  | i :: is, vs, ds, σ, δ, hl, rel, q, k => by
    cases ds with
    | nil => cases hl
    | cons d ds =>
      cases q with
      | @cons v vs _ _ q qs =>
        refine ⟨v, vs, rfl, ?_⟩
        refine gns_read is vs ds _ _ (by simpa using hl) (rel.setv q) (qs.mv (fun _ _ _ e => e) fun a z => .inl (av_set z)) fun σ' r' st hl' hj => ?_
        refine k σ' r' (Stp.setv.trans st) (by rw [hl', List.length_set]) fun j hn => ?_
        rw [hj j (fun z => hn (List.mem_cons_of_mem _ z)), set_ne (fun z => hn (by rw [z]; exact List.mem_cons_self))]
theorem pdg_tup {e : Expr} {n : Nat} {is : List Nat} (h : PG X e (gTup X.K n (gNs is))) (hn : is.length = n := by rfl) : PG X e (tG is X.K (gTN is)) := PG.imp h fun v σ H Q ⟨F, δ, d, R, rel, dv, hw, k⟩ => by
  unfold gTN at hw
  split at hw
  · obtain ⟨hl, hR⟩ := hw
    cases dv with
    | @tup a xs ds na e q =>
      exact ⟨a, xs, rfl, SqT.of e, by rw [q.length, hl, hn], gns_read is xs _ σ δ hl rel q fun σ' r' st hl' hj => k _ hR σ' r' st hl' hj⟩
  · exact hw.elim
def ItD (A S : Addr → Prop) (J : It) (items : List PyData) (H1 : Hp) : Prop := items.length ≤ sizeLine ∧ ∀ (H2 : Hp) (A' : Addr → Prop), (∀ b o, S b → H1 b = some o → H2 b = some o) → (∀ b, A' b → A b ∨ H1 b = none) → (∀ a, A' a → ∃ xs, H2 a = some (.lst xs)) →
  (∀ (i : Nat) d, items[i]? = some d → J.go i H2 ∧ ∀ x H3, J.yld i H2 x H3 → Same H2 H3 ∧ DA A' H3 x d) ∧ J.stop items.length H2
def Sx (m : Md) (F : Fm) (σ : L2.St) (δ : Sts) (b : Addr) : Prop :=
  match m with
  | .P => ¬ PotA σ δ b
  | _ => ¬ Av F σ δ b
abbrev DI := Sts → (List PyData → Prop) → XP → Prop
def tI (m : Md) (K : PySem.W.Frag) (E : XK) (w : DI) : TI := fun σ H R => ∃ (F : Fm) (δ : Sts) (R' : List PyData → Prop) (EX : XP), Rel K F σ H δ ∧ w δ R' EX ∧ (∀ items, R' items → ∀ J H', Rel K F σ H' δ → Kp σ δ H H' → ItD (Av F σ δ) (Sx m F σ δ) J items H' → R J H') ∧ Out F E EX
theorem PI.imp {tg e : Expr} {t t' : TI} (h : PI X tg e t) (i : ∀ σ H R, LenOk H → t' σ H R → t σ H R) : PI X tg e t' := fun pins s σ H R I q => h pins s σ H R I (i σ H R (Inv.lens I) q)
theorem PI.len {tg e : Expr} {t : TI} (h : PI X tg e t) : PI X tg e (fun σ H R => t σ H fun J H1 => LenOk H1 → R J H1) := fun pins s σ H R I q => by
  refine thn (h pins s σ H _ I q) fun v s1 h1 => thn h1 fun itv s2 h2 => ?_
  obtain ⟨it, fp, tn, J, H', e, I', T, t0, fo, hR⟩ := h2
  exact ⟨it, fp, tn, J, H', e, I', T, t0, fo, hR (Inv.lens I')⟩
def dItL (w : DE) : DI := fun δ Q EX => w δ (fun d => match d with
  | .list ds => Q ds
  | _ => False) EX
def dItT (w : DE) : DI := fun δ Q EX => w δ (fun d => match d with
  | .tuple ds => Q ds
  | _ => False) EX
theorem seq_stay {A S : Addr → Prop} {H H2 : Hp} {A' : Addr → Prop} {xs : List V} {ds : List PyData} (sA : ∀ b, ¬ A b → S b) (k : ∀ b o, S b → H b = some o → H2 b = some o) (m : ∀ b, A' b → A b ∨ H b = none) (q : DAs A H xs ds) : DAs A' H2 xs ds := q.mv (fun a o n e => k a o (sA a n) e) m
theorem itl_d {K : PySem.W.Frag} {A S : Addr → Prop} {H : Hp} {l : Addr} {xs : List V} {ds : List PyData} (sA : ∀ b, ¬ A b → S b) (sl : S l) (e : H l = some (.lst xs)) (q : DAs A H xs ds) (ln : xs.length ≤ sizeLine) : ItD A S (Itl K l) ds H := by
  refine ⟨by rw [← q.length]; exact ln, fun H2 A' k m dm => ⟨fun i d hd => ?_, xs, SqL.of (k _ _ sl e), by rw [q.length]; exact Nat.le_refl _⟩⟩
  obtain ⟨x, hx, dx⟩ := (seq_stay sA k m q).get i d hd
  refine ⟨⟨xs, x, SqL.of (k _ _ sl e), hx⟩, fun y H3 ⟨e3, hy⟩ => ?_⟩
  subst e3
  have := hy xs (SqL.of (k _ _ sl e))
  rw [hx] at this
  cases this
  exact ⟨Same.refl _, dx⟩
theorem itt_d {K : PySem.W.Frag} {A S : Addr → Prop} {H : Hp} {l : Addr} {xs : List V} {ds : List PyData} (sA : ∀ b, ¬ A b → S b) (sl : S l) (e : H l = some (.tup xs)) (q : DAs A H xs ds) (ln : xs.length ≤ sizeLine) : ItD A S (Itt K l) ds H := by
  refine ⟨by rw [← q.length]; exact ln, fun H2 A' k m dm => ⟨fun i d hd => ?_, xs, SqT.of (k _ _ sl e), by rw [q.length]; exact Nat.le_refl _⟩⟩
  obtain ⟨x, hx, dx⟩ := (seq_stay sA k m q).get i d hd
  refine ⟨⟨xs, x, SqT.of (k _ _ sl e), hx⟩, fun y H3 ⟨e3, hy⟩ => ?_⟩
  subst e3
  have := hy xs (SqT.of (k _ _ sl e))
  rw [hx] at this
  cases this
  exact ⟨Same.refl _, dx⟩
theorem sx_av {m : Md} {F : Fm} {σ : L2.St} {δ : Sts} {b : Addr} (h : ¬ Av F σ δ b) : Sx m F σ δ b := by
  cases m
  · exact h
  · exact fun z => h (pot_av z)
  · exact h
theorem stL {m : Md} {F : Fm} {σ : L2.St} {δ : Sts} {H H' : Hp} {v : V} {ds : List PyData} (h : VD m (Av F σ δ) (PotA σ δ) H v (.list ds)) : ∃ l xs, v = .ref l ∧ Sx m F σ δ l ∧ H l = some (.lst xs) ∧ DAs (Av F σ δ) H xs ds := by
  cases m
  · cases h with | @lst a xs _ n e q => exact ⟨a, xs, rfl, n, e, q⟩
  · rcases h with h | ⟨l, xs, ds', rfl, e, n, e2, q⟩
    · cases h with | @lst a xs _ n e q => exact ⟨a, xs, rfl, sx_av n, e, q⟩
    · cases e; exact ⟨l, xs, rfl, n, e2, q⟩
  · cases h with | @lst a xs _ n e q => exact ⟨a, xs, rfl, n, e, q⟩
theorem stT {m : Md} {F : Fm} {σ : L2.St} {δ : Sts} {H H' : Hp} {v : V} {ds : List PyData} (h : VD m (Av F σ δ) (PotA σ δ) H v (.tuple ds)) : ∃ l xs, v = .ref l ∧ Sx m F σ δ l ∧ H l = some (.tup xs) ∧ DAs (Av F σ δ) H xs ds := by
  cases m
  · cases h with | @tup a xs _ n e q => exact ⟨a, xs, rfl, n, e, q⟩
  · rcases h with h | ⟨l, xs, ds', rfl, e, n, e2, q⟩
    · cases h with | @tup a xs _ n e q => exact ⟨a, xs, rfl, sx_av n, e, q⟩
    · cases e
  · cases h with | @tup a xs _ n e q => exact ⟨a, xs, rfl, n, e, q⟩
theorem vok_vd {m : Md} {F : Fm} {σ : L2.St} {δ : Sts} {H H' : Hp} {v : V} {d : PyData} (h : Vok m F σ δ H H' v d) : VD m (Av F σ δ) (PotA σ δ) H' v d := by
  cases m
  · exact h
  · exact h
  · exact h.1
variable {m : Md} {tg e e' : Expr} {w w' : DE} {p pos tpos : Pos}
theorem pdi_list (h : PE X e (tX m X.K E w)) : PI X tg e (tI m X.K E (dItL w)) := by
  refine PI.imp (PI.len (pi_list h)) fun σ H R _ ⟨F, δ, R', EX, rel, hw, k, o⟩ => ?_
  refine ⟨F, δ, _, EX, rel, hw, fun d hd v H' rel' kp vk => ?_, o⟩
  cases d <;> first | exact (show False from hd).elim | skip
  obtain ⟨l, xs, rfl, sl, e, q⟩ := stL (H' := H') (vok_vd vk)
  exact ⟨l, rfl, ⟨xs, SqL.of e⟩, fun ln => k _ hd _ H' rel' kp (itl_d (fun b => sx_av) sl e q (ln _ _ (.inl e)))⟩
theorem pdi_tup (h : PE X e (tX m X.K E w)) : PI X tg e (tI m X.K E (dItT w)) := by
  refine PI.imp (PI.len (pi_tup h)) fun σ H R _ ⟨F, δ, R', EX, rel, hw, k, o⟩ => ?_
  refine ⟨F, δ, _, EX, rel, hw, fun d hd v H' rel' kp vk => ?_, o⟩
  cases d <;> first | exact (show False from hd).elim | skip
  obtain ⟨l, xs, rfl, sl, e, q⟩ := stT (H' := H') (vok_vd vk)
  exact ⟨l, rfl, ⟨xs, SqT.of e⟩, fun ln => k _ hd _ H' rel' kp (itt_d (fun b => sx_av) sl e q (ln _ _ (.inr e)))⟩
def rngD (lo : Int) (n : Nat) : List PyData := (List.range n).map fun (i : Nat) => .int (lo + i)
theorem rng_get {lo : Int} {n i : Nat} {d : PyData} (h : (rngD lo n)[i]? = some d) : i < n ∧ d = .int (lo + i) := by
  unfold rngD at h
  rw [List.getElem?_map] at h
  by_cases z : i < n
  · rw [List.getElem?_range z] at h
    exact ⟨z, (Option.some.inj h).symm⟩
  · rw [List.getElem?_eq_none (by rw [List.length_range]; omega)] at h
    cases h
theorem rng_len {lo : Int} {n : Nat} : (rngD lo n).length = n := by unfold rngD; rw [List.length_map, List.length_range]
theorem itr_d {A S : Addr → Prop} {H : Hp} {lo : Int} {n : Nat} (hn : n ≤ 1000000) : ItD A S (Itr lo n) (rngD lo n) H := by
  refine ⟨by rw [rng_len]; exact Nat.le_trans hn lineM, fun H2 A' k m dm => ⟨fun i d hd => ?_, by rw [rng_len]; exact Nat.le_refl _⟩⟩
  obtain ⟨hi, rfl⟩ := rng_get hd
  exact ⟨hi, fun x H3 ⟨e1, e2⟩ => by subst e1 e2; exact ⟨Same.refl _, .int _⟩⟩
def dRng1 (w : DE) : DI := fun δ Q EX => w δ (fun d => match d with
  | .int j => (-1000000 ≤ j ∧ j ≤ 1000000) ∧ Q (rngD 0 j.toNat)
  | _ => False) EX
def dRng2 (w w' : DE) : DI := fun δ Q EX => w δ (fun d => w' δ (fun d' => match d, d' with
  | .int i, .int j => (-1000000 ≤ i ∧ i ≤ 1000000 ∧ -1000000 ≤ j ∧ j ≤ 1000000 ∧ j - i ≤ 1000000) ∧ Q (rngD i (j - i).toNat)
  | _, _ => False) EX) EX
theorem pdi_rng1 (hg : Gl X "range") (hm : X.mg "range" = none) (h : PE X e (tX .P X.K E w)) (hs : notStar e = true := by rfl) : PI X tg (.Call (.Name "range" p) [e] [] pos) (tI m X.K E (dRng1 w)) := by
  refine PI.imp (pi_range1 hg hm (pa_c h pa_nil hs) (by rw [star_of hs]; rfl)) fun σ H R _ ⟨F, δ, R', EX, rel, hw, k, o⟩ => ?_
  refine ⟨F, δ, _, EX, rel, hw, fun d hd v H' rel' kp vk => ?_, o⟩
  cases d <;> first | exact (show False from hd).elim | skip
  obtain ⟨⟨h1, h2⟩, hR⟩ := hd
  rw [DP.int vk]
  exact ⟨_, rfl, by omega, by omega, k _ hR _ H' rel' kp (itr_d (by omega))⟩
theorem pdi_rng2 (hg : Gl X "range") (hm : X.mg "range" = none) (h : PE X e (tX .P X.K E w)) (h' : PE X e' (tX .P X.K E w')) (hs : notStar e = true := by rfl) (hs' : notStar e' = true := by rfl) : PI X tg (.Call (.Name "range" p) [e, e'] [] pos) (tI m X.K E (dRng2 w w')) := by
  refine PI.imp (pi_range2 hg hm (pa_c h (pa_c h' pa_nil hs') hs) (by rw [star_of hs, star_of hs']; rfl) (hs2 := by rw [star_of hs']; rfl)) fun σ H R _ ⟨F, δ, R', EX, rel, hw, k, o⟩ => ?_
  refine ⟨F, δ, _, EX, rel, hw, fun d hd v H1 rel1 kp1 vk => ⟨F, δ, _, EX, rel1, hd, fun d2 hd2 v2 H2 rel2 kp2 vk2 => ?_, o⟩, o⟩
  cases d <;> cases d2 <;> first | exact (show False from hd2).elim | skip
  obtain ⟨⟨h1, h2, h3, h4, h5⟩, hR⟩ := hd2
  rw [DP.int vk, DP.int vk2]
  exact ⟨_, _, rfl, ⟨by omega, by omega, by omega, by omega⟩, k _ hR _ H2 rel2 (kp1.trans kp2) (itr_d (by omega))⟩
theorem pair_da {A' : Addr → Prop} {H2 : Hp} {r : Addr} {x y : V} {d d' : PyData} (dm : ∀ a, A' a → ∃ xs, H2 a = some (.lst xs)) (n : H2 r = none) (q : DA A' H2 x d) (q' : DA A' H2 y d') : DA A' (upd H2 r (.tup [x, y])) (.ref r) (.tuple [d, d']) :=
  .tup (fun z => by obtain ⟨xs, e⟩ := dm r z; rw [n] at e; cases e) upd_same (.cons (q.same (same_upd n)) (.cons (q'.same (same_upd n)) .nil))
def enumD (ds : List PyData) : List PyData := (List.range ds.length).map fun (i : Nat) => .tuple [.int i, ds.getD i .none]
theorem enum_get {ds : List PyData} {i : Nat} {d : PyData} (h : (enumD ds)[i]? = some d) : ∃ e, ds[i]? = some e ∧ d = .tuple [.int i, e] := by
  unfold enumD at h
  rw [List.getElem?_map] at h
  by_cases z : i < ds.length
  · rw [List.getElem?_range z] at h
    refine ⟨ds[i], List.getElem?_eq_getElem z, ?_⟩
    rw [← Option.some.inj h]
    show PyData.tuple [.int i, ds.getD i .none] = _
    rw [List.getD_eq_getElem?_getD, List.getElem?_eq_getElem z]
    rfl
  · rw [List.getElem?_eq_none (by rw [List.length_range]; omega)] at h
    cases h
theorem enum_len {ds : List PyData} : (enumD ds).length = ds.length := by unfold enumD; rw [List.length_map, List.length_range]
def dEnL (w : DE) : DI := fun δ Q EX => w δ (fun d => match d with
  | .list ds => Q (enumD ds)
  | _ => False) EX
def dEnT (w : DE) : DI := fun δ Q EX => w δ (fun d => match d with
  | .tuple ds => Q (enumD ds)
  | _ => False) EX
variable {elts : List Expr}
theorem pdi_enumL {x1} (hg : Gl X "enumerate") (hm : X.mg "enumerate" = none) (h : PE X e (tX m X.K E w)) (hs : notStar e = true := by rfl) : PI X (.Tuple elts x1 tpos) (.Call (.Name "enumerate" p) [e] [] pos) (tI m X.K E (dEnL w)) := by
  refine PI.imp (PI.len (pi_enum hg hm (pa_c h pa_nil hs) (by rw [star_of hs]; rfl))) fun σ H R _ ⟨F, δ, R', EX, rel, hw, k, o⟩ => ?_
  refine ⟨F, δ, _, EX, rel, hw, fun d hd v H' rel' kp vk => ?_, o⟩
  cases d <;> first | exact (show False from hd).elim | skip
  obtain ⟨l, xs, rfl, sl, e, q⟩ := stL (H' := H') (vok_vd vk)
  refine ⟨l, xs, rfl, e, fun ln => k _ hd _ H' rel' kp ⟨by rw [enum_len, ← q.length]; exact ln _ _ (.inl e), fun H2 A' kk mm dm => ⟨fun i d hd' => ?_, xs, kk _ _ sl e, by rw [enum_len, q.length]; exact Nat.le_refl _⟩⟩⟩
  obtain ⟨d', hd2, rfl⟩ := enum_get hd'
  obtain ⟨x, hx, dx⟩ := (seq_stay (S := Sx m F σ δ) (fun b => sx_av) kk mm q).get i d' hd2
  refine ⟨⟨xs, x, kk _ _ sl e, hx⟩, fun y H3 ⟨r, x', nr, hx', e1, e2⟩ => ?_⟩
  subst e1 e2
  have := hx' xs (kk _ _ sl e)
  rw [hx] at this
  cases this
  exact ⟨same_upd nr, pair_da dm nr (.int _) dx⟩
theorem pdi_enumT {x1} (hg : Gl X "enumerate") (hm : X.mg "enumerate" = none) (h : PE X e (tX m X.K E w)) (hs : notStar e = true := by rfl) : PI X (.Tuple elts x1 tpos) (.Call (.Name "enumerate" p) [e] [] pos) (tI m X.K E (dEnT w)) := by
  refine PI.imp (PI.len (pi_enumT hg hm (pa_c h pa_nil hs) (by rw [star_of hs]; rfl))) fun σ H R _ ⟨F, δ, R', EX, rel, hw, k, o⟩ => ?_
  refine ⟨F, δ, _, EX, rel, hw, fun d hd v H' rel' kp vk => ?_, o⟩
  cases d <;> first | exact (show False from hd).elim | skip
  obtain ⟨l, xs, rfl, sl, e, q⟩ := stT (H' := H') (vok_vd vk)
  refine ⟨l, xs, rfl, e, fun ln => k _ hd _ H' rel' kp ⟨by rw [enum_len, ← q.length]; exact ln _ _ (.inr e), fun H2 A' kk mm dm => ⟨fun i d hd' => ?_, xs, kk _ _ sl e, by rw [enum_len, q.length]⟩⟩⟩
  obtain ⟨d', hd2, rfl⟩ := enum_get hd'
  obtain ⟨x, hx, dx⟩ := (seq_stay (S := Sx m F σ δ) (fun b => sx_av) kk mm q).get i d' hd2
  refine ⟨⟨xs, x, kk _ _ sl e, hx⟩, fun y H3 ⟨r, x', nr, hx', e1, e2⟩ => ?_⟩
  subst e1 e2
  have := hx' xs (kk _ _ sl e)
  rw [hx] at this
  cases this
  exact ⟨same_upd nr, pair_da dm nr (.int _) dx⟩
end
end Dl
namespace Dl
open PySem PySem.Spec PyProof.Rows L2 _root_.Rd Rk
def capSl : Option Sl → Sl
  | some (.v d) => .v d
  | some (.own ds) => .pk ds
  | some (.pk ds) => .pk ds
  | some .pot => .pot
  | _ => .no
def capD (cap : List (Option Nat)) (δ : Sts) : Sts := cap.map fun o => match o with
  | none => .no
  | some j => capSl δ[j]?
theorem capS_get {cap : List (Option Nat)} {σ : L2.St} {i : Nat} {o : Option V} (h : (capS cap σ)[i]? = some o) : (cap[i]? = some none ∧ o = none) ∨ ∃ j, cap[i]? = some (some j) ∧ o = (σ[j]?).getD none := by
  unfold capS at h
  rw [List.getElem?_map] at h
  obtain ⟨c, hc, rfl⟩ := Option.map_eq_some_iff.mp h
  cases c with
  | none => exact .inl ⟨hc, rfl⟩
  | some j => exact .inr ⟨j, hc, rfl⟩
theorem capD_get {cap : List (Option Nat)} {δ : Sts} {i : Nat} {x : Sl} (h : (capD cap δ)[i]? = some x) : (cap[i]? = some none ∧ x = .no) ∨ ∃ j, cap[i]? = some (some j) ∧ x = capSl δ[j]? := by
  unfold capD at h
  rw [List.getElem?_map] at h
  obtain ⟨c, hc, rfl⟩ := Option.map_eq_some_iff.mp h
  cases c with
  | none => exact .inl ⟨hc, rfl⟩
  | some j => exact .inr ⟨j, hc, rfl⟩
theorem cap_both {cap : List (Option Nat)} {σ : L2.St} {δ : Sts} {i : Nat} {o : Option V} {x : Sl} (h1 : (capS cap σ)[i]? = some o) (h2 : (capD cap δ)[i]? = some x) (hx : x ≠ .no) : ∃ (j : Nat) (y : Sl), δ[j]? = some y ∧ x = capSl (some y) ∧ o = (σ[j]?).getD none := by
  rcases capD_get h2 with ⟨_, e⟩ | ⟨j, hj, e⟩
  · exact absurd e hx
  · rcases capS_get h1 with ⟨z, _⟩ | ⟨j', hj', e'⟩
    · rw [hj] at z; cases z
    · rw [hj] at hj'
      cases hj'
      cases e2 : δ[j]? with
      | none => rw [e2] at e; exact absurd e hx
      | some y => exact ⟨j, y, e2, by rw [e, e2], e'⟩
theorem cap_pot {cap : List (Option Nat)} {σ : L2.St} {δ : Sts} {a : Addr} (h : PotA (capS cap σ) (capD cap δ) a) : PotA σ δ a := by
  obtain ⟨i, h1, h2⟩ := h
  obtain ⟨j, y, hy, e, eo⟩ := cap_both h1 h2 (fun z => by cases z)
  cases y <;> first | (cases e; done) | skip
  refine ⟨j, ?_, hy⟩
  cases e2 : σ[j]? with
  | none => rw [e2] at eo; cases eo
  | some o' => rw [e2] at eo; exact congrArg some eo.symm
def inF (A1 : Addr → Prop) (cap : List (Option Nat)) (σ : L2.St) (δ : Sts) (H : Hp) : Fm := ⟨H, A1, PotA (capS cap σ) (capD cap δ)⟩
theorem inF_av {A1 : Addr → Prop} {cap : List (Option Nat)} {σ : L2.St} {δ : Sts} {H : Hp} (h : ∀ a, PotA σ δ a → A1 a) {a : Addr} : Av (inF A1 cap σ δ H) (capS cap σ) (capD cap δ) a ↔ A1 a := by
  constructor
  · rintro (z | ⟨i, h1, h2⟩)
    · exact z
    · rcases h2 with h2 | ⟨ds, h2⟩
      · exact h a (cap_pot ⟨i, h1, h2⟩)
      · obtain ⟨j, y, hy, e, eo⟩ := cap_both h1 h2 (fun z => by cases z)
        cases y <;> cases e
  · exact .inl
theorem in_rel {K : PySem.W.Frag} {F : Fm} {σ : L2.St} {δ : Sts} {H1 H3 : Hp} {A1 : Addr → Prop} {cap : List (Option Nat)} (rel : Rel K F σ H1 δ) (hA : ∀ a, Av F σ δ a → A1 a) (hN : ∀ a, A1 a → Av F σ δ a ∨ H1 a = none)
    (dm : ∀ a, A1 a → ∃ xs, H3 a = some (.lst xs)) (kp : Kp σ δ H1 H3) : Rel K (inF A1 cap σ δ H3) (capS cap σ) H3 (capD cap δ) where
  len := by unfold capS capD; rw [List.length_map, List.length_map]
  dom := dm
  dom0 := dm
  pt0 := fun p hp => ⟨hA p (pot_av (cap_pot hp)), kp.2 p (cap_pot hp)⟩
  kx := fun b o _ e => e
  sl := fun i o x h1 h2 => by
    have iv : ∀ {a : Addr}, Av (inF A1 cap σ δ H3) (capS cap σ) (capD cap δ) a → A1 a := fun {a} => (inF_av fun a z => hA a (pot_av z)).mp
    have mv : ∀ {v : V} {d : PyData}, DA (Av F σ δ) H1 v d → DA (Av (inF A1 cap σ δ H3) (capS cap σ) (capD cap δ)) H3 v d := fun q => q.mv (fun a o n e => kp.1 a o (fun z => n (pot_av z)) e) fun a z => hN a (iv z)
    have mvs : ∀ {v : List V} {d : List PyData}, DAs (Av F σ δ) H1 v d → DAs (Av (inF A1 cap σ δ H3) (capS cap σ) (capD cap δ)) H3 v d := fun q => q.mv (fun a o n e => kp.1 a o (fun z => n (pot_av z)) e) fun a z => hN a (iv z)
    cases x with
    | no => trivial
    | own ds =>
      obtain ⟨j, y, hy, e, eo⟩ := cap_both h1 h2 (fun z => by cases z)
      cases y <;> cases e
    | scr =>
      obtain ⟨j, y, hy, e, eo⟩ := cap_both h1 h2 (fun z => by cases z)
      cases y <;> cases e
    | v d =>
      obtain ⟨j, y, hy, e, eo⟩ := cap_both h1 h2 (fun z => by cases z)
      cases y <;> first | (cases e; done) | skip
      cases e
      obtain ⟨x, hx⟩ := rel.lt hy
      obtain ⟨v, rfl, q⟩ := rel.sl j _ _ hx hy
      rw [hx] at eo
      exact ⟨v, eo, mv q⟩
    | pk ds =>
      obtain ⟨j, y, hy, e, eo⟩ := cap_both h1 h2 (fun z => by cases z)
      cases y <;> first | (cases e; done) | skip
      · cases e
        obtain ⟨x, hx⟩ := rel.lt hy
        obtain ⟨l, xs, rfl, e, q, f⟩ := rel.sl j _ _ hx hy
        rw [hx] at eo
        have np := rel.own_pot hy hx
        exact ⟨l, xs, eo, kp.1 _ _ np e, mvs q, xs, kp.1 _ _ np e, fun z => np (cap_pot z)⟩
      · cases e
        obtain ⟨x, hx⟩ := rel.lt hy
        obtain ⟨l, xs, rfl, e, q, ys, f, f2⟩ := rel.sl j _ _ hx hy
        rw [hx] at eo
        have np : ¬ PotA σ δ l := by
          rintro ⟨j, j1, j2⟩
          obtain ⟨p, m, e1, _, w⟩ := rel.sl j _ _ j1 j2
          cases e1
          rcases w with w | w
          · exact f2 w
          · rw [w] at f; cases f
        exact ⟨l, xs, eo, kp.1 _ _ np e, mvs q, xs, kp.1 _ _ np e, fun z => np (cap_pot z)⟩
    | pot =>
      obtain ⟨j, y, hy, e, eo⟩ := cap_both h1 h2 (fun z => by cases z)
      cases y <;> first | (cases e; done) | skip
      obtain ⟨x, hx⟩ := rel.lt hy
      obtain ⟨p, n, rfl, e, q⟩ := rel.sl j _ _ hx hy
      rw [hx] at eo
      obtain ⟨m, em⟩ := kp.2 p ⟨j, hx, hy⟩
      have eo' : o = some (.ref p) := eo
      subst eo'
      exact ⟨p, m, rfl, em, .inl ⟨i, h1, h2⟩⟩
  inj := fun i j a ds h1 h2 _ => by
    obtain ⟨j, y, hy, e, eo⟩ := cap_both h2 h1 (fun z => by cases z)
    cases y <;> cases e
theorem wk_of : ∀ {σ σ' : L2.St}, σ'.length = σ.length → (∀ (i : Nat) v, σ[i]? = some (some v) → σ'[i]? = some (some v)) → Wk σ σ'
  | [], [], _, _ => trivial
  | [], _ :: _, h, _ => by cases h
  | _ :: _, [], h, _ => by cases h
  | none :: a, x :: b, h, g => wk_of (σ := a) (σ' := b) (by simpa using h) fun i v e => by simpa using g (i + 1) v (by simpa using e)
  | some u :: a, x :: b, h, g => by
    have h0 := g 0 u rfl
    simp only [List.getElem?_cons_zero, Option.some.injEq] at h0
    subst h0
    exact ⟨rfl, wk_of (σ := a) (σ' := b) (by simpa using h) fun i v e => by simpa using g (i + 1) v (by simpa using e)⟩
def freeT (cap : List (Option Nat)) (ix : List Nat) : Bool := ix.all fun i => match cap[i]? with
  | some none => true
  | _ => false
theorem cap_wk {cap : List (Option Nat)} {ix : List Nat} (hf : freeT cap ix = true) {σ σ4 : L2.St} (hl : σ4.length = (capS cap σ).length) (hj : ∀ j, j ∉ ix → σ4[j]? = (capS cap σ)[j]?) : Wk (capS cap σ) σ4 := by
  refine wk_of hl fun i v e => ?_
  by_cases z : i ∈ ix
  · have := List.all_eq_true.mp hf i z
    rcases capS_get e with ⟨_, e2⟩ | ⟨j, hj2, _⟩
    · cases e2
    · rw [hj2] at this; cases this
  · rw [hj i z]; exact e
def XF : XP := fun _ => False
@[irreducible] def CompR (items : List PyData) (wg : DG) (wt : DT) (we : DE) (δ : Sts) (Q : PyData → Prop) : Prop := ∃ Iv : Nat → List PyData → Prop, Iv 0 [] ∧
  (∀ (i : Nat) acc d, items[i]? = some d → Iv i acc → wg d δ fun δ4 => wt δ4 (fun b => if b = true then we δ4 (fun e => Iv (i + 1) (acc ++ [e])) XF else Iv (i + 1) acc) XF) ∧ ∀ acc, Iv items.length acc → Q (.list acc)
def dComp (cap : List (Option Nat)) (wi : DI) (wg : DG) (wt : DT) (we : DE) : DE := fun δ Q EX => wi δ (fun items => CompR items wg wt we (capD cap δ) Q) EX
def dNoT : DT := fun _ Q _ => Q true
section
variable {X : Cx} {E : XK}
theorem outF {F : Fm} {E : XK} : Out F E XF := fun _ z => z.elim
theorem PTs.imp {es : List Expr} {t t' : TT} (h : PTs X es t) (i : ∀ σ H Q, t' σ H Q → t σ H Q) : PTs X es t' := fun pins s σ H Q I q => h pins s σ H Q I (i σ H Q q)
theorem pdts_nil : PTs X [] (tT X.K E dNoT) := PTs.imp pts_nil fun σ H Q ⟨F, δ, R, EX, rel, hw, k, o⟩ => k _ hw H rel (Kp.refl rel)
theorem pdts_one {c : Expr} {t : DT} (h : PT X c (tT X.K E t)) : PTs X [c] (tT X.K E t) := pts_one h
theorem in_pots {K : PySem.W.Frag} {A1 : Addr → Prop} {cap : List (Option Nat)} {σ σ4 : L2.St} {δ δ4 : Sts} {H3 H4 : Hp} (r : Rel K (inF A1 cap σ δ H3) σ4 H4 δ4) (hk : ∀ b o, ¬ PotA σ δ b → H4 b = some o → H3 b = none → False) {b : Addr} (h : PotA σ4 δ4 b) : PotA σ δ b := by
  obtain ⟨i, h1, h2⟩ := h
  obtain ⟨p, n, e, hp, w⟩ := r.sl i _ _ h1 h2
  cases e
  rcases w with w | w
  · exact cap_pot w
  · by_cases z : PotA σ δ b
    · exact z
    · exact (hk b _ z hp w).elim
theorem turn_in {K : PySem.W.Frag} {F : Fm} {σ : L2.St} {δ : Sts} {H1 H3 : Hp} {cap : List (Option Nat)} {ix : List Nat} {wg : DG} {wt : DT} {A1 : Addr → Prop} {x : V} {d : PyData} {inner : L2.St → Hp → (Hp → Prop) → Prop} {kk : Hp → Prop} {T : Sts → Prop} {N : Prop}
    (hf : freeT cap ix = true) (rel : Rel K F σ H1 δ) (hA : ∀ a, Av F σ δ a → A1 a) (hN : ∀ a, A1 a → Av F σ δ a ∨ H1 a = none) (dm : ∀ a, A1 a → ∃ xs, H3 a = some (.lst xs)) (kp : Kp σ δ H1 H3) (dx : DA A1 H3 x d)
    (h : wg d (capD cap δ) fun δ4 => wt δ4 (fun b => if b = true then T δ4 else N) XF)
    (hT : ∀ σ4 δ4 H5, T δ4 → Rel K (inF A1 cap σ δ H3) σ4 H5 δ4 → Kp σ δ H3 H5 → (∀ b, PotA σ4 δ4 b → PotA σ δ b) → inner σ4 H5 kk) (hF : N → ∀ H5, Kp σ δ H3 H5 → kk H5) :
    bOf (capS cap σ) (tG ix K wg) (tT K E0 wt) inner x H3 kk := by
  have ri := in_rel (cap := cap) rel hA hN dm kp
  have iv : ∀ {a : Addr}, Av (inF A1 cap σ δ H3) (capS cap σ) (capD cap δ) a → A1 a := fun {a} => (inF_av fun a z => hA a (pot_av z)).mp
  refine ⟨inF A1 cap σ δ H3, capD cap δ, d, _, ri, dx.mv (fun _ _ _ e => e) fun a z => .inl (iv z), h, fun δ4 h4 σ4 r4 st4 l4 j4 => ⟨cap_wk hf l4 j4, inF A1 cap σ δ H3, δ4, _, XF, r4, h4, fun b hb H5 r5 kp5 => ?_, outF⟩⟩
  have pots : ∀ {b : Addr}, PotA σ4 δ4 b → PotA σ δ b := fun z => in_pots r4 (fun b o _ e1 e2 => by rw [e2] at e1; cases e1) z
  have K5 : Kp σ δ H3 H5 := by
    refine ⟨fun b o n e => kp5.1 b o (fun z => n (pots z)) e, fun b hb => ?_⟩
    by_cases z : PotA σ4 δ4 b
    · exact kp5.2 b z
    · obtain ⟨n, e⟩ := kp.2 b hb
      exact ⟨n, kp5.1 _ _ z e⟩
  exact if_imp hb (fun z => hT σ4 δ4 H5 z r5 K5 fun b => pots) fun z => hF z H5 K5
structure Lp (σ : L2.St) (δ : Sts) (A1 : Addr → Prop) (p : Addr) (H1 H2 : Hp) (acc : List PyData) : Prop where
  kp : Kp σ δ H1 H2
  at_ : ∃ ys, H2 p = some (.lst ys) ∧ DAs A1 H2 ys acc
theorem Lp.step {σ : L2.St} {δ : Sts} {A1 : Addr → Prop} {p : Addr} {H1 H2 H3 : Hp} {acc : List PyData} (hpA : ∀ a, PotA σ δ a → A1 a) (hpn : ¬ PotA σ δ p) (h : Lp σ δ A1 p H1 H2 acc) (k : Kp σ δ H2 H3) : Lp σ δ A1 p H1 H3 acc := by
  obtain ⟨ys, e, q⟩ := h.at_
  exact ⟨h.kp.trans k, ys, k.1 _ _ hpn e, q.mv (fun a o n e => k.1 a o (fun z => n (hpA a z)) e) fun a z => .inl z⟩
theorem elt_in {K : PySem.W.Frag} {σ σ4 : L2.St} {δ δ4 : Sts} {H1 H3 H5 : Hp} {cap : List (Option Nat)} {we : DE} {A1 : Addr → Prop} {p : Addr} {acc : List PyData} {kk : Hp → Prop} {G : PyData → Prop}
    (hpA : A1 p) (hP : ∀ a, PotA σ δ a → A1 a) (hp1 : H1 p = none) (hpn : ¬ PotA σ δ p) (lp : Lp σ δ A1 p H1 H5 acc) (hl : acc.length < sizeLine) (r5 : Rel K (inF A1 cap σ δ H3) σ4 H5 δ4) (pots : ∀ b, PotA σ4 δ4 b → PotA σ δ b)
    (h : we δ4 G XF) (hk : ∀ e, G e → ∀ H', Lp σ δ A1 p H1 H' (acc ++ [e]) → kk H') : bElt p (tX .D K E0 we) σ4 H5 kk := by
  refine ⟨inF A1 cap σ δ H3, δ4, G, XF, r5, h, fun e he v H6 r6 kp6 dv => ?_, outF⟩
  have k56 : Kp σ δ H5 H6 := by
    refine ⟨fun b o n e => kp6.1 b o (fun z => n (pots b z)) e, fun b hb => ?_⟩
    by_cases z : PotA σ4 δ4 b
    · exact kp6.2 b z
    · obtain ⟨n, e⟩ := lp.kp.2 b hb
      exact ⟨n, kp6.1 _ _ z e⟩
  obtain ⟨k6, ys, e6, q6⟩ := lp.step hP hpn k56
  have up : ∀ {b : Addr} {o : HO}, ¬ A1 b → H6 b = some o → upd H6 p (.lst (ys ++ [v])) b = some o := fun {b o} n e => by rw [upd_ne (fun z => n (by rw [z]; exact hpA))]; exact e
  refine ⟨ys, e6, by rw [q6.length]; exact hl, hk e he _ ⟨⟨fun b o n e => ?_, fun b hb => ?_⟩, ys ++ [v], upd_same, DAs.app (q6.mv (fun _ _ => up) fun a z => .inl z) (.cons (DA.mv dv (fun a o n e => up (fun z => n (.inl z)) e) fun a z => .inl (.inl z)) .nil)⟩⟩
  · rw [upd_ne (fun z => by rw [z, hp1] at e; cases e)]
    exact k6.1 b o n e
  · rw [upd_ne (fun z => hpn (by rw [← z]; exact hb))]
    exact k6.2 b hb
theorem pd_comp {M : List Str} {cap : List (Option Nat)} {elt tg iter : Expr} {ifs : List Expr} {scope : Scope} {pos : Pos} {ix : List Nat} {wi : DI} {wg : DG} {wt : DT} {we : DE} (hc : X.calm = true) (ok : capOk X.N X.env.scope M scope cap = true) (hf : freeT cap ix = true)
    (hi : PI X tg iter (tI .P X.K E wi)) (hb : ∀ cl ex s3 H3 C, PG (blk X M scope cl ex s3 H3 C) tg (tG ix X.K wg) ∧ PTs (blk X M scope cl ex s3 H3 C) ifs (tT X.K E0 wt) ∧ PE (blk X M scope cl ex s3 H3 C) elt (tX .D X.K E0 we))
    (hs : ∀ x, foldedSetIterable iter X.env x = pure x := by intro _; rfl) : PE X (.ListComp elt [⟨tg, iter, ifs, 0⟩] scope pos) (tX .F X.K E (dComp cap wi wg wt we)) := by
  refine PE.imp (pe_lcomp hc ok hi hb hs) fun σ H Q ⟨F, δ, R, EX, rel, hw, k, o⟩ => ?_
  refine ⟨F, δ, _, EX, rel, hw, fun items hC J H1 rel1 kp1 ⟨ln, it⟩ p hp => ?_, o⟩
  unfold CompR at hC
  obtain ⟨Iv, i0, step, fin⟩ := hC
  have hpn : ¬ PotA σ δ p := fun z => by obtain ⟨xs, e⟩ := rel1.isl (pot_av (F := F) z); rw [hp] at e; cases e
  let A1 : Addr → Prop := fun a => Av F σ δ a ∨ a = p
  have hP : ∀ a, PotA σ δ a → A1 a := fun a z => .inl (pot_av z)
  have hN : ∀ a, A1 a → Av F σ δ a ∨ H1 a = none := fun a z => z.elim .inl fun z => .inr (by rw [z]; exact hp)
  have dmK : ∀ {H2 : Hp}, Kp σ δ H1 H2 → (∃ ys, H2 p = some (.lst ys)) → ∀ a, A1 a → ∃ xs, H2 a = some (.lst xs) := fun {H2} k2 e2 a z => by
    rcases z with z | z
    · exact (rel1.kp k2).isl z
    · rw [z]; exact e2
  refine loop_by items.length (fun i H2 => i ≤ items.length ∧ ∃ acc, Iv i acc ∧ acc.length ≤ i ∧ Lp σ δ A1 p H1 H2 acc) ⟨Nat.zero_le _, [], i0, Nat.le_refl _, Kp.same rel1 (same_upd hp), [], upd_same, .nil⟩ (fun i H2 hi ⟨_, acc, iv, hl, lp⟩ => ?_) fun H2 ⟨_, acc, iv, hl, lp⟩ => ?_
  · obtain ⟨k2, ys, e2, q2⟩ := lp
    obtain ⟨go, _⟩ := it H2 A1 (fun b o n e => k2.1 b o n e) hN (dmK k2 ⟨ys, e2⟩)
    have hd : items[i]? = some items[i] := List.getElem?_eq_getElem hi
    obtain ⟨g1, g2⟩ := go i _ hd
    refine ⟨g1, fun x H3 y kk hk => ?_⟩
    obtain ⟨s3, dx⟩ := g2 x H3 y
    have k23 := Kp.same (rel1.kp k2) s3
    have lp3 : Lp σ δ A1 p H1 H3 acc := Lp.step hP hpn ⟨k2, ys, e2, q2⟩ k23
    refine turn_in hf rel1 (fun a z => .inl z) hN (dmK lp3.kp ⟨ys, s3 _ _ e2⟩) lp3.kp dx (step i acc _ hd iv) (fun σ4 δ4 H5 h5 r5 k5 pots => ?_) fun h5 H5 k5 => hk _ ⟨hi, acc, h5, by omega, lp3.step hP hpn k5⟩
    exact elt_in (.inr rfl) hP hp hpn (lp3.step hP hpn k5) (by omega) r5 pots h5 fun e he H' lp' => hk _ ⟨hi, acc ++ [e], he, by rw [List.length_append]; show _ + 1 ≤ _; omega, lp'⟩
  · obtain ⟨k2, ys, e2, q2⟩ := lp
    obtain ⟨_, st⟩ := it H2 A1 (fun b o n e => k2.1 b o n e) hN (dmK k2 ⟨ys, e2⟩)
    refine ⟨st, k _ (fin acc iv) (.ref p) H2 (rel1.kp k2) (kp1.trans k2) ⟨.lst (fun z => ?_) e2 (q2.mv (fun _ _ _ e => e) fun a z => .inl (.inl z)), fun l e1 _ => ?_⟩⟩
    · obtain ⟨xs, e⟩ := rel1.isl z
      rw [hp] at e; cases e
    · cases e1
      exact kp_none kp1 hp
theorem cm_fm {items : List PyData} {wg : DG} {wt : DT} {we : DE} {δ : Sts} {Q : PyData → Prop} (G : PyData → Option PyData)
    (h : ∀ d ∈ items, ∀ (k1 : Prop) (k2 : PyData → Prop), (G d = none → k1) → (∀ e, G d = some e → k2 e) → wg d δ fun δ4 => wt δ4 (fun b => if b = true then we δ4 k2 XF else k1) XF) (q : Q (.list (items.filterMap G))) :
    CompR items wg wt we δ Q := by
  unfold CompR
  refine ⟨fun i acc => acc = (items.take i).filterMap G, by simp, fun i acc d hd e => ?_, fun acc e => by rw [e, List.take_length]; exact q⟩
  have hs : (items.take (i + 1)).filterMap G = (items.take i).filterMap G ++ (G d).toList := by
    rw [List.take_add_one, hd, List.filterMap_append]
    cases e2 : G d <;> simp [e2]
  have e : acc = (items.take i).filterMap G := e
  refine h d (List.mem_of_getElem? hd) _ _ (fun e2 => ?_) fun e' e2 => ?_
  · show acc = (items.take (i + 1)).filterMap G
    rw [hs, e2, e]; simp
  · show acc ++ [e'] = (items.take (i + 1)).filterMap G
    rw [hs, e2, e]; rfl
theorem cm_map {items : List PyData} {wg : DG} {we : DE} {δ : Sts} {Q : PyData → Prop} (G : PyData → PyData)
    (h : ∀ d ∈ items, ∀ (k2 : PyData → Prop), k2 (G d) → wg d δ fun δ4 => we δ4 k2 XF) (q : Q (.list (items.map G))) :
    CompR items wg dNoT we δ Q := by
  unfold CompR
  refine ⟨fun i acc => acc = (items.take i).map G, by simp, fun i acc d hd e => ?_, fun acc e => by rw [e, List.take_length]; exact q⟩
  have hs : (items.take (i + 1)).map G = (items.take i).map G ++ [G d] := by
    rw [List.take_add_one, hd, List.map_append]
    simp
  have e : acc = (items.take i).map G := e
  have hh := h d (List.mem_of_getElem? hd) (fun e => acc ++ [e] = (items.take (i + 1)).map G) (by show acc ++ [G d] = _; rw [hs, e])
  simp only [dNoT, if_true]
  exact hh
end
end Dl
namespace Dl
open PySem PySem.Spec PyProof.Rows L2 _root_.Rd Rk
theorem dkV_inj : ∀ {a b : List (Int × Int)}, dkV a = dkV b → a = b
  | [], [], _ => rfl
  | [], _ :: _, h => by cases h
  | _ :: _, [], h => by cases h
  | p :: a, q :: b, h => by
    have h := List.cons.inj (show (Sum.inl p.1, V.int p.2) :: dkV a = (Sum.inl q.1, V.int q.2) :: dkV b from h)
    have h1 := Prod.mk.inj h.1
    rw [dkV_inj h.2, Prod.ext (Sum.inl.inj h1.1) (V.int.inj h1.2)]
mutual
theorem da_uniq {A B : Addr → Prop} {H : Hp} : ∀ (d d' : PyData) (x : V), DA A H x d → DA B H x d' → d = d'
  | .none, d', _, .non, h => by cases h; rfl
  | .bool _, d', _, .bl _, h => by cases h; rfl
  | .int _, d', _, .int _, h => by cases h; rfl
  | .str _, d', _, .str _ _, h => by cases h; rfl
  | .tuple ds, d', _, .tup (xs := xs) n e q, h => by
    cases h with
    | @tup a ys es n' e' q' =>
      rw [e] at e'
      cases e'
      rw [das_uniq ds es xs q q']
    | @lst a ys es n' e' q' => rw [e] at e'; cases e'
    | @dct a kvs' ds' n' e' q' => rw [e] at e'; cases e'
  | .list ds, d', _, .lst (xs := xs) n e q, h => by
    cases h with
    | @tup a ys es n' e' q' => rw [e] at e'; cases e'
    | @lst a ys es n' e' q' =>
      rw [e] at e'
      cases e'
      rw [das_uniq ds es xs q q']
    | @dct a kvs' ds' n' e' q' => rw [e] at e'; cases e'
  | .dict _, d', _, .dct (kvs := kvs) n e q, h => by
    cases h with
    | @tup a ys es n' e' q' => rw [e] at e'; cases e'
    | @lst a ys es n' e' q' => rw [e] at e'; cases e'
    | @dct a kvs' ds' n' e' q' =>
      rw [e] at e'
      rw [q, q', dkV_inj (HO.dK.inj (Option.some.inj e'))]
theorem das_uniq {A B : Addr → Prop} {H : Hp} : ∀ (ds es : List PyData) (xs : List V), DAs A H xs ds → DAs B H xs es → ds = es
  | [], es, _, .nil, h => by cases h; rfl
  | d :: ds, es, _, .cons q qs, h => by
    cases h with
    | @cons x xs e es q' qs' => rw [da_uniq d e _ q q', das_uniq ds es _ qs qs']
end
mutual
theorem da_off {A : Addr → Prop} {H : Hp} {l : Addr} {rs : List PyData} (root : DA A H (.ref l) (.list rs)) : ∀ (d : PyData) (x : V), sizeOf d < sizeOf (PyData.list rs) → DA A H x d → DA (fun a => A a ∨ a = l) H x d
  | .none, _, _, .non => .non
  | .bool _, _, _, .bl _ => .bl _
  | .int _, _, _, .int _ => .int _
  | .str _, _, _, .str _ c => .str _ c
  | .tuple ds, _, hs, .tup (a := a) (xs := xs) n e q => .tup (fun z => z.elim n fun z => by subst z; cases root with | @lst _ ys _ n' e' q' => (rw [e] at e'; cases e')) e (das_off root ds xs (by simp at hs ⊢; omega) q)
  | .list ds, _, hs, .lst (a := a) (xs := xs) n e q => .lst (fun z => z.elim n fun z => by
      subst z
      have := da_uniq _ _ _ root (.lst n e q)
      rw [this] at hs
      omega) e (das_off root ds xs (by simp at hs ⊢; omega) q)
  | .dict _, _, hs, .dct (a := a) n e q => .dct (fun z => z.elim n fun z => by subst z; cases root with | @lst _ ys _ n' e' q' => (rw [e] at e'; cases e')) e q
theorem das_off {A : Addr → Prop} {H : Hp} {l : Addr} {rs : List PyData} (root : DA A H (.ref l) (.list rs)) : ∀ (ds : List PyData) (xs : List V), sizeOf ds < sizeOf (PyData.list rs) → DAs A H xs ds → DAs (fun a => A a ∨ a = l) H xs ds
  | [], _, _, .nil => .nil
  | d :: ds, _, hs, .cons q qs => .cons (da_off root d _ (by simp at hs ⊢; omega) q) (das_off root ds _ (by simp at hs ⊢; omega) qs)
end
theorem DA.items {A : Addr → Prop} {H : Hp} {l : Addr} {ds : List PyData} (root : DA A H (.ref l) (.list ds)) : ∃ xs, H l = some (.lst xs) ∧ DAs (fun a => A a ∨ a = l) H xs ds := by
  have root' := root
  cases root with
  | @lst _ xs _ n e q => exact ⟨xs, e, das_off root' ds xs (by simp) q⟩
structure DEnds where
  nx : Sts → Prop
  rt : PyData → Prop
  rtF : PyData → Prop
  bk : Sts → Prop
  ct : Sts → Prop
  ex : XP
abbrev DS := DEnds → Sts → Prop
structure Nx (K : PySem.W.Frag) (F : Fm) (σ : L2.St) (H : Hp) (δ : Sts) (R : Sts → Prop) (T : L2.St → Hp → Prop) : Prop where
  go : ∀ δ', R δ' → ∀ σ' H', Rel K F σ' H' δ' → Stp F σ H δ σ' H' δ' → T σ' H'
structure Ends1 (K : PySem.W.Frag) (E : XK) (F : Fm) (σ : L2.St) (H : Hp) (δ : Sts) (DD : DEnds) (D : Ends) : Prop where
  nx : Nx K F σ H δ DD.nx D.nx
  rt : ∀ d, DD.rt d → ∀ v H', Ke F H' → DA F.A0 H' v d → D.rt v H'
  rtF : ∀ d, DD.rtF d → ∀ v H', Ke F H' → DA F.A0 H' v d → FrV F.H0 H' v → D.rt v H'
  bk : Nx K F σ H δ DD.bk D.bk
  ct : Nx K F σ H δ DD.ct D.ct
  ex : Out F E DD.ex
def tS (K : PySem.W.Frag) (E : XK) (w : DS) : TS := fun D σ H => ∃ (F : Fm) (δ : Sts) (DD : DEnds), Rel K F σ H δ ∧ w DD δ ∧ Ends1 K E F σ H δ DD D
theorem Nx.step {K : PySem.W.Frag} {F : Fm} {σ σ1 : L2.St} {H H1 : Hp} {δ δ1 : Sts} {R : Sts → Prop} {T : L2.St → Hp → Prop} (h : Nx K F σ H δ R T) (s : Stp F σ H δ σ1 H1 δ1) : Nx K F σ1 H1 δ1 R T := ⟨fun δ' hR σ' H' r st => h.go δ' hR σ' H' r (s.trans st)⟩
theorem Ends1.step {K : PySem.W.Frag} {E : XK} {F : Fm} {σ σ1 : L2.St} {H H1 : Hp} {δ δ1 : Sts} {DD : DEnds} {D : Ends} (h : Ends1 K E F σ H δ DD D) (s : Stp F σ H δ σ1 H1 δ1) : Ends1 K E F σ1 H1 δ1 DD D := ⟨h.nx.step s, h.rt, h.rtF, h.bk.step s, h.ct.step s, h.ex⟩
section
variable {X : Cx} {E : XK}
theorem PS.imp {e : Stmt} {t t' : TS} (h : PS X e t) (i : ∀ D σ H, t' D σ H → t D σ H) : PS X e t' := fun pins s σ H D I q => h pins s σ H D I (i D σ H q)
theorem PSs.imp {e : List Stmt} {t t' : TS} (h : PSs X e t) (i : ∀ D σ H, t' D σ H → t D σ H) : PSs X e t' := fun pins s σ H D I q => h pins s σ H D I (i D σ H q)
def dSeq (a b : DS) : DS := fun D δ => a { D with nx := b D } δ
def dSkip : DS := fun D δ => D.nx δ
theorem pds_snil : PSs X [] (tS X.K E dSkip) := PSs.imp pss_nil fun D σ H ⟨F, δ, DD, rel, hw, en⟩ => en.nx.go δ hw σ H rel Stp.refl
theorem pds_one {st : Stmt} {w : DS} (h : PS X st (tS X.K E w)) : PSs X [st] (tS X.K E w) := pss_one h
theorem pds_cons {st : Stmt} {rest : List Stmt} {w w' : DS} (h : PS X st (tS X.K E w)) (h' : PSs X rest (tS X.K E w')) : PSs X (st :: rest) (tS X.K E (dSeq w w')) := by
  refine PSs.imp (pss_cons h h') fun D σ H ⟨F, δ, DD, rel, hw, en⟩ => ?_
  exact ⟨F, δ, _, rel, hw, ⟨fun δ' h' σ' H' r st => ⟨F, δ', DD, r, h', en.step st⟩⟩, en.rt, en.rtF, en.bk, en.ct, en.ex⟩
def dSet (i : Nat) (we : DE) : DS := fun D δ => we δ (fun d => D.nx (δ.set i (.v d))) D.ex
def dSetF (i : Nat) (we : DE) : DS := fun D δ => we δ (fun d => match d with
  | .list ds => D.nx (δ.set i (.own ds))
  | _ => False) D.ex
def dSetP (i : Nat) (we : DE) : DS := fun D δ => we δ (fun d => match d with
  | .list [.int _] => D.nx (δ.set i .pot)
  | _ => False) D.ex
variable {i : Nat} {e : Expr} {st : Stmt} {we wi : DE}
theorem pds_set (h : PS X st (tAsg (tX .D X.K E we) (gName i))) : PS X st (tS X.K E (dSet i we)) := by
  refine PS.imp h fun D σ H ⟨F, δ, DD, rel, hw, en⟩ => ?_
  refine ⟨F, δ, _, DD.ex, rel, hw, fun d hd v H' rel' kp vk => ?_, en.ex⟩
  exact en.nx.go _ hd _ H' (rel'.setv vk) ((Stp.kp kp).trans Stp.setv)
theorem av_own {F : Fm} {σ : L2.St} {δ : Sts} {i : Nat} {l : Addr} {x : Sl} {a : Addr} (h : Av F (σ.set i (some (.ref l))) (δ.set i x) a) : Av F σ δ a ∨ a = l := by
  rcases h with h | ⟨j, h1, h2⟩
  · exact .inl (.inl h)
  · by_cases z : j = i
    · subst z
      cases set_eq h1
      exact .inr rfl
    · rw [set_ne z] at h1 h2
      exact .inl (.inr ⟨j, h1, h2⟩)
theorem Rel.seto {K : PySem.W.Frag} {F : Fm} {σ : L2.St} {H H' : Hp} {δ : Sts} {l : Addr} {x : Sl} (r : Rel K F σ H δ) (r' : Rel K F σ H' δ) (kp : Kp σ δ H H') (n : H l = none) (hx : ∀ A : Addr → Prop, (∀ a, A a → Av F σ δ a ∨ H a = none) → (∀ a, A a → Av F σ δ a ∨ a = l) → SlOk K F H' A (some (.ref l)) x) :
    Rel K F (σ.set i (some (.ref l))) H' (δ.set i x) ∧ Stp F σ H δ (σ.set i (some (.ref l))) H' (δ.set i x) := by
  have nA : ∀ a, Av F (σ.set i (some (.ref l))) (δ.set i x) a → Av F σ δ a ∨ H a = none := fun a z => (av_own z).elim .inl fun z => .inr (by rw [z]; exact n)
  have kk : ∀ a o, ¬ Av F σ δ a → H a = some o → H' a = some o := fun a o m e => kp.1 a o (fun z => m (pot_av z)) e
  refine ⟨?_, ⟨kk, nA⟩⟩
  exact {
    len := by rw [List.length_set, List.length_set]; exact r.len
    dom := r'.dom
    dom0 := r'.dom0
    pt0 := r'.pt0
    kx := r'.kx
    sl := fun j o y h1 h2 => by
      by_cases z : j = i
      · subst z
        cases set_eq h1
        cases set_eq h2
        exact hx _ nA fun a z => av_own z
      · rw [set_ne z] at h1 h2
        have h := r.sl j o y h1 h2
        have h' := r'.sl j o y h1 h2
        cases y with
        | no => trivial
        | v d => obtain ⟨v', e, q'⟩ := h; exact ⟨v', e, q'.mv kk nA⟩
        | own ds => obtain ⟨l', xs, rfl, e2, q', f⟩ := h; exact ⟨l', xs, rfl, kp.1 _ _ (r.own_pot h2 h1) e2, q'.mv kk nA, f⟩
        | pk ds =>
          obtain ⟨l', xs, rfl, e2, q', ys, f, f2⟩ := h
          refine ⟨l', xs, rfl, kp.1 _ _ ?_ e2, q'.mv kk nA, ys, f, f2⟩
          rintro ⟨j, j1, j2⟩
          obtain ⟨p, m, e1, _, w⟩ := r.sl j _ _ j1 j2
          cases e1
          rcases w with w | w
          · exact f2 w
          · rw [w] at f; cases f
        | pot => exact h'
        | scr => exact h'
    inj := fun j k a ds h1 h2 ⟨h3, h4⟩ => by
      have ne : ∀ (k : Nat), k ≠ i → σ[k]? = some (some (.ref l)) → (δ[k]? = some .pot ∨ ∃ ds, δ[k]? = some (.own ds)) → False := fun k _ h3 h4 => by
        obtain ⟨xs, e⟩ := r.isl (a := l) (.inr ⟨k, h3, h4⟩)
        rw [n] at e; cases e
      by_cases z : j = i
      · subst z
        cases set_eq h2
        by_cases z2 : k = j
        · exact z2.symm
        · rw [set_ne z2] at h3 h4
          exact (ne k z2 h3 h4).elim
      · rw [set_ne z] at h1 h2
        by_cases z2 : k = i
        · subst z2
          cases set_eq h3
          exact (ne j z h2 (.inr ⟨ds, h1⟩)).elim
        · rw [set_ne z2] at h3 h4
          exact r.inj j k a ds h1 h2 ⟨h3, h4⟩ }
theorem fresh0 {K : PySem.W.Frag} {F : Fm} {σ : L2.St} {H : Hp} {δ : Sts} (r : Rel K F σ H δ) {l : Addr} (n : H l = none) : F.H0 l = none := by
  cases e : F.H0 l with
  | none => rfl
  | some o =>
    by_cases z : F.pt l
    · obtain ⟨_, m, e'⟩ := r.pt0 l z
      rw [n] at e'; cases e'
    · rw [r.kx l o z e] at n; cases n
theorem pds_setF (h : PS X st (tAsg (tX .F X.K E we) (gName i))) : PS X st (tS X.K E (dSetF i we)) := by
  refine PS.imp h fun D σ H ⟨F, δ, DD, rel, hw, en⟩ => ?_
  refine ⟨F, δ, _, DD.ex, rel, hw, fun d hd v H' rel' kp ⟨vk, fr⟩ => ?_, en.ex⟩
  obtain ⟨ds, rfl⟩ : ∃ ds, d = .list ds := by cases d <;> first | exact ⟨_, rfl⟩ | exact (show False from hd).elim
  obtain ⟨l, rfl⟩ : ∃ l, v = .ref l := by cases vk; exact ⟨_, rfl⟩
  obtain ⟨xs, e, q⟩ := DA.items vk
  have n := fr l rfl ⟨xs, e⟩
  obtain ⟨r2, st⟩ := rel.seto (i := i) (x := .own ds) rel' kp n fun A hA hB => ⟨l, xs, rfl, e, q.mv (fun _ _ _ e => e) fun a z => .inl (hB a z), fresh0 rel n⟩
  exact en.nx.go _ hd _ H' r2 st
theorem pds_setP (h : PS X st (tAsg (tX .F X.K E we) (gName i))) : PS X st (tS X.K E (dSetP i we)) := by
  refine PS.imp h fun D σ H ⟨F, δ, DD, rel, hw, en⟩ => ?_
  refine ⟨F, δ, _, DD.ex, rel, hw, fun d hd v H' rel' kp ⟨vk, fr⟩ => ?_, en.ex⟩
  split at hd
  · cases vk with
    | @lst l xs ds na e q =>
      have n := fr l rfl ⟨xs, e⟩
      cases q with
      | cons q1 q2 =>
        cases q1
        cases q2
        obtain ⟨r2, st⟩ := rel.seto (i := i) (x := .pot) rel' kp n fun A hA hB => ⟨l, _, rfl, e, .inr (fresh0 rel n)⟩
        exact en.nx.go _ hd _ H' r2 st
  · exact hd.elim
def dAsg (we : DE) (wg : DG) : DS := fun D δ => we δ (fun d => wg d δ D.nx) D.ex
theorem pds_asg {ix : List Nat} {wg : DG} (h : PS X st (tAsg (tX .D X.K E we) (tG ix X.K wg))) : PS X st (tS X.K E (dAsg we wg)) := by
  refine PS.imp h fun D σ H ⟨F, δ, DD, rel, hw, en⟩ => ?_
  refine ⟨F, δ, _, DD.ex, rel, hw, fun d hd v H' rel' kp vk => ?_, en.ex⟩
  exact ⟨F, δ, d, _, rel', vk, hd, fun δ' h' σ' r' st' _ _ => en.nx.go _ h' _ H' r' ((Stp.kp kp).trans st')⟩
def dPar (i j : Nat) (wa : DAr) : DS := fun D δ => wa δ (fun ds => match ds with
  | [a, b] => D.nx ((δ.set i (.v a)).set j (.v b))
  | _ => False) D.ex
theorem pds_par {n i j : Nat} {wa : DAr} (h : PS X st (tPar i j (tAr n .D X.K E wa))) : PS X st (tS X.K E (dPar i j wa)) := by
  refine PS.imp h fun D σ H ⟨F, δ, DD, rel, hw, en⟩ => ?_
  refine ⟨F, δ, _, DD.ex, rel, hw, fun ds hds _ vs H' rel' kp q => ?_, en.ex⟩
  split at hds
  · cases q with
    | cons q1 q2 => cases q2 with
      | cons q2 q3 =>
        cases q3
        refine ⟨_, _, rfl, en.nx.go _ hds _ H' ((rel'.setv q1).setv (DA.mv q2 (fun _ _ _ e => e) fun a z => .inl (av_set z))) (((Stp.kp kp).trans Stp.setv).trans Stp.setv)⟩
  · exact hds.elim
def dRet (we : DE) : DS := fun D δ => we δ D.rt D.ex
def dRetF (we : DE) : DS := fun D δ => we δ D.rtF D.ex
theorem da_a0 {F : Fm} {σ : L2.St} {δ : Sts} {H : Hp} {v : V} {d : PyData} (h : DA (Av F σ δ) H v d) : DA F.A0 H v d := h.mv (fun _ _ _ e => e) fun a z => .inl (.inl z)
theorem pds_ret {e : Expr} {pos : Pos} (h : PE X e (tX .D X.K E we)) : PS X (.Return (some e) pos) (tS X.K E (dRet we)) := by
  refine PS.imp (ps_ret h) fun D σ H ⟨F, δ, DD, rel, hw, en⟩ => ?_
  exact ⟨F, δ, _, DD.ex, rel, hw, fun d hd v H' rel' kp vk => en.rt d hd v H' rel'.ke (da_a0 vk), en.ex⟩
theorem pds_retF {e : Expr} {pos : Pos} (h : PE X e (tX .F X.K E we)) : PS X (.Return (some e) pos) (tS X.K E (dRetF we)) := by
  refine PS.imp (ps_ret h) fun D σ H ⟨F, δ, DD, rel, hw, en⟩ => ?_
  exact ⟨F, δ, _, DD.ex, rel, hw, fun d hd v H' rel' kp vk => en.rtF d hd v H' rel'.ke (da_a0 vk.1) fun l e1 e2 => fresh0 rel (vk.2 l e1 e2), en.ex⟩
def dRetO (i : Nat) : DS := fun D δ => match δ[i]? with
  | some (.own ds) => D.rtF (.list ds)
  | some (.v d) => D.rt d
  | _ => False
theorem pds_retO {e : Expr} {pos : Pos} (h : PE X e (tVar i)) : PS X (.Return (some e) pos) (tS X.K E (dRetO i)) := by
  refine PS.imp (ps_ret h) fun D σ H ⟨F, δ, DD, rel, hw, en⟩ => ?_
  unfold dRetO at hw
  split at hw
  · rename_i ds hd
    obtain ⟨x, hx⟩ := rel.lt hd
    obtain ⟨l, xs, rfl, e, q, f⟩ := rel.sl i _ _ hx hd
    refine ⟨_, hx, en.rtF _ hw _ H rel.ke (.lst (fun z => ?_) e (q.mv (fun _ _ _ e => e) fun a z => .inl (.inl z))) fun l' e1 _ => by cases e1; exact f⟩
    obtain ⟨ys, e'⟩ := rel.dom0 l z
    rw [f] at e'; cases e'
  · rename_i d hd
    obtain ⟨x, hx⟩ := rel.lt hd
    obtain ⟨v, rfl, q⟩ := rel.sl i _ _ hx hd
    exact ⟨v, hx, en.rt _ hw _ H rel.ke (da_a0 q)⟩
  · exact hw.elim
def dIf (t : DT) (a b : DS) : DS := fun D δ => t δ (fun c => if c = true then a D δ else b D δ) D.ex
theorem pds_if {c : Expr} {a b : List Stmt} {pos : Pos} {t : DT} {w w' : DS} (hc : PT X c (tT X.K E t)) (ha : PSs X a (tS X.K E w)) (hb : PSs X b (tS X.K E w')) : PS X (.If c a b pos) (tS X.K E (dIf t w w')) := by
  refine PS.imp (ps_if hc ha hb) fun D σ H ⟨F, δ, DD, rel, hw, en⟩ => ?_
  exact ⟨F, δ, _, DD.ex, rel, hw, fun b hb H' rel' kp => if_imp hb (fun z => ⟨F, δ, DD, rel', z, en.step (Stp.kp kp)⟩) fun z => ⟨F, δ, DD, rel', z, en.step (Stp.kp kp)⟩, en.ex⟩
def dAug (i : Nat) (rD : PyData → PyData → (PyData → Prop) → Prop) (we : DE) : DS := fun D δ => match δ[i]? with
  | some (.v d) => we δ (fun e => rD d e (fun z => D.nx (δ.set i (.v z)))) D.ex
  | _ => False
theorem pds_aug {r : TIp} {rD : PyData → PyData → (PyData → Prop) → Prop} (hd : OpDn r rD) (h : PS X st (tAug i (tX .P X.K E we) (fun x y H Q => LenOk H → r x y H Q))) : PS X st (tS X.K E (dAug i rD we)) := by
  refine PS.imp h fun D σ H ⟨F, δ, DD, rel, hw, en⟩ => ?_
  unfold dAug at hw
  split at hw
  · rename_i d hd'
    obtain ⟨x, hx⟩ := rel.lt hd'
    obtain ⟨v, rfl, q⟩ := rel.sl i _ _ hx hd'
    refine ⟨v, hx, F, δ, _, DD.ex, rel, hw, fun e he y H' rel' kp yk ln => ?_, en.ex⟩
    refine hd (Av F σ δ) (PotA σ δ) H' v y d e _ _ ln (fun a ha => rel'.isl ha) (.inl (kp.da q)) yk he fun z hz u H2 s du => ?_
    exact en.nx.go _ hz _ H2 ((rel'.same s).setv du) (((Stp.kp kp).trans (Stp.kp (Kp.same rel' s))).trans Stp.setv)
  · exact hw.elim
theorem odn_ii0 {g : Int → Int → Int} : OpDn (ipI g) (ii0 fun i j => .int (g i j)) := fun A P H x y d1 d2 R Q ln dm hx hy h k => by
  cases d1 <;> cases d2 <;> first | exact h.elim | skip
  rw [hx.int, hy.int]
  exact ⟨_, _, rfl, rfl, k _ h _ H (Same.refl H) (.int _)⟩
theorem odn_mul : OpDn (rI CMul fun i j => .int (i * j)) (iiD CMul fun i j => .int (i * j)) := fun A P H x y d1 d2 R Q ln dm hx hy h k => by
  cases d1 <;> cases d2 <;> first | exact h.elim | skip
  rw [hx.int, hy.int]
  exact ⟨_, _, rfl, rfl, h.1, k _ h.2 _ H (Same.refl H) (.int _)⟩
theorem PIp.len {op : Operator} {t : TIp} (h : PIp X op t) : PIp X op (fun x y H Q => LenOk H → t x y H Q) := fun pins s σ H x y v u Q I rx ry q => h pins s σ H x y v u Q I rx ry (q (Inv.lens I))
theorem Rel.mut {K : PySem.W.Frag} {F : Fm} {σ : L2.St} {H : Hp} {δ : Sts} (r : Rel K F σ H δ) {l : Addr} {ds ds' : List PyData} {ys : List V} (h : δ[i]? = some (.own ds)) (hx : σ[i]? = some (some (.ref l))) (q : DAs (Av F σ δ) H ys ds') :
    Rel K F σ (upd H l (.lst ys)) (δ.set i (.own ds')) ∧ Stp F σ H δ σ (upd H l (.lst ys)) (δ.set i (.own ds')) := by
  have hl : Av F σ δ l := .inr ⟨i, hx, .inr ⟨ds, h⟩⟩
  obtain ⟨l', xs0, e0, el, _, f⟩ := r.sl i _ _ hx h
  cases e0
  have lt : i < δ.length := (List.getElem?_eq_some_iff.mp h).1
  have ge : (δ.set i (.own ds'))[i]? = some (.own ds') := by rw [List.getElem?_set_self lt]
  have kk : ∀ a o, ¬ Av F σ δ a → H a = some o → upd H l (.lst ys) a = some o := fun a o n e => by rw [upd_ne (fun z => n (by rw [z]; exact hl))]; exact e
  have av : ∀ a, Av F σ (δ.set i (.own ds')) a → Av F σ δ a := fun a z => by
    rcases z with z | ⟨j, h1, h2⟩
    · exact .inl z
    · by_cases z : j = i
      · subst z; exact .inr ⟨j, h1, .inr ⟨ds, h⟩⟩
      · rw [set_ne z] at h2; exact .inr ⟨j, h1, h2⟩
  have up : ∀ {b : Addr} {o : HO}, b ≠ l → H b = some o → upd H l (.lst ys) b = some o := fun n e => by rw [upd_ne n]; exact e
  refine ⟨?_, ⟨kk, fun a z => .inl (av a z)⟩⟩
  exact {
    len := by rw [List.length_set]; exact r.len
    dom := fun a ha => by
      by_cases z : a = l
      · rw [z]; exact ⟨_, upd_same⟩
      · obtain ⟨xs, e⟩ := r.dom a ha; exact ⟨xs, up z e⟩
    dom0 := r.dom0
    pt0 := fun p hp => by
      obtain ⟨h1, n, e⟩ := r.pt0 p hp
      refine ⟨h1, n, up (fun z => ?_) e⟩
      obtain ⟨xs, e'⟩ := r.dom0 p h1
      rw [z, f] at e'; cases e'
    kx := fun b o n e => up (fun z => by rw [z, f] at e; cases e) (r.kx b o n e)
    sl := fun j o y h1 h2 => by
      by_cases z : j = i
      · subst z
        rw [ge] at h2
        cases h2
        rw [hx] at h1
        cases h1
        exact ⟨l, ys, rfl, upd_same, q.mv kk fun a z => .inl (av a z), f⟩
      · rw [set_ne z] at h2
        have hh := r.sl j o y h1 h2
        cases y with
        | no => trivial
        | v d => obtain ⟨v', e, q'⟩ := hh; exact ⟨v', e, q'.mv kk fun a z => .inl (av a z)⟩
        | own es =>
          obtain ⟨l', xs, rfl, e2, q', f'⟩ := hh
          exact ⟨l', xs, rfl, up (fun z2 => z (r.inj j i l' es h2 h1 ⟨by rw [z2]; exact hx, .inr ⟨ds, h⟩⟩)) e2, q'.mv kk fun a z => .inl (av a z), f'⟩
        | pk es =>
          obtain ⟨l', xs, rfl, e2, q', ys', f', f2⟩ := hh
          exact ⟨l', xs, rfl, up (fun z2 => by rw [z2, f] at f'; cases f') e2, q'.mv kk fun a z => .inl (av a z), ys', f', f2⟩
        | pot =>
          obtain ⟨p, n, rfl, e2, w⟩ := hh
          refine ⟨p, n, rfl, up (fun z2 => ?_) e2, w⟩
          subst z2
          exact r.own_pot h hx ⟨j, h1, h2⟩
        | scr => exact hh
    inj := fun j k a es h1 h2 ⟨h3, h4⟩ => by
      have h4' : δ[k]? = some .pot ∨ ∃ ds, δ[k]? = some (.own ds) := by
        by_cases z : k = i
        · subst z; exact .inr ⟨ds, h⟩
        · rw [set_ne z] at h4; exact h4
      by_cases z : j = i
      · subst z; exact r.inj j k a ds h h2 ⟨h3, h4'⟩
      · rw [set_ne z] at h1; exact r.inj j k a es h1 h2 ⟨h3, h4'⟩ }
def dApp (i : Nat) (we : DE) : DS := fun D δ => match δ[i]? with
  | some (.own ds) => we δ (fun d => ds.length < 1000000 ∧ D.nx (δ.set i (.own (ds ++ [d])))) D.ex
  | _ => False
def dExt (i : Nat) (we : DE) : DS := fun D δ => match δ[i]? with
  | some (.own ds) => we δ (fun d => match d with
    | .list es => ds.length + es.length ≤ 1000000 ∧ D.nx (δ.set i (.own (ds ++ es)))
    | _ => False) D.ex
  | _ => False
theorem pds_ext (h : PS X st (tDrop (tBM X.K "list" rExtend (tVar i) (tCons (tX .P X.K E we) tNil)))) : PS X st (tS X.K E (dExt i we)) := by
  refine PS.imp h fun D σ H ⟨F, δ, DD, rel, hw, en⟩ => ?_
  unfold dExt at hw
  split at hw
  · rename_i ds hd
    obtain ⟨x, hx⟩ := rel.lt hd
    obtain ⟨l, xs, rfl, e, q, f⟩ := rel.sl i _ _ hx hd
    have np := rel.own_pot hd hx
    refine ⟨.ref l, hx, .inl ⟨rfl, _, SqL.of e⟩, F, δ, _, DD.ex, rel, hw, fun d hd2 v H' rel' kp vk => ?_, en.ex⟩
    cases d <;> first | exact (show False from hd2).elim | skip
    obtain ⟨hl, hn⟩ := hd2
    obtain ⟨l2, ys, rfl, e2, q2⟩ := DP.list vk
    have q' := kp.das q
    refine ⟨l, l2, xs, ys, rfl, rfl, kp.1 _ _ np e, e2, Nat.le_trans (by rw [q.length, q2.length]; exact hl) lineM, ?_⟩
    obtain ⟨r2, st⟩ := rel'.mut hd hx (q'.app q2)
    exact en.nx.go _ hn _ _ r2 ((Stp.kp kp).trans st)
  · exact hw.elim
def dAugP (i : Nat) (rD : PyData → PyData → (PyData → Prop) → Prop) (wi we : DE) : DS := fun D δ => match δ[i]? with
  | some (.own ds) => wi δ (fun z => match z with
    | .int k => ∃ j a, ixN ds.length k = some j ∧ ds[j]? = some a ∧ we δ (fun e => rD a e fun b => D.nx (δ.set i (.own (ds.set j b)))) D.ex
    | _ => False) D.ex
  | _ => False
theorem pds_augP {r : TIp} {rD : PyData → PyData → (PyData → Prop) → Prop} (hd : OpDn r rD) (h : PS X st (tAugS (tVar i) (tX .P X.K E wi) (tX .P X.K E we) (rIxL X.K) (fun x y H Q => LenOk H → r x y H Q) rSetL)) : PS X st (tS X.K E (dAugP i rD wi we)) := by
  refine PS.imp h fun D σ H ⟨F, δ, DD, rel, hw, en⟩ => ?_
  unfold dAugP at hw
  split at hw
  · rename_i ds hds
    obtain ⟨x, hx⟩ := rel.lt hds
    obtain ⟨l, xs, rfl, e, q, f⟩ := rel.sl i _ _ hx hds
    have np := rel.own_pot hds hx
    refine ⟨.ref l, hx, F, δ, _, DD.ex, rel, hw, fun z hz y H1 rel1 kp1 yk => ?_, en.ex⟩
    cases z <;> first | exact (show False from hz).elim | skip
    obtain ⟨j, a, hj, ha, hn⟩ := hz
    have q1 := kp1.das q
    obtain ⟨va, hva, da⟩ := q1.get j a ha
    rw [DP.int yk]
    refine ⟨l, xs, _, va, rfl, rfl, SqL.of (kp1.1 _ _ np e), by unfold atI; rw [q.length, hj]; exact hva, F, δ, _, DD.ex, rel1, hn, fun b hb u H2 rel2 kp2 uk ln => ?_, en.ex⟩
    refine hd (Av F σ δ) (PotA σ δ) H2 va u a b _ _ ln (fun a ha => rel2.isl ha) (.inl (kp2.da da)) uk hb fun c hc w H3 s dw => ?_
    have r3 := rel2.same s
    have k3 := kp2.trans (Kp.same rel2 s)
    refine ⟨l, xs, _, j, rfl, rfl, k3.1 _ _ np (kp1.1 _ _ np e), by rw [q.length]; exact hj, ?_⟩
    obtain ⟨r4, st⟩ := r3.mut hds hx ((k3.das q1).set dw j)
    exact en.nx.go _ hc _ _ r4 (((Stp.kp kp1).trans (Stp.kp k3)).trans st)
  · exact hw.elim
def dem1 (δ : Sts) (i : Nat) : Sts := match δ[i]? with
  | some (.own ds) => δ.set i (.v (.list ds))
  | _ => δ
def demS (is : List Nat) (δ : Sts) : Sts := is.foldl dem1 δ
theorem dem_one {K : PySem.W.Frag} {F : Fm} {σ : L2.St} {H : Hp} {δ : Sts} (r : Rel K F σ H δ) {i : Nat} {ds : List PyData} (h : δ[i]? = some (.own ds)) : Rel K F σ H (δ.set i (.v (.list ds))) ∧ Stp F σ H δ σ H (δ.set i (.v (.list ds))) := by
  obtain ⟨x, hx⟩ := r.lt h
  obtain ⟨l, xs, rfl, e, q, f⟩ := r.sl i _ _ hx h
  have hs : σ.set i (some (.ref l)) = σ := by
    refine List.ext_getElem? fun j => ?_
    by_cases z : j = i
    · subst z; rw [hx, List.getElem?_set_self (List.getElem?_eq_some_iff.mp hx).1]
    · rw [set_ne z]
  have lt : i < δ.length := (List.getElem?_eq_some_iff.mp h).1
  have avn : ∀ a, Av F σ (δ.set i (.v (.list ds))) a → Av F σ δ a ∧ a ≠ l := fun a z => by
    rcases z with z | ⟨j, h1, h2⟩
    · refine ⟨.inl z, fun e' => ?_⟩
      obtain ⟨ys, e2⟩ := r.dom0 a z
      rw [e', f] at e2; cases e2
    · by_cases z : j = i
      · subst z; rw [List.getElem?_set_self lt] at h2; rcases h2 with h2 | ⟨_, h2⟩ <;> cases h2
      · rw [set_ne z] at h2
        refine ⟨.inr ⟨j, h1, h2⟩, fun e' => ?_⟩
        subst e'
        exact z (r.inj i j a ds h hx ⟨h1, h2⟩).symm
  have wk : ∀ {v : V} {d : PyData}, DA (Av F σ δ) H v d → DA (Av F σ (δ.set i (.v (.list ds)))) H v d := fun q => q.mv (fun _ _ _ e => e) fun a z => .inl (avn a z).1
  have wks : ∀ {v : List V} {d : List PyData}, DAs (Av F σ δ) H v d → DAs (Av F σ (δ.set i (.v (.list ds)))) H v d := fun q => q.mv (fun _ _ _ e => e) fun a z => .inl (avn a z).1
  refine ⟨?_, ⟨fun _ _ _ e => e, fun a z => .inl (avn a z).1⟩⟩
  exact {
    len := by rw [List.length_set]; exact r.len
    dom := r.dom
    dom0 := r.dom0
    pt0 := r.pt0
    kx := r.kx
    sl := fun j o y h1 h2 => by
      by_cases z : j = i
      · subst z
        rw [List.getElem?_set_self lt] at h2
        cases h2
        rw [hx] at h1
        cases h1
        exact ⟨_, rfl, .lst (fun z => (avn l z).2 rfl) e (wks q)⟩
      · rw [set_ne z] at h2
        have hh := r.sl j o y h1 h2
        cases y with
        | no => trivial
        | v d => obtain ⟨v', e, q'⟩ := hh; exact ⟨v', e, wk q'⟩
        | own es => obtain ⟨l', xs, e1, e2, q', f'⟩ := hh; exact ⟨l', xs, e1, e2, wks q', f'⟩
        | pk es => obtain ⟨l', xs, e1, e2, q', f'⟩ := hh; exact ⟨l', xs, e1, e2, wks q', f'⟩
        | pot => exact hh
        | scr => exact hh
    inj := fun j k a es h1 h2 ⟨h3, h4⟩ => by
      have h4' : δ[k]? = some .pot ∨ ∃ ds, δ[k]? = some (.own ds) := by
        by_cases z : k = i
        · subst z; exact .inr ⟨ds, h⟩
        · rw [set_ne z] at h4; exact h4
      by_cases z : j = i
      · subst z; rw [List.getElem?_set_self lt] at h1; cases h1
      · rw [set_ne z] at h1; exact r.inj j k a es h1 h2 ⟨h3, h4'⟩ }
theorem dem_all {K : PySem.W.Frag} {F : Fm} {σ : L2.St} {H : Hp} : ∀ (is : List Nat) {δ : Sts}, Rel K F σ H δ → Rel K F σ H (demS is δ) ∧ Stp F σ H δ σ H (demS is δ)
  | [], δ, r => ⟨r, Stp.refl⟩
  | i :: is, δ, r => by
    show Rel K F σ H (demS is (dem1 δ i)) ∧ Stp F σ H δ σ H (demS is (dem1 δ i))
    unfold dem1
    split
    · rename_i ds hd
      obtain ⟨r1, s1⟩ := dem_one r hd
      obtain ⟨r2, s2⟩ := dem_all is r1
      exact ⟨r2, s1.trans s2⟩
    · exact dem_all is r
theorem pds_dem {w : DS} (is : List Nat) (h : PS X st (tS X.K E w)) : PS X st (tS X.K E fun D δ => w D (demS is δ)) := by
  refine PS.imp h fun D σ H ⟨F, δ, DD, rel, hw, en⟩ => ?_
  obtain ⟨r, s⟩ := dem_all is rel
  exact ⟨F, _, DD, r, hw, en.step s⟩
@[irreducible] def ForR (items : List PyData) (wg : DG) (wb : DS) (D : DEnds) (δ : Sts) : Prop := ∃ Iv : Nat → Sts → Prop, Iv 0 δ ∧ (∀ (i : Nat) d δ, items[i]? = some d → Iv i δ → wg d δ fun δ2 => wb { D with nx := Iv (i + 1), ct := Iv (i + 1), bk := D.nx } δ2) ∧ ∀ δ, Iv items.length δ → D.nx δ
def dFor (wi : DI) (wg : DG) (wb : DS) : DS := fun D δ => wi δ (fun items => ForR items wg wb D δ) D.ex
theorem pds_for {tg iter : Expr} {body : List Stmt} {pos : Pos} {ix : List Nat} {wi : DI} {wg : DG} {wb : DS} (hp : PassesOwn (model X.prog X.w) X.A X.env X.xe) (hc : X.calm = true) (hi : PI X tg iter (tI .D X.K E wi)) (hg : PG X tg (tG ix X.K wg)) (hb : PSs X body (tS X.K E wb))
    (hs : ∀ x, foldedSetIterable iter X.env x = pure x := by intro _; rfl) : PS X (.For tg iter body [] pos) (tS X.K E (dFor wi wg wb)) := by
  refine PS.imp (ps_for hp hc hi hg hb hs) fun D σ H ⟨F, δ, DD, rel, hw, en⟩ => ?_
  refine ⟨F, δ, _, DD.ex, rel, hw, fun items hC J H1 rel1 kp1 ⟨ln, it⟩ => ?_, en.ex⟩
  unfold ForR at hC
  obtain ⟨Iv, i0, step, fin⟩ := hC
  have en1 := en.step (Stp.kp (F := F) kp1)
  refine ⟨fun i m σ' H' => m = items.length - i ∧ i ≤ items.length ∧ ∃ δ', Iv i δ' ∧ Rel X.K F σ' H' δ' ∧ Stp F σ H1 δ σ' H' δ', ⟨_, rfl, Nat.zero_le _, δ, i0, rel1, Stp.refl⟩, ?_⟩
  rintro i m σ' H' ⟨rfl, hi', δ', iv, r', st'⟩
  obtain ⟨go, stop⟩ := it H' (Av F σ' δ') st'.1 st'.2 fun a ha => r'.isl ha
  by_cases hlt : i < items.length
  · have hd : items[i]? = some items[i] := List.getElem?_eq_getElem hlt
    obtain ⟨g1, g2⟩ := go i _ hd
    refine .inr ⟨g1, fun σ2 H2 => ∃ δ2, Iv (i + 1) δ2 ∧ Rel X.K F σ2 H2 δ2 ∧ Stp F σ H1 δ σ2 H2 δ2, fun σ2 H2 ⟨δ2, h2, r2, s2⟩ => ⟨_, by omega, rfl, hlt, δ2, h2, r2, s2⟩, fun x H3 y => ?_⟩
    obtain ⟨s3, dx⟩ := g2 x H3 y
    have r3 := r'.same s3
    have st3 : Stp F σ H1 δ σ' H3 δ' := st'.trans (Stp.kp (Kp.same r' s3))
    refine ⟨F, δ', _, _, r3, dx, step i _ δ' hd iv, fun δ4 h4 σ4 r4 st4 _ _ => ⟨F, δ4, _, r4, h4, ?_⟩⟩
    have st5 := st3.trans st4
    exact ⟨⟨fun δ6 h6 σ6 H6 r6 s6 => ⟨δ6, h6, r6, st5.trans s6⟩⟩, en.rt, en.rtF, (en1.step st5).nx, ⟨fun δ6 h6 σ6 H6 r6 s6 => ⟨δ6, h6, r6, st5.trans s6⟩⟩, en.ex⟩
  · have e : i = items.length := by omega
    subst e
    exact .inl ⟨stop, (en1.step st').nx.go δ' (fin δ' iv) σ' H' r' Stp.refl⟩
theorem for_rng {lo : Int} {n : Nat} {wg : DG} {wb : DS} {D : DEnds} {δ : Sts} (Iv : Nat → Sts → Prop) (h0 : Iv 0 δ)
    (hs : ∀ (i : Nat) δ, i < n → Iv i δ → wg (.int (lo + i)) δ fun δ2 => wb { D with nx := Iv (i + 1), ct := Iv (i + 1), bk := D.nx } δ2) (hd : ∀ δ, Iv n δ → D.nx δ) : ForR (rngD lo n) wg wb D δ := by
  unfold ForR
  exact ⟨Iv, h0, fun i d δ hd iv => by obtain ⟨hi, rfl⟩ := rng_get hd; exact hs i δ hi iv, fun δ iv => hd δ (by rw [rng_len] at iv; exact iv)⟩
theorem for_items {items : List PyData} {wg : DG} {wb : DS} {D : DEnds} {δ : Sts} (Iv : Nat → Sts → Prop) (h0 : Iv 0 δ)
    (hs : ∀ (i : Nat) d δ, items[i]? = some d → Iv i δ → wg d δ fun δ2 => wb { D with nx := Iv (i + 1), ct := Iv (i + 1), bk := D.nx } δ2) (hd : ∀ δ, Iv items.length δ → D.nx δ) : ForR items wg wb D δ := by
  unfold ForR
  exact ⟨Iv, h0, hs, hd⟩
end
def stD (N : List Str) (args : List Sl) : Sts := args ++ List.replicate (N.length - args.length) .no
theorem paired_get {α β : Type} {R : α → β → Prop} : ∀ {xs : List α} {ys : List β}, Paired R xs ys → ∀ (i : Nat) x y, xs[i]? = some x → ys[i]? = some y → R x y
  | _, _, .nil, i, x, y, h, _ => by simp at h
  | _, _, .cons a b, 0, x, y, h, h' => by simp at h h'; subst h h'; exact a
  | _, _, .cons a b, i + 1, x, y, h, h' => paired_get b i x y (by simpa using h) (by simpa using h')
theorem start_rel {K : PySem.W.Frag} {N : List Str} {A pt : Addr → Prop} {H : Hp} {vs : List V} {args : List Sl} (dm : ∀ a, A a → ∃ xs, H a = some (.lst xs)) (hp : ∀ p, pt p → A p ∧ ∃ n, H p = some (.lst [.int n])) (q : Paired (ArgOk A pt H) vs args) : Rel K ⟨H, A, pt⟩ (L2.start N vs) H (stD N args) := by
  have hl : vs.length = args.length := q.length
  have no : ∀ (i : Nat) x, (stD N args)[i]? = some x → (i < args.length ∧ args[i]? = some x) ∨ x = .no := fun i x h => by
    unfold stD at h
    by_cases z : i < args.length
    · rw [List.getElem?_append_left z] at h; exact .inl ⟨z, h⟩
    · rw [List.getElem?_append_right (by omega), List.getElem?_replicate] at h
      split at h
      · exact .inr (Option.some.inj h).symm
      · cases h
  have arg : ∀ (i : Nat) o x, (L2.start N vs)[i]? = some o → (stD N args)[i]? = some x → x ≠ .no → ∃ v, o = some v ∧ ArgOk A pt H v x := fun i o x h1 h2 hx => by
    rcases no i x h2 with ⟨z, e⟩ | e
    · unfold L2.start at h1
      rw [List.getElem?_append_left (by rw [List.length_map]; omega), List.getElem?_map] at h1
      obtain ⟨v, hv, rfl⟩ := Option.map_eq_some_iff.mp h1
      exact ⟨v, rfl, paired_get q i v x hv e⟩
    · exact absurd e hx
  have av : ∀ a, Av ⟨H, A, pt⟩ (L2.start N vs) (stD N args) a → A a := fun a z => by
    rcases z with z | ⟨i, h1, h2⟩
    · exact z
    · rcases h2 with h2 | ⟨ds, h2⟩
      · obtain ⟨v, e, p, rfl, hp'⟩ := arg i _ _ h1 h2 (fun z => by cases z)
        cases e
        exact (hp _ hp').1
      · obtain ⟨v, e, hh⟩ := arg i _ _ h1 h2 (fun z => by cases z)
        exact hh.elim
  exact {
    len := by unfold L2.start stD; rw [List.length_append, List.length_append, List.length_map, List.length_replicate, List.length_replicate, hl]
    dom := dm
    dom0 := dm
    pt0 := hp
    kx := fun _ _ _ e => e
    sl := fun i o x h1 h2 => by
      cases x with
      | no => trivial
      | v d =>
        obtain ⟨v, e, hh⟩ := arg i _ _ h1 h2 (fun z => by cases z)
        exact ⟨v, e, DA.mv hh (fun _ _ _ e => e) fun a z => .inl (av a z)⟩
      | pot =>
        obtain ⟨v, e, p, rfl, hp'⟩ := arg i _ _ h1 h2 (fun z => by cases z)
        obtain ⟨_, n, en⟩ := hp p hp'
        exact ⟨p, n, e, en, .inl hp'⟩
      | own ds => obtain ⟨v, e, hh⟩ := arg i _ _ h1 h2 (fun z => by cases z); exact hh.elim
      | pk ds => obtain ⟨v, e, hh⟩ := arg i _ _ h1 h2 (fun z => by cases z); exact hh.elim
      | scr => obtain ⟨v, e, hh⟩ := arg i _ _ h1 h2 (fun z => by cases z); exact hh.elim
    inj := fun i j a ds h1 h2 _ => by
      obtain ⟨v, e, hh⟩ := arg i _ _ h2 h1 (fun z => by cases z)
      exact hh.elim }
def notL : PyData → Bool
  | .list _ => false
  | _ => true
def rtD : Bool → (PyData → Prop) → PyData → Prop
  | true, R, d => notL d = true ∧ R d
  | false, R, d => R d
def endsD (fr : Bool) (R : PyData → Prop) (EX : XP) : DEnds := ⟨fun _ => R .none, rtD fr R, R, fun _ => False, fun _ => False, EX⟩
theorem ends_ok {K : PySem.W.Frag} {E Ex : XK} {fr : Bool} {A pt : Addr → Prop} {H : Hp} {R : PyData → Prop} {EX EX' : XP} {Q : VK} {σ : L2.St} {δ : Sts} (k : ∀ d, R d → ∀ v H', Kq pt H H' → DA A H' v d → (fr = true → FrV H H' v) → Q v H') (o : Out ⟨H, A, pt⟩ E EX') :
    Ends1 K E ⟨H, A, pt⟩ σ H δ (endsD fr R EX') { nx := fun _ H' => Q .non H', rt := Q } where
  nx := ⟨fun δ' hR σ' H' r st => k _ hR _ H' r.ke .non fun _ => frv_non⟩
  rt := fun d h v H' ke dv => by
    cases fr with
    | false => exact k d h v H' ke dv fun z => by cases z
    | true =>
      obtain ⟨h1, h2⟩ := h
      refine k d h2 v H' ke dv fun z l e1 ⟨xs, e2⟩ => ?_
      subst e1
      cases dv with
      | @tup a ys ds n e q => rw [e] at e2; cases e2
      | @lst a ys ds n e q => cases h1
      | @dct a kvs ds n e q => rw [e] at e2; cases e2
  rtF := fun d h v H' ke dv fr' => k d h v H' ke dv fun _ => fr'
  bk := ⟨fun _ h => h.elim⟩
  ct := ⟨fun _ h => h.elim⟩
  ex := o
section
variable {P : Program} {w : World} {K : PySem.W.Frag} {mg : Str → Option Value} {base : Heap}
theorem okD {x qual : Str} {st : Stmt} {f : Addr} {fd : FuncData} {N ps : List Str} {k : Nat} {fD : DF} (fr : Bool) (F : Fun K x qual st f fd) (S : FnScope N ps (defScope st)) (len : ∀ args R EX, fD args R EX → args.length = ps.length)
    (hbody : ∀ (cdv : Value) (A : Around) (outer : List Env) (s : Shared) (H : Hp) (E : XK), Room k (A.deeper (envOfC qual (defScope st) s.heap.objs.size f cdv)) →
      ∃ wd, PSs (cxOf CX0 P w K mg base N qual (defScope st) f cdv A outer s H E).nox (defBody st) (tS K E0 wd) ∧ ∀ args R EX, fD args R EX → wd (endsD fr R XF) (stD N args)) : FnOk P w K mg base CX0 (k + 1) f fd ps (toSp fr fD) := by
  refine F.ok S (fun vs H Q E h => ?_) fun cdv A outer s H vs Q E hr h => ?_
  · obtain ⟨A, pt, args, R, EX, _, _, q, h, _⟩ := h
    rw [q.length]; exact len _ _ _ h
  · obtain ⟨wd, hp, hw⟩ := hbody cdv A outer s H E hr
    obtain ⟨A', pt, args, R, EX, dm, hpt, q, h, k, _⟩ := h
    exact ⟨_, hp, ⟨H, A', pt⟩, _, _, start_rel dm hpt q, hw args R EX h, ends_ok (Ex := E) (EX := EX) k outF⟩
end
end Dl
namespace L2
open PySem PySem.Spec PyProof.Rows
def CDivC (i j : Int) : Prop := 0 < j ∧ j ≤ 10 ^ 40
theorem op_fdivC {X : Cx} : OpR X (binaryOp .FloorDiv) (rI CDivC fun i j => .int (i / j)) := opI fun i j _ _ _ _ _ hc q => by
  have h1 : (0 : Int) < j := hc.1
  have h2 : j ≤ 10 ^ 40 := hc.2
  refine floordiv_int (by omega) (by rw [Int.fdiv_eq_ediv_of_nonneg i (by omega)]; exact q) (.inl (PyProof.noPylong_of_log2 ?_))
  have h3 : j.natAbs < 2 ^ 200 := by
    have : (10 : Int) ^ 40 < 2 ^ 200 := by decide
    omega
  have := (Nat.log2_lt (by omega : j.natAbs ≠ 0)).mpr h3
  omega
end L2
namespace Rk
open PySem PySem.Spec PyProof.Rows L2 _root_.Rd
def spTakeC0 : Sp := fun vs H Q _ => ∃ p n f, vs = [.ref p, .int f] ∧ H p = some (.lst [.int n]) ∧ 0 < f ∧ f ≤ 10 ^ 40 ∧ ∀ r m, 0 ≤ r → r < f → Q (.int r) (upd H p (.lst [.int m]))
end Rk
namespace Dl
open PySem PySem.Spec PyProof.Rows L2 _root_.Rd Rk
theorem passA {X : Cx} {E : XK} : Passes CX0 X E := fun _ _ _ _ _ _ _ h => h.elim
theorem Room.u60 {k : Nat} {A : Around} (r : Room k A) : A.units + 60 < cLine := by have := r.un; omega
theorem Room.i60 {k : Nat} {A : Around} (r : Room k A) : A.in1.units + 60 < cLine := by
  have := r.un
  show A.units + 1 + 60 < cLine
  omega
section
variable {X : Cx} {E : XK} {CX : CXT} {k : Nat} {f : Addr} {fd : FuncData} {ps : List Str} {x : Str} {p pos : Pos} {e : Expr} {es : List Expr} {fD : DF}
def dCallS0 (f : DF) (wa : DAr) : DE := fun δ Q EX => wa δ (fun ds => f (ds.map Sl.v) (fun d => scal d = true ∧ Q d) EX) EX
theorem callS0_read {n : Nat} {fr : Bool} {K : PySem.W.Frag} {f : DF} {wa : DAr} (σ : L2.St) (H : Hp) (Q : VK) (h : tX .F K E (dCallS0 f wa) σ H Q) : tCall (toSp fr f) [] E (tAr n .P K E wa) σ H Q := by
  obtain ⟨F, δ, R, EX, rel, hw, k, o⟩ := h
  refine ⟨F, δ, _, EX, rel, hw, fun args ha _ vs H1 rel1 kp1 q => ?_, o⟩
  show toSp fr f (vs ++ []) H1 Q E
  rw [List.append_nil]
  refine ⟨fun a => Av F σ δ a ∧ ¬ Lent (PotA σ δ) H1 vs a, fun _ => False, args.map Sl.v, _, EX, fun a ha => rel1.isl ha.1, fun p hp => hp.elim, lent_args vs (fun _ h => h) q, ha, fun d hd v H' kq dv fr => ?_, fun C hC H' kq => o C hC H' (rel1.same fun b o e => kq.1 b o (fun z => z) e).ke⟩
  have s : Same H1 H' := fun b o e => kq.1 b o (fun z => z) e
  refine k d hd.2 v H' (rel1.same s) (kp1.trans (Kp.same rel1 s)) ⟨scal_da dv hd.1, fun l e1 e2 => ?_⟩
  subst e1
  have hf := hd.1
  cases dv <;> cases hf
theorem pd_callS0 {n : Nat} {fr : Bool} {wr : DAr} (G : FnOk X.prog X.w X.K X.mg X.base CX k f fd ps (toSp fr fD)) (hr : Room k X.A) (hg : Gl X x) (hm : X.mg x = some (.ref f)) (hk : PySem.W.keepIn X.K (.ref f) = true) (hb : Binds X.K fd ps []) (hx : Passes CX X E)
    (ha : PA X (e :: es) (tAr n .P X.K E wr)) (hdb : (x == ("__debug__" : Str)) = false := by decide) (he : starEach (e :: es) X.env = (false, eval e X.env) :: starEach es X.env := by rfl) (hpl : (backTo pos (starEach es X.env)).any (·.1) = false := by rfl) :
    PE X (.Call (.Name x p) (e :: es) [] pos) (tX .F X.K E (dCallS0 fD wr)) := PE.imp (pe_call G hr hg hm hk hb .nil hx ha hdb he hpl) callS0_read
def takeD : DF := fun args R _ => ∃ f, args = [.pot, .v (.int f)] ∧ 0 < f ∧ f ≤ 10 ^ 40 ∧ ∀ r, 0 ≤ r → r < f → R (.int r)
theorem take_d {vs : List V} {H : Hp} {Q : VK} {Ex : XK} (h : toSp true takeD vs H Q Ex) : spTakeC0 vs H Q Ex := by
  obtain ⟨A, pt, args, R, EX, dm, hp, q, ⟨f, rfl, f0, f1, hR⟩, k, _⟩ := h
  cases q with
  | cons q1 q2 => cases q2 with
    | cons q2 q3 =>
      cases q3
      obtain ⟨p, rfl, pp⟩ := q1
      cases q2
      obtain ⟨_, n, e⟩ := hp p pp
      refine ⟨p, n, f, rfl, e, f0, f1, fun r m r0 r1 => k _ (hR r r0 r1) _ _ ⟨fun b o nb eb => ?_, fun z hz => ?_⟩ (.int _) fun _ => frv_int⟩
      · rw [upd_ne (fun z => nb (by rw [z]; exact pp))]; exact eb
      · by_cases y : z = p
        · rw [y]; exact ⟨m, upd_same⟩
        · obtain ⟨_, n', e'⟩ := hp z hz
          exact ⟨n', by rw [upd_ne y]; exact e'⟩
def potD : DF := fun args R _ => ∃ c, args = [.v (.int c)] ∧ ∀ n, R (.list [.int n])
theorem pot_d {vs : List V} {H : Hp} {Q : VK} {Ex : XK} (h : toSp true potD vs H Q Ex) : spPot vs H Q Ex := by
  obtain ⟨A, pt, args, R, EX, dm, hp, q, ⟨c, rfl, hR⟩, k, _⟩ := h
  cases q with
  | cons q1 q2 =>
    cases q2
    cases q1
    refine ⟨c, rfl, fun p n hn => k _ (hR n) _ _ ⟨fun b o _ eb => same_upd hn b o eb, fun z hz => ?_⟩ (.lst (fun z => ?_) upd_same (.cons (.int _) .nil)) fun _ => frv_new hn⟩
    · obtain ⟨_, n', e'⟩ := hp z hz
      exact ⟨n', same_upd hn _ _ e'⟩
    · obtain ⟨xs, e⟩ := dm p z
      rw [hn] at e; cases e
def isW : PyData → Bool
  | .int _ => true
  | _ => false
def wholeD : DF := fun args R _ => ∃ d, args = [.v d] ∧ R (.bool (isW d))
def sameD (n : Nat) : DF := fun args R _ => ∃ d, args = [.v d, .v d] ∧ nd d = true ∧ flatL n d = true ∧ R (.bool true)
theorem same_d {n : Nat} {vs : List V} {H : Hp} {Q : VK} {Ex : XK} (h : toSp false (sameD n) vs H Q Ex) : spSameL (n + 1) vs H Q Ex := by
  obtain ⟨A, pt, args, R, EX, dm, hp, q, ⟨d, rfl, hn, hf, hR⟩, k, _⟩ := h
  cases q with
  | cons q1 q2 => cases q2 with
    | cons q2 q3 =>
      cases q3
      exact ⟨_, _, d, rfl, da_dat d _ hn q1, da_dat d _ hn q2, hf, fun H' s => k _ hR _ H' ⟨fun b o _ e => s b o e, fun p hp' => let ⟨_, n, e⟩ := hp p hp'; ⟨n, s _ _ e⟩⟩ (.bl _) fun z => by cases z⟩
theorem scr_seq {K : PySem.W.Frag} {F : Fm} {σ : L2.St} {H : Hp} {δ : Sts} (r : Rel K F σ H δ) {a : Addr} {xs : List V} (h : SqL K F.H0 a xs) (n : ¬ F.pt a) : SqL K H a xs := by
  rcases h with h | h
  · rcases h with h | ⟨o, h⟩
    · exact .inl (.inl (r.kx _ _ n h))
    · exact .inl (.inr ⟨o, r.kx _ _ n h⟩)
  · exact .inr h
def dLenS (i : Nat) : DE := fun δ Q _ => match δ[i]? with
  | some .scr => ∀ n : Nat, n ≤ 63 → Q (.int n)
  | _ => False
theorem pd_lenS {i : Nat} {a : Expr} (hg : Gl X "len") (hm : X.mg "len" = none) (h : PE X a (tVar i)) (hs : notStar a = true := by rfl) : PE X (.Call (.Name "len" p) [a] [] pos) (tX .F X.K E (dLenS i)) := by
  refine PE.imp (pe_callB call_len_seq hg hm bt_len (pa_c h pa_nil hs) (he := by rw [star_of hs])) fun σ H Q ⟨F, δ, R, EX, rel, hw, k, o⟩ => ?_
  unfold dLenS at hw
  split at hw
  · rename_i hd
    obtain ⟨x, hx⟩ := rel.lt hd
    obtain ⟨l, ns, rfl, sq, np, n63⟩ := rel.sl i _ _ hx hd
    refine ⟨_, hx, l, _, rfl, .inl (scr_seq rel sq np), ?_⟩
    rw [List.length_map]
    exact k _ (hw _ n63) _ H rel (Kp.refl rel) ⟨.int _, frv_int⟩
  · exact hw.elim
def dCell (i : Nat) (wb : DE) : DE := fun δ Q EX => match δ[i]? with
  | some .scr => wb δ (fun d => match d with
    | .int k => 0 ≤ k ∧ ∀ c, Q (.int c)
    | _ => False) EX
  | _ => False
theorem pd_cell {i : Nat} {a b : Expr} {wb : DE} (G : FnOk X.prog X.w X.K X.mg X.base CX0 k f fd ps (spCellAt X.K)) (hr : Room k X.A) (hg : Gl X x) (hm : X.mg x = some (.ref f)) (hk : PySem.W.keepIn X.K (.ref f) = true) (hb : Binds X.K fd ps [])
    (ha : PE X a (tVar i)) (h : PE X b (tX .P X.K E wb)) (h1 : notStar a = true := by rfl) (h2 : notStar b = true := by rfl) (hdb : (x == ("__debug__" : Str)) = false := by decide) :
    PE X (.Call (.Name x p) [a, b] [] pos) (tX .F X.K E (dCell i wb)) := by
  refine PE.imp (pe_call (E := E) G hr hg hm hk hb .nil passA (pa_c ha (pa_c h pa_nil h2) h1) hdb (star_of h1) (by rw [star_of h2]; rfl)) fun σ H Q ⟨F, δ, R, EX, rel, hw, k, o⟩ => ?_
  unfold dCell at hw
  split at hw
  · rename_i hd
    obtain ⟨x, hx⟩ := rel.lt hd
    obtain ⟨l, ns, rfl, sq, np, n63⟩ := rel.sl i _ _ hx hd
    refine ⟨_, hx, F, δ, _, EX, rel, hw, fun d hd2 v H' rel' kp vk => ?_, o⟩
    cases d <;> first | exact (show False from hd2).elim | skip
    rw [DP.int vk]
    exact ⟨l, ns, _, rfl, scr_seq rel' sq np, Nat.lt_of_le_of_lt n63 (by decide), hd2.1, fun c => k _ (hd2.2 c) _ H' rel' kp ⟨.int _, frv_int⟩⟩
  · exact hw.elim
end
section
variable {P : Program} {w : World} {K : PySem.W.Frag} {mg : Str → Option Value} {base : Heap}
def spLawD (K : PySem.W.Frag) : Sp := fun vs H Q _ => ∃ (a : Addr) (ns : List Int), vs = [.ref a] ∧ SqL K H a (ns.map V.int) ∧ ns.length ≤ 63 ∧ ∀ H', Q (.bl true) H'
def endsL : DEnds := ⟨fun _ => False, fun d => d = .bool true, fun d => d = .bool true, fun _ => False, fun _ => False, XF⟩
theorem okLaw {x qual : Str} {st : Stmt} {f : Addr} {fd : FuncData} {N : List Str} {p : Str} {k : Nat} (F : Fun K x qual st f fd) (S : FnScope N [p] (defScope st))
    (hbody : ∀ (cdv : Value) (A : Around) (outer : List Env) (s : Shared) (H : Hp) (E : XK), Room k (A.deeper (envOfC qual (defScope st) s.heap.objs.size f cdv)) →
      ∃ wd, PSs (cxOf CX0 P w K mg base N qual (defScope st) f cdv A outer s H E).nox (defBody st) (tS K E0 wd) ∧ wd endsL (stD N [.scr])) : FnOk P w K mg base CX0 (k + 1) f fd [p] (spLawD K) := by
  refine F.ok S (fun vs H Q E h => ?_) fun cdv A outer s H vs Q E hr h => ?_
  · obtain ⟨a, ns, rfl, _⟩ := h
    rfl
  · obtain ⟨wd, hp, hw⟩ := hbody cdv A outer s H E hr
    obtain ⟨a, ns, rfl, sq, n63, k⟩ := h
    have get0 : ∀ (i : Nat) o y, (L2.start N [V.ref a])[i]? = some o → (stD N [.scr])[i]? = some y → y ≠ .no → o = some (.ref a) ∧ y = .scr := fun i o y h1 h2 hy => by
      cases i with
      | zero => cases h1; cases h2; exact ⟨rfl, rfl⟩
      | succ i =>
        unfold stD at h2
        rw [List.getElem?_append_right (by simp), List.getElem?_replicate] at h2
        split at h2
        · exact absurd (Option.some.inj h2).symm hy
        · cases h2
    have noav : ∀ b, ¬ Av (⟨H, fun _ => False, fun _ => False⟩ : Fm) (L2.start N [V.ref a]) (stD N [.scr]) b := fun b z => by
      rcases z with z | ⟨i, h1, h2⟩
      · exact z
      · rcases h2 with h2 | ⟨ds, h2⟩
        · cases (get0 i _ _ h1 h2 (fun z => by cases z)).2
        · cases (get0 i _ _ h1 h2 (fun z => by cases z)).2
    refine ⟨_, hp, ⟨H, fun _ => False, fun _ => False⟩, _, _, ?_, hw, ?_⟩
    · exact {
        len := by unfold L2.start stD; simp
        dom := fun _ h => h.elim
        dom0 := fun _ h => h.elim
        pt0 := fun _ h => h.elim
        kx := fun _ _ _ e => e
        sl := fun i o y h1 h2 => by
          cases y with
          | no => trivial
          | scr =>
            obtain ⟨rfl, _⟩ := get0 i _ _ h1 h2 (fun z => by cases z)
            exact ⟨a, ns, rfl, sq, fun z => z, n63⟩
          | v d => cases (get0 i _ _ h1 h2 (fun z => by cases z)).2
          | own d => cases (get0 i _ _ h1 h2 (fun z => by cases z)).2
          | pk d => cases (get0 i _ _ h1 h2 (fun z => by cases z)).2
          | pot => cases (get0 i _ _ h1 h2 (fun z => by cases z)).2
        inj := fun i j b ds h1 h2 _ => by cases (get0 i _ _ h2 h1 (fun z => by cases z)).2 }
    · exact {
        nx := ⟨fun _ h => h.elim⟩
        rt := fun d h v H' ke dv => by cases (show d = .bool true from h); cases dv; exact k H'
        rtF := fun d h v H' ke dv _ => by cases (show d = .bool true from h); cases dv; exact k H'
        bk := ⟨fun _ h => h.elim⟩
        ct := ⟨fun _ h => h.elim⟩
        ex := outF }
end
end Dl
namespace Dl
open PySem PySem.Spec PyProof.Rows L2 _root_.Rd Rk
theorem al_nil {α : Type} {p : α → Prop} : ∀ x ∈ ([] : List α), p x := fun _ h => nomatch h
theorem al_cons {α : Type} {p : α → Prop} {a : α} {l : List α} (h : p a) (t : ∀ x ∈ l, p x) : ∀ x ∈ a :: l, p x := fun x hx => by
  rcases List.mem_cons.mp hx with z | z
  · rw [z]; exact h
  · exact t x z
theorem ifC {c : Bool} {A B : Prop} (t : c = true → A) (f : c = false → B) : if c = true then A else B := by
  cases c
  · exact f rfl
  · exact t rfl
end Dl
namespace L2
open PySem PySem.Spec PyProof.Rows
section
variable {X : Cx}
end
end L2
namespace Dl
open PySem PySem.Spec PyProof.Rows L2 _root_.Rd Rk
section
variable {X : Cx} {E : XK}
def revLD (d : PyData) (Q : PyData → Prop) : Prop :=
  match d with
  | .list ds => Q (.list ds.reverse)
  | _ => False
def dRevL (we ws : DE) : DE := fun δ Q EX => we δ (fun d => ws δ (fun s => (match s with | .int i => i = -1 | _ => False) ∧ revLD d Q) EX) EX
def dTRng (w : DE) : DE := fun δ Q EX => w δ (fun d => match d with
  | .int j => (-1000 ≤ j ∧ j ≤ 1000) ∧ Q (.tuple ((List.range j.toNat).map fun (i : Nat) => .int i))
  | _ => False) EX
theorem das_rng {A : Addr → Prop} {H : Hp} (l : List Nat) : DAs A H (l.map fun (i : Nat) => V.int (i : Nat)) (l.map fun (i : Nat) => PyData.int (i : Nat)) := by
  induction l with
  | nil => exact .nil
  | cons i l ih => exact .cons (.int _) ih
variable {e : Expr} {w : DE} {p p2 pos pos2 : Pos}
theorem pd_tupRng (hg : Gl X "tuple") (hm : X.mg "tuple" = none) (hg2 : Gl X "range") (hm2 : X.mg "range" = none) (h : PE X e (tX .P X.K E w)) (hc : X.calm = true := by rfl) (hs : notStar e = true := by rfl) : PE X (.Call (.Name "tuple" p) [.Call (.Name "range" p2) [e] [] pos2] [] pos) (tX .F X.K E (dTRng w)) := by
  refine PE.imp (pe_callTy (call_tupRng hc) hg hm bt_tuple (pa_c (pe_range hg2 hm2 (pa_c h pa_nil hs) (by rw [star_of hs]; rfl)) pa_nil)) fun σ H Q ⟨F, δ, R, EX, rel, hw, k, o⟩ => ?_
  refine ⟨F, δ, _, EX, rel, hw, fun d hd v H1 rel1 kp1 vk => ?_, o⟩
  cases d <;> first | exact (show False from hd).elim | skip
  obtain ⟨⟨h1, h2⟩, hR⟩ := hd
  rw [DP.int vk]
  refine ⟨_, rfl, fun r H2 s2 n2 e2 => ⟨r, _, rfl, e2, h1, h2, fun t H3 s3 n3 e3 => ?_⟩⟩
  have r2 := rel1.same s2
  have K3 := (kp1.trans (Kp.same rel1 s2)).trans (Kp.same r2 s3)
  exact k _ hR _ H3 (r2.same s3) K3 ⟨tup_da (fun a ha => r2.isl ha) s3 e3 (das_rng _), frv_tup e3⟩
end
theorem at_mem {ds : List PyData} {i : Int} (h0 : 0 ≤ i) (h1 : i < ds.length) : ∃ d, d ∈ ds ∧ atI ds i = some d := by
  obtain ⟨j, rfl⟩ : ∃ j : Nat, i = j := ⟨i.toNat, by omega⟩
  have hj : j < ds.length := by omega
  exact ⟨ds[j], List.getElem_mem hj, atI_nat (List.getElem?_eq_getElem hj)⟩
theorem ix_of {ds : List PyData} {i : Int} {Q : PyData → Prop} (h0 : 0 ≤ i) (h1 : i < ds.length) (q : ∀ d ∈ ds, Q d) : ∃ d, atI ds i = some d ∧ Q d := by
  obtain ⟨d, hd, e⟩ := at_mem h0 h1
  exact ⟨d, e, q d hd⟩
end Dl
namespace Dl
open PySem PySem.Spec PyProof.Rows L2 _root_.Rd Rk
structure QE (m : Md) (X : Cx) (E : XK) (e : Expr) (w : DE) : Prop where h : PE X e (tX m X.K E w)
structure QT (X : Cx) (E : XK) (e : Expr) (w : DT) : Prop where h : PT X e (tT X.K E w)
structure QW (X : Cx) (E : XK) (e : Expr) (w : DT) : Prop where h : PW X e (tT X.K E w)
structure QTs (X : Cx) (E : XK) (es : List Expr) (w : DT) : Prop where h : PTs X es (tT X.K E w)
structure QA (n : Nat) (m : Md) (X : Cx) (E : XK) (es : List Expr) (w : DAr) : Prop where h : PA X es (tAr n m X.K E w)
structure QAs (X : Cx) (E : XK) (es : List Expr) (w : DSl) : Prop where h : PA X es (tAs X.K E w)
structure QG (ix : List Nat) (X : Cx) (tg : Expr) (w : DG) : Prop where h : PG X tg (tG ix X.K w)
structure QI (m : Md) (X : Cx) (E : XK) (tg it : Expr) (w : DI) : Prop where h : PI X tg it (tI m X.K E w)
structure QS (X : Cx) (E : XK) (st : Stmt) (w : DS) : Prop where h : PS X st (tS X.K E w)
structure QSs (X : Cx) (E : XK) (sts : List Stmt) (w : DS) : Prop where h : PSs X sts (tS X.K E w)
section
variable {X : Cx} {E : XK}
theorem q_toD {e : Expr} {w : DE} (h : QE .F X E e w) : QE .D X E e w := ⟨toD h.h⟩
theorem q_toP {e : Expr} {w : DE} (h : QE .D X E e w) : QE .P X E e w := ⟨toP h.h⟩
theorem q_toPF {e : Expr} {w : DE} (h : QE .F X E e w) : QE .P X E e w := ⟨toPF h.h⟩
theorem qv (i : Nat) {x : Str} {pos : Pos} (hN : X.N[i]? = some x := by rfl) (hv : Vis X.env.scope x := by first | exact Or.inl rfl | exact Or.inr (Or.inl rfl) | exact Or.inr (Or.inr rfl)) (hd : (x == ("__debug__" : Str)) = false := by decide) (hcd : (x == ("__classdict__" : Str)) = false := by decide) : QE .D X E (.Name x pos) (dVar i) := ⟨pd_var (pv i hN hv hd hcd)⟩
theorem qp (i : Nat) {x : Str} {pos : Pos} (hN : X.N[i]? = some x := by rfl) (hv : Vis X.env.scope x := by first | exact Or.inl rfl | exact Or.inr (Or.inl rfl) | exact Or.inr (Or.inr rfl)) (hd : (x == ("__debug__" : Str)) = false := by decide) (hcd : (x == ("__classdict__" : Str)) = false := by decide) : QE .P X E (.Name x pos) (dPk i) := ⟨pd_pk (pv i hN hv hd hcd)⟩
theorem q_int {i : Int} {j pos} : QE .D X E (.Constant (.int i) j pos) (dC (.int i)) := ⟨pd_int⟩
theorem q_bl {b : Bool} {j pos} : QE .D X E (.Constant (.bool b) j pos) (dC (.bool b)) := ⟨pd_bl⟩
theorem q_bin {a b : Expr} {wa wb : DE} {pos : Pos} {r : R2} {rD : PyData → PyData → (PyData → Prop) → Prop} {op : Operator} (ho : OpR X (binaryOp op) r) (hd : OpD r rD) (ha : QE .P X E a wa) (hb : QE .P X E b wb) : QE .F X E (.BinOp a op b pos) (dOp rD wa wb) := ⟨pd_bin ho hd ha.h hb.h⟩
theorem qt_cmp {a b : Expr} {wa wb : DE} {pos : Pos} {r : R2} {rD : PyData → PyData → (PyData → Prop) → Prop} {op : CmpOp} (ho : OpR X (compareOp op) r) (hd : OpD r rD) (ha : QE .P X E a wa) (hb : QE .P X E b wb) (hm : behindInMarks op b = false) : QT X E (.Compare a [op] [b] pos) (dTst (dOp rD wa wb)) := ⟨pdt_cmp ho hd ha.h hb.h hm⟩
theorem q_ix {a b : Expr} {wa wb : DE} {pos : Pos} {r : R2} {rD : PyData → PyData → (PyData → Prop) → Prop} (ho : IxR X r) (hd : OpDn r rD) (ha : QE .P X E a wa) (hb : QE .P X E b wb) (hs : PlainIx b) : QE .D X E (.Subscript a b pos) (dOp rD wa wb) := ⟨pd_ix ho hd ha.h hb.h hs⟩
theorem qt_tru {e : Expr} {w : DE} (h : QE .P X E e w) (he : ∀ whole, isTrue e X.env whole = (do let v ← whole; standAt e.pos; holding [v] (truthy v)) := by intro _; rfl) : QT X E e (dTru w) := ⟨pdt_tru h.h he⟩
theorem qt_val {e : Expr} {w : DE} (h : QE .P X E e w) (he : ∀ whole, isTrue e X.env whole = (do let v ← whole; standAt e.pos; holding [v] (truthy v)) := by intro _; rfl) : QT X E e (dTst w) := ⟨pdt_val h.h he⟩
theorem q_and {a b : Expr} {rest : List Expr} {pos : Pos} {wa wb : DE} (ha : QE .P X E a wa) (hb : QE .D X E (.BoolOp .And (b :: rest) pos) wb) : QE .D X E (.BoolOp .And (a :: b :: rest) pos) (dAndV wa wb) := ⟨pd_and ha.h hb.h⟩
theorem qw_or1 {a : Expr} {pos : Pos} {ta : DT} (ha : QT X E a ta) : QW X E (.BoolOp .Or [a] pos) ta := ⟨pdw_or1 ha.h⟩
theorem qw_or {a b : Expr} {rest : List Expr} {pos : Pos} {ta tb : DT} (ha : QT X E a ta) (hb : QW X E (.BoolOp .Or (b :: rest) pos) tb) : QW X E (.BoolOp .Or (a :: b :: rest) pos) (dOr ta tb) := ⟨pdw_or ha.h hb.h⟩
theorem q_pw {e : Expr} {t : DT} (h : QW X E e t) : QT X E e t := ⟨PW.pt h.h⟩
theorem qt_not {a : Expr} {pos : Pos} {ta : DT} (ha : QT X E a ta) : QT X E (.UnaryOp .Not a pos) (dNot ta) := ⟨pdt_not ha.h⟩
theorem q_one {op} {a : Expr} {pos : Pos} {w : DE} (h : QE .D X E a w) : QE .D X E (.BoolOp op [a] pos) w := ⟨pd_one h.h⟩
theorem q_not {a : Expr} {pos : Pos} {wa : DE} (ha : QE .P X E a wa) : QE .D X E (.UnaryOp .Not a pos) (dNotV wa) := ⟨pd_not ha.h⟩
theorem qa_nil {m : Md} : QA 0 m X E [] dNil := ⟨pda_nil⟩
theorem qa_D {n : Nat} {e : Expr} {es : List Expr} {we : DE} {wr : DAr} (he : QE .D X E e we) (hr : QA n .D X E es wr) (hs : notStar e = true := by rfl) : QA (n + 1) .D X E (e :: es) (dCons we wr) := ⟨pda_consD he.h hr.h hs⟩
theorem qa_P {n : Nat} {e : Expr} {es : List Expr} {we : DE} {wr : DAr} (he : QE .P X E e we) (hr : QA n .P X E es wr) (hs : notStar e = true := by rfl) : QA (n + 1) .P X E (e :: es) (dCons we wr) := ⟨pda_consP he.h hr.h hs⟩
theorem q_tup {n : Nat} {es : List Expr} {w : DAr} {x1} {pos : Pos} (h : QA n .D X E es w) (hn : n ≤ 1000 := by decide) : QE .F X E (.Tuple es x1 pos) (dTup w) := ⟨pd_tup h.h hn⟩
theorem q_lst {n : Nat} {es : List Expr} {w : DAr} {pos : Pos} (h : QA n .D X E es w) (hn : n ≤ 1000 := by decide) : QE .F X E (.List es pos) (dLst w) := ⟨pd_lst h.h hn⟩
theorem q_callB {x : Str} {bid : String} {p pos : Pos} {e : Expr} {es : List Expr} {n : Nat} {wr : DAr} {r : List V → Hp → VK → Prop} {rD : List PyData → (PyData → Prop) → Prop} (hc : CallR X (.builtin bid) r) (hd : CallD r rD) (hg : Gl X x) (hm : X.mg x = none) (hv : bootBuiltins x = some (.builtin bid)) (ha : QA n .P X E (e :: es) wr) (hn : x ≠ "__name__" := by decide) (hdb : (x == ("__debug__" : Str)) = false := by decide) (he : starEach (e :: es) X.env = (false, eval e X.env) :: starEach es X.env := by rfl) (hpl : (backTo pos (starEach es X.env)).any (·.1) = false := by rfl) : QE .F X E (.Call (.Name x p) (e :: es) [] pos) (dCB rD wr) := ⟨pd_callB hc hd hg hm hv ha.h hn hdb he hpl⟩
theorem q_callTy {x : Str} {T : String} {p pos : Pos} {e : Expr} {es : List Expr} {n : Nat} {wr : DAr} {r : List V → Hp → VK → Prop} {rD : List PyData → (PyData → Prop) → Prop} (hc : CallR X (.type T) r) (hd : CallD r rD) (hg : Gl X x) (hm : X.mg x = none) (hv : bootBuiltins x = some (.type T)) (ha : QA n .P X E (e :: es) wr) (hn : x ≠ "__name__" := by decide) (hdb : (x == ("__debug__" : Str)) = false := by decide) (he : starEach (e :: es) X.env = (false, eval e X.env) :: starEach es X.env := by rfl) (hpl : (backTo pos (starEach es X.env)).any (·.1) = false := by rfl) : QE .F X E (.Call (.Name x p) (e :: es) [] pos) (dCB rD wr) := ⟨pd_callTy hc hd hg hm hv ha.h hn hdb he hpl⟩
theorem q_inst {e : Expr} {we : DE} {p pos pos2 : Pos} {x : Str} (tn : Tn) (hg : Gl X "isinstance") (hm : X.mg "isinstance" = none) (he : QE .P X E e we) (hg2 : Gl X x) (hm2 : X.mg x = none) (hv : bootBuiltins x = some (.type tn.s)) (hn : x ≠ "__name__" := by decide) (hd : (x == ("__debug__" : Str)) = false := by decide) (h1 : notStar e = true := by rfl) : QE .F X E (.Call (.Name "isinstance" p) [e, .Name x pos2] [] pos) (dInst tn we) := ⟨pd_inst tn hg hm he.h (pb_ty tn hg2 hm2 hv hn hd) h1 rfl⟩
theorem q_tupRng {e : Expr} {w : DE} {p p2 pos pos2 : Pos} (hg : Gl X "tuple") (hm : X.mg "tuple" = none) (hg2 : Gl X "range") (hm2 : X.mg "range" = none) (h : QE .P X E e w) (hc : X.calm = true := by rfl) (hs : notStar e = true := by rfl) : QE .F X E (.Call (.Name "tuple" p) [.Call (.Name "range" p2) [e] [] pos2] [] pos) (dTRng w) := ⟨pd_tupRng hg hm hg2 hm2 h.h hc hs⟩
theorem qs_nil  : QAs X E [] sNil := ⟨pds_nil⟩
theorem qs_v {e : Expr} {es : List Expr} {we : DE} {wr : DSl} (he : QE .D X E e we) (hr : QAs X E es wr) (hs : notStar e = true := by rfl) : QAs X E (e :: es) (sV we wr) := ⟨pds_v he.h hr.h hs⟩
theorem qs_pot (i : Nat) {x : Str} {pos : Pos} {es : List Expr} {wr : DSl} (hr : QAs X E es wr) (hN : X.N[i]? = some x := by rfl) (hv : Vis X.env.scope x := by first | exact Or.inl rfl | exact Or.inr (Or.inl rfl) | exact Or.inr (Or.inr rfl)) (hd : (x == ("__debug__" : Str)) = false := by decide) (hcd : (x == ("__classdict__" : Str)) = false := by decide) : QAs X E (.Name x pos :: es) (sPot i wr) := ⟨pds_pot (pv i hN hv hd hcd) hr.h rfl⟩
theorem q_call {CX : CXT} {k : Nat} {f : Addr} {fd : FuncData} {ps : List Str} {x : Str} {p pos : Pos} {e : Expr} {es : List Expr} {fD : DF} {wa : DSl} (G : FnOk X.prog X.w X.K X.mg X.base CX k f fd ps (toSp false fD)) (hr : Room k X.A) (hg : Gl X x) (hm : X.mg x = some (.ref f)) (hk : PySem.W.keepIn X.K (.ref f) = true) (hb : Binds X.K fd ps []) (hx : Passes CX X E) (ha : QAs X E (e :: es) wa) (hdb : (x == ("__debug__" : Str)) = false := by decide) (he : starEach (e :: es) X.env = (false, eval e X.env) :: starEach es X.env := by rfl) (hpl : (backTo pos (starEach es X.env)).any (·.1) = false := by rfl) : QE .D X E (.Call (.Name x p) (e :: es) [] pos) (dCall fD wa) := ⟨pd_call G hr hg hm hk hb hx ha.h hdb he hpl⟩
theorem q_callF {CX : CXT} {k : Nat} {f : Addr} {fd : FuncData} {ps : List Str} {x : Str} {p pos : Pos} {e : Expr} {es : List Expr} {fD : DF} {wa : DSl} (G : FnOk X.prog X.w X.K X.mg X.base CX k f fd ps (toSp true fD)) (hr : Room k X.A) (hg : Gl X x) (hm : X.mg x = some (.ref f)) (hk : PySem.W.keepIn X.K (.ref f) = true) (hb : Binds X.K fd ps []) (hx : Passes CX X E) (ha : QAs X E (e :: es) wa) (hdb : (x == ("__debug__" : Str)) = false := by decide) (he : starEach (e :: es) X.env = (false, eval e X.env) :: starEach es X.env := by rfl) (hpl : (backTo pos (starEach es X.env)).any (·.1) = false := by rfl) : QE .F X E (.Call (.Name x p) (e :: es) [] pos) (dCall fD wa) := ⟨pd_callF G hr hg hm hk hb hx ha.h hdb he hpl⟩
theorem q_callS0 {CX : CXT} {k : Nat} {f : Addr} {fd : FuncData} {ps : List Str} {x : Str} {p pos : Pos} {e : Expr} {es : List Expr} {fD : DF} {n : Nat} {fr : Bool} {wr : DAr} (G : FnOk X.prog X.w X.K X.mg X.base CX k f fd ps (toSp fr fD)) (hr : Room k X.A) (hg : Gl X x) (hm : X.mg x = some (.ref f)) (hk : PySem.W.keepIn X.K (.ref f) = true) (hb : Binds X.K fd ps []) (hx : Passes CX X E) (ha : QA n .P X E (e :: es) wr) (hdb : (x == ("__debug__" : Str)) = false := by decide) (he : starEach (e :: es) X.env = (false, eval e X.env) :: starEach es X.env := by rfl) (hpl : (backTo pos (starEach es X.env)).any (·.1) = false := by rfl) : QE .F X E (.Call (.Name x p) (e :: es) [] pos) (dCallS0 fD wr) := ⟨pd_callS0 G hr hg hm hk hb hx ha.h hdb he hpl⟩
theorem q_cell {k : Nat} {f : Addr} {fd : FuncData} {ps : List Str} {x y : Str} {p pos pos2 : Pos} {b : Expr} {wb : DE} (i : Nat) (G : FnOk X.prog X.w X.K X.mg X.base CX0 k f fd ps (spCellAt X.K)) (hr : Room k X.A) (hg : Gl X x) (hm : X.mg x = some (.ref f)) (hk : PySem.W.keepIn X.K (.ref f) = true) (hb : Binds X.K fd ps []) (h : QE .P X E b wb) (hN : X.N[i]? = some y := by rfl) (hv : Vis X.env.scope y := by first | exact Or.inl rfl | exact Or.inr (Or.inl rfl) | exact Or.inr (Or.inr rfl)) (hd : (y == ("__debug__" : Str)) = false := by decide) (hcd : (y == ("__classdict__" : Str)) = false := by decide) (h2 : notStar b = true := by rfl) (hdb : (x == ("__debug__" : Str)) = false := by decide) : QE .F X E (.Call (.Name x p) [.Name y pos2, b] [] pos) (dCell i wb) := ⟨pd_cell G hr hg hm hk hb (pv i hN hv hd hcd) h.h rfl h2 hdb⟩
theorem q_lenS {y : Str} {p pos pos2 : Pos} (i : Nat) (hg : Gl X "len") (hm : X.mg "len" = none) (hN : X.N[i]? = some y := by rfl) (hv : Vis X.env.scope y := by first | exact Or.inl rfl | exact Or.inr (Or.inl rfl) | exact Or.inr (Or.inr rfl)) (hd : (y == ("__debug__" : Str)) = false := by decide) (hcd : (y == ("__classdict__" : Str)) = false := by decide) : QE .F X E (.Call (.Name "len" p) [.Name y pos2] [] pos) (dLenS i) := ⟨pd_lenS hg hm (pv i hN hv hd hcd) rfl⟩
theorem qg_name (i : Nat) {x : Str} {pos : Pos} (hN : X.N.Nodup) (hi : X.N[i]? = some x) (hx : Loc X.env.scope x) (hf : X.fn x = true ∨ X.env.scope.names.lookup x = some .local := by first | exact .inl rfl | exact .inr rfl | assumption) : QG [i] X (.Name x pos) (gN i) := ⟨pdg_name (pg_name hN hi hx hf)⟩
structure QGs (X : Cx) (es : List Expr) (is : List Nat) : Prop where h : PGs X es (gNs is)
theorem qg_nil  : QGs X [] [] := ⟨pgs_nil⟩
theorem qg_cons (i : Nat) {is : List Nat} {x : Str} {pos : Pos} {es : List Expr} (h : QGs X es is) (hN : X.N.Nodup) (hi : X.N[i]? = some x) (hx : Loc X.env.scope x) (hf : X.fn x = true ∨ X.env.scope.names.lookup x = some .local := by first | exact .inl rfl | exact .inr rfl | assumption) (hs : (assignEach (.Name x pos :: es) X.env).map (·.2) = assign (.Name x pos) X.env :: (assignEach es X.env).map (·.2) := by rfl) : QGs X (.Name x pos :: es) (i :: is) := ⟨pgs_cons (pg_name hN hi hx hf) h.h hs⟩
theorem qg_tup {es : List Expr} {k : Nat} {pos : Pos} {is : List Nat} (hc : X.calm = true) (h : QGs X es is) (hn : (assignEach es X.env).length = is.length := by rfl) (hst : (assignEach es X.env).findIdx? (·.1) = none := by rfl) : QG is X (.Tuple es k pos) (gTN is) := ⟨pdg_tup (pg_tup hc h.h hn hst) rfl⟩
theorem qi_list {m : Md} {tg e : Expr} {w : DE} (h : QE m X E e w) : QI m X E tg e (dItL w) := ⟨pdi_list h.h⟩
theorem qi_tup {m : Md} {tg e : Expr} {w : DE} (h : QE m X E e w) : QI m X E tg e (dItT w) := ⟨pdi_tup h.h⟩
theorem qi_rng1 {m : Md} {tg e : Expr} {w : DE} {p pos : Pos} (hg : Gl X "range") (hm : X.mg "range" = none) (h : QE .P X E e w) (hs : notStar e = true := by rfl) : QI m X E tg (.Call (.Name "range" p) [e] [] pos) (dRng1 w) := ⟨pdi_rng1 hg hm h.h hs⟩
theorem qi_rng2 {m : Md} {tg e e' : Expr} {w w' : DE} {p pos : Pos} (hg : Gl X "range") (hm : X.mg "range" = none) (h : QE .P X E e w) (h' : QE .P X E e' w') (hs : notStar e = true := by rfl) (hs' : notStar e' = true := by rfl) : QI m X E tg (.Call (.Name "range" p) [e, e'] [] pos) (dRng2 w w') := ⟨pdi_rng2 hg hm h.h h'.h hs hs'⟩
theorem qi_enumL {m : Md} {e : Expr} {w : DE} {p pos tpos : Pos} {elts : List Expr} {x1} (hg : Gl X "enumerate") (hm : X.mg "enumerate" = none) (h : QE m X E e w) (hs : notStar e = true := by rfl) : QI m X E (.Tuple elts x1 tpos) (.Call (.Name "enumerate" p) [e] [] pos) (dEnL w) := ⟨pdi_enumL hg hm h.h hs⟩
theorem qi_enumT {m : Md} {e : Expr} {w : DE} {p pos tpos : Pos} {elts : List Expr} {x1} (hg : Gl X "enumerate") (hm : X.mg "enumerate" = none) (h : QE m X E e w) (hs : notStar e = true := by rfl) : QI m X E (.Tuple elts x1 tpos) (.Call (.Name "enumerate" p) [e] [] pos) (dEnT w) := ⟨pdi_enumT hg hm h.h hs⟩
theorem qts_nil  : QTs X E [] dNoT := ⟨pdts_nil⟩
theorem qts_one {c : Expr} {t : DT} (h : QT X E c t) : QTs X E [c] t := ⟨pdts_one h.h⟩
theorem q_comp (M : List Str) (cap : List (Option Nat)) {elt tg iter : Expr} {ifs : List Expr} {scope : Scope} {pos : Pos} {ix : List Nat} {wi : DI} {wg : DG} {wt : DT} {we : DE} (hi : QI .P X E tg iter wi) (hb : ∀ cl ex s3 H3 C, QG ix (blk X M scope cl ex s3 H3 C) tg wg ∧ QTs (blk X M scope cl ex s3 H3 C) E0 ifs wt ∧ QE .D (blk X M scope cl ex s3 H3 C) E0 elt we) (hc : X.calm = true := by rfl) (ok : capOk X.N X.env.scope M scope cap = true := by rfl) (hf : freeT cap ix = true := by rfl) (hs : ∀ x, foldedSetIterable iter X.env x = pure x := by intro _; rfl) : QE .F X E (.ListComp elt [⟨tg, iter, ifs, 0⟩] scope pos) (dComp cap wi wg wt we) := ⟨pd_comp hc ok hf hi.h (fun cl ex s3 H3 C => ⟨(hb cl ex s3 H3 C).1.h, (hb cl ex s3 H3 C).2.1.h, (hb cl ex s3 H3 C).2.2.h⟩) hs⟩
theorem qss_nil  : QSs X E [] dSkip := ⟨pds_snil⟩
theorem qss_one {st : Stmt} {w : DS} (h : QS X E st w) : QSs X E [st] w := ⟨pds_one h.h⟩
theorem qss_cons {st : Stmt} {rest : List Stmt} {w w' : DS} (h : QS X E st w) (h' : QSs X E rest w') : QSs X E (st :: rest) (dSeq w w') := ⟨pds_cons h.h h'.h⟩
theorem qs_set (i : Nat) {x : Str} {e : Expr} {pos pos' : Pos} {we : DE} (he : QE .D X E e we) (hN : X.N.Nodup) (hi : X.N[i]? = some x := by rfl) (hx : Loc X.env.scope x := by first | exact Or.inl rfl | exact Or.inr rfl) (hs : swapsWith e (some (.Name x pos')) pos.line X.env = pure false := by rfl) (hf : X.fn x = true ∨ X.env.scope.names.lookup x = some .local := by first | exact .inl rfl | exact .inr rfl | assumption) : QS X E (.Assign [.Name x pos'] e pos) (dSet i we) := ⟨pds_set (ps_set hN hi hx he.h hs hf)⟩
theorem qs_setF (i : Nat) {x : Str} {e : Expr} {pos pos' : Pos} {we : DE} (he : QE .F X E e we) (hN : X.N.Nodup) (hi : X.N[i]? = some x := by rfl) (hx : Loc X.env.scope x := by first | exact Or.inl rfl | exact Or.inr rfl) (hs : swapsWith e (some (.Name x pos')) pos.line X.env = pure false := by rfl) (hf : X.fn x = true ∨ X.env.scope.names.lookup x = some .local := by first | exact .inl rfl | exact .inr rfl | assumption) : QS X E (.Assign [.Name x pos'] e pos) (dSetF i we) := ⟨pds_setF (ps_set hN hi hx he.h hs hf)⟩
theorem qs_setP (i : Nat) {x : Str} {e : Expr} {pos pos' : Pos} {we : DE} (he : QE .F X E e we) (hN : X.N.Nodup) (hi : X.N[i]? = some x := by rfl) (hx : Loc X.env.scope x := by first | exact Or.inl rfl | exact Or.inr rfl) (hs : swapsWith e (some (.Name x pos')) pos.line X.env = pure false := by rfl) (hf : X.fn x = true ∨ X.env.scope.names.lookup x = some .local := by first | exact .inl rfl | exact .inr rfl | assumption) : QS X E (.Assign [.Name x pos'] e pos) (dSetP i we) := ⟨pds_setP (ps_set hN hi hx he.h hs hf)⟩
theorem qs_asg {tg e : Expr} {pos : Pos} {ix : List Nat} {we : DE} {wg : DG} (he : QE .D X E e we) (hg : QG ix X tg wg) (hs : swapsWithSole [tg] e pos.line X.env = pure false := by rfl) (hw : swappedStores [tg] e X.env = pure none := by rfl) (h1 : (assignEach [tg] X.env).map (·.2) = [assign tg X.env] := by rfl) : QS X E (.Assign [tg] e pos) (dAsg we wg) := ⟨pds_asg (ps_asg he.h hg.h hs hw h1)⟩
theorem qs_par (i j : Nat) {x y : Str} {a b : Expr} {n : Nat} {wa : DAr} {pos px py pt : Pos} {kt k2 pt2} (ha : QA n .D X E [a, b] wa) (hN : X.N.Nodup) (hc : X.calm = true := by rfl) (hi : X.N[i]? = some x := by rfl) (hj : X.N[j]? = some y := by rfl) (hij : i ≠ j := by decide) (hx : X.env.scope.names.lookup x = some .local := by rfl) (hy : X.env.scope.names.lookup y = some .local := by rfl) (hw : swappedStores [.Tuple [.Name x px, .Name y py] kt pt] (.Tuple [a, b] k2 pt2) X.env = pure (some [x, y]) := by rfl) (hs : swapsWithSole [.Tuple [.Name x px, .Name y py] kt pt] (.Tuple [a, b] k2 pt2) pos.line X.env = pure false := by rfl) : QS X E (.Assign [.Tuple [.Name x px, .Name y py] kt pt] (.Tuple [a, b] k2 pt2) pos) (dPar i j wa) := ⟨pds_par (ps_par hc hN hi hj hij hx hy ha.h hw hs)⟩
theorem qs_ret {e : Expr} {pos : Pos} {we : DE} (h : QE .D X E e we) : QS X E (.Return (some e) pos) (dRet we) := ⟨pds_ret h.h⟩
theorem qs_retF {e : Expr} {pos : Pos} {we : DE} (h : QE .F X E e we) : QS X E (.Return (some e) pos) (dRetF we) := ⟨pds_retF h.h⟩
theorem qs_retO (i : Nat) {x : Str} {pos pos2 : Pos} (hN : X.N[i]? = some x := by rfl) (hv : Vis X.env.scope x := by first | exact Or.inl rfl | exact Or.inr (Or.inl rfl) | exact Or.inr (Or.inr rfl)) (hd : (x == ("__debug__" : Str)) = false := by decide) (hcd : (x == ("__classdict__" : Str)) = false := by decide) : QS X E (.Return (some (.Name x pos)) pos2) (dRetO i) := ⟨pds_retO (pv i hN hv hd hcd)⟩
theorem qs_if {c : Expr} {a b : List Stmt} {pos : Pos} {t : DT} {w w' : DS} (hc : QT X E c t) (ha : QSs X E a w) (hb : QSs X E b w') : QS X E (.If c a b pos) (dIf t w w') := ⟨pds_if hc.h ha.h hb.h⟩
theorem qs_aug (i : Nat) {x : Str} {e : Expr} {we : DE} {op : Operator} {ti : TIp} {rD : PyData → PyData → (PyData → Prop) → Prop} {pos pos' : Pos} (ho : PIp X op ti) (hd : OpDn ti rD) (he : QE .P X E e we) (hN : X.N.Nodup) (hi : X.N[i]? = some x := by rfl) (hx : Loc X.env.scope x := by first | exact Or.inl rfl | exact Or.inr rfl) (hf : X.fn x = true ∨ X.env.scope.names.lookup x = some .local := by first | exact .inl rfl | exact .inr rfl | assumption) : QS X E (.AugAssign (.Name x pos') op e pos) (dAug i rD we) := ⟨pds_aug hd (ps_aug hN hi hx he.h (PIp.len ho) hf)⟩
theorem qs_ext {y : Str} {e : Expr} {we : DE} {apos cpos pos npos : Pos} (i : Nat) (he : QE .P X E e we) (hN : X.N[i]? = some y := by rfl) (hv : Vis X.env.scope y := by first | exact Or.inl rfl | exact Or.inr (Or.inl rfl) | exact Or.inr (Or.inr rfl)) (hd : (y == ("__debug__" : Str)) = false := by decide) (hcd : (y == ("__classdict__" : Str)) = false := by decide) (hst : notStar e = true := by rfl) (hbase : attributeBase (.Name y npos) "extend" X.env (eval (.Name y npos) X.env) = eval (.Name y npos) X.env := by rfl) (hfew : ((backTo cpos (starEach [e] X.env)).all (fun x => !x.1) && (backToKw cpos (keywordEach [] X.env)).all (fun x => x.1.isSome) && decide ([e].length + ([] : List Keyword).length + (if ([] : List Keyword).isEmpty then 0 else 1) < 30)) = true := by rfl) (hline : (apos.endLine == cpos.line) = true := by rfl) (hsw : swapsWith (.Call (.Attribute (.Name y npos) "extend" apos) [e] [] cpos) none pos.line X.env = pure false := by rfl) : QS X E (.Expr (.Call (.Attribute (.Name y npos) "extend" apos) [e] [] cpos) pos) (dExt i we) := ⟨pds_ext (ps_expr (pe_bm PySem.F.plainAttrs_list PySem.F.slot_list_extend PySem.F.type_list_extend mt_extend (pv i hN hv hd hcd) (pa_c he.h pa_nil hst) hbase hfew hline (star_of hst) rfl) hsw)⟩
theorem qs_augP {y : Str} {e k : Expr} {we wk : DE} {op : Operator} {ti : TIp} {rD : PyData → PyData → (PyData → Prop) → Prop} {pos tpos npos : Pos} (i : Nat) (ho : PIp X op ti) (hd : OpDn ti rD) (hk : QE .P X E k wk) (he : QE .P X E e we) (hN : X.N[i]? = some y := by rfl) (hv : Vis X.env.scope y := by first | exact Or.inl rfl | exact Or.inr (Or.inl rfl) | exact Or.inr (Or.inr rfl)) (hdd : (y == ("__debug__" : Str)) = false := by decide) (hcd : (y == ("__classdict__" : Str)) = false := by decide) (ha : ∀ ov iv new, augStore k ov iv new = (do holding [new, ov, iv] (setItem ov iv new); release [new, ov, iv] []; pure .next) := by intros; rfl) : QS X E (.AugAssign (.Subscript (.Name y npos) k tpos) op e pos) (dAugP i rD wk we) := ⟨pds_augP hd (ps_augS (pv i hN hv hdd hcd) hk.h get_list he.h (PIp.len ho) set_list ha)⟩
theorem qs_dem {st : Stmt} {w : DS} (is : List Nat) (h : QS X E st w) : QS X E st (fun D δ => w D (demS is δ)) := ⟨pds_dem is h.h⟩
theorem qs_for {tg iter : Expr} {body : List Stmt} {pos : Pos} {ix : List Nat} {wi : DI} {wg : DG} {wb : DS} (hp : PassesOwn (model X.prog X.w) X.A X.env X.xe) (hc : X.calm = true) (hi : QI .D X E tg iter wi) (hg : QG ix X tg wg) (hb : QSs X E body wb) (hs : ∀ x, foldedSetIterable iter X.env x = pure x := by intro _; rfl) : QS X E (.For tg iter body [] pos) (dFor wi wg wb) := ⟨pds_for hp hc hi.h hg.h hb.h hs⟩
end
section
variable {P : Program} {w : World} {K : PySem.W.Frag} {mg : Str → Option Value} {base : Heap}
theorem okQ {x qual : Str} {st : Stmt} {f : Addr} {fd : FuncData} {N ps : List Str} {k : Nat} {fD : DF} (fr : Bool) (F : Fun K x qual st f fd) (S : FnScope N ps (defScope st)) (len : ∀ args R EX, fD args R EX → args.length = ps.length)
    (hbody : ∀ (cdv : Value) (A : Around) (outer : List Env) (s : Shared) (H : Hp) (E : XK), Room k (A.deeper (envOfC qual (defScope st) s.heap.objs.size f cdv)) →
      ∃ wd, QSs (cxOf CX0 P w K mg base N qual (defScope st) f cdv A outer s H E).nox E0 (defBody st) wd ∧ ∀ args R EX, fD args R EX → wd (endsD fr R XF) (stD N args)) : FnOk P w K mg base CX0 (k + 1) f fd ps (toSp fr fD) :=
  okD fr F S len fun cdv A outer s H E hr => let ⟨wd, h, q⟩ := hbody cdv A outer s H E hr; ⟨wd, h.h, q⟩
theorem okQL {x qual : Str} {st : Stmt} {f : Addr} {fd : FuncData} {N : List Str} {p : Str} {k : Nat} (F : Fun K x qual st f fd) (S : FnScope N [p] (defScope st))
    (hbody : ∀ (cdv : Value) (A : Around) (outer : List Env) (s : Shared) (H : Hp) (E : XK), Room k (A.deeper (envOfC qual (defScope st) s.heap.objs.size f cdv)) →
      ∃ wd, QSs (cxOf CX0 P w K mg base N qual (defScope st) f cdv A outer s H E).nox E0 (defBody st) wd ∧ wd endsL (stD N [.scr])) : FnOk P w K mg base CX0 (k + 1) f fd [p] (spLawD K) :=
  okLaw F S fun cdv A outer s H E hr => let ⟨wd, h, q⟩ := hbody cdv A outer s H E hr; ⟨wd, h.h, q⟩
end
end Dl
namespace Dl
open PySem PySem.Spec PyProof.Rows L2 _root_.Rd Rk
structure GOk (wg : DG) : Prop where h : ∀ d δ Q, wg d δ Q → wg d δ fun δ' => (∀ (j : Nat) x, δ'[j]? = some x → (∃ e, x = .v e) ∨ δ[j]? = some x) ∧ Q δ'
theorem gok_name (i : Nat) : GOk (gN i) := ⟨fun d δ Q h => ⟨fun j x e => by
  by_cases z : j = i
  · subst z; exact .inl ⟨d, set_eq e⟩
  · rw [set_ne z] at e; exact .inr e, h⟩⟩
theorem free_no {cap : List (Option Nat)} {ix : List Nat} (hf : freeT cap ix = true) {i : Nat} (hi : i ∈ ix) : cap[i]? = some none := by
  have := List.all_eq_true.mp hf i hi
  split at this
  · assumption
  · cases this
theorem free_out {cap : List (Option Nat)} {ix : List Nat} (hf : freeT cap ix = true) {δ : Sts} {i : Nat} {x : Sl} (h : (capD cap δ)[i]? = some x) (hx : x ≠ .no) : i ∉ ix := fun z => by
  rcases capD_get h with ⟨_, e⟩ | ⟨j, hj, _⟩
  · exact hx e
  · rw [free_no hf z] at hj; cases hj
section
variable {K : PySem.W.Frag} {σ σ4 : L2.St} {δ δ4 : Sts} {cap : List (Option Nat)} {ix : List Nat} {A1 : Addr → Prop} {H3 H5 H6 : Hp}
theorem in_av2 (hP : ∀ a, PotA σ δ a → A1 a) (hf : freeT cap ix = true) (j4 : ∀ j, j ∉ ix → σ4[j]? = (capS cap σ)[j]?) (gk : ∀ (j : Nat) x, δ4[j]? = some x → (∃ e, x = .v e) ∨ (capD cap δ)[j]? = some x) {a : Addr} (h : Av (inF A1 cap σ δ H3) σ4 δ4 a) : A1 a := by
  rcases h with z | ⟨i, h1, h2⟩
  · exact z
  · refine (inF_av (cap := cap) (H := H3) hP).mp ?_
    rcases h2 with h2 | ⟨ds, h2⟩
    · rcases gk i _ h2 with ⟨e, z⟩ | z
      · cases z
      · exact .inr ⟨i, by rw [← j4 i (free_out hf z (fun z => by cases z))]; exact h1, .inl z⟩
    · rcases gk i _ h2 with ⟨e, z⟩ | z
      · cases z
      · exact .inr ⟨i, by rw [← j4 i (free_out hf z (fun z => by cases z))]; exact h1, .inr ⟨ds, z⟩⟩
theorem in_rel2 (hP : ∀ a, PotA σ δ a → A1 a) (hf : freeT cap ix = true) (j4 : ∀ j, j ∉ ix → σ4[j]? = (capS cap σ)[j]?) (gk : ∀ (j : Nat) x, δ4[j]? = some x → (∃ e, x = .v e) ∨ (capD cap δ)[j]? = some x)
    (ri : Rel K (inF A1 cap σ δ H6) (capS cap σ) H6 (capD cap δ)) (r5 : Rel K (inF A1 cap σ δ H3) σ4 H5 δ4) (kk : ∀ a o, ¬ A1 a → H5 a = some o → H6 a = some o) : Rel K (inF A1 cap σ δ H6) σ4 H6 δ4 where
  len := r5.len
  dom := ri.dom
  dom0 := ri.dom0
  pt0 := ri.pt0
  kx := ri.kx
  sl := fun i o x h1 h2 => by
    have iv : ∀ {a : Addr}, Av (inF A1 cap σ δ H6) σ4 δ4 a → A1 a := fun {a} z => in_av2 hP hf j4 gk z
    rcases gk i x h2 with ⟨d, rfl⟩ | hx
    · obtain ⟨v, e, q⟩ := r5.sl i o _ h1 h2
      exact ⟨v, e, q.mv (fun a o n e => kk a o (fun z => n (.inl z)) e) fun a z => .inl (.inl (iv z))⟩
    · by_cases hn : x = .no
      · subst hn; trivial
      · have h1' : (capS cap σ)[i]? = some o := by rw [← j4 i (free_out hf hx hn)]; exact h1
        have h := ri.sl i o x h1' hx
        cases x with
        | no => trivial
        | v d => obtain ⟨v', e, q'⟩ := h; exact ⟨v', e, q'.mv (fun _ _ _ e => e) fun a z => .inl (.inl (iv z))⟩
        | own ds => obtain ⟨l, xs, e, e2, q', f⟩ := h; exact ⟨l, xs, e, e2, q'.mv (fun _ _ _ e => e) fun a z => .inl (.inl (iv z)), f⟩
        | pk ds => obtain ⟨l, xs, e, e2, q', f⟩ := h; exact ⟨l, xs, e, e2, q'.mv (fun _ _ _ e => e) fun a z => .inl (.inl (iv z)), f⟩
        | pot => exact h
        | scr => exact h
  inj := fun i j a ds h1 h2 _ => by
    rcases gk i _ h1 with ⟨e, z⟩ | z
    · cases z
    · rcases capD_get z with ⟨_, e⟩ | ⟨j, hj, e⟩
      · cases e
      · exfalso
        cases e2 : δ[j]? with
        | none => rw [e2] at e; cases e
        | some y => rw [e2] at e; cases y <;> cases e
end
theorem turn_in2 {K : PySem.W.Frag} {F : Fm} {σ : L2.St} {δ : Sts} {H1 H3 : Hp} {cap : List (Option Nat)} {ix : List Nat} {wg : DG} {wt : DT} {A1 : Addr → Prop} {x : V} {d : PyData} {inner : L2.St → Hp → (Hp → Prop) → Prop} {kk : Hp → Prop} {T : Sts → Prop} {N : Prop} (gok : GOk wg)
    (hf : freeT cap ix = true) (rel : Rel K F σ H1 δ) (hA : ∀ a, Av F σ δ a → A1 a) (hN : ∀ a, A1 a → Av F σ δ a ∨ H1 a = none) (dm : ∀ a, A1 a → ∃ xs, H3 a = some (.lst xs)) (kp : Kp σ δ H1 H3) (dx : DA A1 H3 x d)
    (h : wg d (capD cap δ) fun δ4 => wt δ4 (fun b => if b = true then T δ4 else N) XF)
    (hT : ∀ σ4 δ4 H5, T δ4 → Rel K (inF A1 cap σ δ H3) σ4 H5 δ4 → Kp σ δ H3 H5 → (∀ j, j ∉ ix → σ4[j]? = (capS cap σ)[j]?) → σ4.length = (capS cap σ).length → (∀ (j : Nat) x, δ4[j]? = some x → (∃ e, x = .v e) ∨ (capD cap δ)[j]? = some x) → inner σ4 H5 kk) (hF : N → ∀ H5, Kp σ δ H3 H5 → kk H5) :
    bOf (capS cap σ) (tG ix K wg) (tT K E0 wt) inner x H3 kk := by
  have ri := in_rel (cap := cap) rel hA hN dm kp
  have iv : ∀ {a : Addr}, Av (inF A1 cap σ δ H3) (capS cap σ) (capD cap δ) a → A1 a := fun {a} => (inF_av fun a z => hA a (pot_av z)).mp
  refine ⟨inF A1 cap σ δ H3, capD cap δ, d, _, ri, dx.mv (fun _ _ _ e => e) fun a z => .inl (iv z), gok.h _ _ _ h, fun δ4 ⟨g4, h4⟩ σ4 r4 st4 l4 j4 => ⟨cap_wk hf l4 j4, inF A1 cap σ δ H3, δ4, _, XF, r4, h4, fun b hb H5 r5 kp5 => ?_, outF⟩⟩
  have pots : ∀ {b : Addr}, PotA σ4 δ4 b → PotA σ δ b := fun z => in_pots r4 (fun b o _ e1 e2 => by rw [e2] at e1; cases e1) z
  have K5 : Kp σ δ H3 H5 := by
    refine ⟨fun b o n e => kp5.1 b o (fun z => n (pots z)) e, fun b hb => ?_⟩
    by_cases z : PotA σ4 δ4 b
    · exact kp5.2 b z
    · obtain ⟨n, e⟩ := kp.2 b hb
      exact ⟨n, kp5.1 _ _ z e⟩
  exact if_imp hb (fun z => hT σ4 δ4 H5 z r5 K5 j4 l4 g4) fun z => hF z H5 K5
theorem elt_in2 {K : PySem.W.Frag} {σ σ4 : L2.St} {δ δ4 : Sts} {H1 H3 H5 : Hp} {cap : List (Option Nat)} {we : DE} {A1 : Addr → Prop} {p : Addr} {acc : List PyData} {kk : Hp → Prop} {G : PyData → Prop}
    (hpA : A1 p) (hP : ∀ a, PotA σ δ a → A1 a) (hp1 : H1 p = none) (hpn : ¬ PotA σ δ p) (lp : Lp σ δ A1 p H1 H5 acc) (hl : acc.length < sizeLine) (r5 : Rel K (inF A1 cap σ δ H3) σ4 H5 δ4) (pots : ∀ b, PotA σ4 δ4 b → PotA σ δ b)
    (h : we δ4 G XF) (hk : ∀ e, G e → ∀ H', Lp σ δ A1 p H1 H' (acc ++ [e]) → (∀ b o, ¬ A1 b → H5 b = some o → H' b = some o) → kk H') : bElt p (tX .D K E0 we) σ4 H5 kk := by
  refine ⟨inF A1 cap σ δ H3, δ4, G, XF, r5, h, fun e he v H6 r6 kp6 dv => ?_, outF⟩
  have k56 : Kp σ δ H5 H6 := by
    refine ⟨fun b o n e => kp6.1 b o (fun z => n (pots b z)) e, fun b hb => ?_⟩
    by_cases z : PotA σ4 δ4 b
    · exact kp6.2 b z
    · obtain ⟨n, e⟩ := lp.kp.2 b hb
      exact ⟨n, kp6.1 _ _ z e⟩
  obtain ⟨k6, ys, e6, q6⟩ := lp.step hP hpn k56
  have up : ∀ {b : Addr} {o : HO}, ¬ A1 b → H6 b = some o → upd H6 p (.lst (ys ++ [v])) b = some o := fun {b o} n e => by rw [upd_ne (fun z => n (by rw [z]; exact hpA))]; exact e
  refine ⟨ys, e6, by rw [q6.length]; exact hl, hk e he _ ⟨⟨fun b o n e => ?_, fun b hb => ?_⟩, ys ++ [v], upd_same, DAs.app (q6.mv (fun _ _ => up) fun a z => .inl z) (.cons (DA.mv dv (fun a o n e => up (fun z => n (.inl z)) e) fun a z => .inl (.inl z)) .nil)⟩ fun b o n e => up n (kp6.1 b o (fun z => n (hP b (pots b z))) e)⟩
  · rw [upd_ne (fun z => by rw [z, hp1] at e; cases e)]
    exact k6.1 b o n e
  · rw [upd_ne (fun z => hpn (by rw [← z]; exact hb))]
    exact k6.2 b hb
def lineC : Nat := 1000000
@[irreducible] def InR (items2 : List PyData) (wg2 : DG) (wt2 : DT) (we : DE) (δ4 : Sts) (acc : List PyData) (N : List PyData → Prop) : Prop := ∃ Jv : Nat → List PyData → Prop, Jv 0 acc ∧
  (∀ (j : Nat) acc2 d2, items2[j]? = some d2 → Jv j acc2 → acc2.length < lineC ∧ wg2 d2 δ4 fun δ5 => wt2 δ5 (fun b => if b = true then we δ5 (fun e => Jv (j + 1) (acc2 ++ [e])) XF else Jv (j + 1) acc2) XF) ∧ ∀ acc2, Jv items2.length acc2 → N acc2
@[irreducible] def CompR2 (items : List PyData) (wg : DG) (wt : DT) (wi2 : DI) (wg2 : DG) (wt2 : DT) (we : DE) (δ : Sts) (Q : PyData → Prop) : Prop := ∃ Iv : Nat → List PyData → Prop, Iv 0 [] ∧
  (∀ (i : Nat) acc d, items[i]? = some d → Iv i acc → wg d δ fun δ4 => wt δ4 (fun b => if b = true then wi2 δ4 (fun items2 => InR items2 wg2 wt2 we δ4 acc (Iv (i + 1))) XF else Iv (i + 1) acc) XF) ∧ ∀ acc, Iv items.length acc → Q (.list acc)
def dComp2 (cap : List (Option Nat)) (wi : DI) (wg : DG) (wt : DT) (wi2 : DI) (wg2 : DG) (wt2 : DT) (we : DE) : DE := fun δ Q EX => wi δ (fun items => CompR2 items wg wt wi2 wg2 wt2 we (capD cap δ) Q) EX
section
variable {X : Cx} {E : XK}
theorem lineC_le : lineC ≤ sizeLine := Nat.le_trans (by decide) lineM
end
section
variable {X : Cx} {E : XK}
end
theorem in_fm {items2 : List PyData} {wg2 : DG} {wt2 : DT} {we : DE} {δ4 : Sts} {acc : List PyData} {N : List PyData → Prop} (G : PyData → Option PyData) (hl : acc.length + items2.length < lineC)
    (h : ∀ d ∈ items2, ∀ (k1 : Prop) (k2 : PyData → Prop), (G d = none → k1) → (∀ e, G d = some e → k2 e) → wg2 d δ4 fun δ5 => wt2 δ5 (fun b => if b = true then we δ5 k2 XF else k1) XF) (q : N (acc ++ items2.filterMap G)) :
    InR items2 wg2 wt2 we δ4 acc N := by
  unfold InR
  refine ⟨fun i acc2 => acc2 = acc ++ (items2.take i).filterMap G, by simp, fun i acc2 d hd e => ?_, fun acc2 e => by rw [e, List.take_length]; exact q⟩
  have e : acc2 = acc ++ (items2.take i).filterMap G := e
  have hs : (items2.take (i + 1)).filterMap G = (items2.take i).filterMap G ++ (G d).toList := by
    rw [List.take_add_one, hd, List.filterMap_append]
    cases e2 : G d <;> simp [e2]
  refine ⟨?_, h d (List.mem_of_getElem? hd) _ _ (fun e2 => ?_) fun e' e2 => ?_⟩
  · have := List.length_filterMap_le G (items2.take i)
    have h2 : (items2.take i).length ≤ items2.length := by rw [List.length_take]; exact Nat.min_le_right _ _
    rw [e, List.length_append]
    omega
  · show acc2 = acc ++ (items2.take (i + 1)).filterMap G
    rw [hs, e2, e]; simp
  · show acc2 ++ [e'] = acc ++ (items2.take (i + 1)).filterMap G
    rw [hs, e2, e]; simp
theorem in_map {items2 : List PyData} {wg2 : DG} {we : DE} {δ4 : Sts} {acc : List PyData} {N : List PyData → Prop} (G : PyData → PyData) (hl : acc.length + items2.length < lineC)
    (h : ∀ d ∈ items2, ∀ (k2 : PyData → Prop), k2 (G d) → wg2 d δ4 fun δ5 => we δ5 k2 XF) (q : N (acc ++ items2.map G)) : InR items2 wg2 dNoT we δ4 acc N := by
  refine in_fm (fun d => some (G d)) hl (fun d hd k1 k2 _ h2 => ?_) (by rw [show items2.filterMap (fun d => some (G d)) = items2.map G from by rw [← List.filterMap_eq_map]; rfl]; exact q)
  have hh := h d hd k2 (h2 _ rfl)
  simp only [dNoT, if_true]
  exact hh
def rSortIL : List V → Hp → VK → Prop := fun xs H Q => ∃ l ns, xs = [.ref l] ∧ H l = some (.lst ((ns : List Int).map V.int)) ∧ ns.length < 64 ∧
  ∀ t ms H2, Same H H2 → H t = none → H2 t = some (.lst ((ms : List Int).map V.int)) → ms.Perm ns → ms.Pairwise (· ≤ ·) → Q (.ref t) H2
section
open Rs PySem.W PySem.Calls
variable {X : Cx}
theorem call_sortIL : CallR X (.builtin "sorted") rSortIL := by
  intro pins s σ H xs us Q I r h
  obtain ⟨l, ns, rfl, hl, h64, q⟩ := h
  obtain ⟨u, rfl, ru⟩ := vals1 r
  cases ru
  obtain ⟨hz, its, n, rv, ho⟩ := I.hok l _ hl
  have li := rv.length
  rw [List.length_map] at li
  refine sorted_shell (.inl rfl) ho rfl rfl (by omega) fun h' kp P E' hP => ?_
  have hn : (h'.push (seqObj "list" its.toArray 0)).get? h'.objs.size = some (seqObj "list" its.toArray 0) := Heap.get?_push_size _ rfl
  refine list_sort_tree (s := { s with heap := h'.push (seqObj "list" its.toArray 0) }) hn (ints_are rv) (by omega) fun out ns' ia pm pw => hP _ ?_
  have I1 : Inv X pins σ H { s with heap := h' } := I.kept (t' := s.toks) kp
  have hf : H h'.objs.size = none := I1.hok.fresh (Nat.le_refl _)
  obtain ⟨e, he⟩ : ∃ e, (sortedHeap (h'.push (seqObj "list" its.toArray 0)) h'.objs.size its out).get? h'.objs.size = some (seqObj "list" out e) := sortedHeap_at hn
  have rv' := are_ints ia
  have lp := pm.length_eq
  have I2 : Inv X pins σ (upd H h'.objs.size (.lst (ns'.map V.int))) { s with heap := sortedHeap (h'.push (seqObj "list" its.toArray 0)) h'.objs.size its out } :=
    I1.laid (t' := s.toks) (fun b x e' => (sortedHeap_old (Nat.ne_of_lt (Heap.lt_size e')) (Nat.lt_of_lt_of_le (Heap.lt_size e') (by rw [size_push']; exact Nat.le_succ _))).trans (Heap.get?_push_of_some _ e')) (Nat.le_refl _) (show ObjOk X.prog X.w _ _ _ (.lst _) from ⟨by rw [List.length_map]; exact Nat.le_of_lt (Rk.lt_line (by omega)), out.toList, e, rv', by rw [he]⟩)
  exact ⟨.ref h'.objs.size, _, I2, rfl, q _ ns' _ (same_upd hf) hf upd_same pm pw⟩
def rSortB (K : PySem.W.Frag) : List V → Hp → VK → Prop := fun xs H Q => rSortI K xs H Q ∨ rSortIL xs H Q
theorem call_sortB : CallR X (.builtin "sorted") (rSortB X.K) := by
  intro pins s σ H xs us Q I r h
  rcases h with h | h
  · exact call_sortI pins s σ H xs us Q I r h
  · exact call_sortIL pins s σ H xs us Q I r h
end
@[irreducible] def sortD : List PyData → (PyData → Prop) → Prop
  | [.list ds], Q => ∃ ns, asInts ds = some ns ∧ ns.length < 64 ∧ ∀ ms : List Int, ms.Perm ns → ms.Pairwise (· ≤ ·) → Q (.list (ms.map .int))
  | [.tuple ds], Q => ∃ ns, asInts ds = some ns ∧ ns.length < 64 ∧ ∀ ms : List Int, ms.Perm ns → ms.Pairwise (· ≤ ·) → Q (.list (ms.map .int))
  | _, _ => False
theorem ints_das {A : Addr → Prop} {H : Hp} : ∀ ms : List Int, DAs A H (ms.map V.int) (ms.map .int)
  | [] => .nil
  | m :: ms => .cons (.int m) (ints_das ms)
theorem cd_sort {K : PySem.W.Frag} : CallD (rSortB K) sortD := fun A P H vs ds R Q ln dm q h k => by
  unfold sortD at h
  split at h
  · obtain ⟨v, rfl, hv⟩ := pd1 q
    obtain ⟨bs, hb, h64, hR⟩ := h
    rw [ints_eq hb] at hv
    obtain ⟨l, xs, rfl, e, qq⟩ := hv.list
    rw [das_ints qq] at e
    exact .inr ⟨l, bs, rfl, e, h64, fun t ms H2 s n e2 pm pw => k _ (hR ms pm pw) _ H2 s (new_da dm s n e2 (ints_das ms)) (frv_new n)⟩
  · obtain ⟨v, rfl, hv⟩ := pd1 q
    obtain ⟨bs, hb, h64, hR⟩ := h
    rw [ints_eq hb] at hv
    obtain ⟨l, xs, rfl, e, qq⟩ := hv.tuple
    rw [das_ints qq] at e
    exact .inl ⟨l, bs, rfl, SqT.of e, h64, fun t ms H2 s n e2 pm pw => k _ (hR ms pm pw) _ H2 s (new_da dm s n e2 (ints_das ms)) (frv_new n)⟩
  · exact h.elim
theorem sort_of {ds : List PyData} {Q : PyData → Prop} {ns : List Int} (h : asInts ds = some ns) (h64 : ns.length < 64) (k : ∀ ms : List Int, ms.Perm ns → ms.Pairwise (· ≤ ·) → Q (.list (ms.map .int))) : sortD [.list ds] Q ∧ sortD [.tuple ds] Q := by
  unfold sortD
  exact ⟨⟨ns, h, h64, k⟩, ns, h, h64, k⟩
end Dl
namespace PySem
namespace AutoSeq1
open PyProof PyProof.Rows
end AutoSeq1
end PySem
namespace L2
open PySem PySem.Spec PyProof.Rows
end L2
namespace Dl
open PySem PySem.Spec PyProof.Rows L2 _root_.Rd Rk
section
variable {X : Cx} {E : XK}
end
end Dl
namespace Dl
open PySem PySem.Spec PyProof.Rows L2 _root_.Rd Rk
theorem comp_read {K : PySem.W.Frag} {E : XK} {cap : List (Option Nat)} {ix : List Nat} {wi : DI} {wg : DG} {wt : DT} {we : DE} (hf : freeT cap ix = true) (σ : L2.St) (H : Hp) (Q : VK) (h : tX .F K E (dComp cap wi wg wt we) σ H Q) :
    tComp cap (tI .P K E wi) (tG ix K wg) (tT K E0 wt) (tX .D K E0 we) σ H Q := by
  obtain ⟨F, δ, R, EX, rel, hw, k, o⟩ := h
  refine ⟨F, δ, _, EX, rel, hw, fun items hC J H1 rel1 kp1 ⟨ln, it⟩ p hp => ?_, o⟩
  unfold CompR at hC
  obtain ⟨Iv, i0, step, fin⟩ := hC
  have hpn : ¬ PotA σ δ p := fun z => by obtain ⟨xs, e⟩ := rel1.isl (pot_av (F := F) z); rw [hp] at e; cases e
  let A1 : Addr → Prop := fun a => Av F σ δ a ∨ a = p
  have hP : ∀ a, PotA σ δ a → A1 a := fun a z => .inl (pot_av z)
  have hN : ∀ a, A1 a → Av F σ δ a ∨ H1 a = none := fun a z => z.elim .inl fun z => .inr (by rw [z]; exact hp)
  have dmK : ∀ {H2 : Hp}, Kp σ δ H1 H2 → (∃ ys, H2 p = some (.lst ys)) → ∀ a, A1 a → ∃ xs, H2 a = some (.lst xs) := fun {H2} k2 e2 a z => by
    rcases z with z | z
    · exact (rel1.kp k2).isl z
    · rw [z]; exact e2
  refine loop_by items.length (fun i H2 => i ≤ items.length ∧ ∃ acc, Iv i acc ∧ acc.length ≤ i ∧ Lp σ δ A1 p H1 H2 acc) ⟨Nat.zero_le _, [], i0, Nat.le_refl _, Kp.same rel1 (same_upd hp), [], upd_same, .nil⟩ (fun i H2 hi ⟨_, acc, iv, hl, lp⟩ => ?_) fun H2 ⟨_, acc, iv, hl, lp⟩ => ?_
  · obtain ⟨k2, ys, e2, q2⟩ := lp
    obtain ⟨go, _⟩ := it H2 A1 (fun b o n e => k2.1 b o n e) hN (dmK k2 ⟨ys, e2⟩)
    have hd : items[i]? = some items[i] := List.getElem?_eq_getElem hi
    obtain ⟨g1, g2⟩ := go i _ hd
    refine ⟨g1, fun x H3 y kk hk => ?_⟩
    obtain ⟨s3, dx⟩ := g2 x H3 y
    have k23 := Kp.same (rel1.kp k2) s3
    have lp3 : Lp σ δ A1 p H1 H3 acc := Lp.step hP hpn ⟨k2, ys, e2, q2⟩ k23
    refine turn_in hf rel1 (fun a z => .inl z) hN (dmK lp3.kp ⟨ys, s3 _ _ e2⟩) lp3.kp dx (step i acc _ hd iv) (fun σ4 δ4 H5 h5 r5 k5 pots => ?_) fun h5 H5 k5 => hk _ ⟨hi, acc, h5, by omega, lp3.step hP hpn k5⟩
    exact elt_in (.inr rfl) hP hp hpn (lp3.step hP hpn k5) (by omega) r5 pots h5 fun e he H' lp' => hk _ ⟨hi, acc ++ [e], he, by rw [List.length_append]; show _ + 1 ≤ _; omega, lp'⟩
  · obtain ⟨k2, ys, e2, q2⟩ := lp
    obtain ⟨_, st⟩ := it H2 A1 (fun b o n e => k2.1 b o n e) hN (dmK k2 ⟨ys, e2⟩)
    refine ⟨st, k _ (fin acc iv) (.ref p) H2 (rel1.kp k2) (kp1.trans k2) ⟨.lst (fun z => ?_) e2 (q2.mv (fun _ _ _ e => e) fun a z => .inl (.inl z)), fun l e1 _ => ?_⟩⟩
    · obtain ⟨xs, e⟩ := rel1.isl z
      rw [hp] at e; cases e
    · cases e1
      exact kp_none kp1 hp
theorem fToD {K : PySem.W.Frag} {E : XK} {w : DE} (σ : L2.St) (H : Hp) (Q : VK) (h : tX .D K E w σ H Q) : tX .F K E w σ H Q := by
  obtain ⟨F, δ, R, EX, rel, hw, k, o⟩ := h
  exact ⟨F, δ, R, EX, rel, hw, fun d hd v H' r kp vk => k d hd v H' r kp vk.1, o⟩
section
variable {X : Cx} {E : XK}
theorem qs_comp (M : List Str) (cap : List (Option Nat)) (i : Nat) {elt tg iter : Expr} {ifs : List Expr} {scope : Scope} {pos py spos : Pos} {y : Str} {ix : List Nat} {wi : DI} {wg : DG} {wt : DT} {we : DE} (hN : X.N.Nodup) (hi : QI .P X E tg iter wi) (hb : ∀ cl ex s3 H3 C, QG ix (blk X M scope cl ex s3 H3 C) tg wg ∧ QTs (blk X M scope cl ex s3 H3 C) E0 ifs wt ∧ QE .D (blk X M scope cl ex s3 H3 C) E0 elt we) (hiy : X.N[i]? = some y := by rfl) (hly : X.env.scope.names.lookup y = some .local := by rfl) (hc : X.calm = true := by rfl) (ok : capOk X.N X.env.scope M scope cap = true := by rfl) (hf : freeT cap ix = true := by rfl) (hs : ∀ x, foldedSetIterable iter X.env x = pure x := by intro _; rfl) (hsw : swapsWith (.ListComp elt [⟨tg, iter, ifs, 0⟩] scope pos) (some (.Name y py)) spos.line X.env = pure true := by rfl) : QS X E (.Assign [.Name y py] (.ListComp elt [⟨tg, iter, ifs, 0⟩] scope pos) spos) (dSet i (dComp cap wi wg wt we)) :=
  ⟨pds_set (PS.imp (PS.imp (ps_lcomp hN hiy hly hc ok hi.h (fun cl ex s3 H3 C => ⟨(hb cl ex s3 H3 C).1.h, (hb cl ex s3 H3 C).2.1.h, (hb cl ex s3 H3 C).2.2.h⟩) hs hsw) fun D σ H q => comp_read (E := E) hf σ H _ q) fun D σ H q => fToD σ H _ q)⟩
end
end Dl
namespace Dl
open PySem PySem.Spec PyProof.Rows L2 _root_.Rd Rk
theorem comp2_read {K : PySem.W.Frag} {E : XK} {cap : List (Option Nat)} {ix ix2 : List Nat} {wi wi2 : DI} {wg wg2 : DG} {wt wt2 : DT} {we : DE} (gok : GOk wg) (hf : freeT cap ix = true) (hf2 : freeT cap ix2 = true) (hd : ix2.all (fun i => !ix.contains i) = true) (σ : L2.St) (H : Hp) (Q : VK) (h : tX .F K E (dComp2 cap wi wg wt wi2 wg2 wt2 we) σ H Q) :
    tComp2 cap (tI .P K E wi) (tG ix K wg) (tT K E0 wt) (tI .D K E0 wi2) (tG ix2 K wg2) (tT K E0 wt2) (tX .D K E0 we) σ H Q := by
  obtain ⟨F, δ, R, EX, rel, hw, k, o⟩ := h
  refine ⟨F, δ, _, EX, rel, hw, fun items hC J H1 rel1 kp1 ⟨ln, it⟩ p hp => ?_, o⟩
  unfold CompR2 at hC
  obtain ⟨Iv, i0, step, fin⟩ := hC
  have hpn : ¬ PotA σ δ p := fun z => by obtain ⟨xs, e⟩ := rel1.isl (pot_av (F := F) z); rw [hp] at e; cases e
  let A1 : Addr → Prop := fun a => Av F σ δ a ∨ a = p
  have hP : ∀ a, PotA σ δ a → A1 a := fun a z => .inl (pot_av z)
  have hN : ∀ a, A1 a → Av F σ δ a ∨ H1 a = none := fun a z => z.elim .inl fun z => .inr (by rw [z]; exact hp)
  have dmK : ∀ {H2 : Hp}, Kp σ δ H1 H2 → (∃ ys, H2 p = some (.lst ys)) → ∀ a, A1 a → ∃ xs, H2 a = some (.lst xs) := fun {H2} k2 e2 a z => by
    rcases z with z | z
    · exact (rel1.kp k2).isl z
    · rw [z]; exact e2
  refine loop_by items.length (fun i H2 => i ≤ items.length ∧ ∃ acc, Iv i acc ∧ Lp σ δ A1 p H1 H2 acc) ⟨Nat.zero_le _, [], i0, Kp.same rel1 (same_upd hp), [], upd_same, .nil⟩ (fun i H2 hi ⟨_, acc, iv, lp⟩ => ?_) fun H2 ⟨_, acc, iv, lp⟩ => ?_
  · obtain ⟨k2, ys, e2, q2⟩ := lp
    obtain ⟨go, _⟩ := it H2 A1 (fun b o n e => k2.1 b o n e) hN (dmK k2 ⟨ys, e2⟩)
    have hd' : items[i]? = some items[i] := List.getElem?_eq_getElem hi
    obtain ⟨g1, g2⟩ := go i _ hd'
    refine ⟨g1, fun x H3 y kk hk => ?_⟩
    obtain ⟨s3, dx⟩ := g2 x H3 y
    have k23 := Kp.same (rel1.kp k2) s3
    have lp3 : Lp σ δ A1 p H1 H3 acc := Lp.step hP hpn ⟨k2, ys, e2, q2⟩ k23
    refine turn_in2 gok hf rel1 (fun a z => .inl z) hN (dmK lp3.kp ⟨ys, s3 _ _ e2⟩) lp3.kp dx (step i acc _ hd' iv) (fun σ4 δ4 H5 h5 r5 k5 j4 l4 g4 => ?_) fun h5 H5 k5 => hk _ ⟨hi, acc, h5, lp3.step hP hpn k5⟩
    have av4 : ∀ {H : Hp} {a : Addr}, Av (inF A1 cap σ δ H) σ4 δ4 a → A1 a := fun {H a} z => in_av2 hP hf j4 g4 z
    refine ⟨inF A1 cap σ δ H3, δ4, _, XF, r5, h5, fun items2 hJ J2 H7 rel7 kp7 ⟨ln2, it2⟩ => ?_, outF⟩
    unfold InR at hJ
    obtain ⟨Jv, z0, step2, fin2⟩ := hJ
    have pots4 : ∀ {b : Addr}, PotA σ4 δ4 b → PotA σ δ b := fun {b} z => by
      obtain ⟨j, z1, z2⟩ := z
      rcases g4 j _ z2 with ⟨e, z⟩ | z
      · cases z
      · exact cap_pot ⟨j, by rw [← j4 j (free_out hf z (fun z => by cases z))]; exact z1, z⟩
    have k57 : Kp σ δ H5 H7 := by
      refine ⟨fun b o n e => kp7.1 b o (fun z => n (pots4 z)) e, fun b hb => ?_⟩
      by_cases z : PotA σ4 δ4 b
      · exact kp7.2 b z
      · obtain ⟨n, e⟩ := k5.2 b hb
        exact ⟨n, kp7.1 _ _ z e⟩
    refine loop_by items2.length (fun j H8 => j ≤ items2.length ∧ ∃ acc2, Jv j acc2 ∧ Lp σ δ A1 p H1 H8 acc2 ∧ ∀ b o, ¬ A1 b → H7 b = some o → H8 b = some o) ⟨Nat.zero_le _, acc, z0, (lp3.step hP hpn k5).step hP hpn k57, fun _ _ _ e => e⟩ (fun j H8 hj ⟨_, acc2, jv, lp8, s78⟩ => ?_) fun H8 ⟨_, acc2, jv, lp8, s78⟩ => ?_
    · obtain ⟨ys8, e8, q8⟩ := lp8.at_
      obtain ⟨go2, _⟩ := it2 H8 A1 (fun b o n e => s78 b o (fun z => n (.inl z)) e) (fun b z => .inl (.inl z)) (dmK lp8.kp ⟨ys8, e8⟩)
      have hd2 : items2[j]? = some items2[j] := List.getElem?_eq_getElem hj
      obtain ⟨g3, g5⟩ := go2 j _ hd2
      refine ⟨g3, fun x2 H9 y2 kk2 hk2 => ?_⟩
      obtain ⟨s9, dx2⟩ := g5 x2 H9 y2
      have k89 := Kp.same (rel1.kp lp8.kp) s9
      have lp9 : Lp σ δ A1 p H1 H9 acc2 := lp8.step hP hpn k89
      have ri := in_rel (cap := cap) rel1 (fun a z => .inl z) hN (dmK lp9.kp ⟨ys8, s9 _ _ e8⟩) lp9.kp
      have r9 := in_rel2 hP hf j4 g4 ri r5 fun a o n e => s9 _ _ (s78 a o n (k57.1 a o (fun z => n (hP a z)) e))
      obtain ⟨hl2, hw2⟩ := step2 j acc2 _ hd2 jv
      refine ⟨inF A1 cap σ δ H9, δ4, _, _, r9, dx2.mv (fun _ _ _ e => e) fun a z => .inl (av4 z), hw2, fun δ5 h6 σ5 r10 st5 l5 j5 => ⟨wk_of l5 fun i v e => ?_, inF A1 cap σ δ H9, δ5, _, XF, r10, h6, fun b hb H10 r11 kp11 => ?_, outF⟩⟩
      · by_cases z : i ∈ ix2
        · have n1 : i ∉ ix := fun z2 => by
            have := List.all_eq_true.mp hd i z
            simp [z2] at this
          rw [j4 i n1] at e
          rcases capS_get e with ⟨_, e2⟩ | ⟨j, hj2, _⟩
          · cases e2
          · rw [free_no hf2 z] at hj2; cases hj2
        · rw [j5 i z]; exact e
      · have pots : ∀ {b : Addr}, PotA σ5 δ5 b → PotA σ δ b := fun z => in_pots r10 (fun b o _ e1 e2 => by rw [e2] at e1; cases e1) z
        have K10 : Kp σ δ H9 H10 := by
          refine ⟨fun b o n e => kp11.1 b o (fun z => n (pots z)) e, fun b hb => ?_⟩
          by_cases z : PotA σ5 δ5 b
          · exact kp11.2 b z
          · obtain ⟨n, e⟩ := lp9.kp.2 b hb
            exact ⟨n, kp11.1 _ _ z e⟩
        have s710 : ∀ b o, ¬ A1 b → H7 b = some o → H10 b = some o := fun b o n e => K10.1 b o (fun z => n (hP b z)) (s9 _ _ (s78 b o n e))
        refine if_imp hb (fun z => ?_) fun z => hk2 _ ⟨hj, acc2, z, lp9.step hP hpn K10, s710⟩
        exact elt_in2 (.inr rfl) hP hp hpn (lp9.step hP hpn K10) (Nat.lt_of_lt_of_le hl2 lineC_le) r11 (fun b => pots) z fun e he H' lp' kk' => hk2 _ ⟨hj, acc2 ++ [e], he, lp', fun b o n e => kk' b o n (s710 b o n e)⟩
    · obtain ⟨ys8, e8, q8⟩ := lp8.at_
      obtain ⟨_, st2⟩ := it2 H8 A1 (fun b o n e => s78 b o (fun z => n (.inl z)) e) (fun b z => .inl (.inl z)) (dmK lp8.kp ⟨ys8, e8⟩)
      exact ⟨st2, hk _ ⟨hi, acc2, fin2 acc2 jv, lp8⟩⟩
  · obtain ⟨k2, ys, e2, q2⟩ := lp
    obtain ⟨_, st⟩ := it H2 A1 (fun b o n e => k2.1 b o n e) hN (dmK k2 ⟨ys, e2⟩)
    refine ⟨st, k _ (fin acc iv) (.ref p) H2 (rel1.kp k2) (kp1.trans k2) ⟨.lst (fun z => ?_) e2 (q2.mv (fun _ _ _ e => e) fun a z => .inl (.inl z)), fun l e1 _ => ?_⟩⟩
    · obtain ⟨xs, e⟩ := rel1.isl z
      rw [hp] at e; cases e
    · cases e1
      exact kp_none kp1 hp
section
variable {X : Cx} {E : XK}
theorem qs_comp2F (M : List Str) (cap : List (Option Nat)) (i : Nat) {elt tg iter tg2 iter2 : Expr} {ifs ifs2 : List Expr} {scope : Scope} {pos py spos : Pos} {y : Str} {ix ix2 : List Nat} {wi wi2 : DI} {wg wg2 : DG} {wt wt2 : DT} {we : DE} (hN : X.N.Nodup) (gok : GOk wg) (hi : QI .P X E tg iter wi) (hb : ∀ cl ex s3 H3 C, QG ix (blk X M scope cl ex s3 H3 C) tg wg ∧ QTs (blk X M scope cl ex s3 H3 C) E0 ifs wt ∧ QI .D (blk X M scope cl ex s3 H3 C) E0 tg2 iter2 wi2 ∧ QG ix2 (blk X M scope cl ex s3 H3 C) tg2 wg2 ∧ QTs (blk X M scope cl ex s3 H3 C) E0 ifs2 wt2 ∧ QE .D (blk X M scope cl ex s3 H3 C) E0 elt we) (hiy : X.N[i]? = some y := by rfl) (hly : X.env.scope.names.lookup y = some .local := by rfl) (hc : X.calm = true := by rfl) (ok : capOk X.N X.env.scope M scope cap = true := by rfl) (hf : freeT cap ix = true := by rfl) (hf2 : freeT cap ix2 = true := by rfl) (hd : ix2.all (fun i => !ix.contains i) = true := by rfl) (hs : ∀ x, foldedSetIterable iter X.env x = pure x := by intro _; rfl) (hs2 : ∀ env x, foldedSetIterable iter2 env x = pure x := by intro _ _; rfl) (hsw : swapsWith (.ListComp elt [⟨tg, iter, ifs, 0⟩, ⟨tg2, iter2, ifs2, 0⟩] scope pos) (some (.Name y py)) spos.line X.env = pure true := by rfl) : QS X E (.Assign [.Name y py] (.ListComp elt [⟨tg, iter, ifs, 0⟩, ⟨tg2, iter2, ifs2, 0⟩] scope pos) spos) (dSetF i (dComp2 cap wi wg wt wi2 wg2 wt2 we)) :=
  ⟨pds_setF (PS.imp (ps_lcomp2 hN hiy hly hc ok hi.h (fun cl ex s3 H3 C => ⟨(hb cl ex s3 H3 C).1.h, (hb cl ex s3 H3 C).2.1.h, (hb cl ex s3 H3 C).2.2.1.h, (hb cl ex s3 H3 C).2.2.2.1.h, (hb cl ex s3 H3 C).2.2.2.2.1.h, (hb cl ex s3 H3 C).2.2.2.2.2.h⟩) hs hs2 hsw) fun D σ H q => comp2_read (E := E) gok hf hf2 hd σ H _ q)⟩
theorem qs_comp2 (M : List Str) (cap : List (Option Nat)) (i : Nat) {elt tg iter tg2 iter2 : Expr} {ifs ifs2 : List Expr} {scope : Scope} {pos py spos : Pos} {y : Str} {ix ix2 : List Nat} {wi wi2 : DI} {wg wg2 : DG} {wt wt2 : DT} {we : DE} (hN : X.N.Nodup) (gok : GOk wg) (hi : QI .P X E tg iter wi) (hb : ∀ cl ex s3 H3 C, QG ix (blk X M scope cl ex s3 H3 C) tg wg ∧ QTs (blk X M scope cl ex s3 H3 C) E0 ifs wt ∧ QI .D (blk X M scope cl ex s3 H3 C) E0 tg2 iter2 wi2 ∧ QG ix2 (blk X M scope cl ex s3 H3 C) tg2 wg2 ∧ QTs (blk X M scope cl ex s3 H3 C) E0 ifs2 wt2 ∧ QE .D (blk X M scope cl ex s3 H3 C) E0 elt we) (hiy : X.N[i]? = some y := by rfl) (hly : X.env.scope.names.lookup y = some .local := by rfl) (hc : X.calm = true := by rfl) (ok : capOk X.N X.env.scope M scope cap = true := by rfl) (hf : freeT cap ix = true := by rfl) (hf2 : freeT cap ix2 = true := by rfl) (hd : ix2.all (fun i => !ix.contains i) = true := by rfl) (hs : ∀ x, foldedSetIterable iter X.env x = pure x := by intro _; rfl) (hs2 : ∀ env x, foldedSetIterable iter2 env x = pure x := by intro _ _; rfl) (hsw : swapsWith (.ListComp elt [⟨tg, iter, ifs, 0⟩, ⟨tg2, iter2, ifs2, 0⟩] scope pos) (some (.Name y py)) spos.line X.env = pure true := by rfl) : QS X E (.Assign [.Name y py] (.ListComp elt [⟨tg, iter, ifs, 0⟩, ⟨tg2, iter2, ifs2, 0⟩] scope pos) spos) (dSet i (dComp2 cap wi wg wt wi2 wg2 wt2 we)) :=
  ⟨pds_set (PS.imp (PS.imp (ps_lcomp2 hN hiy hly hc ok hi.h (fun cl ex s3 H3 C => ⟨(hb cl ex s3 H3 C).1.h, (hb cl ex s3 H3 C).2.1.h, (hb cl ex s3 H3 C).2.2.1.h, (hb cl ex s3 H3 C).2.2.2.1.h, (hb cl ex s3 H3 C).2.2.2.2.1.h, (hb cl ex s3 H3 C).2.2.2.2.2.h⟩) hs hs2 hsw) fun D σ H q => comp2_read (E := E) gok hf hf2 hd σ H _ q) fun D σ H q => fToD σ H _ q)⟩
end
end Dl
namespace Dl
open PySem PySem.Spec PyProof.Rows L2 _root_.Rd Rk
end Dl
namespace Dl
open PySem PySem.Spec PyProof.Rows L2 _root_.Rd Rk
theorem nds_pairs (L : List (Int × Int)) : nds (L.map Rk.pairD) = true := nds_all.mpr fun d hd => by
  obtain ⟨i, _, rfl⟩ := List.mem_map.mp hd
  rfl
end Dl
namespace Dl
open PySem PySem.Spec PyProof.Rows L2 _root_.Rd Rk
def rkD : PyData → Nat
  | .int _ => 0
  | .tuple _ => 1
  | _ => 2
def cmpI (i j : Int) : Ordering := if i < j then .lt else if i = j then .eq else .gt
def cmpN (i j : Nat) : Ordering := if i < j then .lt else if i = j then .eq else .gt
def thn (o : Ordering) (p : Ordering) : Ordering := match o with
  | .eq => p
  | o => o
mutual
def cmpD : PyData → PyData → Ordering
  | .int i, .int j => cmpI i j
  | .tuple a, .tuple b => cmpDs a b
  | x, y => cmpN (rkD x) (rkD y)
def cmpDs : List PyData → List PyData → Ordering
  | [], [] => .eq
  | [], _ :: _ => .lt
  | _ :: _, [] => .gt
  | x :: xs, y :: ys => thn (cmpD x y) (cmpDs xs ys)
end
def isL : Ordering → Bool
  | .lt => true
  | _ => false
def ltD (x y : PyData) : Bool := isL (cmpD x y)
def ltDs (x y : List PyData) : Bool := isL (cmpDs x y)
def sw : Ordering → Ordering
  | .lt => .gt
  | .gt => .lt
  | .eq => .eq
def isLe : Ordering → Bool
  | .gt => false
  | _ => true
theorem thn_sw (a b : Ordering) : sw (thn a b) = thn (sw a) (sw b) := by cases a <;> rfl
theorem cmpI_sw (i j : Int) : cmpI j i = sw (cmpI i j) := by
  unfold cmpI
  by_cases h : i < j
  · rw [if_neg (by omega), if_neg (by omega), if_pos h]; rfl
  · by_cases h2 : i = j
    · rw [if_neg (by omega), if_pos h2.symm, if_neg h, if_pos h2]; rfl
    · rw [if_pos (by omega), if_neg h, if_neg h2]; rfl
theorem cmpI_le (i j : Int) : isLe (cmpI i j) = decide (i ≤ j) := by
  unfold cmpI
  by_cases h : i < j
  · rw [if_pos h]; exact (decide_eq_true (by omega)).symm
  · by_cases h2 : i = j
    · rw [if_neg h, if_pos h2]; exact (decide_eq_true (by omega)).symm
    · rw [if_neg h, if_neg h2]; exact (decide_eq_false (by omega)).symm
mutual
theorem cmpD_sw : ∀ (x y : PyData), cmpD y x = sw (cmpD x y)
  | .int i, .int j => cmpI_sw i j
  | .tuple a, .tuple b => cmpDs_sw a b
  | .int _, .tuple _ => rfl
  | .tuple _, .int _ => rfl
  | .int _, .none => rfl
  | .int _, .bool _ => rfl
  | .int _, .str _ => rfl
  | .int _, .list _ => rfl
  | .int _, .dict _ => rfl
  | .tuple _, .none => rfl
  | .tuple _, .bool _ => rfl
  | .tuple _, .str _ => rfl
  | .tuple _, .list _ => rfl
  | .tuple _, .dict _ => rfl
  | .none, y => by cases y <;> rfl
  | .bool _, y => by cases y <;> rfl
  | .str _, y => by cases y <;> rfl
  | .list _, y => by cases y <;> rfl
  | .dict _, y => by cases y <;> rfl
theorem cmpDs_sw : ∀ (xs ys : List PyData), cmpDs ys xs = sw (cmpDs xs ys)
  | [], [] => rfl
  | [], _ :: _ => rfl
  | _ :: _, [] => rfl
  | x :: xs, y :: ys => by
    show thn (cmpD y x) (cmpDs ys xs) = sw (thn (cmpD x y) (cmpDs xs ys))
    rw [cmpD_sw x y, cmpDs_sw xs ys, thn_sw]
end
theorem le_lt {a c : Ordering} (hab : isLe a = true) (h : isLe (sw c) = true → isLe (sw a) = true) (ha : a = .lt) : c = .lt := by
  subst ha
  cases c with
  | lt => rfl
  | eq => cases h rfl
  | gt => cases h rfl
mutual
theorem cmpD_tr : ∀ (x y z : PyData), isLe (cmpD x y) = true → isLe (cmpD y z) = true → isLe (cmpD x z) = true
  | .int i, .int j, .int k, h1, h2 => by
    have h1 : isLe (cmpI i j) = true := h1
    have h2 : isLe (cmpI j k) = true := h2
    show isLe (cmpI i k) = true
    rw [cmpI_le] at h1 h2 ⊢
    have a := of_decide_eq_true h1
    have b := of_decide_eq_true h2
    exact decide_eq_true (by omega)
  | .tuple a, .tuple b, .tuple c, h1, h2 => cmpDs_tr a b c h1 h2
  | .int _, y, .tuple _, h1, h2 => rfl
  | .int _, .tuple _, .int _, h1, h2 => by cases h2
  | .tuple _, .int _, z, h1, h2 => by cases h1
  | .tuple _, .tuple _, .int _, h1, h2 => by cases h2
  | .int _, y, .none, _, _ => rfl
  | .int _, y, .bool _, _, _ => rfl
  | .int _, y, .str _, _, _ => rfl
  | .int _, y, .list _, _, _ => rfl
  | .int _, y, .dict _, _, _ => rfl
  | .tuple _, y, .none, _, _ => rfl
  | .tuple _, y, .bool _, _, _ => rfl
  | .tuple _, y, .str _, _, _ => rfl
  | .tuple _, y, .list _, _, _ => rfl
  | .tuple _, y, .dict _, _, _ => rfl
  | .int _, .none, .int _, h1, h2 => by cases h2
  | .int _, .bool _, .int _, h1, h2 => by cases h2
  | .int _, .str _, .int _, h1, h2 => by cases h2
  | .int _, .list _, .int _, h1, h2 => by cases h2
  | .int _, .dict _, .int _, h1, h2 => by cases h2
  | .tuple _, .none, .int _, h1, h2 => by cases h2
  | .tuple _, .bool _, .int _, h1, h2 => by cases h2
  | .tuple _, .str _, .int _, h1, h2 => by cases h2
  | .tuple _, .list _, .int _, h1, h2 => by cases h2
  | .tuple _, .dict _, .int _, h1, h2 => by cases h2
  | .tuple _, .none, .tuple _, h1, h2 => by cases h2
  | .tuple _, .bool _, .tuple _, h1, h2 => by cases h2
  | .tuple _, .str _, .tuple _, h1, h2 => by cases h2
  | .tuple _, .list _, .tuple _, h1, h2 => by cases h2
  | .tuple _, .dict _, .tuple _, h1, h2 => by cases h2
  | .none, y, z, h1, h2 => by cases y <;> cases z <;> first | rfl | (cases h1; done) | (cases h2; done)
  | .bool _, y, z, h1, h2 => by cases y <;> cases z <;> first | rfl | (cases h1; done) | (cases h2; done)
  | .str _, y, z, h1, h2 => by cases y <;> cases z <;> first | rfl | (cases h1; done) | (cases h2; done)
  | .list _, y, z, h1, h2 => by cases y <;> cases z <;> first | rfl | (cases h1; done) | (cases h2; done)
  | .dict _, y, z, h1, h2 => by cases y <;> cases z <;> first | rfl | (cases h1; done) | (cases h2; done)
  termination_by x y z => sizeOf x + sizeOf y + sizeOf z
theorem cmpDs_tr : ∀ (xs ys zs : List PyData), isLe (cmpDs xs ys) = true → isLe (cmpDs ys zs) = true → isLe (cmpDs xs zs) = true
  | [], _, [], _, _ => rfl
  | [], _, _ :: _, _, _ => rfl
  | _ :: _, [], _, h1, _ => by cases h1
  | _ :: _, _ :: _, [], _, h2 => by cases h2
  | x :: xs, y :: ys, z :: zs, h1, h2 => by
    have h1 : isLe (thn (cmpD x y) (cmpDs xs ys)) = true := h1
    have h2 : isLe (thn (cmpD y z) (cmpDs ys zs)) = true := h2
    show isLe (thn (cmpD x z) (cmpDs xs zs)) = true
    have a1 : isLe (cmpD x y) = true := by cases e : cmpD x y <;> rw [e] at h1 <;> first | rfl | cases h1
    have a2 : isLe (cmpD y z) = true := by cases e : cmpD y z <;> rw [e] at h2 <;> first | rfl | cases h2
    have a3 := cmpD_tr x y z a1 a2
    cases e1 : cmpD x y with
    | gt => rw [e1] at a1; cases a1
    | lt =>
      have : cmpD x z = .lt := le_lt (a := cmpD x y) a1 (fun q => by
        rw [← cmpD_sw x z] at q
        rw [← cmpD_sw x y]
        exact cmpD_tr y z x a2 q) e1
      rw [this]; rfl
    | eq =>
      cases e2 : cmpD y z with
      | gt => rw [e2] at a2; cases a2
      | lt =>
        have : cmpD x z = .lt := le_lt (a := cmpD y z) a2 (fun q => by
          rw [← cmpD_sw x z] at q
          rw [← cmpD_sw y z]
          exact cmpD_tr z x y q a1) e2
        rw [this]; rfl
      | eq =>
        rw [e1] at h1
        rw [e2] at h2
        cases e3 : cmpD x z with
        | gt => rw [e3] at a3; cases a3
        | lt => rfl
        | eq => exact cmpDs_tr xs ys zs h1 h2
  termination_by x y z => sizeOf x + sizeOf y + sizeOf z
end
theorem isL_sw (o : Ordering) : isL (sw o) = !isLe o := by cases o <;> rfl
theorem ltD_le (x y : PyData) : ltD y x = !isLe (cmpD x y) := by unfold ltD; rw [cmpD_sw x y, isL_sw]
theorem ltD_asym (x y : PyData) (h : ltD x y = true) : ltD y x = false := by
  rw [ltD_le]
  unfold ltD at h
  cases e : cmpD x y <;> rw [e] at h <;> first | rfl | cases h
theorem ltD_nt (x y z : PyData) (h1 : ltD y x = false) (h2 : ltD z y = false) : ltD z x = false := by
  rw [ltD_le] at h1 h2 ⊢
  rw [cmpD_tr x y z (by simpa using h1) (by simpa using h2)]
  rfl
mutual
def cmpK : PyData → PyData → Bool
  | .int _, .int _ => true
  | .tuple a, .tuple b => cmpKs a b
  | _, _ => false
def cmpKs : List PyData → List PyData → Bool
  | x :: xs, y :: ys => cmpK x y && cmpKs xs ys
  | _, _ => true
end
def isE : Ordering → Bool
  | .eq => true
  | _ => false
theorem isE_thn (a b : Ordering) : isE (thn a b) = (isE a && isE b) := by cases a <;> rfl
mutual
theorem eqv_lt : ∀ (x y : PyData), cmpK x y = true → PyData.eqv x y = isE (cmpD x y)
  | .int i, .int j, _ => by
    show (i == j) = isE (cmpI i j)
    unfold cmpI
    by_cases h : i = j
    · subst h; simp [isE]
    · rw [beq_eq_false_iff_ne.mpr h]
      split
      · rfl
      · rfl
  | .tuple a, .tuple b, h => eqvs_lt a b h
  | .int _, .tuple _, h => by cases h
  | .tuple _, .int _, h => by cases h
  | .int _, .none, h => by cases h
  | .int _, .bool _, h => by cases h
  | .int _, .str _, h => by cases h
  | .int _, .list _, h => by cases h
  | .int _, .dict _, h => by cases h
  | .tuple _, .none, h => by cases h
  | .tuple _, .bool _, h => by cases h
  | .tuple _, .str _, h => by cases h
  | .tuple _, .list _, h => by cases h
  | .tuple _, .dict _, h => by cases h
  | .none, y, h => by cases y <;> cases h
  | .bool _, y, h => by cases y <;> cases h
  | .str _, y, h => by cases y <;> cases h
  | .list _, y, h => by cases y <;> cases h
  | .dict _, y, h => by cases y <;> cases h
theorem eqvs_lt : ∀ (xs ys : List PyData), cmpKs xs ys = true → PyData.eqvAll xs ys = isE (cmpDs xs ys)
  | [], [], _ => rfl
  | [], _ :: _, _ => rfl
  | _ :: _, [], _ => rfl
  | x :: xs, y :: ys, h => by
    have h := Bool.and_eq_true_iff.mp (show (cmpK x y && cmpKs xs ys) = true from h)
    show (PyData.eqv x y && PyData.eqvAll xs ys) = isE (thn (cmpD x y) (cmpDs xs ys))
    rw [eqv_lt x y h.1, eqvs_lt xs ys h.2, isE_thn]
end
end Dl
namespace Rt
open PySem PySem.Spec PySem.Calls PyProof.Rows Dl
theorem depth_mem : ∀ {ds : List PyData} {d : PyData}, d ∈ ds → d.depth ≤ PyData.depthAll ds
  | x :: ds, d, h => by
    show d.depth ≤ max x.depth (PyData.depthAll ds)
    rcases List.mem_cons.mp h with z | z
    · subst z; exact Nat.le_max_left _ _
    · exact Nat.le_trans (depth_mem z) (Nat.le_max_right _ _)
theorem readsAll_len {h : Heap} : ∀ {vs : List Value} {ds : List PyData} {as : List Addr}, ReadsAll h vs ds as → vs.length = ds.length
  | _, _, _, .nil => rfl
  | _, _, _, .cons _ r => by rw [List.length_cons, List.length_cons, readsAll_len r]
section
open PySem.SeqAt
open PySem.AutoSeq1 (wpAny_loadPart')
open PySem.MeetsSeq PySem.MeetsSeq2 PySem.MeetsSeq3
theorem tup_lt_meets {l b : Addr} {items items2 : Array Value} {n n2 : Nat} {dd dd2 : Option Addr} {sl sl2 : Array (Option Value)} {ds es : List PyData} {as bs : List Addr} {N : Nat} (hk : cmpKs ds es = true) (hc1 : PyData.canLayAll0 ds = true) (hc2 : PyData.canLayAll0 es = true) (hd : PyData.depthAll ds ≤ N)
    (ih : ∀ (x y : PyData) (A : Around) (s : Shared) (v u : Value) (p q : List Addr), Reads s.heap v x p → Reads s.heap u y q → x.canLay0 = true → y.canLay0 = true → cmpK x y = true → x.depth ≤ N → A.units + 2 * N + 2 < cLine → ∀ (prog : Program) (w : World) (E Q : Value → Shared → Prop), Q (.bool (ltD x y)) s → wpAny (model prog w) A (richCompare .Lt v u) Q E s) :
    Meets (Builtin.«tuple.__lt__» ⟨[.ref l, .ref b], []⟩)
      (fun A R s => s.heap.get? l = some { cls := .type "tuple", dict := dd, data := .seq items n, slots := sl } ∧ s.heap.get? b = some { cls := .type "tuple", dict := dd2, data := .seq items2 n2, slots := sl2 } ∧ ReadsAll s.heap items.toList ds as ∧ ReadsAll s.heap items2.toList es bs ∧ A.units + 2 * N + 4 < cLine ∧
        R (.ok (.ret (.bool (ltDs ds es)))) s) :=
  .of_wp fun prog w A R s h => by
    obtain ⟨hp, g, d, tk, os⟩ := s; obtain ⟨hl, hb, hr1, hr2, hu, h⟩ := h
    have f2 := AutoSeq1.sub_tuple_tuple
    have hu1 : A.in1.units + 2 * N + 2 < cLine := by show A.units + 1 + 2 * N + 2 < cLine; omega
    have z1 : items.size = ds.length := by rw [← readsAll_len hr1]; simp
    have z2 : items2.size = es.length := by rw [← readsAll_len hr2]; simp
    wp_walk using wpAny_loadPart' hl, wpAny_loadPart' hb, wpAny_forIn_list _ (fun rest b s' => b.1 = none ∧ s' = ⟨hp, g, d, tk, os⟩ ∧ ∃ (vs ws : List Value) (xs ys : List PyData) (p q : List Addr), rest = vs.zip ws ∧
      ReadsAll hp vs xs p ∧ ReadsAll hp ws ys q ∧ cmpKs xs ys = true ∧ PyData.canLayAll0 xs = true ∧ PyData.canLayAll0 ys = true ∧ PyData.depthAll xs ≤ N ∧ xs.length + items2.size = ys.length + items.size ∧ R (.ok (.ret (.bool (ltDs xs ys)))) ⟨hp, g, d, tk, os⟩) _
    case turn =>
      rintro ⟨y, x⟩ rest b s' ⟨hb', rfl, vs, ws, xs, ys, p, q, hz, hvi, hwi, hkk, c1, c2, hdd, hlen, hR⟩
      cases hvi with
      | nil => rw [List.zip_nil_left] at hz; cases hz
      | @cons v0 vs0 d1 ds1 as1 as2 r1 hvi' =>
        cases hwi with
        | nil => rw [List.zip_nil_right] at hz; cases hz
        | @cons u0 us0 d2 ds2 bs1 bs2 r2 hwi' =>
          rw [List.zip_cons_cons] at hz
          injection hz with hyx hrest
          injection hyx with hy hx
          subst hy hx
          have hkk := Bool.and_eq_true_iff.mp (show (cmpK d1 d2 && cmpKs ds1 ds2) = true from hkk)
          simp only [PyData.canLayAll0, Bool.and_eq_true] at c1 c2
          have dm1 : d1.depth ≤ N := Nat.le_trans (depth_mem (ds := d1 :: ds1) (.head _)) hdd
          have dm2 : PyData.depthAll ds1 ≤ N := Nat.le_trans (show PyData.depthAll ds1 ≤ max d1.depth (PyData.depthAll ds1) from Nat.le_max_right _ _) hdd
          simp only [List.length_cons] at hlen
          have he := SeqAt.eqAt_reads d1 d2 A.in1 ⟨hp, g, d, tk, os⟩ y x _ _ r1 r2 c1.1 c2.1 (by omega)
          have hR : R (.ok (.ret (.bool (isL (thn (cmpD d1 d2) (cmpDs ds1 ds2)))))) ⟨hp, g, d, tk, os⟩ := hR
          rw [eqv_lt d1 d2 hkk.1] at he
          have hri := fun E Q => ih d1 d2 A.in1 ⟨hp, g, d, tk, os⟩ y x _ _ r1 r2 c1.1 c2.1 hkk.1 dm1 hu1 prog w E Q
          unfold ltD at hri
          cases e1 : cmpD d1 d2 with
          | lt =>
            rw [e1] at he hR hri
            refine wpAny_bind (he prog w _ _ ?_)
            wp_walk using hri
            exact ⟨_, rfl, hR⟩
          | gt =>
            rw [e1] at he hR hri
            refine wpAny_bind (he prog w _ _ ?_)
            wp_walk using hri
            exact ⟨_, rfl, hR⟩
          | eq =>
            rw [e1] at he hR
            refine wpAny_bind (he prog w _ _ ?_)
            wp_walk
            exact ⟨rfl, rfl, _, _, _, _, _, _, hrest, hvi', hwi', hkk.2, c1.2, c2.2, dm2, by omega, hR⟩
    case fin =>
      rintro ⟨b1, b2⟩ s' ⟨hb', rfl, vs, ws, xs, ys, p, q, hz, hvi, hwi, hkk, c1, c2, hdd, hlen, hR⟩
      simp only at hb'
      subst hb'
      have hv : ltDs xs ys = decide (items.size < items2.size) := by
        cases hvi with
        | nil =>
          cases hwi with
          | nil =>
            simp only [List.length_nil] at hlen
            exact (decide_eq_false (by omega)).symm
          | cons r2 hw =>
            simp only [List.length_nil, List.length_cons] at hlen
            exact (decide_eq_true (by omega)).symm
        | cons r1 hv =>
          cases hwi with
          | nil =>
            simp only [List.length_nil, List.length_cons] at hlen
            exact (decide_eq_false (by omega)).symm
          | cons r2 hw =>
            rw [List.zip_cons_cons] at hz
            cases hz
      rw [hv] at hR
      wp_walk
      exact ⟨_, rfl, by simpa [Builtin.Tuple.tupleCompareSizes] using hR⟩
    case h =>
      exact ⟨rfl, rfl, items.toList, items2.toList, ds, es, as, bs, rfl, hr1, hr2, hk, hc1, hc2, hd, by omega, h⟩
end
end Rt
namespace Rt
open PySem PySem.Spec PySem.Calls PySem.W PyProof.Rows Dl
mutual
def okK : PyData → Bool
  | .int _ => true
  | .tuple ds => okKs ds
  | _ => false
def okKs : List PyData → Bool
  | [] => true
  | d :: ds => okK d && okKs ds
end
theorem rc_lt : ∀ (N : Nat) (x y : PyData) (A : Around) (s : Shared) (v u : Value) (p q : List Addr), Reads s.heap v x p → Reads s.heap u y q → x.canLay0 = true → y.canLay0 = true → cmpK x y = true → x.depth ≤ N → A.units + 2 * N + 2 < cLine → ∀ (prog : Program) (w : World) (E Q : Value → Shared → Prop), Q (.bool (ltD x y)) s → wpAny (model prog w) A (richCompare .Lt v u) Q E s := by
  intro N
  have intz : ∀ (i j : Int) (A : Around) (s : Shared) (v u : Value) (p q : List Addr), Reads s.heap v (.int i) p → Reads s.heap u (.int j) q → ∀ (prog : Program) (w : World) (E Q : Value → Shared → Prop), Q (.bool (ltD (.int i) (.int j))) s → wpAny (model prog w) A (richCompare .Lt v u) Q E s := by
    intro i j A s v u p q r1 r2 prog w E Q h
    cases r1
    cases r2
    refine HT.rcLt_int A s i _ j _ prog w E Q ?_
    have e : ltD (.int i) (.int j) = decide (i < j) := by
      show isL (cmpI i j) = _
      unfold cmpI
      by_cases z : i < j
      · rw [if_pos z, decide_eq_true z]; rfl
      · rw [if_neg z, decide_eq_false z]
        split <;> rfl
    rw [e] at h
    exact h
  induction N with
  | zero =>
    intro x y A s v u p q r1 r2 c1 c2 hk hd hu prog w E Q h
    cases x <;> cases y <;> first | (cases hk; done) | skip
    · exact intz _ _ A s v u p q r1 r2 prog w E Q h
    · unfold PyData.depth at hd; omega
  | succ N ih =>
    intro x y A s v u p q r1 r2 c1 c2 hk hd hu prog w E Q h
    cases x <;> cases y <;> first | (cases hk; done) | skip
    · exact intz _ _ A s v u p q r1 r2 prog w E Q h
    · rename_i ds es
      cases r1 with
      | @tuple a o vs n _ _ ho hc hd' ra =>
        cases r2 with
        | @tuple b o2 vs2 n2 _ _ ho2 hc2 hd2 rb =>
          obtain ⟨cls, dd, data, sl⟩ := o
          obtain ⟨cls2, dd2, data2, sl2⟩ := o2
          simp only at hc hd' hc2 hd2
          subst hc hd' hc2 hd2
          have dd3 : PyData.depthAll ds ≤ N := by unfold PyData.depth at hd; omega
          exact richCompare_meets_room (op := .Lt) ⟨_, ho, rfl⟩ ⟨_, ho2, rfl⟩ PySem.F.slot_tuple_lt PySem.F.entry_tuple_lt (PySem.F.args_tuple_lt_2 _ _) (tup_lt_meets (N := N) hk c1 c2 dd3 ih)
            ⟨ho, ho2, ra, rb, by omega, show Value.bool (ltDs ds es) ≠ Value.notImplemented ∧ Q (.bool (ltDs ds es)) s from ⟨(fun x => nomatch x), h⟩⟩ (by omega)
section
variable {prog : Program} {w : World} {A : Around} {E : Value → Shared → Prop} {s : Shared}
end
end Rt
namespace Rt
open PySem PySem.Spec PySem.Calls PySem.W PyProof.Rows Dl
section
variable {M : Model} {A : Around} {E : Value → Shared → Prop} {s : Shared}
end
theorem okKs_mem : ∀ {ds : List PyData}, okKs ds = true → ∀ d ∈ ds, okK d = true
  | x :: ds, h, d, hd => by
    have h := Bool.and_eq_true_iff.mp (show (okK x && okKs ds) = true from h)
    rcases List.mem_cons.mp hd with z | z
    · rw [z]; exact h.1
    · exact okKs_mem h.2 d z
theorem okKs_of : ∀ {ds : List PyData}, (∀ d ∈ ds, okK d = true) → okKs ds = true
  | [], _ => rfl
  | x :: ds, h => by
    show (okK x && okKs ds) = true
    rw [h x (.head _), okKs_of fun d hd => h d (.tail _ hd)]; rfl
section
variable {prog : Program} {w : World} {A : Around} {E : Value → Shared → Prop} {s : Shared}
end
end Rt
namespace Rt
open PySem PySem.Spec PySem.Calls PySem.W PyProof.Rows Dl Rs
section
variable {prog : Program} {w : World} {A : Around} {E : Value → Shared → Prop} {s : Shared}
theorem perm_map_inv {α β : Type} (f : α → β) {l m : List β} (p : l.Perm m) : ∀ {T : List α}, m = T.map f → ∃ T' : List α, T'.Perm T ∧ l = T'.map f := by
  induction p with
  | nil => intro T e; exact ⟨T, List.Perm.refl _, e⟩
  | @cons x l1 l2 _ ih =>
    intro T e
    cases T with
    | nil => cases e
    | cons t T =>
      rw [List.map_cons] at e
      injection e with e1 e2
      obtain ⟨T', p', e'⟩ := ih e2
      exact ⟨t :: T', p'.cons t, by rw [List.map_cons, ← e1, ← e']⟩
  | @swap x y l =>
    intro T e
    cases T with
    | nil => cases e
    | cons t T =>
      cases T with
      | nil => rw [List.map_cons] at e; injection e with e1 e2; cases e2
      | cons t2 T =>
        rw [List.map_cons, List.map_cons] at e
        injection e with e1 e2
        injection e2 with e3 e4
        exact ⟨t2 :: t :: T, List.Perm.swap t t2 T, by rw [List.map_cons, List.map_cons, ← e1, ← e3, ← e4]⟩
  | @trans l1 l2 l3 _ _ ih1 ih2 =>
    intro T e
    obtain ⟨T2, p2, e2⟩ := ih2 e
    obtain ⟨T1, p1, e1⟩ := ih1 e2
    exact ⟨T1, p1.trans p2, e1⟩
end
mutual
theorem cmpK_ok : ∀ (d : PyData), cmpK d d = true → okK d = true
  | .int _, _ => rfl
  | .tuple ds, h => cmpKs_ok ds h
  | .none, h => by cases h
  | .bool _, h => by cases h
  | .str _, h => by cases h
  | .list _, h => by cases h
  | .dict _, h => by cases h
theorem cmpKs_ok : ∀ (ds : List PyData), cmpKs ds ds = true → okKs ds = true
  | [], _ => rfl
  | d :: ds, h => by
    have h := Bool.and_eq_true_iff.mp (show (cmpK d d && cmpKs ds ds) = true from h)
    show (okK d && okKs ds) = true
    rw [cmpK_ok d h.1, cmpKs_ok ds h.2]; rfl
end
structure Sortable (ds : List PyData) : Prop where
  cmp : ∀ x ∈ ds, ∀ y ∈ ds, cmpK x y = true
  dep : ∀ x ∈ ds, x.depth ≤ 20
end Rt
namespace L2
open PySem PySem.Spec PySem.Calls PyProof.Rows _root_.Rd _root_.Rk _root_.Rs Rt Dl
section
variable {X : Cx}
end
end L2
namespace Dl
open PySem PySem.Spec PyProof.Rows L2 _root_.Rd Rk Rt
mutual
theorem okK_nd : ∀ (d : PyData), okK d = true → nd d = true
  | .int _, _ => rfl
  | .tuple ds, h => okKs_nd ds h
  | .none, h => by cases h
  | .bool _, h => by cases h
  | .str _, h => by cases h
  | .list _, h => by cases h
  | .dict _, h => by cases h
theorem okKs_nd : ∀ (ds : List PyData), okKs ds = true → nds ds = true
  | [], _ => rfl
  | d :: ds, h => by
    have h := Bool.and_eq_true_iff.mp (show (okK d && okKs ds) = true from h)
    show (nd d && nds ds) = true
    rw [okK_nd d h.1, okKs_nd ds h.2]; rfl
end
end Dl
namespace L2
open PySem PySem.Spec PySem.Calls PyProof.Rows _root_.Rd _root_.Rk Rt
section
variable {X : Cx}
def ddI (ns : List Int) : List Int := ns.foldl step_dedup []
theorem first_dd (ns : List Int) : firstMet (fun i => ns.getD i 0) ns.length = ddI ns := by
  unfold firstMet ddI
  congr 1
  apply List.ext_getElem?
  intro i
  rw [List.getElem?_map]
  by_cases h : i < ns.length
  · rw [List.getElem?_range h, List.getElem?_eq_getElem h]
    show some (ns.getD i 0) = _
    rw [List.getD_eq_getElem?_getD, List.getElem?_eq_getElem h]; rfl
  · rw [List.getElem?_eq_none (by simpa using h), List.getElem?_eq_none (by omega)]; rfl
def rSetI (K : PySem.W.Frag) : List V → Hp → VK → Prop := fun xs H Q => ∃ (l : Addr) (ns : List Int), xs = [.ref l] ∧ SqL K H l (ns.map V.int) ∧ ns.length ≤ 4000 ∧
  ∀ (t : Addr) (H2 : Hp), Same H H2 → H t = none → H2 t = some (.set (fun k => (ddI ns).any (· == k)) (ddI ns).length) → Q (.ref t) H2
theorem call_setI (hc : X.calm = true) : CallR X (.type "set") (rSetI X.K) := by
  intro pins s σ H xs us Q I r h
  obtain ⟨p, ns, rfl, hp, hn, q⟩ := h
  obtain ⟨u, rfl, ru⟩ := vals1 r
  cases ru
  obtain ⟨its, rv, pl, hz⟩ := I.list hp
  have hi : IntsAre its ns := intsAre_of rv
  have hl := hi.length
  refine PySem.call_set_list (items := its.toArray) (ns := ns) (I.ok.hd hc) pl.isList (by simpa using hi) (by rw [List.size_toArray, hl]; unfold scanBound; omega) fun h' tk hS hk => ?_
  have ez : its.toArray.size = ns.length := by rw [List.size_toArray]; exact hl
  rw [ez, first_dd] at hS
  have hf : H s.heap.objs.size = none := I.hok.fresh (Nat.le_refl _)
  refine ⟨.ref s.heap.objs.size, upd H s.heap.objs.size (.set (fun k => (ddI ns).any (· == k)) (ddI ns).length), I.laid (t' := tk) (fun b x e => hk b x (Heap.lt_size e) e) (Nat.le_refl _) hS, rfl, q _ _ (same_upd hf) hf upd_same⟩
end
end L2
namespace Dl
open PySem PySem.Spec PyProof.Rows L2 _root_.Rd Rk Rt
section
variable {X : Cx} {E : XK}
theorem bt_set : bootBuiltins "set" = some (.type "set") := by decide +kernel
end
end Dl
namespace Rk
open PySem PySem.Spec PyProof.Rows L2 _root_.Rd Dl
def ordersD : DF := fun args R _ => ∃ m : Int, args = [.v (.int m)] ∧ 0 ≤ m ∧ m ≤ 12 ∧ R (.int (fctI m.toNat))
theorem nds_ints (ns : List Int) : nds (ns.map PyData.int) = true := nds_all.mpr fun d hd => by
  obtain ⟨i, _, rfl⟩ := List.mem_map.mp hd
  rfl
end Rk
namespace Rx
open PySem PySem.Spec PySem.Calls PyProof.Rows L2
section
variable {X : Cx} {e : Expr} {st : Stmt} {rest : List Stmt} {pos : Pos} {te : TX} {t u : TSX}
end
end Rx
namespace L2
open PySem PySem.Spec PyProof.Rows Dl
end L2
namespace Dl
open PySem PySem.Spec PyProof.Rows L2 _root_.Rd Rk
section
variable {X : Cx}
variable {k : Nat} {f : Addr} {fd : FuncData} {ps : List Str} {x : Str} {p pos : Pos} {e : Expr} {es : List Expr} {fD : DF} {wa : DSl}
end
end Dl
namespace Rk
open PySem PySem.Spec PyProof.Rows L2 _root_.Rd Dl Rt
theorem depth_pair2 (p : Int × Int) : (pairD p).depth ≤ 1 := by
  show PyData.depthAll [.int p.1, .int p.2] + 1 ≤ 1
  simp [PyData.depthAll, PyData.depth]
theorem depthAll_le {n : Nat} : ∀ {ds : List PyData}, (∀ d ∈ ds, d.depth ≤ n) → PyData.depthAll ds ≤ n
  | [], _ => Nat.zero_le _
  | d :: ds, h => by
    show max d.depth (PyData.depthAll ds) ≤ n
    exact Nat.max_le.mpr ⟨h d (.head _), depthAll_le fun d hd => h d (.tail _ hd)⟩
theorem cmpKs_pairs : ∀ (L M : List (Int × Int)), cmpKs (L.map pairD) (M.map pairD) = true
  | [], [] => rfl
  | [], _ :: _ => rfl
  | _ :: _, [] => rfl
  | _ :: L, _ :: M => by show (true && cmpKs (L.map pairD) (M.map pairD)) = true; rw [cmpKs_pairs L M]; rfl
def plt (p q : Int × Int) : Prop := p.1 < q.1 ∨ (p.1 = q.1 ∧ p.2 < q.2)
instance plt_dec (p q : Int × Int) : Decidable (plt p q) := by unfold plt; exact inferInstance
theorem eqv_pair2 (p q : Int × Int) : PyData.eqv (pairD p) (pairD q) = decide (p = q) := by
  show ((p.1 == q.1) && ((p.2 == q.2) && true)) = _
  obtain ⟨a, b⟩ := p
  obtain ⟨c, d⟩ := q
  by_cases h1 : a = c
  · by_cases h2 : b = d
    · subst h1 h2; simp
    · simp [h1, h2]
  · simp [h1]
theorem any_pair2 (cs : List (Int × Int)) (p : Int × Int) : ((cs.map pairD).any fun c => PyData.eqv c (pairD p)) = decide (p ∈ cs) := by
  rw [List.any_map, Bool.eq_iff_iff, List.any_eq_true, decide_eq_true_iff]
  constructor
  · rintro ⟨c, hc, h⟩
    have : c = p := of_decide_eq_true (by rw [← eqv_pair2]; exact h)
    rw [← this]; exact hc
  · intro h
    refine ⟨p, h, ?_⟩
    show PyData.eqv (pairD p) (pairD p) = true
    rw [eqv_pair2]; simp
def bdD (h w : Int) (cs : List (Int × Int)) : PyData := .tuple [.int h, .int w, .tuple (cs.map pairD)]
end Rk
namespace Rk
open PySem PySem.Spec PyProof.Rows L2 _root_.Rd Dl Rt
def rowF (r n : Nat) (f : Nat → Nat → Bool) : List (Int × Int) := ((List.range n).filter (f r)).map fun (c : Nat) => ((r : Int), (c : Int))
def cellsF (h w : Nat) (f : Nat → Nat → Bool) : List (Int × Int) := (List.range h).flatMap fun r => rowF r w f
theorem cellsF_succ (h w : Nat) (f : Nat → Nat → Bool) : cellsF (h + 1) w f = cellsF h w f ++ rowF h w f := by
  unfold cellsF
  rw [List.range_succ, List.flatMap_append]
  simp
theorem rowF_succ (r n : Nat) (f : Nat → Nat → Bool) : rowF r (n + 1) f = rowF r n f ++ (if f r n = true then [((r : Int), (n : Int))] else []) := by
  unfold rowF
  rw [List.range_succ, List.filter_append, List.map_append]
  congr 1
  by_cases z : f r n = true
  · rw [if_pos z]; simp [z]
  · rw [if_neg z]; simp [z]
theorem rowF_congr {r n : Nat} {f g : Nat → Nat → Bool} (h : ∀ c, c < n → f r c = g r c) : rowF r n f = rowF r n g := by
  unfold rowF
  congr 1
  exact List.filter_congr fun c hc => h c (List.mem_range.mp hc)
theorem cellsF_congr {h w : Nat} {f g : Nat → Nat → Bool} (q : ∀ r c, r < h → c < w → f r c = g r c) : cellsF h w f = cellsF h w g := by
  induction h with
  | zero => rfl
  | succ h ih => rw [cellsF_succ, cellsF_succ, ih fun r c hr => q r c (by omega), rowF_congr fun c hc => q h c (by omega) hc]
theorem mem_rowF {r n : Nat} {f : Nat → Nat → Bool} {p : Int × Int} : p ∈ rowF r n f ↔ ∃ c : Nat, c < n ∧ f r c = true ∧ p = ((r : Int), (c : Int)) := by
  unfold rowF
  rw [List.mem_map]
  constructor
  · rintro ⟨c, hc, rfl⟩
    have hc := List.mem_filter.mp hc
    exact ⟨c, List.mem_range.mp hc.1, hc.2, rfl⟩
  · rintro ⟨c, hc, hf, rfl⟩
    exact ⟨c, List.mem_filter.mpr ⟨List.mem_range.mpr hc, hf⟩, rfl⟩
theorem mem_cellsF {h w : Nat} {f : Nat → Nat → Bool} {p : Int × Int} : p ∈ cellsF h w f ↔ ∃ r c : Nat, r < h ∧ c < w ∧ f r c = true ∧ p = ((r : Int), (c : Int)) := by
  unfold cellsF
  rw [List.mem_flatMap]
  constructor
  · rintro ⟨r, hr, hp⟩
    obtain ⟨c, hc, hf, rfl⟩ := mem_rowF.mp hp
    exact ⟨r, c, List.mem_range.mp hr, hc, hf, rfl⟩
  · rintro ⟨r, c, hr, hc, hf, rfl⟩
    exact ⟨r, List.mem_range.mpr hr, mem_rowF.mpr ⟨c, hc, hf, rfl⟩⟩
theorem rowF_len (r n : Nat) (f : Nat → Nat → Bool) : (rowF r n f).length ≤ n := by
  unfold rowF
  rw [List.length_map]
  exact Nat.le_trans (List.length_filter_le _ _) (by rw [List.length_range]; exact Nat.le_refl _)
theorem cellsF_len (w : Nat) (f : Nat → Nat → Bool) : ∀ h, (cellsF h w f).length ≤ h * w
  | 0 => Nat.zero_le _
  | h + 1 => by
    have := cellsF_len w f h
    have := rowF_len h w f
    rw [cellsF_succ, List.length_append, Nat.succ_mul]
    omega
theorem pw_rowF (r n : Nat) (f : Nat → Nat → Bool) : (rowF r n f).Pairwise plt := by
  unfold rowF
  refine List.Pairwise.map (R := fun a b => a < b) _ (fun a b hab => .inr ⟨rfl, by show (a : Int) < b; omega⟩) ?_
  exact List.Pairwise.filter _ List.pairwise_lt_range
theorem pw_cellsF (w : Nat) (f : Nat → Nat → Bool) : ∀ h, (cellsF h w f).Pairwise plt
  | 0 => .nil
  | h + 1 => by
    rw [cellsF_succ]
    refine List.pairwise_append.mpr ⟨pw_cellsF w f h, pw_rowF h w f, fun p hp q hq => ?_⟩
    obtain ⟨r, c, hr, _, _, rfl⟩ := mem_cellsF.mp hp
    obtain ⟨c', _, _, rfl⟩ := mem_rowF.mp hq
    exact .inl (by show (r : Int) < h; omega)
end Rk
namespace Rk
open PySem PySem.Spec PyProof.Rows L2 _root_.Rd Dl Rt
def rowC (cs : List (Int × Int)) (r : Int) : List (Int × Int) := cs.filter fun p => decide (p.1 = r)
def extS (cells L : List (Int × Int)) : List (List (Int × Int)) := (cells.filter fun c => !decide (c.2 ∈ L.map (·.2))).map fun c => L ++ [c]
def stsN (cs : List (Int × Int)) : Nat → List (List (Int × Int))
  | 0 => [[]]
  | i + 1 => stsN cs i ++ (stsN cs i).flatMap (extS (rowC cs i))
theorem any_int (ns : List Int) (i : Int) : ((ns.map PyData.int).any fun e => PyData.eqv e (.int i)) = decide (i ∈ ns) := by
  rw [List.any_map, Bool.eq_iff_iff, List.any_eq_true, decide_eq_true_iff]
  constructor
  · rintro ⟨c, hc, h⟩
    have : c = i := by simpa [PyData.eqv] using h
    rw [← this]; exact hc
  · intro h
    refine ⟨i, h, ?_⟩
    show (i == i) = true
    simp
end Rk
namespace Rk
open PySem PySem.Spec PyProof.Rows L2 _root_.Rd Dl Rt
def toI : PyData → Int
  | .int i => i
  | _ => 0
def tI (ns : List Int) : PyData := .tuple (ns.map PyData.int)
def isLf (L : List (Int × Int)) (p : Int × Int) : Bool := !(L.any fun q => (decide (q.2 = p.2) && decide (q.1 ≥ p.1)) || (decide (q.1 = p.1) && decide (q.2 < p.2)))
theorem fm_if {α β : Type} {g : α → Option β} {p : α → Bool} {k : α → β} : ∀ {xs : List α}, (∀ x ∈ xs, g x = if p x = true then some (k x) else none) → xs.filterMap g = (xs.filter p).map k
  | [], _ => rfl
  | x :: xs, h => by
    have ih := fm_if (xs := xs) fun y hy => h y (.tail _ hy)
    by_cases z : p x = true
    · rw [List.filterMap_cons_some (by rw [h x (.head _), if_pos z]), ih, List.filter_cons_of_pos z]; rfl
    · rw [List.filterMap_cons_none (by rw [h x (.head _), if_neg z]), ih, List.filter_cons_of_neg z]
theorem cm2_ofB {items : List PyData} {wg wg2 : DG} {wt wt2 : DT} {wi2 : DI} {we : DE} {δ : Sts} {Q : PyData → Prop} (G : PyData → List PyData) (k : Nat) (hl : (items.flatMap G).length ≤ k)
    (h : ∀ d ∈ items, ∀ (acc : List PyData) (N : List PyData → Prop), acc.length + (G d).length ≤ k → N (acc ++ G d) → wg d δ fun δ4 => wt δ4 (fun b => if b = true then wi2 δ4 (fun items2 => InR items2 wg2 wt2 we δ4 acc N) XF else N acc) XF) (q : Q (.list (items.flatMap G))) :
    CompR2 items wg wt wi2 wg2 wt2 we δ Q := by
  unfold CompR2
  refine ⟨fun i acc => acc = (items.take i).flatMap G, by simp, fun i acc d hd e => ?_, fun acc e => by rw [e, List.take_length]; exact q⟩
  have e : acc = (items.take i).flatMap G := e
  have hs : (items.take (i + 1)).flatMap G = (items.take i).flatMap G ++ G d := by
    rw [List.take_add_one, hd, List.flatMap_append]
    simp
  refine h d (List.mem_of_getElem? hd) acc _ ?_ (by show acc ++ G d = _; rw [hs, e])
  have h1 : (items.flatMap G).length = ((items.take (i + 1)).flatMap G).length + ((items.drop (i + 1)).flatMap G).length := by
    rw [← List.length_append, ← List.flatMap_append, List.take_append_drop]
  rw [hs, ← e, List.length_append] at h1
  omega
end Rk
namespace Rv
open PySem PySem.Spec PyProof.Rows
section
variable {prog : Program} {w : World} {A : Around} {E : Value → Shared → Prop} {s : Shared}
end
end Rv
namespace L2
open PySem PySem.Spec PyProof.Rows
section
variable {X : Cx} {tg : Expr}
end
end L2
namespace L2
open PySem PySem.Spec PyProof.Rows
section
variable {X : Cx}
end
end L2
namespace Dl
open PySem PySem.Spec PyProof.Rows L2 _root_.Rd Rk
section
variable {X : Cx} {E : XK} {st : Stmt} {i : Nat} {we : DE}
end
end Dl
namespace Rk
open PySem PySem.Spec PyProof.Rows L2 _root_.Rd Dl Rt
def intN (ns : List Nat) : List PyData := ns.map fun (c : Nat) => .int (c : Int)
theorem bit_and : ∀ t : Fin 64, ∀ c : Fin 6, Builtin.bitAnd ((t : Nat) : Int) (1 * 2 ^ ((c : Nat) : Int).toNat) = if (t : Nat).testBit c = true then 2 ^ (c : Nat) else 0 := by decide +kernel
end Rk
namespace Rk
open PySem PySem.Spec PyProof.Rows L2 _root_.Rd Dl Rt
theorem and_bit {t c w : Nat} (ht : t < 2 ^ w) (hc : c < w) (w6 : w ≤ 6) : Builtin.bitAnd (t : Int) (1 * 2 ^ ((c : Nat) : Int).toNat) = if t.testBit c = true then 2 ^ c else 0 := by
  have h64 : 2 ^ w ≤ 2 ^ 6 := Nat.pow_le_pow_right (by decide) w6
  exact bit_and ⟨t, by have e : 2 ^ 6 = 64 := rfl; omega⟩ ⟨c, by omega⟩
end Rk
namespace Rk
open PySem PySem.Spec PyProof.Rows L2 _root_.Rd Dl Rt
end Rk
namespace Rk
open PySem PySem.Spec PyProof.Rows L2 _root_.Rd Dl Rt
end Rk
namespace Rk
open PySem PySem.Spec PyProof.Rows L2 _root_.Rd Dl Rt
end Rk
namespace L2
open PySem PySem.Spec PyProof.Rows
section
variable {X : Cx}
end
end L2
namespace Dl
open PySem PySem.Spec PyProof.Rows L2 _root_.Rd Rk
end Dl
namespace Rk
open PySem PySem.Spec PyProof.Rows L2 _root_.Rd Dl Rt
def wo (cs : List (Int × Int)) (c : Int × Int) : List (Int × Int) := cs.filter fun p => !decide (p = c)
theorem flat_congr {α β : Type} {f g : α → List β} : ∀ {xs : List α}, (∀ x ∈ xs, f x = g x) → xs.flatMap f = xs.flatMap g
  | [], _ => rfl
  | x :: xs, h => by rw [List.flatMap_cons, List.flatMap_cons, h x (.head _), flat_congr fun y hy => h y (.tail _ hy)]
def Bds (h w : Nat) (cs : List (Int × Int)) : Prop := h ≤ 6 ∧ w ≤ 6 ∧ ∀ p ∈ cs, 0 ≤ p.1 ∧ p.1 < h ∧ 0 ≤ p.2 ∧ p.2 < w
theorem Bds.wo {h w : Nat} {cs : List (Int × Int)} (b : Bds h w cs) (c : Int × Int) : Bds h w (wo cs c) := ⟨b.1, b.2.1, fun p hp => b.2.2 p (List.mem_filter.mp hp).1⟩
theorem Bds.col {h w : Nat} {cs : List (Int × Int)} (b : Bds h w cs) : ∀ p ∈ cs, 0 ≤ p.2 ∧ p.2 < (w : Int) := fun p hp => (b.2.2 p hp).2.2
end Rk
namespace Rk
open PySem PySem.Spec PyProof.Rows L2 _root_.Rd Dl Rt
theorem cmp_pair (p q : Int × Int) : cmpD (pairD p) (pairD q) = if plt p q then .lt else if p = q then .eq else .gt := by
  obtain ⟨a, b⟩ := p
  obtain ⟨c, d⟩ := q
  show thn (cmpI a c) (thn (cmpI b d) .eq) = _
  unfold cmpI
  by_cases h1 : a < c
  · rw [if_pos h1, if_pos (show plt (a, b) (c, d) from Or.inl h1)]; rfl
  · rw [if_neg h1]
    by_cases h2 : a = c
    · subst h2
      rw [if_pos rfl]
      by_cases h3 : b < d
      · rw [if_pos h3, if_pos (show plt (a, b) (a, d) from Or.inr ⟨rfl, h3⟩)]; rfl
      · have hn : ¬ plt (a, b) (a, d) := fun z => by
          have z : a < a ∨ (a = a ∧ b < d) := z
          omega
        rw [if_neg h3, if_neg hn]
        by_cases h4 : b = d
        · subst h4; rw [if_pos rfl, if_pos rfl]; rfl
        · rw [if_neg h4, if_neg (fun e => h4 (Prod.mk.inj e).2)]; rfl
    · have hn : ¬ plt (a, b) (c, d) := fun z => by
        have z : a < c ∨ (a = c ∧ b < d) := z
        omega
      rw [if_neg h2, if_neg hn, if_neg (fun e => h2 (Prod.mk.inj e).1)]; rfl
end Rk
namespace Dl
open PySem PySem.Spec PyProof.Rows L2 _root_.Rd Rk
section
variable {X : Cx} {E : XK} {st : Stmt} {we : DE}
end
end Dl
namespace Rk
open PySem PySem.Spec PyProof.Rows L2 _root_.Rd Dl Rt
structure GB (h w : Nat) (cs : List (Int × Int)) : Prop where
  bds : Bds h w cs
  srt : cs.Pairwise plt
  few : (stsN cs h).length ≤ 200000
theorem GB.r0 {h w : Nat} {cs : List (Int × Int)} (g : GB h w cs) : ∀ p ∈ cs, 0 ≤ p.1 := fun p hp => (g.bds.2.2 p hp).1
end Rk
namespace L2
open PySem PySem.Spec PyProof.Rows
section
variable {X : Cx}
end
end L2
namespace Dl
open PySem PySem.Spec PyProof.Rows L2 _root_.Rd Rk Rt
end Dl
namespace Rk
open PySem PySem.Spec PyProof.Rows L2 _root_.Rd Dl Rt
theorem cnt_one (p : Nat → Bool) (h : Nat) : (List.range (h + 1)).countP p = (List.range h).countP p + if p h = true then 1 else 0 := by
  rw [List.range_succ, List.countP_append, List.countP_singleton]
theorem sum_add_ite (g : Nat → Nat) (p : Nat → Bool) : ∀ xs : List Nat, (xs.map fun c => g c + if p c = true then 1 else 0).sum = (xs.map g).sum + xs.countP p
  | [] => rfl
  | x :: xs => by
    rw [List.map_cons, List.sum_cons, sum_add_ite g p xs, List.map_cons, List.sum_cons, List.countP_cons]
    omega
theorem len_cells (w : Nat) (f : Nat → Nat → Bool) : ∀ h, (cellsF h w f).length = ((List.range w).map fun c => (List.range h).countP fun r => f r c).sum
  | 0 => by
    show 0 = _
    have : ((List.range w).map fun c => (List.range 0).countP fun r => f r c) = List.replicate w 0 := by
      rw [show (fun c => (List.range 0).countP fun r => f r c) = fun _ => 0 from rfl, List.map_const', List.length_range]
    rw [this]; simp
  | h + 1 => by
    rw [cellsF_succ, List.length_append, len_cells w f h]
    have : ((List.range w).map fun c => (List.range (h + 1)).countP fun r => f r c) = (List.range w).map fun c => ((List.range h).countP fun r => f r c) + if f h c = true then 1 else 0 := List.map_congr_left fun c _ => cnt_one (fun r => f r c) h
    rw [this, sum_add_ite]
    congr 1
    unfold rowF
    rw [List.length_map, List.countP_eq_length_filter]
def wt (cs L : List (Int × Int)) : Nat := (cs.filter (isLf L)).length
end Rk
namespace L2
open PySem PySem.Spec PyProof.Rows _root_.Rd
section
variable {X : Cx}
theorem cnt_eqH {h : Heap} {d : PyData} : ∀ {vs : List Value} {ds : List PyData} {as : List Addr}, ReadsAll h vs ds as → PyData.canLayAll0 ds = true → vs.countP (eqH h d) = ds.countP fun e => PyData.eqv e d
  | _, _, _, .nil, _ => rfl
  | _, _, _, .cons r rs, c => by
    simp only [PyData.canLayAll0, Bool.and_eq_true] at c
    rw [List.countP_cons, List.countP_cons, eqH_of r c.1, cnt_eqH rs c.2]
def rCnt (u : Nat) : V → List V → Hp → VK → Prop := fun x vs H Q => ∃ l ps ds y d, x = .ref l ∧ vs = [y] ∧ H l = some (.lst ps) ∧ Dats H ps ds ∧ Dat H y d ∧ u + d.depth < cLine ∧ Q (.int (ds.countP fun e => PyData.eqv e d : Nat)) H
theorem mt_count : MtR X "list.count" (rCnt X.A.in1.units) := by
  intro pins s σ H x vs v us Q I rx rv h
  obtain ⟨l, ps, ds, y, d, rfl, rfl, hH, qs, qy, hu, q⟩ := h
  cases rx
  obtain ⟨u, rfl, ru⟩ := rv.one
  obtain ⟨⟨as, ra⟩, ca⟩ := dat_reads I.hok d y u qy ru
  obtain ⟨z, its, n, r, hl', e⟩ := I.lstM hH
  obtain ⟨⟨bs, rb⟩, cb⟩ := dats_reads I.hok ds ps its qs r
  refine call_meets F.slot_list_count ⟨_, e, rfl⟩ F.entry_list_count (F.args_list_count_2 _ _) (SeqAt.list_countAt l its.toArray n _ _ u (eqH s.heap d)) ⟨e, fun y hy => mem_eqH ra ca rb cb hu y (List.mem_toArray.mp hy), ?_⟩
  rw [show its.toArray.toList = its from rfl, cnt_eqH rb cb]
  exact ⟨.int _, H, I.kept fun _ _ e => e, ⟨_, rfl⟩, q⟩
end
end L2
namespace Dl
open PySem PySem.Spec PyProof.Rows L2 _root_.Rd Rk Rt
section
variable {X : Cx} {E : XK}
def dMth (rD : List PyData → PyData → (PyData → Prop) → Prop) (wa wb : DE) : DE := fun δ Q EX => wa δ (fun d1 => match d1 with
  | .list ds => wb δ (fun d2 => rD ds d2 Q) EX
  | _ => False) EX
def MthD (r : V → List V → Hp → VK → Prop) (rD : List PyData → PyData → (PyData → Prop) → Prop) : Prop := ∀ (A P : Addr → Prop) (H : Hp) (l : Addr) (y : V) (ds : List PyData) (d2 : PyData) (R : PyData → Prop) (Q : VK), DP A P H (.ref l) (.list ds) → DP A P H y d2 → rD ds d2 R → (∀ i : Int, R (.int i) → Q (.int i) H) → r (.ref l) [y] H Q
theorem mth_read {r : V → List V → Hp → VK → Prop} {rD : List PyData → PyData → (PyData → Prop) → Prop} {wa wb : DE} {K : PySem.W.Frag} (hd : MthD r rD) (σ : L2.St) (H : Hp) (Q : VK) (h : tX .F K E (dMth rD wa wb) σ H Q) : tBM K "list" r (tX .P K E wa) (tCons (tX .P K E wb) tNil) σ H Q := by
  obtain ⟨F, δ, R, EX, rel, hw, k, o⟩ := h
  refine ⟨F, δ, _, EX, rel, hw, fun d1 h1 x H1 rel1 kp1 x1 => ?_, o⟩
  cases d1 <;> first | exact (show False from h1).elim | skip
  rename_i ds
  obtain ⟨l, xs, rfl, e, q⟩ := DP.list x1
  refine ⟨.inl ⟨rfl, xs, SqL.of e⟩, F, δ, _, EX, rel1, h1, fun d2 h2 y H2 rel2 kp2 y2 => ?_, o⟩
  refine hd (Av F σ δ) (PotA σ δ) H2 l y ds d2 R Q (kp2.dp x1) y2 h2 fun i hR => ?_
  exact k _ hR _ H2 rel2 (kp1.trans kp2) ⟨.int i, fun l e1 e2 => nomatch e1⟩
def cntLD (ds : List PyData) (d : PyData) (Q : PyData → Prop) : Prop := (nds ds = true ∧ nd d = true ∧ d.depth ≤ 50) ∧ Q (.int (ds.countP fun e => PyData.eqv e d : Nat))
theorem md_cnt {u : Nat} (hu : u + 60 < cLine) : MthD (rCnt u) cntLD := fun A P H l y ds d2 R Q hx hy h k => by
  obtain ⟨⟨n1, n2, n3⟩, hR⟩ := h
  obtain ⟨l', xs, e0, e, q⟩ := DP.list hx
  cases e0
  exact ⟨l, xs, ds, y, d2, rfl, rfl, e, das_dats _ _ n1 q, hy.dat n2, by omega, k _ hR⟩
theorem q_cnt {o e : Expr} {wo we : DE} {apos cpos : Pos} (hu : X.A.in1.units + 60 < cLine) (ho : QE .P X E o wo) (he : QE .P X E e we) (hst : notStar e = true := by rfl) (hbase : attributeBase o "count" X.env (eval o X.env) = eval o X.env := by rfl) (hfew : ((backTo cpos (starEach [e] X.env)).all (fun x => !x.1) && (backToKw cpos (keywordEach [] X.env)).all (fun x => x.1.isSome) && decide ([e].length + ([] : List Keyword).length + (if ([] : List Keyword).isEmpty then 0 else 1) < 30)) = true := by rfl) (hline : (apos.endLine == cpos.line) = true := by rfl) : QE .F X E (.Call (.Attribute o "count" apos) [e] [] cpos) (dMth cntLD wo we) :=
  ⟨PE.imp (pe_bm PySem.F.plainAttrs_list PySem.F.slot_list_count PySem.F.type_list_count mt_count ho.h (pa_c he.h pa_nil hst) hbase hfew hline (star_of hst) rfl) (mth_read (md_cnt hu))⟩
end
end Dl
namespace Rk
open PySem PySem.Spec PyProof.Rows L2 _root_.Rd Dl Rt
end Rk
namespace Rk
open PySem PySem.Spec PyProof.Rows L2 _root_.Rd Dl Rt
end Rk
namespace Rk
open PySem PySem.Spec PyProof.Rows L2 _root_.Rd Dl Rt
end Rk
namespace Rk
open PySem PySem.Spec PyProof.Rows L2 _root_.Rd Dl Rt
def oth (n : Nat) (o : List Nat) : List Nat := (List.range n).filter fun x => !decide (x ∈ o)
def ordsN (n : Nat) : Nat → List (List Nat)
  | 0 => [[]]
  | i + 1 => (ordsN n i).flatMap fun o => (oth n o).map fun x => o ++ [x]
theorem ords_len {n : Nat} : ∀ {i : Nat} {o : List Nat}, o ∈ ordsN n i → o.length = i
  | 0, o, h => by rw [List.mem_singleton.mp h]; rfl
  | i + 1, o, h => by
    obtain ⟨p, hp, ho⟩ := List.mem_flatMap.mp h
    obtain ⟨x, _, rfl⟩ := List.mem_map.mp ho
    rw [List.length_append, ords_len hp]; rfl
theorem oth_len (n : Nat) (o : List Nat) : (oth n o).length ≤ n := by
  unfold oth
  exact Nat.le_trans (List.length_filter_le _ _) (by rw [List.length_range]; exact Nat.le_refl _)
theorem flat_le {α β : Type} (g : α → List β) (n : Nat) : ∀ xs : List α, (∀ x ∈ xs, (g x).length ≤ n) → (xs.flatMap g).length ≤ xs.length * n
  | [], _ => by simp
  | x :: xs, h => by
    rw [List.flatMap_cons, List.length_append, List.length_cons, Nat.succ_mul]
    have := flat_le g n xs fun y hy => h y (.tail _ hy)
    have := h x (.head _)
    omega
theorem ords_few {n : Nat} (h6 : n ≤ 6) : ∀ i, i ≤ 6 → (ordsN n i).length ≤ 50000
  | i, hi => by
    have q : ∀ i, (ordsN n i).length ≤ n ^ i := fun i => by
      induction i with
      | zero => exact Nat.le_refl _
      | succ i ih =>
        refine Nat.le_trans (flat_le _ n _ fun o _ => by rw [List.length_map]; exact oth_len n o) ?_
        rw [Nat.pow_succ]
        exact Nat.mul_le_mul_right _ ih
    have a := q i
    have b : n ^ i ≤ 6 ^ i := Nat.pow_le_pow_left h6 i
    have c : 6 ^ i ≤ 6 ^ 6 := Nat.pow_le_pow_right (by decide) hi
    have e : (6 : Nat) ^ 6 = 46656 := rfl
    omega
def tNn (o : List Nat) : PyData := .tuple (intN o)
def othD : DF := fun args R _ => ∃ (n : Nat) (o : List Nat), args = [.v (.int n), .v (tNn o)] ∧ n ≤ 6 ∧ R (.list (intN (oth n o)))
def ordsD : DF := fun args R _ => ∃ n : Nat, args = [.v (.int n)] ∧ n ≤ 6 ∧ R (.list ((ordsN n n).map tNn))
def lb2D : DF := fun args R _ => ∃ h w : Nat, args = [.pot, .v (.int h), .v (.int w)] ∧ h ≤ 6 ∧ w ≤ 6 ∧ ∀ f : Nat → Nat → Bool, R (bdD h w (cellsF h w f))
theorem ords_lt {n : Nat} : ∀ {i : Nat} {o : List Nat}, o ∈ ordsN n i → ∀ x ∈ o, x < n
  | 0, o, h, x, hx => by rw [List.mem_singleton.mp h] at hx; cases hx
  | i + 1, o, h, x, hx => by
    obtain ⟨p, hp, ho⟩ := List.mem_flatMap.mp h
    obtain ⟨y, hy, rfl⟩ := List.mem_map.mp ho
    rcases List.mem_append.mp hx with z | z
    · exact ords_lt hp x z
    · rw [List.mem_singleton.mp z]; exact List.mem_range.mp (List.mem_filter.mp hy).1
theorem depth_ints (ns : List Int) : (PyData.list (ns.map PyData.int)).depth ≤ 50 := by
  have : ∀ ns : List Int, PyData.depthAll (ns.map PyData.int) ≤ 1 := fun ns => by
    induction ns with
    | nil => decide
    | cons x ns ih =>
      show max (PyData.depth (.int x)) (PyData.depthAll (ns.map PyData.int)) ≤ 1
      have : PyData.depth (.int x) ≤ 1 := by unfold PyData.depth; decide
      omega
  have := this ns
  unfold PyData.depth
  omega
end Rk
namespace Rk
open PySem PySem.Spec PyProof.Rows L2 _root_.Rd Dl Rt
end Rk
namespace HT
open PySem PyProof.Rows
section
open PySem.SeqAt
open PySem.AutoSeq1 (wpAny_loadPart')
open PySem.MeetsSeq PySem.MeetsSeq2 PySem.MeetsSeq3
end
section
variable {prog : Program} {w : World} {A : Around} {E : Value → Shared → Prop} {s : Shared}
end
end HT
namespace L2
open PySem PySem.Spec PyProof.Rows
end L2
namespace Rk
open PySem PySem.Spec PyProof.Rows L2 _root_.Rd Dl Rt
end Rk
namespace Dl
open PySem PySem.Spec PyProof.Rows L2 _root_.Rd Rk Rt
end Dl
namespace Rk
open PySem PySem.Spec PyProof.Rows L2 _root_.Rd Dl Rt
theorem ords_perm {n : Nat} {o : List Nat} (h : o ∈ ordsN n n) : o.Perm (List.range n) := by
  have nd : ∀ {i : Nat} {o : List Nat}, o ∈ ordsN n i → o.Nodup := fun {i} => by
    induction i with
    | zero => intro o h; rw [List.mem_singleton.mp h]; exact .nil
    | succ i ih =>
      intro o h
      obtain ⟨p, hp, ho⟩ := List.mem_flatMap.mp h
      obtain ⟨x, hx, rfl⟩ := List.mem_map.mp ho
      refine List.nodup_append.mpr ⟨ih hp, by simp, fun a ha b hb e => ?_⟩
      rw [List.mem_singleton.mp hb] at e
      have := (List.mem_filter.mp hx).2
      rw [Bool.not_eq_true', decide_eq_false_iff_not] at this
      exact this (by rw [← e]; exact ha)
  have p1 : o.Perm ((List.range n).filter fun x => decide (x ∈ o)) := (List.perm_ext_iff_of_nodup (nd h) (List.Pairwise.filter _ List.nodup_range)).mpr fun x => by
    rw [List.mem_filter, List.mem_range]
    exact ⟨fun hx => ⟨ords_lt h x hx, decide_eq_true hx⟩, fun hx => of_decide_eq_true hx.2⟩
  have l1 := p1.length_eq
  have l2 := List.length_eq_countP_add_countP (fun x => decide (x ∈ o)) (l := List.range n)
  rw [List.length_range, List.countP_eq_length_filter, ← l1, ords_len h] at l2
  have l3 : (List.range n).countP (fun x => decide (¬ decide (x ∈ o) = true)) = 0 := by omega
  have al : (List.range n).filter (fun x => decide (x ∈ o)) = List.range n := List.filter_eq_self.mpr fun x hx => by
    have := List.countP_eq_zero.mp l3 x hx
    simpa using this
  rw [al] at p1
  exact p1
end Rk
namespace Rm
open PySem PySem.Spec PyProof.Rows
open AutoSeq1 (wpAny_loadPart')
open MeetsSeq
theorem wpAny_forIn_range {M : Model} {A : Around} {E : Value → Shared → Prop} {s : Shared} {β : Type} (f : Nat → β → Sem (ForInStep β)) (I : List Nat → β → Shared → Prop) (Q : β → Shared → Prop)
    (turn : ∀ x rest b s, I (x :: rest) b s → wpAny M A (f x b) (fun r s' => match r with | .yield b' => I rest b' s' | .done b' => Q b' s') E s)
    (fin : ∀ b s, I [] b s → Q b s) (xs : Std.Legacy.Range) (b : β) (h : I (List.range' xs.start xs.size xs.step) b s) : wpAny M A (forIn xs b f) Q E s := by
  rw [Std.Legacy.Range.forIn_eq_forIn_range']
  exact wpAny_forIn_list f I Q turn fin _ b h
theorem tuple_indexAt (l : Addr) (items : Array Value) (n : Nat) (dd : Option Addr) (sl : Array (Option Value)) (x : Value) (e : Value → Bool) (he : ∀ y, y ∈ items → EqGives y x (e y)) (j : Nat) (hj : j < items.size)
    (hit : e items[j] = true) (hno : ∀ m (hm : m < items.size), m < j → e items[m] = false) :
    Meets (Builtin.«tuple.index» ⟨[.ref l, x], []⟩)
      (fun _ R s => s.heap.get? l = some { cls := .type "tuple", dict := dd, data := .seq items n, slots := sl } ∧ R (.ok (.ret (.int j s.toks))) { s with toks := s.toks + 1 }) :=
  .of_wp fun prog w A R s h => by
    obtain ⟨hp, g, d, tk, os⟩ := s; obtain ⟨hl, h⟩ := h
    wp_walk using wpAny_loadPart' hl, wpAny_forIn_range _ (fun rest b s' => b.1 = none ∧ s' = ⟨hp, g, d, tk, os⟩ ∧ ∃ i, i ≤ j ∧ rest = List.range' i (items.size - i)) _
    case turn =>
      rintro i rest b s' ⟨hb, rfl, i', hi, er⟩
      obtain ⟨k, hk⟩ : ∃ k, items.size - i' = k + 1 := ⟨items.size - i' - 1, by omega⟩
      rw [hk, List.range'_succ] at er
      injection er with e1 e2
      subst e1
      have hlt : i < items.size := by omega
      rw [show items[i]? = some items[i] from Array.getElem?_eq_getElem hlt]
      refine wpAny_bind (he _ (Array.getElem_mem hlt) prog w _ _ _ _ ?_)
      by_cases z : i = j
      · subst z
        rw [hit]
        wp_walk
        exact ⟨_, rfl, h⟩
      · rw [hno i hlt (by omega)]
        wp_walk
        exact ⟨rfl, rfl, i + 1, by omega, by rw [e2, show items.size - (i + 1) = k by omega]⟩
    case fin =>
      rintro b s' ⟨hb, rfl, i', hi, er⟩
      have := congrArg List.length er
      rw [List.length_range'] at this
      simp at this
      omega
    case h =>
      refine ⟨rfl, rfl, 0, Nat.zero_le _, ?_⟩
      show List.range' 0 ((min items.size items.size - 0 + 1 - 1) / 1) 1 = _
      rw [Nat.min_self]
      simp
end Rm
namespace L2
open PySem PySem.Spec PyProof.Rows _root_.Rd
theorem intsAre_get : ∀ {vs : List Value} {ns : List Int}, IntsAre vs ns → ∀ (m : Nat) (v : Value), vs[m]? = some v → ∃ n t, ns[m]? = some n ∧ v = .int n t
  | _, _, .nil, m, v, h => by simp at h
  | _, _, .cons n t h, 0, v, e => by simp at e; subst e; exact ⟨n, t, rfl, rfl⟩
  | _, _, .cons n t h, m + 1, v, e => intsAre_get h m v (by simpa using e)
theorem isInt_get {vs : List Value} {ns : List Int} {k : Int} (h : IntsAre vs ns) (m : Nat) (hm : m < vs.length) : isInt k vs[m] = decide (ns[m]? = some k) := by
  obtain ⟨n, t, e1, e2⟩ := intsAre_get h m vs[m] (List.getElem?_eq_getElem hm)
  rw [e2, e1]
  show (n == k) = _
  rw [Bool.eq_iff_iff]
  simp
theorem intsAre_len {vs : List Value} {ns : List Int} (h : IntsAre vs ns) : vs.length = ns.length := by
  induction h with
  | nil => rfl
  | cons n t h ih => rw [List.length_cons, List.length_cons, ih]
section
variable {X : Cx}
def tTM (r : V → List V → Hp → VK → Prop) (to : TE) (t : TA) : TE := fun σ H Q => to σ H fun x H1 => (∃ p xs, x = .ref p ∧ H1 p = some (.tup xs)) ∧ t σ H1 fun xs H2 => r x xs H2 Q
theorem pe_tm {o e : Expr} {es : List Expr} {to : TE} {t : TA} {name : Str} {apos cpos : Pos} {id : String} {r : V → List V → Hp → VK → Prop} (slot : Slot "tuple" name id) (hty : typeOf (.builtin id) = pure (.type "method_descriptor")) (hm : MtR X id r) (ho : PE X o to) (ha : PA X (e :: es) t)
    (hbase : attributeBase o name X.env (eval o X.env) = eval o X.env := by rfl)
    (hfew : ((backTo cpos (starEach (e :: es) X.env)).all (fun x => !x.1) && (backToKw cpos (keywordEach [] X.env)).all (fun x => x.1.isSome)
      && decide ((e :: es).length + ([] : List Keyword).length + (if ([] : List Keyword).isEmpty then 0 else 1) < 30)) = true := by rfl)
    (hline : (apos.endLine == cpos.line) = true := by rfl) (hs : starEach (e :: es) X.env = (false, eval e X.env) :: starEach es X.env := by rfl) (hplain : (backTo cpos (starEach es X.env)).any (·.1) = false := by rfl) :
    PE X (.Call (.Attribute o name apos) (e :: es) [] cpos) (tTM r to t) := by
  intro pins s σ H Q I h
  refine wpAny_Call_method_late hbase hfew hline rfl (thn (ho pins s σ H _ I h) fun v s1 ⟨x, H1, I1, r1, ty, q1⟩ => ?_)
  obtain ⟨p, xs, rfl, hp⟩ := ty
  cases r1
  obtain ⟨_, its, rv, ob, e1, e2, e3, _⟩ := I1.hok p _ hp
  refine ⟨"tuple", id, PySem.F.plainAttrs_tuple, slot, hty, ⟨ob, e1, e2⟩, fun a ea => ?_, ?_⟩
  · cases ea
    exact ⟨ob, e1, e3⟩
  have hA := ha cpos pins s1 σ H1 _ I1 q1
  rw [hs] at hA ⊢
  refine Calls.callWith_builtin (by show (false || (backTo cpos (starEach es X.env)).any (·.1)) = false; rw [hplain] <;> rfl) (Calls.evalArgs_plain ?_)
  exact thn hA fun us s2 ⟨vs, H2, I2, r2, q2⟩ => hm pins s2 σ H2 (.ref p) vs _ us Q I2 (show RelV (.ref p) (.ref p) from rfl) r2 q2
def rTidx : V → List V → Hp → VK → Prop := fun x vs H Q => ∃ l ns k j, x = .ref l ∧ vs = [.int k] ∧ H l = some (.tup ((ns : List Int).map V.int)) ∧ ns[j]? = some k ∧ (∀ m, m < j → ns[m]? ≠ some k) ∧ Q (.int (j : Nat)) H
theorem mt_tindex : MtR X "tuple.index" rTidx := by
  intro pins s σ H x vs v us Q I rx rv h
  obtain ⟨l, ns, k, j, rfl, rfl, hH, hj, hno, q⟩ := h
  cases rx
  obtain ⟨u, rfl, ru⟩ := rv.one
  obtain ⟨t, rfl⟩ := ru
  obtain ⟨hz, its, r, ⟨cls, dd, data, sl⟩, e, hc, _, n, hd⟩ := I.hok l _ hH
  cases (show cls = .type "tuple" from hc)
  cases (show data = .seq its.toArray n from hd)
  have hi : IntsAre its ns := intsAre_of r
  have li := intsAre_len hi
  have hjl : j < its.length := by rw [li]; exact (List.getElem?_eq_some_iff.mp hj).1
  refine call_meets F.slot_tuple_index ⟨_, e, rfl⟩ F.entry_tuple_index (F.args_tuple_index_2 _ _) (Rm.tuple_indexAt l its.toArray n dd sl (.int k t) (isInt k) (fun y hy => eq_isInt k t hi y (List.mem_toArray.mp hy)) j (by rw [List.size_toArray]; exact hjl) ?_ ?_) ⟨e, ?_⟩
  · show isInt k its[j] = true
    rw [isInt_get hi j hjl, hj]; simp
  · intro m hm hlt
    rw [List.size_toArray] at hm
    show isInt k its[m] = false
    rw [isInt_get hi m hm]
    exact decide_eq_false (hno m hlt)
  · exact ⟨.int _, H, I.kept fun _ _ e => e, ⟨_, rfl⟩, q⟩
end
end L2
namespace Dl
open PySem PySem.Spec PyProof.Rows L2 _root_.Rd Rk Rt
section
variable {X : Cx} {E : XK} {st : Stmt} {i : Nat} {we : DE}
def dTidx (wa wb : DE) : DE := fun δ Q EX => wa δ (fun d1 => match d1 with
  | .tuple ds => wb δ (fun d2 => ∃ (ns : List Int) (k : Int) (j : Nat), ds = ns.map PyData.int ∧ d2 = .int k ∧ ns[j]? = some k ∧ (∀ m, m < j → ns[m]? ≠ some k) ∧ Q (.int (j : Nat))) EX
  | _ => False) EX
theorem q_tidx {o e : Expr} {wo we : DE} {apos cpos : Pos} (ho : QE .P X E o wo) (he : QE .P X E e we) (hst : notStar e = true := by rfl) (hbase : attributeBase o "index" X.env (eval o X.env) = eval o X.env := by rfl) (hfew : ((backTo cpos (starEach [e] X.env)).all (fun x => !x.1) && (backToKw cpos (keywordEach [] X.env)).all (fun x => x.1.isSome) && decide ([e].length + ([] : List Keyword).length + (if ([] : List Keyword).isEmpty then 0 else 1) < 30)) = true := by rfl) (hline : (apos.endLine == cpos.line) = true := by rfl) : QE .F X E (.Call (.Attribute o "index" apos) [e] [] cpos) (dTidx wo we) :=
  ⟨PE.imp (pe_tm PySem.F.slot_tuple_index PySem.F.type_tuple_index mt_tindex ho.h (pa_c he.h pa_nil hst) hbase hfew hline (star_of hst) rfl) fun σ H Q ⟨F, δ, R, EX, rel, hw, k, o⟩ => by
    refine ⟨F, δ, _, EX, rel, hw, fun d1 h1 x H1 rel1 kp1 x1 => ?_, o⟩
    cases d1 <;> first | exact (show False from h1).elim | skip
    rename_i ds
    obtain ⟨l, xs, rfl, e, q⟩ := DP.tuple x1
    refine ⟨⟨l, xs, rfl, e⟩, F, δ, _, EX, rel1, h1, fun d2 h2 y H2 rel2 kp2 y2 => ?_, o⟩
    obtain ⟨ns, kk, j, rfl, rfl, hj, hno, hR⟩ := h2
    obtain ⟨l', xs', e0, e', q'⟩ := DP.tuple (kp2.dp x1)
    cases e0
    rw [das_ints q'] at e'
    cases y2.int
    exact ⟨l, ns, kk, j, rfl, rfl, e', hj, hno, k _ hR _ H2 rel2 (kp1.trans kp2) ⟨.int _, fun l e1 e2 => nomatch e1⟩⟩⟩
end
end Dl
namespace Rk
open PySem PySem.Spec PyProof.Rows L2 _root_.Rd Dl Rt
def colB (f : Nat → Nat → Bool) (o : List Nat) (c : Nat) : List Bool := o.map fun r => f r c
def binB : List Bool → Int
  | [] => 0
  | b :: bs => (if b = true then (2 : Int) ^ bs.length else 0) + binB bs
theorem pow2_pos (n : Nat) : (0 : Int) < 2 ^ n := Int.pow_pos (by decide)
theorem binB_bd : ∀ bs, 0 ≤ binB bs ∧ binB bs < 2 ^ bs.length
  | [] => ⟨Int.le_refl _, by decide⟩
  | b :: bs => by
    have h := binB_bd bs
    have p := pow2_pos bs.length
    have e : (2 : Int) ^ (b :: bs).length = 2 * 2 ^ bs.length := by rw [List.length_cons, Int.pow_succ, Int.mul_comm]
    rw [e]
    show 0 ≤ (if b = true then (2 : Int) ^ bs.length else 0) + binB bs ∧ (if b = true then (2 : Int) ^ bs.length else 0) + binB bs < 2 * 2 ^ bs.length
    split <;> omega
theorem binB_inj : ∀ {as bs : List Bool}, as.length = bs.length → binB as = binB bs → as = bs
  | [], [], _, _ => rfl
  | [], _ :: _, h, _ => by simp at h
  | _ :: _, [], h, _ => by simp at h
  | a :: as, b :: bs, h, e => by
    have hl : as.length = bs.length := by simpa using h
    have e : (if a = true then (2 : Int) ^ as.length else 0) + binB as = (if b = true then (2 : Int) ^ bs.length else 0) + binB bs := e
    have ha := binB_bd as
    have hb := binB_bd bs
    rw [hl] at e ha
    cases a <;> cases b <;> simp only [Bool.false_eq_true, if_false, if_true] at e
    · rw [binB_inj hl (by omega)]
    · omega
    · omega
    · rw [binB_inj hl (by omega)]
theorem sum_perm {α : Type} {F : α → Int} {l m : List α} (p : l.Perm m) : (l.map F).sum = (m.map F).sum := by
  induction p with
  | nil => rfl
  | cons x _ ih => rw [List.map_cons, List.map_cons, List.sum_cons, List.sum_cons, ih]
  | swap x y l => simp only [List.map_cons, List.sum_cons]; omega
  | trans _ _ h1 h2 => exact h1.trans h2
def mkS (o : List Nat) (N : Nat) (l : List (Int × Int)) (c : Nat) : Int := (l.map fun p => if p.2 = (c : Int) then (2 : Int) ^ (N - 1 - o.idxOf p.1.toNat) else 0).sum
theorem mkS_app (o : List Nat) (N : Nat) (l m : List (Int × Int)) (c : Nat) : mkS o N (l ++ m) c = mkS o N l c + mkS o N m c := by
  unfold mkS
  rw [List.map_append, List.sum_append]
theorem mkS_row (o : List Nat) (N r : Nat) (f : Nat → Nat → Bool) (c : Nat) : ∀ w, mkS o N (rowF r w f) c = if c < w ∧ f r c = true then (2 : Int) ^ (N - 1 - o.idxOf r) else 0
  | 0 => by rw [if_neg (by omega)]; rfl
  | w + 1 => by
    rw [rowF_succ, mkS_app, mkS_row o N r f c w]
    by_cases z : f r w = true
    · rw [if_pos z]
      show _ + ((if ((w : Nat) : Int) = (c : Int) then (2 : Int) ^ (N - 1 - o.idxOf ((r : Int)).toNat) else 0) + 0) = _
      rw [Int.toNat_natCast]
      by_cases y : w = c
      · subst y
        rw [if_neg (by omega), if_pos rfl, if_pos ⟨by omega, z⟩]; omega
      · rw [if_neg (show ¬ ((w : Nat) : Int) = (c : Int) by omega)]
        by_cases x : c < w ∧ f r c = true
        · rw [if_pos x, if_pos ⟨by omega, x.2⟩]; omega
        · rw [if_neg x, if_neg fun q => x ⟨by omega, q.2⟩]; omega
    · rw [if_neg z]
      show _ + 0 = _
      by_cases x : c < w ∧ f r c = true
      · rw [if_pos x, if_pos ⟨by omega, x.2⟩]; omega
      · rw [if_neg x, if_neg fun q => ?_]
        · omega
        · by_cases y : c = w
          · subst y; exact z q.2
          · exact x ⟨by omega, q.2⟩
theorem mkS_all (o : List Nat) (N w : Nat) (f : Nat → Nat → Bool) {c : Nat} (hc : c < w) : ∀ h, mkS o N (cellsF h w f) c = ((List.range h).map fun r => if f r c = true then (2 : Int) ^ (N - 1 - o.idxOf r) else 0).sum
  | 0 => rfl
  | h + 1 => by
    rw [cellsF_succ, mkS_app, mkS_all o N w f hc h, mkS_row, List.range_succ, List.map_append, List.sum_append]
    congr 1
    show _ = (if f h c = true then (2 : Int) ^ (N - 1 - o.idxOf h) else 0) + 0
    by_cases z : f h c = true
    · rw [if_pos ⟨hc, z⟩, if_pos z]; omega
    · rw [if_neg fun q => z q.2, if_neg z]; rfl
theorem bin_sum (g : Nat → Bool) : ∀ {o : List Nat}, o.Nodup → binB (o.map g) = (o.map fun r => if g r = true then (2 : Int) ^ (o.length - 1 - o.idxOf r) else 0).sum
  | [], _ => rfl
  | x :: xs, h => by
    have hx := (List.nodup_cons.mp h).1
    have ih := bin_sum g (List.nodup_cons.mp h).2
    show (if g x = true then (2 : Int) ^ (xs.map g).length else 0) + binB (xs.map g) = _
    rw [ih, List.map_cons, List.sum_cons, List.length_map, List.idxOf_cons_self, List.length_cons]
    congr 1
    congr 1
    refine List.map_congr_left fun r hr => ?_
    have ne : ¬ (x == r) = true := fun e => hx (by rw [eq_of_beq e]; exact hr)
    have hi : xs.idxOf r < xs.length := List.idxOf_lt_length_of_mem hr
    rw [List.idxOf_cons, show (x == r) = false by simpa using ne, cond_false, show xs.length + 1 - 1 - (xs.idxOf r + 1) = xs.length - 1 - xs.idxOf r by omega]
theorem mark_bin {h w : Nat} {f : Nat → Nat → Bool} {o : List Nat} {c : Nat} (ho : o.Perm (List.range h)) (hc : c < w) : mkS o h (cellsF h w f) c = binB (colB f o c) := by
  have nd : o.Nodup := ho.nodup_iff.mpr List.nodup_range
  have ln : o.length = h := by rw [ho.length_eq, List.length_range]
  unfold colB
  rw [mkS_all o h w f hc, bin_sum (fun r => f r c) nd, ln]
  exact (sum_perm ho).symm
end Rk
namespace Rk
open PySem PySem.Spec PyProof.Rows L2 _root_.Rd Dl Rt
def prodO : Nat → (Nat → Nat) → Nat
  | 0, _ => 1
  | n + 1, f => prodO n f * f n
theorem prodO_congr {f g : Nat → Nat} : ∀ {n : Nat}, (∀ j, j < n → f j = g j) → prodO n f = prodO n g
  | 0, _ => rfl
  | n + 1, h => by
    show prodO n f * f n = prodO n g * g n
    rw [prodO_congr fun j hj => h j (by omega), h n (by omega)]
theorem prodO_front (f : Nat → Nat) : ∀ n, prodO (n + 1) f = f 0 * prodO n fun j => f (j + 1)
  | 0 => by show 1 * f 0 = f 0 * 1; omega
  | n + 1 => by
    show prodO (n + 1) f * f (n + 1) = f 0 * (prodO n (fun j => f (j + 1)) * f (n + 1))
    rw [prodO_front f n, Nat.mul_assoc]
def fitO (B W : Nat → Int) (o : List Nat) : Bool := (List.range o.length).all fun j => decide (B (o.getD j 0) = W j)
theorem fitO_iff {B W : Nat → Int} {o : List Nat} : fitO B W o = true ↔ ∀ j, j < o.length → B (o.getD j 0) = W j := by
  unfold fitO
  rw [List.all_eq_true]
  exact ⟨fun h j hj => of_decide_eq_true (h j (List.mem_range.mpr hj)), fun h j hj => decide_eq_true (h j (List.mem_range.mp hj))⟩
theorem fitO_snoc (B W : Nat → Int) (o : List Nat) (x : Nat) : fitO B W (o ++ [x]) = (fitO B W o && decide (B x = W o.length)) := by
  rw [Bool.eq_iff_iff, Bool.and_eq_true, fitO_iff, fitO_iff, decide_eq_true_eq]
  have g1 : ∀ j, j < o.length → (o ++ [x]).getD j 0 = o.getD j 0 := fun j hj => by rw [List.getD_eq_getElem?_getD, List.getD_eq_getElem?_getD, List.getElem?_append_left hj]
  have g2 : (o ++ [x]).getD o.length 0 = x := by rw [List.getD_eq_getElem?_getD, List.getElem?_append_right (Nat.le_refl _), Nat.sub_self]; rfl
  rw [List.length_append, List.length_singleton]
  constructor
  · intro h
    exact ⟨fun j hj => by rw [← g1 j hj]; exact h j (by omega), by rw [← g2]; exact h _ (by omega)⟩
  · rintro ⟨h1, h2⟩ j hj
    by_cases z : j < o.length
    · rw [g1 j z]; exact h1 j z
    · have : j = o.length := by omega
      rw [this, g2]; exact h2
theorem count_flat {α β : Type} {g : α → List β} {p : β → Bool} {q : α → Bool} {k : Nat} : ∀ {l : List α}, (∀ a ∈ l, (g a).countP p = if q a = true then k else 0) → (l.flatMap g).countP p = l.countP q * k
  | [], _ => by show 0 = 0 * k; omega
  | a :: l, h => by
    rw [List.flatMap_cons, List.countP_append, h a (.head _), count_flat fun b hb => h b (.tail _ hb), List.countP_cons, Nat.add_mul]
    cases q a
    · simp
    · simp [Nat.add_comm]
theorem ords_ndO {n : Nat} : ∀ {i : Nat} {o : List Nat}, o ∈ ordsN n i → o.Nodup
  | 0, o, h => by rw [List.mem_singleton.mp h]; exact List.nodup_nil
  | i + 1, o, h => by
    obtain ⟨o', ho', h2⟩ := List.mem_flatMap.mp h
    obtain ⟨x, hx, rfl⟩ := List.mem_map.mp h2
    have := (List.mem_filter.mp hx).2
    refine List.nodup_append.mpr ⟨ords_ndO ho', by simp, fun a ha b hb e => ?_⟩
    rw [List.mem_singleton.mp hb] at e
    rw [e] at ha
    simp [ha] at this
theorem oth_split {n : Nat} {o : List Nat} (nd : o.Nodup) (hb : ∀ x ∈ o, x < n) : (List.range n).Perm (oth n o ++ o) := by
  have n1 : (oth n o).Nodup := List.nodup_range.filter _
  refine (List.perm_ext_iff_of_nodup List.nodup_range (List.nodup_append.mpr ⟨n1, nd, fun a ha b hb' e => ?_⟩)).mpr fun x => ?_
  · rw [← e] at hb'
    have := (List.mem_filter.mp ha).2
    simp [hb'] at this
  · rw [List.mem_append]
    unfold oth
    rw [List.mem_filter, List.mem_range]
    constructor
    · intro hx
      by_cases z : x ∈ o
      · exact .inr z
      · exact .inl ⟨hx, by simp [z]⟩
    · rintro (z | z)
      · exact z.1
      · exact hb x z
def fctO (B W : Nat → Int) (n j : Nat) : Nat := (List.range n).countP (fun x => decide (B x = W j)) - (List.range j).countP (fun i => decide (W i = W j))
theorem one_fit {B W : Nat → Int} {n i : Nat} {o : List Nat} (ho : o ∈ ordsN n i) : ((oth n o).map fun x => o ++ [x]).countP (fitO B W) = if fitO B W o = true then fctO B W n i else 0 := by
  have hl := ords_len ho
  rw [List.countP_map]
  by_cases z : fitO B W o = true
  · rw [if_pos z]
    have e : (oth n o).countP (fitO B W ∘ fun x => o ++ [x]) = (oth n o).countP fun x => decide (B x = W i) := List.countP_congr fun x _ => by
      show fitO B W (o ++ [x]) = true ↔ _
      rw [fitO_snoc, z, Bool.true_and, hl]
    rw [e]
    have pc := (oth_split (ords_ndO ho) (ords_lt ho)).countP_eq (p := fun x => decide (B x = W i))
    rw [List.countP_append] at pc
    have eo : o.countP (fun x => decide (B x = W i)) = (List.range i).countP fun j => decide (W j = W i) := by
      have q : o = (List.range i).map fun j => o.getD j 0 := by
        refine List.ext_getElem? fun k => ?_
        rw [List.getElem?_map]
        by_cases y : k < i
        · rw [List.getElem?_range y, List.getElem?_eq_getElem (by omega)]
          show _ = some (o.getD k 0)
          rw [List.getD_eq_getElem?_getD, List.getElem?_eq_getElem (by omega)]; rfl
        · rw [List.getElem?_eq_none (by omega), List.getElem?_eq_none (by rw [List.length_range]; omega)]; rfl
      conv => lhs; rw [q]
      rw [List.countP_map]
      refine List.countP_congr fun j hj => ?_
      show decide (B (o.getD j 0) = W i) = true ↔ _
      rw [fitO_iff.mp z j (by rw [hl]; exact List.mem_range.mp hj)]
    unfold fctO
    omega
  · rw [if_neg z, List.countP_eq_zero]
    intro x _ y
    have y : fitO B W (o ++ [x]) = true := y
    rw [fitO_snoc] at y
    exact z (Bool.and_eq_true_iff.mp y).1
theorem cntO (B W : Nat → Int) (n : Nat) : ∀ i, (ordsN n i).countP (fitO B W) = prodO i (fctO B W n)
  | 0 => rfl
  | i + 1 => by
    show ((ordsN n i).flatMap fun o => (oth n o).map fun x => o ++ [x]).countP (fitO B W) = prodO i (fctO B W n) * fctO B W n i
    rw [count_flat (q := fitO B W) (k := fctO B W n i) fun o ho => one_fit ho, cntO B W n i]
def gL : List Int → Nat
  | [] => 1
  | x :: L => (L.count x + 1) * gL L
theorem gL_prod : ∀ L : List Int, prodO L.length (fun j => L.count (L.getD j 0) - (L.take j).count (L.getD j 0)) = gL L
  | [] => rfl
  | x :: L => by
    rw [List.length_cons, prodO_front]
    show ((x :: L).count x - ([] : List Int).count x) * _ = (L.count x + 1) * gL L
    rw [List.count_cons_self, List.count_nil, Nat.sub_zero, ← gL_prod L]
    congr 1
    refine prodO_congr fun j hj => ?_
    show (x :: L).count (L.getD j 0) - (x :: L.take j).count (L.getD j 0) = _
    rw [List.count_cons, List.count_cons]
    omega
def facO : Nat → Nat
  | 0 => 1
  | n + 1 => (n + 1) * facO n
theorem gL_fac {ms : List Int} (nd : ms.Nodup) : ∀ {L : List Int}, (∀ x ∈ L, x ∈ ms) → gL L = (ms.map fun v => facO (L.count v)).foldr (· * ·) 1
  | [], _ => by
    have : ∀ ms : List Int, (ms.map fun v => facO (([] : List Int).count v)).foldr (· * ·) 1 = 1 := fun ms => by
      induction ms with
      | nil => rfl
      | cons a ms ih => show facO (([] : List Int).count a) * _ = 1; rw [ih, List.count_nil]; rfl
    rw [this]; rfl
  | x :: L, h => by
    show (L.count x + 1) * gL L = _
    rw [gL_fac nd fun y hy => h y (.tail _ hy)]
    have key : ∀ ms : List Int, ms.Nodup → x ∈ ms → (L.count x + 1) * (ms.map fun v => facO (L.count v)).foldr (· * ·) 1 = (ms.map fun v => facO ((x :: L).count v)).foldr (· * ·) 1 := fun ms => by
      induction ms with
      | nil => intro _ h; cases h
      | cons a ms ih =>
        intro nd hx
        obtain ⟨na, nd⟩ := List.nodup_cons.mp nd
        show (L.count x + 1) * (facO (L.count a) * _) = facO ((x :: L).count a) * _
        by_cases z : x = a
        · subst z
          rw [List.count_cons_self]
          have e : (ms.map fun v => facO ((x :: L).count v)) = ms.map fun v => facO (L.count v) := List.map_congr_left fun v hv => by
            rw [List.count_cons_of_ne]
            intro e
            rw [e] at na
            exact na hv
          rw [e, ← Nat.mul_assoc]; rfl
        · rw [List.count_cons_of_ne z, ← ih nd ((List.mem_cons.mp hx).resolve_left z), Nat.mul_left_comm]
    exact key ms nd (h x (.head _))
theorem count_map (W : Nat → Int) (n : Nat) (v : Int) : ((List.range n).map W).count v = (List.range n).countP fun x => decide (W x = v) := by
  rw [List.count_eq_countP, List.countP_map]
  refine List.countP_congr fun x _ => ?_
  show (W x == v) = true ↔ _
  simp
theorem take_rng {j n : Nat} (h : j ≤ n) : (List.range n).take j = List.range j := by rw [List.take_range, Nat.min_eq_left h]
theorem put_ways (B W : Nat → Int) (n : Nat) : (ordsN n n).countP (fitO B W) = if ((List.range n).map B).Perm ((List.range n).map W) then gL ((List.range n).map W) else 0 := by
  split
  · rename_i hp
    rw [cntO, ← gL_prod, List.length_map, List.length_range]
    refine prodO_congr fun j hj => ?_
    have e : ((List.range n).map W).getD j 0 = W j := by rw [List.getD_eq_getElem?_getD, List.getElem?_map, List.getElem?_range hj]; rfl
    unfold fctO
    rw [e, ← List.map_take, take_rng (Nat.le_of_lt hj), count_map W j, ← count_map B, hp.count_eq]
  · rename_i hp
    rw [List.countP_eq_zero]
    intro q hq z
    refine hp ?_
    have pq := ords_perm hq
    have lq := ords_len hq
    have e : (List.range n).map W = q.map B := by
      refine List.ext_getElem? fun k => ?_
      rw [List.getElem?_map, List.getElem?_map]
      by_cases y : k < n
      · rw [List.getElem?_range y, List.getElem?_eq_getElem (by omega)]
        have := fitO_iff.mp z k (by omega)
        rw [List.getD_eq_getElem?_getD, List.getElem?_eq_getElem (by omega)] at this
        exact congrArg some this.symm
      · rw [List.getElem?_eq_none (by rw [List.length_range]; omega), List.getElem?_eq_none (by omega)]; rfl
    rw [e]
    exact (pq.map B).symm
end Rk
namespace Rk
open PySem PySem.Spec PyProof.Rows L2 _root_.Rd Dl Rt
theorem cmp_lt {x y : Int × Int} (h : cmpD (pairD x) (pairD y) = .lt) : plt x y := by
  rw [cmp_pair] at h
  by_cases a : plt x y
  · exact a
  · rw [if_neg a] at h
    split at h <;> cases h
theorem cmp_eq {x y : Int × Int} (h : cmpD (pairD x) (pairD y) = .eq) : x = y := by
  rw [cmp_pair] at h
  by_cases a : plt x y
  · rw [if_pos a] at h; cases h
  · rw [if_neg a] at h
    by_cases b : x = y
    · exact b
    · rw [if_neg b] at h; cases h
theorem plt_irr9 {x : Int × Int} : ¬ plt x x := fun h => by rcases h with a | a <;> omega
theorem plt_tr9 {x y z : Int × Int} (h1 : plt x y) (h2 : plt y z) : plt x z := by
  rcases h1 with a | a <;> rcases h2 with b | b
  · exact .inl (by omega)
  · exact .inl (by omega)
  · exact .inl (by omega)
  · exact .inr ⟨by omega, by omega⟩
theorem lt_first : ∀ {X Y : List (Int × Int)}, X.Pairwise plt → Y.Pairwise plt → X.length = Y.length → cmpDs (X.map pairD) (Y.map pairD) = .lt → ∃ p ∈ X, p ∉ Y ∧ ∀ q, plt q p → (q ∈ X ↔ q ∈ Y)
  | [], [], _, _, _, h => by cases h
  | [], _ :: _, _, _, hl, _ => by simp at hl
  | _ :: _, [], _, _, hl, _ => by simp at hl
  | x :: X, y :: Y, px, py, hl, h => by
    have h : thn (cmpD (pairD x) (pairD y)) (cmpDs (X.map pairD) (Y.map pairD)) = .lt := h
    obtain ⟨px1, px2⟩ := List.pairwise_cons.mp px
    obtain ⟨py1, py2⟩ := List.pairwise_cons.mp py
    cases e : cmpD (pairD x) (pairD y) with
    | gt => rw [e] at h; cases h
    | lt =>
      have l := cmp_lt e
      refine ⟨x, .head _, fun z => ?_, fun q hq => ⟨fun z => ?_, fun z => ?_⟩⟩
      · rcases List.mem_cons.mp z with z | z
        · rw [z] at l; exact plt_irr9 l
        · exact plt_irr9 (plt_tr9 l (py1 x z))
      · rcases List.mem_cons.mp z with z | z
        · rw [z] at hq; exact (plt_irr9 hq).elim
        · exact (plt_irr9 (plt_tr9 hq (px1 q z))).elim
      · rcases List.mem_cons.mp z with z | z
        · rw [z] at hq; exact (plt_irr9 (plt_tr9 hq l)).elim
        · exact (plt_irr9 (plt_tr9 hq (plt_tr9 l (py1 q z)))).elim
    | eq =>
      have h9 : cmpDs (X.map pairD) (Y.map pairD) = .lt := by rw [e] at h; exact h
      have exy := cmp_eq e
      subst exy
      obtain ⟨p, hp, hn, hq⟩ := lt_first px2 py2 (by simpa using hl) h9
      refine ⟨p, .tail _ hp, fun z => ?_, fun q hqp => ?_⟩
      · rcases List.mem_cons.mp z with z | z
        · rw [z] at hp; exact plt_irr9 (px1 x hp)
        · exact hn z
      · rw [List.mem_cons, List.mem_cons, hq q hqp]
def clN (h : Nat) (M : Nat → Nat → Bool) (j : Nat) : List Bool := (List.range h).map fun r => M r j
theorem cl_len (h : Nat) (M : Nat → Nat → Bool) (j : Nat) : (clN h M j).length = h := by unfold clN; rw [List.length_map, List.length_range]
theorem binB_app : ∀ (as bs : List Bool), binB (as ++ bs) = binB as * 2 ^ bs.length + binB bs
  | [], bs => by show binB bs = 0 * _ + _; omega
  | a :: as, bs => by
    show (if a = true then (2 : Int) ^ (as ++ bs).length else 0) + binB (as ++ bs) = ((if a = true then (2 : Int) ^ as.length else 0) + binB as) * 2 ^ bs.length + binB bs
    rw [binB_app as bs, List.length_append, Int.pow_add, Int.add_mul]
    split
    · omega
    · omega
theorem binB_more {as bs cs : List Bool} (hl : bs.length = cs.length) : binB (as ++ false :: cs) < binB (as ++ true :: bs) := by
  rw [binB_app, binB_app, List.length_cons, List.length_cons, hl]
  have h1 : binB (true :: bs) = 2 ^ bs.length + binB bs := rfl
  have h2 : binB (false :: cs) = 0 + binB cs := rfl
  have b1 := binB_bd bs
  have b2 := binB_bd cs
  rw [h1, h2, hl]
  rw [hl] at b1
  omega
theorem cl_split {h r : Nat} (M : Nat → Nat → Bool) (j : Nat) (hr : r < h) : clN h M j = clN r M j ++ M r j :: (List.range' (r + 1) (h - (r + 1))).map fun r => M r j := by
  unfold clN
  have e : List.range h = List.range r ++ r :: List.range' (r + 1) (h - (r + 1)) := by
    refine List.ext_getElem? fun i => ?_
    rcases Nat.lt_trichotomy i r with z | z | z
    · rw [List.getElem?_append_left (by rw [List.length_range]; exact z), List.getElem?_range z, List.getElem?_range (by omega)]
    · subst z
      rw [List.getElem?_append_right (by rw [List.length_range]; omega), List.length_range, Nat.sub_self, List.getElem?_range (by omega)]; rfl
    · rw [List.getElem?_append_right (by rw [List.length_range]; omega), List.length_range, show i - r = (i - r - 1) + 1 by omega, List.getElem?_cons_succ]
      by_cases y : i < h
      · rw [List.getElem?_range y, List.getElem?_range' (by omega)]
        congr 1; omega
      · rw [List.getElem?_eq_none (by rw [List.length_range]; omega), List.getElem?_eq_none (by rw [List.length_range']; omega)]
  rw [e, List.map_append, List.map_cons]
def htC (pf : List Bool) (col : List Bool) : Bool := decide (col.take pf.length = pf) && col.getD pf.length false
theorem ht_cl {h r : Nat} {M : Nat → Nat → Bool} {j : Nat} (hr : r < h) {pf : List Bool} (hp : pf.length = r) : htC pf (clN h M j) = (decide (clN r M j = pf) && M r j) := by
  unfold htC
  rw [cl_split M j hr, hp]
  have lc := cl_len r M j
  rw [List.take_append_of_le_length (by omega), List.take_of_length_le (by omega), List.getD_eq_getElem?_getD, List.getElem?_append_right (by omega), lc, Nat.sub_self]
  rfl
theorem range_cut {w c : Nat} (hc : c < w) : List.range w = List.range c ++ c :: List.range' (c + 1) (w - (c + 1)) := by
  refine List.ext_getElem? fun i => ?_
  rcases Nat.lt_trichotomy i c with z | z | z
  · rw [List.getElem?_append_left (by rw [List.length_range]; exact z), List.getElem?_range z, List.getElem?_range (by omega)]
  · subst z
    rw [List.getElem?_append_right (by rw [List.length_range]; omega), List.length_range, Nat.sub_self, List.getElem?_range (by omega)]; rfl
  · rw [List.getElem?_append_right (by rw [List.length_range]; omega), List.length_range, show i - c = (i - c - 1) + 1 by omega, List.getElem?_cons_succ]
    by_cases y : i < w
    · rw [List.getElem?_range y, List.getElem?_range' (by omega)]
      congr 1; omega
    · rw [List.getElem?_eq_none (by rw [List.length_range]; omega), List.getElem?_eq_none (by rw [List.length_range']; omega)]
theorem cell_least {h w : Nat} {M N : Nat → Nat → Bool} (hp : ((List.range w).map (clN h N)).Perm ((List.range w).map (clN h M))) (hd : ∀ i j, i < j → j < w → binB (clN h M j) ≤ binB (clN h M i))
    {r c : Nat} (hr : r < h) (hc : c < w) (hN : N r c = true) (hM : M r c = false) (hb : ∀ r' c', r' < h → c' < w → (r' < r ∨ (r' = r ∧ c' < c)) → N r' c' = M r' c') : False := by
  have pre : ∀ j, j < w → clN r N j = clN r M j := fun j hj => List.map_congr_left fun r' hr' => hb r' j (by have := List.mem_range.mp hr'; omega) hj (.inl (List.mem_range.mp hr'))
  have lp : (clN r M c).length = r := cl_len r M c
  have e := hp.countP_eq (p := htC (clN r M c))
  rw [List.countP_map, List.countP_map, range_cut hc, List.countP_append, List.countP_append, List.countP_cons, List.countP_cons] at e
  have e1 : (List.range c).countP (htC (clN r M c) ∘ clN h N) = (List.range c).countP (htC (clN r M c) ∘ clN h M) := List.countP_congr fun j hj => by
    have hj := List.mem_range.mp hj
    show htC (clN r M c) (clN h N j) = true ↔ htC (clN r M c) (clN h M j) = true
    rw [ht_cl hr lp, ht_cl hr lp, pre j (by omega), hb r j hr (by omega) (.inr ⟨rfl, hj⟩)]
  have e2 : (htC (clN r M c) ∘ clN h N) c = true := by
    show htC (clN r M c) (clN h N c) = true
    rw [ht_cl hr lp, pre c hc, hN, decide_eq_true rfl]; rfl
  have e3 : (htC (clN r M c) ∘ clN h M) c = false := by
    show htC (clN r M c) (clN h M c) = false
    rw [ht_cl hr lp, hM, Bool.and_false]
  have e4 : (List.range' (c + 1) (w - (c + 1))).countP (htC (clN r M c) ∘ clN h M) = 0 := by
    rw [List.countP_eq_zero]
    intro j hj
    obtain ⟨hj1, hj2⟩ := List.mem_range'_1.mp hj
    show ¬ htC (clN r M c) (clN h M j) = true
    rw [ht_cl hr lp]
    intro z
    obtain ⟨z1, z2⟩ := Bool.and_eq_true_iff.mp z
    have z1 := of_decide_eq_true z1
    have := hd c j (by omega) (by omega)
    rw [cl_split M j hr, cl_split M c hr, z1, z2, hM] at this
    have := binB_more (as := clN r M c) (bs := (List.range' (r + 1) (h - (r + 1))).map fun r => M r j) (cs := (List.range' (r + 1) (h - (r + 1))).map fun r => M r c) (by rw [List.length_map, List.length_map])
    omega
  rw [e1, e2, e3, e4] at e
  simp at e
theorem bd_least {h w : Nat} {M N : Nat → Nat → Bool} (hp : ((List.range w).map (clN h N)).Perm ((List.range w).map (clN h M))) (hd : ∀ i j, i < j → j < w → binB (clN h M j) ≤ binB (clN h M i)) : ltD (bdD h w (cellsF h w N)) (bdD h w (cellsF h w M)) = false := by
  cases z : ltD (bdD h w (cellsF h w N)) (bdD h w (cellsF h w M)) with
  | false => rfl
  | true =>
    exfalso
    have hl : (cellsF h w N).length = (cellsF h w M).length := by
      rw [len_cells, len_cells]
      have k : ∀ (G : Nat → Nat → Bool) (c : Nat), ((List.range h).countP fun r => G r c) = (clN h G c).countP id := fun G c => by unfold clN; rw [List.countP_map]; rfl
      have e := (hp.map fun col => col.countP id).sum_nat
      rw [List.map_map, List.map_map] at e
      have k2 : ∀ G : Nat → Nat → Bool, ((List.range w).map fun c => (List.range h).countP fun r => G r c) = (List.range w).map ((fun col => col.countP id) ∘ clN h G) := fun G => List.map_congr_left fun c _ => k G c
      rw [k2, k2]; exact e
    have z : isL (cmpDs [.int h, .int w, .tuple ((cellsF h w N).map pairD)] [.int h, .int w, .tuple ((cellsF h w M).map pairD)]) = true := z
    have ci : ∀ i : Int, cmpI i i = .eq := fun i => by unfold cmpI; rw [if_neg (by omega), if_pos rfl]
    have z2 : cmpDs ((cellsF h w N).map pairD) ((cellsF h w M).map pairD) = .lt := by
      have z : isL (thn (cmpI h h) (thn (cmpI w w) (thn (cmpDs ((cellsF h w N).map pairD) ((cellsF h w M).map pairD)) .eq))) = true := z
      rw [ci, ci] at z
      cases y : cmpDs ((cellsF h w N).map pairD) ((cellsF h w M).map pairD) with
      | lt => rfl
      | eq => rw [y] at z; cases z
      | gt => rw [y] at z; cases z
    obtain ⟨p, hpN, hpM, hq⟩ := lt_first (pw_cellsF w N h) (pw_cellsF w M h) hl z2
    obtain ⟨r, c, hr, hc, hN, rfl⟩ := mem_cellsF.mp hpN
    have hin : ∀ {G : Nat → Nat → Bool} {r c : Nat}, r < h → c < w → (((r : Int), (c : Int)) ∈ cellsF h w G ↔ G r c = true) := fun {G r c} hr hc => by
      rw [mem_cellsF]
      constructor
      · rintro ⟨r', c', _, _, hf, e⟩
        have e1 : (r : Int) = (r' : Int) := (Prod.mk.inj e).1
        have e2 : (c : Int) = (c' : Int) := (Prod.mk.inj e).2
        rw [show r = r' by omega, show c = c' by omega]; exact hf
      · intro hf
        exact ⟨r, c, hr, hc, hf, rfl⟩
    refine cell_least hp hd hr hc hN (by
      cases y : M r c with
      | false => rfl
      | true => exact absurd ((hin hr hc).mpr y) hpM) fun r' c' hr' hc' lt => ?_
    have := hq ((r' : Int), (c' : Int)) (by
      rcases lt with a | ⟨a, b⟩
      · exact .inl (show (r' : Int) < r by omega)
      · exact .inr ⟨show (r' : Int) = r by omega, show (c' : Int) < c by omega⟩)
    rw [hin hr' hc', hin hr' hc'] at this
    exact Bool.eq_iff_iff.mpr this
end Rk
namespace Rk
open PySem PySem.Spec PyProof.Rows L2 _root_.Rd Dl Rt
theorem ords_memL {n : Nat} : ∀ {i : Nat} {o : List Nat}, o.length = i → o.Nodup → (∀ x ∈ o, x < n) → o ∈ ordsN n i
  | 0, o, l, _, _ => by rw [List.length_eq_zero_iff.mp l]; exact .head _
  | i + 1, o, l, nd, lt => by
    have ne : o ≠ [] := fun z => by rw [z] at l; cases l
    have e := List.dropLast_concat_getLast ne
    rw [← e] at nd lt l ⊢
    rw [List.length_append] at l
    obtain ⟨n1, _, n3⟩ := List.nodup_append.mp nd
    refine List.mem_flatMap.mpr ⟨_, ords_memL (by simpa using l) n1 fun x hx => lt x (List.mem_append_left _ hx), List.mem_map.mpr ⟨_, List.mem_filter.mpr ⟨List.mem_range.mpr (lt _ (List.mem_append_right _ (.head _))), ?_⟩, rfl⟩⟩
    rw [Bool.not_eq_true', decide_eq_false_iff_not]
    exact fun hx => n3 _ hx _ (.head _) rfl
end Rk
namespace L2
open PySem PySem.Spec PyProof.Rows
section
variable {κ : Type} [DecidableEq κ]
end
section
variable {P : Program} {w : World} {H : Hp} {h : Heap} {a : Addr}
end
section
variable {X : Cx} {pins : List (Addr × Obj)} {σ : St} {H : Hp} {s : Shared} {a : Addr} {y v : V} {u r : Value} {o : Option V} {A : Around} {E : Value → Shared → Prop}
end
section
variable {X : Cx} {pins : List (Addr × Obj)} {σ : St} {H : Hp} {s : Shared} {a : Addr} {kvs : List (Key × V)} {k : Key} {u : Value} {A : Around} {E : Value → Shared → Prop}
end
section
variable {X : Cx} {o i e value : Expr} {pos pos' tpos : Pos} {td ty tv : TE}
end
section
variable {X : Cx} {pos : Pos}
end
section
variable {X : Cx} {pins : List (Addr × Obj)} {σ : St} {H : Hp} {s : Shared} {a : Addr} {y d : V} {u r : Value} {o : Option V} {A : Around} {E : Value → Shared → Prop}
end
section
variable {X : Cx} {o e f : Expr} {apos cpos : Pos} {td ty tx : TE}
end
section
variable {X : Cx} {pins : List (Addr × Obj)} {σ : St} {H : Hp} {s : Shared} {a : Addr} {kvs : List (Key × V)} {A : Around} {E : Value → Shared → Prop}
end
section
variable {X : Cx} {pins : List (Addr × Obj)} {σ : St} {H : Hp} {s : Shared} {a : Addr} {y : V} {u : Value} {A : Around} {E : Value → Shared → Prop}
end
end L2
namespace L2
open PySem PySem.Spec PyProof.Rows
section
variable {X : Cx} {pins : List (Addr × Obj)} {σ : St} {l it S fa : Addr} {xs : List V} {kw : List (Str × Value)} {val : Nat → Int} {H0 : Hp} {R : Result → Shared → Prop}
def KeptBut (S : Addr) (H0 H : Hp) : Prop := ∀ b o, b ≠ S → H0 b = some o → H b = some o
theorem put_two {s : Shared} {H : Hp} {ys zs : List V} {vs : List Value} (I : Inv X pins σ H s) (e : H S = some (.lst ys)) (r : Vals zs vs) (hz : zs.length ≤ sizeLine) : Inv X pins σ (upd H S (.lst zs)) { s with heap := s.heap.update S (Obj.mapSeq fun _ => vs.toArray) } := by
  obtain ⟨_, its, n, rv, ln, ho⟩ := I.lstM e
  refine I.write (t' := s.toks) (x := S) (e := S) (by rw [e]; exact True.intro) (.inl rfl) (fun b u hb z => (Heap.get?_update_other _ _ (Ne.symm hb)).trans z) ⟨_, Heap.get?_update_self _ ho rfl⟩ ⟨hz, vs, _, r, Heap.get?_update_self _ ho rfl⟩
end
section
variable {prog : Program} {w : World} {A : Around} {E : Value → Shared → Prop} {s : Shared}
end
section
variable {X : Cx} {pins : List (Addr × Obj)} {σ : St} {l fa : Addr} {xs : List V} {val : Nat → Int}
end
end L2
namespace Rt
open PySem PySem.Spec PyProof.Rows L2 _root_.Rd Rk _root_.Rs Dl
def atD (ds : List PyData) (i : Nat) : PyData := ds.getD i .none
def bstD (ds : List PyData) (j : Nat) : Nat := argBest (fun a b => ltD (atD ds a) (atD ds b)) j
theorem ltD_self (x : PyData) : ltD x x = false := by
  cases h : ltD x x with
  | false => rfl
  | true => rw [ltD_asym x x h] at h; exact h.symm
theorem bstD_least (ds : List PyData) : ∀ k, bstD ds k ≤ k ∧ ∀ j, j ≤ k → ltD (atD ds j) (atD ds (bstD ds k)) = false
  | 0 => ⟨Nat.le_refl _, fun j hj => by
      have : j = 0 := by omega
      subst this
      exact ltD_self _⟩
  | k + 1 => by
    obtain ⟨h1, h2⟩ := bstD_least ds k
    have eb : bstD ds (k + 1) = if ltD (atD ds (k + 1)) (atD ds (bstD ds k)) = true then k + 1 else bstD ds k := rfl
    rw [eb]
    cases hb : ltD (atD ds (k + 1)) (atD ds (bstD ds k)) with
    | true =>
      rw [if_pos rfl]
      refine ⟨Nat.le_refl _, fun j hj => ?_⟩
      by_cases z : j = k + 1
      · rw [z]; exact ltD_self _
      · exact ltD_nt _ _ _ (ltD_asym _ _ hb) (h2 j (by omega))
    | false =>
      rw [if_neg Bool.false_ne_true]
      refine ⟨by omega, fun j hj => ?_⟩
      by_cases z : j = k + 1
      · rw [z]; exact hb
      · exact h2 j (by omega)
end Rt
namespace L2
open PySem PySem.Spec PySem.Calls PyProof.Rows _root_.Rd _root_.Rk _root_.Rs Rt Dl
section
variable {X : Cx} {pins : List (Addr × Obj)} {σ : St} {l it S : Addr} {xs : List V} {ds : List PyData} {H0 : Hp} {R : Result → Shared → Prop}
theorem dats_atG {H : Hp} : ∀ {xs : List V} {ds : List PyData}, Dats H xs ds → ∀ (i : Nat) (x : V), xs[i]? = some x → Dat H x (atD ds i) ∧ atD ds i ∈ ds
  | _, _, .nil, i, x, h => nomatch h
  | _, _, .cons a b, 0, x, h => by cases h; exact ⟨a, .head _⟩
  | _, _, .cons a b, i + 1, x, h => by
    obtain ⟨p, q⟩ := dats_atG b i x h
    exact ⟨p, .tail _ q⟩
theorem dats_lenG {H : Hp} : ∀ {xs : List V} {ds : List PyData}, Dats H xs ds → xs.length = ds.length
  | _, _, .nil => rfl
  | _, _, .cons _ b => by rw [List.length_cons, List.length_cons, dats_lenG b]
theorem min_dat_loop (hl : H0 l = some (.lst xs)) (hS0 : H0 S = none) (dts : Dats H0 xs ds) (so : Sortable ds) (hu : X.A.units + 60 < cLine) (hc : X.calm = true)
    (hR : ∀ u s' H' x, xs[bstD ds (xs.length - 1)]? = some x → RelV x u → Inv X pins σ H' s' → KeptBut S H0 H' → R (.ok (.ret u)) s') :
    ∀ (k j : Nat) (s : Shared) (H : Hp) (x : V), xs.length - (j + 1) = k → j + 1 ≤ xs.length → Inv X pins σ H s → FpOk X pins H it → s.heap.IsListIter it l (j + 1) → KeptBut S H0 H → H S = some (.lst [x, x]) → xs[bstD ds j]? = some x →
    codeAny (model X.prog X.w) X.A (.builtin "min.loop" ⟨[.ref it, .none, .ref S], []⟩) R s := by
  have hname : (toString "min" ++ toString ".loop" : String) = "min.loop" := by decide
  have hlS : l ≠ S := fun z => by rw [z, hS0] at hl; cases hl
  intro k
  induction k with
  | zero =>
    intro j s H x hk hj I hf st kp eS hx
    have hin : j + 1 = xs.length := by omega
    obtain ⟨_, its, n, rv, ln, ho⟩ := I.lstM eS
    obtain ⟨u, w', e2, r1, r2⟩ : ∃ u w', its = [u, w'] ∧ RelV x u ∧ RelV x w' := by
      match its, rv with
      | [u, w'], .cons a (.cons b .nil) => exact ⟨u, w', rfl, a, b⟩
    subst e2
    obtain ⟨hz, its, n2, rl, ll, hol⟩ := I.lstM (kp _ _ hlS hl)
    obtain ⟨f0, f1, f2, f3, f4, f5⟩ := hf
    refine codeAny_builtin F.entry_min_loop ?_
    rw [Around.under_plainId F.plain_min_loop _]
    show wpAny _ X.A.in1 (seqItems? (.ref S) >>= _) _ _ s
    refine wpAny_bind (wpAny_seqItems ho rfl ?_)
    show wpAny _ X.A.in1 (tryCatch (pyNext (.ref it)) _ >>= _) _ _ s
    refine wpAny_bind (wpAny_tryCatch (wpAny_pyNext_list_end (I.ok.hd hc) st ⟨_, hol, rfl, _, rfl⟩ (by simp; omega) fun h' eb => ?_))
    have I1 : Inv X pins σ H { s with heap := h' } := I.turned (t' := s.toks) (fun b o hb e => eb b o hb e) f0 f1 f3 f4 f5
    have ho1 : h'.get? S = _ := eb S _ (fun z => by rw [z, f0] at eS; cases eS) ho
    show wpAny _ X.A.in1 (updateSeq S (fun _ => #[]) >>= _) _ _ _
    refine wpAny_bind ?_
    refine wpAny_updateSeq ho1 rfl (wpAny_bind (wpAny_letGo (wpAny_pure ?_)))
    refine hR u _ _ x (by rw [← hin]; exact hx) r1 (put_two (vs := []) (zs := []) I1 eS .nil (Nat.zero_le _)) fun b o hb e => ?_
    rw [upd_ne hb]; exact kp b o hb e
  | succ k ih =>
    intro j s H x hk hj I hf st kp eS hx
    have hlt : j + 1 < xs.length := by omega
    obtain ⟨_, its, n, rv, ln, ho⟩ := I.lstM eS
    obtain ⟨u, w', e2, r1, r2⟩ : ∃ u w', its = [u, w'] ∧ RelV x u ∧ RelV x w' := by
      match its, rv with
      | [u, w'], .cons a (.cons b .nil) => exact ⟨u, w', rfl, a, b⟩
    subst e2
    obtain ⟨hz, its, n2, rl, ll, hol⟩ := I.lstM (kp _ _ hlS hl)
    obtain ⟨v, hv, rv2⟩ := rl.get (i := j + 1) (x := xs[j + 1]) (List.getElem?_eq_getElem hlt)
    obtain ⟨f0, f1, f2, f3, f4, f5⟩ := id hf
    have nS : S ≠ it := fun z => by rw [z, f0] at eS; cases eS
    refine codeAny_builtin F.entry_min_loop ?_
    rw [Around.under_plainId F.plain_min_loop _]
    show wpAny _ X.A.in1 (seqItems? (.ref S) >>= _) _ _ s
    refine wpAny_bind (wpAny_seqItems ho rfl ?_)
    show wpAny _ X.A.in1 (tryCatch (pyNext (.ref it)) _ >>= _) _ _ s
    refine wpAny_bind (wpAny_tryCatch (wpAny_pyNext_list_item st ⟨_, hol, rfl, _, rfl⟩ (x := v) (by simpa using hv) fun h' st' sb => ?_))
    have I1 : Inv X pins σ H { s with heap := h' } := I.turned (t' := s.toks) (fun b o hb e => (sb.2 b hb).trans e) f0 f1 f3 f4 f5
    have ho2 : h'.get? S = _ := (sb.2 S nS).trans ho
    have sm : Same H0 H := fun b o e => kp b o (fun z => by rw [z, hS0] at e; cases e) e
    obtain ⟨dj, mj⟩ := dats_atG dts (j + 1) _ (List.getElem?_eq_getElem hlt)
    obtain ⟨db, mb⟩ := dats_atG dts _ _ hx
    obtain ⟨⟨b1, q1⟩, c1⟩ := dat_reads I1.hok _ _ _ (dj.same sm) rv2
    obtain ⟨⟨b2, q2⟩, c2⟩ := dat_reads I1.hok _ _ _ (db.same sm) r2
    show wpAny _ X.A.in1 (tryCatch (holding [v, v] (richCompare .Lt v w' >>= _)) _ >>= _) _ _ _
    refine wpAny_bind (wpAny_tryCatch (wpAny_holding (wpAny_bind (rc_lt 20 _ _ X.A.in1 _ v w' _ _ q1 q2 c1 c2 (so.cmp _ mj _ mb) (so.dep _ mj) (by show X.A.units + 1 + 2 * 20 + 2 < cLine; omega) _ _ _ _ ?_))))
    refine wpAny_bind (wpAny_holding (wpAny_truthy_bool ?_))
    refine wpAny_bind (wpAny_letGo (wpAny_pure ?_))
    have eb : bstD ds (j + 1) = if ltD (atD ds (j + 1)) (atD ds (bstD ds j)) = true then j + 1 else bstD ds j := rfl
    cases hb : ltD (atD ds (j + 1)) (atD ds (bstD ds j)) with
    | true =>
      rw [hb, if_pos rfl] at eb
      simp only [if_true]
      refine wpAny_bind ?_
      refine wpAny_updateSeq ho2 rfl (wpAny_bind (wpAny_letGo ?_))
      rw [hname]
      have I3 := put_two (vs := [v, v]) (zs := [xs[j + 1], xs[j + 1]]) I1 eS (.cons rv2 (.cons rv2 .nil)) (by show 2 ≤ sizeLine; decide)
      refine wpAny_pure ⟨plainId_quiet F.plain_min_loop _, ih (j + 1) _ _ xs[j + 1] (by omega) hlt I3 ⟨by rw [upd_ne (Ne.symm nS)]; exact f0, f1, f2, f3, f4, f5⟩ (st'.at fun o e => (Heap.get?_update_other _ _ nS).trans e) (fun b o hb e => by rw [upd_ne hb]; exact kp b o hb e) upd_same (by rw [eb]; exact List.getElem?_eq_getElem hlt)⟩
    | false =>
      rw [hb, if_neg Bool.false_ne_true] at eb
      simp only [Bool.false_eq_true, if_false]
      refine wpAny_bind (wpAny_letGo ?_)
      rw [hname]
      exact wpAny_pure ⟨plainId_quiet F.plain_min_loop _, ih (j + 1) _ _ x (by omega) hlt I1 ⟨f0, f1, f2, f3, f4, f5⟩ st' kp eS (by rw [eb]; exact hx)⟩
theorem min_dat_first (hl : H0 l = some (.lst xs)) (hS0 : H0 S = none) (dts : Dats H0 xs ds) (so : Sortable ds) (hu : X.A.units + 60 < cLine) (hc : X.calm = true) (hn : 0 < xs.length)
    (hR : ∀ u s' H' x, xs[bstD ds (xs.length - 1)]? = some x → RelV x u → Inv X pins σ H' s' → KeptBut S H0 H' → R (.ok (.ret u)) s') {s : Shared} {H : Hp} (I : Inv X pins σ H s) (hf : FpOk X pins H it) (st : s.heap.IsListIter it l 0) (kp : KeptBut S H0 H) (eS : H S = some (.lst [])) :
    codeAny (model X.prog X.w) X.A (.builtin "min.loop" ⟨[.ref it, .none, .ref S], []⟩) R s := by
  have hname : (toString "min" ++ toString ".loop" : String) = "min.loop" := by decide
  have hlS : l ≠ S := fun z => by rw [z, hS0] at hl; cases hl
  obtain ⟨_, its, n, rv, ln, ho⟩ := I.lstM eS
  cases rv
  obtain ⟨hz, its, n2, rl, ll, hol⟩ := I.lstM (kp _ _ hlS hl)
  obtain ⟨v, hv, rv2⟩ := rl.get (i := 0) (x := xs[0]) (List.getElem?_eq_getElem hn)
  obtain ⟨f0, f1, f2, f3, f4, f5⟩ := id hf
  have nS : S ≠ it := fun z => by rw [z, f0] at eS; cases eS
  refine codeAny_builtin F.entry_min_loop ?_
  rw [Around.under_plainId F.plain_min_loop _]
  show wpAny _ X.A.in1 (seqItems? (.ref S) >>= _) _ _ s
  refine wpAny_bind (wpAny_seqItems ho rfl ?_)
  show wpAny _ X.A.in1 (tryCatch (pyNext (.ref it)) _ >>= _) _ _ s
  refine wpAny_bind (wpAny_tryCatch (wpAny_pyNext_list_item st ⟨_, hol, rfl, _, rfl⟩ (x := v) (by simpa using hv) fun h' st' sb => ?_))
  have I1 : Inv X pins σ H { s with heap := h' } := I.turned (t' := s.toks) (fun b o hb e => (sb.2 b hb).trans e) f0 f1 f3 f4 f5
  have ho2 : h'.get? S = _ := (sb.2 S nS).trans ho
  show wpAny _ X.A.in1 (updateSeq S (fun _ => #[v, v]) >>= _) _ _ _
  refine wpAny_bind ?_
  refine wpAny_updateSeq ho2 rfl ?_
  rw [hname]
  have I3 := put_two (vs := [v, v]) (zs := [xs[0], xs[0]]) I1 eS (.cons rv2 (.cons rv2 .nil)) (by show 2 ≤ sizeLine; decide)
  exact wpAny_pure ⟨plainId_quiet F.plain_min_loop _, min_dat_loop hl hS0 dts so hu hc hR _ 0 _ _ xs[0] rfl hn I3 ⟨by rw [upd_ne (Ne.symm nS)]; exact f0, f1, f2, f3, f4, f5⟩ (st'.at fun o e => (Heap.get?_update_other _ _ nS).trans e) (fun b o hb e => by rw [upd_ne hb]; exact kp b o hb e) upd_same (List.getElem?_eq_getElem hn)⟩
end
section
variable {X : Cx}
def rMinG : List V → Hp → VK → Prop := fun vs H Q => ∃ (l : Addr) (xs : List V) (ds : List PyData), vs = [.ref l] ∧ H l = some (.lst xs) ∧ Dats H xs ds ∧ Sortable ds ∧ 0 < xs.length ∧
  ∀ x, xs[bstD ds (xs.length - 1)]? = some x → ∀ H', Same H H' → Q x H'
theorem call_minG (hc : X.calm = true) (hu : X.A.units + 60 < cLine) : CallR X (.builtin "min") rMinG := by
  intro pins s σ H vs us Q I r h
  obtain ⟨l, xs, ds, rfl, hl, dts, so, hn, q⟩ := h
  obtain ⟨u, rfl, ru⟩ := vals1 r
  cases ru
  have hname : (toString "min" ++ toString ".loop" : String) = "min.loop" := by decide
  refine call_function_tree F.kind_min F.plain_min F.entry_min (F.args_min1 _) ?_
  show wpAny _ X.A.in1 (Builtin.Builtins.bindParams "min" ["key", "default"] 0 ⟨[], []⟩ >>= _) _ _ s
  refine wpAny_bind (wpAny_of_eq (show Builtin.Builtins.bindParams "min" ["key", "default"] 0 ⟨[], []⟩ = pure [none, none] from rfl) ?_)
  refine wpAny_bind (wpAny_pure ?_)
  obtain ⟨hz, its, n, rl, ll, hol⟩ := I.lstM hl
  refine wpAny_bind (wpAny_pyIter_list (l := l) ⟨_, hol, rfl, _, rfl⟩ ?_)
  have I1 : Inv X pins σ H { s with heap := s.heap.push { cls := .type "list_iterator", data := .fields #[.ref l, .int 0 0] } } := I.kept (t' := s.toks) fun b o e => Heap.get?_push_of_some _ e
  have hf : FpOk X pins H s.heap.objs.size := I.fpOk (Nat.le_refl _) (I.hok.fresh (Nat.le_refl _))
  generalize hs1 : ({ s with heap := s.heap.push { cls := .type "list_iterator", data := .fields #[.ref l, .int 0 0] } } : Shared) = s1 at I1
  have st1 : s1.heap.IsListIter s.heap.objs.size l 0 := by rw [← hs1]; exact ⟨_, Heap.get?_push_size _ rfl, rfl, rfl⟩
  have z1 : s1.heap.objs.size = s.heap.objs.size + 1 := by rw [← hs1]; exact Heap.size_push ..
  refine wpAny_bind (wpAny_newObj_type ?_)
  have I2 := I1.lnew (t' := s1.toks) (ys := []) (its := []) .nil (Nat.zero_le _)
  have fS : H s1.heap.objs.size = none := I1.hok.fresh (Nat.le_refl _)
  have nit : s.heap.objs.size ≠ s1.heap.objs.size := by rw [z1]; exact Nat.ne_of_lt (Nat.lt_succ_self _)
  have kp : KeptBut s1.heap.objs.size H (upd H s1.heap.objs.size (.lst [])) := fun b o hb e => by rw [upd_ne hb]; exact e
  obtain ⟨f0, f1, f2, f3, f4, f5⟩ := hf
  have hf2 : FpOk X pins (upd H s1.heap.objs.size (.lst [])) s.heap.objs.size := ⟨by rw [upd_ne nit]; exact f0, f1, f2, f3, f4, f5⟩
  have st2 : (s1.heap.push { cls := .type "list", data := .seq ([] : List Value).toArray }).IsListIter s.heap.objs.size l 0 := st1.at fun o e => Heap.get?_push_of_some _ e
  have sm : ∀ {H' : Hp}, KeptBut s1.heap.objs.size H H' → Same H H' := fun k b o e => k b o (fun z => by rw [z, fS] at e; cases e) e
  rw [hname]
  refine wpAny_pure ⟨plainId_quiet F.plain_min_loop _, ?_⟩
  exact min_dat_first hl fS dts so hu hc hn (fun u s' H' x hx r I' k => ⟨x, H', I', r, q x hx H' (sm k)⟩) I2 hf2 st2 kp upd_same
end
end L2
namespace Dl
open PySem PySem.Spec PyProof.Rows L2 _root_.Rd Rk Rt
@[irreducible] def minGD : List PyData → (PyData → Prop) → Prop
  | [.list ds], Q => Sortable ds ∧ 0 < ds.length ∧ ∀ m ∈ ds, (∀ y ∈ ds, ltD y m = false) → Q m
  | _, _ => False
theorem minG_of {ds : List PyData} {Q : PyData → Prop} (h : Sortable ds) (h0 : 0 < ds.length) (k : ∀ m ∈ ds, (∀ y ∈ ds, ltD y m = false) → Q m) : minGD [.list ds] Q := by
  unfold minGD
  exact ⟨h, h0, k⟩
theorem das_ixG {A : Addr → Prop} {H : Hp} : ∀ {xs : List V} {ds : List PyData}, DAs A H xs ds → ∀ (i : Nat) (x : V), xs[i]? = some x → ∃ d, ds[i]? = some d ∧ DA A H x d
  | _, _, .nil, i, x, h => nomatch h
  | _, _, .cons a b, 0, x, h => by cases h; exact ⟨_, rfl, a⟩
  | _, _, .cons a b, i + 1, x, h => das_ixG b i x h
theorem cd_minG : CallD rMinG minGD := fun A P H vs ds R Q ln dm q h k => by
  unfold minGD at h
  split at h
  · rename_i ds
    obtain ⟨v, rfl, hv⟩ := pd1 q
    obtain ⟨l, xs, rfl, e, qq⟩ := hv.list
    obtain ⟨so, h0, hR⟩ := h
    have okds : okKs ds = true := okKs_of fun d hd => cmpK_ok d (so.cmp d hd d hd)
    have dts := das_dats _ _ (okKs_nd ds okds) qq
    have hlen := dats_lenG dts
    refine ⟨l, xs, ds, rfl, e, dts, so, by omega, fun x hx H' sm => ?_⟩
    obtain ⟨d, hd, da⟩ := das_ixG qq _ x hx
    have hm := List.mem_of_getElem? hd
    have ed : atD ds (bstD ds (xs.length - 1)) = d := by unfold atD; rw [List.getD_eq_getElem?_getD, hd]; rfl
    refine k d (hR d hm fun y hy => ?_) x H' sm (da.same sm) ?_
    · obtain ⟨i, hi⟩ := List.mem_iff_getElem?.mp hy
      have hil := (List.getElem?_eq_some_iff.mp hi).1
      have := (bstD_least ds (xs.length - 1)).2 i (by omega)
      rwa [ed, show atD ds i = y by unfold atD; rw [List.getD_eq_getElem?_getD, hi]; rfl] at this
    · have ok := okKs_mem okds d hm
      intro l' e1 ⟨ys, e2⟩
      subst e1
      have da2 := da.same sm
      cases d with
      | tuple es =>
        cases da2 with
        | tup _ e4 _ => rw [e4] at e2; cases e2
      | int i => cases da2
      | _ => cases ok
  · exact h.elim
end Dl
namespace L2
open PySem PySem.Spec PySem.Calls PyProof.Rows _root_.Rd _root_.Rk
section
variable {X : Cx} {k : Nat} {fa : Addr} {fd : FuncData} {pn : Str} {sp : Sp} {E0 : XK}
end
end L2
namespace L2
open PySem PySem.Spec PySem.Calls PyProof.Rows _root_.Rd _root_.Rk _root_.Rs
section
variable {X : Cx}
theorem call_sortR {pins : List (Addr × Obj)} {σ : St} {l : Addr} {ns : List Int} {H : Hp} {s : Shared} {Q : VK} {E : Value → Shared → Prop} (I : Inv X pins σ H s) (hl : H l = some (.lst (ns.map V.int))) (h64 : ns.length < 64)
    (q : ∀ t ms H2, Same H H2 → H t = none → H2 t = some (.lst ((ms : List Int).map V.int)) → ms.Perm ns → ms.Pairwise (· ≥ ·) → Q (.ref t) H2) :
    wpAny (model X.prog X.w) X.A (call (.builtin "sorted") [.ref l] [(Str.ofString "reverse", .bool true)]) (EP X pins σ Q) E s := by
  obtain ⟨hz, its, n, rv, ho⟩ := I.hok l _ hl
  have li := rv.length
  rw [List.length_map] at li
  refine sorted_ints_rev (b := true) ⟨_, ho, rfl, _, rfl⟩ (ints_are rv) (by omega) fun out ns' ia pm pw => ?_
  have pw : ns'.Pairwise (· ≥ ·) := pw
  unfold sortedAll
  have kp : ∀ b x, s.heap.get? b = some x → ((s.heap.push (seqObj "list" #[] 0)).update s.heap.objs.size (Obj.mapSeq (· ++ its.toArray))).get? b = some x := fun b x e =>
    (Heap.get?_update_other _ _ (Ne.symm (Nat.ne_of_lt (Heap.lt_size e)))).trans (Heap.get?_push_of_some _ e)
  have hsz : ((s.heap.push (seqObj "list" #[] 0)).update s.heap.objs.size (Obj.mapSeq (· ++ its.toArray))).objs.size = s.heap.objs.size + 1 := by
    rw [Heap.size_update, size_push']
  rw [← hsz]
  generalize ((s.heap.push (seqObj "list" #[] 0)).update s.heap.objs.size (Obj.mapSeq (· ++ its.toArray))) = h' at *
  have hn : (h'.push (seqObj "list" its.toArray 0)).get? h'.objs.size = some (seqObj "list" its.toArray 0) := Heap.get?_push_size _ rfl
  have I1 : Inv X pins σ H { s with heap := h' } := I.kept (t' := s.toks) kp
  have hf : H h'.objs.size = none := I1.hok.fresh (Nat.le_refl _)
  obtain ⟨e, he⟩ : ∃ e, (sortedHeap (h'.push (seqObj "list" its.toArray 0)) h'.objs.size its out).get? h'.objs.size = some (seqObj "list" out e) := sortedHeap_at hn
  have rv' := are_ints ia
  have lp := pm.length_eq
  have I2 : Inv X pins σ (upd H h'.objs.size (.lst (ns'.map V.int))) { s with heap := sortedHeap (h'.push (seqObj "list" its.toArray 0)) h'.objs.size its out } :=
    I1.laid (t' := s.toks) (fun b x e' => (sortedHeap_old (Nat.ne_of_lt (Heap.lt_size e')) (Nat.lt_of_lt_of_le (Heap.lt_size e') (by rw [size_push']; exact Nat.le_succ _))).trans (Heap.get?_push_of_some _ e')) (Nat.le_refl _) (show ObjOk X.prog X.w _ _ _ (.lst _) from ⟨by rw [List.length_map]; exact Nat.le_of_lt (Rk.lt_line (by omega)), out.toList, e, rv', by rw [he]⟩)
  exact ⟨.ref h'.objs.size, _, I2, rfl, q _ ns' _ (same_upd hf) hf upd_same pm pw⟩
def tSortR (t : TE) : TE := fun σ H Q => t σ H fun v H1 => ∃ (l : Addr) (ns : List Int), v = .ref l ∧ H1 l = some (.lst (ns.map V.int)) ∧ ns.length < 64 ∧
  ∀ t ms H2, Same H1 H2 → H1 t = none → H2 t = some (.lst ((ms : List Int).map V.int)) → ms.Perm ns → ms.Pairwise (· ≥ ·) → Q (.ref t) H2
theorem pe_sortR {e : Expr} {t : TE} {ck : Nat} {p cp kp pos : Pos} (hg : Gl X "sorted") (hm : X.mg "sorted" = none) (h : PE X e t) (he : starEach [e] X.env = (false, eval e X.env) :: starEach [] X.env := by rfl) :
    PE X (.Call (.Name "sorted" p) [e] [⟨some "reverse", .Constant (.bool true) ck cp, kp⟩] pos) (tSortR t) := by
  intro pins s σ H Q I hh
  refine wpAny_Call_Name_kw (ld_blt I hg hm (by rfl) ?_ (by decide) (by decide))
  have hh : tCons t tNil σ H (fun vs H1 => match vs with
      | [v] => ∃ (l : Addr) (ns : List Int), v = .ref l ∧ H1 l = some (.lst (ns.map V.int)) ∧ ns.length < 64 ∧ ∀ t ms H2, Same H1 H2 → H1 t = none → H2 t = some (.lst ((ms : List Int).map V.int)) → ms.Perm ns → ms.Pairwise (· ≥ ·) → Q (.ref t) H2
      | _ => False) := hh
  refine PyProof.Rows.callWith_kw (thn ((pa_cons h pa_nil he) pos pins s σ H _ I hh) fun us s1 ⟨vs, H1, I1, r1, q1⟩ => ?_) ?_ ?_ ?_ ?_
  · dsimp only at q1
    split at q1
    · obtain ⟨l, ns, rfl, hl, h64, hQ⟩ := q1
      obtain ⟨u, rfl, ru⟩ := vals1 r1
      cases ru
      refine kws_cons (Constant_bool (kws_nil ?_))
      show wpAny (model X.prog X.w) X.A (call (.builtin "sorted") [.ref l] [("reverse", .bool true)]) _ _ s1
      exact call_sortR I1 hl h64 hQ
    · exact q1.elim
  · rw [he]; rfl
  · rw [he]; rfl
  · rfl
  · rfl
end
end L2
namespace Dl
open PySem PySem.Spec PyProof.Rows L2 _root_.Rd Rk
section
variable {X : Cx} {E : XK}
@[irreducible] def sortRD : PyData → (PyData → Prop) → Prop
  | .list ds, Q => ∃ ns, asInts ds = some ns ∧ ns.length < 64 ∧ ∀ ms : List Int, ms.Perm ns → ms.Pairwise (· ≥ ·) → Q (.list (ms.map .int))
  | _, _ => False
theorem sortR_of {ds : List PyData} {Q : PyData → Prop} {ns : List Int} (h : asInts ds = some ns) (h64 : ns.length < 64) (k : ∀ ms : List Int, ms.Perm ns → ms.Pairwise (· ≥ ·) → Q (.list (ms.map .int))) : sortRD (.list ds) Q := by
  unfold sortRD
  exact ⟨ns, h, h64, k⟩
def dSortR (w : DE) : DE := fun δ Q EX => w δ (fun d => sortRD d Q) EX
theorem pd_sortR {e : Expr} {w : DE} {ck : Nat} {p cp kp pos : Pos} (hg : Gl X "sorted") (hm : X.mg "sorted" = none) (h : PE X e (tX .P X.K E w)) (hs : notStar e = true := by rfl) : PE X (.Call (.Name "sorted" p) [e] [⟨some "reverse", .Constant (.bool true) ck cp, kp⟩] pos) (tX .F X.K E (dSortR w)) := by
  refine PE.imp (pe_sortR hg hm h (star_of hs)) fun σ H Q ⟨F, δ, R, EX, rel, hw, k, o⟩ => ?_
  refine ⟨F, δ, _, EX, rel, hw, fun d hd v H1 rel1 kp1 vk => ?_, o⟩
  have hd : sortRD d _ := hd
  unfold sortRD at hd
  split at hd
  · rename_i ds
    obtain ⟨ns, hn, h64, hQ⟩ := hd
    rw [ints_eq hn] at vk
    obtain ⟨l, xs, rfl, e, q⟩ := DP.list vk
    rw [das_ints q] at e
    refine ⟨l, ns, rfl, e, h64, fun t ms H2 sm hf e2 pm pw => ?_⟩
    refine k _ (hQ ms pm pw) _ H2 (rel1.same sm) (kp1.trans (Kp.same rel1 sm)) ⟨new_da (fun a ha => rel1.isl ha) sm hf e2 (ints_das ms), fun l e1 e2 => ?_⟩
    cases e1
    exact kp_none kp1 hf
  · exact hd.elim
theorem q_sortR {e : Expr} {w : DE} {ck : Nat} {p cp kp pos : Pos} (hg : Gl X "sorted") (hm : X.mg "sorted" = none) (h : QE .P X E e w) (hs : notStar e = true := by rfl) : QE .F X E (.Call (.Name "sorted" p) [e] [⟨some "reverse", .Constant (.bool true) ck cp, kp⟩] pos) (dSortR w) := ⟨pd_sortR hg hm h.h hs⟩
end
end Dl
namespace Zt
open PySem
def f5 (M x : Nat) : Nat := (x * 5 + 1) % M
def it5 (M : Nat) : Nat → Nat → Nat
  | 0, x => x
  | n + 1, x => it5 M n (f5 M x)
theorem it5_add (M : Nat) : ∀ (m n x : Nat), it5 M (m + n) x = it5 M n (it5 M m x)
  | 0, n, x => by rw [Nat.zero_add]; rfl
  | m + 1, n, x => by rw [Nat.succ_add]; exact it5_add M m n (f5 M x)
def cov5 (M : Nat) : Nat → Nat → Nat → Nat
  | 0, _, acc => acc
  | n + 1, x, acc => cov5 M n (f5 M x) (acc ||| 2 ^ x)
theorem cov5_bit (M j : Nat) : ∀ (n x acc : Nat), (cov5 M n x acc).testBit j = true → acc.testBit j = true ∨ ∃ b, b < n ∧ it5 M b x = j
  | 0, _, _, h => .inl h
  | n + 1, x, acc, h => by
    rcases cov5_bit M j n (f5 M x) (acc ||| 2 ^ x) h with z | ⟨b, hb, e⟩
    · rw [Nat.testBit_or, Bool.or_eq_true, Nat.testBit_two_pow] at z
      rcases z with z | z
      · exact .inl z
      · exact .inr ⟨0, by omega, by show x = j; simpa using z⟩
    · exact .inr ⟨b + 1, by omega, e⟩
def goodM (M : Nat) : Bool := decide (cov5 M M 0 0 = 2 ^ M - 1) && decide (it5 M M 0 = 0)
theorem good_8 : goodM 8 = true := by decide +kernel
theorem good_32 : goodM 32 = true := by decide +kernel
theorem good_128 : goodM 128 = true := by decide +kernel
theorem good_512 : goodM 512 = true := by decide +kernel
theorem good_2048 : goodM 2048 = true := by decide +kernel
theorem good_all {M : Nat} (h : goodM M = true) {i j : Nat} (hi : i < M) (hj : j < M) : ∃ n, n < M ∧ it5 M n i = j := by
  have h := Bool.and_eq_true_iff.mp h
  have h1 : cov5 M M 0 0 = 2 ^ M - 1 := of_decide_eq_true h.1
  have h2 : it5 M M 0 = 0 := of_decide_eq_true h.2
  have all : ∀ k, k < M → ∃ b, b < M ∧ it5 M b 0 = k := fun k hk => by
    have : (cov5 M M 0 0).testBit k = true := by rw [h1, Nat.testBit_two_pow_sub_one]; exact decide_eq_true hk
    rcases cov5_bit M k M 0 0 this with z | z
    · simp at z
    · exact z
  obtain ⟨a, ha, rfl⟩ := all i hi
  obtain ⟨b, hb, rfl⟩ := all j hj
  by_cases z : a ≤ b
  · exact ⟨b - a, by omega, by rw [← it5_add, show a + (b - a) = b by omega]⟩
  · refine ⟨M - a + b, by omega, ?_⟩
    rw [← it5_add, show a + (M - a + b) = M + b by omega, it5_add, h2]
def leaps (mask : Nat) : Nat → Nat × Nat → Nat × Nat
  | 0, p => p
  | n + 1, p => leaps mask n (SetTable.leap mask p.1 p.2)
theorem leaps_add (mask : Nat) : ∀ (m n : Nat) (p : Nat × Nat), leaps mask (m + n) p = leaps mask n (leaps mask m p)
  | 0, n, p => by rw [Nat.zero_add]; rfl
  | m + 1, n, p => by rw [Nat.succ_add]; exact leaps_add mask m n _
theorem leaps_snd (mask : Nat) : ∀ (n : Nat) (p : Nat × Nat), (leaps mask n p).2 = p.2 / 32 ^ n
  | 0, p => by show p.2 = p.2 / 1; omega
  | n + 1, p => by
    show (leaps mask n (SetTable.leap mask p.1 p.2)).2 = _
    rw [leaps_snd mask n]
    show p.2 / 32 / 32 ^ n = _
    rw [Nat.div_div_eq_div_mul, Nat.pow_succ, Nat.mul_comm]
theorem leaps_fst (mask : Nat) : ∀ (n i : Nat), leaps mask n (i, 0) = (it5 (mask + 1) n i, 0)
  | 0, i => rfl
  | n + 1, i => by
    show leaps mask n (SetTable.leap mask i 0) = _
    have : SetTable.leap mask i 0 = (f5 (mask + 1) i, 0) := by
      show ((i * 5 + 1 + 0 / 32) % (mask + 1), 0 / 32) = _
      simp [f5]
    rw [this, leaps_fst mask n]
    rfl
theorem leaps_lt {mask : Nat} : ∀ (n : Nat) (p : Nat × Nat), p.1 < mask + 1 → (leaps mask n p).1 < mask + 1
  | 0, _, h => h
  | n + 1, p, _ => leaps_lt n _ (Nat.mod_lt _ (Nat.succ_pos _))
theorem leaps_meet {mask : Nat} (hg : goodM (mask + 1) = true) {i perturb j : Nat} (hi : i < mask + 1) (hp : perturb < 2 ^ 64) (hj : j < mask + 1) : ∃ n, n < mask + 14 ∧ (leaps mask n (i, perturb)).1 = j := by
  have h13 := leaps_snd mask 13 (i, perturb)
  have : perturb / 32 ^ 13 = 0 := Nat.div_eq_of_lt (Nat.lt_of_lt_of_le hp (by decide))
  rw [show (i, perturb).2 = perturb from rfl, this] at h13
  have hl := leaps_lt 13 (i, perturb) hi
  obtain ⟨n, hn, e⟩ := good_all hg hl hj
  refine ⟨13 + n, by omega, ?_⟩
  rw [leaps_add, show leaps mask 13 (i, perturb) = ((leaps mask 13 (i, perturb)).1, 0) from Prod.ext rfl h13, leaps_fst]
  exact e
def stps (t : SetTable) : Nat → SetTable.Probe → SetTable.Probe
  | 0, p => p
  | n + 1, p => stps t n (t.advance p)
theorem stps_add (t : SetTable) : ∀ (m n : Nat) (p : SetTable.Probe), stps t (m + n) p = stps t n (stps t m p)
  | 0, n, p => by rw [Nat.zero_add]; rfl
  | m + 1, n, p => by rw [Nat.succ_add]; exact stps_add t m n _
def runP (t : SetTable) (i perturb : Nat) (d : Option Nat) : SetTable.Probe := { j := i, more := SetTable.runEnd t.mask i - i, i := i, perturb := perturb, dummy := d }
theorem stps_more (t : SetTable) : ∀ (m j i perturb : Nat) (d : Option Nat), stps t m { j := j, more := m, i := i, perturb := perturb, dummy := d } = { j := j + m, more := 0, i := i, perturb := perturb, dummy := d }
  | 0, _, _, _, _ => rfl
  | m + 1, j, i, perturb, d => by
    show stps t m (t.advance _) = _
    have : t.advance { j := j, more := m + 1, i := i, perturb := perturb, dummy := d } = { j := j + 1, more := m, i := i, perturb := perturb, dummy := d } := by
      unfold SetTable.advance
      rw [if_pos (by show m + 1 > 0; omega)]
      rfl
    rw [this, stps_more t m, show j + 1 + m = j + (m + 1) by omega]
theorem run_le (mask i : Nat) : SetTable.runEnd mask i - i ≤ 9 := by unfold SetTable.runEnd; split <;> omega
theorem stps_run (t : SetTable) (i perturb : Nat) (d : Option Nat) : stps t (SetTable.runEnd t.mask i - i + 1) (runP t i perturb d) = runP t (SetTable.leap t.mask i perturb).1 (SetTable.leap t.mask i perturb).2 d := by
  rw [stps_add]
  unfold runP
  rw [stps_more]
  simp only [stps]
  unfold SetTable.advance
  rw [if_neg (by show ¬ (0 : Nat) > 0; omega)]
theorem stps_leaps (t : SetTable) (d : Option Nat) : ∀ (n i perturb : Nat), ∃ m, m ≤ 10 * n ∧ stps t m (runP t i perturb d) = runP t (leaps t.mask n (i, perturb)).1 (leaps t.mask n (i, perturb)).2 d
  | 0, i, perturb => ⟨0, by omega, rfl⟩
  | n + 1, i, perturb => by
    obtain ⟨m, hm, e⟩ := stps_leaps t d n (SetTable.leap t.mask i perturb).1 (SetTable.leap t.mask i perturb).2
    have := run_le t.mask i
    refine ⟨SetTable.runEnd t.mask i - i + 1 + m, by omega, ?_⟩
    rw [stps_add, stps_run, e]
    rfl
theorem bits_lt64 (h : Int) : SetTable.bits h < 2 ^ 64 := by
  unfold SetTable.bits
  have := Int.emod_lt_of_pos h (show (0 : Int) < 2 ^ 64 by decide)
  have := Int.emod_nonneg h (show (2 ^ 64 : Int) ≠ 0 by decide)
  omega
theorem start_meet (t : SetTable) (hg : goodM (t.mask + 1) = true) (h : Int) {j : Nat} (hj : j < t.mask + 1) : ∃ m, m < 10 * SetTable.turns t.mask ∧ (stps t m (t.probeStart h)).j = j := by
  obtain ⟨n, hn, e⟩ := leaps_meet (mask := t.mask) hg (i := SetTable.bits h % (t.mask + 1)) (Nat.mod_lt _ (Nat.succ_pos _)) (bits_lt64 h) hj
  obtain ⟨m, hm, e2⟩ := stps_leaps t none n (SetTable.bits h % (t.mask + 1)) (SetTable.bits h)
  refine ⟨m, by unfold SetTable.turns; omega, ?_⟩
  have : t.probeStart h = runP t (SetTable.bits h % (t.mask + 1)) (SetTable.bits h) none := rfl
  rw [this, e2]
  exact e
end Zt
namespace Zt
open PySem
theorem sub_lenN : ∀ {P Q : List Nat}, P.Nodup → (∀ p ∈ P, p ∈ Q) → P.length ≤ Q.length
  | [], _, _, _ => Nat.zero_le _
  | p :: P, Q, nd, h => by
    have nd := List.nodup_cons.mp nd
    have hp := h p (.head _)
    have := sub_lenN (P := P) (Q := Q.erase p) nd.2 fun x hx => (List.mem_erase_of_ne (show x ≠ p from fun e => nd.1 (e ▸ hx))).mpr (h x (.tail _ hx))
    rw [List.length_erase_of_mem hp] at this
    have := List.length_pos_of_mem hp
    rw [List.length_cons]
    omega
theorem below_go {xs : Array Nat} {j : Nat} (pw : xs.toList.Pairwise (· < ·)) : ∀ (fuel lo hi : Nat), hi - lo ≤ fuel → lo ≤ hi → hi ≤ xs.size → (∀ k (hk : k < xs.size), k < lo → xs[k] < j) → (∀ k (hk : k < xs.size), hi ≤ k → j ≤ xs[k]) →
    SetTable.below.go xs j fuel lo hi ≤ xs.size ∧ (∀ k (hk : k < xs.size), k < SetTable.below.go xs j fuel lo hi → xs[k] < j) ∧ ∀ k (hk : k < xs.size), SetTable.below.go xs j fuel lo hi ≤ k → j ≤ xs[k] := by
  have mono : ∀ a b (ha : a < xs.size) (hb : b < xs.size), a ≤ b → xs[a] ≤ xs[b] := fun a b ha hb h => by
    by_cases e : a = b
    · subst e; exact Nat.le_refl _
    · have := List.pairwise_iff_getElem.mp pw a b (by simpa using ha) (by simpa using hb) (by omega)
      simp only [Array.getElem_toList] at this
      omega
  intro fuel
  induction fuel with
  | zero =>
    intro lo hi h1 h2 h3 h4 h5
    have : lo = hi := by omega
    subst this
    exact ⟨h3, h4, h5⟩
  | succ fuel ih =>
    intro lo hi h1 h2 h3 h4 h5
    unfold SetTable.below.go
    by_cases z : lo < hi
    · rw [if_pos z]
      dsimp only
      have hm : (lo + hi) / 2 < xs.size := by omega
      have eg : xs.getD ((lo + hi) / 2) j = xs[(lo + hi) / 2] := by simp [Array.getD, hm]
      rw [eg]
      by_cases y : xs[(lo + hi) / 2] < j
      · rw [if_pos y]
        refine ih _ _ (by omega) (by omega) h3 (fun k hk hlt => ?_) h5
        have := mono k ((lo + hi) / 2) hk hm (by omega)
        omega
      · rw [if_neg y]
        refine ih _ _ (by omega) (by omega) (by omega) h4 fun k hk hle => ?_
        have := mono ((lo + hi) / 2) k hm hk hle
        omega
    · rw [if_neg z]
      have : lo = hi := by omega
      subst this
      exact ⟨h3, h4, h5⟩
theorem below_spec {xs : Array Nat} (pw : xs.toList.Pairwise (· < ·)) (j : Nat) : SetTable.below xs j ≤ xs.size ∧ (∀ k (hk : k < xs.size), k < SetTable.below xs j → xs[k] < j) ∧ ∀ k (hk : k < xs.size), SetTable.below xs j ≤ k → j ≤ xs[k] :=
  below_go pw _ 0 xs.size (by omega) (Nat.zero_le _) (Nat.le_refl _) (fun k hk h => by omega) fun k hk h => by omega
structure Tab (t : SetTable) : Prop where
  pw : t.place.toList.Pairwise (· < ·)
  le : ∀ x ∈ t.place.toList, x ≤ t.mask
  dm : t.dummies = #[]
  gd : goodM (t.mask + 1) = true
  pl : t.plain = true
  od : t.mask % 2 = 1
theorem Tab.slot_no {t : SetTable} (x : Tab t) {j : Nat} (h : j ∉ t.place.toList) : t.slot j = .empty := by
  unfold SetTable.slot
  dsimp only
  rw [if_neg, x.dm]
  · rfl
  · intro z
    have z := eq_of_beq z
    exact h (Array.mem_toList_iff.mpr (Array.mem_of_getElem? z))
theorem Tab.slot_dm {t : SetTable} (x : Tab t) (j : Nat) : t.slot j ≠ .dummy := by
  unfold SetTable.slot
  dsimp only
  split
  · exact fun e => by cases e
  · rw [x.dm, if_neg (by simp [SetTable.has])]
    exact fun e => by cases e
theorem Tab.slot_e {t : SetTable} (x : Tab t) {j : Nat} (h : t.slot j = .empty) : j ∉ t.place.toList := fun hj => by
  obtain ⟨i, hi, e⟩ := List.mem_iff_getElem.mp hj
  have hi' : i < t.place.size := by simpa using hi
  have e' : t.place[i] = j := by simpa using e
  obtain ⟨b1, b2, b3⟩ := below_spec x.pw j
  have hb : SetTable.below t.place j = i := by
    rcases Nat.lt_trichotomy (SetTable.below t.place j) i with z | z | z
    · have hb' : SetTable.below t.place j < t.place.size := by omega
      have h1 := b3 _ hb' (Nat.le_refl _)
      have := List.pairwise_iff_getElem.mp x.pw (SetTable.below t.place j) i (by simpa using hb') hi z
      simp only [Array.getElem_toList] at this
      omega
    · exact z
    · have := b2 i hi' z
      omega
  unfold SetTable.slot at h
  dsimp only at h
  rw [hb, if_pos (by simp [hi', e'])] at h
  cases h
theorem Tab.room {t : SetTable} (x : Tab t) (hs : t.place.size ≤ t.mask) : ∃ j, j < t.mask + 1 ∧ j ∉ t.place.toList := by
  apply Classical.byContradiction
  intro hn
  have : ∀ p ∈ List.range (t.mask + 1), p ∈ t.place.toList := fun p hp => by
    apply Classical.byContradiction
    intro h
    exact hn ⟨p, List.mem_range.mp hp, h⟩
  have := sub_lenN List.nodup_range this
  rw [List.length_range, Array.length_toList] at this
  omega
theorem adv_dummy (t : SetTable) (p : SetTable.Probe) : (t.advance p).dummy = p.dummy := by
  unfold SetTable.advance
  split <;> rfl
theorem go_meet {t : SetTable} (x : Tab t) (hashAt : Nat → Int) (h : Int) : ∀ (n fuel : Nat) (p : SetTable.Probe), n < fuel → t.slot (stps t n p).j = .empty → p.dummy = none →
    ∃ k, k ≤ n ∧ ((SetTable.probe.go t hashAt h fuel p = some (.empty (stps t k p).j none) ∧ t.slot (stps t k p).j = .empty) ∨ (k < n ∧ ∃ i, SetTable.probe.go t hashAt h fuel p = some (.candidate (stps t k p).j i (stps t (k + 1) p)) ∧ t.slot (stps t k p).j = .live i ∧ hashAt i = h)) := by
  intro n
  induction n with
  | zero =>
    intro fuel p hf he hd
    obtain ⟨fuel, rfl⟩ : ∃ m, fuel = m + 1 := ⟨fuel - 1, by omega⟩
    refine ⟨0, Nat.le_refl _, .inl ⟨?_, he⟩⟩
    unfold SetTable.probe.go
    rw [show t.slot p.j = .empty from he]
    dsimp only
    rw [hd]
    rfl
  | succ n ih =>
    intro fuel p hf he hd
    obtain ⟨fuel, rfl⟩ : ∃ m, fuel = m + 1 := ⟨fuel - 1, by omega⟩
    cases hs : t.slot p.j with
    | empty =>
      refine ⟨0, Nat.zero_le _, .inl ⟨?_, hs⟩⟩
      unfold SetTable.probe.go
      rw [hs]
      dsimp only
      rw [hd]
      rfl
    | dummy => exact absurd hs (x.slot_dm _)
    | live i =>
      by_cases z : hashAt i = h
      · refine ⟨0, Nat.zero_le _, .inr ⟨Nat.succ_pos _, i, ?_, hs, z⟩⟩
        unfold SetTable.probe.go
        rw [hs]
        dsimp only
        rw [if_pos (by simp [z])]
        rfl
      · obtain ⟨k, hk, q⟩ := ih fuel (t.advance p) (by omega) he (by rw [adv_dummy]; exact hd)
        have eg : SetTable.probe.go t hashAt h (fuel + 1) p = SetTable.probe.go t hashAt h fuel (t.advance p) := by
          conv => lhs; unfold SetTable.probe.go
          rw [hs]
          dsimp only
          rw [if_neg (by simp [z])]
        rcases q with ⟨q1, q2⟩ | ⟨q0, i', q1, q2, q3⟩
        · exact ⟨k + 1, by omega, .inl ⟨by rw [eg]; exact q1, q2⟩⟩
        · exact ⟨k + 1, by omega, .inr ⟨by omega, i', by rw [eg]; exact q1, q2, q3⟩⟩
end Zt
namespace Zt
open PySem
theorem Tab.put {t : SetTable} (x : Tab t) {j : Nat} (hj : j ∉ t.place.toList) (hm : j ≤ t.mask) : Tab (t.put j).1 ∧ (t.put j).1.place.toList = t.place.toList.take (t.put j).2 ++ j :: t.place.toList.drop (t.put j).2 ∧ (t.put j).1.mask = t.mask ∧ (t.put j).1.led = t.led ∧ (t.put j).1.moves = t.moves ∧ (t.put j).1.dummies = #[] := by
  obtain ⟨b1, b2, b3⟩ := below_spec x.pw j
  have hp : (t.put j).2 = SetTable.below t.place j := rfl
  have hl : (t.put j).1.place.toList = t.place.toList.take (t.put j).2 ++ j :: t.place.toList.drop (t.put j).2 := SetTable.toList_insertAt _ _ _
  have hd : (t.put j).1.dummies = #[] := by
    show (if SetTable.has t.dummies j = true then _ else t.dummies) = #[]
    rw [x.dm, if_neg (by simp [SetTable.has])]
  have lo : ∀ a ∈ t.place.toList.take (SetTable.below t.place j), a < j := fun a ha => by
    obtain ⟨k, hk, e⟩ := List.mem_iff_getElem.mp ha
    rw [List.length_take] at hk
    rw [List.getElem_take] at e
    have hk2 : k < t.place.size := by rw [Array.length_toList] at hk; omega
    have := b2 k hk2 (by omega)
    rw [Array.getElem_toList] at e
    omega
  have hi : ∀ a ∈ t.place.toList.drop (SetTable.below t.place j), j < a := fun a ha => by
    have hne : a ≠ j := fun e => hj (e ▸ List.mem_of_mem_drop ha)
    obtain ⟨k, hk, e⟩ := List.mem_iff_getElem.mp ha
    rw [List.length_drop, Array.length_toList] at hk
    rw [List.getElem_drop, Array.getElem_toList] at e
    have := b3 (SetTable.below t.place j + k) (by omega) (by omega)
    omega
  refine ⟨⟨?_, ?_, hd, x.gd, x.pl, x.od⟩, hl, rfl, rfl, rfl, hd⟩
  · rw [hl, hp, List.pairwise_append, List.pairwise_cons]
    refine ⟨x.pw.sublist (List.take_sublist _ _), ⟨hi, x.pw.sublist (List.drop_sublist _ _)⟩, fun a ha b hb => ?_⟩
    rcases List.mem_cons.mp hb with z | z
    · subst z; exact lo a ha
    · have := lo a ha
      have := hi b z
      omega
  · intro a ha
    rw [hl] at ha
    rcases List.mem_append.mp ha with z | z
    · exact x.le a (List.mem_of_mem_take z)
    · rcases List.mem_cons.mp z with z | z
      · subst z; exact hm
      · exact x.le a (List.mem_of_mem_drop z)
theorem free_some {mask : Nat} {owner : Array (Option Nat)} : ∀ (n fuel i perturb : Nat), n < fuel → owner.getD (leaps mask n (i, perturb)).1 (some 0) = none → ∃ j, SetTable.layClean.free mask owner fuel i perturb = some j ∧ owner.getD j (some 0) = none := by
  intro n
  induction n with
  | zero =>
    intro fuel i perturb hf he
    obtain ⟨fuel, rfl⟩ : ∃ m, fuel = m + 1 := ⟨fuel - 1, by omega⟩
    unfold SetTable.layClean.free
    cases hfd : (List.range (SetTable.runEnd mask i + 1 - i)).find? fun k => (owner.getD (i + k) (some 0)).isNone with
    | some k =>
      have := List.find?_some hfd
      exact ⟨i + k, rfl, by simpa using this⟩
    | none =>
      have := List.find?_eq_none.mp hfd 0 (List.mem_range.mpr (by unfold SetTable.runEnd; split <;> omega))
      rw [Nat.add_zero, show owner.getD i (some 0) = none from he] at this
      exact absurd rfl this
  | succ n ih =>
    intro fuel i perturb hf he
    obtain ⟨fuel, rfl⟩ : ∃ m, fuel = m + 1 := ⟨fuel - 1, by omega⟩
    unfold SetTable.layClean.free
    cases hfd : (List.range (SetTable.runEnd mask i + 1 - i)).find? fun k => (owner.getD (i + k) (some 0)).isNone with
    | some k =>
      have := List.find?_some hfd
      exact ⟨i + k, rfl, by simpa using this⟩
    | none => exact ih fuel _ _ (by omega) he
theorem fm_congr {f g : Nat → Option Nat} : ∀ {l : List Nat}, (∀ x ∈ l, f x = g x) → l.filterMap f = l.filterMap g
  | [], _ => rfl
  | x :: l, h => by
    rw [List.filterMap_cons, List.filterMap_cons, h x (.head _), fm_congr fun y hy => h y (.tail _ hy)]
theorem fm_set (f : Nat → Option Nat) (j k : Nat) (hf : f j = none) : ∀ M, j < M → ((List.range M).filterMap fun x => if x = j then some k else f x).Perm (k :: (List.range M).filterMap f)
  | 0, h => absurd h (Nat.not_lt_zero _)
  | M + 1, h => by
    rw [List.range_succ, List.filterMap_append, List.filterMap_append]
    by_cases z : M = j
    · subst z
      have e : ((List.range M).filterMap fun x => if x = M then some k else f x) = (List.range M).filterMap f := fm_congr fun x hx => if_neg (by have := List.mem_range.mp hx; omega)
      rw [e]
      have e2 : ([M].filterMap fun x => if x = M then some k else f x) = [k] := by simp
      have e3 : [M].filterMap f = [] := by simp [hf]
      rw [e2, e3, List.append_nil]
      exact List.perm_append_comm
    · have ih := fm_set f j k hf M (by omega)
      have e2 : ([M].filterMap fun x => if x = j then some k else f x) = [M].filterMap f := fm_congr fun x hx => by
        rw [List.mem_singleton.mp hx, if_neg z]
      rw [e2]
      exact ih.append_right _
def Lv (mask : Nat) (owner : Array (Option Nat)) : List Nat := (List.range (mask + 1)).filterMap fun j => owner.getD j none
theorem fm_full {f : Nat → Option Nat} : ∀ {M : Nat}, (∀ j, j < M → f j ≠ none) → ((List.range M).filterMap f).length = M
  | 0, _ => rfl
  | M + 1, h => by
    rw [List.range_succ, List.filterMap_append, List.length_append, fm_full fun j hj => h j (by omega)]
    cases e : f M with
    | none => exact absurd e (h M (by omega))
    | some y => simp [e]
structure Own (mask : Nat) (owner : Array (Option Nat)) (k : Nat) : Prop where
  sz : owner.size = mask + 1
  pm : (Lv mask owner).Perm (List.range k)
theorem lay_step {mask : Nat} (hg : goodM (mask + 1) = true) {owner : Array (Option Nat)} {k : Nat} (x : Own mask owner k) (hk : k ≤ mask) (h : Int) : ∃ j, SetTable.layClean.free mask owner (SetTable.turns mask) (SetTable.bits h % (mask + 1)) (SetTable.bits h) = some j ∧ Own mask (owner.setIfInBounds j (some k)) (k + 1) := by
  obtain ⟨e, he, hn⟩ : ∃ e, e < mask + 1 ∧ owner.getD e none = none := by
    apply Classical.byContradiction
    intro hno
    have := fm_full (f := fun j => owner.getD j none) (M := mask + 1) fun j hj z => hno ⟨j, hj, z⟩
    have h2 := x.pm.length_eq
    rw [List.length_range] at h2
    unfold Lv at h2
    omega
  have gd : ∀ j, j < mask + 1 → owner.getD j (some 0) = owner.getD j none := fun j hj => by
    have : j < owner.size := by rw [x.sz]; exact hj
    simp [Array.getD, this]
  obtain ⟨n, hn', e2⟩ := leaps_meet hg (i := SetTable.bits h % (mask + 1)) (perturb := SetTable.bits h) (Nat.mod_lt _ (Nat.succ_pos _)) (bits_lt64 h) he
  obtain ⟨j, hj, hj0⟩ := free_some (mask := mask) (owner := owner) n (SetTable.turns mask) (SetTable.bits h % (mask + 1)) (SetTable.bits h) (by unfold SetTable.turns; omega) (by rw [e2, gd e he]; exact hn)
  have hjs : j < owner.size := by
    apply Classical.byContradiction
    intro z
    simp [Array.getD, z] at hj0
  refine ⟨j, hj, by rw [Array.size_setIfInBounds]; exact x.sz, ?_⟩
  have e3 : Lv mask (owner.setIfInBounds j (some k)) = (List.range (mask + 1)).filterMap fun y => if y = j then some k else owner.getD y none := fm_congr fun y hy => by
    have hy := List.mem_range.mp hy
    have hys : y < owner.size := by rw [x.sz]; exact hy
    by_cases z : y = j
    · subst z; simp [Array.getD, hys]
    · rw [if_neg z]
      simp [Array.getD, hys, Array.getElem_setIfInBounds, Ne.symm z]
  rw [e3]
  refine (fm_set _ j k (by rw [← gd j (by rw [← x.sz]; exact hjs)]; exact hj0) _ (by rw [← x.sz]; exact hjs)).trans ?_
  refine (show (k :: (List.range (mask + 1)).filterMap fun y => owner.getD y none).Perm (k :: List.range k) from x.pm.cons k).trans ?_
  rw [show List.range (k + 1) = List.range k ++ [k] from List.range_succ]
  exact List.perm_append_comm (l₁ := [k])
theorem lay_all {mask : Nat} (hg : goodM (mask + 1) = true) : ∀ (hs : List Int) (owner : Array (Option Nat)) (k : Nat), Own mask owner k → k + hs.length ≤ mask + 1 → ∃ owner', hs.foldl (fun acc h => do
    let (owner, k) ← acc
    let j ← SetTable.layClean.free mask owner (SetTable.turns mask) (SetTable.bits h % (mask + 1)) (SetTable.bits h)
    pure (owner.setIfInBounds j (some k), k + 1)) (some (owner, k)) = some (owner', k + hs.length) ∧ Own mask owner' (k + hs.length)
  | [], owner, k, x, _ => ⟨owner, rfl, x⟩
  | h :: hs, owner, k, x, hl => by
    rw [List.length_cons] at hl
    obtain ⟨j, hj, y⟩ := lay_step hg x (by omega) h
    obtain ⟨o', e, z⟩ := lay_all hg hs _ (k + 1) y (by omega)
    refine ⟨o', ?_, by rw [List.length_cons, show k + (hs.length + 1) = k + 1 + hs.length by omega]; exact z⟩
    rw [List.foldl_cons, List.length_cons, show k + (hs.length + 1) = k + 1 + hs.length by omega, ← e]
    congr 1
    show (SetTable.layClean.free mask owner (SetTable.turns mask) (SetTable.bits h % (mask + 1)) (SetTable.bits h)).bind _ = _
    rw [hj]
    rfl
theorem own_new (mask : Nat) : Own mask (Array.replicate (mask + 1) none) 0 := by
  refine ⟨by simp, ?_⟩
  have : Lv mask (Array.replicate (mask + 1) none) = [] := by
    unfold Lv
    rw [List.filterMap_eq_nil_iff]
    intro j hj
    have := List.mem_range.mp hj
    simp [Array.getD, this]
  rw [this]
  exact List.Perm.refl _
theorem laid_ok {mask finger moves : Nat} {led : Bool} (hg : goodM (mask + 1) = true) (ho : mask % 2 = 1) (hashes : Array Int) (hl : hashes.size ≤ mask) :
    ∃ t order, SetTable.laid mask finger moves led true hashes = some (t, order) ∧ Tab t ∧ t.mask = mask ∧ t.led = led ∧ t.place.size = hashes.size ∧ order.toList.Perm (List.range hashes.size) := by
  obtain ⟨owner, e, x⟩ := lay_all hg hashes.toList (Array.replicate (mask + 1) none) 0 (own_new mask) (by rw [Array.length_toList]; omega)
  rw [Nat.zero_add, Array.length_toList] at e x
  have ec : SetTable.layClean mask hashes = some owner := by
    unfold SetTable.layClean
    rw [← Array.foldl_toList]
    exact congrArg (fun z => z.map (·.1)) e
  have el : SetTable.laid mask finger moves led true hashes = some ({ mask := mask, place := (((List.range (mask + 1)).filterMap fun j => (owner.getD j none).map (j, ·)).map (·.1)).toArray, dummies := #[], finger := finger, led := led, moves := moves, plain := true }, (((List.range (mask + 1)).filterMap fun j => (owner.getD j none).map (j, ·)).map (·.2)).toArray) := by
    unfold SetTable.laid
    rw [ec]
    rfl
  have e2 : ((List.range (mask + 1)).filterMap fun j => (owner.getD j none).map (j, ·)).map (·.2) = Lv mask owner := by
    unfold Lv
    rw [List.map_filterMap]
    exact fm_congr fun y _ => by cases owner.getD y none <;> rfl
  have e1 : ((List.range (mask + 1)).filterMap fun j => (owner.getD j none).map (j, ·)).map (·.1) = (List.range (mask + 1)).filterMap fun j => (owner.getD j none).map fun _ => j := by
    rw [List.map_filterMap]
    exact fm_congr fun y _ => by cases owner.getD y none <;> rfl
  have len : (((List.range (mask + 1)).filterMap fun j => (owner.getD j none).map (j, ·)).map (·.1)).length = hashes.size := by
    rw [List.length_map]
    have h1 := congrArg List.length e2
    rw [List.length_map, x.pm.length_eq, List.length_range] at h1
    exact h1
  refine ⟨_, _, el, ⟨?_, ?_, rfl, hg, rfl, ho⟩, rfl, rfl, by rw [List.size_toArray]; exact len, by rw [List.toList_toArray, e2]; exact x.pm⟩
  · show List.Pairwise (· < ·) (List.toArray _).toList
    rw [List.toList_toArray, e1, List.pairwise_filterMap]
    refine List.pairwise_lt_range.imp fun {a b} h => ?_
    intro c hc d hd
    cases hoa : owner.getD a none with
    | none => rw [hoa] at hc; cases hc
    | some _ =>
      cases hob : owner.getD b none with
      | none => rw [hob] at hd; cases hd
      | some _ => rw [hoa] at hc; rw [hob] at hd; cases hc; cases hd; exact h
  · intro y hy
    have hy : y ∈ (((List.range (mask + 1)).filterMap fun j => (owner.getD j none).map (j, ·)).map (·.1)).toArray.toList := hy
    rw [List.toList_toArray, e1] at hy
    obtain ⟨a, ha, e⟩ := List.mem_filterMap.mp hy
    have := List.mem_range.mp ha
    cases hoa : owner.getD a none with
    | none => rw [hoa] at e; cases e
    | some _ =>
      rw [hoa] at e
      cases e
      show a ≤ mask
      omega
theorem order_perm {α : Type} {es : Array α} {order : Array Nat} (h : order.toList.Perm (List.range es.size)) : (order.filterMap (es[·]?)).toList.Perm es.toList := by
  rw [Array.toList_filterMap]
  refine (h.filterMap _).trans ?_
  have : (List.range es.size).filterMap (es[·]?) = es.toList := by
    apply List.ext_getElem?
    intro i
    have key : ∀ n, n ≤ es.size → (List.range n).filterMap (es[·]?) = es.toList.take n := fun n => by
      induction n with
      | zero => intro _; rfl
      | succ n ih =>
        intro hn
        rw [List.range_succ, List.filterMap_append, ih (by omega), List.take_add_one]
        have : es[n]? = some es[n] := by simp [show n < es.size by omega]
        simp [this]
    rw [key _ (Nat.le_refl _), ← Array.length_toList, List.take_length]
  rw [this]
end Zt
namespace Zt
open PySem
structure PIn (t : SetTable) (p : SetTable.Probe) : Prop where
  a : p.j + p.more ≤ t.mask
  b : p.i ≤ t.mask
theorem runEnd_le {mask i : Nat} (h : i ≤ mask) : i + (SetTable.runEnd mask i - i) ≤ mask := by unfold SetTable.runEnd; split <;> omega
theorem PIn.adv {t : SetTable} {p : SetTable.Probe} (x : PIn t p) : PIn t (t.advance p) := by
  unfold SetTable.advance
  split
  · exact ⟨by show p.j + 1 + (p.more - 1) ≤ _; have := x.a; omega, x.b⟩
  · have : (SetTable.leap t.mask p.i p.perturb).1 ≤ t.mask := Nat.le_of_lt_succ (Nat.mod_lt _ (Nat.succ_pos _))
    exact ⟨runEnd_le this, this⟩
theorem PIn.stps {t : SetTable} : ∀ (n : Nat) {p : SetTable.Probe}, PIn t p → PIn t (stps t n p)
  | 0, _, x => x
  | n + 1, _, x => PIn.stps n x.adv
theorem PIn.start (t : SetTable) (h : Int) : PIn t (t.probeStart h) := by
  have : SetTable.bits h % (t.mask + 1) ≤ t.mask := Nat.le_of_lt_succ (Nat.mod_lt _ (Nat.succ_pos _))
  exact ⟨runEnd_le this, this⟩
theorem stps_le (t : SetTable) (h : Int) (n : Nat) : (stps t n (t.probeStart h)).j ≤ t.mask := by
  have := (PIn.stps n (PIn.start t h)).a
  omega
def Rch (t : SetTable) (j : Nat) (h : Int) : Prop := ∃ n, (stps t n (t.probeStart h)).j = j ∧ ∀ m, m < n → (stps t m (t.probeStart h)).j ∈ t.place.toList
end Zt
namespace Zt
open PySem
def tM (mask : Nat) : SetTable := { mask := mask, place := #[], dummies := #[], finger := 0, led := true, moves := 0, plain := true }
end Zt
namespace Zt
open PySem
theorem sl_next : Slot "set_iterator" "__next__" "set_iterator.__next__" :=
  .of (owner := "set_iterator") (n := "__next__") (by rw [typeLookup_type, builtinLookup_eq_fast]; kernel_rfl) (by decide +kernel) (by decide +kernel) (by decide +kernel) (by first | exact .inl (by decide +kernel) | exact .inr (by decide +kernel)) (by rw [isSubtype_type]; kernel_rfl)
theorem en_next : entryFor table "set_iterator.__next__" = some Builtin.«set_iterator.__next__» := entryFor_of_fast (by kernel_rfl)
theorem ow_si : Manifest.owners.lookup (String.ofList ['r', 'o', 't', 'a', 'r', 'e', 't', 'i', '_', 't', 'e', 's'].reverse) = some Manifest.sig_set_iterator := by kernel_rfl
theorem ar_next (a : Value) : argsOk "set_iterator.__next__" ⟨[a], []⟩ := by
  unfold argsOk; rw [signature?_of (id := "set_iterator.__next__") (n := ['_', '_', 't', 'x', 'e', 'n', '_', '_']) (o := ['r', 'o', 't', 'a', 'r', 'e', 't', 'i', '_', 't', 'e', 's']) (by kernel_rfl) ow_si]; kernel_rfl
theorem en_iter : entryFor table "set.__iter__" = some Builtin.«frozenset.__iter__» := entryFor_alias (id' := "frozenset.__iter__") (by kernel_rfl) (by first | rfl | decide +kernel | (unfold String.splitOn; simp +decide [String.splitOnAux])) (by decide +kernel) (by kernel_rfl)
def IsSI (h : Heap) (I : Addr) (first : Value) (i a n ep : Nat) : Prop := ∃ o, h.get? I = some o ∧ o.cls = .type "set_iterator" ∧ o.data = .fields #[first, .int i 0, .ref a, .int n 0, .int ep 0]
theorem IsSI.typeIs {s : Shared} {I : Addr} {first : Value} {i a n ep : Nat} (x : IsSI s.heap I first i a n ep) : s.TypeIs (.ref I) "set_iterator" := let ⟨o, h, c, _⟩ := x; ⟨o, h, c⟩
structure SetAt (h : Heap) (a : Addr) (es : Array (Int × Value)) (ep : Nat) (t : SetTable) : Prop where
  at_ : ∃ o, h.get? a = some o ∧ o.ExactSet ∧ o.data = .set es ep t
  ft : t.fits es.size = true
section
variable {prog : Program} {w : World} {A : Around} {E : Value → Shared → Prop} {s : Shared}
theorem nx_item {I a : Addr} {i ep slot nx : Nat} {es : Array (Int × Value)} {t : SetTable} {x : Value} {Q : Option Value → Shared → Prop} (hit : IsSI s.heap I (.int slot 0) i a es.size ep) (ha : SetAt s.heap a es ep t)
    (hN : ∀ (A : Around) (E : Value → Shared → Prop) (Q' : Option (Value × Nat) → Shared → Prop), Q' (some (x, nx)) s → wpAny (model prog w) A (setNext a slot i ep) Q' E s)
    (hQ : ∀ h', IsSI h' I (.int nx 0) (i + 1) a es.size ep → Heap.SameBut I s.heap h' → Q (some x) { s with heap := h' }) : wpAny (model prog w) A (pyNext (.ref I)) Q E s := by
  obtain ⟨o, ho, hc, hd⟩ := id hit
  obtain ⟨os, hos, hex, hds⟩ := ha.at_
  unfold pyNext
  refine wpAny_bind (wpAny_attempt (wpAny_callSpecial?_slot (name := Str.ofString "__next__") hit.typeIs sl_next (wpAny_call_entry sl_next hit.typeIs en_next ?_ (ar_next _))))
  unfold Builtin.«set_iterator.__next__»
  wp_walk
  rw [hd]
  refine wpAny_pure ?_
  dsimp only
  refine wpAny_bind (wpAny_setEntries_of hos hds ha.ft ?_)
  rw [if_neg (by simp)]
  refine wpAny_bind ?_
  refine hN _ _ _ ?_
  dsimp only
  refine wpAny_bind (wpAny_setField ho hd (by simp) ?_)
  have g1 : (s.heap.update I (Obj.mapFields fun x => x.setIfInBounds 0 (rawInt ↑nx))).get? I = some (Obj.mapFields (fun x => x.setIfInBounds 0 (rawInt ↑nx)) o) := Heap.get?_update_self _ ho (Obj.isFreed_of_fields (Obj.data_mapFields hd _))
  have d1 : (Obj.mapFields (fun x => x.setIfInBounds 0 (rawInt ↑nx)) o).data = .fields #[.int nx 0, .int i 0, .ref a, .int es.size 0, .int ep 0] := by rw [Obj.data_mapFields hd]; simp [rawInt]
  refine wpAny_bind (wpAny_setField g1 d1 (by simp) (wpAny_pure ⟨x, rfl, wpAny_pure (hQ _ ?_ ((Heap.SameBut.update ..).trans (Heap.SameBut.update ..)))⟩))
  exact ⟨_, Heap.get?_update_self _ g1 (Obj.isFreed_of_fields (Obj.data_mapFields d1 _)), (Obj.cls_mapFields ..).trans ((Obj.cls_mapFields ..).trans hc), by rw [Obj.data_mapFields d1]; simp [rawInt]⟩
theorem nx_end {I a : Addr} {i ep slot : Nat} {es : Array (Int × Value)} {t : SetTable} {Q : Option Value → Shared → Prop} (hh : A.handled = none) (hit : IsSI s.heap I (.int slot 0) i a es.size ep) (ha : SetAt s.heap a es ep t)
    (hN : ∀ (A : Around) (E : Value → Shared → Prop) (Q' : Option (Value × Nat) → Shared → Prop), Q' none s → wpAny (model prog w) A (setNext a slot i ep) Q' E s)
    (hQ : ∀ h', Heap.ExtBut I s.heap h' → Q none { s with heap := h' }) : wpAny (model prog w) A (pyNext (.ref I)) Q E s := by
  obtain ⟨o, ho, hc, hd⟩ := id hit
  obtain ⟨os, hos, hex, hds⟩ := ha.at_
  unfold pyNext
  refine wpAny_bind (wpAny_attempt (wpAny_callSpecial?_slot (name := Str.ofString "__next__") hit.typeIs sl_next (wpAny_call_entry sl_next hit.typeIs en_next ?_ (ar_next _))))
  unfold Builtin.«set_iterator.__next__»
  wp_walk
  rw [hd]
  refine wpAny_pure ?_
  dsimp only
  refine wpAny_bind (wpAny_setEntries_of hos hds ha.ft ?_)
  rw [if_neg (by simp)]
  refine wpAny_bind ?_
  refine hN _ _ _ ?_
  dsimp only
  refine wpAny_bind (wpAny_setField ho hd (by simp) ?_)
  refine wpAny_bind ?_
  simp only [newExc, newTuple]
  refine wpAny_bind (wpAny_newObj_type ?_ (by size_fits))
  refine wpAny_bind (m := firstArgMember _ _) (wpAny_of_eq (a := Value.none) (by first | rfl | (simp only [firstArgMember]; rfl)) ?_)
  refine wpAny_newObj_type ?_ (by size_fits)
  simp only [raiseNew]
  refine wpAny_bind (wpAny_handled ?_)
  first | rw [show A.in1.handled = none from hh] | rw [hh]
  refine wpAny_bind (wpAny_pure (wpAny_throw ?_))
  refine wpAny_bind (wpAny_isInstance (T := "StopIteration") (b := true) ⟨_, Heap.get?_push_size _ rfl, rfl⟩ (by rw [isSubtype_type]; kernel_rfl) ?_)
  exact wpAny_pure (hQ _ (((Heap.SameBut.update ..).extBut.push _).push _))
theorem sn_led {a : Addr} {ep slot given : Nat} {es : Array (Int × Value)} {t : SetTable} {Q : Option (Value × Nat) → Shared → Prop} (hb : w.params.followText "set-order" = false) (ha : SetAt s.heap a es ep t) (hp : t.plain = true) (hl : t.led = true)
    (h : Q (match es[SetTable.below t.place slot]?, t.place[SetTable.below t.place slot]? with | some (_, x), some j => some (x, j + 1) | _, _ => none) s) : wpAny (model prog w) A (setNext a slot given ep) Q E s := by
  obtain ⟨os, hos, hex, hds⟩ := ha.at_
  unfold setNext
  refine wpAny_bind (wpAny_setState_of hos hds ha.ft ?_)
  dsimp only
  unfold setsByText
  refine wpAny_bind (wpAny_bind (wpAny_askSetting (wpAny_pure ?_)))
  rw [show (model prog w).w.params.followText "set-order" = false from hb, if_neg Bool.false_ne_true]
  split
  · rename_i hdr
    exact absurd (show (!t.plain && decide (es.size > 1)) = true from hdr) (by rw [hp]; simp)
  · refine wpAny_bind ?_
    show wpAny (model prog w) A (if (!t.led && !es.isEmpty) = true then unsupported "set:maker-not-led" else pure ()) _ E s
    rw [if_neg (by rw [hl]; simp)]
    exact wpAny_pure (wpAny_pure h)
theorem sn_text {a : Addr} {ep slot given : Nat} {es : Array (Int × Value)} {t : SetTable} {Q : Option (Value × Nat) → Shared → Prop} (hb : w.params.followText "set-order" = true) (ha : SetAt s.heap a es ep t)
    (h : Q (((pickOrder (w.params.setOrder a ep) es)[given]?).map fun e => (e.2, slot)) s) : wpAny (model prog w) A (setNext a slot given ep) Q E s := by
  obtain ⟨os, hos, hex, hds⟩ := ha.at_
  unfold setNext
  refine wpAny_bind (wpAny_setState_of hos hds ha.ft ?_)
  dsimp only
  unfold setsByText
  refine wpAny_bind (wpAny_bind (wpAny_askSetting (wpAny_pure ?_)))
  rw [show (model prog w).w.params.followText "set-order" = true from hb, if_pos rfl, if_neg (by simp)]
  refine wpAny_bind ?_
  unfold setWalk
  refine wpAny_bind (wpAny_setState_of hos hds ha.ft ?_)
  dsimp only
  unfold setsByText
  refine wpAny_bind (wpAny_bind (wpAny_askSetting (wpAny_pure ?_)))
  rw [show (model prog w).w.params.followText "set-order" = true from hb, if_pos rfl]
  refine wpAny_bind (wpAny_askSetting (wpAny_pure ?_))
  exact wpAny_pure h
theorem pick_perm {α : Type} (next : Nat → Nat) (xs : Array α) : (pickOrder next xs).toList.Perm xs.toList := by
  unfold pickOrder
  have go : ∀ (n k : Nat) (left : List α) (out : Array α), left.length = n → (pickOrder.go next n k left out).toList.Perm (out.toList ++ left) := fun n => by
    induction n with
    | zero =>
      intro k left out hl
      rw [List.length_eq_zero_iff.mp hl, List.append_nil]
      exact List.Perm.refl _
    | succ n ih =>
      intro k left out hl
      have hi : next k % left.length < left.length := Nat.mod_lt _ (by omega)
      unfold pickOrder.go
      rw [List.getElem?_eq_getElem hi]
      dsimp only
      refine (ih (k + 1) _ _ (by rw [List.length_eraseIdx, if_pos hi]; omega)).trans ?_
      rw [Array.toList_push, List.append_assoc]
      refine List.Perm.append_left _ ?_
      have sp : left = left.take (next k % left.length) ++ left[next k % left.length] :: left.drop (next k % left.length + 1) := by rw [← List.drop_eq_getElem_cons hi, List.take_append_drop]
      have pm := (List.perm_middle (a := left[next k % left.length]) (l₁ := left.take (next k % left.length)) (l₂ := left.drop (next k % left.length + 1))).symm
      rw [← sp, ← List.eraseIdx_eq_take_drop_succ] at pm
      exact pm
  have := go xs.size 0 xs.toList #[] (by simp)
  simpa using this
theorem it_led {a : Addr} {ep : Nat} {es : Array (Int × Value)} {t : SetTable} {Q : Value → Shared → Prop} (ha : SetAt s.heap a es ep t) (hp : t.plain = true)
    (hQ : Q (.ref s.heap.objs.size) { s with heap := s.heap.push { cls := .type "set_iterator", data := .fields #[.int 0 0, .int 0 0, .ref a, .int es.size 0, .int ep 0] } }) : wpAny (model prog w) A (pyIter (.ref a)) Q E s := by
  obtain ⟨os, hos, hex, hds⟩ := ha.at_
  have hT : s.TypeIs (.ref a) "set" := ⟨os, hos, hex.1⟩
  refine wpAny_pyIter_slot hT PySem.F.slot_set_iter (wpAny_call_entry PySem.F.slot_set_iter hT en_iter ?_ (PySem.F.args_set_iter_1 _))
  unfold Builtin.«frozenset.__iter__»
  wp_walk
  have nf : ¬ (t.place.size != es.size || decide (t.fill > t.mask)) = true := by
    have hf := ha.ft
    simp only [SetTable.fits, Bool.and_eq_true, beq_iff_eq, decide_eq_true_eq] at hf
    simp [hf.1, Nat.not_lt.mpr hf.2]
  rw [hds]
  dsimp only
  rw [if_neg nf]
  refine wpAny_pure (wpAny_pure (wpAny_pure ?_))
  refine wpAny_bind ?_
  unfold setDrawn
  refine wpAny_bind (wpAny_setState_of hos hds ha.ft ?_)
  dsimp only
  unfold setsByText
  refine wpAny_bind (wpAny_bind (wpAny_askSetting (wpAny_pure ?_)))
  refine wpAny_pure ?_
  split
  · rename_i hdr
    have hdr : (!(w.params.followText "set-order") && (!t.plain && decide (es.size > 1))) = true := hdr
    rw [hp] at hdr
    simp at hdr
  · refine wpAny_bind (wpAny_pure ?_)
    refine wpAny_bind (wpAny_setEpoch_of hos hds ha.ft ?_)
    exact wpAny_bind (wpAny_newObj_type (wpAny_pure ⟨_, rfl, "set_iterator", _, ⟨_, Heap.get?_push_size _ rfl, rfl⟩, sl_next.lookup, hQ⟩))
theorem SetAt.at' {h h' : Heap} {a : Addr} {es : Array (Int × Value)} {ep : Nat} {t : SetTable} (x : SetAt h a es ep t) (k : ∀ o, h.get? a = some o → h'.get? a = some o) : SetAt h' a es ep t := let ⟨o, h1, h2⟩ := x.at_; ⟨⟨o, k o h1, h2⟩, x.ft⟩
theorem IsSI.at' {h h' : Heap} {I : Addr} {first : Value} {i a n ep : Nat} (x : IsSI h I first i a n ep) (k : ∀ o, h.get? I = some o → h'.get? I = some o) : IsSI h' I first i a n ep := let ⟨o, h1, h2⟩ := x; ⟨o, k o h1, h2⟩
end
structure Way (prog : Program) (w : World) (a : Addr) (es : Array (Int × Value)) (ep : Nat) (t : SetTable) (so : Nat → Nat) (vs : Array (Int × Value)) : Prop where
  pm : vs.toList.Perm es.toList
  s0 : so 0 = 0
  item : ∀ (s : Shared) (A : Around) (E : Value → Shared → Prop) (Q : Option (Value × Nat) → Shared → Prop) (i : Nat) (e : Int × Value), SetAt s.heap a es ep t → vs[i]? = some e → Q (some (e.2, so (i + 1))) s → wpAny (model prog w) A (setNext a (so i) i ep) Q E s
  fin : ∀ (s : Shared) (A : Around) (E : Value → Shared → Prop) (Q : Option (Value × Nat) → Shared → Prop), SetAt s.heap a es ep t → Q none s → wpAny (model prog w) A (setNext a (so es.size) es.size ep) Q E s
theorem Way.walks {prog : Program} {w : World} {A : Around} (hh : A.handled = none) {a : Addr} {es : Array (Int × Value)} {ep : Nat} {t : SetTable} {so : Nat → Nat} {vs : Array (Int × Value)} (W : Way prog w a es ep t so vs) (I : Addr) (hne : a ≠ I) (self : ∀ (s : Shared) (Q : Value → Shared → Prop) (E : Value → Shared → Prop) (i : Nat), IsSI s.heap I (.int (so i) 0) i a es.size ep → Q (.ref I) s → wpAny (model prog w) A (pyIter (.ref I)) Q E s) :
    Walks prog w A I [I, a] [I] es.size (fun i v => (vs[i]?).map (·.2) = some v) (fun i h => IsSI h I (.int (so i) 0) i a es.size ep ∧ SetAt h a es ep t) where
  sub := fun b hb => by simp at hb; simp [hb]
  frame := fun _ _ _ st hk => ⟨st.1.at' fun o e => hk I (by simp) o e, st.2.at' fun o e => hk a (by simp) o e⟩
  item := fun i s Q E hi st hQ => by
    have hl : vs.size = es.size := by rw [← Array.length_toList, W.pm.length_eq, Array.length_toList]
    have hv : vs[i]? = some vs[i] := by simp [hl, hi]
    refine nx_item st.1 st.2 (x := vs[i].2) (nx := so (i + 1)) (fun A E Q' q => W.item s A E Q' i _ st.2 hv q) fun h' hit' hs' => ?_
    refine hQ _ h' s.toks (by rw [hv]; rfl) ⟨hit', st.2.at' fun o e => hs'.extBut a o (fun z => hne z) e⟩ fun b o hb e => hs'.extBut b o (fun z => hb (by simp [z])) e
  done := fun s Q E st hQ => nx_end hh st.1 st.2 (fun A E Q' q => W.fin s A E Q' st.2 q) fun h' he' => hQ h' s.toks fun b o hb e => he' b o (fun z => hb (by simp [z])) e
  self := fun i s Q E st hQ => self s Q E i st.1 hQ
theorem way_text {prog : Program} {w : World} (hb : w.params.followText "set-order" = true) (a : Addr) (es : Array (Int × Value)) (ep : Nat) (t : SetTable) : Way prog w a es ep t (fun _ => 0) (pickOrder (w.params.setOrder a ep) es) where
  pm := pick_perm _ _
  s0 := rfl
  item := fun s A E Q i e ha hv q => sn_text hb ha (by rw [hv]; exact q)
  fin := fun s A E Q ha q => sn_text hb ha (by
    have hl : (pickOrder (w.params.setOrder a ep) es).size = es.size := by rw [← Array.length_toList, (pick_perm _ _).length_eq, Array.length_toList]
    rw [Array.getElem?_eq_none (by omega)]; exact q)
theorem way_led {prog : Program} {w : World} (hb : w.params.followText "set-order" = false) (a : Addr) (es : Array (Int × Value)) (ep : Nat) (t : SetTable) (hp : t.plain = true) (hl : t.led = true) (hz : t.place.size = es.size) (so : Nat → Nat) (s0 : so 0 = 0) (hs : ∀ i, i < t.place.size → so (i + 1) = t.place.getD i 0 + 1) (hbel : ∀ i, i ≤ t.place.size → SetTable.below t.place (so i) = i) : Way prog w a es ep t so es where
  pm := List.Perm.refl _
  s0 := s0
  item := fun s A E Q i e ha hv q => sn_led hb ha hp hl (by
    have hi : i < es.size := by
      by_cases z : i < es.size
      · exact z
      · rw [Array.getElem?_eq_none (by omega)] at hv; cases hv
    rw [hbel i (by omega), hv, show t.place[i]? = some (t.place.getD i 0) by simp [Array.getD, show i < t.place.size by omega]]
    dsimp only
    rw [← hs i (by omega)]
    exact q)
  fin := fun s A E Q ha q => sn_led hb ha hp hl (by
    rw [hbel es.size (by omega), Array.getElem?_eq_none (Nat.le_refl _)]
    exact q)
end Zt
namespace Zt
open PySem
section
variable {prog : Program} {w : World} {A : Around} {E : Value → Shared → Prop} {s : Shared}
end
end Zt
namespace Zt
open PySem
section
variable {prog : Program} {w : World} {A : Around} {E : Value → Shared → Prop} {s : Shared}
structure TS (prog : Program) (w : World) (h : Heap) (a : Addr) (es : Array (Int × Value)) (ep : Nat) (t : SetTable) (ps : List (List Int × Addr)) : Prop where
  at_ : SetAt h a es ep t
  tab : Tab t
  ent : es.toList = ps.map fun p => (tupleKeyHash (intKind prog w) p.1, Value.ref p.2)
  key : ∀ p ∈ ps, IsTupleKey (intKind prog w) h p.1 p.2
  nd : (ps.map (·.1)).Nodup
  rch : ∀ (i j : Nat) (e : Int × Value), t.place[i]? = some j → es[i]? = some e → Rch t j e.1
  mks : t.mask = 7 ∨ t.mask = 31 ∨ t.mask = 127 ∨ t.mask = 511 ∨ t.mask = 2047
  few : t.place.size * 5 < t.mask * 3
variable {a : Addr} {es : Array (Int × Value)} {ep : Nat} {t : SetTable} {ps : List (List Int × Addr)}
theorem TS.size (x : TS prog w s.heap a es ep t ps) : es.size = ps.length := by rw [← Array.length_toList, x.ent, List.length_map]
end
end Zt
namespace Zt
open PySem
def Sm (m : Nat) : List Nat := (List.range 6).filter m.testBit
def so (m i : Nat) : Nat := match i with
  | 0 => 0
  | i + 1 => (Sm m).toArray.getD i 0 + 1
def EsOk (es : Array (Int × Value)) (S : List Nat) : Prop := ∃ tks : List Tok, tks.length = S.length ∧ es.toList = List.zipWith (fun (v : Nat) (tk : Tok) => ((v : Int), Value.int (v : Int) tk)) S tks
theorem EsOk.size {es : Array (Int × Value)} {S : List Nat} (h : EsOk es S) : es.size = S.length := by
  obtain ⟨tks, hl, e⟩ := h
  rw [← Array.length_toList, e, List.length_zipWith, hl, Nat.min_self]
theorem zip_mem {S : List Nat} {e : Int × Value} : ∀ {tks : List Tok}, e ∈ List.zipWith (fun (v : Nat) (tk : Tok) => ((v : Int), Value.int (v : Int) tk)) S tks → ∃ v ∈ S, ∃ tk, e = ((v : Int), .int v tk) := by
  induction S with
  | nil => intro tks h; cases tks <;> cases h
  | cons x S ih =>
    intro tks h
    cases tks with
    | nil => cases h
    | cons t tks =>
      rcases List.mem_cons.mp h with z | z
      · exact ⟨x, .head _, t, z⟩
      · obtain ⟨v, hv, r⟩ := ih z
        exact ⟨v, .tail _ hv, r⟩
theorem SetAt.store {h : Heap} {a : Addr} {es es' : Array (Int × Value)} {ep : Nat} {t t' : SetTable} (x : SetAt h a es ep t) (hf : t'.fits es'.size = true) : SetAt (h.update a (Obj.putSet es' t')) a es' (ep + 1) t' := by
  obtain ⟨o, ho, hex, hd⟩ := x.at_
  have hg := Heap.get?_update_self (Obj.putSet es' t') ho (by rw [putSet_of es' t' hd]; rfl)
  rw [putSet_of es' t' hd] at hg
  exact ⟨⟨_, hg, hex, rfl⟩, hf⟩
section
variable {prog : Program} {w : World} {A : Around} {E : Value → Shared → Prop} {s : Shared}
end
section
variable {prog : Program} {w : World} {A : Around} {R : Result → Shared → Prop} {I : Addr} {fp wr : List Addr} {n : Nat} {P : Nat → Value → Prop} {St : Nat → Heap → Prop}
end
end Zt
namespace Zt
open PySem
section
variable {prog : Program} {w : World} {A : Around} {E : Value → Shared → Prop} {s : Shared} {a : Addr} {es : Array (Int × Value)} {ep : Nat} {t : SetTable} {ps : List (List Int × Addr)}
end
end Zt
namespace Zt
open PySem
theorem good_mk {t : SetTable} (h : t.mask = 7 ∨ t.mask = 31 ∨ t.mask = 127 ∨ t.mask = 511 ∨ t.mask = 2047) : goodM (t.mask + 1) = true := by
  rcases h with h | h | h | h | h <;> rw [h]
  · exact good_8
  · exact good_32
  · exact good_128
  · exact good_512
  · exact good_2048
section
variable {prog : Program} {w : World} {A : Around} {E : Value → Shared → Prop} {s : Shared} {a : Addr} {es : Array (Int × Value)} {ep : Nat} {t : SetTable} {ps : List (List Int × Addr)}
end
end Zt
namespace Zt
open PySem
section
variable {prog : Program} {w : World} {A : Around} {E : Value → Shared → Prop} {s : Shared}
def ledOf (w : World) : Bool := !w.params.followText "set-order"
theorem set_new (a : Value) {Q : Value → Shared → Prop} (h : Q (.ref s.heap.objs.size) { s with heap := s.heap.push { cls := .type "set", dict := none, data := .set #[] 0 (.fresh 0 0 (ledOf w)) } }) : codeAny (model prog w) A (.call (.builtin "set.__new__") ⟨[.type "set", a], []⟩) (wants Q E) s := by
  refine codeAny_of_tree (by
    show wpAny _ A.in1 (do checkBuiltinCall "set.__new__" ⟨[.type "set", a], []⟩; again (.builtin "set.__new__" ⟨[.type "set", a], []⟩)) _ _ s
    refine wpAny_bind (wpAny_of_eq (PySem.F.newCall_set_1 a) (wpAny_pure ⟨plainId_quiet F.plain_set_new _, codeAny_builtin F.entry_set_new ?_⟩))
    rw [Around.under_plainId F.plain_set_new _]; unfold Builtin.«set.__new__» Builtin.Frozenset.newClass
    have hsub := sub_set_self; obtain ⟨hp, g, d, tk, os⟩ := s
    dsimp only; wp_walk
    refine wpAny_askSetting (wpAny_pure ?_); dsimp only
    simp only [newObj]; refine wpAny_bind (wpAny_alloc (wpAny_pure ?_))
    exact wpAny_pure h)
end
end Zt
namespace Zt
open PySem
section
variable {prog : Program} {w : World} {s : Shared} {a : Addr} {es : Array (Int × Value)} {ep : Nat} {t : SetTable} {ps : List (List Int × Addr)}
theorem tab_new (led : Bool) : Tab (SetTable.fresh 0 0 led) := ⟨by simp [SetTable.fresh], by simp [SetTable.fresh], rfl, good_8, rfl, by show 7 % 2 = 1; decide⟩
variable {A : Around} {R : Result → Shared → Prop} {I : Addr} {fp wr : List Addr} {n : Nat} {P : Nat → Value → Prop} {St : Nat → Heap → Prop}
end
end Zt
namespace Zt
open PySem
section
variable {prog : Program} {w : World} {A : Around} {E : Value → Shared → Prop} {s : Shared}
end
end Zt
namespace Zt
open PySem
theorem sl_iter : Slot "set_iterator" "__iter__" "set_iterator.__iter__" :=
  .of (owner := "set_iterator") (n := "__iter__") (by rw [typeLookup_type, builtinLookup_eq_fast]; kernel_rfl) (by decide +kernel) (by decide +kernel) (by decide +kernel) (by first | exact .inl (by decide +kernel) | exact .inr (by decide +kernel)) (by rw [isSubtype_type]; kernel_rfl)
theorem en_si : entryFor table "set_iterator.__iter__" = some Builtin.«dict_keyiterator.__iter__» := entryFor_alias (id' := "dict_keyiterator.__iter__") (by kernel_rfl) (by first | rfl | decide +kernel | (unfold String.splitOn; simp +decide [String.splitOnAux])) (by decide +kernel) (by kernel_rfl)
theorem ar_si (a : Value) : argsOk "set_iterator.__iter__" ⟨[a], []⟩ := by
  unfold argsOk; rw [signature?_of (id := "set_iterator.__iter__") (n := ['_', '_', 'r', 'e', 't', 'i', '_', '_']) (o := ['r', 'o', 't', 'a', 'r', 'e', 't', 'i', '_', 't', 'e', 's']) (by kernel_rfl) ow_si]; kernel_rfl
theorem len_set : typeLookup (.type "set") "__len__" = pure (some (.builtin "set.__len__")) := by rw [typeLookup_type, builtinLookup_eq_fast]; kernel_rfl
section
variable {prog : Program} {w : World} {A : Around} {E : Value → Shared → Prop} {s : Shared}
theorem si_self {I a : Addr} {first : Value} {i n ep : Nat} {Q : Value → Shared → Prop} (hit : IsSI s.heap I first i a n ep) (h : Q (.ref I) s) : wpAny (model prog w) A (pyIter (.ref I)) Q E s := by
  refine wpAny_pyIter_slot hit.typeIs sl_iter (wpAny_call_entry sl_iter hit.typeIs en_si ?_ (ar_si _))
  show wpAny _ _ (ret (.ref I)) _ _ s
  exact wpAny_pure ⟨_, rfl, "set_iterator", _, hit.typeIs, sl_next.lookup, h⟩
theorem collect_way {a : Addr} {es vs : Array (Int × Value)} {ep : Nat} {t : SetTable} {so : Nat → Nat} {Q : List Value → Shared → Prop} (hh : A.handled = none) (W : Way prog w a es ep t so vs) (ha : SetAt s.heap a es ep t) (hp : t.plain = true) (hn : es.size ≤ sizeLine)
    (hQ : ∀ (h' : Heap) (tk : Nat), (∀ b o, s.heap.get? b = some o → h'.get? b = some o) → Q (vs.toList.map (·.2)) { s with heap := h', toks := tk }) : wpAny (model prog w) A (collect (.ref a)) Q E s := by
  have hlt : a < s.heap.objs.size := let ⟨o, ho, _⟩ := ha.at_; Heap.lt_size ho
  unfold collect
  refine wpAny_bind (wpAny_runValue (codeAny_builtin F.entry_proto_collect ?_))
  rw [Around.under_plainId F.plain_proto_collect _]
  show wpAny _ A.in1 (newList [] >>= fun l => again (.builtin "list.__iadd__" ⟨[l, .ref a], []⟩)) _ _ s
  refine wpAny_bind (wpAny_newObj_type (wpAny_pure ⟨plainId_quiet F.plain_list_iadd _, codeAny_builtin F.entry_list_iadd ?_⟩))
  rw [Around.under_plainId F.plain_list_iadd _]
  generalize hH : s.heap.push { cls := .type "list", data := .seq ([] : List Value).toArray } = H
  have hHs : H.objs.size = s.heap.objs.size + 1 := by rw [← hH, Heap.size_push]
  have keep : ∀ b o, s.heap.get? b = some o → H.get? b = some o := fun b o e => hH ▸ Heap.get?_push_of_some _ e
  have hS : H.get? s.heap.objs.size = some { cls := .type "list", data := .seq ([] : List Value).toArray } := hH ▸ Heap.get?_push_size _ rfl
  have ha1 : SetAt H a es ep t := ha.at' fun o e => keep a o e
  have hT : Shared.TypeIs { s with heap := H } (.ref a) "set" := let ⟨o, ho, hx, _⟩ := ha1.at_; ⟨o, ho, hx.1⟩
  show wpAny _ A.in1 (Builtin.List.listExtendWith (.ref s.heap.objs.size) (.ref a) (.ref s.heap.objs.size)) _ _ { s with heap := H }
  unfold Builtin.List.listExtendWith
  refine wpAny_bind (wpAny_typeOf hT ?_)
  have h1 : Builtin.List.listSameRef (.ref s.heap.objs.size) (.ref a) = false := by simp [Builtin.List.listSameRef, Nat.ne_of_gt hlt]
  have h2 : (Value.type "set" == Value.type "list") = false := by decide
  have h3 : (Value.type "set" == Value.type "tuple") = false := by decide
  simp only [h1, h2, h3, Bool.or_false, Bool.false_eq_true, if_false]
  refine wpAny_bind (it_led ha1 hp ?_)
  generalize hH2 : Heap.push H { cls := .type "set_iterator", data := .fields #[.int 0 0, .int 0 0, .ref a, .int es.size 0, .int ep 0] } = H2
  have keep2 : ∀ b o, H.get? b = some o → H2.get? b = some o := fun b o e => hH2 ▸ Heap.get?_push_of_some _ e
  have hT2 : Shared.TypeIs { s with heap := H2 } (.ref a) "set" := let ⟨o, ho, hc⟩ := hT; ⟨o, keep2 a o ho, hc⟩
  have hI : IsSI H2 H.objs.size (.int (so 0) 0) 0 a es.size ep := ⟨_, hH2 ▸ Heap.get?_push_size _ rfl, rfl, by rw [W.s0]; rfl⟩
  refine wpAny_bind (wpAny_holding ?_)
  show wpAny _ A.in1 _ _ _ { s with heap := H2 }
  unfold Builtin.List.listLengthHint
  refine wpAny_bind (wpAny_specialOf hT2 len_set ?_)
  wp_delta
  refine wpAny_bind (wpAny_isInstance (b := true) hT2 (by rw [isSubtype_type]; kernel_rfl) ?_)
  show wpAny _ A.in1 (typeOf (Value.ref a) >>= _) _ _ _
  refine wpAny_bind (wpAny_typeOf hT2 (wpAny_pure ?_))
  show wpAny _ A.in1 (rule "list.extend.makes-room" >>= fun _ => Builtin.List.listTouch (.ref s.heap.objs.size) >>= fun _ => again (.builtin "list.extend.loop" ⟨[.ref s.heap.objs.size, .ref H.objs.size, .ref s.heap.objs.size], []⟩)) _ _ _
  refine wpAny_bind (wpAny_rule (wpAny_bind ?_))
  show wpAny _ A.in1 (updateSeq s.heap.objs.size (·.push .none) >>= fun _ => updateSeq s.heap.objs.size (·.pop)) _ _ _
  have hS1 := keep2 _ _ hS
  refine wpAny_bind (wpAny_updateSeq hS1 rfl ?_)
  have hS2 := Heap.get?_update_self (Obj.mapSeq (·.push Value.none)) hS1 rfl
  refine wpAny_updateSeq hS2 rfl ?_
  have hS3 := Heap.get?_update_self (Obj.mapSeq (·.pop)) hS2 rfl
  generalize hH3 : (H2.update s.heap.objs.size (Obj.mapSeq (·.push Value.none))).update s.heap.objs.size (Obj.mapSeq (·.pop)) = H3 at hS3 ⊢
  have oth : ∀ b o, b ≠ s.heap.objs.size → H2.get? b = some o → H3.get? b = some o := fun b o hb e => hH3 ▸ (Heap.get?_update_other _ _ (Ne.symm hb)).trans ((Heap.get?_update_other _ _ (Ne.symm hb)).trans e)
  have hIS : H.objs.size ≠ s.heap.objs.size := by omega
  have hne : a ≠ H.objs.size := by rw [hHs]; exact Nat.ne_of_lt (Nat.lt_succ_of_lt hlt)
  have hSf : s.heap.objs.size ∉ [H.objs.size, a] := by simp only [List.mem_cons, List.not_mem_nil, or_false, not_or]; exact ⟨by omega, Nat.ne_of_gt hlt⟩
  have WW := (Way.walks (A := A.in1) hh W H.objs.size hne fun s Q E i st q => si_self st q).toS
  refine wpAny_pure ⟨plainId_quiet F.plain_extend_loop _, codeAny_extend_loopS WW hn _ hSf _ es.size 0 { s with heap := H3 } _ _ rfl (Nat.zero_le _) ⟨hI.at' fun o e => oth _ o hIS e, ha1.at' fun o e => oth a o (Nat.ne_of_lt hlt) (keep2 a o e)⟩ hS3 (ItemsOf.nil _) fun s' acc' c' hm hS' hacc => ?_⟩
  show wpAny _ A (load s.heap.objs.size >>= _) _ _ s'
  refine wpAny_bind (wpAny_load hS' (wpAny_pure ?_))
  have hl : vs.size = es.size := by rw [← Array.length_toList, W.pm.length_eq, Array.length_toList]
  have he : acc'.toList = vs.toList.map (·.2) := by
    apply List.ext_getElem?
    intro j
    rw [List.getElem?_map, Array.getElem?_toList, Array.getElem?_toList]
    by_cases z : j < acc'.size
    · have := hacc.2 j acc'[j] (by simp [z])
      rw [this]; simp [z]
    · rw [Array.getElem?_eq_none (by omega), Array.getElem?_eq_none (by have := hacc.1; omega)]; rfl
  show Q acc'.toList s'
  rw [he]
  have es' : s' = { s with heap := s'.heap, toks := s'.toks } := by
    obtain ⟨hp', g', d', tk', os'⟩ := s'
    have e1 := hm.gens; have e2 := hm.drawn; have e3 := hm.os
    simp only at e1 e2 e3
    rw [e1, e2, e3]
  rw [es']
  refine hQ _ _ fun b o e => ?_
  have hb := Heap.lt_size e
  refine hm.heap b o ?_ (oth b o (Nat.ne_of_lt hb) (keep2 b o (keep b o e)))
  simp only [List.mem_cons, List.not_mem_nil, or_false, not_or]; exact ⟨Nat.ne_of_lt hb, by rw [hHs]; exact Nat.ne_of_lt (Nat.lt_succ_of_lt hb)⟩
end
end Zt
namespace Zt
open PySem PyProof.Rows PySem.W PySem.Calls Rs
section
variable {prog : Program} {w : World} {A : Around} {E : Value → Shared → Prop} {s : Shared}
end
end Zt
namespace L2
open PySem PySem.Spec PyProof.Rows Zt
section
variable {X : Cx}
end
end L2
namespace Dl
open PySem PySem.Spec PyProof.Rows L2 _root_.Rd Rk Zt
section
variable {X : Cx} {E : XK}
end
end Dl
namespace L2
open PySem PySem.Spec PySem.Calls PyProof.Rows _root_.Rd _root_.Rk _root_.Rs Rt Dl
section
variable {X : Cx}
end
end L2
namespace Zt
open PySem
section
variable {prog : Program} {w : World} {A : Around} {E : Value → Shared → Prop} {s : Shared}
theorem way_tab {a : Addr} {es : Array (Int × Value)} {ep : Nat} {t : SetTable} (hs : SetAt s.heap a es ep t) (T : Tab t) (hl : t.led = ledOf w) : ∃ so vs, Way prog w a es ep t so vs := by
  have hz : t.place.size = es.size := by
    have := hs.ft
    unfold SetTable.fits at this
    exact eq_of_beq (Bool.and_eq_true_iff.mp this).1
  cases hb : w.params.followText "set-order" with
  | true => exact ⟨_, _, way_text hb a es ep _⟩
  | false =>
    have hl : t.led = true := by rw [hl]; unfold ledOf; rw [hb]; rfl
    let so : Nat → Nat := fun i => match i with
      | 0 => 0
      | i + 1 => t.place.getD i 0 + 1
    refine ⟨so, es, way_led hb a es ep t T.pl hl hz so rfl (fun i hi => rfl) (fun i hi => ?_)⟩
    obtain ⟨b1, b2, b3⟩ := below_spec T.pw (so i)
    cases i with
    | zero =>
      cases hB : SetTable.below t.place (so 0) with
      | zero => rfl
      | succ k =>
        have := b2 0 (by omega) (by omega)
        exact absurd this (Nat.not_lt_zero _)
    | succ i =>
      have e : so (i + 1) = t.place[i] + 1 := by show t.place.getD i 0 + 1 = _; simp [Array.getD, show i < t.place.size by omega]
      rcases Nat.lt_trichotomy (SetTable.below t.place (so (i + 1))) (i + 1) with z | z | z
      · have h1 := b3 i (by omega) (by omega)
        omega
      · exact z
      · have hi2 : i + 1 < t.place.size := by omega
        have h1 := b2 (i + 1) hi2 z
        have := List.pairwise_iff_getElem.mp T.pw i (i + 1) (by simp; omega) (by simp; omega) (by omega)
        simp only [Array.getElem_toList] at this
        omega
end
end Zt
namespace Rk
open PySem PySem.Spec PyProof.Rows L2 _root_.Rd Dl Rt
theorem cm_any {items : List PyData} {wg : DG} {wt : DT} {we : DE} {δ : Sts} {Q : PyData → Prop} (G : PyData → PyData)
    (h : ∀ d ∈ items, ∀ (k1 : Prop) (k2 : PyData → Prop), k1 → k2 (G d) → wg d δ fun δ4 => wt δ4 (fun b => if b = true then we δ4 k2 XF else k1) XF) (q : ∀ p : Nat → Bool, Q (.list (((List.range items.length).filter p).map fun i => G (items.getD i .none)))) : CompR items wg wt we δ Q := by
  unfold CompR
  refine ⟨fun i acc => ∃ p : Nat → Bool, acc = ((List.range i).filter p).map fun i => G (items.getD i .none), ⟨fun _ => false, rfl⟩, fun i acc d hd ⟨p, e⟩ => ?_, fun acc ⟨p, e⟩ => by rw [e]; exact q p⟩
  have ed : items.getD i .none = d := by rw [List.getD_eq_getElem?_getD, hd]; rfl
  have same : ∀ b, (List.range i).filter (fun n => if n = i then b else p n) = (List.range i).filter p := fun b => List.filter_congr fun n hn => if_neg (by have := List.mem_range.mp hn; omega)
  refine h d (List.mem_of_getElem? hd) _ _ ⟨fun n => if n = i then false else p n, ?_⟩ ⟨fun n => if n = i then true else p n, ?_⟩
  · rw [List.range_succ, List.filter_append, same, List.filter_cons_of_neg (by simp), List.filter_nil, List.append_nil]; exact e
  · rw [List.range_succ, List.filter_append, same, List.filter_cons_of_pos (by simp), List.filter_nil, List.map_append, ← e]
    show acc ++ [G d] = acc ++ [G (items.getD i .none)]
    rw [ed]
def tN (ns : List Int) : PyData := .tuple (ns.map PyData.int)
end Rk
namespace L2
open PySem PySem.Spec PyProof.Rows Zt _root_.Rd _root_.Rk Dl Rt
section
variable {X : Cx}
end
end L2
namespace Dl
open PySem PySem.Spec PyProof.Rows L2 _root_.Rd Rk Zt Rt
section
variable {X : Cx} {E : XK}
end
end Dl
namespace Zt
open PySem
def entI (p : Int × Tok) : Int × Value := (hashInt p.1, Value.int p.1 p.2)
structure TIt (h : Heap) (a : Addr) (ps : List (Int × Tok)) (led : Bool) : Prop where
  ex : ∃ es ep t, SetAt h a es ep t ∧ Tab t ∧ t.led = led ∧ es.toList = ps.map entI ∧ (ps.map (·.1)).Nodup ∧ (t.mask = 7 ∨ t.mask = 31 ∨ t.mask = 127 ∨ t.mask = 511 ∨ t.mask = 2047) ∧ t.place.size * 5 < t.mask * 3
theorem TIt.at' {h h' : Heap} {a : Addr} {ps : List (Int × Tok)} {led : Bool} (x : TIt h a ps led) (k : ∀ o, h.get? a = some o → h'.get? a = some o) : TIt h' a ps led := by
  obtain ⟨es, ep, t, sa, r⟩ := x.ex
  exact ⟨es, ep, t, sa.at' k, r⟩
theorem ti_new {h : Heap} {a : Addr} {led : Bool} (ho : h.get? a = some { cls := .type "set", dict := none, data := .set #[] 0 (.fresh 0 0 led) }) : TIt h a [] led :=
  ⟨#[], 0, SetTable.fresh 0 0 led, ⟨⟨_, ho, ⟨rfl, rfl, rfl⟩, rfl⟩, by cases led <;> rfl⟩, tab_new _, rfl, rfl, List.nodup_nil, .inl rfl, by show 0 * 5 < 7 * 3; decide⟩
section
variable {prog : Program} {w : World} {A : Around} {E : Value → Shared → Prop} {s : Shared}
theorem place_es {t : SetTable} {n : Nat} (h : t.fits n = true) : t.place.size = n := by
  unfold SetTable.fits at h
  exact eq_of_beq (Bool.and_eq_true_iff.mp h).1
theorem free_int {t : SetTable} (T : Tab t) (hm : t.mask = 7 ∨ t.mask = 31 ∨ t.mask = 127 ∨ t.mask = 511 ∨ t.mask = 2047) (hs : t.place.size ≤ t.mask) (h : Int) : ∃ j, t.freeSlot h = some (j, false) ∧ j ∉ t.place.toList ∧ j ≤ t.mask := by
  obtain ⟨j0, hj0, hj1⟩ := T.room hs
  obtain ⟨n, hn, en⟩ := start_meet t (good_mk hm) h hj0
  obtain ⟨k, _, q⟩ := go_meet T (fun _ => h + 1) h n (10 * SetTable.turns t.mask) (t.probeStart h) hn (by rw [en]; exact T.slot_no hj1) rfl
  rcases q with ⟨q1, q2⟩ | ⟨_, i, _, _, q3⟩
  · refine ⟨_, ?_, T.slot_e q2, stps_le t h k⟩
    unfold SetTable.freeSlot
    rw [show t.probe (fun _ => h + 1) h (t.probeStart h) = some (.empty (stps t k (t.probeStart h)).j none) from q1]
    rfl
  · have q3 : h + 1 = h := q3
    omega
theorem add_int {a : Addr} {ps : List (Int × Tok)} {led : Bool} {k : Int} {tk : Tok} {Q : Bool → Shared → Prop} (x : TIt s.heap a ps led) (hl : ps.length < 1000)
    (h : ∀ h' b ps', Heap.SameBut a s.heap h' → TIt h' a ps' led → ((k ∈ ps.map (·.1) ∧ ps' = ps) ∨ (k ∉ ps.map (·.1) ∧ ps'.Perm ((k, tk) :: ps))) → Q b { s with heap := h' }) : wpAny (model prog w) A (setAddHashed a (.int k tk) (hashInt k)) Q E s := by
  obtain ⟨es, ep, t, sa, T, hled, ent, nd, mks, few⟩ := x.ex
  obtain ⟨o, ho, hex, hd⟩ := sa.at_
  have sz : es.size = ps.length := by rw [← Array.length_toList, ent, List.length_map]
  have psz : t.place.size = ps.length := by rw [place_es sa.ft, sz]
  have hel : ElemsOf (intKind prog w) es.toList := fun e he => by
    rw [ent] at he
    obtain ⟨p, hp, rfl⟩ := List.mem_map.mp he
    exact ⟨⟨p.1, intKind_is _ _ _ _, rfl⟩, rfl⟩
  have hb : es.size < scanBound := by unfold scanBound; omega
  unfold setAddHashed setAddHashedIn
  refine wpAny_holding (wpAny_bind (wpAny_setState_of ho hd sa.ft ?_))
  dsimp only
  rw [byScan_of (knd := intKind prog w) (x := .int k tk) rfl hb hel, if_pos rfl]
  unfold setAddByScan
  refine wpAny_bind (wpAny_bind (wpAny_rule (wpAny_bind (wpAny_setScan_of (knd := intKind prog w) (k := k) (intKind_is _ _ _ _) ho hd sa.ft hel ?_))))
  cases hr : List.findIdx? (fun e => (intKind prog w).is k e.2) es.toList with
  | some j =>
    obtain ⟨hj, hpj, _⟩ := List.findIdx?_eq_some_iff_getElem.mp hr
    have hin : ∀ e, e ∈ es.toList → e ∈ ps.map entI := fun e he => by rw [ent] at he; exact he
    obtain ⟨p, hp, ee⟩ := List.mem_map.mp (hin _ (List.getElem_mem hj))
    have hpj : (intKind prog w).is k (es.toList[j]).2 = true := hpj
    rw [← ee] at hpj
    have e2 : p.1 = k := (intKind prog w).inj (.int p.1 p.2) p.1 k (intKind_is _ _ _ _) hpj
    dsimp only
    refine wpAny_pure (wpAny_pure ?_)
    have e : s = { s with heap := s.heap } := by cases s; rfl
    rw [e]
    exact h s.heap false ps (Heap.SameBut.refl a s.heap) x (.inl ⟨List.mem_map.mpr ⟨p, hp, e2⟩, rfl⟩)
  | none =>
    have nk : k ∉ ps.map (·.1) := fun hk => by
      obtain ⟨p, hp, e⟩ := List.mem_map.mp hk
      have := List.findIdx?_eq_none_iff.mp hr (entI p) (by rw [ent]; exact List.mem_map.mpr ⟨p, hp, rfl⟩)
      rw [show (entI p).2 = Value.int k p.2 by rw [← e]; rfl, intKind_is] at this
      cases this
    obtain ⟨j, fj, hj, hjm⟩ := free_int T mks (by omega) (hashInt k)
    obtain ⟨T1, pl, m1, m2, m3, m4⟩ := T.put hj hjm
    have hle : (t.put j).2 ≤ t.place.toList.length := by
      rw [Array.length_toList]
      exact (below_spec T.pw j).1
    have hsz : (t.put j).1.place.size = ps.length + 1 := by
      rw [← Array.length_toList, pl, ← psz, ← Array.length_toList, List.length_append, List.length_cons, List.length_take, List.length_drop]
      omega
    have hent : (SetTable.insertAt es (t.put j).2 (hashInt k, Value.int k tk)).toList = (ps.take (t.put j).2 ++ (k, tk) :: ps.drop (t.put j).2).map entI := by
      rw [SetTable.toList_insertAt, ent, List.map_append, List.map_cons, List.map_take, List.map_drop]; rfl
    have hpm : (ps.take (t.put j).2 ++ (k, tk) :: ps.drop (t.put j).2).Perm ((k, tk) :: ps) := by
      refine List.perm_middle.trans ?_
      rw [List.take_append_drop]
    have hs1 : (SetTable.insertAt es (t.put j).2 (hashInt k, Value.int k tk)).size = ps.length + 1 := by
      rw [← Array.length_toList, hent, List.length_map, hpm.length_eq, List.length_cons]
    have hfew : (t.put j).1.place.size ≤ (t.put j).1.mask := by rw [hsz, m1, ← psz]; omega
    have ft : (t.put j).1.fits (SetTable.insertAt es (t.put j).2 (hashInt k, Value.int k tk)).size = true := by
      unfold SetTable.fits SetTable.fill
      rw [m4, hsz, hs1]
      rw [hsz] at hfew
      simp [hfew]
    have hnd : ((ps.take (t.put j).2 ++ (k, tk) :: ps.drop (t.put j).2).map (·.1)).Nodup := (hpm.map (·.1)).nodup_iff.mpr (by rw [List.map_cons]; exact List.nodup_cons.mpr ⟨nk, nd⟩)
    have hfill : (t.put j).1.fill = ps.length + 1 := by unfold SetTable.fill; rw [m4, hsz]; rfl
    have lay : layNew t es (hashInt k) (.int k tk) = (SetTable.insertAt es (t.put j).2 (hashInt k, .int k tk), (t.put j).1, false, false) := by
      unfold layNew
      rw [fj]
      dsimp only
      unfold SetTable.orStandIn
      rw [ft]
      rfl
    have sa1 := sa.store ft
    generalize hpt : t.put j = pt at *
    obtain ⟨t1, p1⟩ := pt
    dsimp only at *
    generalize he1 : SetTable.insertAt es p1 (hashInt k, Value.int k tk) = es1 at *
    generalize hq1 : ps.take p1 ++ (k, tk) :: ps.drop p1 = ps1 at *
    have lp1 : ps1.length = ps.length + 1 := by rw [hpm.length_eq, List.length_cons]
    rw [lay]
    dsimp only
    refine wpAny_bind (wpAny_of_eq (a := ()) rfl ?_)
    rw [if_pos T1.pl, hashByValue_scannable 8 (x := .int k tk) rfl]
    refine wpAny_bind (wpAny_pure ?_)
    have pk : plainKind (.int k tk) = true := rfl
    simp only [pk, if_true]
    have sb1 := Heap.SameBut.update s.heap a (Obj.putSet es1 t1)
    refine wpAny_bind (wpAny_storeSet_of ho hd ?_ (by rw [hs1, sizeLine_eq]; omega))
    by_cases z : t1.tooFull = true
    · rw [if_pos (by rw [z]; rfl)]
      have z' : t1.fill * 5 ≥ t1.mask * 3 := of_decide_eq_true z
      rw [hfill, m1] at z'
      obtain ⟨m, hw, hm, hf⟩ : ∃ m, SetTable.sizeAbove (SetTable.grown (ps.length + 1)) = m + 1 ∧ (m = 7 ∨ m = 31 ∨ m = 127 ∨ m = 511 ∨ m = 2047) ∧ (ps.length + 1) * 5 < m * 3 := by
        rcases mks with e | e | e | e | e
        · have : ps.length = 4 := by omega
          rw [this]; exact ⟨31, by decide, by decide, by decide⟩
        · have : ps.length = 18 := by omega
          rw [this]; exact ⟨127, by decide, by decide, by decide⟩
        · have : ps.length = 76 := by omega
          rw [this]; exact ⟨511, by decide, by decide, by decide⟩
        · have : ps.length = 306 := by omega
          rw [this]; exact ⟨2047, by decide, by decide, by decide⟩
        · omega
      have hg : goodM (m + 1) = true := good_mk (t := tM m) hm
      obtain ⟨t2, order, el, T2, n1, n2, n3, n4⟩ := laid_ok (finger := t1.finger) (moves := t1.movedTo m) (led := t1.led) hg (by omega) (es1.map (·.1)) (by rw [Array.size_map, hs1]; omega)
      rw [Array.size_map] at n3 n4
      have pe := order_perm (es := es1) n4
      have sz2 : (order.filterMap (es1[·]?)).size = es1.size := by rw [← Array.length_toList, pe.length_eq, Array.length_toList]
      have erl : t1.relaid (es1.map (·.1)) (SetTable.grown es1.size) = some (t2, order) := by
        unfold SetTable.relaid
        rw [hs1, hw, Nat.add_sub_cancel, T1.pl]
        exact el
      have fit : t2.fits (order.filterMap (es1[·]?)).size = true := by
        unfold SetTable.fits SetTable.fill
        rw [T2.dm, n3, sz2, hs1, n1]
        simp
        omega
      have rl : relayAll t1 es1 (SetTable.grown es1.size) = (order.filterMap (es1[·]?), t2, false) := by
        unfold relayAll
        rw [erl]
        dsimp only
        rw [fit, show coversAll order es1.size = true from List.isPerm_iff.mpr n4]
        rfl
      rw [rl]
      dsimp only
      refine wpAny_bind (wpAny_of_eq (a := ()) rfl ?_)
      obtain ⟨o1, ho1, hex1, hd1⟩ := sa1.at_
      refine wpAny_bind (wpAny_storeSet_of ho1 hd1 ?_ (by rw [sz2, hs1, sizeLine_eq]; omega))
      refine wpAny_pure ?_
      dsimp only
      obtain ⟨ps2, pp, e2⟩ : ∃ ps2 : List (Int × Tok), ps2.Perm ps1 ∧ (order.filterMap (es1[·]?)).toList = ps2.map entI := by
        rw [hent] at pe
        obtain ⟨T', p', e'⟩ := Rt.perm_map_inv entI pe (T := ps1) rfl
        exact ⟨T', p', e'⟩
      exact wpAny_pure (h _ _ ps2 (sb1.trans (Heap.SameBut.update _ a _)) ⟨_, _, t2, sa1.store fit, T2, n2.trans (m2.trans hled), e2, (pp.map (·.1)).nodup_iff.mpr hnd, by rw [n1]; exact hm, by rw [n3, hs1, n1]; exact hf⟩ (.inr ⟨nk, pp.trans hpm⟩))
    · rw [if_neg (by rw [Bool.eq_false_iff.mpr z]; decide)]
      have z' : ¬ t1.fill * 5 ≥ t1.mask * 3 := fun c => z (decide_eq_true c)
      rw [hfill] at z'
      refine wpAny_pure ?_
      dsimp only
      exact wpAny_pure (h _ _ ps1 sb1 ⟨_, _, t1, sa1, T1, m2.trans hled, hent, hnd, by rw [m1]; exact mks, by rw [hsz]; omega⟩ (.inr ⟨nk, hpm⟩))
end
end Zt
namespace Zt
open PySem
structure TIv (h : Heap) (a : Addr) (vals : List Int) (led : Bool) : Prop where
  ex : ∃ ps, TIt h a ps led ∧ ps.length ≤ vals.length ∧ ∀ v, v ∈ ps.map (·.1) ↔ v ∈ vals
theorem TIv.at' {h h' : Heap} {a : Addr} {vals : List Int} {led : Bool} (x : TIv h a vals led) (k : ∀ o, h.get? a = some o → h'.get? a = some o) : TIv h' a vals led := by
  obtain ⟨ps, t, r⟩ := x.ex
  exact ⟨ps, t.at' k, r⟩
section
variable {prog : Program} {w : World} {A : Around} {R : Result → Shared → Prop} {I : Addr} {fp wr : List Addr} {n : Nat} {P : Nat → Value → Prop} {St : Nat → Heap → Prop}
theorem updI_loop (W : Walks prog w A.in1 I fp wr n P St) (S : Addr) (hSf : S ∉ fp) {led : Bool} (val : Nat → Int) (hval : ∀ i v, P i v → ∃ t, v = .int (val i) t) (h6 : n ≤ 900) :
    ∀ (k i : Nat) (s : Shared), n - i = k → i ≤ n → St i s.heap → TIv s.heap S ((List.range i).map val) led →
      (∀ h' tk, (∀ b o, b ∉ S :: wr → s.heap.get? b = some o → h'.get? b = some o) → TIv h' S ((List.range n).map val) led → R (.ok (.ret .none)) { s with heap := h', toks := tk }) →
      codeAny (model prog w) A (.builtin "set.update.loop" ⟨[.ref S, .ref I], []⟩) R s := by
  have hSw : S ∉ wr := fun z => hSf (W.sub _ z)
  intro k
  induction k with
  | zero =>
    intro i s hk hi hst hS hR
    obtain rfl : i = n := by omega
    refine codeAny_builtin PyProof.Rows.F.entry_set_update_loop ?_
    rw [Around.under_plainId PyProof.Rows.F.plain_set_update_loop _]
    show wpAny _ A.in1 (pyNext (.ref I) >>= _) _ _ s
    refine wpAny_bind (W.done s _ _ hst fun h' tk hk' => wpAny_pure (hR h' tk (fun b o hb e => hk' b o (fun z => hb (List.mem_cons_of_mem _ z)) e) (hS.at' fun o e => hk' S o hSw e)))
  | succ k ih =>
    intro i s hk hi hst hS hR
    have hlt : i < n := by omega
    refine codeAny_builtin PyProof.Rows.F.entry_set_update_loop ?_
    rw [Around.under_plainId PyProof.Rows.F.plain_set_update_loop _]
    show wpAny _ A.in1 (pyNext (.ref I) >>= _) _ _ s
    refine wpAny_bind (W.item i s _ _ hlt hst fun v h' tk hP hst' hk' => ?_)
    obtain ⟨t, rfl⟩ := hval i v hP
    have hS' := hS.at' fun o e => hk' S o hSw e
    show wpAny _ A.in1 (holding [_] (setAdd S _) >>= _) _ _ _
    refine wpAny_bind (wpAny_holding ?_)
    unfold setAdd
    refine wpAny_holding (wpAny_bind ((intKind prog w).pyHash (k := val i) (intKind_is _ _ _ _) ?_))
    obtain ⟨ps, tps, lps, mps⟩ := hS'.ex
    rw [List.length_map, List.length_range] at lps
    refine add_int (s := { s with heap := h', toks := tk + 1 }) tps (by omega) fun h2 b ps2 hsb ht2 hc => ?_
    have er : (List.range (i + 1)).map val = (List.range i).map val ++ [val i] := by rw [List.range_succ, List.map_append]; rfl
    have hS2 : TIv h2 S ((List.range (i + 1)).map val) led := by
      refine ⟨ps2, ht2, ?_, fun v => ?_⟩
      · rw [List.length_map, List.length_range]
        rcases hc with ⟨_, rfl⟩ | ⟨_, pp⟩
        · omega
        · rw [pp.length_eq, List.length_cons]; omega
      · rw [er, List.mem_append, List.mem_singleton, ← mps v]
        rcases hc with ⟨hin, rfl⟩ | ⟨_, pp⟩
        · exact ⟨.inl, fun z => z.elim id fun e => by rw [e]; exact hin⟩
        · rw [(pp.map (·.1)).mem_iff, List.map_cons, List.mem_cons]
          exact ⟨fun z => z.elim .inr .inl, fun z => z.elim .inr .inl⟩
    refine wpAny_pure ⟨plainId_quiet PyProof.Rows.F.plain_set_update_loop _, ih (i + 1) _ (by omega) hlt (W.frame _ h' _ hst' fun b hb o e => ?_) hS2 fun h3 tk3 hk3 hS3 => hR h3 tk3 (fun b o hb e => ?_) hS3⟩
    · show h2.get? b = some o
      rw [hsb.2 b (fun z : b = S => hSf (by rw [← z]; exact hb))]; exact e
    · refine hk3 b o hb ?_
      show h2.get? b = some o
      rw [hsb.2 b (fun z : b = S => hb (by rw [z]; exact List.mem_cons_self))]
      exact hk' b o (fun z => hb (List.mem_cons_of_mem _ z)) e
end
section
variable {prog : Program} {w : World} {A : Around} {E : Value → Shared → Prop} {s : Shared}
theorem call_setI {l : Addr} {items : Array Value} {n : Nat} {val : Nat → Int} {Q : Value → Shared → Prop} (hh : A.handled = none) (hl : s.heap.IsList l items) (hn : items.size = n) (hval : ∀ (i : Nat) (v : Value), items[i]? = some v → ∃ t, v = Value.int (val i) t) (h6 : n ≤ 900)
    (h : ∀ (h' : Heap) (tk : Nat), TIv h' s.heap.objs.size ((List.range n).map val) (ledOf w) → (∀ b o, b < s.heap.objs.size → s.heap.get? b = some o → h'.get? b = some o) → Q (.ref s.heap.objs.size) { s with heap := h', toks := tk }) : wpAny (model prog w) A (call (.type "set") [.ref l]) Q E s := by
  obtain ⟨c, tl, hmro⟩ := F.called_set.mro
  have hmade := F.called_set.made; have hsub := F.called_set.sub
  refine wpAny_call (codeAny_of_tree (by
    show wpAny _ _ (callAny (.type "set") _) _ _ _
    refine wpAny_pure ⟨Code.quiet_builtin _ (by decide +kernel), codeAny_builtin F.entry_type_call ?_⟩
    rw [Around.under_plain (weight_type_call_type "set" [.ref l] []) rfl]; have h1 := F.called_set.notType
    have h2 := F.called_set.canCreate; have hct := F.typeCall_set_1 (.ref l)
    repeat (any_goals (first | assumption | wp_step))
    refine codeAny_mono (set_new (.ref l) (E := E) (Q := fun obj s₁ => obj = .ref s.heap.objs.size ∧ s₁ = { s with heap := s.heap.push { cls := .type "set", dict := none, data := .set #[] 0 (.fresh 0 0 (ledOf w)) } }) ⟨rfl, rfl⟩) fun r s₁ hr => ?_
    cases r with
    | error e => exact hr
    | ok fl =>
      cases fl with
      | ret obj =>
        obtain ⟨rfl, rfl⟩ := hr
        have hS : (s.heap.push { cls := .type "set", dict := none, data := .set #[] 0 (.fresh 0 0 (ledOf w)) }).get? s.heap.objs.size = some { cls := .type "set", dict := none, data := .set #[] 0 (.fresh 0 0 (ledOf w)) } := Heap.get?_push_size _ rfl
        have hT : Shared.TypeIs { s with heap := s.heap.push { cls := .type "set", dict := none, data := .set #[] 0 (.fresh 0 0 (ledOf w)) } } (.ref s.heap.objs.size) "set" := ⟨_, hS, rfl⟩
        have hli := F.called_set.init.lookup; have hbi := F.called_set.init.bind (.ref s.heap.objs.size)
        repeat (any_goals (first | assumption | wp_step))
        refine codeAny_mono (codeAny_call_builtin (R := wants (fun r s₂ => r = .none ∧ ∃ h' tk, s₂ = { s with heap := h', toks := tk } ∧ TIv h' s.heap.objs.size ((List.range n).map val) (ledOf w) ∧ (∀ b o, b < s.heap.objs.size → s.heap.get? b = some o → h'.get? b = some o)) E) F.called_set.init.plain F.entry_set_init (check_set_init_1 hT ?_)) fun r₂ s₂ hr₂ => ?_
        · obtain ⟨⟨ocls, odict, odata, oslots⟩, hol, hcl, nl, hdl⟩ := hl
          simp only at hcl hdl
          subst hcl hdl
          have hol' : (s.heap.push { cls := .type "set", dict := none, data := .set #[] 0 (.fresh 0 0 (ledOf w)) }).get? l = some { cls := .type "list", dict := odict, data := .seq items nl, slots := oslots } := Heap.get?_push_of_some _ hol
          have hsls := F.sub_list_set; have hslf := F.sub_list_frozenset
          have hne : (Value.type "list" == Value.type "dict") = false := by decide
          have hl1 : (s.heap.push { cls := .type "set", dict := none, data := .set #[] 0 (.fresh 0 0 (ledOf w)) }).IsList l items := ⟨_, hol', rfl, nl, rfl⟩
          unfold Builtin.«set.__init__» noKeywords Builtin.Frozenset.updateFrom
          generalize hPI : pyIter = PI; wp_walk; subst hPI
          refine wpAny_pyIter_list hl1 (wpAny_bind (wpAny_runValue ?_))
          have hlS : l < s.heap.objs.size := Heap.lt_size hol
          have hneI : l ≠ (s.heap.push { cls := .type "set", dict := none, data := .set #[] 0 (.fresh 0 0 (ledOf w)) }).objs.size := by rw [Heap.size_push]; exact Nat.ne_of_lt (Nat.lt_succ_of_lt hlS)
          have hSf : s.heap.objs.size ∉ [(s.heap.push { cls := .type "set", dict := none, data := .set #[] 0 (.fresh 0 0 (ledOf w)) }).objs.size, l] := by
            rw [Heap.size_push]; simp only [List.mem_cons, List.not_mem_nil, or_false, not_or]; exact ⟨Nat.ne_of_lt (Nat.lt_succ_self _), Nat.ne_of_gt hlS⟩
          have w0 := Walks.list (prog := prog) (w := w) (A := A.in1.in1.in1) (by simp [hh]) (s.heap.push { cls := .type "set", dict := none, data := .set #[] 0 (.fresh 0 0 (ledOf w)) }).objs.size l hneI items
          rw [hn] at w0
          refine updI_loop (led := ledOf w) w0 s.heap.objs.size hSf val (fun i v hv => hval i v hv) h6 n 0 _ (by omega) (Nat.zero_le _) ⟨⟨_, Heap.get?_push_size _ rfl, rfl, rfl⟩, hl1.push _⟩ ?hS0 ?hR
          case hS0 =>
            exact ⟨[], ti_new (Heap.get?_push_of_some _ hS), Nat.zero_le _, fun v => Iff.rfl⟩
          case hR =>
            intro h' tk hk hS'
            refine wpAny_pure ?_
            refine wpAny_pure ⟨rfl, h', tk, rfl, hS', fun b o hb e => ?_⟩
            have hb2 : b ≠ (s.heap.push { cls := .type "set", dict := none, data := .set #[] 0 (.fresh 0 0 (ledOf w)) }).objs.size := by rw [Heap.size_push]; exact Nat.ne_of_lt (Nat.lt_succ_of_lt hb)
            exact hk b o (by simp only [List.mem_cons, List.not_mem_nil, or_false, not_or]; exact ⟨Nat.ne_of_lt hb, hb2⟩) (Heap.get?_push_of_some _ (Heap.get?_push_of_some _ e))
        · cases r₂ with
          | error e => exact hr₂
          | ok fl₂ =>
            cases fl₂ with
            | ret r =>
              obtain ⟨rfl, h', tk, rfl, hS', hk'⟩ := hr₂
              repeat (any_goals (first | assumption | wp_step))
              exact h _ _ hS' hk'
            | _ => exact hr₂
      | _ => exact hr))
end
section
open PyProof.Rows PySem.W PySem.Calls Rs
variable {prog : Program} {w : World} {A : Around} {E : Value → Shared → Prop} {s : Shared}
theorem ints_entI : ∀ (l : List (Int × Tok)), IntsAre ((l.map entI).map (·.2)) (l.map (·.1))
  | [] => .nil
  | e :: l => .cons _ e.2 (ints_entI l)
theorem collect_int {a : Addr} {vals : List Int} {Q : List Value → Shared → Prop} (hh : A.handled = none) (hl : vals.length ≤ 900) (x : TIv s.heap a vals (ledOf w))
    (hQ : ∀ (h' : Heap) (tk : Nat) (us : List Value) (ns : List Int), (∀ b o, s.heap.get? b = some o → h'.get? b = some o) → IntsAre us ns → ns.Nodup → ns.length ≤ vals.length → (∀ v, v ∈ ns ↔ v ∈ vals) → Q us { s with heap := h', toks := tk }) : wpAny (model prog w) A (collect (.ref a)) Q E s := by
  obtain ⟨ps, tps, lps, mps⟩ := x.ex
  obtain ⟨es, ep, t, sa, T, hled, ent, nd, mks, few⟩ := tps.ex
  obtain ⟨so, vs, W⟩ := way_tab (prog := prog) (w := w) sa T hled
  have sz : es.size = ps.length := by rw [← Array.length_toList, ent, List.length_map]
  refine collect_way hh W sa T.pl (by rw [sz, sizeLine_eq]; omega) fun h' tk kp => ?_
  have pm := W.pm
  rw [ent] at pm
  obtain ⟨T', p', e'⟩ := Rt.perm_map_inv entI pm (T := ps) rfl
  have pn := p'.map (·.1)
  refine hQ h' tk _ (T'.map (·.1)) kp (by rw [e']; exact ints_entI T') (pn.nodup_iff.mpr nd) (by rw [List.length_map, p'.length_eq]; exact lps) fun v => ?_
  rw [pn.mem_iff]; exact mps v
theorem sorted_int {Q : Value → Shared → Prop} {a : Addr} {vals : List Int} (hh : A.handled = none) (hl : vals.length ≤ 900) (x : TIv s.heap a vals (ledOf w))
    (h : ∀ (h' : Heap) (tk : Nat) (us : List Value) (ns : List Int), (∀ b x, s.heap.get? b = some x → h'.get? b = some x) → IntsAre us ns → ns.Nodup → ns.length ≤ vals.length → (∀ v, v ∈ ns ↔ v ∈ vals) → ∀ (P : PySem.Fin → Shared → Prop) (E' : Value → Shared → Prop), (∀ s2, Q (.ref h'.objs.size) s2 → P (.done (.ret .none)) s2) →
      wpAny (model prog w) A.in1.in1 (Builtin.«list.sort» ⟨[.ref h'.objs.size], []⟩) P E' { s with heap := h'.push (seqObj "list" us.toArray 0), toks := tk }) :
    wpAny (model prog w) A (call (.builtin "sorted") [.ref a]) Q E s := by
  refine Calls.call_function_entry kind_sorted plain_sorted entry_sorted (args_sorted1 _) ?_
  unfold Builtin.«sorted»
  refine wpAny_bind (m := checkCount "sorted" 1 1 _) (wpAny_pure ?_)
  refine wpAny_bind (collect_int (A := A.in1) hh hl x fun h' tk us ns kp ia nd ln mm => ?_)
  have hlen : us.length ≤ 900 := by have := ia.length; omega
  refine wpAny_bind (wpAny_newList ?_ (by rw [sizeLine_eq]; omega))
  have hoL : (h'.push (seqObj "list" us.toArray 0)).get? h'.objs.size = some (seqObj "list" us.toArray 0) := Heap.get?_push_size _ rfl
  show wpAny _ _ _ _ _ { s with heap := h'.push (seqObj "list" us.toArray 0), toks := tk }
  refine wpAny_bind (wpAny_holding (wpAny_call_entry slot_list_sort ⟨_, hoL, rfl⟩ entry_list_sort ?body (args_list_sort _)))
  exact h h' tk us ns kp ia nd ln mm _ _ fun s2 hq => ⟨_, rfl, wpAny_pure ⟨_, rfl, hq⟩⟩
end
end Zt
namespace L2
open PySem PySem.Spec PyProof.Rows Zt
section
variable {X : Cx}
def rSetI9 (led : Bool) (K : PySem.W.Frag) : List V → Hp → VK → Prop := fun xs H Q => ∃ (l : Addr) (ns : List Int), xs = [.ref l] ∧ SqL K H l (ns.map V.int) ∧ ns.length ≤ 900 ∧
  ∀ (t : Addr) (H2 : Hp), Same H H2 → H t = none → H2 t = some (.ext fun h => TIv h t ns led) → Q (.ref t) H2
theorem call_setI9 (hc : X.calm = true) : CallR X (.type "set") (rSetI9 (ledOf X.w) X.K) := by
  intro pins s σ H xs us Q I r h
  obtain ⟨p, ns, rfl, hp, h9, q⟩ := h
  obtain ⟨u, rfl, ru⟩ := vals1 r
  cases ru
  obtain ⟨its, rv, pl, hz⟩ := I.list hp
  have hi : IntsAre its ns := intsAre_of rv
  have hl := hi.length
  have eR : (List.range ns.length).map (fun i => ns.getD i 0) = ns := by
    refine List.ext_getElem? fun i => ?_
    rw [List.getElem?_map]
    by_cases z : i < ns.length
    · rw [List.getElem?_range z, List.getElem?_eq_getElem z]
      show some (ns.getD i 0) = _
      rw [List.getD_eq_getElem?_getD, List.getElem?_eq_getElem z]; rfl
    · rw [List.getElem?_eq_none (by rw [List.length_range]; omega), List.getElem?_eq_none (by omega)]; rfl
  refine Zt.call_setI (items := its.toArray) (n := ns.length) (val := fun i => ns.getD i 0) (I.ok.hd hc) pl.isList (by rw [List.size_toArray]; exact hl) (fun i v hv => ?_) h9 fun h' tk hS hk => ?_
  · have key : ∀ (us : List Value) (ms : List Int), IntsAre us ms → ∀ i v, us[i]? = some v → ∃ t, v = Value.int (ms.getD i 0) t := fun us ms => by
      induction ms generalizing us with
      | nil => intro h; cases h; intro i v hv; simp at hv
      | cons n ms ih =>
        intro h
        cases h with
        | cons _ t h' =>
          intro i v hv
          cases i with
          | zero => exact ⟨t, (Option.some.inj hv).symm⟩
          | succ i => exact ih _ h' i v hv
    exact key its ns hi i v (by simpa using hv)
  · have hf : H s.heap.objs.size = none := I.hok.fresh (Nat.le_refl _)
    rw [eR] at hS
    refine ⟨.ref s.heap.objs.size, upd H s.heap.objs.size (.ext fun h => TIv h s.heap.objs.size ns (ledOf X.w)), I.laid (t' := tk) (fun b x e => hk b x (Heap.lt_size e) e) (Nat.le_refl _) ⟨hS, ?_, fun h1 h2 a b => a.at' b⟩, rfl, q _ _ (same_upd hf) hf upd_same⟩
    obtain ⟨ps, tps, _⟩ := hS.ex
    obtain ⟨es, ep, t, sa, _⟩ := tps.ex
    obtain ⟨o, ho, _⟩ := sa.at_
    exact ⟨o, ho⟩
def rSortI9 (led : Bool) : List V → Hp → VK → Prop := fun xs H Q => ∃ (a : Addr) (vals : List Int), xs = [.ref a] ∧ vals.length < 64 ∧ H a = some (.ext fun h => TIv h a vals led) ∧
  ∀ (t : Addr) (H2 : Hp) (ms : List Int), Same H H2 → H t = none → H2 t = some (.lst (ms.map V.int)) → ms.Pairwise (· < ·) → (∀ v, v ∈ ms ↔ v ∈ vals) → Q (.ref t) H2
theorem call_sortI9 (hc : X.calm = true) : CallR X (.builtin "sorted") (rSortI9 (ledOf X.w)) := by
  intro pins s σ H xs us Q I r h
  obtain ⟨a, vals, rfl, h64, ha, q⟩ := h
  obtain ⟨u, rfl, ru⟩ := vals1 r
  cases ru
  obtain ⟨hS, _⟩ := I.hok a _ ha
  refine sorted_int (I.ok.hd hc) (by omega) hS fun h' tk its ns kp ia nd ln mm P E' hP => ?_
  have hn : (h'.push (seqObj "list" its.toArray 0)).get? h'.objs.size = some (seqObj "list" its.toArray 0) := Heap.get?_push_size _ rfl
  have h6' := ia.length
  refine list_sort_tree (s := { s with heap := h'.push (seqObj "list" its.toArray 0), toks := tk }) hn ia (by omega) fun out ns' ia' pm' pw => hP _ ?_
  have I1 : Inv X pins σ H { s with heap := h', toks := tk } := I.kept (t' := tk) kp
  have hf : H h'.objs.size = none := I1.hok.fresh (Nat.le_refl _)
  obtain ⟨e, he⟩ : ∃ e, (sortedHeap (h'.push (seqObj "list" its.toArray 0)) h'.objs.size its out).get? h'.objs.size = some (seqObj "list" out e) := sortedHeap_at hn
  have rv' := are_ints ia'
  have lp := pm'.length_eq
  have pws : ns'.Pairwise (· < ·) := by
    have n2 : ns'.Pairwise (· ≠ ·) := pm'.nodup_iff.mpr nd
    exact List.Pairwise.imp₂ (fun a b h1 h2 => by omega) pw n2
  have I2 : Inv X pins σ (upd H h'.objs.size (.lst (ns'.map V.int))) { s with heap := sortedHeap (h'.push (seqObj "list" its.toArray 0)) h'.objs.size its out, toks := tk } :=
    I1.laid (t' := tk) (fun b x e' => (sortedHeap_old (Nat.ne_of_lt (Heap.lt_size e')) (Nat.lt_of_lt_of_le (Heap.lt_size e') (by rw [size_push']; exact Nat.le_succ _))).trans (Heap.get?_push_of_some _ e')) (Nat.le_refl _) (show ObjOk X.prog X.w _ _ _ (.lst _) from ⟨by
      rw [List.length_map]; exact Nat.le_of_lt (Rk.lt_line (by omega)), out.toList, e, rv', by rw [he]⟩)
  exact ⟨.ref h'.objs.size, _, I2, rfl, q _ _ _ (same_upd hf) hf upd_same pws fun v => pm'.mem_iff.trans (mm v)⟩
end
end L2
namespace Dl
open PySem PySem.Spec PyProof.Rows L2 _root_.Rd Rk Zt
section
variable {X : Cx} {E : XK}
@[irreducible] def sSetI : PyData → (PyData → Prop) → Prop
  | .list ds, Q => ∃ ns : List Int, ds = ns.map PyData.int ∧ ns.length < 64 ∧ ∀ ms : List Int, ms.Pairwise (· < ·) → (∀ x, x ∈ ms ↔ x ∈ ns) → Q (.list (ms.map PyData.int))
  | _, _ => False
theorem sSetI_of {Q : PyData → Prop} (ns : List Int) (h6 : ns.length < 64) (h : ∀ ms : List Int, ms.Pairwise (· < ·) → (∀ x, x ∈ ms ↔ x ∈ ns) → Q (.list (ms.map PyData.int))) : sSetI (.list (ns.map PyData.int)) Q := by
  unfold sSetI
  exact ⟨ns, rfl, h6, h⟩
def dSortSetI (w : DE) : DE := fun δ Q EX => w δ (fun d => sSetI d Q) EX
theorem pd_sortSetI {e : Expr} {w : DE} {p p2 pos pos2 : Pos} (hg : Gl X "sorted") (hm : X.mg "sorted" = none) (hg2 : Gl X "set") (hm2 : X.mg "set" = none) (h : PE X e (tX .P X.K E w)) (hc : X.calm = true) (hs : notStar e = true) : PE X (.Call (.Name "sorted" p) [.Call (.Name "set" p2) [e] [] pos2] [] pos) (tX .F X.K E (dSortSetI w)) := by
  refine PE.imp (pe_callB (L2.call_sortI9 hc) hg hm bt_sorted (pa_c (pe_callTy (L2.call_setI9 hc) hg2 hm2 bt_set (pa_c h pa_nil hs) (he := star_of hs)) pa_nil)) fun σ H Q ⟨F, δ, R, EX, rel, hw, k, o⟩ => ?_
  refine ⟨F, δ, _, EX, rel, hw, fun d hd v H1 rel1 kp1 vk => ?_, o⟩
  have hd : sSetI d _ := hd
  unfold sSetI at hd
  split at hd
  · obtain ⟨ns, rfl, h6, hR⟩ := hd
    obtain ⟨l, xs, rfl, e, q⟩ := DP.list vk
    rw [das_ints q] at e
    refine ⟨l, ns, rfl, SqL.of e, by omega, fun t H2 s2 n2 e2 => ⟨t, ns, rfl, h6, e2, fun t3 H3 ms s3 n3 e3 pw mm => ?_⟩⟩
    have s13 := s2.trans s3
    have n13 : H1 t3 = none := by
      cases z : H1 t3 with
      | none => rfl
      | some o => rw [s2 _ _ z] at n3; cases n3
    refine k _ (hR ms pw mm) _ H3 (rel1.same s13) (kp1.trans (Kp.same rel1 s13)) ?_
    exact ⟨new_da (fun a ha => rel1.isl ha) s13 n13 e3 (ints_das ms), frv_new (kp_none kp1 n13)⟩
  · exact hd.elim
theorem q_sortSetI {e : Expr} {w : DE} {p p2 pos pos2 : Pos} (hg : Gl X "sorted") (hm : X.mg "sorted" = none) (hg2 : Gl X "set") (hm2 : X.mg "set" = none) (h : QE .P X E e w) (hc : X.calm = true := by rfl) (hs : notStar e = true := by rfl) : QE .F X E (.Call (.Name "sorted" p) [.Call (.Name "set" p2) [e] [] pos2] [] pos) (dSortSetI w) := ⟨pd_sortSetI hg hm hg2 hm2 h.h hc hs⟩
end
end Dl
namespace Rk
open PySem PySem.Spec PyProof.Rows L2 _root_.Rd Dl Rt
end Rk
namespace Dl
open PySem PySem.Spec PyProof.Rows L2 _root_.Rd Rk
section
variable {X : Cx} {E : XK}
end
end Dl
namespace L2
open PySem PySem.Spec PyProof.Rows
section
variable {X : Cx} {pins : List (Addr × Obj)} {σ : St} {H H3 : Hp} {s3 : Shared} {M : List Str} {scope : Scope} {cap : List (Option Nat)} {fp : List Addr} {h4 : Heap} {t4 : Nat}
end
section
variable {X : Cx} {pins : List (Addr × Obj)} {σ : St} {H : Hp}
end
end L2
namespace Rk
open PySem PySem.Spec PyProof.Rows L2 _root_.Rd Dl
end Rk
namespace Dl
open PySem PySem.Spec PyProof.Rows L2
section
variable {X : Cx} {E : XK}
end
end Dl
namespace Dz
open PySem PySem.Spec PyProof.Rows
section
variable {prog : Program} {w : World} {A : Around} {E : Value → Shared → Prop} {s : Shared}
structure Raw (h : Heap) (d : Addr) (es : Array DictEntry) (ep : Nat) : Prop where
  at_ : ∃ o, h.get? d = some o ∧ o.ExactDict ∧ o.data = .dict es ep
theorem Raw.ty {d : Addr} {es : Array DictEntry} {ep : Nat} (x : Raw s.heap d es ep) : s.TypeIs (.ref d) "dict" := by
  obtain ⟨o, e, c, _⟩ := x.at_
  exact ⟨o, e, c.1⟩
end
end Dz
namespace L2
open PySem PySem.Spec PyProof.Rows Dz
section
variable {X : Cx}
end
end L2
namespace Dz
open PySem PySem.Spec PyProof.Rows
section
variable {prog : Program} {w : World} {A : Around} {E : Value → Shared → Prop} {s : Shared}
end
end Dz
namespace L2
open PySem PySem.Spec PyProof.Rows Dz
section
variable {X : Cx}
end
end L2
namespace L2
open PySem PySem.Spec PyProof.Rows Dz
section
variable {X : Cx}
end
end L2
namespace Rk
open PySem
end Rk
namespace Rk
open PySem PySem.Spec PyProof.Rows L2 _root_.Rd Dl Rt
end Rk
namespace Rk
open PySem PySem.Spec PyProof.Rows L2 _root_.Rd Dl Rt
section
variable (K : PySem.W.Frag) (P : Program) (W : World) (u : Nat)
end
end Rk
namespace Rk
open PySem PySem.Spec PyProof.Rows L2 _root_.Rd
def top (i : Nat) : Stmt := PySem.Challenge.pw_rooklands_k87_names_and_own_ways.main.body.getD i (.Pass ⟨0, 0, 0, 0⟩)
abbrev sOrders : Stmt := top 1
abbrev sAllO : Stmt := top 3
abbrev sOth : Stmt := top 4
abbrev sMarks : Stmt := top 6
abbrev sName : Stmt := top 7
abbrev sLbc : Stmt := top 8
abbrev sOwn : Stmt := top 9
abbrev lCellAt : Stmt := top 11
abbrev lPot : Stmt := top 12
abbrev lTake : Stmt := top 13
abbrev lWhole : Stmt := top 14
abbrev lSame : Stmt := top 15
abbrev lBoard : Stmt := top 16
abbrev lOrders : Stmt := top 17
abbrev lWays : Stmt := top 18
abbrev lLed : Stmt := top 19
abbrev sLaw : Stmt := top 20
section
variable {P : Program} {w : World} {K : PySem.W.Frag} {mg : Str → Option Value} {base : Heap}
theorem scCellAt : FnScope ["_law_script", "_law_k"] ["_law_script", "_law_k"] (defScope lCellAt) := ⟨rfl, rfl, rfl, by decide +kernel, rfl, by decide +kernel, by decide +kernel⟩
theorem ok_cellAt {f : Addr} {fd : FuncData} (F : Fun K "_law_cell_at" "_law_cell_at" lCellAt f fd) (T : GlbA mg) : FnOk P w K mg base CX0 1 f fd ["_law_script", "_law_k"] (spCellAt K) := by
  refine F.ok scCellAt (fun vs H Q E h => ?_) (fun cdv A outer s H vs Q E hr h => ?_)
  · obtain ⟨a, ns, k, rfl, _⟩ := h
    rfl
  · obtain ⟨a, ns, n, rfl, hs, hl, h0, k⟩ := h
    refine ⟨_, pss_cons (ps_if (pt_cmpR op_lt (pv 1) (pe_callB call_len_seq (by rfl) T.len bt_len (pa_cons (pv 0) pa_nil)) (nomark _)) (pss_one (ps_ret (pe_ix ix_list (pv 0) (pv 1) (fun _ _ => rfl)))) pss_nil) (pss_one (ps_ret pe_int)), ?_⟩
    refine ⟨_, rfl, _, rfl, a, _, rfl, .inl hs, _, _, rfl, rfl, _, rfl, ?_⟩
    refine ite2 (fun hlt => ?_) (fun _ => k 0)
    have hlt' : n < (ns.map V.int).length := of_decide_eq_true hlt
    rw [List.length_map] at hlt'
    obtain ⟨j, rfl⟩ := Int.eq_ofNat_of_zero_le h0
    have hj : j < ns.length := by omega
    refine ⟨_, rfl, _, rfl, a, _, _, .int ns[j], rfl, rfl, hs, atI_nat ?_, k _⟩
    rw [List.getElem?_map, List.getElem?_eq_getElem hj]; rfl
theorem scPot : FnScope ["_law_cell", "_law_number", "_law_j", "_law_more"] ["_law_cell"] (defScope lPot) := ⟨rfl, rfl, rfl, by decide +kernel, rfl, by decide +kernel, by decide +kernel⟩
theorem ok_pot {f : Addr} {fd : FuncData} (F : Fun K "_law_pot" "_law_pot" lPot f fd) (T : GlbA mg) : FnOk P w K mg base CX0 1 f fd ["_law_cell"] spPot := by
  refine F.ok scPot (fun vs H Q E h => ?_) (fun cdv A outer s H vs Q E hr h => ?_)
  · obtain ⟨c, rfl, _⟩ := h
    rfl
  · obtain ⟨c, rfl, k⟩ := h
    refine ⟨_, pss_cons (ps_if (pt_cmpR op_ge (pv 0) (pe_op op_pow pe_int pe_int) (nomark _)) (pss_one (ps_ret (pe_lst (pa_cons (pe_op op_sub (pv 0) (pe_op op_pow pe_int pe_int)) pa_nil)))) pss_nil)
      (pss_cons (ps_set (i := 1) scPot.nd rfl (Or.inl rfl) pe_int)
      (pss_cons (ps_for PassesOwn.never rfl (pi_range1 (by rfl) T.range (pa_cons pe_int pa_nil)) (pg_name (i := 2) scPot.nd rfl (Or.inl rfl))
        (pss_cons (ps_set (i := 3) scPot.nd rfl (Or.inl rfl) (pe_op op_mod (pe_op op_mul (pe_op op_add (pe_op op_add (pe_op op_mod (pv 0) pe_int) (pe_op op_mul pe_int (pv 2))) pe_int) pe_int) pe_int))
        (pss_cons (ps_set (i := 3) scPot.nd rfl (Or.inl rfl) (pe_op op_mod (pe_op op_add (pe_op op_add (pe_op op_mul (pv 3) (pv 3)) (pe_op op_mul pe_int (pv 2))) pe_int) pe_int))
        (pss_one (ps_set (i := 1) scPot.nd rfl (Or.inl rfl) (pe_op op_add (pe_op op_mul (pv 1) pe_int) (pv 3)))))))
      (pss_one (ps_ret (pe_lst (pa_cons (pv 1) pa_nil)))))), ?_⟩
    refine ⟨_, rfl, _, _, rfl, rfl, ⟨by decide, by decide, by decide⟩, _, _, rfl, rfl, _, rfl, ?_⟩
    refine ite2 (fun _ => ?_) (fun _ => ?_)
    · exact ⟨_, rfl, _, _, rfl, rfl, ⟨by decide, by decide, by decide⟩, _, _, rfl, rfl, by show 1 ≤ sizeLine; decide, fun p hp => k p _ hp⟩
    · refine ⟨64, rfl, by decide, by decide, for_range (n := 64) (fun i σ H2 => ∃ n v u, σ = [some (.int c), some (.int n), v, u] ∧ H2 = H) ⟨0, none, none, rfl, rfl⟩ ?_ ?_⟩
      · rintro i σ H2 hi ⟨n, v, u, rfl, rfl⟩
        have b1 := emod_lt' ((c % 2147483629 + 7919 * (0 + (i : Int)) + 1) * 48271) (m := 2147483647) (by decide)
        refine ⟨_, rfl, _, _, rfl, rfl, by show (0 : Int) < 2147483629; decide, _, rfl, _, _, rfl, rfl, .inl ⟨by decide, by decide⟩, _, _, rfl, rfl, _, _, rfl, rfl, _, _, rfl, rfl, .inr ⟨by decide, by decide⟩, _, _, rfl, rfl, by show (0 : Int) < 2147483647; decide, ?_⟩
        refine ⟨_, rfl, _, rfl, _, _, rfl, rfl, .inl ⟨by omega, by omega⟩, _, rfl, _, _, rfl, rfl, .inl ⟨by decide, by decide⟩, _, _, rfl, rfl, _, _, rfl, rfl, _, _, rfl, rfl, by show (0 : Int) < 2147483587; decide, ?_⟩
        exact ⟨_, rfl, _, _, rfl, rfl, .inr ⟨by decide, by decide⟩, _, rfl, _, _, rfl, rfl, _, _, _, rfl, rfl⟩
      · rintro σ H2 ⟨n, v, u, rfl, rfl⟩
        exact ⟨_, rfl, by show 1 ≤ sizeLine; decide, fun p hp => k p _ hp⟩
theorem scTake : FnScope ["_law_pot_here", "_law_far", "_law_found"] ["_law_pot_here", "_law_far"] (defScope lTake) := ⟨rfl, rfl, rfl, by decide +kernel, rfl, by decide +kernel, by decide +kernel⟩
theorem ok_take {f : Addr} {fd : FuncData} (F : Fun K "_law_take" "_law_take" lTake f fd) (T : GlbA mg) : FnOk P w K mg base CX0 1 f fd ["_law_pot_here", "_law_far"] spTakeC0 := by
  refine F.ok scTake (fun vs H Q E h => ?_) (fun cdv A outer s H vs Q E hr h => ?_)
  · obtain ⟨p, n, m, rfl, _⟩ := h
    rfl
  · obtain ⟨p, n, m, rfl, hp, h0, h1, k⟩ := h
    refine ⟨_, pss_cons (ps_set (i := 2) scTake.nd rfl (Or.inl rfl) (pe_op op_mod (pe_ix ix_list (pv 0) pe_int (fun _ _ => rfl)) (pv 1)))
      (pss_cons (ps_asg (pe_op op_fdivC (pe_ix ix_list (pv 0) pe_int (fun _ _ => rfl)) (pv 1)) (pg_sub (pv 0) pe_int set_list))
      (pss_one (ps_ret (pv 2)))), ?_⟩
    have b := emod_lt' n h0
    exact ⟨_, rfl, p, _, _, _, rfl, rfl, SqL.of hp, rfl, _, rfl, _, _, rfl, rfl, h0, _, rfl, p, _, _, _, rfl, rfl, SqL.of hp, rfl, _, rfl, _, _, rfl, rfl, ⟨h0, h1⟩, _, rfl, p, _, _, _, rfl, rfl, hp, rfl, _, rfl, k _ _ b.1 b.2⟩
end
end Rk
namespace Rk
open PySem PySem.Spec PyProof.Rows L2 _root_.Rd
open Dl
open Rt
theorem toN_intN (o : List Nat) : (intN o).map (fun e => (toI e).toNat) = o := by
  unfold intN
  rw [List.map_map]
  conv => rhs; rw [← List.map_id o]
  exact List.map_congr_left fun x _ => by show ((x : Int)).toNat = x; omega
def mksL (o : List Nat) (h w : Nat) (l : List (Int × Int)) : List PyData := (List.range w).map fun c => PyData.int (mkS o h l c)
def mrkL (f : Nat → Nat → Bool) (o : List Nat) (w : Nat) : List Int := (List.range w).map fun c => binB (colB f o c)
def cmkD : DF := fun args R _ => ∃ (h w : Nat) (f : Nat → Nat → Bool) (o : List Nat), args = [.v (bdD h w (cellsF h w f)), .v (tNn o)] ∧ h ≤ 6 ∧ w ≤ 6 ∧ o.Perm (List.range h) ∧ R (.list ((mrkL f o w).map PyData.int))
def ldF (f : Nat → Nat → Bool) (o q : List Nat) : Nat → Nat → Bool := fun r j => f (o.getD r 0) (q.getD j 0)
def ldB (h w : Nat) (f : Nat → Nat → Bool) (o q : List Nat) : PyData := bdD h w (cellsF h w (ldF f o q))
def mkO (f : Nat → Nat → Bool) (o : List Nat) (c : Nat) : Int := binB (colB f o c)
def srtQ (f : Nat → Nat → Bool) (o : List Nat) (w : Nat) : List Nat := (List.range w).mergeSort fun a b => decide (mkO f o b ≤ mkO f o a)
def lbcD : DF := fun args R _ => ∃ (h w : Nat) (f : Nat → Nat → Bool) (o : List Nat), args = [.v (bdD h w (cellsF h w f)), .v (tNn o)] ∧ h ≤ 6 ∧ w ≤ 6 ∧ o.Perm (List.range h) ∧ R (ldB h w f o (srtQ f o w))
def nameD : DF := fun args R _ => ∃ (h w : Nat) (f : Nat → Nat → Bool), args = [.v (bdD h w (cellsF h w f))] ∧ h ≤ 6 ∧ w ≤ 6 ∧ ∀ o q, o ∈ ordsN h h → q.Perm (List.range w) → (∀ o' q', o' ∈ ordsN h h → q'.Perm (List.range w) → ltD (ldB h w f o' q') (ldB h w f o q) = false) → R (ldB h w f o q)
def ownN (h w : Nat) (f : Nat → Nat → Bool) : Nat := (ordsN h h).countP (fun o => (mrkL f o w).isPerm (mrkL f (List.range h) w)) * gL (mrkL f (List.range h) w)
def ownD : DF := fun args R _ => ∃ (h w : Nat) (f : Nat → Nat → Bool), args = [.v (bdD h w (cellsF h w f))] ∧ h ≤ 6 ∧ w ≤ 6 ∧ R (.int (ownN h w f))
section
variable {P : Program} {w : World} {K : PySem.W.Frag} {mg : Str → Option Value} {base : Heap}
theorem sc_lwhole : FnScope ["_law_found"] ["_law_found"] (defScope lWhole) := ⟨rfl, rfl, rfl, by decide +kernel, rfl, by decide +kernel, by decide +kernel⟩
theorem ok_lwhole {f   : Addr} {fd  : FuncData} (F : Fun K "_law_whole" "_law_whole" lWhole f fd) (T : GlbA mg) :
    FnOk P w K mg base CX0 1 f fd ["_law_found"] (toSp false wholeD) := by
  refine okQ false F sc_lwhole (fun args R EX h => ?_) (fun cdv A outer s H E hr => ?_)
  · obtain ⟨d, rfl, _⟩ := h
    rfl
  · have hU := Room.u60 hr
    have hI := Room.i60 hr
    refine ⟨_, qss_one (qs_ret (q_and (q_toPF (q_inst .int (by rfl) T.isinstance (qp 0) (by rfl) T.int bt_int)) (q_one (q_not (q_toPF (q_inst .bool (by rfl) T.isinstance (qp 0) (by rfl) T.bool bt_bool)))))), fun args R EX h => ?_⟩
    obtain ⟨d, rfl, hR⟩ := h
    cases d <;> exact hR
theorem sc_orders : FnScope ["many", "told", "number"] ["many"] (defScope sOrders) := ⟨rfl, rfl, rfl, by decide +kernel, rfl, by decide +kernel, by decide +kernel⟩
theorem ok_orders {f   : Addr} {fd  : FuncData} (F : Fun K "how_many_orders" "how_many_orders" sOrders f fd) (T : GlbA mg) :
    FnOk P w K mg base CX0 1 f fd ["many"] (toSp false ordersD) := by
  refine okQ false F sc_orders (fun args R EX h => ?_) (fun cdv A outer s H E hr => ?_)
  · obtain ⟨m, rfl, _⟩ := h
    rfl
  · have hU := Room.u60 hr
    have hI := Room.i60 hr
    refine ⟨_, qss_cons (qs_set 1 q_int sc_orders.nd)
      (qss_cons (qs_for PassesOwn.never rfl (qi_rng1 (by rfl) T.range (qp 0)) (qg_name 2 sc_orders.nd rfl (by first | exact Or.inl rfl | exact Or.inr rfl))
        (qss_one (qs_aug 1 (ip_of iop_mul) odn_mul (q_toPF (q_bin op_addD od_add (qp 2) (q_toP q_int))) sc_orders.nd)))
      (qss_one (qs_ret (qv 1)))), fun args R EX h => ?_⟩
    obtain ⟨m, rfl, h0, h1, hR⟩ := h
    refine ⟨⟨by omega, by omega⟩, for_rng (fun i δ => ∃ x, δ = [.v (.int m), .v (.int (fctI i)), x]) ⟨_, rfl⟩ ?_ ?_⟩
    · rintro i δ hi ⟨x, rfl⟩
      have := fct_ok (show i ≤ 12 by omega)
      refine ⟨.inl ⟨by omega, by omega⟩, .v (.int (0 + (i : Int))), ?_⟩
      show [Sl.v (.int m), .v (.int (fctI i * (0 + (i : Int) + 1))), .v (.int (0 + (i : Int)))] = _
      rw [show (0 : Int) + (i : Int) + 1 = (i : Int) + 1 by omega]
      rfl
    · rintro δ ⟨x, rfl⟩
      exact hR
theorem nd_oth1 : (["number", "numbers"] : List Str).Nodup := by decide +kernel
theorem sc_oth : FnScope ["many", "numbers"] ["many", "numbers"] (defScope sOth) := ⟨rfl, rfl, rfl, by decide +kernel, rfl, by decide +kernel, by decide +kernel⟩
theorem ok_oth {f   : Addr} {fd  : FuncData} (F : Fun K "others" "others" sOth f fd) (T : GlbA mg) :
    FnOk P w K mg base CX0 1 f fd ["many", "numbers"] (toSp false othD) := by
  refine okQ false F sc_oth (fun args R EX h => ?_) (fun cdv A outer s H E hr => ?_)
  · obtain ⟨n, o, rfl, _⟩ := h
    rfl
  · have hU := Room.u60 hr
    have hI := Room.i60 hr
    refine ⟨_, qss_one (qs_retF (q_comp ["number", "numbers"] [none, some 1] (qi_rng1 (by rfl) T.range (qp 0)) (fun cl ex s3 H3 C => ⟨(qg_name 0 nd_oth1 rfl (Or.inl rfl) (Or.inr rfl)), (qts_one (qt_cmp op_notInA (od_in hI) (qp 0) (qp 1) (by rfl))), (qv 0)⟩))), fun args R EX h => ?_⟩
    obtain ⟨n, o, rfl, n6, hR⟩ := h
    refine ⟨⟨by omega, by omega⟩, cm_fm (fun d => match d with | .int x => if (!decide (x.toNat ∈ o)) = true then some d else none | _ => none) (fun d hd k1 k2 h1 h2 => ?_) ?_⟩
    · obtain ⟨x, hx⟩ := List.mem_iff_getElem?.mp hd
      obtain ⟨hx, rfl⟩ := rng_get hx
      have h1 : (if (!decide ((0 + (x : Int)).toNat ∈ o)) = true then some (PyData.int (0 + (x : Int))) else none) = none → k1 := h1
      have h2 : ∀ e, (if (!decide ((0 + (x : Int)).toNat ∈ o)) = true then some (PyData.int (0 + (x : Int))) else none) = some e → k2 e := h2
      rw [show (0 + (x : Int)).toNat = x by omega] at h1 h2
      have ei : intN o = (o.map fun (y : Nat) => (y : Int)).map PyData.int := by unfold intN; rw [List.map_map]; rfl
      refine ⟨⟨by rw [ei]; exact nds_ints _, rfl, by show PyData.depth (.int _) ≤ 50; unfold PyData.depth; decide⟩, ?_⟩
      show if (!(intN o).any fun e => PyData.eqv e (.int (0 + (x : Int)))) = true then _ else k1
      rw [ei, any_int]
      have em : decide (0 + (x : Int) ∈ o.map fun (y : Nat) => (y : Int)) = decide (x ∈ o) := decide_eq_decide.mpr (by
        rw [List.mem_map]
        constructor
        · rintro ⟨y, hy, e⟩
          have e : (y : Int) = 0 + (x : Int) := e
          rw [show x = y by omega]; exact hy
        · intro hx
          exact ⟨x, hx, by show (x : Int) = 0 + x; omega⟩)
      rw [em]
      by_cases z : (!decide (x ∈ o)) = true
      · rw [if_pos z]; exact h2 _ (if_pos z)
      · rw [if_neg z]; exact h1 (if_neg z)
    · have er : (rngD 0 ((n : Nat) : Int).toNat).filterMap (fun d => match d with | .int x => if (!decide (x.toNat ∈ o)) = true then some d else none | _ => none) = intN (oth n o) := by
        unfold rngD intN oth
        rw [Int.toNat_natCast, List.filterMap_map]
        refine fm_if (p := fun x => !decide (x ∈ o)) fun x _ => ?_
        show (if (!decide ((0 + (x : Int)).toNat ∈ o)) = true then some (PyData.int (0 + (x : Int))) else none) = if (!decide (x ∈ o)) = true then some (PyData.int (x : Int)) else none
        rw [show (0 + (x : Int)).toNat = x by omega, show (0 : Int) + (x : Int) = (x : Int) by omega]
      rw [er]; exact hR
theorem nd_allo1 : (["order", "number", "many"] : List Str).Nodup := by decide +kernel
theorem sc_allo : FnScope ["many", "orders", "step"] ["many"] (defScope sAllO) := ⟨rfl, rfl, rfl, by decide +kernel, rfl, by decide +kernel, by decide +kernel⟩
theorem ok_allo {f f1  : Addr} {fd fd1 : FuncData} (F : Fun K "all_orders" "all_orders" sAllO f fd) (T : GlbA mg)
    (m1 : mg "others" = some (.ref f1)) (G1 : FnOk P w K mg base CX0 1 f1 fd1 ["many", "numbers"] (toSp false othD)) (b1 : Binds K fd1 ["many", "numbers"] []) (k1 : PySem.W.keepIn K (.ref f1) = true) :
    FnOk P w K mg base CX0 2 f fd ["many"] (toSp true ordsD) := by
  refine okQ true F sc_allo (fun args R EX h => ?_) (fun cdv A outer s H E hr => ?_)
  · obtain ⟨n, rfl, _⟩ := h
    rfl
  · have hU := Room.u60 hr
    have hI := Room.i60 hr
    refine ⟨_, qss_cons (qs_setF 1 (q_lst (qa_D (q_toD (q_tup qa_nil)) qa_nil)) sc_allo.nd)
      (qss_cons (qs_for PassesOwn.never rfl (qi_rng1 (by rfl) T.range (qp 0)) (qg_name 2 sc_allo.nd rfl (by first | exact Or.inl rfl | exact Or.inr rfl))
        (qss_one (qs_comp2F ["order", "number", "many"] [none, none, some 0] 1 sc_allo.nd (gok_name 0) (qi_list (qp 1)) (fun cl ex s3 H3 C => ⟨(qg_name 0 nd_allo1 rfl (Or.inl rfl) (Or.inr rfl)), qts_nil, (qi_list (q_call G1 (hr.mono (by decide)) (by rfl) m1 k1 b1 passA (qs_v (qv 2) (qs_v (qv 0) qs_nil)))), (qg_name 1 nd_allo1 rfl (Or.inl rfl) (Or.inr rfl)), qts_nil, (q_toD (q_bin op_addD od_add (qp 0) (q_toPF (q_tup (qa_D (qv 1) qa_nil)))))⟩))))
      (qss_one (qs_retO 1))), fun args R EX h => ?_⟩
    obtain ⟨n, rfl, n6, hR⟩ := h
    have eG : ∀ i, ((ordsN n i).map tNn).flatMap (fun d => match d with | .tuple ds => (oth n (ds.map fun e => (toI e).toNat)).map fun x => PyData.tuple (ds ++ [.int (x : Nat)]) | _ => []) = (ordsN n (i + 1)).map tNn := fun i => by
      show _ = ((ordsN n i).flatMap fun o => (oth n o).map fun x => o ++ [x]).map tNn
      rw [List.flatMap_map, List.map_flatMap]
      refine flat_congr fun o _ => ?_
      show (oth n ((intN o).map fun e => (toI e).toNat)).map (fun x => PyData.tuple (intN o ++ [.int (x : Nat)])) = ((oth n o).map fun x => o ++ [x]).map tNn
      rw [toN_intN, List.map_map]
      refine List.map_congr_left fun x _ => ?_
      show _ = PyData.tuple (intN (o ++ [x]))
      unfold intN
      rw [List.map_append]; rfl
    refine ⟨⟨by omega, by omega⟩, for_rng (fun i δ => ∃ ds x2, δ = [.v (.int n), .own ds, x2] ∧ ds = (ordsN n i).map tNn) ⟨_, _, rfl, rfl⟩ ?_ ?_⟩
    · rintro i δ hi ⟨ds, x2, rfl, rfl⟩
      rw [Int.toNat_natCast] at hi
      refine cm2_ofB (fun d => match d with | .tuple ds => (oth n (ds.map fun e => (toI e).toNat)).map fun x => PyData.tuple (ds ++ [.int (x : Nat)]) | _ => []) 50000 (by rw [eG, List.length_map]; exact ords_few n6 (i + 1) (by omega)) (fun d hd acc N hb hN => ?_) ?_
      · obtain ⟨o, ho, rfl⟩ := List.mem_map.mp hd
        have lo := ords_len ho
        have hb : acc.length + ((oth n ((intN o).map fun e => (toI e).toNat)).map fun x => PyData.tuple (intN o ++ [.int (x : Nat)])).length ≤ 50000 := hb
        have hN : N (acc ++ (oth n ((intN o).map fun e => (toI e).toNat)).map fun x => PyData.tuple (intN o ++ [.int (x : Nat)])) := hN
        rw [toN_intN] at hb hN
        rw [List.length_map] at hb
        have l1 : (intN o).length = o.length := by unfold intN; exact List.length_map _
        have l2 : (intN (oth n o)).length = (oth n o).length := by unfold intN; exact List.length_map _
        refine ⟨_, _, rfl, n6, in_map (fun d => .tuple (intN o ++ [d])) (by rw [l2]; exact Nat.lt_of_le_of_lt hb (by decide)) (fun d hd k2 hk => ?_) ?_⟩
        · exact ⟨by rw [l1]; show _ + 1 ≤ _; omega, hk⟩
        · have e : (intN (oth n o)).map (fun d => PyData.tuple (intN o ++ [d])) = (oth n o).map fun x => PyData.tuple (intN o ++ [.int (x : Nat)]) := by
            conv => lhs; unfold intN
            rw [List.map_map]; rfl
          rw [e]; exact hN
      · rw [eG]
        exact ⟨_, _, rfl, rfl⟩
    · rintro δ ⟨ds, x2, rfl, rfl⟩
      rw [Int.toNat_natCast]
      exact hR
theorem nd_lboard1 : (["_law_column", "_law_pot_here", "_law_row", "_law_thick"] : List Str).Nodup := by decide +kernel
theorem sc_lboard : FnScope ["_law_pot_here", "_law_high", "_law_wide", "_law_thick", "_law_cells", "_law_row"] ["_law_pot_here", "_law_high", "_law_wide"] (defScope lBoard) := ⟨rfl, rfl, rfl, by decide +kernel, rfl, by decide +kernel, by decide +kernel⟩
theorem ok_lboard {f f1  : Addr} {fd fd1 : FuncData} (F : Fun K "_law_board" "_law_board" lBoard f fd) (T : GlbA mg)
    (m1 : mg "_law_take" = some (.ref f1)) (G1 : FnOk P w K mg base CX0 1 f1 fd1 ["_law_pot_here", "_law_far"] (toSp true takeD)) (b1 : Binds K fd1 ["_law_pot_here", "_law_far"] []) (k1 : PySem.W.keepIn K (.ref f1) = true) :
    FnOk P w K mg base CX0 2 f fd ["_law_pot_here", "_law_high", "_law_wide"] (toSp false lb2D) := by
  refine okQ false F sc_lboard (fun args R EX h => ?_) (fun cdv A outer s H E hr => ?_)
  · obtain ⟨h, w, rfl, _⟩ := h
    rfl
  · have hU := Room.u60 hr
    have hI := Room.i60 hr
    refine ⟨_, qss_cons (qs_set 3 (q_toD (q_callF G1 (hr.mono (by decide)) (by rfl) m1 k1 b1 passA (qs_pot 0 (qs_v q_int qs_nil)))) sc_lboard.nd)
      (qss_cons (qs_setF 4 (q_lst qa_nil) sc_lboard.nd)
      (qss_cons (qs_for PassesOwn.never rfl (qi_rng1 (by rfl) T.range (qp 1)) (qg_name 5 sc_lboard.nd rfl (by first | exact Or.inl rfl | exact Or.inr rfl))
        (qss_one (qs_ext 4 (q_toPF (q_comp ["_law_column", "_law_pot_here", "_law_row", "_law_thick"] [none, some 0, some 5, some 3] (qi_rng1 (by rfl) T.range (qp 2)) (fun cl ex s3 H3 C => ⟨(qg_name 0 nd_lboard1 rfl (Or.inl rfl) (Or.inr rfl)), (qts_one (qt_cmp op_lt od_ib0 (q_toPF (q_callF G1 (hr.mono (by decide)) (by rfl) m1 k1 b1 passA (qs_pot 1 (qs_v q_int qs_nil)))) (qp 3) (nomark _))), (q_toD (q_tup (qa_D (qv 2) (qa_D (qv 0) qa_nil))))⟩))))))
      (qss_one (qs_retF (q_tup (qa_D (qv 1) (qa_D (qv 2) (qa_D (q_toD (q_callTy call_tuple_ofW cd_tuple (by rfl) T.tuple bt_tuple (qa_P (qp 4) qa_nil))) qa_nil)))))))), fun args R EX h => ?_⟩
    obtain ⟨h, w, rfl, h6, w6, hR⟩ := h
    refine ⟨_, rfl, by decide, by decide, fun th th0 th1 => ⟨⟨by omega, by omega⟩, for_rng (fun i δ => ∃ f ds x5, δ = [.pot, .v (.int h), .v (.int w), .v (.int th), .own ds, x5] ∧ ds = (cellsF i w f).map pairD) ⟨fun _ _ => false, _, _, rfl, rfl⟩ ?_ ?_⟩⟩
    · rintro i δ hi ⟨f, ds, x5, rfl, rfl⟩
      rw [Int.toNat_natCast] at hi
      refine ⟨⟨by omega, by omega⟩, cm_any (fun d => match d with | .int c => pairD ((i : Int), c) | _ => .none) (fun d hd k1 k2 h1 h2 => ?_) fun p => ?_⟩
      · obtain ⟨c, hc⟩ := List.mem_iff_getElem?.mp hd
        obtain ⟨hc2, rfl⟩ := rng_get hc
        refine ⟨_, rfl, by decide, by decide, fun r r0 r1 => ?_⟩
        refine ifC (fun z => ?_) fun z => ?_
        · show k2 (pairD (0 + (i : Int), 0 + (c : Int)))
          rw [show (0 : Int) + (i : Int) = (i : Int) by omega]
          exact h2
        · exact h1
      · have er : ((List.range (rngD 0 ((w : Nat) : Int).toNat).length).filter p).map (fun q => (match (rngD 0 ((w : Nat) : Int).toNat).getD q .none with | .int c => pairD ((i : Int), c) | _ => .none)) = (rowF i w fun _ => p).map pairD := by
          rw [rng_len, Int.toNat_natCast]
          unfold rowF
          rw [List.map_map]
          refine List.map_congr_left fun c hc => ?_
          have hc := List.mem_range.mp (List.mem_filter.mp hc).1
          have eg : (rngD 0 w).getD c .none = .int (0 + (c : Int)) := by
            unfold rngD
            rw [List.getD_eq_getElem?_getD, List.getElem?_map, List.getElem?_range hc]; rfl
          rw [eg]
          show pairD ((i : Int), 0 + (c : Int)) = pairD ((i : Int), (c : Int))
          rw [show (0 : Int) + (c : Int) = (c : Int) by omega]
        rw [er]
        have l1 := cellsF_len w f i
        have l2 := rowF_len i w (fun _ => p)
        have l3 : i * w ≤ 6 * 6 := Nat.mul_le_mul (by omega) w6
        refine ⟨by rw [List.length_map, List.length_map]; omega, fun r c => if r = i then p c else f r c, _, _, rfl, ?_⟩
        rw [cellsF_succ, List.map_append, cellsF_congr (f := fun r c => if r = i then p c else f r c) (g := f) fun r c hr _ => if_neg (by omega), rowF_congr (f := fun r c => if r = i then p c else f r c) (g := fun _ => p) fun c _ => if_pos rfl]
    · rintro δ ⟨f, ds, x5, rfl, rfl⟩
      rw [Int.toNat_natCast]
      exact hR f
end
end Rk
namespace Rk
open PySem PySem.Spec PyProof.Rows L2 _root_.Rd
open Dl
open Rt
theorem rep_o1 {α : Type} (x : α) : ∀ n, (List.replicate n [x]).flatten = List.replicate n x
  | 0 => rfl
  | n + 1 => by rw [List.replicate_succ, List.flatten_cons, rep_o1 x n, List.replicate_succ]; rfl
theorem mks_start (o : List Nat) (h w : Nat) : (List.replicate w [PyData.int 0]).flatten = mksL o h w [] := by
  rw [rep_o1]
  unfold mksL
  refine List.ext_getElem? fun k => ?_
  rw [List.getElem?_replicate, List.getElem?_map]
  by_cases hk : k < w
  · rw [if_pos hk, List.getElem?_range hk]; rfl
  · rw [if_neg hk, List.getElem?_eq_none (by rw [List.length_range]; omega)]; rfl
theorem mks_len (o : List Nat) (h w : Nat) (l : List (Int × Int)) : (mksL o h w l).length = w := by unfold mksL; rw [List.length_map, List.length_range]
theorem mks_get (o : List Nat) (h : Nat) {w c : Nat} (l : List (Int × Int)) (hc : c < w) : (mksL o h w l)[c]? = some (.int (mkS o h l c)) := by unfold mksL; rw [List.getElem?_map, List.getElem?_range hc]; rfl
theorem mks_set (o : List Nat) (h w r c : Nat) (l : List (Int × Int)) : (mksL o h w l).set c (.int (mkS o h l c + 1 * 2 ^ (h - 1 - o.idxOf r))) = mksL o h w (l ++ [((r : Int), (c : Int))]) := by
  refine List.ext_getElem? fun k => ?_
  rw [List.getElem?_set, mks_len]
  by_cases hk : k < w
  · rw [mks_get _ _ _ hk, mks_get _ _ _ hk, mkS_app]
    have e1 : mkS o h [((r : Int), (c : Int))] k = if (c : Int) = (k : Int) then (2 : Int) ^ (h - 1 - o.idxOf r) else 0 := by
      show (if (c : Int) = (k : Int) then (2 : Int) ^ (h - 1 - o.idxOf ((r : Int)).toNat) else 0) + 0 = _
      rw [Int.toNat_natCast]; omega
    rw [e1]
    by_cases z : c = k
    · subst z
      rw [if_pos rfl, if_pos hk, if_pos rfl, Int.one_mul]
    · rw [if_neg z, if_neg (by omega), Int.add_zero]
  · rw [List.getElem?_eq_none (by rw [mks_len]; omega), List.getElem?_eq_none (by rw [mks_len]; omega)]
    split <;> (try split) <;> first | rfl | omega
theorem mks_end {h w : Nat} {f : Nat → Nat → Bool} {o : List Nat} (ho : o.Perm (List.range h)) : mksL o h w (cellsF h w f) = (mrkL f o w).map PyData.int := by
  unfold mksL mrkL
  rw [List.map_map]
  refine List.map_congr_left fun c hc => ?_
  show PyData.int (mkS o h (cellsF h w f) c) = .int (binB (colB f o c))
  rw [mark_bin ho (List.mem_range.mp hc)]
theorem idx_ints {o : List Nat} {r : Nat} (h : r ∈ o) : (o.map fun (x : Nat) => (x : Int))[o.idxOf r]? = some (r : Int) ∧ ∀ m, m < o.idxOf r → (o.map fun (x : Nat) => (x : Int))[m]? ≠ some (r : Int) := by
  have hl := List.idxOf_lt_length_of_mem h
  refine ⟨?_, fun m hm e => ?_⟩
  · rw [List.getElem?_map, List.getElem?_eq_getElem hl, List.getElem_idxOf hl]; rfl
  · rw [List.getElem?_map, List.getElem?_eq_getElem (by omega)] at e
    have e := Option.some.inj e
    have e : o[m] = r := by have : ((o[m] : Nat) : Int) = (r : Int) := e; omega
    have := List.not_of_lt_findIdx hm
    rw [e] at this
    simp at this
theorem iN_eq (t : List Nat) : intN t = (t.map fun (y : Nat) => (y : Int)).map PyData.int := by unfold intN; rw [List.map_map]; rfl
theorem nds_N (t : List Nat) : nds (intN t) = true := by rw [iN_eq]; exact nds_ints _
theorem any_N (t : List Nat) (x : Nat) : ((intN t).any fun e => PyData.eqv e (.int (x : Int))) = decide (x ∈ t) := by
  rw [iN_eq, any_int]
  exact decide_eq_decide.mpr (by
    rw [List.mem_map]
    constructor
    · rintro ⟨y, hy, e⟩
      have e : (y : Int) = (x : Int) := e
      rw [show x = y by omega]; exact hy
    · intro hx
      exact ⟨x, hx, rfl⟩)
theorem mrk_len (f : Nat → Nat → Bool) (o : List Nat) (w : Nat) : (mrkL f o w).length = w := by unfold mrkL; rw [List.length_map, List.length_range]
section
variable {P : Program} {w : World} {K : PySem.W.Frag} {mg : Str → Option Value} {base : Heap}
theorem sc_cmk : FnScope ["board", "rows", "high", "wide", "cells", "marks", "row", "column"] ["board", "rows"] (defScope sMarks) := ⟨rfl, rfl, rfl, by decide +kernel, rfl, by decide +kernel, by decide +kernel⟩
theorem ok_cmk {f   : Addr} {fd  : FuncData} (F : Fun K "column_marks" "column_marks" sMarks f fd) (T : GlbA mg) :
    FnOk P w K mg base CX0 1 f fd ["board", "rows"] (toSp true cmkD) := by
  refine okQ true F sc_cmk (fun args R EX h => ?_) (fun cdv A outer s H E hr => ?_)
  · obtain ⟨h, w, f, o, rfl, _⟩ := h
    rfl
  · have hU := Room.u60 hr
    have hI := Room.i60 hr
    refine ⟨_, qss_cons (qs_asg (qv 0) (qg_tup rfl (qg_cons 2 (qg_cons 3 (qg_cons 4 qg_nil sc_cmk.nd rfl (by first | exact Or.inl rfl | exact Or.inr rfl)) sc_cmk.nd rfl (by first | exact Or.inl rfl | exact Or.inr rfl)) sc_cmk.nd rfl (by first | exact Or.inl rfl | exact Or.inr rfl))))
      (qss_cons (qs_setF 5 (q_bin op_mulD od_mul (q_toPF (q_lst (qa_D q_int qa_nil))) (qp 3)) sc_cmk.nd)
      (qss_cons (qs_for PassesOwn.never rfl (qi_tup (qv 4)) (qg_tup rfl (qg_cons 6 (qg_cons 7 qg_nil sc_cmk.nd rfl (by first | exact Or.inl rfl | exact Or.inr rfl)) sc_cmk.nd rfl (by first | exact Or.inl rfl | exact Or.inr rfl)))
        (qss_one (qs_augP 5 ip_add odn_ii0 (qp 7) (q_toPF (q_bin op_shl od_ii (q_toP q_int) (q_toPF (q_bin op_sub od_ii0 (q_toPF (q_bin op_sub od_ii0 (qp 2) (q_toP q_int))) (q_toPF (q_tidx (qp 1) (qp 6))))))))))
      (qss_one (qs_retO 5)))), fun args R EX h => ?_⟩
    obtain ⟨h, w, f, o, rfl, h6, w6, ho, hR⟩ := h
    refine ⟨rfl, ⟨by omega, by omega, by show 1 * _ ≤ _; omega⟩, ?_⟩
    rw [Int.toNat_natCast, mks_start o h w]
    refine for_items (fun i δ => ∃ x6 x7, δ = [.v (bdD h w (cellsF h w f)), .v (tNn o), .v (.int h), .v (.int w), .v (.tuple ((cellsF h w f).map pairD)), .own (mksL o h w ((cellsF h w f).take i)), x6, x7]) ⟨_, _, rfl⟩ ?_ ?_
    · rintro i d δ hd ⟨x6, x7, rfl⟩
      rw [List.getElem?_map] at hd
      obtain ⟨p, ep, rfl⟩ : ∃ p, (cellsF h w f)[i]? = some p ∧ d = pairD p := by
        cases e : (cellsF h w f)[i]? with
        | none => rw [e] at hd; cases hd
        | some p => rw [e] at hd; cases hd; exact ⟨p, rfl, rfl⟩
      obtain ⟨r, c, hr, hc, hf, rfl⟩ := mem_cellsF.mp (List.mem_of_getElem? ep)
      have mo : r ∈ o := ho.mem_iff.mpr (List.mem_range.mpr hr)
      obtain ⟨i1, i2⟩ := idx_ints mo
      have il := List.idxOf_lt_length_of_mem mo
      have ol : o.length = h := by rw [ho.length_eq, List.length_range]
      refine ⟨rfl, c, .int (mkS o h ((cellsF h w f).take i) c), ixN_nat (by rw [mks_len]; exact hc), mks_get _ _ _ hc, o.map fun (x : Nat) => (x : Int), (r : Int), o.idxOf r, by unfold intN; rw [List.map_map]; rfl, rfl, i1, i2, ⟨by omega, by omega, by decide⟩, .v (.int r), .v (.int c), ?_⟩
      have e1 : ((h : Int) - 1 - (o.idxOf r : Nat)).toNat = h - 1 - o.idxOf r := by omega
      rw [List.take_add_one, ep]
      show [Sl.v (bdD h w (cellsF h w f)), .v (tNn o), .v (.int h), .v (.int w), .v (.tuple ((cellsF h w f).map pairD)), .own ((mksL o h w ((cellsF h w f).take i)).set c (.int (mkS o h ((cellsF h w f).take i) c + 1 * 2 ^ ((h : Int) - 1 - (o.idxOf r : Nat)).toNat))), .v (.int r), .v (.int c)] = _
      rw [e1, mks_set]
      rfl
    · rintro δ ⟨x6, x7, rfl⟩
      rw [List.length_map, List.take_length, mks_end ho]
      exact hR
end
end Rk
namespace Rk
open PySem PySem.Spec PyProof.Rows L2 _root_.Rd
open Dl
open Rt
theorem srtQ_perm (f : Nat → Nat → Bool) (o : List Nat) (w : Nat) : (srtQ f o w).Perm (List.range w) := List.mergeSort_perm _ _
theorem srtQ_desc (f : Nat → Nat → Bool) (o : List Nat) (w : Nat) : ((srtQ f o w).map (mkO f o)).Pairwise (· ≥ ·) := by
  refine List.pairwise_map.mpr ((List.pairwise_mergeSort (fun a b c h1 h2 => ?_) (fun a b => ?_) _).imp fun {a b} h => of_decide_eq_true h)
  · have h1 := of_decide_eq_true h1
    have h2 := of_decide_eq_true h2
    exact decide_eq_true (Int.le_trans h2 h1)
  · rcases Int.le_total (mkO f o a) (mkO f o b) with z | z
    · rw [decide_eq_true z, Bool.or_true]
    · rw [decide_eq_true z, Bool.true_or]
theorem srtQ_len (f : Nat → Nat → Bool) (o : List Nat) (w : Nat) : (srtQ f o w).length = w := by rw [(srtQ_perm f o w).length_eq, List.length_range]
def binN : List Bool → Nat
  | [] => 0
  | b :: bs => (if b = true then 2 ^ bs.length else 0) + binN bs
theorem binN_lt : ∀ bs, binN bs < 2 ^ bs.length
  | [] => by decide
  | b :: bs => by
    have h := binN_lt bs
    show (if b = true then 2 ^ bs.length else 0) + binN bs < 2 ^ (bs.length + 1)
    rw [Nat.pow_succ]
    split <;> omega
theorem binB_N : ∀ bs, binB bs = (binN bs : Int)
  | [] => rfl
  | b :: bs => by
    show (if b = true then (2 : Int) ^ bs.length else 0) + binB bs = (((if b = true then 2 ^ bs.length else 0) + binN bs : Nat) : Int)
    rw [binB_N bs, Int.natCast_add]
    split
    · rw [Int.natCast_pow]; rfl
    · rfl
theorem binN_bit : ∀ (bs : List Bool) (p : Nat), p < bs.length → (binN bs).testBit (bs.length - 1 - p) = bs.getD p false
  | [], p, h => by simp at h
  | b :: bs, 0, _ => by
    have hl := binN_lt bs
    show ((if b = true then 2 ^ bs.length else 0) + binN bs).testBit (bs.length + 1 - 1 - 0) = b
    rw [Nat.add_sub_cancel, Nat.sub_zero]
    cases b
    · show (0 + binN bs).testBit bs.length = false
      rw [Nat.zero_add]; exact Nat.testBit_lt_two_pow hl
    · show (2 ^ bs.length + binN bs).testBit bs.length = true
      rw [Nat.testBit_two_pow_add_eq, Nat.testBit_lt_two_pow hl]; rfl
  | b :: bs, p + 1, h => by
    have h : p < bs.length := by simpa using h
    have e : (b :: bs).length - 1 - (p + 1) = bs.length - 1 - p := by rw [List.length_cons]; omega
    rw [e]
    show ((if b = true then 2 ^ bs.length else 0) + binN bs).testBit (bs.length - 1 - p) = bs.getD p false
    rw [← binN_bit bs p h]
    cases b
    · show (0 + binN bs).testBit _ = _
      rw [Nat.zero_add]
    · exact Nat.testBit_two_pow_add_gt (by omega) _
theorem and_mark {bs : List Bool} {p : Nat} (h6 : bs.length ≤ 6) (hp : p < bs.length) : (Builtin.bitAnd (binB bs) (1 * 2 ^ ((bs.length - 1 - p : Nat) : Int).toNat) != 0) = bs.getD p false := by
  rw [binB_N, and_bit (binN_lt bs) (by omega) h6, binN_bit bs p hp]
  cases bs.getD p false with
  | false => rfl
  | true =>
    rw [if_pos rfl]
    have := pow2_pos (bs.length - 1 - p)
    simp only [bne_iff_ne, ne_eq]
    omega
theorem colB_get {f : Nat → Nat → Bool} {o : List Nat} {c r : Nat} (hr : r < o.length) : (colB f o c).getD r false = f (o.getD r 0) c := by
  unfold colB
  rw [List.getD_eq_getElem?_getD, List.getElem?_map, List.getElem?_eq_getElem hr, List.getD_eq_getElem?_getD, List.getElem?_eq_getElem hr]; rfl
def rwG (h r : Nat) : PyData → Option PyData
  | .tuple [.int c, .int m] => if (Builtin.bitAnd m (1 * 2 ^ ((h : Int) - 1 - (0 + (r : Int))).toNat) != 0) = true then some (pairD (0 + (r : Int), c)) else none
  | _ => none
theorem rw_fm {h r w : Nat} {f : Nat → Nat → Bool} {o q : List Nat} (h6 : h ≤ 6) (ho : o.length = h) (hq : q.length = w) (hr : r < h) : (enumD ((q.map (mkO f o)).map PyData.int)).filterMap (rwG h r) = (rowF r w (ldF f o q)).map pairD := by
  unfold enumD rowF
  rw [List.length_map, List.length_map, List.filterMap_map, hq]
  refine (fm_if (p := ldF f o q r) (k := fun c : Nat => pairD ((r : Int), (c : Int))) fun c hc => ?_).trans (by rw [List.map_map]; rfl)
  have hc := List.mem_range.mp hc
  have e : ((q.map (mkO f o)).map PyData.int).getD c .none = .int (binB (colB f o (q.getD c 0))) := by
    rw [List.getD_eq_getElem?_getD, List.getElem?_map, List.getElem?_map, List.getElem?_eq_getElem (by omega), List.getD_eq_getElem?_getD, List.getElem?_eq_getElem (by omega)]; rfl
  show rwG h r (.tuple [.int c, ((q.map (mkO f o)).map PyData.int).getD c .none]) = _
  rw [e]
  show (if (Builtin.bitAnd (binB (colB f o (q.getD c 0))) (1 * 2 ^ ((h : Int) - 1 - (0 + (r : Int))).toNat) != 0) = true then some (pairD (0 + (r : Int), (c : Int))) else none) = _
  have lc : (colB f o (q.getD c 0)).length = h := by unfold colB; rw [List.length_map, ho]
  have ee : ((h : Int) - 1 - (0 + (r : Int))).toNat = (((colB f o (q.getD c 0)).length - 1 - r : Nat) : Int).toNat := by rw [lc]; omega
  rw [ee, and_mark (by omega) (by omega), colB_get (by omega), Int.zero_add]
  rfl
section
variable {P : Program} {w : World} {K : PySem.W.Frag} {mg : Str → Option Value} {base : Heap}
theorem nd_lbc1 : (["place", "column", "mark", "high", "marks"] : List Str).Nodup := by decide +kernel
theorem sc_lbc : FnScope ["board", "rows", "high", "marks", "cells"] ["board", "rows"] (defScope sLbc) := ⟨rfl, rfl, rfl, by decide +kernel, rfl, by decide +kernel, by decide +kernel⟩
theorem ok_lbc {f f1  : Addr} {fd fd1 : FuncData} (F : Fun K "least_by_columns" "least_by_columns" sLbc f fd) (T : GlbA mg)
    (m1 : mg "column_marks" = some (.ref f1)) (G1 : FnOk P w K mg base CX0 1 f1 fd1 ["board", "rows"] (toSp true cmkD)) (b1 : Binds K fd1 ["board", "rows"] []) (k1 : PySem.W.keepIn K (.ref f1) = true) :
    FnOk P w K mg base CX0 2 f fd ["board", "rows"] (toSp false lbcD) := by
  refine okQ false F sc_lbc (fun args R EX h => ?_) (fun cdv A outer s H E hr => ?_)
  · obtain ⟨h, w, f, o, rfl, _⟩ := h
    rfl
  · have hU := Room.u60 hr
    have hI := Room.i60 hr
    refine ⟨_, qss_cons (qs_set 2 (q_ix ix_any od_ix (qp 0) (q_toP q_int) (fun _ _ => rfl)) sc_lbc.nd)
      (qss_cons (qs_set 3 (q_toD (q_sortR (by rfl) T.sorted (q_toPF (q_callF G1 (hr.mono (by decide)) (by rfl) m1 k1 b1 passA (qs_v (qv 0) (qs_v (qv 1) qs_nil)))))) sc_lbc.nd)
      (qss_cons (qs_comp2 ["place", "column", "mark", "high", "marks"] [none, none, none, some 2, some 3] 4 sc_lbc.nd (gok_name 0) (qi_rng1 (by rfl) T.range (qp 2)) (fun cl ex s3 H3 C => ⟨(qg_name 0 nd_lbc1 rfl (Or.inl rfl) (Or.inr rfl)), qts_nil, (qi_enumL (by rfl) T.enumerate (qv 4)), (qg_tup rfl (qg_cons 1 (qg_cons 2 qg_nil nd_lbc1 rfl (Or.inl rfl) (Or.inr rfl)) nd_lbc1 rfl (Or.inl rfl) (Or.inr rfl))), (qts_one (qt_tru (q_toPF (q_bin op_and od_ii0 (qp 2) (q_toPF (q_bin op_shl od_ii (q_toP q_int) (q_toPF (q_bin op_sub od_ii0 (q_toPF (q_bin op_sub od_ii0 (qp 3) (q_toP q_int))) (qp 0))))))))), (q_toD (q_tup (qa_D (qv 0) (qa_D (qv 1) qa_nil))))⟩))
      (qss_one (qs_retF (q_tup (qa_D (qv 2) (qa_D (q_ix ix_any od_ix (qp 0) (q_toP q_int) (fun _ _ => rfl)) (qa_D (q_toD (q_callTy call_tuple_ofW cd_tuple (by rfl) T.tuple bt_tuple (qa_P (qp 4) qa_nil))) qa_nil)))))))), fun args R EX h => ?_⟩
    obtain ⟨h, w, f, o, rfl, h6, w6, ho, hR⟩ := h
    refine ⟨_, atI_nat (j := 0) rfl, h, w, f, o, rfl, h6, w6, ho, ?_⟩
    refine sortR_of (ints_map _) (by rw [mrk_len]; omega) fun ms pm pw => ?_
    have em : ms = (srtQ f o w).map (mkO f o) := List.Perm.eq_of_pairwise (le := (· ≥ ·)) (fun a b _ _ h1 h2 => Int.le_antisymm h2 h1) pw (srtQ_desc f o w) (pm.trans ((srtQ_perm f o w).map (mkO f o)).symm)
    subst em
    have lq := srtQ_len f o w
    have lo : o.length = h := by rw [ho.length_eq, List.length_range]
    have ec : (rngD 0 ((h : Nat) : Int).toNat).flatMap (fun d => match d with | .int r => (rowF r.toNat w (ldF f o (srtQ f o w))).map pairD | _ => []) = (cellsF h w (ldF f o (srtQ f o w))).map pairD := by
      unfold rngD cellsF
      rw [Int.toNat_natCast, List.flatMap_map, List.map_flatMap]
      have : ∀ r : Nat, (0 + (r : Int)).toNat = r := fun r => by omega
      simp only [this]
    have l36 : (cellsF h w (ldF f o (srtQ f o w))).length ≤ 36 := Nat.le_trans (cellsF_len w _ h) (Nat.mul_le_mul h6 w6)
    refine ⟨⟨by omega, by omega⟩, cm2_ofB (fun d => match d with | .int r => (rowF r.toNat w (ldF f o (srtQ f o w))).map pairD | _ => []) 36 (by rw [ec, List.length_map]; exact l36) (fun d hd acc N hb hN => ?_) ?_⟩
    · obtain ⟨r, hr⟩ := List.mem_iff_getElem?.mp hd
      obtain ⟨hrh, rfl⟩ := rng_get hr
      rw [Int.toNat_natCast] at hrh
      have hN : N (acc ++ (rowF (0 + (r : Int)).toNat w (ldF f o (srtQ f o w))).map pairD) := hN
      rw [show (0 + (r : Int)).toNat = r by omega, ← rw_fm h6 lo lq hrh] at hN
      refine in_fm (rwG h r) (by rw [enum_len, List.length_map, List.length_map, lq]; unfold lineC; omega) (fun d hd k1 k2 h1 h2 => ?_) hN
      obtain ⟨j, hj⟩ := List.mem_iff_getElem?.mp hd
      obtain ⟨e, he, rfl⟩ := enum_get hj
      obtain ⟨m, _, rfl⟩ := List.mem_map.mp (List.mem_of_getElem? he)
      have h1 : (if (Builtin.bitAnd m (1 * 2 ^ ((h : Int) - 1 - (0 + (r : Int))).toNat) != 0) = true then some (pairD (0 + (r : Int), (j : Int))) else none) = none → k1 := h1
      have h2 : ∀ e, (if (Builtin.bitAnd m (1 * 2 ^ ((h : Int) - 1 - (0 + (r : Int))).toNat) != 0) = true then some (pairD (0 + (r : Int), (j : Int))) else none) = some e → k2 e := h2
      refine ⟨rfl, ⟨by omega, by omega, by decide⟩, trivial, ?_⟩
      show if (Builtin.bitAnd m (1 * 2 ^ ((h : Int) - 1 - (0 + (r : Int))).toNat) != 0) = true then k2 (pairD (0 + (r : Int), (j : Int))) else k1
      by_cases z : (Builtin.bitAnd m (1 * 2 ^ ((h : Int) - 1 - (0 + (r : Int))).toNat) != 0) = true
      · rw [if_pos z]; exact h2 _ (if_pos z)
      · rw [if_neg z]; exact h1 (if_neg z)
    · rw [ec]
      exact ⟨_, atI_nat (j := 1) rfl, hR⟩
end
end Rk
namespace Rk
open PySem PySem.Spec PyProof.Rows L2 _root_.Rd
open Dl
open Rt
theorem self_get {q : List Nat} {w : Nat} (h : q.length = w) : (List.range w).map (fun j => q.getD j 0) = q := by
  refine List.ext_getElem? fun k => ?_
  rw [List.getElem?_map]
  by_cases y : k < w
  · rw [List.getElem?_range y, List.getElem?_eq_getElem (by omega)]
    show some (q.getD k 0) = _
    rw [List.getD_eq_getElem?_getD, List.getElem?_eq_getElem (by omega)]; rfl
  · rw [List.getElem?_eq_none (by rw [List.length_range]; omega), List.getElem?_eq_none (by omega)]; rfl
theorem cl_col {h : Nat} {f : Nat → Nat → Bool} {o q : List Nat} (ho : o.length = h) (j : Nat) : clN h (ldF f o q) j = colB f o (q.getD j 0) := by
  unfold clN colB
  conv => rhs; rw [← self_get ho]
  rw [List.map_map]; rfl
theorem cl_cols {h w : Nat} {f : Nat → Nat → Bool} {o q : List Nat} (ho : o.length = h) (hq : q.length = w) : (List.range w).map (clN h (ldF f o q)) = q.map (colB f o) := by
  conv => rhs; rw [← self_get hq]
  rw [List.map_map]
  exact List.map_congr_left fun j _ => cl_col ho j
theorem led_least {h w : Nat} {f : Nat → Nat → Bool} {o q : List Nat} (ho : o.length = h) (hq : q.Perm (List.range w)) : ltD (ldB h w f o q) (ldB h w f o (srtQ f o w)) = false := by
  have lq : q.length = w := by rw [hq.length_eq, List.length_range]
  refine bd_least ?_ fun i j hij hj => ?_
  · rw [cl_cols ho lq, cl_cols ho (srtQ_len f o w)]
    exact (hq.trans (srtQ_perm f o w).symm).map _
  · rw [cl_col ho, cl_col ho]
    have := List.pairwise_iff_getElem.mp (List.pairwise_map.mp (srtQ_desc f o w)) i j (by rw [srtQ_len]; omega) (by rw [srtQ_len]; omega) hij
    have e : ∀ k, (hk : k < w) → (srtQ f o w).getD k 0 = (srtQ f o w)[k]'(by rw [srtQ_len]; exact hk) := fun k hk => by rw [List.getD_eq_getElem?_getD, List.getElem?_eq_getElem (by rw [srtQ_len]; exact hk)]; rfl
    rw [e i (by omega), e j hj]
    exact this
theorem bd_cmp (h w : Int) (X Y : List (Int × Int)) : cmpK (bdD h w X) (bdD h w Y) = true := by
  show (true && (true && (cmpKs (X.map pairD) (Y.map pairD) && true))) = true
  rw [cmpKs_pairs]; rfl
theorem bd_dep (h w : Int) (cs : List (Int × Int)) : (bdD h w cs).depth ≤ 20 := by
  have h1 := depthAll_le (n := 1) (ds := cs.map pairD) fun d hd => by obtain ⟨p, _, rfl⟩ := List.mem_map.mp hd; exact depth_pair2 p
  show PyData.depthAll [.int h, .int w, .tuple (cs.map pairD)] + 1 ≤ 20
  have h2 := depthAll_le (n := 2) (ds := [.int h, .int w, .tuple (cs.map pairD)]) fun d hd => by
    rcases List.mem_cons.mp hd with z | z
    · rw [z]; unfold PyData.depth; omega
    rcases List.mem_cons.mp z with z | z
    · rw [z]; unfold PyData.depth; omega
    · rw [List.mem_singleton.mp z]; show PyData.depthAll (cs.map pairD) + 1 ≤ 2; omega
  omega
theorem sort_bds {h w : Int} {ds : List PyData} (hd : ∀ d ∈ ds, ∃ cs, d = bdD h w cs) : Sortable ds := ⟨fun x hx y hy => by
    obtain ⟨a, rfl⟩ := hd x hx
    obtain ⟨b, rfl⟩ := hd y hy
    exact bd_cmp h w a b, fun x hx => by
    obtain ⟨a, rfl⟩ := hd x hx
    exact bd_dep h w a⟩
def natsO : PyData → List Nat
  | .tuple es => es.map fun e => (toI e).toNat
  | _ => []
theorem natsO_N (o : List Nat) : natsO (tNn o) = o := toN_intN o
theorem ords_full (h : Nat) : List.range h ∈ ordsN h h := ords_memL (by rw [List.length_range]) List.nodup_range fun x hx => List.mem_range.mp hx
section
variable {P : Program} {w : World} {K : PySem.W.Frag} {mg : Str → Option Value} {base : Heap}
theorem nd_name1 : (["rows", "board"] : List Str).Nodup := by decide +kernel
theorem sc_name : FnScope ["board"] ["board"] (defScope sName) := ⟨rfl, rfl, rfl, by decide +kernel, rfl, by decide +kernel, by decide +kernel⟩
theorem ok_name {f f1 f2  : Addr} {fd fd1 fd2 : FuncData} (F : Fun K "name_of" "name_of" sName f fd) (T : GlbA mg)
    (m1 : mg "least_by_columns" = some (.ref f1)) (G1 : FnOk P w K mg base CX0 2 f1 fd1 ["board", "rows"] (toSp false lbcD)) (b1 : Binds K fd1 ["board", "rows"] []) (k1 : PySem.W.keepIn K (.ref f1) = true)
    (m2 : mg "all_orders" = some (.ref f2)) (G2 : FnOk P w K mg base CX0 2 f2 fd2 ["many"] (toSp true ordsD)) (b2 : Binds K fd2 ["many"] []) (k2 : PySem.W.keepIn K (.ref f2) = true) :
    FnOk P w K mg base CX0 3 f fd ["board"] (toSp false nameD) := by
  refine okQ false F sc_name (fun args R EX h => ?_) (fun cdv A outer s H E hr => ?_)
  · obtain ⟨h, w, f, rfl, _⟩ := h
    rfl
  · have hU := Room.u60 hr
    have hI := Room.i60 hr
    refine ⟨_, qss_one (qs_retF (q_callB (call_minG rfl hU) cd_minG (by rfl) T.min bt_min (qa_P (q_toPF (q_comp ["rows", "board"] [none, some 0] (qi_list (q_toPF (q_callF G2 (hr.mono (by decide)) (by rfl) m2 k2 b2 passA (qs_v (q_ix ix_any od_ix (qp 0) (q_toP q_int) (fun _ _ => rfl)) qs_nil)))) (fun cl ex s3 H3 C => ⟨(qg_name 0 nd_name1 rfl (Or.inl rfl) (Or.inr rfl)), qts_nil, (q_call G1 (hr.mono (by decide)) (by rfl) m1 k1 b1 passA (qs_v (qv 1) (qs_v (qv 0) qs_nil)))⟩))) qa_nil))), fun args R EX h => ?_⟩
    obtain ⟨h, w, f, rfl, h6, w6, hR⟩ := h
    refine ⟨_, atI_nat (j := 0) rfl, h, rfl, h6, cm_map (fun d => ldB h w f (natsO d) (srtQ f (natsO d) w)) (fun d hd k2 hk => ?_) ?_⟩
    · obtain ⟨o, ho, rfl⟩ := List.mem_map.mp hd
      have hk : k2 (ldB h w f (natsO (tNn o)) (srtQ f (natsO (tNn o)) w)) := hk
      rw [natsO_N] at hk
      exact ⟨h, w, f, o, rfl, h6, w6, ords_perm ho, hk⟩
    · have e : ((ordsN h h).map tNn).map (fun d => ldB h w f (natsO d) (srtQ f (natsO d) w)) = (ordsN h h).map fun o => ldB h w f o (srtQ f o w) := by
        rw [List.map_map]
        refine List.map_congr_left fun o _ => ?_
        show ldB h w f (natsO (tNn o)) (srtQ f (natsO (tNn o)) w) = _
        rw [natsO_N]
      rw [e]
      refine minG_of (sort_bds (h := h) (w := w) fun d hd => ?_) ?_ fun m hm hl => ?_
      · obtain ⟨o, _, rfl⟩ := List.mem_map.mp hd
        exact ⟨_, rfl⟩
      · rw [List.length_map]; exact List.length_pos_of_mem (ords_full h)
      · obtain ⟨o, ho, rfl⟩ := List.mem_map.mp hm
        exact hR o (srtQ f o w) ho (srtQ_perm f o w) fun o' q' ho' hq' => ltD_nt _ (ldB h w f o' (srtQ f o' w)) _ (hl _ (List.mem_map.mpr ⟨o', ho', rfl⟩)) (led_least (ords_len ho') hq')
end
end Rk
namespace Rk
open PySem PySem.Spec PyProof.Rows L2 _root_.Rd
open Dl
open Rt
theorem cnt_eqvI (ns : List Int) (c : Int) : ((ns.map PyData.int).countP fun e => PyData.eqv e (.int c)) = ns.count c := by
  rw [List.countP_map]; rfl
theorem eqv_two : ∀ a b : List Int, PyData.eqv (.list (a.map PyData.int)) (.list (b.map PyData.int)) = decide (a = b)
  | [], [] => rfl
  | [], _ :: _ => rfl
  | _ :: _, [] => rfl
  | x :: a, y :: b => by
    show ((x == y) && PyData.eqv (.list (a.map PyData.int)) (.list (b.map PyData.int))) = _
    rw [eqv_two a b, Bool.eq_iff_iff, Bool.and_eq_true, beq_iff_eq, decide_eq_true_eq, decide_eq_true_eq, List.cons.injEq]
theorem fct_fac : ∀ n, fctI n = (facO n : Int)
  | 0 => rfl
  | n + 1 => by
    show fctI n * ((n : Int) + 1) = (((n + 1) * facO n : Nat) : Int)
    rw [fct_fac n, Int.natCast_mul, Int.mul_comm]; rfl
theorem fold_snoc (l : List Nat) (a : Nat) : (l ++ [a]).foldr (· * ·) 1 = l.foldr (· * ·) 1 * a := by
  induction l with
  | nil => show a * 1 = 1 * a; omega
  | cons x l ih => rw [List.cons_append, List.foldr_cons, List.foldr_cons, ih, Nat.mul_assoc]
theorem fac_bd : ∀ n : Fin 7, 1 ≤ facO n ∧ facO n ≤ 720 := by decide
theorem sort_one {a b : List Int} (pa : a.Pairwise (· ≤ ·)) (pb : b.Pairwise (· ≤ ·)) (p : a.Perm b) : a = b := List.Perm.eq_of_pairwise (le := (· ≤ ·)) (fun a b _ _ h1 h2 => Int.le_antisymm h1 h2) pa pb p
def fitP (f : Nat → Nat → Bool) (h w : Nat) (o : List Nat) : Bool := (mrkL f o w).isPerm (mrkL f (List.range h) w)
theorem fit_fm {f : Nat → Nat → Bool} {h w : Nat} (L : List (List Nat)) : (L.map tNn).filterMap (fun d => if fitP f h w (natsO d) = true then some d else none) = (L.filter (fitP f h w)).map tNn := by
  rw [List.filterMap_map]
  refine fm_if (p := fitP f h w) (k := tNn) fun o _ => ?_
  show (if fitP f h w (natsO (tNn o)) = true then some (tNn o) else none) = _
  rw [natsO_N]
section
variable {P : Program} {w : World} {K : PySem.W.Frag} {mg : Str → Option Value} {base : Heap}
theorem nd_own1 : (["rows", "board", "goal"] : List Str).Nodup := by decide +kernel
theorem sc_own : FnScope ["board", "wanted", "goal", "fitting", "told", "mark"] ["board"] (defScope sOwn) := ⟨rfl, rfl, rfl, by decide +kernel, rfl, by decide +kernel, by decide +kernel⟩
theorem ok_own {f f1 f2 f3  : Addr} {fd fd1 fd2 fd3 : FuncData} (F : Fun K "own_ways" "own_ways" sOwn f fd) (T : GlbA mg)
    (m1 : mg "column_marks" = some (.ref f1)) (G1 : FnOk P w K mg base CX0 1 f1 fd1 ["board", "rows"] (toSp true cmkD)) (b1 : Binds K fd1 ["board", "rows"] []) (k1 : PySem.W.keepIn K (.ref f1) = true)
    (m2 : mg "all_orders" = some (.ref f2)) (G2 : FnOk P w K mg base CX0 2 f2 fd2 ["many"] (toSp true ordsD)) (b2 : Binds K fd2 ["many"] []) (k2 : PySem.W.keepIn K (.ref f2) = true)
    (m3 : mg "how_many_orders" = some (.ref f3)) (G3 : FnOk P w K mg base CX0 1 f3 fd3 ["many"] (toSp false ordersD)) (b3 : Binds K fd3 ["many"] []) (k3 : PySem.W.keepIn K (.ref f3) = true) :
    FnOk P w K mg base CX0 3 f fd ["board"] (toSp false ownD) := by
  refine okQ false F sc_own (fun args R EX h => ?_) (fun cdv A outer s H E hr => ?_)
  · obtain ⟨h, w, f, rfl, _⟩ := h
    rfl
  · have hU := Room.u60 hr
    have hI := Room.i60 hr
    refine ⟨_, qss_cons (qs_set 1 (q_toD (q_callF G1 (hr.mono (by decide)) (by rfl) m1 k1 b1 passA (qs_v (qv 0) (qs_v (q_toD (q_tupRng (by rfl) T.tuple (by rfl) T.range (q_toP (q_ix ix_any od_ix (qp 0) (q_toP q_int) (fun _ _ => rfl))))) qs_nil)))) sc_own.nd)
      (qss_cons (qs_set 2 (q_toD (q_callB call_sortB cd_sort (by rfl) T.sorted bt_sorted (qa_P (qp 1) qa_nil))) sc_own.nd)
      (qss_cons (qs_comp ["rows", "board", "goal"] [none, some 0, some 2] 3 sc_own.nd (qi_list (q_toPF (q_callF G2 (hr.mono (by decide)) (by rfl) m2 k2 b2 passA (qs_v (q_ix ix_any od_ix (qp 0) (q_toP q_int) (fun _ _ => rfl)) qs_nil)))) (fun cl ex s3 H3 C => ⟨(qg_name 0 nd_own1 rfl (Or.inl rfl) (Or.inr rfl)), (qts_one (qt_cmp op_eqA (od_eq hU) (q_toPF (q_callB call_sortB cd_sort (by rfl) T.sorted bt_sorted (qa_P (q_toPF (q_callF G1 (hr.mono (by decide)) (by rfl) m1 k1 b1 passA (qs_v (qv 1) (qs_v (qv 0) qs_nil)))) qa_nil))) (qp 2) (nomark _))), (qv 0)⟩))
      (qss_cons (qs_set 4 (q_toD (q_callB call_lenK cd_len (by rfl) T.len bt_len (qa_P (qp 3) qa_nil))) sc_own.nd)
      (qss_cons (qs_for PassesOwn.never rfl (qi_list (q_toD (q_sortSetI (by rfl) T.sorted (by rfl) T.set (qp 1)))) (qg_name 5 sc_own.nd rfl (by first | exact Or.inl rfl | exact Or.inr rfl))
        (qss_one (qs_aug 4 (ip_of iop_mul) odn_mul (q_toP (q_call G3 (hr.mono (by decide)) (by rfl) m3 k3 b3 passA (qs_v (q_toD (q_cnt hI (qp 1) (qp 5))) qs_nil))) sc_own.nd)))
      (qss_one (qs_ret (qv 4))))))), fun args R EX h => ?_⟩
    obtain ⟨h, w, f, rfl, h6, w6, hR⟩ := h
    have lW : (mrkL f (List.range h) w).length = w := mrk_len _ _ _
    refine ⟨_, atI_nat (j := 0) rfl, ⟨by omega, by omega⟩, h, w, f, List.range h, by rw [Int.toNat_natCast]; rfl, h6, w6, List.Perm.refl _, ?_⟩
    refine (sort_of (ints_map _) (by rw [lW]; omega) fun gs pg pw => ?_).1
    refine ⟨_, atI_nat (j := 0) rfl, h, rfl, h6, cm_fm (fun d => if fitP f h w (natsO d) = true then some d else none) (fun d hd k1 k2 h1 h2 => ?_) ?_⟩
    · obtain ⟨o, ho, rfl⟩ := List.mem_map.mp hd
      rw [natsO_N] at h1 h2
      refine ⟨h, w, f, o, rfl, h6, w6, ords_perm ho, (sort_of (ints_map _) (by rw [mrk_len]; omega) fun ms pm pw2 => ?_).1⟩
      refine ⟨⟨nds_ints _, nds_ints _, .inl (depth_ints _)⟩, ?_⟩
      show if (PyData.eqv (.list (ms.map PyData.int)) (.list (gs.map PyData.int))) = true then k2 (tNn o) else k1
      have e : decide (ms = gs) = fitP f h w o := by
        rw [Bool.eq_iff_iff, decide_eq_true_eq]
        unfold fitP
        rw [List.isPerm_iff]
        exact ⟨fun z => by rw [z] at pm; exact pm.symm.trans pg, fun z => sort_one pw2 pw (pm.trans (z.trans pg.symm))⟩
      rw [eqv_two, e]
      by_cases z : fitP f h w o = true
      · rw [if_pos z]; exact h2 _ (if_pos z)
      · rw [if_neg z]; exact h1 (if_neg z)
    · rw [fit_fm]
      have lf : (((ordsN h h).filter (fitP f h w)).map tNn).length = (ordsN h h).countP (fitP f h w) := by rw [List.length_map, List.countP_eq_length_filter]
      have nb : (ordsN h h).countP (fitP f h w) ≤ 50000 := Nat.le_trans List.countP_le_length (ords_few h6 h h6)
      have hlen : (((((ordsN h h).filter (fitP f h w)).map tNn).length : Nat) : Int) = (((ordsN h h).countP (fitP f h w) * (([] : List Int).map fun v => facO ((mrkL f (List.range h) w).count v)).foldr (· * ·) 1 : Nat) : Int) := by
        rw [lf]
        show (((ordsN h h).countP (fitP f h w) : Nat) : Int) = (((ordsN h h).countP (fitP f h w) * 1 : Nat) : Int)
        rw [Nat.mul_one]
      refine sSetI_of (mrkL f (List.range h) w) (by rw [lW]; omega) fun vs pv mv => ?_
      refine for_items (fun i δ => ∃ x5, δ = [.v (bdD h w (cellsF h w f)), .v (.list ((mrkL f (List.range h) w).map PyData.int)), .v (.list (gs.map PyData.int)), .v (.list (((ordsN h h).filter (fitP f h w)).map tNn)), .v (.int (((ordsN h h).countP (fitP f h w) * ((vs.take i).map fun v => facO ((mrkL f (List.range h) w).count v)).foldr (· * ·) 1 : Nat) : Int)), x5]) ⟨.no, ?_⟩ ?_ ?_
      · show [Sl.v (bdD h w (cellsF h w f)), .v (.list ((mrkL f (List.range h) w).map PyData.int)), .v (.list (gs.map PyData.int)), .v (.list (((ordsN h h).filter (fitP f h w)).map tNn)), .v (.int ((((ordsN h h).filter (fitP f h w)).map tNn).length : Nat)), .no] = _
        rw [hlen]; rfl
      · rintro i d δ hd ⟨x5, rfl⟩
        rw [List.getElem?_map] at hd
        obtain ⟨v, ev, rfl⟩ : ∃ v, vs[i]? = some v ∧ d = .int v := by
          cases e : vs[i]? with
          | none => rw [e] at hd; cases hd
          | some p => rw [e] at hd; cases hd; exact ⟨p, rfl, rfl⟩
        have c6 : (mrkL f (List.range h) w).count v ≤ 6 := Nat.le_trans List.count_le_length (by rw [lW]; exact w6)
        have fb := fac_bd ⟨(mrkL f (List.range h) w).count v, by omega⟩
        have ef : fctI ((((mrkL f (List.range h) w).map PyData.int).countP fun e => PyData.eqv e (.int v) : Nat) : Int).toNat = ((facO ((mrkL f (List.range h) w).count v) : Nat) : Int) := by rw [cnt_eqvI, Int.toNat_natCast, fct_fac]
        have fb2 : facO ((mrkL f (List.range h) w).count v) ≤ 720 := fb.2
        refine ⟨⟨nds_ints _, rfl, by show PyData.depth (.int _) ≤ 50; unfold PyData.depth; decide⟩, _, rfl, by omega, by rw [cnt_eqvI]; omega, .inr ⟨?_, ?_⟩, .v (.int v), ?_⟩
        · rw [ef]; omega
        · rw [ef]; omega
        · rw [List.take_add_one, ev]
          show [Sl.v (bdD h w (cellsF h w f)), .v (.list ((mrkL f (List.range h) w).map PyData.int)), .v (.list (gs.map PyData.int)), .v (.list (((ordsN h h).filter (fitP f h w)).map tNn)), .v (.int ((((ordsN h h).countP (fitP f h w) * ((vs.take i).map fun v => facO ((mrkL f (List.range h) w).count v)).foldr (· * ·) 1 : Nat) : Int) * fctI ((((mrkL f (List.range h) w).map PyData.int).countP fun e => PyData.eqv e (.int v) : Nat) : Int).toNat)), .v (.int v)] = _
          rw [ef, ← Int.natCast_mul, Nat.mul_assoc, ← fold_snoc, Option.toList_some, List.map_append]
          rfl
      · rintro δ ⟨x5, rfl⟩
        rw [List.length_map, List.take_length, ← gL_fac (pv.imp fun h => by omega) fun x hx => (mv x).mpr hx]
        exact hR
end
end Rk
namespace Rk
open PySem PySem.Spec PyProof.Rows L2 _root_.Rd
open Dl
open Rt
theorem flat_sub {α β : Type} (g : α → List β) (l : List α) (j : Nat) : ((l.take j).flatMap g).length ≤ (l.flatMap g).length := by
  conv => rhs; rw [← List.take_append_drop j l, List.flatMap_append, List.length_append]
  omega
def ledC (cs : List (Int × Int)) (cols : List Int) (r : Nat) (row : Int) : List (Int × Int) := ((List.range cols.length).filter fun c => decide ((row, cols.getD c 0) ∈ cs)).map fun (c : Nat) => ((r : Int), (c : Int))
def ledL (cs : List (Int × Int)) (rows cols : List Int) : List (Int × Int) := (List.range rows.length).flatMap fun r => ledC cs cols r (rows.getD r 0)
def ledG (cs : List (Int × Int)) (r : Int) (i : Nat) : PyData → Option PyData
  | .tuple [.int c, .int col] => if (r, col) ∈ cs then some (pairD ((i : Int), c)) else none
  | _ => none
theorem led_fm (cs : List (Int × Int)) (cols : List Int) (i : Nat) (r : Int) : (enumD (cols.map PyData.int)).filterMap (ledG cs r i) = (ledC cs cols i r).map pairD := by
  unfold enumD ledC
  rw [List.filterMap_map, List.length_map, List.map_map]
  have key : ∀ l : List Nat, (∀ j ∈ l, j < cols.length) → l.filterMap (ledG cs r i ∘ fun (j : Nat) => PyData.tuple [PyData.int j, (cols.map PyData.int).getD j .none]) = (l.filter fun c => decide ((r, cols.getD c 0) ∈ cs)).map (pairD ∘ fun (c : Nat) => ((i : Int), (c : Int))) := fun l => by
    induction l with
    | nil => intro _; rfl
    | cons j l ih =>
      intro hl
      have hj := hl j (.head _)
      have e : (cols.map PyData.int).getD j .none = PyData.int (cols.getD j 0) := by
        rw [List.getD_eq_getElem?_getD, List.getElem?_map, List.getD_eq_getElem?_getD, List.getElem?_eq_getElem hj]; rfl
      have e2 : (ledG cs r i ∘ fun (j : Nat) => PyData.tuple [PyData.int j, (cols.map PyData.int).getD j .none]) j = if (r, cols.getD j 0) ∈ cs then some (pairD ((i : Int), (j : Int))) else none := by
        show ledG cs r i (PyData.tuple [PyData.int j, (cols.map PyData.int).getD j .none]) = _
        rw [e]; rfl
      rw [List.filterMap_cons, e2]
      by_cases z : (r, cols.getD j 0) ∈ cs
      · rw [if_pos z, List.filter_cons_of_pos (by simpa using z), List.map_cons, ih fun k hk => hl k (.tail _ hk)]; rfl
      · rw [if_neg z, List.filter_cons_of_neg (by simpa using z), ih fun k hk => hl k (.tail _ hk)]
  exact key _ fun j hj => List.mem_range.mp hj
theorem ledC_len (cs : List (Int × Int)) (cols : List Int) (i : Nat) (r : Int) : (ledC cs cols i r).length ≤ cols.length := by
  unfold ledC
  rw [List.length_map]
  have := List.length_filter_le (fun c => decide ((r, cols.getD c 0) ∈ cs)) (List.range cols.length)
  rw [List.length_range] at this
  exact this
theorem ledN_len (cs : List (Int × Int)) (cols : List Int) (g : Nat → Int) : ∀ n, ((List.range n).flatMap fun r => ledC cs cols r (g r)).length ≤ n * cols.length
  | 0 => by simp
  | n + 1 => by
    rw [List.range_succ, List.flatMap_append, List.length_append]
    have h1 := ledN_len cs cols g n
    have h2 := ledC_len cs cols n (g n)
    have h3 : ([n].flatMap fun r => ledC cs cols r (g r)).length = (ledC cs cols n (g n)).length := by simp
    rw [h3, Nat.add_mul]
    omega
theorem mem_f {h w : Nat} {f : Nat → Nat → Bool} {r c : Nat} (hr : r < h) (hc : c < w) : decide (((r : Int), (c : Int)) ∈ cellsF h w f) = f r c := by
  rw [Bool.eq_iff_iff, decide_eq_true_eq, mem_cellsF]
  constructor
  · rintro ⟨r', c', _, _, hf, e⟩
    have e1 : (r : Int) = (r' : Int) := (Prod.mk.inj e).1
    have e2 : (c : Int) = (c' : Int) := (Prod.mk.inj e).2
    rw [show r = r' by omega, show c = c' by omega]; exact hf
  · intro hf
    exact ⟨r, c, hr, hc, hf, rfl⟩
theorem led_N {h w : Nat} {f : Nat → Nat → Bool} {rs ms : List Nat} (hr : ∀ x ∈ rs, x < h) (hm : ∀ x ∈ ms, x < w) : ledL (cellsF h w f) (rs.map fun (x : Nat) => (x : Int)) (ms.map fun (x : Nat) => (x : Int)) = cellsF rs.length ms.length (ldF f rs ms) := by
  have e : ledL (cellsF h w f) (rs.map fun (x : Nat) => (x : Int)) (ms.map fun (x : Nat) => (x : Int)) = cellsF (rs.map fun (x : Nat) => (x : Int)).length (ms.map fun (x : Nat) => (x : Int)).length fun r c => decide (((rs.map fun (x : Nat) => (x : Int)).getD r 0, (ms.map fun (x : Nat) => (x : Int)).getD c 0) ∈ cellsF h w f) := rfl
  rw [e, List.length_map, List.length_map]
  refine cellsF_congr fun r c hr' hc' => ?_
  have g : ∀ (l : List Nat) (i : Nat), i < l.length → (l.map fun (x : Nat) => (x : Int)).getD i 0 = ((l.getD i 0 : Nat) : Int) ∧ l.getD i 0 ∈ l := fun l i hi => by
    rw [List.getD_eq_getElem?_getD, List.getElem?_map, List.getD_eq_getElem?_getD, List.getElem?_eq_getElem hi]
    exact ⟨rfl, List.getElem_mem hi⟩
  rw [(g rs r hr').1, (g ms c hc').1, mem_f (hr _ (g rs r hr').2) (hm _ (g ms c hc').2)]
  rfl
theorem N_snoc (o : List Nat) (x : Nat) : intN (o ++ [x]) = intN o ++ [.int (x : Int)] := by unfold intN; rw [List.map_append]; rfl
def lldB : DF := fun args R _ => ∃ (h w : Nat) (f : Nat → Nat → Bool) (o q : List Nat), args = [.v (bdD h w (cellsF h w f)), .v (tNn o), .v (tNn q)] ∧ h ≤ 6 ∧ w ≤ 6 ∧ o ∈ ordsN h h ∧ q ∈ ordsN w w ∧ R (ldB h w f o q)
def lwaysD : DF := fun args R _ => ∃ m : Nat, args = [.v (.int m)] ∧ m ≤ 6 ∧ R (.int (facO m))
theorem tNn_N (o : List Nat) : tNn o = tN (o.map fun (x : Nat) => (x : Int)) := by unfold tNn tN; rw [iN_eq]
section
variable {P : Program} {w : World} {K : PySem.W.Frag} {mg : Str → Option Value} {base : Heap}
theorem nd_lords1 : (["_law_one", "_law_row"] : List Str).Nodup := by decide +kernel
theorem sc_lords : FnScope ["_law_many", "_law_found", "_law_turn", "_law_longer", "_law_row"] ["_law_many"] (defScope lOrders) := ⟨rfl, rfl, rfl, by decide +kernel, rfl, by decide +kernel, by decide +kernel⟩
theorem ok_lords {f   : Addr} {fd  : FuncData} (F : Fun K "_law_orders" "_law_orders" lOrders f fd) (T : GlbA mg) :
    FnOk P w K mg base CX0 1 f fd ["_law_many"] (toSp false ordsD) := by
  refine okQ false F sc_lords (fun args R EX h => ?_) (fun cdv A outer s H E hr => ?_)
  · obtain ⟨n, rfl, _⟩ := h
    rfl
  · have hU := Room.u60 hr
    have hI := Room.i60 hr
    refine ⟨_, qss_cons (qs_set 1 (q_toD (q_lst (qa_D (q_toD (q_tup qa_nil)) qa_nil))) sc_lords.nd)
      (qss_cons (qs_for PassesOwn.never rfl (qi_rng1 (by rfl) T.range (qp 0)) (qg_name 2 sc_lords.nd rfl (by first | exact Or.inl rfl | exact Or.inr rfl))
        (qss_cons (qs_setF 3 (q_lst qa_nil) sc_lords.nd)
      (qss_cons (qs_for PassesOwn.never rfl (qi_list (qv 1)) (qg_name 4 sc_lords.nd rfl (by first | exact Or.inl rfl | exact Or.inr rfl))
        (qss_one (qs_ext 3 (q_toPF (q_comp ["_law_one", "_law_row"] [none, some 4] (qi_rng1 (by rfl) T.range (qp 0)) (fun cl ex s3 H3 C => ⟨(qg_name 0 nd_lords1 rfl (Or.inl rfl) (Or.inr rfl)), (qts_one (qt_cmp op_notInA (od_in hI) (qp 0) (qp 1) (by rfl))), (q_toD (q_bin op_addD od_add (qp 1) (q_toPF (q_tup (qa_D (qv 0) qa_nil)))))⟩))))))
      (qss_one (qs_dem [3] (qs_set 1 (qv 3) sc_lords.nd))))))
      (qss_one (qs_ret (qv 1)))), fun args R EX h => ?_⟩
    obtain ⟨n, rfl, n6, hR⟩ := h
    refine ⟨⟨by omega, by omega⟩, for_rng (fun i δ => ∃ x2 x3 x4, δ = [.v (.int n), .v (.list ((ordsN n i).map tNn)), x2, x3, x4]) ⟨_, _, _, rfl⟩ ?_ ?_⟩
    · rintro i δ hi ⟨x2, x3, x4, rfl⟩
      rw [Int.toNat_natCast] at hi
      have fw := ords_few n6 (i + 1) (by omega)
      refine for_items (fun j δ => ∃ x4, δ = [.v (.int n), .v (.list ((ordsN n i).map tNn)), .v (.int (0 + (i : Int))), .own ((((ordsN n i).take j).flatMap fun o => (oth n o).map fun x => o ++ [x]).map tNn), x4]) ⟨_, rfl⟩ ?_ ?_
      · rintro j d δ hd ⟨x4, rfl⟩
        rw [List.getElem?_map] at hd
        obtain ⟨o, eo, rfl⟩ : ∃ o, (ordsN n i)[j]? = some o ∧ d = tNn o := by
          cases e : (ordsN n i)[j]? with
          | none => rw [e] at hd; cases hd
          | some p => rw [e] at hd; cases hd; exact ⟨p, rfl, rfl⟩
        have lo := ords_len (List.mem_of_getElem? eo)
        have l1 : (intN o).length = o.length := by unfold intN; exact List.length_map _
        refine ⟨⟨by omega, by omega⟩, cm_fm (fun d => match d with | .int x => if (!decide (x.toNat ∈ o)) = true then some (tNn (o ++ [x.toNat])) else none | _ => none) (fun d hd k1 k2 h1 h2 => ?_) ?_⟩
        · obtain ⟨x, hx⟩ := List.mem_iff_getElem?.mp hd
          obtain ⟨hx, rfl⟩ := rng_get hx
          have h1 : (if (!decide ((0 + (x : Int)).toNat ∈ o)) = true then some (tNn (o ++ [(0 + (x : Int)).toNat])) else none) = none → k1 := h1
          have h2 : ∀ e, (if (!decide ((0 + (x : Int)).toNat ∈ o)) = true then some (tNn (o ++ [(0 + (x : Int)).toNat])) else none) = some e → k2 e := h2
          rw [show (0 + (x : Int)).toNat = x by omega] at h1 h2
          refine ⟨⟨nds_N o, rfl, by show PyData.depth (.int _) ≤ 50; unfold PyData.depth; decide⟩, ?_⟩
          show if (!(intN o).any fun e => PyData.eqv e (.int (0 + (x : Int)))) = true then _ else k1
          rw [Int.zero_add, any_N]
          by_cases z : (!decide (x ∈ o)) = true
          · rw [if_pos z]
            refine ⟨by rw [l1]; show _ + 1 ≤ _; omega, ?_⟩
            have := h2 _ (if_pos z)
            rw [show tNn (o ++ [x]) = .tuple (intN o ++ [.int (x : Int)]) by unfold tNn; rw [N_snoc]] at this
            exact this
          · rw [if_neg z]; exact h1 (if_neg z)
        · have er : (rngD 0 ((n : Nat) : Int).toNat).filterMap (fun d => match d with | .int x => if (!decide (x.toNat ∈ o)) = true then some (tNn (o ++ [x.toNat])) else none | _ => none) = ((oth n o).map fun x => o ++ [x]).map tNn := by
            unfold rngD oth
            rw [Int.toNat_natCast, List.filterMap_map, List.map_map]
            refine fm_if (p := fun x => !decide (x ∈ o)) fun x _ => ?_
            show (if (!decide ((0 + (x : Int)).toNat ∈ o)) = true then some (tNn (o ++ [(0 + (x : Int)).toNat])) else none) = _
            rw [show (0 + (x : Int)).toNat = x by omega]
            rfl
          rw [er]
          have e2 : ((ordsN n i).take (j + 1)).flatMap (fun o => (oth n o).map fun x => o ++ [x]) = ((ordsN n i).take j).flatMap (fun o => (oth n o).map fun x => o ++ [x]) ++ (oth n o).map fun x => o ++ [x] := by
            rw [List.take_add_one, eo, List.flatMap_append]
            congr 1
            show [o].flatMap _ = _
            rw [List.flatMap_singleton]
          refine ⟨?_, .v (tNn o), ?_⟩
          · have := flat_sub (fun o => (oth n o).map fun x => o ++ [x]) (ordsN n i) (j + 1)
            rw [e2, List.length_append] at this
            rw [List.length_map, List.length_map]
            have e3 : (ordsN n (i + 1)).length = ((ordsN n i).flatMap fun o => (oth n o).map fun x => o ++ [x]).length := rfl
            omega
          · rw [e2, List.map_append]; rfl
      · rintro δ ⟨x4, rfl⟩
        rw [List.length_map, List.take_length]
        exact ⟨_, _, _, rfl⟩
    · rintro δ ⟨x2, x3, x4, rfl⟩
      rw [Int.toNat_natCast]
      exact hR
theorem nd_led1 : (["_law_place", "_law_column", "_law_board_here", "_law_line", "_law_row"] : List Str).Nodup := by decide +kernel
theorem sc_led : FnScope ["_law_board_here", "_law_rows", "_law_columns", "_law_cells", "_law_row", "_law_line"] ["_law_board_here", "_law_rows", "_law_columns"] (defScope lLed) := ⟨rfl, rfl, rfl, by decide +kernel, rfl, by decide +kernel, by decide +kernel⟩
theorem ok_led {f   : Addr} {fd  : FuncData} (F : Fun K "_law_led" "_law_led" lLed f fd) (T : GlbA mg) :
    FnOk P w K mg base CX0 1 f fd ["_law_board_here", "_law_rows", "_law_columns"] (toSp false lldB) := by
  refine okQ false F sc_led (fun args R EX h => ?_) (fun cdv A outer s H E hr => ?_)
  · obtain ⟨h, w, f, o, q, rfl, _⟩ := h
    rfl
  · have hU := Room.u60 hr
    have hI := Room.i60 hr
    refine ⟨_, qss_cons (qs_setF 3 (q_lst qa_nil) sc_led.nd)
      (qss_cons (qs_for PassesOwn.never rfl (qi_enumT (by rfl) T.enumerate (qv 1)) (qg_tup rfl (qg_cons 4 (qg_cons 5 qg_nil sc_led.nd rfl (by first | exact Or.inl rfl | exact Or.inr rfl)) sc_led.nd rfl (by first | exact Or.inl rfl | exact Or.inr rfl)))
        (qss_one (qs_ext 3 (q_toPF (q_comp ["_law_place", "_law_column", "_law_board_here", "_law_line", "_law_row"] [none, none, some 0, some 5, some 4] (qi_enumT (by rfl) T.enumerate (qp 2)) (fun cl ex s3 H3 C => ⟨(qg_tup rfl (qg_cons 0 (qg_cons 1 qg_nil nd_led1 rfl (Or.inl rfl) (Or.inr rfl)) nd_led1 rfl (Or.inl rfl) (Or.inr rfl))), (qts_one (qt_cmp op_inA (od_in hI) (q_toPF (q_tup (qa_D (qv 3) (qa_D (qv 1) qa_nil)))) (q_toP (q_ix ix_any od_ix (qp 2) (q_toP q_int) (fun _ _ => rfl))) (by rfl))), (q_toD (q_tup (qa_D (qv 4) (qa_D (qv 0) qa_nil))))⟩))))))
      (qss_one (qs_retF (q_tup (qa_D (q_ix ix_any od_ix (qp 0) (q_toP q_int) (fun _ _ => rfl)) (qa_D (q_ix ix_any od_ix (qp 0) (q_toP q_int) (fun _ _ => rfl)) (qa_D (q_toD (q_callTy call_tuple_ofW cd_tuple (by rfl) T.tuple bt_tuple (qa_P (qp 3) qa_nil))) qa_nil))))))), fun args R EX h => ?_⟩
    obtain ⟨h, w, f, o, q, rfl, h6, w6, ho, hq, hR⟩ := h
    have lo := ords_len ho
    have lq := ords_len hq
    have hR : R (bdD h w (ledL (cellsF h w f) (o.map fun (x : Nat) => (x : Int)) (q.map fun (x : Nat) => (x : Int)))) := by
      rw [led_N (ords_lt ho) (ords_lt hq), lo, lq]; exact hR
    rw [tNn_N, tNn_N]
    have hr : (o.map fun (x : Nat) => (x : Int)).length ≤ 6 := by rw [List.length_map]; omega
    have hc : (q.map fun (x : Nat) => (x : Int)).length ≤ 6 := by rw [List.length_map]; omega
    clear ho hq lo lq
    generalize (o.map fun (x : Nat) => (x : Int)) = rows at *
    generalize (q.map fun (x : Nat) => (x : Int)) = cols at *
    generalize cellsF h w f = cs at *
    clear h6 w6
    generalize (h : Int) = h at *
    generalize (w : Int) = w at *
    refine for_items (fun i δ => ∃ ds x4 x5, δ = [.v (bdD h w cs), .v (tN rows), .v (tN cols), .own ds, x4, x5] ∧ ds = ((List.range i).flatMap fun r => ledC cs cols r (rows.getD r 0)).map pairD) ⟨_, _, _, rfl, rfl⟩ ?_ ?_
    · rintro i d δ hd ⟨ds, x4, x5, rfl, rfl⟩
      obtain ⟨e, he, rfl⟩ := enum_get hd
      rw [List.getElem?_map] at he
      obtain ⟨r, er, rfl⟩ : ∃ r, rows[i]? = some r ∧ e = .int r := by
        cases z : rows[i]? with
        | none => rw [z] at he; cases he
        | some r => rw [z] at he; cases he; exact ⟨r, rfl, rfl⟩
      have hi : i < rows.length := (List.getElem?_eq_some_iff.mp er).1
      have eg : rows.getD i 0 = r := by rw [List.getD_eq_getElem?_getD, er]; rfl
      refine ⟨rfl, cm_fm (ledG cs r i) (fun d hd k1 k2 h1 h2 => ?_) ?_⟩
      · obtain ⟨j, hj⟩ := List.mem_iff_getElem?.mp hd
        obtain ⟨e2, he2, rfl⟩ := enum_get hj
        rw [List.getElem?_map] at he2
        obtain ⟨c, ec, rfl⟩ : ∃ c, cols[j]? = some c ∧ e2 = .int c := by
          cases z : cols[j]? with
          | none => rw [z] at he2; cases he2
          | some r => rw [z] at he2; cases he2; exact ⟨r, rfl, rfl⟩
        refine ⟨rfl, _, atI_nat (j := 2) rfl, ⟨nds_pairs cs, rfl, Nat.le_trans (depth_pair2 (r, c)) (by decide)⟩, ?_⟩
        show if ((cs.map pairD).any fun e => PyData.eqv e (pairD (r, c))) = true then k2 (pairD ((i : Int), (j : Int))) else k1
        rw [any_pair2]
        have h1 : (if (r, c) ∈ cs then some (pairD ((i : Int), (j : Int))) else none) = none → k1 := h1
        have h2 : ∀ e, (if (r, c) ∈ cs then some (pairD ((i : Int), (j : Int))) else none) = some e → k2 e := h2
        by_cases z : (r, c) ∈ cs
        · rw [if_pos (decide_eq_true z)]; exact h2 _ (if_pos z)
        · rw [if_neg (by simpa using z)]; exact h1 (if_neg z)
      · rw [led_fm]
        have l1 := ledN_len cs cols (fun r => rows.getD r 0) i
        have l2 := ledC_len cs cols i r
        have l3 : i * cols.length ≤ 6 * 6 := Nat.mul_le_mul (by omega) hc
        refine ⟨by rw [List.length_map, List.length_map]; omega, _, _, _, rfl, ?_⟩
        rw [List.range_succ, List.flatMap_append, List.map_append]
        show _ = _ ++ (List.flatMap (fun r => ledC cs cols r (rows.getD r 0)) [i]).map pairD
        rw [List.flatMap_singleton, eg]
    · rintro δ ⟨ds, x4, x5, rfl, rfl⟩
      refine ⟨_, atI_nat (j := 0) rfl, _, atI_nat (j := 1) rfl, ?_⟩
      rw [enum_len, List.length_map]
      exact hR
theorem sc_lways : FnScope ["_law_many", "_law_found", "_law_number"] ["_law_many"] (defScope lWays) := ⟨rfl, rfl, rfl, by decide +kernel, rfl, by decide +kernel, by decide +kernel⟩
theorem ok_lways {f   : Addr} {fd  : FuncData} (F : Fun K "_law_ways" "_law_ways" lWays f fd) (T : GlbA mg) :
    FnOk P w K mg base CX0 1 f fd ["_law_many"] (toSp false lwaysD) := by
  refine okQ false F sc_lways (fun args R EX h => ?_) (fun cdv A outer s H E hr => ?_)
  · obtain ⟨m, rfl, _⟩ := h
    rfl
  · have hU := Room.u60 hr
    have hI := Room.i60 hr
    refine ⟨_, qss_cons (qs_set 1 q_int sc_lways.nd)
      (qss_cons (qs_for PassesOwn.never rfl (qi_rng2 (by rfl) T.range (q_toP q_int) (q_toPF (q_bin op_addD od_add (qp 0) (q_toP q_int)))) (qg_name 2 sc_lways.nd rfl (by first | exact Or.inl rfl | exact Or.inr rfl))
        (qss_one (qs_set 1 (q_toD (q_bin op_mulD od_mul (qp 1) (qp 2))) sc_lways.nd)))
      (qss_one (qs_ret (qv 1)))), fun args R EX h => ?_⟩
    obtain ⟨m, rfl, m6, hR⟩ := h
    refine ⟨⟨by omega, by omega⟩, for_rng (fun i δ => ∃ x2, δ = [.v (.int m), .v (.int (facO i)), x2]) ⟨_, rfl⟩ ?_ ?_⟩
    · rintro i δ hi ⟨x2, rfl⟩
      have i6 : i < 6 := by omega
      have fb := fac_bd ⟨i, by omega⟩
      have fb2 : facO i ≤ 720 := fb.2
      refine ⟨.inl (.inr (by show -(2 ^ 64 : Int) < 1 + (i : Int) ∧ 1 + (i : Int) < 2 ^ 64; omega)), .v (.int (1 + (i : Int))), ?_⟩
      have e : ((facO (i + 1) : Nat) : Int) = (facO i : Int) * (1 + (i : Int)) := by
        show (((i + 1) * facO i : Nat) : Int) = _
        rw [Int.natCast_mul, Int.mul_comm, Int.natCast_add, Int.add_comm]; rfl
      rw [e]; rfl
    · rintro δ ⟨x2, rfl⟩
      have e : ((m : Int) + 1 - 1).toNat = m := by omega
      rw [e]
      exact hR
end
end Rk
namespace Rk
open PySem PySem.Spec PyProof.Rows L2 _root_.Rd
open Dl
open Rt
theorem ords720N : ∀ n : Fin 7, (ordsN n n).length ≤ 720 := by decide +kernel
theorem own_6 : ownN 6 6 (fun _ _ => false) = 720 * 720 := by decide +kernel
theorem cmp_pairs : ∀ {X Y : List (Int × Int)}, cmpDs (X.map pairD) (Y.map pairD) = .eq → X = Y
  | [], [], _ => rfl
  | [], _ :: _, h => by cases h
  | _ :: _, [], h => by cases h
  | x :: X, y :: Y, h => by
    have h : thn (cmpD (pairD x) (pairD y)) (cmpDs (X.map pairD) (Y.map pairD)) = .eq := h
    cases e : cmpD (pairD x) (pairD y) with
    | lt => rw [e] at h; cases h
    | gt => rw [e] at h; cases h
    | eq =>
      rw [e] at h
      rw [cmp_eq e, cmp_pairs (X := X) (Y := Y) h]
theorem cmp_bd {h w : Int} {X Y : List (Int × Int)} (e : cmpD (bdD h w X) (bdD h w Y) = .eq) : X = Y := by
  have ci : ∀ i : Int, cmpI i i = .eq := fun i => by unfold cmpI; rw [if_neg (by omega), if_pos rfl]
  have e : thn (cmpI h h) (thn (cmpI w w) (thn (cmpDs (X.map pairD) (Y.map pairD)) .eq)) = .eq := e
  rw [ci, ci] at e
  cases y : cmpDs (X.map pairD) (Y.map pairD) with
  | lt => rw [y] at e; cases e
  | gt => rw [y] at e; cases e
  | eq => exact cmp_pairs y
theorem bd_anti {h w : Int} {X Y : List (Int × Int)} (h1 : ltD (bdD h w X) (bdD h w Y) = false) (h2 : ltD (bdD h w Y) (bdD h w X) = false) : X = Y := by
  unfold ltD at h1 h2
  rw [cmpD_sw] at h2
  cases e : cmpD (bdD h w X) (bdD h w Y) with
  | lt => rw [e] at h1; cases h1
  | gt => rw [e] at h2; cases h2
  | eq => exact cmp_bd e
theorem bd_self (h w : Int) (X : List (Int × Int)) : cmpD (bdD h w X) (bdD h w X) = .eq := by
  cases e : cmpD (bdD h w X) (bdD h w X) with
  | eq => rfl
  | lt =>
    have := cmpD_sw (bdD h w X) (bdD h w X)
    rw [e] at this; cases this
  | gt =>
    have := cmpD_sw (bdD h w X) (bdD h w X)
    rw [e] at this; cases this
theorem bd_eqv (h w : Int) (X Y : List (Int × Int)) : PyData.eqv (bdD h w X) (bdD h w Y) = decide (X = Y) := by
  rw [eqv_lt _ _ (bd_cmp h w X Y), Bool.eq_iff_iff, decide_eq_true_eq]
  constructor
  · intro z
    cases e : cmpD (bdD h w X) (bdD h w Y) with
    | lt => rw [e] at z; cases z
    | gt => rw [e] at z; cases z
    | eq => exact cmp_bd e
  · intro z
    rw [z, bd_self]; rfl
def everyL (h w : Nat) (f : Nat → Nat → Bool) (n : Nat) : List PyData := ((ordsN h h).take n).flatMap fun o => (ordsN w w).map (ldB h w f o)
theorem every_mem {h w : Nat} {f : Nat → Nat → Bool} {n : Nat} {d : PyData} (hd : d ∈ everyL h w f n) : ∃ o q, o ∈ ordsN h h ∧ q ∈ ordsN w w ∧ d = ldB h w f o q := by
  obtain ⟨o, ho, h2⟩ := List.mem_flatMap.mp hd
  obtain ⟨q, hq, rfl⟩ := List.mem_map.mp h2
  exact ⟨o, q, List.mem_of_mem_take ho, hq, rfl⟩
theorem every_in {h w : Nat} {f : Nat → Nat → Bool} {o q : List Nat} (ho : o ∈ ordsN h h) (hq : q ∈ ordsN w w) : ldB h w f o q ∈ everyL h w f (ordsN h h).length := by
  unfold everyL
  rw [List.take_length]
  exact List.mem_flatMap.mpr ⟨o, ho, List.mem_map.mpr ⟨q, hq, rfl⟩⟩
theorem every_len {h w : Nat} {f : Nat → Nat → Bool} (h6 : h ≤ 6) (w6 : w ≤ 6) : ∀ n, n ≤ 720 → (everyL h w f n).length ≤ n * 720
  | 0, _ => by unfold everyL; rw [List.take_zero]; exact Nat.zero_le _
  | n + 1, hn => by
    have ih := every_len (f := f) h6 w6 n (by omega)
    have l1 : (ordsN w w).length ≤ 720 := ords720N ⟨w, by omega⟩
    unfold everyL at ih ⊢
    rw [List.take_add_one, List.flatMap_append, List.length_append]
    cases (ordsN h h)[n]? with
    | none => show _ + 0 ≤ _; omega
    | some o =>
      show _ + ([o].flatMap _).length ≤ _
      rw [List.flatMap_singleton, List.length_map]
      omega
theorem nd_bd (h w : Int) (cs : List (Int × Int)) : nd (bdD h w cs) = true := by
  show (true && (true && (nds (cs.map pairD) && true))) = true
  rw [nds_pairs]; rfl
theorem flat_bd {h w : Int} {cs : List (Int × Int)} (l : cs.length ≤ 1000) : flatL 3 (bdD h w cs) = true := by
  have h2 : (cs.map pairD).all (flatL 1) = true := List.all_eq_true.mpr fun d hd => by obtain ⟨p, _, rfl⟩ := List.mem_map.mp hd; rfl
  have h3 : flatL 2 (.tuple (cs.map pairD)) = true := by
    show (decide ((cs.map pairD).length ≤ 1000) && (cs.map pairD).all (flatL 1)) = true
    rw [h2, decide_eq_true (by rw [List.length_map]; exact l)]; rfl
  show (true && (true && (true && (flatL 2 (.tuple (cs.map pairD)) && true)))) = true
  rw [h3]; rfl
theorem led_board {h w : Nat} {f : Nat → Nat → Bool} {o q : List Nat} (ho : o ∈ ordsN h h) (hq : q ∈ ordsN w w) : PyData.eqv (ldB h w f o q) (bdD h w (cellsF h w f)) = fitO (mkO f o) (mkO f (List.range h)) q := by
  have lo := ords_len ho
  have lq := ords_len hq
  unfold ldB
  rw [bd_eqv, Bool.eq_iff_iff, decide_eq_true_eq, fitO_iff]
  have key : ∀ c, c < w → (mkO f o (q.getD c 0) = mkO f (List.range h) c ↔ ∀ r, r < h → ldF f o q r c = f r c) := fun c hc => by
    unfold mkO
    have l1 : (colB f o (q.getD c 0)).length = (colB f (List.range h) c).length := by unfold colB; rw [List.length_map, List.length_map, List.length_range, lo]
    constructor
    · intro e r hr
      have e := binB_inj l1 e
      have g1 := colB_get (f := f) (o := o) (c := q.getD c 0) (r := r) (by omega)
      have g2 := colB_get (f := f) (o := List.range h) (c := c) (r := r) (by rw [List.length_range]; exact hr)
      rw [e, g2] at g1
      show f (o.getD r 0) (q.getD c 0) = f r c
      rw [← g1, List.getD_eq_getElem?_getD, List.getElem?_range hr]; rfl
    · intro e
      congr 1
      rw [← cl_col (f := f) (q := q) lo c]
      unfold clN colB
      exact List.map_congr_left fun r hr => e r (List.mem_range.mp hr)
  constructor
  · intro e j hj
    refine (key j (by omega)).mpr fun r hr => ?_
    have m1 : ∀ G : Nat → Nat → Bool, (((r : Int), (j : Int)) ∈ cellsF h w G ↔ G r j = true) := fun G => by rw [← mem_f (h := h) (w := w) (f := G) hr (show j < w by omega), decide_eq_true_eq]
    rw [Bool.eq_iff_iff, ← m1, ← m1, e]
  · intro e
    exact cellsF_congr fun r c hr hc => (key c hc).mp (e c (by omega)) r hr
theorem own_total (h w : Nat) (f : Nat → Nat → Bool) : (everyL h w f (ordsN h h).length).countP (fun e => PyData.eqv e (bdD h w (cellsF h w f))) = ownN h w f := by
  unfold everyL ownN
  rw [List.take_length]
  refine count_flat fun o ho => ?_
  rw [List.countP_map]
  have e : (ordsN w w).countP ((fun e => PyData.eqv e (bdD h w (cellsF h w f))) ∘ ldB h w f o) = (ordsN w w).countP (fitO (mkO f o) (mkO f (List.range h))) := List.countP_congr fun q hq => by
    show PyData.eqv (ldB h w f o q) (bdD h w (cellsF h w f)) = true ↔ _
    rw [led_board ho hq]
  rw [e, put_ways]
  have m : ∀ o, (List.range w).map (mkO f o) = mrkL f o w := fun _ => rfl
  rw [m, m]
  by_cases z : (mrkL f o w).Perm (mrkL f (List.range h) w)
  · rw [if_pos z, if_pos (List.isPerm_iff.mpr z)]
  · rw [if_neg z, if_neg fun y => z (List.isPerm_iff.mp y)]
section
variable {P : Program} {w : World} {K : PySem.W.Frag} {mg : Str → Option Value} {base : Heap}
theorem nd_law1 : (["_law_columns", "_law_board_here", "_law_rows"] : List Str).Nodup := by decide +kernel
theorem sc_law : FnScope ["_law_script", "_law_at", "_law_pot_here", "_law_high", "_law_wide", "_law_board_here", "_law_every", "_law_rows", "_law_turn"] ["_law_script"] (defScope sLaw) := ⟨rfl, rfl, rfl, by decide +kernel, rfl, by decide +kernel, by decide +kernel⟩
theorem ok_law {f f1 f2 f3 f4 f5 f6 f7 f8 f9 f10  : Addr} {fd fd1 fd2 fd3 fd4 fd5 fd6 fd7 fd8 fd9 fd10 : FuncData} (F : Fun K "law" "law" sLaw f fd) (T : GlbA mg)
    (m1 : mg "_law_cell_at" = some (.ref f1)) (G1 : FnOk P w K mg base CX0 1 f1 fd1 ["_law_script", "_law_k"] (spCellAt K)) (b1 : Binds K fd1 ["_law_script", "_law_k"] []) (k1 : PySem.W.keepIn K (.ref f1) = true)
    (m2 : mg "_law_pot" = some (.ref f2)) (G2 : FnOk P w K mg base CX0 1 f2 fd2 ["_law_cell"] (toSp true potD)) (b2 : Binds K fd2 ["_law_cell"] []) (k2 : PySem.W.keepIn K (.ref f2) = true)
    (m3 : mg "_law_take" = some (.ref f3)) (G3 : FnOk P w K mg base CX0 1 f3 fd3 ["_law_pot_here", "_law_far"] (toSp true takeD)) (b3 : Binds K fd3 ["_law_pot_here", "_law_far"] []) (k3 : PySem.W.keepIn K (.ref f3) = true)
    (m4 : mg "_law_board" = some (.ref f4)) (G4 : FnOk P w K mg base CX0 2 f4 fd4 ["_law_pot_here", "_law_high", "_law_wide"] (toSp false lb2D)) (b4 : Binds K fd4 ["_law_pot_here", "_law_high", "_law_wide"] []) (k4 : PySem.W.keepIn K (.ref f4) = true)
    (m5 : mg "_law_orders" = some (.ref f5)) (G5 : FnOk P w K mg base CX0 1 f5 fd5 ["_law_many"] (toSp false ordsD)) (b5 : Binds K fd5 ["_law_many"] []) (k5 : PySem.W.keepIn K (.ref f5) = true)
    (m6 : mg "_law_led" = some (.ref f6)) (G6 : FnOk P w K mg base CX0 1 f6 fd6 ["_law_board_here", "_law_rows", "_law_columns"] (toSp false lldB)) (b6 : Binds K fd6 ["_law_board_here", "_law_rows", "_law_columns"] []) (k6 : PySem.W.keepIn K (.ref f6) = true)
    (m7 : mg "_law_same" = some (.ref f7)) (G7 : FnOk P w K mg base CX0 5 f7 fd7 ["_law_found", "_law_due"] (toSp false (sameD 3))) (b7 : Binds K fd7 ["_law_found", "_law_due"] []) (k7 : PySem.W.keepIn K (.ref f7) = true)
    (m8 : mg "name_of" = some (.ref f8)) (G8 : FnOk P w K mg base CX0 3 f8 fd8 ["board"] (toSp false nameD)) (b8 : Binds K fd8 ["board"] []) (k8 : PySem.W.keepIn K (.ref f8) = true)
    (m9 : mg "own_ways" = some (.ref f9)) (G9 : FnOk P w K mg base CX0 3 f9 fd9 ["board"] (toSp false ownD)) (b9 : Binds K fd9 ["board"] []) (k9 : PySem.W.keepIn K (.ref f9) = true)
    (m10 : mg "_law_ways" = some (.ref f10)) (G10 : FnOk P w K mg base CX0 1 f10 fd10 ["_law_many"] (toSp false lwaysD)) (b10 : Binds K fd10 ["_law_many"] []) (k10 : PySem.W.keepIn K (.ref f10) = true) :
    FnOk P w K mg base CX0 6 f fd ["_law_script"] (spLawD K) := by
  refine okQL F sc_law (fun cdv A outer s H E hr => ?_)
  have hU := Room.u60 hr
  have hI := Room.i60 hr
  refine ⟨_, qss_cons (qs_for PassesOwn.never rfl (qi_rng1 (by rfl) T.range (q_toPF (q_callB (call_max2 rfl) cd_max2 (by rfl) T.max bt_max (qa_P (q_toP q_int) (qa_P (q_toPF (q_callB (call_min2 rfl) cd_min2 (by rfl) T.min bt_min (qa_P (q_toPF (q_lenS 0 (by rfl) T.len)) (qa_P (q_toP q_int) qa_nil)))) qa_nil))))) (qg_name 1 sc_law.nd rfl (by first | exact Or.inl rfl | exact Or.inr rfl))
        (qss_cons (qs_setP 2 (q_callF G2 (hr.mono (by decide)) (by rfl) m2 k2 b2 passA (qs_v (q_toD (q_cell 0 G1 (hr.mono (by decide)) (by rfl) m1 k1 b1 (qp 1))) qs_nil)) sc_law.nd)
      (qss_cons (qs_asg (q_ix ix_any od_ix (q_toPF (q_lst (qa_D (q_toD (q_tup (qa_D q_int (qa_D q_int qa_nil)))) (qa_D (q_toD (q_tup (qa_D q_int (qa_D q_int qa_nil)))) (qa_D (q_toD (q_tup (qa_D q_int (qa_D q_int qa_nil)))) (qa_D (q_toD (q_tup (qa_D q_int (qa_D q_int qa_nil)))) (qa_D (q_toD (q_tup (qa_D q_int (qa_D q_int qa_nil)))) qa_nil))))))) (q_toPF (q_callF G3 (hr.mono (by decide)) (by rfl) m3 k3 b3 passA (qs_pot 2 (qs_v q_int qs_nil)))) (fun _ _ => rfl)) (qg_tup rfl (qg_cons 3 (qg_cons 4 qg_nil sc_law.nd rfl (by first | exact Or.inl rfl | exact Or.inr rfl)) sc_law.nd rfl (by first | exact Or.inl rfl | exact Or.inr rfl))))
      (qss_cons (qs_par 3 4 (qa_D (q_toD (q_bin op_addD od_add (q_toP q_int) (q_toPF (q_callF G3 (hr.mono (by decide)) (by rfl) m3 k3 b3 passA (qs_pot 2 (qs_v (qv 3) qs_nil)))))) (qa_D (q_toD (q_bin op_addD od_add (q_toP q_int) (q_toPF (q_callF G3 (hr.mono (by decide)) (by rfl) m3 k3 b3 passA (qs_pot 2 (qs_v (qv 4) qs_nil)))))) qa_nil)) sc_law.nd)
      (qss_cons (qs_set 5 (q_call G4 (hr.mono (by decide)) (by rfl) m4 k4 b4 passA (qs_pot 2 (qs_v (qv 3) (qs_v (qv 4) qs_nil)))) sc_law.nd)
      (qss_cons (qs_setF 6 (q_lst qa_nil) sc_law.nd)
      (qss_cons (qs_for PassesOwn.never rfl (qi_list (q_call G5 (hr.mono (by decide)) (by rfl) m5 k5 b5 passA (qs_v (qv 3) qs_nil))) (qg_name 7 sc_law.nd rfl (by first | exact Or.inl rfl | exact Or.inr rfl))
        (qss_one (qs_ext 6 (q_toPF (q_comp ["_law_columns", "_law_board_here", "_law_rows"] [none, some 5, some 7] (qi_list (q_toP (q_call G5 (hr.mono (by decide)) (by rfl) m5 k5 b5 passA (qs_v (qv 4) qs_nil)))) (fun cl ex s3 H3 C => ⟨(qg_name 0 nd_law1 rfl (Or.inl rfl) (Or.inr rfl)), qts_nil, (q_call G6 (hr.mono (by decide)) (by rfl) m6 k6 b6 passA (qs_v (qv 1) (qs_v (qv 2) (qs_v (qv 0) qs_nil))))⟩))))))
      (qss_one (qs_for PassesOwn.never rfl (qi_rng1 (by rfl) T.range (q_toP q_int)) (qg_name 8 sc_law.nd rfl (by first | exact Or.inl rfl | exact Or.inr rfl))
        (qss_one (qs_if (q_pw (qw_or (qt_not (qt_val (q_toPF (q_callS0 G7 (hr.mono (by decide)) (by rfl) m7 k7 b7 passA (qa_P (q_toP (q_call G8 (hr.mono (by decide)) (by rfl) m8 k8 b8 passA (qs_v (qv 5) qs_nil))) (qa_P (q_toPF (q_callB (call_minG rfl hU) cd_minG (by rfl) T.min bt_min (qa_P (qp 6) qa_nil))) qa_nil)))))) (qw_or1 (qt_not (qt_val (q_toPF (q_callS0 G7 (hr.mono (by decide)) (by rfl) m7 k7 b7 passA (qa_P (q_toP (q_call G9 (hr.mono (by decide)) (by rfl) m9 k9 b9 passA (qs_v (qv 5) qs_nil))) (qa_P (q_toPF (q_cnt hI (qp 6) (qp 5))) qa_nil))))))))) (qss_one (qs_ret q_bl)) qss_nil)))))))))))
      (qss_one (qs_retF (q_callS0 G7 (hr.mono (by decide)) (by rfl) m7 k7 b7 passA (qa_P (q_toP (q_call G9 (hr.mono (by decide)) (by rfl) m9 k9 b9 passA (qs_v (q_toD (q_tup (qa_D q_int (qa_D q_int (qa_D (q_toD (q_tup qa_nil)) qa_nil))))) qs_nil))) (qa_P (q_toPF (q_bin op_mulD od_mul (q_toP (q_call G10 (hr.mono (by decide)) (by rfl) m10 k10 b10 passA (qs_v q_int qs_nil))) (q_toP (q_call G10 (hr.mono (by decide)) (by rfl) m10 k10 b10 passA (qs_v q_int qs_nil))))) qa_nil))))), ?_⟩
  intro n0 n63
  refine ⟨⟨by split <;> split <;> omega, by split <;> split <;> omega⟩, for_rng (fun i δ => ∃ x1 x2 x3 x4 x5 x6 x7 x8, δ = [.scr, x1, x2, x3, x4, x5, x6, x7, x8]) ⟨_, _, _, _, _, _, _, _, rfl⟩ ?_ ?_⟩
  · rintro i δ hi ⟨x1, x2, x3, x4, x5, x6, x7, x8, rfl⟩
    refine ⟨by omega, fun c => ⟨c, rfl, fun n1 => ?_⟩⟩
    refine ⟨_, rfl, by decide, by decide, fun a a0 a1 => ix_of a0 a1 fun d hd => ?_⟩
    obtain ⟨x, y, rfl, x1', x6', y1', y6'⟩ := al_cons (p := fun d => ∃ x y : Int, d = .tuple [.int x, .int y] ∧ 1 ≤ x ∧ x ≤ 6 ∧ 1 ≤ y ∧ y ≤ 6) ⟨4, 4, rfl, by decide, by decide, by decide, by decide⟩ (al_cons ⟨4, 4, rfl, by decide, by decide, by decide, by decide⟩ (al_cons ⟨3, 4, rfl, by decide, by decide, by decide, by decide⟩ (al_cons ⟨6, 2, rfl, by decide, by decide, by decide, by decide⟩ (al_cons ⟨2, 6, rfl, by decide, by decide, by decide, by decide⟩ al_nil)))) d hd
    refine ⟨rfl, _, rfl, by omega, by omega, fun b b0 b1 => ⟨_, rfl, by omega, by omega, fun c c0 c1 => ?_⟩⟩
    obtain ⟨h, hh⟩ : ∃ x : Nat, 1 + b = (x : Int) := ⟨(1 + b).toNat, by omega⟩
    obtain ⟨w, hw⟩ : ∃ y : Nat, 1 + c = (y : Int) := ⟨(1 + c).toNat, by omega⟩
    refine ⟨h, w, by rw [← hh, ← hw], by omega, by omega, fun f => ?_⟩
    have h6 : h ≤ 6 := by omega
    have w6 : w ≤ 6 := by omega
    have lh : (ordsN h h).length ≤ 720 := ords720N ⟨h, by omega⟩
    have lw : (ordsN w w).length ≤ 720 := ords720N ⟨w, by omega⟩
    refine ⟨h, by rw [← hh], h6, for_items (fun j δ => ∃ x1 x7 x8, δ = [.scr, x1, .pot, .v (.int (1 + b)), .v (.int (1 + c)), .v (bdD h w (cellsF h w f)), .own (everyL h w f j), x7, x8]) ⟨_, _, _, rfl⟩ ?_ ?_⟩
    · rintro j d δ hd ⟨x1, x7, x8, rfl⟩
      rw [List.getElem?_map] at hd
      obtain ⟨o, eo, rfl⟩ : ∃ o, (ordsN h h)[j]? = some o ∧ d = tNn o := by
        cases e : (ordsN h h)[j]? with
        | none => rw [e] at hd; cases hd
        | some p => rw [e] at hd; cases hd; exact ⟨p, rfl, rfl⟩
      have mo := List.mem_of_getElem? eo
      have hj : j < (ordsN h h).length := (List.getElem?_eq_some_iff.mp eo).1
      refine ⟨w, by rw [← hw], w6, cm_map (fun d => ldB h w f o (natsO d)) (fun d hd k2 hk => ?_) ?_⟩
      · obtain ⟨q, hq, rfl⟩ := List.mem_map.mp hd
        have hk : k2 (ldB h w f o (natsO (tNn q))) := hk
        rw [natsO_N] at hk
        exact ⟨h, w, f, o, q, rfl, h6, w6, mo, hq, hk⟩
      · have e : ((ordsN w w).map tNn).map (fun d => ldB h w f o (natsO d)) = (ordsN w w).map (ldB h w f o) := by
          rw [List.map_map]
          refine List.map_congr_left fun q _ => ?_
          show ldB h w f o (natsO (tNn q)) = _
          rw [natsO_N]
        rw [e]
        have le := every_len (f := f) h6 w6 j (by omega)
        have e2 : everyL h w f (j + 1) = everyL h w f j ++ (ordsN w w).map (ldB h w f o) := by
          unfold everyL
          rw [List.take_add_one, eo, List.flatMap_append]
          congr 1
          show [o].flatMap _ = _
          rw [List.flatMap_singleton]
        refine ⟨by rw [List.length_map]; omega, x1, .v (tNn o), x8, ?_⟩
        rw [e2]; rfl
    · rintro δ ⟨x1, x7, x8, rfl⟩
      rw [List.length_map]
      refine ⟨⟨by decide, by decide⟩, for_rng (fun k δ => ∃ x1 x7 x8, δ = [.scr, x1, .pot, .v (.int (1 + b)), .v (.int (1 + c)), .v (bdD h w (cellsF h w f)), .own (everyL h w f (ordsN h h).length), x7, x8]) ⟨_, _, _, rfl⟩ ?_ ?_⟩
      · rintro k δ hk ⟨x1, x7, x8, rfl⟩
        refine ⟨h, w, f, rfl, h6, w6, fun o q ho hq hl => ?_⟩
        have mq : q ∈ ordsN w w := ords_memL (by rw [hq.length_eq, List.length_range]) (hq.nodup_iff.mpr List.nodup_range) fun x hx => List.mem_range.mp (hq.mem_iff.mp hx)
        refine minG_of (sort_bds (h := h) (w := w) fun d hd => ?_) (List.length_pos_of_mem (every_in ho mq)) fun m hm hml => ?_
        · obtain ⟨o, q, _, _, rfl⟩ := every_mem hd
          exact ⟨_, rfl⟩
        obtain ⟨o2, q2, ho2, hq2, rfl⟩ := every_mem hm
        have e : ldB h w f o2 q2 = ldB h w f o q := by
          unfold ldB
          rw [bd_anti (hl o2 q2 ho2 (ords_perm hq2)) (hml _ (every_in ho mq))]
        rw [e]
        have lc : (cellsF h w (ldF f o q)).length ≤ 36 := Nat.le_trans (cellsF_len w _ h) (Nat.mul_le_mul h6 w6)
        refine ⟨_, rfl, nd_bd _ _ _, flat_bd (by omega), rfl, ?_⟩
        refine ⟨h, w, f, rfl, h6, w6, ⟨nds_all.mpr fun d hd => ?_, nd_bd _ _ _, Nat.le_trans (bd_dep _ _ _) (by decide)⟩, .int (ownN h w f), ?_, rfl, rfl, rfl, ?_⟩
        · obtain ⟨o, q, _, _, rfl⟩ := every_mem hd
          exact nd_bd _ _ _
        · show [Sl.v (.int (ownN h w f : Nat)), .v (.int ((everyL h w f (ordsN h h).length).countP (fun e => PyData.eqv e (bdD h w (cellsF h w f))) : Nat))] = _
          rw [own_total]
        · exact ⟨_, _, _, rfl⟩
      · rintro δ ⟨x1, x7, x8, rfl⟩
        exact ⟨_, _, _, _, _, _, _, _, rfl⟩
  · rintro δ ⟨x1, x2, x3, x4, x5, x6, x7, x8, rfl⟩
    refine ⟨6, 6, fun _ _ => false, rfl, by decide, by decide, ?_⟩
    rw [own_6]
    refine ⟨6, rfl, by decide, 6, rfl, by decide, ?_⟩
    refine ⟨.inl (.inl ⟨by decide, by decide⟩), .int ((720 * 720 : Nat) : Int), rfl, rfl, rfl, rfl, ?_⟩
    rfl
end
end Rk
namespace Rk
open PySem PySem.Spec PyProof.Rows L2 _root_.Rd
def isSeqD : PyData → Bool
  | .tuple _ => true
  | .list _ => true
  | _ => false
def isLD : PyData → Bool
  | .list _ => true
  | _ => false
def isTD : PyData → Bool
  | .tuple _ => true
  | _ => false
def isBD : PyData → Bool
  | .bool _ => true
  | _ => false
def isSD : PyData → Bool
  | .str _ => true
  | _ => false
theorem ty_of {K : PySem.W.Frag} {H : Hp} : ∀ {x : V} {d : PyData}, Dat H x d → ∃ t, TyOf K H x t ∧ PySem.W.kitAny K t [.type "list", .type "tuple"] = some (isSeqD d) ∧ PySem.W.kitOne K t (.type "list") = some (isLD d) ∧ PySem.W.kitOne K t (.type "tuple") = some (isTD d) ∧
    PySem.W.kitOne K t (.type "bool") = some (isBD d) ∧ PySem.W.kitOne K t (.type "str") = some (isSD d)
  | _, _, .non => ⟨_, .non, rfl, rfl, rfl, rfl, rfl⟩
  | _, _, .bl _ => ⟨_, .bl _, rfl, rfl, rfl, rfl, rfl⟩
  | _, _, .int _ => ⟨_, .int _, rfl, rfl, rfl, rfl, rfl⟩
  | _, _, .str _ _ => ⟨_, .str _, rfl, rfl, rfl, rfl, rfl⟩
  | _, _, .tup e _ => ⟨_, .tup e, rfl, rfl, rfl, rfl, rfl⟩
  | _, _, .lst e _ => ⟨_, .lst e, rfl, rfl, rfl, rfl, rfl⟩
def spWhole : Sp := fun vs H Q _ => ∃ p x, vs = [x] ∧ Kn p H x ∧ Q (.bl (isI x)) H
section
variable {P : Program} {w : World} {K : PySem.W.Frag} {mg : Str → Option Value} {base : Heap}
theorem scWholeL : FnScope ["_law_found"] ["_law_found"] (defScope lWhole) := ⟨rfl, rfl, rfl, by decide +kernel, rfl, by decide +kernel, by decide +kernel⟩
theorem ok_wholeL {f : Addr} {fd : FuncData} (F : Fun K "_law_whole" "_law_whole" lWhole f fd) (T : GlbA mg) : FnOk P w K mg base CX0 1 f fd ["_law_found"] spWhole := by
  refine F.ok scWholeL (fun vs H Q E h => ?_) (fun cdv A outer s H vs Q E hr h => ?_)
  · obtain ⟨p, x, rfl, _⟩ := h
    rfl
  · obtain ⟨p, x, rfl, kn, k⟩ := h
    refine ⟨_, pss_one (ps_ret (pe_and (pe_callB call_isinst (by rfl) T.isinstance bt_isinstance (pa_cons (pv 0) (pa_cons (pe_bltn (v := .ty "int") (by rfl) T.int bt_int rfl) pa_nil)))
      (pe_one (pe_not (pe_callB call_isinst (by rfl) T.isinstance bt_isinstance (pa_cons (pv 0) (pa_cons (pe_bltn (v := .ty "bool") (by rfl) T.bool bt_bool rfl) pa_nil))))))), ?_⟩
    obtain ⟨t, ty, e⟩ := inst_int (K := K) kn
    obtain ⟨t2, ty2, e2⟩ := inst_bool (K := K) kn
    refine ⟨_, rfl, _, t, _, _, rfl, ty, e, _, rfl, ?_⟩
    cases x with
    | int i => exact iteT ⟨_, rfl, _, t2, _, _, rfl, ty2, e2, _, rfl, k⟩
    | bl i => exact iteT ⟨_, rfl, _, t2, _, _, rfl, ty2, e2, _, rfl, k⟩
    | _ => exact iteF k
theorem kn_dat {H : Hp} : ∀ {x : V} {d : PyData}, Dat H x d → ∃ p, Kn p H x
  | _, _, .non => ⟨0, trivial⟩
  | _, _, .bl _ => ⟨0, trivial⟩
  | _, _, .int _ => ⟨0, trivial⟩
  | _, _, .str _ _ => ⟨0, trivial⟩
  | _, _, .tup (a := a) e _ => ⟨(a + 1 : Nat), Nat.ne_of_lt (Nat.lt_succ_self a), .inl ⟨_, e⟩⟩
  | _, _, .lst (a := a) e _ => ⟨(a + 1 : Nat), Nat.ne_of_lt (Nat.lt_succ_self a), .inr (.inl ⟨_, e⟩)⟩
theorem nd_same1 : (["_law_one", "_law_other"] : List Str).Nodup := by decide +kernel
theorem sc_same : FnScope ["_law_found", "_law_due"] ["_law_found", "_law_due"] (defScope lSame) := ⟨rfl, rfl, rfl, by decide +kernel, rfl, by decide +kernel, by decide +kernel⟩
theorem ok_same {f f1 : Addr} {fd fd1 : FuncData} (F : Fun K "_law_same" "_law_same" lSame f fd) (T : GlbA mg) (mf : mg "_law_same" = some (.ref f)) (bf : Binds K fd ["_law_found", "_law_due"] []) (kf : PySem.W.keepIn K (.ref f) = true)
    (m1 : mg "_law_whole" = some (.ref f1)) (G1 : FnOk P w K mg base CX0 1 f1 fd1 ["_law_found"] spWhole) (b1 : Binds K fd1 ["_law_found"] []) (k1 : PySem.W.keepIn K (.ref f1) = true) :
    ∀ n : Nat, FnOk P w K mg base CX0 (n + 1) f fd ["_law_found", "_law_due"] (spSameL n)
  | 0 => ⟨fun _ _ _ _ h => h.elim, fun _ _ _ _ _ _ _ _ _ _ _ _ _ h => h.elim⟩
  | n + 1 => by
    have IH := ok_same F T mf bf kf m1 G1 b1 k1 n
    refine F.ok sc_same (fun vs H Q E h => ?_) (fun cdv A outer s H vs Q E hr h => ?_)
    · obtain ⟨x, y, d, rfl, _⟩ := h
      rfl
    · obtain ⟨x, y, d, rfl, qx, qy, fl, k⟩ := h
      have hr1 : Room 1 _ := hr.mono (by omega)
      refine ⟨_, pss_cons (ps_if (pt_cmpR op_isN (pv 1) pe_non (nomark _)) (pss_one (ps_ret (pe_cmpR op_isN (pv 0) pe_non (nomark _)))) pss_nil)
        (pss_cons (ps_if (pt_val (pe_callB call_isinst (by rfl) T.isinstance bt_isinstance (pa_cons (pv 1) (pa_cons (pe_bltn (v := .ty "bool") (by rfl) T.bool bt_bool rfl) pa_nil)))) (pss_one (ps_ret (pe_and (pe_callB call_isinst (by rfl) T.isinstance bt_isinstance (pa_cons (pv 0) (pa_cons (pe_bltn (v := .ty "bool") (by rfl) T.bool bt_bool rfl) pa_nil))) (pe_one (pe_cmpR op_eqU (pv 0) (pv 1) (nomark _)))))) pss_nil)
        (pss_cons (ps_if (pt_val (pe_callB call_isinst (by rfl) T.isinstance bt_isinstance (pa_cons (pv 1) (pa_cons (pe_bltn (v := .ty "int") (by rfl) T.int bt_int rfl) pa_nil)))) (pss_one (ps_ret (pe_and (pe_call G1 hr1 (by rfl) m1 k1 b1 .nil pass0 (pa_cons (pv 0) pa_nil)) (pe_one (pe_cmpR op_eqU (pv 0) (pv 1) (nomark _)))))) pss_nil)
        (pss_cons (ps_if (pt_val (pe_callB call_isinst (by rfl) T.isinstance bt_isinstance (pa_cons (pv 1) (pa_cons (pe_bltn (v := .ty "str") (by rfl) T.str bt_str rfl) pa_nil)))) (pss_one (ps_ret (pe_and (pe_callB call_isinst (by rfl) T.isinstance bt_isinstance (pa_cons (pv 0) (pa_cons (pe_bltn (v := .ty "str") (by rfl) T.str bt_str rfl) pa_nil))) (pe_one (pe_cmpR op_eqU (pv 0) (pv 1) (nomark _)))))) pss_nil)
        (pss_cons (ps_if (PW.pt (pw_or (pt_cmpR op_ne (pe_callB call_isinst (by rfl) T.isinstance bt_isinstance (pa_cons (pv 1) (pa_cons (pe_bltn (v := .ty "tuple") (by rfl) T.tuple bt_tuple rfl) pa_nil))) (pe_callB call_isinst (by rfl) T.isinstance bt_isinstance (pa_cons (pv 0) (pa_cons (pe_bltn (v := .ty "tuple") (by rfl) T.tuple bt_tuple rfl) pa_nil))) (nomark _)) (pw_or1 (pt_cmpR op_ne (pe_callB call_isinst (by rfl) T.isinstance bt_isinstance (pa_cons (pv 1) (pa_cons (pe_bltn (v := .ty "list") (by rfl) T.list bt_list rfl) pa_nil))) (pe_callB call_isinst (by rfl) T.isinstance bt_isinstance (pa_cons (pv 0) (pa_cons (pe_bltn (v := .ty "list") (by rfl) T.list bt_list rfl) pa_nil))) (nomark _))))) (pss_one (ps_ret pe_bl)) pss_nil)
        (pss_one (ps_ret (pe_and (pe_cmpR op_eq (pe_callB call_len_seq (by rfl) T.len bt_len (pa_cons (pv 0) pa_nil)) (pe_callB call_len_seq (by rfl) T.len bt_len (pa_cons (pv 1) pa_nil)) (nomark _)) (pe_one (pe_callB call_all (by rfl) T.all bt_all (pa_cons (pe_lcomp (M := ["_law_one", "_law_other"]) (cap := [none, none]) (g := (gTup K 2 (gCons (gName 0) (gCons (gName 1) gNil)))) (tc := tNoTest) (te := (tCall (spSameL n) [] E0 (tCons (tVar 0) (tCons (tVar 1) tNil)))) rfl (by rfl) (pi_or (pi_zip (by rfl) T.zip (pa_cons (pv 0) (pa_cons (pv 1) pa_nil))) (pi_zipL (by rfl) T.zip (pa_cons (pv 0) (pa_cons (pv 1) pa_nil)))) (fun cl ex s3 H3 C => ⟨(pg_tup rfl (pgs_cons (pg_name (i := 0) nd_same1 rfl (Or.inl rfl) (Or.inr rfl)) (pgs_cons (pg_name (i := 1) nd_same1 rfl (Or.inl rfl) (Or.inr rfl)) pgs_nil))), pts_nil, (pe_call IH (hr.mono (Nat.le_refl _)) (by rfl) mf kf bf .nil pass0 (pa_cons (pv 0) (pa_cons (pv 1) pa_nil)))⟩)) pa_nil)))))))))), ?_⟩
      obtain ⟨t, ty, a1, a2, a3, a4, a5⟩ := ty_of (K := K) qy
      obtain ⟨t', ty', a1', a2', a3', a4', a5'⟩ := ty_of (K := K) qx
      obtain ⟨p0, kn⟩ := kn_dat qy
      obtain ⟨tI, tyI, eI⟩ := inst_int (K := K) kn
      cases d with
      | none =>
        have hy : y = .non := by cases qy; rfl
        have hx : x = .non := by cases qx; rfl
        subst hy hx
        exact ⟨_, rfl, rfl, _, rfl, iteT ⟨_, rfl, rfl, k H (Same.refl H)⟩⟩
      | bool v =>
        have hy : y = .bl v := by cases qy; rfl
        have hx : x = .bl v := by cases qx; rfl
        subst hy hx
        refine ⟨_, rfl, rfl, _, rfl, iteF ⟨_, rfl, _, t, _, _, rfl, ty, a4, _, rfl, iteT ⟨_, rfl, _, t', _, _, rfl, ty', a4', _, rfl, iteT ?_⟩⟩⟩
        refine ⟨_, rfl, _, rfl, (PyData.bool v), (PyData.bool v), qx, qy, by rw [Nat.min_self]; show _ + PyData.depth (PyData.bool v) < cLine; rw [show PyData.depth (PyData.bool v) = 0 from by simp [PyData.depth]]; exact hr.units0, ?_⟩
        rw [SeqAt.eqv_refl (PyData.bool v) rfl]
        exact k H (Same.refl H)
      | int i =>
        have hy : y = .int i := by cases qy; rfl
        have hx : x = .int i := by cases qx; rfl
        subst hy hx
        refine ⟨_, rfl, rfl, _, rfl, iteF ⟨_, rfl, _, t, _, _, rfl, ty, a4, _, rfl, iteF ⟨_, rfl, _, tI, _, _, rfl, tyI, eI, _, rfl, iteT ⟨_, rfl, 0, .int i, rfl, trivial, _, rfl, iteT ?_⟩⟩⟩⟩
        refine ⟨_, rfl, _, rfl, .int i, .int i, qx, qy, by rw [Nat.min_self]; show _ + PyData.depth (.int i) < cLine; rw [show PyData.depth (.int i) = 0 from by simp [PyData.depth]]; exact hr.units0, ?_⟩
        rw [SeqAt.eqv_refl (.int i) rfl]
        exact k H (Same.refl H)
      | str v =>
        have cl : PyData.canLay0 (.str v) = true := by cases qy with | str _ c => exact c
        have hy : y = .str v := by cases qy; rfl
        have hx : x = .str v := by cases qx; rfl
        subst hy hx
        refine ⟨_, rfl, rfl, _, rfl, iteF ⟨_, rfl, _, t, _, _, rfl, ty, a4, _, rfl, iteF ⟨_, rfl, _, tI, _, _, rfl, tyI, eI, _, rfl, iteF ⟨_, rfl, _, t, _, _, rfl, ty, a5, _, rfl, iteT ⟨_, rfl, _, t', _, _, rfl, ty', a5', _, rfl, iteT ?_⟩⟩⟩⟩⟩
        refine ⟨_, rfl, _, rfl, (PyData.str v), (PyData.str v), qx, qy, by rw [Nat.min_self]; show _ + PyData.depth (PyData.str v) < cLine; rw [show PyData.depth (PyData.str v) = 0 from by simp [PyData.depth]]; exact hr.units0, ?_⟩
        rw [SeqAt.eqv_refl (PyData.str v) cl]
        exact k H (Same.refl H)
      | tuple ds =>
        obtain ⟨m, rfl⟩ : ∃ m, n = m + 1 := by
          cases n with
          | zero => cases fl
          | succ m => exact ⟨m, rfl⟩
        have fl' := Bool.and_eq_true_iff.mp (show (decide (ds.length ≤ 1000) && ds.all (flatL m)) = true from fl)
        have hdl : ds.length ≤ 1000 := of_decide_eq_true fl'.1
        cases qy with
        | @tup b ys _ eb qs =>
        cases qx with
        | @tup a xs _ ea ps =>
        refine ⟨_, rfl, rfl, _, rfl, iteF ⟨_, rfl, _, t, _, _, rfl, ty, a4, _, rfl, iteF ⟨_, rfl, _, tI, _, _, rfl, tyI, eI, _, rfl, iteF ⟨_, rfl, _, t, _, _, rfl, ty, a5, _, rfl, iteF ?_⟩⟩⟩⟩
        refine ⟨_, rfl, _, t, _, _, rfl, ty, a3, _, rfl, _, t', _, _, rfl, ty', a3', rfl, _, rfl, iteNS rfl ?_⟩
        refine ⟨_, rfl, _, t, _, _, rfl, ty, a2, _, rfl, _, t', _, _, rfl, ty', a2', rfl, _, rfl, iteNS rfl ?_⟩
        have hxl := ps.length
        have hyl := qs.length
        refine ⟨_, rfl, a, xs, rfl, .inr (SqT.of ea), _, rfl, b, ys, rfl, .inr (SqT.of eb), rfl, _, rfl, ?_⟩
        rw [show decide (V.int (xs.length : Nat) = V.int (ys.length : Nat)) = true from decide_eq_true (by rw [hxl, hyl])]
        refine iteT (.inl ⟨_, rfl, _, rfl, a, b, xs, ys, rfl, ea, eb, fun p hp => ?_⟩)
        refine comp_bools ds.length (lt_line hdl) (fun _ => true) hp (fun i H2 hi2 s2 => ?_) (fun H2 s2 => ?_) fun H2 s2 e2 => ?_
        · have hx : xs[i]? = some xs[i] := List.getElem?_eq_getElem (by omega)
          have hy : ys[i]? = some ys[i] := List.getElem?_eq_getElem (by omega)
          have ea2 := s2 a _ ea
          have eb2 := s2 b _ eb
          refine ⟨⟨xs, ys, _, _, ea2, eb2, hx, hy⟩, fun v H3 ⟨r, x', y', hr0, ex, ey, ev, eH⟩ kk hk => ?_⟩
          have ex' := ex xs ea2
          have ey' := ey ys eb2
          rw [hx] at ex'
          rw [hy] at ey'
          cases ex'
          cases ey'
          subst ev eH
          obtain ⟨d1, hd1, q1⟩ := ps.get i _ hx
          obtain ⟨d2, hd2, q2⟩ := qs.get i _ hy
          rw [hd1] at hd2
          cases hd2
          have fd1 : flatL m d1 = true := List.all_eq_true.mp fl'.2 d1 (List.mem_of_getElem? hd1)
          refine ⟨r, [xs[i], ys[i]], rfl, SqT.of upd_same, rfl, xs[i], [ys[i]], rfl, ys[i], [], rfl, rfl, ⟨trivial, ?_⟩⟩
          exact ⟨_, rfl, _, rfl, xs[i], ys[i], d1, rfl, (q1.same s2).same (same_upd hr0), (q2.same s2).same (same_upd hr0), fd1, fun H' s' => hk H' ((same_upd hr0).trans s')⟩
        · refine ⟨xs, ys, s2 a _ ea, s2 b _ eb, ?_⟩
          omega
        · refine ⟨p, _, rfl, SqL.of e2, rfl, ?_⟩
          have e3 : ((List.range ds.length).map fun _ => true).all id = true := by
            rw [List.all_eq_true]
            intro z hz
            obtain ⟨_, _, rfl⟩ := List.mem_map.mp hz
            rfl
          rw [e3]
          exact k H2 s2
      | list ds =>
        obtain ⟨m, rfl⟩ : ∃ m, n = m + 1 := by
          cases n with
          | zero => cases fl
          | succ m => exact ⟨m, rfl⟩
        have fl' := Bool.and_eq_true_iff.mp (show (decide (ds.length ≤ 1000) && ds.all (flatL m)) = true from fl)
        have hdl : ds.length ≤ 1000 := of_decide_eq_true fl'.1
        cases qy with
        | @lst b ys _ eb qs =>
        cases qx with
        | @lst a xs _ ea ps =>
        refine ⟨_, rfl, rfl, _, rfl, iteF ⟨_, rfl, _, t, _, _, rfl, ty, a4, _, rfl, iteF ⟨_, rfl, _, tI, _, _, rfl, tyI, eI, _, rfl, iteF ⟨_, rfl, _, t, _, _, rfl, ty, a5, _, rfl, iteF ?_⟩⟩⟩⟩
        refine ⟨_, rfl, _, t, _, _, rfl, ty, a3, _, rfl, _, t', _, _, rfl, ty', a3', rfl, _, rfl, iteNS rfl ?_⟩
        refine ⟨_, rfl, _, t, _, _, rfl, ty, a2, _, rfl, _, t', _, _, rfl, ty', a2', rfl, _, rfl, iteNS rfl ?_⟩
        have hxl := ps.length
        have hyl := qs.length
        refine ⟨_, rfl, a, xs, rfl, .inl (SqL.of ea), _, rfl, b, ys, rfl, .inl (SqL.of eb), rfl, _, rfl, ?_⟩
        rw [show decide (V.int (xs.length : Nat) = V.int (ys.length : Nat)) = true from decide_eq_true (by rw [hxl, hyl])]
        refine iteT (.inr ⟨_, rfl, _, rfl, a, b, xs, ys, rfl, ea, eb, fun p hp => ?_⟩)
        refine comp_bools ds.length (lt_line hdl) (fun _ => true) hp (fun i H2 hi2 s2 => ?_) (fun H2 s2 => ?_) fun H2 s2 e2 => ?_
        · have hx : xs[i]? = some xs[i] := List.getElem?_eq_getElem (by omega)
          have hy : ys[i]? = some ys[i] := List.getElem?_eq_getElem (by omega)
          have ea2 := s2 a _ ea
          have eb2 := s2 b _ eb
          refine ⟨⟨xs, ys, _, _, ea2, eb2, hx, hy⟩, fun v H3 ⟨r, x', y', hr0, ex, ey, ev, eH⟩ kk hk => ?_⟩
          have ex' := ex xs ea2
          have ey' := ey ys eb2
          rw [hx] at ex'
          rw [hy] at ey'
          cases ex'
          cases ey'
          subst ev eH
          obtain ⟨d1, hd1, q1⟩ := ps.get i _ hx
          obtain ⟨d2, hd2, q2⟩ := qs.get i _ hy
          rw [hd1] at hd2
          cases hd2
          have fd1 : flatL m d1 = true := List.all_eq_true.mp fl'.2 d1 (List.mem_of_getElem? hd1)
          refine ⟨r, [xs[i], ys[i]], rfl, SqT.of upd_same, rfl, xs[i], [ys[i]], rfl, ys[i], [], rfl, rfl, ⟨trivial, ?_⟩⟩
          exact ⟨_, rfl, _, rfl, xs[i], ys[i], d1, rfl, (q1.same s2).same (same_upd hr0), (q2.same s2).same (same_upd hr0), fd1, fun H' s' => hk H' ((same_upd hr0).trans s')⟩
        · refine ⟨xs, ys, s2 a _ ea, s2 b _ eb, ?_⟩
          omega
        · refine ⟨p, _, rfl, SqL.of e2, rfl, ?_⟩
          have e3 : ((List.range ds.length).map fun _ => true).all id = true := by
            rw [List.all_eq_true]
            intro z hz
            obtain ⟨_, _, rfl⟩ := List.mem_map.mp hz
            rfl
          rw [e3]
          exact k H2 s2
      | dict ds => cases qx
end
end Rk
namespace Rk
open PySem PySem.Spec PyProof.Rows L2
theorem all_mk {l : PySem.W.OpenLaw} {w : World} {K : PySem.W.Frag} {h : Heap} {mg : Str → Option Value} {fa f1 f2 f3 f4 f5 f6 f7 f8 f9 f10 f11 f12 f13 f14 f15 f16 f17 : Addr} (X : K.In h) (G : h.Ns mainGlobals mg) (hfa : mg "law" = some (.ref fa))
    {od1 an1 od2 an2 od3 an3 od4 an4 od5 an5 od6 an6 od7 an7 od8 an8 od9 an9 od10 an10 od11 an11 od12 an12 od13 an13 od14 an14 od15 an15 od16 an16 od17 an17 : Option Addr} {sl1 sl2 sl3 sl4 sl5 sl6 sl7 sl8 sl9 sl10 sl11 sl12 sl13 sl14 sl15 sl16 sl17 : Array (Option Value)} {oc1 kV1 dc1 pm1 cd1 ct1 oc2 kV2 dc2 pm2 cd2 ct2 oc3 kV3 dc3 pm3 cd3 ct3 oc4 kV4 dc4 pm4 cd4 ct4 oc5 kV5 dc5 pm5 cd5 ct5 oc6 kV6 dc6 pm6 cd6 ct6 oc7 kV7 dc7 pm7 cd7 ct7 oc8 kV8 dc8 pm8 cd8 ct8 oc9 kV9 dc9 pm9 cd9 ct9 oc10 kV10 dc10 pm10 cd10 ct10 oc11 kV11 dc11 pm11 cd11 ct11 oc12 kV12 dc12 pm12 cd12 ct12 oc13 kV13 dc13 pm13 cd13 ct13 oc14 kV14 dc14 pm14 cd14 ct14 oc15 kV15 dc15 pm15 cd15 ct15 oc16 kV16 dc16 pm16 cd16 ct16 oc17 kV17 dc17 pm17 cd17 ct17 : Value}
    (a1 : PySem.W.nsIn K mainGlobals "how_many_orders" = some (some (.ref f1))) (l1 : K.lookup f1 = some ⟨oc1, od1, .func (PySem.W.fnOf "how_many_orders" "how_many_orders" (defArgs sOrders) (defBody sOrders) (defScope sOrders) .none kV1 dc1 pm1 an1 cd1 ct1), sl1⟩) (c1 : PySem.W.codeIn K cd1 "how_many_orders" = true) (k1 : PySem.W.keepIn K (.ref f1) = true)
    (a2 : PySem.W.nsIn K mainGlobals "all_orders" = some (some (.ref f2))) (l2 : K.lookup f2 = some ⟨oc2, od2, .func (PySem.W.fnOf "all_orders" "all_orders" (defArgs sAllO) (defBody sAllO) (defScope sAllO) .none kV2 dc2 pm2 an2 cd2 ct2), sl2⟩) (c2 : PySem.W.codeIn K cd2 "all_orders" = true) (k2 : PySem.W.keepIn K (.ref f2) = true)
    (a3 : PySem.W.nsIn K mainGlobals "others" = some (some (.ref f3))) (l3 : K.lookup f3 = some ⟨oc3, od3, .func (PySem.W.fnOf "others" "others" (defArgs sOth) (defBody sOth) (defScope sOth) .none kV3 dc3 pm3 an3 cd3 ct3), sl3⟩) (c3 : PySem.W.codeIn K cd3 "others" = true) (k3 : PySem.W.keepIn K (.ref f3) = true)
    (a4 : PySem.W.nsIn K mainGlobals "column_marks" = some (some (.ref f4))) (l4 : K.lookup f4 = some ⟨oc4, od4, .func (PySem.W.fnOf "column_marks" "column_marks" (defArgs sMarks) (defBody sMarks) (defScope sMarks) .none kV4 dc4 pm4 an4 cd4 ct4), sl4⟩) (c4 : PySem.W.codeIn K cd4 "column_marks" = true) (k4 : PySem.W.keepIn K (.ref f4) = true)
    (a5 : PySem.W.nsIn K mainGlobals "name_of" = some (some (.ref f5))) (l5 : K.lookup f5 = some ⟨oc5, od5, .func (PySem.W.fnOf "name_of" "name_of" (defArgs sName) (defBody sName) (defScope sName) .none kV5 dc5 pm5 an5 cd5 ct5), sl5⟩) (c5 : PySem.W.codeIn K cd5 "name_of" = true) (k5 : PySem.W.keepIn K (.ref f5) = true)
    (a6 : PySem.W.nsIn K mainGlobals "least_by_columns" = some (some (.ref f6))) (l6 : K.lookup f6 = some ⟨oc6, od6, .func (PySem.W.fnOf "least_by_columns" "least_by_columns" (defArgs sLbc) (defBody sLbc) (defScope sLbc) .none kV6 dc6 pm6 an6 cd6 ct6), sl6⟩) (c6 : PySem.W.codeIn K cd6 "least_by_columns" = true) (k6 : PySem.W.keepIn K (.ref f6) = true)
    (a7 : PySem.W.nsIn K mainGlobals "own_ways" = some (some (.ref f7))) (l7 : K.lookup f7 = some ⟨oc7, od7, .func (PySem.W.fnOf "own_ways" "own_ways" (defArgs sOwn) (defBody sOwn) (defScope sOwn) .none kV7 dc7 pm7 an7 cd7 ct7), sl7⟩) (c7 : PySem.W.codeIn K cd7 "own_ways" = true) (k7 : PySem.W.keepIn K (.ref f7) = true)
    (a8 : PySem.W.nsIn K mainGlobals "_law_cell_at" = some (some (.ref f8))) (l8 : K.lookup f8 = some ⟨oc8, od8, .func (PySem.W.fnOf "_law_cell_at" "_law_cell_at" (defArgs lCellAt) (defBody lCellAt) (defScope lCellAt) .none kV8 dc8 pm8 an8 cd8 ct8), sl8⟩) (c8 : PySem.W.codeIn K cd8 "_law_cell_at" = true) (k8 : PySem.W.keepIn K (.ref f8) = true)
    (a9 : PySem.W.nsIn K mainGlobals "_law_pot" = some (some (.ref f9))) (l9 : K.lookup f9 = some ⟨oc9, od9, .func (PySem.W.fnOf "_law_pot" "_law_pot" (defArgs lPot) (defBody lPot) (defScope lPot) .none kV9 dc9 pm9 an9 cd9 ct9), sl9⟩) (c9 : PySem.W.codeIn K cd9 "_law_pot" = true) (k9 : PySem.W.keepIn K (.ref f9) = true)
    (a10 : PySem.W.nsIn K mainGlobals "_law_take" = some (some (.ref f10))) (l10 : K.lookup f10 = some ⟨oc10, od10, .func (PySem.W.fnOf "_law_take" "_law_take" (defArgs lTake) (defBody lTake) (defScope lTake) .none kV10 dc10 pm10 an10 cd10 ct10), sl10⟩) (c10 : PySem.W.codeIn K cd10 "_law_take" = true) (k10 : PySem.W.keepIn K (.ref f10) = true)
    (a11 : PySem.W.nsIn K mainGlobals "_law_whole" = some (some (.ref f11))) (l11 : K.lookup f11 = some ⟨oc11, od11, .func (PySem.W.fnOf "_law_whole" "_law_whole" (defArgs lWhole) (defBody lWhole) (defScope lWhole) .none kV11 dc11 pm11 an11 cd11 ct11), sl11⟩) (c11 : PySem.W.codeIn K cd11 "_law_whole" = true) (k11 : PySem.W.keepIn K (.ref f11) = true)
    (a12 : PySem.W.nsIn K mainGlobals "_law_same" = some (some (.ref f12))) (l12 : K.lookup f12 = some ⟨oc12, od12, .func (PySem.W.fnOf "_law_same" "_law_same" (defArgs lSame) (defBody lSame) (defScope lSame) .none kV12 dc12 pm12 an12 cd12 ct12), sl12⟩) (c12 : PySem.W.codeIn K cd12 "_law_same" = true) (k12 : PySem.W.keepIn K (.ref f12) = true)
    (a13 : PySem.W.nsIn K mainGlobals "_law_board" = some (some (.ref f13))) (l13 : K.lookup f13 = some ⟨oc13, od13, .func (PySem.W.fnOf "_law_board" "_law_board" (defArgs lBoard) (defBody lBoard) (defScope lBoard) .none kV13 dc13 pm13 an13 cd13 ct13), sl13⟩) (c13 : PySem.W.codeIn K cd13 "_law_board" = true) (k13 : PySem.W.keepIn K (.ref f13) = true)
    (a14 : PySem.W.nsIn K mainGlobals "_law_orders" = some (some (.ref f14))) (l14 : K.lookup f14 = some ⟨oc14, od14, .func (PySem.W.fnOf "_law_orders" "_law_orders" (defArgs lOrders) (defBody lOrders) (defScope lOrders) .none kV14 dc14 pm14 an14 cd14 ct14), sl14⟩) (c14 : PySem.W.codeIn K cd14 "_law_orders" = true) (k14 : PySem.W.keepIn K (.ref f14) = true)
    (a15 : PySem.W.nsIn K mainGlobals "_law_ways" = some (some (.ref f15))) (l15 : K.lookup f15 = some ⟨oc15, od15, .func (PySem.W.fnOf "_law_ways" "_law_ways" (defArgs lWays) (defBody lWays) (defScope lWays) .none kV15 dc15 pm15 an15 cd15 ct15), sl15⟩) (c15 : PySem.W.codeIn K cd15 "_law_ways" = true) (k15 : PySem.W.keepIn K (.ref f15) = true)
    (a16 : PySem.W.nsIn K mainGlobals "_law_led" = some (some (.ref f16))) (l16 : K.lookup f16 = some ⟨oc16, od16, .func (PySem.W.fnOf "_law_led" "_law_led" (defArgs lLed) (defBody lLed) (defScope lLed) .none kV16 dc16 pm16 an16 cd16 ct16), sl16⟩) (c16 : PySem.W.codeIn K cd16 "_law_led" = true) (k16 : PySem.W.keepIn K (.ref f16) = true)
    (a17 : PySem.W.nsIn K mainGlobals "law" = some (some (.ref f17))) (l17 : K.lookup f17 = some ⟨oc17, od17, .func (PySem.W.fnOf "law" "law" (defArgs sLaw) (defBody sLaw) (defScope sLaw) .none kV17 dc17 pm17 an17 cd17 ct17), sl17⟩) (c17 : PySem.W.codeIn K cd17 "law" = true) (k17 : PySem.W.keepIn K (.ref f17) = true)
    (z1 : PySem.W.nsIn K mainGlobals "isinstance" = some none)
    (z2 : PySem.W.nsIn K mainGlobals "int" = some none)
    (z3 : PySem.W.nsIn K mainGlobals "bool" = some none)
    (z4 : PySem.W.nsIn K mainGlobals "str" = some none)
    (z5 : PySem.W.nsIn K mainGlobals "tuple" = some none)
    (z6 : PySem.W.nsIn K mainGlobals "list" = some none)
    (z7 : PySem.W.nsIn K mainGlobals "all" = some none)
    (z8 : PySem.W.nsIn K mainGlobals "len" = some none)
    (z9 : PySem.W.nsIn K mainGlobals "zip" = some none)
    (z10 : PySem.W.nsIn K mainGlobals "enumerate" = some none)
    (z11 : PySem.W.nsIn K mainGlobals "range" = some none)
    (z12 : PySem.W.nsIn K mainGlobals "max" = some none)
    (z13 : PySem.W.nsIn K mainGlobals "min" = some none)
    (z14 : PySem.W.nsIn K mainGlobals "sorted" = some none)
    (z15 : PySem.W.nsIn K mainGlobals "sum" = some none)
    (z16 : PySem.W.nsIn K mainGlobals "set" = some none)
    (z17 : PySem.W.nsIn K mainGlobals "any" = some none)
    (z18 : PySem.W.nsIn K mainGlobals "reversed" = some none)
    (z19 : PySem.W.nsIn K mainGlobals "divmod" = some none)
    :
    ∃ fd : FuncData, (∀ (s : Shared) (v : Value), BindsTo s fd ⟨[v], []⟩ [("_law_script", v)]) ∧ ∀ base : Heap, K.In base → base.Ns mainGlobals mg → FnOk l.prog w K mg base CX0 6 fa fd ["_law_script"] (Dl.spLawD K) := by
  have e := hfa.symm.trans (PySem.W.mg_of X G a17)
  cases e
  have T := (⟨(PySem.W.mg_none_of X G z1), (PySem.W.mg_none_of X G z2), (PySem.W.mg_none_of X G z3), (PySem.W.mg_none_of X G z4), (PySem.W.mg_none_of X G z5), (PySem.W.mg_none_of X G z6), (PySem.W.mg_none_of X G z7), (PySem.W.mg_none_of X G z8), (PySem.W.mg_none_of X G z9), (PySem.W.mg_none_of X G z10), (PySem.W.mg_none_of X G z11), (PySem.W.mg_none_of X G z12), (PySem.W.mg_none_of X G z13), (PySem.W.mg_none_of X G z14), (PySem.W.mg_none_of X G z15), (PySem.W.mg_none_of X G z16), (PySem.W.mg_none_of X G z17), (PySem.W.mg_none_of X G z18), (PySem.W.mg_none_of X G z19)⟩ : GlbA mg)
  have F1 := fun_mk (st := sOrders) l1 c1 k1
  have b1 := F1.binds (ps := ["many"]) fun _ _ _ _ _ _ us hl => match us, hl with | [_], _ => rfl
  have m1 := PySem.W.mg_of X G a1
  have F2 := fun_mk (st := sAllO) l2 c2 k2
  have b2 := F2.binds (ps := ["many"]) fun _ _ _ _ _ _ us hl => match us, hl with | [_], _ => rfl
  have m2 := PySem.W.mg_of X G a2
  have F3 := fun_mk (st := sOth) l3 c3 k3
  have b3 := F3.binds (ps := ["many", "numbers"]) fun _ _ _ _ _ _ us hl => match us, hl with | [_, _], _ => rfl
  have m3 := PySem.W.mg_of X G a3
  have F4 := fun_mk (st := sMarks) l4 c4 k4
  have b4 := F4.binds (ps := ["board", "rows"]) fun _ _ _ _ _ _ us hl => match us, hl with | [_, _], _ => rfl
  have m4 := PySem.W.mg_of X G a4
  have F5 := fun_mk (st := sName) l5 c5 k5
  have b5 := F5.binds (ps := ["board"]) fun _ _ _ _ _ _ us hl => match us, hl with | [_], _ => rfl
  have m5 := PySem.W.mg_of X G a5
  have F6 := fun_mk (st := sLbc) l6 c6 k6
  have b6 := F6.binds (ps := ["board", "rows"]) fun _ _ _ _ _ _ us hl => match us, hl with | [_, _], _ => rfl
  have m6 := PySem.W.mg_of X G a6
  have F7 := fun_mk (st := sOwn) l7 c7 k7
  have b7 := F7.binds (ps := ["board"]) fun _ _ _ _ _ _ us hl => match us, hl with | [_], _ => rfl
  have m7 := PySem.W.mg_of X G a7
  have F8 := fun_mk (st := lCellAt) l8 c8 k8
  have b8 := F8.binds (ps := ["_law_script", "_law_k"]) fun _ _ _ _ _ _ us hl => match us, hl with | [_, _], _ => rfl
  have m8 := PySem.W.mg_of X G a8
  have F9 := fun_mk (st := lPot) l9 c9 k9
  have b9 := F9.binds (ps := ["_law_cell"]) fun _ _ _ _ _ _ us hl => match us, hl with | [_], _ => rfl
  have m9 := PySem.W.mg_of X G a9
  have F10 := fun_mk (st := lTake) l10 c10 k10
  have b10 := F10.binds (ps := ["_law_pot_here", "_law_far"]) fun _ _ _ _ _ _ us hl => match us, hl with | [_, _], _ => rfl
  have m10 := PySem.W.mg_of X G a10
  have F11 := fun_mk (st := lWhole) l11 c11 k11
  have b11 := F11.binds (ps := ["_law_found"]) fun _ _ _ _ _ _ us hl => match us, hl with | [_], _ => rfl
  have m11 := PySem.W.mg_of X G a11
  have F12 := fun_mk (st := lSame) l12 c12 k12
  have b12 := F12.binds (ps := ["_law_found", "_law_due"]) fun _ _ _ _ _ _ us hl => match us, hl with | [_, _], _ => rfl
  have m12 := PySem.W.mg_of X G a12
  have F13 := fun_mk (st := lBoard) l13 c13 k13
  have b13 := F13.binds (ps := ["_law_pot_here", "_law_high", "_law_wide"]) fun _ _ _ _ _ _ us hl => match us, hl with | [_, _, _], _ => rfl
  have m13 := PySem.W.mg_of X G a13
  have F14 := fun_mk (st := lOrders) l14 c14 k14
  have b14 := F14.binds (ps := ["_law_many"]) fun _ _ _ _ _ _ us hl => match us, hl with | [_], _ => rfl
  have m14 := PySem.W.mg_of X G a14
  have F15 := fun_mk (st := lWays) l15 c15 k15
  have b15 := F15.binds (ps := ["_law_many"]) fun _ _ _ _ _ _ us hl => match us, hl with | [_], _ => rfl
  have m15 := PySem.W.mg_of X G a15
  have F16 := fun_mk (st := lLed) l16 c16 k16
  have b16 := F16.binds (ps := ["_law_board_here", "_law_rows", "_law_columns"]) fun _ _ _ _ _ _ us hl => match us, hl with | [_, _, _], _ => rfl
  have m16 := PySem.W.mg_of X G a16
  have F17 := fun_mk (st := sLaw) l17 c17 k17
  refine ⟨PySem.W.fnOf "law" "law" (defArgs sLaw) (defBody sLaw) (defScope sLaw) .none kV17 dc17 pm17 an17 cd17 ct17, fun s v => .of_eq rfl, fun base _ _ => ?_⟩
  have G1 : FnOk l.prog w K mg base CX0 1 f1 _ ["many"] (Dl.toSp false ordersD) := ok_orders F1 T 
  have G3 : FnOk l.prog w K mg base CX0 1 f3 _ ["many", "numbers"] (Dl.toSp false othD) := ok_oth F3 T 
  have G2 : FnOk l.prog w K mg base CX0 2 f2 _ ["many"] (Dl.toSp true ordsD) := ok_allo F2 T m3 G3 b3 k3
  have G4 : FnOk l.prog w K mg base CX0 1 f4 _ ["board", "rows"] (Dl.toSp true cmkD) := ok_cmk F4 T 
  have G6 : FnOk l.prog w K mg base CX0 2 f6 _ ["board", "rows"] (Dl.toSp false lbcD) := ok_lbc F6 T m4 G4 b4 k4
  have G5 : FnOk l.prog w K mg base CX0 3 f5 _ ["board"] (Dl.toSp false nameD) := ok_name F5 T m6 G6 b6 k6 m2 G2 b2 k2
  have G7 : FnOk l.prog w K mg base CX0 3 f7 _ ["board"] (Dl.toSp false ownD) := ok_own F7 T m4 G4 b4 k4 m2 G2 b2 k2 m1 G1 b1 k1
  have G8 : FnOk l.prog w K mg base CX0 1 f8 _ ["_law_script", "_law_k"] (spCellAt K) := ok_cellAt F8 T 
  have G9 : FnOk l.prog w K mg base CX0 1 f9 _ ["_law_cell"] (Dl.toSp true Dl.potD) := (ok_pot F9 T).imp fun _ _ _ _ h => Dl.pot_d h
  have G10 : FnOk l.prog w K mg base CX0 1 f10 _ ["_law_pot_here", "_law_far"] (Dl.toSp true Dl.takeD) := (ok_take F10 T).imp fun _ _ _ _ h => Dl.take_d h
  have G11 : FnOk l.prog w K mg base CX0 1 f11 _ ["_law_found"] (Dl.toSp false Dl.wholeD) := ok_lwhole F11 T 
  have G12 : FnOk l.prog w K mg base CX0 5 f12 _ ["_law_found", "_law_due"] (Dl.toSp false (Dl.sameD 3)) := (ok_same F12 T m12 b12 k12 m11 (ok_wholeL F11 T) b11 k11 4).imp fun _ _ _ _ h => Dl.same_d h
  have G13 : FnOk l.prog w K mg base CX0 2 f13 _ ["_law_pot_here", "_law_high", "_law_wide"] (Dl.toSp false lb2D) := ok_lboard F13 T m10 G10 b10 k10
  have G14 : FnOk l.prog w K mg base CX0 1 f14 _ ["_law_many"] (Dl.toSp false ordsD) := ok_lords F14 T 
  have G16 : FnOk l.prog w K mg base CX0 1 f16 _ ["_law_board_here", "_law_rows", "_law_columns"] (Dl.toSp false lldB) := ok_led F16 T 
  have G15 : FnOk l.prog w K mg base CX0 1 f15 _ ["_law_many"] (Dl.toSp false lwaysD) := ok_lways F15 T 
  exact ok_law F17 T m8 G8 b8 k8 m9 G9 b9 k9 m10 G10 b10 k10 m13 G13 b13 k13 m14 G14 b14 k14 m16 G16 b16 k16 m12 G12 b12 k12 m5 G5 b5 k5 m7 G7 b7 k7 m15 G15 b15 k15
theorem walk {l : PySem.W.OpenLaw} {q : Program} {loose : List Str} {XP : (Str → Option Value) → Heap → Prop} {YP : World → Heap → Prop} {d : DefRec} {K : Params → PySem.W.Frag} (hn : l.most = some 63) (hdf : d.params.defaults = [])
    (hY : ∀ (w : World) (h : Heap), YP w h → (K w.params).In h)
    (F : ∀ (w : World) (mg : Str → Option Value) (fa : Addr) (h : Heap), (K w.params).In h → h.Ns mainGlobals mg → mg d.name = some (.ref fa) →
      ∃ fd : FuncData, (∀ (s : Shared) (u : Value), BindsTo s fd ⟨[u], []⟩ [("_law_script", u)]) ∧ ∀ base : Heap, (K w.params).In base → base.Ns mainGlobals mg → FnOk l.prog w (K w.params) mg base CX0 6 fa fd ["_law_script"] (Dl.spLawD (K w.params))) :
    PySem.W.WalkO q loose XP YP l.row.toRowW d [] (fun f vs => PySem.call f vs) :=
  L2.walk_of (n := 63) (k := 6) (x := "_law_script") (CX := fun _ => CX0) (sp := fun w => (Dl.spLawD (K w.params))) hn (by decide) hdf ⟨rfl, by decide, by decide⟩ hY F (fun _ _ a ns hl _ hS => ⟨a, ns, rfl, hS, hl, fun _ => rfl⟩) fun _ _ _ _ _ z => z
end Rk
open PySem PySem.W PyProof.Rows
set_option maxRecDepth 100000 in
set_option maxHeartbeats 0 in
theorem PySem.Challenge.cw_rooklands_k87_names_and_own_ways_holds : PySem.Challenge.rw_rooklands_k87_names_and_own_ways.Holds := by
  w_on; o_law; k_head; (case hw => w_witness2)
  k_fill
  refine Rk.walk (l := PySem.Challenge.rw_rooklands_k87_names_and_own_ways) rfl rfl (fun w h Y => PySem.W.kIn_of Y) ?F
  case F =>
    intro w mg fa h KX G hmg
    refine' Rk.all_mk KX G hmg ?a1 ?l1 ?c1 ?k1 ?a2 ?l2 ?c2 ?k2 ?a3 ?l3 ?c3 ?k3 ?a4 ?l4 ?c4 ?k4 ?a5 ?l5 ?c5 ?k5 ?a6 ?l6 ?c6 ?k6 ?a7 ?l7 ?c7 ?k7 ?a8 ?l8 ?c8 ?k8 ?a9 ?l9 ?c9 ?k9 ?a10 ?l10 ?c10 ?k10 ?a11 ?l11 ?c11 ?k11 ?a12 ?l12 ?c12 ?k12 ?a13 ?l13 ?c13 ?k13 ?a14 ?l14 ?c14 ?k14 ?a15 ?l15 ?c15 ?k15 ?a16 ?l16 ?c16 ?k16 ?a17 ?l17 ?c17 ?k17 ?z1 ?z2 ?z3 ?z4 ?z5 ?z6 ?z7 ?z8 ?z9 ?z10 ?z11 ?z12 ?z13 ?z14 ?z15 ?z16 ?z17 ?z18 ?z19
    (case a1 => k_is)
    (case l1 => k_is)
    (case c1 => k_is)
    (case k1 => k_is)
    (case a2 => k_is)
    (case l2 => k_is)
    (case c2 => k_is)
    (case k2 => k_is)
    (case a3 => k_is)
    (case l3 => k_is)
    (case c3 => k_is)
    (case k3 => k_is)
    (case a4 => k_is)
    (case l4 => k_is)
    (case c4 => k_is)
    (case k4 => k_is)
    (case a5 => k_is)
    (case l5 => k_is)
    (case c5 => k_is)
    (case k5 => k_is)
    (case a6 => k_is)
    (case l6 => k_is)
    (case c6 => k_is)
    (case k6 => k_is)
    (case a7 => k_is)
    (case l7 => k_is)
    (case c7 => k_is)
    (case k7 => k_is)
    (case a8 => k_is)
    (case l8 => k_is)
    (case c8 => k_is)
    (case k8 => k_is)
    (case a9 => k_is)
    (case l9 => k_is)
    (case c9 => k_is)
    (case k9 => k_is)
    (case a10 => k_is)
    (case l10 => k_is)
    (case c10 => k_is)
    (case k10 => k_is)
    (case a11 => k_is)
    (case l11 => k_is)
    (case c11 => k_is)
    (case k11 => k_is)
    (case a12 => k_is)
    (case l12 => k_is)
    (case c12 => k_is)
    (case k12 => k_is)
    (case a13 => k_is)
    (case l13 => k_is)
    (case c13 => k_is)
    (case k13 => k_is)
    (case a14 => k_is)
    (case l14 => k_is)
    (case c14 => k_is)
    (case k14 => k_is)
    (case a15 => k_is)
    (case l15 => k_is)
    (case c15 => k_is)
    (case k15 => k_is)
    (case a16 => k_is)
    (case l16 => k_is)
    (case c16 => k_is)
    (case k16 => k_is)
    (case a17 => k_is)
    (case l17 => k_is)
    (case c17 => k_is)
    (case k17 => k_is)
    (case z1 => k_is)
    (case z2 => k_is)
    (case z3 => k_is)
    (case z4 => k_is)
    (case z5 => k_is)
    (case z6 => k_is)
    (case z7 => k_is)
    (case z8 => k_is)
    (case z9 => k_is)
    (case z10 => k_is)
    (case z11 => k_is)
    (case z12 => k_is)
    (case z13 => k_is)
    (case z14 => k_is)
    (case z15 => k_is)
    (case z16 => k_is)
    (case z17 => k_is)
    (case z18 => k_is)
    (case z19 => k_is)
