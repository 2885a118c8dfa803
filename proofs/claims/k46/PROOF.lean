import PyProof.Rows.All
import Wide.All
import OpenK.AllK
import Wide.FinOn
import Lean
import PyProof.EqAt
import PyProof.EqKinds
import PyProof.TupleCall
import PyProof.P3Eq
import PyProof.Draws
import PyProof.EnumMake
import PyProof.NeData
import KE.LcSums
import PyProof.WalkInts
import PyProof.SeqI3
import PyProof.ReprRoads
import PyProof.CallFns
import PyProof.FitsInt
import PyProof.Rows.SortRuns
import PyProof.Rows.SortShellK
import KE.KSortTup
import KE.KRevIter
import PyProof.FactsAll.range_2
import PyProof.Rows.Range3
import PySem.Challenge.RW_rooklands_k46_numbers_spoilt_at_any_plac
set_option Elab.async false
set_option linter.all false
set_option maxRecDepth 100000
namespace L2
open PySem PySem.Spec PyProof.Rows
abbrev Key := Sum Int Str
def keyIs : Key → Value → Bool
  | .inl k, v => Value.isInt k v
  | .inr x, v => Value.isStrOf x v
def keyH (w : World) : Key → Int
  | .inl k => hashInt k
  | .inr x => hashStr w x
theorem keyIs_shape : ∀ {k : Key} {v : Value}, keyIs k v = true → (∃ i t, k = Sum.inl i ∧ v = Value.int i t) ∨ (∃ x t, k = Sum.inr x ∧ v = Value.str x t)
  | .inl i, v, h => by
    obtain ⟨t, e⟩ := Value.isInt_shape (k := i) (v := v) h
    exact .inl ⟨i, t, rfl, e⟩
  | .inr x, v, h => by
    obtain ⟨t, e⟩ := Value.isStrOf_shape (x := x) (v := v) h
    exact .inr ⟨x, t, rfl, e⟩
theorem key_ll (a b : Int) : decide ((Sum.inl a : Key) = Sum.inl b) = (a == b) := by
  by_cases e : a = b
  · subst e; simp
  · have h : ¬ (Sum.inl a : Key) = Sum.inl b := fun q => e (Sum.inl.inj q)
    rw [decide_eq_false h]
    exact (beq_eq_false_iff_ne.mpr e).symm
theorem key_rr (a b : Str) : decide ((Sum.inr a : Key) = Sum.inr b) = decide (a = b) := by
  by_cases e : a = b
  · subst e; simp
  · have h : ¬ (Sum.inr a : Key) = Sum.inr b := fun q => e (Sum.inr.inj q)
    rw [decide_eq_false h, decide_eq_false e]
theorem key_lr (a : Int) (b : Str) : decide ((Sum.inl a : Key) = Sum.inr b) = false := decide_eq_false (fun q => nomatch q)
theorem key_rl (a : Str) (b : Int) : decide ((Sum.inr a : Key) = Sum.inl b) = false := decide_eq_false (fun q => nomatch q)
def mixKind (prog : Program) (w : World) : PySem.KeyKind prog w Key where
  is := keyIs
  hash := keyH w
  inj := fun v a b ha hb => by
    rcases keyIs_shape ha with ⟨i, t, rfl, rfl⟩ | ⟨x, t, rfl, rfl⟩
    · rcases keyIs_shape hb with ⟨j, u, rfl, e⟩ | ⟨y, u, rfl, e⟩
      · injection e with e1 _; rw [e1]
      · exact nomatch e
    · rcases keyIs_shape hb with ⟨j, u, rfl, e⟩ | ⟨y, u, rfl, e⟩
      · exact nomatch e
      · injection e with e1 _; rw [e1]
  byValue := fun k v h => by
    rcases keyIs_shape h with ⟨i, t, rfl, rfl⟩ | ⟨x, t, rfl, rfl⟩ <;> rfl
  pyHash := fun hv h => by
    rcases keyIs_shape hv with ⟨i, t, rfl, rfl⟩ | ⟨x, t, rfl, rfl⟩
    · exact wpAny_pyHash_int h
    · exact wpAny_pyHash_str h
  eqBool := fun hu hv h => by
    rcases keyIs_shape hu with ⟨i, t, rfl, rfl⟩ | ⟨x, t, rfl, rfl⟩
    · rcases keyIs_shape hv with ⟨j, u, rfl, rfl⟩ | ⟨y, u, rfl, rfl⟩
      · rw [key_ll] at h; exact wpAny_eqBool_int h
      · rw [key_lr] at h; exact SeqAt.EqAt.int_str i t y u _ _ _ _ h
    · rcases keyIs_shape hv with ⟨j, u, rfl, rfl⟩ | ⟨y, u, rfl, rfl⟩
      · rw [key_rl] at h; exact SeqAt.EqAt.str_int x t j u _ _ _ _ h
      · rw [key_rr] at h; exact wpAny_eqBool_str h
  «strs» := fun k x t v h => by
    rcases keyIs_shape h with ⟨i, u, rfl, e⟩ | ⟨y, u, rfl, e⟩
    · exact nomatch e
    · injection e with e1 _
      subst e1
      cases v <;> rfl
end L2
namespace L2
open PySem PySem.Spec PyProof.Rows
inductive V where
  | non | bl (b : Bool) | int (i : Int) | str (x : Str) | byt (b : Array UInt8) | flt (b : UInt64) | ref (a : Addr) | ty (n : String)
  deriving DecidableEq
def RelV : V → Value → Prop
  | .non, u => u = Value.none
  | .bl b, u => u = Value.bool b
  | .int i, u => ∃ t, u = Value.int i t
  | .str x, u => ∃ t, u = Value.str x t
  | .byt b, u => ∃ t, u = Value.bytes b t
  | .flt b, u => ∃ t, u = Value.float b t
  | .ref a, u => u = Value.ref a
  | .ty n, u => u = Value.type n
abbrev Vals : List V → List Value → Prop := Paired RelV
theorem Vals.length {xs : List V} {us : List Value} (r : Vals xs us) : xs.length = us.length := Paired.length r
theorem Vals.get : ∀ {xs : List V} {us : List Value} {i : Nat} {x : V}, Vals xs us → xs[i]? = some x → ∃ u, us[i]? = some u ∧ RelV x u
  | _, _, _, _, .nil, e => by simp at e
  | _, _, 0, _, .cons r _, e => by simp at e; subst e; exact ⟨_, rfl, r⟩
  | _, _, i + 1, x, .cons _ t, e => by
    obtain ⟨u, h1, h2⟩ := Vals.get (i := i) (x := x) t (by simpa using e)
    exact ⟨u, by simpa using h1, h2⟩
theorem Vals.set {x : V} {u : Value} (r : RelV x u) : ∀ {xs : List V} {us : List Value} (i : Nat), Vals xs us → Vals (xs.set i x) (us.set i u)
  | _, _, _, .nil => .nil
  | _, _, 0, .cons _ t => .cons r t
  | _, _, i + 1, .cons q t => .cons q (Vals.set r i t)
theorem Vals.append : ∀ {xs ys : List V} {us ws : List Value}, Vals xs us → Vals ys ws → Vals (xs ++ ys) (us ++ ws)
  | _, _, _, _, .nil, s => s
  | _, _, _, _, .cons r t, s => .cons r (Vals.append t s)
theorem Vals.take : ∀ {xs : List V} {us : List Value} (n : Nat), Vals xs us → Vals (xs.take n) (us.take n)
  | _, _, 0, _ => .nil
  | _, _, _ + 1, .nil => .nil
  | _, _, n + 1, .cons r t => .cons r (Vals.take n t)
theorem Vals.drop : ∀ {xs : List V} {us : List Value} (n : Nat), Vals xs us → Vals (xs.drop n) (us.drop n)
  | _, _, 0, r => r
  | _, _, _ + 1, .nil => .nil
  | _, _, n + 1, .cons _ t => Vals.drop n t
def RelO : Option V → Option Value → Prop
  | some v, some u => RelV v u
  | none, none => True
  | _, _ => False
def KV {κ : Type} : List (κ × V) → List (κ × Value) → Prop := Paired fun (p : κ × V) (q : κ × Value) => p.1 = q.1 ∧ RelV p.2 q.2
def kV : Key → V
  | .inl i => .int i
  | .inr x => .str x
inductive HO where
  /-- a list -/
  | lst (xs : List V)
  /-- a tuple (never changes) -/
  | tup (xs : List V)
  /-- a dict whose keys are ints and texts; one whose keys are tuples of ints and texts (the empty one is both) -/
  | dK (kvs : List (Key × V)) | dT (kvs : List (List Key × V))
  /-- a set of ints: its members, its size -/
  | set (S : Int → Bool) (n : Nat)
  /-- an instance of the class at C, its dict at dx, its attributes -/
  | ins (C dx : Addr) (fs : List (Str × V))
  /-- the dict of the instance at x -/
  | own (x : Addr)
  /-- the dict of an exception -/
  | xd (fs : List (Str × V))
  /-- a bound method, f of x -/
  | met (f x : Addr)
  /-- a range object lo, lo + 1, .. below hi -/
  | rng (lo hi : Int)
  /-- a thing that is known to the object (the script; a dict while a loop walks it): read, never written while it is so -/
  | frz (o : Obj) (u : HO)
  /-- a code object's table -/
  | tbl (ps : Array Value)
  /-- any other thing, by what is true of its one object (a def of one's own: SetO a S n := HO.ext fun h => ..) -/
  | ext (φ : Heap → Prop)
abbrev Hp := Addr → Option HO
def upd (H : Hp) (a : Addr) (o : HO) : Hp := fun b => if b = a then some o else H b
theorem upd_same {H : Hp} {a : Addr} {o : HO} : upd H a o a = some o := by unfold upd; rw [if_pos rfl]
theorem upd_ne {H : Hp} {a b : Addr} {o : HO} (h : b ≠ a) : upd H a o b = H b := by unfold upd; rw [if_neg h]
theorem ne_of_none {H : Hp} {a b : Addr} {o : HO} (h : H a = some o) (h' : H b = none) : a ≠ b := by
  intro e; subst e; rw [h] at h'; cases h'
def TupN (h : Heap) (a : Addr) (items : Array Value) : Prop := ∃ o, h.get? a = some o ∧ o.cls = .type "tuple" ∧ o.dict = none ∧ ∃ n, o.data = .seq items n
theorem TupN.tup {h : Heap} {a : Addr} {items : Array Value} (x : TupN h a items) : IsTup h a items := let ⟨o, e, c, _, d⟩ := x; ⟨o, e, c, d⟩
theorem TupN.lt {h : Heap} {a : Addr} {items : Array Value} (x : TupN h a items) : a < h.objs.size := let ⟨_, e, _⟩ := x; Heap.lt_size e
theorem TupN.new (h : Heap) (items : Array Value) : TupN (h.push { cls := .type "tuple", data := .seq items }) h.objs.size items := ⟨_, Heap.get?_push_size _ rfl, rfl, rfl, _, rfl⟩
section
variable (P : Program) (w : World)
def ObjOk (H : Hp) (h : Heap) (a : Addr) : HO → Prop
  | .lst xs => xs.length ≤ sizeLine ∧ ∃ (its : List Value) (n : Nat), Vals xs its ∧ h.get? a = some { cls := .type "list", data := .seq its.toArray n }
  | .tup xs => xs.length ≤ sizeLine ∧ ∃ its : List Value, Vals xs its ∧ TupN h a its.toArray
  | .dK kvs => kvs.length ≤ sizeLine ∧ (a == sysModules) = false ∧ ∃ vs, KV kvs vs ∧ h.DictOf (mixKind P w) a vs
  | .dT kvs => kvs.length ≤ sizeLine ∧ (a == sysModules) = false ∧ ∃ xs : List (List Key × Addr × Value),
      Paired (fun (p : List Key × V) (q : List Key × Addr × Value) => p.1 = q.1 ∧ H q.2.1 = some (.tup (p.1.map kV)) ∧ RelV p.2 q.2.2) kvs xs ∧
      ∃ o es ep, h.get? a = some o ∧ o.ExactDict ∧ o.data = .dict es ep ∧ es.toList = xs.map (entryOfKey (tupleKind (mixKind P w))) ∧ (xs.map (·.1)).Nodup
  | .set S n => h.SetOf (intKind P w) a S n
  | .ins C dx fs => H dx = some (.own a) ∧ fs.length ≤ 1000 ∧ dx ≠ a ∧ h.get? a = some (PySem.W.instObj C dx) ∧
      ∃ mA, h.Ns1 dx mA ∧ (∀ f, RelO (fs.lookup f) (mA f)) ∧ PySem.Within mA (fs.map (·.1))
  | .own _ => ∃ o, h.get? a = some o
  | .xd fs => ∃ mA, h.Ns1 a mA ∧ ∀ f, RelO (fs.lookup f) (mA f)
  | .rng lo hi => ∃ t u v, h.get? a = some { cls := .type "range", data := .fields #[.int lo t, .int hi u, .int 1 v] }
  | .frz o u => h.get? a = some o ∧ ObjOk H h a u
  | .tbl ps => h.get? a = some { cls := .none, data := .fields ps }
  | .met f x => h.get? a = some (PySem.W.methodObj (.ref f) (.ref x))
  | .ext φ => φ h ∧ (∃ o, h.get? a = some o) ∧ ∀ h1 h2 : Heap, φ h1 → (∀ o, h1.get? a = some o → h2.get? a = some o) → φ h2
def HOk (H : Hp) (h : Heap) : Prop := ∀ a o, H a = some o → ObjOk P w H h a o
end
section
variable {P : Program} {w : World} {H H' : Hp} {h h' : Heap} {a : Addr} {o : HO}
theorem ObjOk.lt (x : ObjOk P w H h a o) : a < h.objs.size := by
  cases o with
  | lst xs => obtain ⟨_, _, _, _, e⟩ := x; exact Heap.lt_size e
  | tup xs => obtain ⟨_, _, _, p⟩ := x; exact p.lt
  | dK kvs => obtain ⟨_, _, _, _, o, _, _, e, _⟩ := x; exact Heap.lt_size e
  | dT kvs => obtain ⟨_, _, _, _, o, _, _, e, _⟩ := x; exact Heap.lt_size e
  | set S n => obtain ⟨o, _, _, _, e, _⟩ := x; exact Heap.lt_size e
  | ins C dx fs => obtain ⟨_, _, _, e, _⟩ := x; exact Heap.lt_size e
  | own y => obtain ⟨_, e⟩ := x; exact Heap.lt_size e
  | xd fs => obtain ⟨_, ⟨_, _, _, e, _⟩, _⟩ := x; exact Heap.lt_size e
  | rng lo hi => obtain ⟨_, _, _, e⟩ := x; exact Heap.lt_size e
  | frz ob u => obtain ⟨e, _⟩ := x; exact Heap.lt_size e
  | tbl ps => exact Heap.lt_size (show h.get? a = some _ from x)
  | met f y => exact Heap.lt_size (show h.get? a = some _ from x)
  | ext φ => obtain ⟨_, ⟨_, e⟩, _⟩ := x; exact Heap.lt_size e
theorem Paired.mapP {α β : Type} {F G : α → β → Prop} : ∀ {l₁ : List α} {l₂ : List β}, Paired F l₁ l₂ → (∀ a b, F a b → G a b) → Paired G l₁ l₂
  | _, _, .nil, _ => .nil
  | _, _, .cons r t, f => .cons (f _ _ r) (Paired.mapP t f)
theorem ObjOk.stay (x : ObjOk P w H h a o) (k : ∀ b u, (b = a ∨ H b = some (.own a)) → h.get? b = some u → h'.get? b = some u)
    (ho : ∀ b, H b = some (.own a) → H' b = some (.own a)) (ht : ∀ b xs, H b = some (.tup xs) → H' b = some (.tup xs)) : ObjOk P w H' h' a o := by
  induction o with
  | lst xs => obtain ⟨z, its, n, r, e⟩ := x; exact ⟨z, its, n, r, k _ _ (.inl rfl) e⟩
  | tup xs => obtain ⟨z, its, r, ob, e, c⟩ := x; exact ⟨z, its, r, ob, k _ _ (.inl rfl) e, c⟩
  | dK kvs => obtain ⟨z, y, vs, r, ob, es, ep, e, c⟩ := x; exact ⟨z, y, vs, r, ob, es, ep, k _ _ (.inl rfl) e, c⟩
  | dT kvs =>
    obtain ⟨z, y, xs, r, ob, es, ep, e, c⟩ := x
    exact ⟨z, y, xs, Paired.mapP r fun p q z => ⟨z.1, ht _ _ z.2.1, z.2.2⟩, ob, es, ep, k _ _ (.inl rfl) e, c⟩
  | set S n => obtain ⟨ob, es, ep, t, e, c⟩ := x; exact ⟨ob, es, ep, t, k _ _ (.inl rfl) e, c⟩
  | ins C dx fs =>
    obtain ⟨d, z, ne, e, mA, ⟨od, es, ep, e2, c⟩, r⟩ := x
    exact ⟨ho _ d, z, ne, k _ _ (.inl rfl) e, mA, ⟨od, es, ep, k _ _ (.inr d) e2, c⟩, r⟩
  | own y => obtain ⟨ob, e⟩ := x; exact ⟨ob, k _ _ (.inl rfl) e⟩
  | xd fs => obtain ⟨mA, ⟨od, es, ep, e, c⟩, r⟩ := x; exact ⟨mA, ⟨od, es, ep, k _ _ (.inl rfl) e, c⟩, r⟩
  | rng lo hi => obtain ⟨t, u, v, e⟩ := x; exact ⟨t, u, v, k _ _ (.inl rfl) e⟩
  | frz ob u ih => obtain ⟨e, q⟩ := x; exact ⟨k _ _ (.inl rfl) e, ih q⟩
  | tbl ps =>
    have e : h.get? a = some { cls := .none, data := .fields ps } := x
    show h'.get? a = some { cls := .none, data := .fields ps }
    exact k a _ (.inl rfl) e
  | met f y =>
    have e : h.get? a = some (PySem.W.methodObj (.ref f) (.ref y)) := x
    show h'.get? a = some (PySem.W.methodObj (.ref f) (.ref y))
    exact k a _ (.inl rfl) e
  | ext φ => obtain ⟨p, ⟨o, e⟩, st⟩ := x; exact ⟨st _ _ p fun o q => k _ _ (.inl rfl) q, ⟨o, k _ _ (.inl rfl) e⟩, st⟩
theorem HOk.lt (x : HOk P w H h) (e : H a = some o) : a < h.objs.size := (x a o e).lt
theorem HOk.fresh (x : HOk P w H h) (e : h.objs.size ≤ a) : H a = none := by
  cases q : H a with
  | none => rfl
  | some u => exact absurd (Nat.lt_of_lt_of_le (x.lt q) e) (Nat.lt_irrefl _)
theorem HOk.kept (x : HOk P w H h) (k : ∀ b u, h.get? b = some u → h'.get? b = some u) : HOk P w H h' := fun a o e =>
  (x a o e).stay (fun b u _ q => k b u q) (fun _ q => q) fun _ _ q => q
theorem HOk.laid (x : HOk P w H h) (k : ∀ b u, h.get? b = some u → h'.get? b = some u) (hp : h.objs.size ≤ a) (new : ObjOk P w (upd H a o) h' a o) : HOk P w (upd H a o) h' := fun b u e => by
  have hn := x.fresh hp
  by_cases hb : b = a
  · subst hb; rw [upd_same] at e; cases e; exact new
  · rw [upd_ne hb] at e
    exact (x b u e).stay (fun c v _ q => k c v q) (fun c q => by rw [upd_ne (ne_of_none q hn)]; exact q) fun c xs q => by rw [upd_ne (ne_of_none q hn)]; exact q
end
def Rd (H : Hp) (a : Addr) (u : HO) : Prop := H a = some u ∨ ∃ o, H a = some (.frz o u)
theorem Rd.ok {P : Program} {w : World} {H : Hp} {h : Heap} {a : Addr} {u : HO} (r : Rd H a u) (x : HOk P w H h) : ObjOk P w H h a u := by
  rcases r with r | ⟨o, r⟩
  · exact x a u r
  · obtain ⟨_, q⟩ := x a _ r
    exact q
def Mut : Option HO → Prop
  | some (.lst _) => True
  | some (.dK _) => True
  | some (.dT _) => True
  | some (.set _ _) => True
  | some (.ins _ _ _) => True
  | some (.ext _) => True
  | _ => False
section
variable {P : Program} {w : World} {H : Hp} {h h' : Heap} {x e : Addr} {o' : HO}
theorem HOk.write (ok : HOk P w H h) (mu : Mut (H x)) (he : e = x ∨ H e = some (.own x)) (k : ∀ b u, b ≠ e → h.get? b = some u → h'.get? b = some u) (heo : ∃ u, h'.get? e = some u)
    (new : ObjOk P w (upd H x o') h' x o') : HOk P w (upd H x o') h' := fun b u q => by
  have nown : ∀ c y, H c = some (.own y) → c ≠ x := fun c y r z => by subst z; rw [r] at mu; exact mu
  have ntup : ∀ c xs, H c = some (.tup xs) → c ≠ x := fun c xs r z => by subst z; rw [r] at mu; exact mu
  by_cases hb : b = x
  · subst hb; rw [upd_same] at q; cases q; exact new
  · rw [upd_ne hb] at q
    by_cases hbe : b = e
    · have q' : H b = some (.own x) := by
        rcases he with z | z
        · exact absurd (hbe.trans z) hb
        · rw [hbe]; exact z
      rw [q] at q'; cases q'
      obtain ⟨v, hv⟩ := heo
      exact ⟨v, by rw [hbe]; exact hv⟩
    · refine (ok b u q).stay (fun c v hc r => k c v ?_ r) (fun c r => by rw [upd_ne (nown c b r)]; exact r) fun c xs r => by rw [upd_ne (ntup c xs r)]; exact r
      rcases hc with rfl | hc
      · exact hbe
      · rintro rfl
        rcases he with z | z
        · exact nown c b hc z
        · rw [hc] at z; cases z; exact hb rfl
end
structure Un (fs ex : List Addr) (H H' : Hp) (h h' : Heap) : Prop where
  keep : ∀ b o, h.get? b = some o → H b = none → b ∉ fs → b ∉ ex → h'.get? b = some o
  slot : ∀ b o, h.get? b = some o → H b = none → b ∈ fs → b ∉ ex → ∃ sl, h'.get? b = some { o with slots := sl }
  free : ∀ b o, h.get? b = some o → H b = none → b ∉ ex → H' b = none
  there : ∀ b o, h.get? b = some o → b ∉ ex → ∃ o', h'.get? b = some o'
  tups : ∀ b xs, H b = some (.tup xs) → H' b = some (.tup xs)
  frzs : ∀ b o u, H b = some (.frz o u) → H' b = some (.frz o u)
  tbls : ∀ b ps, H b = some (.tbl ps) → ∃ more, H' b = some (.tbl (ps ++ more))
section
variable {fs fs' ex ex' : List Addr} {H H1 H2 : Hp} {h h1 h2 h' : Heap} {a x e : Addr} {o : HO}
theorem Un.any (u : Un fs ex H H1 h h1) {b : Addr} {ob : Obj} (q : h.get? b = some ob) (n : H b = none) (hx : b ∉ ex) : ∃ sl, h1.get? b = some { ob with slots := sl } := by
  by_cases hb : b ∈ fs
  · exact u.slot b ob q n hb hx
  · exact ⟨ob.slots, u.keep b ob q n hb hx⟩
theorem Un.kept (k : ∀ b u, h.get? b = some u → h'.get? b = some u) : Un fs ex H H h h' :=
  ⟨fun b ob q _ _ _ => k b ob q, fun b ob q _ _ _ => ⟨ob.slots, k b ob q⟩, fun _ _ _ n _ => n, fun b ob q _ => ⟨ob, k b ob q⟩, fun _ _ q => q, fun _ _ _ q => q, fun _ ps q => ⟨#[], by rw [q]; simp⟩⟩
theorem Un.refl : Un fs ex H H h h := Un.kept fun _ _ q => q
theorem Un.laid (k : ∀ b u, h.get? b = some u → h'.get? b = some u) (hp : h.objs.size ≤ a) (hn : H a = none) : Un fs ex H (upd H a o) h h' where
  keep := fun b u q _ _ _ => k b u q
  slot := fun b u q _ _ _ => ⟨u.slots, k b u q⟩
  free := fun b u q n _ => by rw [upd_ne (Nat.ne_of_lt (Nat.lt_of_lt_of_le (Heap.lt_size q) hp))]; exact n
  there := fun b u q _ => ⟨u, k b u q⟩
  tups := fun b xs q => by rw [upd_ne (ne_of_none q hn)]; exact q
  frzs := fun b u xs q => by rw [upd_ne (ne_of_none q hn)]; exact q
  tbls := fun b ps q => ⟨#[], by rw [upd_ne (ne_of_none q hn), q]; simp⟩
theorem Un.write (mu : Mut (H x)) (he : e = x ∨ H e = some (.own x)) (k : ∀ b u, b ≠ e → h.get? b = some u → h'.get? b = some u) (heo : ∃ u, h'.get? e = some u) : Un fs ex H (upd H x o) h h' := by
  have hx : ∀ b, H b = none → b ≠ x := fun b n z => by subst z; rw [n] at mu; exact mu
  have hb : ∀ b, H b = none → b ≠ e := fun b n z => by
    subst z
    rcases he with r | r
    · exact hx b n r
    · rw [n] at r; cases r
  have hm : ∀ b u, H b = some u → ¬ Mut (some u) → b ≠ x := fun b u q nm z => by subst z; rw [q] at mu; exact nm mu
  refine ⟨fun b u q n _ _ => k b u (hb b n) q, fun b u q n _ _ => ⟨u.slots, k b u (hb b n) q⟩, fun b u q n _ => by rw [upd_ne (hx b n)]; exact n, fun b u q _ => ?_,
    fun b xs q => by rw [upd_ne (hm b _ q fun z => z)]; exact q, fun b u xs q => by rw [upd_ne (hm b _ q fun z => z)]; exact q, fun b ps q => ⟨#[], by rw [upd_ne (hm b _ q fun z => z), q]; simp⟩⟩
  by_cases hbe : b = e
  · subst hbe; exact heo
  · exact ⟨u, k b u hbe q⟩
end
def trk (h : Heap) (H : Hp) : List Addr := (List.range h.objs.size).filter fun a => (H a).isSome
def hidT (h : Heap) (H : Hp) : Heap := PySem.W.hideAll h (trk h H)
theorem hidT_size (h : Heap) (H : Hp) : (hidT h H).objs.size = h.objs.size := PySem.W.hideAll_size _ _
theorem hidT_get {h : Heap} {H : Hp} {b : Addr} {o : Obj} (e : h.get? b = some o) (n : H b = none) : (hidT h H).get? b = some o :=
  PySem.W.hideAll_get _ e fun hm => by
    have q : (H b).isSome = true := (List.mem_filter.mp hm).2
    rw [n] at q; simp at q
theorem of_hidT {h : Heap} {H : Hp} {b : Addr} {o : Obj} (e : (hidT h H).get? b = some o) : h.get? b = some o ∧ H b = none := by
  have e' : h.get? b = some o := PySem.W.of_hideAll (trk h H) e
  refine ⟨e', ?_⟩
  cases q : H b with
  | none => rfl
  | some x =>
    have hm : b ∈ trk h H := List.mem_filter.mpr ⟨List.mem_range.mpr (Heap.lt_size e'), by simp [q]⟩
    have z : (hidT h H).get? b = none := PySem.W.hideAll_none (trk h H) hm
    rw [z] at e; cases e
def allNews (g h : Heap) (L : Addr) : List (Addr × Obj) := (List.range h.objs.size).filterMap fun a => if a = L ∨ (g.get? a).isSome = true then none else (h.get? a).map fun o => (a, o)
def rest (g h : Heap) (L d : Addr) : List (Addr × Obj) := (allNews g h L).filter fun p => decide (p.1 ≠ d)
end L2
namespace L2
open PySem PySem.Spec PyProof.Rows
structure Mod (K : PySem.W.Frag) (mg : Str → Option Value) (base : Heap) : Prop where
  kin : K.In base
  glob : base.Ns mainGlobals mg
  blt : ∃ mb, base.Ns builtinsNs mb ∧ ∀ x : Str, x ≠ "__name__" → mb x = bootBuiltins x
  nolimit : base.NoLimit
structure Cx where
  prog : Program
  w : World
  K : PySem.W.Frag
  mg : Str → Option Value
  base : Heap
  A : Around
  N : List Str
  s₀ : Shared
  H₀ : Hp
  env : Env
  outer : List Env
  stack : List Env
  ex : List Addr
  fn : Str → Bool
  calm : Bool
  pn : List (Addr × Obj)
  xe : Value → Shared → Prop
def frs (l : List Env) : List Addr := l.filterMap (·.frame)
abbrev Cx.fs (X : Cx) : List Addr := frs X.outer
def Vis (sc : Scope) (x : Str) : Prop := sc.names.lookup x = some .local ∨ sc.names.lookup x = some .cell ∨ sc.names.lookup x = some .free
def Loc (sc : Scope) (x : Str) : Prop := sc.names.lookup x = some .local ∨ sc.names.lookup x = some .cell
def Look (env : Env) (h : Heap) (m : Str → Option Value) (x : Str) (u : Value) : Prop :=
  (env.kindOf x = some .local ∧ m x = some u) ∨ ((env.kindOf x = some .cell ∨ env.kindOf x = some .free) ∧ ∃ c, env.cells.lookup x = some c ∧ h.IsCell c (some u))
structure Cx.Ok (X : Cx) : Prop where
  mod : Mod X.K X.mg X.base
  kind : X.env.scope.kind = .function
  glob : X.env.globals = mainGlobals
  blt : X.env.builtins = builtinsNs
  above : X.s₀.heap.objs.size ≤ X.env.locals
  inj : ∀ x y c, X.env.cells.lookup x = some c → X.env.cells.lookup y = some c → x = y
  has : ∀ x, (X.env.kindOf x = some .cell ∨ X.env.kindOf x = some .free) → ∃ c, X.env.cells.lookup x = some c
  cab : ∀ x c, X.fn x = true → X.env.cells.lookup x = some c → X.s₀.heap.objs.size ≤ c
  hd : X.calm = true → X.A.handled = none
  frames : X.A.frames = some X.stack
  stk : X.stack = X.outer ∨ (X.stack = X.env :: X.outer ∧ X.env.frame = some X.env.locals)
  exf : ∀ b ∈ X.ex, b ≠ X.env.locals ∧ ∀ x c, X.env.cells.lookup x = some c → c ≠ b
  bs : ∀ b o, X.base.get? b = some o → X.s₀.heap.get? b = some o ∧ X.H₀ b = none
  bsz : X.base.objs.size ≤ X.s₀.heap.objs.size
  noex : ∀ b o, X.base.get? b = some o → b ∉ X.ex
  exfs : ∀ b ∈ X.ex, b ∉ X.fs
  funs : X.s₀.heap.FunFrames X.base X.outer
  frf : ∀ b ∈ X.fs, X.H₀ b = none
structure Inv (X : Cx) (pins : List (Addr × Obj)) (σ : List (Option V)) (H : Hp) (s : Shared) : Prop where
  ok : X.Ok
  os : s.os = X.s₀.os
  bare : AllBare s.gens
  base : Un X.fs X.ex X.H₀ H X.s₀.heap s.heap
  loc : ∃ m, s.heap.Ns X.env.locals m ∧ ∀ (i : Nat) (x : Str) (v : V), X.N[i]? = some x → σ[i]? = some (some v) → Vis X.env.scope x → ∃ u, RelV v u ∧ Look X.env s.heap m x u
  cell : ∀ x c, X.env.cells.lookup x = some c → ∃ v, s.heap.IsCell c v
  free : H X.env.locals = none
  freeC : ∀ x c, X.env.cells.lookup x = some c → H c = none
  pin : ∀ p ∈ X.pn ++ pins, s.heap.get? p.1 = some p.2 ∧ H p.1 = none ∧ p.1 ≠ X.env.locals ∧ p.1 ∉ X.fs ∧ ∀ v, p.2.data ≠ .cell v
  hok : HOk X.prog X.w H s.heap
  len : σ.length = X.N.length
section
variable {X : Cx} {pins : List (Addr × Obj)} {σ : List (Option V)} {H H' : Hp} {s : Shared} {h' : Heap}
theorem Cx.Ok.nofr (ok : X.Ok) {b : Addr} {o : Obj} (e : X.base.get? b = some o) : b ∉ X.fs := fun hb => by
  have := (ok.funs.mem hb).1
  rw [e] at this; cases this
theorem Inv.bs (I : Inv X pins σ H s) : ∀ b o, X.base.get? b = some o → s.heap.get? b = some o ∧ H b = none := fun b o e =>
  ⟨I.base.keep b o (I.ok.bs b o e).1 (I.ok.bs b o e).2 (I.ok.nofr e) (I.ok.noex b o e), I.base.free b o (I.ok.bs b o e).1 (I.ok.bs b o e).2 (I.ok.noex b o e)⟩
theorem Inv.bk (I : Inv X pins σ H s) : ∀ b o, X.base.get? b = some o → s.heap.get? b = some o := fun b o e => (I.bs b o e).1
theorem Inv.mod (I : Inv X pins σ H s) : Mod X.K X.mg X.base := I.ok.mod
theorem Inv.kIn (I : Inv X pins σ H s) : X.K.In s.heap := I.ok.mod.kin.keeps I.bk
theorem Inv.fr (I : Inv X pins σ H s) : ∃ m, Fr X.base X.env.locals s.heap m :=
  let ⟨m, hn, _⟩ := I.loc
  ⟨m, hn, I.bk, Nat.le_trans I.ok.bsz I.ok.above⟩
theorem Inv.lt (I : Inv X pins σ H s) : X.env.locals < s.heap.objs.size := let ⟨_, hn, _⟩ := I.loc; hn.lt
theorem Inv.sz (I : Inv X pins σ H s) : X.s₀.heap.objs.size ≤ s.heap.objs.size := Nat.le_trans I.ok.above (Nat.le_of_lt I.lt)
theorem Inv.nofs (I : Inv X pins σ H s) {a : Addr} (h : s.heap.objs.size ≤ a) : a ∉ X.fs := fun hb => by
  obtain ⟨_, o, ho, _⟩ := I.ok.funs.mem hb
  exact absurd (Nat.lt_of_lt_of_le (Heap.lt_size ho) (Nat.le_trans I.sz h)) (Nat.lt_irrefl _)
theorem Inv.cne (I : Inv X pins σ H s) : ∀ x c, X.env.cells.lookup x = some c → c ≠ X.env.locals := fun x c e z => by
  obtain ⟨v, o, ho, hd⟩ := I.cell x c e
  obtain ⟨m, ⟨o', es, ep, ho', hd', _⟩, _⟩ := I.loc
  rw [z, ho'] at ho; cases ho; rw [hd'] at hd; cases hd
theorem Inv.funs (I : Inv X pins σ H s) : s.heap.FunFrames X.base X.outer := by
  have all : ∀ (l : List Env), (∀ b ∈ frs l, b ∈ X.fs) → X.s₀.heap.FunFrames X.base l → s.heap.FunFrames X.base l := by
    intro l
    induction l with
    | nil => intro _ _; trivial
    | cons env r ih =>
      intro hs hl
      obtain ⟨hk, ⟨L, o, hf, hn, ho, hd⟩, hr⟩ := hl
      have hL : L ∈ X.fs := hs L (by unfold frs; rw [List.filterMap_cons, hf]; exact List.mem_cons_self)
      obtain ⟨sl, e⟩ := I.base.slot L o ho (I.ok.frf L hL) hL fun z => I.ok.exfs L z hL
      exact ⟨hk, ⟨L, _, hf, hn, e, hd⟩, ih (fun b hb => hs b (by unfold frs; rw [List.filterMap_cons, hf]; exact List.mem_cons_of_mem _ hb)) hr⟩
  exact all X.outer (fun _ hb => hb) I.ok.funs
theorem Inv.stack (I : Inv X pins σ H s) : s.heap.FunFrames X.base X.stack := by
  rcases I.ok.stk with e | ⟨e, hf⟩
  · rw [e]; exact I.funs
  · rw [e]
    obtain ⟨m, hn, _⟩ := I.loc
    refine .cons (by rw [I.ok.kind]; decide) hf hn ?_ I.funs
    exact Heap.get?_none_of_le (Nat.le_trans I.ok.bsz I.ok.above)
theorem Inv.stkSub (I : Inv X pins σ H s) : ∀ b ∈ frs X.stack, b ∈ X.env.locals :: X.fs := fun b hb => by
  rcases I.ok.stk with e | ⟨e, hf⟩
  · rw [e] at hb; exact List.mem_cons_of_mem _ hb
  · rw [e] at hb
    unfold frs at hb
    rw [List.filterMap_cons, hf] at hb
    exact hb
theorem Inv.stkFree (I : Inv X pins σ H s) : ∀ b ∈ frs X.stack, H b = none := fun b hb => by
  rcases List.mem_cons.mp (I.stkSub b hb) with e | hb
  · rw [e]; exact I.free
  · obtain ⟨_, o, ho, _⟩ := I.ok.funs.mem hb
    exact I.base.free b o ho (I.ok.frf b hb) fun z => I.ok.exfs b z hb
theorem Inv.step {g' : Array GenState} {t' : Nat} {d' : Drawn} {ch : List Addr} (I : Inv X pins σ H s)
    (hch : ∀ b ∈ ch, (b ∈ X.ex ∨ X.s₀.heap.objs.size ≤ b) ∧ b ≠ X.env.locals ∧ (∀ x c, X.env.cells.lookup x = some c → c ≠ b) ∧ ∀ p ∈ X.pn ++ pins, p.1 ≠ b)
    (keep : ∀ b o, b ≠ X.env.locals → b ∉ X.fs → b ∉ ch → s.heap.get? b = some o → H b = none → h'.get? b = some o)
    (slot : ∀ b o, b ≠ X.env.locals → b ∈ X.fs → b ∉ ch → s.heap.get? b = some o → H b = none → ∃ sl, h'.get? b = some { o with slots := sl }) (free : ∀ b o, b ∉ ch → s.heap.get? b = some o → H b = none → H' b = none)
    (there : ∀ b o, b ∉ ch → s.heap.get? b = some o → ∃ o', h'.get? b = some o')
    (tups : ∀ b xs, H b = some (.tup xs) → H' b = some (.tup xs)) (frzs : ∀ b o u, H b = some (.frz o u) → H' b = some (.frz o u)) (tbls : ∀ b ps, H b = some (.tbl ps) → ∃ more, H' b = some (.tbl (ps ++ more)))
    (ns : ∀ m, s.heap.Ns X.env.locals m → h'.Ns X.env.locals m) (hok : HOk X.prog X.w H' h') (hg : AllBare g') :
    Inv X pins σ H' { s with heap := h', gens := g', drawn := d', toks := t' } := by
  have neL : ∀ b o, X.s₀.heap.get? b = some o → b ≠ X.env.locals := fun b o e => Nat.ne_of_lt (Nat.lt_of_lt_of_le (Heap.lt_size e) I.ok.above)
  have neC : ∀ b o, X.s₀.heap.get? b = some o → b ∉ X.ex → b ∉ ch := fun b o e hx hb => by
    rcases (hch b hb).1 with z | z
    · exact hx z
    · exact absurd (Nat.lt_of_lt_of_le (Heap.lt_size e) z) (Nat.lt_irrefl _)
  have cellK : ∀ x c, X.env.cells.lookup x = some c → ∀ v, s.heap.IsCell c v → h'.IsCell c v := fun x c e v ⟨o, ho, hd⟩ => by
    have nch : c ∉ ch := fun z => (hch c z).2.2.1 x c e rfl
    by_cases hc : c ∈ X.fs
    · obtain ⟨sl, q⟩ := slot c o (I.cne x c e) hc nch ho (I.freeC x c e)
      exact ⟨_, q, hd⟩
    · exact ⟨o, keep c o (I.cne x c e) hc nch ho (I.freeC x c e), hd⟩
  refine ⟨I.ok, I.os, hg, ⟨fun b o e n hb hx => ?_, fun b o e n hb hx => ?_, fun b o e n hx => ?_, fun b o e hx => ?_, fun b xs e => tups b xs (I.base.tups b xs e), fun b o xs e => frzs b o xs (I.base.frzs b o xs e), fun b ps e => ?_⟩, ?_, fun x c e => ?_, ?_, fun x c e => ?_, fun p hp => ?_, hok, I.len⟩
  · exact keep b o (neL b o e) hb (neC b o e hx) (I.base.keep b o e n hb hx) (I.base.free b o e n hx)
  · obtain ⟨sl, e1⟩ := I.base.slot b o e n hb hx
    obtain ⟨sl', e2⟩ := slot b _ (neL b o e) hb (neC b o e hx) e1 (I.base.free b o e n hx)
    exact ⟨sl', e2⟩
  · obtain ⟨o', e1⟩ := I.base.there b o e hx
    exact free b o' (neC b o e hx) e1 (I.base.free b o e n hx)
  · obtain ⟨o', e1⟩ := I.base.there b o e hx
    exact there b o' (neC b o e hx) e1
  · obtain ⟨m1, e1⟩ := I.base.tbls b ps e
    obtain ⟨m2, e2⟩ := tbls b _ e1
    exact ⟨m1 ++ m2, by rw [e2, Array.append_assoc]⟩
  · obtain ⟨m, hn, hl⟩ := I.loc
    refine ⟨m, ns m hn, fun i x v e1 e2 e3 => ?_⟩
    obtain ⟨u, r, l⟩ := hl i x v e1 e2 e3
    refine ⟨u, r, ?_⟩
    rcases l with l | ⟨k, c, e, z⟩
    · exact .inl l
    · exact .inr ⟨k, c, e, cellK x c e _ z⟩
  · obtain ⟨v, z⟩ := I.cell x c e
    exact ⟨v, cellK x c e v z⟩
  · obtain ⟨m, ⟨o, _, _, ho, _⟩, _⟩ := I.loc
    exact free _ o (fun z => (hch _ z).2.1 rfl) ho I.free
  · obtain ⟨v, o, ho, hd⟩ := I.cell x c e
    exact free c o (fun z => (hch c z).2.2.1 x c e rfl) ho (I.freeC x c e)
  · obtain ⟨e, n, ne, nf, d⟩ := I.pin p hp
    have nch : p.1 ∉ ch := fun z => (hch p.1 z).2.2.2 p hp rfl
    exact ⟨keep p.1 p.2 ne nf nch e n, free p.1 p.2 nch e n, ne, nf, d⟩
theorem Inv.un {t' : Nat} (I : Inv X pins σ H s) (u : Un X.fs [] H H' s.heap h') (hok : HOk X.prog X.w H' h') : Inv X pins σ H' { s with heap := h', toks := t' } := by
  obtain ⟨m, ⟨o, es, ep, ho, r⟩, _⟩ := id I.loc
  obtain ⟨sl, hL⟩ := u.any ho I.free (by simp)
  exact I.step (g' := s.gens) (d' := s.drawn) (ch := []) (fun _ z => nomatch z) (fun b o _ hb _ e n => u.keep b o e n hb (by simp)) (fun b o _ hb _ e n => u.slot b o e n hb (by simp)) (fun b o _ e n => u.free b o e n (by simp)) (fun b o _ e => u.there b o e (by simp)) u.tups u.frzs u.tbls (fun m' hm => by
    obtain ⟨o', es', ep', ho', r'⟩ := hm
    rw [ho] at ho'; cases ho'
    exact ⟨_, es', ep', hL, r'⟩) hok I.bare
theorem Inv.call {g' : Array GenState} {t' : Nat} {d' : Drawn} {ch : List Addr} (I : Inv X pins σ H s) (u : Un (frs X.stack) ch H H' s.heap h') (hok : HOk X.prog X.w H' h') (hg : AllBare g')
    (hch : ∀ b ∈ ch, (b ∈ X.ex ∨ X.s₀.heap.objs.size ≤ b) ∧ b ≠ X.env.locals ∧ (∀ x c, X.env.cells.lookup x = some c → c ≠ b) ∧ ∀ p ∈ X.pn ++ pins, p.1 ≠ b) :
    Inv X pins σ H' { s with heap := h', gens := g', drawn := d', toks := t' } := by
  obtain ⟨m, ⟨o, es, ep, ho, r⟩, _⟩ := id I.loc
  obtain ⟨sl, hL⟩ := u.any ho I.free fun z => (hch _ z).2.1 rfl
  exact I.step (ch := ch) hch (fun b o hL hb hc e n => u.keep b o e n (fun z => (List.mem_cons.mp (I.stkSub b z)).elim hL hb) hc) (fun b o _ _ hc e n => u.any e n hc) (fun b o hc e n => u.free b o e n hc) (fun b o hc e => u.there b o e hc) u.tups u.frzs u.tbls (fun m' hm => by
    obtain ⟨o', es', ep', ho', r'⟩ := hm
    rw [ho] at ho'; cases ho'
    exact ⟨_, es', ep', hL, r'⟩) hok hg
theorem Inv.turned {t' : Nat} {it : Addr} (I : Inv X pins σ H s) (k : ∀ b o, b ≠ it → s.heap.get? b = some o → h'.get? b = some o) (hn : H it = none) (hL : it ≠ X.env.locals)
    (h1 : it ∈ X.ex ∨ X.s₀.heap.objs.size ≤ it) (h2 : ∀ x c, X.env.cells.lookup x = some c → c ≠ it) (h3 : ∀ p ∈ X.pn ++ pins, p.1 ≠ it) : Inv X pins σ H { s with heap := h', toks := t' } := by
  have nit : ∀ b u, H b = some u → b ≠ it := fun b u e z => by rw [z, hn] at e; cases e
  refine I.step (g' := s.gens) (d' := s.drawn) (ch := [it]) (fun b hb => ?_) (fun b o _ _ hc e _ => k b o (fun z => hc (by simp [z])) e) (fun b o _ _ hc e _ => ⟨o.slots, k b o (fun z => hc (by simp [z])) e⟩) (fun _ _ _ _ n => n)
    (fun b o hc e => ⟨o, k b o (fun z => hc (by simp [z])) e⟩) (fun _ _ e => e) (fun _ _ _ e => e) (fun b ps e => ⟨#[], by rw [e]; simp⟩) (fun m hm => ?_) (fun b u e => ?_) I.bare
  · have e : b = it := by simpa using hb
    subst e
    exact ⟨h1, hL, h2, h3⟩
  · obtain ⟨o, es, ep, ho, r⟩ := hm
    exact ⟨o, es, ep, k _ o (Ne.symm hL) ho, r⟩
  · refine (I.hok b u e).stay (fun c v hc q => k c v ?_ q) (fun _ q => q) fun _ _ q => q
    rcases hc with z | z
    · rw [z]; exact nit b u e
    · exact nit c _ z
theorem Inv.tok (I : Inv X pins σ H s) (t : Nat) : Inv X pins σ H { s with toks := t } := I.un (h' := s.heap) (t' := t) Un.refl I.hok
theorem Inv.kept {t' : Nat} (I : Inv X pins σ H s) (k : ∀ b u, s.heap.get? b = some u → h'.get? b = some u) : Inv X pins σ H { s with heap := h', toks := t' } := I.un (Un.kept k) (I.hok.kept k)
theorem Inv.laid {a : Addr} {o : HO} {t' : Nat} (I : Inv X pins σ H s) (k : ∀ b u, s.heap.get? b = some u → h'.get? b = some u) (hp : s.heap.objs.size ≤ a) (new : ObjOk X.prog X.w (upd H a o) h' a o) :
    Inv X pins σ (upd H a o) { s with heap := h', toks := t' } := I.un (Un.laid k hp (I.hok.fresh hp)) (I.hok.laid k hp new)
theorem Inv.write {x e : Addr} {o : HO} {t' : Nat} (I : Inv X pins σ H s) (mu : Mut (H x)) (he : e = x ∨ H e = some (.own x)) (k : ∀ b u, b ≠ e → s.heap.get? b = some u → h'.get? b = some u) (heo : ∃ u, h'.get? e = some u)
    (new : ObjOk X.prog X.w (upd H x o) h' x o) : Inv X pins σ (upd H x o) { s with heap := h', toks := t' } := I.un (Un.write mu he k heo) (I.hok.write mu he k heo new)
theorem Inv.weak {σ' : List (Option V)} (I : Inv X pins σ H s) (hl : σ'.length = σ.length) (w : ∀ (i : Nat) v, σ'[i]? = some (some v) → σ[i]? = some (some v)) : Inv X pins σ' H s :=
  ⟨I.ok, I.os, I.bare, I.base, let ⟨m, hn, hl'⟩ := I.loc; ⟨m, hn, fun i x v e1 e2 e3 => hl' i x v e1 (w i v e2) e3⟩, I.cell, I.free, I.freeC, I.pin, I.hok, hl.trans I.len⟩
theorem Inv.pins_of {pins' : List (Addr × Obj)} (I : Inv X pins σ H s) (h : ∀ p ∈ pins', s.heap.get? p.1 = some p.2 ∧ H p.1 = none ∧ p.1 ≠ X.env.locals ∧ p.1 ∉ X.fs ∧ ∀ v, p.2.data ≠ .cell v) : Inv X pins' σ H s :=
  ⟨I.ok, I.os, I.bare, I.base, I.loc, I.cell, I.free, I.freeC, fun p hp => (List.mem_append.mp hp).elim (fun z => I.pin p (List.mem_append_left _ z)) (h p), I.hok, I.len⟩
theorem nodup_ix {N : List Str} (hN : N.Nodup) {i j : Nat} {x : Str} (a : N[i]? = some x) (b : N[j]? = some x) : i = j := by
  obtain ⟨h1, e1⟩ := List.getElem?_eq_some_iff.mp a
  obtain ⟨h2, e2⟩ := List.getElem?_eq_some_iff.mp b
  exact (List.getElem_inj hN).mp (e1.trans e2.symm)
theorem store_ok2 {M : Model} {A : Around} {E : Value → Shared → Prop} {i : Nat} {x : Str} {v : V} {u : Value} {Q : Unit → Shared → Prop} (I : Inv X pins σ H s) (hN : X.N.Nodup) (hi : X.N[i]? = some x) (hx : Loc X.env.scope x) (r : RelV v u)
    (h : ∀ s', Inv X pins (σ.set i (some v)) H s' → (∃ a, Heap.SameBut a s.heap s'.heap ∧ (a = X.env.locals ∨ X.env.cells.lookup x = some a)) → Q () s') (hf : X.fn x = true ∨ X.env.scope.names.lookup x = some .local := by first | exact .inl rfl | exact .inr rfl | assumption) : wpAny M A (storeName X.env x u) Q E s := by
  obtain ⟨m, hn, hl⟩ := id I.loc
  have hcls : (X.env.scope.kind == .class || (X.env.scope.kind == .module && X.env.locals != X.env.globals)) = false := by rw [I.ok.kind]; rfl
  have hiσ : i < σ.length := by rw [I.len]; exact (List.getElem?_eq_some_iff.mp hi).1
  have cne := I.cne
  have tracked : ∀ {a : Addr} {h' : Heap}, (∃ o, s.heap.get? a = some o ∧ H a = none) → Heap.SameBut a s.heap h' → HOk X.prog X.w H h' := fun {a h'} ha hs b ob e => by
    obtain ⟨_, _, hfree⟩ := ha
    refine (I.hok b ob e).stay (fun c w' hc q => (hs.2 c ?_).trans q) (fun _ q => q) fun _ _ q => q
    rintro rfl
    rcases hc with rfl | hc
    · rw [hfree] at e; cases e
    · rw [hfree] at hc; cases hc
  rcases hx with hk | hk
  · refine wpAny_storeName_local hk hn (fun h' hn' hs => ?_) hcls
    obtain ⟨oL, _, _, hoL, _⟩ := id hn
    refine h _ ⟨I.ok, I.os, I.bare, ⟨fun b o e n hb hx => ?_, fun b o e n hb hx => ?_, I.base.free, fun b o e hx => ?_, I.base.tups, I.base.frzs, I.base.tbls⟩, ⟨_, hn', fun j y v' e1 e2 e3 => ?_⟩, fun y c e => ?_, I.free, I.freeC, fun p hp => ?_, tracked ⟨oL, hoL, I.free⟩ hs, by simpa using I.len⟩ ⟨_, hs, .inl rfl⟩
    · exact (hs.2 b (Nat.ne_of_lt (Nat.lt_of_lt_of_le (Heap.lt_size e) I.ok.above))).trans (I.base.keep b o e n hb hx)
    · obtain ⟨sl, e1⟩ := I.base.slot b o e n hb hx
      exact ⟨sl, (hs.2 b (Nat.ne_of_lt (Nat.lt_of_lt_of_le (Heap.lt_size e) I.ok.above))).trans e1⟩
    · obtain ⟨o', e1⟩ := I.base.there b o e hx
      exact ⟨o', (hs.2 b (Nat.ne_of_lt (Nat.lt_of_lt_of_le (Heap.lt_size e) I.ok.above))).trans e1⟩
    · by_cases hj : j = i
      · subst hj
        rw [hi] at e1; cases e1
        rw [List.getElem?_set_self hiσ] at e2
        cases e2
        exact ⟨u, r, .inl ⟨hk, by simp⟩⟩
      · rw [List.getElem?_set_ne (Ne.symm hj)] at e2
        obtain ⟨u', r', q⟩ := hl j y v' e1 e2 e3
        refine ⟨u', r', ?_⟩
        rcases q with ⟨k, e⟩ | ⟨k, c, e, z⟩
        · refine .inl ⟨k, ?_⟩
          have : y ≠ x := fun e => hj (nodup_ix hN e1 (e ▸ hi))
          simp [this, e]
        · exact .inr ⟨k, c, e, z.sameBut hs (cne y c e)⟩
    · obtain ⟨w', z⟩ := I.cell y c e
      exact ⟨w', z.sameBut hs (cne y c e)⟩
    · obtain ⟨e, n, ne, nf, d⟩ := I.pin p hp
      exact ⟨(hs.2 p.1 ne).trans e, n, ne, nf, d⟩
  · have hfn : X.fn x = true := by
      rcases hf with z | z
      · exact z
      · rw [z] at hk; cases hk
    obtain ⟨c, hc⟩ := I.ok.has x (.inl hk)
    obtain ⟨w', z⟩ := I.cell x c hc
    refine wpAny_storeName_cell I.ok.kind hk hc z (fun h' hc' hs => ?_)
    obtain ⟨oc, hoc, hocd⟩ := id z
    refine h { s with heap := h' } ⟨I.ok, I.os, I.bare, ⟨fun b o e n hb hx => ?_, fun b o e n hb hx => ?_, I.base.free, fun b o e hx => ?_, I.base.tups, I.base.frzs, I.base.tbls⟩, ⟨m, hn.sameBut hs (Ne.symm (cne x c hc)), fun j y v' e1 e2 e3 => ?_⟩, fun y c' e => ?_, I.free, I.freeC, fun p hp => ?_, tracked ⟨oc, hoc, I.freeC x c hc⟩ hs, by simpa using I.len⟩ ⟨c, hs, .inr hc⟩
    · exact (hs.2 b (Nat.ne_of_lt (Nat.lt_of_lt_of_le (Heap.lt_size e) (I.ok.cab x c hfn hc)))).trans (I.base.keep b o e n hb hx)
    · obtain ⟨sl, e1⟩ := I.base.slot b o e n hb hx
      exact ⟨sl, (hs.2 b (Nat.ne_of_lt (Nat.lt_of_lt_of_le (Heap.lt_size e) (I.ok.cab x c hfn hc)))).trans e1⟩
    · obtain ⟨o', e1⟩ := I.base.there b o e hx
      exact ⟨o', (hs.2 b (Nat.ne_of_lt (Nat.lt_of_lt_of_le (Heap.lt_size e) (I.ok.cab x c hfn hc)))).trans e1⟩
    · by_cases hj : j = i
      · subst hj
        rw [hi] at e1; cases e1
        rw [List.getElem?_set_self hiσ] at e2
        cases e2
        exact ⟨u, r, .inr ⟨.inl hk, c, hc, hc'⟩⟩
      · rw [List.getElem?_set_ne (Ne.symm hj)] at e2
        obtain ⟨u', r', q⟩ := hl j y v' e1 e2 e3
        refine ⟨u', r', ?_⟩
        rcases q with q | ⟨k, c', e, z'⟩
        · exact .inl q
        · refine .inr ⟨k, c', e, z'.sameBut hs ?_⟩
          rintro rfl
          exact hj (nodup_ix hN e1 (I.ok.inj _ _ _ e hc ▸ hi))
    · by_cases hcc : c' = c
      · subst hcc; exact ⟨_, hc'⟩
      · obtain ⟨w2, z2⟩ := I.cell y c' e
        exact ⟨w2, z2.sameBut hs hcc⟩
    · obtain ⟨e, n, ne, nf, d⟩ := I.pin p hp
      refine ⟨(hs.2 p.1 ?_).trans e, n, ne, nf, d⟩
      intro q
      rw [q, hoc] at e
      have q' : oc = p.2 := Option.some.inj e
      exact d w' (by rw [← q']; exact hocd)
theorem store_ok {M : Model} {A : Around} {E : Value → Shared → Prop} {i : Nat} {x : Str} {v : V} {u : Value} {Q : Unit → Shared → Prop} (I : Inv X pins σ H s) (hN : X.N.Nodup) (hi : X.N[i]? = some x) (hx : Loc X.env.scope x) (r : RelV v u)
    (h : ∀ s', Inv X pins (σ.set i (some v)) H s' → Q () s') (hf : X.fn x = true ∨ X.env.scope.names.lookup x = some .local := by first | exact .inl rfl | exact .inr rfl | assumption) : wpAny M A (storeName X.env x u) Q E s :=
  store_ok2 I hN hi hx r (fun s' I' _ => h s' I') hf
theorem Inv.call' {s' : Shared} {ch : List Addr} (I : Inv X pins σ H s) (ho : s'.os = s.os) (u : Un (frs X.stack) ch H H' s.heap s'.heap) (hok : HOk X.prog X.w H' s'.heap) (hg : AllBare s'.gens)
    (hch : ∀ b ∈ ch, (b ∈ X.ex ∨ X.s₀.heap.objs.size ≤ b) ∧ b ≠ X.env.locals ∧ (∀ x c, X.env.cells.lookup x = some c → c ≠ b) ∧ ∀ p ∈ X.pn ++ pins, p.1 ≠ b) : Inv X pins σ H' s' := by
  obtain ⟨h', g', d', t', o'⟩ := s'
  have e : o' = s.os := ho
  subst e
  exact I.call (g' := g') (t' := t') (d' := d') u hok hg hch
end
abbrev XK := Value → Option Addr → Hp → Prop
abbrev St := List (Option V)
abbrev VK := V → Hp → Prop
abbrev TE := St → Hp → VK → Prop
abbrev TT := St → Hp → (Bool → Hp → Prop) → Prop
abbrev TA := St → Hp → (List V → Hp → Prop) → Prop
structure Ends where
  nx : St → Hp → Prop
  rt : VK
  bk : St → Hp → Prop := fun _ _ => False
  ct : St → Hp → Prop := fun _ _ => False
abbrev TS := Ends → St → Hp → Prop
def EP (X : Cx) (pins : List (Addr × Obj)) (σ : St) (Q : VK) (u : Value) (s' : Shared) : Prop := ∃ v H', Inv X pins σ H' s' ∧ RelV v u ∧ Q v H'
def TP (X : Cx) (pins : List (Addr × Obj)) (σ : St) (Q : Bool → Hp → Prop) (b : Bool) (s' : Shared) : Prop := ∃ H', Inv X pins σ H' s' ∧ Q b H'
def AP (X : Cx) (pins : List (Addr × Obj)) (σ : St) (Q : List V → Hp → Prop) (us : List Value) (s' : Shared) : Prop := ∃ vs H', Inv X pins σ H' s' ∧ Vals vs us ∧ Q vs H'
def SP (X : Cx) (pins : List (Addr × Obj)) (D : Ends) (f : Flow) (s' : Shared) : Prop :=
  match f with
  | .next => ∃ σ' H', Inv X pins σ' H' s' ∧ D.nx σ' H'
  | .brk => ∃ σ' H', Inv X pins σ' H' s' ∧ D.bk σ' H'
  | .cont => ∃ σ' H', Inv X pins σ' H' s' ∧ D.ct σ' H'
  | .ret u => ∃ v σ' H', Inv X pins σ' H' s' ∧ RelV v u ∧ D.rt v H'
def PE (X : Cx) (e : Expr) (t : TE) : Prop :=
  ∀ (pins : List (Addr × Obj)) (s : Shared) (σ : St) (H : Hp) (Q : VK), Inv X pins σ H s → t σ H Q → wpAny (model X.prog X.w) X.A (eval e X.env) (EP X pins σ Q) X.xe s
def PT (X : Cx) (e : Expr) (t : TT) : Prop :=
  ∀ (pins : List (Addr × Obj)) (s : Shared) (σ : St) (H : Hp) (Q : Bool → Hp → Prop), Inv X pins σ H s → t σ H Q → wpAny (model X.prog X.w) X.A (isTrue e X.env (eval e X.env)) (TP X pins σ Q) X.xe s
def PW (X : Cx) (e : Expr) (t : TT) : Prop :=
  ∀ (whole : Sem Value) (pins : List (Addr × Obj)) (s : Shared) (σ : St) (H : Hp) (Q : Bool → Hp → Prop), Inv X pins σ H s → t σ H Q → wpAny (model X.prog X.w) X.A (isTrue e X.env whole) (TP X pins σ Q) X.xe s
theorem PW.pt {X : Cx} {e : Expr} {t : TT} (h : PW X e t) : PT X e t := h _
def PA (X : Cx) (es : List Expr) (t : TA) : Prop :=
  ∀ (pos : Pos) (pins : List (Addr × Obj)) (s : Shared) (σ : St) (H : Hp) (Q : List V → Hp → Prop), Inv X pins σ H s → t σ H Q → wpAny (model X.prog X.w) X.A (spliced (backTo pos (starEach es X.env))) (AP X pins σ Q) X.xe s
def PS (X : Cx) (st : Stmt) (t : TS) : Prop :=
  ∀ (pins : List (Addr × Obj)) (s : Shared) (σ : St) (H : Hp) (D : Ends), Inv X pins σ H s → t D σ H → wpAny (model X.prog X.w) X.A (exec st X.env) (SP X pins D) X.xe s
def PSs (X : Cx) (st : List Stmt) (t : TS) : Prop :=
  ∀ (pins : List (Addr × Obj)) (s : Shared) (σ : St) (H : Hp) (D : Ends), Inv X pins σ H s → t D σ H → wpAny (model X.prog X.w) X.A (execs st X.env) (SP X pins D) X.xe s
theorem thn {α : Type} {t : Sem α} {Q Q' : α → Shared → Prop} {M : Model} {A : Around} {E : Value → Shared → Prop} {s : Shared} (h : wpAny M A t Q E s) (hQ : ∀ a s, Q a s → Q' a s) : wpAny M A t Q' E s := wpAny_mono h hQ fun _ _ x => x
end L2
namespace L2
open PySem PySem.Spec PyProof.Rows
section
variable {X : Cx}
def tVar (i : Nat) : TE := fun σ H Q => ∃ v, σ[i]? = some (some v) ∧ Q v H
def tC (v : V) : TE := fun _ H Q => Q v H
theorem pe_var {i : Nat} {x : Str} {pos : Pos} (hN : X.N[i]? = some x) (hv : Vis X.env.scope x) (hd : (x == ("__debug__" : Str)) = false := by decide) (hcd : (x == ("__classdict__" : Str)) = false := by decide) : PE X (.Name x pos) (tVar i) := by
  intro pins s σ H Q I h
  obtain ⟨v, e, h⟩ := h
  obtain ⟨m, hn, hl⟩ := I.loc
  obtain ⟨u, r, l⟩ := hl i x v hN e hv
  have fin : EP X pins σ Q u s := ⟨v, H, I, r, h⟩
  rcases l with ⟨hk, hm⟩ | ⟨hk, c, hc, hcell⟩
  · exact wpAny_Name (wpAny_loadName_local I.ok.kind hk hn hm fin) hd
  · rcases hk with hk | hk
    · exact wpAny_Name (wpAny_loadName_cell I.ok.kind hk hc hcell fin) hd
    · exact wpAny_Name (wpAny_loadName_free I.ok.kind hk hc hcell fin hcd) hd
theorem pe_int {i j pos} : PE X (.Constant (.int i) j pos) (tC (.int i)) := fun _ _ _ H _ I h => wpAny_Constant_int ⟨.int i, H, I.tok _, ⟨_, rfl⟩, h⟩
theorem pe_bl {b j pos} : PE X (.Constant (.bool b) j pos) (tC (.bl b)) := fun _ _ _ H _ I h => Constant_bool ⟨.bl b, H, I, rfl, h⟩
theorem pe_non {j pos} : PE X (.Constant .none j pos) (tC .non) := fun _ _ _ H _ I h => Constant_none ⟨.non, H, I, rfl, h⟩
theorem pe_str {x j pos} : PE X (.Constant (.str x) j pos) (tC (.str x)) := fun _ _ _ H _ I h => Calls.Constant_str ⟨.str x, H, I.tok _, ⟨_, rfl⟩, h⟩
def Gl (X : Cx) (x : Str) : Prop := X.env.kindOf x = some .globalImplicit
theorem ld_glob {E : Value → Shared → Prop} {pins : List (Addr × Obj)} {s : Shared} {σ : St} {H : Hp} {x : Str} {u : Value} {pos : Pos} {Q : Value → Shared → Prop} (I : Inv X pins σ H s) (hg : Gl X x) (hm : X.mg x = some u) (h : Q u s)
    (hd : (x == ("__debug__" : Str)) = false := by decide) : wpAny (model X.prog X.w) X.A (eval (.Name x pos) X.env) Q E s :=
  Calls.Name_function_global I.ok.kind hg (Calls.loadGlobal_global (by rw [I.ok.glob]; exact I.mod.glob.keeps I.bk) hm h) hd
theorem ld_blt {E : Value → Shared → Prop} {pins : List (Addr × Obj)} {s : Shared} {σ : St} {H : Hp} {x : Str} {u : Value} {pos : Pos} {Q : Value → Shared → Prop} (I : Inv X pins σ H s) (hg : Gl X x) (hm : X.mg x = none) (hv : bootBuiltins x = some u) (h : Q u s)
    (hn : x ≠ "__name__" := by decide) (hd : (x == ("__debug__" : Str)) = false := by decide) : wpAny (model X.prog X.w) X.A (eval (.Name x pos) X.env) Q E s := by
  obtain ⟨mb, h1, h2⟩ := I.mod.blt
  exact Calls.Name_function_global I.ok.kind hg (Calls.loadGlobal_builtin (by rw [I.ok.glob]; exact I.mod.glob.keeps I.bk) hm (by rw [I.ok.blt]; exact h1.keeps I.bk) ((h2 x hn).trans hv) h) hd
theorem pe_glob {x : Str} {v : V} {u : Value} {pos : Pos} (hg : Gl X x) (hm : X.mg x = some u) (r : RelV v u) (hd : (x == ("__debug__" : Str)) = false := by decide) : PE X (.Name x pos) (tC v) :=
  fun _ _ _ H _ I h => ld_glob I hg hm ⟨v, H, I, r, h⟩ hd
theorem pe_bltn {x : Str} {v : V} {u : Value} {pos : Pos} (hg : Gl X x) (hm : X.mg x = none) (hv : bootBuiltins x = some u) (r : RelV v u) (hn : x ≠ "__name__" := by decide) (hd : (x == ("__debug__" : Str)) = false := by decide) : PE X (.Name x pos) (tC v) :=
  fun _ _ _ H _ I h => ld_blt I hg hm hv ⟨v, H, I, r, h⟩ hn hd
variable {a b : Expr} {ta tb : TE} {pos : Pos}
def tB (t : TE) : TT := fun σ H Q => t σ H fun x H1 => ∃ c, x = .bl c ∧ Q c H1
theorem pt_val {e : Expr} {t : TE} (h : PE X e t) (he : ∀ whole, isTrue e X.env whole = (do let v ← whole; standAt e.pos; holding [v] (truthy v)) := by intro _; rfl) : PT X e (tB t) := by
  intro pins s σ H Q I hw
  refine isTrue_plain (thn (h pins s σ H _ I hw) fun v s1 ⟨x, H1, I1, r1, q1⟩ => ?_) (he _)
  obtain ⟨d, rfl, q⟩ := q1
  cases r1
  exact wpAny_truthy_bool ⟨H1, I1, q⟩
variable {tA tB' : TT} {rest : List Expr}
def tOr (t u : TT) : TT := fun σ H Q => t σ H fun c H1 => if c = true then Q true H1 else u σ H1 Q
def tNot (t : TT) : TT := fun σ H Q => t σ H fun c H1 => Q (!c) H1
theorem pw_or1 (ha : PT X a tA) : PW X (.BoolOp .Or [a] pos) tA := by
  intro wh pins s σ H Q I h
  refine isTrue_or (thn (ha pins s σ H Q I h) fun c s1 e => ?_)
  cases c with
  | false => exact isTrue_or_nil e
  | true => exact e
theorem pw_or (ha : PT X a tA) (hb : PW X (.BoolOp .Or (b :: rest) pos) tB') : PW X (.BoolOp .Or (a :: b :: rest) pos) (tOr tA tB') := by
  intro wh pins s σ H Q I h
  refine isTrue_or (thn (ha pins s σ H _ I h) fun c s1 ⟨H1, I1, q1⟩ => ?_)
  cases c with
  | true => exact ⟨H1, I1, q1⟩
  | false => exact hb wh pins s1 σ H1 Q I1 q1
theorem pt_not (ha : PT X a tA) : PT X (.UnaryOp .Not a pos) (tNot tA) := by
  intro pins s σ H Q I h
  exact isTrue_not (ha pins s σ H (fun c H1 => Q (!c) H1) I h)
def tAndV (ta tb : TE) : TE := fun σ H Q => ta σ H fun x H1 => ∃ c, x = .bl c ∧ if c = true then tb σ H1 Q else Q (.bl false) H1
def tNotV (ta : TE) : TE := fun σ H Q => ta σ H fun x H1 => ∃ c, x = .bl c ∧ Q (.bl (!c)) H1
theorem pe_one {op} {t : TE} (h : PE X a t) : PE X (.BoolOp op [a] pos) t := fun pins s σ H Q I hw => BoolOp_one (h pins s σ H Q I hw)
theorem pe_and (ha : PE X a ta) (hb : PE X (.BoolOp .And (b :: rest) pos) tb) : PE X (.BoolOp .And (a :: b :: rest) pos) (tAndV ta tb) := by
  intro pins s σ H Q I h
  refine BoolOp_and (thn (ha pins s σ H _ I h) fun v s1 ⟨x, H1, I1, r1, q1⟩ => ?_)
  obtain ⟨c, rfl, q1⟩ := q1
  cases r1
  refine wpAny_truthy_bool ?_
  cases c with
  | true => exact hb pins s1 σ H1 Q I1 q1
  | false => exact ⟨.bl false, H1, I1, rfl, q1⟩
theorem pe_not (ha : PE X a ta) : PE X (.UnaryOp .Not a pos) (tNotV ta) := by
  intro pins s σ H Q I h
  refine UnaryOp_ (thn (ha pins s σ H _ I h) fun v s1 ⟨x, H1, I1, r1, q1⟩ => ?_)
  obtain ⟨c, rfl, q1⟩ := q1
  cases r1
  exact not_of (wpAny_truthy_bool ⟨.bl (!c), H1, I1, rfl, q1⟩)
def tIf (t : TT) (ta tb : TE) : TE := fun σ H Q => t σ H fun c H1 => if c = true then ta σ H1 Q else tb σ H1 Q
theorem pe_ifExp {c : Expr} (hc : PT X c tA) (ha : PE X a ta) (hb : PE X b tb) : PE X (.IfExp c a b pos) (tIf tA ta tb) := by
  intro pins s σ H Q I h
  refine wpAny_IfExp (thn (hc pins s σ H _ I h) fun d s1 ⟨H1, I1, q1⟩ => ?_)
  cases d with
  | true => exact ha pins s1 σ H1 Q I1 q1
  | false => exact hb pins s1 σ H1 Q I1 q1
end
end L2
namespace L2
open PySem PySem.Spec PyProof.Rows
def SqL (K : PySem.W.Frag) (H : Hp) (a : Addr) (xs : List V) : Prop :=
  Rd H a (.lst xs) ∨
    ∃ (o : Obj) (its : Array Value) (n : Nat), K.lookup a = some o ∧ o.cls = .type "list" ∧ o.dict = none ∧ o.data = .seq its n ∧ its.size ≤ sizeLine ∧ Vals xs its.toList
def SqT (K : PySem.W.Frag) (H : Hp) (a : Addr) (xs : List V) : Prop :=
  Rd H a (.tup xs) ∨
    ∃ (o : Obj) (its : Array Value) (n : Nat), K.lookup a = some o ∧ o.cls = .type "tuple" ∧ o.data = .seq its n ∧ its.size ≤ sizeLine ∧ Vals xs its.toList
def absV : Value → Option V
  | .none => some .non
  | .bool b => some (.bl b)
  | .int i _ => some (.int i)
  | .str x _ => some (.str x)
  | .bytes b _ => some (.byt b)
  | .float b _ => some (.flt b)
  | .ref a => some (.ref a)
  | .type n => some (.ty n)
  | _ => none
theorem RelV.abs {x : V} {u : Value} (r : RelV x u) : absV u = some x := by
  cases x with
  | non => cases r; rfl
  | bl _ => cases r; rfl
  | int _ => obtain ⟨t, rfl⟩ := r; rfl
  | str _ => obtain ⟨t, rfl⟩ := r; rfl
  | byt _ => obtain ⟨t, rfl⟩ := r; rfl
  | flt _ => obtain ⟨t, rfl⟩ := r; rfl
  | ref _ => cases r; rfl
  | ty _ => cases r; rfl
theorem RelV.inj {x y : V} {u : Value} (r : RelV x u) (q : RelV y u) : x = y := Option.some.inj (r.abs.symm.trans q.abs)
theorem Vals.inj : ∀ {xs ys : List V} {us : List Value}, Vals xs us → Vals ys us → xs = ys
  | _, _, _, .nil, .nil => rfl
  | _, _, _, .cons r t, .cons r' t' => by rw [r.inj r', Vals.inj t t']
section
variable {X : Cx} {pins : List (Addr × Obj)} {σ : St} {H : Hp} {s : Shared} {a : Addr} {xs ys : List V}
theorem SqL.of {K : PySem.W.Frag} (h : H a = some (.lst xs)) : SqL K H a xs := .inl (.inl h)
theorem SqT.of {K : PySem.W.Frag} (h : H a = some (.tup xs)) : SqT K H a xs := .inl (.inl h)
theorem Inv.list (I : Inv X pins σ H s) (h : SqL X.K H a xs) : ∃ its : List Value, Vals xs its ∧ PlainL s.heap a its.toArray ∧ xs.length ≤ sizeLine := by
  rcases h with h | ⟨o, its, n, hk, hc, hd, hs, hz, r⟩
  · obtain ⟨z, its, n, r, e⟩ := h.ok I.hok
    exact ⟨its, r, ⟨_, n, e, rfl, rfl, rfl⟩, z⟩
  · refine ⟨its.toList, r, ⟨o, n, I.kIn a o hk, hc, hd, by simpa using hs⟩, ?_⟩
    have e := r.length
    simp only [Array.length_toList] at e
    omega
theorem Inv.tuple (I : Inv X pins σ H s) (h : SqT X.K H a xs) : ∃ its : List Value, Vals xs its ∧ IsTup s.heap a its.toArray ∧ xs.length ≤ sizeLine := by
  rcases h with h | ⟨o, its, n, hk, hc, hs, hz, r⟩
  · obtain ⟨z, its, r, p⟩ := h.ok I.hok
    exact ⟨its, r, p.tup, z⟩
  · refine ⟨its.toList, r, ⟨o, I.kIn a o hk, hc, n, by simpa using hs⟩, ?_⟩
    have e := r.length
    simp only [Array.length_toList] at e
    omega
theorem Inv.list_inj (I : Inv X pins σ H s) (h : SqL X.K H a xs) (h' : SqL X.K H a ys) : xs = ys := by
  obtain ⟨its, r, ⟨o, n, e, _, _, d⟩, _⟩ := I.list h
  obtain ⟨its', r', ⟨o', n', e', _, _, d'⟩, _⟩ := I.list h'
  rw [e] at e'; cases e'
  rw [d] at d'
  injection d' with d1 _
  have : its = its' := by simpa using congrArg Array.toList d1
  subst this
  exact r.inj r'
theorem Inv.tuple_inj (I : Inv X pins σ H s) (h : SqT X.K H a xs) (h' : SqT X.K H a ys) : xs = ys := by
  obtain ⟨its, r, ⟨o, e, _, n, d⟩, _⟩ := I.tuple h
  obtain ⟨its', r', ⟨o', e', _, n', d'⟩, _⟩ := I.tuple h'
  rw [e] at e'; cases e'
  rw [d] at d'
  injection d' with d1 _
  have : its = its' := by simpa using congrArg Array.toList d1
  subst this
  exact r.inj r'
end
abbrev Cx.wish (X : Cx) (E : Value → Shared → Prop) : Cx := { X with xe := E }
abbrev Cx.nox (X : Cx) : Cx := X.wish fun _ _ => False
theorem Cx.Ok.wish {X : Cx} (ok : X.Ok) (E : Value → Shared → Prop) : (X.wish E).Ok :=
  ⟨ok.mod, ok.kind, ok.glob, ok.blt, ok.above, ok.inj, ok.has, ok.cab, ok.hd, ok.frames, ok.stk, ok.exf, ok.bs, ok.bsz, ok.noex, ok.exfs, ok.funs, ok.frf⟩
theorem Cx.Ok.unwish {X : Cx} {E : Value → Shared → Prop} (ok : (X.wish E).Ok) : X.Ok :=
  ⟨ok.mod, ok.kind, ok.glob, ok.blt, ok.above, ok.inj, ok.has, ok.cab, ok.hd, ok.frames, ok.stk, ok.exf, ok.bs, ok.bsz, ok.noex, ok.exfs, ok.funs, ok.frf⟩
section
variable {X : Cx} {pins : List (Addr × Obj)} {σ : St} {H : Hp} {s : Shared} {E : Value → Shared → Prop}
theorem Inv.wish (I : Inv X pins σ H s) (E : Value → Shared → Prop) : Inv (X.wish E) pins σ H s := ⟨I.ok.wish E, I.os, I.bare, I.base, I.loc, I.cell, I.free, I.freeC, I.pin, I.hok, I.len⟩
theorem Inv.unwish (I : Inv (X.wish E) pins σ H s) : Inv X pins σ H s := ⟨I.ok.unwish, I.os, I.bare, I.base, I.loc, I.cell, I.free, I.freeC, I.pin, I.hok, I.len⟩
theorem SP.unwish {D : Ends} {f : Flow} {s' : Shared} (h : SP (X.wish E) pins D f s') : SP X pins D f s' := by
  cases f with
  | next => obtain ⟨σ', H', I, q⟩ := h; exact ⟨σ', H', I.unwish, q⟩
  | brk => obtain ⟨σ', H', I, q⟩ := h; exact ⟨σ', H', I.unwish, q⟩
  | cont => obtain ⟨σ', H', I, q⟩ := h; exact ⟨σ', H', I.unwish, q⟩
  | ret u => obtain ⟨v, σ', H', I, r, q⟩ := h; exact ⟨v, σ', H', I.unwish, r, q⟩
theorem PE.nox {e : Expr} {t : TE} (h : PE X.nox e t) : PE X e t := fun pins s σ H Q I hw =>
  wpAny_mono (h pins s σ H Q (I.wish _) hw) (fun _ _ ⟨v, H', I', r, q⟩ => ⟨v, H', I'.unwish, r, q⟩) fun _ _ z => False.elim z
theorem PT.nox {e : Expr} {t : TT} (h : PT X.nox e t) : PT X e t := fun pins s σ H Q I hw =>
  wpAny_mono (h pins s σ H Q (I.wish _) hw) (fun _ _ ⟨H', I', q⟩ => ⟨H', I'.unwish, q⟩) fun _ _ z => False.elim z
theorem PSs.nox {st : List Stmt} {t : TS} (h : PSs X.nox st t) : PSs X st t := fun pins s σ H D I hw =>
  wpAny_mono (h pins s σ H D (I.wish _) hw) (fun _ _ q => q.unwish) fun _ _ z => False.elim z
end
section
variable {X : Cx} {st : Stmt} {rest : List Stmt} {t u : TS} {e : Expr} {te : TE} {pos : Pos}
def tNext : TS := fun D σ H => D.nx σ H
def tSeq (t u : TS) : TS := fun D σ H => t { D with nx := u D } σ H
theorem pss_nil : PSs X [] tNext := fun _ _ σ H _ I h => wpAny_execs_nil ⟨σ, H, I, h⟩
theorem pss_cons (h1 : PS X st t) (h2 : PSs X rest u) : PSs X (st :: rest) (tSeq t u) := by
  intro pins s σ H D I h
  refine wpAny_execs_cons (thn (h1 pins s σ H { D with nx := u D } I h) fun f s1 q => ?_)
  cases f with
  | next =>
    obtain ⟨σ', H', I', q⟩ := q
    exact h2 pins s1 σ' H' D I' q
  | ret v => exact q
  | brk => exact q
  | cont => exact q
theorem pss_one (h1 : PS X st t) : PSs X [st] t := by
  intro pins s σ H D I h
  refine wpAny_execs_cons (thn (h1 pins s σ H D I h) fun f s1 q => ?_)
  cases f with
  | next => exact wpAny_execs_nil q
  | ret v => exact q
  | brk => exact q
  | cont => exact q
theorem Inv.quiet {pins : List (Addr × Obj)} {σ : St} {H : Hp} {s : Shared} (I : Inv X pins σ H s) : interactive X.env = false := by simp [interactive, I.ok.kind]
def tDrop (te : TE) : TS := fun D σ H => te σ H fun _ H1 => D.nx σ H1
theorem ps_expr (he : PE X e te) (hs : swapsWith e none pos.line X.env = pure false := by rfl) : PS X (.Expr e pos) (tDrop te) := by
  intro pins s σ H D I h
  exact wpAny_Expr_any (thn (he pins s σ H _ I h) fun v s1 ⟨x, H1, I1, r1, q1⟩ => ⟨σ, H1, I1, q1⟩) I.quiet hs
def tRet (te : TE) : TS := fun D σ H => te σ H D.rt
theorem ps_ret (he : PE X e te) : PS X (.Return (some e) pos) (tRet te) := by
  intro pins s σ H D I h
  exact wpAny_Return_some (thn (he pins s σ H _ I h) fun v s1 ⟨x, H1, I1, r1, q1⟩ => ⟨x, σ, H1, I1, r1, q1⟩)
def tIfS (c : TT) (t u : TS) : TS := fun D σ H => c σ H fun b H1 => if b = true then t D σ H1 else u D σ H1
theorem ps_if {c : Expr} {a b : List Stmt} {tc : TT} (hc : PT X c tc) (ha : PSs X a t) (hb : PSs X b u) : PS X (.If c a b pos) (tIfS tc t u) := by
  intro pins s σ H D I h
  refine wpAny_If (thn (hc pins s σ H _ I h) fun d s1 ⟨H1, I1, q1⟩ => ?_)
  cases d with
  | true => exact ha pins s1 σ H1 D I1 q1
  | false => exact hb pins s1 σ H1 D I1 q1
end
abbrev TG := V → St → Hp → (St → Hp → Prop) → Prop
abbrev TGs := List V → St → Hp → (St → Hp → Prop) → Prop
def PG (X : Cx) (target : Expr) (t : TG) : Prop :=
  ∀ (pins : List (Addr × Obj)) (s : Shared) (σ : St) (H : Hp) (v : V) (u : Value) (Q : St → Hp → Prop), Inv X pins σ H s → RelV v u → t v σ H Q →
    wpAny (model X.prog X.w) X.A (assign target X.env u) (fun _ s' => ∃ σ' H', Inv X pins σ' H' s' ∧ Q σ' H') X.xe s
def PGs (X : Cx) (ts : List Expr) (t : TGs) : Prop :=
  ∀ (pins : List (Addr × Obj)) (s : Shared) (σ : St) (H : Hp) (vs : List V) (us : List Value) (Q : St → Hp → Prop), Inv X pins σ H s → Vals vs us → t vs σ H Q →
    wpAny (model X.prog X.w) X.A (assignInOrder ((assignEach ts X.env).map (·.2)) us) (fun _ s' => ∃ σ' H', Inv X pins σ' H' s' ∧ Q σ' H') X.xe s
abbrev TSet := V → V → V → Hp → (Hp → Prop) → Prop
def PSet (X : Cx) (t : TSet) : Prop :=
  ∀ (pins : List (Addr × Obj)) (s : Shared) (σ : St) (H : Hp) (o i v : V) (ov iv u : Value) (Q : Hp → Prop), Inv X pins σ H s → RelV o ov → RelV i iv → RelV v u → t o i v H Q →
    wpAny (model X.prog X.w) X.A (setItem ov iv u) (fun _ s' => ∃ H', Inv X pins σ H' s' ∧ Q H') X.xe s
abbrev TIp := V → V → Hp → VK → Prop
def PIp (X : Cx) (op : Operator) (t : TIp) : Prop :=
  ∀ (pins : List (Addr × Obj)) (s : Shared) (σ : St) (H : Hp) (x y : V) (v u : Value) (Q : VK), Inv X pins σ H s → RelV x v → RelV y u → t x y H Q →
    wpAny (model X.prog X.w) X.A (inplaceOp op v u) (EP X pins σ Q) X.xe s
section
variable {X : Cx} {pos : Pos}
def gName (i : Nat) : TG := fun v σ H Q => Q (σ.set i (some v)) H
theorem pg_name {i : Nat} {x : Str} (hN : X.N.Nodup) (hi : X.N[i]? = some x) (hx : Loc X.env.scope x) (hf : X.fn x = true ∨ X.env.scope.names.lookup x = some .local := by first | exact .inl rfl | exact .inr rfl | assumption) : PG X (.Name x pos) (gName i) := by
  intro pins s σ H v u Q I r h
  exact wpAny_assign_Name (store_ok I hN hi hx r (fun s' I' => ⟨_, H, I', h⟩) hf)
def gNil : TGs := fun vs σ H Q => vs = [] ∧ Q σ H
def gCons (t : TG) (u : TGs) : TGs := fun vs σ H Q => ∃ v r, vs = v :: r ∧ t v σ H fun σ' H' => u r σ' H' Q
theorem pgs_nil : PGs X [] gNil := by
  intro pins s σ H vs us Q I r h
  obtain ⟨e, h⟩ := h
  subst e
  cases r
  exact assignInOrder_nil ⟨σ, H, I, h⟩
theorem pgs_cons {e : Expr} {es : List Expr} {t : TG} {u : TGs} (h1 : PG X e t) (h2 : PGs X es u)
    (hs : (assignEach (e :: es) X.env).map (·.2) = assign e X.env :: (assignEach es X.env).map (·.2) := by rfl) : PGs X (e :: es) (gCons t u) := by
  intro pins s σ H vs us Q I r h
  obtain ⟨v, vr, e1, h⟩ := h
  subst e1
  cases r with
  | cons r rr =>
    rw [hs]
    refine assignInOrder_cons (thn (h1 pins s σ H _ _ _ I r h) fun _ s1 ⟨σ1, H1, I1, q1⟩ => ?_)
    exact h2 pins s1 σ1 H1 _ _ Q I1 rr q1
def gTup (K : PySem.W.Frag) (n : Nat) (t : TGs) : TG := fun v σ H Q => ∃ a xs, v = .ref a ∧ SqT K H a xs ∧ xs.length = n ∧ t xs σ H Q
theorem pg_tup {es : List Expr} {k : Nat} {t : TGs} {n : Nat} (hc : X.calm = true) (h : PGs X es t)
    (hn : (assignEach es X.env).length = n := by rfl) (hst : (assignEach es X.env).findIdx? (·.1) = none := by rfl) : PG X (.Tuple es k pos) (gTup X.K n t) := by
  intro pins s σ H v u Q I r hw
  obtain ⟨a, xs, e1, hq, hl, hw⟩ := hw
  subst e1
  cases r
  obtain ⟨its, rv, ht, hz⟩ := I.tuple hq
  refine assign_Tuple_tuple (I.ok.hd hc) ht (by simp [hn, ← hl, rv.length]) hst fun h' hx => ?_
  have I1 : Inv X pins σ H { s with heap := h' } := I.kept (t' := s.toks) fun b o e => hx b o (Nat.ne_of_lt (Heap.lt_size e)) e
  exact h pins _ σ H xs _ Q I1 (by simpa using rv) hw
def gSub (to ti : TE) (t : TSet) : TG := fun v σ H Q => to σ H fun o H1 => ti σ H1 fun i H2 => t o i v H2 fun H3 => Q σ H3
theorem pg_sub {o i : Expr} {to ti : TE} {t : TSet} (ho : PE X o to) (hi : PE X i ti) (hs : PSet X t)
    (ha : ∀ v, assign (.Subscript o i pos) X.env v = (do
      let ov ← holding [v] (eval o X.env)
      let iv ← holding [v, ov] (eval i X.env)
      standAt pos
      holding [v, ov, iv] (setItem ov iv v)
      release [v, ov, iv] []) := by intro _; rfl) : PG X (.Subscript o i pos) (gSub to ti t) := by
  intro pins s σ H v u Q I r h
  rw [ha]
  refine wpAny_bind (wpAny_holding (thn (ho pins s σ H _ I h) fun ov s1 ⟨x, H1, I1, r1, q1⟩ => ?_))
  refine wpAny_bind (wpAny_holding (thn (hi pins s1 σ H1 _ I1 q1) fun iv s2 ⟨y, H2, I2, r2, q2⟩ => ?_))
  refine wpAny_bind (wpAny_standAt (wpAny_bind (wpAny_holding (thn (hs pins s2 σ H2 x y v ov iv u _ I2 r1 r2 r q2) fun _ s3 ⟨H3, I3, q3⟩ => ?_))))
  exact wpAny_release ⟨σ, H3, I3, q3⟩
def tAsg (te : TE) (g : TG) : TS := fun D σ H => te σ H fun x H1 => g x σ H1 D.nx
theorem ps_asg {tg e : Expr} {te : TE} {g : TG} (he : PE X e te) (hg : PG X tg g) (hs : swapsWithSole [tg] e pos.line X.env = pure false := by rfl) (hw : swappedStores [tg] e X.env = pure none := by rfl)
    (h1 : (assignEach [tg] X.env).map (·.2) = [assign tg X.env] := by rfl) : PS X (.Assign [tg] e pos) (tAsg te g) := by
  intro pins s σ H D I h
  refine wpAny_Assign_stores (thn (he pins s σ H _ I h) fun v s1 ⟨x, H1, I1, r1, q1⟩ => ?_) hs hw
  rw [h1]
  exact thn (hg pins s1 σ H1 x v _ I1 r1 q1) fun _ s2 q => q
theorem ps_set {i : Nat} {x : Str} {e : Expr} {te : TE} {pos' : Pos} (hN : X.N.Nodup) (hi : X.N[i]? = some x) (hx : Loc X.env.scope x) (he : PE X e te) (hs : swapsWith e (some (.Name x pos')) pos.line X.env = pure false := by rfl) (hf : X.fn x = true ∨ X.env.scope.names.lookup x = some .local := by first | exact .inl rfl | exact .inr rfl | assumption) :
    PS X (.Assign [.Name x pos'] e pos) (tAsg te (gName i)) := by
  intro pins s σ H D I h
  refine wpAny_Assign_Name (thn (he pins s σ H _ I h) fun v s1 ⟨y, H1, I1, r1, q1⟩ => ?_) hs
  exact store_ok I1 hN hi hx r1 (fun s2 I2 => ⟨_, H1, I2, q1⟩) hf
def tPar (i j : Nat) (ta : TA) : TS := fun D σ H => ta σ H fun vs H1 => ∃ v w, vs = [v, w] ∧ D.nx ((σ.set i (some v)).set j (some w)) H1
theorem ps_par {i j : Nat} {x y : Str} {a b : Expr} {ta : TA} {px py pt : Pos} {kt k2 pt2} (hc : X.calm = true) (hN : X.N.Nodup) (hi : X.N[i]? = some x) (hj : X.N[j]? = some y) (hij : i ≠ j)
    (hx : X.env.scope.names.lookup x = some .local) (hy : X.env.scope.names.lookup y = some .local) (ha : PA X [a, b] ta)
    (hw : swappedStores [.Tuple [.Name x px, .Name y py] kt pt] (.Tuple [a, b] k2 pt2) X.env = pure (some [x, y]))
    (hs : swapsWithSole [.Tuple [.Name x px, .Name y py] kt pt] (.Tuple [a, b] k2 pt2) pos.line X.env = pure false := by rfl) :
    PS X (.Assign [.Tuple [.Name x px, .Name y py] kt pt] (.Tuple [a, b] k2 pt2) pos) (tPar i j ta) := by
  intro pins s σ H D I h
  rw [exec_Assign_arm]
  refine wpAny_bind (wpAny_standAt ?_)
  rw [hs]
  refine wpAny_bind (wpAny_pure ?_)
  rw [if_neg (by decide)]
  refine wpAny_bind (Tuple_ (thn (ha _ pins s σ H _ I h) fun us s1 ⟨vs, H1, I1, r1, q1⟩ => ?_))
  obtain ⟨v, w, e1, q1⟩ := q1
  subst e1
  obtain ⟨u1, u2, rfl, rv, rw'⟩ : ∃ u1 u2, us = [u1, u2] ∧ RelV v u1 ∧ RelV w u2 := by
    cases r1 with
    | cons p q =>
      cases q with
      | cons p' q' =>
        cases q'
        exact ⟨_, _, rfl, p, p'⟩
  refine wpAny_newObj_type ?_ (by show 2 ≤ sizeLine; decide)
  have I2 : Inv X pins σ H1 { s1 with heap := s1.heap.push { cls := .type "tuple", data := .seq [u1, u2].toArray } } := I1.kept (t' := s1.toks) fun b o e => Heap.get?_push_of_some _ e
  rw [hw]
  refine wpAny_bind (wpAny_pure ?_)
  show wpAny (model X.prog X.w) X.A (do rule "assign.swapped-stores"; let items ← unpackItems (.ref s1.heap.objs.size) 2 none; assignInOrder [fun v => bindName X.env y v, fun v => bindName X.env x v] items.reverse; pure Flow.next) _ _ _
  refine wpAny_bind (wpAny_rule (wpAny_bind (unpackItems_tuple (items := #[u1, u2]) (I.ok.hd hc) (IsTup.new s1.heap _) fun h' hx' => ?_)))
  have I3 := I2.kept (h' := h') (t' := s1.toks) fun b o e => hx' b o (Nat.ne_of_lt (Heap.lt_size e)) e
  show wpAny _ _ (assignInOrder [fun v => bindName X.env y v, fun v => bindName X.env x v] [u2, u1] >>= fun _ => pure Flow.next) _ _ _
  refine wpAny_bind (assignInOrder_cons (wpAny_bindName (store_ok I3 hN hj (.inl hy) rw' (fun s2 I4 => ?_) (.inr hy))))
  refine assignInOrder_cons (wpAny_bindName (store_ok I4 hN hi (.inl hx) rv (fun s3 I5 => assignInOrder_nil (wpAny_pure ?_)) (.inr hx)))
  rw [List.set_comm _ _ (Ne.symm hij)] at I5
  exact ⟨_, H1, I5, q1⟩
def tAug (i : Nat) (te : TE) (ti : TIp) : TS := fun D σ H => ∃ x, σ[i]? = some (some x) ∧ te σ H fun y H1 => ti x y H1 fun z H2 => D.nx (σ.set i (some z)) H2
theorem ps_aug {i : Nat} {x : Str} {e : Expr} {te : TE} {op : Operator} {ti : TIp} {pos' : Pos} (hN : X.N.Nodup) (hi : X.N[i]? = some x) (hx : Loc X.env.scope x) (he : PE X e te) (ho : PIp X op ti) (hf : X.fn x = true ∨ X.env.scope.names.lookup x = some .local := by first | exact .inl rfl | exact .inr rfl | assumption) :
    PS X (.AugAssign (.Name x pos') op e pos) (tAug i te ti) := by
  intro pins s σ H D I h
  obtain ⟨v, e1, h⟩ := h
  obtain ⟨m, hn, hl⟩ := I.loc
  have vis : Vis X.env.scope x := by rcases hx with k | k; exact .inl k; exact .inr (.inl k)
  obtain ⟨u, r, l⟩ := hl i x v hi e1 vis
  refine wpAny_AugAssign_Name ?_
  have go : wpAny (model X.prog X.w) X.A (eval e X.env) (fun w s₂ => wpAny (model X.prog X.w) X.A (inplaceOp op u w) (fun r s₃ => wpAny (model X.prog X.w) X.A (storeName X.env x r) (fun _ => SP X pins D .next) X.xe s₃) X.xe s₂) X.xe s := by
    refine thn (he pins s σ H _ I h) fun w s1 ⟨y, H1, I1, r1, q1⟩ => ?_
    refine thn (ho pins s1 σ H1 v y u w _ I1 r r1 q1) fun z s2 ⟨zv, H2, I2, r2, q2⟩ => ?_
    exact store_ok I2 hN hi hx r2 (fun s3 I3 => ⟨_, H2, I3, q2⟩) hf
  rcases l with ⟨hk, hm⟩ | ⟨hk, c, hc, hcell⟩
  · exact wpAny_loadName_local I.ok.kind hk hn hm go
  · rcases hk with hk | hk
    · exact wpAny_loadName_cell I.ok.kind hk hc hcell go
    · rcases hx with k | k
      · have : X.env.scope.names.lookup x = some .free := hk
        rw [k] at this; cases this
      · have : X.env.scope.names.lookup x = some .free := hk
        rw [k] at this; cases this
def ipI (f : Int → Int → Int) : TIp := fun x y H Q => ∃ i j, x = .int i ∧ y = .int j ∧ Q (.int (f i j)) H
theorem ip_add : PIp X .Add (ipI fun i j => i + j) := by
  intro pins s σ H x y v u Q I r1 r2 h
  obtain ⟨i, j, e1, e2, q⟩ := h
  subst e1; subst e2
  obtain ⟨t, rfl⟩ := r1
  obtain ⟨t', rfl⟩ := r2
  exact iadd_int ⟨.int _, H, I.tok _, ⟨_, rfl⟩, q⟩
end
section
variable {X : Cx} {pos : Pos}
end
structure It where
  go : Nat → Hp → Prop
  yld : Nat → Hp → V → Hp → Prop
  stop : Nat → Hp → Prop
def FpOk (X : Cx) (pins : List (Addr × Obj)) (H : Hp) (b : Addr) : Prop :=
  H b = none ∧ b ≠ X.env.locals ∧ b ∉ X.fs ∧ (b ∈ X.ex ∨ X.s₀.heap.objs.size ≤ b) ∧ (∀ x c, X.env.cells.lookup x = some c → c ≠ b) ∧ ∀ p ∈ X.pn ++ pins, p.1 ≠ b
theorem Inv.fpOk {X : Cx} {pins : List (Addr × Obj)} {σ : St} {H H' : Hp} {s : Shared} {b : Addr} (I : Inv X pins σ H s) (hb : s.heap.objs.size ≤ b) (hn : H' b = none) : FpOk X pins H' b := by
  refine ⟨hn, Nat.ne_of_gt (Nat.lt_of_lt_of_le I.lt hb), I.nofs hb, .inr (Nat.le_trans I.sz hb), fun x c e z => ?_, fun p hp z => ?_⟩
  · obtain ⟨v, q⟩ := I.cell x c e
    exact absurd (Nat.lt_of_lt_of_le q.lt (by rw [z]; exact hb)) (Nat.lt_irrefl _)
  · exact absurd (Nat.lt_of_lt_of_le (Heap.lt_size (I.pin p hp).1) (by rw [z]; exact hb)) (Nat.lt_irrefl _)
structure Turn (P : Program) (w : World) (K : PySem.W.Frag) (tg : Expr) (J : It) (fp : List Addr) (it : Addr) (tn : Nat → Heap → Prop) : Prop where
  mem : it ∈ fp
  obj : ∀ i h, tn i h → ∀ b ∈ fp, ∃ o, h.get? b = some o ∧ ∀ v, o.data ≠ .cell v
  keep : ∀ i h h', tn i h → (∀ b ∈ fp, ∀ o, h.get? b = some o → h'.get? b = some o) → tn i h'
  item : ∀ (X : Cx), X.prog = P → X.w = w → X.K = K → X.calm = true → ∀ (i : Nat) (pins : List (Addr × Obj)) (s : Shared) (σ : St) (H : Hp) (E : Value → Shared → Prop), Inv X pins σ H s → (∀ b ∈ fp, FpOk X pins H b) → tn i s.heap → J.go i H →
    wpAny (model P w) X.A (pyNext (.ref it)) (fun r s1 => ∃ u, r = some u ∧
      wpAny (model P w) X.A (letOwnedTupleGo tg (.ref it) u) (fun _ s2 => ∃ x H', Inv X pins σ H' s2 ∧ RelV x u ∧ J.yld i H x H' ∧ tn (i + 1) s2.heap ∧ ∀ b ∈ fp, H' b = none) E s1) E s
  done : ∀ (X : Cx), X.prog = P → X.w = w → X.K = K → X.calm = true → ∀ (i : Nat) (pins : List (Addr × Obj)) (s : Shared) (σ : St) (H : Hp) (E : Value → Shared → Prop), Inv X pins σ H s → (∀ b ∈ fp, FpOk X pins H b) → tn i s.heap → J.stop i H →
    wpAny (model P w) X.A (pyNext (.ref it)) (fun r s1 => r = none ∧ Inv X pins σ H s1) E s
  self : ∀ (A : Around) (i : Nat) (s : Shared) (Q : Value → Shared → Prop) (E : Value → Shared → Prop), tn i s.heap → Q (.ref it) s → wpAny (model P w) A (pyIter (.ref it)) Q E s
abbrev TI := St → Hp → (It → Hp → Prop) → Prop
def PIE (X : Cx) (pins : List (Addr × Obj)) (σ : St) (tg : Expr) (R : It → Hp → Prop) (itv : Value) (s2 : Shared) : Prop :=
  ∃ (it : Addr) (fp : List Addr) (tn : Nat → Heap → Prop) (J : It) (H' : Hp), itv = .ref it ∧ Inv X pins σ H' s2 ∧ Turn X.prog X.w X.K tg J fp it tn ∧ tn 0 s2.heap ∧ (∀ b ∈ fp, FpOk X pins H' b) ∧ R J H'
def PI (X : Cx) (tg iter : Expr) (wi : TI) : Prop :=
  ∀ (pins : List (Addr × Obj)) (s : Shared) (σ : St) (H : Hp) (R : It → Hp → Prop), Inv X pins σ H s → wi σ H R →
    wpAny (model X.prog X.w) X.A (eval iter X.env) (fun v s1 => wpAny (model X.prog X.w) X.A (pyIter v) (PIE X pins σ tg R) X.xe s1) X.xe s
theorem go_of {M : Model} {A : Around} {E : Value → Shared → Prop} {s : Shared} {tg : Expr} {it : Addr} {u : Value} {o : Obj} {n : String} {vs : Array Value} {Q : Unit → Shared → Prop} (ho : s.heap.get? it = some o) (hc : o.cls = .type n) (hd : o.data = .fields vs)
    (hn : ["enumerate", "zip", "dict_itemiterator", "dict_reverseitemiterator", "odict_iterator", "itertools.zip_longest", "itertools.pairwise"].contains n = false) (hQ : Q () s) : wpAny M A (letOwnedTupleGo tg (.ref it) u) Q E s := by
  unfold letOwnedTupleGo
  cases tg <;> first
    | exact wpAny_pure hQ
    | (cases u <;> first
        | exact wpAny_pure hQ
        | (refine wpAny_bind (wpAny_load ho ?_)
           rw [hc, hd]
           show wpAny M A (if (["enumerate", "zip", "dict_itemiterator", "dict_reverseitemiterator", "odict_iterator", "itertools.zip_longest", "itertools.pairwise"].contains n && vs[0]? == some (rawInt _)) = true then _ else _) Q E s
           rw [if_neg (by intro h; rw [hn, Bool.false_and] at h; cases h)]
           exact wpAny_pure hQ))
def Itl (K : PySem.W.Frag) (a : Addr) : It :=
  ⟨fun i H => ∃ xs x, SqL K H a xs ∧ xs[i]? = some x, fun i H x H' => H' = H ∧ ∀ xs, SqL K H a xs → xs[i]? = some x, fun i H => ∃ xs, SqL K H a xs ∧ xs.length ≤ i⟩
def Itt (K : PySem.W.Frag) (a : Addr) : It :=
  ⟨fun i H => ∃ xs x, SqT K H a xs ∧ xs[i]? = some x, fun i H x H' => H' = H ∧ ∀ xs, SqT K H a xs → xs[i]? = some x, fun i H => ∃ xs, SqT K H a xs ∧ xs.length ≤ i⟩
def Itr (lo : Int) (n : Nat) : It := ⟨fun i _ => i < n, fun i H x H' => H' = H ∧ x = .int (lo + i), fun i _ => n ≤ i⟩
theorem turn_list {P : Program} {w : World} {K : PySem.W.Frag} {tg : Expr} (a it : Addr) : Turn P w K tg (Itl K a) [it] it (fun i h => h.IsListIter it a i) where
  mem := by simp
  obj := fun i h st b hb => by
    have e : b = it := by simpa using hb
    subst e
    obtain ⟨o, e, c, d⟩ := st
    exact ⟨o, e, fun v z => by rw [d] at z; cases z⟩
  keep := fun i h h' st k => st.at fun o e => k it (by simp) o e
  item := by
    intro X hP hw hK hc i pins s σ H E I hf st hg
    subst hP hw hK
    obtain ⟨xs, x, hq, hx⟩ := hg
    obtain ⟨its, rv, p, hz⟩ := I.list hq
    obtain ⟨u, hu, ru⟩ := rv.get hx
    obtain ⟨f0, f1, f2, f3, f4, f5⟩ := hf it (by simp)
    refine wpAny_pyNext_list_item st p.isList (x := u) (by simpa using hu) fun h' st' sb => ?_
    have I1 : Inv X pins σ H { s with heap := h' } := I.turned (t' := s.toks) (fun b o hb e => (sb.2 b hb).trans e) f0 f1 f3 f4 f5
    obtain ⟨o, e, c, d⟩ := id st'
    exact ⟨u, rfl, go_of (s := { s with heap := h' }) e c d (by decide) ⟨x, H, I1, ru, ⟨rfl, fun ys hy => by rw [I.list_inj hy hq]; exact hx⟩, st', fun b hb => (hf b hb).1⟩⟩
  done := by
    intro X hP hw hK hc i pins s σ H E I hf st hg
    subst hP hw hK
    obtain ⟨xs, hq, hx⟩ := hg
    obtain ⟨its, rv, p, hz⟩ := I.list hq
    obtain ⟨f0, f1, f2, f3, f4, f5⟩ := hf it (by simp)
    have hl := rv.length
    exact wpAny_pyNext_list_end (I.ok.hd hc) st p.isList (by simp; omega) fun h' eb => ⟨rfl, I.turned (t' := s.toks) (fun b o hb e => eb b o hb e) f0 f1 f3 f4 f5⟩
  self := fun _ _ _ _ _ st h => wpAny_pyIter_listiter st h
theorem turn_tuple {P : Program} {w : World} {K : PySem.W.Frag} {tg : Expr} (a it : Addr) : Turn P w K tg (Itt K a) [it] it (fun i h => h.IsTupleIter it a i) where
  mem := by simp
  obj := fun i h st b hb => by
    have e : b = it := by simpa using hb
    subst e
    obtain ⟨o, e, c, d⟩ := st
    exact ⟨o, e, fun v z => by rw [d] at z; cases z⟩
  keep := fun i h h' st k => st.at fun o e => k it (by simp) o e
  item := by
    intro X hP hw hK hc i pins s σ H E I hf st hg
    subst hP hw hK
    obtain ⟨xs, x, hq, hx⟩ := hg
    obtain ⟨its, rv, p, hz⟩ := I.tuple hq
    obtain ⟨u, hu, ru⟩ := rv.get hx
    obtain ⟨f0, f1, f2, f3, f4, f5⟩ := hf it (by simp)
    refine wpAny_pyNext_tuple_item st (show s.heap.IsTuple a its.toArray from p) (x := u) (by simpa using hu) fun h' st' sb => ?_
    have I1 : Inv X pins σ H { s with heap := h' } := I.turned (t' := s.toks) (fun b o hb e => (sb.2 b hb).trans e) f0 f1 f3 f4 f5
    obtain ⟨o, e, c, d⟩ := id st'
    exact ⟨u, rfl, go_of (s := { s with heap := h' }) e c d (by decide) ⟨x, H, I1, ru, ⟨rfl, fun ys hy => by rw [I.tuple_inj hy hq]; exact hx⟩, st', fun b hb => (hf b hb).1⟩⟩
  done := by
    intro X hP hw hK hc i pins s σ H E I hf st hg
    subst hP hw hK
    obtain ⟨xs, hq, hx⟩ := hg
    obtain ⟨its, rv, p, hz⟩ := I.tuple hq
    obtain ⟨f0, f1, f2, f3, f4, f5⟩ := hf it (by simp)
    have hl := rv.length
    exact wpAny_pyNext_tuple_end (I.ok.hd hc) st (show s.heap.IsTuple a its.toArray from p) (by simp; omega) fun h' eb => ⟨rfl, I.turned (t' := s.toks) (fun b o hb e => eb b o hb e) f0 f1 f3 f4 f5⟩
  self := fun _ _ _ _ _ st h => wpAny_pyIter_tupleiter st h
theorem turn_range {P : Program} {w : World} {K : PySem.W.Frag} {tg : Expr} (it : Addr) (lo : Int) (n : Nat) : Turn P w K tg (Itr lo n) [it] it (fun i h => IsRangeIter h it (lo + (i : Nat) * 1) ((n : Int) - (i : Nat)) 1) where
  mem := by simp
  obj := fun i h st b hb => by
    have e : b = it := by simpa using hb
    subst e
    exact ⟨_, st, fun v z => by
      have z' : Data.fields _ = Data.cell v := z
      cases z'⟩
  keep := fun i h h' st k => k it (by simp) _ st
  item := by
    intro X hP hw hK hc i pins s σ H E I hf st hg
    subst hP hw hK
    obtain ⟨f0, f1, f2, f3, f4, f5⟩ := hf it (by simp)
    have W := Walks.range (prog := X.prog) (w := X.w) (I.ok.hd hc) it lo 1 n
    refine W.item i s _ _ hg st fun v h' tk hv st' kk => ?_
    obtain ⟨t, rfl⟩ := hv
    have I1 : Inv X pins σ H { s with heap := h', toks := tk } := I.turned (fun b o hb e => kk b o (by simpa using hb) e) f0 f1 f3 f4 f5
    refine ⟨_, rfl, go_of (s := { s with heap := h', toks := tk }) (n := "range_iterator") st' rfl rfl (by decide) ⟨.int (lo + i), H, I1, ⟨t, ?_⟩, ⟨rfl, rfl⟩, st', fun b hb => (hf b hb).1⟩⟩
    rw [Int.mul_one]
  done := by
    intro X hP hw hK hc i pins s σ H E I hf st hg
    subst hP hw hK
    obtain ⟨f0, f1, f2, f3, f4, f5⟩ := hf it (by simp)
    exact wpAny_pyNext_range_end (I.ok.hd hc) st (by have : n ≤ i := hg; omega) fun h' eb => ⟨rfl, I.turned (t' := s.toks) (fun b o hb e => eb b o hb e) f0 f1 f3 f4 f5⟩
  self := fun _ _ _ _ _ st h => wpAny_pyIter_rangeiter st h
end L2
namespace L2
open PySem PySem.Spec PyProof.Rows
section
variable {X : Cx} {tg : Expr}
def iList (K : PySem.W.Frag) (tl : TE) : TI := fun σ H R => tl σ H fun x H1 => ∃ a, x = .ref a ∧ (∃ xs, SqL K H1 a xs) ∧ R (Itl K a) H1
def iTup (K : PySem.W.Frag) (tl : TE) : TI := fun σ H R => tl σ H fun x H1 => ∃ a, x = .ref a ∧ (∃ xs, SqT K H1 a xs) ∧ R (Itt K a) H1
theorem pi_list {l : Expr} {tl : TE} (hl : PE X l tl) : PI X tg l (iList X.K tl) := by
  intro pins s σ H R I h
  refine thn (hl pins s σ H _ I h) fun v s1 ⟨x, H1, I1, r1, q1⟩ => ?_
  obtain ⟨a, e, ⟨xs, hq⟩, q⟩ := q1
  subst e
  cases r1
  obtain ⟨its, rv, p, hz⟩ := I1.list hq
  refine wpAny_pyIter_list p.isList ?_
  refine ⟨s1.heap.objs.size, [s1.heap.objs.size], _, _, H1, rfl, I1.kept (t' := s1.toks) fun b o e => Heap.get?_push_of_some _ e, turn_list a _, ⟨_, Heap.get?_push_size _ rfl, rfl, rfl⟩, fun b hb => ?_, q⟩
  have e : b = s1.heap.objs.size := by simpa using hb
  subst e
  exact I1.fpOk (Nat.le_refl _) (I1.hok.fresh (Nat.le_refl _))
theorem pi_tup {l : Expr} {tl : TE} (hl : PE X l tl) : PI X tg l (iTup X.K tl) := by
  intro pins s σ H R I h
  refine thn (hl pins s σ H _ I h) fun v s1 ⟨x, H1, I1, r1, q1⟩ => ?_
  obtain ⟨a, e, ⟨xs, hq⟩, q⟩ := q1
  subst e
  cases r1
  obtain ⟨its, rv, p, hz⟩ := I1.tuple hq
  refine wpAny_pyIter_tuple (show s1.heap.IsTuple a its.toArray from p) ?_
  refine ⟨s1.heap.objs.size, [s1.heap.objs.size], _, _, H1, rfl, I1.kept (t' := s1.toks) fun b o e => Heap.get?_push_of_some _ e, turn_tuple a _, ⟨_, Heap.get?_push_size _ rfl, rfl, rfl⟩, fun b hb => ?_, q⟩
  have e : b = s1.heap.objs.size := by simpa using hb
  subst e
  exact I1.fpOk (Nat.le_refl _) (I1.hok.fresh (Nat.le_refl _))
theorem range_it {pins : List (Addr × Obj)} {σ : St} {H : Hp} {s : Shared} {R : It → Hp → Prop} {E : Value → Shared → Prop} {lo hi : Int} {t u v : Tok} {tk : Nat} (I : Inv X pins σ H s) (h1 : -(2 ^ 62) ≤ lo) (h2 : lo < 2 ^ 62) (h3 : -(2 ^ 62) ≤ hi) (h4 : hi < 2 ^ 62)
    (q : R (Itr lo (hi - lo).toNat) H) : wpAny (model X.prog X.w) X.A (pyIter (.ref s.heap.objs.size)) (PIE X pins σ tg R) E { s with heap := s.heap.push { cls := .type "range", data := .fields #[.int lo t, .int hi u, .int 1 v] }, toks := tk } := by
  refine wpAny_pyIter_range (IsRange.new ..) (small_one h1 h2 h3 h4) ?_
  have I1 : Inv X pins σ H { s with heap := s.heap.push { cls := .type "range", data := .fields #[.int lo t, .int hi u, .int 1 v] }, toks := tk } := I.kept fun b o e => Heap.get?_push_of_some _ e
  refine ⟨(s.heap.push { cls := .type "range", data := .fields #[.int lo t, .int hi u, .int 1 v] }).objs.size, [(s.heap.push { cls := .type "range", data := .fields #[.int lo t, .int hi u, .int 1 v] }).objs.size], _, _, H, rfl,
    I1.kept (t' := tk) fun b o e => Heap.get?_push_of_some _ e, turn_range _ lo (hi - lo).toNat, ?_, fun b hb => ?_, q⟩
  · have e1 : lo + ((0 : Nat) : Int) * 1 = lo := by simp
    have e2 : (((hi - lo).toNat : Nat) : Int) - ((0 : Nat) : Int) = Builtin.Range.rangeSize lo hi 1 := by rw [rangeSize_one]; split <;> omega
    show IsRangeIter _ _ (lo + ((0 : Nat) : Int) * 1) ((((hi - lo).toNat : Nat) : Int) - ((0 : Nat) : Int)) 1
    rw [e1, e2]
    exact Heap.get?_push_size _ rfl
  · have e : b = (s.heap.push { cls := .type "range", data := .fields #[.int lo t, .int hi u, .int 1 v] }).objs.size := by simpa using hb
    subst e
    exact I1.fpOk (Nat.le_refl _) (I1.hok.fresh (Nat.le_refl _))
def iRng1 (ta : TA) : TI := fun σ H R => ta σ H fun vs H1 => ∃ j : Int, vs = [.int j] ∧ -(2 ^ 62) ≤ j ∧ j < 2 ^ 62 ∧ R (Itr 0 j.toNat) H1
def iRng2 (ta : TA) : TI := fun σ H R => ta σ H fun vs H1 => ∃ i j : Int, vs = [.int i, .int j] ∧ (-(2 ^ 62) ≤ i ∧ i < 2 ^ 62 ∧ -(2 ^ 62) ≤ j ∧ j < 2 ^ 62) ∧ R (Itr i (j - i).toNat) H1
theorem pi_range1 {a : Expr} {ta : TA} {p pos : Pos} (hg : Gl X "range") (hm : X.mg "range" = none) (ha : PA X [a] ta) (hs : starEach [a] X.env = [(false, eval a X.env)] := by rfl) : PI X tg (.Call (.Name "range" p) [a] [] pos) (iRng1 ta) := by
  intro pins s σ H R I h
  refine Call_ (ld_blt I hg hm boot_range (PyProof.Rows.callWith_type1 (thn (ha pos pins s σ H _ I h) fun us s1 ⟨vs, H1, I1, r1, q1⟩ => ?_) hs rfl))
  obtain ⟨j, e, q1, q2, q⟩ := q1
  subst e
  cases r1 with
  | cons r rr =>
    cases rr
    obtain ⟨t, rfl⟩ := r
    exact call_range_1 (range_it I1 (by omega) (by omega) q1 q2 (by simpa using q))
theorem pi_range2 {a b : Expr} {ta : TA} {p pos : Pos} (hg : Gl X "range") (hm : X.mg "range" = none) (ha : PA X [a, b] ta) (hs : starEach [a, b] X.env = [(false, eval a X.env), (false, eval b X.env)] := by rfl) (hs2 : starEach [b] X.env = [(false, eval b X.env)] := by rfl) :
    PI X tg (.Call (.Name "range" p) [a, b] [] pos) (iRng2 ta) := by
  intro pins s σ H R I h
  refine Call_ (ld_blt I hg hm boot_range (PyProof.Rows.callWith_type1 (thn (ha pos pins s σ H _ I h) fun us s1 ⟨vs, H1, I1, r1, q1⟩ => ?_) (by rw [hs, hs2]) (by rw [hs2]; rfl)))
  obtain ⟨i, j, e, ⟨q1, q2, q3, q4⟩, q⟩ := q1
  subst e
  cases r1 with
  | cons r rr =>
    cases rr with
    | cons r' rr =>
      cases rr
      obtain ⟨t, rfl⟩ := r
      obtain ⟨t', rfl⟩ := r'
      exact call_range_2 (range_it I1 q1 q2 q3 q4 q)
def tFor (wi : TI) (g : TG) (tb : TS) : TS := fun D σ H => wi σ H fun J H1 => ∃ W : Nat → Nat → St → Hp → Prop, (∃ m, W 0 m σ H1) ∧ ∀ i m σ H, W i m σ H →
  (J.stop i H ∧ D.nx σ H) ∨ (J.go i H ∧ ∃ N : St → Hp → Prop, (∀ σ' H', N σ' H' → ∃ m', m' < m ∧ W (i + 1) m' σ' H') ∧ ∀ x H', J.yld i H x H' → g x σ H' fun σ2 H2 => tb { D with nx := N, ct := N, bk := D.nx } σ2 H2)
def pinsAt (fp : List Addr) (h : Heap) : List (Addr × Obj) := fp.filterMap fun b => (h.get? b).map fun o => (b, o)
theorem mem_pinsAt {fp : List Addr} {h : Heap} {b : Addr} {o : Obj} (hb : b ∈ fp) (e : h.get? b = some o) : (b, o) ∈ pinsAt fp h := List.mem_filterMap.mpr ⟨b, hb, by rw [e]; rfl⟩
theorem of_pinsAt {fp : List Addr} {h : Heap} {p : Addr × Obj} (hp : p ∈ pinsAt fp h) : p.1 ∈ fp ∧ h.get? p.1 = some p.2 := by
  obtain ⟨b, hb, e⟩ := List.mem_filterMap.mp hp
  cases q : h.get? b with
  | none => rw [q] at e; cases e
  | some o =>
    rw [q] at e
    have e' : (b, o) = p := Option.some.inj e
    subst e'
    exact ⟨hb, q⟩
theorem Inv.pinned {pins : List (Addr × Obj)} {σ : St} {H : Hp} {s : Shared} {fp : List Addr} (I : Inv X pins σ H s) (hf : ∀ b ∈ fp, FpOk X pins H b) (ho : ∀ b ∈ fp, ∃ o, s.heap.get? b = some o ∧ ∀ v, o.data ≠ .cell v) : Inv X (pins ++ pinsAt fp s.heap) σ H s :=
  I.pins_of fun p hp => (List.mem_append.mp hp).elim (fun z => I.pin p (List.mem_append_right _ z)) fun z => by
    obtain ⟨hb, e⟩ := of_pinsAt z
    obtain ⟨f0, f1, f2, _⟩ := hf p.1 hb
    obtain ⟨o, e', d⟩ := ho p.1 hb
    rw [e] at e'; cases e'
    exact ⟨e, f0, f1, f2, d⟩
theorem Inv.unpinned {pins pl : List (Addr × Obj)} {σ : St} {H : Hp} {s : Shared} (I : Inv X (pins ++ pl) σ H s) : Inv X pins σ H s := I.pins_of fun p hp => I.pin p (List.mem_append_right _ (List.mem_append_left _ hp))
theorem ps_for {iter : Expr} {body : List Stmt} {wi : TI} {g : TG} {tb : TS} {pos : Pos} (hp : PassesOwn (model X.prog X.w) X.A X.env X.xe) (hc : X.calm = true) (hi : PI X tg iter wi) (hg : PG X tg g) (hb : PSs X body tb)
    (hs : ∀ x, foldedSetIterable iter X.env x = pure x := by intro _; rfl) : PS X (.For tg iter body [] pos) (tFor wi g tb) := by
  intro pins s σ H D I h
  refine wpAny_For (thn (hi pins s σ H _ I h) fun v s1 h1 => thn h1 fun itv s2 h2 => ?_) hs
  obtain ⟨it, fp, tn, J, H2, e, I2, T, st2, f2, W, ⟨m0, w0⟩, turn⟩ := h2
  subst e
  have stat : ∀ {H' : Hp}, (∀ b ∈ fp, H' b = none) → ∀ b ∈ fp, FpOk X pins H' b := fun hn b hb => ⟨hn b hb, (f2 b hb).2⟩
  refine codeAny_forLoop_any (fun n s' => ∃ i σ' H', Inv X pins σ' H' s' ∧ tn i s'.heap ∧ (∀ b ∈ fp, H' b = none) ∧ W i n σ' H') ?_ m0 ⟨0, σ, H2, I2, st2, fun b hb => (f2 b hb).1, w0⟩
  rintro n s3 ⟨i, σ3, H3, I3, st3, fr3, w3⟩
  rcases turn i n σ3 H3 w3 with ⟨stop, qn⟩ | ⟨go, N, hN, step⟩
  · refine wpAny_passesOwn hp (thn (T.done X rfl rfl rfl hc i pins s3 σ3 H3 X.xe I3 (stat fr3) st3 stop) fun r s4 ⟨hr, I4⟩ => ?_)
    subst hr
    exact wpAny_execs_nil ⟨σ3, H3, I4, qn⟩
  · refine wpAny_passesOwn hp (thn (T.item X rfl rfl rfl hc i pins s3 σ3 H3 X.xe I3 (stat fr3) st3 go) fun r s4 ⟨u, hr, h4⟩ => ?_)
    subst hr
    refine wpAny_passesOwn hp (thn h4 fun _ s5 ⟨x, H5, I5, r5, y5, st5, fr5⟩ => ?_)
    have I5' := I5.pinned (stat fr5) (T.obj _ _ st5)
    refine wpAny_passesOwn hp (thn (hg _ s5 σ3 H5 x u _ I5' r5 (step x H5 y5)) fun _ s6 ⟨σ6, H6, I6, q6⟩ => ?_)
    refine wpAny_passesOwn hp (thn (hb _ s6 σ6 H6 _ I6 q6) fun f s7 q7 => ?_)
    have again : ∀ {σ7 : St} {H7 : Hp}, Inv X (pins ++ pinsAt fp s5.heap) σ7 H7 s7 → N σ7 H7 → ∃ m, m < n ∧ ∃ i σ' H', Inv X pins σ' H' s7 ∧ tn i s7.heap ∧ (∀ b ∈ fp, H' b = none) ∧ W i m σ' H' := fun {σ7 H7} I7 n7 => by
      obtain ⟨m', hm, w7⟩ := hN σ7 H7 n7
      refine ⟨m', hm, i + 1, σ7, H7, I7.unpinned, T.keep _ _ _ st5 fun b hb o e => (I7.pin (b, o) (List.mem_append_right _ (List.mem_append_right _ (mem_pinsAt hb e)))).1, fun b hb => ?_, w7⟩
      obtain ⟨o, e, d⟩ := T.obj _ _ st5 b hb
      exact (I7.pin (b, o) (List.mem_append_right _ (List.mem_append_right _ (mem_pinsAt hb e)))).2.1
    cases f with
    | next => obtain ⟨σ7, H7, I7, n7⟩ := q7; exact again I7 n7
    | cont => obtain ⟨σ7, H7, I7, n7⟩ := q7; exact again I7 n7
    | brk => obtain ⟨σ7, H7, I7, q7⟩ := q7; exact ⟨σ7, H7, I7.unpinned, q7⟩
    | ret v => obtain ⟨x7, σ7, H7, I7, r7, q7⟩ := q7; exact ⟨x7, σ7, H7, I7.unpinned, r7, q7⟩
end
theorem for_range {lo : Int} {n : Nat} {g : TG} {tb : TS} {D : Ends} {σ : St} {H : Hp} (Pv : Nat → St → Hp → Prop) (h0 : Pv 0 σ H)
    (hs : ∀ i σ H, i < n → Pv i σ H → g (.int (lo + i)) σ H fun σ2 H2 => tb { D with nx := Pv (i + 1), ct := Pv (i + 1), bk := D.nx } σ2 H2) (hd : ∀ σ H, Pv n σ H → D.nx σ H) :
    ∃ W : Nat → Nat → St → Hp → Prop, (∃ m, W 0 m σ H) ∧ ∀ i m σ H, W i m σ H →
      ((Itr lo n).stop i H ∧ D.nx σ H) ∨ ((Itr lo n).go i H ∧ ∃ N : St → Hp → Prop, (∀ σ' H', N σ' H' → ∃ m', m' < m ∧ W (i + 1) m' σ' H') ∧ ∀ x H', (Itr lo n).yld i H x H' → g x σ H' fun σ2 H2 => tb { D with nx := N, ct := N, bk := D.nx } σ2 H2) := by
  refine ⟨fun i m σ H => m = n - i ∧ i ≤ n ∧ Pv i σ H, ⟨n, by simp, Nat.zero_le _, h0⟩, ?_⟩
  rintro i m σ H ⟨rfl, hi, p⟩
  by_cases hlt : i < n
  · refine .inr ⟨hlt, Pv (i + 1), fun σ' H' p' => ⟨n - (i + 1), by omega, rfl, hlt, p'⟩, fun x H' y => ?_⟩
    obtain ⟨e, y⟩ := y
    subst e y
    exact hs i σ _ hlt p
  · have e : i = n := by omega
    subst e
    exact .inl ⟨Nat.le_refl _, hd σ H p⟩
end L2
namespace L2
open PySem PySem.Spec PyProof.Rows
abbrev R2 := V → V → Hp → VK → Prop
def OpR (X : Cx) (f : Value → Value → Sem Value) (r : R2) : Prop :=
  ∀ (pins : List (Addr × Obj)) (s : Shared) (σ : St) (H : Hp) (x y : V) (v u : Value) (Q : VK), Inv X pins σ H s → RelV x v → RelV y u → r x y H Q →
    wpAny (model X.prog X.w) X.A (f v u) (EP X pins σ Q) X.xe s
def UnR (X : Cx) (f : Value → Sem Value) (r : V → Hp → VK → Prop) : Prop :=
  ∀ (pins : List (Addr × Obj)) (s : Shared) (σ : St) (H : Hp) (x : V) (v : Value) (Q : VK), Inv X pins σ H s → RelV x v → r x H Q →
    wpAny (model X.prog X.w) X.A (f v) (EP X pins σ Q) X.xe s
def CallR (X : Cx) (f : Value) (r : List V → Hp → VK → Prop) : Prop :=
  ∀ (pins : List (Addr × Obj)) (s : Shared) (σ : St) (H : Hp) (xs : List V) (us : List Value) (Q : VK), Inv X pins σ H s → Vals xs us → r xs H Q →
    wpAny (model X.prog X.w) X.A (call f us) (EP X pins σ Q) X.xe s
def tOp (r : R2) (ta tb : TE) : TE := fun σ H Q => ta σ H fun x H1 => tb σ H1 fun y H2 => r x y H2 Q
def tUn (r : V → Hp → VK → Prop) (ta : TE) : TE := fun σ H Q => ta σ H fun x H1 => r x H1 Q
def rI (C : Int → Int → Prop) (g : Int → Int → V) : R2 := fun x y H Q => ∃ i j, x = .int i ∧ y = .int j ∧ C i j ∧ Q (g i j) H
def rI0 (g : Int → Int → V) : R2 := fun x y H Q => ∃ i j, x = .int i ∧ y = .int j ∧ Q (g i j) H
def rU (g : Int → V) : V → Hp → VK → Prop := fun x H Q => ∃ i, x = .int i ∧ Q (g i) H
section
variable {X : Cx} {a b c : Expr} {ta tb tc : TE} {pos : Pos}
theorem binT (ha : PE X a ta) (hb : PE X b tb) {pins : List (Addr × Obj)} {s : Shared} {σ : St} {H : Hp} {R : V → V → Hp → Prop} (I : Inv X pins σ H s)
    (h : ta σ H fun x H1 => tb σ H1 fun y H2 => R x y H2) {Q : Value → Shared → Prop} {f : Value → Value → Sem Value}
    (hf : ∀ v u s2 x y H2, Inv X pins σ H2 s2 → RelV x v → RelV y u → R x y H2 → wpAny (model X.prog X.w) X.A (f v u) Q X.xe s2) :
    wpAny (model X.prog X.w) X.A (eval a X.env) (fun v s₁ => wpAny (model X.prog X.w) X.A (eval b X.env) (fun u s₂ => wpAny (model X.prog X.w) X.A (f v u) Q X.xe s₂) X.xe s₁) X.xe s := by
  refine thn (ha pins s σ H _ I h) fun v s1 ⟨x, H1, I1, r1, q1⟩ => ?_
  refine thn (hb pins s1 σ H1 _ I1 q1) fun u s2 ⟨y, H2, I2, r2, q2⟩ => ?_
  exact hf v u s2 x y H2 I2 r1 r2 q2
theorem pe_op {op : Operator} {r : R2} (ho : OpR X (binaryOp op) r) (ha : PE X a ta) (hb : PE X b tb) : PE X (.BinOp a op b pos) (tOp r ta tb) := by
  intro pins s σ H Q I h
  exact wpAny_BinOp (binT ha hb I h fun v u s2 x y H2 I2 rx ry q => ho pins s2 σ H2 x y v u Q I2 rx ry q)
theorem pe_un {op : UnaryOp} {r : V → Hp → VK → Prop} (ho : UnR X (unaryOp op) r) (ha : PE X a ta) : PE X (.UnaryOp op a pos) (tUn r ta) := by
  intro pins s σ H Q I h
  exact UnaryOp_ (thn (ha pins s σ H _ I h) fun v s1 ⟨x, H1, I1, r1, q1⟩ => ho pins s1 σ H1 x v Q I1 r1 q1)
theorem opI {f : Value → Value → Sem Value} {C : Int → Int → Prop} {g : Int → Int → Int}
    (rule : ∀ (i j : Int) (t u : Tok) (s : Shared) (Q : Value → Shared → Prop) (E : Value → Shared → Prop), C i j → Q (.int (g i j) s.toks) { s with toks := s.toks + 1 } → wpAny (model X.prog X.w) X.A (f (.int i t) (.int j u)) Q E s) :
    OpR X f (rI C fun i j => .int (g i j)) := by
  intro pins s σ H x y v u Q I rx ry h
  obtain ⟨i, j, rfl, rfl, hc, q⟩ := h
  obtain ⟨t, rfl⟩ := rx
  obtain ⟨t', rfl⟩ := ry
  exact rule i j t t' s _ _ hc ⟨.int (g i j), H, I.tok _, ⟨_, rfl⟩, q⟩
theorem opI0 {f : Value → Value → Sem Value} {g : Int → Int → Int}
    (rule : ∀ (i j : Int) (t u : Tok) (s : Shared) (Q : Value → Shared → Prop) (E : Value → Shared → Prop), Q (.int (g i j) s.toks) { s with toks := s.toks + 1 } → wpAny (model X.prog X.w) X.A (f (.int i t) (.int j u)) Q E s) :
    OpR X f (rI0 fun i j => .int (g i j)) := by
  intro pins s σ H x y v u Q I rx ry h
  obtain ⟨i, j, rfl, rfl, q⟩ := h
  obtain ⟨t, rfl⟩ := rx
  obtain ⟨t', rfl⟩ := ry
  exact rule i j t t' s _ _ ⟨.int (g i j), H, I.tok _, ⟨_, rfl⟩, q⟩
theorem opB0 {f : Value → Value → Sem Value} {g : Int → Int → Bool}
    (rule : ∀ (i j : Int) (t u : Tok) (s : Shared) (Q : Value → Shared → Prop) (E : Value → Shared → Prop), Q (.bool (g i j)) s → wpAny (model X.prog X.w) X.A (f (.int i t) (.int j u)) Q E s) :
    OpR X f (rI0 fun i j => .bl (g i j)) := by
  intro pins s σ H x y v u Q I rx ry h
  obtain ⟨i, j, rfl, rfl, q⟩ := h
  obtain ⟨t, rfl⟩ := rx
  obtain ⟨t', rfl⟩ := ry
  exact rule i j t t' s _ _ ⟨.bl (g i j), H, I, rfl, q⟩
def CDiv (i j : Int) : Prop := 0 < j ∧ j < 1073741824
def CPow (i j : Int) : Prop := 0 ≤ j ∧ j ≤ 1000000 ∧ i.natAbs < 2 ^ 64
def CMul (i j : Int) : Prop := (-(2 ^ 64) < i ∧ i < 2 ^ 64) ∨ (-(2 ^ 64) < j ∧ j < 2 ^ 64)
theorem CMul.ok {i j : Int} (h : CMul i j) : IntMulOk i j := by
  rcases h with ⟨h1, h2⟩ | ⟨h1, h2⟩
  · exact .of_left (intBits_le_64 h1 h2)
  · exact .of_right (intBits_le_64 h1 h2)
theorem op_add : OpR X (binaryOp .Add) (rI0 fun i j => .int (i + j)) := opI0 fun _ _ _ _ _ _ _ q => add_int q
theorem op_sub : OpR X (binaryOp .Sub) (rI0 fun i j => .int (i - j)) := opI0 fun _ _ _ _ _ _ _ q => sub_int q
theorem op_mul : OpR X (binaryOp .Mult) (rI CMul fun i j => .int (i * j)) := opI fun _ _ _ _ _ _ _ hc q => mul_int q hc.ok
theorem op_mod : OpR X (binaryOp .Mod) (rI (fun _ j => 0 < j) fun i j => .int (i % j)) := opI fun i j _ _ _ _ _ hc q => by
  have h1 : (0 : Int) < j := hc
  exact mod_int' (by omega) (by rw [Int.fmod_eq_emod_of_nonneg i (by omega)]; exact q)
theorem op_pow : OpR X (binaryOp .Pow) (rI CPow fun i j => .int (i ^ j.toNat)) := opI fun _ _ _ _ _ _ _ hc q => pow_int_small hc.1 hc.2.1 hc.2.2 q
theorem iop_mul : OpR X (inplaceOp .Mult) (rI CMul fun i j => .int (i * j)) := opI fun _ _ _ _ _ _ _ hc q => imul_int q hc.ok
theorem unI {f : Value → Sem Value} {g : Int → Int}
    (rule : ∀ (i : Int) (t : Tok) (s : Shared) (Q : Value → Shared → Prop) (E : Value → Shared → Prop), Q (.int (g i) s.toks) { s with toks := s.toks + 1 } → wpAny (model X.prog X.w) X.A (f (.int i t)) Q E s) :
    UnR X f (rU fun i => .int (g i)) := by
  intro pins s σ H x v Q I rx h
  obtain ⟨i, rfl, q⟩ := h
  obtain ⟨t, rfl⟩ := rx
  exact rule i t s _ _ ⟨.int (g i), H, I.tok _, ⟨_, rfl⟩, q⟩
theorem un_neg : UnR X (unaryOp .USub) (rU fun i => .int (-i)) := unI fun _ _ _ _ _ q => neg_int q
end
def scal : V → V → Bool
  | .non, .non => true | .non, .int _ => true | .int _, .non => true | .non, .bl _ => true | .bl _, .non => true | .non, .str _ => true | .str _, .non => true
  | .int _, .int _ => true | .bl _, .bl _ => true | .str _, .str _ => true | .byt _, .byt _ => true
  | .int _, .str _ => true | .str _, .int _ => true | .bl _, .str _ => true | .str _, .bl _ => true
  | _, _ => false
def rEq : R2 := fun x y H Q => scal x y = true ∧ Q (.bl (decide (x = y))) H
def rNe : R2 := fun x y H Q => scal x y = true ∧ Q (.bl (!decide (x = y))) H
theorem dec_int {i j : Int} : decide (V.int i = V.int j) = (i == j) := by
  rw [Bool.eq_iff_iff]
  simp
theorem dec_bl {i j : Bool} : decide (V.bl i = V.bl j) = (i == j) := by
  rw [Bool.eq_iff_iff]
  simp
theorem dec_str {i j : Str} : decide (V.str i = V.str j) = (i == j) := by
  rw [Bool.eq_iff_iff]
  simp
theorem dec_byt {i j : Array UInt8} : decide (V.byt i = V.byt j) = (i.toList == j.toList) := by
  rw [Bool.eq_iff_iff]
  cases i
  cases j
  simp
section
variable {X : Cx} {a b c : Expr} {ta tb tc : TE} {pos : Pos}
theorem fin_bl {pins : List (Addr × Obj)} {σ : St} {H : Hp} {s : Shared} {Q : VK} {k k' : Bool} (I : Inv X pins σ H s) (q : Q (.bl k) H) (e : k = k') : EP X pins σ Q (.bool k') s := by
  subst e
  exact ⟨.bl k, H, I, rfl, q⟩
theorem op_eq : OpR X (compareOp .Eq) rEq := by
  intro pins s σ H x y v u Q I rx ry h
  obtain ⟨hs, q⟩ := h
  cases x with
  | non =>
    cases rx
    cases y with
    | non => cases ry; exact PySem.EqNone.eq_none_none (fin_bl I q (by simp))
    | bl j => cases ry; exact PySem.EqNone.eq_none_bool (fin_bl I q (by simp))
    | int j => obtain ⟨t', rfl⟩ := ry; exact PySem.EqNone.eq_none_int (fin_bl I q (by simp))
    | str j => obtain ⟨t', rfl⟩ := ry; exact PySem.EqNone.eq_none_str (fin_bl I q (by simp))
    | _ => exact absurd (show false = true from hs) Bool.false_ne_true
  | bl i =>
    cases rx
    cases y with
    | non => cases ry; exact PySem.EqNone.eq_bool_none (fin_bl I q (by simp))
    | bl j => cases ry; exact eq_bool (fin_bl I q dec_bl)
    | str j => obtain ⟨t', rfl⟩ := ry; exact PySem.EqMixed.eq_bool_str (fin_bl I q (by simp))
    | _ => exact absurd (show false = true from hs) Bool.false_ne_true
  | int i =>
    obtain ⟨t, rfl⟩ := rx
    cases y with
    | non => cases ry; exact PySem.EqNone.eq_int_none (fin_bl I q (by simp))
    | int j => obtain ⟨t', rfl⟩ := ry; exact eq_int (fin_bl I q dec_int)
    | str j => obtain ⟨t', rfl⟩ := ry; exact PySem.EqMixed.eq_int_str (fin_bl I q (by simp))
    | _ => exact absurd (show false = true from hs) Bool.false_ne_true
  | str i =>
    obtain ⟨t, rfl⟩ := rx
    cases y with
    | non => cases ry; exact PySem.EqNone.eq_str_none (fin_bl I q (by simp))
    | bl j => cases ry; exact PySem.EqMixed.eq_str_bool (fin_bl I q (by simp))
    | int j => obtain ⟨t', rfl⟩ := ry; exact PySem.EqMixed.eq_str_int (fin_bl I q (by simp))
    | str j => obtain ⟨t', rfl⟩ := ry; exact eq_str (fin_bl I q dec_str)
    | _ => exact absurd (show false = true from hs) Bool.false_ne_true
  | byt i =>
    obtain ⟨t, rfl⟩ := rx
    cases y with
    | byt j => obtain ⟨t', rfl⟩ := ry; exact PySem.W.eq_bytes (fin_bl I q dec_byt)
    | _ => exact absurd (show false = true from hs) Bool.false_ne_true
  | _ => cases y <;> exact absurd (show false = true from hs) Bool.false_ne_true
theorem op_ne : OpR X (compareOp .NotEq) rNe := by
  intro pins s σ H x y v u Q I rx ry h
  obtain ⟨hs, q⟩ := h
  cases x with
  | non =>
    cases rx
    cases y with
    | non => cases ry; exact PySem.EqNone.ne_none_none (fin_bl I q (by simp))
    | bl j => cases ry; exact PySem.EqNone.ne_none_bool (fin_bl I q (by simp))
    | int j => obtain ⟨t', rfl⟩ := ry; exact PySem.EqNone.ne_none_int (fin_bl I q (by simp))
    | str j => obtain ⟨t', rfl⟩ := ry; exact PySem.EqNone.ne_none_str (fin_bl I q (by simp))
    | _ => exact absurd (show false = true from hs) Bool.false_ne_true
  | bl i =>
    cases rx
    cases y with
    | non => cases ry; exact PySem.EqNone.ne_bool_none (fin_bl I q (by simp))
    | bl j => cases ry; exact ne_bool (fin_bl I q (congrArg not dec_bl))
    | str j => obtain ⟨t', rfl⟩ := ry; exact PySem.EqMixed.ne_bool_str (fin_bl I q (by simp))
    | _ => exact absurd (show false = true from hs) Bool.false_ne_true
  | int i =>
    obtain ⟨t, rfl⟩ := rx
    cases y with
    | non => cases ry; exact PySem.EqNone.ne_int_none (fin_bl I q (by simp))
    | int j => obtain ⟨t', rfl⟩ := ry; exact ne_int (fin_bl I q (congrArg not dec_int))
    | str j => obtain ⟨t', rfl⟩ := ry; exact PySem.EqMixed.ne_int_str (fin_bl I q (by simp))
    | _ => exact absurd (show false = true from hs) Bool.false_ne_true
  | str i =>
    obtain ⟨t, rfl⟩ := rx
    cases y with
    | non => cases ry; exact PySem.EqNone.ne_str_none (fin_bl I q (by simp))
    | bl j => cases ry; exact PySem.EqMixed.ne_str_bool (fin_bl I q (by simp))
    | int j => obtain ⟨t', rfl⟩ := ry; exact PySem.EqMixed.ne_str_int (fin_bl I q (by simp))
    | str j => obtain ⟨t', rfl⟩ := ry; exact ne_str (fin_bl I q (congrArg not dec_str))
    | _ => exact absurd (show false = true from hs) Bool.false_ne_true
  | byt i =>
    obtain ⟨t, rfl⟩ := rx
    cases y with
    | byt j => obtain ⟨t', rfl⟩ := ry; exact PySem.W.ne_bytes (fin_bl I q (congrArg not dec_byt))
    | _ => exact absurd (show false = true from hs) Bool.false_ne_true
  | _ => cases y <;> exact absurd (show false = true from hs) Bool.false_ne_true
theorem op_lt : OpR X (compareOp .Lt) (rI0 fun i j => .bl (decide (i < j))) := opB0 fun _ _ _ _ _ _ _ q => lt_int q
theorem op_le : OpR X (compareOp .LtE) (rI0 fun i j => .bl (decide (i ≤ j))) := opB0 fun _ _ _ _ _ _ _ q => le_int q
theorem op_ge : OpR X (compareOp .GtE) (rI0 fun i j => .bl (decide (j ≤ i))) := opB0 fun _ _ _ _ _ _ _ q => ge_int q
def isObj : HO → Bool
  | .lst _ => true
  | .ins _ _ _ => true
  | _ => false
theorem obj_there {pins : List (Addr × Obj)} {s : Shared} {σ : St} {H : Hp} {a : Addr} {o : HO} (I : Inv X pins σ H s) (h : H a = some o) (p : isObj o = true) : ∃ ob, s.heap.get? a = some ob ∧ ob.cls ≠ .type "tuple" := by
  cases o with
  | lst xs =>
    obtain ⟨_, its, n, _, e⟩ : xs.length ≤ sizeLine ∧ ∃ (its : List Value) (n : Nat), Vals xs its ∧ s.heap.get? a = some { cls := .type "list", data := .seq its.toArray n } := I.hok a _ h
    exact ⟨_, e, (by show Value.type "list" ≠ .type "tuple"; decide +kernel)⟩
  | ins C dx fs =>
    have x := I.hok a _ h
    obtain ⟨_, _, _, e, _⟩ := x
    exact ⟨_, e, (by show Value.ref C ≠ .type "tuple"; exact fun z => by cases z)⟩
  | _ => exact absurd (show false = true from p) Bool.false_ne_true
theorem OpR.or {f : Value → Value → Sem Value} {r r' : R2} (h : OpR X f r) (h' : OpR X f r') : OpR X f (fun x y H Q => r x y H Q ∨ r' x y H Q) := by
  intro pins s σ H x y v u Q I rx ry q
  rcases q with q | q
  · exact h pins s σ H x y v u Q I rx ry q
  · exact h' pins s σ H x y v u Q I rx ry q
theorem nomark (b : Expr) {op : CmpOp} (h : op ≠ .In := by decide) (h2 : op ≠ .NotIn := by decide) : behindInMarks op b = false := by
  have e1 : (op == CmpOp.In) = false := by cases op <;> first | rfl | exact absurd rfl h
  have e2 : (op == CmpOp.NotIn) = false := by cases op <;> first | rfl | exact absurd rfl h2
  cases b <;> simp [behindInMarks, e1, e2]
theorem pe_cmpR {op : CmpOp} {r : R2} (ho : OpR X (compareOp op) r) (ha : PE X a ta) (hb : PE X b tb) (hm : behindInMarks op b = false) : PE X (.Compare a [op] [b] pos) (tOp r ta tb) := by
  intro pins s σ H Q I h
  exact wpAny_Compare1 (binT ha hb I h fun v u s2 x y H2 I2 rx ry q => ho pins s2 σ H2 x y v u Q I2 rx ry q) hm
def tTest (t : TE) : TT := fun σ H Q => t σ H fun x H' => ∃ k, x = .bl k ∧ Q k H'
theorem pt_cmpR {op : CmpOp} {r : R2} (ho : OpR X (compareOp op) r) (ha : PE X a ta) (hb : PE X b tb) (hm : behindInMarks op b = false) : PT X (.Compare a [op] [b] pos) (tTest (tOp r ta tb)) := by
  intro pins s σ H Q I h
  refine wpAny_isTrue_Compare1 (thn (ha pins s σ H _ I h) fun v s1 ⟨x, H1, I1, r1, q1⟩ => thn (hb pins s1 σ H1 _ I1 q1) fun u s2 ⟨y, H2, I2, r2, q2⟩ =>
    thn (ho pins s2 σ H2 x y v u _ I2 r1 r2 q2) fun c s3 ⟨z, H3, I3, r3, k, e, q3⟩ => ?_) hm
  subst e
  cases r3
  exact wpAny_truthy_bool ⟨H3, I3, q3⟩
def tChain (r r' : R2) (ta tb tc : TE) : TE := fun σ H Q => ta σ H fun x H1 => tb σ H1 fun y H2 => r x y H2 fun z H3 => ∃ k, z = .bl k ∧
  (if k = true then tc σ H3 fun w' H4 => r' y w' H4 Q else Q (.bl false) H3)
theorem pe_chain {op op' : CmpOp} {r r' : R2} (ho : OpR X (compareOp op) r) (ho' : OpR X (compareOp op') r') (ha : PE X a ta) (hb : PE X b tb) (hc : PE X c tc)
    (hm : lastMarks [op, op'] [b, c] = false := by with_unfolding_all rfl) : PE X (.Compare a [op, op'] [b, c] pos) (tChain r r' ta tb tc) := by
  intro pins s σ H Q I h
  refine Compare_chain (thn (ha pins s σ H _ I h) fun v s1 ⟨x, H1, I1, r1, q1⟩ => chain_link (thn (hb pins s1 σ H1 _ I1 q1) fun u s2 ⟨y, H2, I2, r2, q2⟩ =>
    thn (ho pins s2 σ H2 x y v u _ I2 r1 r2 q2) fun d s3 ⟨z, H3, I3, r3, k, e, q3⟩ => ?_)) hm
  subst e
  cases r3
  refine wpAny_truthy_bool ?_
  cases k with
  | false => exact ite_ff ⟨.bl false, H3, I3, rfl, q3⟩
  | true => exact ite_tt (chain_last (thn (hc pins s3 σ H3 _ I3 q3) fun w' s4 ⟨z', H4, I4, r4, q4⟩ => ho' pins s4 σ H4 y z' u w' Q I4 r2 r4 q4))
theorem pt_chain {op op' : CmpOp} {r r' : R2} (ho : OpR X (compareOp op) r) (ho' : OpR X (compareOp op') r') (ha : PE X a ta) (hb : PE X b tb) (hc : PE X c tc)
    (hm : lastMarks [op, op'] [b, c] = false := by with_unfolding_all rfl) : PT X (.Compare a [op, op'] [b, c] pos) (tTest (tChain r r' ta tb tc)) := by
  intro pins s σ H Q I h
  refine isTrue_chain (thn (ha pins s σ H _ I h) fun v s1 ⟨x, H1, I1, r1, q1⟩ => test_link (thn (hb pins s1 σ H1 _ I1 q1) fun u s2 ⟨y, H2, I2, r2, q2⟩ =>
    thn (ho pins s2 σ H2 x y v u _ I2 r1 r2 q2) fun d s3 ⟨z, H3, I3, r3, k, e, q3⟩ => ?_)) hm
  subst e
  cases r3
  refine wpAny_truthy_bool ?_
  cases k with
  | false =>
    obtain ⟨k', e', q'⟩ := q3
    cases e'
    exact ite_ff ⟨H3, I3, q'⟩
  | true =>
    refine ite_tt (test_last (thn (hc pins s3 σ H3 _ I3 q3) fun w' s4 ⟨z', H4, I4, r4, q4⟩ => thn (ho' pins s4 σ H4 y z' u w' _ I4 r2 r4 q4) fun d' s5 ⟨z2, H5, I5, r5, k2, e2, q5⟩ => ?_))
    subst e2
    cases r5
    exact wpAny_truthy_bool ⟨H5, I5, q5⟩
theorem line63 : (sizeLine : Nat) < 2 ^ 63 := by rw [sizeLine_eq]; decide
theorem vals1 {x : V} {us : List Value} (r : Vals [x] us) : ∃ u, us = [u] ∧ RelV x u := by
  cases r with
  | cons r1 r2 => cases r2; exact ⟨_, rfl, r1⟩
theorem vals2 {x y : V} {us : List Value} (r : Vals [x, y] us) : ∃ u w', us = [u, w'] ∧ RelV x u ∧ RelV y w' := by
  cases r with
  | cons r1 r2 =>
    cases r2 with
    | cons r3 r4 => cases r4; exact ⟨_, _, rfl, r1, r3⟩
theorem call_max2 (hc : X.calm = true) : CallR X (.builtin "max") (fun xs H Q => ∃ i j, xs = [.int i, .int j] ∧ Q (.int (if j > i then j else i)) H) := by
  intro pins s σ H xs us Q I r h
  obtain ⟨i, j, rfl, q⟩ := h
  obtain ⟨u, w', rfl, ⟨t, rfl⟩, ⟨t', rfl⟩⟩ := vals2 r
  refine max_two_ints (I.ok.hd hc) fun h' tk k => ⟨_, H, I.kept k, ?_, q⟩
  by_cases hj : j > i
  · rw [if_pos hj, if_pos hj]; exact ⟨_, rfl⟩
  · rw [if_neg hj, if_neg hj]; exact ⟨_, rfl⟩
theorem call_min2 (hc : X.calm = true) : CallR X (.builtin "min") (fun xs H Q => ∃ i j, xs = [.int i, .int j] ∧ Q (.int (if j < i then j else i)) H) := by
  intro pins s σ H xs us Q I r h
  obtain ⟨i, j, rfl, q⟩ := h
  obtain ⟨u, w', rfl, ⟨t, rfl⟩, ⟨t', rfl⟩⟩ := vals2 r
  refine min_two_ints (I.ok.hd hc) fun h' tk k => ⟨_, H, I.kept k, ?_, q⟩
  by_cases hj : j < i
  · rw [if_pos hj, if_pos hj]; exact ⟨_, rfl⟩
  · rw [if_neg hj, if_neg hj]; exact ⟨_, rfl⟩
theorem call_divmod : CallR X (.builtin "divmod") (fun xs H Q => ∃ i j, xs = [.int i, .int j] ∧ CDiv i j ∧ ∀ p, H p = none → Q (.ref p) (upd H p (.tup [.int (i / j), .int (i % j)]))) := by
  intro pins s σ H xs us Q I r h
  obtain ⟨i, j, rfl, ⟨h1, h2⟩, q⟩ := h
  obtain ⟨u, w', rfl, ⟨t, rfl⟩, ⟨t', rfl⟩⟩ := vals2 r
  refine divmod_int (by omega) ?_ (.inl (PyProof.noPylong_small (by omega)))
  rw [Int.fdiv_eq_ediv_of_nonneg i (by omega), Int.fmod_eq_emod_of_nonneg i (by omega)]
  have hn : H s.heap.objs.size = none := I.hok.fresh (Nat.le_refl _)
  refine ⟨.ref s.heap.objs.size, _, ?_, rfl, q _ hn⟩
  refine I.laid (fun b o e => Heap.get?_push_of_some _ e) (Nat.le_refl _) ⟨by simp only [List.length_cons, List.length_nil]; rw [sizeLine_eq]; decide, [.int (i / j) s.toks, .int (i % j) (s.toks + 1)], .cons ⟨_, rfl⟩ (.cons ⟨_, rfl⟩ .nil), ?_⟩
  exact ⟨_, Heap.get?_push_size s.heap rfl, rfl, rfl, 0, rfl⟩
end
end L2
namespace L2
open PySem PySem.Spec PyProof.Rows
structure ObjM (h : Heap) (x dx C : Addr) (mA : Str → Option Value) : Prop where
  obj : h.get? x = some (PySem.W.instObj C dx)
  ns : h.Ns1 dx mA
  ne : dx ≠ x
theorem lookIn_ns {h : Heap} {dx : Addr} {mA : Str → Option Value} (n : h.Ns1 dx mA) : ∃ od, h.get? dx = some od ∧ ∀ name, PySem.W.lookIn name od = some (mA name) := by
  obtain ⟨o, es, ep, ho, hd, hk, _, hm⟩ := n
  refine ⟨o, ho, fun name => ?_⟩
  have e := hm name
  unfold nsFind findBy at e
  rw [← Array.find?_toList] at e
  unfold PySem.W.lookIn
  rw [hd]
  dsimp only
  split
  · rename_i y q
    rw [q] at e
    exact congrArg some e
  · rename_i q
    rw [q] at e
    have a : es.toList.any (·.refKey) = false := by
      rw [List.any_eq_false]
      intro y hy
      obtain ⟨z, t, hkey⟩ := hk y (Array.mem_toList_iff.mp hy)
      simp [DictEntry.refKey, hkey]
    have a' : ¬ es.toList.any (·.refKey) = true := by rw [a]; exact Bool.false_ne_true
    rw [if_neg a']
    exact congrArg some e
theorem ObjM.look {h : Heap} {x dx C : Addr} {mA : Str → Option Value} (I : ObjM h x dx C mA) : ∃ od, PySem.W.InstAt h x (PySem.W.instObj C dx) C (some od) ∧ ∀ name, PySem.W.lookIn name od = some (mA name) :=
  let ⟨od, ho, hl⟩ := lookIn_ns I.ns
  ⟨od, ⟨I.obj, rfl, rfl, ho⟩, hl⟩
section
variable {prog : Program} {w : World} {A : Around} {E : Value → Shared → Prop} {s : Shared} {K : PySem.W.Frag} {x dx C f : Addr} {mA : Str → Option Value} {name : Str} {v : Value}
end
section
variable {P : Program} {w : World} {H H' : Hp} {h h' : Heap} {a C dx : Addr} {fs fs' : List (Str × V)}
theorem ins_get (hok : HOk P w H h) (e : H a = some (.ins C dx fs)) : ∃ mA, ObjM h a dx C mA ∧ (∀ f, RelO (fs.lookup f) (mA f)) ∧ PySem.Within mA (fs.map (·.1)) ∧ fs.length ≤ 1000 ∧ H dx = some (.own a) := by
  obtain ⟨d, z, ne, ob, mA, n, r, q⟩ := (show ObjOk P w H h a (.ins C dx fs) from hok a _ e)
  exact ⟨mA, ⟨ob, n, ne⟩, r, q, z, d⟩
end
structure Cls (K : PySem.W.Frag) (C : Addr) : Prop where
  pg : PySem.W.plainGet K C Str.empty = true
  hd : PySem.W.hasDictIn K C = true
  po : PySem.W.plainOver K C = true
  sa : PySem.W.findIn K (.ref C) "__setattr__" = some (some (.builtin "object.__setattr__"))
theorem Cls.get {K : PySem.W.Frag} {C : Addr} (c : Cls K C) (f : Str) : PySem.W.plainGet K C f = true := c.pg
section
variable {X : Cx} {pins : List (Addr × Obj)} {σ : St} {H : Hp} {s : Shared} {a C dx : Addr} {fs : List (Str × V)} {f : Str} {v : V} {A : Around} {E : Value → Shared → Prop}
end
section
variable {X : Cx} {o e value : Expr} {f : Str} {pos pos' tpos : Pos} {ta tv : TE}
def rAdd : V → V → Hp → VK → Prop := fun x y H Q => ∃ i j, x = .int i ∧ y = .int j ∧ Q (.int (i + j)) H
end
section
variable {X : Cx} {pins : List (Addr × Obj)} {σ : St} {H : Hp} {s : Shared} {A : Around} {E : Value → Shared → Prop} {Q : Value → Shared → Prop} {c : Value} {b : Bool}
inductive TyOf (K : PySem.W.Frag) (H : Hp) : V → Value → Prop where
  | non : TyOf K H .non (.type "NoneType")
  | bl (x : Bool) : TyOf K H (.bl x) (.type "bool")
  | int (i : Int) : TyOf K H (.int i) (.type "int")
  | str (x : Str) : TyOf K H (.str x) (.type "str")
  | flt (x : UInt64) : TyOf K H (.flt x) (.type "float")
  | lst {a : Addr} {xs : List V} (e : H a = some (.lst xs)) : TyOf K H (.ref a) (.type "list")
  | frz {a : Addr} {o : Obj} {xs : List V} (e : H a = some (.frz o (.lst xs))) : TyOf K H (.ref a) (.type "list")
  | tup {a : Addr} {xs : List V} (e : H a = some (.tup xs)) : TyOf K H (.ref a) (.type "tuple")
  | dK {a : Addr} {kvs : List (Key × V)} (e : H a = some (.dK kvs)) : TyOf K H (.ref a) (.type "dict")
  | dT {a : Addr} {kvs : List (List Key × V)} (e : H a = some (.dT kvs)) : TyOf K H (.ref a) (.type "dict")
  | ins {a C dx : Addr} {fs : List (Str × V)} (e : H a = some (.ins C dx fs)) (cl : Cls K C) (ha : PySem.W.findIn K (.ref C) "__class__" = some (some (.builtin "object.__class__")))
      (hn : PySem.W.specialIn K (.builtin "object.__class__") "__get__" = some (some (.builtin "getset_descriptor.__get__"))) (htk : PySem.W.takesIn K (.builtin "object.__class__") = some true)
      (hm : PySem.W.mroIn K C (.type "object") = some true) : TyOf K H (.ref a) (.ref C)
theorem isinst_ok {x : V} {u t : Value} (I : Inv X pins σ H s) (rx : RelV x u) (ty : TyOf X.K H x t) (e : PySem.W.kitOne X.K t c = some b) (h : ∀ tk, Q (.bool b) { s with toks := tk }) :
    wpAny (model X.prog X.w) A (call (.builtin "isinstance") [u, c]) Q E s := by
  cases ty with
  | non => cases (show u = Value.none from rx); exact PySem.W.kia_one PySem.W.kitx_none I.kIn True.intro e (fun z => nomatch z) h
  | bl y => cases (show u = Value.bool y from rx); exact PySem.W.kia_one PySem.W.kitx_bool I.kIn True.intro e (fun z => nomatch z) h
  | int i => obtain ⟨t, q⟩ := (show ∃ t, u = Value.int i t from rx); cases q; exact PySem.W.kia_one PySem.W.kitx_int I.kIn True.intro e (fun z => nomatch z) h
  | str y => obtain ⟨t, q⟩ := (show ∃ t, u = Value.str y t from rx); cases q; exact PySem.W.kia_one PySem.W.kitx_str I.kIn True.intro e (fun z => nomatch z) h
  | flt y => obtain ⟨t, q⟩ := (show ∃ t, u = Value.float y t from rx); cases q; exact PySem.W.kia_one PySem.W.kitx_float I.kIn True.intro e (fun z => nomatch z) h
  | @lst a xs ea =>
    cases (show u = Value.ref a from rx)
    obtain ⟨_, _, n, _, h1⟩ := (show ObjOk X.prog X.w H s.heap a (.lst xs) from I.hok a _ ea)
    exact PySem.W.kia_one PySem.W.kitx_list I.kIn ⟨_, h1, rfl⟩ e (fun z => nomatch z) h
  | @frz a ob xs ea =>
    cases (show u = Value.ref a from rx)
    obtain ⟨_, _, _, n, _, h1⟩ := (show ObjOk X.prog X.w H s.heap a (.frz ob (.lst xs)) from I.hok a _ ea)
    exact PySem.W.kia_one PySem.W.kitx_list I.kIn ⟨_, h1, rfl⟩ e (fun z => nomatch z) h
  | @tup a xs ea =>
    cases (show u = Value.ref a from rx)
    obtain ⟨_, _, _, p⟩ := (show ObjOk X.prog X.w H s.heap a (.tup xs) from I.hok a _ ea)
    obtain ⟨o, h1, h2, _⟩ := p
    exact PySem.W.kia_one PySem.W.kitx_tuple I.kIn ⟨o, h1, h2⟩ e (fun z => nomatch z) h
  | @dK a kvs ea =>
    cases (show u = Value.ref a from rx)
    obtain ⟨_, _, vs, _, p⟩ := (show ObjOk X.prog X.w H s.heap a (.dK kvs) from I.hok a _ ea)
    obtain ⟨o, es, ep, h1, h2, _⟩ := p
    exact PySem.W.kia_one PySem.W.kitx_dict I.kIn ⟨o, h1, h2.1⟩ e (fun z => nomatch z) h
  | @dT a kvs ea =>
    cases (show u = Value.ref a from rx)
    obtain ⟨_, _, xs, _, o, es, ep, h1, h2, _⟩ := (show ObjOk X.prog X.w H s.heap a (.dT kvs) from I.hok a _ ea)
    exact PySem.W.kia_one PySem.W.kitx_dict I.kIn ⟨o, h1, h2.1⟩ e (fun z => nomatch z) h
  | @ins a C dx fs ea cl ha hn htk hm =>
    cases (show u = Value.ref a from rx)
    obtain ⟨mA, O, _⟩ := ins_get I.hok ea
    obtain ⟨od, J, _⟩ := O.look
    exact PySem.W.kia_one (PySem.W.kitx_own (cl.get _) cl.hd ha hn htk hm) I.kIn J e (fun z => nomatch z) h
end
end L2
namespace L2
open PySem PySem.Spec PyProof.Rows
structure Room (k : Nat) (A : Around) : Prop where
  hd : A.handled = none
  dp : A.depth + 3 * k + 5 < recursionLimit
  un : A.units + 16 * k + 200 < cLine
  gd : A.guards = some []
theorem Room.mono {j k : Nat} {A : Around} (r : Room k A) (h : j ≤ k) : Room j A := ⟨r.hd, by have := r.dp; omega, by have := r.un; omega, r.gd⟩
theorem Room.deeper {k : Nat} {A : Around} (r : Room (k + 1) A) (env : Env) : Room k (A.deeper env) :=
  ⟨r.hd, by have := r.dp; show A.depth + 1 + 3 * k + 5 < _; omega, by have := r.un; show A.units + 3 + 16 * k + 200 < _; omega, r.gd⟩
theorem Room.depth {k : Nat} {A : Around} (r : Room k A) : A.depth < recursionLimit := by have := r.dp; omega
theorem Room.units {k : Nat} {A : Around} (r : Room k A) : A.units + 64 < cLine := by have := r.un; omega
def tNil : TA := fun _ H Q => Q [] H
def tCons (ta : TE) (tr : TA) : TA := fun σ H Q => ta σ H fun x H1 => tr σ H1 fun xs H2 => Q (x :: xs) H2
section
variable {X : Cx} {e : Expr} {es : List Expr} {te : TE} {t : TA} {pos : Pos}
theorem pa_nil : PA X [] tNil := fun _ _ _ _ H Q I h => Calls.spliced_nil ⟨[], H, I, .nil, h⟩
theorem pa_cons (ha : PE X e te) (hr : PA X es t) (hs : starEach (e :: es) X.env = (false, eval e X.env) :: starEach es X.env := by rfl) : PA X (e :: es) (tCons te t) := by
  intro pos pins s σ H Q I h
  rw [hs]
  show wpAny _ _ (spliced ((false, eval e X.env) :: backTo pos (starEach es X.env))) _ _ s
  refine Calls.spliced_cons (thn (ha pins s σ H _ I h) fun u s1 ⟨x, H1, I1, r1, q1⟩ => ?_)
  exact thn (hr pos pins s1 σ H1 _ I1 q1) fun us s2 ⟨xs, H2, I2, r2, q2⟩ => ⟨x :: xs, H2, I2, .cons r1 r2, q2⟩
def tLst (t : TA) : TE := fun σ H Q => t σ H fun xs H1 => xs.length ≤ sizeLine ∧ ∀ p, H1 p = none → Q (.ref p) (upd H1 p (.lst xs))
theorem pe_lst (h : PA X es t) : PE X (.List es pos) (tLst t) := by
  intro pins s σ H Q I hq
  refine wpAny_List_spliced (thn (h pos pins s σ H _ I hq) fun us s1 ⟨xs, H1, I1, r, z, q⟩ => ⟨by rw [← r.length]; exact z, ?_⟩)
  have hf : H1 s1.heap.objs.size = none := I1.hok.fresh (Nat.le_refl _)
  refine ⟨.ref s1.heap.objs.size, upd H1 s1.heap.objs.size (.lst xs), I1.laid (t' := s1.toks) (fun b u e => Heap.get?_push_of_some _ e) (Nat.le_refl _) ?_, rfl, q _ hf⟩
  exact ⟨z, us, 0, r, Heap.get?_push_size _ rfl⟩
end
abbrev Sp := List V → Hp → VK → XK → Prop
abbrev CXT := List Env → Hp → Shared → XK → Value → Shared → Prop
structure Env0 (P : Program) (w : World) (K : PySem.W.Frag) (mg : Str → Option Value) (base : Heap) (A : Around) (outer : List Env) (s : Shared) (H : Hp) : Prop where
  frames : A.frames = some outer
  mod : Mod K mg base
  bs : ∀ b o, base.get? b = some o → s.heap.get? b = some o ∧ H b = none
  bsz : base.objs.size ≤ s.heap.objs.size
  funs : s.heap.FunFrames base outer
  frf : ∀ b ∈ frs outer, H b = none
  hok : HOk P w H s.heap
  bare : AllBare s.gens
def CE (outer : List Env) (P : Program) (w : World) (H : Hp) (s : Shared) (Q : VK) (u : Value) (s' : Shared) : Prop :=
  ∃ v H', s'.os = s.os ∧ AllBare s'.gens ∧ Un (frs outer) [] H H' s.heap s'.heap ∧ HOk P w H' s'.heap ∧ RelV v u ∧ Q v H'
def CR (CX : CXT) (outer : List Env) (P : Program) (w : World) (H : Hp) (s : Shared) (Q : VK) (E : XK) (r : Result) (s' : Shared) : Prop :=
  match r with
  | .ok (.ret u) => CE outer P w H s Q u s'
  | .ok _ => False
  | .error e => CX outer H s E e s'
structure FnOk (P : Program) (w : World) (K : PySem.W.Frag) (mg : Str → Option Value) (base : Heap) (CX : CXT) (k : Nat) (f : Addr) (fd : FuncData) (ps : List Str) (sp : Sp) : Prop where
  len : ∀ vs H Q E, sp vs H Q E → vs.length = ps.length
  run : ∀ (A : Around) (outer : List Env) (s : Shared) (H : Hp) (args : Args) (us : List Value) (vs : List V) (Q : VK) (E : XK), Room k A → Env0 P w K mg base A outer s H → BindsTo s fd args (ps.zip us) → Vals vs us → sp vs H Q E →
    codeAny (model P w) A (.call (.ref f) args) (CR CX outer P w H s Q E) s
theorem FnOk.imp {P : Program} {w : World} {K : PySem.W.Frag} {mg : Str → Option Value} {base : Heap} {CX : CXT} {k : Nat} {f : Addr} {fd : FuncData} {ps : List Str} {sp sp' : Sp} (F : FnOk P w K mg base CX k f fd ps sp)
    (h : ∀ vs H Q E, sp' vs H Q E → sp vs H Q E) : FnOk P w K mg base CX k f fd ps sp' :=
  ⟨fun vs H Q E q => F.len vs H Q E (h _ _ _ _ q), fun A outer s H args us vs Q E hr he hb hv hs => F.run A outer s H args us vs Q E hr he hb hv (h _ _ _ _ hs)⟩
section
variable {X : Cx} {pins : List (Addr × Obj)} {σ : St} {H : Hp} {s s' : Shared}
theorem Inv.env0 (I : Inv X pins σ H s) : Env0 X.prog X.w X.K X.mg X.base X.A X.stack s H :=
  ⟨I.ok.frames, I.ok.mod, I.bs, Nat.le_trans I.ok.bsz I.sz, I.stack, I.stkFree, I.hok, I.bare⟩
theorem Inv.after {Q : VK} {u : Value} (I : Inv X pins σ H s) (h : CE X.stack X.prog X.w H s Q u s') : EP X pins σ Q u s' := by
  obtain ⟨v, H', os, bare, un, hok, r, q⟩ := h
  obtain ⟨hh, g, d, t, os'⟩ := s'
  obtain rfl : os' = s.os := os
  exact ⟨v, H', I.call (h' := hh) (g' := g) (d' := d) (t' := t) (ch := []) un hok bare (fun b z => absurd z (by simp)), r, q⟩
end
def tCall (sp : Sp) (dvs : List V) (E : XK) (t : TA) : TE := fun σ H Q => t σ H fun vs H1 => sp (vs ++ dvs) H1 Q E
def Binds (K : PySem.W.Frag) (fd : FuncData) (ps : List Str) (ds : List Value) : Prop :=
  ∀ (s : Shared) (us : List Value), K.In s.heap → (us ++ ds).length = ps.length → BindsTo s fd ⟨us, []⟩ (ps.zip (us ++ ds))
theorem Binds.all {K : PySem.W.Frag} {fd : FuncData} {ps : List Str} (h : ∀ us : List Value, us.length = ps.length → bindArgs fd ⟨us, []⟩ = pure (ps.zip us)) : Binds K fd ps [] := fun s us _ hl => by
  rw [List.append_nil] at hl ⊢
  exact .of_eq (h us hl)
def Passes (CX : CXT) (X : Cx) (E : XK) : Prop := ∀ (pins : List (Addr × Obj)) (σ : St) (H : Hp) (s : Shared) (e : Value) (s' : Shared), Inv X pins σ H s → CX X.stack H s E e s' → X.xe e s'
section
variable {X : Cx} {CX : CXT} {k : Nat} {f C : Addr} {fd : FuncData} {ps : List Str} {sp : Sp} {dvs : List V} {ds : List Value} {E : XK} {x m : Str} {p pos apos : Pos} {e o : Expr} {es : List Expr} {ta : TE} {t : TA}
theorem run_fn {pins : List (Addr × Obj)} {σ : St} {H : Hp} {s : Shared} {Q : VK} {us : List Value} {vs : List V} (F : FnOk X.prog X.w X.K X.mg X.base CX k f fd ps sp) (hr : Room k X.A) (hb : Binds X.K fd ps ds) (hd : Vals dvs ds) (hx : Passes CX X E)
    (I : Inv X pins σ H s) (r : Vals vs us) (h : sp (vs ++ dvs) H Q E) : wpAny (model X.prog X.w) X.A (call (.ref f) us) (EP X pins σ Q) X.xe s := by
  have r2 : Vals (vs ++ dvs) (us ++ ds) := r.append hd
  have hl : (us ++ ds).length = ps.length := by rw [← r2.length]; exact F.len _ _ _ _ h
  refine wpAny_call (codeAny_mono (F.run X.A X.stack s H ⟨us, []⟩ (us ++ ds) (vs ++ dvs) Q E hr I.env0 (hb s us I.kIn hl) r2 h) fun r s' hq => ?_)
  cases r with
  | error e => exact hx pins σ H s e s' I hq
  | ok fl =>
    cases fl with
    | ret u => exact I.after hq
    | next => exact False.elim hq
    | brk => exact False.elim hq
    | cont => exact False.elim hq
theorem pe_call (F : FnOk X.prog X.w X.K X.mg X.base CX k f fd ps sp) (hr : Room k X.A) (hg : Gl X x) (hm : X.mg x = some (.ref f)) (hk : PySem.W.keepIn X.K (.ref f) = true) (hb : Binds X.K fd ps ds) (hd : Vals dvs ds) (hx : Passes CX X E)
    (ha : PA X (e :: es) t) (hdb : (x == ("__debug__" : Str)) = false := by decide) (he : starEach (e :: es) X.env = (false, eval e X.env) :: starEach es X.env := by rfl) (hpl : (backTo pos (starEach es X.env)).any (·.1) = false := by rfl) :
    PE X (.Call (.Name x p) (e :: es) [] pos) (tCall sp dvs E t) := by
  intro pins s σ H Q I h
  refine wpAny_Call_Name_kw (ld_glob I hg hm ?_ hdb)
  refine PySem.W.callWith_K (h₀ := X.base) I.ok.mod.kin hk (thn (ha pos pins s σ H _ I h) fun us s1 ⟨vs, H1, I1, r, q⟩ => ⟨I1.kIn, ?_⟩) he hpl
  exact run_fn F hr hb hd hx I1 r q
end
section
variable {X : Cx} {CX : CXT} {k : Nat} {f C : Addr} {fd : FuncData} {ps ks : List Str} {sp : Sp} {E : XK} {x m : Str} {p pos apos kpos : Pos} {e o : Expr} {es : List Expr} {kws : List Keyword} {te ta : TE} {t tk : TA} {nm : Option Str}
variable {g : List Value → List Value → List Value} {gV : List V → List V → List V}
end
structure FnScope (N P : List Str) (sc : Scope) : Prop where
  kind : sc.kind = .function
  co : sc.isCoroutine = false
  gen : sc.isGenerator = false
  nd : N.Nodup
  pre : N.take P.length = P
  par : ∀ x ∈ P, sc.names.lookup x = some .local ∨ sc.names.lookup x = some .cell
  nofree : ∀ y ∈ sc.names, y.2 ≠ .free
theorem bindL_out {kindOf : Str → Option NameKind} {x : Str} : ∀ {binds : List (Str × Value)} {m : Str → Option Value}, (∀ v, (x, v) ∉ binds) → bindL kindOf binds m x = m x
  | [], _, _ => rfl
  | (n, v) :: r, m, h => by
    unfold bindL
    rw [bindL_out fun w hw => h w (List.mem_cons_of_mem _ hw)]
    split
    · have : x ≠ n := by rintro rfl; exact h v List.mem_cons_self
      simp [this]
    · rfl
theorem bindC_out {kindOf : Str → Option NameKind} {x : Str} : ∀ {binds : List (Str × Value)} {m : Str → Option Value}, (∀ v, (x, v) ∉ binds) → bindC kindOf binds m x = m x
  | [], _, _ => rfl
  | (n, v) :: r, m, h => by
    unfold bindC
    rw [bindC_out fun w hw => h w (List.mem_cons_of_mem _ hw)]
    split
    · rfl
    · have : x ≠ n := by rintro rfl; exact h v List.mem_cons_self
      simp [this]
theorem bindL_get {kindOf : Str → Option NameKind} {x : Str} {v : Value} : ∀ {P : List Str} {vs : List Value} {i : Nat} {m : Str → Option Value}, P.Nodup → P[i]? = some x → vs[i]? = some v → kindOf x = some .local →
    bindL kindOf (P.zip vs) m x = some v
  | [], _, _, _, _, h, _, _ => by simp at h
  | _ :: _, [], _, _, _, _, h, _ => by simp at h
  | p :: P, w :: vs, 0, m, nd, h1, h2, hk => by
    simp at h1 h2; subst h1; subst h2
    show bindL kindOf ((p, w) :: P.zip vs) m p = _
    unfold bindL
    rw [bindL_out fun v hv => (List.nodup_cons.mp nd).1 (List.of_mem_zip hv).1, if_pos hk]
    simp
  | p :: P, w :: vs, i + 1, m, nd, h1, h2, hk => by
    show bindL kindOf ((p, w) :: P.zip vs) m x = _
    unfold bindL
    exact bindL_get (i := i) (List.nodup_cons.mp nd).2 (by simpa using h1) (by simpa using h2) hk
theorem bindC_get {kindOf : Str → Option NameKind} {x : Str} {v : Value} : ∀ {P : List Str} {vs : List Value} {i : Nat} {m : Str → Option Value}, P.Nodup → P[i]? = some x → vs[i]? = some v → kindOf x ≠ some .local →
    bindC kindOf (P.zip vs) m x = some v
  | [], _, _, _, _, h, _, _ => by simp at h
  | _ :: _, [], _, _, _, _, h, _ => by simp at h
  | p :: P, w :: vs, 0, m, nd, h1, h2, hk => by
    simp at h1 h2; subst h1; subst h2
    show bindC kindOf ((p, w) :: P.zip vs) m p = _
    unfold bindC
    rw [bindC_out fun v hv => (List.nodup_cons.mp nd).1 (List.of_mem_zip hv).1, if_neg hk]
    simp
  | p :: P, w :: vs, i + 1, m, nd, h1, h2, hk => by
    show bindC kindOf ((p, w) :: P.zip vs) m x = _
    unfold bindC
    exact bindC_get (i := i) (List.nodup_cons.mp nd).2 (by simpa using h1) (by simpa using h2) hk
def start (N : List Str) (vs : List V) : St := vs.map some ++ List.replicate (N.length - vs.length) none
def cxOf (CX : CXT) (P : Program) (w : World) (K : PySem.W.Frag) (mg : Str → Option Value) (base : Heap) (N : List Str) (qual : Str) (scope : Scope) (f : Addr) (cd : Value) (A : Around) (outer : List Env) (s : Shared) (H : Hp) (E : XK) : Cx where
  prog := P
  w := w
  K := K
  mg := mg
  base := base
  A := A.deeper (envOfC qual scope s.heap.objs.size f cd)
  N := N
  s₀ := s
  H₀ := H
  env := envOfC qual scope s.heap.objs.size f cd
  outer := outer
  stack := envOfC qual scope s.heap.objs.size f cd :: outer
  ex := []
  calm := true
  fn := fun _ => true
  pn := []
  xe := fun e s' => wpAny (model P w) (A.deeper (envOfC qual scope s.heap.objs.size f cd)) (leaving (envOfC qual scope s.heap.objs.size f cd) e) (fun _ s'' => CX outer H s E e s'') (fun e' s'' => CX outer H s E e' s'') s'
theorem cell_has {sc : Scope} {n : Nat} {x : Str} (h : sc.names.lookup x = some .cell) : ∃ c, (cellsFrom n sc.names []).lookup x = some c := by
  have q := PySem.W.cellsFrom_some sc.names n [] (.inl h)
  exact Option.isSome_iff_exists.mp q
theorem inv_start {CX : CXT} {P : Program} {w : World} {K : PySem.W.Frag} {mg : Str → Option Value} {base : Heap} {N ps : List Str} {qual : Str} {scope : Scope} {f : Addr} {cd : Value} {A : Around} {outer : List Env} {s s1 : Shared} {H : Hp} {E : XK} {us : List Value} {vs : List V}
    (S : FnScope N ps scope) (hd : A.handled = none) (e0 : Env0 P w K mg base A outer s H) (hl : vs.length = ps.length) (r : Vals vs us)
    (x : InCallC s s.heap.objs.size (bindL (envOfC qual scope s.heap.objs.size f cd).kindOf (ps.zip us) fun _ => none) (cellsFrom (s.heap.objs.size + 1) scope.names []) (bindC (envOfC qual scope s.heap.objs.size f cd).kindOf (ps.zip us) fun _ => none) s1) :
    Inv (cxOf CX P w K mg base N qual scope f cd A outer s H E) [] (start N vs) H s1 := by
  have hpl : ps.length ≤ N.length := by have := congrArg List.length S.pre; rw [List.length_take] at this; omega
  obtain ⟨h1, tk, rfl, hk⟩ := x.done
  have noA : ∀ b : Addr, b ∉ (cxOf CX P w K mg base N qual scope f cd A outer s H E).ex := fun b z => absurd (show b ∈ ([] : List Addr) from z) (by simp)
  refine ⟨⟨e0.mod, S.kind, rfl, rfl, Nat.le_refl _, fun y z c h1 h2 => ?_, fun y hy => ?_, fun y c _ h => ?_, fun _ => hd, Around.frames_deeper e0.frames, .inr ⟨rfl, rfl⟩, fun b z => absurd z (noA b), e0.bs, e0.bsz, fun b _ _ => noA b, fun b z => absurd z (noA b), e0.funs, e0.frf⟩,
    rfl, e0.bare, Un.kept hk, ⟨_, x.toInCall.ns, fun i y v h1 h2 h3 => ?_⟩, fun y c h => ⟨_, x.cell y c h⟩, e0.hok.fresh (Nat.le_refl _), fun y c h => ?_, fun p hp => absurd (show p ∈ ([] : List (Addr × Obj)) from hp) (by simp), e0.hok.kept hk, ?_⟩
  · exact name_of_addr x.apart (PySem.mem_of_lookup h1) (PySem.mem_of_lookup h2)
  · have hy : scope.names.lookup y = some .cell ∨ scope.names.lookup y = some .free := hy
    rcases hy with hy | hy
    · exact cell_has hy
    · exact absurd rfl (S.nofree _ (PySem.mem_of_lookup hy))
  · exact Nat.le_of_lt (x.above y c (PySem.mem_of_lookup h))
  · have hi : i < vs.length := by
      unfold start at h2
      by_cases hi : i < vs.length
      · exact hi
      · rw [List.getElem?_append_right (by simpa using hi)] at h2
        rw [List.getElem?_replicate] at h2
        split at h2 <;> cases h2
    have ha : vs[i]? = some v := by
      unfold start at h2
      rw [List.getElem?_append_left (by simpa using hi), List.getElem?_map] at h2
      cases e : vs[i]? with
      | none => rw [e] at h2; cases h2
      | some a => rw [e] at h2; cases h2; rfl
    obtain ⟨u, hu, rv⟩ := r.get ha
    have hp : ps[i]? = some y := by
      rw [← S.pre, List.getElem?_take_of_lt (by omega)]; exact h1
    have ndP : ps.Nodup := by rw [← S.pre]; exact S.nd.sublist (List.take_sublist _ _)
    refine ⟨u, rv, ?_⟩
    rcases S.par y (List.mem_of_getElem? hp) with k | k
    · exact .inl ⟨k, bindL_get ndP hp hu k⟩
    · obtain ⟨c, e⟩ := cell_has (n := s.heap.objs.size + 1) k
      refine .inr ⟨.inl k, c, e, ?_⟩
      have q := x.cell y c e
      rw [bindC_get ndP hp hu (by show scope.names.lookup y ≠ _; rw [k]; decide)] at q
      exact q
  · exact e0.hok.fresh (Nat.le_of_lt (x.above y c (PySem.mem_of_lookup h)))
  · unfold start
    show _ = N.length
    rw [List.length_append, List.length_map, List.length_replicate]
    omega
theorem fn_of {CX : CXT} {P : Program} {w : World} {K : PySem.W.Frag} {mg : Str → Option Value} {base : Heap} {k : Nat} {f : Addr} {name qual : Str} {params : Arguments} {body : List Stmt} {scope : Scope} {dV kV doc pm cdv ct oc : Value} {an od : Option Addr}
    {osl : Array (Option Value)} {N ps : List Str} {sp : Sp} (lk : K.lookup f = some ⟨oc, od, .func (PySem.W.fnOf name qual params body scope dV kV doc pm an cdv ct), osl⟩) (hcd : PySem.W.codeIn K cdv qual = true) (S : FnScope N ps scope)
    (len : ∀ vs H Q E, sp vs H Q E → vs.length = ps.length)
    (hbody : ∀ (A : Around) (outer : List Env) (s : Shared) (H : Hp) (vs : List V) (Q : VK) (E : XK), Room k (A.deeper (envOfC qual scope s.heap.objs.size f cdv)) → sp vs H Q E →
      ∃ t, PSs (cxOf CX P w K mg base N qual scope f cdv A outer s H E) body t ∧ t { nx := fun _ H' => Q .non H', rt := Q } (start N vs) H) :
    FnOk P w K mg base CX (k + 1) f (PySem.W.fnOf name qual params body scope dV kV doc pm an cdv ct) ps sp := by
  refine ⟨len, fun A outer s H args us vs Q E hr e0 hb r hsp => ?_⟩
  have hl := len _ _ _ _ hsp
  have KX : K.In s.heap := e0.mod.kin.keeps fun b o e => (e0.bs b o e).1
  have lim : s.heap.NoLimit := e0.mod.nolimit.keeps fun b o e => (e0.bs b o e).1
  have hkind : ∀ y ∈ ps.zip us, scope.names.lookup y.1 = some .local ∨ (scope.names.lookup y.1 = some .cell ∧ ((cellsFrom (s.heap.objs.size + 1) scope.names []).lookup y.1).isSome = true) := fun ⟨n, v⟩ hy => by
    rcases S.par n (List.of_mem_zip hy).1 with q | q
    · exact .inl q
    · exact .inr ⟨q, PySem.W.cellsFrom_some _ _ _ (.inl q)⟩
  refine codeAny_call_function hr.depth (KX _ _ lk) rfl S.co S.gen rfl (PySem.W.codeRec_of KX hcd) (hb _ _ _ _ ?_)
  refine wpAny_newFunctionEnv_cells S.kind hkind fun env he s1 x => ?_
  subst he
  refine ⟨lim.keeps x.toInCall.keep, codeAny_func ?_⟩
  obtain ⟨t, ht, hq⟩ := hbody A outer s H vs Q E (hr.deeper _) hsp
  have I : Inv (cxOf CX P w K mg base N qual scope f cdv A outer s H E) [] (start N vs) H s1 := inv_start S hr.hd e0 hl r x
  refine wpAny_mono (ht [] s1 (start N vs) H _ I hq) (fun fl s' hs => ?_) fun e s' hs => hs
  have fin : ∀ {σ' : St} {H' : Hp} {v : V} {u : Value}, Inv (cxOf CX P w K mg base N qual scope f cdv A outer s H E) [] σ' H' s' → RelV v u → Q v H' → CE outer P w H s Q u s' :=
    fun {σ' H' v u} J rv q => ⟨v, H', J.os, J.bare, J.base, J.hok, rv, q⟩
  cases fl with
  | ret u =>
    obtain ⟨v, σ', H', J, rv, q⟩ := hs
    exact fin J rv q
  | next =>
    obtain ⟨σ', H', J, q⟩ := hs
    exact fin (v := V.non) (u := Value.none) J rfl q
  | brk =>
    obtain ⟨_, _, _, q⟩ := hs
    exact False.elim q
  | cont =>
    obtain ⟨_, _, _, q⟩ := hs
    exact False.elim q
end L2
namespace L2
open PySem PySem.Spec PyProof.Rows
section
variable {X : Cx} {x : Str} {p pos : Pos} {e : Expr} {es : List Expr} {t : TA} {id T : String} {r : List V → Hp → VK → Prop}
def tCB (r : List V → Hp → VK → Prop) (t : TA) : TE := fun σ H Q => t σ H fun vs H1 => r vs H1 Q
theorem pe_callB (hc : CallR X (.builtin id) r) (hg : Gl X x) (hm : X.mg x = none) (hv : bootBuiltins x = some (.builtin id)) (ha : PA X (e :: es) t) (hn : x ≠ "__name__" := by decide) (hdb : (x == ("__debug__" : Str)) = false := by decide)
    (he : starEach (e :: es) X.env = (false, eval e X.env) :: starEach es X.env := by rfl) (hpl : (backTo pos (starEach es X.env)).any (·.1) = false := by rfl) : PE X (.Call (.Name x p) (e :: es) [] pos) (tCB r t) := by
  intro pins s σ H Q I h
  refine wpAny_Call_Name_kw (ld_blt I hg hm hv ?_ hn hdb)
  exact PyProof.Rows.callWith_builtin1 (thn (ha pos pins s σ H _ I h) fun us s1 ⟨vs, H1, I1, r1, q1⟩ => hc pins s1 σ H1 vs us Q I1 r1 q1) he hpl
theorem pe_callTy (hc : CallR X (.type T) r) (hg : Gl X x) (hm : X.mg x = none) (hv : bootBuiltins x = some (.type T)) (ha : PA X (e :: es) t) (hn : x ≠ "__name__" := by decide) (hdb : (x == ("__debug__" : Str)) = false := by decide)
    (he : starEach (e :: es) X.env = (false, eval e X.env) :: starEach es X.env := by rfl) (hpl : (backTo pos (starEach es X.env)).any (·.1) = false := by rfl) : PE X (.Call (.Name x p) (e :: es) [] pos) (tCB r t) := by
  intro pins s σ H Q I h
  refine wpAny_Call_Name_kw (ld_blt I hg hm hv ?_ hn hdb)
  exact PyProof.Rows.callWith_type1 (thn (ha pos pins s σ H _ I h) fun us s1 ⟨vs, H1, I1, r1, q1⟩ => hc pins s1 σ H1 vs us Q I1 r1 q1) he hpl
end
end L2
namespace HT
open PySem PyProof.Rows
section
open PySem.SeqAt
open PySem.AutoSeq1 (wpAny_loadPart')
open PySem.MeetsSeq PySem.MeetsSeq2 PySem.MeetsSeq3
end
section
variable {prog : Program} {w : World} {A : Around} {E : Value → Shared → Prop} {s : Shared}
theorem cat_tup {t b : Addr} {vs ws : List Value} {Q : Value → Shared → Prop} (ht : IsTup s.heap t vs.toArray) (hb : IsTup s.heap b ws.toArray) (hv : vs ≠ [])
    (h1 : ws = [] → Q (.ref t) s) (h2 : ws ≠ [] → Q (.ref s.heap.objs.size) { s with heap := s.heap.push { cls := .type "tuple", data := .seq (vs ++ ws).toArray } })
    (hsz : vs.length + ws.length ≤ sizeLine) : wpAny (model prog w) A (binaryOp .Add (.ref t) (.ref b)) Q E s := by
  obtain ⟨⟨cls, dd, data, sl⟩, ho, hc, n, hd⟩ := id ht
  obtain ⟨⟨cls2, dd2, data2, sl2⟩, ho2, hc2, n2, hd2⟩ := id hb
  simp only at hc hd hc2 hd2
  subst hc hd hc2 hd2
  have e : vs.toArray ++ ws.toArray = (vs ++ ws).toArray := by simp
  by_cases hw : ws = []
  · exact concat_meets ⟨_, ho, rfl⟩ ⟨_, ho2, rfl⟩ noFill_tuple_add seq_tuple_add PySem.F.slot_tuple_add PySem.F.entry_tuple_add (PySem.F.args_tuple_add_2 _ _)
      (tuple_addW1 t b vs.toArray ws.toArray n n2 dd dd2 sl sl2 (by simpa using hv) (by simp [hw])) ⟨ho, ho2, h1 hw⟩
  · refine concat_meets ⟨_, ho, rfl⟩ ⟨_, ho2, rfl⟩ noFill_tuple_add seq_tuple_add PySem.F.slot_tuple_add PySem.F.entry_tuple_add (PySem.F.args_tuple_add_2 _ _)
      (tuple_addW2 t b vs.toArray ws.toArray n n2 dd dd2 sl sl2 (by simpa using hv) (by simpa using hw) (by rw [List.size_toArray, List.size_toArray]; exact hsz)) ⟨ho, ho2, ?_⟩
    rw [e]
    exact h2 hw
def sIx (n d : Nat) : Option Int → Nat
  | none => d
  | some v => if v < 0 then (v + (n : Int)).toNat else min v.toNat n
theorem sIx_none (n d : Nat) : sIx n d none = d := rfl
theorem sIx_nat (n d k : Nat) : sIx n d (some (k : Int)) = min k n := by
  show (if (k : Int) < 0 then ((k : Int) + (n : Int)).toNat else min (k : Int).toNat n) = min k n
  rw [if_neg (by omega), Int.toNat_natCast]
theorem sIx_le (n d : Nat) (hd : d ≤ n) (o : Option Int) : sIx n d o ≤ n := by
  cases o with
  | none => exact hd
  | some v =>
    show (if v < 0 then (v + (n : Int)).toNat else min v.toNat n) ≤ n
    by_cases hv : v < 0
    · rw [if_pos hv]; omega
    · rw [if_neg hv]; exact Nat.min_le_right _ _
theorem clip_eq (v : Int) (n d : Nat) : (if v < 0 then max (v + (n : Int)) 0 else min v (n : Int)) = ((sIx n d (some v) : Nat) : Int) := by
  show (if v < 0 then max (v + (n : Int)) 0 else min v (n : Int)) = (((if v < 0 then (v + (n : Int)).toNat else min v.toNat n) : Nat) : Int)
  by_cases hv : v < 0
  · simp only [if_pos hv]; omega
  · simp only [if_neg hv]; omega
theorem adjust_gen (lo hi : Option Int) (n : Nat) : Builtin.Slice.sliceAdjust lo hi 1 (n : Int) = (((sIx n 0 lo : Nat) : Int), ((sIx n n hi : Nat) : Int)) := by
  have h1 : ¬ ((1 : Int) < 0) := by omega
  unfold Builtin.Slice.sliceAdjust
  simp only [h1, if_false]
  refine Prod.ext ?_ ?_
  · cases lo with
    | none => rfl
    | some v => exact clip_eq v n 0
  · cases hi with
    | none => rfl
    | some v => exact clip_eq v n n
theorem places_gen (i j : Nat) : Builtin.Slice.slicePlaces (i : Int) (j : Int) 1 = j - i := by
  unfold Builtin.Slice.slicePlaces
  have h1 : (1 : Int) > 0 := by omega
  simp only [h1, if_true, Int.ediv_one]
  split <;> omega
theorem slicePart_ {v : Value} {o : Option Int} {Q : Option Int → Shared → Prop} (p : IsPart v o) (h : Q o s) : wpAny (model prog w) A (Builtin.Slice.slicePartIndex v) Q E s := by
  cases p with
  | none => exact slicePart_none h
  | int i t => exact slicePart_int h
theorem sliceApplied_gen {sl : Addr} {vl vu : Value} {lo hi : Option Int} {n : Nat} {Q : Int × Int × Nat → Shared → Prop} (hs : s.heap.IsSliceOf sl vl vu .none) (pl : IsPart vl lo) (pu : IsPart vu hi)
    (h : Q (((sIx n 0 lo : Nat) : Int), 1, sIx n n hi - sIx n 0 lo) s) : wpAny (model prog w) A (Builtin.Slice.sliceApplied (.ref sl) (pure (n : Int))) Q E s := by
  obtain ⟨os, hos, hcs, hds⟩ := id hs
  unfold Builtin.Slice.sliceApplied Builtin.Slice.sliceFields
  refine wpAny_bind (wpAny_bind (wpAny_field hos hds (x := vl) rfl (wpAny_bind (wpAny_field hos hds (x := vu) rfl (wpAny_bind (wpAny_field hos hds (x := .none) rfl (wpAny_pure ?_)))))))
  refine wpAny_bind (slicePart_none ?_)
  show wpAny _ _ (if ((1 : Int) == 0) = true then _ else _) _ _ s
  rw [if_neg (by decide)]
  refine wpAny_bind (slicePart_ pl (wpAny_bind (slicePart_ pu (wpAny_bind (wpAny_pure ?_)))))
  show wpAny _ _ (match Builtin.Slice.sliceAdjust lo hi 1 (n : Int) with | (lo, hi) => pure (lo, (1 : Int), Builtin.Slice.slicePlaces lo hi 1)) _ _ s
  rw [adjust_gen lo hi n]
  show wpAny _ _ (pure (((sIx n 0 lo : Nat) : Int), (1 : Int), Builtin.Slice.slicePlaces ((sIx n 0 lo : Nat) : Int) ((sIx n n hi : Nat) : Int) 1)) _ _ s
  rw [places_gen]
  exact wpAny_pure h
theorem pick_gen (xs : Array Value) (i k : Nat) : ((List.range k).filterMap fun (m : Nat) => xs[((i : Int) + (m : Int) * 1).toNat]?).toArray = ((xs.toList.drop i).take k).toArray := by
  have e : (fun (m : Nat) => xs[((i : Int) + (m : Int) * 1).toNat]?) = fun m => xs[i + m]? := by
    funext m
    have : ((i : Int) + (m : Int) * 1).toNat = i + m := by omega
    rw [this]
  rw [e]
  have := pick_run xs i k
  rw [List.filterMap_map] at this
  have e2 : ((fun x => xs[x]?) ∘ fun x => i + x) = fun m => xs[i + m]? := rfl
  rw [e2] at this
  rw [this]
theorem getItem_tuple_cut {t sl : Addr} {items : Array Value} {vl vu : Value} {lo hi : Option Int} {Q : Value → Shared → Prop} (ht : IsTup s.heap t items) (hs : s.heap.IsSliceOf sl vl vu .none) (pl : IsPart vl lo) (pu : IsPart vu hi)
    (hw : ¬ (sIx items.size 0 lo = 0 ∧ sIx items.size items.size hi = items.size))
    (h : Q (.ref s.heap.objs.size) { s with heap := s.heap.push { cls := .type "tuple", data := .seq ((items.toList.drop (sIx items.size 0 lo)).take (sIx items.size items.size hi - sIx items.size 0 lo)).toArray } })
    (hsz : items.size ≤ sizeLine) : wpAny (model prog w) A (getItem (.ref t) (.ref sl)) Q E s := by
  have htake : sizeOk (.seq ((items.toList.drop (sIx items.size 0 lo)).take (sIx items.size items.size hi - sIx items.size 0 lo)).toArray) := by
    show ((items.toList.drop (sIx items.size 0 lo)).take (sIx items.size items.size hi - sIx items.size 0 lo)).toArray.size ≤ sizeLine
    rw [List.size_toArray, List.length_take, List.length_drop, Array.length_toList]
    omega
  have hj : sIx items.size items.size hi ≤ items.size := sIx_le _ _ (Nat.le_refl _) hi
  obtain ⟨os, hos, hcs, hds⟩ := id hs
  have hTs : s.TypeIs (.ref sl) "slice" := ⟨os, hos, hcs⟩
  unfold getItem
  try with_reducible refine wpAny_holding ?_
  first | refine wpAny_bind (wpAny_pure ?_) | skip
  refine wpAny_bind (wpAny_sequenceKey ht.typeIs (by decide) ?_)
  refine wpAny_bind (wpAny_callSpecial?_slot (name := Str.ofString "__getitem__") ht.typeIs PyProof.Rows.slot_tuple_getitem
    (wpAny_call_entry PyProof.Rows.slot_tuple_getitem ht.typeIs entry_tuple_getitem ?_ (args_tuple_getitem _ _)))
  show wpAny _ _ (Builtin.Tuple.tupleItemsOf (.ref t) >>= _) _ _ s
  refine wpAny_bind (tupleItemsOf_ ht ?_)
  refine wpAny_bind (wpAny_typeOf hTs ?_)
  rw [if_pos (by decide)]
  refine wpAny_bind (sliceApplied_gen hs pl pu ?_)
  have hno : ¬ ((((sIx items.size 0 lo : Nat) : Int) == 0 && (1 : Int) == 1 && (sIx items.size items.size hi - sIx items.size 0 lo) == items.size) = true) := by
    intro q
    rw [Bool.and_eq_true, Bool.and_eq_true] at q
    have q1 : ((sIx items.size 0 lo : Nat) : Int) = 0 := eq_of_beq q.1.1
    have q2 : sIx items.size items.size hi - sIx items.size 0 lo = items.size := eq_of_beq q.2
    exact hw ⟨by omega, by omega⟩
  show wpAny _ _ (if (((sIx items.size 0 lo : Nat) : Int) == 0 && (1 : Int) == 1 && (sIx items.size items.size hi - sIx items.size 0 lo) == items.size) = true then _ else _) _ _ s
  rw [if_neg hno, pick_gen]
  first
    | exact wpAny_bind (m := Builtin.Tuple.tupleExact _) (wpAny_newObj_type (wpAny_pure ⟨_, rfl, wpAny_pure h⟩) htake)
    | exact wpAny_bind (m := Builtin.Tuple.tupleExact _) (wpAny_newObj_type (wpAny_bind (wpAny_pure (wpAny_pure ⟨_, rfl, wpAny_pure h⟩))) htake)
    | exact wpAny_bind (wpAny_bind (m := Builtin.Tuple.tupleExact _) (wpAny_newObj_type (wpAny_pure (wpAny_pure ⟨_, rfl, wpAny_pure h⟩)) htake))
    | exact wpAny_bind (wpAny_bind (m := Builtin.Tuple.tupleExact _) (wpAny_newObj_type (wpAny_pure ⟨_, rfl, wpAny_pure h⟩) htake))
end
end HT
namespace L2
open PySem PySem.Spec PyProof.Rows
abbrev TO := St → Hp → (Option Int → Hp → Prop) → Prop
def PO (X : Cx) (e : Option Expr) (t : TO) : Prop :=
  ∀ (pins : List (Addr × Obj)) (s : Shared) (σ : St) (H : Hp) (Q : Option Int → Hp → Prop), Inv X pins σ H s → t σ H Q →
    wpAny (model X.prog X.w) X.A (evalPart e X.env) (fun u s' => ∃ o H', Inv X pins σ H' s' ∧ IsPart u o ∧ Q o H') X.xe s
def tNoPart : TO := fun _ H Q => Q none H
def tPart (t : TE) : TO := fun σ H Q => t σ H fun x H1 => ∃ i, x = .int i ∧ Q (some i) H1
theorem intsAre_of {ns : List Int} : ∀ {us : List Value}, Vals (ns.map V.int) us → IntsAre us ns := by
  induction ns with
  | nil => intro us r; rw [List.map_nil] at r; cases r; exact .nil
  | cons n ns ih =>
    intro us r
    rw [List.map_cons] at r
    cases r with
    | cons r1 r2 =>
      obtain ⟨t, e⟩ := r1
      subst e
      exact .cons n t (ih r2)
section
variable {X : Cx} {e : Expr} {te : TE} {lo hi : Option Expr} {tl th : TO} {pos p2 : Pos}
theorem po_none : PO X none tNoPart := by
  intro pins s σ H Q I h
  rw [evalPart_none]
  exact wpAny_pure ⟨none, H, I, .none, h⟩
theorem po_some (h : PE X e te) : PO X (some e) (tPart te) := by
  intro pins s σ H Q I hw
  rw [evalPart_some]
  refine thn (h pins s σ H _ I hw) fun u s1 ⟨x, H1, I1, r1, q1⟩ => ?_
  obtain ⟨i, rfl, q⟩ := q1
  obtain ⟨t, rfl⟩ := r1
  exact ⟨some i, H1, I1, .int i t, q⟩
def SlR (X : Cx) (r : V → Option Int → Option Int → Hp → VK → Prop) : Prop :=
  ∀ (pins : List (Addr × Obj)) (s : Shared) (σ : St) (H : Hp) (x : V) (v vl vu : Value) (lo hi : Option Int) (sl : Addr) (Q : VK), Inv X pins σ H s → RelV x v → s.heap.IsSliceOf sl vl vu .none → IsPart vl lo → IsPart vu hi → r x lo hi H Q →
    ∃ T id, typeLookup (.type T) "__getitem__" = pure (some (.builtin id)) ∧ s.TypeIs v T ∧ wpAny (model X.prog X.w) X.A (getItem v (.ref sl)) (EP X pins σ Q) X.xe s
def tSl (r : V → Option Int → Option Int → Hp → VK → Prop) (te : TE) (tl th : TO) : TE := fun σ H Q => te σ H fun x H1 => tl σ H1 fun l H2 => th σ H2 fun u H3 => r x l u H3 Q
theorem pe_slice {r : V → Option Int → Option Int → Hp → VK → Prop} (hr : SlR X r) (he : PE X e te) (hl : PO X lo tl) (hu : PO X hi th) : PE X (.Subscript e (.Slice lo hi none p2) pos) (tSl r te tl th) := by
  intro pins s σ H Q I h
  refine Subscript_ (thn (he pins s σ H _ I h) fun v s1 ⟨x, H1, I1, r1, q1⟩ => ?_)
  refine wpAny_Slice (thn (hl pins s1 σ H1 _ I1 q1) fun vl s2 ⟨l, H2, I2, pl, q2⟩ => thn (hu pins s2 σ H2 _ I2 q2) fun vu s3 ⟨u, H3, I3, pu, q3⟩ => ?_)
  rw [evalPart_none]
  refine wpAny_pure ?_
  have I4 : Inv X pins σ H3 { s3 with heap := s3.heap.push { cls := .type "slice", data := .fields #[vl, vu, .none] } } := I3.kept (t' := s3.toks) fun b ob q => Heap.get?_push_of_some _ q
  obtain ⟨T, id, hT, ht, hg⟩ := hr pins { s3 with heap := s3.heap.push { cls := .type "slice", data := .fields #[vl, vu, .none] } } σ H3 x v vl vu l u s3.heap.objs.size Q I4 r1 (Heap.IsSliceOf.new ..) pl pu q3
  show wpAny (model X.prog X.w) X.A (subscriptTail e (.Slice lo hi none p2) v (.ref s3.heap.objs.size)) (EP X pins σ Q) X.xe { s3 with heap := s3.heap.push { cls := .type "slice", data := .fields #[vl, vu, .none] } }
  exact tail_any (ops := [.ref s3.heap.objs.size, v]) ht hT hg (by with_unfolding_all rfl)
def cutV (xs : List V) (lo hi : Option Int) : List V := (xs.drop (HT.sIx xs.length 0 lo)).take (HT.sIx xs.length xs.length hi - HT.sIx xs.length 0 lo)
theorem cutV_length (xs : List V) (lo hi : Option Int) : (cutV xs lo hi).length ≤ xs.length := by
  unfold cutV
  rw [List.length_take, List.length_drop]
  omega
def rSlT (K : PySem.W.Frag) : V → Option Int → Option Int → Hp → VK → Prop := fun x lo hi H Q => ∃ a xs, x = .ref a ∧ SqT K H a xs ∧
  ¬ (HT.sIx xs.length 0 lo = 0 ∧ HT.sIx xs.length xs.length hi = xs.length) ∧ ∀ p, H p = none → Q (.ref p) (upd H p (.tup (cutV xs lo hi)))
theorem sl_tup : SlR X (rSlT X.K) := by
  intro pins s σ H x v vl vu lo hi sl Q I rx hs pl pu h
  obtain ⟨a, xs, rfl, hx, hw, q⟩ := h
  cases rx
  obtain ⟨its, r, ht, hz⟩ := I.tuple hx
  have hlen : its.toArray.size = xs.length := by rw [List.size_toArray]; exact r.length.symm
  refine ⟨"tuple", _, PyProof.Rows.slot_tuple_getitem.lookup, ht.typeIs, ?_⟩
  refine HT.getItem_tuple_cut ht hs pl pu (by rw [hlen]; exact hw) ?_ (by rw [hlen]; exact hz)
  rw [hlen]
  refine ⟨.ref s.heap.objs.size, _, I.laid (t' := s.toks) (o := .tup (cutV xs lo hi)) (fun b ob q => Heap.get?_push_of_some _ q) (Nat.le_refl _) ?_, rfl, q _ (I.hok.fresh (Nat.le_refl _))⟩
  exact ⟨Nat.le_trans (cutV_length xs lo hi) hz, _, (r.drop (HT.sIx xs.length 0 lo)).take (HT.sIx xs.length xs.length hi - HT.sIx xs.length 0 lo), TupN.new _ _⟩
def rCatT (K : PySem.W.Frag) : R2 := fun x y H Q => ∃ a b xs ys, x = .ref a ∧ y = .ref b ∧ SqT K H a xs ∧ SqT K H b ys ∧ xs ≠ [] ∧ xs.length + ys.length ≤ sizeLine ∧
  (ys = [] → Q (.ref a) H) ∧ (ys ≠ [] → ∀ p, H p = none → Q (.ref p) (upd H p (.tup (xs ++ ys))))
theorem Vals.nil_iff {xs : List V} {us : List Value} (r : Vals xs us) : us = [] ↔ xs = [] := by
  cases r with
  | nil => simp
  | cons _ _ => simp
theorem op_catT : OpR X (binaryOp .Add) (rCatT X.K) := by
  intro pins s σ H x y v u Q I rx ry h
  obtain ⟨a, b, xs, ys, rfl, rfl, ha, hb, hx, hz, q1, q2⟩ := h
  cases rx
  cases ry
  obtain ⟨its, r1, p1, _⟩ := I.tuple ha
  obtain ⟨its2, r2, p2, _⟩ := I.tuple hb
  refine HT.cat_tup p1 p2 (fun z => hx (r1.nil_iff.mp z)) (fun z => ⟨.ref a, H, I, rfl, q1 (r2.nil_iff.mp z)⟩) (fun z => ?_) (by rw [← r1.length, ← r2.length]; exact hz)
  refine ⟨.ref s.heap.objs.size, _, I.laid (t' := s.toks) (o := .tup (xs ++ ys)) (fun b ob q => Heap.get?_push_of_some _ q) (Nat.le_refl _) ?_, rfl, q2 (fun w => z (r2.nil_iff.mpr w)) _ (I.hok.fresh (Nat.le_refl _))⟩
  exact ⟨by rw [List.length_append]; exact hz, _, r1.append r2, TupN.new _ _⟩
end
end L2
namespace L2
open PySem PySem.Spec PyProof.Rows
def ixN (n : Nat) (i : Int) : Option Nat := if 0 ≤ i then (if i < n then some i.toNat else none) else if -(n : Int) ≤ i then some (i + n).toNat else none
def atI {α : Type} (xs : List α) (i : Int) : Option α := (ixN xs.length i).bind fun j => xs[j]?
theorem ixN_seq {n : Nat} {i : Int} {j : Nat} (h : ixN n i = some j) : seqIndex? i n = some j ∧ j < n ∧ -(n : Int) ≤ i ∧ i < n := by
  unfold ixN at h
  by_cases h0 : 0 ≤ i
  · rw [if_pos h0] at h
    by_cases h1 : i < n
    · rw [if_pos h1] at h
      have e : i.toNat = j := Option.some.inj h
      exact ⟨by rw [seqIndex_of h0 h1, e], by omega, by omega, h1⟩
    · rw [if_neg h1] at h; cases h
  · rw [if_neg h0] at h
    by_cases h1 : -(n : Int) ≤ i
    · rw [if_pos h1] at h
      have e : (i + n).toNat = j := Option.some.inj h
      exact ⟨by rw [seqIndex_neg (by omega) h1, e], by omega, h1, by omega⟩
    · rw [if_neg h1] at h; cases h
theorem atI_get {α : Type} {xs : List α} {i : Int} {v : α} (h : atI xs i = some v) : ∃ j, seqIndex? i xs.length = some j ∧ xs[j]? = some v ∧ j < xs.length ∧ -(xs.length : Int) ≤ i ∧ i < xs.length := by
  unfold atI at h
  cases e : ixN xs.length i with
  | none => rw [e] at h; cases h
  | some j =>
    rw [e] at h
    obtain ⟨h1, h2, h3, h4⟩ := ixN_seq e
    exact ⟨j, h1, h, h2, h3, h4⟩
theorem atI_nat {α : Type} {xs : List α} {j : Nat} {v : α} (h : xs[j]? = some v) : atI xs (j : Int) = some v := by
  have hj : j < xs.length := (List.getElem?_eq_some_iff.mp h).1
  have e : ixN xs.length (j : Int) = some j := by
    unfold ixN
    rw [if_pos (by omega), if_pos (by omega)]; simp
  unfold atI; rw [e]; exact h
def PlainIx (b : Expr) : Prop := ∀ o i, subscripted b false o i = operate [o, i] (getItem o i)
def IxR (X : Cx) (r : R2) : Prop :=
  ∀ (value slice : Expr) (pins : List (Addr × Obj)) (s : Shared) (σ : St) (H : Hp) (x y : V) (v u : Value) (Q : VK), Inv X pins σ H s → RelV x v → RelV y u → r x y H Q →
    subscripted slice false v u = operate [v, u] (getItem v u) → wpAny (model X.prog X.w) X.A (subscriptTail value slice v u) (EP X pins σ Q) X.xe s
def MtR (X : Cx) (id : String) (r : V → List V → Hp → VK → Prop) : Prop :=
  ∀ (pins : List (Addr × Obj)) (s : Shared) (σ : St) (H : Hp) (x : V) (xs : List V) (v : Value) (us : List Value) (Q : VK), Inv X pins σ H s → RelV x v → Vals xs us → r x xs H Q →
    wpAny (model X.prog X.w) X.A (call (.builtin id) (v :: us)) (EP X pins σ Q) X.xe s
section
variable {X : Cx} {a b : Expr} {ta tb : TE} {pos : Pos}
theorem pe_ix {r : R2} (hr : IxR X r) (ha : PE X a ta) (hb : PE X b tb) (hs : PlainIx b) : PE X (.Subscript a b pos) (tOp r ta tb) := by
  intro pins s σ H Q I h
  exact Subscript_ (binT ha hb I h fun v u s2 x y H2 I2 rx ry q => hr a b pins s2 σ H2 x y v u Q I2 rx ry q (hs _ _))
def rIxL (K : PySem.W.Frag) : R2 := fun x y H Q => ∃ p xs i v, x = .ref p ∧ y = .int i ∧ SqL K H p xs ∧ atI xs i = some v ∧ Q v H
def rIxT (K : PySem.W.Frag) : R2 := fun x y H Q => ∃ p xs i v, x = .ref p ∧ y = .int i ∧ SqT K H p xs ∧ atI xs i = some v ∧ Q v H
theorem ix_list : IxR X (rIxL X.K) := by
  intro value slice pins s σ H x y v u Q I rx ry h hs
  obtain ⟨p, xs, i, z, rfl, rfl, hq, he, q⟩ := h
  cases rx
  obtain ⟨t, rfl⟩ := ry
  obtain ⟨its, r, pl, hz⟩ := I.list hq
  obtain ⟨j, h1, h2, h3, h4, h5⟩ := atI_get he
  obtain ⟨w, ew, rw'⟩ := r.get h2
  have hl := r.length
  have hn := line63
  have fin : EP X pins σ Q w s := ⟨z, H, I, rw', q⟩
  by_cases h0 : 0 ≤ i
  · have hj : i.toNat = j := by
      rw [seqIndex_of h0 h5] at h1
      exact Option.some.inj h1
    exact item_listR pl.isList h0 (by omega) (by rw [hj]; simpa using ew) fin hs
  · have hj : (i + (its.toArray.size : Int)).toNat = j := by
      rw [seqIndex_neg (by omega) h4] at h1
      rw [List.size_toArray, ← hl]
      exact Option.some.inj h1
    exact subscriptTail_builtinR (x := w) pl.isList.typeIs slot_list_getitem.lookup
      (wpAny_getItem_list_neg (Q := fun r s' => r = w ∧ EP X pins σ Q r s') pl.isList (by omega) (by rw [List.size_toArray] <;> omega) (by omega) (by rw [hj]; simpa using ew) ⟨rfl, fin⟩) hs
theorem ix_tup : IxR X (rIxT X.K) := by
  intro value slice pins s σ H x y v u Q I rx ry h hs
  obtain ⟨p, xs, i, z, rfl, rfl, hq, he, q⟩ := h
  cases rx
  obtain ⟨t, rfl⟩ := ry
  obtain ⟨its, r, pl, hz⟩ := I.tuple hq
  obtain ⟨j, h1, h2, h3, h4, h5⟩ := atI_get he
  obtain ⟨w, ew, rw'⟩ := r.get h2
  have hl := r.length
  have hn := line63
  have fin : EP X pins σ Q w s := ⟨z, H, I, rw', q⟩
  exact subscriptTail_builtinR (x := w) pl.typeIs slot_tuple_getitem.lookup
    (getItem_tuple (j := j) (Q := fun r s' => r = w ∧ EP X pins σ Q r s') pl (by omega) (by omega) (by rw [List.size_toArray, ← hl]; exact h1) (by simpa using ew) ⟨rfl, fin⟩) hs
theorem mapSeq_set (its : List Value) (n j : Nat) (u : Value) : Obj.mapSeq (·.setIfInBounds j u) { cls := .type "list", data := .seq its.toArray n } = { cls := .type "list", data := .seq (its.set j u).toArray n } := by
  simp [Obj.mapSeq]
theorem Inv.lst {pins : List (Addr × Obj)} {σ : St} {H : Hp} {s : Shared} {p : Addr} {xs : List V} (I : Inv X pins σ H s) (h : H p = some (.lst xs)) :
    ∃ (its : List Value) (n : Nat), Vals xs its ∧ s.heap.get? p = some { cls := .type "list", data := .seq its.toArray n } ∧ xs.length ≤ sizeLine := by
  obtain ⟨z, its, n, r, e⟩ := I.hok p _ h
  exact ⟨its, n, r, e, z⟩
theorem Inv.lstUpd {pins : List (Addr × Obj)} {σ : St} {H : Hp} {s : Shared} {p : Addr} {xs ys : List V} {its its' : List Value} {n n' : Nat} {f : Obj → Obj} (I : Inv X pins σ H s) (h : H p = some (.lst xs))
    (ho : s.heap.get? p = some { cls := .type "list", data := .seq its.toArray n }) (hf : f { cls := .type "list", data := .seq its.toArray n } = { cls := .type "list", data := .seq its'.toArray n' }) (r : Vals ys its') (hz : ys.length ≤ sizeLine) (t : Nat) :
    Inv X pins σ (upd H p (.lst ys)) { s with heap := s.heap.update p f, toks := t } := by
  have e : (s.heap.update p f).get? p = some { cls := .type "list", data := .seq its'.toArray n' } := by
    rw [Heap.get?_update_self f ho (by rw [hf] <;> rfl), hf]
  refine I.write (x := p) (e := p) (by rw [h]; trivial) (.inl rfl) (fun b u hb q => (Heap.get?_update_other _ _ (Ne.symm hb)).trans q) ⟨_, e⟩ ?_
  exact ⟨hz, its', n', r, e⟩
def rSetL : V → V → V → Hp → (Hp → Prop) → Prop := fun o i v H Q => ∃ p xs k j, o = .ref p ∧ i = .int k ∧ H p = some (.lst xs) ∧ ixN xs.length k = some j ∧ Q (upd H p (.lst (xs.set j v)))
theorem set_list : PSet X rSetL := by
  intro pins s σ H o i v ov iv u Q I ro ri rv h
  obtain ⟨p, xs, k, j, rfl, rfl, hp, hj, q⟩ := h
  cases ro
  obtain ⟨t, rfl⟩ := ri
  obtain ⟨its, n, r, ho, hz⟩ := I.lst hp
  obtain ⟨h1, h2, h3, h4⟩ := ixN_seq hj
  have hl := r.length
  have hn := line63
  have I' : Inv X pins σ (upd H p (.lst (xs.set j v))) { s with heap := s.heap.update p (Obj.mapSeq (·.setIfInBounds j u)) } :=
    I.lstUpd hp ho (mapSeq_set its n j u) (r.set rv j) (by rw [List.length_set]; exact hz) s.toks
  by_cases h0 : 0 ≤ k
  · have hk : k.toNat = j := by
      rw [seqIndex_of h0 h4] at h1
      exact Option.some.inj h1
    exact PySem.W.ki_setAt ho h0 (by omega) (by rw [List.size_toArray, ← hl]; exact h4) (by rw [hk]; exact ⟨_, I', q⟩)
  · have hk : (k + (its.toArray.size : Int)).toNat = j := by
      rw [seqIndex_neg (by omega) h3] at h1
      rw [List.size_toArray, ← hl]
      exact Option.some.inj h1
    exact PySem.W.ki_setBack ho (by omega) (by rw [List.size_toArray, ← hl]; exact h3) (by omega) (by rw [hk]; exact ⟨_, I', q⟩)
theorem slice_bounds (lo hi : Option Int) (n : Nat) : (sliceBounds lo hi none n).1 = ((HT.sIx n 0 lo : Nat) : Int) ∧ (sliceBounds lo hi none n).2.1 = ((HT.sIx n n hi : Nat) : Int) ∧ (sliceBounds lo hi none n).2.2 = 1 := by
  refine ⟨?_, ?_, rfl⟩
  · cases lo with
    | none => simp [sliceBounds, HT.sIx]
    | some i =>
      simp only [sliceBounds, HT.sIx, Option.getD_none, show (1 : Int) > 0 by decide, if_true]
      by_cases h : i < 0
      · simp only [h, if_true] <;> omega
      · simp only [h, if_false] <;> omega
  · cases hi with
    | none => simp [sliceBounds, HT.sIx]
    | some i =>
      simp only [sliceBounds, HT.sIx, Option.getD_none, show (1 : Int) > 0 by decide, if_true]
      by_cases h : i < 0
      · simp only [h, if_true] <;> omega
      · simp only [h, if_false] <;> omega
theorem slicePick_cut (its : List Value) (lo hi : Option Int) : slicePick its.toArray lo hi none = ((its.drop (HT.sIx its.length 0 lo)).take (HT.sIx its.length its.length hi - HT.sIx its.length 0 lo)).toArray := by
  obtain ⟨h1, h2, h3⟩ := slice_bounds lo hi its.toArray.size
  unfold slicePick
  rw [h1, h2, h3]
  simp only [sliceRange_one, pick_run, List.size_toArray] <;> rfl
def rSlL (K : PySem.W.Frag) : V → Option Int → Option Int → Hp → VK → Prop := fun x lo hi H Q => ∃ a xs, x = .ref a ∧ SqL K H a xs ∧ ∀ p, H p = none → Q (.ref p) (upd H p (.lst (cutV xs lo hi)))
theorem sl_list : SlR X (rSlL X.K) := by
  intro pins s σ H x v vl vu lo hi sl Q I rx hs pl pu h
  obtain ⟨a, xs, rfl, hx, q⟩ := h
  cases rx
  obtain ⟨its, r, ht, hz⟩ := I.list hx
  have hlen := r.length
  refine ⟨"list", _, slot_list_getitem.lookup, ht.isList.typeIs, ?_⟩
  refine wpAny_getItem_list_slice ht.isList hs pl pu .none (by simp) ?_ (by rw [List.size_toArray] <;> omega)
  rw [slicePick_cut, ← hlen]
  refine ⟨.ref s.heap.objs.size, _, I.laid (t' := s.toks) (o := .lst (cutV xs lo hi)) (fun b ob q => Heap.get?_push_of_some _ q) (Nat.le_refl _) ?_, rfl, q _ (I.hok.fresh (Nat.le_refl _))⟩
  exact ⟨Nat.le_trans (cutV_length xs lo hi) hz, _, 0, (r.drop (HT.sIx xs.length 0 lo)).take (HT.sIx xs.length xs.length hi - HT.sIx xs.length 0 lo), Heap.get?_push_size _ rfl⟩
theorem call_len_seq : CallR X (.builtin "len") (fun xs H Q => ∃ p ys, xs = [.ref p] ∧ (SqL X.K H p ys ∨ SqT X.K H p ys) ∧ Q (.int ys.length) H) := by
  intro pins s σ H xs us Q I r h
  obtain ⟨p, ys, rfl, hq, q⟩ := h
  obtain ⟨u, rfl, rx⟩ := vals1 r
  cases rx
  have hn := line63
  rcases hq with hq | hq
  · obtain ⟨its, r', pl, hz⟩ := I.list hq
    have hlen := r'.length
    exact Calls.call_len_list pl.isList (by simp only [List.size_toArray] <;> omega) ⟨.int ys.length, H, I.tok _, ⟨s.toks + 1, by rw [List.size_toArray, hlen]⟩, q⟩
  · obtain ⟨its, r', pl, hz⟩ := I.tuple hq
    have hlen := r'.length
    exact len_tuple pl (by simp only [List.size_toArray] <;> omega) ⟨.int ys.length, H, I.tok _, ⟨s.toks + 1, by rw [List.size_toArray, hlen]⟩, q⟩
theorem call_tuple_of : CallR X (.type "tuple") (fun xs H Q => ∃ p ys, xs = [.ref p] ∧ ((SqL X.K H p ys ∧ ∀ l, H l = none → Q (.ref l) (upd H l (.tup ys))) ∨ (SqT X.K H p ys ∧ Q (.ref p) H))) := by
  intro pins s σ H xs us Q I r h
  obtain ⟨p, ys, rfl, h⟩ := h
  obtain ⟨u, rfl, rx⟩ := vals1 r
  cases rx
  rcases h with ⟨hq, q⟩ | ⟨hq, q⟩
  · obtain ⟨its, r', pl, hz⟩ := I.list hq
    have hlen := r'.length
    refine call_tuple_list pl.isList (fun h' kp => ?_) (by simp only [List.size_toArray] <;> omega)
    have I1 : Inv X pins σ H { s with heap := h' } := I.kept (t' := s.toks) kp
    have I2 : Inv X pins σ (upd H h'.objs.size (.tup ys)) { s with heap := h'.push { cls := .type "tuple", data := .seq its.toArray } } :=
      I1.laid (t' := s.toks) (fun b o e => Heap.get?_push_of_some _ e) (Nat.le_refl _) (show ObjOk X.prog X.w _ _ _ (.tup ys) from ⟨hz, its, r', TupN.new _ _⟩)
    exact ⟨.ref h'.objs.size, _, I2, rfl, q _ (I1.hok.fresh (Nat.le_refl _))⟩
  · obtain ⟨its, r', pl, hz⟩ := I.tuple hq
    exact call_tuple_same pl ⟨.ref p, H, I, rfl, q⟩
def tyV (K : PySem.W.Frag) (T : String) (x : V) (H : Hp) : Prop := match x with
  | .str _ => T = "str"
  | .int _ => T = "int"
  | .ref p => (T = "list" ∧ ∃ xs, SqL K H p xs) ∨ (T = "tuple" ∧ ∃ o, K.lookup p = some o ∧ o.cls = .type "tuple" ∧ o.dict = none) ∨
      (T = "dict" ∧ ((∃ kvs, H p = some (.dK kvs)) ∨ ∃ kvs, H p = some (.dT kvs))) ∨ (T = "set" ∧ ∃ S n, H p = some (.set S n))
  | _ => False
theorem tyV_is {pins : List (Addr × Obj)} {σ : St} {H : Hp} {s : Shared} {T : String} {x : V} {v : Value} (I : Inv X pins σ H s) (r : RelV x v) (ty : tyV X.K T x H) :
    s.TypeIs v T ∧ ∀ a, v = .ref a → ∃ ob, s.heap.get? a = some ob ∧ ob.dict = none := by
  cases x with
  | str z =>
    obtain ⟨t, rfl⟩ := r
    cases (show T = "str" from ty)
    exact ⟨typeIs_str s z t, fun _ e => nomatch e⟩
  | int i =>
    obtain ⟨t, rfl⟩ := r
    cases (show T = "int" from ty)
    exact ⟨typeIs_int s i t, fun _ e => nomatch e⟩
  | ref p =>
    cases r
    rcases ty with ⟨rfl, xs, hq⟩ | ⟨rfl, o, hk, hc, hd⟩ | ⟨rfl, hk⟩ | ⟨rfl, S, n, hk⟩
    · obtain ⟨its, _, pl, _⟩ := I.list hq
      refine ⟨pl.isList.typeIs, fun a e => ?_⟩
      cases e
      obtain ⟨o, n, e, c, hd, _⟩ := pl
      exact ⟨o, e, hd⟩
    · refine ⟨⟨o, I.kIn p o hk, hc⟩, fun a e => ?_⟩
      cases e
      exact ⟨o, I.kIn _ o hk, hd⟩
    · have z : ∃ o, s.heap.get? p = some o ∧ o.ExactDict := by
        rcases hk with ⟨kvs, hk⟩ | ⟨kvs, hk⟩
        · obtain ⟨_, _, _, _, o, _, _, e, ex, _⟩ := I.hok p _ hk
          exact ⟨o, e, ex⟩
        · obtain ⟨_, _, _, _, o, _, _, e, ex, _⟩ := I.hok p _ hk
          exact ⟨o, e, ex⟩
      obtain ⟨o, e, ex⟩ := z
      refine ⟨⟨o, e, ex.1⟩, fun a e2 => ?_⟩
      cases e2
      exact ⟨o, e, ex.2.1⟩
    · obtain ⟨o, _, _, _, e, ex, _⟩ := I.hok p _ hk
      refine ⟨⟨o, e, ex.1⟩, fun a e2 => ?_⟩
      cases e2
      exact ⟨o, e, ex.2.1⟩
  | _ => exact False.elim ty
def tBM (K : PySem.W.Frag) (T : String) (r : V → List V → Hp → VK → Prop) (to : TE) (t : TA) : TE := fun σ H Q => to σ H fun x H1 => tyV K T x H1 ∧ t σ H1 fun xs H2 => r x xs H2 Q
variable {o e : Expr} {es : List Expr} {to : TE} {t : TA} {name : Str} {apos cpos : Pos} {T id : String} {r : V → List V → Hp → VK → Prop}
theorem pe_bm (pa : PlainAttrs T) (slot : Slot T name id) (hty : typeOf (.builtin id) = pure (.type "method_descriptor")) (hm : MtR X id r) (ho : PE X o to) (ha : PA X (e :: es) t)
    (hbase : attributeBase o name X.env (eval o X.env) = eval o X.env := by rfl)
    (hfew : ((backTo cpos (starEach (e :: es) X.env)).all (fun x => !x.1) && (backToKw cpos (keywordEach [] X.env)).all (fun x => x.1.isSome)
      && decide ((e :: es).length + ([] : List Keyword).length + (if ([] : List Keyword).isEmpty then 0 else 1) < 30)) = true := by rfl)
    (hline : (apos.endLine == cpos.line) = true := by rfl) (hs : starEach (e :: es) X.env = (false, eval e X.env) :: starEach es X.env := by rfl) (hplain : (backTo cpos (starEach es X.env)).any (·.1) = false := by rfl) :
    PE X (.Call (.Attribute o name apos) (e :: es) [] cpos) (tBM X.K T r to t) := by
  intro pins s σ H Q I h
  refine wpAny_Call_method_late hbase hfew hline rfl (thn (ho pins s σ H _ I h) fun v s1 ⟨x, H1, I1, r1, ty, q1⟩ => ?_)
  obtain ⟨h1, h2⟩ := tyV_is I1 r1 ty
  refine ⟨T, id, pa, slot, hty, h1, h2, ?_⟩
  have hA := ha cpos pins s1 σ H1 _ I1 q1
  rw [hs] at hA ⊢
  refine Calls.callWith_builtin (by show (false || (backTo cpos (starEach es X.env)).any (·.1)) = false; rw [hplain] <;> rfl) (Calls.evalArgs_plain ?_)
  exact thn hA fun us s2 ⟨vs, H2, I2, r2, q2⟩ => hm pins s2 σ H2 x vs v us Q I2 r1 r2 q2
end
end L2
namespace L2
open PySem PySem.Spec PyProof.Rows
def MtM (X : Cx) (id : String) (r : V → List V → Hp → VK → Prop) : Prop :=
  ∀ (pins : List (Addr × Obj)) (s : Shared) (σ : St) (H : Hp) (x : V) (xs : List V) (v : Value) (us : List Value) (Q : VK), Inv X pins σ H s → RelV x v → Vals xs us → r x xs H Q →
    wpAny (model X.prog X.w) X.A (call (.builtin id) (v :: us)) (EP X pins σ Q) X.xe s
theorem Vals.one : ∀ {x : V} {us : List Value}, Vals [x] us → ∃ u, us = [u] ∧ RelV x u
  | _, _, .cons r .nil => ⟨_, rfl, r⟩
theorem Vals.zero : ∀ {us : List Value}, Vals [] us → us = []
  | _, .nil => rfl
theorem Vals.rep {xs : List V} {us : List Value} (h : Vals xs us) : ∀ k : Nat, Vals (List.replicate k xs).flatten (List.replicate k us).flatten
  | 0 => .nil
  | k + 1 => by
    rw [List.replicate_succ, List.replicate_succ, List.flatten_cons, List.flatten_cons]
    exact Vals.append h (Vals.rep h k)
theorem foldl_rep (its : List Value) : ∀ (k : Nat) (acc : List Value),
    List.foldl (fun x1 x2 => x1 ++ x2) acc.toArray (List.replicate k its.toArray) = (acc ++ (List.replicate k its).flatten).toArray
  | 0, acc => by simp
  | k + 1, acc => by
    have e : acc.toArray ++ its.toArray = (acc ++ its).toArray := by simp
    have e2 : (acc ++ its) ++ (List.replicate k its).flatten = acc ++ (List.replicate (k + 1) its).flatten := by
      rw [List.replicate_succ, List.flatten_cons, List.append_assoc]
    rw [← e2, ← foldl_rep its k (acc ++ its), ← e, List.replicate_succ, List.foldl_cons]
section
variable {X : Cx} {pins : List (Addr × Obj)} {σ : St} {H : Hp} {s : Shared} {l b : Addr} {xs ys zs : List V}
theorem Inv.lset {its its' : List Value} {n : Nat} {f : Array Value → Array Value} {t' : Nat} (I : Inv X pins σ H s) (hH : H l = some (.lst xs))
    (e : s.heap.get? l = some { cls := .type "list", data := .seq its.toArray n }) (hf : f its.toArray = its'.toArray) (hv : Vals ys its') (hz : ys.length ≤ sizeLine) :
    Inv X pins σ (upd H l (.lst ys)) { s with heap := s.heap.update l (Obj.mapSeq f), toks := t' } := by
  have q := PySem.IsL.update e f
  rw [hf] at q
  refine I.write (x := l) (e := l) (by rw [hH]; exact trivial) (.inl rfl) (fun b' u hb hu => (Heap.get?_update_other s.heap (Obj.mapSeq f) (Ne.symm hb)).trans hu) ⟨_, q⟩ ?_
  exact ⟨hz, its', _, hv, q⟩
theorem Inv.lnew {its : List Value} {t' : Nat} (I : Inv X pins σ H s) (hv : Vals ys its) (hz : ys.length ≤ sizeLine) :
    Inv X pins σ (upd H s.heap.objs.size (.lst ys)) { s with heap := s.heap.push { cls := .type "list", data := .seq its.toArray }, toks := t' } :=
  I.laid (fun _ _ q => Heap.get?_push_of_some _ q) (Nat.le_refl _) ⟨hz, its, 0, hv, Heap.get?_push_size _ rfl⟩
theorem Inv.fresh (I : Inv X pins σ H s) : H s.heap.objs.size = none := I.hok.fresh (Nat.le_refl _)
theorem Inv.lstM (I : Inv X pins σ H s) (hH : H l = some (.lst xs)) : xs.length ≤ sizeLine ∧ ∃ (its : List Value) (n : Nat), Vals xs its ∧ xs.length = its.length ∧ s.heap.get? l = some { cls := .type "list", data := .seq its.toArray n } := by
  obtain ⟨z, its, n, r, e⟩ := I.hok l _ hH
  exact ⟨z, its, n, r, r.length, e⟩
theorem notLongL {n : Nat} (h : n ≤ sizeLine) : Builtin.List.listTooLong n = false := by
  unfold Builtin.List.listTooLong
  exact decide_eq_false (by omega)
end
section
variable {X : Cx}
def rAppend : V → List V → Hp → VK → Prop := fun x vs H Q => ∃ l xs y, x = .ref l ∧ vs = [y] ∧ H l = some (.lst xs) ∧ xs.length < sizeLine ∧ Q .non (upd H l (.lst (xs ++ [y])))
theorem mt_append : MtM X "list.append" rAppend := by
  intro pins s σ H x vs v us Q I rx rv h
  obtain ⟨l, xs, y, rfl, rfl, hH, hz, q⟩ := h
  cases rx
  obtain ⟨u, rfl, ru⟩ := rv.one
  obtain ⟨z, its, n, r, hl, e⟩ := I.lstM hH
  refine call_meets F.slot_list_append ⟨_, e, rfl⟩ F.entry_list_append (F.args_list_append_2 _ _) (PySem.list_append l its.toArray n u (by rw [List.size_toArray]; omega)) ⟨e, ?_⟩
  refine ⟨.non, _, I.lset (its' := its ++ [u]) hH e (by simp) (r.append (.cons ru .nil)) ?_, rfl, q⟩
  rw [List.length_append, List.length_singleton]
  omega
def rCat : R2 := fun x y H Q => ∃ l b xs zs, x = .ref l ∧ y = .ref b ∧ H l = some (.lst xs) ∧ H b = some (.lst zs) ∧ xs.length + zs.length ≤ sizeLine ∧ ∀ p, H p = none → Q (.ref p) (upd H p (.lst (xs ++ zs)))
theorem op_cat : OpR X (binaryOp .Add) rCat := by
  intro pins s σ H x y v u Q I rx ry h
  obtain ⟨l, b, xs, zs, rfl, rfl, hH, hB, hz, q⟩ := h
  cases rx
  cases ry
  obtain ⟨z, its, n, r, hl, e⟩ := I.lstM hH
  obtain ⟨z2, its2, n2, r2, hl2, e2⟩ := I.lstM hB
  refine PySem.P.add_list e e2 ?_ (by rw [List.size_toArray, List.size_toArray]; omega)
  have ea : its.toArray ++ its2.toArray = (its ++ its2).toArray := by simp
  rw [ea]
  exact ⟨.ref _, _, I.lnew (t' := s.toks) (r.append r2) (by rw [List.length_append]; omega), rfl, q _ I.fresh⟩
def rRep : R2 := fun x y H Q => ∃ l k xs, x = .ref l ∧ y = .int k ∧ H l = some (.lst xs) ∧ -(2 ^ 63) ≤ k ∧ k < 2 ^ 63 ∧ xs.length * k.toNat ≤ sizeLine ∧
  ∀ p, H p = none → Q (.ref p) (upd H p (.lst (List.replicate k.toNat xs).flatten))
theorem len_rep {α : Type} (xs : List α) (k : Nat) : (List.replicate k xs).flatten.length = k * xs.length := by
  induction k with
  | zero => simp
  | succ k ih => rw [List.replicate_succ, List.flatten_cons, List.length_append, ih, Nat.succ_mul, Nat.add_comm]
theorem op_rep : OpR X (binaryOp .Mult) rRep := by
  intro pins s σ H x y v u Q I rx ry h
  obtain ⟨l, k, xs, rfl, rfl, hH, h1, h2, hz, q⟩ := h
  cases rx
  obtain ⟨t, rfl⟩ := ry
  obtain ⟨z, its, n, r, hl, e⟩ := I.lstM hH
  have hlen : its.toArray.size * k.toNat ≤ sizeLine := by rw [List.size_toArray, ← hl]; exact hz
  have hcap : ¬ its.toArray.size * k.toNat > (2 ^ 63 - 1) / 8 := by
    have : (sizeLine : Nat) ≤ (2 ^ 63 - 1) / 8 := by decide
    omega
  have hfit : ¬ (!Builtin.List.listFitsIndex k) = true := by
    rw [fitsIndex_both h1 h2]
    exact Bool.false_ne_true
  have hlong : ¬ Builtin.List.listTooLong (its.toArray.size * k.toNat) = true := by
    rw [notLongL hlen]
    exact Bool.false_ne_true
  have hnew : List.foldl (fun x1 x2 => x1 ++ x2) #[] (List.replicate (if its.toArray.isEmpty = true then 0 else k.toNat) its.toArray) = (List.replicate k.toNat its).flatten.toArray := by
    have f0 : ∀ m : Nat, List.foldl (fun x1 x2 => x1 ++ x2) #[] (List.replicate m its.toArray) = (List.replicate m its).flatten.toArray := fun m => by
      have := foldl_rep its m []
      rw [List.nil_append] at this
      exact this
    rw [f0]
    cases its with
    | nil => simp
    | cons a r' => rw [if_neg (by simp)]
  refine wpAny_binaryOp_repeat_ref (T := "list") (U := "int") (by decide) ⟨_, e, rfl⟩ (fun s' => typeIs_int s' k t) noFill_list_mul F.fills_int_mul F.slot_int_rmul repeat_list F.slot_int_index.lookup
    (call_meets F.slot_int_rmul (typeIs_int s k t) F.entry_int_rmul (F.args_int_rmul_2 _ _) (int___rmul___int_list k t l its.toArray n)
      ⟨e, rfl, ⟨_, e, rfl⟩, call_meets F.slot_list_mul ⟨_, e, rfl⟩ F.entry_list_mul (F.args_list_mul_2 _ _) (AutoListH.list___mul___list_int_3 l its.toArray n k t hfit hcap hlong) ⟨e, ?_⟩⟩)
  rw [hnew]
  exact ⟨.ref _, _, I.lnew (t' := s.toks) (r.rep k.toNat) (by rw [len_rep, Nat.mul_comm]; exact hz), rfl, q _ I.fresh⟩
end
section
variable {prog : Program} {w : World} {A : Around} {E : Value → Shared → Prop} {s : Shared}
end
section
variable {X : Cx}
end
end L2
namespace Att
open PySem PySem.W PySem.Calls PyProof.Rows
theorem ints_of_wellAll {P : Params} {h : Heap} : ∀ (ns : List Int) (vs : List Value), WellAll P h vs (ns.map WData.int) → IntsAre vs ns := by
  intro ns
  induction ns with
  | nil =>
    intro vs w
    rw [List.map_nil] at w
    cases w
    exact .nil
  | cons n ns ih =>
    intro vs w
    rw [List.map_cons] at w
    cases w with
    | cons a b =>
      cases a
      exact .cons _ _ (ih _ b)
theorem script_of {l : OpenLaw} {n : Nat} (hn : l.most = some n) {P : Params} {h : Heap} {args : List WData} {vals : List Value}
    (hpre : l.row.toRowW.claim.pre args = true) (hwl : WellAll P h vals args) :
    ∃ a vs ns, vals = [Value.ref a] ∧ args = [WData.list (ns.map WData.int)] ∧ h.get? a = some { cls := .type "list", data := .seq vs.toArray } ∧ IntsAre vs ns ∧ ns.length ≤ n := by
  have hsh : WShape.hasAll [] args [.list .int] = true := (pre_splitW hpre).1
  have hc : l.pre.holds [] { args := args } = true := (pre_splitW hpre).2
  obtain ⟨d, r, rfl, h1, h2⟩ := hasAllW_cons hsh
  obtain rfl := hasAllW_nil h2
  obtain ⟨xs, rfl, h3⟩ := hasW_list h1
  obtain ⟨ns, rfl⟩ := items_int h3
  have hlen : ns.length ≤ n := by
    unfold OpenLaw.pre at hc
    have h4 : (WTm.not (.lt (.lit (.int (n : Int))) (.len (.arg 0)))).holds [] { args := [.list (ns.map .int)] } = true := by
      have h4 := (holds_andW hc).1
      rw [hn] at h4
      exact h4
    have h5 := condW_of h4 (w_not (w_lt w_lit (w_len_list (w_arg rfl))))
    rw [List.length_map] at h5
    refine Nat.le_of_not_lt fun q => ?_
    have q' : (n : Int) < ((ns.length : Nat) : Int) := by omega
    first
      | (rw [decide_eq_true q'] at h5; exact absurd h5 (by decide))
      | (simp at h5; omega)
  cases hwl with
  | cons w1 w2 =>
    cases w2
    cases w1 with
    | list ho hall => exact ⟨_, _, ns, rfl, rfl, ho, ints_of_wellAll ns _ hall, hlen⟩
theorem post_true (l : OpenLaw) (args : List WData) : l.row.toRowW.claim.post args (.bool true) args = true :=
  postW_of (r := l.row.toRowW) (X := (true == true))
    (show WShape.has [] (.bool true) .bool = true by first | rfl | decide | simp [WShape.has, WShape.arms, WShape.armsAll])
    (show (WTm.eq .res (.lit (.bool true))).value [] { args := args, res := some (.bool true), after := args } = some (.bool (true == true)) from w_eq_bool (w_res rfl) w_lit) rfl
theorem attach_call {l : OpenLaw} {n : Nat} {q : Program} {loose : List Str} {XP : (Str → Option Value) → Heap → Prop} {YP : World → Heap → Prop} {d : DefRec}
    (hn : l.most = some n) (hdf : d.params.defaults = [])
    (call : ∀ (w : World) (s₀ s₁ : Shared) (mg mb : Str → Option Value) (fa : Addr) (o : Obj) (pm cd doc : Value) (a : Addr) (vs : List Value) (ns : List Int),
      Ground q loose [] XP w s₀ mg mb s₁.heap → YP w s₁.heap →
      s₁.heap.get? fa = some o → o.data = .func (docDef d.name d.params d.body d.scope pm cd doc) → s₁.heap.CodeRec cd d.name → mg d.name = some (.ref fa) →
      s₁.heap.get? a = some { cls := .type "list", data := .seq vs.toArray } → IntsAre vs ns → ns.length ≤ n → s₁.gens = #[] →
      codeAny (model l.prog w) callerA (.call (.ref fa) ⟨[.ref a], []⟩) (fun r s' => r = .ok (.ret (.bool true)) ∧ OldK s₁.heap s'.heap ∧ s'.os = s₁.os ∧ AllBare s'.gens) s₁) :
    WalkO q loose XP YP l.row.toRowW d [] (fun f vs => PySem.call f vs) := by
  intro w s₀ s₁ mg mb G Y fa o pm cd doc dV kV ho hd hcd hD hmg hg args vals as hpre hlay hrd hwl hlo
  obtain rfl : dV = .none := Dflts.none hD hdf
  obtain rfl : kV = .none := Dflts.noKw hD
  obtain ⟨a, vs, ns, rfl, rfl, hobj, hints, hlen⟩ := script_of hn hpre hwl
  refine enter_call (codeAny_mono (call w s₀ s₁ mg mb fa o pm cd doc a vs ns G Y ho (fd_plain hd) hcd hmg hobj hints hlen hg) fun r s' hq => ?_)
  obtain ⟨rfl, h2, h3, h4⟩ := hq
  exact ⟨.inl ⟨.bool true, .bool true, [], rfl, fun _ => rfl, .bool true, post_true l _, fun _ => ⟨List.Pairwise.nil, fun _ hm => (nomatch hm)⟩⟩, h2, h3, h4⟩
section
variable {prog : Program} {w : World} {A : Around} {E : Value → Shared → Prop} {s : Shared} {K : Frag}
end
end Att
namespace L2
open PySem PySem.Spec PyProof.Rows
theorem vals_ints : ∀ {vs : List Value} {ns : List Int}, IntsAre vs ns → Vals (ns.map V.int) vs
  | _, _, .nil => .nil
  | _, _, .cons n t h => .cons ⟨t, rfl⟩ (vals_ints h)
def Only (H : Hp) : Prop := ∀ b, H b = none ∨ ∃ o xs, H b = some (.frz o (.lst xs))
theorem law_call {P : Program} {w : World} {K : PySem.W.Frag} {mg mb : Str → Option Value} {CX : CXT} {k : Nat} {fa a : Addr} {fd : FuncData} {x : Str} {sp : Sp} {s₁ : Shared} {vs : List Value} {ns : List Int}
    (KX : K.In s₁.heap) (hns : s₁.heap.Ns mainGlobals mg) (hb : s₁.heap.Ns builtinsNs mb) (hbb : ∀ x : Str, x ≠ "__name__" → mb x = bootBuiltins x) (hlim : s₁.heap.NoLimit) (hg : s₁.gens = #[])
    (ha : s₁.heap.get? a = some { cls := .type "list", data := .seq vs.toArray }) (hi : IntsAre vs ns) (hl : ns.length ≤ sizeLine) (hr : Room k callerA)
    (F : ∀ base : Heap, K.In base → base.Ns mainGlobals mg → FnOk P w K mg base CX k fa fd [x] sp) (hbind : ∀ (s : Shared) (u : Value), BindsTo s fd ⟨[u], []⟩ [(x, u)])
    (hsp : ∀ H : Hp, Only H → SqL K H a (ns.map V.int) → sp [.ref a] H (fun v _ => v = .bl true) fun _ _ _ => False)
    (hCX : ∀ H e s', CX [] H s₁ (fun _ _ _ => False) e s' → False) :
    codeAny (model P w) callerA (.call (.ref fa) ⟨[.ref a], []⟩) (fun r s' => r = .ok (.ret (.bool true)) ∧ OldK s₁.heap s'.heap ∧ s'.os = s₁.os ∧ AllBare s'.gens) s₁ := by
  have rv := vals_ints hi
  have lenV := hi.length
  have core : ∀ H : Hp, Only H → SqL K H a (ns.map V.int) → HOk P w H s₁.heap → (∀ b, H b ≠ none → b = a) → (H a ≠ none → K.lookup a = none) →
      codeAny (model P w) callerA (.call (.ref fa) ⟨[.ref a], []⟩) (fun r s' => r = .ok (.ret (.bool true)) ∧ OldK s₁.heap s'.heap ∧ s'.os = s₁.os ∧ AllBare s'.gens) s₁ := by
    intro H hO hS hok hA hK
    have base_of : ∀ {b : Addr} {o : Obj}, s₁.heap.get? b = some o → H b = none → (hidT s₁.heap H).get? b = some o := fun e n => hidT_get e n
    have noA : ∀ {b : Addr} {o : Obj} {es : Array DictEntry} {ep : Nat}, s₁.heap.get? b = some o → o.data = .dict es ep → H b = none := fun {b o es ep} e d => by
      cases q : H b with
      | none => rfl
      | some u =>
        have e' : b = a := hA b (by rw [q]; simp)
        subst e'
        rw [ha] at e; cases e
        have d' : Data.seq vs.toArray _ = Data.dict es ep := d
        cases d'
    have nsK : ∀ {b : Addr} {m : Str → Option Value}, s₁.heap.Ns b m → (hidT s₁.heap H).Ns b m := fun {b m} ⟨o, es, ep, e, d, r⟩ => ⟨o, es, ep, base_of e (noA e d), d, r⟩
    have hKb : K.In (hidT s₁.heap H) := fun b o e => base_of (KX b o e) (by
      cases q : H b with
      | none => rfl
      | some u =>
        have e' : b = a := hA b (by rw [q]; simp)
        subst e'
        rw [hK (by rw [q]; simp)] at e; cases e)
    have hM : Mod K mg (hidT s₁.heap H) := ⟨hKb, nsK hns, ⟨mb, nsK hb, hbb⟩, let ⟨mc, h1, h2⟩ := hlim; ⟨mc, nsK h1, h2⟩⟩
    have e0 : Env0 P w K mg (hidT s₁.heap H) callerA [] s₁ H := ⟨rfl, hM, fun b o e => of_hidT e, Nat.le_of_eq (hidT_size _ _), trivial, fun b hb => absurd (show b ∈ ([] : List Addr) from hb) (by simp), hok, .of_eq hg⟩
    refine codeAny_mono ((F _ hKb (nsK hns)).run callerA [] s₁ H ⟨[.ref a], []⟩ [.ref a] [.ref a] _ _ hr e0 (hbind s₁ (.ref a)) (.cons rfl .nil) (hsp H hO hS)) fun r s' h => ?_
    cases r with
    | error e => exact (hCX H e s' h).elim
    | ok fl =>
      cases fl with
      | next => exact False.elim h
      | brk => exact False.elim h
      | cont => exact False.elim h
      | ret u =>
        obtain ⟨v, H', os, bare, un, hok', r', q⟩ := h
        have q' : v = .bl true := q
        subst q'
        obtain rfl : u = Value.bool true := r'
        refine ⟨rfl, OldK.of_keep fun b o e => ?_, os, bare⟩
        cases q : H b with
        | none => exact un.keep b o e q (by intro z; exact absurd (show b ∈ ([] : List Addr) from z) (by simp)) (by simp)
        | some u =>
          rcases hO b with z | ⟨ob, xs, z⟩
          · rw [q] at z; cases z
          · have z2 := un.frzs b ob _ z
            obtain ⟨e1, _⟩ := hok b _ z
            obtain ⟨e2, _⟩ := hok' b _ z2
            rw [e] at e1; cases e1
            exact e2
  cases hk : K.lookup a with
  | some o =>
    have e := KX a o hk
    rw [ha] at e
    cases e
    refine core (fun _ => none) (fun _ => .inl rfl) (.inr ⟨_, vs.toArray, _, hk, rfl, rfl, rfl, by rw [List.size_toArray, lenV]; exact hl, by simpa using rv⟩) (fun b u z => by have z' : (none : Option HO) = some u := z; cases z') (fun b z => absurd rfl z) fun z => absurd rfl z
  | none =>
    refine core (fun b => if b = a then some (.frz { cls := .type "list", data := .seq vs.toArray } (.lst (ns.map V.int))) else none) (fun b => ?_) (.inl (.inr ⟨{ cls := .type "list", data := .seq vs.toArray }, if_pos rfl⟩)) (fun b u z => ?_) (fun b z => ?_) fun _ => hk
    · by_cases hb : b = a
      · exact .inr ⟨_, _, if_pos hb⟩
      · exact .inl (if_neg hb)
    · by_cases hb : b = a
      · have z' := (if_pos hb).symm.trans z
        cases z'
        subst hb
        exact ⟨ha, by rw [List.length_map]; exact hl, vs, _, rv, ha⟩
      · have z' := (if_neg hb).symm.trans z
        cases z'
    · by_cases hb : b = a
      · exact hb
      · exact absurd (if_neg hb) z
end L2
namespace L2
open PySem PySem.Spec PyProof.Rows
theorem walk_of {l : PySem.W.OpenLaw} {n k : Nat} {q : Program} {loose : List Str} {XP : (Str → Option Value) → Heap → Prop} {YP : World → Heap → Prop} {d : DefRec} {K : Params → PySem.W.Frag} {CX : World → CXT} {sp : World → Sp} {x : Str}
    (hn : l.most = some n) (hn2 : n ≤ sizeLine) (hdf : d.params.defaults = []) (hr : Room k callerA)
    (hY : ∀ (w : World) (h : Heap), YP w h → (K w.params).In h)
    (F : ∀ (w : World) (mg : Str → Option Value) (fa : Addr) (h : Heap), (K w.params).In h → h.Ns mainGlobals mg → mg d.name = some (.ref fa) →
      ∃ fd : FuncData, (∀ (s : Shared) (u : Value), BindsTo s fd ⟨[u], []⟩ [(x, u)]) ∧
        ∀ base : Heap, (K w.params).In base → base.Ns mainGlobals mg → FnOk l.prog w (K w.params) mg base (CX w) k fa fd [x] (sp w))
    (hsp : ∀ (w : World) (H : Hp) (a : Addr) (ns : List Int), ns.length ≤ n → Only H → SqL (K w.params) H a (ns.map V.int) → sp w [.ref a] H (fun v _ => v = .bl true) fun _ _ _ => False)
    (hCX : ∀ (w : World) (H : Hp) (s : Shared) (e : Value) (s' : Shared), CX w [] H s (fun _ _ _ => False) e s' → False) :
    PySem.W.WalkO q loose XP YP l.row.toRowW d [] (fun f vs => PySem.call f vs) := by
  refine Att.attach_call hn hdf fun w s₀ s₁ mg mb fa o pm cd doc a vs ns G Y ho hd hcd hmg hobj hints hlen hg => ?_
  have KX := hY w _ Y
  obtain ⟨fd, hb, hF⟩ := F w mg fa _ KX G.T.g hmg
  exact law_call KX G.T.g G.T.b G.T.builtins G.T.nolimit hg hobj hints (Nat.le_trans hlen hn2) hr hF hb (fun H hO hS => hsp w H a ns hlen hO hS) fun H e s' => hCX w H s₁ e s'
end L2
namespace L2
open PySem PySem.Spec PyProof.Rows
def defArgs (s : Stmt) : Arguments := match s with
  | .FunctionDef _ a _ _ _ _ _ _ _ _ => a
  | _ => { posonlyargs := [], args := [], vararg := none, kwonlyargs := [], kw_defaults := [], kwarg := none, defaults := [] }
def defBody (s : Stmt) : List Stmt := match s with
  | .FunctionDef _ _ b _ _ _ _ _ _ _ => b
  | _ => []
def defScope (s : Stmt) : Scope := match s with
  | .FunctionDef _ _ _ _ _ _ sc _ _ _ => sc
  | _ => { kind := .function, names := [], isGenerator := false, isCoroutine := false }
abbrev CX0 : CXT := fun _ _ _ _ _ _ => False
abbrev E0 : XK := fun _ _ _ => False
structure Fun (K : PySem.W.Frag) (x qual : Str) (st : Stmt) (f : Addr) (fd : FuncData) : Prop where
  ex : ∃ (oc : Value) (od : Option Addr) (kV doc pm : Value) (an : Option Addr) (cdv ct : Value) (osl : Array (Option Value)),
    fd = PySem.W.fnOf x qual (defArgs st) (defBody st) (defScope st) .none kV doc pm an cdv ct ∧ K.lookup f = some ⟨oc, od, .func fd, osl⟩ ∧ PySem.W.codeIn K cdv qual = true
  kp : PySem.W.keepIn K (.ref f) = true
section
variable {P : Program} {w : World} {K : PySem.W.Frag} {mg : Str → Option Value} {base : Heap}
theorem Fun.ok {x qual : Str} {st : Stmt} {f : Addr} {fd : FuncData} {N ps : List Str} {k : Nat} {sp : Sp} (F : Fun K x qual st f fd) (S : FnScope N ps (defScope st)) (len : ∀ vs H Q E, sp vs H Q E → vs.length = ps.length)
    (hbody : ∀ (cdv : Value) (A : Around) (outer : List Env) (s : Shared) (H : Hp) (vs : List V) (Q : VK) (E : XK), Room k (A.deeper (envOfC qual (defScope st) s.heap.objs.size f cdv)) → sp vs H Q E →
      ∃ t, PSs (cxOf CX0 P w K mg base N qual (defScope st) f cdv A outer s H E).nox (defBody st) t ∧ t { nx := fun _ H' => Q .non H', rt := Q } (start N vs) H) : FnOk P w K mg base CX0 (k + 1) f fd ps sp := by
  obtain ⟨oc, od, kV, doc, pm, an, cdv, ct, osl, rfl, lk, hcd⟩ := F.ex
  refine fn_of lk hcd S len fun A outer s H vs Q E hr hsp => ?_
  obtain ⟨t, h, q⟩ := hbody cdv A outer s H vs Q E hr hsp
  exact ⟨t, h.nox, q⟩
theorem Fun.binds {x qual : Str} {st : Stmt} {f : Addr} {fd : FuncData} {ps : List Str} (F : Fun K x qual st f fd)
    (h : ∀ (kV doc pm : Value) (an : Option Addr) (cdv ct : Value) (us : List Value), us.length = ps.length → bindArgs (PySem.W.fnOf x qual (defArgs st) (defBody st) (defScope st) .none kV doc pm an cdv ct) ⟨us, []⟩ = pure (ps.zip us)) : Binds K fd ps [] := by
  obtain ⟨oc, od, kV, doc, pm, an, cdv, ct, osl, rfl, lk, hcd⟩ := F.ex
  exact .all (h kV doc pm an cdv ct)
theorem fun_mk {x qual : Str} {st : Stmt} {f : Addr} {oc : Value} {od an : Option Addr} {osl : Array (Option Value)} {kV doc pm cdv ct : Value} (l : K.lookup f = some ⟨oc, od, .func (PySem.W.fnOf x qual (defArgs st) (defBody st) (defScope st) .none kV doc pm an cdv ct), osl⟩)
    (c : PySem.W.codeIn K cdv qual = true) (k : PySem.W.keepIn K (.ref f) = true) : Fun K x qual st f (PySem.W.fnOf x qual (defArgs st) (defBody st) (defScope st) .none kV doc pm an cdv ct) := ⟨⟨oc, od, kV, doc, pm, an, cdv, ct, osl, rfl, l, c⟩, k⟩
end
section
variable {X : Cx}
theorem pv (i : Nat) {x : Str} {pos : Pos} (hN : X.N[i]? = some x := by rfl) (hv : Vis X.env.scope x := by first | exact Or.inl rfl | exact Or.inr (Or.inl rfl) | exact Or.inr (Or.inr rfl)) (hd : (x == ("__debug__" : Str)) = false := by decide)
    (hcd : (x == ("__classdict__" : Str)) = false := by decide) : PE X (.Name x pos) (tVar i) := pe_var hN hv hd hcd
end
theorem iteF {A B : Prop} (h : B) : if false = true then A else B := by
  rw [if_neg Bool.false_ne_true]
  exact h
theorem iteT {A B : Prop} (h : A) : if true = true then A else B := by
  rw [if_pos rfl]
  exact h
theorem ite2 {c A B : Prop} [Decidable c] (h1 : c → A) (h2 : ¬ c → B) : if c then A else B := by
  by_cases h : c
  · rw [if_pos h]
    exact h1 h
  · rw [if_neg h]
    exact h2 h
theorem iteNS {c A B : Prop} [Decidable c] (hc : c) (h : B) : if (!decide c) = true then A else B := by
  rw [decide_eq_true hc]
  exact iteF h
def Same (H H' : Hp) : Prop := ∀ b o, H b = some o → H' b = some o
theorem Same.refl (H : Hp) : Same H H := fun _ _ h => h
theorem Same.trans {H H1 H2 : Hp} (a : Same H H1) (b : Same H1 H2) : Same H H2 := fun c o h => b c o (a c o h)
theorem Same.free {H H' : Hp} (e : Same H H') {l : Addr} (h : H' l = Option.none) : H l = Option.none := by
  cases q : H l with
  | none => rfl
  | some o =>
    rw [e l o q] at h
    cases h
theorem Same.seq {K : PySem.W.Frag} {H H' : Hp} {a : Addr} {xs : List V} (e : Same H H') (h : SqL K H a xs) : SqL K H' a xs := by
  rcases h with (h | ⟨o, h⟩) | h
  · exact .inl (.inl (e _ _ h))
  · exact .inl (.inr ⟨o, e _ _ h⟩)
  · exact .inr h
end L2
set_option maxHeartbeats 4000000
namespace L2
open PySem PySem.Spec PyProof.Rows
def blk (X : Cx) (M : List Str) (scope : Scope) (cl : List (Str × Addr)) (ex : List Addr) (s3 : Shared) (H3 : Hp) (C : Addr) : Cx where
  prog := X.prog
  w := X.w
  K := X.K
  mg := X.mg
  base := X.base
  A := X.A
  N := M
  s₀ := s3
  H₀ := H3
  env := compEnvC scope cl C X.env
  outer := X.stack
  stack := X.stack
  ex := ex
  fn := fun _ => false
  calm := X.calm
  pn := []
  xe := fun _ _ => False
def clOf (env : Env) : List (Str × NameKind) → List (Str × Addr) → List (Str × Addr)
  | [], acc => acc
  | (n, k) :: r, acc => clOf env r (if k = .free then (n, (env.cells.lookup n).getD 0) :: acc else acc)
theorem clos_go {env : Env} : ∀ (l : List (Str × NameKind)) (acc : List (Str × Addr)), (∀ x ∈ l, x.2 = .free → ∃ c, env.cells.lookup x.1 = some c) →
    (forIn (m := Sem) l acc fun x cs => (if (x.2 == NameKind.free) = true then do let a ← cellOf env x.1; pure (ForInStep.yield ((x.1, a) :: cs)) else pure (ForInStep.yield cs))) = pure (clOf env l acc)
  | [], acc, _ => rfl
  | (n, k) :: r, acc, h => by
    rw [List.forIn_cons]
    by_cases hk : k = .free
    · subst hk
      obtain ⟨c, hc⟩ := h (n, .free) List.mem_cons_self rfl
      have e1 : cellOf env n = pure c := by unfold cellOf; rw [hc]
      have e2 : clOf env ((n, .free) :: r) acc = clOf env r ((n, c) :: acc) := by
        show clOf env r (if NameKind.free = .free then (n, (env.cells.lookup n).getD 0) :: acc else acc) = _
        rw [if_pos rfl, hc]; rfl
      rw [e2]
      show ((if (NameKind.free == NameKind.free) = true then do let a ← cellOf env n; pure (ForInStep.yield ((n, a) :: acc)) else pure (ForInStep.yield acc)) >>= _) = _
      rw [if_pos (show (NameKind.free == NameKind.free) = true by decide), e1]
      exact clos_go r _ fun x hx => h x (List.mem_cons_of_mem _ hx)
    · have hb : (k == NameKind.free) = false := by simpa using hk
      have e2 : clOf env ((n, k) :: r) acc = clOf env r acc := by
        show clOf env r (if k = .free then (n, (env.cells.lookup n).getD 0) :: acc else acc) = _
        rw [if_neg hk]
      rw [e2]
      show ((if (k == NameKind.free) = true then _ else pure (ForInStep.yield acc)) >>= _) = _
      rw [hb, if_neg Bool.false_ne_true]
      exact clos_go r _ fun x hx => h x (List.mem_cons_of_mem _ hx)
theorem clos_eq {scope : Scope} {env : Env} (h : ∀ x ∈ scope.names, x.2 = .free → ∃ c, env.cells.lookup x.1 = some c) : closureFor scope env = pure (clOf env scope.names []) := by
  have e := clos_go (env := env) scope.names [] h
  unfold closureFor
  show (forIn scope.names [] _ >>= _) = _
  have e' : (forIn (m := Sem) scope.names ([] : List (Str × Addr)) fun x cs => match x with | (name, kind) => (if (kind == NameKind.free) = true then do let a ← cellOf env name; pure (ForInStep.yield ((name, a) :: cs)) else pure (ForInStep.yield cs))) = pure (clOf env scope.names []) := e
  first
    | (rw [e']; rfl)
    | (refine Eq.trans (congrArg (fun t => t >>= _) e') ?_; rfl)
theorem clOf_ok {env : Env} : ∀ (l : List (Str × NameKind)) (acc : List (Str × Addr)), (∀ x ∈ l, x.2 = .free → ∃ c, env.cells.lookup x.1 = some c) → (∀ x c, acc.lookup x = some c → env.cells.lookup x = some c) →
    (∀ x c, (clOf env l acc).lookup x = some c → env.cells.lookup x = some c) ∧ (∀ x c, acc.lookup x = some c → (clOf env l acc).lookup x = some c) ∧ ∀ x, (x, NameKind.free) ∈ l → ∃ c, (clOf env l acc).lookup x = some c
  | [], acc, _, ha => ⟨ha, fun _ _ h => h, fun _ h => nomatch h⟩
  | (n, k) :: r, acc, h, ha => by
    have hr : ∀ x ∈ r, x.2 = .free → ∃ c, env.cells.lookup x.1 = some c := fun x hx => h x (List.mem_cons_of_mem _ hx)
    by_cases hk : k = .free
    · subst hk
      obtain ⟨c, hc⟩ := h (n, .free) List.mem_cons_self rfl
      have e2 : clOf env ((n, .free) :: r) acc = clOf env r ((n, c) :: acc) := by
        show clOf env r (if NameKind.free = .free then (n, (env.cells.lookup n).getD 0) :: acc else acc) = _
        rw [if_pos rfl, hc]; rfl
      rw [e2]
      have ha' : ∀ x c', ((n, c) :: acc).lookup x = some c' → env.cells.lookup x = some c' := fun x c' q => by
        rw [List.lookup_cons] at q
        cases hx : x == n with
        | true =>
          rw [hx] at q
          have z : c = c' := Option.some.inj q
          have y : x = n := by simpa using hx
          rw [y, ← z]; exact hc
        | false => rw [hx] at q; exact ha x c' q
      obtain ⟨i1, i2, i3⟩ := clOf_ok r ((n, c) :: acc) hr ha'
      refine ⟨i1, fun x c' q => ?_, fun x hx => ?_⟩
      · refine i2 x c' ?_
        rw [List.lookup_cons]
        cases hx : x == n with
        | true =>
          have y : x = n := by simpa using hx
          have := ha x c' q
          rw [y, hc] at this
          exact this
        | false => exact q
      · rcases List.mem_cons.mp hx with z | z
        · cases z
          exact ⟨c, i2 n c (by rw [List.lookup_cons, beq_self_eq_true])⟩
        · exact i3 x z
    · have e2 : clOf env ((n, k) :: r) acc = clOf env r acc := by
        show clOf env r (if k = .free then (n, (env.cells.lookup n).getD 0) :: acc else acc) = _
        rw [if_neg hk]
      rw [e2]
      obtain ⟨i1, i2, i3⟩ := clOf_ok r acc hr ha
      refine ⟨i1, i2, fun x hx => ?_⟩
      rcases List.mem_cons.mp hx with z | z
      · cases z; exact absurd rfl hk
      · exact i3 x z
theorem lookup_mem {l : List (Str × NameKind)} {x : Str} {k : NameKind} (h : l.lookup x = some k) : (x, k) ∈ l := by
  induction l with
  | nil => cases h
  | cons p r ih =>
    obtain ⟨n, q⟩ := p
    rw [List.lookup_cons] at h
    cases hx : x == n with
    | true =>
      rw [hx] at h
      have y : x = n := by simpa using hx
      have z : q = k := Option.some.inj h
      subst y z; exact List.mem_cons_self
    | false => rw [hx] at h; exact List.mem_cons_of_mem _ (ih h)
theorem relabel_lookup {env : Env} : ∀ {names : List (Str × NameKind)} {x : Str} {k : NameKind}, (names.map fun (n, k) => if (k == NameKind.free && env.scope.kind == .function && env.kindOf n == some .cell) then (n, NameKind.cell) else (n, k)).lookup x = some k →
    names.lookup x = some k ∨ (k = .cell ∧ names.lookup x = some .free)
  | [], x, k, h => by cases h
  | (n, q) :: r, x, k, h => by
    have ih := @relabel_lookup env r x k
    rw [List.map_cons] at h
    have h' : List.lookup x ((if (q == NameKind.free && env.scope.kind == .function && env.kindOf n == some .cell) = true then (n, NameKind.cell) else (n, q)) :: _) = some k := h
    cases hx : x == n with
    | true =>
      by_cases hc : (q == NameKind.free && env.scope.kind == .function && env.kindOf n == some .cell) = true
      · rw [if_pos hc, List.lookup_cons, hx] at h'
        have z : NameKind.cell = k := Option.some.inj h'
        have y : q = .free := by simp at hc; exact hc.1.1
        refine .inr ⟨z.symm, ?_⟩
        rw [List.lookup_cons, hx, y]
      · rw [if_neg hc, List.lookup_cons, hx] at h'
        refine .inl ?_
        rw [List.lookup_cons, hx]; exact h'
    | false =>
      have h2 : List.lookup x (r.map fun (n, k) => if (k == NameKind.free && env.scope.kind == .function && env.kindOf n == some .cell) then (n, NameKind.cell) else (n, k)) = some k := by
        by_cases hc : (q == NameKind.free && env.scope.kind == .function && env.kindOf n == some .cell) = true
        · rw [if_pos hc, List.lookup_cons, hx] at h'; exact h'
        · rw [if_neg hc, List.lookup_cons, hx] at h'; exact h'
      rw [List.lookup_cons, hx]
      exact ih h2
theorem relabel_free {env : Env} : ∀ {names : List (Str × NameKind)} {x : Str}, names.lookup x = some .free → (names.map fun (n, k) => if (k == NameKind.free && env.scope.kind == .function && env.kindOf n == some .cell) then (n, NameKind.cell) else (n, k)).lookup x = some .cell ∨
      (names.map fun (n, k) => if (k == NameKind.free && env.scope.kind == .function && env.kindOf n == some .cell) then (n, NameKind.cell) else (n, k)).lookup x = some .free
  | [], x, h => by cases h
  | (n, q) :: r, x, h => by
    have ih := @relabel_free env r x
    rw [List.map_cons]
    show List.lookup x ((if (q == NameKind.free && env.scope.kind == .function && env.kindOf n == some .cell) = true then (n, NameKind.cell) else (n, q)) :: _) = some .cell ∨ List.lookup x ((if (q == NameKind.free && env.scope.kind == .function && env.kindOf n == some .cell) = true then (n, NameKind.cell) else (n, q)) :: _) = some .free
    cases hx : x == n with
    | true =>
      rw [List.lookup_cons, hx] at h
      have z : q = NameKind.free := Option.some.inj h
      subst z
      by_cases hc : (NameKind.free == NameKind.free && env.scope.kind == .function && env.kindOf n == some .cell) = true
      · rw [if_pos hc, List.lookup_cons, hx]; exact .inl rfl
      · rw [if_neg hc, List.lookup_cons, hx]; exact .inr rfl
    | false =>
      rw [List.lookup_cons, hx] at h
      by_cases hc : (q == NameKind.free && env.scope.kind == .function && env.kindOf n == some .cell) = true
      · rw [if_pos hc, List.lookup_cons, hx]; exact ih h
      · rw [if_neg hc, List.lookup_cons, hx]; exact ih h
def capOk (N : List Str) (sc : Scope) (M : List Str) (scope : Scope) (cap : List (Option Nat)) : Bool :=
  cap.length == M.length && (M.zip cap).all (fun (x, o) => match o with
    | none => scope.names.lookup x == some .local
    | some j => N[j]? == some x && (scope.names.lookup x == some .free && (sc.names.lookup x == some .cell || sc.names.lookup x == some .free))) &&
  (scope.kind == .function && scope.names.all fun y => y.2 != .cell && ((y.2 != .free || (sc.names.lookup y.1 == some .cell || sc.names.lookup y.1 == some .free)) && (y.2 != .local || scope.names.lookup y.1 == some .local)))
def capS (cap : List (Option Nat)) (σ : St) : St := cap.map fun o => match o with
  | none => none
  | some j => (σ[j]?).getD none
structure CapOk (N : List Str) (sc : Scope) (M : List Str) (scope : Scope) (cap : List (Option Nat)) : Prop where
  len : cap.length = M.length
  own : ∀ (i j : Nat) (x : Str), M[i]? = some x → cap[i]? = some (some j) → N[j]? = some x ∧ scope.names.lookup x = some .free ∧ (sc.names.lookup x = some .cell ∨ sc.names.lookup x = some .free)
  kind : scope.kind = .function
  cell : ∀ y ∈ scope.names, y.2 ≠ .cell
  free : ∀ y ∈ scope.names, y.2 = .free → sc.names.lookup y.1 = some .cell ∨ sc.names.lookup y.1 = some .free
  loc : ∀ y ∈ scope.names, y.2 = .local → scope.names.lookup y.1 = some .local
theorem CapOk.of {N : List Str} {sc : Scope} {M : List Str} {scope : Scope} {cap : List (Option Nat)} (h : capOk N sc M scope cap = true) : CapOk N sc M scope cap := by
  unfold capOk at h
  simp only [Bool.and_eq_true, List.all_eq_true, beq_iff_eq] at h
  obtain ⟨⟨h1, h2⟩, h3, h4⟩ := h
  refine ⟨h1, fun i j x e1 e2 => ?_, h3, fun y hy z => ?_, fun y hy z => ?_, fun y hy z => ?_⟩
  · have hm : (x, some j) ∈ M.zip cap := by
      have : (M.zip cap)[i]? = some (x, some j) := by rw [List.getElem?_zip_eq_some]; exact ⟨e1, e2⟩
      exact List.mem_of_getElem? this
    have := h2 _ hm
    simp only [Bool.and_eq_true, beq_iff_eq, Bool.or_eq_true] at this
    exact this
  · have := (h4 y hy).1
    simp [z] at this
  · have := (h4 y hy).2.1
    simpa [z] using this
  · have := (h4 y hy).2.2
    simpa [z] using this
section
variable {X : Cx} {pins : List (Addr × Obj)} {σ : St} {H H3 : Hp} {s3 : Shared} {M : List Str} {scope : Scope} {cap : List (Option Nat)} {fp : List Addr} {h4 : Heap} {t4 : Nat}
theorem Cx.Ok.cells (ok : X.Ok) {N : List Str} (c : CapOk N X.env.scope M scope cap) : ∀ y ∈ scope.names, y.2 = .free → ∃ d, X.env.cells.lookup y.1 = some d := fun y hy z => ok.has y.1 (c.free y hy z)
theorem blk_start (I : Inv X pins σ H3 s3) (c : CapOk X.N X.env.scope M scope cap) (hf : ∀ b ∈ fp, FpOk X pins H3 b) (hb : ∀ b ∈ fp, b < s3.heap.objs.size)
    (hn : h4.Ns s3.heap.objs.size fun _ => none) (hk : ∀ b o, s3.heap.get? b = some o → h4.get? b = some o) :
    Inv (blk X M scope (clOf X.env scope.names []) fp s3 H3 s3.heap.objs.size) [] (capS cap σ) H3 { s3 with heap := h4, toks := t4 } := by
  obtain ⟨c1, c2, c3⟩ := clOf_ok scope.names [] (I.ok.cells c) (fun x d q => by cases q)
  refine ⟨⟨I.ok.mod, c.kind, I.ok.glob, I.ok.blt, Nat.le_refl _, fun x y d e1 e2 => I.ok.inj x y d (c1 x d e1) (c1 y d e2), fun x hx => ?_, (fun x d z => nomatch z), I.ok.hd, I.ok.frames, .inl rfl, fun b hb' => ?_, I.bs,
    Nat.le_trans I.ok.bsz I.sz, fun b o e z => ?_, fun b hb' z => ?_, I.stack, I.stkFree⟩, rfl, I.bare, Un.kept hk, ⟨_, hn, fun i x v e1 e2 e3 => ?_⟩, fun x d e => ?_, I.hok.fresh (Nat.le_refl _), fun x d e => I.freeC x d (c1 x d e), fun p hp => (nomatch hp), I.hok.kept hk, ?_⟩
  · have hx' : (relabel scope X.env).names.lookup x = some .cell ∨ (relabel scope X.env).names.lookup x = some .free := hx
    rcases hx' with q | q
    · rcases relabel_lookup q with z | ⟨_, z⟩
      · exact absurd rfl (c.cell _ (lookup_mem z))
      · exact c3 x (lookup_mem z)
    · rcases relabel_lookup q with z | ⟨z, _⟩
      · exact c3 x (lookup_mem z)
      · cases z
  · obtain ⟨f0, f1, f2, f3, f4, f5⟩ := hf b hb'
    exact ⟨Nat.ne_of_lt (hb b hb'), fun x d e => f4 x d (c1 x d e)⟩
  · obtain ⟨f0, f1, f2, f3, f4, f5⟩ := hf b z
    rcases f3 with q | q
    · exact I.ok.noex b o e q
    · exact absurd (Nat.lt_of_lt_of_le (Heap.lt_size e) (Nat.le_trans I.ok.bsz q)) (Nat.lt_irrefl _)
  · obtain ⟨f0, f1, f2, f3, f4, f5⟩ := hf b hb'
    rcases List.mem_cons.mp (I.stkSub b z) with q | q
    · exact f1 q
    · exact f2 q
  · have e2' : (cap.map fun o => match o with | none => none | some j => (σ[j]?).getD none)[i]? = some (some v) := e2
    rw [List.getElem?_map] at e2'
    cases q : cap[i]? with
    | none => rw [q] at e2'; cases e2'
    | some o =>
      rw [q] at e2'
      cases o with
      | none => cases e2'
      | some j =>
        have e4 : (σ[j]?).getD none = some v := Option.some.inj e2'
        have e5 : σ[j]? = some (some v) := by
          cases r : σ[j]? with
          | none => rw [r] at e4; cases e4
          | some o => rw [r] at e4; exact congrArg some e4
        obtain ⟨n1, n2, n3⟩ := c.own i j x e1 q
        obtain ⟨m, hm, hl⟩ := I.loc
        obtain ⟨u, ru, lk⟩ := hl j x v n1 e5 (n3.elim (fun z => .inr (.inl z)) fun z => .inr (.inr z))
        refine ⟨u, ru, .inr ?_⟩
        rcases lk with ⟨k1, _⟩ | ⟨_, d, k2, k3⟩
        · have k1' : X.env.scope.names.lookup x = some .local := k1
          rcases n3 with z | z <;> (rw [z] at k1'; cases k1')
        · obtain ⟨d', hd'⟩ := c3 x (lookup_mem n2)
          have ed : d' = d := by
            have := c1 x d' hd'
            rw [k2] at this
            exact (Option.some.inj this).symm
          subst ed
          exact ⟨(relabel_free n2 : (relabel scope X.env).names.lookup x = some .cell ∨ (relabel scope X.env).names.lookup x = some .free), d', hd', k3.keeps hk⟩
  · obtain ⟨v, q⟩ := I.cell x d (c1 x d e)
    exact ⟨v, q.keeps hk⟩
  · show (cap.map _).length = M.length
    rw [List.length_map]; exact c.len
theorem blk_end {σ' : St} {s' : Shared} {h' : Heap} (I : Inv X pins σ H3 s3) (hf : ∀ b ∈ fp, FpOk X pins H3 b) (J : Inv (blk X M scope (clOf X.env scope.names []) fp s3 H3 s3.heap.objs.size) [] σ' H s') (hs : Heap.SameBut s3.heap.objs.size s'.heap h') :
    Inv X pins σ H { s' with heap := h' } := by
  have u : Un (frs X.stack) fp H3 H s3.heap s'.heap := J.base
  have ne : ∀ b o, s3.heap.get? b = some o → b ≠ s3.heap.objs.size := fun b o e => Nat.ne_of_lt (Heap.lt_size e)
  have hC : H s3.heap.objs.size = none := J.free
  refine I.call' (ch := fp) (s' := { s' with heap := h' }) J.os ⟨fun b o e n hb hx => (hs.2 b (ne b o e)).trans (u.keep b o e n hb hx), fun b o e n hb hx => ?_, u.free, fun b o e hx => ?_, u.tups, u.frzs, u.tbls⟩ (fun b o e => ?_) J.bare fun b hb => ?_
  · obtain ⟨sl, q⟩ := u.slot b o e n hb hx
    exact ⟨sl, (hs.2 b (ne b o e)).trans q⟩
  · obtain ⟨o', q⟩ := u.there b o e hx
    exact ⟨o', (hs.2 b (ne b o e)).trans q⟩
  · refine (J.hok b o e).stay (fun c v hc q => (hs.2 c ?_).trans q) (fun _ q => q) fun _ _ q => q
    rintro rfl
    rcases hc with z | z
    · rw [← z, hC] at e; cases e
    · rw [hC] at z; cases z
  · obtain ⟨f0, f1, f2, f3, f4, f5⟩ := hf b hb
    exact ⟨f3, f1, f4, f5⟩
end
end L2
namespace L2
open PySem PySem.Spec PyProof.Rows
def Wk : St → St → Prop
  | [], [] => True
  | none :: a, _ :: b => Wk a b
  | some v :: a, some u :: b => v = u ∧ Wk a b
  | _, _ => False
theorem Wk.len : ∀ {a b : St}, Wk a b → a.length = b.length
  | [], [], _ => rfl
  | none :: a, _ :: b, h => congrArg (· + 1) (Wk.len (a := a) (b := b) h)
  | some v :: a, some u :: b, h => congrArg (· + 1) (Wk.len (a := a) (b := b) h.2)
  | [], _ :: _, h => h.elim
  | some _ :: _, [], h => h.elim
  | none :: _, [], h => h.elim
  | some _ :: _, none :: _, h => h.elim
theorem Wk.get : ∀ {a b : St}, Wk a b → ∀ (i : Nat) v, a[i]? = some (some v) → b[i]? = some (some v)
  | [], [], _, i, v, h => by simp at h
  | none :: a, x :: b, h, 0, v, e => by simp at e
  | none :: a, x :: b, h, i + 1, v, e => by
    simp only [List.getElem?_cons_succ] at e ⊢
    exact Wk.get (a := a) (b := b) h i v e
  | some q :: a, some u :: b, h, 0, v, e => by
    simp only [List.getElem?_cons_zero] at e ⊢
    rw [← h.1]; exact e
  | some q :: a, some u :: b, h, i + 1, v, e => by
    simp only [List.getElem?_cons_succ] at e ⊢
    exact Wk.get (a := a) (b := b) h.2 i v e
  | [], _ :: _, h, _, _, _ => h.elim
  | some _ :: _, [], h, _, _, _ => h.elim
  | none :: _, [], h, _, _, _ => h.elim
  | some _ :: _, none :: _, h, _, _, _ => h.elim
theorem Inv.wk {X : Cx} {pins : List (Addr × Obj)} {σ σ' : St} {H : Hp} {s : Shared} (I : Inv X pins σ H s) (h : Wk σ' σ) : Inv X pins σ' H s := I.weak h.len h.get
def tLoop (J : It) (body : V → Hp → (Hp → Prop) → Prop) (Qn : Hp → Prop) (H : Hp) : Prop :=
  ∃ W : Nat → Nat → Hp → Prop, (∃ m, W 0 m H) ∧ ∀ i m H2, W i m H2 → (J.stop i H2 ∧ Qn H2) ∨ (J.go i H2 ∧ ∀ x H3, J.yld i H2 x H3 → body x H3 fun H6 => ∃ m', m' < m ∧ W (i + 1) m' H6)
abbrev Act := (Shared → Prop) → Shared → Prop
def BodyOk (Y : Cx) (σ : St) (act : Act) (b : Hp → (Hp → Prop) → Prop) : Prop :=
  ∀ (pins : List (Addr × Obj)) (s : Shared) (H : Hp) (k : Hp → Prop) (Q : Shared → Prop), Inv Y pins σ H s → b H k → (∀ s' H', Inv Y pins σ H' s' → k H' → Q s') → act Q s
theorem comp_loop {Y : Cx} {σ : St} {tg : Expr} {elt : Expr} {gens : List Comprehension} {scope : Scope} {cpos : Pos} {d : Nat} {it D : Addr} {fp : List Addr} {tn : Nat → Heap → Prop} {J : It} {pins : List (Addr × Obj)} {s : Shared} {H : Hp} {body : V → Hp → (Hp → Prop) → Prop} {Qn : Hp → Prop} {R : Result → Shared → Prop} {act : Value → Act}
    (hc : Y.calm = true) (T : Turn Y.prog Y.w Y.K tg J fp it tn) (st : tn 0 s.heap) (hf : ∀ b ∈ fp, FpOk Y pins H b)
    (hturn : ∀ (Q : PySem.Fin → Shared → Prop) (E : Value → Shared → Prop) (s : Shared), wpAny (model Y.prog Y.w) Y.A (pyNext (.ref it)) (fun r s1 => match r with
      | none => Q (.done .next) s1
      | some v => wpAny (model Y.prog Y.w) Y.A (letOwnedTupleGo tg (.ref it) v) (fun _ s2 => act v (fun s3 => Q (.again (.compLoop (.ListComp elt gens scope cpos) d (.ref it) (.ref D) Y.env)) s3) s2) E s1) E s →
      wpAny (model Y.prog Y.w) Y.A (compTurn (.ListComp elt gens scope cpos) d (.ref it) (.ref D) Y.env) Q E s)
    (hact : ∀ (x : V) (u : Value), RelV x u → BodyOk Y σ (act u) (body x))
    (I : Inv Y pins σ H s) (h : tLoop J body Qn H) (hR : ∀ s' H', Inv Y pins σ H' s' → Qn H' → R (.ok .next) s') :
    codeAny (model Y.prog Y.w) Y.A (.compLoop (.ListComp elt gens scope cpos) d (.ref it) (.ref D) Y.env) R s := by
  obtain ⟨W, ⟨m0, w0⟩, turn⟩ := h
  have stat : ∀ {H' : Hp}, (∀ b ∈ fp, H' b = none) → ∀ b ∈ fp, FpOk Y pins H' b := fun hn b hb => ⟨hn b hb, (hf b hb).2⟩
  refine codeAny_loop rfl (fun n s' => ∃ i H', Inv Y pins σ H' s' ∧ tn i s'.heap ∧ (∀ b ∈ fp, H' b = none) ∧ W i n H') (fun n s3 hI => ?_) m0 ⟨0, H, I, st, fun b hb => (hf b hb).1, w0⟩
  show wpAny _ Y.A ((compTurn (.ListComp elt gens scope cpos) d (.ref it) (.ref D) Y.env).onRaise (fun x => do noteFrame x Y.env; theTreesLotGoes x)) _ _ s3
  refine wpAny_noted (hturn _ _ _ ?_)
  obtain ⟨i, H3, I3, st3, fr3, w3⟩ := hI
  rcases turn i n H3 w3 with ⟨stop, qn⟩ | ⟨go, step⟩
  · refine thn (T.done Y rfl rfl rfl hc i pins s3 σ H3 _ I3 (stat fr3) st3 stop) fun r s4 ⟨hr, I4⟩ => ?_
    subst hr
    exact hR s4 H3 I4 qn
  · refine thn (T.item Y rfl rfl rfl hc i pins s3 σ H3 _ I3 (stat fr3) st3 go) fun r s4 ⟨u, hr, h4⟩ => ?_
    subst hr
    refine thn h4 fun _ s5 ⟨x, H5, I5, r5, y5, st5, fr5⟩ => ?_
    have I5' := I5.pinned (stat fr5) (T.obj _ _ st5)
    refine hact x u r5 _ s5 H5 _ _ I5' (step x H5 y5) fun s7 H7 I7 ⟨m', hm, w7⟩ => ?_
    refine ⟨rfl, m', hm, i + 1, H7, I7.unpinned, T.keep _ _ _ st5 fun b hb o e => (I7.pin (b, o) (List.mem_append_right _ (List.mem_append_right _ (mem_pinsAt hb e)))).1, fun b hb => ?_, w7⟩
    obtain ⟨o, e, dd⟩ := T.obj _ _ st5 b hb
    exact (I7.pin (b, o) (List.mem_append_right _ (List.mem_append_right _ (mem_pinsAt hb e)))).2.1
abbrev testsOf (ifs : List Expr) (env : Env) : Sem Bool := forIn ifs true fun c r => if r = true then do let ok ← isTrue c env (eval c env); pure (ForInStep.yield ok) else pure (ForInStep.yield r)
def PTs (Y : Cx) (ifs : List Expr) (t : TT) : Prop :=
  ∀ (pins : List (Addr × Obj)) (s : Shared) (σ : St) (H : Hp) (Q : Bool → Hp → Prop), Inv Y pins σ H s → t σ H Q → wpAny (model Y.prog Y.w) Y.A (testsOf ifs Y.env) (TP Y pins σ Q) Y.xe s
def tNoTest : TT := fun _ H Q => Q true H
theorem pts_nil {Y : Cx} : PTs Y [] tNoTest := fun pins s σ H Q I h => wpAny_tests_nil ⟨H, I, h⟩
def actOf (Y : Cx) (tg : Expr) (ifs : List Expr) (inner : Act) : Value → Act := fun u Q s =>
  wpAny (model Y.prog Y.w) Y.A (assign tg Y.env u) (fun _ s4 => wpAny (model Y.prog Y.w) Y.A (testsOf ifs Y.env) (fun ok s5 => if ok = true then inner Q s5 else Q s5) (fun _ _ => False) s4) (fun _ _ => False) s
def bOf (σ : St) (g : TG) (tc : TT) (inner : St → Hp → (Hp → Prop) → Prop) : V → Hp → (Hp → Prop) → Prop := fun x H k => g x σ H fun σ4 H4 => Wk σ σ4 ∧ tc σ4 H4 fun b H5 =>
  if b = true then inner σ4 H5 k else k H5
theorem body_of {Y : Cx} {σ : St} {tg : Expr} {ifs : List Expr} {g : TG} {tc : TT} {inner : Act} {ri : St → Hp → (Hp → Prop) → Prop} (hx : Y.xe = fun _ _ => False) (hg : PG Y tg g) (ht : PTs Y ifs tc) (he : ∀ σ4, BodyOk Y σ4 inner (ri σ4)) (x : V) (u : Value) (r : RelV x u) :
    BodyOk Y σ (actOf Y tg ifs inner u) (bOf σ g tc ri x) := by
  intro pins s H k Q I h hQ
  have hx' : ∀ (v : Value) (s' : Shared), Y.xe v s' → False := fun v s' z => by rw [hx] at z; exact z
  refine wpAny_mono (hg pins s σ H x u _ I r h) (fun _ s4 ⟨σ4, H4, I4, wk, q4⟩ => ?_) hx'
  refine wpAny_mono (ht pins s4 σ4 H4 _ I4 q4) (fun b s5 ⟨H5, I5, q5⟩ => ?_) hx'
  cases b with
  | false =>
    rw [if_neg Bool.false_ne_true] at q5
    rw [if_neg Bool.false_ne_true]
    exact hQ s5 H5 (I5.wk wk) q5
  | true =>
    rw [if_pos rfl] at q5
    rw [if_pos rfl]
    exact he σ4 pins s5 H5 k Q I5 q5 fun s' H' I' k' => hQ s' H' (I'.wk wk) k'
def actElt (Y : Cx) (elt : Expr) (D : Addr) : Act := fun Q s => wpAny (model Y.prog Y.w) Y.A (eval elt Y.env) (fun v s6 => wpAny (model Y.prog Y.w) Y.A (call (.builtin "list.append") [.ref D, v]) (fun _ s7 => Q s7) (fun _ _ => False) s6) (fun _ _ => False) s
def bElt (p : Addr) (te : TE) : St → Hp → (Hp → Prop) → Prop := fun σ H k => te σ H fun v H6 => ∃ ys, H6 p = some (.lst ys) ∧ ys.length < sizeLine ∧ k (upd H6 p (.lst (ys ++ [v])))
theorem body_elt {Y : Cx} {σ : St} {elt : Expr} {te : TE} {D : Addr} (hx : Y.xe = fun _ _ => False) (he : PE Y elt te) : BodyOk Y σ (actElt Y elt D) (bElt D te σ) := by
  intro pins s H k Q I h hQ
  have hx' : ∀ (v : Value) (s' : Shared), Y.xe v s' → False := fun v s' z => by rw [hx] at z; exact z
  refine wpAny_mono (he pins s σ H _ I h) (fun v s6 ⟨y, H6, I6, r6, ys, e, hz, q⟩ => ?_) hx'
  exact wpAny_mono (mt_append (X := Y) pins s6 σ H6 (.ref D) [y] (.ref D) [v] (fun _ H' => k H') I6 rfl (.cons r6 .nil) ⟨D, ys, y, rfl, rfl, e, hz, q⟩) (fun _ s7 ⟨_, H7, I7, _, q7⟩ => hQ s7 H7 I7 q7) hx'
theorem turn_one {Y : Cx} {elt tg iter : Expr} {ifs : List Expr} {scope : Scope} {cpos : Pos} {it D : Addr} (Q : PySem.Fin → Shared → Prop) (E : Value → Shared → Prop) (s : Shared)
    (h : wpAny (model Y.prog Y.w) Y.A (pyNext (.ref it)) (fun r s1 => match r with
      | none => Q (.done .next) s1
      | some v => wpAny (model Y.prog Y.w) Y.A (letOwnedTupleGo tg (.ref it) v) (fun _ s2 => actOf Y tg ifs (actElt Y elt D) v (fun s3 => Q (.again (.compLoop (.ListComp elt [⟨tg, iter, ifs, 0⟩] scope cpos) 0 (.ref it) (.ref D) Y.env)) s3) s2) E s1) E s) :
    wpAny (model Y.prog Y.w) Y.A (compTurn (.ListComp elt [⟨tg, iter, ifs, 0⟩] scope cpos) 0 (.ref it) (.ref D) Y.env) Q E s := by
  rw [compTurn_list]
  refine wpAny_bind (wpAny_standAt (wpAny_bind (thn h fun r s1 h1 => ?_)))
  cases r with
  | none => exact wpAny_pure h1
  | some v =>
    refine wpAny_bind (thn h1 fun _ s2 h2 => ?_)
    refine wpAny_bind (wpAny_mono h2 (fun _ s4 h4 => wpAny_bind (wpAny_mono h4 (fun ok s5 h5 => ?_) fun _ _ f => f.elim)) fun _ _ f => f.elim)
    cases ok with
    | false => exact wpAny_pure h5
    | true => exact wpAny_bind (wpAny_bind (wpAny_mono h5 (fun x s6 h6 => wpAny_bind (wpAny_mono h6 (fun _ s7 h7 => wpAny_pure (wpAny_pure h7)) fun _ _ f => f.elim)) fun _ _ f => f.elim))
def tComp (cap : List (Option Nat)) (wi : TI) (g : TG) (tc : TT) (te : TE) : TE := fun σ H Q => wi σ H fun J H1 => ∀ p, H1 p = none → tLoop J (bOf (capS cap σ) g tc (bElt p te)) (Q (.ref p)) (upd H1 p (.lst []))
theorem FpOk.upd {X : Cx} {pins : List (Addr × Obj)} {H : Hp} {b a : Addr} {o : HO} (h : FpOk X pins H b) (hne : b ≠ a) : FpOk X pins (upd H a o) b := ⟨by rw [upd_ne hne]; exact h.1, h.2⟩
theorem pe_lcomp {X : Cx} {M : List Str} {cap : List (Option Nat)} {elt tg iter : Expr} {ifs : List Expr} {scope : Scope} {pos : Pos} {wi : TI} {g : TG} {tc : TT} {te : TE} (hc : X.calm = true) (ok : capOk X.N X.env.scope M scope cap = true)
    (hi : PI X tg iter wi) (hb : ∀ cl ex s3 H3 C, PG (blk X M scope cl ex s3 H3 C) tg g ∧ PTs (blk X M scope cl ex s3 H3 C) ifs tc ∧ PE (blk X M scope cl ex s3 H3 C) elt te)
    (hs : ∀ x, foldedSetIterable iter X.env x = pure x := by intro _; rfl) : PE X (.ListComp elt [⟨tg, iter, ifs, 0⟩] scope pos) (tComp cap wi g tc te) := by
  intro pins s σ H Q I h
  have c := CapOk.of ok
  rw [eval_ListComp]
  refine wpAny_comprehension_free (use := none) rfl hs (clos_eq (I.ok.cells c)) c.kind c.loc ?_
  refine thn (hi pins s σ H _ I h) fun v s1 h1 => thn h1 fun itv s2 h2 => ?_
  obtain ⟨it, fp, tn, J, H2, e, I2, T, st2, f2, hW⟩ := h2
  subst e
  refine wpAny_newObj_type (wpAny_newFunctionEnv c.cell (by intro y hy; simp at hy) (fun h₁ hns₁ hsb₁ => ?_) c.kind)
  have I3 : Inv X pins σ (upd H2 s2.heap.objs.size (.lst [])) { s2 with heap := s2.heap.push { cls := .type "list", data := .seq ([] : List Value).toArray } } := I2.lnew (t' := s2.toks) (ys := []) .nil (Nat.zero_le _)
  have lt2 : ∀ b ∈ fp, b < s2.heap.objs.size := fun b hb => by obtain ⟨o, e, _⟩ := T.obj _ _ st2 b hb; exact Heap.lt_size e
  have f3 : ∀ b ∈ fp, FpOk X pins (upd H2 s2.heap.objs.size (.lst [])) b := fun b hb => (f2 b hb).upd (Nat.ne_of_lt (lt2 b hb))
  generalize hs3 : ({ s2 with heap := s2.heap.push { cls := .type "list", data := .seq ([] : List Value).toArray } } : Shared) = s3 at I3
  have e3 : s3.heap = s2.heap.push { cls := .type "list", data := .seq ([] : List Value).toArray } := by rw [← hs3]
  have z3 : s3.heap.objs.size = s2.heap.objs.size + 1 := by rw [e3, Heap.size_push]
  have hk : ∀ b o, s3.heap.get? b = some o → h₁.get? b = some o := fun b o e => hsb₁.extBut b o (by
    have := Heap.lt_size e
    rw [e3] at this
    exact Nat.ne_of_lt this) (Heap.get?_push_of_some _ (e3 ▸ e))
  have hn₁ : h₁.Ns s3.heap.objs.size fun _ => none := by rw [e3]; exact hns₁
  have B := blk_start (t4 := s3.toks + ([] : List (Str × Value)).length) (fp := fp) I3 c f3 (fun b hb => by rw [z3]; exact Nat.lt_succ_of_lt (lt2 b hb)) hn₁ hk
  have st4 : tn 0 h₁ := T.keep _ _ _ st2 fun b hb o e => hk b o (by rw [e3]; exact Heap.get?_push_of_some _ e)
  have fp4 : ∀ b ∈ fp, FpOk (blk X M scope (clOf X.env scope.names []) fp s3 (upd H2 s2.heap.objs.size (.lst [])) s3.heap.objs.size) [] (upd H2 s2.heap.objs.size (.lst [])) b := fun b hb => by
    refine ⟨(f3 b hb).1, (B.ok.exf b hb).1, B.ok.exfs b hb, .inl hb, (B.ok.exf b hb).2, fun p hp => (nomatch hp)⟩
  obtain ⟨hg, ht, he⟩ := hb (clOf X.env scope.names []) fp s3 (upd H2 s2.heap.objs.size (.lst [])) s3.heap.objs.size
  have loop : codeAny (model X.prog X.w) X.A (.compLoop (.ListComp elt [⟨tg, iter, ifs, 0⟩] scope pos) 0 (.ref it) (.ref s2.heap.objs.size) (compEnvC scope (clOf X.env scope.names []) s3.heap.objs.size X.env))
      (compPost (model X.prog X.w) X.A X.xe none (EP X pins σ Q) (.ref s2.heap.objs.size) s3.heap.objs.size) { s3 with heap := h₁, toks := s3.toks + ([] : List (Str × Value)).length } := by
    refine comp_loop (Y := blk X M scope (clOf X.env scope.names []) fp s3 (upd H2 s2.heap.objs.size (.lst [])) s3.heap.objs.size) (gens := [⟨tg, iter, ifs, 0⟩]) (d := 0) hc T st4 fp4
      (fun Q E s h => turn_one Q E s h) (fun x u r => body_of rfl hg ht (fun σ4 => body_elt rfl he) x u r) B (hW _ (I2.hok.fresh (Nat.le_refl _))) fun s' H' I' q => ?_
    obtain ⟨m, hn, _⟩ := I'.loc
    exact ⟨m, hn, fun h' hs' => ⟨.ref s2.heap.objs.size, H', blk_end I3 f3 I' hs', rfl, q⟩⟩
  exact codeAny_compStart_list loop (T.self _ 0 _ _ _ st4 loop)
end L2
namespace L2
open PySem PySem.Spec PyProof.Rows
section
variable {X : Cx}
theorem call_isinst : CallR X (.builtin "isinstance") (fun xs H Q => ∃ x t T b, xs = [x, .ty T] ∧ TyOf X.K H x t ∧ PySem.W.kitOne X.K t (.type T) = some b ∧ Q (.bl b) H) := by
  intro pins s σ H xs us Q I r h
  obtain ⟨x, t, T, b, rfl, ty, e, q⟩ := h
  obtain ⟨u, v, rfl, ru, rv⟩ := vals2 r
  cases (show v = Value.type T from rv)
  exact isinst_ok I ru ty e fun tk => ⟨.bl b, H, I.tok tk, rfl, q⟩
theorem bools_of {bs : List Bool} : ∀ {us : List Value}, Vals (bs.map V.bl) us → LSm.BoolsAre us bs := by
  induction bs with
  | nil => intro us r; cases r; exact .nil
  | cons b bs ih =>
    intro us r
    cases r with
    | cons r t =>
      cases (show _ = Value.bool b from r)
      exact .cons b (ih t)
theorem call_all : CallR X (.builtin "all") (fun xs H Q => ∃ (p : Addr) (bs : List Bool), xs = [.ref p] ∧ SqL X.K H p (bs.map V.bl) ∧ X.calm = true ∧ Q (.bl (bs.all id)) H) := by
  intro pins s σ H xs us Q I r h
  obtain ⟨p, bs, rfl, hp, hc, q⟩ := h
  obtain ⟨u, rfl, ru⟩ := vals1 r
  cases ru
  obtain ⟨its, rv, pl, hz⟩ := I.list hp
  have hl := pl.isList
  have hb := bools_of rv
  have hlt : p < s.heap.objs.size := by obtain ⟨_, e, _⟩ := hl; exact Heap.lt_size e
  refine call_all_walk (wpAny_pyIter_list hl ?_)
  refine ⟨s.heap.objs.size, [s.heap.objs.size, p], [s.heap.objs.size], its.toArray.size, _, _, fun i => (bs[i]?).getD true, rfl, Walks.list (A := X.A.in1) (I.ok.hd hc) _ p (Nat.ne_of_lt hlt) its.toArray,
    ⟨⟨_, Heap.get?_push_size _ rfl, rfl, rfl⟩, hl.push _⟩, fun i v s' Q' E' hP hQ => ?_, fun h' tk hk => ?_⟩
  · obtain ⟨b, e, rfl⟩ := hb.get i v (by simpa using hP)
    simp only [e, Option.getD_some] at hQ
    exact wpAny_truthy_bool hQ
  · have e : ((List.range its.toArray.size).all fun i => (bs[i]?).getD true) = bs.all id := by
      rw [List.size_toArray, hb.length]; exact LSm.range_all bs
    rw [e]
    exact ⟨.bl _, H, I.kept (LSm.kept_iter hk), rfl, q⟩
def rSlA : V → Option Int → Option Int → Hp → VK → Prop := fun x lo hi H Q => ∃ a xs, x = .ref a ∧ H a = some (.tup xs) ∧ ∀ p H', Same H H' → H' p = some (.tup (cutV xs lo hi)) → Q (.ref p) H'
theorem same_upd {H : Hp} {p : Addr} {o : HO} (h : H p = none) : Same H (upd H p o) := fun b u e => by rw [upd_ne (ne_of_none e h)]; exact e
theorem getItem_tuple_whole {prog : Program} {w : World} {A : Around} {E : Value → Shared → Prop} {s : Shared} {t sl : Addr} {items : Array Value} {vl vu : Value} {lo hi : Option Int} {Q : Value → Shared → Prop} (ht : IsTup s.heap t items) (hs : s.heap.IsSliceOf sl vl vu .none) (pl : IsPart vl lo) (pu : IsPart vu hi)
    (h1 : HT.sIx items.size 0 lo = 0) (h2 : HT.sIx items.size items.size hi = items.size) (h : Q (.ref t) s) : wpAny (model prog w) A (getItem (.ref t) (.ref sl)) Q E s := by
  obtain ⟨os, hos, hcs, hds⟩ := id hs
  have hTs : s.TypeIs (.ref sl) "slice" := ⟨os, hos, hcs⟩
  unfold getItem
  try with_reducible refine wpAny_holding ?_
  first | refine wpAny_bind (wpAny_pure ?_) | skip
  refine wpAny_bind (wpAny_sequenceKey ht.typeIs (by decide) ?_)
  refine wpAny_bind (wpAny_callSpecial?_slot (name := Str.ofString "__getitem__") ht.typeIs PyProof.Rows.slot_tuple_getitem
    (wpAny_call_entry PyProof.Rows.slot_tuple_getitem ht.typeIs entry_tuple_getitem ?_ (args_tuple_getitem _ _)))
  show wpAny _ _ (Builtin.Tuple.tupleItemsOf (.ref t) >>= _) _ _ s
  refine wpAny_bind (tupleItemsOf_ ht ?_)
  refine wpAny_bind (wpAny_typeOf hTs ?_)
  rw [if_pos (by decide)]
  refine wpAny_bind (HT.sliceApplied_gen hs pl pu ?_)
  show wpAny _ _ (if (((HT.sIx items.size 0 lo : Nat) : Int) == 0 && (1 : Int) == 1 && (HT.sIx items.size items.size hi - HT.sIx items.size 0 lo) == items.size) = true then _ else _) _ _ s
  rw [if_pos (by rw [h1, h2]; simp)]
  refine wpAny_bind (m := Builtin.Tuple.tupleIsExact _) (wpAny_bind (wpAny_typeOf ht.typeIs (wpAny_pure ?_)))
  rw [if_pos (by decide)]
  exact wpAny_bind (wpAny_rule (wpAny_pure ⟨_, rfl, wpAny_pure h⟩))
theorem sl_any : SlR X rSlA := by
  intro pins s σ H x v vl vu lo hi sl Q I rx hs pl pu h
  obtain ⟨a, xs, rfl, hx, q⟩ := h
  by_cases hw : HT.sIx xs.length 0 lo = 0 ∧ HT.sIx xs.length xs.length hi = xs.length
  · cases rx
    obtain ⟨its, r, ht, hz⟩ := I.tuple (SqT.of hx)
    have hlen : its.toArray.size = xs.length := by rw [List.size_toArray]; exact r.length.symm
    refine ⟨"tuple", _, PyProof.Rows.slot_tuple_getitem.lookup, ht.typeIs, ?_⟩
    refine getItem_tuple_whole ht hs pl pu (by rw [hlen]; exact hw.1) (by rw [hlen]; exact hw.2) ?_
    refine ⟨.ref a, H, I, rfl, q a H (Same.refl H) ?_⟩
    have e : cutV xs lo hi = xs := by
      unfold cutV
      rw [hw.1, hw.2]; simp
    rw [e]; exact hx
  · exact sl_tup pins s σ H (.ref a) v vl vu lo hi sl Q I rx hs pl pu ⟨a, xs, rfl, SqT.of hx, hw, fun p hp => q p _ (same_upd hp) upd_same⟩
def rCatA : R2 := fun x y H Q => ∃ a b xs ys, x = .ref a ∧ y = .ref b ∧ H a = some (.tup xs) ∧ H b = some (.tup ys) ∧ xs.length + ys.length ≤ sizeLine ∧ ∀ p H', Same H H' → H' p = some (.tup (xs ++ ys)) → Q (.ref p) H'
theorem op_catA : OpR X (binaryOp .Add) rCatA := by
  intro pins s σ H x y v u Q I rx ry h
  obtain ⟨a, b, xs, ys, rfl, rfl, ha, hb, hz, q⟩ := h
  by_cases hx : xs = []
  · subst hx
    cases rx
    cases ry
    obtain ⟨its, r1, p1, _⟩ := I.tuple (SqT.of ha)
    obtain ⟨its2, r2, p2, _⟩ := I.tuple (SqT.of hb)
    cases r1
    obtain ⟨⟨cls, dd, data, sl⟩, ho, hc, n, hd⟩ := id p1
    obtain ⟨⟨cls2, dd2, data2, sl2⟩, ho2, hc2, n2, hd2⟩ := id p2
    simp only at hc hd hc2 hd2
    subst hc hd hc2 hd2
    exact concat_meets ⟨_, ho, rfl⟩ ⟨_, ho2, rfl⟩ noFill_tuple_add seq_tuple_add PySem.F.slot_tuple_add PySem.F.entry_tuple_add (PySem.F.args_tuple_add_2 _ _)
      (tuple_addW0 a b #[] its2.toArray n n2 dd dd2 sl sl2 rfl) ⟨ho, ho2, ⟨.ref b, H, I, rfl, q b H (Same.refl H) hb⟩⟩
  · exact op_catT pins s σ H _ _ v u Q I rx ry ⟨a, b, xs, ys, rfl, rfl, SqT.of ha, SqT.of hb, hx, hz, fun e => q a H (Same.refl H) (by rw [e, List.append_nil]; exact ha), fun _ p hp => q p _ (same_upd hp) upd_same⟩
def tDNew : TE := fun _ H Q => ∀ p, H p = none → Q (.ref p) (upd H p (.dK []))
theorem pe_dnew {pos : Pos} : PE X (.Dict [] [] pos) tDNew := fun pins s σ H Q I h => by
  refine wpAny_Dict_empty ⟨.ref s.heap.objs.size, _, I.laid (a := s.heap.objs.size) (o := .dK []) (t' := s.toks) (fun _ _ q => Heap.get?_push_of_some _ q) (Nat.le_refl _) ?_, rfl, h _ (I.hok.fresh (Nat.le_refl _))⟩
  have hb : sysModules < s.heap.objs.size := Nat.lt_trans (by decide) (I.mod.glob.keeps I.bk).lt
  exact ⟨Nat.zero_le _, beq_eq_false_iff_ne.mpr (Ne.symm (Nat.ne_of_lt hb)), [], .nil, Heap.DictOf.new s.heap⟩
end
end L2
namespace Rz
open PySem PyProof.Rows
open Sem (wp)
section
variable {prog : Program} {w : World} {A : Around} {E : Value → Shared → Prop} {s : Shared}
end
section
variable {prog : Program} {w : World} {A : Around} {E : Value → Shared → Prop} {s : Shared}
end
end Rz
namespace L2
open PySem PySem.Spec PyProof.Rows
section
variable {X : Cx} {pins : List (Addr × Obj)} {σ : St} {H : Hp} {s : Shared} {h' : Heap}
theorem Inv.turnedNew {t' : Nat} {ch : List Addr} {a : Addr} {o : HO} (I : Inv X pins σ H s) (hch : ∀ b ∈ ch, FpOk X pins H b) (k : ∀ b u, b ∉ ch → s.heap.get? b = some u → h'.get? b = some u) (hp : s.heap.objs.size ≤ a)
    (new : ObjOk X.prog X.w (upd H a o) h' a o) : Inv X pins σ (upd H a o) { s with heap := h', toks := t' } := by
  have hn : H a = none := I.hok.fresh hp
  have nch : ∀ b u, H b = some u → b ∉ ch := fun b u e z => by rw [(hch b z).1] at e; cases e
  refine I.step (g' := s.gens) (d' := s.drawn) (ch := ch) (fun b hb => ?_) (fun b u _ _ hc e _ => k b u hc e) (fun b u _ _ hc e _ => ⟨u.slots, k b u hc e⟩) (fun b u hc e n => ?_) (fun b u hc e => ⟨u, k b u hc e⟩)
    (fun b xs e => by rw [upd_ne (ne_of_none e hn)]; exact e) (fun b u v e => by rw [upd_ne (ne_of_none e hn)]; exact e) (fun b ps e => ⟨#[], by rw [upd_ne (ne_of_none e hn), e]; simp⟩) (fun m hm => ?_) (fun b u e => ?_) I.bare
  · obtain ⟨f0, f1, f2, f3, f4, f5⟩ := hch b hb
    exact ⟨f3, f1, f4, f5⟩
  · rw [upd_ne (Nat.ne_of_lt (Nat.lt_of_lt_of_le (Heap.lt_size e) hp))]; exact n
  · obtain ⟨u, es, ep, ho, r⟩ := hm
    exact ⟨u, es, ep, k _ u (fun z => (hch _ z).2.1 rfl) ho, r⟩
  · by_cases hb : b = a
    · subst hb; rw [upd_same] at e; cases e; exact new
    · rw [upd_ne hb] at e
      refine (I.hok b u e).stay (fun c v hc q => k c v ?_ q) (fun c q => by rw [upd_ne (ne_of_none q hn)]; exact q) fun c xs q => by rw [upd_ne (ne_of_none q hn)]; exact q
      rcases hc with z | z
      · rw [z]; exact nch b u e
      · exact nch c _ z
theorem Inv.turnedAll {t' : Nat} {ch : List Addr} (I : Inv X pins σ H s) (hch : ∀ b ∈ ch, FpOk X pins H b) (k : ∀ b u, b ∉ ch → s.heap.get? b = some u → h'.get? b = some u) : Inv X pins σ H { s with heap := h', toks := t' } := by
  have nch : ∀ b u, H b = some u → b ∉ ch := fun b u e z => by rw [(hch b z).1] at e; cases e
  refine I.step (g' := s.gens) (d' := s.drawn) (ch := ch) (fun b hb => ?_) (fun b u _ _ hc e _ => k b u hc e) (fun b u _ _ hc e _ => ⟨u.slots, k b u hc e⟩) (fun b u hc e n => n) (fun b u hc e => ⟨u, k b u hc e⟩)
    (fun b xs e => e) (fun b u v e => e) (fun b ps e => ⟨#[], by rw [e]; simp⟩) (fun m hm => ?_) (fun b u e => ?_) I.bare
  · obtain ⟨f0, f1, f2, f3, f4, f5⟩ := hch b hb
    exact ⟨f3, f1, f4, f5⟩
  · obtain ⟨u, es, ep, ho, r⟩ := hm
    exact ⟨u, es, ep, k _ u (fun z => (hch _ z).2.1 rfl) ho, r⟩
  · refine (I.hok b u e).stay (fun c v hc q => k c v ?_ q) (fun c q => q) fun c xs q => q
    rcases hc with z | z
    · rw [z]; exact nch b u e
    · exact nch c _ z
end
section
variable {X : Cx}
end
end L2
namespace Rk
open PySem PySem.Spec PyProof.Rows L2
def tupO : Option HO → Option (List V)
  | some (.tup xs) => some xs
  | _ => none
def tupOf (H : Hp) : V → Option (List V)
  | .ref a => tupO (H a)
  | _ => none
theorem tupOf_at (H : Hp) (a : Addr) : tupOf H (.ref a) = tupO (H a) := rfl
def isT (H : Hp) (x : V) : Bool := (tupOf H x).isSome
def isI : V → Bool
  | .int _ => true
  | _ => false
def Kn (p : Addr) (H : Hp) : V → Prop
  | .non => True
  | .bl _ => True
  | .int _ => True
  | .str _ => True
  | .ref a => a ≠ p ∧ ((∃ xs, H a = some (.tup xs)) ∨ (∃ xs, H a = some (.lst xs)) ∨ ∃ kvs, H a = some (.dK kvs))
  | _ => False
def KnD (p : Addr) : Nat → Hp → V → Prop
  | 0, H, x => Kn p H x
  | n + 1, H, x => Kn p H x ∧ ∀ xs, tupOf H x = some xs → ∀ y ∈ xs, KnD p n H y
def KX (p : Addr) (H H' : Hp) : Prop := ∀ b o, b ≠ p → H b = some o → H' b = some o
theorem tupOf_keep {p : Addr} {H H' : Hp} (k : KX p H H') : ∀ {x : V}, Kn p H x → tupOf H' x = tupOf H x
  | .non, h => rfl
  | .bl _, h => rfl
  | .int _, h => rfl
  | .str _, h => rfl
  | .ref a, ⟨n, h⟩ => by
    rcases h with ⟨xs, e⟩ | ⟨xs, e⟩ | ⟨xs, e⟩ <;> rw [tupOf_at, tupOf_at, e, k a _ n e]
  | .byt _, h => h.elim
  | .flt _, h => h.elim
  | .ty _, h => h.elim
theorem KnD.low {p : Addr} {H : Hp} : ∀ {n : Nat} {x : V}, KnD p (n + 1) H x → KnD p n H x
  | 0, x, h => h.1
  | n + 1, x, h => ⟨h.1, fun xs e y hy => KnD.low (h.2 xs e y hy)⟩
theorem KnD.tup {p : Addr} {H : Hp} {n : Nat} {a : Addr} {xs : List V} (hp : a ≠ p) (e : H a = some (.tup xs)) (h : ∀ y ∈ xs, KnD p n H y) : KnD p (n + 1) H (.ref a) :=
  ⟨⟨hp, .inl ⟨xs, e⟩⟩, fun ys z y hy => h y (by
    have z' : some xs = some ys := by rw [← z, tupOf_at, e]; rfl
    cases z'; exact hy)⟩
theorem tupOf_ref {H : Hp} {a : Addr} {xs : List V} (e : H a = some (.tup xs)) : tupOf H (.ref a) = some xs := by rw [tupOf_at, e]; rfl
def intsOf (H : Hp) (x : V) : List Int := ((tupOf H x).getD []).map fun y => match y with
  | .int i => i
  | _ => 0
def IntsT (H : Hp) (x : V) (ns : List Int) : Prop := ∃ a, x = .ref a ∧ H a = some (.tup (ns.map V.int))
theorem IntsT.eq {H : Hp} {x : V} {ns : List Int} (h : IntsT H x ns) : intsOf H x = ns := by
  obtain ⟨a, rfl, e⟩ := h
  unfold intsOf
  rw [tupOf_ref e]
  show (ns.map V.int).map _ = ns
  rw [List.map_map]
  exact List.map_id _
end Rk
namespace Rk
open PySem PySem.Spec PyProof.Rows L2
theorem bt_isinstance : bootBuiltins "isinstance" = some (.builtin "isinstance") := by decide +kernel
theorem bt_int : bootBuiltins "int" = some (.type "int") := by decide +kernel
theorem bt_bool : bootBuiltins "bool" = some (.type "bool") := by decide +kernel
theorem bt_tuple : bootBuiltins "tuple" = some (.type "tuple") := by decide +kernel
theorem bt_list : bootBuiltins "list" = some (.type "list") := by decide +kernel
theorem bt_all : bootBuiltins "all" = some (.builtin "all") := by decide +kernel
theorem bt_len : bootBuiltins "len" = some (.builtin "len") := by decide +kernel
theorem bt_max : bootBuiltins "max" = some (.builtin "max") := by decide +kernel
theorem bt_min : bootBuiltins "min" = some (.builtin "min") := by decide +kernel
end Rk
namespace L2
open PySem PySem.Spec PyProof.Rows
theorem loop_by {J : It} {body : V → Hp → (Hp → Prop) → Prop} {Qn : Hp → Prop} {H : Hp} (n : Nat) (Pv : Nat → Hp → Prop) (h0 : Pv 0 H)
    (hs : ∀ i H2, i < n → Pv i H2 → J.go i H2 ∧ ∀ x H3, J.yld i H2 x H3 → ∀ k : Hp → Prop, (∀ H6, Pv (i + 1) H6 → k H6) → body x H3 k) (hd : ∀ H2, Pv n H2 → J.stop n H2 ∧ Qn H2) : tLoop J body Qn H := by
  refine ⟨fun i m H => m = n - i ∧ i ≤ n ∧ Pv i H, ⟨n, by simp, Nat.zero_le _, h0⟩, ?_⟩
  rintro i m H2 ⟨rfl, hi, p⟩
  by_cases hlt : i < n
  · obtain ⟨go, st⟩ := hs i H2 hlt p
    exact .inr ⟨go, fun x H3 y => st x H3 y _ fun H6 p6 => ⟨n - (i + 1), by omega, rfl, hlt, p6⟩⟩
  · have e : i = n := by omega
    subst e
    exact .inl (hd H2 p)
end L2
namespace Rk
open PySem PySem.Spec PyProof.Rows L2
end Rk
namespace Rk
open PySem PySem.Spec PyProof.Rows L2
def spCellAt (K : PySem.W.Frag) : Sp := fun vs H Q _ => ∃ a ns k, vs = [.ref a, .int k] ∧ SqL K H a ((ns : List Int).map V.int) ∧ ns.length < 2 ^ 20 ∧ 0 ≤ k ∧ ∀ c, Q (.int c) H
def spPot : Sp := fun vs H Q _ => ∃ c, vs = [.int c] ∧ ∀ p n, H p = none → Q (.ref p) (upd H p (.lst [.int n]))
def Cs (p : Addr) (H : Hp) : List V → List (Int × Int) → Prop := Paired fun x ij => ∃ d, d ≠ p ∧ x = .ref d ∧ H d = some (.tup [.int ij.1, .int ij.2])
def Before (a b : Int × Int) : Prop := a.1 < b.1 ∨ (a.1 = b.1 ∧ a.2 < b.2)
structure Good (h w : Int) (L : List (Int × Int)) : Prop where
  asc : L.Pairwise Before
  ins : ∀ x ∈ L, 0 ≤ x.1 ∧ x.1 < h ∧ 0 ≤ x.2 ∧ x.2 < w
  len : L.length ≤ 36
structure BoardAt (p : Addr) (H : Hp) (q : Addr) (h w : Int) (L : List (Int × Int)) : Prop where
  ne : q ≠ p
  it : ∃ c ps, c ≠ p ∧ H q = some (.tup [.int h, .int w, .ref c]) ∧ H c = some (.tup ps) ∧ Cs p H ps L
  h1 : 1 ≤ h
  h6 : h ≤ 6
  w1 : 1 ≤ w
  w6 : w ≤ 6
  good : Good h w L
theorem emod_lt' (x : Int) {m : Int} (h : 0 < m) : 0 ≤ x % m ∧ x % m < m := ⟨Int.emod_nonneg _ (by omega), Int.emod_lt_of_pos _ h⟩
end Rk
namespace Rk
open PySem PySem.Spec PyProof.Rows L2
def notStar : Expr → Bool
  | .Starred _ _ => false
  | _ => true
theorem star_of {e : Expr} {es : List Expr} {env : Env} (h : notStar e = true) : starEach (e :: es) env = (false, eval e env) :: starEach es env := by
  cases e <;> first | rfl | cases h
section
variable {X : Cx}
theorem pa_c {e : Expr} {es : List Expr} {te : TE} {t : TA} (ha : PE X e te) (hr : PA X es t) (hs : notStar e = true := by rfl) : PA X (e :: es) (tCons te t) := pa_cons ha hr (star_of hs)
end
def Sm (H : Hp) (x : V) : Prop := ∀ ps, tupOf H x = some ps → ps.length < sizeLine
def Part (p : Addr) (H : Hp) (x : V) : Prop := KnD p 2 H x ∧ Sm H x
def Thing (p : Addr) (H : Hp) (x : V) : Prop := KnD p 3 H x ∧ Sm H x ∧ ∀ xs, tupOf H x = some xs → ∀ y ∈ xs, Sm H y
theorem tup_eq {H : Hp} {a : Addr} {xs ys : List V} (e : H a = some (.tup xs)) (z : tupOf H (.ref a) = some ys) : ys = xs := by
  rw [tupOf_ref e] at z; cases z; rfl
theorem Part.tup {p : Addr} {H : Hp} {a : Addr} {xs : List V} (hp : a ≠ p) (e : H a = some (.tup xs)) (hl : xs.length < sizeLine) (h : ∀ y ∈ xs, KnD p 1 H y) : Part p H (.ref a) :=
  ⟨KnD.tup hp e h, fun ps z => by rw [tup_eq e z]; exact hl⟩
theorem lt_line {n : Nat} (h : n ≤ 1000) : n < sizeLine := Nat.lt_of_le_of_lt h (by decide)
end Rk
namespace Rk
open PySem PySem.Spec PyProof.Rows L2
def Fine (p : Addr) : Nat → Hp → V → Prop
  | 0, H, x => Kn p H x ∧ Sm H x
  | n + 1, H, x => Kn p H x ∧ Sm H x ∧ ∀ xs, tupOf H x = some xs → ∀ y ∈ xs, Fine p n H y
theorem Fine.sm {p : Addr} {H : Hp} {x : V} : ∀ {n : Nat}, Fine p n H x → Sm H x
  | 0, h => h.2
  | _ + 1, h => h.2.1
theorem Fine.knd {p : Addr} {H : Hp} : ∀ {n : Nat} {x : V}, Fine p n H x → KnD p n H x
  | 0, _, h => h.1
  | _ + 1, _, h => ⟨h.1, fun xs e y hy => (h.2.2 xs e y hy).knd⟩
theorem Fine.thing {p : Addr} {H : Hp} {x : V} (h : ∀ n, Fine p n H x) : Thing p H x := ⟨(h 3).knd, (h 0).2, fun xs e y hy => ((h 1).2.2 xs e y hy).2⟩
section
variable {X : Cx}
theorem pa_mono {e : List Expr} {t t' : TA} (h : PA X e t) (k : ∀ σ H Q, t' σ H Q → t σ H Q) : PA X e t' := fun pos pins s σ H Q I q => h pos pins s σ H Q I (k σ H Q q)
end
end Rk
namespace Rk
open PySem PySem.Spec PyProof.Rows L2
def tTupW (t : TA) : TE := fun σ H Q => t σ H fun xs H1 => xs.length ≤ 1000 ∧ ∀ a H2, Same H1 H2 → H1 a = none → H2 a = some (.tup xs) → Q (.ref a) H2
def tLstW (t : TA) : TE := fun σ H Q => t σ H fun xs H1 => xs.length ≤ 1000 ∧ ∀ a H2, Same H1 H2 → H1 a = none → H2 a = some (.lst xs) → Q (.ref a) H2
section
variable {X : Cx}
theorem pe_tupW {es : List Expr} {t : TA} {x1} {pos : Pos} (h : PA X es t) : PE X (.Tuple es x1 pos) (tTupW t) := by
  intro pins s σ H Q I hq
  refine wpAny_Tuple_spliced (thn (h pos pins s σ H _ I hq) fun us s1 ⟨xs, H1, I1, r, z, q⟩ => ⟨by rw [← r.length]; exact Nat.le_of_lt (lt_line z), ?_⟩)
  have hf : H1 s1.heap.objs.size = none := I1.hok.fresh (Nat.le_refl _)
  refine ⟨.ref s1.heap.objs.size, upd H1 s1.heap.objs.size (.tup xs), I1.laid (t' := s1.toks) (fun b u e => Heap.get?_push_of_some _ e) (Nat.le_refl _) ?_, rfl, q _ _ (same_upd hf) hf upd_same⟩
  exact ⟨Nat.le_of_lt (lt_line z), us, r, ⟨_, Heap.get?_push_size _ rfl, rfl, rfl, _, rfl⟩⟩
theorem pe_lstW {es : List Expr} {t : TA} {pos : Pos} (h : PA X es t) : PE X (.List es pos) (tLstW t) := by
  intro pins s σ H Q I hq
  refine wpAny_List_spliced (thn (h pos pins s σ H _ I hq) fun us s1 ⟨xs, H1, I1, r, z, q⟩ => ⟨by rw [← r.length]; exact Nat.le_of_lt (lt_line z), ?_⟩)
  have hf : H1 s1.heap.objs.size = none := I1.hok.fresh (Nat.le_refl _)
  refine ⟨.ref s1.heap.objs.size, upd H1 s1.heap.objs.size (.lst xs), I1.laid (t' := s1.toks) (fun b u e => Heap.get?_push_of_some _ e) (Nat.le_refl _) ?_, rfl, q _ _ (same_upd hf) hf upd_same⟩
  exact ⟨Nat.le_of_lt (lt_line z), us, 0, r, Heap.get?_push_size _ rfl⟩
def rCatW : R2 := fun x y H Q => ∃ l b xs zs, x = .ref l ∧ y = .ref b ∧ H l = some (.lst xs) ∧ H b = some (.lst zs) ∧ xs.length + zs.length ≤ 1000 ∧ ∀ a H2, Same H H2 → H a = none → H2 a = some (.lst (xs ++ zs)) → Q (.ref a) H2
theorem op_catW : OpR X (binaryOp .Add) rCatW := fun pins s σ H x y v u Q I rx ry ⟨l, b, xs, zs, e1, e2, h1, h2, hl, k⟩ =>
  op_cat pins s σ H x y v u Q I rx ry ⟨l, b, xs, zs, e1, e2, h1, h2, Nat.le_of_lt (lt_line hl), fun a ha => k a _ (same_upd ha) ha upd_same⟩
end
def FineA (p : Addr) (H : Hp) (x : V) : Prop := ∀ n, Fine p n H x
theorem FineA.thing {p : Addr} {H : Hp} {x : V} (h : FineA p H x) : Thing p H x := Fine.thing h
end Rk
namespace Rx
open PySem PySem.Spec PySem.Calls PyProof.Rows L2 PySem.W Builtin Builtin.ObjectAttr Builtin.Getset_descriptor
def ExAt (a C : Addr) (h : Heap) : Prop := ∃ o vs, h.get? a = some o ∧ o.cls = .ref C ∧ o.data = .fields vs
theorem ExAt.ty {M : Model} {h : Heap} {a C : Addr} (x : ExAt a C h) : Looks M h (typeOf (.ref a)) (.ref C) := by
  obtain ⟨o, vs, e, c, _⟩ := x
  exact c ▸ (Looks.ld e).andThen .now
structure ExC (K : PySem.W.Frag) (C : Addr) : Prop where
  ga : findIn K (.ref C) "__getattribute__" = some (some (.builtin "BaseException.__getattribute__"))
  hk : findIn K (.ref C) "__getattr__" = some none
  bas : mroIn K C (.type "BaseException") = some true
  cls : (clsIn K C).isSome = true
  att : findIn K (.ref C) "__class__" = some (some (.builtin "object.__class__"))
  spc : specialIn K (.builtin "object.__class__") "__get__" = some (some (.builtin "getset_descriptor.__get__"))
  tks : takesIn K (.builtin "object.__class__") = some true
  mro : mroIn K C (.type "object") = some true
section
variable {prog : Program} {w : World} {A : Around} {E : Value → Shared → Prop} {s : Shared} {K : PySem.W.Frag} {a C : Addr}
theorem ex_find {M : Model} {h : Heap} (X : K.In h) (c : ExC K C) : Looks M h (find (.ref a) (.ref C) "__class__") (.bind (.builtin "getset_descriptor.__get__") (.builtin "object.__class__")) := by
  have l1 := looks_findIn (M := M) X c.att
  have l2 := looks_specialIn (M := M) X c.spc
  have l3 := looks_takesIn (M := M) X c.tks
  have l4 : Looks M h (dataDescriptor? (some (.builtin "object.__class__")) (some (.builtin "getset_descriptor.__get__"))) (some (.builtin "getset_descriptor.__get__", .builtin "object.__class__")) := l3.andThen .now
  exact l1.andThen (l2.andThen (l4.andThen (Looks.tag .now)))
theorem ex_get {R : Result → Shared → Prop} {tp : Value} (X : K.In s.heap) (I : ExAt a C s.heap) (c : ExC K C) (h : R (.ok (.ret (.ref C))) s) :
    codeAny (model prog w) A (.call (.builtin "getset_descriptor.__get__") ⟨[.builtin "object.__class__", .ref a, tp], []⟩) R s := by
  obtain ⟨h0, g0, d0, t0, o0⟩ := s
  have la := I.ty (M := model prog w)
  have lb := looks_mroIn (M := model prog w) X c.mro
  refine codeAny_call_builtin KF.slot_gs.plain KF.entry_gs (KF.slot_gs.check _ _ _ _ _ _ _ _ KF.type_class (KF.args_gs _ _ _) ?_)
  unfold Builtin.«getset_descriptor.__get__»
  unfold descrGet
  rw [dga_obj]
  refine wpAny_bind (wpAny_pure ?_)
  unfold descrGetter
  unfold descrCheckInstance
  unfold descrNameAndClass
  unfold isInstance
  simp only [KF.owner_class]
  repeat lk
  refine ⟨Code.quiet_builtin _ (by decide +kernel), codeAny_builtin KF.entry_class ?_⟩
  unfold Builtin.«object.__class__»
  unfold shownTypeOf
  repeat lk
  exact h
theorem ex_check {M : Model} {nameV : Value} {Q : Unit → Shared → Prop} (X : K.In s.heap) (I : ExAt a C s.heap) (c : ExC K C) (hq : Q () s) : wpAny M A (checkBuiltinCall "BaseException.__getattribute__" ⟨[.ref a, nameV], []⟩) Q E s := by
  have hk : builtinKind "BaseException.__getattribute__" = some .slot := by decide +kernel
  have hsplit : splitId "BaseException.__getattribute__" = some ("BaseException", "__getattribute__") := by decide +kernel
  have ha := F.args_bexc_ga (.ref a) nameV
  have la := I.ty (M := M)
  have lb := looks_mroIn (M := M) X c.bas
  have li : Looks M s.heap (isInstance (.ref a) (.type "BaseException")) true := la.andThen lb
  simp only [checkBuiltinCall, hk, hsplit]
  refine wpAny_bind (li.at ?_)
  repeat (first | exact hq | wp_step)
theorem ex_class {Q : Option Value → Shared → Prop} (X : K.In s.heap) (I : ExAt a C s.heap) (c : ExC K C) (h : Q (some (.ref C)) { s with toks := s.toks + 1 }) : wpAny (model prog w) A (getAttr? (.ref a) "__class__") Q E s := by
  obtain ⟨h0, g0, d0, t0, o0⟩ := s
  have la := I.ty (M := model prog w)
  have lb := looks_findIn (M := model prog w) X c.ga
  have lc := looks_findIn (M := model prog w) X c.hk
  have ld := ex_find (M := model prog w) (a := a) X c
  have f3 := F.excAttr_ValueError.ga.bind (.ref a)
  have hx2 : (onTheHeap (Value.ref C) && Value.builtin "BaseException.__getattribute__" == Value.builtin "object.__getattribute__") = false := by
    have e : (Value.builtin "BaseException.__getattribute__" == Value.builtin "object.__getattribute__") = false := by decide +kernel
    rw [e]; rfl
  unfold getAttr?
  unfold getAttrBy?
  unfold getAttrBy
  refine wpAny_bind (wpAny_mkText (wpAny_bind (wpAny_attempt (wpAny_holding (wpAny_bind (la.at (wpAny_bind (lb.at ?_))))))))
  simp only [hx2, Bool.false_eq_true, if_false]
  unfold getAttrByItsOwn
  refine wpAny_bind (m := hookBefore (.ref C)) ?_
  show wpAny _ _ (typeLookup (.ref C) "__getattr__") _ _ _
  refine lc.at ?_
  refine wpAny_bind (wpAny_attempt (wpAny_holding ?_))
  show wpAny _ _ (boundAndCalled _ _ _) _ _ _
  unfold boundAndCalled
  rw [f3]
  refine wpAny_bind (wpAny_pure ?_)
  refine wpAny_call (codeAny_call_builtin F.excAttr_ValueError.ga.plain F.entry_bexc_ga (ex_check X I c ?_))
  unfold Builtin.«object.__getattribute__»
  refine wpAny_bind (wpAny_pure (wpAny_bind (wpAny_pure (wpAny_bind (la.at (wpAny_bind (ld.at ?_)))))))
  show wpAny _ _ (bindTo (.builtin "getset_descriptor.__get__") (.builtin "object.__class__") (.ref a) (.ref C)) _ _ _
  unfold bindTo
  refine wpAny_bind (wpAny_holding (wpAny_call (ex_get (s := ⟨h0, g0, d0, t0 + 1, o0⟩) X I c ?_)))
  exact wpAny_pure (handed_on rfl (wpAny_pure h))
theorem kitx_ex (c : ExC K C) : KitX K (.ref a) (.ref C) (ExAt a C) where
  ty := fun _ _ _ I => I.ty
  it := fun _ _ X _ => by
    have q := c.cls
    unfold clsIn at q
    split at q
    · rename_i ho
      intro A' Q' E' s' k z
      unfold isType loadHead
      exact wpAny_bind (wpAny_loadPart (k _ _ (X _ _ ho)) (wpAny_pure z))
    · cases q
  ne := fun h tp dd its n sl X htp => by
    have q := c.cls
    refine Bool.eq_false_iff.mpr fun z => ?_
    cases Value.ref.inj (beq_iff_eq.mp z)
    unfold clsIn at q
    split at q
    · rename_i ho
      cases (X _ _ ho).symm.trans htp
    · cases q
  ca := fun X I k => ex_class X I c k
end
end Rx
namespace Rx
open PySem PySem.Spec PySem.Calls PyProof.Rows L2
abbrev mroV : List Value := [.type "ValueError", .type "Exception", .type "BaseException", .type "object"]
def Raises (h : Heap) (C : Addr) : Prop := ∃ bm N nm q bs hdct sn sub ab col dd k0 k1 k2 k3 k5 mN,
  h.get? C = some (excClassObj nm q C N bs bm hdct sn sub ab col dd k0 k1 k2 k3 k5 "ValueError.__new__") ∧ h.Ns N mN ∧ mN "__init__" = none ∧ OwnTail h mroV bm
theorem raises_of {K : PySem.W.Frag} {h : Heap} {C : Addr} (X : K.In h) (q : PySem.W.excIn K C mroV "ValueError.__new__" = true) : Raises h C := by
  unfold PySem.W.excIn at q
  split at q
  next dd cd sl ho =>
    split at q
    next C' bm k0 k1 k2 k3 n k5 hm hs =>
      obtain ⟨q, e6⟩ := Bool.and_eq_true_iff.mp q
      obtain ⟨q, e5⟩ := Bool.and_eq_true_iff.mp q
      obtain ⟨q, e4⟩ := Bool.and_eq_true_iff.mp q
      obtain ⟨q, e3⟩ := Bool.and_eq_true_iff.mp q
      obtain ⟨e1, e2⟩ := Bool.and_eq_true_iff.mp q
      cases beq_iff_eq.mp e1
      cases beq_iff_eq.mp e2
      rcases cd with ⟨c1, c2, c3, c4, c5, c6, c7, c8, c9, ca, cb⟩
      rcases sl with ⟨sl⟩
      have e7 : cb = false := by
        cases cb with
        | false => rfl
        | true => cases e3
      have hm : c3 = .ref C :: bm := hm
      have hs : sl = [k0, k1, k2, k3, some (.builtin "ValueError.__new__"), k5] := hs
      subst hm hs e7
      have hn : h.Ns c4 (h.nsMap c4) := .of_isNs (PySem.W.isNs_of_in X e5)
      exact ⟨_, _, _, _, _, _, _, _, _, _, _, _, _, _, _, _, _, X _ _ ho, hn, PySem.W.nsMap_none_of_in X e5 (beq_iff_eq.mp e6), PySem.W.tail_of_in X e4⟩
    next => cases q
  next => cases q
theorem obj_there {P : Program} {w : World} {H : Hp} {h : Heap} {a : Addr} {o : HO} (x : ObjOk P w H h a o) : ∃ u, h.get? a = some u := by
  cases o with
  | lst xs => obtain ⟨_, _, _, _, e⟩ := x; exact ⟨_, e⟩
  | tup xs => obtain ⟨_, _, _, p⟩ := x; obtain ⟨_, e, _⟩ := p; exact ⟨_, e⟩
  | dK kvs => obtain ⟨_, _, _, _, o, _, _, e, _⟩ := x; exact ⟨_, e⟩
  | dT kvs => obtain ⟨_, _, _, _, o, _, _, e, _⟩ := x; exact ⟨_, e⟩
  | set S n => obtain ⟨o, _, _, _, e, _⟩ := x; exact ⟨_, e⟩
  | ins C dx fs => obtain ⟨_, _, _, e, _⟩ := x; exact ⟨_, e⟩
  | own y => exact x
  | xd fs => obtain ⟨_, ⟨_, _, _, e, _⟩, _⟩ := x; exact ⟨_, e⟩
  | rng lo hi => obtain ⟨_, _, _, e⟩ := x; exact ⟨_, e⟩
  | frz ob u => exact ⟨_, x.1⟩
  | tbl ps => exact ⟨_, x⟩
  | met f y => exact ⟨_, x⟩
  | ext φ => exact x.2.1
def Fly (P : Program) (w : World) (outer : List Env) (H : Hp) (s : Shared) (C : Addr) (H' : Hp) (e : Value) (s' : Shared) : Prop :=
  ∃ (a t : Addr) (B : Heap), e = .ref a ∧ s'.os = s.os ∧ AllBare s'.gens ∧ Heap.FlyingW B outer a (.ref C) (.ref t) s'.heap ∧ s.heap.get? a = none ∧ H' a = none ∧
    ∀ h2 : Heap, B.StaysIn h2 → s'.heap.UpToSlots h2 → Un (frs outer) [] H H' s.heap h2 ∧ HOk P w H' h2
def CXE (P : Program) (w : World) : CXT := fun outer H s E e s' => ∃ C H', Fly P w outer H s C H' e s' ∧ E (.ref C) none H'
def tRaise (E : XK) (C : Addr) (te : TE) : TS := fun _ σ H => te σ H fun _ H1 => E (.ref C) none H1
section
variable {X : Cx} {E : XK} {C : Addr} {x : Str} {e0 : Expr} {te : TE} {np cpos pos : Pos}
theorem fly_of {pins : List (Addr × Obj)} {σ : L2.St} {H : Hp} {s : Shared} {h1 : Heap} {a : Addr} {vs : List Value} {M : Model} {EE : Value → Shared → Prop} (I : Inv X pins σ H s) (hstk : X.stack = X.env :: X.outer) (hfr : X.env.frame = some X.env.locals) (hex : X.ex = [])
    (hx : Heap.MadeExcOf s.heap h1 a (.ref C) vs) :
    wpAny M X.A (leaving X.env (.ref a)) (fun _ s2 => Fly X.prog X.w X.outer X.H₀ X.s₀ C H (.ref a) s2) EE { s with heap := h1 } := by
  have fr : X.A.frames = some (X.env :: X.outer) := by rw [← hstk]; exact I.ok.frames
  have ff : s.heap.FunFrames X.base (X.env :: X.outer) := by rw [← hstk]; exact I.stack
  have hin : ∀ env ∈ X.env :: X.outer, ∀ b, env.frame = some b → b ∈ frs (X.env :: X.outer) := fun env he b hb => List.mem_filterMap.mpr ⟨env, he, hb⟩
  refine wpAny_leaves_madeW (base := PySem.W.hideAll s.heap (frs (X.env :: X.outer))) (h := s.heap) (L := X.env.locals) fr hfr (fun b o q => PySem.W.of_hideAll _ q) (PySem.W.funFrames_hide ff hin) hx fun h' t x1 x2 x3 x4 => ?_
  have nex : ∀ b : Addr, b ∉ X.ex := fun b => by rw [hex]; simp
  have free0 : X.s₀.heap.get? a = none := by
    cases q : X.s₀.heap.get? a with
    | none => rfl
    | some o =>
      obtain ⟨o', e⟩ := I.base.there a o q (nex a)
      rw [hx.new] at e; cases e
  have freeH : H a = none := by
    cases q : H a with
    | none => rfl
    | some o =>
      obtain ⟨u, e⟩ := obj_there (I.hok a o q)
      rw [hx.new] at e; cases e
  have stf : ∀ b ∈ frs (X.env :: X.outer), H b = none := fun b hb => I.stkFree b (by rw [hstk]; exact hb)
  refine ⟨a, t, _, rfl, I.os, I.bare, x1, free0, freeH, fun h2 st up => ?_⟩
  have up2 : s.heap.UpToSlots h2 := ((Heap.UpToSlots.of_keeps hx.keeps).trans x4).trans up
  have kp : ∀ b o, s.heap.get? b = some o → b ∉ frs (X.env :: X.outer) → h2.get? b = some o := fun b o e n => st b o (PySem.W.hideAll_get _ e n)
  have own : ∀ b o, X.s₀.heap.get? b = some o → b ≠ X.env.locals := fun b o e z => by
    have h1 := Heap.lt_size e
    have h2 := I.ok.above
    rw [z] at h1
    exact absurd (Nat.lt_of_lt_of_le h1 h2) (Nat.lt_irrefl _)
  have nfr : ∀ b o, X.s₀.heap.get? b = some o → b ∉ frs X.outer → b ∉ frs (X.env :: X.outer) := fun b o e n hb => by
    unfold frs at hb n
    rw [List.filterMap_cons, hfr] at hb
    rcases List.mem_cons.mp hb with z | z
    · exact own b o e z
    · exact n z
  have hdat : ∀ b ∈ frs X.outer, ∀ o, s.heap.get? b = some o → ∀ vs, o.data ≠ .fields vs := fun b hb o e => by
    obtain ⟨_, o', ho', hd⟩ := I.funs.mem hb
    rw [e] at ho'; cases ho'
    exact hd
  refine ⟨⟨fun b o e n hb _ => kp b o (I.base.keep b o e n hb (nex b)) (nfr b o e hb), fun b o e n hb _ => ?_, fun b o e n _ => I.base.free b o e n (nex b), fun b o e _ => ?_, I.base.tups, I.base.frzs, I.base.tbls⟩, fun b o e => ?_⟩
  · obtain ⟨sl, e1⟩ := I.base.slot b o e n hb (nex b)
    obtain ⟨sl2, e2⟩ := up2 b _ e1 (hdat b hb _ e1)
    exact ⟨sl2, e2⟩
  · obtain ⟨o', e1⟩ := I.base.there b o e (nex b)
    by_cases hb : b ∈ frs X.outer
    · obtain ⟨sl2, e2⟩ := up2 b _ e1 (hdat b hb _ e1)
      exact ⟨_, e2⟩
    · exact ⟨o', kp b o' e1 (nfr b o e hb)⟩
  · refine (I.hok b o e).stay (fun c u hc q => kp c u q fun hm => ?_) (fun _ q => q) fun _ _ q => q
    have z := stf c hm
    rcases hc with r | r
    · rw [r, e] at z; cases z
    · rw [r] at z; cases z
theorem ps_raise (hxe : ∀ e s1, wpAny (model X.prog X.w) X.A (leaving X.env e) (fun _ s2 => CXE X.prog X.w X.outer X.H₀ X.s₀ E e s2) (fun e' s2 => CXE X.prog X.w X.outer X.H₀ X.s₀ E e' s2) s1 → X.xe e s1)
    (hstk : X.stack = X.env :: X.outer) (hfr : X.env.frame = some X.env.locals) (hex : X.ex = []) (hc : X.calm = true) (hg : Gl X x) (hm : X.mg x = some (.ref C)) (q : PySem.W.excIn X.K C mroV "ValueError.__new__" = true)
    (ha : PE X e0 te) (he : starEach [e0] X.env = [(false, eval e0 X.env)] := by rfl) (hd : (x == ("__debug__" : Str)) = false := by decide) :
    PS X (.Raise (some (.Call (.Name x np) [e0] [] cpos)) none pos) (tRaise E C te) := by
  intro pins s σ H D I h
  obtain ⟨bm, N, nm, qn, bs, hdct, sn, sub, ab, col, dd, k0, k1, k2, k3, k5, mN, hC, hN, hni, T⟩ := raises_of I.ok.mod.kin q
  refine wpAny_Raise_call_subT (k5 := k5) (k3 := k3) (k2 := k2) (k1 := k1) (k0 := k0) (dd := dd) (col := col) (ab := ab) (sub := sub) (sn := sn) (hdct := hdct) (bs := bs) (N := N) (q := qn) (nm := nm) (C := C) PySem.F.excBase_ValueError (T.hasType PySem.F.excBase_ValueError.hasBase) (I.ok.hd hc) (by rw [he]; rfl) hni (ld_glob I hg hm ?_ hd)
  refine ⟨rfl, ?_⟩
  rw [he]
  refine Calls.evalArgs_plain (Calls.spliced_cons (thn (ha pins s σ H _ I h) fun u s1 ⟨v, H1, I1, r1, q1⟩ => Calls.spliced_nil ⟨rfl, by show 1 ≤ sizeLine; decide, I1.bk _ _ hC, hN.keeps I1.bk, T.keeps I1.bk, fun h' e hx => ?_⟩))
  exact hxe _ _ (thn (fly_of I1 hstk hfr hex hx) fun _ s2 z => ⟨C, H1, z, q1⟩)
end
end Rx
namespace Rx
open PySem PySem.Spec PySem.Calls PyProof.Rows L2
def exO (a C : Addr) : HO := .ext (ExAt a C)
structure ByC (K : PySem.W.Frag) (C R : Addr) : Prop where
  ty : PySem.W.typeIn K (.ref R) = some (.type "type")
  cls : (PySem.W.clsIn K R).isSome = true
  base : PySem.W.mroIn K R (.type "BaseException") = some true
  sub : PySem.W.mroIn K C (.ref R) = some true
theorem ref_isType {K : PySem.W.Frag} {M : Model} {h : Heap} {R : Addr} (X : K.In h) (c : (PySem.W.clsIn K R).isSome = true) : PySem.W.Looks M h (isType (.ref R)) true := by
  unfold PySem.W.clsIn at c
  split at c
  · rename_i ho
    intro A' Q' E' s' k z
    unfold isType loadHead
    exact wpAny_bind (wpAny_loadPart (k _ _ (X _ _ ho)) (wpAny_pure z))
  · cases c
theorem matches_by {M : Model} {A : Around} {E : Value → Shared → Prop} {K : PySem.W.Frag} {a C R : Addr} {s : Shared} {Q : Bool → Shared → Prop} (X : K.In s.heap) (I : ExAt a C s.heap) (c : ByC K C R) (h : Q true s) :
    wpAny M A (excMatches (.ref a) (.ref R)) Q E s := by
  obtain ⟨h0, g0, d0, t0, o0⟩ := s
  have l1 := PySem.W.looks_typeIn (M := M) X c.ty
  have l2 := ref_isType (M := M) X c.cls
  have l3 := PySem.W.looks_mroIn (M := M) X c.base
  have l4 := PySem.W.looks_mroIn (M := M) X c.sub
  have l5 := I.ty (M := M)
  have l6 : PySem.W.Looks M h0 (isSubtype (.type "type") (.type "tuple")) false := PySem.W.Looks.of_pure tc_notTuple
  unfold excMatches isExcClass isInstance
  repeat (first | lk | exact h)
end Rx
namespace Rx
open PySem PySem.Spec PySem.Calls PyProof.Rows L2
abbrev mkd (X : Cx) (e : Value) : Cx := { X with A := X.A.mark (some e), calm := false, xe := fun _ _ => False }
section
variable {X : Cx} {pins : List (Addr × Obj)} {σ : L2.St} {H : Hp} {s : Shared}
theorem inv_mkd (I : Inv X pins σ H s) (e : Value) : Inv (mkd X e) pins σ H s :=
  ⟨⟨I.ok.mod, I.ok.kind, I.ok.glob, I.ok.blt, I.ok.above, I.ok.inj, I.ok.has, I.ok.cab, (fun h => nomatch h), I.ok.frames, I.ok.stk, I.ok.exf, I.ok.bs, I.ok.bsz, I.ok.noex, I.ok.exfs, I.ok.funs, I.ok.frf⟩, I.os, I.bare, I.base, I.loc, I.cell, I.free, I.freeC, I.pin, I.hok, I.len⟩
theorem inv_unmk {e : Value} (ok : X.Ok) (I : Inv (mkd X e) pins σ H s) : Inv X pins σ H s := ⟨ok, I.os, I.bare, I.base, I.loc, I.cell, I.free, I.freeC, I.pin, I.hok, I.len⟩
theorem inv_track {a C : Addr} (I : Inv X pins σ H s) (hf : H a = none) (h0 : X.s₀.heap.get? a = none) (hp : ∀ p ∈ X.pn ++ pins, p.1 ≠ a) (x : ExAt a C s.heap) : Inv X pins σ (upd H a (exO a C)) s := by
  obtain ⟨o, vs, ho, hcl, hd⟩ := id x
  have ne : ∀ b u, H b = some u → b ≠ a := fun b u e z => by rw [z, hf] at e; cases e
  refine ⟨I.ok, I.os, I.bare, ⟨I.base.keep, I.base.slot, fun b u e n hx => ?_, I.base.there, fun b xs e => ?_, fun b u xs e => ?_, fun b ps e => ?_⟩, I.loc, I.cell, ?_, fun y c e => ?_, fun p hp' => ?_, fun b u e => ?_, I.len⟩
  · rw [upd_ne (fun z => by rw [z, h0] at e; cases e)]; exact I.base.free b u e n hx
  · have q := I.base.tups b xs e
    rw [upd_ne (ne b _ q)]; exact q
  · have q := I.base.frzs b u xs e
    rw [upd_ne (ne b _ q)]; exact q
  · obtain ⟨m, q⟩ := I.base.tbls b ps e
    exact ⟨m, by rw [upd_ne (ne b _ q)]; exact q⟩
  · obtain ⟨m, ⟨oL, es, ep, hoL, hdL, _⟩, _⟩ := I.loc
    rw [upd_ne (fun z => by rw [z, ho] at hoL; cases hoL; rw [hd] at hdL; cases hdL)]
    exact I.free
  · obtain ⟨v, oc, hoc, hdc⟩ := I.cell y c e
    rw [upd_ne (fun z => by rw [z, ho] at hoc; cases hoc; rw [hd] at hdc; cases hdc)]
    exact I.freeC y c e
  · obtain ⟨e, n, r⟩ := I.pin p hp'
    exact ⟨e, by rw [upd_ne (hp p hp')]; exact n, r⟩
  · by_cases hb : b = a
    · subst hb
      rw [upd_same] at e
      cases e
      exact ⟨x, ⟨o, ho⟩, fun h1 h2 y k => by
        obtain ⟨o', vs', e', c', d'⟩ := y
        exact ⟨o', vs', k _ e', c', d'⟩⟩
    · rw [upd_ne hb] at e
      exact (I.hok b u e).stay (fun _ _ _ q => q) (fun c q => by rw [upd_ne (ne c _ q)]; exact q) fun c xs q => by rw [upd_ne (ne c _ q)]; exact q
theorem inv_gone {i : Nat} {n : Str} {m : Str → Option Value} {v : Option Value} {h' : Heap} {tk : Nat} (I : Inv X pins σ H s) (hN : X.N.Nodup) (hi : X.N[i]? = some n)
    (hm : ∀ (j : Nat) (x : Str) (u : V), X.N[j]? = some x → σ[j]? = some (some u) → Vis X.env.scope x → ∃ y, RelV u y ∧ Look X.env s.heap m x y)
    (hn : h'.Ns X.env.locals (fun x => if x = n then v else m x)) (hs : Heap.SameBut X.env.locals s.heap h') : Inv X pins (σ.set i none) H { s with heap := h', toks := tk } := by
  have neL : ∀ b o, X.s₀.heap.get? b = some o → b ≠ X.env.locals := fun b o e => Nat.ne_of_lt (Nat.lt_of_lt_of_le (Heap.lt_size e) I.ok.above)
  have cne := I.cne
  refine ⟨I.ok, I.os, I.bare, ⟨fun b o e z hb hx => (hs.2 b (neL b o e)).trans (I.base.keep b o e z hb hx), fun b o e z hb hx => ?_, I.base.free, fun b o e hx => ?_, I.base.tups, I.base.frzs, I.base.tbls⟩, ⟨_, hn, fun j y u e1 e2 e3 => ?_⟩, fun y c e => ?_, I.free, I.freeC, fun p hp => ?_, fun b o e => ?_, ?_⟩
  · obtain ⟨sl, e1⟩ := I.base.slot b o e z hb hx
    exact ⟨sl, (hs.2 b (neL b o e)).trans e1⟩
  · obtain ⟨o', e1⟩ := I.base.there b o e hx
    exact ⟨o', (hs.2 b (neL b o e)).trans e1⟩
  · by_cases hj : j = i
    · subst hj
      rw [List.getElem?_set] at e2
      split at e2
      · split at e2 <;> cases e2
      · exact absurd rfl ‹¬ _›
    · rw [List.getElem?_set_ne (Ne.symm hj)] at e2
      obtain ⟨u', r', q⟩ := hm j y u e1 e2 e3
      refine ⟨u', r', ?_⟩
      rcases q with ⟨k, e⟩ | ⟨k, c, e, z⟩
      · have : y ≠ n := fun e => hj (nodup_ix hN e1 (e ▸ hi))
        exact .inl ⟨k, by simp [this, e]⟩
      · exact .inr ⟨k, c, e, z.sameBut hs (cne y c e)⟩
  · obtain ⟨w', z⟩ := I.cell y c e
    exact ⟨w', z.sameBut hs (cne y c e)⟩
  · obtain ⟨e, z, ne, nf, d⟩ := I.pin p hp
    exact ⟨(hs.2 p.1 ne).trans e, z, ne, nf, d⟩
  · refine (I.hok b o e).stay (fun c u hc q => (hs.2 c ?_).trans q) (fun _ q => q) fun _ _ q => q
    rintro rfl
    have z := I.free
    rcases hc with r | r
    · rw [r, e] at z; cases z
    · rw [r] at z; cases z
  · rw [List.length_set]; exact I.len
end
def XP (X : Cx) (pins : List (Addr × Obj)) (Ex : L2.St → Addr → Hp → Prop) (e : Value) (s1 : Shared) : Prop :=
  ∃ (σ : L2.St) (C : Addr) (H' : Hp) (a t : Addr) (B : Heap), e = .ref a ∧ Heap.FlyingW B X.stack a (.ref C) (.ref t) s1.heap ∧ H' a = none ∧ X.s₀.heap.get? a = none ∧ (∀ p ∈ X.pn ++ pins, p.1 ≠ a) ∧
    (∀ (h2 : Heap) (tk : Nat), B.StaysIn h2 → s1.heap.UpToSlots h2 → Inv X pins σ H' { s1 with heap := h2, toks := tk }) ∧ Ex σ C H'
abbrev TX := L2.St → Hp → VK → (Addr → Hp → Prop) → Prop
def PEX (X : Cx) (e : Expr) (t : TX) : Prop := ∀ (pins : List (Addr × Obj)) (s : Shared) (σ : L2.St) (H : Hp) (Q : VK) (Ex : Addr → Hp → Prop), Inv X pins σ H s → t σ H Q Ex →
  wpAny (model X.prog X.w) X.A (eval e X.env) (EP X pins σ Q) (XP X pins fun σ1 C H1 => σ1 = σ ∧ Ex C H1) s
def tCallX (sp : Sp) (t : TA) : TX := fun σ H Q Ex => t σ H fun vs H1 => sp vs H1 Q fun cv _ H2 => ∃ C, cv = .ref C ∧ Ex C H2
section
variable {X : Cx} {k : Nat} {f : Addr} {fd : FuncData} {ps : List Str} {sp : Sp} {x : Str} {p pos : Pos} {e : Expr} {es : List Expr} {t : TA}
theorem pex_call (F : FnOk X.prog X.w X.K X.mg X.base (CXE X.prog X.w) k f fd ps sp) (hr : Room k X.A) (hg : Gl X x) (hm : X.mg x = some (.ref f)) (hk : PySem.W.keepIn X.K (.ref f) = true) (hb : Binds X.K fd ps []) (hex : X.ex = [])
    (ha : PA X.nox (e :: es) t) (hdb : (x == ("__debug__" : Str)) = false := by decide) (he : starEach (e :: es) X.env = (false, eval e X.env) :: starEach es X.env := by rfl) (hpl : (backTo pos (starEach es X.env)).any (·.1) = false := by rfl) :
    PEX X (.Call (.Name x p) (e :: es) [] pos) (tCallX sp t) := by
  intro pins s σ H Q Ex I h
  refine wpAny_Call_Name_kw (ld_glob I hg hm ?_ hdb)
  refine PySem.W.callWith_K (h₀ := X.base) I.ok.mod.kin hk (wpAny_mono (ha pos pins s σ H _ (I.wish _) h) (fun us s1 ⟨vs, H1, J1, r, q⟩ => ?_) fun _ _ z => False.elim z) he hpl
  have I1 : Inv X pins σ H1 s1 := J1.unwish
  refine ⟨I1.kIn, ?_⟩
  have hl : us.length = ps.length := by rw [← r.length]; exact F.len _ _ _ _ q
  have hbb : BindsTo s1 fd ⟨us, []⟩ (ps.zip us) := by
    have z := hb s1 us I1.kIn (by rw [List.append_nil]; exact hl)
    rw [List.append_nil] at z
    exact z
  refine wpAny_call (codeAny_mono (F.run X.A X.stack s1 H1 ⟨us, []⟩ us vs Q _ hr I1.env0 hbb r q) fun r s2 hq => ?_)
  cases r with
  | error e =>
    obtain ⟨C0, H2, ⟨a, t', B, rfl, os, bare, fl, fa, fH, land⟩, C, eC, ex⟩ := hq
    cases eC
    refine ⟨σ, C0, H2, a, t', B, rfl, fl, fH, ?_, fun p hp z => ?_, fun h2 tk st up => ?_, rfl, ex⟩
    · cases z : X.s₀.heap.get? a with
      | none => rfl
      | some o =>
        obtain ⟨o', e'⟩ := I1.base.there a o z (by rw [hex]; simp)
        rw [fa] at e'; cases e'
    · have e' := (I1.pin p hp).1
      rw [z, fa] at e'; cases e'
    · obtain ⟨un, hok⟩ := land h2 st up
      exact I1.call' (s' := { s2 with heap := h2, toks := tk }) (ch := []) os un hok bare (fun b z => absurd z (by simp))
  | ok fl =>
    cases fl with
    | ret u => exact I1.after hq
    | next => exact False.elim hq
    | brk => exact False.elim hq
    | cont => exact False.elim hq
end
section
variable {X : Cx} {R : Addr} {i : Nat} {n r : Str} {call hx : Expr} {tc : TX} {th : TE} {rp np hp hpos pos : Pos}
end
end Rx
namespace Rx
open PySem PySem.Spec PySem.Calls PyProof.Rows L2
structure RoomM (k : Nat) (A : Around) : Prop where
  dp : A.depth + 3 * k + 5 < recursionLimit
  un : A.units + 16 * k + 200 < cLine
theorem Room.m {k : Nat} {A : Around} (r : Room k A) (e : Value) : RoomM k (A.mark (some e)) := ⟨r.dp, r.un⟩
structure FnM (P : Program) (w : World) (K : PySem.W.Frag) (mg : Str → Option Value) (base : Heap) (k : Nat) (f : Addr) (fd : FuncData) (ps : List Str) (sp : Sp) : Prop where
  len : ∀ vs H Q E, sp vs H Q E → vs.length = ps.length
  run : ∀ (A : Around) (outer : List Env) (s : Shared) (H : Hp) (args : Args) (us : List Value) (vs : List V) (Q : VK) (E : XK), RoomM k A → Env0 P w K mg base A outer s H → BindsTo s fd args (ps.zip us) → Vals vs us → sp vs H Q E →
    codeAny (model P w) A (.call (.ref f) args) (CR CX0 outer P w H s Q E) s
def cxM (P : Program) (w : World) (K : PySem.W.Frag) (mg : Str → Option Value) (base : Heap) (N : List Str) (qual : Str) (scope : Scope) (f : Addr) (cd : Value) (A : Around) (outer : List Env) (s : Shared) (H : Hp) (E : XK) : Cx :=
  { cxOf CX0 P w K mg base N qual scope f cd A outer s H E with calm := false, xe := fun _ _ => False }
section
variable {P : Program} {w : World} {K : PySem.W.Frag} {mg : Str → Option Value} {base : Heap}
theorem inv_startM {N ps : List Str} {qual : Str} {scope : Scope} {f : Addr} {cd : Value} {A : Around} {outer : List Env} {s s1 : Shared} {H : Hp} {E : XK} {us : List Value} {vs : List V}
    (S : FnScope N ps scope) (e0 : Env0 P w K mg base A outer s H) (hl : vs.length = ps.length) (r : Vals vs us)
    (x : InCallC s s.heap.objs.size (bindL (envOfC qual scope s.heap.objs.size f cd).kindOf (ps.zip us) fun _ => none) (cellsFrom (s.heap.objs.size + 1) scope.names []) (bindC (envOfC qual scope s.heap.objs.size f cd).kindOf (ps.zip us) fun _ => none) s1) :
    L2.Inv (cxM P w K mg base N qual scope f cd A outer s H E) [] (start N vs) H s1 := by
  have e1 : Env0 P w K mg base { A with handled := none } outer s H := ⟨e0.frames, e0.mod, e0.bs, e0.bsz, e0.funs, e0.frf, e0.hok, e0.bare⟩
  have I := inv_start (CX := CX0) (E := E) (A := { A with handled := none }) S rfl e1 hl r x
  exact ⟨⟨I.ok.mod, I.ok.kind, I.ok.glob, I.ok.blt, I.ok.above, I.ok.inj, I.ok.has, I.ok.cab, (fun h => nomatch h), I.ok.frames, I.ok.stk, I.ok.exf, I.ok.bs, I.ok.bsz, I.ok.noex, I.ok.exfs, I.ok.funs, I.ok.frf⟩, I.os, I.bare, I.base, I.loc, I.cell, I.free, I.freeC, I.pin, I.hok, I.len⟩
theorem okM {x qual : Str} {st : Stmt} {f : Addr} {fd : FuncData} {N ps : List Str} {k : Nat} {sp : Sp} (F : Fun K x qual st f fd) (S : FnScope N ps (defScope st)) (len : ∀ vs H Q E, sp vs H Q E → vs.length = ps.length)
    (hbody : ∀ (cdv : Value) (A : Around) (outer : List Env) (s : Shared) (H : Hp) (vs : List V) (Q : VK) (E : XK), RoomM k (A.deeper (envOfC qual (defScope st) s.heap.objs.size f cdv)) → sp vs H Q E →
      ∃ t, PSs (cxM P w K mg base N qual (defScope st) f cdv A outer s H E) (defBody st) t ∧ t { nx := fun _ H' => Q .non H', rt := Q } (start N vs) H) : FnM P w K mg base (k + 1) f fd ps sp := by
  obtain ⟨oc, od, kV, doc, pm, an, cdv, ct, osl, rfl, lk, hcd⟩ := F.ex
  refine ⟨len, fun A outer s H args us vs Q E hr e0 hb r hsp => ?_⟩
  have hl := len _ _ _ _ hsp
  have KX : K.In s.heap := e0.mod.kin.keeps fun b o e => (e0.bs b o e).1
  have lim : s.heap.NoLimit := e0.mod.nolimit.keeps fun b o e => (e0.bs b o e).1
  have hkind : ∀ y ∈ ps.zip us, (defScope st).names.lookup y.1 = some .local ∨ ((defScope st).names.lookup y.1 = some .cell ∧ ((cellsFrom (s.heap.objs.size + 1) (defScope st).names []).lookup y.1).isSome = true) := fun ⟨n, v⟩ hy => by
    rcases S.par n (List.of_mem_zip hy).1 with q | q
    · exact .inl q
    · exact .inr ⟨q, PySem.W.cellsFrom_some _ _ _ (.inl q)⟩
  have hdp : A.depth < recursionLimit := by have := hr.dp; omega
  refine codeAny_call_function hdp (KX _ _ lk) rfl S.co S.gen rfl (PySem.W.codeRec_of KX hcd) (hb _ _ _ _ ?_)
  refine wpAny_newFunctionEnv_cells S.kind hkind fun env he s1 x => ?_
  subst he
  refine ⟨lim.keeps x.toInCall.keep, codeAny_func ?_⟩
  have hr2 : RoomM k (A.deeper (envOfC qual (defScope st) s.heap.objs.size f cdv)) := ⟨by have := hr.dp; show A.depth + 1 + 3 * k + 5 < _; omega, by have := hr.un; show A.units + 3 + 16 * k + 200 < _; omega⟩
  obtain ⟨t, ht, hq⟩ := hbody cdv A outer s H vs Q E hr2 hsp
  have I := inv_startM (E := E) S e0 hl r x
  refine wpAny_mono (ht [] s1 (start N vs) H _ I hq) (fun fl s' hs => ?_) fun e s' hs => False.elim hs
  have fin : ∀ {σ' : L2.St} {H' : Hp} {v : V} {u : Value}, L2.Inv (cxM P w K mg base N qual (defScope st) f cdv A outer s H E) [] σ' H' s' → RelV v u → Q v H' → CE outer P w H s Q u s' :=
    fun {σ' H' v u} J rv q => ⟨v, H', J.os, J.bare, J.base, J.hok, rv, q⟩
  cases fl with
  | ret u =>
    obtain ⟨v, σ', H', J, rv, q⟩ := hs
    exact fin J rv q
  | next =>
    obtain ⟨σ', H', J, q⟩ := hs
    exact fin (v := V.non) (u := Value.none) J rfl q
  | brk =>
    obtain ⟨_, _, _, q⟩ := hs
    exact False.elim q
  | cont =>
    obtain ⟨_, _, _, q⟩ := hs
    exact False.elim q
end
section
variable {X : Cx} {k : Nat} {f : Addr} {fd : FuncData} {ps : List Str} {sp : Sp} {x : Str} {p pos : Pos} {e : Expr} {es : List Expr} {t : TA}
theorem pe_callM (F : FnM X.prog X.w X.K X.mg X.base k f fd ps sp) (hr : RoomM k X.A) (hg : Gl X x) (hm : X.mg x = some (.ref f)) (hk : PySem.W.keepIn X.K (.ref f) = true) (hb : Binds X.K fd ps [])
    (ha : PA X (e :: es) t) (hdb : (x == ("__debug__" : Str)) = false := by decide) (he : starEach (e :: es) X.env = (false, eval e X.env) :: starEach es X.env := by rfl) (hpl : (backTo pos (starEach es X.env)).any (·.1) = false := by rfl) :
    PE X (.Call (.Name x p) (e :: es) [] pos) (fun σ H Q => t σ H fun vs H1 => sp vs H1 Q E0) := by
  intro pins s σ H Q I h
  refine wpAny_Call_Name_kw (ld_glob I hg hm ?_ hdb)
  refine PySem.W.callWith_K (h₀ := X.base) I.ok.mod.kin hk (thn (ha pos pins s σ H _ I h) fun us s1 ⟨vs, H1, I1, r, q⟩ => ⟨I1.kIn, ?_⟩) he hpl
  have hl : us.length = ps.length := by rw [← r.length]; exact F.len _ _ _ _ q
  have hbb : BindsTo s1 fd ⟨us, []⟩ (ps.zip us) := by
    have z := hb s1 us I1.kIn (by rw [List.append_nil]; exact hl)
    rw [List.append_nil] at z
    exact z
  refine wpAny_call (codeAny_mono (F.run X.A X.stack s1 H1 ⟨us, []⟩ us vs Q _ hr I1.env0 hbb r q) fun r s2 hq => ?_)
  cases r with
  | error e => exact False.elim hq
  | ok fl =>
    cases fl with
    | ret u => exact I1.after hq
    | next => exact False.elim hq
    | brk => exact False.elim hq
    | cont => exact False.elim hq
end
section
variable {X : Cx}
theorem call_isEx : CallR X (.builtin "isinstance") (fun xs H Q => ∃ a C y c b, xs = [.ref a, y] ∧ H a = some (exO a C) ∧ ExC X.K C ∧ (∀ u, RelV y u → u = c) ∧ PySem.W.kitOne X.K (.ref C) c = some b ∧ Q (.bl b) H) := by
  intro pins s σ H xs us Q I r h
  obtain ⟨a, C, y, c, b, rfl, ha, hc, hy, e, q⟩ := h
  obtain ⟨u, v, rfl, ru, rv⟩ := vals2 r
  cases (show u = Value.ref a from ru)
  cases hy v rv
  exact PySem.W.kia_one (kitx_ex hc) I.kIn (I.hok a _ ha).1 e (fun z => nomatch z) fun tk => ⟨.bl b, H, I.tok tk, rfl, q⟩
theorem bools_eq {bs : List Bool} {us : List Value} (r : Vals (bs.map V.bl) us) : us = bs.map Value.bool := by
  induction bs generalizing us with
  | nil => cases r; rfl
  | cons b bs ih =>
    cases r with
    | cons r t =>
      cases (show _ = Value.bool b from r)
      rw [ih t]
      rfl
def isTrueV : Value → Bool
  | .bool b => b
  | _ => false
theorem count_true (bs : List Bool) : (bs.map Value.bool).countP isTrueV = bs.countP id := by
  rw [List.countP_map]
  exact List.countP_congr fun b _ => Iff.rfl
def rCountT : V → List V → Hp → VK → Prop := fun x vs H Q => ∃ (l : Addr) (bs : List Bool), x = .ref l ∧ vs = [.bl true] ∧ H l = some (.lst (bs.map V.bl)) ∧ Q (.int (bs.countP id : Nat)) H
theorem mt_count : MtR X "list.count" rCountT := by
  intro pins s σ H x vs v us Q I rx rv h
  obtain ⟨l, bs, rfl, rfl, hH, q⟩ := h
  cases rx
  obtain ⟨u, rfl, ru⟩ := rv.one
  cases (show u = Value.bool true from ru)
  obtain ⟨z, its, n, r, hl, e⟩ := I.lstM hH
  have hi := bools_eq r
  subst hi
  refine call_meets F.slot_list_count ⟨_, e, rfl⟩ F.entry_list_count (F.args_list_count_2 _ _) (SeqAt.list_countAt l (bs.map Value.bool).toArray n none #[] (.bool true) isTrueV) ⟨e, fun y hy => ?_, ?_⟩
  · obtain ⟨b, _, rfl⟩ := List.mem_map.mp (List.mem_toArray.mp hy)
    have := SeqAt.EqAt.bool_bool (A := X.A.in1) (s := s) b true
    rw [show (b == true) = b by cases b <;> rfl] at this
    exact this
  · have e2 : ((bs.map Value.bool).toArray.toList.countP isTrueV : Nat) = bs.countP id := count_true bs
    rw [e2]
    exact ⟨.int (bs.countP id : Nat), H, I.tok _, ⟨_, rfl⟩, q⟩
def rIndexT : V → List V → Hp → VK → Prop := fun x vs H Q => ∃ (l : Addr) (bs : List Bool) (j : Nat), x = .ref l ∧ vs = [.bl true] ∧ H l = some (.lst (bs.map V.bl)) ∧ bs[j]? = some true ∧ (∀ m, m < j → bs[m]? = some false) ∧ Q (.int (j : Nat)) H
theorem mt_index : MtR X "list.index" rIndexT := by
  intro pins s σ H x vs v us Q I rx rv h
  obtain ⟨l, bs, j, rfl, rfl, hH, hj, hm, q⟩ := h
  cases rx
  obtain ⟨u, rfl, ru⟩ := rv.one
  cases (show u = Value.bool true from ru)
  obtain ⟨z, its, n, r, hl, e⟩ := I.lstM hH
  have hi := bools_eq r
  subst hi
  have hlt := (List.getElem?_eq_some_iff.mp hj).1
  have hsz : (bs.map Value.bool).toArray.size = bs.length := by simp
  rw [List.length_map] at z
  have hbig : bs.length < 2 ^ 60 := Nat.lt_of_le_of_lt z (by decide)
  refine call_meets F.slot_list_index ⟨_, e, rfl⟩ F.entry_list_index (F.args_list_index_2 _ _) (SeqAt.list_indexAt l (bs.map Value.bool).toArray n none #[] (.bool true) isTrueV j (by rw [hsz]; exact hlt) (by omega) ?_ ?_) ⟨e, fun y hy => ?_, ?_⟩
  · have := (List.getElem?_eq_some_iff.mp hj).2
    simp [isTrueV, this]
  · intro m hm1 hm2
    have := (List.getElem?_eq_some_iff.mp (hm m hm2)).2
    simp [isTrueV, this]
  · obtain ⟨b, _, rfl⟩ := List.mem_map.mp (List.mem_toArray.mp hy)
    have := SeqAt.EqAt.bool_bool (A := X.A.in1) (s := s) b true
    rw [show (b == true) = b by cases b <;> rfl] at this
    exact this
  · exact ⟨.int (j : Nat), H, I.tok _, ⟨_, rfl⟩, q⟩
end
end Rx
namespace Rd
open PySem PySem.Spec PyProof.Rows L2
mutual
inductive Dat (H : Hp) : V → PyData → Prop
  | non : Dat H .non .none
  | bl (b : Bool) : Dat H (.bl b) (.bool b)
  | int (i : Int) : Dat H (.int i) (.int i)
  | str (x : Str) : PyData.canLay0 (.str x) = true → Dat H (.str x) (.str x)
  | tup {a : Addr} {xs : List V} {ds : List PyData} : H a = some (.tup xs) → Dats H xs ds → Dat H (.ref a) (.tuple ds)
  | lst {a : Addr} {xs : List V} {ds : List PyData} : H a = some (.lst xs) → Dats H xs ds → Dat H (.ref a) (.list ds)
inductive Dats (H : Hp) : List V → List PyData → Prop
  | nil : Dats H [] []
  | cons {x : V} {xs : List V} {d : PyData} {ds : List PyData} : Dat H x d → Dats H xs ds → Dats H (x :: xs) (d :: ds)
end
mutual
theorem dat_reads {P : Program} {w : World} {H : Hp} {h : Heap} (ok : HOk P w H h) : ∀ (d : PyData) (x : V) (v : Value), Dat H x d → RelV x v → (∃ as, Reads h v d as) ∧ d.canLay0 = true
  | .none, _, v, .non, r => by cases r; exact ⟨⟨_, .none⟩, rfl⟩
  | .bool b, _, v, .bl _, r => by cases r; exact ⟨⟨_, .bool b⟩, rfl⟩
  | .int i, _, v, .int _, r => by obtain ⟨t, rfl⟩ := r; exact ⟨⟨_, .int i t⟩, rfl⟩
  | .str z, _, v, .str _ c, r => by obtain ⟨t, rfl⟩ := r; exact ⟨⟨_, .str z t⟩, c⟩
  | .tuple ds, _, v, .tup (a := a) (xs := xs) e q, r => by
    cases r
    obtain ⟨_, its, rv, o, ho, hc, _, n, hd⟩ := ok a _ e
    obtain ⟨⟨as, ra⟩, cl⟩ := dats_reads ok ds xs its q rv
    exact ⟨⟨as, .tuple ho hc hd ra⟩, cl⟩
  | .list ds, _, v, .lst (a := a) (xs := xs) e q, r => by
    cases r
    obtain ⟨_, its, n, rv, ho⟩ := ok a _ e
    obtain ⟨⟨as, ra⟩, cl⟩ := dats_reads ok ds xs its q rv
    exact ⟨⟨a :: as, .list ho rfl rfl ra⟩, cl⟩
  | .dict _, _, _, q, _ => nomatch q
theorem dats_reads {P : Program} {w : World} {H : Hp} {h : Heap} (ok : HOk P w H h) : ∀ (ds : List PyData) (xs : List V) (vs : List Value), Dats H xs ds → Vals xs vs → (∃ as, ReadsAll h vs ds as) ∧ PyData.canLayAll0 ds = true
  | [], _, vs, .nil, r => by cases r; exact ⟨⟨_, .nil⟩, rfl⟩
  | d :: ds, _, vs, .cons (x := x) (xs := xs) q qs, r => by
    cases r with
    | cons r rs =>
      obtain ⟨⟨a1, r1⟩, c1⟩ := dat_reads ok d x _ q r
      obtain ⟨⟨a2, r2⟩, c2⟩ := dats_reads ok ds xs _ qs rs
      exact ⟨⟨_, .cons r1 r2⟩, by simp [PyData.canLayAll0, c1, c2]⟩
end
section
variable {X : Cx}
def rEqD (X : Cx) : R2 := fun x y H Q => ∃ dx dy, Dat H x dx ∧ Dat H y dy ∧ X.A.units + min dx.depth dy.depth < cLine ∧ Q (.bl (PyData.eqv dx dy)) H
theorem op_eqD : OpR X (compareOp .Eq) (rEqD X) := by
  intro pins s σ H x y v u Q I rx ry h
  obtain ⟨dx, dy, qx, qy, hu, q⟩ := h
  obtain ⟨⟨as, ra⟩, ca⟩ := dat_reads I.hok dx x v qx rx
  obtain ⟨⟨bs, rb⟩, cb⟩ := dat_reads I.hok dy y u qy ry
  exact SeqAt.compareEq_reads ra rb ca cb hu ⟨.bl _, H, I, rfl, q⟩
end
end Rd
namespace Rd
open PySem PySem.Spec PyProof.Rows L2
section
variable {X : Cx}
end
end Rd
namespace L2
open PySem PySem.Spec PyProof.Rows
def Ite (l : Addr) : It :=
  ⟨fun i H => ∃ xs x, H l = some (.lst xs) ∧ xs[i]? = some x,
   fun i H v H' => ∃ p x, H p = none ∧ (∀ xs, H l = some (.lst xs) → xs[i]? = some x) ∧ v = .ref p ∧ H' = upd H p (.tup [.int (i : Nat), x]),
   fun i H => ∃ xs, H l = some (.lst xs) ∧ xs.length ≤ i⟩
theorem turn_enum {P : Program} {w : World} {K : PySem.W.Frag} {elts : List Expr} {x1} {tpos : Pos} {e it l : Addr} (hne : e ≠ it) :
    Turn P w K (.Tuple elts x1 tpos) (Ite l) [e, it] e (fun i h => (∃ old, IsEnum h e it (i : Nat) old) ∧ h.IsListIter it l i) where
  mem := by simp
  obj := fun i h st b hb => by
    obtain ⟨⟨old, a1⟩, ⟨o2, a2, _, d2⟩⟩ := st
    simp only [List.mem_cons, List.not_mem_nil, or_false] at hb
    rcases hb with rfl | rfl
    · exact ⟨_, a1, fun v q => nomatch q⟩
    · exact ⟨_, a2, fun v q => by rw [d2] at q; cases q⟩
  keep := fun i h h' st k => by
    obtain ⟨⟨old, a1⟩, ⟨o2, a2, c2⟩⟩ := st
    exact ⟨⟨old, k e (by simp) _ a1⟩, o2, k it (by simp) _ a2, c2⟩
  item := by
    intro X hP hw hK hc i pins s σ H E I hf st hg
    subst hP hw hK
    obtain ⟨xs, x, h1, hx⟩ := hg
    obtain ⟨⟨old, a1⟩, a2⟩ := st
    obtain ⟨its, r1, p1, _⟩ := I.list (SqL.of h1)
    obtain ⟨u, hu, ru⟩ := r1.get hx
    refine wpAny_pyNext_enum_item a1 a2 p1.isList (x := u) (by simpa using hu) hne fun h' o' l' tp sz kp => ?_
    have fr : H s.heap.objs.size = none := I.hok.fresh (Nat.le_refl _)
    have n1 : e ≠ s.heap.objs.size := Nat.ne_of_lt (Heap.lt_size a1)
    have n2 : it ≠ s.heap.objs.size := by
      obtain ⟨o2, a2, _⟩ := a2
      exact Nat.ne_of_lt (Heap.lt_size a2)
    refine ⟨_, rfl, wpAny_letOwnedTupleGo_enum o' fun h2 e2 s2 => ?_⟩
    have I1 : Inv X pins σ (upd H s.heap.objs.size (.tup [.int (i : Nat), x])) { s with heap := h2, toks := s.toks + 1 } := by
      refine I.turnedNew (ch := [e, it]) hf (fun b v hb q => ?_) (Nat.le_refl _) ⟨by show 2 ≤ sizeLine; decide, [.int (i : Nat) s.toks, u], .cons ⟨_, rfl⟩ (.cons ru .nil), ?_⟩
      · simp only [List.mem_cons, List.not_mem_nil, or_false, not_or] at hb
        exact s2.extBut _ _ hb.1 (kp b v hb.1 hb.2 q)
      · exact ⟨_, s2.extBut _ _ n1.symm tp, rfl, rfl, 0, rfl⟩
    refine ⟨.ref s.heap.objs.size, _, I1, rfl, ⟨_, x, fr, fun xs' q => ?_, rfl, rfl⟩, ⟨⟨u, e2⟩, ?_⟩, fun b hb => ?_⟩
    · rw [h1] at q; cases q; exact hx
    · exact l'.extBut s2.extBut hne.symm
    · simp only [List.mem_cons, List.not_mem_nil, or_false] at hb
      rcases hb with rfl | rfl
      · rw [upd_ne n1]; exact (hf _ (by simp)).1
      · rw [upd_ne n2]; exact (hf _ (by simp)).1
  done := by
    intro X hP hw hK hc i pins s σ H E I hf st hg
    subst hP hw hK
    obtain ⟨xs, h1, he⟩ := hg
    obtain ⟨⟨old, a1⟩, a2⟩ := st
    obtain ⟨its, r1, p1, _⟩ := I.list (SqL.of h1)
    have l1 := r1.length
    refine wpAny_pyNext_enum_end (I.ok.hd hc) a1 a2 p1.isList (by simp; omega) fun h' kp => ⟨rfl, I.turnedAll (t' := s.toks) (ch := [e, it]) hf fun b v hb q => ?_⟩
    simp only [List.mem_cons, List.not_mem_nil, or_false, not_or] at hb
    exact kp b v hb.2 q
  self := fun _ _ _ _ _ st h => by
    obtain ⟨⟨old, a1⟩, _⟩ := st
    exact wpAny_pyIter_enum a1 h
def iEnum (ta : TA) : TI := fun σ H R => ta σ H fun vs H1 => ∃ l xs, vs = [.ref l] ∧ H1 l = some (.lst xs) ∧ R (Ite l) H1
theorem boot_enum : bootBuiltins "enumerate" = some (.type "enumerate") := by decide +kernel
section
variable {X : Cx}
theorem pi_enum {a : Expr} {elts : List Expr} {x1} {tpos : Pos} {ta : TA} {p pos : Pos} (hg : Gl X "enumerate") (hm : X.mg "enumerate" = none) (ha : PA X [a] ta) (hs : starEach [a] X.env = [(false, eval a X.env)] := by rfl) :
    PI X (.Tuple elts x1 tpos) (.Call (.Name "enumerate" p) [a] [] pos) (iEnum ta) := by
  intro pins s σ H R I h
  refine Call_ (ld_blt I hg hm boot_enum (PyProof.Rows.callWith_type1 (thn (ha pos pins s σ H _ I h) fun us s1 ⟨vs, H1, I1, r1, q1⟩ => ?_) hs rfl))
  obtain ⟨l, xs, e, h1, q⟩ := q1
  subst e
  obtain ⟨u, rfl, ru⟩ := vals1 r1
  cases (show u = Value.ref l from ru)
  obtain ⟨its, w1, p1, _⟩ := I1.list (SqL.of h1)
  refine call_enumerate_list p1.isList fun h' e1 i1 sz kp => ?_
  refine wpAny_pyIter_enum (s := { s1 with heap := h' }) e1 ?_
  refine ⟨s1.heap.objs.size + 1, _, _, _, H1, rfl, I1.kept (t' := s1.toks) kp, turn_enum (by show ¬ (s1.heap.objs.size + 1 = s1.heap.objs.size); omega), ⟨⟨_, e1⟩, i1⟩, fun b hb => ?_, q⟩
  have hb' : s1.heap.objs.size ≤ b := by
    simp only [List.mem_cons, List.not_mem_nil, or_false] at hb
    rcases hb with rfl | rfl <;> omega
  exact I1.fpOk hb' (I1.hok.fresh hb')
end
end L2
namespace L2
open PySem PySem.Spec PyProof.Rows
section
variable {prog : Program} {w : World} {A : Around} {R : Result → Shared → Prop} {s : Shared}
end
end L2
namespace L2
open PySem PySem.Spec PyProof.Rows
end L2
namespace Rk
open PySem PySem.Spec PyProof.Rows L2 Rd
end Rk
namespace Rr
open PySem PyProof.Rows
section
variable {prog : Program} {w : World} {A : Around} {E : Value → Shared → Prop} {s : Shared}
end
end Rr
namespace L2
open PySem PySem.Spec PyProof.Rows
section
variable {X : Cx}
end
end L2
namespace Rs
open PySem PySem.W PyProof.Rows
def sp {α : Type} (n : Nat) (c : Nat → Nat → Bool) : KasT α → (α → Prop) → Prop
  | .ret a, Q => Q a
  | .ask i j f, Q => i < n ∧ j < n ∧ sp n c (f (c i j)) Q
section
variable {n : Nat} {K : Nat → Int}
structure Good (n : Nat) (p : Array Nat) : Prop where
  perm : p.toList.Perm (List.range n)
theorem Good.size {p : Array Nat} (g : Good n p) : p.size = n := by
  have := g.perm.length_eq
  rw [List.length_range, Array.length_toList] at this
  exact this
def at_ (p : Array Nat) (i : Nat) : Nat := p.getD i 0
theorem at_get {p : Array Nat} {i : Nat} (h : i < p.size) : p[i]? = some (at_ p i) := by
  unfold at_
  rw [Array.getD_eq_getD_getElem?, Array.getElem?_eq_getElem h]
  rfl
theorem Good.lt {p : Array Nat} (g : Good n p) (h0 : 0 < n) (i : Nat) : at_ p i < n := by
  by_cases h : i < p.size
  · have e := at_get h
    have m : at_ p i ∈ p.toList := by
      have := Array.mem_of_getElem? e
      exact Array.mem_toList_iff.mpr this
    exact List.mem_range.mp (g.perm.mem_iff.mp m)
  · unfold at_
    rw [Array.getD_eq_getD_getElem?, Array.getElem?_eq_none (by omega)]
    exact h0
theorem Good.inj {p : Array Nat} (g : Good n p) {i j : Nat} (hi : i < n) (hj : j < n) (e : at_ p i = at_ p j) : i = j := by
  have nd : p.toList.Nodup := g.perm.nodup_iff.mpr List.nodup_range
  have hs := g.size
  have hi' : i < p.toList.length := by rw [Array.length_toList]; omega
  have hj' : j < p.toList.length := by rw [Array.length_toList]; omega
  have ei : p.toList[i] = at_ p i := by
    have := at_get (p := p) (i := i) (by omega)
    rw [Array.getElem?_eq_getElem (by omega)] at this
    rw [Array.getElem_toList]
    exact Option.some.inj this
  have ej : p.toList[j] = at_ p j := by
    have := at_get (p := p) (i := j) (by omega)
    rw [Array.getElem?_eq_getElem (by omega)] at this
    rw [Array.getElem_toList]
    exact Option.some.inj this
  have pw := List.pairwise_iff_getElem.mp nd
  rcases Nat.lt_trichotomy i j with h | h | h
  · exact absurd (ei.trans (e.trans ej.symm)) (pw i j hi' hj' h)
  · exact h
  · exact absurd (ej.trans (e.symm.trans ei.symm)) (pw j i hj' hi' h)
def kk (K : Nat → Int) (p : Array Nat) (i : Nat) : Int := K (at_ p i)
def Adj (K : Nat → Int) (p : Array Nat) (m : Nat) : Prop := ∀ i, i + 1 < m → kk K p i ≤ kk K p (i + 1)
end
end Rs
namespace Rs
open PySem PySem.W PySem.Calls PyProof.Rows
section
variable {prog : Program} {w : World} {A : Around} {E : Value → Shared → Prop} {s : Shared}
end
end Rs
namespace Rs
open PySem PySem.W PySem.Calls PyProof.Rows
structure PairV (h : Heap) (v : Value) (ij : Int × Int) : Prop where
  it : ∃ (a : Addr) (o : Obj) (n : Nat) (t u : Tok), v = .ref a ∧ h.get? a = some o ∧ o.cls = .type "tuple" ∧ o.data = .seq #[.int ij.1 t, .int ij.2 u] n
inductive PairsV (h : Heap) : List Value → List (Int × Int) → Prop
  | nil : PairsV h [] []
  | cons {v : Value} {vs : List Value} {ij : Int × Int} {L : List (Int × Int)} : PairV h v ij → PairsV h vs L → PairsV h (v :: vs) (ij :: L)
theorem PairsV.at_ {h : Heap} : ∀ {vs : List Value} {L : List (Int × Int)}, PairsV h vs L → ∀ i, i < vs.length → PairV h (vs.getD i Value.none) (L.getD i (0, 0))
  | _, _, .nil, i, hi => by simp at hi
  | _, _, .cons q r, 0, hi => q
  | _, _, .cons q r, i + 1, hi => by
    have := r.at_ i (by simpa using hi)
    simpa using this
section
variable {prog : Program} {w : World} {A : Around} {E : Value → Shared → Prop} {s : Shared}
end
end Rs
namespace L2
open PySem PySem.Spec PyProof.Rows _root_.Rd _root_.Rk _root_.Rs
section
variable {X : Cx}
theorem are_ints : ∀ {ns : List Int} {vs : List Value}, IntsAre vs ns → Vals (ns.map V.int) vs
  | _, _, .nil => .nil
  | _, _, .cons n t r => .cons ⟨t, rfl⟩ (are_ints r)
end
end L2
namespace Re
open PySem PyProof.Rows
open AutoSeq1 (wpAny_loadPart')
end Re
namespace L2
open PySem PySem.Spec PyProof.Rows
section
variable {X : Cx}
end
end L2
namespace Rk
open PySem PySem.Spec PyProof.Rows L2
end Rk
namespace L2
open PySem PySem.Spec PyProof.Rows
section
variable {X : Cx} {pins : List (Addr × Obj)} {σ : St} {H : Hp}
end
end L2
namespace Rk
open PySem PySem.Spec PyProof.Rows L2 _root_.Rd
section
variable {X : Cx}
def rNeD (X : Cx) : R2 := fun x y H Q => ∃ dx dy, Dat H x dx ∧ Dat H y dy ∧ X.A.units + min dx.depth dy.depth < cLine ∧ Q (.bl (!PyData.eqv dx dy)) H
theorem op_neD : OpR X (compareOp .NotEq) (rNeD X) := by
  intro pins s σ H x y v u Q I rx ry h
  obtain ⟨dx, dy, qx, qy, hu, q⟩ := h
  obtain ⟨⟨as, ra⟩, ca⟩ := dat_reads I.hok dx x v qx rx
  obtain ⟨⟨bs, rb⟩, cb⟩ := dat_reads I.hok dy y u qy ry
  exact SeqAt.compareNe_reads ra rb ca cb hu ⟨.bl _, H, I, rfl, q⟩
end
end Rk
namespace Rk
open PySem PySem.Spec PyProof.Rows L2 _root_.Rd
end Rk
namespace Rk
open PySem PySem.Spec PyProof.Rows L2
theorem bt_ve : bootBuiltins "ValueError" = some (.type "ValueError") := by decide +kernel
def strsOf : List Expr → Option (List Str)
  | [] => some []
  | .Constant (.str x) _ _ :: es => (strsOf es).map (x :: ·)
  | _ :: _ => none
theorem pa_strs {X : Cx} : ∀ {es : List Expr} {ws : List Str}, strsOf es = some ws → PA X es (fun _ H Q => Q (ws.map V.str) H)
  | [], ws, h => by cases h; exact pa_nil
  | e :: es, ws, h => by
    unfold strsOf at h
    split at h
    · rename_i e2; cases e2
    · rename_i e2
      cases e2
      obtain ⟨vs, hv, rfl⟩ := Option.map_eq_some_iff.mp h
      exact pa_mono (pa_c pe_str (pa_strs hv)) fun σ H Q q => q
    · cases h
def isxOf (x : Str) : List Expr → Option (List Str)
  | [] => some []
  | .Call (.Name f _) [.Name y _, .Name n _] [] _ :: es => if f = "isinstance" ∧ y = x then (isxOf x es).map (n :: ·) else none
  | _ :: _ => none
def tIsx (K : PySem.W.Frag) (cs : List Addr) : TA := fun σ H Q => ∃ (a C : Addr) (bs : List Bool), σ[0]? = some (some (.ref a)) ∧ H a = some (Rx.exO a C) ∧ Rx.ExC K C ∧ Paired (fun c b => PySem.W.kitOne K (.ref C) (.ref c) = some b) cs bs ∧ Q (bs.map V.bl) H
theorem pa_isx {X : Cx} {x : Str} (hN : X.N[0]? = some x) (hv : Vis X.env.scope x) (hd : (x == ("__debug__" : Str)) = false) (hcd : (x == ("__classdict__" : Str)) = false) (hg : Gl X "isinstance") (hm : X.mg "isinstance" = none) :
    ∀ {es : List Expr} {ns : List Str} {cs : List Addr}, isxOf x es = some ns → (ns.all fun n => (X.env.kindOf n == some .globalImplicit) && !(n == ("__debug__" : Str))) = true → Paired (fun n c => X.mg n = some (.ref c)) ns cs → PA X es (tIsx X.K cs)
  | [], ns, cs, h, _, p => by
    cases h
    cases p
    exact pa_mono pa_nil fun σ H Q ⟨a, C, bs, _, _, _, pb, q⟩ => by cases pb; exact q
  | e :: es, ns, cs, h, g, p => by
    unfold isxOf at h
    split at h
    · rename_i e2; cases e2
    · rename_i f pf y py n pn pc es' e2
      cases e2
      split at h
      · rename_i hc
        obtain ⟨rfl, rfl⟩ := hc
        obtain ⟨ns', hns, rfl⟩ := Option.map_eq_some_iff.mp h
        cases p with
        | @cons _ c _ cs' p1 p2 =>
        rw [List.all_cons, Bool.and_eq_true, Bool.and_eq_true] at g
        have g1 : Gl X n := beq_iff_eq.mp g.1.1
        have g2 : (n == ("__debug__" : Str)) = false := by
          have := g.1.2
          cases q : (n == ("__debug__" : Str)) with
          | false => rfl
          | true => rw [q] at this; cases this
        have one : PE X (.Call (.Name "isinstance" pf) [.Name y py, .Name n pn] [] pc) _ := pe_callB Rx.call_isEx hg hm bt_isinstance (pa_c (pe_var hN hv hd hcd) (pa_c (pe_glob (v := .ref c) g1 p1 rfl g2) pa_nil rfl) rfl)
        refine pa_mono (pa_c one (pa_isx hN hv hd hcd hg hm hns g.2 p2) rfl) fun σ H Q ⟨a, C, bs, h0, ha, hc, pb, q⟩ => ?_
        cases pb with
        | @cons _ b _ bs' q1 q2 => exact ⟨_, h0, a, C, .ref c, .ref c, b, rfl, ha, hc, (fun u r => r), q1, a, C, bs', h0, ha, hc, q2, q⟩
      · cases h
    · cases h
theorem paired_cons {α β : Type} {F : α → β → Prop} {a : α} {l : List α} {bs : List β} (h : Paired F (a :: l) bs) : ∃ b bs', bs = b :: bs' ∧ F a b ∧ Paired F l bs' := by
  cases h with
  | cons r t => exact ⟨_, _, rfl, r, t⟩
theorem paired_nil {α β : Type} {F : α → β → Prop} {bs : List β} (h : Paired F [] bs) : bs = [] := by
  cases h
  rfl
end Rk
namespace Rx
open PySem PySem.Spec PySem.Calls PyProof.Rows L2
section
variable {X : Cx} {E : XK}
theorem passE (hxe : ∀ e s1, wpAny (model X.prog X.w) X.A (leaving X.env e) (fun _ s2 => CXE X.prog X.w X.outer X.H₀ X.s₀ E e s2) (fun e' s2 => CXE X.prog X.w X.outer X.H₀ X.s₀ E e' s2) s1 → X.xe e s1)
    (hstk : X.stack = X.env :: X.outer) (hfr : X.env.frame = some X.env.locals) (hex : X.ex = []) : Passes (CXE X.prog X.w) X E := by
  intro pins σ H s e s' I h
  obtain ⟨C, H', ⟨a, t, B, rfl, os, bare, fl, fa, fH, land⟩, q⟩ := h
  refine hxe _ _ ?_
  have fl2 := fl
  rw [hstk] at fl2
  have fr : X.A.frames = some (X.env :: X.outer) := by rw [← hstk]; exact I.ok.frames
  refine wpAny_leaves_onW fr hfr fl2 fun h' fl' up => ⟨C, H', ⟨a, t, B, rfl, os.trans I.os, bare, fl', ?_, fH, fun h2 st up2 => ?_⟩, q⟩
  · cases z : X.s₀.heap.get? a with
    | none => rfl
    | some o =>
      obtain ⟨o', e'⟩ := I.base.there a o z (by rw [hex]; simp)
      rw [fa] at e'; cases e'
  · obtain ⟨un, hok⟩ := land h2 st (up.trans up2)
    have J := I.call' (s' := { s' with heap := h2 }) (ch := []) os un hok bare (fun b z => absurd z (by simp))
    have hb := J.base
    rw [hex] at hb
    exact ⟨hb, hok⟩
end
def MayF (X : Cx) (f : Addr) (sp : Sp) : Prop := ∃ k fd ps, FnOk X.prog X.w X.K X.mg X.base (CXE X.prog X.w) k f fd ps sp ∧ Room k X.A ∧ PySem.W.keepIn X.K (.ref f) = true ∧ Binds X.K fd ps []
def tCallFX (M : Addr → Sp → Prop) (tf : TE) (t : TA) : TX := fun σ H Q Ex => tf σ H fun v H0 => ∃ f sp, v = .ref f ∧ M f sp ∧ t σ H0 fun vs H1 => sp vs H1 Q fun cv _ H2 => ∃ C, cv = .ref C ∧ Ex C H2
section
variable {X : Cx} {tf : TE} {fe : Expr} {pos : Pos} {e : Expr} {es : List Expr} {t : TA} {M : Addr → Sp → Prop}
theorem pex_callF (hM : ∀ f sp, M f sp → MayF X f sp) (hf : PE X.nox fe tf) (hex : X.ex = [])
    (ha : PA X.nox (e :: es) t) (hfe : eval (.Call fe (e :: es) [] pos) X.env = (do callWith pos (← eval fe X.env) [] (backTo pos (starEach (e :: es) X.env)) (backToKw pos (keywordEach [] X.env))) := by rfl)
    (he : starEach (e :: es) X.env = (false, eval e X.env) :: starEach es X.env := by rfl) (hpl : (backTo pos (starEach es X.env)).any (·.1) = false := by rfl) :
    PEX X (.Call fe (e :: es) [] pos) (tCallFX M tf t) := by
  intro pins s σ H Q Ex I h
  rw [hfe]
  refine wpAny_bind (wpAny_mono (hf pins s σ H _ (I.wish _) h) (fun v s0 ⟨x, H0, J0, r0, q0⟩ => ?_) fun _ _ z => False.elim z)
  obtain ⟨f, sp, rfl, mf, q0⟩ := q0
  obtain ⟨k, fd, ps, F, hr, hk, hb⟩ := hM f sp mf
  cases (show v = Value.ref f from r0)
  have I0 : Inv X pins σ H0 s0 := J0.unwish
  refine PySem.W.callWith_K (h₀ := X.base) I.ok.mod.kin hk (wpAny_mono (ha pos pins s0 σ H0 _ (I0.wish _) q0) (fun us s1 ⟨vs, H1, J1, r, q⟩ => ?_) fun _ _ z => False.elim z) he hpl
  have I1 : Inv X pins σ H1 s1 := J1.unwish
  refine ⟨I1.kIn, ?_⟩
  have hl : us.length = ps.length := by rw [← r.length]; exact F.len _ _ _ _ q
  have hbb : BindsTo s1 fd ⟨us, []⟩ (ps.zip us) := by
    have z := hb s1 us I1.kIn (by rw [List.append_nil]; exact hl)
    rw [List.append_nil] at z
    exact z
  refine wpAny_call (codeAny_mono (F.run X.A X.stack s1 H1 ⟨us, []⟩ us vs Q _ hr I1.env0 hbb r q) fun r s2 hq => ?_)
  cases r with
  | error e =>
    obtain ⟨C0, H2, ⟨a, t', B, rfl, os, bare, fl, fa, fH, land⟩, C, eC, ex⟩ := hq
    cases eC
    refine ⟨σ, C0, H2, a, t', B, rfl, fl, fH, ?_, fun p hp z => ?_, fun h2 tk st up => ?_, rfl, ex⟩
    · cases z : X.s₀.heap.get? a with
      | none => rfl
      | some o =>
        obtain ⟨o', e'⟩ := I1.base.there a o z (by rw [hex]; simp)
        rw [fa] at e'; cases e'
    · have e' := (I1.pin p hp).1
      rw [z, fa] at e'; cases e'
    · obtain ⟨un, hok⟩ := land h2 st up
      exact I1.call' (s' := { s2 with heap := h2, toks := tk }) (ch := []) os un hok bare (fun b z => absurd z (by simp))
  | ok fl =>
    cases fl with
    | ret u => exact I1.after hq
    | next => exact False.elim hq
    | brk => exact False.elim hq
    | cont => exact False.elim hq
end
end Rx
namespace Rk
open PySem PySem.Spec PyProof.Rows L2 _root_.Rd
structure GlbA (mg : Str → Option Value) : Prop where
  isinstance : mg "isinstance" = none
  int : mg "int" = none
  bool : mg "bool" = none
  str : mg "str" = none
  tuple : mg "tuple" = none
  list : mg "list" = none
  all : mg "all" = none
  len : mg "len" = none
  zip : mg "zip" = none
  enumerate : mg "enumerate" = none
  range : mg "range" = none
  max : mg "max" = none
  min : mg "min" = none
  sorted : mg "sorted" = none
  sum : mg "sum" = none
  set : mg "set" = none
  any : mg "any" = none
  reversed : mg "reversed" = none
  divmod : mg "divmod" = none
end Rk
namespace Rx
open PySem PySem.Spec PySem.Calls PyProof.Rows L2
section
variable {P : Program} {w : World} {K : PySem.W.Frag} {mg : Str → Option Value} {base : Heap}
theorem okE {x qual : Str} {st : Stmt} {f : Addr} {fd : FuncData} {N ps : List Str} {k : Nat} {sp : Sp} (F : Fun K x qual st f fd) (S : FnScope N ps (defScope st)) (len : ∀ vs H Q E, sp vs H Q E → vs.length = ps.length)
    (hbody : ∀ (cdv : Value) (A : Around) (outer : List Env) (s : Shared) (H : Hp) (vs : List V) (Q : VK) (E : XK), Room k (A.deeper (envOfC qual (defScope st) s.heap.objs.size f cdv)) → sp vs H Q E →
      ∃ t, PSs (cxOf (CXE P w) P w K mg base N qual (defScope st) f cdv A outer s H E) (defBody st) t ∧ t { nx := fun _ H' => Q .non H', rt := Q } (start N vs) H) : FnOk P w K mg base (CXE P w) (k + 1) f fd ps sp := by
  obtain ⟨oc, od, kV, doc, pm, an, cdv, ct, osl, rfl, lk, hcd⟩ := F.ex
  exact fn_of lk hcd S len fun A outer s H vs Q E hr hsp => hbody cdv A outer s H vs Q E hr hsp
end
end Rx
namespace Rk
open PySem PySem.Spec PyProof.Rows L2 _root_.Rd
section
variable {X : Cx} {is js : List Nat}
end
end Rk
namespace L2
open PySem PySem.Spec PyProof.Rows
section
variable {prog : Program} {w : World} {A : Around} {E : Value → Shared → Prop} {s : Shared}
end
section
variable {X : Cx}
end
end L2
namespace L2
open PySem PySem.Spec PyProof.Rows
def rLenK (K : PySem.W.Frag) : List V → Hp → VK → Prop := fun xs H Q => ∃ p ys, xs = [.ref p] ∧ (SqL K H p ys ∨ SqT K H p ys) ∧ Q (.int ys.length) H
theorem bt_sum : bootBuiltins "sum" = some (.builtin "sum") := by decide +kernel
theorem bt_divmod : bootBuiltins "divmod" = some (.builtin "divmod") := by decide +kernel
def rSumI (K : PySem.W.Frag) : List V → Hp → VK → Prop := fun xs H Q => ∃ (p : Addr) (ns : List Int), xs = [.ref p] ∧ SqL K H p (ns.map V.int) ∧ Q (.int ns.sum) H
def CMulB (i j : Int) : Prop := ∃ k : Nat, k ≤ 1000000 ∧ i.natAbs < 2 ^ k ∧ j.natAbs < 2 ^ k
theorem bits_le {i : Int} {k : Nat} (h : i.natAbs < 2 ^ k) : Builtin.Int.intBits i ≤ k := by
  unfold Builtin.Int.intBits
  split
  · exact Nat.zero_le _
  · rename_i z
    have hz : i.natAbs ≠ 0 := by
      intro q
      apply z
      have : i = 0 := by omega
      subst this
      rfl
    have := (Nat.log2_lt hz).mpr h
    omega
theorem CMulB.ok {i j : Int} (h : CMulB i j) : IntMulOk i j := by
  obtain ⟨k, hk, h1, h2⟩ := h
  have a := bits_le h1
  have b := bits_le h2
  unfold IntMulOk
  have c : Builtin.Int.intTooBig (Builtin.Int.intBits i + Builtin.Int.intBits j : Nat) = false := by
    unfold Builtin.Int.intTooBig
    rw [decide_eq_false]
    have : bitsLine = 134217728 := by decide +kernel
    rw [this]
    omega
  intro z
  rw [Bool.and_eq_true] at z
  have z2 := z.2
  have e : ((Builtin.Int.intBits i + Builtin.Int.intBits j : Nat) : Int) = (Builtin.Int.intBits i : Int) + (Builtin.Int.intBits j : Int) := by omega
  rw [e] at c
  rw [c] at z2
  cases z2
section
variable {X : Cx}
theorem op_mulB : OpR X (binaryOp .Mult) (rI CMulB fun i j => .int (i * j)) := opI fun _ _ _ _ _ _ _ hc q => mul_int q hc.ok
theorem call_sumI (hc : X.calm = true) : CallR X (.builtin "sum") (rSumI X.K) := by
  intro pins s σ H xs us Q I r h
  obtain ⟨p, ns, rfl, hp, q⟩ := h
  obtain ⟨u, rfl, ru⟩ := vals1 r
  cases ru
  obtain ⟨its, rv, pl, hz⟩ := I.list hp
  have hi : IntsAre its ns := intsAre_of rv
  obtain ⟨ys, hx⟩ := hi.allInts.items
  have hl' : s.heap.IsList p (intItems ys) := hx ▸ pl.isList
  refine sum_intListG (I.ok.hd hc) hl' fun h' tk t' hk => ?_
  have e1 : ns = ys.toList.map (·.1) := by
    rw [← nums_intItems, ← hx]
    exact (show numsOf its.toArray.toList = ns from hi.numsOf).symm
  have e2 : preSum (numAt ys) ys.size = ns.sum := by
    rw [preSum_eq, List.take_of_length_le (by simp), e1]
  rw [e2]
  exact ⟨.int _, H, I.kept hk, ⟨_, rfl⟩, q⟩
end
end L2
namespace Rk
open PySem PySem.Spec PyProof.Rows L2 _root_.Rd
def rNeU (u : Nat) : R2 := fun x y H Q => ∃ dx dy, Dat H x dx ∧ Dat H y dy ∧ u + min dx.depth dy.depth < cLine ∧ Q (.bl (!PyData.eqv dx dy)) H
theorem op_neU {X : Cx} : OpR X (compareOp .NotEq) (rNeU X.A.units) := op_neD
def rEqU (u : Nat) : R2 := fun x y H Q => ∃ dx dy, Dat H x dx ∧ Dat H y dy ∧ u + min dx.depth dy.depth < cLine ∧ Q (.bl (PyData.eqv dx dy)) H
theorem op_eqU {X : Cx} : OpR X (compareOp .Eq) (rEqU X.A.units) := op_eqD
end Rk
namespace Rk
open PySem PySem.Spec PyProof.Rows L2 _root_.Rd
theorem ps_nox {X : Cx} {st : Stmt} {t : TS} (h : PS X.nox st t) : PS X st t := fun pins s σ H D I hw =>
  wpAny_mono (h pins s σ H D (I.wish _) hw) (fun _ _ q => SP.unwish q) fun _ _ x => x.elim
end Rk
namespace Rx
open PySem PySem.Spec PySem.Calls PyProof.Rows L2
end Rx
namespace Rk
open PySem PySem.Spec PyProof.Rows L2 _root_.Rd
theorem ixN_nat {n k : Nat} (h : k < n) : ixN n (k : Nat) = some k := by
  unfold ixN
  rw [if_pos (by omega), if_pos (by omega)]
  simp
end Rk
namespace HT
open PySem PyProof.Rows
section
open PySem.SeqAt
open PySem.AutoSeq1 (wpAny_loadPart')
open PySem.MeetsSeq PySem.MeetsSeq2 PySem.MeetsSeq3
end
section
variable {prog : Program} {w : World} {A : Around} {E : Value → Shared → Prop} {s : Shared}
end
end HT
namespace L2
open PySem PySem.Spec PyProof.Rows
end L2
namespace L2
open PySem PySem.Spec PyProof.Rows
def rSlLW (K : PySem.W.Frag) : V → Option Int → Option Int → Hp → VK → Prop := fun x lo hi H Q => ∃ a xs, x = .ref a ∧ SqL K H a xs ∧ ∀ p H', Same H H' → H p = none → H' p = some (.lst (cutV xs lo hi)) → Q (.ref p) H'
theorem sl_listW {X : Cx} : SlR X (rSlLW X.K) := by
  intro pins s σ H x v vl vu lo hi sl Q I rx hs pl pu h
  obtain ⟨a, xs, e, hx, q⟩ := h
  exact sl_list pins s σ H x v vl vu lo hi sl Q I rx hs pl pu ⟨a, xs, e, hx, fun p hp => q p _ (same_upd hp) hp upd_same⟩
end L2
namespace Rk
open PySem PySem.Spec PyProof.Rows L2 _root_.Rd
end Rk
namespace L2
open PySem PySem.Spec PyProof.Rows
section
variable {X : Cx}
def rTupOfW (K : PySem.W.Frag) : List V → Hp → VK → Prop := fun xs H Q => ∃ p ys, xs = [.ref p] ∧ ((SqL K H p ys ∧ ∀ l H', Same H H' → H l = none → H' l = some (.tup ys) → Q (.ref l) H') ∨ (SqT K H p ys ∧ Q (.ref p) H))
theorem call_tuple_ofW : CallR X (.type "tuple") (rTupOfW X.K) := by
  intro pins s σ H xs us Q I r h
  obtain ⟨p, ys, e, h⟩ := h
  refine call_tuple_of pins s σ H xs us Q I r ⟨p, ys, e, ?_⟩
  rcases h with ⟨h1, h2⟩ | h
  · exact .inl ⟨h1, fun l hl => h2 l _ (same_upd hl) hl upd_same⟩
  · exact .inr h
end
end L2
namespace Rk
open PySem PySem.Spec PyProof.Rows L2 _root_.Rd
theorem map_getD {n : Nat} (f : Nat → Int) {j : Nat} (h : j < n) : ((List.range n).map f).getD j 0 = f j := by
  rw [List.getD_eq_getElem?_getD, List.getElem?_map, List.getElem?_range h]
  rfl
end Rk
namespace Rk
open PySem PySem.Spec PyProof.Rows L2 _root_.Rd
def sumN : Nat → (Nat → Int) → Int
  | 0, _ => 0
  | n + 1, f => sumN n f + f n
theorem sumN_congr {n : Nat} {f g : Nat → Int} (h : ∀ i, i < n → f i = g i) : sumN n f = sumN n g := by
  induction n with
  | zero => rfl
  | succ n ih => rw [sumN, sumN, ih fun i hi => h i (by omega), h n (by omega)]
theorem sumN_list (n : Nat) (f : Nat → Int) : ((List.range n).map f).sum = sumN n f := by
  induction n with
  | zero => rfl
  | succ n ih => rw [List.range_succ, List.map_append, List.sum_append, ih, sumN]; simp
theorem sumN_zero {n : Nat} {f : Nat → Int} (h : ∀ i, i < n → f i = 0) : sumN n f = 0 := by
  induction n with
  | zero => rfl
  | succ n ih => rw [sumN, ih fun i hi => h i (by omega), h n (by omega)]; rfl
theorem sumN_add (n : Nat) (f g : Nat → Int) : sumN n (fun i => f i + g i) = sumN n f + sumN n g := by
  induction n with
  | zero => rfl
  | succ n ih => rw [sumN, sumN, sumN, ih]; omega
theorem sumN_mulL (n : Nat) (c : Int) (f : Nat → Int) : sumN n (fun i => c * f i) = c * sumN n f := by
  induction n with
  | zero => simp [sumN]
  | succ n ih => rw [sumN, sumN, ih, Int.mul_add]
theorem sumN_comm (n m : Nat) (f : Nat → Nat → Int) : sumN n (fun i => sumN m fun j => f i j) = sumN m fun j => sumN n fun i => f i j := by
  induction n with
  | zero => rw [sumN]; exact (sumN_zero fun _ _ => rfl).symm
  | succ n ih =>
    rw [sumN, ih, ← sumN_add]
    exact sumN_congr fun j _ => rfl
theorem sumN_from {n a : Nat} {f : Nat → Int} (ha : a ≤ n) (h : ∀ i, i < a → f i = 0) : sumN n f = sumN (n - a) fun j => f (a + j) := by
  induction n with
  | zero => have : a = 0 := by omega
            subst this; rfl
  | succ n ih =>
    by_cases z : a = n + 1
    · subst z
      rw [Nat.sub_self, sumN_zero fun i hi => h i hi]
      rfl
    · rw [sumN, ih (by omega), show n + 1 - a = (n - a) + 1 by omega, sumN, show a + (n - a) = n by omega]
theorem sumN_more {n m : Nat} {f : Nat → Int} (hn : n ≤ m) (h : ∀ i, n ≤ i → i < m → f i = 0) : sumN m f = sumN n f := by
  induction m with
  | zero => have : n = 0 := by omega
            subst this; rfl
  | succ m ih =>
    by_cases z : n = m + 1
    · subst z; rfl
    · rw [sumN, ih (by omega) fun i h1 h2 => h i h1 (by omega), h m (by omega) (by omega)]; omega
theorem sumN_pick {n k : Nat} {f : Nat → Int} (hk : k < n) (h : ∀ i, i < n → i ≠ k → f i = 0) : sumN n f = f k := by
  induction n with
  | zero => omega
  | succ n ih =>
    by_cases z : k = n
    · subst z
      rw [sumN, sumN_zero fun i hi => h i (by omega) (by omega)]
      omega
    · rw [sumN, ih (by omega) fun i h1 h2 => h i (by omega) h2, h n (by omega) (by omega)]; omega
def fctI : Nat → Int
  | 0 => 1
  | n + 1 => fctI n * ((n : Int) + 1)
def setI (m : Nat) : Nat → Int
  | 0 => 1
  | i + 1 => setI m i * ((m : Int) - (i : Int)) / ((i : Int) + 1)
def sgnI : Nat → Int
  | 0 => 1
  | j + 1 => - sgnI j
def cof (m s : Nat) : Int := if m ≤ s then sgnI (s - m) * setI s m else 0
theorem fct_all : ∀ n : Fin 13, 0 < fctI n.val ∧ fctI n.val ≤ 479001600 := by decide +kernel
theorem set_all : ∀ m : Fin 14, ∀ k : Fin 14, 0 ≤ setI m.val k.val ∧ setI m.val k.val ≤ 1716 ∧ (m.val < k.val → setI m.val k.val = 0) := by decide +kernel
theorem inv_all : ∀ s : Fin 13, ∀ i : Fin 13, sumN 13 (fun m => setI m i.val * cof m s.val) = if s.val = i.val then 1 else 0 := by decide +kernel
theorem fct_ok {n : Nat} (h : n ≤ 12) : 0 < fctI n ∧ fctI n ≤ 479001600 := fct_all ⟨n, by omega⟩
theorem set_ok {m k : Nat} (hm : m ≤ 13) (hk : k ≤ 13) : 0 ≤ setI m k ∧ setI m k ≤ 1716 ∧ (m < k → setI m k = 0) := set_all ⟨m, by omega⟩ ⟨k, by omega⟩
theorem sgn_ok : ∀ j, sgnI j = 1 ∨ sgnI j = -1
  | 0 => .inl rfl
  | j + 1 => by
    rw [sgnI]
    rcases sgn_ok j with h | h <;> rw [h]
    · exact .inr rfl
    · exact .inl rfl
theorem cof_small {m s : Nat} (hm : m ≤ 13) (hs : s ≤ 13) : -(2 ^ 64) < cof m s ∧ cof m s < 2 ^ 64 := by
  unfold cof
  split
  · have h := set_ok hs hm
    rcases sgn_ok (s - m) with z | z <;> rw [z] <;> omega
  · decide
def thrI (c : List Int) : List Int := (List.range c.length).map fun s => c.getD s 0 * fctI (c.length - 1 - s)
def hatI (t : List Int) (m : Nat) : Int := sumN t.length fun s => cof m s * t.getD s 0
def hitsI (c : List Int) : List Int := (List.range c.length).map fun m => hatI (thrI c) m
def totI (h : List Int) (i : Nat) : Int := sumN h.length fun m => setI m i * h.getD m 0
def cbyI (h : List Int) : Option (List Int) := if ((List.range h.length).all fun i => decide (totI h i % fctI (h.length - 1 - i) = 0)) = true then some ((List.range h.length).map fun i => totI h i / fctI (h.length - 1 - i)) else none
theorem getD_map_range {n : Nat} (f : Nat → Int) (k : Nat) : ((List.range n).map f).getD k 0 = if k < n then f k else 0 := by
  by_cases h : k < n
  · rw [if_pos h, map_getD f h]
  · rw [if_neg h, List.getD_eq_getElem?_getD, List.getElem?_eq_none (by rw [List.length_map, List.length_range]; omega)]
    rfl
theorem tot_hits {c : List Int} (hc : c.length ≤ 13) {i : Nat} (hi : i < c.length) : totI (hitsI c) i = c.getD i 0 * fctI (c.length - 1 - i) := by
  have lt : (thrI c).length = c.length := by unfold thrI; rw [List.length_map, List.length_range]
  have lh : (hitsI c).length = c.length := by unfold hitsI; rw [List.length_map, List.length_range]
  have h1 : totI (hitsI c) i = sumN c.length fun m => setI m i * hatI (thrI c) m := by
    unfold totI
    rw [lh]
    refine sumN_congr fun m hm => ?_
    unfold hitsI
    rw [getD_map_range, if_pos hm]
  have h2 : ∀ m, hatI (thrI c) m = sumN c.length fun s => cof m s * (thrI c).getD s 0 := fun m => by unfold hatI; rw [lt]
  rw [h1]
  have h3 : sumN c.length (fun m => setI m i * hatI (thrI c) m) = sumN c.length fun s => (thrI c).getD s 0 * sumN c.length fun m => setI m i * cof m s := by
    have e1 : sumN c.length (fun m => setI m i * hatI (thrI c) m) = sumN c.length fun m => sumN c.length fun s => (thrI c).getD s 0 * (setI m i * cof m s) := by
      refine sumN_congr fun m _ => ?_
      rw [h2 m, ← sumN_mulL]
      refine sumN_congr fun s _ => ?_
      rw [← Int.mul_assoc, Int.mul_comm (setI m i * cof m s)]
    rw [e1, sumN_comm]
    refine sumN_congr fun s _ => ?_
    rw [sumN_mulL]
  rw [h3]
  have h4 : ∀ s, s < c.length → (sumN c.length fun m => setI m i * cof m s) = if s = i then 1 else 0 := fun s hs => by
    have e := inv_all ⟨s, by omega⟩ ⟨i, by omega⟩
    rw [← e]
    refine (sumN_more (by omega) fun m h5 h6 => ?_).symm
    unfold cof
    rw [if_neg (by show ¬ (m ≤ s); omega), Int.mul_zero]
  rw [sumN_pick hi fun s hs hn => by rw [h4 s hs, if_neg hn, Int.mul_zero]]
  rw [h4 i hi, if_pos rfl, Int.mul_one]
  unfold thrI
  rw [getD_map_range, if_pos hi]
theorem hat_from {t : List Int} {m : Nat} (hm : m ≤ t.length) : hatI t m = sumN (t.length - m) fun j => sgnI j * setI (m + j) m * t.getD (m + j) 0 := by
  unfold hatI
  rw [sumN_from hm fun i hi => by unfold cof; rw [if_neg (by omega), Int.zero_mul]]
  refine sumN_congr fun j _ => ?_
  unfold cof
  rw [if_pos (by omega), show m + j - m = j by omega]
theorem tot_from {h : List Int} {i : Nat} (hl : h.length ≤ 13) (hi : i < h.length) : totI h i = sumN (h.length - i) fun j => h.getD (i + j) 0 * setI (i + j) i := by
  unfold totI
  rw [sumN_from (Nat.le_of_lt hi) fun m hm => by rw [(set_ok (m := m) (k := i) (by omega) (by omega)).2.2 hm, Int.zero_mul]]
  exact sumN_congr fun j _ => Int.mul_comm _ _
end Rk
namespace L2
open PySem PySem.Spec PyProof.Rows
section
variable {X : Cx}
theorem ip_of {op : Operator} {r : R2} (h : OpR X (inplaceOp op) r) : PIp X op r := fun pins s σ H x y v u Q I rx ry q => h pins s σ H x y v u Q I rx ry q
def rDivmodW : List V → Hp → VK → Prop := fun xs H Q => ∃ i j, xs = [.int i, .int j] ∧ CDiv i j ∧ ∀ p H', Same H H' → H p = none → H' p = some (.tup [.int (i / j), .int (i % j)]) → Q (.ref p) H'
theorem call_divmodW : CallR X (.builtin "divmod") rDivmodW := by
  intro pins s σ H xs us Q I r h
  obtain ⟨i, j, e, hc, q⟩ := h
  exact call_divmod pins s σ H xs us Q I r ⟨i, j, e, hc, fun p hp => q p _ (same_upd hp) hp upd_same⟩
end
end L2
namespace L2
open PySem PySem.Spec PyProof.Rows
section
variable {X : Cx}
end
end L2
namespace Rk
open PySem PySem.Spec PyProof.Rows L2 _root_.Rd
def optL : Option (List Int) → PyData
  | none => .none
  | some l => .list (l.map PyData.int)
end Rk
namespace Rx
open PySem PySem.Spec PySem.Calls PyProof.Rows L2
abbrev TSX := L2.Ends → L2.St → Hp → (Addr → Hp → Prop) → Prop
def PSX (X : Cx) (st : Stmt) (t : TSX) : Prop := ∀ (pins : List (Addr × Obj)) (s : Shared) (σ : L2.St) (H : Hp) (D : L2.Ends) (Ex : Addr → Hp → Prop), Inv X pins σ H s → t D σ H Ex →
  wpAny (model X.prog X.w) X.A (exec st X.env) (SP X pins D) (XP X pins fun σ1 C H1 => σ1 = σ ∧ Ex C H1) s
def PSXs (X : Cx) (sts : List Stmt) (t : TSX) : Prop := ∀ (pins : List (Addr × Obj)) (s : Shared) (σ : L2.St) (H : Hp) (D : L2.Ends) (Ex : Addr → Hp → Prop), Inv X pins σ H s → t D σ H Ex →
  wpAny (model X.prog X.w) X.A (execs sts X.env) (SP X pins D) (XP X pins fun σ1 C H1 => σ1 = σ ∧ Ex C H1) s
section
variable {X : Cx} {e : Expr} {st : Stmt} {pos : Pos} {te : TX} {t u : TSX} {tc : TT} {c : Expr} {a b : List Stmt}
theorem psx_if (hc : PT X.nox c tc) (ha : PSXs X a t) (hb : PSXs X b u) : PSX X (.If c a b pos) (fun D σ H Ex => tc σ H fun d H1 => if d = true then t D σ H1 Ex else u D σ H1 Ex) := by
  intro pins s σ H D Ex I h
  refine wpAny_If (wpAny_mono (hc pins s σ H _ (I.wish _) h) (fun d s1 ⟨H1, J1, q1⟩ => ?_) fun _ _ z => False.elim z)
  have I1 : Inv X pins σ H1 s1 := J1.unwish
  cases d with
  | true => exact ha pins s1 σ H1 D Ex I1 q1
  | false => exact hb pins s1 σ H1 D Ex I1 q1
theorem psxs_one (h1 : PSX X st t) : PSXs X [st] t := by
  intro pins s σ H D Ex I h
  refine wpAny_execs_cons (thn (h1 pins s σ H D Ex I h) fun f s1 q => ?_)
  cases f with
  | next => exact wpAny_execs_nil q
  | ret v => exact q
  | brk => exact q
  | cont => exact q
end
def tTryS (K : PySem.W.Frag) (R : Addr) (i : Nat) (tb : TSX) (th : TE) : TS := fun D σ H => tb D σ H fun C H1 => ByC K C R ∧ ∀ a, H1 a = none → th (σ.set i (some (.ref a))) (upd H1 a (exO a C)) D.rt
section
variable {X : Cx} {R : Addr} {i : Nat} {n r : Str} {body : List Stmt} {hx : Expr} {tb : TSX} {th : TE} {np hp hpos pos : Pos}
theorem ps_tryS (hstk : X.stack = X.env :: X.outer) (hfr : X.env.frame = some X.env.locals) (hc : PSXs X body tb) (hN : X.N.Nodup) (hi : X.N[i]? = some n) (hl : X.env.scope.names.lookup n = some .local)
    (hg : Gl X r) (hm : X.mg r = some (.ref R)) (hh : ∀ e, PE (mkd X e) hx th) (hd : (r == ("__debug__" : Str)) = false := by decide) :
    PS X (.Try body [.ExceptHandler (some (.Name r np)) (some n) [.Return (some hx) hp] hpos] [] [] pos) (tTryS X.K R i tb th) := by
  intro pins s σ H D I h
  refine wpAny_Try_except (wpAny_mono (hc pins s σ H D _ I h) (fun f s1 q => ?_) fun e s1 z => ?_)
  · cases f with
    | next => exact wpAny_execs_nil q
    | ret v => exact q
    | brk => exact q
    | cont => exact q
  obtain ⟨σ1, C, H1, a, t, B, rfl, fl, fH, f0, fp, land, eσ, bc, q⟩ := z
  subst eσ
  rw [hstk] at fl
  have fr : X.A.frames = some (X.env :: X.outer) := by rw [← hstk]; exact I.ok.frames
  refine wpAny_looks_onW fr hfr fl fun h4 held4 up4 => ?_
  refine wpAny_landsW held4 fun h5 fl5 up5 => ?_
  have I5 : L2.Inv X pins σ1 H1 { s1 with heap := h5 } := land h5 s1.toks fl5.1 (up4.trans up5)
  have x5 : ExAt a C h5 := by
    obtain ⟨oe, vs, e1, e2, e3, _⟩ := fl5.first
    exact ⟨oe, vs, e1, e2, e3⟩
  refine wpAny_handleBy_cons (codeAny_handlers_test (ld_glob (X := mkd X (.ref a)) (inv_mkd I5 _) hg hm ?_ hd)) (by intro q; cases q)
  refine matches_by (s := { s1 with heap := h5 }) I5.kIn x5 bc ?_
  refine codeAny_handlers_suite_as ?_
  refine lands_againW fl5 fun h6 fl6 up6 => ?_
  have I6 : L2.Inv X pins σ1 H1 { s1 with heap := h6 } := land h6 s1.toks fl6.1 ((up4.trans up5).trans up6)
  have x6 : ExAt a C h6 := by
    obtain ⟨oe, vs, e1, e2, e3, _⟩ := fl6.first
    exact ⟨oe, vs, e1, e2, e3⟩
  have I7 := inv_track I6 fH f0 fp x6
  refine store_ok I7 hN hi (Or.inl hl) (show RelV (.ref a) (.ref a) from rfl) (fun s8 I8 => ?_) (.inr hl)
  refine wpAny_execs_cons (wpAny_Return_some (wpAny_mono (hh (.ref a) pins s8 _ _ _ (inv_mkd I8 _) (q a fH)) (fun v s9 ⟨x, H9, I9, r9, q9⟩ => ?_) fun _ _ z => z.elim))
  have J9 : L2.Inv X pins _ H9 s9 := inv_unmk I.ok I9
  obtain ⟨m, hn, hmm⟩ := id J9.loc
  refine wpAny_nameGoes_keeps hl hn (by rw [I.ok.kind]; rfl) fun h' v' hn' hs' => ?_
  exact ⟨x, _, H9, inv_gone J9 hN hi hmm hn' hs', r9, q9⟩
end
end Rx
namespace L2
open PySem PySem.Spec PyProof.Rows
section
variable {X : Cx}
def rMinM (K : PySem.W.Frag) : List V → Hp → VK → Prop := fun xs H Q => ∃ (p : Addr) (ns : List Int), xs = [.ref p] ∧ SqL K H p (ns.map V.int) ∧ 0 < ns.length ∧ ∀ m, m ∈ ns → (∀ y ∈ ns, m ≤ y) → Q (.int m) H
theorem call_minM (hc : X.calm = true) : CallR X (.builtin "min") (rMinM X.K) := by
  intro pins s σ H xs us Q I r h
  obtain ⟨p, ns, rfl, hp, hn, q⟩ := h
  obtain ⟨u, rfl, ru⟩ := vals1 r
  cases ru
  obtain ⟨its, rv, pl, hz⟩ := I.list hp
  have hi : IntsAre its ns := intsAre_of rv
  obtain ⟨ys, hx⟩ := hi.allInts.items
  have hl' : s.heap.IsList p (intItems ys) := hx ▸ pl.isList
  have hsz : ys.size = ns.length := by
    have h1 : its.toArray.size = (intItems ys).size := by rw [hx]
    rw [List.size_toArray, hi.length] at h1
    simp [intItems] at h1
    omega
  have num : ∀ j m, ns[j]? = some m → numAt ys j = m := fun j m e => by
    obtain ⟨w, hw, rw'⟩ := rv.get (i := j) (x := V.int m) (by rw [List.getElem?_map, e]; rfl)
    have h2 : (intItems ys)[j]? = some w := by rw [← hx, List.getElem?_toArray]; exact hw
    unfold intItems at h2
    rw [Array.getElem?_map] at h2
    obtain ⟨y, hy, ey⟩ := Option.map_eq_some_iff.mp h2
    unfold numAt
    rw [hy]
    subst ey
    obtain ⟨t, et⟩ := rw'
    cases et
    rfl
  refine min_intList (I.ok.hd hc) hl' (by omega) fun v h' tk hv hk => ?_
  rw [← hx] at hv
  rw [List.getElem?_toArray] at hv
  have ab := argBest_lt (numAt ys) (ys.size - 1)
  generalize argBest (fun i j => decide (numAt ys i < numAt ys j)) (ys.size - 1) = b at *
  obtain ⟨x, hx2, rx⟩ : ∃ x, (ns.map V.int)[b]? = some x ∧ RelV x v := by
    have hlen := rv.length
    have hlt := (List.getElem?_eq_some_iff.mp hv).1
    cases e : (ns.map V.int)[b]? with
    | none =>
      have := List.getElem?_eq_none_iff.mp e
      omega
    | some x =>
      obtain ⟨w, hw, rw'⟩ := rv.get e
      rw [hw] at hv
      cases hv
      exact ⟨x, rfl, rw'⟩
  rw [List.getElem?_map] at hx2
  obtain ⟨m, hm, rfl⟩ := Option.map_eq_some_iff.mp hx2
  refine ⟨.int m, H, I.kept hk, rx, q m (List.mem_of_getElem? hm) fun y hy => ?_⟩
  obtain ⟨j, hj⟩ := List.mem_iff_getElem?.mp hy
  have hjl := (List.getElem?_eq_some_iff.mp hj).1
  have := ab.2 j (by omega)
  rw [num b m hm, num j y hj] at this
  exact this
end
end L2
namespace Rk
open PySem PySem.Spec PyProof.Rows L2 _root_.Rd
def isLV (H : Hp) : V → Bool
  | .ref a => match H a with
    | some (.lst _) => true
    | _ => false
  | _ => false
end Rk
namespace Rk
open PySem PySem.Spec PyProof.Rows L2 _root_.Rd
end Rk
namespace Dl
open PySem PySem.Spec PyProof.Rows L2 _root_.Rd Rk
def dkV (kvs : List (Int × Int)) : List (Key × V) := kvs.map fun p => (Sum.inl p.1, V.int p.2)
def dkD (kvs : List (Int × Int)) : List (PyData × PyData) := kvs.map fun p => (PyData.int p.1, PyData.int p.2)
mutual
inductive DA (A : Addr → Prop) (H : Hp) : V → PyData → Prop
  | non : DA A H .non .none
  | bl (b : Bool) : DA A H (.bl b) (.bool b)
  | int (i : Int) : DA A H (.int i) (.int i)
  | str (x : Str) : PyData.canLay0 (.str x) = true → DA A H (.str x) (.str x)
  | tup {a : Addr} {xs : List V} {ds : List PyData} : ¬ A a → H a = some (.tup xs) → DAs A H xs ds → DA A H (.ref a) (.tuple ds)
  | lst {a : Addr} {xs : List V} {ds : List PyData} : ¬ A a → H a = some (.lst xs) → DAs A H xs ds → DA A H (.ref a) (.list ds)
  | dct {a : Addr} {kvs : List (Int × Int)} {ds : List (PyData × PyData)} : ¬ A a → H a = some (.dK (dkV kvs)) → ds = dkD kvs → DA A H (.ref a) (.dict ds)
inductive DAs (A : Addr → Prop) (H : Hp) : List V → List PyData → Prop
  | nil : DAs A H [] []
  | cons {x : V} {xs : List V} {d : PyData} {ds : List PyData} : DA A H x d → DAs A H xs ds → DAs A H (x :: xs) (d :: ds)
end
mutual
theorem da_mv {A A' : Addr → Prop} {H H' : Hp} (k : ∀ a o, ¬ A a → H a = some o → H' a = some o) (m : ∀ a, A' a → A a ∨ H a = none) : ∀ (d : PyData) (x : V), DA A H x d → DA A' H' x d
  | .none, _, .non => .non
  | .bool _, _, .bl _ => .bl _
  | .int _, _, .int _ => .int _
  | .str _, _, .str _ c => .str _ c
  | .tuple ds, _, .tup (xs := xs) n e q => .tup (fun z => (m _ z).elim n fun z => by rw [z] at e; cases e) (k _ _ n e) (das_mv k m ds xs q)
  | .list ds, _, .lst (xs := xs) n e q => .lst (fun z => (m _ z).elim n fun z => by rw [z] at e; cases e) (k _ _ n e) (das_mv k m ds xs q)
  | .dict _, _, .dct n e q => .dct (fun z => (m _ z).elim n fun z => by rw [z] at e; cases e) (k _ _ n e) q
theorem das_mv {A A' : Addr → Prop} {H H' : Hp} (k : ∀ a o, ¬ A a → H a = some o → H' a = some o) (m : ∀ a, A' a → A a ∨ H a = none) : ∀ (ds : List PyData) (xs : List V), DAs A H xs ds → DAs A' H' xs ds
  | [], _, .nil => .nil
  | d :: ds, _, .cons (x := x) (xs := xs) q qs => .cons (da_mv k m d x q) (das_mv k m ds xs qs)
end
theorem DA.mv {A A' : Addr → Prop} {H H' : Hp} {x : V} {d : PyData} (q : DA A H x d) (k : ∀ a o, ¬ A a → H a = some o → H' a = some o) (m : ∀ a, A' a → A a ∨ H a = none) : DA A' H' x d := da_mv k m d x q
theorem DAs.mv {A A' : Addr → Prop} {H H' : Hp} {x : List V} {d : List PyData} (q : DAs A H x d) (k : ∀ a o, ¬ A a → H a = some o → H' a = some o) (m : ∀ a, A' a → A a ∨ H a = none) : DAs A' H' x d := das_mv k m d x q
theorem DA.same {A : Addr → Prop} {H H' : Hp} {x : V} {d : PyData} (q : DA A H x d) (s : Same H H') : DA A H' x d := q.mv (fun a o _ e => s a o e) fun a z => .inl z
theorem DAs.same {A : Addr → Prop} {H H' : Hp} {x : List V} {d : List PyData} (q : DAs A H x d) (s : Same H H') : DAs A H' x d := q.mv (fun a o _ e => s a o e) fun a z => .inl z
theorem DAs.length {A : Addr → Prop} {H : Hp} : ∀ {xs : List V} {ds : List PyData}, DAs A H xs ds → xs.length = ds.length
  | _, _, .nil => rfl
  | _, _, .cons _ q => by rw [List.length_cons, List.length_cons, q.length]
theorem DAs.get {A : Addr → Prop} {H : Hp} : ∀ {xs : List V} {ds : List PyData}, DAs A H xs ds → ∀ (i : Nat) (d : PyData), ds[i]? = some d → ∃ x, xs[i]? = some x ∧ DA A H x d
  | _, _, .nil, i, x, e => by simp at e
  | _, _, .cons q qs, 0, x, e => by simp at e; subst e; exact ⟨_, rfl, q⟩
  | _, _, .cons q qs, i + 1, x, e => qs.get i x (by simpa using e)
theorem DAs.app {A : Addr → Prop} {H : Hp} : ∀ {xs ys : List V} {ds es : List PyData}, DAs A H xs ds → DAs A H ys es → DAs A H (xs ++ ys) (ds ++ es)
  | _, _, _, _, .nil, q => q
  | _, _, _, _, .cons a b, q => .cons a (b.app q)
theorem DAs.take {A : Addr → Prop} {H : Hp} : ∀ {xs : List V} {ds : List PyData}, DAs A H xs ds → ∀ n : Nat, DAs A H (xs.take n) (ds.take n)
  | _, _, .nil, n => by rw [List.take_nil, List.take_nil]; exact .nil
  | _, _, .cons a b, 0 => .nil
  | _, _, .cons a b, n + 1 => .cons a (b.take n)
theorem DAs.drop {A : Addr → Prop} {H : Hp} : ∀ {xs : List V} {ds : List PyData}, DAs A H xs ds → ∀ n : Nat, DAs A H (xs.drop n) (ds.drop n)
  | _, _, .nil, n => by rw [List.drop_nil, List.drop_nil]; exact .nil
  | _, _, .cons a b, 0 => .cons a b
  | _, _, .cons a b, n + 1 => b.drop n
theorem DAs.set {A : Addr → Prop} {H : Hp} {x : V} {d : PyData} (q : DA A H x d) : ∀ {xs : List V} {ds : List PyData}, DAs A H xs ds → ∀ n : Nat, DAs A H (xs.set n x) (ds.set n d)
  | _, _, .nil, n => .nil
  | _, _, .cons a b, 0 => .cons q b
  | _, _, .cons a b, n + 1 => .cons a (b.set q n)
mutual
def nd : PyData → Bool
  | .dict _ => false
  | .tuple ds => nds ds
  | .list ds => nds ds
  | _ => true
def nds : List PyData → Bool
  | [] => true
  | d :: ds => nd d && nds ds
end
mutual
theorem da_dat {A : Addr → Prop} {H : Hp} : ∀ (d : PyData) (x : V), nd d = true → DA A H x d → Dat H x d
  | .none, _, _, .non => .non
  | .bool _, _, _, .bl _ => .bl _
  | .int _, _, _, .int _ => .int _
  | .str _, _, _, .str _ c => .str _ c
  | .tuple ds, _, n, .tup (xs := xs) _ e q => .tup e (das_dats ds xs n q)
  | .list ds, _, n, .lst (xs := xs) _ e q => .lst e (das_dats ds xs n q)
theorem das_dats {A : Addr → Prop} {H : Hp} : ∀ (ds : List PyData) (xs : List V), nds ds = true → DAs A H xs ds → Dats H xs ds
  | [], _, _, .nil => .nil
  | d :: ds, _, n, .cons (x := x) (xs := xs) q qs => by
    have n' := Bool.and_eq_true_iff.mp (show (nd d && nds ds) = true from n)
    exact .cons (da_dat d x n'.1 q) (das_dats ds xs n'.2 qs)
end
def DP (A P : Addr → Prop) (H : Hp) (v : V) (d : PyData) : Prop := DA A H v d ∨ ∃ l xs ds, v = .ref l ∧ d = .list ds ∧ ¬ P l ∧ H l = some (.lst xs) ∧ DAs A H xs ds
theorem DP.dat {A P : Addr → Prop} {H : Hp} {v : V} {d : PyData} (h : DP A P H v d) (n : nd d = true) : Dat H v d := by
  rcases h with h | ⟨l, xs, ds, rfl, rfl, _, e, q⟩
  · exact da_dat d v n h
  · exact .lst e (das_dats ds xs n q)
theorem DP.list {A P : Addr → Prop} {H : Hp} {v : V} {ds : List PyData} (h : DP A P H v (.list ds)) : ∃ l xs, v = .ref l ∧ H l = some (.lst xs) ∧ DAs A H xs ds := by
  rcases h with h | ⟨l, xs, ds', rfl, e, _, h2, q⟩
  · cases h with | lst n e q => exact ⟨_, _, rfl, e, q⟩
  · cases e; exact ⟨l, xs, rfl, h2, q⟩
theorem DP.tuple {A P : Addr → Prop} {H : Hp} {v : V} {ds : List PyData} (h : DP A P H v (.tuple ds)) : ∃ l xs, v = .ref l ∧ H l = some (.tup xs) ∧ DAs A H xs ds := by
  rcases h with h | ⟨l, xs, ds', rfl, e, _⟩
  · cases h with | tup n e q => exact ⟨_, _, rfl, e, q⟩
  · cases e
theorem DP.int {A P : Addr → Prop} {H : Hp} {v : V} {i : Int} (h : DP A P H v (.int i)) : v = .int i := by
  rcases h with h | ⟨l, xs, ds', rfl, e, _⟩
  · cases h; rfl
  · cases e
theorem DP.bool {A P : Addr → Prop} {H : Hp} {v : V} {i : Bool} (h : DP A P H v (.bool i)) : v = .bl i := by
  rcases h with h | ⟨l, xs, ds', rfl, e, _⟩
  · cases h; rfl
  · cases e
theorem DP.none {A P : Addr → Prop} {H : Hp} {v : V} (h : DP A P H v .none) : v = .non := by
  rcases h with h | ⟨l, xs, ds', rfl, e, _⟩
  · cases h; rfl
  · cases e
theorem DP.str {A P : Addr → Prop} {H : Hp} {v : V} {x : Str} (h : DP A P H v (.str x)) : v = .str x ∧ PyData.canLay0 (.str x) = true := by
  rcases h with h | ⟨l, xs, ds', rfl, e, _⟩
  · cases h with | str _ c => exact ⟨rfl, c⟩
  · cases e
inductive Sl where
  | no | pot | scr
  | v (d : PyData)
  | own (ds : List PyData)
  | pk (ds : List PyData)
abbrev Sts := List Sl
structure Fm where
  H0 : Hp
  A0 : Addr → Prop
  pt : Addr → Prop
def OwAt (σ : L2.St) (δ : Sts) (i : Nat) (a : Addr) : Prop := σ[i]? = some (some (.ref a)) ∧ (δ[i]? = some .pot ∨ ∃ ds, δ[i]? = some (.own ds))
def Av (F : Fm) (σ : L2.St) (δ : Sts) (a : Addr) : Prop := F.A0 a ∨ ∃ i, OwAt σ δ i a
def PotA (σ : L2.St) (δ : Sts) (a : Addr) : Prop := ∃ i : Nat, σ[i]? = some (some (.ref a)) ∧ δ[i]? = some .pot
def SlOk (K : PySem.W.Frag) (F : Fm) (H : Hp) (A : Addr → Prop) (o : Option V) : Sl → Prop
  | .no => True
  | .v d => ∃ v, o = some v ∧ DA A H v d
  | .own ds => ∃ l xs, o = some (.ref l) ∧ H l = some (.lst xs) ∧ DAs A H xs ds ∧ F.H0 l = none
  | .pk ds => ∃ l xs, o = some (.ref l) ∧ H l = some (.lst xs) ∧ DAs A H xs ds ∧ ∃ ys, F.H0 l = some (.lst ys) ∧ ¬ F.pt l
  | .pot => ∃ p n, o = some (.ref p) ∧ H p = some (.lst [.int n]) ∧ (F.pt p ∨ F.H0 p = none)
  | .scr => ∃ a ns, o = some (.ref a) ∧ SqL K F.H0 a ((ns : List Int).map V.int) ∧ ¬ F.pt a ∧ ns.length ≤ 63
structure Rel (K : PySem.W.Frag) (F : Fm) (σ : L2.St) (H : Hp) (δ : Sts) : Prop where
  len : σ.length = δ.length
  dom : ∀ a, F.A0 a → ∃ xs, H a = some (.lst xs)
  dom0 : ∀ a, F.A0 a → ∃ xs, F.H0 a = some (.lst xs)
  pt0 : ∀ p, F.pt p → F.A0 p ∧ ∃ n, H p = some (.lst [.int n])
  kx : ∀ b o, ¬ F.pt b → F.H0 b = some o → H b = some o
  sl : ∀ (i : Nat) o x, σ[i]? = some o → δ[i]? = some x → SlOk K F H (Av F σ δ) o x
  inj : ∀ (i j : Nat) a ds, δ[i]? = some (.own ds) → σ[i]? = some (some (.ref a)) → OwAt σ δ j a → i = j
def Kp (σ : L2.St) (δ : Sts) (H H' : Hp) : Prop := (∀ b o, ¬ PotA σ δ b → H b = some o → H' b = some o) ∧ ∀ b, PotA σ δ b → ∃ n, H' b = some (.lst [.int n])
def Stp (F : Fm) (σ : L2.St) (H : Hp) (δ : Sts) (σ' : L2.St) (H' : Hp) (δ' : Sts) : Prop := (∀ b o, ¬ Av F σ δ b → H b = some o → H' b = some o) ∧ ∀ b, Av F σ' δ' b → Av F σ δ b ∨ H b = none
def Ke (F : Fm) (H' : Hp) : Prop := (∀ b o, ¬ F.pt b → F.H0 b = some o → H' b = some o) ∧ ∀ p, F.pt p → ∃ n, H' p = some (.lst [.int n])
theorem pot_av {F : Fm} {σ : L2.St} {δ : Sts} {a : Addr} (h : PotA σ δ a) : Av F σ δ a := let ⟨i, h1, h2⟩ := h; .inr ⟨i, h1, .inl h2⟩
theorem Rel.ke {K : PySem.W.Frag} {F : Fm} {σ : L2.St} {H : Hp} {δ : Sts} (r : Rel K F σ H δ) : Ke F H := ⟨r.kx, fun p hp => (r.pt0 p hp).2⟩
theorem Rel.isl {K : PySem.W.Frag} {F : Fm} {σ : L2.St} {H : Hp} {δ : Sts} (r : Rel K F σ H δ) {a : Addr} (h : Av F σ δ a) : ∃ xs, H a = some (.lst xs) := by
  rcases h with h | ⟨i, h1, h2⟩
  · exact r.dom a h
  · rcases h2 with h2 | ⟨ds, h2⟩
    · obtain ⟨p, n, e, h, _⟩ := r.sl i _ _ h1 h2
      cases e
      exact ⟨_, h⟩
    · obtain ⟨l, xs, e, h, _⟩ := r.sl i _ _ h1 h2
      cases e
      exact ⟨_, h⟩
theorem Kp.refl {K : PySem.W.Frag} {F : Fm} {σ : L2.St} {H : Hp} {δ : Sts} (r : Rel K F σ H δ) : Kp σ δ H H := ⟨fun _ _ _ e => e, fun b ⟨i, h1, h2⟩ => by
  obtain ⟨p, n, e, h, _⟩ := r.sl i _ _ h1 h2
  cases e
  exact ⟨n, h⟩⟩
theorem Kp.trans {σ : L2.St} {δ : Sts} {H H1 H2 : Hp} (a : Kp σ δ H H1) (b : Kp σ δ H1 H2) : Kp σ δ H H2 := ⟨fun c o n e => b.1 c o n (a.1 c o n e), b.2⟩
theorem Kp.same {K : PySem.W.Frag} {F : Fm} {σ : L2.St} {H H' : Hp} {δ : Sts} (r : Rel K F σ H δ) (s : Same H H') : Kp σ δ H H' := ⟨fun b o _ e => s b o e, fun b hb => let ⟨n, h⟩ := (Kp.refl r).2 b hb; ⟨n, s _ _ h⟩⟩
theorem Kp.da {F : Fm} {σ : L2.St} {H H' : Hp} {δ : Sts} {v : V} {d : PyData} (k : Kp σ δ H H') (h : DA (Av F σ δ) H v d) : DA (Av F σ δ) H' v d := h.mv (fun a o n e => k.1 a o (fun z => n (pot_av z)) e) fun a z => .inl z
theorem Kp.das {F : Fm} {σ : L2.St} {H H' : Hp} {δ : Sts} {v : List V} {d : List PyData} (k : Kp σ δ H H') (h : DAs (Av F σ δ) H v d) : DAs (Av F σ δ) H' v d := h.mv (fun a o n e => k.1 a o (fun z => n (pot_av z)) e) fun a z => .inl z
theorem Kp.dp {F : Fm} {σ : L2.St} {H H' : Hp} {δ : Sts} {v : V} {d : PyData} (k : Kp σ δ H H') (h : DP (Av F σ δ) (PotA σ δ) H v d) : DP (Av F σ δ) (PotA σ δ) H' v d := by
  rcases h with h | ⟨l, xs, ds, e1, e2, n, e, q⟩
  · exact .inl (k.da h)
  · exact .inr ⟨l, xs, ds, e1, e2, n, k.1 _ _ n e, k.das q⟩
theorem Rel.own_pot {K : PySem.W.Frag} {F : Fm} {σ : L2.St} {H : Hp} {δ : Sts} (r : Rel K F σ H δ) {i : Nat} {ds : List PyData} {l : Addr} (h : δ[i]? = some (.own ds)) (e : σ[i]? = some (some (.ref l))) : ¬ PotA σ δ l := by
  rintro ⟨j, h1, h2⟩
  have := r.inj i j l _ h e ⟨h1, .inl h2⟩
  subst this
  rw [h] at h2
  cases h2
theorem Rel.pt_pot {K : PySem.W.Frag} {F : Fm} {σ : L2.St} {H H' : Hp} {δ : Sts} (r : Rel K F σ H δ) (k : Kp σ δ H H') {p : Addr} (hp : F.pt p) : ∃ n, H' p = some (.lst [.int n]) := by
  by_cases z : PotA σ δ p
  · exact k.2 p z
  · obtain ⟨n, e⟩ := (r.pt0 p hp).2
    exact ⟨n, k.1 _ _ z e⟩
theorem Rel.kp {K : PySem.W.Frag} {F : Fm} {σ : L2.St} {H H' : Hp} {δ : Sts} (r : Rel K F σ H δ) (k : Kp σ δ H H') : Rel K F σ H' δ where
  len := r.len
  dom := fun a ha => by
    by_cases z : PotA σ δ a
    · exact ⟨_, (k.2 a z).choose_spec⟩
    · obtain ⟨xs, e⟩ := r.dom a ha
      exact ⟨xs, k.1 _ _ z e⟩
  dom0 := r.dom0
  pt0 := fun p hp => ⟨(r.pt0 p hp).1, r.pt_pot k hp⟩
  kx := fun b o n e => by
    by_cases z : PotA σ δ b
    · obtain ⟨i, h1, h2⟩ := z
      obtain ⟨p, m, e1, h, q⟩ := r.sl i _ _ h1 h2
      cases e1
      rcases q with q | q
      · exact absurd q n
      · rw [q] at e; cases e
    · exact k.1 _ _ z (r.kx b o n e)
  sl := fun i o x h1 h2 => by
    have h := r.sl i o x h1 h2
    cases x with
    | no => trivial
    | v d => obtain ⟨v, e, q⟩ := h; exact ⟨v, e, k.da q⟩
    | own ds => obtain ⟨l, xs, rfl, e, q, f⟩ := h; exact ⟨l, xs, rfl, k.1 _ _ (r.own_pot h2 h1) e, k.das q, f⟩
    | pk ds =>
      obtain ⟨l, xs, rfl, e, q, ys, f, f2⟩ := h
      refine ⟨l, xs, rfl, k.1 _ _ ?_ e, k.das q, ys, f, f2⟩
      rintro ⟨j, j1, j2⟩
      obtain ⟨p, m, e1, _, w⟩ := r.sl j _ _ j1 j2
      cases e1
      rcases w with w | w
      · exact f2 w
      · rw [w] at f; cases f
    | pot =>
      obtain ⟨p, n, rfl, e, q⟩ := h
      obtain ⟨m, e'⟩ := k.2 p ⟨i, h1, h2⟩
      exact ⟨p, m, rfl, e', q⟩
    | scr => exact h
  inj := r.inj
theorem Rel.same {K : PySem.W.Frag} {F : Fm} {σ : L2.St} {H H' : Hp} {δ : Sts} (r : Rel K F σ H δ) (s : Same H H') : Rel K F σ H' δ := r.kp (Kp.same r s)
theorem Stp.refl {F : Fm} {σ : L2.St} {H : Hp} {δ : Sts} : Stp F σ H δ σ H δ := ⟨fun _ _ _ e => e, fun _ z => .inl z⟩
theorem Stp.trans {F : Fm} {σ σ1 σ2 : L2.St} {H H1 H2 : Hp} {δ δ1 δ2 : Sts} (a : Stp F σ H δ σ1 H1 δ1) (b : Stp F σ1 H1 δ1 σ2 H2 δ2) : Stp F σ H δ σ2 H2 δ2 := by
  refine ⟨fun c o n e => ?_, fun c z => ?_⟩
  · refine b.1 c o (fun z => ?_) (a.1 c o n e)
    rcases a.2 c z with q | q
    · exact n q
    · rw [q] at e; cases e
  · rcases b.2 c z with q | q
    · exact a.2 c q
    · by_cases y : Av F σ δ c
      · exact .inl y
      · right
        cases e : H c with
        | none => rfl
        | some o => rw [a.1 c o y e] at q; cases q
theorem Stp.kp {F : Fm} {σ : L2.St} {H H' : Hp} {δ : Sts} (k : Kp σ δ H H') : Stp F σ H δ σ H' δ := ⟨fun b o n e => k.1 b o (fun z => n (pot_av z)) e, fun _ z => .inl z⟩
end Dl
namespace Dl
open PySem PySem.Spec PyProof.Rows L2 _root_.Rd Rk
abbrev XP := Addr → Prop
abbrev DE := Sts → (PyData → Prop) → XP → Prop
abbrev DT := Sts → (Bool → Prop) → XP → Prop
abbrev DAr := Sts → (List PyData → Prop) → XP → Prop
abbrev DSl := Sts → (List Sl → Prop) → XP → Prop
inductive Md where | D | P | F
def FrV (H H' : Hp) (v : V) : Prop := ∀ l, v = .ref l → (∃ xs, H' l = some (.lst xs)) → H l = none
def Vok (m : Md) (F : Fm) (σ : L2.St) (δ : Sts) (H H' : Hp) (v : V) (d : PyData) : Prop :=
  match m with
  | .D => DA (Av F σ δ) H' v d
  | .P => DP (Av F σ δ) (PotA σ δ) H' v d
  | .F => DA (Av F σ δ) H' v d ∧ FrV H H' v
def Out (F : Fm) (E : XK) (EX : XP) : Prop := ∀ C, EX C → ∀ H', Ke F H' → E (.ref C) none H'
def tX (m : Md) (K : PySem.W.Frag) (E : XK) (w : DE) : TE := fun σ H Q => ∃ (F : Fm) (δ : Sts) (R : PyData → Prop) (EX : XP), Rel K F σ H δ ∧ w δ R EX ∧ (∀ d, R d → ∀ v H', Rel K F σ H' δ → Kp σ δ H H' → Vok m F σ δ H H' v d → Q v H') ∧ Out F E EX
def tT (K : PySem.W.Frag) (E : XK) (w : DT) : TT := fun σ H Q => ∃ (F : Fm) (δ : Sts) (R : Bool → Prop) (EX : XP), Rel K F σ H δ ∧ w δ R EX ∧ (∀ b, R b → ∀ H', Rel K F σ H' δ → Kp σ δ H H' → Q b H') ∧ Out F E EX
def VD (m : Md) (A P : Addr → Prop) (H : Hp) (v : V) (d : PyData) : Prop :=
  match m with
  | .P => DP A P H v d
  | _ => DA A H v d
def tAr (n : Nat) (m : Md) (K : PySem.W.Frag) (E : XK) (w : DAr) : TA := fun σ H Q => ∃ (F : Fm) (δ : Sts) (R : List PyData → Prop) (EX : XP), Rel K F σ H δ ∧ w δ R EX ∧ (∀ ds, R ds → ds.length = n → ∀ vs H', Rel K F σ H' δ → Kp σ δ H H' → Paired (VD m (Av F σ δ) (PotA σ δ) H') vs ds → Q vs H') ∧ Out F E EX
def ArgOk (A pt : Addr → Prop) (H : Hp) (v : V) : Sl → Prop
  | .v d => DA A H v d
  | .pot => ∃ p, v = .ref p ∧ pt p
  | _ => False
def tAs (K : PySem.W.Frag) (E : XK) (w : DSl) : TA := fun σ H Q => ∃ (F : Fm) (δ : Sts) (R : List Sl → Prop) (EX : XP), Rel K F σ H δ ∧ w δ R EX ∧ (∀ ds, R ds → ∀ vs H', Rel K F σ H' δ → Kp σ δ H H' → Paired (ArgOk (Av F σ δ) (PotA σ δ) H') vs ds → Q vs H') ∧ Out F E EX
theorem Kp.vd {m : Md} {F : Fm} {σ : L2.St} {H H' : Hp} {δ : Sts} {v : V} {d : PyData} (k : Kp σ δ H H') (h : VD m (Av F σ δ) (PotA σ δ) H v d) : VD m (Av F σ δ) (PotA σ δ) H' v d := by
  cases m
  · exact k.da h
  · exact k.dp h
  · exact k.da h
theorem Kp.arg {F : Fm} {σ : L2.St} {H H' : Hp} {δ : Sts} {v : V} {d : Sl} (k : Kp σ δ H H') (h : ArgOk (Av F σ δ) (PotA σ δ) H v d) : ArgOk (Av F σ δ) (PotA σ δ) H' v d := by
  cases d with
  | v d => exact k.da h
  | pot => exact h
  | _ => exact h.elim
def LenOk (H : Hp) : Prop := ∀ a xs, H a = some (.lst xs) ∨ H a = some (.tup xs) → xs.length ≤ sizeLine
section
variable {X : Cx} {E : XK}
theorem Inv.lens {pins : List (Addr × Obj)} {σ : L2.St} {H : Hp} {s : Shared} (I : Inv X pins σ H s) : LenOk H := fun a xs h => by
  rcases h with h | h
  · exact (I.hok a _ h).1
  · exact (I.hok a _ h).1
theorem PE.imp {e : Expr} {t t' : TE} (h : PE X e t) (i : ∀ σ H Q, t' σ H Q → t σ H Q) : PE X e t' := fun pins s σ H Q I q => h pins s σ H Q I (i σ H Q q)
theorem PT.imp {e : Expr} {t t' : TT} (h : PT X e t) (i : ∀ σ H Q, t' σ H Q → t σ H Q) : PT X e t' := fun pins s σ H Q I q => h pins s σ H Q I (i σ H Q q)
theorem PW.imp {e : Expr} {t t' : TT} (h : PW X e t) (i : ∀ σ H Q, t' σ H Q → t σ H Q) : PW X e t' := fun wh pins s σ H Q I q => h wh pins s σ H Q I (i σ H Q q)
theorem PA.imp {e : List Expr} {t t' : TA} (h : PA X e t) (i : ∀ σ H Q, t' σ H Q → t σ H Q) : PA X e t' := fun pos pins s σ H Q I q => h pos pins s σ H Q I (i σ H Q q)
theorem OpR.len {f : Value → Value → Sem Value} {r : R2} (h : OpR X f r) : OpR X f (fun x y H Q => LenOk H → r x y H Q) := fun pins s σ H x y v u Q I rx ry q => h pins s σ H x y v u Q I rx ry (q (Inv.lens I))
theorem CallR.len {f : Value} {r : List V → Hp → VK → Prop} (h : CallR X f r) : CallR X f (fun xs H Q => LenOk H → r xs H Q) := fun pins s σ H xs us Q I rx q => h pins s σ H xs us Q I rx (q (Inv.lens I))
theorem IxR.len {r : R2} (h : IxR X r) : IxR X (fun x y H Q => LenOk H → r x y H Q) := fun a b pins s σ H x y v u Q I rx ry q hs => h a b pins s σ H x y v u Q I rx ry (q (Inv.lens I)) hs
theorem OpR.or2 {f : Value → Value → Sem Value} {r r' : R2} (h : OpR X f r) (h' : OpR X f r') : OpR X f (fun x y H Q => r x y H Q ∨ r' x y H Q) := OpR.or h h'
theorem IxR.or2 {r r' : R2} (h : IxR X r) (h' : IxR X r') : IxR X (fun x y H Q => r x y H Q ∨ r' x y H Q) := fun a b pins s σ H x y v u Q I rx ry q hs => q.elim (fun q => h a b pins s σ H x y v u Q I rx ry q hs) fun q => h' a b pins s σ H x y v u Q I rx ry q hs
theorem SlR.or2 {r r' : V → Option Int → Option Int → Hp → VK → Prop} (h : SlR X r) (h' : SlR X r') : SlR X (fun x a b H Q => r x a b H Q ∨ r' x a b H Q) := fun pins s σ H x v vl vu lo hi sl Q I rx hs pl pu q => q.elim (h pins s σ H x v vl vu lo hi sl Q I rx hs pl pu) (h' pins s σ H x v vl vu lo hi sl Q I rx hs pl pu)
theorem toD {e : Expr} {w : DE} (h : PE X e (tX .F X.K E w)) : PE X e (tX .D X.K E w) := PE.imp h fun σ H Q ⟨F, δ, R, EX, r, hw, k, o⟩ => ⟨F, δ, R, EX, r, hw, fun d hd v H' r' kp vk => k d hd v H' r' kp vk.1, o⟩
theorem toP {e : Expr} {w : DE} (h : PE X e (tX .D X.K E w)) : PE X e (tX .P X.K E w) := PE.imp h fun σ H Q ⟨F, δ, R, EX, r, hw, k, o⟩ => ⟨F, δ, R, EX, r, hw, fun d hd v H' r' kp vk => k d hd v H' r' kp (.inl vk), o⟩
theorem toPF {e : Expr} {w : DE} (h : PE X e (tX .F X.K E w)) : PE X e (tX .P X.K E w) := toP (toD h)
def dVar (i : Nat) : DE := fun δ Q _ => match δ[i]? with
  | some (.v d) => Q d
  | _ => False
def dPk (i : Nat) : DE := fun δ Q _ => match δ[i]? with
  | some (.v d) => Q d
  | some (.own ds) => Q (.list ds)
  | some (.pk ds) => Q (.list ds)
  | _ => False
def dC (d : PyData) : DE := fun _ Q _ => Q d
theorem Rel.lt {K : PySem.W.Frag} {F : Fm} {σ : L2.St} {H : Hp} {δ : Sts} (r : Rel K F σ H δ) {i : Nat} {x : Sl} (h : δ[i]? = some x) : ∃ o, σ[i]? = some o := by
  have := (List.getElem?_eq_some_iff.mp h).1
  exact ⟨σ[i]'(by rw [r.len]; exact this), List.getElem?_eq_getElem _⟩
theorem pd_var {e : Expr} {i : Nat} (h : PE X e (tVar i)) : PE X e (tX .D X.K E (dVar i)) := PE.imp h fun σ H Q ⟨F, δ, R, EX, r, hw, k, o⟩ => by
  unfold dVar at hw
  split at hw
  · rename_i d hd
    obtain ⟨x, hx⟩ := r.lt hd
    obtain ⟨v, rfl, q⟩ := r.sl i _ _ hx hd
    exact ⟨v, hx, k d hw v H r (Kp.refl r) q⟩
  · exact hw.elim
theorem pd_pk {e : Expr} {i : Nat} (h : PE X e (tVar i)) : PE X e (tX .P X.K E (dPk i)) := PE.imp h fun σ H Q ⟨F, δ, R, EX, r, hw, k, o⟩ => by
  unfold dPk at hw
  split at hw
  · rename_i d hd
    obtain ⟨x, hx⟩ := r.lt hd
    obtain ⟨v, rfl, q⟩ := r.sl i _ _ hx hd
    exact ⟨v, hx, k d hw v H r (Kp.refl r) (.inl q)⟩
  · rename_i d hd
    obtain ⟨x, hx⟩ := r.lt hd
    obtain ⟨l, xs, rfl, e, q, _⟩ := r.sl i _ _ hx hd
    exact ⟨_, hx, k _ hw _ H r (Kp.refl r) (.inr ⟨l, xs, d, rfl, rfl, r.own_pot hd hx, e, q⟩)⟩
  · rename_i d hd
    obtain ⟨x, hx⟩ := r.lt hd
    obtain ⟨l, xs, rfl, e, q, ys, f, f2⟩ := r.sl i _ _ hx hd
    refine ⟨_, hx, k _ hw _ H r (Kp.refl r) (.inr ⟨l, xs, d, rfl, rfl, ?_, e, q⟩)⟩
    rintro ⟨j, j1, j2⟩
    obtain ⟨p, m, e1, _, w⟩ := r.sl j _ _ j1 j2
    cases e1
    rcases w with w | w
    · exact f2 w
    · rw [w] at f; cases f
  · exact hw.elim
theorem pd_c {e : Expr} {v : V} {d : PyData} (h : PE X e (tC v)) (q : ∀ (A : Addr → Prop) (H : Hp), DA A H v d) : PE X e (tX .D X.K E (dC d)) := PE.imp h fun σ H Q ⟨F, δ, R, EX, r, hw, k, o⟩ => k d hw v H r (Kp.refl r) (q _ _)
theorem pd_int {i : Int} {j pos} : PE X (.Constant (.int i) j pos) (tX .D X.K E (dC (.int i))) := pd_c pe_int fun _ _ => .int i
theorem pd_bl {b : Bool} {j pos} : PE X (.Constant (.bool b) j pos) (tX .D X.K E (dC (.bool b))) := pd_c pe_bl fun _ _ => .bl b
theorem pd_non {j pos} : PE X (.Constant .none j pos) (tX .D X.K E (dC .none)) := pd_c pe_non fun _ _ => .non
theorem pd_str {x : Str} {j pos} (h : PyData.canLay0 (.str x) = true := by decide +kernel) : PE X (.Constant (.str x) j pos) (tX .D X.K E (dC (.str x))) := pd_c pe_str fun _ _ => .str x h
def OpD (r : R2) (rD : PyData → PyData → (PyData → Prop) → Prop) : Prop := ∀ (A P : Addr → Prop) (H : Hp) (x y : V) (d1 d2 : PyData) (R : PyData → Prop) (Q : VK), LenOk H → (∀ a, A a → ∃ xs, H a = some (.lst xs)) → DP A P H x d1 → DP A P H y d2 → rD d1 d2 R →
  (∀ d, R d → ∀ v H', Same H H' → DA A H' v d → FrV H H' v → Q v H') → r x y H Q
def OpDn (r : R2) (rD : PyData → PyData → (PyData → Prop) → Prop) : Prop := ∀ (A P : Addr → Prop) (H : Hp) (x y : V) (d1 d2 : PyData) (R : PyData → Prop) (Q : VK), LenOk H → (∀ a, A a → ∃ xs, H a = some (.lst xs)) → DP A P H x d1 → DP A P H y d2 → rD d1 d2 R →
  (∀ d, R d → ∀ v H', Same H H' → DA A H' v d → Q v H') → r x y H Q
def dOp (rD : PyData → PyData → (PyData → Prop) → Prop) (wa wb : DE) : DE := fun δ Q EX => wa δ (fun d1 => wb δ (fun d2 => rD d1 d2 Q) EX) EX
theorem op_read {K : PySem.W.Frag} {r : R2} {rD : PyData → PyData → (PyData → Prop) → Prop} {wa wb : DE} (hd : OpD r rD) (σ : L2.St) (H : Hp) (Q : VK) (h : tX .F K E (dOp rD wa wb) σ H Q) :
    tOp (fun x y H Q => LenOk H → r x y H Q) (tX .P K E wa) (tX .P K E wb) σ H Q := by
  obtain ⟨F, δ, R, EX, rel, hw, k, o⟩ := h
  refine ⟨F, δ, _, EX, rel, hw, fun d1 h1 x H1 rel1 kp1 x1 => ⟨F, δ, _, EX, rel1, h1, fun d2 h2 y H2 rel2 kp2 y2 => fun ln => ?_, o⟩, o⟩
  refine hd (Av F σ δ) (PotA σ δ) H2 x y d1 d2 R Q ln (fun a ha => rel2.isl ha) (kp2.dp x1) y2 h2 fun d hR v H' s q f => ?_
  refine k d hR v H' (rel2.same s) ((kp1.trans kp2).trans (Kp.same rel2 s)) ⟨q, fun l e1 e2 => ?_⟩
  have f2 := f l e1 e2
  cases e : H l with
  | none => rfl
  | some ob =>
    by_cases z : PotA σ δ l
    · obtain ⟨n, en⟩ := kp2.2 l z
      rw [en] at f2; cases f2
    · rw [(kp1.trans kp2).1 _ _ z e] at f2; cases f2
theorem op_readn {K : PySem.W.Frag} {r : R2} {rD : PyData → PyData → (PyData → Prop) → Prop} {wa wb : DE} (hd : OpDn r rD) (σ : L2.St) (H : Hp) (Q : VK) (h : tX .D K E (dOp rD wa wb) σ H Q) :
    tOp (fun x y H Q => LenOk H → r x y H Q) (tX .P K E wa) (tX .P K E wb) σ H Q := by
  obtain ⟨F, δ, R, EX, rel, hw, k, o⟩ := h
  refine ⟨F, δ, _, EX, rel, hw, fun d1 h1 x H1 rel1 kp1 x1 => ⟨F, δ, _, EX, rel1, h1, fun d2 h2 y H2 rel2 kp2 y2 => fun ln => ?_, o⟩, o⟩
  refine hd (Av F σ δ) (PotA σ δ) H2 x y d1 d2 R Q ln (fun a ha => rel2.isl ha) (kp2.dp x1) y2 h2 fun d hR v H' s q => ?_
  exact k d hR v H' (rel2.same s) ((kp1.trans kp2).trans (Kp.same rel2 s)) q
variable {a b : Expr} {wa wb : DE} {pos : Pos} {r : R2} {rD : PyData → PyData → (PyData → Prop) → Prop}
theorem pd_bin {op : Operator} (ho : OpR X (binaryOp op) r) (hd : OpD r rD) (ha : PE X a (tX .P X.K E wa)) (hb : PE X b (tX .P X.K E wb)) : PE X (.BinOp a op b pos) (tX .F X.K E (dOp rD wa wb)) := PE.imp (pe_op (OpR.len ho) ha hb) (op_read hd)
theorem pd_cmp {op : CmpOp} (ho : OpR X (compareOp op) r) (hd : OpD r rD) (ha : PE X a (tX .P X.K E wa)) (hb : PE X b (tX .P X.K E wb)) (hm : behindInMarks op b = false) : PE X (.Compare a [op] [b] pos) (tX .F X.K E (dOp rD wa wb)) := PE.imp (pe_cmpR (OpR.len ho) ha hb hm) (op_read hd)
theorem pd_ix {r : R2} {rD : PyData → PyData → (PyData → Prop) → Prop} (ho : IxR X r) (hd : OpDn r rD) (ha : PE X a (tX .P X.K E wa)) (hb : PE X b (tX .P X.K E wb)) (hs : PlainIx b) : PE X (.Subscript a b pos) (tX .D X.K E (dOp rD wa wb)) := PE.imp (pe_ix (IxR.len ho) ha hb hs) (op_readn hd)
def dTst (w : DE) : DT := fun δ Q EX => w δ (fun d => match d with
  | .bool k => Q k
  | _ => False) EX
theorem pdt_cmp {op : CmpOp} (ho : OpR X (compareOp op) r) (hd : OpD r rD) (ha : PE X a (tX .P X.K E wa)) (hb : PE X b (tX .P X.K E wb)) (hm : behindInMarks op b = false) : PT X (.Compare a [op] [b] pos) (tT X.K E (dTst (dOp rD wa wb))) := by
  refine PT.imp (pt_cmpR (OpR.len ho) ha hb hm) fun σ H Q ⟨F, δ, R, EX, rel, hw, k, o⟩ => ?_
  refine op_read hd σ H (fun x H' => ∃ k, x = .bl k ∧ Q k H') ⟨F, δ, _, EX, rel, hw, fun d hd2 v H' rel' kp vk => ?_, o⟩
  split at hd2
  · rename_i b
    have : v = .bl b := by cases vk.1; rfl
    exact ⟨b, this, k b hd2 H' rel' kp⟩
  · exact hd2.elim
theorem pdt_val {e : Expr} {w : DE} (h : PE X e (tX .P X.K E w)) (he : ∀ whole, isTrue e X.env whole = (do let v ← whole; standAt e.pos; holding [v] (truthy v)) := by intro _; rfl) : PT X e (tT X.K E (dTst w)) := by
  refine PT.imp (pt_val h he) fun σ H Q ⟨F, δ, R, EX, rel, hw, k, o⟩ => ?_
  refine ⟨F, δ, _, EX, rel, hw, fun d hd v H' rel' kp vk => ?_, o⟩
  split at hd
  · exact ⟨_, DP.bool vk, k _ hd H' rel' kp⟩
  · exact hd.elim
def dOr (wa wb : DT) : DT := fun δ Q EX => wa δ (fun c => if c = true then Q true else wb δ Q EX) EX
def dNot (wa : DT) : DT := fun δ Q EX => wa δ (fun c => Q (!c)) EX
theorem if_imp {c : Prop} [Decidable c] {p q p' q' : Prop} (h : if c then p else q) (h1 : p → p') (h2 : q → q') : if c then p' else q' := by
  split at h
  · rw [if_pos (by assumption)]; exact h1 h
  · rw [if_neg (by assumption)]; exact h2 h
variable {rest : List Expr} {ta tb : DT}
theorem pdw_or1 (ha : PT X a (tT X.K E ta)) : PW X (.BoolOp .Or [a] pos) (tT X.K E ta) := pw_or1 ha
theorem pdw_or (ha : PT X a (tT X.K E ta)) (hb : PW X (.BoolOp .Or (b :: rest) pos) (tT X.K E tb)) : PW X (.BoolOp .Or (a :: b :: rest) pos) (tT X.K E (dOr ta tb)) := by
  refine PW.imp (pw_or ha hb) fun σ H Q ⟨F, δ, R, EX, rel, hw, k, o⟩ => ?_
  refine ⟨F, δ, _, EX, rel, hw, fun c hc H' rel' kp => ?_, o⟩
  exact if_imp hc (fun z => k _ z H' rel' kp) (fun z => ⟨F, δ, R, EX, rel', z, fun c hc H2 rel2 kp2 => k c hc H2 rel2 (kp.trans kp2), o⟩)
theorem pdt_not (ha : PT X a (tT X.K E ta)) : PT X (.UnaryOp .Not a pos) (tT X.K E (dNot ta)) := by
  refine PT.imp (pt_not ha) fun σ H Q ⟨F, δ, R, EX, rel, hw, k, o⟩ => ?_
  exact ⟨F, δ, _, EX, rel, hw, fun c hc H' rel' kp => k _ hc H' rel' kp, o⟩
def dAndV (wa wb : DE) : DE := fun δ Q EX => wa δ (fun d => match d with
  | .bool c => if c = true then wb δ Q EX else Q (.bool false)
  | _ => False) EX
def dNotV (wa : DE) : DE := fun δ Q EX => wa δ (fun d => match d with
  | .bool c => Q (.bool (!c))
  | _ => False) EX
theorem pd_one {op} {w : DE} (h : PE X a (tX .D X.K E w)) : PE X (.BoolOp op [a] pos) (tX .D X.K E w) := pe_one h
theorem pd_and (ha : PE X a (tX .P X.K E wa)) (hb : PE X (.BoolOp .And (b :: rest) pos) (tX .D X.K E wb)) : PE X (.BoolOp .And (a :: b :: rest) pos) (tX .D X.K E (dAndV wa wb)) := by
  refine PE.imp (pe_and ha hb) fun σ H Q ⟨F, δ, R, EX, rel, hw, k, o⟩ => ?_
  refine ⟨F, δ, _, EX, rel, hw, fun d hd v H' rel' kp vk => ?_, o⟩
  split at hd
  · exact ⟨_, DP.bool vk, if_imp hd (fun z => ⟨F, δ, R, EX, rel', z, fun d hd v H2 rel2 kp2 => k d hd v H2 rel2 (kp.trans kp2), o⟩) fun z => k _ z _ H' rel' kp (.bl _)⟩
  · exact hd.elim
theorem pd_not (ha : PE X a (tX .P X.K E wa)) : PE X (.UnaryOp .Not a pos) (tX .D X.K E (dNotV wa)) := by
  refine PE.imp (pe_not ha) fun σ H Q ⟨F, δ, R, EX, rel, hw, k, o⟩ => ?_
  refine ⟨F, δ, _, EX, rel, hw, fun d hd v H' rel' kp vk => ?_, o⟩
  split at hd
  · exact ⟨_, DP.bool vk, k _ hd _ H' rel' kp (.bl _)⟩
  · exact hd.elim
def dIfE (t : DT) (wa wb : DE) : DE := fun δ Q EX => t δ (fun c => if c = true then wa δ Q EX else wb δ Q EX) EX
theorem pd_ifE {c : Expr} (hc : PT X c (tT X.K E ta)) (ha : PE X a (tX .D X.K E wa)) (hb : PE X b (tX .D X.K E wb)) : PE X (.IfExp c a b pos) (tX .D X.K E (dIfE ta wa wb)) := by
  refine PE.imp (pe_ifExp hc ha hb) fun σ H Q ⟨F, δ, R, EX, rel, hw, k, o⟩ => ?_
  refine ⟨F, δ, _, EX, rel, hw, fun d hd H' rel' kp => ?_, o⟩
  exact if_imp hd (fun z => ⟨F, δ, R, EX, rel', z, fun d hd v H2 rel2 kp2 => k d hd v H2 rel2 (kp.trans kp2), o⟩) (fun z => ⟨F, δ, R, EX, rel', z, fun d hd v H2 rel2 kp2 => k d hd v H2 rel2 (kp.trans kp2), o⟩)
end
end Dl
namespace Dl
open PySem PySem.Spec PyProof.Rows L2 _root_.Rd Rk
theorem new_da {A : Addr → Prop} {H H' : Hp} {l : Addr} {xs : List V} {ds : List PyData} (dm : ∀ a, A a → ∃ xs, H a = some (.lst xs)) (s : Same H H') (n : H l = none) (e : H' l = some (.lst xs)) (q : DAs A H xs ds) : DA A H' (.ref l) (.list ds) :=
  .lst (fun z => by obtain ⟨ys, e'⟩ := dm l z; rw [n] at e'; cases e') e (q.same s)
theorem tup_da {A : Addr → Prop} {H H' : Hp} {l : Addr} {xs : List V} {ds : List PyData} (dm : ∀ a, A a → ∃ xs, H a = some (.lst xs)) (s : Same H H') (e : H' l = some (.tup xs)) (q : DAs A H xs ds) : DA A H' (.ref l) (.tuple ds) :=
  .tup (fun z => by obtain ⟨ys, e'⟩ := dm l z; rw [s _ _ e'] at e; cases e) e (q.same s)
theorem frv_new {H H' : Hp} {l : Addr} (n : H l = none) : FrV H H' (.ref l) := fun l' e _ => by cases e; exact n
theorem frv_tup {H H' : Hp} {l : Addr} {xs : List V} (e : H' l = some (.tup xs)) : FrV H H' (.ref l) := fun l' e1 ⟨ys, e2⟩ => by cases e1; rw [e] at e2; cases e2
theorem frv_int {H H' : Hp} {i : Int} : FrV H H' (.int i) := fun l' e _ => by cases e
theorem frv_bl {H H' : Hp} {i : Bool} : FrV H H' (.bl i) := fun l' e _ => by cases e
theorem frv_non {H H' : Hp} : FrV H H' .non := fun l' e _ => by cases e
theorem DAs.rep {A : Addr → Prop} {H : Hp} {xs : List V} {ds : List PyData} (q : DAs A H xs ds) : ∀ k : Nat, DAs A H (List.replicate k xs).flatten (List.replicate k ds).flatten
  | 0 => .nil
  | k + 1 => by rw [List.replicate_succ, List.replicate_succ, List.flatten_cons, List.flatten_cons]; exact q.app (DAs.rep q k)
def addD : PyData → PyData → (PyData → Prop) → Prop
  | .int i, .int j, Q => Q (.int (i + j))
  | .tuple a, .tuple b, Q => a.length + b.length ≤ 1000000 ∧ Q (.tuple (a ++ b))
  | .list a, .list b, Q => a.length + b.length ≤ 1000000 ∧ Q (.list (a ++ b))
  | _, _, _ => False
def iiD (C : Int → Int → Prop) (f : Int → Int → PyData) : PyData → PyData → (PyData → Prop) → Prop
  | .int i, .int j, Q => C i j ∧ Q (f i j)
  | _, _, _ => False
def ii0 (f : Int → Int → PyData) : PyData → PyData → (PyData → Prop) → Prop
  | .int i, .int j, Q => Q (f i j)
  | _, _, _ => False
def mulD : PyData → PyData → (PyData → Prop) → Prop
  | .int i, .int j, Q => (CMul i j ∨ CMulB i j) ∧ Q (.int (i * j))
  | .list a, .int k, Q => (k < 1000000 ∧ -1000000 < k ∧ a.length * k.toNat ≤ 1000000) ∧ Q (.list (List.replicate k.toNat a).flatten)
  | _, _, _ => False
theorem lineM : 1000000 ≤ sizeLine := by show 1000000 ≤ 2 ^ 24; decide
section
variable {X : Cx} {E : XK}
theorem od_ii {C : Int → Int → Prop} {g : Int → Int → Int} : OpD (rI C fun i j => .int (g i j)) (iiD C fun i j => .int (g i j)) := fun A P H x y d1 d2 R Q ln dm hx hy h k => by
  cases d1 <;> cases d2 <;> first | exact h.elim | skip
  rw [hx.int, hy.int]
  exact ⟨_, _, rfl, rfl, h.1, k _ h.2 _ H (Same.refl H) (.int _) frv_int⟩
theorem od_ii0 {g : Int → Int → Int} : OpD (rI0 fun i j => .int (g i j)) (ii0 fun i j => .int (g i j)) := fun A P H x y d1 d2 R Q ln dm hx hy h k => by
  cases d1 <;> cases d2 <;> first | exact h.elim | skip
  rw [hx.int, hy.int]
  exact ⟨_, _, rfl, rfl, k _ h _ H (Same.refl H) (.int _) frv_int⟩
theorem od_ib0 {g : Int → Int → Bool} : OpD (rI0 fun i j => .bl (g i j)) (ii0 fun i j => .bool (g i j)) := fun A P H x y d1 d2 R Q ln dm hx hy h k => by
  cases d1 <;> cases d2 <;> first | exact h.elim | skip
  rw [hx.int, hy.int]
  exact ⟨_, _, rfl, rfl, k _ h _ H (Same.refl H) (.bl _) frv_bl⟩
def rAdd : R2 := fun x y H Q => (rI0 (fun i j => .int (i + j)) x y H Q ∨ rCatA x y H Q) ∨ rCat x y H Q
theorem op_addD : OpR X (binaryOp .Add) rAdd := OpR.or2 (OpR.or2 op_add op_catA) op_cat
theorem od_add : OpD rAdd addD := fun A P H x y d1 d2 R Q ln dm hx hy h k => by
  cases d1 <;> cases d2 <;> first | exact h.elim | skip
  · rw [hx.int, hy.int]
    exact .inl (.inl ⟨_, _, rfl, rfl, k _ h _ H (Same.refl H) (.int _) frv_int⟩)
  · obtain ⟨l1, xs, rfl, e1, q1⟩ := hx.list
    obtain ⟨l2, ys, rfl, e2, q2⟩ := hy.list
    refine .inr ⟨l1, l2, xs, ys, rfl, rfl, e1, e2, Nat.le_trans (by rw [q1.length, q2.length]; exact h.1) lineM, fun p hp => ?_⟩
    exact k _ h.2 _ _ (same_upd hp) (new_da dm (same_upd hp) hp upd_same (q1.app q2)) (frv_new hp)
  · obtain ⟨l1, xs, rfl, e1, q1⟩ := hx.tuple
    obtain ⟨l2, ys, rfl, e2, q2⟩ := hy.tuple
    refine .inl (.inr ⟨l1, l2, xs, ys, rfl, rfl, e1, e2, Nat.le_trans (by rw [q1.length, q2.length]; exact h.1) lineM, fun p H' s e => ?_⟩)
    exact k _ h.2 _ _ s (tup_da dm s e (q1.app q2)) (frv_tup e)
def rMulA : R2 := fun x y H Q => (rI CMul (fun i j => .int (i * j)) x y H Q ∨ rI CMulB (fun i j => .int (i * j)) x y H Q) ∨ rRep x y H Q
theorem op_mulD : OpR X (binaryOp .Mult) rMulA := OpR.or2 (OpR.or2 op_mul op_mulB) op_rep
theorem od_mul : OpD rMulA mulD := fun A P H x y d1 d2 R Q ln dm hx hy h k => by
  cases d1 <;> cases d2 <;> first | exact h.elim | skip
  · rw [hx.int, hy.int]
    rcases h.1 with c | c
    · exact .inl (.inl ⟨_, _, rfl, rfl, c, k _ h.2 _ H (Same.refl H) (.int _) frv_int⟩)
    · exact .inl (.inr ⟨_, _, rfl, rfl, c, k _ h.2 _ H (Same.refl H) (.int _) frv_int⟩)
  · obtain ⟨l1, xs, rfl, e1, q1⟩ := hx.list
    rw [hy.int]
    obtain ⟨⟨h1, h2, h3⟩, h4⟩ := h
    refine .inr ⟨l1, _, xs, rfl, rfl, e1, by omega, by omega, Nat.le_trans (by rw [q1.length]; exact h3) lineM, fun p hp => ?_⟩
    exact k _ h4 _ _ (same_upd hp) (new_da dm (same_upd hp) hp upd_same (q1.rep _)) (frv_new hp)
def eqD : PyData → PyData → (PyData → Prop) → Prop
  | .int i, .int j, Q => Q (.bool (decide (i = j)))
  | .bool i, .bool j, Q => Q (.bool (decide (i = j)))
  | .str i, .str j, Q => Q (.bool (decide (i = j)))
  | a, b, Q => (nd a = true ∧ nd b = true ∧ (a.depth ≤ 50 ∨ b.depth ≤ 50)) ∧ Q (.bool (PyData.eqv a b))
def neD : PyData → PyData → (PyData → Prop) → Prop
  | .int i, .int j, Q => Q (.bool (!decide (i = j)))
  | .bool i, .bool j, Q => Q (.bool (!decide (i = j)))
  | .str i, .str j, Q => Q (.bool (!decide (i = j)))
  | a, b, Q => (nd a = true ∧ nd b = true ∧ (a.depth ≤ 50 ∨ b.depth ≤ 50)) ∧ Q (.bool (!PyData.eqv a b))
theorem min50 {a b : PyData} (h : a.depth ≤ 50 ∨ b.depth ≤ 50) : min a.depth b.depth ≤ 50 := by rcases h with h | h <;> omega
def rEqA (u : Nat) : R2 := fun x y H Q => rEq x y H Q ∨ rEqU u x y H Q
def rNeA (u : Nat) : R2 := fun x y H Q => rNe x y H Q ∨ rNeU u x y H Q
theorem op_eqA : OpR X (compareOp .Eq) (rEqA X.A.units) := OpR.or2 op_eq op_eqU
theorem op_neA : OpR X (compareOp .NotEq) (rNeA X.A.units) := OpR.or2 op_ne op_neU
theorem dec_i {i j : Int} : decide (V.int i = V.int j) = decide (i = j) := by
  by_cases h : i = j
  · subst h; simp
  · rw [decide_eq_false h, decide_eq_false (fun z => h (V.int.inj z))]
theorem dec_b {i j : Bool} : decide (V.bl i = V.bl j) = decide (i = j) := by
  by_cases h : i = j
  · subst h; simp
  · rw [decide_eq_false h, decide_eq_false (fun z => h (V.bl.inj z))]
theorem dec_s {i j : Str} : decide (V.str i = V.str j) = decide (i = j) := by
  by_cases h : i = j
  · subst h; simp
  · rw [decide_eq_false h, decide_eq_false (fun z => h (V.str.inj z))]
theorem od_eq {u : Nat} (hu : u + 60 < cLine) : OpD (rEqA u) eqD := fun A P H x y d1 d2 R Q ln dm hx hy h k => by
  unfold eqD at h
  split at h
  · rw [hx.int, hy.int]
    exact .inl ⟨rfl, k (.bool (decide (V.int _ = V.int _))) (by rw [dec_i]; exact h) _ H (Same.refl H) (.bl _) frv_bl⟩
  · rw [hx.bool, hy.bool]
    exact .inl ⟨rfl, k (.bool (decide (V.bl _ = V.bl _))) (by rw [dec_b]; exact h) _ H (Same.refl H) (.bl _) frv_bl⟩
  · rw [hx.str.1, hy.str.1]
    exact .inl ⟨rfl, k (.bool (decide (V.str _ = V.str _))) (by rw [dec_s]; exact h) _ H (Same.refl H) (.bl _) frv_bl⟩
  · obtain ⟨⟨n1, n2, dp⟩, hR⟩ := h
    have := min50 dp
    exact .inr ⟨_, _, hx.dat n1, hy.dat n2, by omega, k _ hR _ H (Same.refl H) (.bl _) frv_bl⟩
theorem od_ne {u : Nat} (hu : u + 60 < cLine) : OpD (rNeA u) neD := fun A P H x y d1 d2 R Q ln dm hx hy h k => by
  unfold neD at h
  split at h
  · rw [hx.int, hy.int]
    exact .inl ⟨rfl, k (.bool (!decide (V.int _ = V.int _))) (by rw [dec_i]; exact h) _ H (Same.refl H) (.bl _) frv_bl⟩
  · rw [hx.bool, hy.bool]
    exact .inl ⟨rfl, k (.bool (!decide (V.bl _ = V.bl _))) (by rw [dec_b]; exact h) _ H (Same.refl H) (.bl _) frv_bl⟩
  · rw [hx.str.1, hy.str.1]
    exact .inl ⟨rfl, k (.bool (!decide (V.str _ = V.str _))) (by rw [dec_s]; exact h) _ H (Same.refl H) (.bl _) frv_bl⟩
  · obtain ⟨⟨n1, n2, dp⟩, hR⟩ := h
    have := min50 dp
    exact .inr ⟨_, _, hx.dat n1, hy.dat n2, by omega, k _ hR _ H (Same.refl H) (.bl _) frv_bl⟩
def inD (neg : Bool) (d : PyData) : PyData → (PyData → Prop) → Prop
  | .list ds, Q => (nds ds = true ∧ nd d = true ∧ d.depth ≤ 50) ∧ Q (.bool (if neg then !(ds.any fun e => PyData.eqv e d) else ds.any fun e => PyData.eqv e d))
  | .tuple ds, Q => (nds ds = true ∧ nd d = true ∧ d.depth ≤ 50) ∧ Q (.bool (if neg then !(ds.any fun e => PyData.eqv e d) else ds.any fun e => PyData.eqv e d))
  | _, _ => False
def ixD : PyData → PyData → (PyData → Prop) → Prop
  | .list ds, .int i, Q => ∃ d, atI ds i = some d ∧ Q d
  | .tuple ds, .int i, Q => ∃ d, atI ds i = some d ∧ Q d
  | _, _, _ => False
theorem atI_da {A : Addr → Prop} {H : Hp} {xs : List V} {ds : List PyData} {i : Int} {d : PyData} (q : DAs A H xs ds) (h : atI ds i = some d) : ∃ v, atI xs i = some v ∧ DA A H v d := by
  unfold atI at h ⊢
  rw [q.length]
  cases e : ixN ds.length i with
  | none => rw [e] at h; cases h
  | some j =>
    rw [e] at h
    exact q.get j d h
def rIxA (K : PySem.W.Frag) : R2 := fun x y H Q => rIxL K x y H Q ∨ rIxT K x y H Q
theorem ix_any : IxR X (rIxA X.K) := IxR.or2 ix_list ix_tup
theorem od_ix {K : PySem.W.Frag} : OpDn (rIxA K) ixD := fun A P H x y d1 d2 R Q ln dm hx hy h k => by
  cases d1 <;> cases d2 <;> first | exact h.elim | skip
  · obtain ⟨l, xs, rfl, e, q⟩ := hx.list
    obtain ⟨d, hd, hR⟩ := h
    obtain ⟨v, hv, dv⟩ := atI_da q hd
    rw [hy.int]
    exact .inl ⟨l, xs, _, v, rfl, rfl, SqL.of e, hv, k d hR v H (Same.refl H) dv⟩
  · obtain ⟨l, xs, rfl, e, q⟩ := hx.tuple
    obtain ⟨d, hd, hR⟩ := h
    obtain ⟨v, hv, dv⟩ := atI_da q hd
    rw [hy.int]
    exact .inr ⟨l, xs, _, v, rfl, rfl, SqT.of e, hv, k d hR v H (Same.refl H) dv⟩
def dUn (rD : PyData → (PyData → Prop) → Prop) (wa : DE) : DE := fun δ Q EX => wa δ (fun d => rD d Q) EX
def negD : PyData → (PyData → Prop) → Prop
  | .int i, Q => Q (.int (-i))
  | _, _ => False
variable {a b c : Expr} {wa wb wc : DE} {pos : Pos}
theorem pd_neg (ha : PE X a (tX .P X.K E wa)) : PE X (.UnaryOp .USub a pos) (tX .F X.K E (dUn negD wa)) := by
  refine PE.imp (pe_un un_neg ha) fun σ H Q ⟨F, δ, R, EX, rel, hw, k, o⟩ => ?_
  refine ⟨F, δ, _, EX, rel, hw, fun d hd v H' rel' kp vk => ?_, o⟩
  cases d <;> first | exact (show False from hd).elim | skip
  exact ⟨_, DP.int vk, k _ hd _ H' rel' kp ⟨.int _, frv_int⟩⟩
def dCh (p q : Int → Int → Bool) (wa wb wc : DE) : DE := fun δ Q EX => wa δ (fun x => wb δ (fun y => match x, y with
  | .int i, .int j => if p i j = true then wc δ (fun z => match z with
    | .int k => Q (.bool (q j k))
    | _ => False) EX else Q (.bool false)
  | _, _ => False) EX) EX
theorem ch_read {K : PySem.W.Frag} {p q : Int → Int → Bool} (σ : L2.St) (H : Hp) (Q : VK) (h : tX .F K E (dCh p q wa wb wc) σ H Q) :
    tChain (rI0 fun i j => .bl (p i j)) (rI0 fun i j => .bl (q i j)) (tX .P K E wa) (tX .P K E wb) (tX .P K E wc) σ H Q := by
  obtain ⟨F, δ, R, EX, rel, hw, k, o⟩ := h
  refine ⟨F, δ, _, EX, rel, hw, fun d1 h1 x H1 rel1 kp1 x1 => ⟨F, δ, _, EX, rel1, h1, fun d2 h2 y H2 rel2 kp2 y2 => ?_, o⟩, o⟩
  cases d1 <;> cases d2 <;> first | exact (show False from h2).elim | skip
  rw [DP.int x1, DP.int y2]
  refine ⟨_, _, rfl, rfl, _, rfl, if_imp h2 (fun z => ⟨F, δ, _, EX, rel2, z, fun d3 h3 v H3 rel3 kp3 v3 => ?_, o⟩) fun z => k _ z _ H2 rel2 (kp1.trans kp2) ⟨.bl _, frv_bl⟩⟩
  cases d3 <;> first | exact (show False from h3).elim | skip
  rw [DP.int v3]
  exact ⟨_, _, rfl, rfl, k _ h3 _ H3 rel3 ((kp1.trans kp2).trans kp3) ⟨.bl _, frv_bl⟩⟩
theorem pd_ch {op op' : CmpOp} {p q : Int → Int → Bool} (ho : OpR X (compareOp op) (rI0 fun i j => .bl (p i j))) (ho' : OpR X (compareOp op') (rI0 fun i j => .bl (q i j))) (ha : PE X a (tX .P X.K E wa)) (hb : PE X b (tX .P X.K E wb)) (hc : PE X c (tX .P X.K E wc)) (hm : lastMarks [op, op'] [b, c] = false := by with_unfolding_all rfl) :
    PE X (.Compare a [op, op'] [b, c] pos) (tX .F X.K E (dCh p q wa wb wc)) := PE.imp (pe_chain ho ho' ha hb hc (hm := hm)) ch_read
theorem pdt_ch {op op' : CmpOp} {p q : Int → Int → Bool} (ho : OpR X (compareOp op) (rI0 fun i j => .bl (p i j))) (ho' : OpR X (compareOp op') (rI0 fun i j => .bl (q i j))) (ha : PE X a (tX .P X.K E wa)) (hb : PE X b (tX .P X.K E wb)) (hc : PE X c (tX .P X.K E wc)) (hm : lastMarks [op, op'] [b, c] = false := by with_unfolding_all rfl) :
    PT X (.Compare a [op, op'] [b, c] pos) (tT X.K E (dTst (dCh p q wa wb wc))) := by
  refine PT.imp (pt_chain ho ho' ha hb hc (hm := hm)) fun σ H Q ⟨F, δ, R, EX, rel, hw, k, o⟩ => ?_
  refine ch_read σ H (fun x H' => ∃ k, x = .bl k ∧ Q k H') ⟨F, δ, _, EX, rel, hw, fun d hd2 v H' rel' kp vk => ?_, o⟩
  split at hd2
  · rename_i b
    have : v = .bl b := by cases vk.1; rfl
    exact ⟨b, this, k b hd2 H' rel' kp⟩
  · exact hd2.elim
def dNil : DAr := fun _ Q _ => Q []
def dCons (we : DE) (wr : DAr) : DAr := fun δ Q EX => we δ (fun d => wr δ (fun ds => Q (d :: ds)) EX) EX
theorem pda_nil {m : Md} : PA X [] (tAr 0 m X.K E dNil) := PA.imp pa_nil fun σ H Q ⟨F, δ, R, EX, rel, hw, k, o⟩ => k [] hw rfl [] H rel (Kp.refl rel) .nil
theorem ar_read {n : Nat} {m : Md} {K : PySem.W.Frag} {we : DE} {wr : DAr} (hm : ∀ {F : Fm} {σ : L2.St} {δ : Sts} {H H' : Hp} {v : V} {d : PyData}, Vok m F σ δ H H' v d → VD m (Av F σ δ) (PotA σ δ) H' v d) (σ : L2.St) (H : Hp) (Q : List V → Hp → Prop) (h : tAr (n + 1) m K E (dCons we wr) σ H Q) : tCons (tX m K E we) (tAr n m K E wr) σ H Q := by
  obtain ⟨F, δ, R, EX, rel, hw, k, o⟩ := h
  refine ⟨F, δ, _, EX, rel, hw, fun d hd v H' rel' kp vk => ⟨F, δ, _, EX, rel', hd, fun ds hds hl vs H2 rel2 kp2 vks => ?_, o⟩, o⟩
  exact k _ hds (by rw [List.length_cons, hl]) (v :: vs) H2 rel2 (kp.trans kp2) (.cons (kp2.vd (hm vk)) vks)
theorem pda_consD {n : Nat} {e : Expr} {es : List Expr} {we : DE} {wr : DAr} (he : PE X e (tX .D X.K E we)) (hr : PA X es (tAr n .D X.K E wr)) (hs : notStar e = true := by rfl) : PA X (e :: es) (tAr (n + 1) .D X.K E (dCons we wr)) := PA.imp (pa_c he hr hs) (ar_read fun h => h)
theorem pda_consP {n : Nat} {e : Expr} {es : List Expr} {we : DE} {wr : DAr} (he : PE X e (tX .P X.K E we)) (hr : PA X es (tAr n .P X.K E wr)) (hs : notStar e = true := by rfl) : PA X (e :: es) (tAr (n + 1) .P X.K E (dCons we wr)) := PA.imp (pa_c he hr hs) (ar_read fun h => h)
theorem paired_das {A P : Addr → Prop} {H : Hp} : ∀ {vs : List V} {ds : List PyData}, Paired (VD .D A P H) vs ds → DAs A H vs ds
  | _, _, .nil => .nil
  | _, _, .cons a b => .cons a (paired_das b)
def dTup (w : DAr) : DE := fun δ Q EX => w δ (fun ds => Q (.tuple ds)) EX
def dLst (w : DAr) : DE := fun δ Q EX => w δ (fun ds => Q (.list ds)) EX
theorem pd_tup {n : Nat} {es : List Expr} {w : DAr} {x1} (h : PA X es (tAr n .D X.K E w)) (hn : n ≤ 1000 := by decide) : PE X (.Tuple es x1 pos) (tX .F X.K E (dTup w)) := by
  refine PE.imp (pe_tupW h) fun σ H Q ⟨F, δ, R, EX, rel, hw, k, o⟩ => ?_
  refine ⟨F, δ, _, EX, rel, hw, fun ds hds hl vs H' rel' kp q => ?_, o⟩
  have q' := paired_das q
  refine ⟨by rw [q'.length, hl]; exact hn, fun a H2 s n e => k _ hds _ H2 (rel'.same s) (kp.trans (Kp.same rel' s)) ⟨tup_da (fun a ha => rel'.isl ha) s e q', frv_tup e⟩⟩
theorem kp_none {σ : L2.St} {δ : Sts} {H H' : Hp} {l : Addr} (k : Kp σ δ H H') (n : H' l = none) : H l = none := by
  cases e : H l with
  | none => rfl
  | some ob =>
    by_cases z : PotA σ δ l
    · obtain ⟨m, em⟩ := k.2 l z
      rw [em] at n; cases n
    · rw [k.1 _ _ z e] at n; cases n
theorem pd_lst {n : Nat} {es : List Expr} {w : DAr} (h : PA X es (tAr n .D X.K E w)) (hn : n ≤ 1000 := by decide) : PE X (.List es pos) (tX .F X.K E (dLst w)) := by
  refine PE.imp (pe_lstW h) fun σ H Q ⟨F, δ, R, EX, rel, hw, k, o⟩ => ?_
  refine ⟨F, δ, _, EX, rel, hw, fun ds hds hl vs H' rel' kp q => ?_, o⟩
  have q' := paired_das q
  refine ⟨by rw [q'.length, hl]; exact hn, fun a H2 s n e => k _ hds _ H2 (rel'.same s) (kp.trans (Kp.same rel' s)) ⟨new_da (fun a ha => rel'.isl ha) s n e q', frv_new (kp_none kp n)⟩⟩
theorem pd_dct {pos : Pos} : PE X (.Dict [] [] pos) (tX .D X.K E (dC (.dict []))) := by
  refine PE.imp pe_dnew fun σ H Q ⟨F, δ, R, EX, rel, hw, k, o⟩ => fun p hp => ?_
  refine k _ hw _ _ (rel.same (same_upd hp)) (Kp.same rel (same_upd hp)) (.dct (kvs := []) (fun z => ?_) upd_same rfl)
  obtain ⟨xs, e⟩ := rel.isl z
  rw [hp] at e; cases e
def CallD (r : List V → Hp → VK → Prop) (rD : List PyData → (PyData → Prop) → Prop) : Prop := ∀ (A P : Addr → Prop) (H : Hp) (vs : List V) (ds : List PyData) (R : PyData → Prop) (Q : VK), LenOk H → (∀ a, A a → ∃ xs, H a = some (.lst xs)) → Paired (DP A P H) vs ds → rD ds R →
  (∀ d, R d → ∀ v H', Same H H' → DA A H' v d → FrV H H' v → Q v H') → r vs H Q
def dCB (rD : List PyData → (PyData → Prop) → Prop) (wa : DAr) : DE := fun δ Q EX => wa δ (fun ds => rD ds Q) EX
theorem cb_read {n : Nat} {K : PySem.W.Frag} {r : List V → Hp → VK → Prop} {rD : List PyData → (PyData → Prop) → Prop} {wa : DAr} (hd : CallD r rD) (σ : L2.St) (H : Hp) (Q : VK) (h : tX .F K E (dCB rD wa) σ H Q) :
    tCB (fun xs H Q => LenOk H → r xs H Q) (tAr n .P K E wa) σ H Q := by
  obtain ⟨F, δ, R, EX, rel, hw, k, o⟩ := h
  refine ⟨F, δ, _, EX, rel, hw, fun ds hds hl vs H' rel' kp q ln => ?_, o⟩
  refine hd (Av F σ δ) (PotA σ δ) H' vs ds R Q ln (fun a ha => rel'.isl ha) q hds fun d hR v H2 s dv fr => ?_
  exact k d hR v H2 (rel'.same s) (kp.trans (Kp.same rel' s)) ⟨dv, fun l e1 e2 => kp_none kp (fr l e1 e2)⟩
variable {x : Str} {bid T : String} {p : Pos} {e : Expr} {es : List Expr} {n : Nat} {wr : DAr} {r : List V → Hp → VK → Prop} {rD : List PyData → (PyData → Prop) → Prop}
theorem pd_callB (hc : CallR X (.builtin bid) r) (hd : CallD r rD) (hg : Gl X x) (hm : X.mg x = none) (hv : bootBuiltins x = some (.builtin bid)) (ha : PA X (e :: es) (tAr n .P X.K E wr)) (hn : x ≠ "__name__" := by decide) (hdb : (x == ("__debug__" : Str)) = false := by decide)
    (he : starEach (e :: es) X.env = (false, eval e X.env) :: starEach es X.env := by rfl) (hpl : (backTo pos (starEach es X.env)).any (·.1) = false := by rfl) : PE X (.Call (.Name x p) (e :: es) [] pos) (tX .F X.K E (dCB rD wr)) :=
  PE.imp (pe_callB (CallR.len hc) hg hm hv ha hn hdb he hpl) (cb_read hd)
theorem pd_callTy (hc : CallR X (.type T) r) (hd : CallD r rD) (hg : Gl X x) (hm : X.mg x = none) (hv : bootBuiltins x = some (.type T)) (ha : PA X (e :: es) (tAr n .P X.K E wr)) (hn : x ≠ "__name__" := by decide) (hdb : (x == ("__debug__" : Str)) = false := by decide)
    (he : starEach (e :: es) X.env = (false, eval e X.env) :: starEach es X.env := by rfl) (hpl : (backTo pos (starEach es X.env)).any (·.1) = false := by rfl) : PE X (.Call (.Name x p) (e :: es) [] pos) (tX .F X.K E (dCB rD wr)) :=
  PE.imp (pe_callTy (CallR.len hc) hg hm hv ha hn hdb he hpl) (cb_read hd)
theorem pd1 {A P : Addr → Prop} {H : Hp} {vs : List V} {d : PyData} (q : Paired (DP A P H) vs [d]) : ∃ v, vs = [v] ∧ DP A P H v d := by
  cases q with
  | cons a b => cases b; exact ⟨_, rfl, a⟩
theorem pd2 {A P : Addr → Prop} {H : Hp} {vs : List V} {d d' : PyData} (q : Paired (DP A P H) vs [d, d']) : ∃ v v', vs = [v, v'] ∧ DP A P H v d ∧ DP A P H v' d' := by
  cases q with
  | cons a b => cases b with | cons b c => cases c; exact ⟨_, _, rfl, a, b⟩
def lenD : List PyData → (PyData → Prop) → Prop
  | [.list ds], Q => Q (.int ds.length)
  | [.tuple ds], Q => Q (.int ds.length)
  | _, _ => False
theorem cd_len {K : PySem.W.Frag} : CallD (rLenK K) lenD := fun A P H vs ds R Q ln dm q h k => by
  unfold lenD at h
  split at h
  · obtain ⟨v, rfl, hv⟩ := pd1 q
    obtain ⟨l, xs, rfl, e, qq⟩ := hv.list
    exact ⟨l, xs, rfl, .inl (SqL.of e), by rw [qq.length]; exact k _ h _ H (Same.refl H) (.int _) frv_int⟩
  · obtain ⟨v, rfl, hv⟩ := pd1 q
    obtain ⟨l, xs, rfl, e, qq⟩ := hv.tuple
    exact ⟨l, xs, rfl, .inr (SqT.of e), by rw [qq.length]; exact k _ h _ H (Same.refl H) (.int _) frv_int⟩
  · exact h.elim
theorem call_lenK : CallR X (.builtin "len") (rLenK X.K) := call_len_seq
def min2D : List PyData → (PyData → Prop) → Prop
  | [.int i, .int j], Q => Q (.int (if j < i then j else i))
  | _, _ => False
def max2D : List PyData → (PyData → Prop) → Prop
  | [.int i, .int j], Q => Q (.int (if j > i then j else i))
  | _, _ => False
theorem cd_min2 : CallD (fun xs H Q => ∃ i j, xs = [.int i, .int j] ∧ Q (.int (if j < i then j else i)) H) min2D := fun A P H vs ds R Q ln dm q h k => by
  unfold min2D at h
  split at h
  · obtain ⟨v, v', rfl, h1, h2⟩ := pd2 q
    rw [h1.int, h2.int]
    exact ⟨_, _, rfl, k _ h _ H (Same.refl H) (.int _) frv_int⟩
  · exact h.elim
theorem cd_max2 : CallD (fun xs H Q => ∃ i j, xs = [.int i, .int j] ∧ Q (.int (if j > i then j else i)) H) max2D := fun A P H vs ds R Q ln dm q h k => by
  unfold max2D at h
  split at h
  · obtain ⟨v, v', rfl, h1, h2⟩ := pd2 q
    rw [h1.int, h2.int]
    exact ⟨_, _, rfl, k _ h _ H (Same.refl H) (.int _) frv_int⟩
  · exact h.elim
def asBools : List PyData → Option (List Bool)
  | [] => some []
  | .bool b :: ds => (asBools ds).map (b :: ·)
  | _ :: _ => none
def asInts : List PyData → Option (List Int)
  | [] => some []
  | .int b :: ds => (asInts ds).map (b :: ·)
  | _ :: _ => none
theorem bools_map (bs : List Bool) : asBools (bs.map PyData.bool) = some bs := by
  induction bs with
  | nil => rfl
  | cons b bs ih => rw [List.map_cons, asBools, ih]; rfl
theorem ints_map (bs : List Int) : asInts (bs.map PyData.int) = some bs := by
  induction bs with
  | nil => rfl
  | cons b bs ih => rw [List.map_cons, asInts, ih]; rfl
theorem bools_eq : ∀ {ds : List PyData} {bs : List Bool}, asBools ds = some bs → ds = bs.map PyData.bool
  | [], bs, h => by cases h; rfl
  | d :: ds, bs, h => by
    cases d <;> first | (unfold asBools at h; cases h; done) | skip
    rw [asBools] at h
    obtain ⟨cs, h1, rfl⟩ := Option.map_eq_some_iff.mp h
    rw [bools_eq h1]; rfl
theorem ints_eq : ∀ {ds : List PyData} {bs : List Int}, asInts ds = some bs → ds = bs.map PyData.int
  | [], bs, h => by cases h; rfl
  | d :: ds, bs, h => by
    cases d <;> first | (unfold asInts at h; cases h; done) | skip
    rw [asInts] at h
    obtain ⟨cs, h1, rfl⟩ := Option.map_eq_some_iff.mp h
    rw [ints_eq h1]; rfl
theorem das_bools {A : Addr → Prop} {H : Hp} : ∀ {bs : List Bool} {xs : List V}, DAs A H xs (bs.map PyData.bool) → xs = bs.map V.bl
  | [], _, .nil => rfl
  | b :: bs, _, .cons (.bl _) r => by rw [das_bools r]; rfl
theorem das_ints {A : Addr → Prop} {H : Hp} : ∀ {bs : List Int} {xs : List V}, DAs A H xs (bs.map PyData.int) → xs = bs.map V.int
  | [], _, .nil => rfl
  | b :: bs, _, .cons (.int _) r => by rw [das_ints r]; rfl
@[irreducible] def allD : List PyData → (PyData → Prop) → Prop
  | [.list ds], Q => ∃ bs, asBools ds = some bs ∧ Q (.bool (bs.all id))
  | _, _ => False
theorem cd_all {K : PySem.W.Frag} {cm : Bool} (hc : cm = true) : CallD (fun xs H Q => ∃ (p : Addr) (bs : List Bool), xs = [.ref p] ∧ SqL K H p (bs.map V.bl) ∧ cm = true ∧ Q (.bl (bs.all id)) H) allD := fun A P H vs ds R Q ln dm q h k => by
  unfold allD at h
  split at h
  · obtain ⟨v, rfl, hv⟩ := pd1 q
    obtain ⟨bs, hb, hR⟩ := h
    rw [bools_eq hb] at hv
    obtain ⟨l, xs, rfl, e, qq⟩ := hv.list
    rw [das_bools qq] at e
    exact ⟨l, bs, rfl, SqL.of e, hc, k _ hR _ H (Same.refl H) (.bl _) frv_bl⟩
  · exact h.elim
@[irreducible] def sumD : List PyData → (PyData → Prop) → Prop
  | [.list ds], Q => ∃ ns, asInts ds = some ns ∧ Q (.int ns.sum)
  | _, _ => False
theorem cd_sum {K : PySem.W.Frag} : CallD (rSumI K) sumD := fun A P H vs ds R Q ln dm q h k => by
  unfold sumD at h
  split at h
  · obtain ⟨v, rfl, hv⟩ := pd1 q
    obtain ⟨bs, hb, hR⟩ := h
    rw [ints_eq hb] at hv
    obtain ⟨l, xs, rfl, e, qq⟩ := hv.list
    rw [das_ints qq] at e
    exact ⟨l, bs, rfl, SqL.of e, k _ hR _ H (Same.refl H) (.int _) frv_int⟩
  · exact h.elim
@[irreducible] def minLD : List PyData → (PyData → Prop) → Prop
  | [.list ds], Q => ∃ ns, asInts ds = some ns ∧ 0 < ns.length ∧ ∀ m, m ∈ ns → (∀ y ∈ ns, m ≤ y) → Q (.int m)
  | _, _ => False
theorem cd_minL {K : PySem.W.Frag} : CallD (rMinM K) minLD := fun A P H vs ds R Q ln dm q h k => by
  unfold minLD at h
  split at h
  · obtain ⟨v, rfl, hv⟩ := pd1 q
    obtain ⟨bs, hb, h0, hR⟩ := h
    rw [ints_eq hb] at hv
    obtain ⟨l, xs, rfl, e, qq⟩ := hv.list
    rw [das_ints qq] at e
    exact ⟨l, bs, rfl, SqL.of e, h0, fun m h1 h2 => k _ (hR m h1 h2) _ H (Same.refl H) (.int _) frv_int⟩
  · exact h.elim
def tupleD : List PyData → (PyData → Prop) → Prop
  | [.list ds], Q => Q (.tuple ds)
  | [.tuple ds], Q => Q (.tuple ds)
  | _, _ => False
theorem cd_tuple {K : PySem.W.Frag} : CallD (rTupOfW K) tupleD := fun A P H vs ds R Q ln dm q h k => by
  unfold tupleD at h
  split at h
  · obtain ⟨v, rfl, hv⟩ := pd1 q
    obtain ⟨l, xs, rfl, e, qq⟩ := hv.list
    exact ⟨l, xs, rfl, .inl ⟨SqL.of e, fun l' H' s n e' => k _ h _ H' s (tup_da dm s e' qq) (frv_tup e')⟩⟩
  · obtain ⟨v, rfl, hv⟩ := pd1 q
    obtain ⟨l, xs, rfl, e, qq⟩ := hv.tuple
    exact ⟨l, xs, rfl, .inr ⟨SqT.of e, k _ h _ H (Same.refl H) (tup_da dm (Same.refl H) e qq) (frv_tup e)⟩⟩
  · exact h.elim
end
end Dl
namespace Dl
open PySem PySem.Spec PyProof.Rows L2 _root_.Rd Rk
section
variable {X : Cx} {E : XK}
inductive Tn where | int | bool | str | tuple | list
def Tn.s : Tn → String
  | .int => "int"
  | .bool => "bool"
  | .str => "str"
  | .tuple => "tuple"
  | .list => "list"
def isT : Tn → PyData → Bool
  | .int, .int _ => true
  | .int, .bool _ => true
  | .bool, .bool _ => true
  | .str, .str _ => true
  | .tuple, .tuple _ => true
  | .list, .list _ => true
  | _, _ => false
theorem inst_dp {K : PySem.W.Frag} {A P : Addr → Prop} {H : Hp} {v : V} {d : PyData} (tn : Tn) (h : DP A P H v d) : ∃ t, TyOf K H v t ∧ PySem.W.kitOne K t (.type tn.s) = some (isT tn d) := by
  rcases h with h | ⟨l, xs, ds, rfl, rfl, _, e, q⟩
  · cases h with
    | non => exact ⟨_, .non, by cases tn <;> rfl⟩
    | bl b => exact ⟨_, .bl _, by cases tn <;> rfl⟩
    | int i => exact ⟨_, .int _, by cases tn <;> rfl⟩
    | str x c => exact ⟨_, .str _, by cases tn <;> rfl⟩
    | tup n e q => exact ⟨_, .tup e, by cases tn <;> rfl⟩
    | lst n e q => exact ⟨_, .lst e, by cases tn <;> rfl⟩
    | dct n e q => exact ⟨_, .dK e, by cases tn <;> rfl⟩
  · exact ⟨_, .lst e, by cases tn <;> rfl⟩
def dInst (tn : Tn) (we : DE) : DE := fun δ Q EX => we δ (fun d => Q (.bool (isT tn d))) EX
theorem pd_inst {e f : Expr} {we : DE} {p pos : Pos} (tn : Tn) (hg : Gl X "isinstance") (hm : X.mg "isinstance" = none) (he : PE X e (tX .P X.K E we)) (hf : PE X f (tC (.ty tn.s))) (h1 : notStar e = true := by rfl) (h2 : notStar f = true := by rfl) :
    PE X (.Call (.Name "isinstance" p) [e, f] [] pos) (tX .F X.K E (dInst tn we)) := by
  refine PE.imp (pe_callB call_isinst hg hm bt_isinstance (pa_c he (pa_c hf pa_nil h2) h1) (he := star_of h1) (hpl := by rw [star_of h2]; rfl)) fun σ H Q ⟨F, δ, R, EX, rel, hw, k, o⟩ => ?_
  refine ⟨F, δ, _, EX, rel, hw, fun d hd v H' rel' kp vk => ?_, o⟩
  obtain ⟨t, ty, et⟩ := inst_dp (K := X.K) tn vk
  exact ⟨v, t, tn.s, _, rfl, ty, et, k _ hd _ H' rel' kp ⟨.bl _, frv_bl⟩⟩
theorem pb_ty {x : Str} {pos : Pos} (tn : Tn) (hg : Gl X x) (hm : X.mg x = none) (hv : bootBuiltins x = some (.type tn.s)) (hn : x ≠ "__name__" := by decide) (hd : (x == ("__debug__" : Str)) = false := by decide) : PE X (.Name x pos) (tC (.ty tn.s)) := pe_bltn (v := .ty tn.s) hg hm hv rfl hn hd
abbrev DO := Sts → (Option Int → Prop) → XP → Prop
def tO (K : PySem.W.Frag) (E : XK) (w : DO) : TO := fun σ H Q => ∃ (F : Fm) (δ : Sts) (R : Option Int → Prop) (EX : XP), Rel K F σ H δ ∧ w δ R EX ∧ (∀ d, R d → ∀ H', Rel K F σ H' δ → Kp σ δ H H' → Q d H') ∧ Out F E EX
def dNo : DO := fun _ Q _ => Q none
def dSo (we : DE) : DO := fun δ Q EX => we δ (fun d => match d with
  | .int i => Q (some i)
  | _ => False) EX
theorem PO.imp {e : Option Expr} {t t' : TO} (h : PO X e t) (i : ∀ σ H Q, t' σ H Q → t σ H Q) : PO X e t' := fun pins s σ H Q I q => h pins s σ H Q I (i σ H Q q)
theorem pdo_none : PO X none (tO X.K E dNo) := PO.imp po_none fun σ H Q ⟨F, δ, R, EX, rel, hw, k, o⟩ => k _ hw H rel (Kp.refl rel)
theorem pdo_some {e : Expr} {we : DE} (he : PE X e (tX .P X.K E we)) : PO X (some e) (tO X.K E (dSo we)) := by
  refine PO.imp (po_some he) fun σ H Q ⟨F, δ, R, EX, rel, hw, k, o⟩ => ?_
  refine ⟨F, δ, _, EX, rel, hw, fun d hd v H' rel' kp vk => ?_, o⟩
  cases d <;> first | exact (show False from hd).elim | skip
  exact ⟨_, DP.int vk, k _ hd H' rel' kp⟩
def cutD (xs : List PyData) (lo hi : Option Int) : List PyData := (xs.drop (HT.sIx xs.length 0 lo)).take (HT.sIx xs.length xs.length hi - HT.sIx xs.length 0 lo)
theorem cut_das {A : Addr → Prop} {H : Hp} {xs : List V} {ds : List PyData} (q : DAs A H xs ds) (lo hi : Option Int) : DAs A H (cutV xs lo hi) (cutD ds lo hi) := by
  unfold cutV cutD
  rw [q.length]
  exact (q.drop _).take _
def slD (d : PyData) (lo hi : Option Int) (Q : PyData → Prop) : Prop :=
  match d with
  | .list ds => Q (.list (cutD ds lo hi))
  | .tuple ds => Q (.tuple (cutD ds lo hi))
  | _ => False
def dSl (we : DE) (wl wh : DO) : DE := fun δ Q EX => we δ (fun d => wl δ (fun lo => wh δ (fun hi => slD d lo hi Q) EX) EX) EX
def rSlAny (K : PySem.W.Frag) : V → Option Int → Option Int → Hp → VK → Prop := fun x a b H Q => rSlA x a b H Q ∨ rSlLW K x a b H Q
theorem pd_slice {e : Expr} {lo hi : Option Expr} {we : DE} {wl wh : DO} {p2 pos : Pos} (he : PE X e (tX .P X.K E we)) (hl : PO X lo (tO X.K E wl)) (hh : PO X hi (tO X.K E wh)) : PE X (.Subscript e (.Slice lo hi none p2) pos) (tX .F X.K E (dSl we wl wh)) := by
  refine PE.imp (pe_slice (r := rSlAny X.K) (SlR.or2 sl_any sl_listW) he hl hh) fun σ H Q ⟨F, δ, R, EX, rel, hw, k, o⟩ => ?_
  refine ⟨F, δ, _, EX, rel, hw, fun d hd v H1 rel1 kp1 vk => ⟨F, δ, _, EX, rel1, hd, fun a ha H2 rel2 kp2 => ⟨F, δ, _, EX, rel2, ha, fun b hb H3 rel3 kp3 => ?_, o⟩, o⟩, o⟩
  have v3 := kp3.dp (kp2.dp vk)
  have K3 := (kp1.trans kp2).trans kp3
  cases d <;> first | exact (show False from hb).elim | skip
  · obtain ⟨l, xs, rfl, e, q⟩ := DP.list v3
    exact .inr ⟨l, xs, rfl, SqL.of e, fun p H' s n e' => k _ hb _ H' (rel3.same s) (K3.trans (Kp.same rel3 s)) ⟨new_da (fun a ha => rel3.isl ha) s n e' (cut_das q _ _), frv_new (kp_none K3 n)⟩⟩
  · obtain ⟨l, xs, rfl, e, q⟩ := DP.tuple v3
    exact .inl ⟨l, xs, rfl, e, fun p H' s e' => k _ hb _ H' (rel3.same s) (K3.trans (Kp.same rel3 s)) ⟨tup_da (fun a ha => rel3.isl ha) s e' (cut_das q _ _), frv_tup e'⟩⟩
abbrev DF := List Sl → (PyData → Prop) → XP → Prop
def Kq (pt : Addr → Prop) (H H' : Hp) : Prop := (∀ b o, ¬ pt b → H b = some o → H' b = some o) ∧ ∀ p, pt p → ∃ n, H' p = some (.lst [.int n])
def toSp (fr : Bool) (f : DF) : Sp := fun vs H Q Ex => ∃ (A pt : Addr → Prop) (args : List Sl) (R : PyData → Prop) (EX : XP), (∀ a, A a → ∃ xs, H a = some (.lst xs)) ∧ (∀ p, pt p → A p ∧ ∃ n, H p = some (.lst [.int n])) ∧ Paired (ArgOk A pt H) vs args ∧ f args R EX ∧
  (∀ d, R d → ∀ v H', Kq pt H H' → DA A H' v d → (fr = true → FrV H H' v) → Q v H') ∧ ∀ C, EX C → ∀ H', Kq pt H H' → Ex (.ref C) none H'
def sNil : DSl := fun _ Q _ => Q []
def sV (we : DE) (wr : DSl) : DSl := fun δ Q EX => we δ (fun d => wr δ (fun ds => Q (.v d :: ds)) EX) EX
def sPot (i : Nat) (wr : DSl) : DSl := fun δ Q EX => match δ[i]? with
  | some .pot => wr δ (fun ds => Q (.pot :: ds)) EX
  | _ => False
theorem pds_nil : PA X [] (tAs X.K E sNil) := PA.imp pa_nil fun σ H Q ⟨F, δ, R, EX, rel, hw, k, o⟩ => k [] hw [] H rel (Kp.refl rel) .nil
theorem pds_v {e : Expr} {es : List Expr} {we : DE} {wr : DSl} (he : PE X e (tX .D X.K E we)) (hr : PA X es (tAs X.K E wr)) (hs : notStar e = true := by rfl) : PA X (e :: es) (tAs X.K E (sV we wr)) := by
  refine PA.imp (pa_c he hr hs) fun σ H Q ⟨F, δ, R, EX, rel, hw, k, o⟩ => ?_
  refine ⟨F, δ, _, EX, rel, hw, fun d hd v H' rel' kp vk => ⟨F, δ, _, EX, rel', hd, fun ds hds vs H2 rel2 kp2 vks => ?_, o⟩, o⟩
  exact k _ hds (v :: vs) H2 rel2 (kp.trans kp2) (.cons (kp2.da vk) vks)
theorem pds_pot {e : Expr} {es : List Expr} {i : Nat} {wr : DSl} (he : PE X e (tVar i)) (hr : PA X es (tAs X.K E wr)) (hs : notStar e = true := by rfl) : PA X (e :: es) (tAs X.K E (sPot i wr)) := by
  refine PA.imp (pa_c he hr hs) fun σ H Q ⟨F, δ, R, EX, rel, hw, k, o⟩ => ?_
  unfold sPot at hw
  split at hw
  · rename_i hd
    obtain ⟨x, hx⟩ := rel.lt hd
    obtain ⟨p, n, rfl, e, q⟩ := rel.sl i _ _ hx hd
    refine ⟨.ref p, hx, F, δ, _, EX, rel, hw, fun ds hds vs H2 rel2 kp2 vks => ?_, o⟩
    exact k _ hds (.ref p :: vs) H2 rel2 kp2 (.cons ⟨p, rfl, i, hx, hd⟩ vks)
  · exact hw.elim
def dCall (f : DF) (wa : DSl) : DE := fun δ Q EX => wa δ (fun args => f args Q EX) EX
theorem Kq.kp {K : PySem.W.Frag} {F : Fm} {σ : L2.St} {δ : Sts} {H H' : Hp} (k : Kq (PotA σ δ) H H') : Kp σ δ H H' := k
theorem call_read {m : Md} {fr : Bool} {K : PySem.W.Frag} {f : DF} {wa : DSl} (hm : ∀ {F : Fm} {σ : L2.St} {δ : Sts} {H H' : Hp} {v : V} {d : PyData}, DA (Av F σ δ) H' v d → (fr = true → FrV H H' v) → Vok m F σ δ H H' v d) (σ : L2.St) (H : Hp) (Q : VK) (h : tX m K E (dCall f wa) σ H Q) : tCall (toSp fr f) [] E (tAs K E wa) σ H Q := by
  obtain ⟨F, δ, R, EX, rel, hw, k, o⟩ := h
  refine ⟨F, δ, _, EX, rel, hw, fun args ha vs H1 rel1 kp1 q => ?_, o⟩
  show toSp fr f (vs ++ []) H1 Q E
  rw [List.append_nil]
  refine ⟨Av F σ δ, PotA σ δ, args, R, EX, fun a ha => rel1.isl ha, fun p hp => ⟨pot_av hp, (Kp.refl rel1).2 p hp⟩, q, ha, fun d hd v H' kq dv fr => ?_, fun C hC H' kq => o C hC H' (rel1.kp kq).ke⟩
  exact k d hd v H' (rel1.kp kq) (kp1.trans kq) (hm dv fun z l e1 e2 => kp_none kp1 (fr z l e1 e2))
variable {CX : CXT} {k : Nat} {f : Addr} {fd : FuncData} {ps : List Str} {x : Str} {p pos : Pos} {e : Expr} {es : List Expr} {fD : DF} {wa : DSl}
theorem pd_call (G : FnOk X.prog X.w X.K X.mg X.base CX k f fd ps (toSp false fD)) (hr : Room k X.A) (hg : Gl X x) (hm : X.mg x = some (.ref f)) (hk : PySem.W.keepIn X.K (.ref f) = true) (hb : Binds X.K fd ps []) (hx : Passes CX X E)
    (ha : PA X (e :: es) (tAs X.K E wa)) (hdb : (x == ("__debug__" : Str)) = false := by decide) (he : starEach (e :: es) X.env = (false, eval e X.env) :: starEach es X.env := by rfl) (hpl : (backTo pos (starEach es X.env)).any (·.1) = false := by rfl) :
    PE X (.Call (.Name x p) (e :: es) [] pos) (tX .D X.K E (dCall fD wa)) := PE.imp (pe_call G hr hg hm hk hb .nil hx ha hdb he hpl) (call_read fun h _ => h)
theorem pd_callF (G : FnOk X.prog X.w X.K X.mg X.base CX k f fd ps (toSp true fD)) (hr : Room k X.A) (hg : Gl X x) (hm : X.mg x = some (.ref f)) (hk : PySem.W.keepIn X.K (.ref f) = true) (hb : Binds X.K fd ps []) (hx : Passes CX X E)
    (ha : PA X (e :: es) (tAs X.K E wa)) (hdb : (x == ("__debug__" : Str)) = false := by decide) (he : starEach (e :: es) X.env = (false, eval e X.env) :: starEach es X.env := by rfl) (hpl : (backTo pos (starEach es X.env)).any (·.1) = false := by rfl) :
    PE X (.Call (.Name x p) (e :: es) [] pos) (tX .F X.K E (dCall fD wa)) := PE.imp (pe_call G hr hg hm hk hb .nil hx ha hdb he hpl) (call_read fun h z => ⟨h, z rfl⟩)
end
end Dl
namespace Dl
open PySem PySem.Spec PyProof.Rows L2 _root_.Rd Rk
abbrev DG := PyData → Sts → (Sts → Prop) → Prop
def tG (ix : List Nat) (K : PySem.W.Frag) (w : DG) : TG := fun v σ H Q => ∃ (F : Fm) (δ : Sts) (d : PyData) (R : Sts → Prop), Rel K F σ H δ ∧ DA (Av F σ δ) H v d ∧ w d δ R ∧
  ∀ δ', R δ' → ∀ σ', Rel K F σ' H δ' → Stp F σ H δ σ' H δ' → σ'.length = σ.length → (∀ j, j ∉ ix → σ'[j]? = σ[j]?) → Q σ' H
theorem set_ne {α : Type} {l : List α} {i j : Nat} {x : α} (h : j ≠ i) : (l.set i x)[j]? = l[j]? := List.getElem?_set_ne (Ne.symm h)
theorem set_eq {α : Type} {l : List α} {i : Nat} {x y : α} (h : (l.set i x)[i]? = some y) : y = x := by
  rw [List.getElem?_set] at h
  simp only [if_true] at h
  split at h
  · exact (Option.some.inj h).symm
  · cases h
theorem av_set {F : Fm} {σ : L2.St} {δ : Sts} {i : Nat} {o : Option V} {d : PyData} {a : Addr} (h : Av F (σ.set i o) (δ.set i (.v d)) a) : Av F σ δ a := by
  rcases h with h | ⟨j, h1, h2⟩
  · exact .inl h
  · by_cases z : j = i
    · subst z
      rcases h2 with h2 | ⟨ds, h2⟩ <;> cases set_eq h2
    · rw [set_ne z] at h1 h2
      exact .inr ⟨j, h1, h2⟩
theorem Rel.setv {K : PySem.W.Frag} {F : Fm} {σ : L2.St} {H : Hp} {δ : Sts} (r : Rel K F σ H δ) {i : Nat} {v : V} {d : PyData} (q : DA (Av F σ δ) H v d) : Rel K F (σ.set i (some v)) H (δ.set i (.v d)) where
  len := by rw [List.length_set, List.length_set]; exact r.len
  dom := r.dom
  dom0 := r.dom0
  pt0 := r.pt0
  kx := r.kx
  sl := fun j o x h1 h2 => by
    have wk : ∀ {v : V} {d' : PyData}, DA (Av F σ δ) H v d' → DA (Av F (σ.set i (some v)) (δ.set i (.v d))) H v d' := fun h => h.mv (fun _ _ _ e => e) fun a z => .inl (av_set z)
    by_cases z : j = i
    · subst z
      cases set_eq h1
      cases set_eq h2
      exact ⟨v, rfl, q.mv (fun _ _ _ e => e) fun a z => .inl (av_set z)⟩
    · rw [set_ne z] at h1 h2
      have h := r.sl j o x h1 h2
      cases x with
      | no => trivial
      | v d => obtain ⟨v', e, q'⟩ := h; exact ⟨v', e, q'.mv (fun _ _ _ e => e) fun a z => .inl (av_set z)⟩
      | own ds => obtain ⟨l, xs, e, e2, q', f⟩ := h; exact ⟨l, xs, e, e2, q'.mv (fun _ _ _ e => e) fun a z => .inl (av_set z), f⟩
      | pk ds => obtain ⟨l, xs, e, e2, q', f⟩ := h; exact ⟨l, xs, e, e2, q'.mv (fun _ _ _ e => e) fun a z => .inl (av_set z), f⟩
      | pot => exact h
      | scr => exact h
  inj := fun j k a ds h1 h2 ⟨h3, h4⟩ => by
    by_cases z : j = i
    · subst z; cases set_eq h1
    · rw [set_ne z] at h1 h2
      by_cases z2 : k = i
      · subst z2
        rcases h4 with h4 | ⟨ds, h4⟩ <;> cases set_eq h4
      · rw [set_ne z2] at h3 h4
        exact r.inj j k a ds h1 h2 ⟨h3, h4⟩
theorem Stp.setv {F : Fm} {σ : L2.St} {H : Hp} {δ : Sts} {i : Nat} {o : Option V} {d : PyData} : Stp F σ H δ (σ.set i o) H (δ.set i (.v d)) := ⟨fun _ _ _ e => e, fun a z => .inl (av_set z)⟩
def gN (i : Nat) : DG := fun d δ Q => Q (δ.set i (.v d))
def setAll : Sts → List Nat → List PyData → Sts
  | δ, i :: is, d :: ds => setAll (δ.set i (.v d)) is ds
  | δ, _, _ => δ
def gTN (is : List Nat) : DG := fun d δ Q => match d with
  | .tuple ds => ds.length = is.length ∧ Q (setAll δ is ds)
  | _ => False
section
variable {X : Cx} {E : XK}
theorem PG.imp {e : Expr} {t t' : TG} (h : PG X e t) (i : ∀ v σ H Q, t' v σ H Q → t v σ H Q) : PG X e t' := fun pins s σ H v u Q I r q => h pins s σ H v u Q I r (i v σ H Q q)
theorem pdg_name {e : Expr} {i : Nat} (h : PG X e (gName i)) : PG X e (tG [i] X.K (gN i)) := PG.imp h fun v σ H Q ⟨F, δ, d, R, rel, dv, hw, k⟩ =>
  k _ hw _ (rel.setv dv) Stp.setv (List.length_set ..) fun j hj => set_ne fun z => hj (by rw [z]; exact List.mem_singleton.mpr rfl)
def gNs : List Nat → TGs
  | [] => gNil
  | i :: is => gCons (gName i) (gNs is)
theorem gns_read {K : PySem.W.Frag} {F : Fm} {H : Hp} {Q : L2.St → Hp → Prop} : ∀ (is : List Nat) (vs : List V) (ds : List PyData) (σ : L2.St) (δ : Sts), ds.length = is.length → Rel K F σ H δ → DAs (Av F σ δ) H vs ds →
    (∀ σ', Rel K F σ' H (setAll δ is ds) → Stp F σ H δ σ' H (setAll δ is ds) → σ'.length = σ.length → (∀ j, j ∉ is → σ'[j]? = σ[j]?) → Q σ' H) → gNs is vs σ H Q
  | [], vs, ds, σ, δ, hl, rel, q, k => by
    cases ds with
    | nil => cases q; exact ⟨rfl, k σ rel Stp.refl rfl fun _ _ => rfl⟩
    | cons d ds => cases hl
  | i :: is, vs, ds, σ, δ, hl, rel, q, k => by
    cases ds with
    | nil => cases hl
    | cons d ds =>
      cases q with
      | @cons v vs _ _ q qs =>
        refine ⟨v, vs, rfl, ?_⟩
        refine gns_read is vs ds _ _ (by simpa using hl) (rel.setv q) (qs.mv (fun _ _ _ e => e) fun a z => .inl (av_set z)) fun σ' r' st hl' hj => ?_
        refine k σ' r' (Stp.setv.trans st) (by rw [hl', List.length_set]) fun j hn => ?_
        rw [hj j (fun z => hn (List.mem_cons_of_mem _ z)), set_ne (fun z => hn (by rw [z]; exact List.mem_cons_self))]
theorem pdg_tup {e : Expr} {n : Nat} {is : List Nat} (h : PG X e (gTup X.K n (gNs is))) (hn : is.length = n := by rfl) : PG X e (tG is X.K (gTN is)) := PG.imp h fun v σ H Q ⟨F, δ, d, R, rel, dv, hw, k⟩ => by
  unfold gTN at hw
  split at hw
  · obtain ⟨hl, hR⟩ := hw
    cases dv with
    | @tup a xs ds na e q =>
      exact ⟨a, xs, rfl, SqT.of e, by rw [q.length, hl, hn], gns_read is xs _ σ δ hl rel q fun σ' r' st hl' hj => k _ hR σ' r' st hl' hj⟩
  · exact hw.elim
def ItD (A S : Addr → Prop) (J : It) (items : List PyData) (H1 : Hp) : Prop := items.length ≤ sizeLine ∧ ∀ (H2 : Hp) (A' : Addr → Prop), (∀ b o, S b → H1 b = some o → H2 b = some o) → (∀ b, A' b → A b ∨ H1 b = none) → (∀ a, A' a → ∃ xs, H2 a = some (.lst xs)) →
  (∀ (i : Nat) d, items[i]? = some d → J.go i H2 ∧ ∀ x H3, J.yld i H2 x H3 → Same H2 H3 ∧ DA A' H3 x d) ∧ J.stop items.length H2
def Sx (m : Md) (F : Fm) (σ : L2.St) (δ : Sts) (b : Addr) : Prop :=
  match m with
  | .P => ¬ PotA σ δ b
  | _ => ¬ Av F σ δ b
abbrev DI := Sts → (List PyData → Prop) → XP → Prop
def tI (m : Md) (K : PySem.W.Frag) (E : XK) (w : DI) : TI := fun σ H R => ∃ (F : Fm) (δ : Sts) (R' : List PyData → Prop) (EX : XP), Rel K F σ H δ ∧ w δ R' EX ∧ (∀ items, R' items → ∀ J H', Rel K F σ H' δ → Kp σ δ H H' → ItD (Av F σ δ) (Sx m F σ δ) J items H' → R J H') ∧ Out F E EX
theorem PI.imp {tg e : Expr} {t t' : TI} (h : PI X tg e t) (i : ∀ σ H R, LenOk H → t' σ H R → t σ H R) : PI X tg e t' := fun pins s σ H R I q => h pins s σ H R I (i σ H R (Inv.lens I) q)
theorem PI.len {tg e : Expr} {t : TI} (h : PI X tg e t) : PI X tg e (fun σ H R => t σ H fun J H1 => LenOk H1 → R J H1) := fun pins s σ H R I q => by
  refine thn (h pins s σ H _ I q) fun v s1 h1 => thn h1 fun itv s2 h2 => ?_
  obtain ⟨it, fp, tn, J, H', e, I', T, t0, fo, hR⟩ := h2
  exact ⟨it, fp, tn, J, H', e, I', T, t0, fo, hR (Inv.lens I')⟩
def dItL (w : DE) : DI := fun δ Q EX => w δ (fun d => match d with
  | .list ds => Q ds
  | _ => False) EX
def dItT (w : DE) : DI := fun δ Q EX => w δ (fun d => match d with
  | .tuple ds => Q ds
  | _ => False) EX
theorem seq_stay {A S : Addr → Prop} {H H2 : Hp} {A' : Addr → Prop} {xs : List V} {ds : List PyData} (sA : ∀ b, ¬ A b → S b) (k : ∀ b o, S b → H b = some o → H2 b = some o) (m : ∀ b, A' b → A b ∨ H b = none) (q : DAs A H xs ds) : DAs A' H2 xs ds := q.mv (fun a o n e => k a o (sA a n) e) m
theorem itl_d {K : PySem.W.Frag} {A S : Addr → Prop} {H : Hp} {l : Addr} {xs : List V} {ds : List PyData} (sA : ∀ b, ¬ A b → S b) (sl : S l) (e : H l = some (.lst xs)) (q : DAs A H xs ds) (ln : xs.length ≤ sizeLine) : ItD A S (Itl K l) ds H := by
  refine ⟨by rw [← q.length]; exact ln, fun H2 A' k m dm => ⟨fun i d hd => ?_, xs, SqL.of (k _ _ sl e), by rw [q.length]; exact Nat.le_refl _⟩⟩
  obtain ⟨x, hx, dx⟩ := (seq_stay sA k m q).get i d hd
  refine ⟨⟨xs, x, SqL.of (k _ _ sl e), hx⟩, fun y H3 ⟨e3, hy⟩ => ?_⟩
  subst e3
  have := hy xs (SqL.of (k _ _ sl e))
  rw [hx] at this
  cases this
  exact ⟨Same.refl _, dx⟩
theorem itt_d {K : PySem.W.Frag} {A S : Addr → Prop} {H : Hp} {l : Addr} {xs : List V} {ds : List PyData} (sA : ∀ b, ¬ A b → S b) (sl : S l) (e : H l = some (.tup xs)) (q : DAs A H xs ds) (ln : xs.length ≤ sizeLine) : ItD A S (Itt K l) ds H := by
  refine ⟨by rw [← q.length]; exact ln, fun H2 A' k m dm => ⟨fun i d hd => ?_, xs, SqT.of (k _ _ sl e), by rw [q.length]; exact Nat.le_refl _⟩⟩
  obtain ⟨x, hx, dx⟩ := (seq_stay sA k m q).get i d hd
  refine ⟨⟨xs, x, SqT.of (k _ _ sl e), hx⟩, fun y H3 ⟨e3, hy⟩ => ?_⟩
  subst e3
  have := hy xs (SqT.of (k _ _ sl e))
  rw [hx] at this
  cases this
  exact ⟨Same.refl _, dx⟩
theorem sx_av {m : Md} {F : Fm} {σ : L2.St} {δ : Sts} {b : Addr} (h : ¬ Av F σ δ b) : Sx m F σ δ b := by
  cases m
  · exact h
  · exact fun z => h (pot_av z)
  · exact h
theorem stL {m : Md} {F : Fm} {σ : L2.St} {δ : Sts} {H H' : Hp} {v : V} {ds : List PyData} (h : VD m (Av F σ δ) (PotA σ δ) H v (.list ds)) : ∃ l xs, v = .ref l ∧ Sx m F σ δ l ∧ H l = some (.lst xs) ∧ DAs (Av F σ δ) H xs ds := by
  cases m
  · cases h with | @lst a xs _ n e q => exact ⟨a, xs, rfl, n, e, q⟩
  · rcases h with h | ⟨l, xs, ds', rfl, e, n, e2, q⟩
    · cases h with | @lst a xs _ n e q => exact ⟨a, xs, rfl, sx_av n, e, q⟩
    · cases e; exact ⟨l, xs, rfl, n, e2, q⟩
  · cases h with | @lst a xs _ n e q => exact ⟨a, xs, rfl, n, e, q⟩
theorem stT {m : Md} {F : Fm} {σ : L2.St} {δ : Sts} {H H' : Hp} {v : V} {ds : List PyData} (h : VD m (Av F σ δ) (PotA σ δ) H v (.tuple ds)) : ∃ l xs, v = .ref l ∧ Sx m F σ δ l ∧ H l = some (.tup xs) ∧ DAs (Av F σ δ) H xs ds := by
  cases m
  · cases h with | @tup a xs _ n e q => exact ⟨a, xs, rfl, n, e, q⟩
  · rcases h with h | ⟨l, xs, ds', rfl, e, n, e2, q⟩
    · cases h with | @tup a xs _ n e q => exact ⟨a, xs, rfl, sx_av n, e, q⟩
    · cases e
  · cases h with | @tup a xs _ n e q => exact ⟨a, xs, rfl, n, e, q⟩
theorem vok_vd {m : Md} {F : Fm} {σ : L2.St} {δ : Sts} {H H' : Hp} {v : V} {d : PyData} (h : Vok m F σ δ H H' v d) : VD m (Av F σ δ) (PotA σ δ) H' v d := by
  cases m
  · exact h
  · exact h
  · exact h.1
variable {m : Md} {tg e e' : Expr} {w w' : DE} {p pos tpos : Pos}
theorem pdi_list (h : PE X e (tX m X.K E w)) : PI X tg e (tI m X.K E (dItL w)) := by
  refine PI.imp (PI.len (pi_list h)) fun σ H R _ ⟨F, δ, R', EX, rel, hw, k, o⟩ => ?_
  refine ⟨F, δ, _, EX, rel, hw, fun d hd v H' rel' kp vk => ?_, o⟩
  cases d <;> first | exact (show False from hd).elim | skip
  obtain ⟨l, xs, rfl, sl, e, q⟩ := stL (H' := H') (vok_vd vk)
  exact ⟨l, rfl, ⟨xs, SqL.of e⟩, fun ln => k _ hd _ H' rel' kp (itl_d (fun b => sx_av) sl e q (ln _ _ (.inl e)))⟩
theorem pdi_tup (h : PE X e (tX m X.K E w)) : PI X tg e (tI m X.K E (dItT w)) := by
  refine PI.imp (PI.len (pi_tup h)) fun σ H R _ ⟨F, δ, R', EX, rel, hw, k, o⟩ => ?_
  refine ⟨F, δ, _, EX, rel, hw, fun d hd v H' rel' kp vk => ?_, o⟩
  cases d <;> first | exact (show False from hd).elim | skip
  obtain ⟨l, xs, rfl, sl, e, q⟩ := stT (H' := H') (vok_vd vk)
  exact ⟨l, rfl, ⟨xs, SqT.of e⟩, fun ln => k _ hd _ H' rel' kp (itt_d (fun b => sx_av) sl e q (ln _ _ (.inr e)))⟩
def rngD (lo : Int) (n : Nat) : List PyData := (List.range n).map fun (i : Nat) => .int (lo + i)
theorem rng_get {lo : Int} {n i : Nat} {d : PyData} (h : (rngD lo n)[i]? = some d) : i < n ∧ d = .int (lo + i) := by
  unfold rngD at h
  rw [List.getElem?_map] at h
  by_cases z : i < n
  · rw [List.getElem?_range z] at h
    exact ⟨z, (Option.some.inj h).symm⟩
  · rw [List.getElem?_eq_none (by rw [List.length_range]; omega)] at h
    cases h
theorem rng_len {lo : Int} {n : Nat} : (rngD lo n).length = n := by unfold rngD; rw [List.length_map, List.length_range]
theorem itr_d {A S : Addr → Prop} {H : Hp} {lo : Int} {n : Nat} (hn : n ≤ 1000000) : ItD A S (Itr lo n) (rngD lo n) H := by
  refine ⟨by rw [rng_len]; exact Nat.le_trans hn lineM, fun H2 A' k m dm => ⟨fun i d hd => ?_, by rw [rng_len]; exact Nat.le_refl _⟩⟩
  obtain ⟨hi, rfl⟩ := rng_get hd
  exact ⟨hi, fun x H3 ⟨e1, e2⟩ => by subst e1 e2; exact ⟨Same.refl _, .int _⟩⟩
def dRng1 (w : DE) : DI := fun δ Q EX => w δ (fun d => match d with
  | .int j => (-1000000 ≤ j ∧ j ≤ 1000000) ∧ Q (rngD 0 j.toNat)
  | _ => False) EX
def dRng2 (w w' : DE) : DI := fun δ Q EX => w δ (fun d => w' δ (fun d' => match d, d' with
  | .int i, .int j => (-1000000 ≤ i ∧ i ≤ 1000000 ∧ -1000000 ≤ j ∧ j ≤ 1000000 ∧ j - i ≤ 1000000) ∧ Q (rngD i (j - i).toNat)
  | _, _ => False) EX) EX
theorem pdi_rng1 (hg : Gl X "range") (hm : X.mg "range" = none) (h : PE X e (tX .P X.K E w)) (hs : notStar e = true := by rfl) : PI X tg (.Call (.Name "range" p) [e] [] pos) (tI m X.K E (dRng1 w)) := by
  refine PI.imp (pi_range1 hg hm (pa_c h pa_nil hs) (by rw [star_of hs]; rfl)) fun σ H R _ ⟨F, δ, R', EX, rel, hw, k, o⟩ => ?_
  refine ⟨F, δ, _, EX, rel, hw, fun d hd v H' rel' kp vk => ?_, o⟩
  cases d <;> first | exact (show False from hd).elim | skip
  obtain ⟨⟨h1, h2⟩, hR⟩ := hd
  rw [DP.int vk]
  exact ⟨_, rfl, by omega, by omega, k _ hR _ H' rel' kp (itr_d (by omega))⟩
theorem pdi_rng2 (hg : Gl X "range") (hm : X.mg "range" = none) (h : PE X e (tX .P X.K E w)) (h' : PE X e' (tX .P X.K E w')) (hs : notStar e = true := by rfl) (hs' : notStar e' = true := by rfl) : PI X tg (.Call (.Name "range" p) [e, e'] [] pos) (tI m X.K E (dRng2 w w')) := by
  refine PI.imp (pi_range2 hg hm (pa_c h (pa_c h' pa_nil hs') hs) (by rw [star_of hs, star_of hs']; rfl) (hs2 := by rw [star_of hs']; rfl)) fun σ H R _ ⟨F, δ, R', EX, rel, hw, k, o⟩ => ?_
  refine ⟨F, δ, _, EX, rel, hw, fun d hd v H1 rel1 kp1 vk => ⟨F, δ, _, EX, rel1, hd, fun d2 hd2 v2 H2 rel2 kp2 vk2 => ?_, o⟩, o⟩
  cases d <;> cases d2 <;> first | exact (show False from hd2).elim | skip
  obtain ⟨⟨h1, h2, h3, h4, h5⟩, hR⟩ := hd2
  rw [DP.int vk, DP.int vk2]
  exact ⟨_, _, rfl, ⟨by omega, by omega, by omega, by omega⟩, k _ hR _ H2 rel2 (kp1.trans kp2) (itr_d (by omega))⟩
theorem pair_da {A' : Addr → Prop} {H2 : Hp} {r : Addr} {x y : V} {d d' : PyData} (dm : ∀ a, A' a → ∃ xs, H2 a = some (.lst xs)) (n : H2 r = none) (q : DA A' H2 x d) (q' : DA A' H2 y d') : DA A' (upd H2 r (.tup [x, y])) (.ref r) (.tuple [d, d']) :=
  .tup (fun z => by obtain ⟨xs, e⟩ := dm r z; rw [n] at e; cases e) upd_same (.cons (q.same (same_upd n)) (.cons (q'.same (same_upd n)) .nil))
def enumD (ds : List PyData) : List PyData := (List.range ds.length).map fun (i : Nat) => .tuple [.int i, ds.getD i .none]
theorem enum_get {ds : List PyData} {i : Nat} {d : PyData} (h : (enumD ds)[i]? = some d) : ∃ e, ds[i]? = some e ∧ d = .tuple [.int i, e] := by
  unfold enumD at h
  rw [List.getElem?_map] at h
  by_cases z : i < ds.length
  · rw [List.getElem?_range z] at h
    refine ⟨ds[i], List.getElem?_eq_getElem z, ?_⟩
    rw [← Option.some.inj h]
    show PyData.tuple [.int i, ds.getD i .none] = _
    rw [List.getD_eq_getElem?_getD, List.getElem?_eq_getElem z]
    rfl
  · rw [List.getElem?_eq_none (by rw [List.length_range]; omega)] at h
    cases h
theorem enum_len {ds : List PyData} : (enumD ds).length = ds.length := by unfold enumD; rw [List.length_map, List.length_range]
def dEnL (w : DE) : DI := fun δ Q EX => w δ (fun d => match d with
  | .list ds => Q (enumD ds)
  | _ => False) EX
variable {elts : List Expr}
theorem pdi_enumL {x1} (hg : Gl X "enumerate") (hm : X.mg "enumerate" = none) (h : PE X e (tX m X.K E w)) (hs : notStar e = true := by rfl) : PI X (.Tuple elts x1 tpos) (.Call (.Name "enumerate" p) [e] [] pos) (tI m X.K E (dEnL w)) := by
  refine PI.imp (PI.len (pi_enum hg hm (pa_c h pa_nil hs) (by rw [star_of hs]; rfl))) fun σ H R _ ⟨F, δ, R', EX, rel, hw, k, o⟩ => ?_
  refine ⟨F, δ, _, EX, rel, hw, fun d hd v H' rel' kp vk => ?_, o⟩
  cases d <;> first | exact (show False from hd).elim | skip
  obtain ⟨l, xs, rfl, sl, e, q⟩ := stL (H' := H') (vok_vd vk)
  refine ⟨l, xs, rfl, e, fun ln => k _ hd _ H' rel' kp ⟨by rw [enum_len, ← q.length]; exact ln _ _ (.inl e), fun H2 A' kk mm dm => ⟨fun i d hd' => ?_, xs, kk _ _ sl e, by rw [enum_len, q.length]; exact Nat.le_refl _⟩⟩⟩
  obtain ⟨d', hd2, rfl⟩ := enum_get hd'
  obtain ⟨x, hx, dx⟩ := (seq_stay (S := Sx m F σ δ) (fun b => sx_av) kk mm q).get i d' hd2
  refine ⟨⟨xs, x, kk _ _ sl e, hx⟩, fun y H3 ⟨r, x', nr, hx', e1, e2⟩ => ?_⟩
  subst e1 e2
  have := hx' xs (kk _ _ sl e)
  rw [hx] at this
  cases this
  exact ⟨same_upd nr, pair_da dm nr (.int _) dx⟩
end
end Dl
namespace Dl
open PySem PySem.Spec PyProof.Rows L2 _root_.Rd Rk
def capSl : Option Sl → Sl
  | some (.v d) => .v d
  | some (.own ds) => .pk ds
  | some (.pk ds) => .pk ds
  | some .pot => .pot
  | _ => .no
def capD (cap : List (Option Nat)) (δ : Sts) : Sts := cap.map fun o => match o with
  | none => .no
  | some j => capSl δ[j]?
theorem capS_get {cap : List (Option Nat)} {σ : L2.St} {i : Nat} {o : Option V} (h : (capS cap σ)[i]? = some o) : (cap[i]? = some none ∧ o = none) ∨ ∃ j, cap[i]? = some (some j) ∧ o = (σ[j]?).getD none := by
  unfold capS at h
  rw [List.getElem?_map] at h
  obtain ⟨c, hc, rfl⟩ := Option.map_eq_some_iff.mp h
  cases c with
  | none => exact .inl ⟨hc, rfl⟩
  | some j => exact .inr ⟨j, hc, rfl⟩
theorem capD_get {cap : List (Option Nat)} {δ : Sts} {i : Nat} {x : Sl} (h : (capD cap δ)[i]? = some x) : (cap[i]? = some none ∧ x = .no) ∨ ∃ j, cap[i]? = some (some j) ∧ x = capSl δ[j]? := by
  unfold capD at h
  rw [List.getElem?_map] at h
  obtain ⟨c, hc, rfl⟩ := Option.map_eq_some_iff.mp h
  cases c with
  | none => exact .inl ⟨hc, rfl⟩
  | some j => exact .inr ⟨j, hc, rfl⟩
theorem cap_both {cap : List (Option Nat)} {σ : L2.St} {δ : Sts} {i : Nat} {o : Option V} {x : Sl} (h1 : (capS cap σ)[i]? = some o) (h2 : (capD cap δ)[i]? = some x) (hx : x ≠ .no) : ∃ (j : Nat) (y : Sl), δ[j]? = some y ∧ x = capSl (some y) ∧ o = (σ[j]?).getD none := by
  rcases capD_get h2 with ⟨_, e⟩ | ⟨j, hj, e⟩
  · exact absurd e hx
  · rcases capS_get h1 with ⟨z, _⟩ | ⟨j', hj', e'⟩
    · rw [hj] at z; cases z
    · rw [hj] at hj'
      cases hj'
      cases e2 : δ[j]? with
      | none => rw [e2] at e; exact absurd e hx
      | some y => exact ⟨j, y, e2, by rw [e, e2], e'⟩
theorem cap_pot {cap : List (Option Nat)} {σ : L2.St} {δ : Sts} {a : Addr} (h : PotA (capS cap σ) (capD cap δ) a) : PotA σ δ a := by
  obtain ⟨i, h1, h2⟩ := h
  obtain ⟨j, y, hy, e, eo⟩ := cap_both h1 h2 (fun z => by cases z)
  cases y <;> first | (cases e; done) | skip
  refine ⟨j, ?_, hy⟩
  cases e2 : σ[j]? with
  | none => rw [e2] at eo; cases eo
  | some o' => rw [e2] at eo; exact congrArg some eo.symm
def inF (A1 : Addr → Prop) (cap : List (Option Nat)) (σ : L2.St) (δ : Sts) (H : Hp) : Fm := ⟨H, A1, PotA (capS cap σ) (capD cap δ)⟩
theorem inF_av {A1 : Addr → Prop} {cap : List (Option Nat)} {σ : L2.St} {δ : Sts} {H : Hp} (h : ∀ a, PotA σ δ a → A1 a) {a : Addr} : Av (inF A1 cap σ δ H) (capS cap σ) (capD cap δ) a ↔ A1 a := by
  constructor
  · rintro (z | ⟨i, h1, h2⟩)
    · exact z
    · rcases h2 with h2 | ⟨ds, h2⟩
      · exact h a (cap_pot ⟨i, h1, h2⟩)
      · obtain ⟨j, y, hy, e, eo⟩ := cap_both h1 h2 (fun z => by cases z)
        cases y <;> cases e
  · exact .inl
theorem in_rel {K : PySem.W.Frag} {F : Fm} {σ : L2.St} {δ : Sts} {H1 H3 : Hp} {A1 : Addr → Prop} {cap : List (Option Nat)} (rel : Rel K F σ H1 δ) (hA : ∀ a, Av F σ δ a → A1 a) (hN : ∀ a, A1 a → Av F σ δ a ∨ H1 a = none)
    (dm : ∀ a, A1 a → ∃ xs, H3 a = some (.lst xs)) (kp : Kp σ δ H1 H3) : Rel K (inF A1 cap σ δ H3) (capS cap σ) H3 (capD cap δ) where
  len := by unfold capS capD; rw [List.length_map, List.length_map]
  dom := dm
  dom0 := dm
  pt0 := fun p hp => ⟨hA p (pot_av (cap_pot hp)), kp.2 p (cap_pot hp)⟩
  kx := fun b o _ e => e
  sl := fun i o x h1 h2 => by
    have iv : ∀ {a : Addr}, Av (inF A1 cap σ δ H3) (capS cap σ) (capD cap δ) a → A1 a := fun {a} => (inF_av fun a z => hA a (pot_av z)).mp
    have mv : ∀ {v : V} {d : PyData}, DA (Av F σ δ) H1 v d → DA (Av (inF A1 cap σ δ H3) (capS cap σ) (capD cap δ)) H3 v d := fun q => q.mv (fun a o n e => kp.1 a o (fun z => n (pot_av z)) e) fun a z => hN a (iv z)
    have mvs : ∀ {v : List V} {d : List PyData}, DAs (Av F σ δ) H1 v d → DAs (Av (inF A1 cap σ δ H3) (capS cap σ) (capD cap δ)) H3 v d := fun q => q.mv (fun a o n e => kp.1 a o (fun z => n (pot_av z)) e) fun a z => hN a (iv z)
    cases x with
    | no => trivial
    | own ds =>
      obtain ⟨j, y, hy, e, eo⟩ := cap_both h1 h2 (fun z => by cases z)
      cases y <;> cases e
    | scr =>
      obtain ⟨j, y, hy, e, eo⟩ := cap_both h1 h2 (fun z => by cases z)
      cases y <;> cases e
    | v d =>
      obtain ⟨j, y, hy, e, eo⟩ := cap_both h1 h2 (fun z => by cases z)
      cases y <;> first | (cases e; done) | skip
      cases e
      obtain ⟨x, hx⟩ := rel.lt hy
      obtain ⟨v, rfl, q⟩ := rel.sl j _ _ hx hy
      rw [hx] at eo
      exact ⟨v, eo, mv q⟩
    | pk ds =>
      obtain ⟨j, y, hy, e, eo⟩ := cap_both h1 h2 (fun z => by cases z)
      cases y <;> first | (cases e; done) | skip
      · cases e
        obtain ⟨x, hx⟩ := rel.lt hy
        obtain ⟨l, xs, rfl, e, q, f⟩ := rel.sl j _ _ hx hy
        rw [hx] at eo
        have np := rel.own_pot hy hx
        exact ⟨l, xs, eo, kp.1 _ _ np e, mvs q, xs, kp.1 _ _ np e, fun z => np (cap_pot z)⟩
      · cases e
        obtain ⟨x, hx⟩ := rel.lt hy
        obtain ⟨l, xs, rfl, e, q, ys, f, f2⟩ := rel.sl j _ _ hx hy
        rw [hx] at eo
        have np : ¬ PotA σ δ l := by
          rintro ⟨j, j1, j2⟩
          obtain ⟨p, m, e1, _, w⟩ := rel.sl j _ _ j1 j2
          cases e1
          rcases w with w | w
          · exact f2 w
          · rw [w] at f; cases f
        exact ⟨l, xs, eo, kp.1 _ _ np e, mvs q, xs, kp.1 _ _ np e, fun z => np (cap_pot z)⟩
    | pot =>
      obtain ⟨j, y, hy, e, eo⟩ := cap_both h1 h2 (fun z => by cases z)
      cases y <;> first | (cases e; done) | skip
      obtain ⟨x, hx⟩ := rel.lt hy
      obtain ⟨p, n, rfl, e, q⟩ := rel.sl j _ _ hx hy
      rw [hx] at eo
      obtain ⟨m, em⟩ := kp.2 p ⟨j, hx, hy⟩
      have eo' : o = some (.ref p) := eo
      subst eo'
      exact ⟨p, m, rfl, em, .inl ⟨i, h1, h2⟩⟩
  inj := fun i j a ds h1 h2 _ => by
    obtain ⟨j, y, hy, e, eo⟩ := cap_both h2 h1 (fun z => by cases z)
    cases y <;> cases e
theorem wk_of : ∀ {σ σ' : L2.St}, σ'.length = σ.length → (∀ (i : Nat) v, σ[i]? = some (some v) → σ'[i]? = some (some v)) → Wk σ σ'
  | [], [], _, _ => trivial
  | [], _ :: _, h, _ => by cases h
  | _ :: _, [], h, _ => by cases h
  | none :: a, x :: b, h, g => wk_of (σ := a) (σ' := b) (by simpa using h) fun i v e => by simpa using g (i + 1) v (by simpa using e)
  | some u :: a, x :: b, h, g => by
    have h0 := g 0 u rfl
    simp only [List.getElem?_cons_zero, Option.some.injEq] at h0
    subst h0
    exact ⟨rfl, wk_of (σ := a) (σ' := b) (by simpa using h) fun i v e => by simpa using g (i + 1) v (by simpa using e)⟩
def freeT (cap : List (Option Nat)) (ix : List Nat) : Bool := ix.all fun i => match cap[i]? with
  | some none => true
  | _ => false
theorem cap_wk {cap : List (Option Nat)} {ix : List Nat} (hf : freeT cap ix = true) {σ σ4 : L2.St} (hl : σ4.length = (capS cap σ).length) (hj : ∀ j, j ∉ ix → σ4[j]? = (capS cap σ)[j]?) : Wk (capS cap σ) σ4 := by
  refine wk_of hl fun i v e => ?_
  by_cases z : i ∈ ix
  · have := List.all_eq_true.mp hf i z
    rcases capS_get e with ⟨_, e2⟩ | ⟨j, hj2, _⟩
    · cases e2
    · rw [hj2] at this; cases this
  · rw [hj i z]; exact e
def XF : XP := fun _ => False
@[irreducible] def CompR (items : List PyData) (wg : DG) (wt : DT) (we : DE) (δ : Sts) (Q : PyData → Prop) : Prop := ∃ Iv : Nat → List PyData → Prop, Iv 0 [] ∧
  (∀ (i : Nat) acc d, items[i]? = some d → Iv i acc → wg d δ fun δ4 => wt δ4 (fun b => if b = true then we δ4 (fun e => Iv (i + 1) (acc ++ [e])) XF else Iv (i + 1) acc) XF) ∧ ∀ acc, Iv items.length acc → Q (.list acc)
def dComp (cap : List (Option Nat)) (wi : DI) (wg : DG) (wt : DT) (we : DE) : DE := fun δ Q EX => wi δ (fun items => CompR items wg wt we (capD cap δ) Q) EX
def dNoT : DT := fun _ Q _ => Q true
section
variable {X : Cx} {E : XK}
theorem outF {F : Fm} {E : XK} : Out F E XF := fun _ z => z.elim
theorem PTs.imp {es : List Expr} {t t' : TT} (h : PTs X es t) (i : ∀ σ H Q, t' σ H Q → t σ H Q) : PTs X es t' := fun pins s σ H Q I q => h pins s σ H Q I (i σ H Q q)
theorem pdts_nil : PTs X [] (tT X.K E dNoT) := PTs.imp pts_nil fun σ H Q ⟨F, δ, R, EX, rel, hw, k, o⟩ => k _ hw H rel (Kp.refl rel)
theorem in_pots {K : PySem.W.Frag} {A1 : Addr → Prop} {cap : List (Option Nat)} {σ σ4 : L2.St} {δ δ4 : Sts} {H3 H4 : Hp} (r : Rel K (inF A1 cap σ δ H3) σ4 H4 δ4) (hk : ∀ b o, ¬ PotA σ δ b → H4 b = some o → H3 b = none → False) {b : Addr} (h : PotA σ4 δ4 b) : PotA σ δ b := by
  obtain ⟨i, h1, h2⟩ := h
  obtain ⟨p, n, e, hp, w⟩ := r.sl i _ _ h1 h2
  cases e
  rcases w with w | w
  · exact cap_pot w
  · by_cases z : PotA σ δ b
    · exact z
    · exact (hk b _ z hp w).elim
theorem turn_in {K : PySem.W.Frag} {F : Fm} {σ : L2.St} {δ : Sts} {H1 H3 : Hp} {cap : List (Option Nat)} {ix : List Nat} {wg : DG} {wt : DT} {A1 : Addr → Prop} {x : V} {d : PyData} {inner : L2.St → Hp → (Hp → Prop) → Prop} {kk : Hp → Prop} {T : Sts → Prop} {N : Prop}
    (hf : freeT cap ix = true) (rel : Rel K F σ H1 δ) (hA : ∀ a, Av F σ δ a → A1 a) (hN : ∀ a, A1 a → Av F σ δ a ∨ H1 a = none) (dm : ∀ a, A1 a → ∃ xs, H3 a = some (.lst xs)) (kp : Kp σ δ H1 H3) (dx : DA A1 H3 x d)
    (h : wg d (capD cap δ) fun δ4 => wt δ4 (fun b => if b = true then T δ4 else N) XF)
    (hT : ∀ σ4 δ4 H5, T δ4 → Rel K (inF A1 cap σ δ H3) σ4 H5 δ4 → Kp σ δ H3 H5 → (∀ b, PotA σ4 δ4 b → PotA σ δ b) → inner σ4 H5 kk) (hF : N → ∀ H5, Kp σ δ H3 H5 → kk H5) :
    bOf (capS cap σ) (tG ix K wg) (tT K E0 wt) inner x H3 kk := by
  have ri := in_rel (cap := cap) rel hA hN dm kp
  have iv : ∀ {a : Addr}, Av (inF A1 cap σ δ H3) (capS cap σ) (capD cap δ) a → A1 a := fun {a} => (inF_av fun a z => hA a (pot_av z)).mp
  refine ⟨inF A1 cap σ δ H3, capD cap δ, d, _, ri, dx.mv (fun _ _ _ e => e) fun a z => .inl (iv z), h, fun δ4 h4 σ4 r4 st4 l4 j4 => ⟨cap_wk hf l4 j4, inF A1 cap σ δ H3, δ4, _, XF, r4, h4, fun b hb H5 r5 kp5 => ?_, outF⟩⟩
  have pots : ∀ {b : Addr}, PotA σ4 δ4 b → PotA σ δ b := fun z => in_pots r4 (fun b o _ e1 e2 => by rw [e2] at e1; cases e1) z
  have K5 : Kp σ δ H3 H5 := by
    refine ⟨fun b o n e => kp5.1 b o (fun z => n (pots z)) e, fun b hb => ?_⟩
    by_cases z : PotA σ4 δ4 b
    · exact kp5.2 b z
    · obtain ⟨n, e⟩ := kp.2 b hb
      exact ⟨n, kp5.1 _ _ z e⟩
  exact if_imp hb (fun z => hT σ4 δ4 H5 z r5 K5 fun b => pots) fun z => hF z H5 K5
structure Lp (σ : L2.St) (δ : Sts) (A1 : Addr → Prop) (p : Addr) (H1 H2 : Hp) (acc : List PyData) : Prop where
  kp : Kp σ δ H1 H2
  at_ : ∃ ys, H2 p = some (.lst ys) ∧ DAs A1 H2 ys acc
theorem Lp.step {σ : L2.St} {δ : Sts} {A1 : Addr → Prop} {p : Addr} {H1 H2 H3 : Hp} {acc : List PyData} (hpA : ∀ a, PotA σ δ a → A1 a) (hpn : ¬ PotA σ δ p) (h : Lp σ δ A1 p H1 H2 acc) (k : Kp σ δ H2 H3) : Lp σ δ A1 p H1 H3 acc := by
  obtain ⟨ys, e, q⟩ := h.at_
  exact ⟨h.kp.trans k, ys, k.1 _ _ hpn e, q.mv (fun a o n e => k.1 a o (fun z => n (hpA a z)) e) fun a z => .inl z⟩
theorem elt_in {K : PySem.W.Frag} {σ σ4 : L2.St} {δ δ4 : Sts} {H1 H3 H5 : Hp} {cap : List (Option Nat)} {we : DE} {A1 : Addr → Prop} {p : Addr} {acc : List PyData} {kk : Hp → Prop} {G : PyData → Prop}
    (hpA : A1 p) (hP : ∀ a, PotA σ δ a → A1 a) (hp1 : H1 p = none) (hpn : ¬ PotA σ δ p) (lp : Lp σ δ A1 p H1 H5 acc) (hl : acc.length < sizeLine) (r5 : Rel K (inF A1 cap σ δ H3) σ4 H5 δ4) (pots : ∀ b, PotA σ4 δ4 b → PotA σ δ b)
    (h : we δ4 G XF) (hk : ∀ e, G e → ∀ H', Lp σ δ A1 p H1 H' (acc ++ [e]) → kk H') : bElt p (tX .D K E0 we) σ4 H5 kk := by
  refine ⟨inF A1 cap σ δ H3, δ4, G, XF, r5, h, fun e he v H6 r6 kp6 dv => ?_, outF⟩
  have k56 : Kp σ δ H5 H6 := by
    refine ⟨fun b o n e => kp6.1 b o (fun z => n (pots b z)) e, fun b hb => ?_⟩
    by_cases z : PotA σ4 δ4 b
    · exact kp6.2 b z
    · obtain ⟨n, e⟩ := lp.kp.2 b hb
      exact ⟨n, kp6.1 _ _ z e⟩
  obtain ⟨k6, ys, e6, q6⟩ := lp.step hP hpn k56
  have up : ∀ {b : Addr} {o : HO}, ¬ A1 b → H6 b = some o → upd H6 p (.lst (ys ++ [v])) b = some o := fun {b o} n e => by rw [upd_ne (fun z => n (by rw [z]; exact hpA))]; exact e
  refine ⟨ys, e6, by rw [q6.length]; exact hl, hk e he _ ⟨⟨fun b o n e => ?_, fun b hb => ?_⟩, ys ++ [v], upd_same, DAs.app (q6.mv (fun _ _ => up) fun a z => .inl z) (.cons (DA.mv dv (fun a o n e => up (fun z => n (.inl z)) e) fun a z => .inl (.inl z)) .nil)⟩⟩
  · rw [upd_ne (fun z => by rw [z, hp1] at e; cases e)]
    exact k6.1 b o n e
  · rw [upd_ne (fun z => hpn (by rw [← z]; exact hb))]
    exact k6.2 b hb
theorem pd_comp {M : List Str} {cap : List (Option Nat)} {elt tg iter : Expr} {ifs : List Expr} {scope : Scope} {pos : Pos} {ix : List Nat} {wi : DI} {wg : DG} {wt : DT} {we : DE} (hc : X.calm = true) (ok : capOk X.N X.env.scope M scope cap = true) (hf : freeT cap ix = true)
    (hi : PI X tg iter (tI .P X.K E wi)) (hb : ∀ cl ex s3 H3 C, PG (blk X M scope cl ex s3 H3 C) tg (tG ix X.K wg) ∧ PTs (blk X M scope cl ex s3 H3 C) ifs (tT X.K E0 wt) ∧ PE (blk X M scope cl ex s3 H3 C) elt (tX .D X.K E0 we))
    (hs : ∀ x, foldedSetIterable iter X.env x = pure x := by intro _; rfl) : PE X (.ListComp elt [⟨tg, iter, ifs, 0⟩] scope pos) (tX .F X.K E (dComp cap wi wg wt we)) := by
  refine PE.imp (pe_lcomp hc ok hi hb hs) fun σ H Q ⟨F, δ, R, EX, rel, hw, k, o⟩ => ?_
  refine ⟨F, δ, _, EX, rel, hw, fun items hC J H1 rel1 kp1 ⟨ln, it⟩ p hp => ?_, o⟩
  unfold CompR at hC
  obtain ⟨Iv, i0, step, fin⟩ := hC
  have hpn : ¬ PotA σ δ p := fun z => by obtain ⟨xs, e⟩ := rel1.isl (pot_av (F := F) z); rw [hp] at e; cases e
  let A1 : Addr → Prop := fun a => Av F σ δ a ∨ a = p
  have hP : ∀ a, PotA σ δ a → A1 a := fun a z => .inl (pot_av z)
  have hN : ∀ a, A1 a → Av F σ δ a ∨ H1 a = none := fun a z => z.elim .inl fun z => .inr (by rw [z]; exact hp)
  have dmK : ∀ {H2 : Hp}, Kp σ δ H1 H2 → (∃ ys, H2 p = some (.lst ys)) → ∀ a, A1 a → ∃ xs, H2 a = some (.lst xs) := fun {H2} k2 e2 a z => by
    rcases z with z | z
    · exact (rel1.kp k2).isl z
    · rw [z]; exact e2
  refine loop_by items.length (fun i H2 => i ≤ items.length ∧ ∃ acc, Iv i acc ∧ acc.length ≤ i ∧ Lp σ δ A1 p H1 H2 acc) ⟨Nat.zero_le _, [], i0, Nat.le_refl _, Kp.same rel1 (same_upd hp), [], upd_same, .nil⟩ (fun i H2 hi ⟨_, acc, iv, hl, lp⟩ => ?_) fun H2 ⟨_, acc, iv, hl, lp⟩ => ?_
  · obtain ⟨k2, ys, e2, q2⟩ := lp
    obtain ⟨go, _⟩ := it H2 A1 (fun b o n e => k2.1 b o n e) hN (dmK k2 ⟨ys, e2⟩)
    have hd : items[i]? = some items[i] := List.getElem?_eq_getElem hi
    obtain ⟨g1, g2⟩ := go i _ hd
    refine ⟨g1, fun x H3 y kk hk => ?_⟩
    obtain ⟨s3, dx⟩ := g2 x H3 y
    have k23 := Kp.same (rel1.kp k2) s3
    have lp3 : Lp σ δ A1 p H1 H3 acc := Lp.step hP hpn ⟨k2, ys, e2, q2⟩ k23
    refine turn_in hf rel1 (fun a z => .inl z) hN (dmK lp3.kp ⟨ys, s3 _ _ e2⟩) lp3.kp dx (step i acc _ hd iv) (fun σ4 δ4 H5 h5 r5 k5 pots => ?_) fun h5 H5 k5 => hk _ ⟨hi, acc, h5, by omega, lp3.step hP hpn k5⟩
    exact elt_in (.inr rfl) hP hp hpn (lp3.step hP hpn k5) (by omega) r5 pots h5 fun e he H' lp' => hk _ ⟨hi, acc ++ [e], he, by rw [List.length_append]; show _ + 1 ≤ _; omega, lp'⟩
  · obtain ⟨k2, ys, e2, q2⟩ := lp
    obtain ⟨_, st⟩ := it H2 A1 (fun b o n e => k2.1 b o n e) hN (dmK k2 ⟨ys, e2⟩)
    refine ⟨st, k _ (fin acc iv) (.ref p) H2 (rel1.kp k2) (kp1.trans k2) ⟨.lst (fun z => ?_) e2 (q2.mv (fun _ _ _ e => e) fun a z => .inl (.inl z)), fun l e1 _ => ?_⟩⟩
    · obtain ⟨xs, e⟩ := rel1.isl z
      rw [hp] at e; cases e
    · cases e1
      exact kp_none kp1 hp
theorem cm_map {items : List PyData} {wg : DG} {we : DE} {δ : Sts} {Q : PyData → Prop} (G : PyData → PyData)
    (h : ∀ d ∈ items, ∀ (k2 : PyData → Prop), k2 (G d) → wg d δ fun δ4 => we δ4 k2 XF) (q : Q (.list (items.map G))) :
    CompR items wg dNoT we δ Q := by
  unfold CompR
  refine ⟨fun i acc => acc = (items.take i).map G, by simp, fun i acc d hd e => ?_, fun acc e => by rw [e, List.take_length]; exact q⟩
  have hs : (items.take (i + 1)).map G = (items.take i).map G ++ [G d] := by
    rw [List.take_add_one, hd, List.map_append]
    simp
  have e : acc = (items.take i).map G := e
  have hh := h d (List.mem_of_getElem? hd) (fun e => acc ++ [e] = (items.take (i + 1)).map G) (by show acc ++ [G d] = _; rw [hs, e])
  simp only [dNoT, if_true]
  exact hh
end
end Dl
namespace Dl
open PySem PySem.Spec PyProof.Rows L2 _root_.Rd Rk
theorem dkV_inj : ∀ {a b : List (Int × Int)}, dkV a = dkV b → a = b
  | [], [], _ => rfl
  | [], _ :: _, h => by cases h
  | _ :: _, [], h => by cases h
  | p :: a, q :: b, h => by
    have h := List.cons.inj (show (Sum.inl p.1, V.int p.2) :: dkV a = (Sum.inl q.1, V.int q.2) :: dkV b from h)
    have h1 := Prod.mk.inj h.1
    rw [dkV_inj h.2, Prod.ext (Sum.inl.inj h1.1) (V.int.inj h1.2)]
mutual
theorem da_uniq {A B : Addr → Prop} {H : Hp} : ∀ (d d' : PyData) (x : V), DA A H x d → DA B H x d' → d = d'
  | .none, d', _, .non, h => by cases h; rfl
  | .bool _, d', _, .bl _, h => by cases h; rfl
  | .int _, d', _, .int _, h => by cases h; rfl
  | .str _, d', _, .str _ _, h => by cases h; rfl
  | .tuple ds, d', _, .tup (xs := xs) n e q, h => by
    cases h with
    | @tup a ys es n' e' q' =>
      rw [e] at e'
      cases e'
      rw [das_uniq ds es xs q q']
    | @lst a ys es n' e' q' => rw [e] at e'; cases e'
    | @dct a kvs' ds' n' e' q' => rw [e] at e'; cases e'
  | .list ds, d', _, .lst (xs := xs) n e q, h => by
    cases h with
    | @tup a ys es n' e' q' => rw [e] at e'; cases e'
    | @lst a ys es n' e' q' =>
      rw [e] at e'
      cases e'
      rw [das_uniq ds es xs q q']
    | @dct a kvs' ds' n' e' q' => rw [e] at e'; cases e'
  | .dict _, d', _, .dct (kvs := kvs) n e q, h => by
    cases h with
    | @tup a ys es n' e' q' => rw [e] at e'; cases e'
    | @lst a ys es n' e' q' => rw [e] at e'; cases e'
    | @dct a kvs' ds' n' e' q' =>
      rw [e] at e'
      rw [q, q', dkV_inj (HO.dK.inj (Option.some.inj e'))]
theorem das_uniq {A B : Addr → Prop} {H : Hp} : ∀ (ds es : List PyData) (xs : List V), DAs A H xs ds → DAs B H xs es → ds = es
  | [], es, _, .nil, h => by cases h; rfl
  | d :: ds, es, _, .cons q qs, h => by
    cases h with
    | @cons x xs e es q' qs' => rw [da_uniq d e _ q q', das_uniq ds es _ qs qs']
end
mutual
theorem da_off {A : Addr → Prop} {H : Hp} {l : Addr} {rs : List PyData} (root : DA A H (.ref l) (.list rs)) : ∀ (d : PyData) (x : V), sizeOf d < sizeOf (PyData.list rs) → DA A H x d → DA (fun a => A a ∨ a = l) H x d
  | .none, _, _, .non => .non
  | .bool _, _, _, .bl _ => .bl _
  | .int _, _, _, .int _ => .int _
  | .str _, _, _, .str _ c => .str _ c
  | .tuple ds, _, hs, .tup (a := a) (xs := xs) n e q => .tup (fun z => z.elim n fun z => by subst z; cases root with | @lst _ ys _ n' e' q' => (rw [e] at e'; cases e')) e (das_off root ds xs (by simp at hs ⊢; omega) q)
  | .list ds, _, hs, .lst (a := a) (xs := xs) n e q => .lst (fun z => z.elim n fun z => by
      subst z
      have := da_uniq _ _ _ root (.lst n e q)
      rw [this] at hs
      omega) e (das_off root ds xs (by simp at hs ⊢; omega) q)
  | .dict _, _, hs, .dct (a := a) n e q => .dct (fun z => z.elim n fun z => by subst z; cases root with | @lst _ ys _ n' e' q' => (rw [e] at e'; cases e')) e q
theorem das_off {A : Addr → Prop} {H : Hp} {l : Addr} {rs : List PyData} (root : DA A H (.ref l) (.list rs)) : ∀ (ds : List PyData) (xs : List V), sizeOf ds < sizeOf (PyData.list rs) → DAs A H xs ds → DAs (fun a => A a ∨ a = l) H xs ds
  | [], _, _, .nil => .nil
  | d :: ds, _, hs, .cons q qs => .cons (da_off root d _ (by simp at hs ⊢; omega) q) (das_off root ds _ (by simp at hs ⊢; omega) qs)
end
theorem DA.items {A : Addr → Prop} {H : Hp} {l : Addr} {ds : List PyData} (root : DA A H (.ref l) (.list ds)) : ∃ xs, H l = some (.lst xs) ∧ DAs (fun a => A a ∨ a = l) H xs ds := by
  have root' := root
  cases root with
  | @lst _ xs _ n e q => exact ⟨xs, e, das_off root' ds xs (by simp) q⟩
structure DEnds where
  nx : Sts → Prop
  rt : PyData → Prop
  rtF : PyData → Prop
  bk : Sts → Prop
  ct : Sts → Prop
  ex : XP
abbrev DS := DEnds → Sts → Prop
structure Nx (K : PySem.W.Frag) (F : Fm) (σ : L2.St) (H : Hp) (δ : Sts) (R : Sts → Prop) (T : L2.St → Hp → Prop) : Prop where
  go : ∀ δ', R δ' → ∀ σ' H', Rel K F σ' H' δ' → Stp F σ H δ σ' H' δ' → T σ' H'
structure Ends1 (K : PySem.W.Frag) (E : XK) (F : Fm) (σ : L2.St) (H : Hp) (δ : Sts) (DD : DEnds) (D : Ends) : Prop where
  nx : Nx K F σ H δ DD.nx D.nx
  rt : ∀ d, DD.rt d → ∀ v H', Ke F H' → DA F.A0 H' v d → D.rt v H'
  rtF : ∀ d, DD.rtF d → ∀ v H', Ke F H' → DA F.A0 H' v d → FrV F.H0 H' v → D.rt v H'
  bk : Nx K F σ H δ DD.bk D.bk
  ct : Nx K F σ H δ DD.ct D.ct
  ex : Out F E DD.ex
def tS (K : PySem.W.Frag) (E : XK) (w : DS) : TS := fun D σ H => ∃ (F : Fm) (δ : Sts) (DD : DEnds), Rel K F σ H δ ∧ w DD δ ∧ Ends1 K E F σ H δ DD D
theorem Nx.step {K : PySem.W.Frag} {F : Fm} {σ σ1 : L2.St} {H H1 : Hp} {δ δ1 : Sts} {R : Sts → Prop} {T : L2.St → Hp → Prop} (h : Nx K F σ H δ R T) (s : Stp F σ H δ σ1 H1 δ1) : Nx K F σ1 H1 δ1 R T := ⟨fun δ' hR σ' H' r st => h.go δ' hR σ' H' r (s.trans st)⟩
theorem Ends1.step {K : PySem.W.Frag} {E : XK} {F : Fm} {σ σ1 : L2.St} {H H1 : Hp} {δ δ1 : Sts} {DD : DEnds} {D : Ends} (h : Ends1 K E F σ H δ DD D) (s : Stp F σ H δ σ1 H1 δ1) : Ends1 K E F σ1 H1 δ1 DD D := ⟨h.nx.step s, h.rt, h.rtF, h.bk.step s, h.ct.step s, h.ex⟩
section
variable {X : Cx} {E : XK}
theorem PS.imp {e : Stmt} {t t' : TS} (h : PS X e t) (i : ∀ D σ H, t' D σ H → t D σ H) : PS X e t' := fun pins s σ H D I q => h pins s σ H D I (i D σ H q)
theorem PSs.imp {e : List Stmt} {t t' : TS} (h : PSs X e t) (i : ∀ D σ H, t' D σ H → t D σ H) : PSs X e t' := fun pins s σ H D I q => h pins s σ H D I (i D σ H q)
def dSeq (a b : DS) : DS := fun D δ => a { D with nx := b D } δ
def dSkip : DS := fun D δ => D.nx δ
theorem pds_snil : PSs X [] (tS X.K E dSkip) := PSs.imp pss_nil fun D σ H ⟨F, δ, DD, rel, hw, en⟩ => en.nx.go δ hw σ H rel Stp.refl
theorem pds_one {st : Stmt} {w : DS} (h : PS X st (tS X.K E w)) : PSs X [st] (tS X.K E w) := pss_one h
theorem pds_cons {st : Stmt} {rest : List Stmt} {w w' : DS} (h : PS X st (tS X.K E w)) (h' : PSs X rest (tS X.K E w')) : PSs X (st :: rest) (tS X.K E (dSeq w w')) := by
  refine PSs.imp (pss_cons h h') fun D σ H ⟨F, δ, DD, rel, hw, en⟩ => ?_
  exact ⟨F, δ, _, rel, hw, ⟨fun δ' h' σ' H' r st => ⟨F, δ', DD, r, h', en.step st⟩⟩, en.rt, en.rtF, en.bk, en.ct, en.ex⟩
def dSet (i : Nat) (we : DE) : DS := fun D δ => we δ (fun d => D.nx (δ.set i (.v d))) D.ex
def dSetF (i : Nat) (we : DE) : DS := fun D δ => we δ (fun d => match d with
  | .list ds => D.nx (δ.set i (.own ds))
  | _ => False) D.ex
def dSetP (i : Nat) (we : DE) : DS := fun D δ => we δ (fun d => match d with
  | .list [.int _] => D.nx (δ.set i .pot)
  | _ => False) D.ex
variable {i : Nat} {e : Expr} {st : Stmt} {we wi : DE}
theorem pds_set (h : PS X st (tAsg (tX .D X.K E we) (gName i))) : PS X st (tS X.K E (dSet i we)) := by
  refine PS.imp h fun D σ H ⟨F, δ, DD, rel, hw, en⟩ => ?_
  refine ⟨F, δ, _, DD.ex, rel, hw, fun d hd v H' rel' kp vk => ?_, en.ex⟩
  exact en.nx.go _ hd _ H' (rel'.setv vk) ((Stp.kp kp).trans Stp.setv)
theorem av_own {F : Fm} {σ : L2.St} {δ : Sts} {i : Nat} {l : Addr} {x : Sl} {a : Addr} (h : Av F (σ.set i (some (.ref l))) (δ.set i x) a) : Av F σ δ a ∨ a = l := by
  rcases h with h | ⟨j, h1, h2⟩
  · exact .inl (.inl h)
  · by_cases z : j = i
    · subst z
      cases set_eq h1
      exact .inr rfl
    · rw [set_ne z] at h1 h2
      exact .inl (.inr ⟨j, h1, h2⟩)
theorem Rel.seto {K : PySem.W.Frag} {F : Fm} {σ : L2.St} {H H' : Hp} {δ : Sts} {l : Addr} {x : Sl} (r : Rel K F σ H δ) (r' : Rel K F σ H' δ) (kp : Kp σ δ H H') (n : H l = none) (hx : ∀ A : Addr → Prop, (∀ a, A a → Av F σ δ a ∨ H a = none) → (∀ a, A a → Av F σ δ a ∨ a = l) → SlOk K F H' A (some (.ref l)) x) :
    Rel K F (σ.set i (some (.ref l))) H' (δ.set i x) ∧ Stp F σ H δ (σ.set i (some (.ref l))) H' (δ.set i x) := by
  have nA : ∀ a, Av F (σ.set i (some (.ref l))) (δ.set i x) a → Av F σ δ a ∨ H a = none := fun a z => (av_own z).elim .inl fun z => .inr (by rw [z]; exact n)
  have kk : ∀ a o, ¬ Av F σ δ a → H a = some o → H' a = some o := fun a o m e => kp.1 a o (fun z => m (pot_av z)) e
  refine ⟨?_, ⟨kk, nA⟩⟩
  exact {
    len := by rw [List.length_set, List.length_set]; exact r.len
    dom := r'.dom
    dom0 := r'.dom0
    pt0 := r'.pt0
    kx := r'.kx
    sl := fun j o y h1 h2 => by
      by_cases z : j = i
      · subst z
        cases set_eq h1
        cases set_eq h2
        exact hx _ nA fun a z => av_own z
      · rw [set_ne z] at h1 h2
        have h := r.sl j o y h1 h2
        have h' := r'.sl j o y h1 h2
        cases y with
        | no => trivial
        | v d => obtain ⟨v', e, q'⟩ := h; exact ⟨v', e, q'.mv kk nA⟩
        | own ds => obtain ⟨l', xs, rfl, e2, q', f⟩ := h; exact ⟨l', xs, rfl, kp.1 _ _ (r.own_pot h2 h1) e2, q'.mv kk nA, f⟩
        | pk ds =>
          obtain ⟨l', xs, rfl, e2, q', ys, f, f2⟩ := h
          refine ⟨l', xs, rfl, kp.1 _ _ ?_ e2, q'.mv kk nA, ys, f, f2⟩
          rintro ⟨j, j1, j2⟩
          obtain ⟨p, m, e1, _, w⟩ := r.sl j _ _ j1 j2
          cases e1
          rcases w with w | w
          · exact f2 w
          · rw [w] at f; cases f
        | pot => exact h'
        | scr => exact h'
    inj := fun j k a ds h1 h2 ⟨h3, h4⟩ => by
      have ne : ∀ (k : Nat), k ≠ i → σ[k]? = some (some (.ref l)) → (δ[k]? = some .pot ∨ ∃ ds, δ[k]? = some (.own ds)) → False := fun k _ h3 h4 => by
        obtain ⟨xs, e⟩ := r.isl (a := l) (.inr ⟨k, h3, h4⟩)
        rw [n] at e; cases e
      by_cases z : j = i
      · subst z
        cases set_eq h2
        by_cases z2 : k = j
        · exact z2.symm
        · rw [set_ne z2] at h3 h4
          exact (ne k z2 h3 h4).elim
      · rw [set_ne z] at h1 h2
        by_cases z2 : k = i
        · subst z2
          cases set_eq h3
          exact (ne j z h2 (.inr ⟨ds, h1⟩)).elim
        · rw [set_ne z2] at h3 h4
          exact r.inj j k a ds h1 h2 ⟨h3, h4⟩ }
theorem fresh0 {K : PySem.W.Frag} {F : Fm} {σ : L2.St} {H : Hp} {δ : Sts} (r : Rel K F σ H δ) {l : Addr} (n : H l = none) : F.H0 l = none := by
  cases e : F.H0 l with
  | none => rfl
  | some o =>
    by_cases z : F.pt l
    · obtain ⟨_, m, e'⟩ := r.pt0 l z
      rw [n] at e'; cases e'
    · rw [r.kx l o z e] at n; cases n
theorem pds_setF (h : PS X st (tAsg (tX .F X.K E we) (gName i))) : PS X st (tS X.K E (dSetF i we)) := by
  refine PS.imp h fun D σ H ⟨F, δ, DD, rel, hw, en⟩ => ?_
  refine ⟨F, δ, _, DD.ex, rel, hw, fun d hd v H' rel' kp ⟨vk, fr⟩ => ?_, en.ex⟩
  obtain ⟨ds, rfl⟩ : ∃ ds, d = .list ds := by cases d <;> first | exact ⟨_, rfl⟩ | exact (show False from hd).elim
  obtain ⟨l, rfl⟩ : ∃ l, v = .ref l := by cases vk; exact ⟨_, rfl⟩
  obtain ⟨xs, e, q⟩ := DA.items vk
  have n := fr l rfl ⟨xs, e⟩
  obtain ⟨r2, st⟩ := rel.seto (i := i) (x := .own ds) rel' kp n fun A hA hB => ⟨l, xs, rfl, e, q.mv (fun _ _ _ e => e) fun a z => .inl (hB a z), fresh0 rel n⟩
  exact en.nx.go _ hd _ H' r2 st
theorem pds_setP (h : PS X st (tAsg (tX .F X.K E we) (gName i))) : PS X st (tS X.K E (dSetP i we)) := by
  refine PS.imp h fun D σ H ⟨F, δ, DD, rel, hw, en⟩ => ?_
  refine ⟨F, δ, _, DD.ex, rel, hw, fun d hd v H' rel' kp ⟨vk, fr⟩ => ?_, en.ex⟩
  split at hd
  · cases vk with
    | @lst l xs ds na e q =>
      have n := fr l rfl ⟨xs, e⟩
      cases q with
      | cons q1 q2 =>
        cases q1
        cases q2
        obtain ⟨r2, st⟩ := rel.seto (i := i) (x := .pot) rel' kp n fun A hA hB => ⟨l, _, rfl, e, .inr (fresh0 rel n)⟩
        exact en.nx.go _ hd _ H' r2 st
  · exact hd.elim
def dAsg (we : DE) (wg : DG) : DS := fun D δ => we δ (fun d => wg d δ D.nx) D.ex
theorem pds_asg {ix : List Nat} {wg : DG} (h : PS X st (tAsg (tX .D X.K E we) (tG ix X.K wg))) : PS X st (tS X.K E (dAsg we wg)) := by
  refine PS.imp h fun D σ H ⟨F, δ, DD, rel, hw, en⟩ => ?_
  refine ⟨F, δ, _, DD.ex, rel, hw, fun d hd v H' rel' kp vk => ?_, en.ex⟩
  exact ⟨F, δ, d, _, rel', vk, hd, fun δ' h' σ' r' st' _ _ => en.nx.go _ h' _ H' r' ((Stp.kp kp).trans st')⟩
def dPar (i j : Nat) (wa : DAr) : DS := fun D δ => wa δ (fun ds => match ds with
  | [a, b] => D.nx ((δ.set i (.v a)).set j (.v b))
  | _ => False) D.ex
theorem pds_par {n i j : Nat} {wa : DAr} (h : PS X st (tPar i j (tAr n .D X.K E wa))) : PS X st (tS X.K E (dPar i j wa)) := by
  refine PS.imp h fun D σ H ⟨F, δ, DD, rel, hw, en⟩ => ?_
  refine ⟨F, δ, _, DD.ex, rel, hw, fun ds hds _ vs H' rel' kp q => ?_, en.ex⟩
  split at hds
  · cases q with
    | cons q1 q2 => cases q2 with
      | cons q2 q3 =>
        cases q3
        refine ⟨_, _, rfl, en.nx.go _ hds _ H' ((rel'.setv q1).setv (DA.mv q2 (fun _ _ _ e => e) fun a z => .inl (av_set z))) (((Stp.kp kp).trans Stp.setv).trans Stp.setv)⟩
  · exact hds.elim
def dRet (we : DE) : DS := fun D δ => we δ D.rt D.ex
def dRetF (we : DE) : DS := fun D δ => we δ D.rtF D.ex
theorem da_a0 {F : Fm} {σ : L2.St} {δ : Sts} {H : Hp} {v : V} {d : PyData} (h : DA (Av F σ δ) H v d) : DA F.A0 H v d := h.mv (fun _ _ _ e => e) fun a z => .inl (.inl z)
theorem pds_ret {e : Expr} {pos : Pos} (h : PE X e (tX .D X.K E we)) : PS X (.Return (some e) pos) (tS X.K E (dRet we)) := by
  refine PS.imp (ps_ret h) fun D σ H ⟨F, δ, DD, rel, hw, en⟩ => ?_
  exact ⟨F, δ, _, DD.ex, rel, hw, fun d hd v H' rel' kp vk => en.rt d hd v H' rel'.ke (da_a0 vk), en.ex⟩
theorem pds_retF {e : Expr} {pos : Pos} (h : PE X e (tX .F X.K E we)) : PS X (.Return (some e) pos) (tS X.K E (dRetF we)) := by
  refine PS.imp (ps_ret h) fun D σ H ⟨F, δ, DD, rel, hw, en⟩ => ?_
  exact ⟨F, δ, _, DD.ex, rel, hw, fun d hd v H' rel' kp vk => en.rtF d hd v H' rel'.ke (da_a0 vk.1) fun l e1 e2 => fresh0 rel (vk.2 l e1 e2), en.ex⟩
def dRetO (i : Nat) : DS := fun D δ => match δ[i]? with
  | some (.own ds) => D.rtF (.list ds)
  | some (.v d) => D.rt d
  | _ => False
theorem pds_retO {e : Expr} {pos : Pos} (h : PE X e (tVar i)) : PS X (.Return (some e) pos) (tS X.K E (dRetO i)) := by
  refine PS.imp (ps_ret h) fun D σ H ⟨F, δ, DD, rel, hw, en⟩ => ?_
  unfold dRetO at hw
  split at hw
  · rename_i ds hd
    obtain ⟨x, hx⟩ := rel.lt hd
    obtain ⟨l, xs, rfl, e, q, f⟩ := rel.sl i _ _ hx hd
    refine ⟨_, hx, en.rtF _ hw _ H rel.ke (.lst (fun z => ?_) e (q.mv (fun _ _ _ e => e) fun a z => .inl (.inl z))) fun l' e1 _ => by cases e1; exact f⟩
    obtain ⟨ys, e'⟩ := rel.dom0 l z
    rw [f] at e'; cases e'
  · rename_i d hd
    obtain ⟨x, hx⟩ := rel.lt hd
    obtain ⟨v, rfl, q⟩ := rel.sl i _ _ hx hd
    exact ⟨v, hx, en.rt _ hw _ H rel.ke (da_a0 q)⟩
  · exact hw.elim
def dIf (t : DT) (a b : DS) : DS := fun D δ => t δ (fun c => if c = true then a D δ else b D δ) D.ex
theorem pds_if {c : Expr} {a b : List Stmt} {pos : Pos} {t : DT} {w w' : DS} (hc : PT X c (tT X.K E t)) (ha : PSs X a (tS X.K E w)) (hb : PSs X b (tS X.K E w')) : PS X (.If c a b pos) (tS X.K E (dIf t w w')) := by
  refine PS.imp (ps_if hc ha hb) fun D σ H ⟨F, δ, DD, rel, hw, en⟩ => ?_
  exact ⟨F, δ, _, DD.ex, rel, hw, fun b hb H' rel' kp => if_imp hb (fun z => ⟨F, δ, DD, rel', z, en.step (Stp.kp kp)⟩) fun z => ⟨F, δ, DD, rel', z, en.step (Stp.kp kp)⟩, en.ex⟩
def dAug (i : Nat) (rD : PyData → PyData → (PyData → Prop) → Prop) (we : DE) : DS := fun D δ => match δ[i]? with
  | some (.v d) => we δ (fun e => rD d e (fun z => D.nx (δ.set i (.v z)))) D.ex
  | _ => False
theorem pds_aug {r : TIp} {rD : PyData → PyData → (PyData → Prop) → Prop} (hd : OpDn r rD) (h : PS X st (tAug i (tX .P X.K E we) (fun x y H Q => LenOk H → r x y H Q))) : PS X st (tS X.K E (dAug i rD we)) := by
  refine PS.imp h fun D σ H ⟨F, δ, DD, rel, hw, en⟩ => ?_
  unfold dAug at hw
  split at hw
  · rename_i d hd'
    obtain ⟨x, hx⟩ := rel.lt hd'
    obtain ⟨v, rfl, q⟩ := rel.sl i _ _ hx hd'
    refine ⟨v, hx, F, δ, _, DD.ex, rel, hw, fun e he y H' rel' kp yk ln => ?_, en.ex⟩
    refine hd (Av F σ δ) (PotA σ δ) H' v y d e _ _ ln (fun a ha => rel'.isl ha) (.inl (kp.da q)) yk he fun z hz u H2 s du => ?_
    exact en.nx.go _ hz _ H2 ((rel'.same s).setv du) (((Stp.kp kp).trans (Stp.kp (Kp.same rel' s))).trans Stp.setv)
  · exact hw.elim
theorem odn_ii0 {g : Int → Int → Int} : OpDn (ipI g) (ii0 fun i j => .int (g i j)) := fun A P H x y d1 d2 R Q ln dm hx hy h k => by
  cases d1 <;> cases d2 <;> first | exact h.elim | skip
  rw [hx.int, hy.int]
  exact ⟨_, _, rfl, rfl, k _ h _ H (Same.refl H) (.int _)⟩
theorem odn_mul : OpDn (rI CMul fun i j => .int (i * j)) (iiD CMul fun i j => .int (i * j)) := fun A P H x y d1 d2 R Q ln dm hx hy h k => by
  cases d1 <;> cases d2 <;> first | exact h.elim | skip
  rw [hx.int, hy.int]
  exact ⟨_, _, rfl, rfl, h.1, k _ h.2 _ H (Same.refl H) (.int _)⟩
theorem PIp.len {op : Operator} {t : TIp} (h : PIp X op t) : PIp X op (fun x y H Q => LenOk H → t x y H Q) := fun pins s σ H x y v u Q I rx ry q => h pins s σ H x y v u Q I rx ry (q (Inv.lens I))
theorem Rel.mut {K : PySem.W.Frag} {F : Fm} {σ : L2.St} {H : Hp} {δ : Sts} (r : Rel K F σ H δ) {l : Addr} {ds ds' : List PyData} {ys : List V} (h : δ[i]? = some (.own ds)) (hx : σ[i]? = some (some (.ref l))) (q : DAs (Av F σ δ) H ys ds') :
    Rel K F σ (upd H l (.lst ys)) (δ.set i (.own ds')) ∧ Stp F σ H δ σ (upd H l (.lst ys)) (δ.set i (.own ds')) := by
  have hl : Av F σ δ l := .inr ⟨i, hx, .inr ⟨ds, h⟩⟩
  obtain ⟨l', xs0, e0, el, _, f⟩ := r.sl i _ _ hx h
  cases e0
  have lt : i < δ.length := (List.getElem?_eq_some_iff.mp h).1
  have ge : (δ.set i (.own ds'))[i]? = some (.own ds') := by rw [List.getElem?_set_self lt]
  have kk : ∀ a o, ¬ Av F σ δ a → H a = some o → upd H l (.lst ys) a = some o := fun a o n e => by rw [upd_ne (fun z => n (by rw [z]; exact hl))]; exact e
  have av : ∀ a, Av F σ (δ.set i (.own ds')) a → Av F σ δ a := fun a z => by
    rcases z with z | ⟨j, h1, h2⟩
    · exact .inl z
    · by_cases z : j = i
      · subst z; exact .inr ⟨j, h1, .inr ⟨ds, h⟩⟩
      · rw [set_ne z] at h2; exact .inr ⟨j, h1, h2⟩
  have up : ∀ {b : Addr} {o : HO}, b ≠ l → H b = some o → upd H l (.lst ys) b = some o := fun n e => by rw [upd_ne n]; exact e
  refine ⟨?_, ⟨kk, fun a z => .inl (av a z)⟩⟩
  exact {
    len := by rw [List.length_set]; exact r.len
    dom := fun a ha => by
      by_cases z : a = l
      · rw [z]; exact ⟨_, upd_same⟩
      · obtain ⟨xs, e⟩ := r.dom a ha; exact ⟨xs, up z e⟩
    dom0 := r.dom0
    pt0 := fun p hp => by
      obtain ⟨h1, n, e⟩ := r.pt0 p hp
      refine ⟨h1, n, up (fun z => ?_) e⟩
      obtain ⟨xs, e'⟩ := r.dom0 p h1
      rw [z, f] at e'; cases e'
    kx := fun b o n e => up (fun z => by rw [z, f] at e; cases e) (r.kx b o n e)
    sl := fun j o y h1 h2 => by
      by_cases z : j = i
      · subst z
        rw [ge] at h2
        cases h2
        rw [hx] at h1
        cases h1
        exact ⟨l, ys, rfl, upd_same, q.mv kk fun a z => .inl (av a z), f⟩
      · rw [set_ne z] at h2
        have hh := r.sl j o y h1 h2
        cases y with
        | no => trivial
        | v d => obtain ⟨v', e, q'⟩ := hh; exact ⟨v', e, q'.mv kk fun a z => .inl (av a z)⟩
        | own es =>
          obtain ⟨l', xs, rfl, e2, q', f'⟩ := hh
          exact ⟨l', xs, rfl, up (fun z2 => z (r.inj j i l' es h2 h1 ⟨by rw [z2]; exact hx, .inr ⟨ds, h⟩⟩)) e2, q'.mv kk fun a z => .inl (av a z), f'⟩
        | pk es =>
          obtain ⟨l', xs, rfl, e2, q', ys', f', f2⟩ := hh
          exact ⟨l', xs, rfl, up (fun z2 => by rw [z2, f] at f'; cases f') e2, q'.mv kk fun a z => .inl (av a z), ys', f', f2⟩
        | pot =>
          obtain ⟨p, n, rfl, e2, w⟩ := hh
          refine ⟨p, n, rfl, up (fun z2 => ?_) e2, w⟩
          subst z2
          exact r.own_pot h hx ⟨j, h1, h2⟩
        | scr => exact hh
    inj := fun j k a es h1 h2 ⟨h3, h4⟩ => by
      have h4' : δ[k]? = some .pot ∨ ∃ ds, δ[k]? = some (.own ds) := by
        by_cases z : k = i
        · subst z; exact .inr ⟨ds, h⟩
        · rw [set_ne z] at h4; exact h4
      by_cases z : j = i
      · subst z; exact r.inj j k a ds h h2 ⟨h3, h4'⟩
      · rw [set_ne z] at h1; exact r.inj j k a es h1 h2 ⟨h3, h4'⟩ }
def dApp (i : Nat) (we : DE) : DS := fun D δ => match δ[i]? with
  | some (.own ds) => we δ (fun d => ds.length < 1000000 ∧ D.nx (δ.set i (.own (ds ++ [d])))) D.ex
  | _ => False
theorem pds_app (h : PS X st (tDrop (tBM X.K "list" rAppend (tVar i) (tCons (tX .D X.K E we) tNil)))) : PS X st (tS X.K E (dApp i we)) := by
  refine PS.imp h fun D σ H ⟨F, δ, DD, rel, hw, en⟩ => ?_
  unfold dApp at hw
  split at hw
  · rename_i ds hd
    obtain ⟨x, hx⟩ := rel.lt hd
    obtain ⟨l, xs, rfl, e, q, f⟩ := rel.sl i _ _ hx hd
    have np := rel.own_pot hd hx
    refine ⟨.ref l, hx, .inl ⟨rfl, _, SqL.of e⟩, F, δ, _, DD.ex, rel, hw, fun d ⟨hl, hn⟩ v H' rel' kp vk => ?_, en.ex⟩
    have q' := kp.das q
    refine ⟨l, xs, v, rfl, rfl, kp.1 _ _ np e, Nat.lt_of_lt_of_le (by rw [q.length]; exact hl) lineM, ?_⟩
    obtain ⟨r2, st⟩ := rel'.mut hd hx (q'.app (.cons vk .nil))
    exact en.nx.go _ hn _ _ r2 ((Stp.kp kp).trans st)
  · exact hw.elim
def dPut (i : Nat) (wi we : DE) : DS := fun D δ => we δ (fun d => match δ[i]? with
  | some (.own ds) => wi δ (fun z => match z with
    | .int k => ∃ j, ixN ds.length k = some j ∧ D.nx (δ.set i (.own (ds.set j d)))
    | _ => False) D.ex
  | _ => False) D.ex
theorem pds_put (h : PS X st (tAsg (tX .D X.K E we) (gSub (tVar i) (tX .P X.K E wi) rSetL))) : PS X st (tS X.K E (dPut i wi we)) := by
  refine PS.imp h fun D σ H ⟨F, δ, DD, rel, hw, en⟩ => ?_
  refine ⟨F, δ, _, DD.ex, rel, hw, fun d hd v H1 rel1 kp1 vk => ?_, en.ex⟩
  split at hd
  · rename_i ds hds
    obtain ⟨x, hx⟩ := rel1.lt hds
    obtain ⟨l, xs, rfl, e, q, f⟩ := rel1.sl i _ _ hx hds
    have np := rel1.own_pot hds hx
    refine ⟨.ref l, hx, F, δ, _, DD.ex, rel1, hd, fun z hz y H2 rel2 kp2 yk => ?_, en.ex⟩
    cases z <;> first | exact (show False from hz).elim | skip
    obtain ⟨j, hj, hn⟩ := hz
    refine ⟨l, xs, _, j, rfl, DP.int yk, kp2.1 _ _ np e, by rw [q.length]; exact hj, ?_⟩
    obtain ⟨r2, st⟩ := rel2.mut hds hx ((kp2.das q).set (kp2.da vk) j)
    exact en.nx.go _ hn _ _ r2 (((Stp.kp kp1).trans (Stp.kp kp2)).trans st)
  · exact hd.elim
def dem1 (δ : Sts) (i : Nat) : Sts := match δ[i]? with
  | some (.own ds) => δ.set i (.v (.list ds))
  | _ => δ
def demS (is : List Nat) (δ : Sts) : Sts := is.foldl dem1 δ
theorem dem_one {K : PySem.W.Frag} {F : Fm} {σ : L2.St} {H : Hp} {δ : Sts} (r : Rel K F σ H δ) {i : Nat} {ds : List PyData} (h : δ[i]? = some (.own ds)) : Rel K F σ H (δ.set i (.v (.list ds))) ∧ Stp F σ H δ σ H (δ.set i (.v (.list ds))) := by
  obtain ⟨x, hx⟩ := r.lt h
  obtain ⟨l, xs, rfl, e, q, f⟩ := r.sl i _ _ hx h
  have hs : σ.set i (some (.ref l)) = σ := by
    refine List.ext_getElem? fun j => ?_
    by_cases z : j = i
    · subst z; rw [hx, List.getElem?_set_self (List.getElem?_eq_some_iff.mp hx).1]
    · rw [set_ne z]
  have lt : i < δ.length := (List.getElem?_eq_some_iff.mp h).1
  have avn : ∀ a, Av F σ (δ.set i (.v (.list ds))) a → Av F σ δ a ∧ a ≠ l := fun a z => by
    rcases z with z | ⟨j, h1, h2⟩
    · refine ⟨.inl z, fun e' => ?_⟩
      obtain ⟨ys, e2⟩ := r.dom0 a z
      rw [e', f] at e2; cases e2
    · by_cases z : j = i
      · subst z; rw [List.getElem?_set_self lt] at h2; rcases h2 with h2 | ⟨_, h2⟩ <;> cases h2
      · rw [set_ne z] at h2
        refine ⟨.inr ⟨j, h1, h2⟩, fun e' => ?_⟩
        subst e'
        exact z (r.inj i j a ds h hx ⟨h1, h2⟩).symm
  have wk : ∀ {v : V} {d : PyData}, DA (Av F σ δ) H v d → DA (Av F σ (δ.set i (.v (.list ds)))) H v d := fun q => q.mv (fun _ _ _ e => e) fun a z => .inl (avn a z).1
  have wks : ∀ {v : List V} {d : List PyData}, DAs (Av F σ δ) H v d → DAs (Av F σ (δ.set i (.v (.list ds)))) H v d := fun q => q.mv (fun _ _ _ e => e) fun a z => .inl (avn a z).1
  refine ⟨?_, ⟨fun _ _ _ e => e, fun a z => .inl (avn a z).1⟩⟩
  exact {
    len := by rw [List.length_set]; exact r.len
    dom := r.dom
    dom0 := r.dom0
    pt0 := r.pt0
    kx := r.kx
    sl := fun j o y h1 h2 => by
      by_cases z : j = i
      · subst z
        rw [List.getElem?_set_self lt] at h2
        cases h2
        rw [hx] at h1
        cases h1
        exact ⟨_, rfl, .lst (fun z => (avn l z).2 rfl) e (wks q)⟩
      · rw [set_ne z] at h2
        have hh := r.sl j o y h1 h2
        cases y with
        | no => trivial
        | v d => obtain ⟨v', e, q'⟩ := hh; exact ⟨v', e, wk q'⟩
        | own es => obtain ⟨l', xs, e1, e2, q', f'⟩ := hh; exact ⟨l', xs, e1, e2, wks q', f'⟩
        | pk es => obtain ⟨l', xs, e1, e2, q', f'⟩ := hh; exact ⟨l', xs, e1, e2, wks q', f'⟩
        | pot => exact hh
        | scr => exact hh
    inj := fun j k a es h1 h2 ⟨h3, h4⟩ => by
      have h4' : δ[k]? = some .pot ∨ ∃ ds, δ[k]? = some (.own ds) := by
        by_cases z : k = i
        · subst z; exact .inr ⟨ds, h⟩
        · rw [set_ne z] at h4; exact h4
      by_cases z : j = i
      · subst z; rw [List.getElem?_set_self lt] at h1; cases h1
      · rw [set_ne z] at h1; exact r.inj j k a es h1 h2 ⟨h3, h4'⟩ }
theorem dem_all {K : PySem.W.Frag} {F : Fm} {σ : L2.St} {H : Hp} : ∀ (is : List Nat) {δ : Sts}, Rel K F σ H δ → Rel K F σ H (demS is δ) ∧ Stp F σ H δ σ H (demS is δ)
  | [], δ, r => ⟨r, Stp.refl⟩
  | i :: is, δ, r => by
    show Rel K F σ H (demS is (dem1 δ i)) ∧ Stp F σ H δ σ H (demS is (dem1 δ i))
    unfold dem1
    split
    · rename_i ds hd
      obtain ⟨r1, s1⟩ := dem_one r hd
      obtain ⟨r2, s2⟩ := dem_all is r1
      exact ⟨r2, s1.trans s2⟩
    · exact dem_all is r
theorem pds_dem {w : DS} (is : List Nat) (h : PS X st (tS X.K E w)) : PS X st (tS X.K E fun D δ => w D (demS is δ)) := by
  refine PS.imp h fun D σ H ⟨F, δ, DD, rel, hw, en⟩ => ?_
  obtain ⟨r, s⟩ := dem_all is rel
  exact ⟨F, _, DD, r, hw, en.step s⟩
@[irreducible] def ForR (items : List PyData) (wg : DG) (wb : DS) (D : DEnds) (δ : Sts) : Prop := ∃ Iv : Nat → Sts → Prop, Iv 0 δ ∧ (∀ (i : Nat) d δ, items[i]? = some d → Iv i δ → wg d δ fun δ2 => wb { D with nx := Iv (i + 1), ct := Iv (i + 1), bk := D.nx } δ2) ∧ ∀ δ, Iv items.length δ → D.nx δ
def dFor (wi : DI) (wg : DG) (wb : DS) : DS := fun D δ => wi δ (fun items => ForR items wg wb D δ) D.ex
theorem pds_for {tg iter : Expr} {body : List Stmt} {pos : Pos} {ix : List Nat} {wi : DI} {wg : DG} {wb : DS} (hp : PassesOwn (model X.prog X.w) X.A X.env X.xe) (hc : X.calm = true) (hi : PI X tg iter (tI .D X.K E wi)) (hg : PG X tg (tG ix X.K wg)) (hb : PSs X body (tS X.K E wb))
    (hs : ∀ x, foldedSetIterable iter X.env x = pure x := by intro _; rfl) : PS X (.For tg iter body [] pos) (tS X.K E (dFor wi wg wb)) := by
  refine PS.imp (ps_for hp hc hi hg hb hs) fun D σ H ⟨F, δ, DD, rel, hw, en⟩ => ?_
  refine ⟨F, δ, _, DD.ex, rel, hw, fun items hC J H1 rel1 kp1 ⟨ln, it⟩ => ?_, en.ex⟩
  unfold ForR at hC
  obtain ⟨Iv, i0, step, fin⟩ := hC
  have en1 := en.step (Stp.kp (F := F) kp1)
  refine ⟨fun i m σ' H' => m = items.length - i ∧ i ≤ items.length ∧ ∃ δ', Iv i δ' ∧ Rel X.K F σ' H' δ' ∧ Stp F σ H1 δ σ' H' δ', ⟨_, rfl, Nat.zero_le _, δ, i0, rel1, Stp.refl⟩, ?_⟩
  rintro i m σ' H' ⟨rfl, hi', δ', iv, r', st'⟩
  obtain ⟨go, stop⟩ := it H' (Av F σ' δ') st'.1 st'.2 fun a ha => r'.isl ha
  by_cases hlt : i < items.length
  · have hd : items[i]? = some items[i] := List.getElem?_eq_getElem hlt
    obtain ⟨g1, g2⟩ := go i _ hd
    refine .inr ⟨g1, fun σ2 H2 => ∃ δ2, Iv (i + 1) δ2 ∧ Rel X.K F σ2 H2 δ2 ∧ Stp F σ H1 δ σ2 H2 δ2, fun σ2 H2 ⟨δ2, h2, r2, s2⟩ => ⟨_, by omega, rfl, hlt, δ2, h2, r2, s2⟩, fun x H3 y => ?_⟩
    obtain ⟨s3, dx⟩ := g2 x H3 y
    have r3 := r'.same s3
    have st3 : Stp F σ H1 δ σ' H3 δ' := st'.trans (Stp.kp (Kp.same r' s3))
    refine ⟨F, δ', _, _, r3, dx, step i _ δ' hd iv, fun δ4 h4 σ4 r4 st4 _ _ => ⟨F, δ4, _, r4, h4, ?_⟩⟩
    have st5 := st3.trans st4
    exact ⟨⟨fun δ6 h6 σ6 H6 r6 s6 => ⟨δ6, h6, r6, st5.trans s6⟩⟩, en.rt, en.rtF, (en1.step st5).nx, ⟨fun δ6 h6 σ6 H6 r6 s6 => ⟨δ6, h6, r6, st5.trans s6⟩⟩, en.ex⟩
  · have e : i = items.length := by omega
    subst e
    exact .inl ⟨stop, (en1.step st').nx.go δ' (fin δ' iv) σ' H' r' Stp.refl⟩
theorem for_rng {lo : Int} {n : Nat} {wg : DG} {wb : DS} {D : DEnds} {δ : Sts} (Iv : Nat → Sts → Prop) (h0 : Iv 0 δ)
    (hs : ∀ (i : Nat) δ, i < n → Iv i δ → wg (.int (lo + i)) δ fun δ2 => wb { D with nx := Iv (i + 1), ct := Iv (i + 1), bk := D.nx } δ2) (hd : ∀ δ, Iv n δ → D.nx δ) : ForR (rngD lo n) wg wb D δ := by
  unfold ForR
  exact ⟨Iv, h0, fun i d δ hd iv => by obtain ⟨hi, rfl⟩ := rng_get hd; exact hs i δ hi iv, fun δ iv => hd δ (by rw [rng_len] at iv; exact iv)⟩
theorem for_items {items : List PyData} {wg : DG} {wb : DS} {D : DEnds} {δ : Sts} (Iv : Nat → Sts → Prop) (h0 : Iv 0 δ)
    (hs : ∀ (i : Nat) d δ, items[i]? = some d → Iv i δ → wg d δ fun δ2 => wb { D with nx := Iv (i + 1), ct := Iv (i + 1), bk := D.nx } δ2) (hd : ∀ δ, Iv items.length δ → D.nx δ) : ForR items wg wb D δ := by
  unfold ForR
  exact ⟨Iv, h0, hs, hd⟩
def dRaise (C : Addr) (we : DE) : DS := fun D δ => we δ (fun _ => D.ex C) D.ex
theorem pds_raise {C : Addr} (h : PS X st (Rx.tRaise E C (tX .P X.K E we))) : PS X st (tS X.K E (dRaise C we)) := by
  refine PS.imp h fun D σ H ⟨F, δ, DD, rel, hw, en⟩ => ?_
  exact ⟨F, δ, _, DD.ex, rel, hw, fun d hd v H' rel' kp vk => en.ex C hd H' rel'.ke, en.ex⟩
def dExpr (we : DE) : DS := fun D δ => we δ (fun _ => D.nx δ) D.ex
theorem pds_expr (h : PS X st (tDrop (tX .P X.K E we))) : PS X st (tS X.K E (dExpr we)) := by
  refine PS.imp h fun D σ H ⟨F, δ, DD, rel, hw, en⟩ => ?_
  exact ⟨F, δ, _, DD.ex, rel, hw, fun d hd v H' rel' kp vk => en.nx.go δ hd σ H' rel' (Stp.kp kp), en.ex⟩
theorem pds_nox {w : DS} (h : PS X.nox st (tS X.K E0 w)) : PS X st (tS X.K E fun D δ => w { D with ex := XF } δ) := by
  refine PS.imp (ps_nox h) fun D σ H ⟨F, δ, DD, rel, hw, en⟩ => ?_
  exact ⟨F, δ, _, rel, hw, en.nx, en.rt, en.rtF, en.bk, en.ct, outF⟩
end
def stD (N : List Str) (args : List Sl) : Sts := args ++ List.replicate (N.length - args.length) .no
theorem paired_get {α β : Type} {R : α → β → Prop} : ∀ {xs : List α} {ys : List β}, Paired R xs ys → ∀ (i : Nat) x y, xs[i]? = some x → ys[i]? = some y → R x y
  | _, _, .nil, i, x, y, h, _ => by simp at h
  | _, _, .cons a b, 0, x, y, h, h' => by simp at h h'; subst h h'; exact a
  | _, _, .cons a b, i + 1, x, y, h, h' => paired_get b i x y (by simpa using h) (by simpa using h')
theorem start_rel {K : PySem.W.Frag} {N : List Str} {A pt : Addr → Prop} {H : Hp} {vs : List V} {args : List Sl} (dm : ∀ a, A a → ∃ xs, H a = some (.lst xs)) (hp : ∀ p, pt p → A p ∧ ∃ n, H p = some (.lst [.int n])) (q : Paired (ArgOk A pt H) vs args) : Rel K ⟨H, A, pt⟩ (L2.start N vs) H (stD N args) := by
  have hl : vs.length = args.length := q.length
  have no : ∀ (i : Nat) x, (stD N args)[i]? = some x → (i < args.length ∧ args[i]? = some x) ∨ x = .no := fun i x h => by
    unfold stD at h
    by_cases z : i < args.length
    · rw [List.getElem?_append_left z] at h; exact .inl ⟨z, h⟩
    · rw [List.getElem?_append_right (by omega), List.getElem?_replicate] at h
      split at h
      · exact .inr (Option.some.inj h).symm
      · cases h
  have arg : ∀ (i : Nat) o x, (L2.start N vs)[i]? = some o → (stD N args)[i]? = some x → x ≠ .no → ∃ v, o = some v ∧ ArgOk A pt H v x := fun i o x h1 h2 hx => by
    rcases no i x h2 with ⟨z, e⟩ | e
    · unfold L2.start at h1
      rw [List.getElem?_append_left (by rw [List.length_map]; omega), List.getElem?_map] at h1
      obtain ⟨v, hv, rfl⟩ := Option.map_eq_some_iff.mp h1
      exact ⟨v, rfl, paired_get q i v x hv e⟩
    · exact absurd e hx
  have av : ∀ a, Av ⟨H, A, pt⟩ (L2.start N vs) (stD N args) a → A a := fun a z => by
    rcases z with z | ⟨i, h1, h2⟩
    · exact z
    · rcases h2 with h2 | ⟨ds, h2⟩
      · obtain ⟨v, e, p, rfl, hp'⟩ := arg i _ _ h1 h2 (fun z => by cases z)
        cases e
        exact (hp _ hp').1
      · obtain ⟨v, e, hh⟩ := arg i _ _ h1 h2 (fun z => by cases z)
        exact hh.elim
  exact {
    len := by unfold L2.start stD; rw [List.length_append, List.length_append, List.length_map, List.length_replicate, List.length_replicate, hl]
    dom := dm
    dom0 := dm
    pt0 := hp
    kx := fun _ _ _ e => e
    sl := fun i o x h1 h2 => by
      cases x with
      | no => trivial
      | v d =>
        obtain ⟨v, e, hh⟩ := arg i _ _ h1 h2 (fun z => by cases z)
        exact ⟨v, e, DA.mv hh (fun _ _ _ e => e) fun a z => .inl (av a z)⟩
      | pot =>
        obtain ⟨v, e, p, rfl, hp'⟩ := arg i _ _ h1 h2 (fun z => by cases z)
        obtain ⟨_, n, en⟩ := hp p hp'
        exact ⟨p, n, e, en, .inl hp'⟩
      | own ds => obtain ⟨v, e, hh⟩ := arg i _ _ h1 h2 (fun z => by cases z); exact hh.elim
      | pk ds => obtain ⟨v, e, hh⟩ := arg i _ _ h1 h2 (fun z => by cases z); exact hh.elim
      | scr => obtain ⟨v, e, hh⟩ := arg i _ _ h1 h2 (fun z => by cases z); exact hh.elim
    inj := fun i j a ds h1 h2 _ => by
      obtain ⟨v, e, hh⟩ := arg i _ _ h2 h1 (fun z => by cases z)
      exact hh.elim }
def notL : PyData → Bool
  | .list _ => false
  | _ => true
def rtD : Bool → (PyData → Prop) → PyData → Prop
  | true, R, d => notL d = true ∧ R d
  | false, R, d => R d
def endsD (fr : Bool) (R : PyData → Prop) (EX : XP) : DEnds := ⟨fun _ => R .none, rtD fr R, R, fun _ => False, fun _ => False, EX⟩
theorem ends_ok {K : PySem.W.Frag} {E Ex : XK} {fr : Bool} {A pt : Addr → Prop} {H : Hp} {R : PyData → Prop} {EX EX' : XP} {Q : VK} {σ : L2.St} {δ : Sts} (k : ∀ d, R d → ∀ v H', Kq pt H H' → DA A H' v d → (fr = true → FrV H H' v) → Q v H') (o : Out ⟨H, A, pt⟩ E EX') :
    Ends1 K E ⟨H, A, pt⟩ σ H δ (endsD fr R EX') { nx := fun _ H' => Q .non H', rt := Q } where
  nx := ⟨fun δ' hR σ' H' r st => k _ hR _ H' r.ke .non fun _ => frv_non⟩
  rt := fun d h v H' ke dv => by
    cases fr with
    | false => exact k d h v H' ke dv fun z => by cases z
    | true =>
      obtain ⟨h1, h2⟩ := h
      refine k d h2 v H' ke dv fun z l e1 ⟨xs, e2⟩ => ?_
      subst e1
      cases dv with
      | @tup a ys ds n e q => rw [e] at e2; cases e2
      | @lst a ys ds n e q => cases h1
      | @dct a kvs ds n e q => rw [e] at e2; cases e2
  rtF := fun d h v H' ke dv fr' => k d h v H' ke dv fun _ => fr'
  bk := ⟨fun _ h => h.elim⟩
  ct := ⟨fun _ h => h.elim⟩
  ex := o
section
variable {P : Program} {w : World} {K : PySem.W.Frag} {mg : Str → Option Value} {base : Heap}
theorem okD {x qual : Str} {st : Stmt} {f : Addr} {fd : FuncData} {N ps : List Str} {k : Nat} {fD : DF} (fr : Bool) (F : Fun K x qual st f fd) (S : FnScope N ps (defScope st)) (len : ∀ args R EX, fD args R EX → args.length = ps.length)
    (hbody : ∀ (cdv : Value) (A : Around) (outer : List Env) (s : Shared) (H : Hp) (E : XK), Room k (A.deeper (envOfC qual (defScope st) s.heap.objs.size f cdv)) →
      ∃ wd, PSs (cxOf CX0 P w K mg base N qual (defScope st) f cdv A outer s H E).nox (defBody st) (tS K E0 wd) ∧ ∀ args R EX, fD args R EX → wd (endsD fr R XF) (stD N args)) : FnOk P w K mg base CX0 (k + 1) f fd ps (toSp fr fD) := by
  refine F.ok S (fun vs H Q E h => ?_) fun cdv A outer s H vs Q E hr h => ?_
  · obtain ⟨A, pt, args, R, EX, _, _, q, h, _⟩ := h
    rw [q.length]; exact len _ _ _ h
  · obtain ⟨wd, hp, hw⟩ := hbody cdv A outer s H E hr
    obtain ⟨A', pt, args, R, EX, dm, hpt, q, h, k, _⟩ := h
    exact ⟨_, hp, ⟨H, A', pt⟩, _, _, start_rel dm hpt q, hw args R EX h, ends_ok (Ex := E) (EX := EX) k outF⟩
theorem okDE {x qual : Str} {st : Stmt} {f : Addr} {fd : FuncData} {N ps : List Str} {k : Nat} {fD : DF} (fr : Bool) (F : Fun K x qual st f fd) (S : FnScope N ps (defScope st)) (len : ∀ args R EX, fD args R EX → args.length = ps.length)
    (hbody : ∀ (cdv : Value) (A : Around) (outer : List Env) (s : Shared) (H : Hp) (E : XK), Room k (A.deeper (envOfC qual (defScope st) s.heap.objs.size f cdv)) →
      ∃ wd, PSs (cxOf (Rx.CXE P w) P w K mg base N qual (defScope st) f cdv A outer s H E) (defBody st) (tS K E wd) ∧ ∀ args R EX, fD args R EX → wd (endsD fr R EX) (stD N args)) : FnOk P w K mg base (Rx.CXE P w) (k + 1) f fd ps (toSp fr fD) := by
  refine Rx.okE F S (fun vs H Q E h => ?_) fun cdv A outer s H vs Q E hr h => ?_
  · obtain ⟨A, pt, args, R, EX, _, _, q, h, _⟩ := h
    rw [q.length]; exact len _ _ _ h
  · obtain ⟨wd, hp, hw⟩ := hbody cdv A outer s H E hr
    obtain ⟨A', pt, args, R, EX, dm, hpt, q, h, k, kx⟩ := h
    exact ⟨_, hp, ⟨H, A', pt⟩, _, _, start_rel dm hpt q, hw args R EX h, ends_ok (Ex := E) (EX := EX) k fun C hC H' ke => kx C hC H' ke⟩
end
end Dl
namespace L2
open PySem PySem.Spec PyProof.Rows
def CDivC (i j : Int) : Prop := 0 < j ∧ j ≤ 10 ^ 40
theorem op_fdivC {X : Cx} : OpR X (binaryOp .FloorDiv) (rI CDivC fun i j => .int (i / j)) := opI fun i j _ _ _ _ _ hc q => by
  have h1 : (0 : Int) < j := hc.1
  have h2 : j ≤ 10 ^ 40 := hc.2
  refine floordiv_int (by omega) (by rw [Int.fdiv_eq_ediv_of_nonneg i (by omega)]; exact q) (.inl (PyProof.noPylong_of_log2 ?_))
  have h3 : j.natAbs < 2 ^ 200 := by
    have : (10 : Int) ^ 40 < 2 ^ 200 := by decide
    omega
  have := (Nat.log2_lt (by omega : j.natAbs ≠ 0)).mpr h3
  omega
end L2
namespace Rk
open PySem PySem.Spec PyProof.Rows L2 _root_.Rd
def spTakeC0 : Sp := fun vs H Q _ => ∃ p n f, vs = [.ref p, .int f] ∧ H p = some (.lst [.int n]) ∧ 0 < f ∧ f ≤ 10 ^ 40 ∧ ∀ r m, 0 ≤ r → r < f → Q (.int r) (upd H p (.lst [.int m]))
end Rk
namespace Dl
open PySem PySem.Spec PyProof.Rows L2 _root_.Rd Rk
theorem passA {X : Cx} {E : XK} : Passes CX0 X E := fun _ _ _ _ _ _ _ h => h.elim
theorem Room.u60 {k : Nat} {A : Around} (r : Room k A) : A.units + 60 < cLine := by have := r.un; omega
theorem Room.i60 {k : Nat} {A : Around} (r : Room k A) : A.in1.units + 60 < cLine := by
  have := r.un
  show A.units + 1 + 60 < cLine
  omega
section
variable {X : Cx} {E : XK} {CX : CXT} {k : Nat} {f : Addr} {fd : FuncData} {ps : List Str} {x : Str} {p pos : Pos} {e : Expr} {es : List Expr} {fD : DF}
def takeD : DF := fun args R _ => ∃ f, args = [.pot, .v (.int f)] ∧ 0 < f ∧ f ≤ 10 ^ 40 ∧ ∀ r, 0 ≤ r → r < f → R (.int r)
theorem take_d {vs : List V} {H : Hp} {Q : VK} {Ex : XK} (h : toSp true takeD vs H Q Ex) : spTakeC0 vs H Q Ex := by
  obtain ⟨A, pt, args, R, EX, dm, hp, q, ⟨f, rfl, f0, f1, hR⟩, k, _⟩ := h
  cases q with
  | cons q1 q2 => cases q2 with
    | cons q2 q3 =>
      cases q3
      obtain ⟨p, rfl, pp⟩ := q1
      cases q2
      obtain ⟨_, n, e⟩ := hp p pp
      refine ⟨p, n, f, rfl, e, f0, f1, fun r m r0 r1 => k _ (hR r r0 r1) _ _ ⟨fun b o nb eb => ?_, fun z hz => ?_⟩ (.int _) fun _ => frv_int⟩
      · rw [upd_ne (fun z => nb (by rw [z]; exact pp))]; exact eb
      · by_cases y : z = p
        · rw [y]; exact ⟨m, upd_same⟩
        · obtain ⟨_, n', e'⟩ := hp z hz
          exact ⟨n', by rw [upd_ne y]; exact e'⟩
def potD : DF := fun args R _ => ∃ c, args = [.v (.int c)] ∧ ∀ n, R (.list [.int n])
theorem pot_d {vs : List V} {H : Hp} {Q : VK} {Ex : XK} (h : toSp true potD vs H Q Ex) : spPot vs H Q Ex := by
  obtain ⟨A, pt, args, R, EX, dm, hp, q, ⟨c, rfl, hR⟩, k, _⟩ := h
  cases q with
  | cons q1 q2 =>
    cases q2
    cases q1
    refine ⟨c, rfl, fun p n hn => k _ (hR n) _ _ ⟨fun b o _ eb => same_upd hn b o eb, fun z hz => ?_⟩ (.lst (fun z => ?_) upd_same (.cons (.int _) .nil)) fun _ => frv_new hn⟩
    · obtain ⟨_, n', e'⟩ := hp z hz
      exact ⟨n', same_upd hn _ _ e'⟩
    · obtain ⟨xs, e⟩ := dm p z
      rw [hn] at e; cases e
def isW : PyData → Bool
  | .int _ => true
  | _ => false
def wholeD : DF := fun args R _ => ∃ d, args = [.v d] ∧ R (.bool (isW d))
theorem scr_seq {K : PySem.W.Frag} {F : Fm} {σ : L2.St} {H : Hp} {δ : Sts} (r : Rel K F σ H δ) {a : Addr} {xs : List V} (h : SqL K F.H0 a xs) (n : ¬ F.pt a) : SqL K H a xs := by
  rcases h with h | h
  · rcases h with h | ⟨o, h⟩
    · exact .inl (.inl (r.kx _ _ n h))
    · exact .inl (.inr ⟨o, r.kx _ _ n h⟩)
  · exact .inr h
def dLenS (i : Nat) : DE := fun δ Q _ => match δ[i]? with
  | some .scr => ∀ n : Nat, n ≤ 63 → Q (.int n)
  | _ => False
theorem pd_lenS {i : Nat} {a : Expr} (hg : Gl X "len") (hm : X.mg "len" = none) (h : PE X a (tVar i)) (hs : notStar a = true := by rfl) : PE X (.Call (.Name "len" p) [a] [] pos) (tX .F X.K E (dLenS i)) := by
  refine PE.imp (pe_callB call_len_seq hg hm bt_len (pa_c h pa_nil hs) (he := by rw [star_of hs])) fun σ H Q ⟨F, δ, R, EX, rel, hw, k, o⟩ => ?_
  unfold dLenS at hw
  split at hw
  · rename_i hd
    obtain ⟨x, hx⟩ := rel.lt hd
    obtain ⟨l, ns, rfl, sq, np, n63⟩ := rel.sl i _ _ hx hd
    refine ⟨_, hx, l, _, rfl, .inl (scr_seq rel sq np), ?_⟩
    rw [List.length_map]
    exact k _ (hw _ n63) _ H rel (Kp.refl rel) ⟨.int _, frv_int⟩
  · exact hw.elim
def dCell (i : Nat) (wb : DE) : DE := fun δ Q EX => match δ[i]? with
  | some .scr => wb δ (fun d => match d with
    | .int k => 0 ≤ k ∧ ∀ c, Q (.int c)
    | _ => False) EX
  | _ => False
theorem pd_cell {i : Nat} {a b : Expr} {wb : DE} (G : FnOk X.prog X.w X.K X.mg X.base CX0 k f fd ps (spCellAt X.K)) (hr : Room k X.A) (hg : Gl X x) (hm : X.mg x = some (.ref f)) (hk : PySem.W.keepIn X.K (.ref f) = true) (hb : Binds X.K fd ps [])
    (ha : PE X a (tVar i)) (h : PE X b (tX .P X.K E wb)) (h1 : notStar a = true := by rfl) (h2 : notStar b = true := by rfl) (hdb : (x == ("__debug__" : Str)) = false := by decide) :
    PE X (.Call (.Name x p) [a, b] [] pos) (tX .F X.K E (dCell i wb)) := by
  refine PE.imp (pe_call (E := E) G hr hg hm hk hb .nil passA (pa_c ha (pa_c h pa_nil h2) h1) hdb (star_of h1) (by rw [star_of h2]; rfl)) fun σ H Q ⟨F, δ, R, EX, rel, hw, k, o⟩ => ?_
  unfold dCell at hw
  split at hw
  · rename_i hd
    obtain ⟨x, hx⟩ := rel.lt hd
    obtain ⟨l, ns, rfl, sq, np, n63⟩ := rel.sl i _ _ hx hd
    refine ⟨_, hx, F, δ, _, EX, rel, hw, fun d hd2 v H' rel' kp vk => ?_, o⟩
    cases d <;> first | exact (show False from hd2).elim | skip
    rw [DP.int vk]
    exact ⟨l, ns, _, rfl, scr_seq rel' sq np, Nat.lt_of_le_of_lt n63 (by decide), hd2.1, fun c => k _ (hd2.2 c) _ H' rel' kp ⟨.int _, frv_int⟩⟩
  · exact hw.elim
end
section
variable {P : Program} {w : World} {K : PySem.W.Frag} {mg : Str → Option Value} {base : Heap}
def spLawD (K : PySem.W.Frag) : Sp := fun vs H Q _ => ∃ (a : Addr) (ns : List Int), vs = [.ref a] ∧ SqL K H a (ns.map V.int) ∧ ns.length ≤ 63 ∧ ∀ H', Q (.bl true) H'
def endsL : DEnds := ⟨fun _ => False, fun d => d = .bool true, fun d => d = .bool true, fun _ => False, fun _ => False, XF⟩
theorem okLaw {x qual : Str} {st : Stmt} {f : Addr} {fd : FuncData} {N : List Str} {p : Str} {k : Nat} (F : Fun K x qual st f fd) (S : FnScope N [p] (defScope st))
    (hbody : ∀ (cdv : Value) (A : Around) (outer : List Env) (s : Shared) (H : Hp) (E : XK), Room k (A.deeper (envOfC qual (defScope st) s.heap.objs.size f cdv)) →
      ∃ wd, PSs (cxOf CX0 P w K mg base N qual (defScope st) f cdv A outer s H E).nox (defBody st) (tS K E0 wd) ∧ wd endsL (stD N [.scr])) : FnOk P w K mg base CX0 (k + 1) f fd [p] (spLawD K) := by
  refine F.ok S (fun vs H Q E h => ?_) fun cdv A outer s H vs Q E hr h => ?_
  · obtain ⟨a, ns, rfl, _⟩ := h
    rfl
  · obtain ⟨wd, hp, hw⟩ := hbody cdv A outer s H E hr
    obtain ⟨a, ns, rfl, sq, n63, k⟩ := h
    have get0 : ∀ (i : Nat) o y, (L2.start N [V.ref a])[i]? = some o → (stD N [.scr])[i]? = some y → y ≠ .no → o = some (.ref a) ∧ y = .scr := fun i o y h1 h2 hy => by
      cases i with
      | zero => cases h1; cases h2; exact ⟨rfl, rfl⟩
      | succ i =>
        unfold stD at h2
        rw [List.getElem?_append_right (by simp), List.getElem?_replicate] at h2
        split at h2
        · exact absurd (Option.some.inj h2).symm hy
        · cases h2
    have noav : ∀ b, ¬ Av (⟨H, fun _ => False, fun _ => False⟩ : Fm) (L2.start N [V.ref a]) (stD N [.scr]) b := fun b z => by
      rcases z with z | ⟨i, h1, h2⟩
      · exact z
      · rcases h2 with h2 | ⟨ds, h2⟩
        · cases (get0 i _ _ h1 h2 (fun z => by cases z)).2
        · cases (get0 i _ _ h1 h2 (fun z => by cases z)).2
    refine ⟨_, hp, ⟨H, fun _ => False, fun _ => False⟩, _, _, ?_, hw, ?_⟩
    · exact {
        len := by unfold L2.start stD; simp
        dom := fun _ h => h.elim
        dom0 := fun _ h => h.elim
        pt0 := fun _ h => h.elim
        kx := fun _ _ _ e => e
        sl := fun i o y h1 h2 => by
          cases y with
          | no => trivial
          | scr =>
            obtain ⟨rfl, _⟩ := get0 i _ _ h1 h2 (fun z => by cases z)
            exact ⟨a, ns, rfl, sq, fun z => z, n63⟩
          | v d => cases (get0 i _ _ h1 h2 (fun z => by cases z)).2
          | own d => cases (get0 i _ _ h1 h2 (fun z => by cases z)).2
          | pk d => cases (get0 i _ _ h1 h2 (fun z => by cases z)).2
          | pot => cases (get0 i _ _ h1 h2 (fun z => by cases z)).2
        inj := fun i j b ds h1 h2 _ => by cases (get0 i _ _ h2 h1 (fun z => by cases z)).2 }
    · exact {
        nx := ⟨fun _ h => h.elim⟩
        rt := fun d h v H' ke dv => by cases (show d = .bool true from h); cases dv; exact k H'
        rtF := fun d h v H' ke dv _ => by cases (show d = .bool true from h); cases dv; exact k H'
        bk := ⟨fun _ h => h.elim⟩
        ct := ⟨fun _ h => h.elim⟩
        ex := outF }
end
end Dl
namespace Dl
open PySem PySem.Spec PyProof.Rows L2 _root_.Rd Rk
theorem al_nil {α : Type} {p : α → Prop} : ∀ x ∈ ([] : List α), p x := fun _ h => nomatch h
theorem al_cons {α : Type} {p : α → Prop} {a : α} {l : List α} (h : p a) (t : ∀ x ∈ l, p x) : ∀ x ∈ a :: l, p x := fun x hx => by
  rcases List.mem_cons.mp hx with z | z
  · rw [z]; exact h
  · exact t x z
theorem and_if {b c : Bool} {R : PyData → Prop} (h : R (.bool (b && c))) : if b = true then R (.bool c) else R (.bool false) := by
  cases b
  · exact iteF h
  · exact iteT h
theorem and_ifK {b c : Bool} {R : PyData → Prop} {Pk : Prop} (h : R (.bool (b && c))) (k : b = true → R (.bool c) → Pk) : if b = true then Pk else R (.bool false) := by
  cases b
  · exact iteF h
  · exact iteT (k rfl h)
theorem ifF {c : Bool} {A B : Prop} (h : c = false) (k : B) : if c = true then A else B := by subst h; exact k
theorem ifT {c : Bool} {A B : Prop} (h : c = true) (k : A) : if c = true then A else B := by subst h; exact k
theorem ifC {c : Bool} {A B : Prop} (t : c = true → A) (f : c = false → B) : if c = true then A else B := by
  cases c
  · exact f rfl
  · exact t rfl
theorem not_dec {p : Prop} [Decidable p] (h : (!decide p) = true) : ¬ p := by simpa using h
theorem dec_not {p : Prop} [Decidable p] (h : (!decide p) = false) : p := by simpa using h
theorem all_map {α : Type} (l : List α) (g : α → Bool) : (l.map g).all id = l.all g := by
  rw [List.all_map]; rfl
theorem allD_of {ds : List PyData} {Q : PyData → Prop} {g : PyData → Bool} {items : List PyData} (h : ds = [.list (items.map fun d => .bool (g d))]) (q : Q (.bool (items.all g))) : allD ds Q := by
  subst h
  unfold allD
  refine ⟨items.map g, ?_, by rw [all_map]; exact q⟩
  rw [show items.map (fun d => PyData.bool (g d)) = (items.map g).map PyData.bool by rw [List.map_map]; rfl, bools_map]
theorem cm_all {items : List PyData} {wg : DG} {we : DE} {δ : Sts} {Q : PyData → Prop} (Pd : PyData → Prop) (h : ∀ d ∈ items, ∀ (k2 : PyData → Prop), (∀ e, Pd e → k2 e) → wg d δ fun δ4 => we δ4 k2 XF) (q : ∀ acc, acc.length = items.length → (∀ e ∈ acc, Pd e) → Q (.list acc)) :
    CompR items wg dNoT we δ Q := by
  unfold CompR
  refine ⟨fun i acc => acc.length = i ∧ ∀ e ∈ acc, Pd e, ⟨rfl, fun _ h => nomatch h⟩, fun i acc d hd ⟨hl, ha⟩ => ?_, fun acc ⟨hl, ha⟩ => q acc hl ha⟩
  have hh := h d (List.mem_of_getElem? hd) (fun e => (acc ++ [e]).length = i + 1 ∧ ∀ x ∈ acc ++ [e], Pd x) fun e he => ⟨by rw [List.length_append, hl]; rfl, fun x hx => by
    rcases List.mem_append.mp hx with z | z
    · exact ha x z
    · rw [List.mem_singleton.mp z]; exact he⟩
  simp only [dNoT, if_true]
  exact hh
theorem ints_of {acc : List PyData} {p : Int → Prop} (h : ∀ e ∈ acc, ∃ i, e = .int i ∧ p i) : ∃ ns : List Int, acc = ns.map PyData.int ∧ ∀ i ∈ ns, p i := by
  induction acc with
  | nil => exact ⟨[], rfl, fun _ h => nomatch h⟩
  | cons e acc ih =>
    obtain ⟨i, rfl, hp⟩ := h e (by simp)
    obtain ⟨ns, rfl, hns⟩ := ih fun e he => h e (by simp [he])
    refine ⟨i :: ns, rfl, fun j hj => ?_⟩
    rcases List.mem_cons.mp hj with z | z
    · rw [z]; exact hp
    · exact hns j z
theorem ints_isW : ∀ {ds : List PyData}, ds.all isW = true → ∃ ns : List Int, ds = ns.map PyData.int
  | [], _ => ⟨[], rfl⟩
  | d :: ds, h => by
    rw [List.all_cons, Bool.and_eq_true] at h
    obtain ⟨ns, rfl⟩ := ints_isW h.2
    cases d <;> first | (cases h.1; done) | skip
    exact ⟨_ :: ns, rfl⟩
theorem sumD_of {ds : List PyData} {Q : PyData → Prop} (ns : List Int) (h : ds = [.list (ns.map PyData.int)]) (q : Q (.int ns.sum)) : sumD ds Q := by
  subst h
  unfold sumD
  exact ⟨ns, ints_map ns, q⟩
theorem minD_of {ds : List PyData} {Q : PyData → Prop} (ns : List Int) (h : ds = [.list (ns.map PyData.int)]) (h0 : 0 < ns.length) (q : ∀ m, m ∈ ns → (∀ y ∈ ns, m ≤ y) → Q (.int m)) : minLD ds Q := by
  subst h
  unfold minLD
  exact ⟨ns, ints_map ns, h0, q⟩
end Dl
namespace L2
open PySem PySem.Spec PyProof.Rows
section
variable {X : Cx}
end
end L2
namespace Dl
open PySem PySem.Spec PyProof.Rows L2 _root_.Rd Rk
section
variable {X : Cx} {E : XK}
variable {e : Expr} {w : DE} {p p2 pos pos2 : Pos}
end
theorem at_mem {ds : List PyData} {i : Int} (h0 : 0 ≤ i) (h1 : i < ds.length) : ∃ d, d ∈ ds ∧ atI ds i = some d := by
  obtain ⟨j, rfl⟩ : ∃ j : Nat, i = j := ⟨i.toNat, by omega⟩
  have hj : j < ds.length := by omega
  exact ⟨ds[j], List.getElem_mem hj, atI_nat (List.getElem?_eq_getElem hj)⟩
theorem ix_of {ds : List PyData} {i : Int} {Q : PyData → Prop} (h0 : 0 ≤ i) (h1 : i < ds.length) (q : ∀ d ∈ ds, Q d) : ∃ d, atI ds i = some d ∧ Q d := by
  obtain ⟨d, hd, e⟩ := at_mem h0 h1
  exact ⟨d, e, q d hd⟩
theorem cutD_length (xs : List PyData) (lo hi : Option Int) : (cutD xs lo hi).length ≤ xs.length := by
  unfold cutD
  rw [List.length_take, List.length_drop]
  omega
end Dl
namespace Dl
open PySem PySem.Spec PyProof.Rows L2 _root_.Rd Rk
structure QE (m : Md) (X : Cx) (E : XK) (e : Expr) (w : DE) : Prop where h : PE X e (tX m X.K E w)
structure QT (X : Cx) (E : XK) (e : Expr) (w : DT) : Prop where h : PT X e (tT X.K E w)
structure QW (X : Cx) (E : XK) (e : Expr) (w : DT) : Prop where h : PW X e (tT X.K E w)
structure QTs (X : Cx) (E : XK) (es : List Expr) (w : DT) : Prop where h : PTs X es (tT X.K E w)
structure QA (n : Nat) (m : Md) (X : Cx) (E : XK) (es : List Expr) (w : DAr) : Prop where h : PA X es (tAr n m X.K E w)
structure QAs (X : Cx) (E : XK) (es : List Expr) (w : DSl) : Prop where h : PA X es (tAs X.K E w)
structure QO (X : Cx) (E : XK) (o : Option Expr) (w : DO) : Prop where h : PO X o (tO X.K E w)
structure QG (ix : List Nat) (X : Cx) (tg : Expr) (w : DG) : Prop where h : PG X tg (tG ix X.K w)
structure QI (m : Md) (X : Cx) (E : XK) (tg it : Expr) (w : DI) : Prop where h : PI X tg it (tI m X.K E w)
structure QS (X : Cx) (E : XK) (st : Stmt) (w : DS) : Prop where h : PS X st (tS X.K E w)
structure QSs (X : Cx) (E : XK) (sts : List Stmt) (w : DS) : Prop where h : PSs X sts (tS X.K E w)
section
variable {X : Cx} {E : XK}
theorem q_toD {e : Expr} {w : DE} (h : QE .F X E e w) : QE .D X E e w := ⟨toD h.h⟩
theorem q_toP {e : Expr} {w : DE} (h : QE .D X E e w) : QE .P X E e w := ⟨toP h.h⟩
theorem q_toPF {e : Expr} {w : DE} (h : QE .F X E e w) : QE .P X E e w := ⟨toPF h.h⟩
theorem qv (i : Nat) {x : Str} {pos : Pos} (hN : X.N[i]? = some x := by rfl) (hv : Vis X.env.scope x := by first | exact Or.inl rfl | exact Or.inr (Or.inl rfl) | exact Or.inr (Or.inr rfl)) (hd : (x == ("__debug__" : Str)) = false := by decide) (hcd : (x == ("__classdict__" : Str)) = false := by decide) : QE .D X E (.Name x pos) (dVar i) := ⟨pd_var (pv i hN hv hd hcd)⟩
theorem qp (i : Nat) {x : Str} {pos : Pos} (hN : X.N[i]? = some x := by rfl) (hv : Vis X.env.scope x := by first | exact Or.inl rfl | exact Or.inr (Or.inl rfl) | exact Or.inr (Or.inr rfl)) (hd : (x == ("__debug__" : Str)) = false := by decide) (hcd : (x == ("__classdict__" : Str)) = false := by decide) : QE .P X E (.Name x pos) (dPk i) := ⟨pd_pk (pv i hN hv hd hcd)⟩
theorem q_int {i : Int} {j pos} : QE .D X E (.Constant (.int i) j pos) (dC (.int i)) := ⟨pd_int⟩
theorem q_bl {b : Bool} {j pos} : QE .D X E (.Constant (.bool b) j pos) (dC (.bool b)) := ⟨pd_bl⟩
theorem q_non {j pos} : QE .D X E (.Constant .none j pos) (dC .none) := ⟨pd_non⟩
theorem q_str {x : Str} {j pos} (h : PyData.canLay0 (.str x) = true := by decide +kernel) : QE .D X E (.Constant (.str x) j pos) (dC (.str x)) := ⟨pd_str h⟩
theorem q_glob {x : Str} (i : Int) {u : Value} {pos : Pos} (hg : Gl X x) (hm : X.mg x = some u) (r : RelV (.int i) u) (hd : (x == ("__debug__" : Str)) = false := by decide) : QE .D X E (.Name x pos) (dC (.int i)) := ⟨pd_c (pe_glob hg hm r hd) fun _ _ => .int i⟩
theorem q_bin {a b : Expr} {wa wb : DE} {pos : Pos} {r : R2} {rD : PyData → PyData → (PyData → Prop) → Prop} {op : Operator} (ho : OpR X (binaryOp op) r) (hd : OpD r rD) (ha : QE .P X E a wa) (hb : QE .P X E b wb) : QE .F X E (.BinOp a op b pos) (dOp rD wa wb) := ⟨pd_bin ho hd ha.h hb.h⟩
theorem q_cmp {a b : Expr} {wa wb : DE} {pos : Pos} {r : R2} {rD : PyData → PyData → (PyData → Prop) → Prop} {op : CmpOp} (ho : OpR X (compareOp op) r) (hd : OpD r rD) (ha : QE .P X E a wa) (hb : QE .P X E b wb) (hm : behindInMarks op b = false) : QE .F X E (.Compare a [op] [b] pos) (dOp rD wa wb) := ⟨pd_cmp ho hd ha.h hb.h hm⟩
theorem qt_cmp {a b : Expr} {wa wb : DE} {pos : Pos} {r : R2} {rD : PyData → PyData → (PyData → Prop) → Prop} {op : CmpOp} (ho : OpR X (compareOp op) r) (hd : OpD r rD) (ha : QE .P X E a wa) (hb : QE .P X E b wb) (hm : behindInMarks op b = false) : QT X E (.Compare a [op] [b] pos) (dTst (dOp rD wa wb)) := ⟨pdt_cmp ho hd ha.h hb.h hm⟩
theorem q_ix {a b : Expr} {wa wb : DE} {pos : Pos} {r : R2} {rD : PyData → PyData → (PyData → Prop) → Prop} (ho : IxR X r) (hd : OpDn r rD) (ha : QE .P X E a wa) (hb : QE .P X E b wb) (hs : PlainIx b) : QE .D X E (.Subscript a b pos) (dOp rD wa wb) := ⟨pd_ix ho hd ha.h hb.h hs⟩
theorem q_neg {a : Expr} {wa : DE} {pos : Pos} (ha : QE .P X E a wa) : QE .F X E (.UnaryOp .USub a pos) (dUn negD wa) := ⟨pd_neg ha.h⟩
theorem q_ch {a b c : Expr} {wa wb wc : DE} {pos : Pos} {op op' : CmpOp} {p q : Int → Int → Bool} (ho : OpR X (compareOp op) (rI0 fun i j => .bl (p i j))) (ho' : OpR X (compareOp op') (rI0 fun i j => .bl (q i j))) (ha : QE .P X E a wa) (hb : QE .P X E b wb) (hc : QE .P X E c wc) (hm : lastMarks [op, op'] [b, c] = false := by with_unfolding_all rfl) : QE .F X E (.Compare a [op, op'] [b, c] pos) (dCh p q wa wb wc) := ⟨pd_ch ho ho' ha.h hb.h hc.h hm⟩
theorem qt_ch {a b c : Expr} {wa wb wc : DE} {pos : Pos} {op op' : CmpOp} {p q : Int → Int → Bool} (ho : OpR X (compareOp op) (rI0 fun i j => .bl (p i j))) (ho' : OpR X (compareOp op') (rI0 fun i j => .bl (q i j))) (ha : QE .P X E a wa) (hb : QE .P X E b wb) (hc : QE .P X E c wc) (hm : lastMarks [op, op'] [b, c] = false := by with_unfolding_all rfl) : QT X E (.Compare a [op, op'] [b, c] pos) (dTst (dCh p q wa wb wc)) := ⟨pdt_ch ho ho' ha.h hb.h hc.h hm⟩
theorem qt_val {e : Expr} {w : DE} (h : QE .P X E e w) (he : ∀ whole, isTrue e X.env whole = (do let v ← whole; standAt e.pos; holding [v] (truthy v)) := by intro _; rfl) : QT X E e (dTst w) := ⟨pdt_val h.h he⟩
theorem q_and {a b : Expr} {rest : List Expr} {pos : Pos} {wa wb : DE} (ha : QE .P X E a wa) (hb : QE .D X E (.BoolOp .And (b :: rest) pos) wb) : QE .D X E (.BoolOp .And (a :: b :: rest) pos) (dAndV wa wb) := ⟨pd_and ha.h hb.h⟩
theorem qw_or1 {a : Expr} {pos : Pos} {ta : DT} (ha : QT X E a ta) : QW X E (.BoolOp .Or [a] pos) ta := ⟨pdw_or1 ha.h⟩
theorem qw_or {a b : Expr} {rest : List Expr} {pos : Pos} {ta tb : DT} (ha : QT X E a ta) (hb : QW X E (.BoolOp .Or (b :: rest) pos) tb) : QW X E (.BoolOp .Or (a :: b :: rest) pos) (dOr ta tb) := ⟨pdw_or ha.h hb.h⟩
theorem q_pw {e : Expr} {t : DT} (h : QW X E e t) : QT X E e t := ⟨PW.pt h.h⟩
theorem qt_not {a : Expr} {pos : Pos} {ta : DT} (ha : QT X E a ta) : QT X E (.UnaryOp .Not a pos) (dNot ta) := ⟨pdt_not ha.h⟩
theorem q_one {op} {a : Expr} {pos : Pos} {w : DE} (h : QE .D X E a w) : QE .D X E (.BoolOp op [a] pos) w := ⟨pd_one h.h⟩
theorem q_not {a : Expr} {pos : Pos} {wa : DE} (ha : QE .P X E a wa) : QE .D X E (.UnaryOp .Not a pos) (dNotV wa) := ⟨pd_not ha.h⟩
theorem q_ifE {c a b : Expr} {pos : Pos} {ta : DT} {wa wb : DE} (hc : QT X E c ta) (ha : QE .D X E a wa) (hb : QE .D X E b wb) : QE .D X E (.IfExp c a b pos) (dIfE ta wa wb) := ⟨pd_ifE hc.h ha.h hb.h⟩
theorem qa_nil {m : Md} : QA 0 m X E [] dNil := ⟨pda_nil⟩
theorem qa_D {n : Nat} {e : Expr} {es : List Expr} {we : DE} {wr : DAr} (he : QE .D X E e we) (hr : QA n .D X E es wr) (hs : notStar e = true := by rfl) : QA (n + 1) .D X E (e :: es) (dCons we wr) := ⟨pda_consD he.h hr.h hs⟩
theorem qa_P {n : Nat} {e : Expr} {es : List Expr} {we : DE} {wr : DAr} (he : QE .P X E e we) (hr : QA n .P X E es wr) (hs : notStar e = true := by rfl) : QA (n + 1) .P X E (e :: es) (dCons we wr) := ⟨pda_consP he.h hr.h hs⟩
theorem q_tup {n : Nat} {es : List Expr} {w : DAr} {x1} {pos : Pos} (h : QA n .D X E es w) (hn : n ≤ 1000 := by decide) : QE .F X E (.Tuple es x1 pos) (dTup w) := ⟨pd_tup h.h hn⟩
theorem q_lst {n : Nat} {es : List Expr} {w : DAr} {pos : Pos} (h : QA n .D X E es w) (hn : n ≤ 1000 := by decide) : QE .F X E (.List es pos) (dLst w) := ⟨pd_lst h.h hn⟩
theorem q_dct {pos : Pos} : QE .D X E (.Dict [] [] pos) (dC (.dict [])) := ⟨pd_dct⟩
theorem q_callB {x : Str} {bid : String} {p pos : Pos} {e : Expr} {es : List Expr} {n : Nat} {wr : DAr} {r : List V → Hp → VK → Prop} {rD : List PyData → (PyData → Prop) → Prop} (hc : CallR X (.builtin bid) r) (hd : CallD r rD) (hg : Gl X x) (hm : X.mg x = none) (hv : bootBuiltins x = some (.builtin bid)) (ha : QA n .P X E (e :: es) wr) (hn : x ≠ "__name__" := by decide) (hdb : (x == ("__debug__" : Str)) = false := by decide) (he : starEach (e :: es) X.env = (false, eval e X.env) :: starEach es X.env := by rfl) (hpl : (backTo pos (starEach es X.env)).any (·.1) = false := by rfl) : QE .F X E (.Call (.Name x p) (e :: es) [] pos) (dCB rD wr) := ⟨pd_callB hc hd hg hm hv ha.h hn hdb he hpl⟩
theorem q_callTy {x : Str} {T : String} {p pos : Pos} {e : Expr} {es : List Expr} {n : Nat} {wr : DAr} {r : List V → Hp → VK → Prop} {rD : List PyData → (PyData → Prop) → Prop} (hc : CallR X (.type T) r) (hd : CallD r rD) (hg : Gl X x) (hm : X.mg x = none) (hv : bootBuiltins x = some (.type T)) (ha : QA n .P X E (e :: es) wr) (hn : x ≠ "__name__" := by decide) (hdb : (x == ("__debug__" : Str)) = false := by decide) (he : starEach (e :: es) X.env = (false, eval e X.env) :: starEach es X.env := by rfl) (hpl : (backTo pos (starEach es X.env)).any (·.1) = false := by rfl) : QE .F X E (.Call (.Name x p) (e :: es) [] pos) (dCB rD wr) := ⟨pd_callTy hc hd hg hm hv ha.h hn hdb he hpl⟩
theorem q_inst {e : Expr} {we : DE} {p pos pos2 : Pos} {x : Str} (tn : Tn) (hg : Gl X "isinstance") (hm : X.mg "isinstance" = none) (he : QE .P X E e we) (hg2 : Gl X x) (hm2 : X.mg x = none) (hv : bootBuiltins x = some (.type tn.s)) (hn : x ≠ "__name__" := by decide) (hd : (x == ("__debug__" : Str)) = false := by decide) (h1 : notStar e = true := by rfl) : QE .F X E (.Call (.Name "isinstance" p) [e, .Name x pos2] [] pos) (dInst tn we) := ⟨pd_inst tn hg hm he.h (pb_ty tn hg2 hm2 hv hn hd) h1 rfl⟩
theorem qo_none  : QO X E none dNo := ⟨pdo_none⟩
theorem qo_some {e : Expr} {we : DE} (he : QE .P X E e we) : QO X E (some e) (dSo we) := ⟨pdo_some he.h⟩
theorem q_slice {e : Expr} {lo hi : Option Expr} {we : DE} {wl wh : DO} {p2 pos : Pos} (he : QE .P X E e we) (hl : QO X E lo wl) (hh : QO X E hi wh) : QE .F X E (.Subscript e (.Slice lo hi none p2) pos) (dSl we wl wh) := ⟨pd_slice he.h hl.h hh.h⟩
theorem qs_nil  : QAs X E [] sNil := ⟨pds_nil⟩
theorem qs_v {e : Expr} {es : List Expr} {we : DE} {wr : DSl} (he : QE .D X E e we) (hr : QAs X E es wr) (hs : notStar e = true := by rfl) : QAs X E (e :: es) (sV we wr) := ⟨pds_v he.h hr.h hs⟩
theorem qs_pot (i : Nat) {x : Str} {pos : Pos} {es : List Expr} {wr : DSl} (hr : QAs X E es wr) (hN : X.N[i]? = some x := by rfl) (hv : Vis X.env.scope x := by first | exact Or.inl rfl | exact Or.inr (Or.inl rfl) | exact Or.inr (Or.inr rfl)) (hd : (x == ("__debug__" : Str)) = false := by decide) (hcd : (x == ("__classdict__" : Str)) = false := by decide) : QAs X E (.Name x pos :: es) (sPot i wr) := ⟨pds_pot (pv i hN hv hd hcd) hr.h rfl⟩
theorem q_call {CX : CXT} {k : Nat} {f : Addr} {fd : FuncData} {ps : List Str} {x : Str} {p pos : Pos} {e : Expr} {es : List Expr} {fD : DF} {wa : DSl} (G : FnOk X.prog X.w X.K X.mg X.base CX k f fd ps (toSp false fD)) (hr : Room k X.A) (hg : Gl X x) (hm : X.mg x = some (.ref f)) (hk : PySem.W.keepIn X.K (.ref f) = true) (hb : Binds X.K fd ps []) (hx : Passes CX X E) (ha : QAs X E (e :: es) wa) (hdb : (x == ("__debug__" : Str)) = false := by decide) (he : starEach (e :: es) X.env = (false, eval e X.env) :: starEach es X.env := by rfl) (hpl : (backTo pos (starEach es X.env)).any (·.1) = false := by rfl) : QE .D X E (.Call (.Name x p) (e :: es) [] pos) (dCall fD wa) := ⟨pd_call G hr hg hm hk hb hx ha.h hdb he hpl⟩
theorem q_callF {CX : CXT} {k : Nat} {f : Addr} {fd : FuncData} {ps : List Str} {x : Str} {p pos : Pos} {e : Expr} {es : List Expr} {fD : DF} {wa : DSl} (G : FnOk X.prog X.w X.K X.mg X.base CX k f fd ps (toSp true fD)) (hr : Room k X.A) (hg : Gl X x) (hm : X.mg x = some (.ref f)) (hk : PySem.W.keepIn X.K (.ref f) = true) (hb : Binds X.K fd ps []) (hx : Passes CX X E) (ha : QAs X E (e :: es) wa) (hdb : (x == ("__debug__" : Str)) = false := by decide) (he : starEach (e :: es) X.env = (false, eval e X.env) :: starEach es X.env := by rfl) (hpl : (backTo pos (starEach es X.env)).any (·.1) = false := by rfl) : QE .F X E (.Call (.Name x p) (e :: es) [] pos) (dCall fD wa) := ⟨pd_callF G hr hg hm hk hb hx ha.h hdb he hpl⟩
theorem q_cell {k : Nat} {f : Addr} {fd : FuncData} {ps : List Str} {x y : Str} {p pos pos2 : Pos} {b : Expr} {wb : DE} (i : Nat) (G : FnOk X.prog X.w X.K X.mg X.base CX0 k f fd ps (spCellAt X.K)) (hr : Room k X.A) (hg : Gl X x) (hm : X.mg x = some (.ref f)) (hk : PySem.W.keepIn X.K (.ref f) = true) (hb : Binds X.K fd ps []) (h : QE .P X E b wb) (hN : X.N[i]? = some y := by rfl) (hv : Vis X.env.scope y := by first | exact Or.inl rfl | exact Or.inr (Or.inl rfl) | exact Or.inr (Or.inr rfl)) (hd : (y == ("__debug__" : Str)) = false := by decide) (hcd : (y == ("__classdict__" : Str)) = false := by decide) (h2 : notStar b = true := by rfl) (hdb : (x == ("__debug__" : Str)) = false := by decide) : QE .F X E (.Call (.Name x p) [.Name y pos2, b] [] pos) (dCell i wb) := ⟨pd_cell G hr hg hm hk hb (pv i hN hv hd hcd) h.h rfl h2 hdb⟩
theorem q_lenS {y : Str} {p pos pos2 : Pos} (i : Nat) (hg : Gl X "len") (hm : X.mg "len" = none) (hN : X.N[i]? = some y := by rfl) (hv : Vis X.env.scope y := by first | exact Or.inl rfl | exact Or.inr (Or.inl rfl) | exact Or.inr (Or.inr rfl)) (hd : (y == ("__debug__" : Str)) = false := by decide) (hcd : (y == ("__classdict__" : Str)) = false := by decide) : QE .F X E (.Call (.Name "len" p) [.Name y pos2] [] pos) (dLenS i) := ⟨pd_lenS hg hm (pv i hN hv hd hcd) rfl⟩
theorem qg_name (i : Nat) {x : Str} {pos : Pos} (hN : X.N.Nodup) (hi : X.N[i]? = some x) (hx : Loc X.env.scope x) (hf : X.fn x = true ∨ X.env.scope.names.lookup x = some .local := by first | exact .inl rfl | exact .inr rfl | assumption) : QG [i] X (.Name x pos) (gN i) := ⟨pdg_name (pg_name hN hi hx hf)⟩
structure QGs (X : Cx) (es : List Expr) (is : List Nat) : Prop where h : PGs X es (gNs is)
theorem qg_nil  : QGs X [] [] := ⟨pgs_nil⟩
theorem qg_cons (i : Nat) {is : List Nat} {x : Str} {pos : Pos} {es : List Expr} (h : QGs X es is) (hN : X.N.Nodup) (hi : X.N[i]? = some x) (hx : Loc X.env.scope x) (hf : X.fn x = true ∨ X.env.scope.names.lookup x = some .local := by first | exact .inl rfl | exact .inr rfl | assumption) (hs : (assignEach (.Name x pos :: es) X.env).map (·.2) = assign (.Name x pos) X.env :: (assignEach es X.env).map (·.2) := by rfl) : QGs X (.Name x pos :: es) (i :: is) := ⟨pgs_cons (pg_name hN hi hx hf) h.h hs⟩
theorem qg_tup {es : List Expr} {k : Nat} {pos : Pos} {is : List Nat} (hc : X.calm = true) (h : QGs X es is) (hn : (assignEach es X.env).length = is.length := by rfl) (hst : (assignEach es X.env).findIdx? (·.1) = none := by rfl) : QG is X (.Tuple es k pos) (gTN is) := ⟨pdg_tup (pg_tup hc h.h hn hst) rfl⟩
theorem qi_list {m : Md} {tg e : Expr} {w : DE} (h : QE m X E e w) : QI m X E tg e (dItL w) := ⟨pdi_list h.h⟩
theorem qi_tup {m : Md} {tg e : Expr} {w : DE} (h : QE m X E e w) : QI m X E tg e (dItT w) := ⟨pdi_tup h.h⟩
theorem qi_rng1 {m : Md} {tg e : Expr} {w : DE} {p pos : Pos} (hg : Gl X "range") (hm : X.mg "range" = none) (h : QE .P X E e w) (hs : notStar e = true := by rfl) : QI m X E tg (.Call (.Name "range" p) [e] [] pos) (dRng1 w) := ⟨pdi_rng1 hg hm h.h hs⟩
theorem qi_rng2 {m : Md} {tg e e' : Expr} {w w' : DE} {p pos : Pos} (hg : Gl X "range") (hm : X.mg "range" = none) (h : QE .P X E e w) (h' : QE .P X E e' w') (hs : notStar e = true := by rfl) (hs' : notStar e' = true := by rfl) : QI m X E tg (.Call (.Name "range" p) [e, e'] [] pos) (dRng2 w w') := ⟨pdi_rng2 hg hm h.h h'.h hs hs'⟩
theorem qi_enumL {m : Md} {e : Expr} {w : DE} {p pos tpos : Pos} {elts : List Expr} {x1} (hg : Gl X "enumerate") (hm : X.mg "enumerate" = none) (h : QE m X E e w) (hs : notStar e = true := by rfl) : QI m X E (.Tuple elts x1 tpos) (.Call (.Name "enumerate" p) [e] [] pos) (dEnL w) := ⟨pdi_enumL hg hm h.h hs⟩
theorem qts_nil  : QTs X E [] dNoT := ⟨pdts_nil⟩
theorem q_comp (M : List Str) (cap : List (Option Nat)) {elt tg iter : Expr} {ifs : List Expr} {scope : Scope} {pos : Pos} {ix : List Nat} {wi : DI} {wg : DG} {wt : DT} {we : DE} (hi : QI .P X E tg iter wi) (hb : ∀ cl ex s3 H3 C, QG ix (blk X M scope cl ex s3 H3 C) tg wg ∧ QTs (blk X M scope cl ex s3 H3 C) E0 ifs wt ∧ QE .D (blk X M scope cl ex s3 H3 C) E0 elt we) (hc : X.calm = true := by rfl) (ok : capOk X.N X.env.scope M scope cap = true := by rfl) (hf : freeT cap ix = true := by rfl) (hs : ∀ x, foldedSetIterable iter X.env x = pure x := by intro _; rfl) : QE .F X E (.ListComp elt [⟨tg, iter, ifs, 0⟩] scope pos) (dComp cap wi wg wt we) := ⟨pd_comp hc ok hf hi.h (fun cl ex s3 H3 C => ⟨(hb cl ex s3 H3 C).1.h, (hb cl ex s3 H3 C).2.1.h, (hb cl ex s3 H3 C).2.2.h⟩) hs⟩
theorem qss_nil  : QSs X E [] dSkip := ⟨pds_snil⟩
theorem qss_one {st : Stmt} {w : DS} (h : QS X E st w) : QSs X E [st] w := ⟨pds_one h.h⟩
theorem qss_cons {st : Stmt} {rest : List Stmt} {w w' : DS} (h : QS X E st w) (h' : QSs X E rest w') : QSs X E (st :: rest) (dSeq w w') := ⟨pds_cons h.h h'.h⟩
theorem qs_set (i : Nat) {x : Str} {e : Expr} {pos pos' : Pos} {we : DE} (he : QE .D X E e we) (hN : X.N.Nodup) (hi : X.N[i]? = some x := by rfl) (hx : Loc X.env.scope x := by first | exact Or.inl rfl | exact Or.inr rfl) (hs : swapsWith e (some (.Name x pos')) pos.line X.env = pure false := by rfl) (hf : X.fn x = true ∨ X.env.scope.names.lookup x = some .local := by first | exact .inl rfl | exact .inr rfl | assumption) : QS X E (.Assign [.Name x pos'] e pos) (dSet i we) := ⟨pds_set (ps_set hN hi hx he.h hs hf)⟩
theorem qs_setF (i : Nat) {x : Str} {e : Expr} {pos pos' : Pos} {we : DE} (he : QE .F X E e we) (hN : X.N.Nodup) (hi : X.N[i]? = some x := by rfl) (hx : Loc X.env.scope x := by first | exact Or.inl rfl | exact Or.inr rfl) (hs : swapsWith e (some (.Name x pos')) pos.line X.env = pure false := by rfl) (hf : X.fn x = true ∨ X.env.scope.names.lookup x = some .local := by first | exact .inl rfl | exact .inr rfl | assumption) : QS X E (.Assign [.Name x pos'] e pos) (dSetF i we) := ⟨pds_setF (ps_set hN hi hx he.h hs hf)⟩
theorem qs_setP (i : Nat) {x : Str} {e : Expr} {pos pos' : Pos} {we : DE} (he : QE .F X E e we) (hN : X.N.Nodup) (hi : X.N[i]? = some x := by rfl) (hx : Loc X.env.scope x := by first | exact Or.inl rfl | exact Or.inr rfl) (hs : swapsWith e (some (.Name x pos')) pos.line X.env = pure false := by rfl) (hf : X.fn x = true ∨ X.env.scope.names.lookup x = some .local := by first | exact .inl rfl | exact .inr rfl | assumption) : QS X E (.Assign [.Name x pos'] e pos) (dSetP i we) := ⟨pds_setP (ps_set hN hi hx he.h hs hf)⟩
theorem qs_asg {tg e : Expr} {pos : Pos} {ix : List Nat} {we : DE} {wg : DG} (he : QE .D X E e we) (hg : QG ix X tg wg) (hs : swapsWithSole [tg] e pos.line X.env = pure false := by rfl) (hw : swappedStores [tg] e X.env = pure none := by rfl) (h1 : (assignEach [tg] X.env).map (·.2) = [assign tg X.env] := by rfl) : QS X E (.Assign [tg] e pos) (dAsg we wg) := ⟨pds_asg (ps_asg he.h hg.h hs hw h1)⟩
theorem qs_par (i j : Nat) {x y : Str} {a b : Expr} {n : Nat} {wa : DAr} {pos px py pt : Pos} {kt k2 pt2} (ha : QA n .D X E [a, b] wa) (hN : X.N.Nodup) (hc : X.calm = true := by rfl) (hi : X.N[i]? = some x := by rfl) (hj : X.N[j]? = some y := by rfl) (hij : i ≠ j := by decide) (hx : X.env.scope.names.lookup x = some .local := by rfl) (hy : X.env.scope.names.lookup y = some .local := by rfl) (hw : swappedStores [.Tuple [.Name x px, .Name y py] kt pt] (.Tuple [a, b] k2 pt2) X.env = pure (some [x, y]) := by rfl) (hs : swapsWithSole [.Tuple [.Name x px, .Name y py] kt pt] (.Tuple [a, b] k2 pt2) pos.line X.env = pure false := by rfl) : QS X E (.Assign [.Tuple [.Name x px, .Name y py] kt pt] (.Tuple [a, b] k2 pt2) pos) (dPar i j wa) := ⟨pds_par (ps_par hc hN hi hj hij hx hy ha.h hw hs)⟩
theorem qs_ret {e : Expr} {pos : Pos} {we : DE} (h : QE .D X E e we) : QS X E (.Return (some e) pos) (dRet we) := ⟨pds_ret h.h⟩
theorem qs_retF {e : Expr} {pos : Pos} {we : DE} (h : QE .F X E e we) : QS X E (.Return (some e) pos) (dRetF we) := ⟨pds_retF h.h⟩
theorem qs_retO (i : Nat) {x : Str} {pos pos2 : Pos} (hN : X.N[i]? = some x := by rfl) (hv : Vis X.env.scope x := by first | exact Or.inl rfl | exact Or.inr (Or.inl rfl) | exact Or.inr (Or.inr rfl)) (hd : (x == ("__debug__" : Str)) = false := by decide) (hcd : (x == ("__classdict__" : Str)) = false := by decide) : QS X E (.Return (some (.Name x pos)) pos2) (dRetO i) := ⟨pds_retO (pv i hN hv hd hcd)⟩
theorem qs_if {c : Expr} {a b : List Stmt} {pos : Pos} {t : DT} {w w' : DS} (hc : QT X E c t) (ha : QSs X E a w) (hb : QSs X E b w') : QS X E (.If c a b pos) (dIf t w w') := ⟨pds_if hc.h ha.h hb.h⟩
theorem qs_aug (i : Nat) {x : Str} {e : Expr} {we : DE} {op : Operator} {ti : TIp} {rD : PyData → PyData → (PyData → Prop) → Prop} {pos pos' : Pos} (ho : PIp X op ti) (hd : OpDn ti rD) (he : QE .P X E e we) (hN : X.N.Nodup) (hi : X.N[i]? = some x := by rfl) (hx : Loc X.env.scope x := by first | exact Or.inl rfl | exact Or.inr rfl) (hf : X.fn x = true ∨ X.env.scope.names.lookup x = some .local := by first | exact .inl rfl | exact .inr rfl | assumption) : QS X E (.AugAssign (.Name x pos') op e pos) (dAug i rD we) := ⟨pds_aug hd (ps_aug hN hi hx he.h (PIp.len ho) hf)⟩
theorem qs_app {y : Str} {e : Expr} {we : DE} {apos cpos pos npos : Pos} (i : Nat) (he : QE .D X E e we) (hN : X.N[i]? = some y := by rfl) (hv : Vis X.env.scope y := by first | exact Or.inl rfl | exact Or.inr (Or.inl rfl) | exact Or.inr (Or.inr rfl)) (hd : (y == ("__debug__" : Str)) = false := by decide) (hcd : (y == ("__classdict__" : Str)) = false := by decide) (hst : notStar e = true := by rfl) (hbase : attributeBase (.Name y npos) "append" X.env (eval (.Name y npos) X.env) = eval (.Name y npos) X.env := by rfl) (hfew : ((backTo cpos (starEach [e] X.env)).all (fun x => !x.1) && (backToKw cpos (keywordEach [] X.env)).all (fun x => x.1.isSome) && decide ([e].length + ([] : List Keyword).length + (if ([] : List Keyword).isEmpty then 0 else 1) < 30)) = true := by rfl) (hline : (apos.endLine == cpos.line) = true := by rfl) (hsw : swapsWith (.Call (.Attribute (.Name y npos) "append" apos) [e] [] cpos) none pos.line X.env = pure false := by rfl) : QS X E (.Expr (.Call (.Attribute (.Name y npos) "append" apos) [e] [] cpos) pos) (dApp i we) := ⟨pds_app (ps_expr (pe_bm PySem.F.plainAttrs_list PySem.F.slot_list_append PySem.F.type_list_append mt_append (pv i hN hv hd hcd) (pa_c he.h pa_nil hst) hbase hfew hline (star_of hst) rfl) hsw)⟩
theorem qs_put {y : Str} {e k : Expr} {we wk : DE} {pos spos npos : Pos} (i : Nat) (he : QE .D X E e we) (hk : QE .P X E k wk) (hN : X.N[i]? = some y := by rfl) (hv : Vis X.env.scope y := by first | exact Or.inl rfl | exact Or.inr (Or.inl rfl) | exact Or.inr (Or.inr rfl)) (hd : (y == ("__debug__" : Str)) = false := by decide) (hcd : (y == ("__classdict__" : Str)) = false := by decide) (ha : ∀ v, assign (.Subscript (.Name y npos) k spos) X.env v = (do
      let ov ← holding [v] (eval (.Name y npos) X.env)
      let iv ← holding [v, ov] (eval k X.env)
      standAt spos
      holding [v, ov, iv] (setItem ov iv v)
      release [v, ov, iv] []) := by intro _; rfl) (hs : swapsWithSole [.Subscript (.Name y npos) k spos] e pos.line X.env = pure false := by rfl) (hw : swappedStores [.Subscript (.Name y npos) k spos] e X.env = pure none := by rfl) (h1 : (assignEach [.Subscript (.Name y npos) k spos] X.env).map (·.2) = [assign (.Subscript (.Name y npos) k spos) X.env] := by rfl) : QS X E (.Assign [.Subscript (.Name y npos) k spos] e pos) (dPut i wk we) := ⟨pds_put (ps_asg he.h (pg_sub (pv i hN hv hd hcd) hk.h set_list ha) hs hw h1)⟩
theorem qs_dem {st : Stmt} {w : DS} (is : List Nat) (h : QS X E st w) : QS X E st (fun D δ => w D (demS is δ)) := ⟨pds_dem is h.h⟩
theorem qs_for {tg iter : Expr} {body : List Stmt} {pos : Pos} {ix : List Nat} {wi : DI} {wg : DG} {wb : DS} (hp : PassesOwn (model X.prog X.w) X.A X.env X.xe) (hc : X.calm = true) (hi : QI .D X E tg iter wi) (hg : QG ix X tg wg) (hb : QSs X E body wb) (hs : ∀ x, foldedSetIterable iter X.env x = pure x := by intro _; rfl) : QS X E (.For tg iter body [] pos) (dFor wi wg wb) := ⟨pds_for hp hc hi.h hg.h hb.h hs⟩
theorem qs_raise {x : Str} {C : Addr} {e0 : Expr} {we : DE} {np cpos pos : Pos} (hxe : ∀ e s1, wpAny (model X.prog X.w) X.A (leaving X.env e) (fun _ s2 => Rx.CXE X.prog X.w X.outer X.H₀ X.s₀ E e s2) (fun e' s2 => Rx.CXE X.prog X.w X.outer X.H₀ X.s₀ E e' s2) s1 → X.xe e s1) (hm : X.mg x = some (.ref C)) (q : PySem.W.excIn X.K C Rx.mroV "ValueError.__new__" = true) (ha : QE .P X E e0 we) (hstk : X.stack = X.env :: X.outer := by rfl) (hfr : X.env.frame = some X.env.locals := by rfl) (hex : X.ex = [] := by rfl) (hc : X.calm = true := by rfl) (hg : Gl X x := by rfl) (he : starEach [e0] X.env = [(false, eval e0 X.env)] := by rfl) (hd : (x == ("__debug__" : Str)) = false := by decide) : QS X E (.Raise (some (.Call (.Name x np) [e0] [] cpos)) none pos) (dRaise C we) := ⟨pds_raise (Rx.ps_raise hxe hstk hfr hex hc hg hm q ha.h he hd)⟩
theorem qs_expr {e : Expr} {we : DE} {pos : Pos} (he : QE .P X E e we) (hs : swapsWith e none pos.line X.env = pure false := by rfl) : QS X E (.Expr e pos) (dExpr we) := ⟨pds_expr (ps_expr he.h hs)⟩
theorem qs_nox {st : Stmt} {w : DS} (h : QS X.nox E0 st w) : QS X E st (fun D δ => w { D with ex := XF } δ) := ⟨pds_nox h.h⟩
end
section
variable {P : Program} {w : World} {K : PySem.W.Frag} {mg : Str → Option Value} {base : Heap}
theorem okQ {x qual : Str} {st : Stmt} {f : Addr} {fd : FuncData} {N ps : List Str} {k : Nat} {fD : DF} (fr : Bool) (F : Fun K x qual st f fd) (S : FnScope N ps (defScope st)) (len : ∀ args R EX, fD args R EX → args.length = ps.length)
    (hbody : ∀ (cdv : Value) (A : Around) (outer : List Env) (s : Shared) (H : Hp) (E : XK), Room k (A.deeper (envOfC qual (defScope st) s.heap.objs.size f cdv)) →
      ∃ wd, QSs (cxOf CX0 P w K mg base N qual (defScope st) f cdv A outer s H E).nox E0 (defBody st) wd ∧ ∀ args R EX, fD args R EX → wd (endsD fr R XF) (stD N args)) : FnOk P w K mg base CX0 (k + 1) f fd ps (toSp fr fD) :=
  okD fr F S len fun cdv A outer s H E hr => let ⟨wd, h, q⟩ := hbody cdv A outer s H E hr; ⟨wd, h.h, q⟩
theorem okQE {x qual : Str} {st : Stmt} {f : Addr} {fd : FuncData} {N ps : List Str} {k : Nat} {fD : DF} (fr : Bool) (F : Fun K x qual st f fd) (S : FnScope N ps (defScope st)) (len : ∀ args R EX, fD args R EX → args.length = ps.length)
    (hbody : ∀ (cdv : Value) (A : Around) (outer : List Env) (s : Shared) (H : Hp) (E : XK), Room k (A.deeper (envOfC qual (defScope st) s.heap.objs.size f cdv)) →
      ∃ wd, QSs (cxOf (Rx.CXE P w) P w K mg base N qual (defScope st) f cdv A outer s H E) E (defBody st) wd ∧ ∀ args R EX, fD args R EX → wd (endsD fr R EX) (stD N args)) : FnOk P w K mg base (Rx.CXE P w) (k + 1) f fd ps (toSp fr fD) :=
  okDE fr F S len fun cdv A outer s H E hr => let ⟨wd, h, q⟩ := hbody cdv A outer s H E hr; ⟨wd, h.h, q⟩
theorem okQL {x qual : Str} {st : Stmt} {f : Addr} {fd : FuncData} {N : List Str} {p : Str} {k : Nat} (F : Fun K x qual st f fd) (S : FnScope N [p] (defScope st))
    (hbody : ∀ (cdv : Value) (A : Around) (outer : List Env) (s : Shared) (H : Hp) (E : XK), Room k (A.deeper (envOfC qual (defScope st) s.heap.objs.size f cdv)) →
      ∃ wd, QSs (cxOf CX0 P w K mg base N qual (defScope st) f cdv A outer s H E).nox E0 (defBody st) wd ∧ wd endsL (stD N [.scr])) : FnOk P w K mg base CX0 (k + 1) f fd [p] (spLawD K) :=
  okLaw F S fun cdv A outer s H E hr => let ⟨wd, h, q⟩ := hbody cdv A outer s H E hr; ⟨wd, h.h, q⟩
end
end Dl
namespace Rk
open PySem PySem.Spec PyProof.Rows L2 _root_.Rd Dl
def inW (d : PyData) (a b : Int) : Bool := match d with
  | .int i => decide (a ≤ i) && decide (i ≤ b)
  | _ => false
theorem inW_t {i a b : Int} (h1 : a ≤ i) (h2 : i ≤ b) : inW (.int i) a b = true := by
  show (decide (a ≤ i) && decide (i ≤ b)) = true
  rw [decide_eq_true h1, decide_eq_true h2]; rfl
theorem inW_e {d : PyData} {a b : Int} (h : inW d a b = true) : ∃ i, d = .int i ∧ a ≤ i ∧ i ≤ b := by
  cases d <;> first | (cases h; done) | skip
  rename_i i
  have h := Bool.and_eq_true_iff.mp (show (decide (a ≤ i) && decide (i ≤ b)) = true from h)
  exact ⟨i, rfl, of_decide_eq_true h.1, of_decide_eq_true h.2⟩
def withinD : DF := fun args R _ => ∃ d a b, args = [.v d, .v (.int a), .v (.int b)] ∧ R (.bool (inW d a b))
def refXD (C : Addr) : DF := fun args R EX => ∃ a b, args = [.v a, .v b] ∧ (inW a 1 12 = true → inW b 1 12 = true → R .none) ∧ ((inW a 1 12 && inW b 1 12) = false → EX C)
def isNN : PyData → Bool
  | .int i => decide (0 ≤ i)
  | _ => false
def one1 : List PyData → Bool
  | .int i :: _ => decide (i = 1)
  | _ => false
def isCnt (m : Nat) : PyData → Bool
  | .list ds => decide (ds.length = m + 1) && (ds.all isNN && one1 ds)
  | _ => false
def cntXD (C : Addr) : DF := fun args R EX => ∃ a b d, args = [.v a, .v b, .v d] ∧ (∀ h w : Int, a = .int h → b = .int w → 1 ≤ h → h ≤ 12 → 1 ≤ w → w ≤ 12 → R (.bool (isCnt (min h w).toNat d))) ∧ ((inW a 1 12 && inW b 1 12) = false → EX C)
theorem lenI (ns : List Int) : (ns.map PyData.int).length = ns.length := List.length_map _
def ordersD : DF := fun args R _ => ∃ m : Int, args = [.v (.int m)] ∧ 0 ≤ m ∧ m ≤ 12 ∧ R (.int (fctI m.toNat))
def setsD : DF := fun args R _ => ∃ m k : Int, args = [.v (.int m), .v (.int k)] ∧ 0 ≤ m ∧ m ≤ 13 ∧ 0 ≤ k ∧ k ≤ 13 ∧ R (.int (setI m.toNat k.toNat))
def fullI (h w s : Nat) : Int := setI h s * setI w s * fctI s
def fullD : DF := fun args R _ => ∃ h w s : Int, args = [.v (.int h), .v (.int w), .v (.int s)] ∧ 0 ≤ h ∧ h ≤ 12 ∧ 0 ≤ w ∧ w ≤ 12 ∧ 0 ≤ s ∧ s ≤ 12 ∧ R (.int (fullI h.toNat w.toNat s.toNat))
def fullsI (h w : Nat) : List Int := (List.range (min h w + 1)).map (fullI h w)
theorem full_small {h w s : Nat} (hh : h ≤ 13) (hw : w ≤ 13) (hs : s ≤ 13) : 0 ≤ setI h s * setI w s ∧ setI h s * setI w s ≤ 1716 * 1716 := by
  have a := set_ok hh hs
  have b := set_ok hw hs
  refine ⟨Int.mul_nonneg a.1 b.1, ?_⟩
  exact Int.le_trans (Int.mul_le_mul_of_nonneg_left b.2.1 a.1) (Int.mul_le_mul_of_nonneg_right a.2.1 (by decide))
def restAt (h w : Nat) (c : List Int) (k : Nat) : Int := sumN (k + 1) fun j => sgnI j * c.getD j 0 * fullI (h - j) (w - j) (k - j)
def rcI (h w : Nat) (c : List Int) : List Int := (List.range c.length).map (restAt h w c)
def restcD : DF := fun args R _ => ∃ (h w s : Int) (c : List Int), args = [.v (.int h), .v (.int w), .v (.list (c.map PyData.int)), .v (.int s)] ∧ h ≤ 12 ∧ w ≤ 12 ∧ 0 ≤ s ∧ s < c.length ∧ c.length = (min h w).toNat + 1 ∧ 1 ≤ h ∧ 1 ≤ w ∧ R (.int (restAt h.toNat w.toNat c s.toNat))
def sized (a b : PyData) : Bool := inW a 1 12 && inW b 1 12
def restXD (CS CC : Addr) : DF := fun args R EX => ∃ a b d, args = [.v a, .v b, .v d] ∧ (sized a b = false → EX CS) ∧ (∀ h w : Int, a = .int h → b = .int w → 1 ≤ h → h ≤ 12 → 1 ≤ w → w ≤ 12 → isCnt (min h w).toNat d = false → EX CC) ∧
  (∀ (h w : Int) (c : List Int), a = .int h → b = .int w → 1 ≤ h → h ≤ 12 → 1 ≤ w → w ≤ 12 → isCnt (min h w).toNat d = true → d = .list (c.map PyData.int) → R (.list ((rcI h.toNat w.toNat c).map PyData.int)))
def wellXD (CS CC : Addr) : DF := fun args R EX => ∃ a b d, args = [.v a, .v b, .v d] ∧ (sized a b = false → EX CS) ∧ (∀ h w : Int, a = .int h → b = .int w → 1 ≤ h → h ≤ 12 → 1 ≤ w → w ≤ 12 → isCnt (min h w).toNat d = false → EX CC) ∧
  (∀ (h w : Int) (c : List Int), a = .int h → b = .int w → 1 ≤ h → h ≤ 12 → 1 ≤ w → w ≤ 12 → isCnt (min h w).toNat d = true → d = .list (c.map PyData.int) → R (.bool (isCnt (min h w).toNat (.list ((rcI h.toNat w.toNat c).map PyData.int)))))
def fullsXD (CS : Addr) : DF := fun args R EX => ∃ a b, args = [.v a, .v b] ∧ (sized a b = false → EX CS) ∧ (∀ h w : Int, a = .int h → b = .int w → 1 ≤ h → h ≤ 12 → 1 ≤ w → w ≤ 12 → R (.list ((fullsI h.toNat w.toNat).map PyData.int)))
theorem cnt_ints {m : Nat} {d : PyData} (h : isCnt m d = true) : ∃ c : List Int, d = .list (c.map PyData.int) ∧ c.length = m + 1 ∧ (∀ x ∈ c, 0 ≤ x) ∧ c.getD 0 0 = 1 := by
  cases d <;> first | (cases h; done) | skip
  rename_i ds
  have h := Bool.and_eq_true_iff.mp (show (decide (ds.length = m + 1) && (ds.all isNN && one1 ds)) = true from h)
  have h2 := Bool.and_eq_true_iff.mp h.2
  have hl := of_decide_eq_true h.1
  obtain ⟨c, rfl⟩ := ints_isW (ds := ds) (List.all_eq_true.mpr fun v hv => by
    have := List.all_eq_true.mp h2.1 v hv
    cases v <;> first | rfl | cases this)
  refine ⟨c, rfl, by rw [← hl, List.length_map], fun x hx => ?_, ?_⟩
  · exact of_decide_eq_true (List.all_eq_true.mp h2.1 (.int x) (List.mem_map.mpr ⟨x, hx, rfl⟩))
  · cases c with
    | nil => cases h2.2
    | cons x c => exact of_decide_eq_true h2.2
theorem full_abs {h w s : Nat} (hh : h ≤ 12) (hw : w ≤ 12) (hs : s ≤ 12) : -(2 ^ 64) < fullI h w s ∧ fullI h w s < 2 ^ 64 := by
  have a := full_small (h := h) (w := w) (s := s) (by omega) (by omega) (by omega)
  have b := fct_ok hs
  unfold fullI
  have c := Int.mul_le_mul_of_nonneg_left b.2 a.1
  have d : setI h s * setI w s * 479001600 ≤ 1716 * 1716 * 479001600 := Int.mul_le_mul_of_nonneg_right a.2 (by decide)
  have e := Int.mul_nonneg a.1 (Int.le_of_lt b.1)
  omega
theorem cut_take (xs : List PyData) (k : Int) (h : 0 ≤ k) : Dl.cutD xs none (some k) = xs.take k.toNat := by
  unfold Dl.cutD
  obtain ⟨j, rfl⟩ : ∃ j : Nat, k = j := ⟨k.toNat, by omega⟩
  rw [HT.sIx_none, HT.sIx_nat, List.drop_zero, Nat.sub_zero, Int.toNat_natCast]
  by_cases z : j ≤ xs.length
  · rw [Nat.min_eq_left z]
  · rw [Nat.min_eq_right (by omega), List.take_length, List.take_of_length_le (by omega)]
end Rk
namespace Rx
open PySem PySem.Spec PySem.Calls PyProof.Rows L2
section
variable {X : Cx} {e : Expr} {st : Stmt} {rest : List Stmt} {pos : Pos} {te : TX} {t u : TSX}
theorem psx_ret (he : PEX X e te) : PSX X (.Return (some e) pos) (fun D σ H Ex => te σ H D.rt Ex) := by
  intro pins s σ H D Ex I h
  exact wpAny_Return_some (thn (he pins s σ H _ _ I h) fun v s1 ⟨x, H1, I1, r1, q1⟩ => ⟨x, σ, H1, I1, r1, q1⟩)
theorem psxs_nil : PSXs X [] (fun D σ H _ => D.nx σ H) := fun pins s σ H D Ex I h => wpAny_execs_nil ⟨σ, H, I, h⟩
theorem psxs_cons (h1 : PSX X st t) (h2 : PSXs X rest u) : PSXs X (st :: rest) (fun D σ H Ex => t { D with nx := fun σ' H' => σ' = σ ∧ u D σ H' Ex } σ H Ex) := by
  intro pins s σ H D Ex I h
  refine wpAny_execs_cons (thn (h1 pins s σ H _ Ex I h) fun f s1 q => ?_)
  cases f with
  | next =>
    obtain ⟨σ1, H1, I1, rfl, q1⟩ := q
    exact h2 pins s1 σ1 H1 D Ex I1 q1
  | ret v => exact q
  | brk => exact q
  | cont => exact q
end
end Rx
namespace L2
open PySem PySem.Spec PyProof.Rows Dl
end L2
namespace Dl
open PySem PySem.Spec PyProof.Rows L2 _root_.Rd Rk
def tXx (m : Md) (K : PySem.W.Frag) (w : DE) : Rx.TX := fun σ H Q Ex => ∃ (F : Fm) (δ : Sts) (R : PyData → Prop) (EX : XP), Rel K F σ H δ ∧ w δ R EX ∧ (∀ d, R d → ∀ v H', Rel K F σ H' δ → Kp σ δ H H' → Vok m F σ δ H H' v d → Q v H') ∧ ∀ C, EX C → ∀ H', Rel K F σ H' δ → Kp σ δ H H' → Ex C H'
structure EndsX (K : PySem.W.Frag) (F : Fm) (σ : L2.St) (H : Hp) (δ : Sts) (DD : DEnds) (D : L2.Ends) (Ex : Addr → Hp → Prop) : Prop where
  nx : ∀ δ', DD.nx δ' → δ' = δ ∧ ∀ H', Rel K F σ H' δ → Kp σ δ H H' → D.nx σ H'
  rt : ∀ d, DD.rt d → ∀ v H', Ke F H' → DA F.A0 H' v d → D.rt v H'
  rtF : ∀ d, DD.rtF d → ∀ v H', Ke F H' → DA F.A0 H' v d → FrV F.H0 H' v → D.rt v H'
  ex : ∀ C, DD.ex C → ∀ H', Rel K F σ H' δ → Kp σ δ H H' → Ex C H'
def tSx (K : PySem.W.Frag) (w : DS) : Rx.TSX := fun D σ H Ex => ∃ (F : Fm) (δ : Sts) (DD : DEnds), Rel K F σ H δ ∧ w DD δ ∧ EndsX K F σ H δ DD D Ex
structure QX (m : Md) (X : Cx) (e : Expr) (w : DE) : Prop where h : Rx.PEX X e (tXx m X.K w)
structure QSX (X : Cx) (st : Stmt) (w : DS) : Prop where h : Rx.PSX X st (tSx X.K w)
structure QSXs (X : Cx) (sts : List Stmt) (w : DS) : Prop where h : Rx.PSXs X sts (tSx X.K w)
theorem EndsX.step {K : PySem.W.Frag} {F : Fm} {σ : L2.St} {H H1 : Hp} {δ : Sts} {DD : DEnds} {D : L2.Ends} {Ex : Addr → Hp → Prop} (h : EndsX K F σ H δ DD D Ex) (k : Kp σ δ H H1) : EndsX K F σ H1 δ DD D Ex :=
  ⟨fun δ' h' => ⟨(h.nx δ' h').1, fun H' r k' => (h.nx δ' h').2 H' r (k.trans k')⟩, h.rt, h.rtF, fun C hC H' r k' => h.ex C hC H' r (k.trans k')⟩
section
variable {X : Cx}
theorem PEX.imp {e : Expr} {t t' : Rx.TX} (h : Rx.PEX X e t) (i : ∀ σ H Q Ex, t' σ H Q Ex → t σ H Q Ex) : Rx.PEX X e t' := fun pins s σ H Q Ex I q => h pins s σ H Q Ex I (i σ H Q Ex q)
theorem PSX.imp {e : Stmt} {t t' : Rx.TSX} (h : Rx.PSX X e t) (i : ∀ D σ H Ex, t' D σ H Ex → t D σ H Ex) : Rx.PSX X e t' := fun pins s σ H D Ex I q => h pins s σ H D Ex I (i D σ H Ex q)
theorem PSXs.imp {e : List Stmt} {t t' : Rx.TSX} (h : Rx.PSXs X e t) (i : ∀ D σ H Ex, t' D σ H Ex → t D σ H Ex) : Rx.PSXs X e t' := fun pins s σ H D Ex I q => h pins s σ H D Ex I (i D σ H Ex q)
def dCallX (f : DF) (wa : DSl) : DE := fun δ Q EX => wa δ (fun args => f args Q EX) XF
variable {k : Nat} {f : Addr} {fd : FuncData} {ps : List Str} {x : Str} {p pos : Pos} {e : Expr} {es : List Expr} {fD : DF} {wa : DSl}
theorem callX_fit {m : Md} {fr : Bool} {K : PySem.W.Frag} {F : Fm} {σ : L2.St} {δ : Sts} {H H1 : Hp} {R : PyData → Prop} {EX : XP} {Q : VK} {Ex : Addr → Hp → Prop} {vs : List V} {args : List Sl} (hm : ∀ {v : V} {d : PyData} {H' : Hp}, DA (Av F σ δ) H' v d → (fr = true → FrV H H' v) → Vok m F σ δ H H' v d)
    (k : ∀ d, R d → ∀ v H', Rel K F σ H' δ → Kp σ δ H H' → Vok m F σ δ H H' v d → Q v H') (kx : ∀ C, EX C → ∀ H', Rel K F σ H' δ → Kp σ δ H H' → Ex C H') (rel1 : Rel K F σ H1 δ) (kp1 : Kp σ δ H H1) (q : Paired (ArgOk (Av F σ δ) (PotA σ δ) H1) vs args) (ha : fD args R EX) :
    toSp fr fD vs H1 Q fun cv _ H2 => ∃ C, cv = .ref C ∧ Ex C H2 := by
  refine ⟨Av F σ δ, PotA σ δ, args, R, EX, fun a ha => rel1.isl ha, fun p hp => ⟨pot_av hp, (Kp.refl rel1).2 p hp⟩, q, ha, fun d hd v H' kq dv fr => ?_, fun C hC H' kq => ⟨C, rfl, kx C hC H' (rel1.kp kq) (kp1.trans kq)⟩⟩
  exact k d hd v H' (rel1.kp kq) (kp1.trans kq) (hm dv fun z l e1 e2 => kp_none kp1 (fr z l e1 e2))
theorem x_call (G : FnOk X.prog X.w X.K X.mg X.base (Rx.CXE X.prog X.w) k f fd ps (toSp false fD)) (hr : Room k X.A) (hg : Gl X x) (hm : X.mg x = some (.ref f)) (hk : PySem.W.keepIn X.K (.ref f) = true) (hb : Binds X.K fd ps []) (ha : QAs X.nox E0 (e :: es) wa) (hex : X.ex = [] := by rfl)
    (hdb : (x == ("__debug__" : Str)) = false := by decide) (he : starEach (e :: es) X.env = (false, eval e X.env) :: starEach es X.env := by rfl) (hpl : (backTo pos (starEach es X.env)).any (·.1) = false := by rfl) :
    QX .D X (.Call (.Name x p) (e :: es) [] pos) (dCallX fD wa) := by
  refine ⟨PEX.imp (Rx.pex_call G hr hg hm hk hb hex ha.h hdb he hpl) fun σ H Q Ex ⟨F, δ, R, EX, rel, hw, k, kx⟩ => ?_⟩
  exact ⟨F, δ, _, XF, rel, hw, fun args ha vs H1 rel1 kp1 q => callX_fit (m := .D) (fun h _ => h) k kx rel1 kp1 q ha, outF⟩
theorem x_callF (G : FnOk X.prog X.w X.K X.mg X.base (Rx.CXE X.prog X.w) k f fd ps (toSp true fD)) (hr : Room k X.A) (hg : Gl X x) (hm : X.mg x = some (.ref f)) (hk : PySem.W.keepIn X.K (.ref f) = true) (hb : Binds X.K fd ps []) (ha : QAs X.nox E0 (e :: es) wa) (hex : X.ex = [] := by rfl)
    (hdb : (x == ("__debug__" : Str)) = false := by decide) (he : starEach (e :: es) X.env = (false, eval e X.env) :: starEach es X.env := by rfl) (hpl : (backTo pos (starEach es X.env)).any (·.1) = false := by rfl) :
    QX .F X (.Call (.Name x p) (e :: es) [] pos) (dCallX fD wa) := by
  refine ⟨PEX.imp (Rx.pex_call G hr hg hm hk hb hex ha.h hdb he hpl) fun σ H Q Ex ⟨F, δ, R, EX, rel, hw, k, kx⟩ => ?_⟩
  exact ⟨F, δ, _, XF, rel, hw, fun args ha vs H1 rel1 kp1 q => callX_fit (m := .F) (fun h z => ⟨h, z rfl⟩) k kx rel1 kp1 q ha, outF⟩
structure QFs (X : Cx) (es : List Expr) (fs : List (Addr × DF)) : Prop where h : PA X.nox es (fun σ H Q => Q (fs.map fun p => V.ref p.1) H)
theorem fs_nil : QFs X [] [] := ⟨pa_nil⟩
theorem fs_cons {fs : List (Addr × DF)} {n : Str} {npos : Pos} (f : Addr) (fD : DF) (hg : Gl X.nox n) (hm : X.nox.mg n = some (.ref f)) (hr : QFs X es fs) (hd : (n == ("__debug__" : Str)) = false := by decide) : QFs X (.Name n npos :: es) ((f, fD) :: fs) :=
  ⟨pa_c (X := X.nox) (pe_glob (v := .ref f) hg hm rfl hd) hr.h rfl⟩
def dCallL (fs : List (Addr × DF)) (wk : DE) (wa : DSl) : DE := fun δ Q EX => wk δ (fun d => match d with
  | .int i => ∃ p, atI fs i = some p ∧ wa δ (fun args => p.2 args Q EX) XF
  | _ => False) XF
theorem atI_map {α β : Type} {xs : List α} {i : Int} {a : α} (g : α → β) (h : atI xs i = some a) : atI (xs.map g) i = some (g a) := by
  unfold atI at h ⊢
  rw [List.length_map]
  cases e : ixN xs.length i with
  | none => rw [e] at h; cases h
  | some j => rw [e] at h; show (xs.map g)[j]? = _; rw [List.getElem?_map, show xs[j]? = some a from h]; rfl
theorem atI_mem2 {α : Type} {xs : List α} {i : Int} {a : α} (h : atI xs i = some a) : a ∈ xs := by
  unfold atI at h
  cases e : ixN xs.length i with
  | none => rw [e] at h; cases h
  | some j => rw [e] at h; exact List.mem_of_getElem? h
theorem sx_ret {w : DE} (h : QX .D X e w) : QSX X (.Return (some e) pos) (dRet w) := by
  refine ⟨PSX.imp (Rx.psx_ret h.h) fun D σ H Ex ⟨F, δ, DD, rel, hw, en⟩ => ?_⟩
  exact ⟨F, δ, _, DD.ex, rel, hw, fun d hd v H' r' kp vk => en.rt d hd v H' r'.ke (da_a0 vk), en.ex⟩
theorem sx_retF {w : DE} (h : QX .F X e w) : QSX X (.Return (some e) pos) (dRetF w) := by
  refine ⟨PSX.imp (Rx.psx_ret h.h) fun D σ H Ex ⟨F, δ, DD, rel, hw, en⟩ => ?_⟩
  exact ⟨F, δ, _, DD.ex, rel, hw, fun d hd v H' r' kp vk => en.rtF d hd v H' r'.ke (da_a0 vk.1) fun l e1 e2 => fresh0 rel (vk.2 l e1 e2), en.ex⟩
def dIfX (t : DT) (a b : DS) : DS := fun D δ => t δ (fun c => if c = true then a D δ else b D δ) XF
theorem sx_if {c : Expr} {a b : List Stmt} {t : DT} {w w' : DS} (hc : QT X.nox E0 c t) (ha : QSXs X a w) (hb : QSXs X b w') : QSX X (.If c a b pos) (dIfX t w w') := by
  refine ⟨PSX.imp (Rx.psx_if hc.h ha.h hb.h) fun D σ H Ex ⟨F, δ, DD, rel, hw, en⟩ => ?_⟩
  exact ⟨F, δ, _, XF, rel, hw, fun b hb H' r' kp => if_imp hb (fun z => ⟨F, δ, DD, r', z, en.step kp⟩) fun z => ⟨F, δ, DD, r', z, en.step kp⟩, outF⟩
theorem sxs_nil : QSXs X [] dSkip := ⟨PSXs.imp Rx.psxs_nil fun D σ H Ex ⟨F, δ, DD, rel, hw, en⟩ => (en.nx δ hw).2 H rel (Kp.refl rel)⟩
theorem sxs_one {st : Stmt} {w : DS} (h : QSX X st w) : QSXs X [st] w := ⟨Rx.psxs_one h.h⟩
def dSeqX (a b : DS) : DS := fun D δ => a { D with nx := fun δ' => δ' = δ ∧ b D δ } δ
theorem sxs_cons {st : Stmt} {rest : List Stmt} {w w' : DS} (h : QSX X st w) (h' : QSXs X rest w') : QSXs X (st :: rest) (dSeqX w w') := by
  refine ⟨PSXs.imp (Rx.psxs_cons h.h h'.h) fun D σ H Ex ⟨F, δ, DD, rel, hw, en⟩ => ?_⟩
  exact ⟨F, δ, _, rel, hw, fun δ' ⟨e1, h2⟩ => ⟨e1, fun H' r' kp => ⟨rfl, F, δ, DD, r', h2, en.step kp⟩⟩, en.rt, en.rtF, en.ex⟩
def dTry (ks : Addr → Str → Prop) (w : DS) : DS := fun D δ => w { D with nx := fun δ' => δ' = δ ∧ D.nx δ, ex := fun C => ∃ wd, ks C wd ∧ PyData.canLay0 (.str wd) = true ∧ D.rt (.str wd) } δ
structure QH (X : Cx) (i : Nat) (hx : Expr) (sp : Sp) : Prop where h : ∀ e, PE (Rx.mkd X e) hx (fun σ H Q => (tCons (tVar i) tNil) σ H fun vs H1 => sp vs H1 Q E0)
theorem qh_call {i : Nat} {sp : Sp} {y : Str} {pos2 : Pos} (G : Rx.FnM X.prog X.w X.K X.mg X.base 1 f fd ps sp) (hr : Room 1 X.A) (hm : X.mg x = some (.ref f)) (hk : PySem.W.keepIn X.K (.ref f) = true) (hb : Binds X.K fd ps []) (hg : Gl X x := by rfl) (hN : X.N[i]? = some y := by rfl) (hv : Vis X.env.scope y := by first | exact Or.inl rfl | exact Or.inr (Or.inl rfl) | exact Or.inr (Or.inr rfl)) (hd : (y == ("__debug__" : Str)) = false := by decide) (hcd : (y == ("__classdict__" : Str)) = false := by decide) (hdb : (x == ("__debug__" : Str)) = false := by decide) :
    QH X i (.Call (.Name x p) [.Name y pos2] [] pos) sp := ⟨fun e => Rx.pe_callM (X := Rx.mkd X e) G (Rx.Room.m hr e) hg hm hk hb (pa_c (X := Rx.mkd X e) (pv (X := Rx.mkd X e) i hN hv hd hcd) pa_nil rfl) hdb rfl rfl⟩
theorem qs_try {E : XK} {R : Addr} {i : Nat} {n r : Str} {body : List Stmt} {hx : Expr} {w : DS} {ks : Addr → Str → Prop} {sp : Sp} {np hp hpos pos : Pos} (hb : QSXs X body w) (hN : X.N.Nodup) (hm : X.mg r = some (.ref R)) (hh : QH X i hx sp)
    (hk : ∀ {C : Addr} {wd : Str}, ks C wd → ∀ {H1 : Hp} {Q : VK} {σ : L2.St}, i < σ.length → (∀ H', Same H1 H' → Q (.str wd) H') → Rx.ByC X.K C R ∧ ∀ a, H1 a = none → (tCons (tVar i) tNil) (σ.set i (some (.ref a))) (upd H1 a (Rx.exO a C)) fun vs H2 => sp vs H2 Q E0)
    (hstk : X.stack = X.env :: X.outer := by rfl) (hfr : X.env.frame = some X.env.locals := by rfl) (hi : X.N[i]? = some n := by rfl) (hl : X.env.scope.names.lookup n = some .local := by rfl) (hg : Gl X r := by rfl) (hd : (r == ("__debug__" : Str)) = false := by decide) :
    QS X E (.Try body [.ExceptHandler (some (.Name r np)) (some n) [.Return (some hx) hp] hpos] [] [] pos) (dTry ks w) := by
  refine ⟨fun pins s σ H D I ⟨F, δ, DD, rel, hw, en⟩ => Rx.ps_tryS hstk hfr hb.h hN hi hl hg hm hh.h hd pins s σ H D I ?_⟩
  have hlen : i < σ.length := by rw [I.len]; exact (List.getElem?_eq_some_iff.mp hi).1
  refine ⟨F, δ, _, rel, hw, fun δ' ⟨e1, h1⟩ => ⟨e1, fun H' r' kp => en.nx.go δ h1 σ H' r' (Stp.kp kp)⟩, en.rt, en.rtF, fun C ⟨wd, hks, cl, hr⟩ H' r' kp => ?_⟩
  exact hk hks hlen fun H2 s2 => en.rt _ hr _ H2 (r'.same s2).ke (.str wd cl)
end
end Dl
namespace Dl
open PySem PySem.Spec PyProof.Rows L2 _root_.Rd Rk
mutual
def rpOk : PyData → Bool
  | .dict kvs => kvs.isEmpty
  | .list xs => rpAll xs
  | .tuple xs => rpAll xs
  | _ => true
def rpAll : List PyData → Bool
  | [] => true
  | x :: xs => rpOk x && rpAll xs
end
theorem dk_nil {P : Program} {w : World} {h : Heap} {a : Addr} (m : h.DictOf (mixKind P w) a []) : ∃ o ep, h.get? a = some o ∧ o.cls = .type "dict" ∧ o.data = .dict #[] ep := by
  obtain ⟨o, es, ep, e, x, d, _, p, _⟩ := m
  have z : es.toList = [] := by
    cases q : es.toList with
    | nil => rfl
    | cons y l => rw [q] at p; cases p
  have z : es = #[] := by cases es; simp_all
  subst z
  exact ⟨o, ep, e, x.1, d⟩
mutual
theorem da_rk {P : Program} {w : World} {H : Hp} {h : Heap} {A : Addr → Prop} (ok : HOk P w H h) : ∀ (d : PyData) (x : V) (v : Value), DA A H x d → RelV x v → d.showable = true → rpOk d = true → d.shown.length ≤ sizeLine → ∃ as, Reads h v d as ∧ ∃ bs, ReadAtMost h d.depth bs ∧ ReprK P w bs h d.depth v d.shown
  | .none, _, v, .non, r, _, _, _ => by cases r; exact ⟨_, .none, [], (fun _ h => nomatch h), by simp only [PyData.shown]; exact .of_is ReprIs.none _ _ _⟩
  | .bool b, _, v, .bl _, r, _, _, _ => by cases r; exact ⟨_, .bool b, [], (fun _ h => nomatch h), by simp only [PyData.shown]; exact .of_is (ReprIs.bool b) _ _ _⟩
  | .int i, _, v, .int _, r, hs, _, _ => by obtain ⟨t, rfl⟩ := r; exact ⟨_, .int i t, [], (fun _ h => nomatch h), by simp only [PyData.shown]; exact .of_is (ReprIs.int t (by simpa [PyData.showable] using hs)) _ _ _⟩
  | .str z, _, v, .str _ c, r, _, _, hz => by obtain ⟨t, rfl⟩ := r; exact ⟨_, .str z t, [], (fun _ h => nomatch h), by simp only [PyData.shown]; exact .of_is (ReprIs.str z t (by simpa only [PyData.shown] using hz)) _ _ _⟩
  | .tuple ds, _, v, .tup (a := a) (xs := xs) _ e q, r, hs, hp, hz => by
    cases r
    obtain ⟨_, its, rv, o, ho, hc, _, n, hd⟩ := ok a _ e
    have hz' : (tupleText (PyData.shownAll ds)).length ≤ sizeLine := by simpa only [PyData.shown] using hz
    obtain ⟨as, ra, bs, hb, hk⟩ := das_rk ok ds xs its q rv (by simpa [PyData.showable] using hs) hp (fun t ht => Nat.le_trans (tupleText_mem_le ht) hz')
    have r : Reads h (.ref a) (.tuple ds) _ := .tuple ho hc hd ra
    have hna : a ∉ bs := not_mem_of_deeper r (by simp only [PyData.depth]; omega) hb
    refine ⟨_, r, a :: bs, ReadAtMost.cons r (by simp only [PyData.depth]; omega) hb, ?_⟩
    simp only [PyData.depth, PyData.shown]
    exact ReprK.tuple ho hc hd hna hk
  | .list ds, _, v, .lst (a := a) (xs := xs) _ e q, r, hs, hp, hz => by
    cases r
    obtain ⟨_, its, n, rv, ho⟩ := ok a _ e
    have hz' : (listText (PyData.shownAll ds)).length ≤ sizeLine := by simpa only [PyData.shown] using hz
    obtain ⟨as, ra, bs, hb, hk⟩ := das_rk ok ds xs its q rv (by simpa [PyData.showable] using hs) hp (fun t ht => Nat.le_trans (listText_mem_le ht) hz')
    have r : Reads h (.ref a) (.list ds) _ := .list ho rfl rfl ra
    have hna : a ∉ bs := not_mem_of_deeper r (by simp only [PyData.depth]; omega) hb
    refine ⟨_, r, a :: bs, ReadAtMost.cons r (by simp only [PyData.depth]; omega) hb, ?_⟩
    simp only [PyData.depth, PyData.shown]
    cases its with
    | nil =>
      have ra' : ReadsAll h [] ds _ := ra
      cases ra'
      simp only [PyData.shownAll, listText_nil]
      exact ReprK.listEmpty ho rfl rfl
    | cons x l => exact ReprK.list ho rfl rfl hna (by simpa using hk.length_eq) (fun i y e => hk.item i y (by simpa using e))
  | .dict _, _, v, .dct (a := a) (kvs := kvs) _ e q, r, hs, hp, hz => by
    cases r
    cases kvs with
    | cons p l => rw [q] at hp; cases hp
    | nil =>
      subst q
      obtain ⟨_, hS, vs, rv, m⟩ := ok a _ e
      cases rv
      obtain ⟨o, ep, ho, hc, hd⟩ := dk_nil m
      have r : Reads h (.ref a) (.dict []) _ := .dict ho hc hd .nil .nil
      refine ⟨_, r, [a], ReadAtMost.cons (bs := []) r (Nat.zero_le _) (fun _ h => nomatch h), ?_⟩
      exact ReprK.dict (as := []) (d := 0) ho hc hd hS (by simp) .nil
theorem das_rk {P : Program} {w : World} {H : Hp} {h : Heap} {A : Addr → Prop} (ok : HOk P w H h) : ∀ (ds : List PyData) (xs : List V) (vs : List Value), DAs A H xs ds → Vals xs vs → PyData.showableAll ds = true → rpAll ds = true → (∀ t ∈ PyData.shownAll ds, t.length ≤ sizeLine) → ∃ as, ReadsAll h vs ds as ∧ ∃ bs, ReadAtMost h (PyData.depthAll ds) bs ∧ ReprAllK P w bs h (PyData.depthAll ds) vs (PyData.shownAll ds)
  | [], _, vs, .nil, r, _, _, _ => by cases r; exact ⟨_, .nil, [], (fun _ h => nomatch h), by simp only [PyData.shownAll]; exact .nil⟩
  | d :: ds, _, vs, .cons (x := x) (xs := xs) q qs, r, hs, hp, hz => by
    cases r with
    | cons r rs =>
      have hs' : d.showable = true ∧ PyData.showableAll ds = true := by simpa [PyData.showableAll] using hs
      have hp' : rpOk d = true ∧ rpAll ds = true := by simpa [rpAll] using hp
      obtain ⟨a1, r1, b1, hb1, k1⟩ := da_rk ok d x _ q r hs'.1 hp'.1 (hz _ (by simp only [PyData.shownAll]; exact List.mem_cons_self ..))
      obtain ⟨a2, r2, b2, hb2, k2⟩ := das_rk ok ds xs _ qs rs hs'.2 hp'.2 (fun t ht => hz t (by simp only [PyData.shownAll]; exact List.mem_cons_of_mem _ ht))
      refine ⟨_, .cons r1 r2, b1 ++ b2, ?_, ?_⟩
      · simp only [PyData.depthAll]
        exact (hb1.mono (Nat.le_max_left _ _)).append (hb2.mono (Nat.le_max_right _ _))
      · simp only [PyData.depthAll, PyData.shownAll]
        exact .cons ((k1.more fun b hb => List.mem_append_left _ hb).level_le (Nat.le_max_left _ _)) (k2.more_le (fun b hb => List.mem_append_right _ hb) (Nat.le_max_right _ _))
end
structure rOk (d : PyData) : Prop where
  sh : d.showable = true
  rp : rpOk d = true
  len : d.shown.length ≤ sizeLine
  dep : d.depth ≤ 60
  tx : PyData.canLay0 (.str d.shown) = true
def rRepr : List V → Hp → VK → Prop := fun xs H Q => ∃ x d, xs = [x] ∧ DA (fun _ => False) H x d ∧ rOk d ∧ Q (.str d.shown) H
section
variable {X : Cx}
theorem call_repr (hg : X.A.guards = some []) (hu : X.A.units + 64 < cLine) : CallR X (.builtin "repr") rRepr := by
  intro pins s σ H xs us Q I r h
  obtain ⟨x, d, rfl, q, o, h⟩ := h
  obtain ⟨u, rfl, ru⟩ := vals1 r
  have fin : ∀ h' t tk, (∀ b o, s.heap.get? b = some o → h'.get? b = some o) → EP X pins σ Q (.str d.shown t) { s with heap := h', toks := tk } := fun h' t tk k => ⟨.str d.shown, H, I.kept (t' := tk) k, ⟨_, rfl⟩, h⟩
  have f0 : ∀ t tk, EP X pins σ Q (.str d.shown t) { s with toks := tk } := fun t tk => fin s.heap t tk fun _ _ e => e
  cases q with
  | non => cases ru; simp only [PyData.shown] at f0; exact P.repr_of_none (f0 _ _)
  | bl b => cases ru; simp only [PyData.shown] at f0; exact P.repr_of_bool (f0 _ _)
  | int i => obtain ⟨t, rfl⟩ := ru; simp only [PyData.shown] at f0; exact P.repr_of_int (by simpa [PyData.showable] using o.sh) (f0 _ _)
  | str z c => obtain ⟨t, rfl⟩ := ru; have ol := o.len; simp only [PyData.shown] at f0 ol; exact P.repr_of_str (f0 _ _) ol
  | tup n e q =>
    rename_i a xs ds
    cases ru
    obtain ⟨_, its, rv, ob, ho, hc, _, n, hd⟩ := I.hok a _ e
    have ol := o.len; have od := o.dep
    simp only [PyData.shown] at ol
    simp only [PyData.depth] at od
    obtain ⟨as, ra, bs, hb, hk⟩ := das_rk I.hok ds xs its q rv (by simpa [PyData.showable] using o.sh) o.rp (fun t ht => Nat.le_trans (tupleText_mem_le ht) ol)
    have r : Reads s.heap (.ref a) (.tuple ds) _ := .tuple ho hc hd ra
    have hna : a ∉ bs := not_mem_of_deeper r (by simp only [PyData.depth]; omega) hb
    simp only [PyData.shown] at fin
    exact call_repr_slot (T := "tuple") (by omega) ⟨ob, ho, hc⟩ F.slot_tuple_repr (call_tuple_reprK ho hc hd hna hk hg (fun b _ => Clear.nil b) (by show X.A.units + 1 + _ < cLine; omega) (fun _ _ e => e) (fun h' t tk k => ⟨_, _, rfl, fin h' t tk k⟩) ol)
  | lst n e q =>
    rename_i a xs ds
    cases ru
    obtain ⟨_, its, n, rv, ho⟩ := I.hok a _ e
    have ol := o.len; have od := o.dep
    simp only [PyData.shown] at ol
    simp only [PyData.depth] at od
    obtain ⟨as, ra, bs, hb, hk⟩ := das_rk I.hok ds xs its q rv (by simpa [PyData.showable] using o.sh) o.rp (fun t ht => Nat.le_trans (listText_mem_le ht) ol)
    have r : Reads s.heap (.ref a) (.list ds) _ := .list ho rfl rfl ra
    have hna : a ∉ bs := not_mem_of_deeper r (by simp only [PyData.depth]; omega) hb
    simp only [PyData.shown] at fin
    refine call_repr_slot (T := "list") (by omega) ⟨_, ho, rfl⟩ F.slot_list_repr.toG ?_
    cases its with
    | nil =>
      have ra' : ReadsAll s.heap [] ds _ := ra
      cases ra'
      simp only [PyData.shownAll, listText_nil] at fin
      exact call_list_repr_empty ⟨_, ho, rfl⟩ ho rfl ⟨_, _, rfl, fin s.heap _ _ fun _ _ e => e⟩
    | cons x l => exact call_list_reprK ho rfl rfl hna (by simpa using hk.length_eq) (fun i y e => hk.item i y (by simpa using e)) hg (fun b _ => Clear.nil b) (by show X.A.units + 1 + _ < cLine; omega) (fun _ _ e => e) (fun h' t tk k => ⟨_, _, rfl, fin h' t tk k⟩) ol
  | dct n e q =>
    rename_i a kvs ds
    cases ru
    have hp := o.rp
    cases kvs with
    | cons p l => rw [q] at hp; cases hp
    | nil =>
      subst q
      obtain ⟨_, hS, vs, rv, m⟩ := I.hok a _ e
      cases rv
      obtain ⟨ob, ep, ho, hc, hd⟩ := dk_nil m
      exact call_repr_slot (T := "dict") (by omega) ⟨ob, ho, hc⟩ F.slot_dict_repr (call_dict_reprK (as := []) (d := 0) ho hc hd hS (by simp) .nil hg (fun b _ => Clear.nil b) (by show X.A.units + 1 + _ < cLine; omega) (fun _ _ e => e) (fun h' t tk k => ⟨_, _, rfl, fin h' t tk k⟩) o.len)
end
theorem DP.any {A P : Addr → Prop} {H : Hp} {v : V} {d : PyData} (h : DP A P H v d) : DA (fun _ => False) H v d := by
  rcases h with h | ⟨l, xs, ds, rfl, rfl, _, e, q⟩
  · exact h.mv (fun _ _ _ e => e) fun a z => z.elim
  · exact .lst id e (q.mv (fun _ _ _ e => e) fun a z => z.elim)
def reprD : List PyData → (PyData → Prop) → Prop := fun ds R => match ds with
  | [d] => rOk d ∧ R (.str d.shown)
  | _ => False
theorem cd_repr : CallD rRepr reprD := fun A P H vs ds R Q ln dm q h k => by
  unfold reprD at h
  split at h
  · obtain ⟨v, rfl, hv⟩ := pd1 q
    exact ⟨v, _, rfl, hv.any, h.1, k _ h.2 _ H (Same.refl H) (.str _ h.1.tx) (fun l e => nomatch e)⟩
  · exact h.elim
theorem bt_repr : bootBuiltins "repr" = some (.builtin "repr") := by decide +kernel
end Dl
namespace Rt
open PySem PyProof.Rows
structure Ord (c : Keyed → Keyed → Bool) : Prop where
  asym : ∀ x y, c x y = true → c y x = false
  trans : ∀ x y z, c y x = false → c z y = false → c z x = false
abbrev le (c : Keyed → Keyed → Bool) (x y : Keyed) : Prop := c y x = false
section
variable {c : Keyed → Keyed → Bool}
end
def kx (xs : Array Keyed) (i : Nat) : Keyed := (xs[i]?).getD (Value.none, Value.none)
structure SB (κ : SortKind) (a₀ : Array Keyed) (st : SortSt) : Prop where
  perm : (arrOf st).Perm a₀
  kind : kindOf st = κ
  failed : failedOf st = none
theorem SB.size {κ : SortKind} {a₀ : Array Keyed} {st : SortSt} (h : SB κ a₀ st) : (arrOf st).size = a₀.size := h.perm.size_eq
section
variable {prog : Program} {w : World} {A : Around} {E : Value → Shared → Prop} {s : Shared} {a₀ : Array Keyed} {κ : SortKind} {c : Keyed → Keyed → Bool}
end
end Rt
namespace Rt
open PySem PyProof.Rows
section
variable {c : Keyed → Keyed → Bool}
variable {a b r : Array Keyed} {i j k : Nat}
end
section
variable {prog : Program} {w : World} {A : Around} {E : Value → Shared → Prop} {s : Shared} {a₀ : Array Keyed} {κ : SortKind} {c : Keyed → Keyed → Bool}
end
end Rt
namespace Rt
open PySem PyProof.Rows
section
variable {c : Keyed → Keyed → Bool}
theorem ext_take (xs : Array Keyed) (i : Nat) : (xs.extract 0 i).toList = xs.toList.take i := by
  rw [Array.toList_extract, List.extract_eq_take_drop, Nat.sub_zero, List.drop_zero]
variable {a b r : Array Keyed} {i j t : Nat}
theorem out_list (x y r : Array Keyed) (i j : Nat) : (x.extract 0 i ++ y.extract 0 j ++ r.reverse).toList = (x.toList.take i ++ y.toList.take j) ++ r.toList.reverse := by
  rw [Array.toList_append, Array.toList_append, ext_take, ext_take, Array.toList_reverse]
end
section
variable {prog : Program} {w : World} {A : Around} {E : Value → Shared → Prop} {s : Shared} {a₀ : Array Keyed} {κ : SortKind} {c : Keyed → Keyed → Bool}
end
end Rt
namespace Rt
open PySem PyProof.Rows
section
variable {c : Keyed → Keyed → Bool}
end
section
variable {prog : Program} {w : World} {A : Around} {E : Value → Shared → Prop} {s : Shared} {a₀ : Array Keyed} {κ : SortKind} {c : Keyed → Keyed → Bool}
end
end Rt
namespace Rt
open PySem PyProof.Rows
def RunsOk : List (Nat × Nat) → Nat → Nat → Prop
  | [], s, e => s = e
  | (s', n) :: r, s, e => s' = s ∧ 1 ≤ n ∧ RunsOk r (s + n) e
theorem RunsOk.le : ∀ {l : List (Nat × Nat)} {s e : Nat}, RunsOk l s e → s + l.length ≤ e
  | [], s, e, h => by cases (show s = e from h); exact Nat.le_refl _
  | (s', n) :: l, s, e, ⟨_, h2, h3⟩ => by
    have := RunsOk.le h3
    rw [List.length_cons]
    omega
section
variable {prog : Program} {w : World} {A : Around} {E : Value → Shared → Prop} {s : Shared} {a₀ : Array Keyed} {κ : SortKind} {c : Keyed → Keyed → Bool}
end
end Rt
namespace Dl
open PySem PySem.Spec PyProof.Rows L2 _root_.Rd Rk
section
variable {K : PySem.W.Frag} {σ σ4 : L2.St} {δ δ4 : Sts} {cap : List (Option Nat)} {ix : List Nat} {A1 : Addr → Prop} {H3 H5 H6 : Hp}
end
section
variable {X : Cx} {E : XK}
end
section
variable {X : Cx} {E : XK}
end
section
open Rs PySem.W PySem.Calls
variable {X : Cx}
end
end Dl
namespace PySem
namespace AutoSeq1
open PyProof PyProof.Rows
end AutoSeq1
end PySem
namespace L2
open PySem PySem.Spec PyProof.Rows
end L2
namespace Dl
open PySem PySem.Spec PyProof.Rows L2 _root_.Rd Rk
section
variable {X : Cx} {E : XK}
end
end Dl
namespace Dl
open PySem PySem.Spec PyProof.Rows L2 _root_.Rd Rk
section
variable {X : Cx} {E : XK}
end
end Dl
namespace Dl
open PySem PySem.Spec PyProof.Rows L2 _root_.Rd Rk
section
variable {X : Cx} {E : XK}
end
end Dl
namespace Dl
open PySem PySem.Spec PyProof.Rows L2 _root_.Rd Rk
end Dl
namespace Dl
open PySem PySem.Spec PyProof.Rows L2 _root_.Rd Rk
end Dl
namespace Dl
open PySem PySem.Spec PyProof.Rows L2 _root_.Rd Rk
def thn (o : Ordering) (p : Ordering) : Ordering := match o with
  | .eq => p
  | o => o
end Dl
namespace Rt
open PySem PySem.Spec PySem.Calls PyProof.Rows Dl
section
open PySem.SeqAt
open PySem.AutoSeq1 (wpAny_loadPart')
open PySem.MeetsSeq PySem.MeetsSeq2 PySem.MeetsSeq3
end
end Rt
namespace Rt
open PySem PySem.Spec PySem.Calls PySem.W PyProof.Rows Dl
section
variable {prog : Program} {w : World} {A : Around} {E : Value → Shared → Prop} {s : Shared}
end
end Rt
namespace Rt
open PySem PySem.Spec PySem.Calls PySem.W PyProof.Rows Dl
section
variable {M : Model} {A : Around} {E : Value → Shared → Prop} {s : Shared}
end
section
variable {prog : Program} {w : World} {A : Around} {E : Value → Shared → Prop} {s : Shared}
end
end Rt
namespace Rt
open PySem PySem.Spec PySem.Calls PySem.W PyProof.Rows Dl Rs
section
variable {prog : Program} {w : World} {A : Around} {E : Value → Shared → Prop} {s : Shared}
end
end Rt
namespace L2
open PySem PySem.Spec PySem.Calls PyProof.Rows _root_.Rd _root_.Rk _root_.Rs Rt Dl
section
variable {X : Cx}
end
end L2
namespace Dl
open PySem PySem.Spec PyProof.Rows L2 _root_.Rd Rk Rt
end Dl
namespace L2
open PySem PySem.Spec PySem.Calls PyProof.Rows _root_.Rd _root_.Rk Rt
section
variable {X : Cx}
end
end L2
namespace Dl
open PySem PySem.Spec PyProof.Rows L2 _root_.Rd Rk Rt
section
variable {X : Cx} {E : XK}
end
end Dl
namespace Rk
open PySem PySem.Spec PyProof.Rows L2 _root_.Rd Dl Rt
def plt (p q : Int × Int) : Prop := p.1 < q.1 ∨ (p.1 = q.1 ∧ p.2 < q.2)
end Rk
namespace Rk
open PySem PySem.Spec PyProof.Rows L2 _root_.Rd Dl Rt
end Rk
namespace Rk
open PySem PySem.Spec PyProof.Rows L2 _root_.Rd Dl Rt
def rowC (cs : List (Int × Int)) (r : Int) : List (Int × Int) := cs.filter fun p => decide (p.1 = r)
def extS (cells L : List (Int × Int)) : List (List (Int × Int)) := (cells.filter fun c => !decide (c.2 ∈ L.map (·.2))).map fun c => L ++ [c]
def stsN (cs : List (Int × Int)) : Nat → List (List (Int × Int))
  | 0 => [[]]
  | i + 1 => stsN cs i ++ (stsN cs i).flatMap (extS (rowC cs i))
end Rk
namespace Rk
open PySem PySem.Spec PyProof.Rows L2 _root_.Rd Dl Rt
def toI : PyData → Int
  | .int i => i
  | _ => 0
theorem toI_ints (ns : List Int) : (ns.map PyData.int).map toI = ns := by
  rw [List.map_map]
  conv => rhs; rw [← List.map_id ns]
  rfl
@[irreducible] def max2I : List PyData → (PyData → Prop) → Prop := max2D
@[irreducible] def min2I : List PyData → (PyData → Prop) → Prop := min2D
theorem cd_max2I : CallD (fun xs H Q => ∃ i j, xs = [.int i, .int j] ∧ Q (.int (if j > i then j else i)) H) max2I := by unfold max2I; exact cd_max2
theorem cd_min2I : CallD (fun xs H Q => ∃ i j, xs = [.int i, .int j] ∧ Q (.int (if j < i then j else i)) H) min2I := by unfold min2I; exact cd_min2
theorem max2_of {i j k : Int} {Q : PyData → Prop} (e : (if j > i then j else i) = k) (h : Q (.int k)) : max2I [.int i, .int j] Q := by
  unfold max2I
  show Q (.int (if j > i then j else i))
  rw [e]; exact h
theorem min2_of {i j k : Int} {Q : PyData → Prop} (e : (if j < i then j else i) = k) (h : Q (.int k)) : min2I [.int i, .int j] Q := by
  unfold min2I
  show Q (.int (if j < i then j else i))
  rw [e]; exact h
end Rk
namespace Rv
open PySem PySem.Spec PyProof.Rows
section
variable {prog : Program} {w : World} {A : Around} {E : Value → Shared → Prop} {s : Shared}
end
end Rv
namespace L2
open PySem PySem.Spec PyProof.Rows
def Itv (n : Nat) : It := ⟨fun i _ => i < n, fun i H x H' => H' = H ∧ x = .int ((n : Int) - 1 - i), fun i _ => n ≤ i⟩
theorem turn_back {P : Program} {w : World} {K : PySem.W.Frag} {tg : Expr} (it : Addr) (n : Nat) : Turn P w K tg (Itv n) [it] it (fun i h => IsRangeIter h it ((n : Int) - 1 + (i : Nat) * (-1)) ((n : Int) - (i : Nat)) (-1)) where
  mem := by simp
  obj := fun i h st b hb => by
    have e : b = it := by simpa using hb
    subst e
    exact ⟨_, st, fun v z => by
      have z' : Data.fields _ = Data.cell v := z
      cases z'⟩
  keep := fun i h h' st k => k it (by simp) _ st
  item := by
    intro X hP hw hK hc i pins s σ H E I hf st hg
    subst hP hw hK
    obtain ⟨f0, f1, f2, f3, f4, f5⟩ := hf it (by simp)
    have W := Walks.range (prog := X.prog) (w := X.w) (I.ok.hd hc) it ((n : Int) - 1) (-1) n
    refine W.item i s _ _ hg st fun v h' tk hv st' kk => ?_
    obtain ⟨t, rfl⟩ := hv
    have I1 : Inv X pins σ H { s with heap := h', toks := tk } := I.turned (fun b o hb e => kk b o (by simpa using hb) e) f0 f1 f3 f4 f5
    refine ⟨_, rfl, go_of (s := { s with heap := h', toks := tk }) (n := "range_iterator") st' rfl rfl (by decide) ⟨.int ((n : Int) - 1 - i), H, I1, ⟨t, ?_⟩, ⟨rfl, rfl⟩, st', fun b hb => (hf b hb).1⟩⟩
    rw [show (n : Int) - 1 + (i : Int) * (-1) = (n : Int) - 1 - i by omega]
  done := by
    intro X hP hw hK hc i pins s σ H E I hf st hg
    subst hP hw hK
    obtain ⟨f0, f1, f2, f3, f4, f5⟩ := hf it (by simp)
    exact wpAny_pyNext_range_end (I.ok.hd hc) st (by have : n ≤ i := hg; omega) fun h' eb => ⟨rfl, I.turned (t' := s.toks) (fun b o hb e => eb b o hb e) f0 f1 f3 f4 f5⟩
  self := fun _ _ _ _ _ st h => wpAny_pyIter_rangeiter st h
section
variable {X : Cx} {tg : Expr}
end
end L2
namespace L2
open PySem PySem.Spec PyProof.Rows
section
variable {X : Cx}
end
end L2
namespace Dl
open PySem PySem.Spec PyProof.Rows L2 _root_.Rd Rk
section
variable {X : Cx} {E : XK} {st : Stmt} {i : Nat} {we : DE}
def rngB (n : Nat) : List PyData := (List.range n).map fun (i : Nat) => .int ((n : Int) - 1 - i)
theorem rngB_len (n : Nat) : (rngB n).length = n := by unfold rngB; rw [List.length_map, List.length_range]
theorem rngB_get {n i : Nat} {d : PyData} (h : (rngB n)[i]? = some d) : i < n ∧ d = .int ((n : Int) - 1 - i) := by
  unfold rngB at h
  rw [List.getElem?_map] at h
  by_cases z : i < n
  · rw [List.getElem?_range z] at h
    exact ⟨z, (Option.some.inj h).symm⟩
  · rw [List.getElem?_eq_none (by rw [List.length_range]; omega)] at h; cases h
theorem itb_d {A S : Addr → Prop} {n : Nat} {H1 : Hp} (h : n ≤ sizeLine) : ItD A S (Itv n) (rngB n) H1 := by
  refine ⟨by rw [rngB_len]; exact h, fun H2 A' _ _ _ => ⟨fun i d hd => ?_, ?_⟩⟩
  · obtain ⟨hi, rfl⟩ := rngB_get hd
    refine ⟨hi, fun x H3 hy => ?_⟩
    obtain ⟨rfl, rfl⟩ := hy
    exact ⟨Same.refl _, .int _⟩
  · show n ≤ (rngB n).length
    rw [rngB_len]; exact Nat.le_refl _
end
end Dl
namespace L2
open PySem PySem.Spec PyProof.Rows
theorem size_down {j : Int} (h : 0 ≤ j) : Builtin.Range.rangeSize j (-1) (-1) = j + 1 := by
  unfold Builtin.Range.rangeSize
  rw [if_neg (by decide), if_pos (by omega), show -(-1 : Int) = 1 from rfl, Int.ediv_one]; omega
theorem small_down {j : Int} (h : 0 ≤ j) (h1 : j ≤ 900) : Builtin.Range.small j (-1) (-1) = true := by
  unfold Builtin.Range.small
  rw [size_down h]
  simp only [Builtin.Range.rangeFitsLong, Bool.and_eq_true, Bool.or_eq_true, decide_eq_true_eq, beq_iff_eq]
  exact ⟨⟨⟨⟨by omega, by decide⟩, by decide⟩, by omega⟩, .inr (by decide +kernel)⟩
def iDown (ta : TA) : TI := fun σ H R => ta σ H fun vs H1 => ∃ j : Int, vs = [.int j, .int (-1), .int (-1)] ∧ 0 ≤ j ∧ j ≤ 900 ∧ R (Itv (j + 1).toNat) H1
section
variable {X : Cx} {tg : Expr}
theorem pi_down {a b c : Expr} {ta : TA} {p pos : Pos} (hg : Gl X "range") (hm : X.mg "range" = none) (ha : PA X [a, b, c] ta) (hs : starEach [a, b, c] X.env = (false, eval a X.env) :: starEach [b, c] X.env) (hs2 : (backTo pos (starEach [b, c] X.env)).any (·.1) = false) :
    PI X tg (.Call (.Name "range" p) [a, b, c] [] pos) (iDown ta) := by
  intro pins s σ H R I h
  refine Call_ (ld_blt I hg hm boot_range (PyProof.Rows.callWith_type1 (thn (ha pos pins s σ H _ I h) fun us s1 ⟨vs, H1, I1, r1, q1⟩ => ?_) hs hs2))
  obtain ⟨j, e, j0, j1, q⟩ := q1
  subst e
  cases r1 with
  | cons r rr =>
    cases rr with
    | cons r' rr =>
      cases rr with
      | cons r'' rr =>
        cases rr
        obtain ⟨t, rfl⟩ := r
        obtain ⟨t', rfl⟩ := r'
        obtain ⟨t'', rfl⟩ := r''
        refine call_range_3 (by decide) ?_ (.inl (PyProof.noPylong_small (by omega)))
        refine wpAny_pyIter_range (IsRange.new ..) (small_down j0 j1) ?_
        have I2 : Inv X pins σ H1 { s1 with heap := s1.heap.push { cls := .type "range", data := .fields #[.int j t, .int (-1) t', .int (-1) t''] }, toks := s1.toks } := I1.kept fun b o e => Heap.get?_push_of_some _ e
        refine ⟨(s1.heap.push { cls := .type "range", data := .fields #[.int j t, .int (-1) t', .int (-1) t''] }).objs.size, [(s1.heap.push { cls := .type "range", data := .fields #[.int j t, .int (-1) t', .int (-1) t''] }).objs.size], _, _, H1, rfl,
          I2.kept (t' := s1.toks) fun b o e => Heap.get?_push_of_some _ e, turn_back _ (j + 1).toNat, ?_, fun b hb => ?_, q⟩
        · have e1 : (((j + 1).toNat : Nat) : Int) - 1 + ((0 : Nat) : Int) * (-1) = j := by omega
          have e2 : (((j + 1).toNat : Nat) : Int) - ((0 : Nat) : Int) = Builtin.Range.rangeSize j (-1) (-1) := by rw [size_down j0]; omega
          show IsRangeIter _ _ ((((j + 1).toNat : Nat) : Int) - 1 + ((0 : Nat) : Int) * (-1)) ((((j + 1).toNat : Nat) : Int) - ((0 : Nat) : Int)) (-1)
          rw [e1, e2]
          exact Heap.get?_push_size _ rfl
        · have e : b = (s1.heap.push { cls := .type "range", data := .fields #[.int j t, .int (-1) t', .int (-1) t''] }).objs.size := by simpa using hb
          subst e
          exact I2.fpOk (Nat.le_refl _) (I2.hok.fresh (Nat.le_refl _))
end
end L2
namespace Dl
open PySem PySem.Spec PyProof.Rows L2 _root_.Rd Rk
section
variable {X : Cx} {E : XK}
def dDown (w w' w'' : DE) : DI := fun δ Q EX => w δ (fun d => w' δ (fun d' => w'' δ (fun d'' => match d, d', d'' with
  | .int j, .int a, .int b => (0 ≤ j ∧ j ≤ 900 ∧ a = -1 ∧ b = -1) ∧ Q (rngB (j + 1).toNat)
  | _, _, _ => False) EX) EX) EX
theorem qi_down {m : Md} {tg e e' e'' : Expr} {w w' w'' : DE} {p pos : Pos} (hg : Gl X "range") (hm : X.mg "range" = none) (h : QE .P X E e w) (h' : QE .P X E e' w') (h'' : QE .P X E e'' w'') (hs : notStar e = true := by rfl) (hs' : notStar e' = true := by rfl) (hs'' : notStar e'' = true := by rfl) : QI m X E tg (.Call (.Name "range" p) [e, e', e''] [] pos) (dDown w w' w'') := ⟨by
  refine PI.imp (pi_down hg hm (pa_c h.h (pa_c h'.h (pa_c h''.h pa_nil hs'') hs') hs) (by rw [star_of hs]) (by rw [star_of hs', star_of hs'']; rfl)) fun σ H R _ ⟨F, δ, R', EX, rel, hw, k, o⟩ => ?_
  refine ⟨F, δ, _, EX, rel, hw, fun d hd v H1 rel1 kp1 vk => ⟨F, δ, _, EX, rel1, hd, fun d2 hd2 v2 H2 rel2 kp2 vk2 => ⟨F, δ, _, EX, rel2, hd2, fun d3 hd3 v3 H3 rel3 kp3 vk3 => ?_, o⟩, o⟩, o⟩
  cases d <;> cases d2 <;> cases d3 <;> first | exact (show False from hd3).elim | skip
  obtain ⟨⟨h1, h2, rfl, rfl⟩, hR⟩ := hd3
  rw [DP.int vk, DP.int vk2, DP.int vk3]
  exact ⟨_, rfl, h1, h2, k _ hR _ H3 rel3 ((kp1.trans kp2).trans kp3) (itb_d (Nat.le_of_lt (Rk.lt_line (by omega))))⟩⟩
variable {e : Expr} {es : List Expr} {wa : DSl} {pos : Pos}
theorem x_callLF {fs : List (Addr × DF)} {ls : List Expr} {ix : Expr} {wk : DE} {lpos spos : Pos} (hl : QFs X ls fs) (hM : ∀ q ∈ fs, Rx.MayF X q.1 (toSp true q.2)) (hk : QE .P X.nox E0 ix wk) (ha : QAs X.nox E0 (e :: es) wa) (hn : fs.length ≤ 1000 := by simp) (hix : PlainIx ix := by exact fun _ _ => rfl) (hex : X.ex = [] := by rfl)
    (hfe : eval (.Call (.Subscript (.List ls lpos) ix spos) (e :: es) [] pos) X.env = (do callWith pos (← eval (.Subscript (.List ls lpos) ix spos) X.env) [] (backTo pos (starEach (e :: es) X.env)) (backToKw pos (keywordEach [] X.env))) := by rfl)
    (he : starEach (e :: es) X.env = (false, eval e X.env) :: starEach es X.env := by rfl) (hpl : (backTo pos (starEach es X.env)).any (·.1) = false := by rfl) :
    QX .F X (.Call (.Subscript (.List ls lpos) ix spos) (e :: es) [] pos) (dCallL fs wk wa) := by
  refine ⟨PEX.imp (Rx.pex_callF (M := fun f sp => ∃ q ∈ fs, f = q.1 ∧ sp = toSp true q.2) (fun f sp ⟨q, hq, e1, e2⟩ => by rw [e1, e2]; exact hM q hq) (pe_ix (X := X.nox) ix_list (pe_lstW hl.h) hk.h hix) hex ha.h hfe he hpl) fun σ H Q Ex ⟨F, δ, R, EX, rel, hw, k, kx⟩ => ?_⟩
  refine ⟨by rw [List.length_map]; exact hn, fun l H0 s0 n0 e0 => ⟨F, δ, _, XF, rel.same s0, hw, fun d hd v H1 rel1 kp1 vk => ?_, outF⟩⟩
  cases d <;> first | exact (show False from hd).elim | skip
  obtain ⟨q, hq, hw2⟩ := hd
  have npl : ¬ PotA σ δ l := fun z => by obtain ⟨xs, e⟩ := rel.isl (pot_av (F := F) z); rw [n0] at e; cases e
  refine ⟨l, _, _, .ref q.1, rfl, DP.int vk, SqL.of (kp1.1 _ _ npl e0), atI_map (fun p : Addr × DF => V.ref p.1) hq, q.1, _, rfl, ⟨q, atI_mem2 hq, rfl, rfl⟩, ?_⟩
  have K1 := (Kp.same rel s0).trans kp1
  exact ⟨F, δ, _, XF, rel1, hw2, fun args ha vs H2 rel2 kp2 qa => callX_fit (m := .F) (fun h z => ⟨h, z rfl⟩) k kx rel2 (K1.trans kp2) qa ha, outF⟩
def flat : PyData → Bool
  | .list _ => false
  | .dict _ => false
  | .tuple _ => false
  | _ => true
theorem flat_fr {A : Addr → Prop} {H H' : Hp} {v : V} {d : PyData} (q : DA A H' v d) (h : flat d = true) : FrV H H' v := by
  intro l e
  subst e
  cases q <;> cases h
end
end Dl
namespace L2
open PySem PySem.Spec PyProof.Rows Dl
def flD (f : DF) : DF := fun args R EX => f args (fun d => flat d = true ∧ R d) EX
theorem FnOk.frl {P : Program} {w : World} {K : PySem.W.Frag} {mg : Str → Option Value} {base : Heap} {CX : CXT} {k : Nat} {f : Addr} {fd : FuncData} {ps : List Str} {fD : DF} (F : FnOk P w K mg base CX k f fd ps (toSp false fD)) : FnOk P w K mg base CX k f fd ps (toSp true (flD fD)) :=
  F.imp fun vs H Q E ⟨A, pt, args, R, EX, h1, h2, h3, h4, h5, h6⟩ => ⟨A, pt, args, _, EX, h1, h2, h3, h4, fun d hd v H' kq dv _ => h5 d hd.2 v H' kq dv (fun _ => flat_fr dv hd.1), h6⟩
end L2
namespace Rk
open PySem PySem.Spec PyProof.Rows L2 _root_.Rd Dl Rt
end Rk
namespace Rk
open PySem PySem.Spec PyProof.Rows L2 _root_.Rd Dl Rt
theorem rep_one (h : Nat) : (List.replicate h [PyData.int 0]).flatten = List.replicate h (.int 0) := by
  induction h with
  | zero => rfl
  | succ h ih => rw [List.replicate_succ, List.flatten_cons, ih]; rfl
end Rk
namespace Rk
open PySem PySem.Spec PyProof.Rows L2 _root_.Rd Dl Rt
end Rk
namespace Rk
open PySem PySem.Spec PyProof.Rows L2 _root_.Rd Dl Rt
end Rk
namespace Rk
open PySem PySem.Spec PyProof.Rows L2 _root_.Rd Dl Rt
end Rk
namespace L2
open PySem PySem.Spec PyProof.Rows
section
variable {X : Cx}
end
end L2
namespace Dl
open PySem PySem.Spec PyProof.Rows L2 _root_.Rd Rk
end Dl
namespace Rk
open PySem PySem.Spec PyProof.Rows L2 _root_.Rd Dl Rt
def Bds (h w : Nat) (cs : List (Int × Int)) : Prop := h ≤ 6 ∧ w ≤ 6 ∧ ∀ p ∈ cs, 0 ≤ p.1 ∧ p.1 < h ∧ 0 ≤ p.2 ∧ p.2 < w
end Rk
namespace Rk
open PySem PySem.Spec PyProof.Rows L2 _root_.Rd Dl Rt
end Rk
namespace Dl
open PySem PySem.Spec PyProof.Rows L2 _root_.Rd Rk
section
variable {X : Cx} {E : XK} {st : Stmt} {we : DE}
def dSetX (i : Nat) (we : DE) : DS := fun D δ => we δ (fun d => match d with
  | .list ds => D.nx (δ.set i (.own ds))
  | d => D.nx (δ.set i (.v d))) D.ex
theorem pds_setX {i : Nat} (h : PS X st (tAsg (tX .F X.K E we) (gName i))) : PS X st (tS X.K E (dSetX i we)) := by
  refine PS.imp h fun D σ H ⟨F, δ, DD, rel, hw, en⟩ => ?_
  refine ⟨F, δ, _, DD.ex, rel, hw, fun d hd v H' rel' kp ⟨vk, fr⟩ => ?_, en.ex⟩
  by_cases z : ∃ ds, d = .list ds
  · obtain ⟨ds, rfl⟩ := z
    obtain ⟨l, rfl⟩ : ∃ l, v = .ref l := by cases vk; exact ⟨_, rfl⟩
    obtain ⟨xs, e, q⟩ := DA.items vk
    have n := fr l rfl ⟨xs, e⟩
    obtain ⟨r2, st⟩ := rel.seto (i := i) (x := .own ds) rel' kp n fun A hA hB => ⟨l, xs, rfl, e, q.mv (fun _ _ _ e => e) fun a z => .inl (hB a z), fresh0 rel n⟩
    exact en.nx.go _ hd _ H' r2 st
  · have hd : DD.nx (δ.set i (.v d)) := by
      cases d <;> first | exact hd | exact absurd ⟨_, rfl⟩ z
    exact en.nx.go _ hd _ H' (rel'.setv vk) ((Stp.kp kp).trans Stp.setv)
theorem qs_setX (i : Nat) {x : Str} {e : Expr} {pos pos' : Pos} {we : DE} (he : QE .F X E e we) (hN : X.N.Nodup) (hi : X.N[i]? = some x := by rfl) (hx : Loc X.env.scope x := by first | exact Or.inl rfl | exact Or.inr rfl) (hs : swapsWith e (some (.Name x pos')) pos.line X.env = pure false := by rfl) (hf : X.fn x = true ∨ X.env.scope.names.lookup x = some .local := by first | exact .inl rfl | exact .inr rfl | assumption) : QS X E (.Assign [.Name x pos'] e pos) (dSetX i we) := ⟨pds_setX (ps_set hN hi hx he.h hs hf)⟩
end
end Dl
namespace Rk
open PySem PySem.Spec PyProof.Rows L2 _root_.Rd Dl Rt
structure GB (h w : Nat) (cs : List (Int × Int)) : Prop where
  bds : Bds h w cs
  srt : cs.Pairwise plt
  few : (stsN cs h).length ≤ 200000
theorem GB.r0 {h w : Nat} {cs : List (Int × Int)} (g : GB h w cs) : ∀ p ∈ cs, 0 ≤ p.1 := fun p hp => (g.bds.2.2 p hp).1
end Rk
namespace Dl
open PySem PySem.Spec PyProof.Rows L2 _root_.Rd Rk
section
variable {X : Cx} {E : XK} {i : Nat} {st : Stmt} {we wa wb : DE}
def dSwap (i : Nat) (wa wb we : DE) : DS := fun D δ => we δ (fun d => match d with
  | .tuple [u, v] => match δ[i]? with
    | some (.own ds) => wa δ (fun z => match z with
      | .int k => ∃ j, ixN ds.length k = some j ∧ wb (δ.set i (.own (ds.set j u))) (fun z2 => match z2 with
        | .int k2 => ∃ j2, ixN (ds.set j u).length k2 = some j2 ∧ D.nx ((δ.set i (.own (ds.set j u))).set i (.own ((ds.set j u).set j2 v)))
        | _ => False) D.ex
      | _ => False) D.ex
    | _ => False
  | _ => False) D.ex
theorem pds_swap (h : PS X st (tAsg (tX .D X.K E we) (gTup X.K 2 (gCons (gSub (tVar i) (tX .P X.K E wa) rSetL) (gCons (gSub (tVar i) (tX .P X.K E wb) rSetL) gNil))))) : PS X st (tS X.K E (dSwap i wa wb we)) := by
  refine PS.imp h fun D σ H ⟨F, δ, DD, rel, hw, en⟩ => ?_
  refine ⟨F, δ, _, DD.ex, rel, hw, fun d hd v H1 rel1 kp1 vk => ?_, en.ex⟩
  split at hd
  · rename_i u0 v0
    split at hd
    · rename_i ds hds
      obtain ⟨x, hx⟩ := rel1.lt hds
      obtain ⟨l, xs, rfl, e, q, f⟩ := rel1.sl i _ _ hx hds
      have np := rel1.own_pot hds hx
      have vk : DA (Av F σ δ) H1 v (.tuple [u0, v0]) := vk
      cases vk with
      | @tup ta tvs _ na te tq =>
        cases tq with
        | @cons y1 _ _ _ q1 tq => cases tq with
          | @cons y2 _ _ _ q2 tq =>
            cases tq
            refine ⟨ta, _, rfl, SqT.of te, rfl, y1, _, rfl, .ref l, hx, F, δ, _, DD.ex, rel1, hd, fun z hz y H2 rel2 kp2 yk => ?_, en.ex⟩
            cases z <;> first | exact (show False from hz).elim | skip
            obtain ⟨j, hj, hn⟩ := hz
            refine ⟨l, xs, _, j, rfl, DP.int yk, kp2.1 _ _ np e, by rw [q.length]; exact hj, ?_⟩
            obtain ⟨r2, st2⟩ := rel2.mut hds hx ((kp2.das q).set (kp2.da q1) j)
            have lt : i < δ.length := (List.getElem?_eq_some_iff.mp hds).1
            have ge : (List.set δ i (Sl.own (ds.set j u0)))[i]? = some (.own (ds.set j u0)) := by rw [List.getElem?_set_self lt]
            have hl : Av F σ δ l := .inr ⟨i, hx, .inr ⟨ds, hds⟩⟩
            have av : ∀ a, Av F σ (List.set δ i (Sl.own (ds.set j u0))) a → Av F σ δ a := fun a z => by
              rcases z with z | ⟨j', h1, h2⟩
              · exact .inl z
              · by_cases z : j' = i
                · subst z; exact .inr ⟨j', h1, .inr ⟨ds, hds⟩⟩
                · rw [List.getElem?_set_ne (Ne.symm z)] at h2
                  exact .inr ⟨j', h1, h2⟩
            have q2' : DA (Av F σ (List.set δ i (Sl.own (ds.set j u0)))) (upd H2 l (.lst (xs.set j y1))) y2 v0 := (kp2.da q2).mv (fun a o n e => by rw [upd_ne (fun z => n (by rw [z]; exact hl))]; exact e) fun a z => .inl (av a z)
            refine ⟨y2, [], rfl, .ref l, hx, F, _, _, DD.ex, r2, hn, fun z2 hz2 y' H3 rel3 kp3 yk3 => ?_, en.ex⟩
            cases z2 <;> first | exact (show False from hz2).elim | skip
            obtain ⟨j2, hj2, hn2⟩ := hz2
            obtain ⟨l', xs', e0', e', qq, f'⟩ := rel3.sl i _ _ hx ge
            cases e0'
            refine ⟨l, xs', _, j2, rfl, DP.int yk3, e', by rw [qq.length]; exact hj2, rfl, ?_⟩
            obtain ⟨r3, st3⟩ := rel3.mut ge hx (qq.set (kp3.da q2') j2)
            exact en.nx.go _ hn2 _ _ r3 (((((Stp.kp kp1).trans (Stp.kp kp2)).trans st2).trans (Stp.kp kp3)).trans st3)
    · exact hd.elim
  · exact hd.elim
theorem qs_swap {y : Str} {e a b : Expr} {k : Nat} {pos p1 p2 n1 n2 tp : Pos} (i : Nat) (he : QE .D X E e we) (ha : QE .P X E a wa) (hb : QE .P X E b wb) (hc : X.calm = true := by rfl) (hN : X.N[i]? = some y := by rfl) (hv : Vis X.env.scope y := by first | exact Or.inl rfl | exact Or.inr (Or.inl rfl) | exact Or.inr (Or.inr rfl)) (hd : (y == ("__debug__" : Str)) = false := by decide) (hcd : (y == ("__classdict__" : Str)) = false := by decide)
    (h1 : ∀ v, assign (.Subscript (.Name y n1) a p1) X.env v = (do
      let ov ← holding [v] (eval (.Name y n1) X.env)
      let iv ← holding [v, ov] (eval a X.env)
      standAt p1
      holding [v, ov, iv] (setItem ov iv v)
      release [v, ov, iv] []) := by intro _; rfl)
    (h2 : ∀ v, assign (.Subscript (.Name y n2) b p2) X.env v = (do
      let ov ← holding [v] (eval (.Name y n2) X.env)
      let iv ← holding [v, ov] (eval b X.env)
      standAt p2
      holding [v, ov, iv] (setItem ov iv v)
      release [v, ov, iv] []) := by intro _; rfl)
    (hs : swapsWithSole [.Tuple [.Subscript (.Name y n1) a p1, .Subscript (.Name y n2) b p2] k tp] e pos.line X.env = pure false := by rfl) (hw : swappedStores [.Tuple [.Subscript (.Name y n1) a p1, .Subscript (.Name y n2) b p2] k tp] e X.env = pure none := by rfl)
    (g1 : (assignEach [.Tuple [.Subscript (.Name y n1) a p1, .Subscript (.Name y n2) b p2] k tp] X.env).map (·.2) = [assign (.Tuple [.Subscript (.Name y n1) a p1, .Subscript (.Name y n2) b p2] k tp) X.env] := by rfl)
    (g2 : (assignEach [.Subscript (.Name y n1) a p1, .Subscript (.Name y n2) b p2] X.env).map (·.2) = assign (.Subscript (.Name y n1) a p1) X.env :: (assignEach [.Subscript (.Name y n2) b p2] X.env).map (·.2) := by rfl) (g3 : (assignEach [.Subscript (.Name y n2) b p2] X.env).map (·.2) = assign (.Subscript (.Name y n2) b p2) X.env :: (assignEach [] X.env).map (·.2) := by rfl)
    (g4 : (assignEach [.Subscript (.Name y n1) a p1, .Subscript (.Name y n2) b p2] X.env).length = 2 := by rfl) (g5 : (assignEach [.Subscript (.Name y n1) a p1, .Subscript (.Name y n2) b p2] X.env).findIdx? (·.1) = none := by rfl) :
    QS X E (.Assign [.Tuple [.Subscript (.Name y n1) a p1, .Subscript (.Name y n2) b p2] k tp] e pos) (dSwap i wa wb we) :=
  ⟨pds_swap (ps_asg he.h (pg_tup hc (pgs_cons (pg_sub (pv i hN hv hd hcd) ha.h set_list h1) (pgs_cons (pg_sub (pv i hN hv hd hcd) hb.h set_list h2) pgs_nil g3) g2) g4 g5) hs hw g1)⟩
end
end Dl
namespace L2
open PySem PySem.Spec PyProof.Rows
section
variable {X : Cx}
end
end L2
namespace Dl
open PySem PySem.Spec PyProof.Rows L2 _root_.Rd Rk Rt
end Dl
namespace Rk
open PySem PySem.Spec PyProof.Rows L2 _root_.Rd Dl Rt
end Rk
namespace L2
open PySem PySem.Spec PyProof.Rows _root_.Rd
section
variable {X : Cx}
end
end L2
namespace Dl
open PySem PySem.Spec PyProof.Rows L2 _root_.Rd Rk Rt
section
variable {X : Cx} {E : XK}
end
end Dl
namespace Rk
open PySem PySem.Spec PyProof.Rows L2 _root_.Rd Dl Rt
end Rk
namespace Rk
open PySem PySem.Spec PyProof.Rows L2 _root_.Rd Dl Rt
end Rk
namespace Rk
open PySem PySem.Spec PyProof.Rows L2 _root_.Rd Dl Rt
end Rk
namespace Rk
open PySem PySem.Spec PyProof.Rows L2 _root_.Rd Dl Rt
end Rk
namespace Rk
open PySem PySem.Spec PyProof.Rows L2 _root_.Rd Dl Rt
end Rk
namespace HT
open PySem PyProof.Rows
section
open PySem.SeqAt
open PySem.AutoSeq1 (wpAny_loadPart')
open PySem.MeetsSeq PySem.MeetsSeq2 PySem.MeetsSeq3
end
section
variable {prog : Program} {w : World} {A : Around} {E : Value → Shared → Prop} {s : Shared}
end
end HT
namespace L2
open PySem PySem.Spec PyProof.Rows
end L2
namespace Rk
open PySem PySem.Spec PyProof.Rows L2 _root_.Rd Dl Rt
end Rk
namespace Dl
open PySem PySem.Spec PyProof.Rows L2 _root_.Rd Rk Rt
def divmD : List PyData → (PyData → Prop) → Prop
  | [.int i, .int j], Q => (0 < j ∧ j < 1073741824) ∧ Q (.tuple [.int (i / j), .int (i % j)])
  | _, _ => False
theorem cd_divm : CallD rDivmodW divmD := fun A P H vs ds R Q ln dm q h k => by
  unfold divmD at h
  split at h
  · cases q with
    | cons q1 q2 => cases q2 with
      | cons q2 q3 =>
        cases q3
        rw [DP.int q1, DP.int q2]
        refine ⟨_, _, rfl, h.1, fun p H' s n e => ?_⟩
        exact k _ h.2 _ H' s (tup_da dm s e (.cons (.int _) (.cons (.int _) .nil))) (frv_tup e)
  · exact h.elim
end Dl
namespace Rk
open PySem PySem.Spec PyProof.Rows L2 _root_.Rd Dl Rt
end Rk
namespace L2
open PySem PySem.Spec PyProof.Rows
section
variable {X : Cx} {pos : Pos}
def tPar3 (i j k : Nat) (ta : TA) : TS := fun D σ H => ta σ H fun vs H1 => ∃ v w z, vs = [v, w, z] ∧ D.nx (((σ.set i (some v)).set j (some w)).set k (some z)) H1
theorem ps_par3 {i j k : Nat} {x y z : Str} {a b c : Expr} {ta : TA} {px py pz pt : Pos} {kt k2 pt2} (hc : X.calm = true) (hN : X.N.Nodup) (hi : X.N[i]? = some x) (hj : X.N[j]? = some y) (hk : X.N[k]? = some z) (hij : i ≠ j) (hik : i ≠ k) (hjk : j ≠ k)
    (hx : X.env.scope.names.lookup x = some .local) (hy : X.env.scope.names.lookup y = some .local) (hz : X.env.scope.names.lookup z = some .local) (ha : PA X [a, b, c] ta)
    (hw : swappedStores [.Tuple [.Name x px, .Name y py, .Name z pz] kt pt] (.Tuple [a, b, c] k2 pt2) X.env = pure (some [x, y, z]))
    (hs : swapsWithSole [.Tuple [.Name x px, .Name y py, .Name z pz] kt pt] (.Tuple [a, b, c] k2 pt2) pos.line X.env = pure false := by rfl) :
    PS X (.Assign [.Tuple [.Name x px, .Name y py, .Name z pz] kt pt] (.Tuple [a, b, c] k2 pt2) pos) (tPar3 i j k ta) := by
  intro pins s σ H D I h
  rw [exec_Assign_arm]
  refine wpAny_bind (wpAny_standAt ?_)
  rw [hs]
  refine wpAny_bind (wpAny_pure ?_)
  rw [if_neg (by decide)]
  refine wpAny_bind (Tuple_ (thn (ha _ pins s σ H _ I h) fun us s1 ⟨vs, H1, I1, r1, q1⟩ => ?_))
  obtain ⟨v, w, v3, e1, q1⟩ := q1
  subst e1
  obtain ⟨u1, u2, u3, rfl, rv, rw', rz⟩ : ∃ u1 u2 u3, us = [u1, u2, u3] ∧ RelV v u1 ∧ RelV w u2 ∧ RelV v3 u3 := by
    cases r1 with
    | cons p q =>
      cases q with
      | cons p' q' =>
        cases q' with
        | cons p2 q2 =>
          cases q2
          exact ⟨_, _, _, rfl, p, p', p2⟩
  refine wpAny_newObj_type ?_ (by show 3 ≤ sizeLine; decide)
  have I2 : Inv X pins σ H1 { s1 with heap := s1.heap.push { cls := .type "tuple", data := .seq [u1, u2, u3].toArray } } := I1.kept (t' := s1.toks) fun b o e => Heap.get?_push_of_some _ e
  rw [hw]
  refine wpAny_bind (wpAny_pure ?_)
  show wpAny (model X.prog X.w) X.A (do rule "assign.swapped-stores"; let items ← unpackItems (.ref s1.heap.objs.size) 3 none; assignInOrder [fun v => bindName X.env z v, fun v => bindName X.env y v, fun v => bindName X.env x v] items.reverse; pure Flow.next) _ _ _
  refine wpAny_bind (wpAny_rule (wpAny_bind (unpackItems_tuple (items := #[u1, u2, u3]) (I.ok.hd hc) (IsTup.new s1.heap _) fun h' hx' => ?_)))
  have I3 := I2.kept (h' := h') (t' := s1.toks) fun b o e => hx' b o (Nat.ne_of_lt (Heap.lt_size e)) e
  show wpAny _ _ (assignInOrder [fun v => bindName X.env z v, fun v => bindName X.env y v, fun v => bindName X.env x v] [u3, u2, u1] >>= fun _ => pure Flow.next) _ _ _
  refine wpAny_bind (assignInOrder_cons (wpAny_bindName (store_ok I3 hN hk (.inl hz) rz (fun s2 I4 => ?_) (.inr hz))))
  refine assignInOrder_cons (wpAny_bindName (store_ok I4 hN hj (.inl hy) rw' (fun s3 I5 => ?_) (.inr hy)))
  refine assignInOrder_cons (wpAny_bindName (store_ok I5 hN hi (.inl hx) rv (fun s4 I6 => assignInOrder_nil (wpAny_pure ?_)) (.inr hx)))
  have e : ((σ.set k (some v3)).set j (some w)).set i (some v) = ((σ.set i (some v)).set j (some w)).set k (some v3) := by
    rw [List.set_comm _ _ (Ne.symm hjk), List.set_comm _ _ (Ne.symm hik), List.set_comm _ _ (Ne.symm hij)]
  rw [e] at I6
  exact ⟨_, H1, I6, q1⟩
end
end L2
namespace Dl
open PySem PySem.Spec PyProof.Rows L2 _root_.Rd Rk
section
variable {X : Cx} {E : XK} {st : Stmt}
def dPar3 (i j k : Nat) (wa : DAr) : DS := fun D δ => wa δ (fun ds => match ds with
  | [a, b, c] => D.nx (((δ.set i (.v a)).set j (.v b)).set k (.v c))
  | _ => False) D.ex
theorem pds_par3 {n i j k : Nat} {wa : DAr} (h : PS X st (tPar3 i j k (tAr n .D X.K E wa))) : PS X st (tS X.K E (dPar3 i j k wa)) := by
  refine PS.imp h fun D σ H ⟨F, δ, DD, rel, hw, en⟩ => ?_
  refine ⟨F, δ, _, DD.ex, rel, hw, fun ds hds _ vs H' rel' kp q => ?_, en.ex⟩
  split at hds
  · cases q with
    | cons q1 q2 => cases q2 with
      | cons q2 q3 => cases q3 with
        | cons q3 q4 =>
          cases q4
          refine ⟨_, _, _, rfl, en.nx.go _ hds _ H' (((rel'.setv q1).setv (DA.mv q2 (fun _ _ _ e => e) fun a z => .inl (av_set z))).setv (DA.mv q3 (fun _ _ _ e => e) fun a z => .inl (av_set (av_set z)))) ((((Stp.kp kp).trans Stp.setv).trans Stp.setv).trans Stp.setv)⟩
  · exact hds.elim
theorem qs_par3 (i j k : Nat) {x y z : Str} {a b c : Expr} {n : Nat} {wa : DAr} {pos px py pz pt : Pos} {kt k2 pt2} (ha : QA n .D X E [a, b, c] wa) (hN : X.N.Nodup) (hc : X.calm = true := by rfl) (hi : X.N[i]? = some x := by rfl) (hj : X.N[j]? = some y := by rfl) (hk : X.N[k]? = some z := by rfl) (hij : i ≠ j := by decide) (hik : i ≠ k := by decide) (hjk : j ≠ k := by decide) (hx : X.env.scope.names.lookup x = some .local := by rfl) (hy : X.env.scope.names.lookup y = some .local := by rfl) (hz : X.env.scope.names.lookup z = some .local := by rfl) (hw : swappedStores [.Tuple [.Name x px, .Name y py, .Name z pz] kt pt] (.Tuple [a, b, c] k2 pt2) X.env = pure (some [x, y, z]) := by rfl) (hs : swapsWithSole [.Tuple [.Name x px, .Name y py, .Name z pz] kt pt] (.Tuple [a, b, c] k2 pt2) pos.line X.env = pure false := by rfl) : QS X E (.Assign [.Tuple [.Name x px, .Name y py, .Name z pz] kt pt] (.Tuple [a, b, c] k2 pt2) pos) (dPar3 i j k wa) := ⟨pds_par3 (ps_par3 hc hN hi hj hk hij hik hjk hx hy hz ha.h hw hs)⟩
end
end Dl
namespace Rk
open PySem PySem.Spec PyProof.Rows L2 _root_.Rd
def top (i : Nat) : Stmt := PySem.Challenge.pw_rooklands_k46_numbers_spoilt_at_any_plac.main.body.getD i (.Pass ⟨0, 0, 0, 0⟩)
abbrev sWhole : Stmt := top 15
abbrev sWithin : Stmt := top 16
abbrev sOrders : Stmt := top 17
abbrev sSets : Stmt := top 18
abbrev sHBy : Stmt := top 22
abbrev sHAt : Stmt := top 23
abbrev sCBy : Stmt := top 24
abbrev sIsN : Stmt := top 25
abbrev sFulls : Stmt := top 31
abbrev sRef : Stmt := top 32
abbrev sFull : Stmt := top 34
abbrev sCounts : Stmt := top 28
abbrev sRest : Stmt := top 29
abbrev sWell : Stmt := top 30
abbrev sRestC : Stmt := top 33
abbrev lCellAt : Stmt := top 36
abbrev lPot : Stmt := top 37
abbrev lTake : Stmt := top 38
abbrev lWhole : Stmt := top 39
abbrev lWays : Stmt := top 40
abbrev lOrders : Stmt := top 41
abbrev lWord : Stmt := top 42
abbrev lTold : Stmt := top 43
abbrev lAsked : Stmt := top 44
abbrev lAre : Stmt := top 45
abbrev lFine : Stmt := top 46
abbrev lHits : Stmt := top 47
abbrev lCounts : Stmt := top 48
abbrev lRow : Stmt := top 49
abbrev lRest : Stmt := top 50
abbrev lRight : Stmt := top 51
abbrev sLaw : Stmt := top 52
section
variable {P : Program} {w : World} {K : PySem.W.Frag} {mg : Str → Option Value} {base : Heap}
theorem scCellAt : FnScope ["_law_script", "_law_k"] ["_law_script", "_law_k"] (defScope lCellAt) := ⟨rfl, rfl, rfl, by decide +kernel, rfl, by decide +kernel, by decide +kernel⟩
theorem ok_cellAt {f : Addr} {fd : FuncData} (F : Fun K "_law_cell_at" "_law_cell_at" lCellAt f fd) (T : GlbA mg) : FnOk P w K mg base CX0 1 f fd ["_law_script", "_law_k"] (spCellAt K) := by
  refine F.ok scCellAt (fun vs H Q E h => ?_) (fun cdv A outer s H vs Q E hr h => ?_)
  · obtain ⟨a, ns, k, rfl, _⟩ := h
    rfl
  · obtain ⟨a, ns, n, rfl, hs, hl, h0, k⟩ := h
    refine ⟨_, pss_cons (ps_if (pt_cmpR op_lt (pv 1) (pe_callB call_len_seq (by rfl) T.len bt_len (pa_cons (pv 0) pa_nil)) (nomark _)) (pss_one (ps_ret (pe_ix ix_list (pv 0) (pv 1) (fun _ _ => rfl)))) pss_nil) (pss_one (ps_ret pe_int)), ?_⟩
    refine ⟨_, rfl, _, rfl, a, _, rfl, .inl hs, _, _, rfl, rfl, _, rfl, ?_⟩
    refine ite2 (fun hlt => ?_) (fun _ => k 0)
    have hlt' : n < (ns.map V.int).length := of_decide_eq_true hlt
    rw [List.length_map] at hlt'
    obtain ⟨j, rfl⟩ := Int.eq_ofNat_of_zero_le h0
    have hj : j < ns.length := by omega
    refine ⟨_, rfl, _, rfl, a, _, _, .int ns[j], rfl, rfl, hs, atI_nat ?_, k _⟩
    rw [List.getElem?_map, List.getElem?_eq_getElem hj]; rfl
theorem scPot : FnScope ["_law_cell", "_law_number", "_law_j", "_law_more"] ["_law_cell"] (defScope lPot) := ⟨rfl, rfl, rfl, by decide +kernel, rfl, by decide +kernel, by decide +kernel⟩
theorem ok_pot {f : Addr} {fd : FuncData} (F : Fun K "_law_pot" "_law_pot" lPot f fd) (T : GlbA mg) : FnOk P w K mg base CX0 1 f fd ["_law_cell"] spPot := by
  refine F.ok scPot (fun vs H Q E h => ?_) (fun cdv A outer s H vs Q E hr h => ?_)
  · obtain ⟨c, rfl, _⟩ := h
    rfl
  · obtain ⟨c, rfl, k⟩ := h
    refine ⟨_, pss_cons (ps_if (pt_cmpR op_ge (pv 0) (pe_op op_pow pe_int pe_int) (nomark _)) (pss_one (ps_ret (pe_lst (pa_cons (pe_op op_sub (pv 0) (pe_op op_pow pe_int pe_int)) pa_nil)))) pss_nil)
      (pss_cons (ps_set (i := 1) scPot.nd rfl (Or.inl rfl) pe_int)
      (pss_cons (ps_for PassesOwn.never rfl (pi_range1 (by rfl) T.range (pa_cons pe_int pa_nil)) (pg_name (i := 2) scPot.nd rfl (Or.inl rfl))
        (pss_cons (ps_set (i := 3) scPot.nd rfl (Or.inl rfl) (pe_op op_mod (pe_op op_mul (pe_op op_add (pe_op op_add (pe_op op_mod (pv 0) pe_int) (pe_op op_mul pe_int (pv 2))) pe_int) pe_int) pe_int))
        (pss_cons (ps_set (i := 3) scPot.nd rfl (Or.inl rfl) (pe_op op_mod (pe_op op_add (pe_op op_add (pe_op op_mul (pv 3) (pv 3)) (pe_op op_mul pe_int (pv 2))) pe_int) pe_int))
        (pss_one (ps_set (i := 1) scPot.nd rfl (Or.inl rfl) (pe_op op_add (pe_op op_mul (pv 1) pe_int) (pv 3)))))))
      (pss_one (ps_ret (pe_lst (pa_cons (pv 1) pa_nil)))))), ?_⟩
    refine ⟨_, rfl, _, _, rfl, rfl, ⟨by decide, by decide, by decide⟩, _, _, rfl, rfl, _, rfl, ?_⟩
    refine ite2 (fun _ => ?_) (fun _ => ?_)
    · exact ⟨_, rfl, _, _, rfl, rfl, ⟨by decide, by decide, by decide⟩, _, _, rfl, rfl, by show 1 ≤ sizeLine; decide, fun p hp => k p _ hp⟩
    · refine ⟨64, rfl, by decide, by decide, for_range (n := 64) (fun i σ H2 => ∃ n v u, σ = [some (.int c), some (.int n), v, u] ∧ H2 = H) ⟨0, none, none, rfl, rfl⟩ ?_ ?_⟩
      · rintro i σ H2 hi ⟨n, v, u, rfl, rfl⟩
        have b1 := emod_lt' ((c % 2147483629 + 7919 * (0 + (i : Int)) + 1) * 48271) (m := 2147483647) (by decide)
        refine ⟨_, rfl, _, _, rfl, rfl, by show (0 : Int) < 2147483629; decide, _, rfl, _, _, rfl, rfl, .inl ⟨by decide, by decide⟩, _, _, rfl, rfl, _, _, rfl, rfl, _, _, rfl, rfl, .inr ⟨by decide, by decide⟩, _, _, rfl, rfl, by show (0 : Int) < 2147483647; decide, ?_⟩
        refine ⟨_, rfl, _, rfl, _, _, rfl, rfl, .inl ⟨by omega, by omega⟩, _, rfl, _, _, rfl, rfl, .inl ⟨by decide, by decide⟩, _, _, rfl, rfl, _, _, rfl, rfl, _, _, rfl, rfl, by show (0 : Int) < 2147483587; decide, ?_⟩
        exact ⟨_, rfl, _, _, rfl, rfl, .inr ⟨by decide, by decide⟩, _, rfl, _, _, rfl, rfl, _, _, _, rfl, rfl⟩
      · rintro σ H2 ⟨n, v, u, rfl, rfl⟩
        exact ⟨_, rfl, by show 1 ≤ sizeLine; decide, fun p hp => k p _ hp⟩
theorem scTake : FnScope ["_law_pot_here", "_law_far", "_law_found"] ["_law_pot_here", "_law_far"] (defScope lTake) := ⟨rfl, rfl, rfl, by decide +kernel, rfl, by decide +kernel, by decide +kernel⟩
theorem ok_take {f : Addr} {fd : FuncData} (F : Fun K "_law_take" "_law_take" lTake f fd) (T : GlbA mg) : FnOk P w K mg base CX0 1 f fd ["_law_pot_here", "_law_far"] spTakeC0 := by
  refine F.ok scTake (fun vs H Q E h => ?_) (fun cdv A outer s H vs Q E hr h => ?_)
  · obtain ⟨p, n, m, rfl, _⟩ := h
    rfl
  · obtain ⟨p, n, m, rfl, hp, h0, h1, k⟩ := h
    refine ⟨_, pss_cons (ps_set (i := 2) scTake.nd rfl (Or.inl rfl) (pe_op op_mod (pe_ix ix_list (pv 0) pe_int (fun _ _ => rfl)) (pv 1)))
      (pss_cons (ps_asg (pe_op op_fdivC (pe_ix ix_list (pv 0) pe_int (fun _ _ => rfl)) (pv 1)) (pg_sub (pv 0) pe_int set_list))
      (pss_one (ps_ret (pv 2)))), ?_⟩
    have b := emod_lt' n h0
    exact ⟨_, rfl, p, _, _, _, rfl, rfl, SqL.of hp, rfl, _, rfl, _, _, rfl, rfl, h0, _, rfl, p, _, _, _, rfl, rfl, SqL.of hp, rfl, _, rfl, _, _, rfl, rfl, ⟨h0, h1⟩, _, rfl, p, _, _, _, rfl, rfl, hp, rfl, _, rfl, k _ _ b.1 b.2⟩
end
end Rk
namespace Rk
open PySem PySem.Spec PyProof.Rows L2 _root_.Rd
open Dl
def isNs : PyData → Bool
  | .list ds => decide (2 ≤ ds.length) && (decide (ds.length ≤ 13) && ds.all isW)
  | _ => false
def areB (a b : Int) : PyData → Bool
  | .list ds => decide (a ≤ (ds.length : Int)) && (decide ((ds.length : Int) ≤ b) && ds.all isW)
  | _ => false
def isFn : PyData → Bool
  | .list ds => isNs (.list ds) && (ds.all isNN && one1 ds)
  | _ => false
def ilD : PyData → List Int
  | .list ds => ds.map toI
  | _ => []
theorem il_ints (c : List Int) : ilD (.list (c.map PyData.int)) = c := toI_ints c
theorem are_ns (d : PyData) : areB 2 13 d = isNs d := by
  cases d <;> first | rfl | skip
  rename_i ds
  show (decide (2 ≤ (ds.length : Int)) && (decide ((ds.length : Int) ≤ 13) && _)) = (decide (2 ≤ ds.length) && (decide (ds.length ≤ 13) && _))
  rw [show decide (2 ≤ (ds.length : Int)) = decide (2 ≤ ds.length) from decide_eq_decide.mpr (by omega), show decide ((ds.length : Int) ≤ 13) = decide (ds.length ≤ 13) from decide_eq_decide.mpr (by omega)]
theorem ns_ints {d : PyData} (h : isNs d = true) : ∃ c : List Int, d = .list (c.map PyData.int) ∧ 2 ≤ c.length ∧ c.length ≤ 13 := by
  cases d <;> first | (cases h; done) | skip
  rename_i ds
  have h := Bool.and_eq_true_iff.mp (show (decide (2 ≤ ds.length) && (decide (ds.length ≤ 13) && ds.all isW)) = true from h)
  have h2 := Bool.and_eq_true_iff.mp h.2
  obtain ⟨c, rfl⟩ := ints_isW h2.2
  have l1 := of_decide_eq_true h.1
  have l2 := of_decide_eq_true h2.1
  rw [lenI] at l1 l2
  exact ⟨c, rfl, l1, l2⟩
theorem ns_of {c : List Int} (h1 : 2 ≤ c.length) (h2 : c.length ≤ 13) : isNs (.list (c.map PyData.int)) = true := by
  show (decide (2 ≤ (c.map PyData.int).length) && (decide ((c.map PyData.int).length ≤ 13) && (c.map PyData.int).all isW)) = true
  rw [lenI, decide_eq_true h1, decide_eq_true h2, List.all_eq_true.mpr fun d hd => by obtain ⟨i, _, rfl⟩ := List.mem_map.mp hd; rfl]
  rfl
theorem nn_ints (c : List Int) : (c.map PyData.int).all isNN = c.all fun x => decide (0 ≤ x) := by rw [List.all_map]; rfl
theorem one_ints {c : List Int} (h : 0 < c.length) : one1 (c.map PyData.int) = decide (c.getD 0 0 = 1) := by
  cases c with
  | nil => cases h
  | cons x c => rfl
def inXD : DF := fun args R _ => ∃ d, args = [.v d] ∧ R (.bool (isNs d))
def hatXD : DF := fun args R _ => ∃ (tr : List Int) (m : Nat), args = [.v (.list (tr.map PyData.int)), .v (.int m)] ∧ tr.length ≤ 13 ∧ m ≤ tr.length ∧ R (.int (hatI tr m))
def hbXD (CC : Addr) : DF := fun args R EX => ∃ d, args = [.v d] ∧ (isFn d = false → EX CC) ∧ (isFn d = true → R (.list ((hitsI (ilD d)).map PyData.int)))
def cbXD (CH : Addr) : DF := fun args R EX => ∃ d, args = [.v d] ∧ (isNs d = false → EX CH) ∧ (isNs d = true → R (optL (cbyI (ilD d))))
def waysXD : DF := fun args R _ => ∃ m k : Int, args = [.v (.int m), .v (.int k)] ∧ m ≤ 13 ∧ 0 ≤ k ∧ k ≤ m ∧ R (.int (setI m.toNat k.toNat))
def areD : DF := fun args R _ => ∃ (d : PyData) (a b : Int), args = [.v d, .v (.int a), .v (.int b)] ∧ R (.bool (areB a b d))
def fineD : DF := fun args R _ => ∃ d : PyData, args = [.v d] ∧ R (.bool (isFn d))
def lrowD : DF := fun args R _ => ∃ (h w : Int) (d : PyData), args = [.v (.int h), .v (.int w), .v d] ∧ 1 ≤ h ∧ h ≤ 12 ∧ 1 ≤ w ∧ w ≤ 12 ∧ R (.bool (isCnt (min h w).toNat d))
def lhitsD : DF := fun args R _ => ∃ c : List Int, args = [.v (.list (c.map PyData.int))] ∧ 1 ≤ c.length ∧ c.length ≤ 13 ∧ R (.list ((hitsI c).map PyData.int))
def lcntsD : DF := fun args R _ => ∃ c : List Int, args = [.v (.list (c.map PyData.int))] ∧ 1 ≤ c.length ∧ c.length ≤ 13 ∧ R (optL (cbyI c))
def lrestD : DF := fun args R _ => ∃ (h w : Int) (c : List Int), args = [.v (.int h), .v (.int w), .v (.list (c.map PyData.int))] ∧ 1 ≤ h ∧ h ≤ 12 ∧ 1 ≤ w ∧ w ≤ 12 ∧ c.length = (min h w).toNat + 1 ∧ R (.list ((rcI h.toNat w.toNat c).map PyData.int))
def szD (a b : PyData) (x : Int → Int → PyData) : PyData := match a, b with
  | .int h, .int w => if sized (.int h) (.int w) = true then x h w else .str "size"
  | _, _ => .str "size"
def toldV (way : Nat) (d a b : PyData) : PyData := match way with
  | 0 => if isFn d = true then .list ((hitsI (ilD d)).map PyData.int) else .str "counts"
  | 1 => if isNs d = true then optL (cbyI (ilD d)) else .str "hits"
  | 2 => szD a b fun h w => .bool (isCnt (min h w).toNat d)
  | 3 => szD a b fun h w => if isCnt (min h w).toNat d = true then .list ((rcI h.toNat w.toNat (ilD d)).map PyData.int) else .str "counts"
  | 4 => szD a b fun h w => if isCnt (min h w).toNat d = true then .bool (isCnt (min h w).toNat (.list ((rcI h.toNat w.toNat (ilD d)).map PyData.int))) else .str "counts"
  | _ => szD a b fun h w => .list ((fullsI h.toNat w.toNat).map PyData.int)
def toldXD : DF := fun args R _ => ∃ (way : Nat) (d a b : PyData), args = [.v (.int way), .v d, .v a, .v b] ∧ way ≤ 5 ∧ R (toldV way d a b)
def askedD : DF := fun args R _ => ∃ (way : Nat) (d a b : PyData), args = [.v (.int way), .v d, .v a, .v b, .v (toldV way d a b)] ∧ way ≤ 5 ∧ rOk d ∧ rOk (toldV way d a b) ∧ R (.bool true)
def rightD : DF := fun args R _ => ∃ (h w : Int) (d : PyData), args = [.v d, .v (.int h), .v (.int w)] ∧ 1 ≤ h ∧ h ≤ 12 ∧ 1 ≤ w ∧ w ≤ 12 ∧ rOk d ∧ (∀ i, i < 5 → rOk (toldV i d (.int h) (.int w))) ∧ R (.bool true)
end Rk
namespace Rk
open PySem PySem.Spec PyProof.Rows L2 _root_.Rd
open Dl
section
variable {P : Program} {w : World} {K : PySem.W.Frag} {mg : Str → Option Value} {base : Heap}
theorem sc_whole : FnScope ["thing"] ["thing"] (defScope sWhole) := ⟨rfl, rfl, rfl, by decide +kernel, rfl, by decide +kernel, by decide +kernel⟩
theorem ok_whole {f   : Addr} {fd  : FuncData} (F : Fun K "is_whole" "is_whole" sWhole f fd) (T : GlbA mg) :
    FnOk P w K mg base CX0 1 f fd ["thing"] (toSp false wholeD) := by
  refine okQ false F sc_whole (fun args R EX h => ?_) (fun cdv A outer s H E hr => ?_)
  · obtain ⟨d, rfl, _⟩ := h
    rfl
  · have hU := Room.u60 hr
    have hI := Room.i60 hr
    refine ⟨_, qss_one (qs_ret (q_and (q_toPF (q_inst .int (by rfl) T.isinstance (qp 0) (by rfl) T.int bt_int)) (q_one (q_not (q_toPF (q_inst .bool (by rfl) T.isinstance (qp 0) (by rfl) T.bool bt_bool)))))), fun args R EX h => ?_⟩
    obtain ⟨d, rfl, hR⟩ := h
    cases d <;> exact hR
theorem sc_within : FnScope ["thing", "least", "most"] ["thing", "least", "most"] (defScope sWithin) := ⟨rfl, rfl, rfl, by decide +kernel, rfl, by decide +kernel, by decide +kernel⟩
theorem ok_within {f f1  : Addr} {fd fd1 : FuncData} (F : Fun K "is_whole_within" "is_whole_within" sWithin f fd) (T : GlbA mg)
    (m1 : mg "is_whole" = some (.ref f1)) (G1 : FnOk P w K mg base CX0 1 f1 fd1 ["thing"] (toSp false wholeD)) (b1 : Binds K fd1 ["thing"] []) (k1 : PySem.W.keepIn K (.ref f1) = true) :
    FnOk P w K mg base CX0 2 f fd ["thing", "least", "most"] (toSp false withinD) := by
  refine okQ false F sc_within (fun args R EX h => ?_) (fun cdv A outer s H E hr => ?_)
  · obtain ⟨d, a, b, rfl, _⟩ := h
    rfl
  · have hU := Room.u60 hr
    have hI := Room.i60 hr
    refine ⟨_, qss_one (qs_ret (q_and (q_toP (q_call G1 (hr.mono (by decide)) (by rfl) m1 k1 b1 passA (qs_v (qv 0) qs_nil))) (q_one (q_toD (q_ch op_le op_le (qp 1) (qp 0) (qp 2)))))), fun args R EX h => ?_⟩
    obtain ⟨d, a, b, rfl, hR⟩ := h
    refine ⟨d, rfl, ?_⟩
    cases d with
    | int i => exact iteT (and_if hR)
    | _ => exact hR
theorem sc_refs : FnScope ["high", "wide"] ["high", "wide"] (defScope sRef) := ⟨rfl, rfl, rfl, by decide +kernel, rfl, by decide +kernel, by decide +kernel⟩
theorem ok_refs {f f1 CS : Addr} {fd fd1 : FuncData} (hA : ∃ t, mg "MOST_COUNTED_LINES" = some (.int 12 t)) (F : Fun K "refuse_no_sizes" "refuse_no_sizes" sRef f fd) (T : GlbA mg)
    (m1 : mg "is_whole_within" = some (.ref f1)) (G1 : FnOk P w K mg base CX0 2 f1 fd1 ["thing", "least", "most"] (toSp false withinD)) (b1 : Binds K fd1 ["thing", "least", "most"] []) (k1 : PySem.W.keepIn K (.ref f1) = true)
    (mCS : mg "NoSize" = some (.ref CS)) (qCS : PySem.W.excIn K CS Rx.mroV "ValueError.__new__" = true) :
    FnOk P w K mg base (Rx.CXE P w) 3 f fd ["high", "wide"] (toSp false (refXD CS)) := by
  refine okQE false F sc_refs (fun args R EX h => ?_) (fun cdv A outer s H E hr => ?_)
  · obtain ⟨a, b, rfl, _⟩ := h
    rfl
  · obtain ⟨tA, mA⟩ := hA
    have hU := Room.u60 hr
    have hI := Room.i60 hr
    refine ⟨_, qss_cons (qs_if (qt_not (qt_val (q_toP (q_call G1 (hr.mono (by decide)) (by rfl) m1 k1 b1 passA (qs_v (qv 0) (qs_v q_int (qs_v (q_glob 12 (by rfl) mA ⟨_, rfl⟩) qs_nil))))))) (qss_one (qs_raise (fun _ _ h => h) mCS qCS (q_toP q_str))) qss_nil)
      (qss_one (qs_if (qt_not (qt_val (q_toP (q_call G1 (hr.mono (by decide)) (by rfl) m1 k1 b1 passA (qs_v (qv 1) (qs_v q_int (qs_v (q_glob 12 (by rfl) mA ⟨_, rfl⟩) qs_nil))))))) (qss_one (qs_raise (fun _ _ h => h) mCS qCS (q_toP q_str))) qss_nil)), fun args R EX h => ?_⟩
    obtain ⟨a, b, rfl, hR, hX⟩ := h
    refine ⟨_, _, _, rfl, ?_⟩
    cases ha : inW a 1 12 with
    | false => rw [ha] at hX; exact hX rfl
    | true =>
      refine ⟨_, _, _, rfl, ?_⟩
      cases hb : inW b 1 12 with
      | false => rw [ha, hb] at hX; exact hX rfl
      | true => exact hR ha hb
theorem nd_counts1 : (["part"] : List Str).Nodup := by decide +kernel
theorem sc_counts : FnScope ["high", "wide", "thing"] ["high", "wide", "thing"] (defScope sCounts) := ⟨rfl, rfl, rfl, by decide +kernel, rfl, by decide +kernel, by decide +kernel⟩
theorem ok_counts {f f1 f2  : Addr} {fd fd1 fd2 : FuncData} {CS : Addr} (F : Fun K "is_counts" "is_counts" sCounts f fd) (T : GlbA mg)
    (m1 : mg "is_whole" = some (.ref f1)) (G1 : FnOk P w K mg base CX0 1 f1 fd1 ["thing"] (toSp false wholeD)) (b1 : Binds K fd1 ["thing"] []) (k1 : PySem.W.keepIn K (.ref f1) = true)
    (m2 : mg "refuse_no_sizes" = some (.ref f2)) (G2 : FnOk P w K mg base (Rx.CXE P w) 3 f2 fd2 ["high", "wide"] (toSp false (refXD CS))) (b2 : Binds K fd2 ["high", "wide"] []) (k2 : PySem.W.keepIn K (.ref f2) = true) :
    FnOk P w K mg base (Rx.CXE P w) 4 f fd ["high", "wide", "thing"] (toSp false (cntXD CS)) := by
  refine okQE false F sc_counts (fun args R EX h => ?_) (fun cdv A outer s H E hr => ?_)
  · obtain ⟨a, b, d, rfl, _⟩ := h
    rfl
  · have hU := Room.u60 hr
    have hI := Room.i60 hr
    refine ⟨_, qss_cons (qs_expr (q_toP (q_call G2 (hr.mono (by decide)) (by rfl) m2 k2 b2 (Rx.passE (E := E) (fun _ _ h => h) rfl rfl rfl) (qs_v (qv 0) (qs_v (qv 1) qs_nil)))))
      (qss_cons (qs_if (q_pw (qw_or (qt_not (qt_val (q_toPF (q_inst .list (by rfl) T.isinstance (qp 2) (by rfl) T.list bt_list)))) (qw_or1 (qt_cmp op_neA (od_ne hU) (q_toPF (q_callB call_lenK cd_len (by rfl) T.len bt_len (qa_P (qp 2) qa_nil))) (q_toPF (q_bin op_addD od_add (q_toPF (q_callB (call_min2 rfl) cd_min2 (by rfl) T.min bt_min (qa_P (qp 0) (qa_P (qp 1) qa_nil)))) (q_toP q_int))) (nomark _))))) (qss_one (qs_ret q_bl)) qss_nil)
      (qss_one (qs_ret (q_and (q_toPF (q_callB call_all (cd_all rfl) (by rfl) T.all bt_all (qa_P (q_toPF (q_comp ["part"] [none] (qi_list (qp 2)) (fun cl ex s3 H3 C => ⟨(qg_name 0 nd_counts1 rfl (Or.inl rfl) (Or.inr rfl)), qts_nil, (q_and (q_toP (q_call G1 (hr.mono (by decide)) (by rfl) m1 k1 b1 passA (qs_v (qv 0) qs_nil))) (q_one (q_toD (q_cmp op_ge od_ib0 (qp 0) (q_toP q_int) (nomark _)))))⟩))) qa_nil))) (q_one (q_toD (q_cmp op_eqA (od_eq hU) (q_toP (q_ix ix_any od_ix (qp 2) (q_toP q_int) (fun _ _ => rfl))) (q_toP q_int) (nomark _)))))))), fun args R EX h => ?_⟩
    obtain ⟨a, b, d, rfl, hR, hX⟩ := h
    refine ⟨_, _, rfl, fun ha hb => ?_, hX⟩
    obtain ⟨h, rfl, h1, h2⟩ := inW_e ha
    obtain ⟨w, rfl, w1, w2⟩ := inW_e hb
    have hR := hR h w rfl rfl h1 h2 w1 w2
    cases d with
    | list ds =>
      refine ifC (fun z => ?_) fun z => ?_
      · have z := not_dec z
        have hl : ds.length ≠ (min h w).toNat + 1 := fun e => z (by split <;> omega)
        rw [show isCnt (min h w).toNat (.list ds) = false by show (decide _ && _) = false; rw [decide_eq_false hl]; rfl] at hR
        exact hR
      · have z := dec_not z
        have hl : ds.length = (min h w).toNat + 1 := by split at z <;> omega
        rw [show isCnt (min h w).toNat (.list ds) = (ds.all isNN && one1 ds) by show (decide _ && _) = _; rw [decide_eq_true hl]; rfl] at hR
        refine cm_map (fun d => .bool (isNN d)) (fun d hd k2 hk => ?_) ?_
        · refine ⟨d, rfl, ?_⟩
          cases d <;> exact hk
        · refine allD_of (items := ds) rfl ?_
          refine and_ifK hR fun ha hR => ?_
          cases ds with
          | nil => cases hl
          | cons d ds =>
            refine ⟨d, atI_nat (j := 0) rfl, ?_⟩
            rw [List.all_cons, Bool.and_eq_true] at ha
            cases d <;> first | exact hR | (cases ha.1)
    | _ => exact hR
theorem sc_orders : FnScope ["many", "told", "number"] ["many"] (defScope sOrders) := ⟨rfl, rfl, rfl, by decide +kernel, rfl, by decide +kernel, by decide +kernel⟩
theorem ok_orders {f   : Addr} {fd  : FuncData} (F : Fun K "how_many_orders" "how_many_orders" sOrders f fd) (T : GlbA mg) :
    FnOk P w K mg base CX0 1 f fd ["many"] (toSp false ordersD) := by
  refine okQ false F sc_orders (fun args R EX h => ?_) (fun cdv A outer s H E hr => ?_)
  · obtain ⟨m, rfl, _⟩ := h
    rfl
  · have hU := Room.u60 hr
    have hI := Room.i60 hr
    refine ⟨_, qss_cons (qs_set 1 q_int sc_orders.nd)
      (qss_cons (qs_for PassesOwn.never rfl (qi_rng1 (by rfl) T.range (qp 0)) (qg_name 2 sc_orders.nd rfl (by first | exact Or.inl rfl | exact Or.inr rfl))
        (qss_one (qs_aug 1 (ip_of iop_mul) odn_mul (q_toPF (q_bin op_addD od_add (qp 2) (q_toP q_int))) sc_orders.nd)))
      (qss_one (qs_ret (qv 1)))), fun args R EX h => ?_⟩
    obtain ⟨m, rfl, h0, h1, hR⟩ := h
    refine ⟨⟨by omega, by omega⟩, for_rng (fun i δ => ∃ x, δ = [.v (.int m), .v (.int (fctI i)), x]) ⟨_, rfl⟩ ?_ ?_⟩
    · rintro i δ hi ⟨x, rfl⟩
      have := fct_ok (show i ≤ 12 by omega)
      refine ⟨.inl ⟨by omega, by omega⟩, .v (.int (0 + (i : Int))), ?_⟩
      show [Sl.v (.int m), .v (.int (fctI i * (0 + (i : Int) + 1))), .v (.int (0 + (i : Int)))] = _
      rw [show (0 : Int) + (i : Int) + 1 = (i : Int) + 1 by omega]
      rfl
    · rintro δ ⟨x, rfl⟩
      exact hR
theorem sc_sets : FnScope ["many", "size", "told", "number"] ["many", "size"] (defScope sSets) := ⟨rfl, rfl, rfl, by decide +kernel, rfl, by decide +kernel, by decide +kernel⟩
theorem ok_sets {f   : Addr} {fd  : FuncData} (F : Fun K "how_many_sets" "how_many_sets" sSets f fd) (T : GlbA mg) :
    FnOk P w K mg base CX0 1 f fd ["many", "size"] (toSp false setsD) := by
  refine okQ false F sc_sets (fun args R EX h => ?_) (fun cdv A outer s H E hr => ?_)
  · obtain ⟨m, k, rfl, _⟩ := h
    rfl
  · have hU := Room.u60 hr
    have hI := Room.i60 hr
    refine ⟨_, qss_cons (qs_set 2 q_int sc_sets.nd)
      (qss_cons (qs_for PassesOwn.never rfl (qi_rng1 (by rfl) T.range (qp 1)) (qg_name 3 sc_sets.nd rfl (by first | exact Or.inl rfl | exact Or.inr rfl))
        (qss_one (qs_set 2 (q_toD (q_bin op_fdivC od_ii (q_toPF (q_bin op_mulD od_mul (qp 2) (q_toPF (q_bin op_sub od_ii0 (qp 0) (qp 3))))) (q_toPF (q_bin op_addD od_add (qp 3) (q_toP q_int))))) sc_sets.nd)))
      (qss_one (qs_ret (qv 2)))), fun args R EX h => ?_⟩
    obtain ⟨m, k, rfl, m0, m1, k0, k1, hR⟩ := h
    refine ⟨⟨by omega, by omega⟩, for_rng (fun i δ => ∃ x, δ = [.v (.int m), .v (.int k), .v (.int (setI m.toNat i)), x]) ⟨_, rfl⟩ ?_ ?_⟩
    · rintro i δ hi ⟨x, rfl⟩
      have := set_ok (m := m.toNat) (k := i) (by omega) (by omega)
      refine ⟨.inl (.inl ⟨by omega, by omega⟩), ⟨by omega, by omega⟩, .v (.int (0 + (i : Int))), ?_⟩
      show [Sl.v (.int m), .v (.int k), .v (.int (setI m.toNat i * (m - (0 + (i : Int))) / (0 + (i : Int) + 1))), .v (.int (0 + (i : Int)))] = _
      rw [show (0 : Int) + (i : Int) = (i : Int) by omega]
      show [Sl.v (.int m), .v (.int k), .v (.int (setI m.toNat i * (m - (i : Int)) / ((i : Int) + 1))), .v (.int (i : Int))] = [Sl.v (.int m), .v (.int k), .v (.int (setI m.toNat i * ((m.toNat : Int) - (i : Int)) / ((i : Int) + 1))), .v (.int (i : Int))]
      rw [show ((m.toNat : Nat) : Int) = m by omega]
    · rintro δ ⟨x, rfl⟩
      exact hR
theorem sc_full : FnScope ["high", "wide", "size"] ["high", "wide", "size"] (defScope sFull) := ⟨rfl, rfl, rfl, by decide +kernel, rfl, by decide +kernel, by decide +kernel⟩
theorem ok_full {f f1 f2  : Addr} {fd fd1 fd2 : FuncData} (F : Fun K "full_count" "full_count" sFull f fd) (T : GlbA mg)
    (m1 : mg "how_many_sets" = some (.ref f1)) (G1 : FnOk P w K mg base CX0 1 f1 fd1 ["many", "size"] (toSp false setsD)) (b1 : Binds K fd1 ["many", "size"] []) (k1 : PySem.W.keepIn K (.ref f1) = true)
    (m2 : mg "how_many_orders" = some (.ref f2)) (G2 : FnOk P w K mg base CX0 1 f2 fd2 ["many"] (toSp false ordersD)) (b2 : Binds K fd2 ["many"] []) (k2 : PySem.W.keepIn K (.ref f2) = true) :
    FnOk P w K mg base CX0 2 f fd ["high", "wide", "size"] (toSp false fullD) := by
  refine okQ false F sc_full (fun args R EX h => ?_) (fun cdv A outer s H E hr => ?_)
  · obtain ⟨h, w, s, rfl, _⟩ := h
    rfl
  · have hU := Room.u60 hr
    have hI := Room.i60 hr
    refine ⟨_, qss_one (qs_retF (q_bin op_mulD od_mul (q_toPF (q_bin op_mulD od_mul (q_toP (q_call G1 (hr.mono (by decide)) (by rfl) m1 k1 b1 passA (qs_v (qv 0) (qs_v (qv 2) qs_nil)))) (q_toP (q_call G1 (hr.mono (by decide)) (by rfl) m1 k1 b1 passA (qs_v (qv 1) (qs_v (qv 2) qs_nil)))))) (q_toP (q_call G2 (hr.mono (by decide)) (by rfl) m2 k2 b2 passA (qs_v (qv 2) qs_nil))))), fun args R EX h => ?_⟩
    obtain ⟨h, w, s, rfl, h0, h1, w0, w1, s0, s1, hR⟩ := h
    have a := set_ok (m := h.toNat) (k := s.toNat) (by omega) (by omega)
    have b := full_small (h := h.toNat) (w := w.toNat) (s := s.toNat) (by omega) (by omega) (by omega)
    refine ⟨_, _, rfl, by omega, by omega, by omega, by omega, ⟨_, _, rfl, by omega, by omega, by omega, by omega, ?_⟩⟩
    exact ⟨.inl (.inl ⟨by omega, by omega⟩), _, rfl, by omega, by omega, .inl (.inl ⟨by omega, by omega⟩), hR⟩
theorem nd_fulls1 : (["size", "high", "wide"] : List Str).Nodup := by decide +kernel
theorem sc_fulls : FnScope ["high", "wide"] ["high", "wide"] (defScope sFulls) := ⟨rfl, rfl, rfl, by decide +kernel, rfl, by decide +kernel, by decide +kernel⟩
theorem ok_fulls {f f1 f2  : Addr} {fd fd1 fd2 : FuncData} {CS : Addr} (F : Fun K "full_counts" "full_counts" sFulls f fd) (T : GlbA mg)
    (m1 : mg "refuse_no_sizes" = some (.ref f1)) (G1 : FnOk P w K mg base (Rx.CXE P w) 3 f1 fd1 ["high", "wide"] (toSp false (refXD CS))) (b1 : Binds K fd1 ["high", "wide"] []) (k1 : PySem.W.keepIn K (.ref f1) = true)
    (m2 : mg "full_count" = some (.ref f2)) (G2 : FnOk P w K mg base CX0 2 f2 fd2 ["high", "wide", "size"] (toSp false fullD)) (b2 : Binds K fd2 ["high", "wide", "size"] []) (k2 : PySem.W.keepIn K (.ref f2) = true) :
    FnOk P w K mg base (Rx.CXE P w) 4 f fd ["high", "wide"] (toSp true (fullsXD CS)) := by
  refine okQE true F sc_fulls (fun args R EX h => ?_) (fun cdv A outer s H E hr => ?_)
  · obtain ⟨a, b, rfl, _⟩ := h
    rfl
  · have hU := Room.u60 hr
    have hI := Room.i60 hr
    refine ⟨_, qss_cons (qs_expr (q_toP (q_call G1 (hr.mono (by decide)) (by rfl) m1 k1 b1 (Rx.passE (E := E) (fun _ _ h => h) rfl rfl rfl) (qs_v (qv 0) (qs_v (qv 1) qs_nil)))))
      (qss_one (qs_retF (q_comp ["size", "high", "wide"] [none, some 0, some 1] (qi_rng1 (by rfl) T.range (q_toPF (q_bin op_addD od_add (q_toPF (q_callB (call_min2 rfl) cd_min2 (by rfl) T.min bt_min (qa_P (qp 0) (qa_P (qp 1) qa_nil)))) (q_toP q_int)))) (fun cl ex s3 H3 C => ⟨(qg_name 0 nd_fulls1 rfl (Or.inl rfl) (Or.inr rfl)), qts_nil, (q_call G2 (hr.mono (by decide)) (by rfl) m2 k2 b2 passA (qs_v (qv 1) (qs_v (qv 2) (qs_v (qv 0) qs_nil))))⟩)))), fun args R EX h => ?_⟩
    obtain ⟨a, b, rfl, hS, hR⟩ := h
    refine ⟨_, _, rfl, fun ha hb => ?_, hS⟩
    obtain ⟨h, rfl, h1, h2⟩ := inW_e ha
    obtain ⟨w, rfl, w1, w2⟩ := inW_e hb
    have hR := hR h w rfl rfl h1 h2 w1 w2
    refine ⟨⟨by split <;> omega, by split <;> omega⟩, cm_map (fun d => match d with | .int s => .int (fullI h.toNat w.toNat s.toNat) | _ => .none) (fun d hd k2 hk => ?_) ?_⟩
    · obtain ⟨i, hi⟩ := List.mem_iff_getElem?.mp hd
      obtain ⟨hi, rfl⟩ := rng_get hi
      exact ⟨_, _, _, rfl, by omega, by omega, by omega, by omega, by omega, by split at hi <;> omega, hk⟩
    · have e : (rngD 0 ((if w < h then w else h) + 1).toNat).map (fun d => match d with | .int s => PyData.int (fullI h.toNat w.toNat s.toNat) | _ => .none) = (fullsI h.toNat w.toNat).map PyData.int := by
        unfold rngD fullsI
        rw [List.map_map, List.map_map, show ((if w < h then w else h) + 1).toNat = min h.toNat w.toNat + 1 by split <;> omega]
        refine List.map_congr_left fun i _ => ?_
        show PyData.int (fullI h.toNat w.toNat (0 + (i : Int)).toNat) = _
        rw [show (0 + (i : Int)).toNat = i by omega]
        rfl
      rw [← e] at hR
      exact hR
theorem sc_restc : FnScope ["high", "wide", "counts", "size", "told", "sign", "less"] ["high", "wide", "counts", "size"] (defScope sRestC) := ⟨rfl, rfl, rfl, by decide +kernel, rfl, by decide +kernel, by decide +kernel⟩
theorem ok_restc {f f1  : Addr} {fd fd1 : FuncData} (F : Fun K "rest_count" "rest_count" sRestC f fd) (T : GlbA mg)
    (m1 : mg "full_count" = some (.ref f1)) (G1 : FnOk P w K mg base CX0 2 f1 fd1 ["high", "wide", "size"] (toSp false fullD)) (b1 : Binds K fd1 ["high", "wide", "size"] []) (k1 : PySem.W.keepIn K (.ref f1) = true) :
    FnOk P w K mg base CX0 3 f fd ["high", "wide", "counts", "size"] (toSp false restcD) := by
  refine okQ false F sc_restc (fun args R EX h => ?_) (fun cdv A outer s H E hr => ?_)
  · obtain ⟨h, w, s, c, rfl, _⟩ := h
    rfl
  · have hU := Room.u60 hr
    have hI := Room.i60 hr
    refine ⟨_, qss_cons (qs_set 4 q_int sc_restc.nd)
      (qss_cons (qs_set 5 q_int sc_restc.nd)
      (qss_cons (qs_for PassesOwn.never rfl (qi_rng1 (by rfl) T.range (q_toPF (q_bin op_addD od_add (qp 3) (q_toP q_int)))) (qg_name 6 sc_restc.nd rfl (by first | exact Or.inl rfl | exact Or.inr rfl))
        (qss_cons (qs_aug 4 ip_add odn_ii0 (q_toPF (q_bin op_mulD od_mul (q_toPF (q_bin op_mulD od_mul (qp 5) (q_toP (q_ix ix_any od_ix (qp 2) (qp 6) (fun _ _ => rfl))))) (q_toP (q_call G1 (hr.mono (by decide)) (by rfl) m1 k1 b1 passA (qs_v (q_toD (q_bin op_sub od_ii0 (qp 0) (qp 6))) (qs_v (q_toD (q_bin op_sub od_ii0 (qp 1) (qp 6))) (qs_v (q_toD (q_bin op_sub od_ii0 (qp 3) (qp 6))) qs_nil))))))) sc_restc.nd)
      (qss_one (qs_set 5 (q_toD (q_neg (qp 5))) sc_restc.nd))))
      (qss_one (qs_ret (qv 4))))), fun args R EX h => ?_⟩
    obtain ⟨h, w, s, c, rfl, h1, w1, s0, s1, cl, h2, w2, hR⟩ := h
    have lc := lenI c
    refine ⟨⟨by omega, by omega⟩, for_rng (fun i δ => ∃ x, δ = [.v (.int h), .v (.int w), .v (.list (c.map PyData.int)), .v (.int s), .v (.int (sumN i fun j => sgnI j * c.getD j 0 * fullI (h.toNat - j) (w.toNat - j) (s.toNat - j))), .v (.int (sgnI i)), x]) ⟨_, rfl⟩ ?_ ?_⟩
    · rintro i δ hi ⟨x, rfl⟩
      have hi2 : i < c.length := by omega
      have fa := full_abs (h := h.toNat - i) (w := w.toNat - i) (s := s.toNat - i) (by omega) (by omega) (by omega)
      refine ⟨.int (c.getD i 0), ?_, .inl (.inl (by rcases sgn_ok i with z | z <;> rw [z] <;> decide)), ⟨_, _, _, rfl, by omega, by omega, by omega, by omega, by omega, by omega, ?_⟩⟩
      · rw [show (0 : Int) + (i : Int) = (i : Int) by omega]
        refine atI_nat ?_
        rw [List.getElem?_map, List.getD_eq_getElem?_getD, List.getElem?_eq_getElem hi2]
        rfl
      · have e1 : (h - (0 + (i : Int))).toNat = h.toNat - i := by omega
        have e2 : (w - (0 + (i : Int))).toNat = w.toNat - i := by omega
        have e3 : (s - (0 + (i : Int))).toNat = s.toNat - i := by omega
        rw [e1, e2, e3]
        exact ⟨.inl (.inr fa), .v (.int (0 + (i : Int))), rfl⟩
    · rintro δ ⟨x, rfl⟩
      have e : (s + 1).toNat = s.toNat + 1 := by omega
      rw [e]
      exact hR
theorem nd_rest1 : (["size", "counts", "high", "wide"] : List Str).Nodup := by decide +kernel
theorem sc_rest : FnScope ["high", "wide", "counts"] ["high", "wide", "counts"] (defScope sRest) := ⟨rfl, rfl, rfl, by decide +kernel, rfl, by decide +kernel, by decide +kernel⟩
theorem ok_rest {f f1 f2 CC : Addr} {fd fd1 fd2 : FuncData} {CS : Addr} (F : Fun K "rest_counts" "rest_counts" sRest f fd) (T : GlbA mg)
    (m1 : mg "is_counts" = some (.ref f1)) (G1 : FnOk P w K mg base (Rx.CXE P w) 4 f1 fd1 ["high", "wide", "thing"] (toSp false (cntXD CS))) (b1 : Binds K fd1 ["high", "wide", "thing"] []) (k1 : PySem.W.keepIn K (.ref f1) = true)
    (m2 : mg "rest_count" = some (.ref f2)) (G2 : FnOk P w K mg base CX0 3 f2 fd2 ["high", "wide", "counts", "size"] (toSp false restcD)) (b2 : Binds K fd2 ["high", "wide", "counts", "size"] []) (k2 : PySem.W.keepIn K (.ref f2) = true)
    (mCC : mg "NoCounts" = some (.ref CC)) (qCC : PySem.W.excIn K CC Rx.mroV "ValueError.__new__" = true) :
    FnOk P w K mg base (Rx.CXE P w) 5 f fd ["high", "wide", "counts"] (toSp true (restXD CS CC)) := by
  refine okQE true F sc_rest (fun args R EX h => ?_) (fun cdv A outer s H E hr => ?_)
  · obtain ⟨a, b, d, rfl, _⟩ := h
    rfl
  · have hU := Room.u60 hr
    have hI := Room.i60 hr
    refine ⟨_, qss_cons (qs_if (qt_not (qt_val (q_toP (q_call G1 (hr.mono (by decide)) (by rfl) m1 k1 b1 (Rx.passE (E := E) (fun _ _ h => h) rfl rfl rfl) (qs_v (qv 0) (qs_v (qv 1) (qs_v (qv 2) qs_nil))))))) (qss_one (qs_raise (fun _ _ h => h) mCC qCC (q_toP q_str))) qss_nil)
      (qss_one (qs_retF (q_comp ["size", "counts", "high", "wide"] [none, some 2, some 0, some 1] (qi_rng1 (by rfl) T.range (q_toPF (q_callB call_lenK cd_len (by rfl) T.len bt_len (qa_P (qp 2) qa_nil)))) (fun cl ex s3 H3 C => ⟨(qg_name 0 nd_rest1 rfl (Or.inl rfl) (Or.inr rfl)), qts_nil, (q_call G2 (hr.mono (by decide)) (by rfl) m2 k2 b2 passA (qs_v (qv 2) (qs_v (qv 3) (qs_v (qv 1) (qs_v (qv 0) qs_nil)))))⟩)))), fun args R EX h => ?_⟩
    obtain ⟨a, b, d, rfl, hS, hC, hR⟩ := h
    refine ⟨_, _, _, rfl, fun h w ea eb h1 h2 w1 w2 => ?_, hS⟩
    subst ea eb
    cases hc : isCnt (min h w).toNat d with
    | false => exact hC h w rfl rfl h1 h2 w1 w2 hc
    | true =>
      obtain ⟨c, rfl, cl, cp, c0⟩ := cnt_ints hc
      have hR := hR h w c rfl rfl h1 h2 w1 w2 hc rfl
      have lc := lenI c
      refine ⟨⟨by omega, by omega⟩, cm_map (fun d => match d with | .int s => .int (restAt h.toNat w.toNat c s.toNat) | _ => .none) (fun d hd k2 hk => ?_) ?_⟩
      · obtain ⟨i, hi⟩ := List.mem_iff_getElem?.mp hd
        obtain ⟨hi, rfl⟩ := rng_get hi
        exact ⟨_, _, _, _, rfl, by omega, by omega, by omega, by omega, cl, by omega, by omega, hk⟩
      · have e : (rngD 0 (((c.map PyData.int).length : Nat) : Int).toNat).map (fun d => match d with | .int s => PyData.int (restAt h.toNat w.toNat c s.toNat) | _ => .none) = (rcI h.toNat w.toNat c).map PyData.int := by
          unfold rngD rcI
          rw [List.map_map, List.map_map, Int.toNat_natCast, lc]
          refine List.map_congr_left fun i _ => ?_
          show PyData.int (restAt h.toNat w.toNat c (0 + (i : Int)).toNat) = _
          rw [show (0 + (i : Int)).toNat = i by omega]
          rfl
        rw [← e] at hR
        exact hR
theorem sc_well : FnScope ["high", "wide", "counts"] ["high", "wide", "counts"] (defScope sWell) := ⟨rfl, rfl, rfl, by decide +kernel, rfl, by decide +kernel, by decide +kernel⟩
theorem ok_well {f f1 f2  : Addr} {fd fd1 fd2 : FuncData} {CS CC : Addr} (F : Fun K "rests_well" "rests_well" sWell f fd) (T : GlbA mg)
    (m1 : mg "is_counts" = some (.ref f1)) (G1 : FnOk P w K mg base (Rx.CXE P w) 4 f1 fd1 ["high", "wide", "thing"] (toSp false (cntXD CS))) (b1 : Binds K fd1 ["high", "wide", "thing"] []) (k1 : PySem.W.keepIn K (.ref f1) = true)
    (m2 : mg "rest_counts" = some (.ref f2)) (G2 : FnOk P w K mg base (Rx.CXE P w) 5 f2 fd2 ["high", "wide", "counts"] (toSp true (restXD CS CC))) (b2 : Binds K fd2 ["high", "wide", "counts"] []) (k2 : PySem.W.keepIn K (.ref f2) = true) :
    FnOk P w K mg base (Rx.CXE P w) 6 f fd ["high", "wide", "counts"] (toSp false (wellXD CS CC)) := by
  refine okQE false F sc_well (fun args R EX h => ?_) (fun cdv A outer s H E hr => ?_)
  · obtain ⟨a, b, d, rfl, _⟩ := h
    rfl
  · have hU := Room.u60 hr
    have hI := Room.i60 hr
    refine ⟨_, qss_one (qs_ret (q_call G1 (hr.mono (by decide)) (by rfl) m1 k1 b1 (Rx.passE (E := E) (fun _ _ h => h) rfl rfl rfl) (qs_v (qv 0) (qs_v (qv 1) (qs_v (q_toD (q_callF G2 (hr.mono (by decide)) (by rfl) m2 k2 b2 (Rx.passE (E := E) (fun _ _ h => h) rfl rfl rfl) (qs_v (qv 0) (qs_v (qv 1) (qs_v (qv 2) qs_nil))))) qs_nil))))), fun args R EX h => ?_⟩
    obtain ⟨a, b, d, rfl, hS, hC, hR⟩ := h
    refine ⟨_, _, _, rfl, hS, hC, fun h w c ea eb h1 h2 w1 w2 hc ed => ?_⟩
    subst ea eb
    exact ⟨_, _, _, rfl, fun h' w' e1 e2 _ _ _ _ => by cases e1; cases e2; exact hR h w c rfl rfl h1 h2 w1 w2 hc ed, hS⟩
end
end Rk
namespace Rk
open PySem PySem.Spec PyProof.Rows L2 _root_.Rd
open Dl
section
variable {P : Program} {w : World} {K : PySem.W.Frag} {mg : Str → Option Value} {base : Heap}
theorem nd_inu1 : (["part"] : List Str).Nodup := by decide +kernel
theorem sc_inu : FnScope ["thing"] ["thing"] (defScope sIsN) := ⟨rfl, rfl, rfl, by decide +kernel, rfl, by decide +kernel, by decide +kernel⟩
theorem ok_inu {f f1  : Addr} {fd fd1 : FuncData} (hA : ∃ t, mg "LEAST_NUMBERS" = some (.int 2 t)) (hB : ∃ t, mg "MOST_NUMBERS" = some (.int 13 t)) (F : Fun K "is_numbers" "is_numbers" sIsN f fd) (T : GlbA mg)
    (m1 : mg "is_whole" = some (.ref f1)) (G1 : FnOk P w K mg base CX0 1 f1 fd1 ["thing"] (toSp false wholeD)) (b1 : Binds K fd1 ["thing"] []) (k1 : PySem.W.keepIn K (.ref f1) = true) :
    FnOk P w K mg base CX0 2 f fd ["thing"] (toSp false inXD) := by
  refine okQ false F sc_inu (fun args R EX h => ?_) (fun cdv A outer s H E hr => ?_)
  · obtain ⟨d, rfl, _⟩ := h
    rfl
  · obtain ⟨tA, mA⟩ := hA
    obtain ⟨tB, mB⟩ := hB
    have hU := Room.u60 hr
    have hI := Room.i60 hr
    refine ⟨_, qss_cons (qs_if (q_pw (qw_or (qt_not (qt_val (q_toPF (q_inst .list (by rfl) T.isinstance (qp 0) (by rfl) T.list bt_list)))) (qw_or1 (qt_not (qt_ch op_le op_le (q_toP (q_glob 2 (by rfl) mA ⟨_, rfl⟩)) (q_toPF (q_callB call_lenK cd_len (by rfl) T.len bt_len (qa_P (qp 0) qa_nil))) (q_toP (q_glob 13 (by rfl) mB ⟨_, rfl⟩))))))) (qss_one (qs_ret q_bl)) qss_nil)
      (qss_one (qs_retF (q_callB call_all (cd_all rfl) (by rfl) T.all bt_all (qa_P (q_toPF (q_comp ["part"] [none] (qi_list (qp 0)) (fun cl ex s3 H3 C => ⟨(qg_name 0 nd_inu1 rfl (Or.inl rfl) (Or.inr rfl)), qts_nil, (q_call G1 (hr.mono (by decide)) (by rfl) m1 k1 b1 passA (qs_v (qv 0) qs_nil))⟩))) qa_nil)))), fun args R EX h => ?_⟩
    obtain ⟨d, rfl, hR⟩ := h
    cases d with
    | list ds =>
      have e : isNs (.list ds) = (decide (2 ≤ ds.length) && (decide (ds.length ≤ 13) && ds.all isW)) := rfl
      refine ifC (fun z => ?_) fun z => ?_
      · have z := of_decide_eq_true z
        rw [e, decide_eq_true (show 2 ≤ ds.length by omega), Bool.true_and] at hR
        refine ifC (fun y => ?_) fun y => ?_
        · have y := not_dec y
          rw [decide_eq_false (show ¬ ds.length ≤ 13 by omega), Bool.false_and] at hR
          exact hR
        · have y := dec_not y
          rw [decide_eq_true (show ds.length ≤ 13 by omega), Bool.true_and] at hR
          refine cm_map (fun d => .bool (isW d)) (fun d hd k2 hk => ⟨_, rfl, hk⟩) (allD_of (items := ds) rfl hR)
      · have z := of_decide_eq_false z
        rw [e, decide_eq_false (show ¬ 2 ≤ ds.length by omega), Bool.false_and] at hR
        exact hR
    | _ => exact hR
theorem sc_hat : FnScope ["through", "many", "told", "sign", "size"] ["through", "many"] (defScope sHAt) := ⟨rfl, rfl, rfl, by decide +kernel, rfl, by decide +kernel, by decide +kernel⟩
theorem ok_hat {f f1  : Addr} {fd fd1 : FuncData} (F : Fun K "hits_at" "hits_at" sHAt f fd) (T : GlbA mg)
    (m1 : mg "how_many_sets" = some (.ref f1)) (G1 : FnOk P w K mg base CX0 1 f1 fd1 ["many", "size"] (toSp false setsD)) (b1 : Binds K fd1 ["many", "size"] []) (k1 : PySem.W.keepIn K (.ref f1) = true) :
    FnOk P w K mg base CX0 2 f fd ["through", "many"] (toSp false hatXD) := by
  refine okQ false F sc_hat (fun args R EX h => ?_) (fun cdv A outer s H E hr => ?_)
  · obtain ⟨tr, m, rfl, _⟩ := h
    rfl
  · have hU := Room.u60 hr
    have hI := Room.i60 hr
    refine ⟨_, qss_cons (qs_set 2 q_int sc_hat.nd)
      (qss_cons (qs_set 3 q_int sc_hat.nd)
      (qss_cons (qs_for PassesOwn.never rfl (qi_rng2 (by rfl) T.range (qp 1) (q_toPF (q_callB call_lenK cd_len (by rfl) T.len bt_len (qa_P (qp 0) qa_nil)))) (qg_name 4 sc_hat.nd rfl (by first | exact Or.inl rfl | exact Or.inr rfl))
        (qss_cons (qs_aug 2 ip_add odn_ii0 (q_toPF (q_bin op_mulD od_mul (q_toPF (q_bin op_mulD od_mul (qp 3) (q_toP (q_call G1 (hr.mono (by decide)) (by rfl) m1 k1 b1 passA (qs_v (qv 4) (qs_v (qv 1) qs_nil)))))) (q_toP (q_ix ix_any od_ix (qp 0) (qp 4) (fun _ _ => rfl))))) sc_hat.nd)
      (qss_one (qs_set 3 (q_toD (q_neg (qp 3))) sc_hat.nd))))
      (qss_one (qs_ret (qv 2))))), fun args R EX h => ?_⟩
    obtain ⟨tr, m, rfl, l7, hm, hR⟩ := h
    have lt := lenI tr
    refine ⟨⟨by omega, by omega, by omega, by omega⟩, for_items (fun i δ => ∃ x4, δ = [.v (.list (tr.map PyData.int)), .v (.int m), .v (.int (sumN i fun i => sgnI i * setI (m + i) m * tr.getD (m + i) 0)), .v (.int (sgnI i)), x4]) ⟨_, rfl⟩ ?_ ?_⟩
    · rintro i d δ hd ⟨x4, rfl⟩
      obtain ⟨hi, rfl⟩ := rng_get hd
      have so := set_ok (m := m + i) (k := m) (by omega) (by omega)
      have hmi : m + i < tr.length := by omega
      refine ⟨_, _, rfl, by omega, by omega, by omega, by omega, ?_⟩
      rw [show ((m : Int) + (i : Int)).toNat = m + i by omega, show ((m : Int)).toNat = m by omega]
      refine ⟨.inl (.inl (by rcases sgn_ok i with z | z <;> rw [z] <;> decide)), .int (tr.getD (m + i) 0), ?_, .inl (.inl ?_), ?_⟩
      · rw [show (m : Int) + (i : Int) = ((m + i : Nat) : Int) by omega]
        refine atI_nat ?_
        rw [List.getElem?_map, List.getD_eq_getElem?_getD, List.getElem?_eq_getElem hmi]; rfl
      · rcases sgn_ok i with z | z
        · rw [z, Int.one_mul]; exact ⟨by omega, by omega⟩
        · rw [z, Int.neg_mul, Int.one_mul]; exact ⟨by omega, by omega⟩
      · exact ⟨_, rfl⟩
    · rintro δ ⟨x4, rfl⟩
      rw [rng_len]
      rw [hat_from hm] at hR
      rw [show ((((tr.map PyData.int).length : Nat) : Int) - (m : Int)).toNat = tr.length - m by omega]
      exact hR
theorem nd_hby1 : (["size", "count", "high"] : List Str).Nodup := by decide +kernel
theorem nd_hby2 : (["many", "through"] : List Str).Nodup := by decide +kernel
theorem sc_hby : FnScope ["counts", "high", "through"] ["counts"] (defScope sHBy) := ⟨rfl, rfl, rfl, by decide +kernel, rfl, by decide +kernel, by decide +kernel⟩
theorem ok_hby {f f1 f2 f3 CC : Addr} {fd fd1 fd2 fd3 : FuncData} (F : Fun K "hits_by" "hits_by" sHBy f fd) (T : GlbA mg)
    (m1 : mg "is_numbers" = some (.ref f1)) (G1 : FnOk P w K mg base CX0 2 f1 fd1 ["thing"] (toSp false inXD)) (b1 : Binds K fd1 ["thing"] []) (k1 : PySem.W.keepIn K (.ref f1) = true)
    (m2 : mg "how_many_orders" = some (.ref f2)) (G2 : FnOk P w K mg base CX0 1 f2 fd2 ["many"] (toSp false ordersD)) (b2 : Binds K fd2 ["many"] []) (k2 : PySem.W.keepIn K (.ref f2) = true)
    (m3 : mg "hits_at" = some (.ref f3)) (G3 : FnOk P w K mg base CX0 2 f3 fd3 ["through", "many"] (toSp false hatXD)) (b3 : Binds K fd3 ["through", "many"] []) (k3 : PySem.W.keepIn K (.ref f3) = true)
    (mCC : mg "NoCounts" = some (.ref CC)) (qCC : PySem.W.excIn K CC Rx.mroV "ValueError.__new__" = true) :
    FnOk P w K mg base (Rx.CXE P w) 4 f fd ["counts"] (toSp true (hbXD CC)) := by
  refine okQE true F sc_hby (fun args R EX h => ?_) (fun cdv A outer s H E hr => ?_)
  · obtain ⟨d, rfl, _⟩ := h
    rfl
  · have hU := Room.u60 hr
    have hI := Room.i60 hr
    refine ⟨_, qss_cons (qs_if (q_pw (qw_or (qt_not (qt_val (q_toP (q_call G1 (hr.mono (by decide)) (by rfl) m1 k1 b1 passA (qs_v (qv 0) qs_nil))))) (qw_or (qt_cmp op_neA (od_ne hU) (q_toP (q_ix ix_any od_ix (qp 0) (q_toP q_int) (fun _ _ => rfl))) (q_toP q_int) (nomark _)) (qw_or1 (qt_cmp op_lt od_ib0 (q_toPF (q_callB (call_minM rfl) cd_minL (by rfl) T.min bt_min (qa_P (qp 0) qa_nil))) (q_toP q_int) (nomark _)))))) (qss_one (qs_raise (fun _ _ h => h) mCC qCC (q_toP q_str))) qss_nil)
      (qss_cons (qs_set 1 (q_toD (q_bin op_sub od_ii0 (q_toPF (q_callB call_lenK cd_len (by rfl) T.len bt_len (qa_P (qp 0) qa_nil))) (q_toP q_int))) sc_hby.nd)
      (qss_cons (qs_set 2 (q_toD (q_comp ["size", "count", "high"] [none, none, some 1] (qi_enumL (by rfl) T.enumerate (qp 0)) (fun cl ex s3 H3 C => ⟨(qg_tup rfl (qg_cons 0 (qg_cons 1 qg_nil nd_hby1 rfl (Or.inl rfl) (Or.inr rfl)) nd_hby1 rfl (Or.inl rfl) (Or.inr rfl))), qts_nil, (q_toD (q_bin op_mulD od_mul (qp 1) (q_toP (q_call G2 (hr.mono (by decide)) (by rfl) m2 k2 b2 passA (qs_v (q_toD (q_bin op_sub od_ii0 (qp 2) (qp 0))) qs_nil)))))⟩))) sc_hby.nd)
      (qss_one (qs_retF (q_comp ["many", "through"] [none, some 2] (qi_rng1 (by rfl) T.range (q_toPF (q_bin op_addD od_add (qp 1) (q_toP q_int)))) (fun cl ex s3 H3 C => ⟨(qg_name 0 nd_hby2 rfl (Or.inl rfl) (Or.inr rfl)), qts_nil, (q_call G3 (hr.mono (by decide)) (by rfl) m3 k3 b3 passA (qs_v (qv 1) (qs_v (qv 0) qs_nil)))⟩)))))), fun args R EX h => ?_⟩
    obtain ⟨d, rfl, hX, hR⟩ := h
    refine ⟨_, rfl, ?_⟩
    cases hn : isNs d with
    | false =>
      refine hX ?_
      cases d <;> first | rfl | skip
      show (isNs _ && _) = false
      rw [hn]; rfl
    | true =>
      obtain ⟨c, rfl, c1, c2⟩ := ns_ints hn
      have lc := lenI c
      have gd : ∀ s, s < c.length → (c.map PyData.int)[s]? = some (.int (c.getD s 0)) := fun s hs => by
        rw [List.getElem?_map, List.getD_eq_getElem?_getD, List.getElem?_eq_getElem hs]; rfl
      have ef : isFn (.list (c.map PyData.int)) = ((c.all fun x => decide (0 ≤ x)) && decide (c.getD 0 0 = 1)) := by
        show (isNs _ && (_ && _)) = _
        rw [hn, nn_ints, one_ints (by omega)]; rfl
      rw [ef] at hX hR
      rw [il_ints] at hR
      refine ⟨.int (c.getD 0 0), atI_nat (gd 0 (by omega)), ?_⟩
      refine ifC (fun z => hX (by rw [decide_eq_false (not_dec z)]; simp)) fun z => ?_
      have c0 : c.getD 0 0 = 1 := dec_not z
      refine minD_of c rfl (by omega) fun mm hm hle => ?_
      refine ifC (fun y => hX ?_) fun y => ?_
      · have y := of_decide_eq_true y
        rw [show (c.all fun x => decide (0 ≤ x)) = false from List.all_eq_false.mpr ⟨mm, hm, by simp; omega⟩]; rfl
      have y := of_decide_eq_false y
      have hR := hR (by rw [decide_eq_true c0, List.all_eq_true.mpr fun x hx => decide_eq_true (by have := hle x hx; omega)]; rfl)
      show CompR _ _ _ _ _ _
      refine cm_map (fun d => match d with | .tuple [.int s, .int x] => .int (x * fctI (c.length - 1 - s.toNat)) | _ => .none) (fun d hd k2 hk => ?_) ?_
      · obtain ⟨s, hs⟩ := List.mem_iff_getElem?.mp hd
        obtain ⟨e, he, rfl⟩ := enum_get hs
        have sl : s < c.length := by rw [← lc]; exact (List.getElem?_eq_some_iff.mp he).1
        rw [gd s sl] at he
        cases he
        have fo := fct_ok (show c.length - 1 - s ≤ 12 by omega)
        have hk : k2 (.int (c.getD s 0 * fctI (c.length - 1 - ((s : Int)).toNat))) := hk
        rw [show c.length - 1 - ((s : Int)).toNat = c.length - 1 - s by omega] at hk
        refine ⟨rfl, _, rfl, by omega, by omega, .inl (.inr ?_), ?_⟩
        · rw [show ((((c.map PyData.int).length : Nat) : Int) - 1 - (s : Int)).toNat = c.length - 1 - s by omega]
          exact ⟨by omega, by omega⟩
        · rw [show ((((c.map PyData.int).length : Nat) : Int) - 1 - (s : Int)).toNat = c.length - 1 - s by omega]
          exact hk
      · have et : (enumD (c.map PyData.int)).map (fun d => match d with | .tuple [.int s, .int x] => PyData.int (x * fctI (c.length - 1 - s.toNat)) | _ => .none) = (thrI c).map PyData.int := by
          unfold enumD thrI
          rw [List.map_map, List.map_map, lc]
          refine List.map_congr_left fun s hs => ?_
          have hs := List.mem_range.mp hs
          have e1 : (c.map PyData.int).getD s .none = .int (c.getD s 0) := by rw [List.getD_eq_getElem?_getD, gd s (by omega)]; rfl
          show (match PyData.tuple [.int (s : Int), (c.map PyData.int).getD s .none] with | .tuple [.int s, .int x] => PyData.int (x * fctI (c.length - 1 - s.toNat)) | _ => .none) = _
          rw [e1]
          show PyData.int (c.getD s 0 * fctI (c.length - 1 - ((s : Int)).toNat)) = _
          rw [show c.length - 1 - ((s : Int)).toNat = c.length - 1 - s by omega]
          rfl
        rw [et]
        have tl : (thrI c).length = c.length := by unfold thrI; rw [List.length_map, List.length_range]
        refine ⟨⟨by omega, by omega⟩, cm_map (fun d => match d with | .int m => .int (hatI (thrI c) m.toNat) | _ => .none) (fun d hd k2 hk => ?_) ?_⟩
        · obtain ⟨m, hm⟩ := List.mem_iff_getElem?.mp hd
          obtain ⟨hm2, rfl⟩ := rng_get hm
          have hk : k2 (.int (hatI (thrI c) (0 + (m : Int)).toNat)) := hk
          rw [show (0 + (m : Int)).toNat = m by omega] at hk
          exact ⟨_, m, by rw [show (0 : Int) + (m : Int) = (m : Int) by omega], by omega, by omega, hk⟩
        · have er : (rngD 0 ((((c.map PyData.int).length : Nat) : Int) - 1 + 1).toNat).map (fun d => match d with | .int m => PyData.int (hatI (thrI c) m.toNat) | _ => .none) = (hitsI c).map PyData.int := by
            rw [show ((((c.map PyData.int).length : Nat) : Int) - 1 + 1).toNat = c.length by omega]
            unfold rngD hitsI
            rw [List.map_map, List.map_map]
            refine List.map_congr_left fun m _ => ?_
            show PyData.int (hatI (thrI c) (0 + (m : Int)).toNat) = _
            rw [show (0 + (m : Int)).toNat = m by omega]; rfl
          rw [er]
          exact hR
theorem nd_cby1 : (["many", "number", "size"] : List Str).Nodup := by decide +kernel
theorem sc_cby : FnScope ["hits", "high", "told", "size", "through", "count", "over"] ["hits"] (defScope sCBy) := ⟨rfl, rfl, rfl, by decide +kernel, rfl, by decide +kernel, by decide +kernel⟩
theorem ok_cby {f f1 f2 f3 CH : Addr} {fd fd1 fd2 fd3 : FuncData} (F : Fun K "counts_by" "counts_by" sCBy f fd) (T : GlbA mg)
    (m1 : mg "is_numbers" = some (.ref f1)) (G1 : FnOk P w K mg base CX0 2 f1 fd1 ["thing"] (toSp false inXD)) (b1 : Binds K fd1 ["thing"] []) (k1 : PySem.W.keepIn K (.ref f1) = true)
    (m2 : mg "how_many_sets" = some (.ref f2)) (G2 : FnOk P w K mg base CX0 1 f2 fd2 ["many", "size"] (toSp false setsD)) (b2 : Binds K fd2 ["many", "size"] []) (k2 : PySem.W.keepIn K (.ref f2) = true)
    (m3 : mg "how_many_orders" = some (.ref f3)) (G3 : FnOk P w K mg base CX0 1 f3 fd3 ["many"] (toSp false ordersD)) (b3 : Binds K fd3 ["many"] []) (k3 : PySem.W.keepIn K (.ref f3) = true)
    (mCH : mg "NoHits" = some (.ref CH)) (qCH : PySem.W.excIn K CH Rx.mroV "ValueError.__new__" = true) :
    FnOk P w K mg base (Rx.CXE P w) 4 f fd ["hits"] (toSp true (cbXD CH)) := by
  refine okQE true F sc_cby (fun args R EX h => ?_) (fun cdv A outer s H E hr => ?_)
  · obtain ⟨d, rfl, _⟩ := h
    rfl
  · have hU := Room.u60 hr
    have hI := Room.i60 hr
    refine ⟨_, qss_cons (qs_if (qt_not (qt_val (q_toP (q_call G1 (hr.mono (by decide)) (by rfl) m1 k1 b1 passA (qs_v (qv 0) qs_nil))))) (qss_one (qs_raise (fun _ _ h => h) mCH qCH (q_toP q_str))) qss_nil)
      (qss_cons (qs_set 1 (q_toD (q_bin op_sub od_ii0 (q_toPF (q_callB call_lenK cd_len (by rfl) T.len bt_len (qa_P (qp 0) qa_nil))) (q_toP q_int))) sc_cby.nd)
      (qss_cons (qs_setF 2 (q_lst qa_nil) sc_cby.nd)
      (qss_cons (qs_nox (qs_for PassesOwn.never rfl (qi_rng1 (by rfl) T.range (q_toPF (q_bin op_addD od_add (qp 1) (q_toP q_int)))) (qg_name 3 sc_cby.nd rfl (by first | exact Or.inl rfl | exact Or.inr rfl))
        (qss_cons (qs_set 4 (q_toD (q_callB (call_sumI rfl) cd_sum (by rfl) T.sum bt_sum (qa_P (q_toPF (q_comp ["many", "number", "size"] [none, none, some 3] (qi_enumL (by rfl) T.enumerate (qp 0)) (fun cl ex s3 H3 C => ⟨(qg_tup rfl (qg_cons 0 (qg_cons 1 qg_nil nd_cby1 rfl (Or.inl rfl) (Or.inr rfl)) nd_cby1 rfl (Or.inl rfl) (Or.inr rfl))), qts_nil, (q_toD (q_bin op_mulD od_mul (q_toP (q_call G2 (hr.mono (by decide)) (by rfl) m2 k2 b2 passA (qs_v (qv 0) (qs_v (qv 2) qs_nil)))) (qp 1)))⟩))) qa_nil))) sc_cby.nd)
      (qss_cons (qs_asg (q_toD (q_callB call_divmodW cd_divm (by rfl) T.divmod bt_divmod (qa_P (qp 4) (qa_P (q_toP (q_call G3 (hr.mono (by decide)) (by rfl) m3 k3 b3 passA (qs_v (q_toD (q_bin op_sub od_ii0 (qp 1) (qp 3))) qs_nil))) qa_nil)))) (qg_tup rfl (qg_cons 5 (qg_cons 6 qg_nil sc_cby.nd rfl (by first | exact Or.inl rfl | exact Or.inr rfl)) sc_cby.nd rfl (by first | exact Or.inl rfl | exact Or.inr rfl))))
      (qss_cons (qs_if (qt_cmp op_neA (od_ne hU) (qp 6) (q_toP q_int) (nomark _)) (qss_one (qs_ret q_non)) qss_nil)
      (qss_one (qs_app 2 (qv 5))))))))
      (qss_one (qs_retO 2))))), fun args R EX h => ?_⟩
    obtain ⟨d, rfl, hX, hR⟩ := h
    refine ⟨_, rfl, ?_⟩
    cases hn : isNs d with
    | false => exact hX hn
    | true =>
      obtain ⟨hs, rfl, c1, c2⟩ := ns_ints hn
      have hR := hR hn
      rw [il_ints] at hR
      have lh := lenI hs
      have gd : ∀ s, s < hs.length → (hs.map PyData.int)[s]? = some (.int (hs.getD s 0)) := fun s hs' => by
        rw [List.getElem?_map, List.getD_eq_getElem?_getD, List.getElem?_eq_getElem hs']; rfl
      refine ⟨⟨by omega, by omega⟩, for_rng (fun i δ => ∃ ds x3 x4 x5 x6, δ = [.v (.list (hs.map PyData.int)), .v (.int ((((hs.map PyData.int).length : Nat) : Int) - 1)), .own ds, x3, x4, x5, x6] ∧ ds = ((List.range i).map fun i => totI hs i / fctI (hs.length - 1 - i)).map PyData.int ∧ ∀ k, k < i → totI hs k % fctI (hs.length - 1 - k) = 0) ⟨_, _, _, _, _, rfl, rfl, fun k hk => by omega⟩ ?_ ?_⟩
      · rintro i δ hi ⟨ds, x3, x4, x5, x6, rfl, rfl, hz⟩
        have hi : i < hs.length := by omega
        refine cm_map (fun d => match d with | .tuple [.int m, .int x] => .int (setI m.toNat i * x) | _ => .none) (fun d hd k2 hk => ?_) ?_
        · obtain ⟨m, hm⟩ := List.mem_iff_getElem?.mp hd
          obtain ⟨e, he2, rfl⟩ := enum_get hm
          have sl : m < hs.length := by rw [← lh]; exact (List.getElem?_eq_some_iff.mp he2).1
          rw [gd m sl] at he2
          cases he2
          have so := set_ok (m := m) (k := i) (by omega) (by omega)
          have hk : k2 (.int (setI ((m : Int)).toNat i * hs.getD m 0)) := hk
          rw [show ((m : Int)).toNat = m by omega] at hk
          refine ⟨rfl, _, _, rfl, by omega, by omega, by omega, by omega, .inl (.inl ?_), ?_⟩
          · rw [show ((m : Int)).toNat = m by omega, show (0 + (i : Int)).toNat = i by omega]
            exact ⟨by omega, by omega⟩
          · rw [show ((m : Int)).toNat = m by omega, show (0 + (i : Int)).toNat = i by omega]
            exact hk
        · have et : (enumD (hs.map PyData.int)).map (fun d => match d with | .tuple [.int m, .int x] => PyData.int (setI m.toNat i * x) | _ => .none) = ((List.range hs.length).map fun m => setI m i * hs.getD m 0).map PyData.int := by
            unfold enumD
            rw [List.map_map, List.map_map, lh]
            refine List.map_congr_left fun m hm => ?_
            have hm := List.mem_range.mp hm
            have e1 : (hs.map PyData.int).getD m .none = .int (hs.getD m 0) := by rw [List.getD_eq_getElem?_getD, gd m (by omega)]; rfl
            show (match PyData.tuple [.int (m : Int), (hs.map PyData.int).getD m .none] with | .tuple [.int m, .int x] => PyData.int (setI m.toNat i * x) | _ => .none) = _
            rw [e1]
            show PyData.int (setI ((m : Int)).toNat i * hs.getD m 0) = _
            rw [show ((m : Int)).toNat = m by omega]
            rfl
          rw [et]
          refine sumD_of _ rfl ?_
          rw [sumN_list]
          have fo := fct_ok (show hs.length - 1 - i ≤ 12 by omega)
          have ea : ((((hs.map PyData.int).length : Nat) : Int) - 1 - (0 + (i : Int))).toNat = hs.length - 1 - i := by omega
          refine ⟨_, rfl, by omega, by omega, ?_⟩
          rw [ea]
          refine ⟨⟨by omega, by omega⟩, rfl, ?_⟩
          show if (!decide (totI hs i % fctI (hs.length - 1 - i) = 0)) = true then _ else _
          refine ifC (fun z => ?_) fun z => ?_
          · have z := not_dec z
            have en : cbyI hs = none := by
              unfold cbyI
              rw [if_neg]
              intro h
              exact z (of_decide_eq_true (List.all_eq_true.mp h i (List.mem_range.mpr hi)))
            rw [en] at hR
            exact ⟨rfl, hR⟩
          · have z := dec_not z
            refine ⟨by rw [List.length_map, List.length_map, List.length_range]; omega, _, _, _, _, _, rfl, ?_, fun k hk => ?_⟩
            · rw [List.range_succ, List.map_append, List.map_append]; rfl
            · by_cases y : k = i
              · subst y; exact z
              · exact hz k (by omega)
      · rintro δ ⟨ds, x3, x4, x5, x6, rfl, rfl, hz⟩
        rw [show ((((hs.map PyData.int).length : Nat) : Int) - 1 + 1).toNat = hs.length by omega] at hz ⊢
        have en : cbyI hs = some ((List.range hs.length).map fun i => totI hs i / fctI (hs.length - 1 - i)) := by
          unfold cbyI
          rw [if_pos (List.all_eq_true.mpr fun k hk => decide_eq_true (hz k (List.mem_range.mp hk)))]
        rw [en] at hR
        exact hR
end
end Rk
namespace Rk
open PySem PySem.Spec PyProof.Rows L2 _root_.Rd
open Dl
theorem set_self : ∀ k : Fin 14, setI k k = 1 := by decide +kernel
theorem sumN_head (f : Nat → Int) : ∀ a, sumN (a + 1) f = f 0 + sumN a fun j => f (j + 1)
  | 0 => by show sumN 0 f + f 0 = f 0 + 0; show (0 : Int) + f 0 = f 0 + 0; omega
  | a + 1 => by
    show sumN (a + 1) f + f (a + 1) = f 0 + (sumN a (fun j => f (j + 1)) + f (a + 1))
    rw [sumN_head f a]; omega
theorem hits_len (c : List Int) : (hitsI c).length = c.length := by unfold hitsI; rw [List.length_map, List.length_range]
theorem hits_rec {c : List Int} (hc : c.length ≤ 13) {k : Nat} (hk : k < c.length) : (hitsI c).getD k 0 = c.getD k 0 * fctI (c.length - 1 - k) - sumN (c.length - 1 - k) fun j => setI (k + 1 + j) k * (hitsI c).getD (k + 1 + j) 0 := by
  have h := tot_hits hc hk
  rw [tot_from (by rw [hits_len]; exact hc) (by rw [hits_len]; exact hk), hits_len, show c.length - k = (c.length - 1 - k) + 1 by omega, sumN_head] at h
  have e : (hitsI c).getD (k + 0) 0 * setI (k + 0) k = (hitsI c).getD k 0 := by
    rw [Nat.add_zero, show setI k k = 1 from set_self ⟨k, by omega⟩, Int.mul_one]
  rw [e] at h
  rw [← h, show (sumN (c.length - 1 - k) fun j => setI (k + 1 + j) k * (hitsI c).getD (k + 1 + j) 0) = sumN (c.length - 1 - k) fun j => (hitsI c).getD (k + (j + 1)) 0 * setI (k + (j + 1)) k from sumN_congr fun j _ => by rw [show k + 1 + j = k + (j + 1) by omega, Int.mul_comm]]
  omega
def hPart (c : List Int) (a : Nat) : List Int := (List.range c.length).map fun j => if a ≤ j then (hitsI c).getD j 0 else 0
theorem hPart_len (c : List Int) (a : Nat) : (hPart c a).length = c.length := by unfold hPart; rw [List.length_map, List.length_range]
theorem hPart_all (c : List Int) : hPart c 0 = hitsI c := by
  refine List.ext_getElem? fun j => ?_
  unfold hPart
  rw [List.getElem?_map]
  by_cases h : j < c.length
  · rw [List.getElem?_range h, List.getElem?_eq_getElem (show j < (hitsI c).length by rw [hits_len]; exact h)]
    show some (if 0 ≤ j then _ else _) = _
    rw [if_pos (Nat.zero_le _), List.getD_eq_getElem?_getD, List.getElem?_eq_getElem (show j < (hitsI c).length by rw [hits_len]; exact h)]; rfl
  · rw [List.getElem?_eq_none (by rw [List.length_range]; omega), List.getElem?_eq_none (by rw [hits_len]; omega)]; rfl
theorem hPart_none (c : List Int) : hPart c c.length = List.replicate c.length 0 := by
  unfold hPart
  rw [List.eq_replicate_iff]
  refine ⟨by rw [List.length_map, List.length_range], fun b hb => ?_⟩
  obtain ⟨j, hj, rfl⟩ := List.mem_map.mp hb
  rw [if_neg (by have := List.mem_range.mp hj; omega)]
theorem hPart_set (c : List Int) {k : Nat} (hk : k < c.length) : (hPart c (k + 1)).set k ((hitsI c).getD k 0) = hPart c k := by
  refine List.ext_getElem? fun j => ?_
  rw [List.getElem?_set]
  unfold hPart
  rw [List.length_map, List.length_range, List.getElem?_map, List.getElem?_map]
  by_cases z : k = j
  · subst z
    rw [if_pos rfl, if_pos hk, List.getElem?_range hk]
    show _ = some (if k ≤ k then _ else _)
    rw [if_pos (Nat.le_refl _)]
  · rw [if_neg z]
    by_cases h : j < c.length
    · rw [List.getElem?_range h]
      show some (if k + 1 ≤ j then _ else _) = some (if k ≤ j then _ else _)
      by_cases y : k + 1 ≤ j
      · rw [if_pos y, if_pos (by omega)]
      · rw [if_neg y, if_neg (by omega)]
    · rw [List.getElem?_eq_none (by rw [List.length_range]; omega)]; rfl
theorem hPart_get (c : List Int) {a j : Nat} (h : j < c.length) (ha : a ≤ j) : (hPart c a)[j]? = some ((hitsI c).getD j 0) := by
  unfold hPart
  rw [List.getElem?_map, List.getElem?_range h]
  show some (if a ≤ j then _ else _) = _
  rw [if_pos ha]
theorem sgn_par : ∀ j : Nat, sgnI j = if j % 2 = 0 then 1 else -1
  | 0 => rfl
  | j + 1 => by
    show - sgnI j = _
    rw [sgn_par j]
    by_cases z : j % 2 = 0
    · rw [if_pos z, if_neg (by omega)]
    · rw [if_neg z, if_pos (by omega)]; rfl
theorem cnt_are {m : Nat} (d : PyData) : isCnt m d = (areB ((m : Int) + 1) ((m : Int) + 1) d && (match d with | .list ds => ds.all isNN && one1 ds | _ => false)) := by
  cases d <;> first | rfl | skip
  rename_i ds
  show (decide (ds.length = m + 1) && (ds.all isNN && one1 ds)) = ((decide ((m : Int) + 1 ≤ (ds.length : Int)) && (decide ((ds.length : Int) ≤ (m : Int) + 1) && ds.all isW)) && (ds.all isNN && one1 ds))
  by_cases z : ds.length = m + 1
  · rw [decide_eq_true z, decide_eq_true (show (m : Int) + 1 ≤ (ds.length : Int) by omega), decide_eq_true (show (ds.length : Int) ≤ (m : Int) + 1 by omega)]
    simp only [Bool.true_and]
    by_cases y : ds.all isNN = true
    · rw [show ds.all isW = true from List.all_eq_true.mpr fun d hd => by have := List.all_eq_true.mp y d hd; cases d <;> first | rfl | cases this]
      simp
    · rw [Bool.eq_false_iff.mpr y]; simp
  · rw [decide_eq_false z]
    by_cases y : (m : Int) + 1 ≤ (ds.length : Int)
    · rw [decide_eq_false (show ¬ (ds.length : Int) ≤ (m : Int) + 1 by omega)]; simp
    · rw [decide_eq_false y]; simp
theorem are_ints {a b : Int} {d : PyData} (h : areB a b d = true) : ∃ c : List Int, d = .list (c.map PyData.int) ∧ a ≤ c.length ∧ (c.length : Int) ≤ b := by
  cases d <;> first | (cases h; done) | skip
  rename_i ds
  have h := Bool.and_eq_true_iff.mp (show (decide (a ≤ (ds.length : Int)) && (decide ((ds.length : Int) ≤ b) && ds.all isW)) = true from h)
  have h2 := Bool.and_eq_true_iff.mp h.2
  obtain ⟨c, rfl⟩ := ints_isW h2.2
  have l1 := of_decide_eq_true h.1
  have l2 := of_decide_eq_true h2.1
  rw [lenI] at l1 l2
  exact ⟨c, rfl, l1, l2⟩
theorem min_nn {c : List Int} {mm : Int} (hm : mm ∈ c) (hle : ∀ y ∈ c, mm ≤ y) : (c.map PyData.int).all isNN = decide (0 ≤ mm) := by
  rw [nn_ints]
  by_cases z : 0 ≤ mm
  · rw [decide_eq_true z, List.all_eq_true.mpr fun x hx => decide_eq_true (by have := hle x hx; omega)]
  · rw [decide_eq_false z]
    exact List.all_eq_false.mpr ⟨mm, hm, by simp; omega⟩
section
variable {P : Program} {w : World} {K : PySem.W.Frag} {mg : Str → Option Value} {base : Heap}
theorem sc_lwhole : FnScope ["_law_found"] ["_law_found"] (defScope lWhole) := ⟨rfl, rfl, rfl, by decide +kernel, rfl, by decide +kernel, by decide +kernel⟩
theorem ok_lwhole {f   : Addr} {fd  : FuncData} (F : Fun K "_law_whole" "_law_whole" lWhole f fd) (T : GlbA mg) :
    FnOk P w K mg base CX0 1 f fd ["_law_found"] (toSp false wholeD) := by
  refine okQ false F sc_lwhole (fun args R EX h => ?_) (fun cdv A outer s H E hr => ?_)
  · obtain ⟨d, rfl, _⟩ := h
    rfl
  · have hU := Room.u60 hr
    have hI := Room.i60 hr
    refine ⟨_, qss_one (qs_ret (q_and (q_toPF (q_inst .int (by rfl) T.isinstance (qp 0) (by rfl) T.int bt_int)) (q_one (q_not (q_toPF (q_inst .bool (by rfl) T.isinstance (qp 0) (by rfl) T.bool bt_bool)))))), fun args R EX h => ?_⟩
    obtain ⟨d, rfl, hR⟩ := h
    cases d <;> exact hR
theorem sc_lways : FnScope ["_law_many", "_law_some", "_law_found", "_law_k"] ["_law_many", "_law_some"] (defScope lWays) := ⟨rfl, rfl, rfl, by decide +kernel, rfl, by decide +kernel, by decide +kernel⟩
theorem ok_lways {f   : Addr} {fd  : FuncData} (F : Fun K "_law_ways" "_law_ways" lWays f fd) (T : GlbA mg) :
    FnOk P w K mg base CX0 1 f fd ["_law_many", "_law_some"] (toSp false waysXD) := by
  refine okQ false F sc_lways (fun args R EX h => ?_) (fun cdv A outer s H E hr => ?_)
  · obtain ⟨m, k, rfl, _⟩ := h
    rfl
  · have hU := Room.u60 hr
    have hI := Room.i60 hr
    refine ⟨_, qss_cons (qs_set 2 q_int sc_lways.nd)
      (qss_cons (qs_for PassesOwn.never rfl (qi_rng1 (by rfl) T.range (qp 1)) (qg_name 3 sc_lways.nd rfl (by first | exact Or.inl rfl | exact Or.inr rfl))
        (qss_one (qs_set 2 (q_toD (q_bin op_fdivC od_ii (q_toPF (q_bin op_mulD od_mul (qp 2) (q_toPF (q_bin op_sub od_ii0 (qp 0) (qp 3))))) (q_toPF (q_bin op_addD od_add (qp 3) (q_toP q_int))))) sc_lways.nd)))
      (qss_one (qs_ret (q_ifE (qt_ch op_le op_le (q_toP q_int) (qp 1) (qp 0)) (qv 2) q_int)))), fun args R EX h => ?_⟩
    obtain ⟨m, k, rfl, m1, k0, k1, hR⟩ := h
    refine ⟨⟨by omega, by omega⟩, for_rng (fun i δ => ∃ x, δ = [.v (.int m), .v (.int k), .v (.int (setI m.toNat i)), x]) ⟨_, rfl⟩ ?_ ?_⟩
    · rintro i δ hi ⟨x, rfl⟩
      have := set_ok (m := m.toNat) (k := i) (by omega) (by omega)
      refine ⟨.inl (.inl ⟨by omega, by omega⟩), ⟨by omega, by omega⟩, .v (.int (0 + (i : Int))), ?_⟩
      show [Sl.v (.int m), .v (.int k), .v (.int (setI m.toNat i * (m - (0 + (i : Int))) / (0 + (i : Int) + 1))), .v (.int (0 + (i : Int)))] = _
      rw [show (0 : Int) + (i : Int) = (i : Int) by omega]
      show [Sl.v (.int m), .v (.int k), .v (.int (setI m.toNat i * (m - (i : Int)) / ((i : Int) + 1))), .v (.int (i : Int))] = [Sl.v (.int m), .v (.int k), .v (.int (setI m.toNat i * ((m.toNat : Int) - (i : Int)) / ((i : Int) + 1))), .v (.int (i : Int))]
      rw [show ((m.toNat : Nat) : Int) = m by omega]
    · rintro δ ⟨x, rfl⟩
      refine ifT (decide_eq_true k0) (ifT (decide_eq_true k1) ?_)
      exact hR
theorem sc_lord : FnScope ["_law_many", "_law_found", "_law_k"] ["_law_many"] (defScope lOrders) := ⟨rfl, rfl, rfl, by decide +kernel, rfl, by decide +kernel, by decide +kernel⟩
theorem ok_lord {f   : Addr} {fd  : FuncData} (F : Fun K "_law_orders" "_law_orders" lOrders f fd) (T : GlbA mg) :
    FnOk P w K mg base CX0 1 f fd ["_law_many"] (toSp false ordersD) := by
  refine okQ false F sc_lord (fun args R EX h => ?_) (fun cdv A outer s H E hr => ?_)
  · obtain ⟨m, rfl, _⟩ := h
    rfl
  · have hU := Room.u60 hr
    have hI := Room.i60 hr
    refine ⟨_, qss_cons (qs_set 1 q_int sc_lord.nd)
      (qss_cons (qs_for PassesOwn.never rfl (qi_rng1 (by rfl) T.range (qp 0)) (qg_name 2 sc_lord.nd rfl (by first | exact Or.inl rfl | exact Or.inr rfl))
        (qss_one (qs_set 1 (q_toD (q_bin op_mulD od_mul (qp 1) (q_toPF (q_bin op_addD od_add (qp 2) (q_toP q_int))))) sc_lord.nd)))
      (qss_one (qs_ret (qv 1)))), fun args R EX h => ?_⟩
    obtain ⟨m, rfl, h0, h1, hR⟩ := h
    refine ⟨⟨by omega, by omega⟩, for_rng (fun i δ => ∃ x, δ = [.v (.int m), .v (.int (fctI i)), x]) ⟨_, rfl⟩ ?_ ?_⟩
    · rintro i δ hi ⟨x, rfl⟩
      have := fct_ok (show i ≤ 12 by omega)
      refine ⟨.inl (.inl ⟨by omega, by omega⟩), .v (.int (0 + (i : Int))), ?_⟩
      show [Sl.v (.int m), .v (.int (fctI i * (0 + (i : Int) + 1))), .v (.int (0 + (i : Int)))] = _
      rw [show (0 : Int) + (i : Int) + 1 = (i : Int) + 1 by omega]
      rfl
    · rintro δ ⟨x, rfl⟩
      exact hR
theorem nd_are1 : (["_law_one"] : List Str).Nodup := by decide +kernel
theorem sc_are : FnScope ["_law_thing", "_law_least", "_law_most"] ["_law_thing", "_law_least", "_law_most"] (defScope lAre) := ⟨rfl, rfl, rfl, by decide +kernel, rfl, by decide +kernel, by decide +kernel⟩
theorem ok_are {f f1  : Addr} {fd fd1 : FuncData} (F : Fun K "_law_are" "_law_are" lAre f fd) (T : GlbA mg)
    (m1 : mg "_law_whole" = some (.ref f1)) (G1 : FnOk P w K mg base CX0 1 f1 fd1 ["_law_found"] (toSp false wholeD)) (b1 : Binds K fd1 ["_law_found"] []) (k1 : PySem.W.keepIn K (.ref f1) = true) :
    FnOk P w K mg base CX0 2 f fd ["_law_thing", "_law_least", "_law_most"] (toSp false areD) := by
  refine okQ false F sc_are (fun args R EX h => ?_) (fun cdv A outer s H E hr => ?_)
  · obtain ⟨d, a, b, rfl, _⟩ := h
    rfl
  · have hU := Room.u60 hr
    have hI := Room.i60 hr
    refine ⟨_, qss_cons (qs_if (q_pw (qw_or (qt_not (qt_val (q_toPF (q_inst .list (by rfl) T.isinstance (qp 0) (by rfl) T.list bt_list)))) (qw_or1 (qt_not (qt_ch op_le op_le (qp 1) (q_toPF (q_callB call_lenK cd_len (by rfl) T.len bt_len (qa_P (qp 0) qa_nil))) (qp 2)))))) (qss_one (qs_ret q_bl)) qss_nil)
      (qss_one (qs_retF (q_callB call_all (cd_all rfl) (by rfl) T.all bt_all (qa_P (q_toPF (q_comp ["_law_one"] [none] (qi_list (qp 0)) (fun cl ex s3 H3 C => ⟨(qg_name 0 nd_are1 rfl (Or.inl rfl) (Or.inr rfl)), qts_nil, (q_call G1 (hr.mono (by decide)) (by rfl) m1 k1 b1 passA (qs_v (qv 0) qs_nil))⟩))) qa_nil)))), fun args R EX h => ?_⟩
    obtain ⟨d, a, b, rfl, hR⟩ := h
    cases d with
    | list ds =>
      have e : areB a b (.list ds) = (decide (a ≤ (ds.length : Int)) && (decide ((ds.length : Int) ≤ b) && ds.all isW)) := rfl
      refine ifC (fun z => ?_) fun z => ?_
      · have z := of_decide_eq_true z
        rw [e, decide_eq_true z, Bool.true_and] at hR
        refine ifC (fun y => ?_) fun y => ?_
        · rw [decide_eq_false (not_dec y), Bool.false_and] at hR
          exact hR
        · rw [decide_eq_true (dec_not y), Bool.true_and] at hR
          refine cm_map (fun d => .bool (isW d)) (fun d hd k2 hk => ⟨_, rfl, hk⟩) (allD_of (items := ds) rfl hR)
      · have z := of_decide_eq_false z
        rw [e, decide_eq_false z, Bool.false_and] at hR
        exact hR
    | _ => exact hR
theorem sc_fine : FnScope ["_law_thing"] ["_law_thing"] (defScope lFine) := ⟨rfl, rfl, rfl, by decide +kernel, rfl, by decide +kernel, by decide +kernel⟩
theorem ok_fine {f f1  : Addr} {fd fd1 : FuncData} (F : Fun K "_law_fine" "_law_fine" lFine f fd) (T : GlbA mg)
    (m1 : mg "_law_are" = some (.ref f1)) (G1 : FnOk P w K mg base CX0 2 f1 fd1 ["_law_thing", "_law_least", "_law_most"] (toSp false areD)) (b1 : Binds K fd1 ["_law_thing", "_law_least", "_law_most"] []) (k1 : PySem.W.keepIn K (.ref f1) = true) :
    FnOk P w K mg base CX0 3 f fd ["_law_thing"] (toSp false fineD) := by
  refine okQ false F sc_fine (fun args R EX h => ?_) (fun cdv A outer s H E hr => ?_)
  · obtain ⟨d, rfl, _⟩ := h
    rfl
  · have hU := Room.u60 hr
    have hI := Room.i60 hr
    refine ⟨_, qss_one (qs_ret (q_and (q_toP (q_call G1 (hr.mono (by decide)) (by rfl) m1 k1 b1 passA (qs_v (qv 0) (qs_v q_int (qs_v q_int qs_nil))))) (q_and (q_toPF (q_cmp op_ge od_ib0 (q_toPF (q_callB (call_minM rfl) cd_minL (by rfl) T.min bt_min (qa_P (qp 0) qa_nil))) (q_toP q_int) (nomark _))) (q_one (q_toD (q_cmp op_eqA (od_eq hU) (q_toP (q_ix ix_any od_ix (qp 0) (q_toP q_int) (fun _ _ => rfl))) (q_toP q_int) (nomark _))))))), fun args R EX h => ?_⟩
    obtain ⟨d, rfl, hR⟩ := h
    refine ⟨_, _, _, rfl, ?_⟩
    cases hn : areB 2 13 d with
    | false => 
      have e : isFn d = false := by
        rw [are_ns] at hn
        cases d <;> first | rfl | skip
        show (isNs _ && _) = false
        rw [hn]; rfl
      rw [e] at hR
      exact hR
    | true =>
      obtain ⟨c, rfl, c1, c2⟩ := are_ints hn
      refine minD_of c rfl (by omega) fun mm hm hle => ?_
      have hR : R (.bool (areB 2 13 (.list (c.map PyData.int)) && ((c.map PyData.int).all isNN && one1 (c.map PyData.int)))) := by rw [are_ns]; exact hR
      rw [hn, Bool.true_and] at hR
      rw [min_nn hm hle, one_ints (by omega)] at hR
      refine and_ifK hR fun _ hR => ?_
      refine ⟨.int (c.getD 0 0), atI_nat ?_, hR⟩
      rw [List.getElem?_map, List.getD_eq_getElem?_getD, List.getElem?_eq_getElem (show 0 < c.length by omega)]; rfl
theorem sc_lrow : FnScope ["_law_high", "_law_wide", "_law_thing"] ["_law_high", "_law_wide", "_law_thing"] (defScope lRow) := ⟨rfl, rfl, rfl, by decide +kernel, rfl, by decide +kernel, by decide +kernel⟩
theorem ok_lrow {f f1  : Addr} {fd fd1 : FuncData} (F : Fun K "_law_row" "_law_row" lRow f fd) (T : GlbA mg)
    (m1 : mg "_law_are" = some (.ref f1)) (G1 : FnOk P w K mg base CX0 2 f1 fd1 ["_law_thing", "_law_least", "_law_most"] (toSp false areD)) (b1 : Binds K fd1 ["_law_thing", "_law_least", "_law_most"] []) (k1 : PySem.W.keepIn K (.ref f1) = true) :
    FnOk P w K mg base CX0 3 f fd ["_law_high", "_law_wide", "_law_thing"] (toSp false lrowD) := by
  refine okQ false F sc_lrow (fun args R EX h => ?_) (fun cdv A outer s H E hr => ?_)
  · obtain ⟨h, w, d, rfl, _⟩ := h
    rfl
  · have hU := Room.u60 hr
    have hI := Room.i60 hr
    refine ⟨_, qss_one (qs_ret (q_and (q_toP (q_call G1 (hr.mono (by decide)) (by rfl) m1 k1 b1 passA (qs_v (qv 2) (qs_v (q_toD (q_bin op_addD od_add (q_toPF (q_callB (call_min2 rfl) cd_min2 (by rfl) T.min bt_min (qa_P (qp 0) (qa_P (qp 1) qa_nil)))) (q_toP q_int))) (qs_v (q_toD (q_bin op_addD od_add (q_toPF (q_callB (call_min2 rfl) cd_min2 (by rfl) T.min bt_min (qa_P (qp 0) (qa_P (qp 1) qa_nil)))) (q_toP q_int))) qs_nil))))) (q_and (q_toPF (q_cmp op_ge od_ib0 (q_toPF (q_callB (call_minM rfl) cd_minL (by rfl) T.min bt_min (qa_P (qp 2) qa_nil))) (q_toP q_int) (nomark _))) (q_one (q_toD (q_cmp op_eqA (od_eq hU) (q_toP (q_ix ix_any od_ix (qp 2) (q_toP q_int) (fun _ _ => rfl))) (q_toP q_int) (nomark _))))))), fun args R EX h => ?_⟩
    obtain ⟨h, w, d, rfl, h1, h2, w1, w2, hR⟩ := h
    refine ⟨_, _, _, rfl, ?_⟩
    rw [show (if w < h then w else h) + 1 = (((min h w).toNat : Nat) : Int) + 1 by split <;> omega]
    rw [cnt_are] at hR
    cases hn : areB ((((min h w).toNat : Nat) : Int) + 1) ((((min h w).toNat : Nat) : Int) + 1) d with
    | false => 
      rw [hn, Bool.false_and] at hR
      exact hR
    | true =>
      obtain ⟨c, rfl, c1, c2⟩ := are_ints hn
      refine minD_of c rfl (by omega) fun mm hm hle => ?_
      rw [hn, Bool.true_and] at hR
      have hR : R (.bool ((c.map PyData.int).all isNN && one1 (c.map PyData.int))) := hR
      rw [min_nn hm hle, one_ints (by omega)] at hR
      refine and_ifK hR fun _ hR => ?_
      refine ⟨.int (c.getD 0 0), atI_nat ?_, hR⟩
      rw [List.getElem?_map, List.getD_eq_getElem?_getD, List.getElem?_eq_getElem (show 0 < c.length by omega)]; rfl
end
end Rk
namespace Rk
open PySem PySem.Spec PyProof.Rows L2 _root_.Rd
def wordsK3 : List Str := ["size", "many", "number", "stand", "hits", "counts", "place", "double", "cell", "deed", "square", "order"]
def spKind3 (K : PySem.W.Frag) (cs : List Addr) : Sp := fun vs H Q _ => ∃ (a C : Addr) (bs : List Bool) (j : Nat) (wd : Str), vs = [.ref a] ∧ H a = some (Rx.exO a C) ∧ Rx.ExC K C ∧ Paired (fun c b => PySem.W.kitOne K (.ref C) (.ref c) = some b) cs bs ∧ PySem.W.kitOne K (.ref C) (.type "ValueError") = some true ∧
  bs.countP id = 1 ∧ bs[j]? = some true ∧ (∀ m, m < j → bs[m]? = some false) ∧ wordsK3[j]? = some wd ∧ ∀ H', Same H H' → Q (.str wd) H'
structure KOk3 (K : PySem.W.Frag) (cs : List Addr) (R C : Addr) (wd : Str) : Prop where
  by_ : Rx.ByC K C R
  ex : ∃ (bs : List Bool) (j : Nat), Rx.ExC K C ∧ Paired (fun c b => PySem.W.kitOne K (.ref C) (.ref c) = some b) cs bs ∧ PySem.W.kitOne K (.ref C) (.type "ValueError") = some true ∧ bs.countP id = 1 ∧ bs[j]? = some true ∧ (∀ m, m < j → bs[m]? = some false) ∧ wordsK3[j]? = some wd
theorem handled3 {K : PySem.W.Frag} {cs : List Addr} {R C : Addr} {wd : Str} (o : KOk3 K cs R C wd) {H1 : Hp} {Q : VK} {σ : L2.St} {i : Nat} (hi : i < σ.length) (k : ∀ H', Same H1 H' → Q (.str wd) H') :
    Rx.ByC K C R ∧ ∀ a, H1 a = none → (tCons (tVar i) tNil) (σ.set i (some (.ref a))) (upd H1 a (Rx.exO a C)) fun vs H2 => spKind3 K cs vs H2 Q E0 := by
  refine ⟨o.by_, fun a ha => ?_⟩
  obtain ⟨bs, j, hx, pb, eV, hc, hj, hm, hw⟩ := o.ex
  exact ⟨_, List.getElem?_set_self hi, a, C, bs, j, wd, rfl, upd_same, hx, pb, eV, hc, hj, hm, hw, fun H2 s2 => k H2 ((same_upd ha).trans s2)⟩
section
variable {P : Program} {w : World} {K : PySem.W.Frag} {mg : Str → Option Value} {base : Heap}
theorem scKind : FnScope ["_law_e", "_law_some", "_law_words"] ["_law_e"] (defScope lWord) := ⟨rfl, rfl, rfl, by decide +kernel, rfl, by decide +kernel, by decide +kernel⟩
theorem ok_word {f c1 c2 c3 c4 c5 c6 c7 c8 c9 c10 c11 c12 : Addr} {fd : FuncData} (F : Fun K "_law_word" "_law_word" lWord f fd) (T : GlbA mg) (mV : mg "ValueError" = none)
    (m1 : mg "NoSize" = some (.ref c1)) (m2 : mg "TooMany" = some (.ref c2)) (m3 : mg "NoNumber" = some (.ref c3)) (m4 : mg "NoStand" = some (.ref c4)) (m5 : mg "NoHits" = some (.ref c5)) (m6 : mg "NoCounts" = some (.ref c6)) (m7 : mg "NoPlace" = some (.ref c7)) (m8 : mg "Double" = some (.ref c8)) (m9 : mg "NoCell" = some (.ref c9)) (m10 : mg "NoDeed" = some (.ref c10)) (m11 : mg "NotSquare" = some (.ref c11)) (m12 : mg "NoOrder" = some (.ref c12)) :
    Rx.FnM P w K mg base 1 f fd ["_law_e"] (spKind3 K [c1, c2, c3, c4, c5, c6, c7, c8, c9, c10, c11, c12]) := by
  refine Rx.okM F scKind (fun vs H Q E h => ?_) (fun cdv A outer s H vs Q E hr h => ?_)
  · obtain ⟨a, C, bs, j, wd, rfl, _⟩ := h
    rfl
  · obtain ⟨a, C, bs, j, wd, rfl, ha, hc, pb, eV, hcnt, hj, hm, hw, k⟩ := h
    refine' ⟨_, pss_cons (ps_set (i := 1) scKind.nd rfl (Or.inl rfl) (pe_lstW (pa_isx (x := "_law_e") (ns := ["NoSize", "TooMany", "NoNumber", "NoStand"]) (cs := [c1, c2, c3, c4]) rfl (Or.inl rfl) (by decide) (by decide) (by rfl) T.isinstance (by decide +kernel) (by rfl) (.cons m1 (.cons m2 (.cons m3 (.cons m4 .nil))))))) ?p1, ?rd⟩
    case p1 =>
      show PSs _ _ _
      refine' pss_cons (ps_set (i := 1) scKind.nd rfl (Or.inl rfl) (pe_op op_catW (pv 1) (pe_lstW (pa_isx (x := "_law_e") (ns := ["NoHits", "NoCounts", "NoPlace", "Double"]) (cs := [c5, c6, c7, c8]) rfl (Or.inl rfl) (by decide) (by decide) (by rfl) T.isinstance (by decide +kernel) (by rfl) (.cons m5 (.cons m6 (.cons m7 (.cons m8 .nil)))))))) ?_
      show PSs _ _ _
      refine' pss_cons (ps_set (i := 1) scKind.nd rfl (Or.inl rfl) (pe_op op_catW (pv 1) (pe_lstW (pa_isx (x := "_law_e") (ns := ["NoCell", "NoDeed", "NotSquare", "NoOrder"]) (cs := [c9, c10, c11, c12]) rfl (Or.inl rfl) (by decide) (by decide) (by rfl) T.isinstance (by decide +kernel) (by rfl) (.cons m9 (.cons m10 (.cons m11 (.cons m12 .nil)))))))) ?_
      show PSs _ _ _
      refine' pss_cons (ps_if (pw_or (pt_cmpR op_ne (pe_bm PySem.F.plainAttrs_list PySem.F.slot_list_count PySem.F.type_list_count Rx.mt_count (pv 1) (pa_cons pe_bl pa_nil)) pe_int (nomark _)) (pw_or1 (pt_not (pt_val (pe_callB Rx.call_isEx (by rfl) T.isinstance bt_isinstance (pa_cons (pv 0) (pa_cons (pe_bltn (v := .ty "ValueError") (by rfl) mV bt_ve rfl) pa_nil))))))).pt (pss_one (ps_ret pe_str)) pss_nil) ?_
      show PSs _ _ _
      refine' pss_cons ?a1 ?_
      case a1 =>
        refine' ps_set (i := 2) (hs := ?hh) (hf := ?hf) ?hN ?hi ?hx ?he
        case hN => exact scKind.nd
        case hi => exact rfl
        case hx => exact Or.inl rfl
        case hf => exact Or.inl rfl
        case hh => kernel_rfl
        case he =>
          refine' pe_lstW ?ww
          case ww => exact pa_strs (ws := wordsK3) (by kernel_rfl)
      show PSs _ _ _
      exact pss_one (ps_ret (pe_ix ix_list (pv 2) (pe_bm PySem.F.plainAttrs_list PySem.F.slot_list_index PySem.F.type_list_index Rx.mt_index (pv 1) (pa_cons pe_bl pa_nil)) (fun _ _ => rfl)))
    obtain ⟨b1, bs1, rfl, q1, pb1⟩ := paired_cons pb
    obtain ⟨b2, bs2, rfl, q2, pb2⟩ := paired_cons pb1
    obtain ⟨b3, bs3, rfl, q3, pb3⟩ := paired_cons pb2
    obtain ⟨b4, bs4, rfl, q4, pb4⟩ := paired_cons pb3
    obtain ⟨b5, bs5, rfl, q5, pb5⟩ := paired_cons pb4
    obtain ⟨b6, bs6, rfl, q6, pb6⟩ := paired_cons pb5
    obtain ⟨b7, bs7, rfl, q7, pb7⟩ := paired_cons pb6
    obtain ⟨b8, bs8, rfl, q8, pb8⟩ := paired_cons pb7
    obtain ⟨b9, bs9, rfl, q9, pb9⟩ := paired_cons pb8
    obtain ⟨b10, bs10, rfl, q10, pb10⟩ := paired_cons pb9
    obtain ⟨b11, bs11, rfl, q11, pb11⟩ := paired_cons pb10
    obtain ⟨b12, bs12, rfl, q12, pb12⟩ := paired_cons pb11
    cases paired_nil pb12
    refine ⟨a, C, [b1, b2, b3, b4], rfl, ha, hc, (.cons q1 (.cons q2 (.cons q3 (.cons q4 .nil)))), by show 4 ≤ 1000; decide, fun l1 H1 s1 n1 e_1 => ?_⟩
    have h1 := s1 _ _ ha
    refine ⟨_, rfl, a, C, [b5, b6, b7, b8], rfl, h1, hc, (.cons q5 (.cons q6 (.cons q7 (.cons q8 .nil)))), by show 4 ≤ 1000; decide, fun l2 H2 s2 n2 e_2 => ⟨l1, l2, _, _, rfl, rfl, s2 _ _ e_1, e_2, by show 8 ≤ 1000; decide, fun l3 H3 s3 n3 e_3 => ?_⟩⟩
    have h3 := s3 _ _ (s2 _ _ h1)
    refine ⟨_, rfl, a, C, [b9, b10, b11, b12], rfl, h3, hc, (.cons q9 (.cons q10 (.cons q11 (.cons q12 .nil)))), by show 4 ≤ 1000; decide, fun l4 H4 s4 n4 e_4 => ⟨l3, l4, _, _, rfl, rfl, s4 _ _ e_3, e_4, by show 12 ≤ 1000; decide, fun l5 H5 s5 n5 e_5 => ?_⟩⟩
    have h5 := s5 _ _ (s4 _ _ h3)
    have S := ((((s1.trans s2).trans s3).trans s4).trans s5)
    have EL : H5 l5 = some (.lst (([b1, b2, b3, b4, b5, b6, b7, b8, b9, b10, b11, b12] : List Bool).map V.bl)) := e_5
    refine ⟨_, rfl, .inl ⟨rfl, _, SqL.of EL⟩, l5, _, rfl, rfl, EL, rfl, _, rfl, ?_⟩
    rw [hcnt]
    refine iteNS rfl ?_
    refine ⟨_, rfl, a, C, .ty "ValueError", .type "ValueError", true, rfl, h5, hc, (fun u r => r), eV, _, rfl, ?_⟩
    refine ⟨by show 12 ≤ 1000; decide, fun l10 H10 s10 n10 e_10 => ?_⟩
    have EL2 := s10 _ _ EL
    refine ⟨_, rfl, _, rfl, .inl ⟨rfl, _, SqL.of EL2⟩, l5, _, j, rfl, rfl, EL2, hj, hm, ?_⟩
    have EW : H10 l10 = some (.lst (wordsK3.map V.str)) := e_10
    exact ⟨l10, _, _, .str wd, rfl, rfl, SqL.of EW, atI_nat (by rw [List.getElem?_map, hw]; rfl), k H10 (S.trans s10)⟩
end
end Rk
namespace Rk
open PySem PySem.Spec PyProof.Rows L2 _root_.Rd
open Dl
theorem sz_f {a b : PyData} (h : sized a b = false) (x : Int → Int → PyData) : szD a b x = .str "size" := by
  cases a <;> cases b <;> first | rfl | exact if_neg (by rw [h]; decide)
theorem sz_t {h w : Int} (h1 : 1 ≤ h) (h2 : h ≤ 12) (w1 : 1 ≤ w) (w2 : w ≤ 12) (x : Int → Int → PyData) : szD (.int h) (.int w) x = x h w :=
  if_pos (by unfold sized; rw [inW_t h1 h2, inW_t w1 w2]; rfl)
section
variable {P : Program} {w : World} {K : PySem.W.Frag} {mg : Str → Option Value} {base : Heap}
theorem sc_told : FnScope ["_law_way", "_law_numbers", "_law_high", "_law_wide", "_law_e"] ["_law_way", "_law_numbers", "_law_high", "_law_wide"] (defScope lTold) := ⟨rfl, rfl, rfl, by decide +kernel, rfl, by decide +kernel, by decide +kernel⟩
theorem ok_told {f f1 f2 f3 f4 f5 f6  : Addr} {fd fd1 fd2 fd3 fd4 fd5 fd6 : FuncData} {CS CC CH : Addr} (F : Fun K "_law_told" "_law_told" lTold f fd) (T : GlbA mg)
    (m1 : mg "hits_by" = some (.ref f1)) (G1 : FnOk P w K mg base (Rx.CXE P w) 4 f1 fd1 ["counts"] (toSp true (hbXD CC))) (b1 : Binds K fd1 ["counts"] []) (k1 : PySem.W.keepIn K (.ref f1) = true)
    (m2 : mg "counts_by" = some (.ref f2)) (G2 : FnOk P w K mg base (Rx.CXE P w) 4 f2 fd2 ["hits"] (toSp true (cbXD CH))) (b2 : Binds K fd2 ["hits"] []) (k2 : PySem.W.keepIn K (.ref f2) = true)
    (m3 : mg "is_counts" = some (.ref f3)) (G3 : FnOk P w K mg base (Rx.CXE P w) 4 f3 fd3 ["high", "wide", "thing"] (toSp false (cntXD CS))) (b3 : Binds K fd3 ["high", "wide", "thing"] []) (k3 : PySem.W.keepIn K (.ref f3) = true)
    (m4 : mg "rest_counts" = some (.ref f4)) (G4 : FnOk P w K mg base (Rx.CXE P w) 5 f4 fd4 ["high", "wide", "counts"] (toSp true (restXD CS CC))) (b4 : Binds K fd4 ["high", "wide", "counts"] []) (k4 : PySem.W.keepIn K (.ref f4) = true)
    (m5 : mg "rests_well" = some (.ref f5)) (G5 : FnOk P w K mg base (Rx.CXE P w) 6 f5 fd5 ["high", "wide", "counts"] (toSp false (wellXD CS CC))) (b5 : Binds K fd5 ["high", "wide", "counts"] []) (k5 : PySem.W.keepIn K (.ref f5) = true)
    (m6 : mg "full_counts" = some (.ref f6)) (G6 : FnOk P w K mg base (Rx.CXE P w) 4 f6 fd6 ["high", "wide"] (toSp true (fullsXD CS))) (b6 : Binds K fd6 ["high", "wide"] []) (k6 : PySem.W.keepIn K (.ref f6) = true)
    {fK R : Addr} {cs : List Addr} {fdK : FuncData} (mK : mg "_law_word" = some (.ref fK)) (GK : Rx.FnM P w K mg base 1 fK fdK ["_law_e"] (spKind3 K cs)) (bK : Binds K fdK ["_law_e"] []) (kK : PySem.W.keepIn K (.ref fK) = true) (mR : mg "RookError" = some (.ref R)) (oS : KOk3 K cs R CS "size") (oC : KOk3 K cs R CC "counts") (oH : KOk3 K cs R CH "hits") :
    FnOk P w K mg base CX0 7 f fd ["_law_way", "_law_numbers", "_law_high", "_law_wide"] (toSp true toldXD) := by
  refine okQ true F sc_told (fun args R EX h => ?_) (fun cdv A outer s H E hr => ?_)
  · obtain ⟨way, d, a, b, rfl, _⟩ := h
    rfl
  · have hU := Room.u60 hr
    have hI := Room.i60 hr
    refine ⟨_, qss_one (qs_try (i := 4) (ks := fun C wd => KOk3 K cs R C wd) (sxs_cons (sx_if (qt_cmp op_lt od_ib0 (qp 0) (q_toP q_int) (nomark _)) (sxs_one (sx_retF (x_callLF (fs_cons f1 (hbXD CC) (by rfl) m1 (fs_cons f2 (cbXD CH) (by rfl) m2 fs_nil)) (al_cons ⟨_, _, _, G1, hr.mono (by decide), k1, b1⟩ (al_cons ⟨_, _, _, G2, hr.mono (by decide), k2, b2⟩ al_nil)) (qp 0) (qs_v (qv 1) qs_nil)))) sxs_nil) (sxs_cons (sx_if (qt_cmp op_eqA (od_eq hU) (qp 0) (q_toP q_int) (nomark _)) (sxs_one (sx_ret (x_call G3 (hr.mono (by decide)) (by rfl) m3 k3 b3 (qs_v (qv 2) (qs_v (qv 3) (qs_v (qv 1) qs_nil)))))) sxs_nil) (sxs_cons (sx_if (qt_cmp op_lt od_ib0 (qp 0) (q_toP q_int) (nomark _)) (sxs_one (sx_retF (x_callLF (fs_cons f4 (restXD CS CC) (by rfl) m4 (fs_cons f5 (flD (wellXD CS CC)) (by rfl) m5 fs_nil)) (al_cons ⟨_, _, _, G4, hr.mono (by decide), k4, b4⟩ (al_cons ⟨_, _, _, G5.frl, hr.mono (by decide), k5, b5⟩ al_nil)) (q_toPF (q_bin op_sub od_ii0 (qp 0) (q_toP q_int))) (qs_v (qv 2) (qs_v (qv 3) (qs_v (qv 1) qs_nil)))))) sxs_nil) (sxs_one (sx_retF (x_callF G6 (hr.mono (by decide)) (by rfl) m6 k6 b6 (qs_v (qv 2) (qs_v (qv 3) qs_nil)))))))) sc_told.nd mR (qh_call GK (hr.mono (by decide)) mK kK bK) (fun o => handled3 o)), fun args R EX h => ?_⟩
    obtain ⟨way, d, a, b, rfl, w5, hR⟩ := h
    have hw : way = 0 ∨ way = 1 ∨ way = 2 ∨ way = 3 ∨ way = 4 ∨ way = 5 := by omega
    rcases hw with rfl | rfl | rfl | rfl | rfl | rfl
    · refine ⟨_, atI_nat (j := 0) rfl, _, rfl, fun hf => ⟨"counts", oC, by decide +kernel, rfl, ?_⟩, fun hf => ?_⟩
      · have e : toldV 0 d a b = .str "counts" := if_neg (by rw [hf]; decide)
        rw [e] at hR; exact hR
      · have e : toldV 0 d a b = .list ((hitsI (ilD d)).map PyData.int) := if_pos hf
        rw [e] at hR; exact hR
    · refine ⟨_, atI_nat (j := 1) rfl, _, rfl, fun hf => ⟨"hits", oH, by decide +kernel, rfl, ?_⟩, fun hf => ?_⟩
      · have e : toldV 1 d a b = .str "hits" := if_neg (by rw [hf]; decide)
        rw [e] at hR; exact hR
      · have e : toldV 1 d a b = optL (cbyI (ilD d)) := if_pos hf
        rw [e] at hR; exact hR
    · refine ⟨rfl, _, _, _, rfl, fun h w ea eb h1 h2 w1 w2 => ⟨rfl, ?_⟩, fun hs => ⟨"size", oS, by decide +kernel, rfl, ?_⟩⟩
      · subst ea eb
        have e : toldV 2 d (.int h) (.int w) = .bool (isCnt (min h w).toNat d) := sz_t h1 h2 w1 w2 (fun h w => .bool (isCnt (min h w).toNat d))
        rw [e] at hR; exact hR
      · have e : toldV 2 d a b = .str "size" := sz_f hs (fun h w => .bool (isCnt (min h w).toNat d))
        rw [e] at hR; exact hR
    · refine ⟨rfl, rfl, _, atI_nat (j := 0) rfl, _, _, _, rfl, fun hs => ⟨"size", oS, by decide +kernel, rfl, ?_⟩, fun h w ea eb h1 h2 w1 w2 hc => ⟨"counts", oC, by decide +kernel, rfl, ?_⟩, fun h w c ea eb h1 h2 w1 w2 hc ed => ?_⟩
      · have e : toldV 3 d a b = .str "size" := sz_f hs (fun h w => if isCnt (min h w).toNat d = true then .list ((rcI h.toNat w.toNat (ilD d)).map PyData.int) else .str "counts")
        rw [e] at hR; exact hR
      · subst ea eb
        have e : toldV 3 d (.int h) (.int w) = .str "counts" := (sz_t h1 h2 w1 w2 (fun h w => if isCnt (min h w).toNat d = true then .list ((rcI h.toNat w.toNat (ilD d)).map PyData.int) else .str "counts")).trans (if_neg (by rw [hc]; decide))
        rw [e] at hR; exact hR
      · subst ea eb ed
        have e : toldV 3 (.list (c.map PyData.int)) (.int h) (.int w) = .list ((rcI h.toNat w.toNat c).map PyData.int) := (sz_t h1 h2 w1 w2 (fun h w => if isCnt (min h w).toNat (.list (c.map PyData.int)) = true then .list ((rcI h.toNat w.toNat (ilD (.list (c.map PyData.int)))).map PyData.int) else .str "counts")).trans ((if_pos hc).trans (by rw [il_ints]))
        rw [e] at hR; exact hR
    · refine ⟨rfl, rfl, _, atI_nat (j := 1) rfl, _, _, _, rfl, fun hs => ⟨"size", oS, by decide +kernel, rfl, ?_⟩, fun h w ea eb h1 h2 w1 w2 hc => ⟨"counts", oC, by decide +kernel, rfl, ?_⟩, fun h w c ea eb h1 h2 w1 w2 hc ed => ⟨rfl, ?_⟩⟩
      · have e : toldV 4 d a b = .str "size" := sz_f hs (fun h w => if isCnt (min h w).toNat d = true then .bool (isCnt (min h w).toNat (.list ((rcI h.toNat w.toNat (ilD d)).map PyData.int))) else .str "counts")
        rw [e] at hR; exact hR
      · subst ea eb
        have e : toldV 4 d (.int h) (.int w) = .str "counts" := (sz_t h1 h2 w1 w2 (fun h w => if isCnt (min h w).toNat d = true then .bool (isCnt (min h w).toNat (.list ((rcI h.toNat w.toNat (ilD d)).map PyData.int))) else .str "counts")).trans (if_neg (by rw [hc]; decide))
        rw [e] at hR; exact hR
      · subst ea eb ed
        have e : toldV 4 (.list (c.map PyData.int)) (.int h) (.int w) = .bool (isCnt (min h w).toNat (.list ((rcI h.toNat w.toNat c).map PyData.int))) := (sz_t h1 h2 w1 w2 (fun h w => if isCnt (min h w).toNat (.list (c.map PyData.int)) = true then .bool (isCnt (min h w).toNat (.list ((rcI h.toNat w.toNat (ilD (.list (c.map PyData.int)))).map PyData.int))) else .str "counts")).trans ((if_pos hc).trans (by rw [il_ints]))
        rw [e] at hR; exact hR
    · refine ⟨rfl, rfl, rfl, _, _, rfl, fun hs => ⟨"size", oS, by decide +kernel, rfl, ?_⟩, fun h w ea eb h1 h2 w1 w2 => ?_⟩
      · have e : toldV 5 d a b = .str "size" := sz_f hs (fun h w => .list ((fullsI h.toNat w.toNat).map PyData.int))
        rw [e] at hR; exact hR
      · subst ea eb
        have e : toldV 5 d (.int h) (.int w) = .list ((fullsI h.toNat w.toNat).map PyData.int) := sz_t h1 h2 w1 w2 (fun h w => .list ((fullsI h.toNat w.toNat).map PyData.int))
        rw [e] at hR; exact hR
end
end Rk
namespace Rk
open PySem PySem.Spec PyProof.Rows L2 _root_.Rd
open Dl
theorem il_len {d : PyData} (h : isNs d = true) : (ilD d).length ≤ 13 := by
  obtain ⟨c, rfl, c1, c2⟩ := ns_ints h
  rw [il_ints]; exact c2
theorem fn_ns {d : PyData} (h : isFn d = true) : isNs d = true := by
  cases d <;> first | (cases h; done) | skip
  exact (Bool.and_eq_true_iff.mp h).1
theorem cby_len {c l : List Int} (h : cbyI c = some l) : l.length = c.length := by
  unfold cbyI at h
  split at h
  · cases h; rw [List.length_map, List.length_range]
  · cases h
theorem rc_len (h w : Nat) (c : List Int) : (rcI h w c).length = c.length := by unfold rcI; rw [List.length_map, List.length_range]
theorem sz_list {a b : PyData} {x : Int → Int → PyData} {ds : List PyData} (h : szD a b x = .list ds) : ∃ h w : Int, a = .int h ∧ b = .int w ∧ 1 ≤ h ∧ h ≤ 12 ∧ 1 ≤ w ∧ w ≤ 12 ∧ x h w = .list ds := by
  cases a <;> first | (cases h; done) | skip
  cases b <;> first | (cases h; done) | skip
  rename_i h1 w1
  have h : (if sized (.int h1) (.int w1) = true then x h1 w1 else .str "size") = .list ds := h
  split at h
  · rename_i z
    have z := Bool.and_eq_true_iff.mp (show (inW (.int h1) 1 12 && inW (.int w1) 1 12) = true from z)
    obtain ⟨_, e1, a1, a2⟩ := inW_e z.1
    obtain ⟨_, e2, b1, b2⟩ := inW_e z.2
    cases e1; cases e2
    exact ⟨h1, w1, rfl, rfl, a1, a2, b1, b2, h⟩
  · cases h
theorem fulls_len13 {h w : Nat} (h1 : h ≤ 12) : (fullsI h w).length ≤ 13 := by unfold fullsI; rw [List.length_map, List.length_range]; omega
theorem cnt_il {m : Nat} {d : PyData} (h : isCnt m d = true) : (ilD d).length = m + 1 := by
  obtain ⟨c, rfl, cl, _⟩ := cnt_ints h
  rw [il_ints]; exact cl
theorem told_len {way : Nat} {d a b : PyData} {ds : List PyData} (h : toldV way d a b = .list ds) : ds.length ≤ 13 := by
  unfold toldV at h
  split at h
  · split at h
    · rename_i z
      cases h
      rw [List.length_map, hits_len]; exact il_len (fn_ns z)
    · cases h
  · split at h
    · rename_i z
      cases e : cbyI (ilD d) with
      | none => rw [e] at h; cases h
      | some l => rw [e] at h; cases h; rw [List.length_map, cby_len e]; exact il_len z
    · cases h
  · obtain ⟨h1, w1, _, _, _, _, _, _, e⟩ := sz_list h
    cases e
  · obtain ⟨h1, w1, _, _, a1, a2, b1, b2, e⟩ := sz_list h
    split at e
    · rename_i z
      cases e
      rw [List.length_map, rc_len, cnt_il z]; omega
    · cases e
  · obtain ⟨h1, w1, _, _, a1, a2, b1, b2, e⟩ := sz_list h
    split at e <;> cases e
  · obtain ⟨h1, w1, _, _, a1, a2, b1, b2, e⟩ := sz_list h
    cases e
    rw [List.length_map]
    exact fulls_len13 (by omega)
section
variable {P : Program} {w : World} {K : PySem.W.Frag} {mg : Str → Option Value} {base : Heap}
theorem sc_asked : FnScope ["_law_way", "_law_numbers", "_law_high", "_law_wide", "_law_due", "_law_kept", "_law_lap", "_law_found"] ["_law_way", "_law_numbers", "_law_high", "_law_wide", "_law_due"] (defScope lAsked) := ⟨rfl, rfl, rfl, by decide +kernel, rfl, by decide +kernel, by decide +kernel⟩
theorem ok_asked {f f1  : Addr} {fd fd1 : FuncData} (mr : mg "repr" = none) (F : Fun K "_law_asked" "_law_asked" lAsked f fd) (T : GlbA mg)
    (m1 : mg "_law_told" = some (.ref f1)) (G1 : FnOk P w K mg base CX0 7 f1 fd1 ["_law_way", "_law_numbers", "_law_high", "_law_wide"] (toSp true toldXD)) (b1 : Binds K fd1 ["_law_way", "_law_numbers", "_law_high", "_law_wide"] []) (k1 : PySem.W.keepIn K (.ref f1) = true) :
    FnOk P w K mg base CX0 8 f fd ["_law_way", "_law_numbers", "_law_high", "_law_wide", "_law_due"] (toSp false askedD) := by
  refine okQ false F sc_asked (fun args R EX h => ?_) (fun cdv A outer s H E hr => ?_)
  · obtain ⟨way, d, a, b, rfl, _⟩ := h
    rfl
  · have hU := Room.u60 hr
    have hI := Room.i60 hr
    refine ⟨_, qss_cons (qs_set 5 (q_toD (q_callB (call_repr hr.gd hr.units) cd_repr (by rfl) mr bt_repr (qa_P (qp 1) qa_nil))) sc_asked.nd)
      (qss_cons (qs_for PassesOwn.never rfl (qi_rng1 (by rfl) T.range (q_toP q_int)) (qg_name 6 sc_asked.nd rfl (by first | exact Or.inl rfl | exact Or.inr rfl))
        (qss_cons (qs_setX 7 (q_callF G1 (hr.mono (by decide)) (by rfl) m1 k1 b1 passA (qs_v (qv 0) (qs_v (qv 1) (qs_v (qv 2) (qs_v (qv 3) qs_nil))))) sc_asked.nd)
      (qss_cons (qs_if (q_pw (qw_or (qt_cmp op_neA (od_ne hU) (q_toPF (q_callB (call_repr hr.gd hr.units) cd_repr (by rfl) mr bt_repr (qa_P (qp 7) qa_nil))) (q_toPF (q_callB (call_repr hr.gd hr.units) cd_repr (by rfl) mr bt_repr (qa_P (qp 4) qa_nil))) (nomark _)) (qw_or1 (qt_cmp op_neA (od_ne hU) (q_toPF (q_callB (call_repr hr.gd hr.units) cd_repr (by rfl) mr bt_repr (qa_P (qp 1) qa_nil))) (qp 5) (nomark _))))) (qss_one (qs_ret q_bl)) qss_nil)
      (qss_one (qs_if (qt_val (q_toPF (q_inst .list (by rfl) T.isinstance (qp 7) (by rfl) T.list bt_list))) (qss_one (qs_app 7 q_int)) qss_nil)))))
      (qss_one (qs_ret q_bl))), fun args R EX h => ?_⟩
    obtain ⟨way, d, a, b, rfl, w5, r1, r2, hR⟩ := h
    obtain ⟨t, ht⟩ : ∃ t, toldV way d a b = t := ⟨_, rfl⟩
    rw [ht] at r2 ⊢
    refine ⟨r1, ⟨by decide, by decide⟩, for_rng (fun i δ => ∃ x6 x7, δ = [.v (.int (way : Int)), .v d, .v a, .v b, .v t, .v (.str d.shown), x6, x7]) ⟨_, _, rfl⟩ ?_ ?_⟩
    · rintro i δ hi ⟨x6, x7, rfl⟩
      refine ⟨way, d, a, b, rfl, w5, ?_⟩
      rw [ht]
      have sm : ∀ x : Str, (!decide (x = x)) = false := fun x => by simp
      cases t with
      | list ds =>
        refine ⟨r2, r2, ?_⟩
        refine ifF (sm _) ?_
        refine ⟨r1, ?_⟩
        refine ifF (sm _) ?_
        exact ⟨Nat.lt_of_le_of_lt (told_len ht) (by decide), _, _, rfl⟩
      | none =>
        refine ⟨r2, r2, r1, ?_⟩
        refine ifF (sm _) ?_
        exact ⟨_, _, rfl⟩
      | _ =>
        refine ⟨r2, r2, ?_⟩
        refine ifF (sm _) ?_
        refine ⟨r1, ?_⟩
        refine ifF (sm _) ?_
        exact ⟨_, _, rfl⟩
    · rintro δ ⟨x6, x7, rfl⟩
      exact hR
end
end Rk
namespace Rk
open PySem PySem.Spec PyProof.Rows L2 _root_.Rd Dl
def Tx (n : Nat) (t : Str) : Prop := PyData.canLay0 (.str t) = true ∧ t.length ≤ n
theorem tx_app {n m : Nat} {a b : Str} (h : Tx n a) (k : Tx m b) : Tx (n + m) (a ++ b) := by
  refine ⟨?_, by rw [strLen_append]; have := h.2; have := k.2; omega⟩
  have h1 : a.cps.all (fun c => decide (c < 0x110000)) = true := h.1
  have k1 : b.cps.all (fun c => decide (c < 0x110000)) = true := k.1
  show (a.cps ++ b.cps).all (fun c => decide (c < 0x110000)) = true
  rw [Array.all_append, h1, k1]; rfl
theorem tx_le {n m : Nat} {a : Str} (h : Tx n a) (k : n ≤ m) : Tx m a := ⟨h.1, Nat.le_trans h.2 k⟩
theorem tx_of (s : String) : Tx s.length (Str.ofString s) := by
  rw [Str.ofString_eq_toList]
  refine ⟨?_, ?_⟩
  · show (s.toList.map Char.toNat).toArray.all (fun c => decide (c < 0x110000)) = true
    rw [List.all_toArray, List.all_eq_true]
    intro c hc
    obtain ⟨x, _, rfl⟩ := List.mem_map.mp hc
    have v : x.toNat.isValidChar := x.valid
    exact decide_eq_true (by rcases v with v | v <;> omega)
  · show (s.toList.map Char.toNat).toArray.size ≤ s.length
    rw [List.size_toArray, List.length_map]
    exact Nat.le_of_eq (by first | rfl | exact String.length_toList | simp)
theorem tx_from {L : Nat} : ∀ (ts : List Str) (k : Nat) (acc : Str) (n : Nat), Tx n acc → (∀ t ∈ ts, Tx L t) → Tx (n + ts.length * (L + 2)) (textFrom k acc ts)
  | [], k, acc, n, h, _ => by show Tx (n + 0 * _) acc; rw [Nat.zero_mul]; exact h
  | t :: ts, k, acc, n, h, g => by
    show Tx _ (textFrom (k + 1) (acc ++ (if k > 0 then ", " else "" : String) ++ t) ts)
    have h2 : Tx 2 ((if k > 0 then ", " else "" : String) : Str) := by
      split
      · exact tx_of ", "
      · exact tx_le (tx_of "") (by decide)
    have := tx_from ts (k + 1) _ _ (tx_app (tx_app h h2) (g t (.head _))) fun u hu => g u (.tail _ hu)
    refine tx_le this ?_
    rw [List.length_cons, Nat.add_mul, Nat.one_mul]; omega
theorem tx_list {L n : Nat} {ts : List Str} (h : ∀ t ∈ ts, Tx L t) (hn : ts.length ≤ n) : Tx (n * (L + 2) + 2) (listText ts) := by
  have := tx_app (tx_from ts 0 ("[" : String) 1 (tx_of "[") h) (tx_of "]")
  refine tx_le this ?_
  have := Nat.mul_le_mul_right (L + 2) hn
  show 1 + _ + 1 ≤ _
  omega
theorem tx_join {L : Nat} : ∀ ts : List Str, (∀ t ∈ ts, Tx L t) → Tx (ts.length * (L + 2)) (Str.join ((", " : String) : Str) ts)
  | [], _ => ⟨by decide +kernel, Nat.zero_le _⟩
  | [x], h => tx_le (h x (.head _)) (by show _ ≤ 1 * _; omega)
  | x :: y :: r, h => by
    have := tx_app (tx_app (h x (.head _)) (tx_of ", ")) (tx_join (y :: r) fun t ht => h t (.tail _ ht))
    refine tx_le this ?_
    show L + 2 + (r.length + 1) * (L + 2) ≤ (r.length + 1 + 1) * (L + 2)
    rw [Nat.add_mul (r.length + 1)]; omega
theorem tx_tup {L n : Nat} {ts : List Str} (h : ∀ t ∈ ts, Tx L t) (hn : ts.length ≤ n) : Tx (n * (L + 2) + 3) (tupleText ts) := by
  unfold tupleText
  have h2 : Tx 2 ((if ts.length == 1 then ",)" else ")" : String) : Str) := by
    split
    · exact tx_of ",)"
    · exact tx_le (tx_of ")") (by decide)
  have := tx_app (tx_app (tx_of "(") (tx_join ts h)) h2
  refine tx_le this ?_
  have := Nat.mul_le_mul_right (L + 2) hn
  show 1 + _ + 2 ≤ _
  omega
structure Sh (L p : Nat) (d : PyData) : Prop where
  sh : d.showable = true
  rp : rpOk d = true
  dep : d.depth ≤ p
  tx : Tx L d.shown
theorem Sh.ok {L p : Nat} {d : PyData} (h : Sh L p d) (h1 : L ≤ 1000000) (h2 : p ≤ 60) : rOk d := ⟨h.sh, h.rp, Nat.le_trans h.tx.2 (Nat.le_trans h1 (by decide)), Nat.le_trans h.dep h2, h.tx.1⟩
theorem Sh.le {L p L' p' : Nat} {d : PyData} (h : Sh L p d) (h1 : L ≤ L') (h2 : p ≤ p') : Sh L' p' d := ⟨h.sh, h.rp, Nat.le_trans h.dep h2, tx_le h.tx h1⟩
theorem shown_all : ∀ ds : List PyData, PyData.shownAll ds = ds.map PyData.shown
  | [] => rfl
  | d :: ds => by show _ :: _ = _; rw [shown_all ds]; rfl
theorem sh_all {L p : Nat} : ∀ {ds : List PyData}, (∀ d ∈ ds, Sh L p d) → PyData.showableAll ds = true ∧ rpAll ds = true ∧ PyData.depthAll ds ≤ p
  | [], _ => ⟨rfl, rfl, Nat.zero_le _⟩
  | d :: ds, h => by
    obtain ⟨a, b, c⟩ := sh_all fun x hx => h x (.tail _ hx)
    have := h d (.head _)
    refine ⟨by simp [PyData.showableAll, this.sh, a], by simp [rpAll, this.rp, b], ?_⟩
    simp only [PyData.depthAll]
    exact Nat.max_le.mpr ⟨this.dep, c⟩
theorem sh_list {L p n : Nat} {ds : List PyData} (h : ∀ d ∈ ds, Sh L p d) (hn : ds.length ≤ n) : Sh (n * (L + 2) + 2) (p + 1) (.list ds) := by
  obtain ⟨a, b, c⟩ := sh_all h
  refine ⟨by simp only [PyData.showable]; exact a, by simp only [rpOk]; exact b, by simp only [PyData.depth]; omega, ?_⟩
  simp only [PyData.shown]
  rw [shown_all]
  exact tx_list (fun t ht => by obtain ⟨d, hd, rfl⟩ := List.mem_map.mp ht; exact (h d hd).tx) (by rw [List.length_map]; exact hn)
theorem sh_tup {L p n : Nat} {ds : List PyData} (h : ∀ d ∈ ds, Sh L p d) (hn : ds.length ≤ n) : Sh (n * (L + 2) + 3) (p + 1) (.tuple ds) := by
  obtain ⟨a, b, c⟩ := sh_all h
  refine ⟨by simp only [PyData.showable]; exact a, by simp only [rpOk]; exact b, by simp only [PyData.depth]; omega, ?_⟩
  simp only [PyData.shown]
  rw [shown_all]
  exact tx_tup (fun t ht => by obtain ⟨d, hd, rfl⟩ := List.mem_map.mp ht; exact (h d hd).tx) (by rw [List.length_map]; exact hn)
theorem sh_int {i : Int} {k : Nat} (h : i.natAbs < 2 ^ k) (hk : 0 < k) (hk2 : k ≤ 1900) : Sh (k + 1) 0 (.int i) := by
  have lg : i.natAbs.log2 < k := by
    by_cases z : i.natAbs = 0
    · rw [z]; exact hk
    · exact (Nat.log2_lt z).mpr h
  refine ⟨?_, rfl, Nat.le_refl _, ?_⟩
  · simp only [PyData.showable]; exact decide_eq_true (by omega)
  · simp only [PyData.shown]
    exact tx_le (tx_of _) (int_text_length_le hk lg)
theorem sh_bool (b : Bool) : Sh 5 0 (.bool b) := by cases b <;> exact ⟨rfl, rfl, Nat.le_refl _, by decide +kernel, by decide +kernel⟩
theorem sh_none : Sh 5 0 .none := ⟨rfl, rfl, Nat.le_refl _, by decide +kernel, by decide +kernel⟩
theorem sh_dct : Sh 5 1 (.dict []) := ⟨rfl, rfl, by decide +kernel, by decide +kernel, by decide +kernel⟩
theorem sh_words : ∀ x ∈ (["1", "size", "counts", "hits"] : List Str), Sh 20 0 (.str x) := by
  intro x hx
  simp only [List.mem_cons, List.not_mem_nil, or_false] at hx
  rcases hx with rfl | rfl | rfl | rfl <;> exact ⟨rfl, rfl, Nat.le_refl _, by decide +kernel, by decide +kernel⟩
end Rk
namespace Rk
open PySem PySem.Spec PyProof.Rows L2 _root_.Rd
open Dl
theorem cnt_ns {m : Nat} {d : PyData} (h : isCnt m d = true) (h1 : 1 ≤ m) (h2 : m ≤ 12) : isNs d = true := by
  obtain ⟨c, rfl, cl, _⟩ := cnt_ints h
  exact ns_of (by omega) (by omega)
theorem five {d a b x0 x1 x2 x3 x4 : PyData} (e0 : toldV 0 d a b = x0) (e1 : toldV 1 d a b = x1) (e2 : toldV 2 d a b = x2) (e3 : toldV 3 d a b = x3) (e4 : toldV 4 d a b = x4) : ∀ k, k < 5 → [x0, x1, x2, x3, x4][k]? = some (toldV k d a b) := by
  intro k hk
  have hw : k = 0 ∨ k = 1 ∨ k = 2 ∨ k = 3 ∨ k = 4 := by omega
  rcases hw with rfl | rfl | rfl | rfl | rfl
  · rw [e0]; rfl
  · rw [e1]; rfl
  · rw [e2]; rfl
  · rw [e3]; rfl
  · rw [e4]; rfl
theorem t0_f {d a b : PyData} (h : isFn d = false) : toldV 0 d a b = .str "counts" := if_neg (by rw [h]; decide)
theorem t0_t {d a b : PyData} (h : isFn d = true) : toldV 0 d a b = .list ((hitsI (ilD d)).map PyData.int) := if_pos h
theorem t1_f {d a b : PyData} (h : isNs d = false) : toldV 1 d a b = .str "hits" := if_neg (by rw [h]; decide)
theorem t1_t {d a b : PyData} (h : isNs d = true) : toldV 1 d a b = optL (cbyI (ilD d)) := if_pos h
section
variable {h w : Int} (h1 : 1 ≤ h) (h2 : h ≤ 12) (w1 : 1 ≤ w) (w2 : w ≤ 12) (d : PyData)
include h1 h2 w1 w2
theorem t2 : toldV 2 d (.int h) (.int w) = .bool (isCnt (min h w).toNat d) := sz_t h1 h2 w1 w2 (fun h w => .bool (isCnt (min h w).toNat d))
theorem t3_f (hc : isCnt (min h w).toNat d = false) : toldV 3 d (.int h) (.int w) = .str "counts" := (sz_t h1 h2 w1 w2 (fun h w => if isCnt (min h w).toNat d = true then .list ((rcI h.toNat w.toNat (ilD d)).map PyData.int) else .str "counts")).trans (if_neg (by rw [hc]; decide))
theorem t3_t (hc : isCnt (min h w).toNat d = true) : toldV 3 d (.int h) (.int w) = .list ((rcI h.toNat w.toNat (ilD d)).map PyData.int) := (sz_t h1 h2 w1 w2 (fun h w => if isCnt (min h w).toNat d = true then .list ((rcI h.toNat w.toNat (ilD d)).map PyData.int) else .str "counts")).trans (if_pos hc)
theorem t4_f (hc : isCnt (min h w).toNat d = false) : toldV 4 d (.int h) (.int w) = .str "counts" := (sz_t h1 h2 w1 w2 (fun h w => if isCnt (min h w).toNat d = true then .bool (isCnt (min h w).toNat (.list ((rcI h.toNat w.toNat (ilD d)).map PyData.int))) else .str "counts")).trans (if_neg (by rw [hc]; decide))
theorem t4_t (hc : isCnt (min h w).toNat d = true) : toldV 4 d (.int h) (.int w) = .bool (isCnt (min h w).toNat (.list ((rcI h.toNat w.toNat (ilD d)).map PyData.int))) := (sz_t h1 h2 w1 w2 (fun h w => if isCnt (min h w).toNat d = true then .bool (isCnt (min h w).toNat (.list ((rcI h.toNat w.toNat (ilD d)).map PyData.int))) else .str "counts")).trans (if_pos hc)
end
section
variable {P : Program} {w : World} {K : PySem.W.Frag} {mg : Str → Option Value} {base : Heap}
theorem sc_right : FnScope ["_law_numbers", "_law_high", "_law_wide", "_law_dues", "_law_way"] ["_law_numbers", "_law_high", "_law_wide"] (defScope lRight) := ⟨rfl, rfl, rfl, by decide +kernel, rfl, by decide +kernel, by decide +kernel⟩
theorem ok_right {f f1 f2 f3 f4 f5 f6 f7  : Addr} {fd fd1 fd2 fd3 fd4 fd5 fd6 fd7 : FuncData} (F : Fun K "_law_right" "_law_right" lRight f fd) (T : GlbA mg)
    (m1 : mg "_law_fine" = some (.ref f1)) (G1 : FnOk P w K mg base CX0 3 f1 fd1 ["_law_thing"] (toSp false fineD)) (b1 : Binds K fd1 ["_law_thing"] []) (k1 : PySem.W.keepIn K (.ref f1) = true)
    (m2 : mg "_law_hits" = some (.ref f2)) (G2 : FnOk P w K mg base CX0 2 f2 fd2 ["_law_numbers"] (toSp true lhitsD)) (b2 : Binds K fd2 ["_law_numbers"] []) (k2 : PySem.W.keepIn K (.ref f2) = true)
    (m3 : mg "_law_are" = some (.ref f3)) (G3 : FnOk P w K mg base CX0 2 f3 fd3 ["_law_thing", "_law_least", "_law_most"] (toSp false areD)) (b3 : Binds K fd3 ["_law_thing", "_law_least", "_law_most"] []) (k3 : PySem.W.keepIn K (.ref f3) = true)
    (m4 : mg "_law_counts" = some (.ref f4)) (G4 : FnOk P w K mg base CX0 2 f4 fd4 ["_law_hits_here"] (toSp true lcntsD)) (b4 : Binds K fd4 ["_law_hits_here"] []) (k4 : PySem.W.keepIn K (.ref f4) = true)
    (m5 : mg "_law_row" = some (.ref f5)) (G5 : FnOk P w K mg base CX0 3 f5 fd5 ["_law_high", "_law_wide", "_law_thing"] (toSp false lrowD)) (b5 : Binds K fd5 ["_law_high", "_law_wide", "_law_thing"] []) (k5 : PySem.W.keepIn K (.ref f5) = true)
    (m6 : mg "_law_rest" = some (.ref f6)) (G6 : FnOk P w K mg base CX0 2 f6 fd6 ["_law_high", "_law_wide", "_law_numbers"] (toSp true lrestD)) (b6 : Binds K fd6 ["_law_high", "_law_wide", "_law_numbers"] []) (k6 : PySem.W.keepIn K (.ref f6) = true)
    (m7 : mg "_law_asked" = some (.ref f7)) (G7 : FnOk P w K mg base CX0 8 f7 fd7 ["_law_way", "_law_numbers", "_law_high", "_law_wide", "_law_due"] (toSp false askedD)) (b7 : Binds K fd7 ["_law_way", "_law_numbers", "_law_high", "_law_wide", "_law_due"] []) (k7 : PySem.W.keepIn K (.ref f7) = true) :
    FnOk P w K mg base CX0 9 f fd ["_law_numbers", "_law_high", "_law_wide"] (toSp false rightD) := by
  refine okQ false F sc_right (fun args R EX h => ?_) (fun cdv A outer s H E hr => ?_)
  · obtain ⟨h, w, d, rfl, _⟩ := h
    rfl
  · have hU := Room.u60 hr
    have hI := Room.i60 hr
    refine ⟨_, qss_cons (qs_setF 3 (q_lst (qa_D q_str (qa_D q_str (qa_D q_bl (qa_D q_str (qa_D q_str qa_nil)))))) sc_right.nd)
      (qss_cons (qs_if (qt_val (q_toP (q_call G1 (hr.mono (by decide)) (by rfl) m1 k1 b1 passA (qs_v (qv 0) qs_nil)))) (qss_one (qs_put 3 (q_toD (q_callF G2 (hr.mono (by decide)) (by rfl) m2 k2 b2 passA (qs_v (qv 0) qs_nil))) (q_toP q_int))) qss_nil)
      (qss_cons (qs_if (qt_val (q_toP (q_call G3 (hr.mono (by decide)) (by rfl) m3 k3 b3 passA (qs_v (qv 0) (qs_v q_int (qs_v q_int qs_nil)))))) (qss_one (qs_put 3 (q_toD (q_callF G4 (hr.mono (by decide)) (by rfl) m4 k4 b4 passA (qs_v (qv 0) qs_nil))) (q_toP q_int))) qss_nil)
      (qss_cons (qs_if (qt_val (q_toP (q_call G5 (hr.mono (by decide)) (by rfl) m5 k5 b5 passA (qs_v (qv 1) (qs_v (qv 2) (qs_v (qv 0) qs_nil)))))) (qss_cons (qs_swap 3 (q_toD (q_tup (qa_D q_bl (qa_D (q_toD (q_callF G6 (hr.mono (by decide)) (by rfl) m6 k6 b6 passA (qs_v (qv 1) (qs_v (qv 2) (qs_v (qv 0) qs_nil))))) qa_nil)))) (q_toP q_int) (q_toP q_int))
      (qss_one (qs_put 3 (q_call G5 (hr.mono (by decide)) (by rfl) m5 k5 b5 passA (qs_v (qv 1) (qs_v (qv 2) (qs_v (q_ix ix_any od_ix (qp 3) (q_toP q_int) (fun _ _ => rfl)) qs_nil)))) (q_toP q_int)))) qss_nil)
      (qss_cons (qs_for PassesOwn.never rfl (qi_rng1 (by rfl) T.range (q_toP q_int)) (qg_name 4 sc_right.nd rfl (by first | exact Or.inl rfl | exact Or.inr rfl))
        (qss_one (qs_if (qt_not (qt_val (q_toP (q_call G7 (hr.mono (by decide)) (by rfl) m7 k7 b7 passA (qs_v (qv 4) (qs_v (qv 0) (qs_v (qv 1) (qs_v (qv 2) (qs_v (q_ix ix_any od_ix (qp 3) (qp 4) (fun _ _ => rfl)) qs_nil))))))))) (qss_one (qs_ret q_bl)) qss_nil)))
      (qss_one (qs_ret q_bl)))))), fun args R EX h => ?_⟩
    obtain ⟨h, w, d, rfl, h1, h2, w1, w2, r1, r2, hR⟩ := h
    cases hn : isNs d with
    | false =>
      have hf : isFn d = false := by
        cases e : isFn d with
        | false => rfl
        | true => rw [fn_ns e] at hn; cases hn
      have hc : isCnt (min h w).toNat d = false := by
        cases e : isCnt (min h w).toNat d with
        | false => rfl
        | true => rw [cnt_ns e (by omega) (by omega)] at hn; cases hn
      refine ⟨_, rfl, ?_⟩
      rw [hf]
      refine ⟨_, _, _, rfl, ?_⟩
      rw [are_ns, hn]
      refine ⟨h, w, d, rfl, h1, h2, w1, w2, ?_⟩
      rw [hc]
      refine ⟨⟨by decide, by decide⟩, for_rng (fun i δ => ∃ dues x4, δ = [.v d, .v (.int h), .v (.int w), .own dues, x4] ∧ ∀ k, k < 5 → dues[k]? = some (toldV k d (.int h) (.int w))) ⟨_, _, rfl, five (t0_f hf) (t1_f hn) ((t2 h1 h2 w1 w2 _).trans (by rw [hc])) (t3_f h1 h2 w1 w2 _ hc) (t4_f h1 h2 w1 w2 _ hc)⟩ ?_ ?_⟩
      · rintro i δ hi ⟨dues, x4, rfl, hq⟩
        have hi : i < 5 := hi
        refine ⟨toldV i d (.int h) (.int w), ?_, i, d, .int h, .int w, ?_, by omega, r1, r2 i hi, ?_⟩
        · rw [show (0 : Int) + (i : Int) = (i : Int) by omega]
          exact atI_nat (hq i hi)
        · rw [show (0 : Int) + (i : Int) = (i : Int) by omega]
        · exact ⟨_, _, rfl, hq⟩
      · rintro δ ⟨dues, x4, rfl, hq⟩
        exact hR
    | true =>
      obtain ⟨c, rfl, c1, c2⟩ := ns_ints hn
      refine ⟨_, rfl, ?_⟩
      cases hf : isFn (.list (c.map PyData.int)) with
      | false =>
        refine ⟨_, _, _, rfl, ?_⟩
        rw [are_ns, hn]
        refine ⟨c, rfl, by omega, c2, 1, rfl, ?_⟩
        refine ⟨h, w, _, rfl, h1, h2, w1, w2, ?_⟩
        cases hc : isCnt (min h w).toNat (.list (c.map PyData.int)) with
        | false =>
          refine ⟨⟨by decide, by decide⟩, for_rng (fun i δ => ∃ dues x4, δ = [.v (.list (c.map PyData.int)), .v (.int h), .v (.int w), .own dues, x4] ∧ ∀ k, k < 5 → dues[k]? = some (toldV k (.list (c.map PyData.int)) (.int h) (.int w))) ⟨_, _, rfl, five (t0_f hf) ((t1_t hn).trans (by rw [il_ints])) ((t2 h1 h2 w1 w2 _).trans (by rw [hc])) (t3_f h1 h2 w1 w2 _ hc) (t4_f h1 h2 w1 w2 _ hc)⟩ ?_ ?_⟩
          · rintro i δ hi ⟨dues, x4, rfl, hq⟩
            have hi : i < 5 := hi
            refine ⟨toldV i (.list (c.map PyData.int)) (.int h) (.int w), ?_, i, (.list (c.map PyData.int)), .int h, .int w, ?_, by omega, r1, r2 i hi, ?_⟩
            · rw [show (0 : Int) + (i : Int) = (i : Int) by omega]
              exact atI_nat (hq i hi)
            · rw [show (0 : Int) + (i : Int) = (i : Int) by omega]
            · exact ⟨_, _, rfl, hq⟩
          · rintro δ ⟨dues, x4, rfl, hq⟩
            exact hR
        | true =>
          have cl : c.length = (min h w).toNat + 1 := by have := cnt_il hc; rw [il_ints] at this; exact this
          refine ⟨h, w, c, rfl, h1, h2, w1, w2, cl, 2, rfl, 3, rfl, ?_⟩
          refine ⟨_, atI_nat (j := 3) rfl, h, w, _, rfl, h1, h2, w1, w2, 4, rfl, ?_⟩
          refine ⟨⟨by decide, by decide⟩, for_rng (fun i δ => ∃ dues x4, δ = [.v (.list (c.map PyData.int)), .v (.int h), .v (.int w), .own dues, x4] ∧ ∀ k, k < 5 → dues[k]? = some (toldV k (.list (c.map PyData.int)) (.int h) (.int w))) ⟨_, _, rfl, five (t0_f hf) ((t1_t hn).trans (by rw [il_ints])) ((t2 h1 h2 w1 w2 _).trans (by rw [hc])) ((t3_t h1 h2 w1 w2 _ hc).trans (by rw [il_ints])) ((t4_t h1 h2 w1 w2 _ hc).trans (by rw [il_ints]))⟩ ?_ ?_⟩
          · rintro i δ hi ⟨dues, x4, rfl, hq⟩
            have hi : i < 5 := hi
            refine ⟨toldV i (.list (c.map PyData.int)) (.int h) (.int w), ?_, i, (.list (c.map PyData.int)), .int h, .int w, ?_, by omega, r1, r2 i hi, ?_⟩
            · rw [show (0 : Int) + (i : Int) = (i : Int) by omega]
              exact atI_nat (hq i hi)
            · rw [show (0 : Int) + (i : Int) = (i : Int) by omega]
            · exact ⟨_, _, rfl, hq⟩
          · rintro δ ⟨dues, x4, rfl, hq⟩
            exact hR
      | true =>
        refine ⟨c, rfl, by omega, c2, 0, rfl, ?_⟩
        refine ⟨_, _, _, rfl, ?_⟩
        rw [are_ns, hn]
        refine ⟨c, rfl, by omega, c2, 1, rfl, ?_⟩
        refine ⟨h, w, _, rfl, h1, h2, w1, w2, ?_⟩
        cases hc : isCnt (min h w).toNat (.list (c.map PyData.int)) with
        | false =>
          refine ⟨⟨by decide, by decide⟩, for_rng (fun i δ => ∃ dues x4, δ = [.v (.list (c.map PyData.int)), .v (.int h), .v (.int w), .own dues, x4] ∧ ∀ k, k < 5 → dues[k]? = some (toldV k (.list (c.map PyData.int)) (.int h) (.int w))) ⟨_, _, rfl, five ((t0_t hf).trans (by rw [il_ints])) ((t1_t hn).trans (by rw [il_ints])) ((t2 h1 h2 w1 w2 _).trans (by rw [hc])) (t3_f h1 h2 w1 w2 _ hc) (t4_f h1 h2 w1 w2 _ hc)⟩ ?_ ?_⟩
          · rintro i δ hi ⟨dues, x4, rfl, hq⟩
            have hi : i < 5 := hi
            refine ⟨toldV i (.list (c.map PyData.int)) (.int h) (.int w), ?_, i, (.list (c.map PyData.int)), .int h, .int w, ?_, by omega, r1, r2 i hi, ?_⟩
            · rw [show (0 : Int) + (i : Int) = (i : Int) by omega]
              exact atI_nat (hq i hi)
            · rw [show (0 : Int) + (i : Int) = (i : Int) by omega]
            · exact ⟨_, _, rfl, hq⟩
          · rintro δ ⟨dues, x4, rfl, hq⟩
            exact hR
        | true =>
          have cl : c.length = (min h w).toNat + 1 := by have := cnt_il hc; rw [il_ints] at this; exact this
          refine ⟨h, w, c, rfl, h1, h2, w1, w2, cl, 2, rfl, 3, rfl, ?_⟩
          refine ⟨_, atI_nat (j := 3) rfl, h, w, _, rfl, h1, h2, w1, w2, 4, rfl, ?_⟩
          refine ⟨⟨by decide, by decide⟩, for_rng (fun i δ => ∃ dues x4, δ = [.v (.list (c.map PyData.int)), .v (.int h), .v (.int w), .own dues, x4] ∧ ∀ k, k < 5 → dues[k]? = some (toldV k (.list (c.map PyData.int)) (.int h) (.int w))) ⟨_, _, rfl, five ((t0_t hf).trans (by rw [il_ints])) ((t1_t hn).trans (by rw [il_ints])) ((t2 h1 h2 w1 w2 _).trans (by rw [hc])) ((t3_t h1 h2 w1 w2 _ hc).trans (by rw [il_ints])) ((t4_t h1 h2 w1 w2 _ hc).trans (by rw [il_ints]))⟩ ?_ ?_⟩
          · rintro i δ hi ⟨dues, x4, rfl, hq⟩
            have hi : i < 5 := hi
            refine ⟨toldV i (.list (c.map PyData.int)) (.int h) (.int w), ?_, i, (.list (c.map PyData.int)), .int h, .int w, ?_, by omega, r1, r2 i hi, ?_⟩
            · rw [show (0 : Int) + (i : Int) = (i : Int) by omega]
              exact atI_nat (hq i hi)
            · rw [show (0 : Int) + (i : Int) = (i : Int) by omega]
            · exact ⟨_, _, rfl, hq⟩
          · rintro δ ⟨dues, x4, rfl, hq⟩
            exact hR
end
end Rk
namespace Rk
open PySem PySem.Spec PyProof.Rows L2 _root_.Rd Dl
theorem sum_bd {n B : Nat} {f : Nat → Int} (h : ∀ i, i < n → (f i).natAbs ≤ B) : (sumN n f).natAbs ≤ n * B := by
  induction n with
  | zero => show (0 : Int).natAbs ≤ _; simp
  | succ n ih =>
    have a := ih fun i hi => h i (by omega)
    have b := h n (by omega)
    show (sumN n f + f n).natAbs ≤ _
    have := Int.natAbs_add_le (sumN n f) (f n)
    rw [Nat.add_mul, Nat.one_mul]; omega
theorem mul_bd {a b : Int} {A B : Nat} (ha : a.natAbs ≤ A) (hb : b.natAbs ≤ B) : (a * b).natAbs ≤ A * B := by
  rw [Int.natAbs_mul]; exact Nat.mul_le_mul ha hb
theorem getD_bd {c : List Int} {B : Nat} (h : ∀ x ∈ c, x.natAbs ≤ B) (k : Nat) : (c.getD k 0).natAbs ≤ B := by
  rw [List.getD_eq_getElem?_getD]
  cases e : c[k]? with
  | none => show (0 : Int).natAbs ≤ B; simp
  | some x => exact h x (List.mem_of_getElem? e)
theorem fct_bd {k : Nat} (h : k ≤ 12) : (fctI k).natAbs ≤ 2 ^ 29 := by have := fct_ok h; omega
theorem set_bd {m k : Nat} (h : m ≤ 13) (h2 : k ≤ 13) : (setI m k).natAbs ≤ 2 ^ 11 := by have := set_ok h h2; omega
theorem hits_bd {c : List Int} {B : Nat} (hc : c.length ≤ 13) (h : ∀ x ∈ c, x.natAbs ≤ B) : ∀ x ∈ hitsI c, x.natAbs ≤ 13 * (2 ^ 64 * (B * 2 ^ 29)) := by
  intro x hx
  unfold hitsI at hx
  obtain ⟨m, hm, rfl⟩ := List.mem_map.mp hx
  have hm := List.mem_range.mp hm
  unfold hatI
  have lt : (thrI c).length = c.length := by unfold thrI; rw [List.length_map, List.length_range]
  rw [lt]
  refine Nat.le_trans (sum_bd (B := 2 ^ 64 * (B * 2 ^ 29)) fun s hs => mul_bd ?_ ?_) (Nat.mul_le_mul_right _ hc)
  · have := cof_small (m := m) (s := s) (by omega) (by omega)
    omega
  · unfold thrI
    rw [getD_map_range, if_pos hs]
    exact mul_bd (getD_bd h s) (fct_bd (by omega))
theorem cby_bd {c l : List Int} {B : Nat} (hc : c.length ≤ 13) (h : ∀ x ∈ c, x.natAbs ≤ B) (e : cbyI c = some l) : ∀ x ∈ l, x.natAbs ≤ 13 * (2 ^ 11 * B) := by
  intro x hx
  unfold cbyI at e
  split at e
  · cases e
    obtain ⟨i, hi, rfl⟩ := List.mem_map.mp hx
    have hi := List.mem_range.mp hi
    refine Nat.le_trans (Int.natAbs_ediv_le_natAbs _ _) ?_
    unfold totI
    exact Nat.le_trans (sum_bd (B := 2 ^ 11 * B) fun m hm => mul_bd (set_bd (by omega) (by omega)) (getD_bd h m)) (Nat.mul_le_mul_right _ hc)
  · cases e
theorem full_bd {h w s : Nat} (h1 : h ≤ 13) (w1 : w ≤ 13) (s1 : s ≤ 12) : (fullI h w s).natAbs ≤ 2 ^ 11 * 2 ^ 11 * 2 ^ 29 := by
  unfold fullI
  exact mul_bd (mul_bd (set_bd h1 (by omega)) (set_bd w1 (by omega))) (fct_bd s1)
theorem rc_bd {h w : Nat} {c : List Int} {B : Nat} (h1 : h ≤ 13) (w1 : w ≤ 13) (hc : c.length ≤ 13) (hb : ∀ x ∈ c, x.natAbs ≤ B) : ∀ x ∈ rcI h w c, x.natAbs ≤ 13 * (1 * B * (2 ^ 11 * 2 ^ 11 * 2 ^ 29)) := by
  intro x hx
  unfold rcI at hx
  obtain ⟨k, hk, rfl⟩ := List.mem_map.mp hx
  have hk := List.mem_range.mp hk
  unfold restAt
  refine Nat.le_trans (sum_bd (B := 1 * B * (2 ^ 11 * 2 ^ 11 * 2 ^ 29)) fun j hj => mul_bd (mul_bd ?_ (getD_bd hb j)) (full_bd (by omega) (by omega) (by omega))) (Nat.mul_le_mul_right _ (by omega))
  rcases sgn_ok j with z | z <;> rw [z] <;> decide
theorem sh_ints {l : List Int} (hl : l.length ≤ 60) (h : ∀ x ∈ l, x.natAbs ≤ 2 ^ 299) : Sh 20000 1 (.list (l.map PyData.int)) := by
  refine (sh_list (L := 301) (p := 0) (n := 60) (fun d hd => ?_) (by rw [List.length_map]; exact hl)).le (by decide) (by decide)
  obtain ⟨i, hi, rfl⟩ := List.mem_map.mp hd
  exact sh_int (k := 300) (Nat.lt_of_le_of_lt (h i hi) (by decide +kernel)) (by decide) (by decide)
theorem sh_word {x : Str} (h : x ∈ (["1", "size", "counts", "hits"] : List Str)) : Sh 20000 1 (.str x) := (sh_words x h).le (by decide) (by decide)
theorem il_mem {d : PyData} {B : Nat} (h : ∀ ds, d = .list ds → ∀ x ∈ ds, (toI x).natAbs ≤ B) : ∀ x ∈ ilD d, x.natAbs ≤ B := by
  intro x hx
  cases d <;> first | (exact absurd (show x ∈ ([] : List Int) from hx) (by simp)) | skip
  rename_i ds
  obtain ⟨y, hy, rfl⟩ := List.mem_map.mp (show x ∈ ds.map toI from hx)
  exact h ds rfl y hy
theorem told_sh {way : Nat} {d : PyData} {h w : Int} (h1 : 1 ≤ h) (h2 : h ≤ 12) (w1 : 1 ≤ w) (w2 : w ≤ 12) (hb : ∀ x ∈ ilD d, x.natAbs ≤ 2 ^ 170) (hy : way ≤ 5) : Sh 20000 1 (toldV way d (.int h) (.int w)) := by
  have big : ∀ {n : Nat}, n ≤ 13 * (2 ^ 64 * (2 ^ 170 * 2 ^ 29)) → n ≤ 2 ^ 299 := fun h => Nat.le_trans h (by decide +kernel)
  have hw : way = 0 ∨ way = 1 ∨ way = 2 ∨ way = 3 ∨ way = 4 ∨ way = 5 := by omega
  rcases hw with rfl | rfl | rfl | rfl | rfl | rfl
  · cases hf : isFn d with
    | false => rw [t0_f hf]; exact sh_word (by simp)
    | true =>
      rw [t0_t hf]
      have l := il_len (fn_ns hf)
      exact sh_ints (by rw [hits_len]; omega) fun x hx => big (hits_bd l hb x hx)
  · cases hn : isNs d with
    | false => rw [t1_f hn]; exact sh_word (by simp)
    | true =>
      rw [t1_t hn]
      have l := il_len hn
      cases e : cbyI (ilD d) with
      | none => exact sh_none.le (by decide) (by decide)
      | some l2 => exact sh_ints (by rw [cby_len e]; omega) fun x hx => big (Nat.le_trans (cby_bd l hb e x hx) (by decide +kernel))
  · rw [t2 h1 h2 w1 w2]; exact (sh_bool _).le (by decide) (by decide)
  · cases hc : isCnt (min h w).toNat d with
    | false => rw [t3_f h1 h2 w1 w2 _ hc]; exact sh_word (by simp)
    | true =>
      rw [t3_t h1 h2 w1 w2 _ hc]
      have l := cnt_il hc
      exact sh_ints (by rw [rc_len]; omega) fun x hx => big (Nat.le_trans (rc_bd (by omega) (by omega) (by omega) hb x hx) (by decide +kernel))
  · cases hc : isCnt (min h w).toNat d with
    | false => rw [t4_f h1 h2 w1 w2 _ hc]; exact sh_word (by simp)
    | true => rw [t4_t h1 h2 w1 w2 _ hc]; exact (sh_bool _).le (by decide) (by decide)
  · have e : toldV 5 d (.int h) (.int w) = .list ((fullsI h.toNat w.toNat).map PyData.int) := sz_t h1 h2 w1 w2 (fun h w => .list ((fullsI h.toNat w.toNat).map PyData.int))
    rw [e]
    refine sh_ints (by have := fulls_len13 (h := h.toNat) (w := w.toNat) (by omega); omega) fun x hx => big ?_
    unfold fullsI at hx
    obtain ⟨s, hs, rfl⟩ := List.mem_map.mp hx
    have hs := List.mem_range.mp hs
    exact Nat.le_trans (full_bd (by omega) (by omega) (by omega)) (by decide +kernel)
structure Gd (d : PyData) : Prop where
  sh : ∃ L p, Sh L p d ∧ L ≤ 1000000 ∧ p ≤ 60
  bd : ∀ x ∈ ilD d, x.natAbs ≤ 2 ^ 170
theorem Gd.ok {d : PyData} (h : Gd d) : rOk d := let ⟨_, _, s, a, b⟩ := h.sh; s.ok a b
theorem Gd.told {d : PyData} (g : Gd d) {h w : Int} (h1 : 1 ≤ h) (h2 : h ≤ 12) (w1 : 1 ≤ w) (w2 : w ≤ 12) {way : Nat} (hy : way ≤ 5) : rOk (toldV way d (.int h) (.int w)) := (told_sh h1 h2 w1 w2 g.bd hy).ok (by decide) (by decide)
structure Ao (d : PyData) : Prop where
  sh : Sh 400 2 d
  bd : (toI d).natAbs ≤ 2 ^ 170
theorem ao_int {i : Int} (h : i.natAbs ≤ 2 ^ 170) : Ao (.int i) := ⟨(sh_int (k := 171) (Nat.lt_of_le_of_lt h (by decide +kernel)) (by decide) (by decide)).le (by decide) (by decide), h⟩
theorem gd_list {ds : List PyData} (h : ∀ d ∈ ds, Ao d) (hl : ds.length ≤ 60) : Gd (.list ds) :=
  ⟨⟨_, _, sh_list (L := 400) (p := 2) (n := 60) (fun d hd => (h d hd).sh) hl, by decide, by decide⟩, il_mem fun es e x hx => by cases e; exact (h x hx).bd⟩
theorem gd_tup {ds : List PyData} (h : ∀ d ∈ ds, Ao d) (hl : ds.length ≤ 60) : Gd (.tuple ds) :=
  ⟨⟨_, _, sh_tup (L := 400) (p := 2) (n := 60) (fun d hd => (h d hd).sh) hl, by decide, by decide⟩, fun x hx => absurd (show x ∈ ([] : List Int) from hx) (by simp)⟩
theorem gd_one {ds : List PyData} (h : ∀ d ∈ ds, Ao d) (hl : ds.length ≤ 60) : Gd (.list [.list ds]) :=
  ⟨⟨_, _, sh_list (L := 60 * (400 + 2) + 2) (p := 3) (n := 1) (fun d hd => by cases hd with | head => exact sh_list (L := 400) (p := 2) (n := 60) (fun d hd => (h d hd).sh) hl | tail _ z => cases z) (Nat.le_refl _), by decide, by decide⟩, il_mem fun es e x hx => by cases e; cases hx with | head => show (0 : Int).natAbs ≤ _; simp | tail _ z => cases z⟩
theorem gd_none : Gd .none := ⟨⟨_, _, sh_none, by decide, by decide⟩, fun x hx => absurd (show x ∈ ([] : List Int) from hx) (by simp)⟩
theorem gd_str : Gd (.str "1") := ⟨⟨_, _, sh_words "1" (by simp), by decide, by decide⟩, fun x hx => absurd (show x ∈ ([] : List Int) from hx) (by simp)⟩
theorem ao_ints {c : List Int} (h : ∀ x ∈ c, x.natAbs ≤ 2 ^ 170) : ∀ d ∈ c.map PyData.int, Ao d := fun d hd => by
  obtain ⟨i, hi, rfl⟩ := List.mem_map.mp hd
  exact ao_int (h i hi)
theorem ao_bool (b : Bool) : Ao (.bool b) := ⟨(sh_bool b).le (by decide) (by decide), by show (0 : Int).natAbs ≤ _; simp⟩
theorem ao_none : Ao .none := ⟨sh_none.le (by decide) (by decide), by show (0 : Int).natAbs ≤ _; simp⟩
theorem ao_one : Ao (.str "1") := ⟨(sh_words "1" (by simp)).le (by decide) (by decide), by show (0 : Int).natAbs ≤ _; simp⟩
theorem ao_dct : Ao (.dict []) := ⟨sh_dct.le (by decide) (by decide), by show (0 : Int).natAbs ≤ _; simp⟩
theorem ao_l1 : Ao (.list [.int 1]) := ⟨(sh_list (L := 10) (p := 0) (n := 1) (fun d hd => by cases hd with | head => exact (sh_int (k := 9) (by decide) (by decide) (by decide)) | tail _ z => cases z) (Nat.le_refl _)).le (by decide) (by decide), by show (0 : Int).natAbs ≤ _; simp⟩
theorem ao_t1 : Ao (.tuple [.int 1]) := ⟨(sh_tup (L := 10) (p := 0) (n := 1) (fun d hd => by cases hd with | head => exact (sh_int (k := 9) (by decide) (by decide) (by decide)) | tail _ z => cases z) (Nat.le_refl _)).le (by decide) (by decide), by show (0 : Int).natAbs ≤ _; simp⟩
theorem cut_mem {xs : List PyData} {lo hi : Option Int} {d : PyData} (h : d ∈ Dl.cutD xs lo hi) : d ∈ xs := by
  unfold Dl.cutD at h
  exact List.mem_of_mem_drop (List.mem_of_mem_take h)
theorem big20 {c : List Int} (h : ∀ x ∈ c, x.natAbs ≤ 10 ^ 20) : ∀ x ∈ c, x.natAbs ≤ 2 ^ 170 := fun x hx => Nat.le_trans (h x hx) (by decide +kernel)
theorem fulls_bd {h w : Nat} (h1 : h ≤ 12) (w1 : w ≤ 12) : ∀ x ∈ fullsI h w, x.natAbs ≤ 2 ^ 170 := fun x hx => by
  unfold fullsI at hx
  obtain ⟨s, hs, rfl⟩ := List.mem_map.mp hx
  have hs := List.mem_range.mp hs
  exact Nat.le_trans (full_bd (by omega) (by omega) (by omega)) (by decide +kernel)
theorem things_gd {cs fl : List Int} {od : PyData} {a b : Int} (l1 : 2 ≤ cs.length) (l2 : cs.length ≤ 13) (cb : ∀ x ∈ cs, x.natAbs ≤ 10 ^ 20) (oa : Ao od) (b0 : 0 ≤ b) (b1 : b ≤ 53) (f1 : fl.length ≤ 13) (f2 : ∀ x ∈ fl, x.natAbs ≤ 2 ^ 170) :
    ∀ d ∈ ([.list (cs.map PyData.int), .list ((Dl.cutD (cs.map PyData.int) none (some a) ++ [od]) ++ Dl.cutD (cs.map PyData.int) (some (a + 1)) none), .list (cs.map PyData.int ++ [od]), .list (Dl.cutD (cs.map PyData.int) none (some (-1))), .list (Dl.cutD (cs.map PyData.int) none (some 1)), .list []] : List PyData) ++
      [.tuple (cs.map PyData.int), .list (Dl.cutD (List.replicate 54 (cs.map PyData.int)).flatten none (some b)), .list [.list (cs.map PyData.int)], .list ((hitsI cs).map PyData.int), .list (fl.map PyData.int), .none, .str "1"], Gd d := by
  have ln := lenI cs
  have ai := ao_ints (big20 cb)
  have cut : ∀ lo hi, ∀ d ∈ Dl.cutD (cs.map PyData.int) lo hi, Ao d := fun lo hi d hd => ai d (cut_mem hd)
  have cl := fun lo hi => cutD_length (cs.map PyData.int) lo hi
  have app : ∀ {xs ys : List PyData}, (∀ d ∈ xs, Ao d) → (∀ d ∈ ys, Ao d) → ∀ d ∈ xs ++ ys, Ao d := fun h k d hd => (List.mem_append.mp hd).elim (h d) (k d)
  have one : ∀ d ∈ [od], Ao d := al_cons oa al_nil
  refine al_cons (gd_list ai (by omega)) (al_cons (gd_list (app (app (cut _ _) one) (cut _ _)) ?_) (al_cons (gd_list (app ai one) ?_) (al_cons (gd_list (cut _ _) ?_) (al_cons (gd_list (cut _ _) ?_) (al_cons (gd_list al_nil (by decide)) (al_cons (gd_tup ai (by omega)) (al_cons (gd_list ?_ ?_) (al_cons (gd_one ai (by omega)) (al_cons (gd_list (ao_ints ?_) ?_) (al_cons (gd_list (ao_ints f2) ?_) (al_cons gd_none (al_cons gd_str al_nil))))))))))))
  · have c1 := cl none (some a)
    have c2 := cl (some (a + 1)) none
    rw [List.length_append, List.length_append]
    show _ + 1 + _ ≤ 60
    omega
  · rw [List.length_append]; show _ + 1 ≤ 60; omega
  · have c1 := cl none (some (-1)); omega
  · have c1 := cl none (some 1); omega
  · intro d hd
    obtain ⟨l, hl, hd⟩ := List.mem_flatten.mp (cut_mem hd)
    rw [List.eq_of_mem_replicate hl] at hd
    exact ai d hd
  · rw [cut_take _ _ b0, List.length_take]; omega
  · exact fun x hx => Nat.le_trans (hits_bd l2 cb x hx) (by decide +kernel)
  · rw [List.length_map, hits_len]; omega
  · rw [List.length_map]; omega
theorem told_size {a b : PyData} (h : sized a b = false) {way : Nat} (h1 : 2 ≤ way) (d : PyData) : toldV way d a b = .str "size" := by
  obtain ⟨k, rfl⟩ : ∃ k, way = k + 2 := ⟨way - 2, by omega⟩
  match k with
  | 0 => exact sz_f h _
  | 1 => exact sz_f h _
  | 2 => exact sz_f h _
  | k + 3 => exact sz_f h _
theorem inW_far {i : Int} (h : 12 < i) : inW (.int i) 1 12 = false := by
  show (decide (1 ≤ i) && decide (i ≤ 12)) = false
  rw [decide_eq_false (show ¬ i ≤ 12 by omega), Bool.and_false]
theorem told_5 {h w : Int} (h1 : 1 ≤ h) (h2 : h ≤ 12) (w1 : 1 ≤ w) (w2 : w ≤ 12) (d : PyData) : toldV 5 d (.int h) (.int w) = .list ((fullsI h.toNat w.toNat).map PyData.int) := sz_t h1 h2 w1 w2 (fun h w => .list ((fullsI h.toNat w.toNat).map PyData.int))
theorem gd_0 : Gd (.int 0) := ⟨⟨_, _, sh_int (k := 9) (by decide) (by decide) (by decide), by decide, by decide⟩, fun x hx => absurd (show x ∈ ([] : List Int) from hx) (by simp)⟩
end Rk
namespace Rk
open PySem PySem.Spec PyProof.Rows L2 _root_.Rd
open Dl
section
variable {P : Program} {w : World} {K : PySem.W.Frag} {mg : Str → Option Value} {base : Heap}
theorem nd_law1 : (["_law_lap", "_law_far", "_law_pot_here"] : List Str).Nodup := by decide +kernel
theorem nd_law2 : (["_law_way", "_law_numbers", "_law_two"] : List Str).Nodup := by decide +kernel
theorem sc_law : FnScope ["_law_script", "_law_k", "_law_pot_here", "_law_spoil", "_law_high", "_law_wide", "_law_many", "_law_far", "_law_at", "_law_long", "_law_numbers", "_law_odd", "_law_full", "_law_size", "_law_things", "_law_thing", "_law_off", "_law_two"] ["_law_script"] (defScope sLaw) := ⟨rfl, rfl, rfl, by decide +kernel, rfl, by decide +kernel, by decide +kernel⟩
theorem ok_law {f f1 f2 f3 f4 f5 f6 f7 f8 f9  : Addr} {fd fd1 fd2 fd3 fd4 fd5 fd6 fd7 fd8 fd9 : FuncData} (F : Fun K "law" "law" sLaw f fd) (T : GlbA mg)
    (m1 : mg "_law_cell_at" = some (.ref f1)) (G1 : FnOk P w K mg base CX0 1 f1 fd1 ["_law_script", "_law_k"] (spCellAt K)) (b1 : Binds K fd1 ["_law_script", "_law_k"] []) (k1 : PySem.W.keepIn K (.ref f1) = true)
    (m2 : mg "_law_pot" = some (.ref f2)) (G2 : FnOk P w K mg base CX0 1 f2 fd2 ["_law_cell"] (toSp true potD)) (b2 : Binds K fd2 ["_law_cell"] []) (k2 : PySem.W.keepIn K (.ref f2) = true)
    (m3 : mg "_law_take" = some (.ref f3)) (G3 : FnOk P w K mg base CX0 1 f3 fd3 ["_law_pot_here", "_law_far"] (toSp true takeD)) (b3 : Binds K fd3 ["_law_pot_here", "_law_far"] []) (k3 : PySem.W.keepIn K (.ref f3) = true)
    (m4 : mg "_law_ways" = some (.ref f4)) (G4 : FnOk P w K mg base CX0 1 f4 fd4 ["_law_many", "_law_some"] (toSp false waysXD)) (b4 : Binds K fd4 ["_law_many", "_law_some"] []) (k4 : PySem.W.keepIn K (.ref f4) = true)
    (m5 : mg "_law_orders" = some (.ref f5)) (G5 : FnOk P w K mg base CX0 1 f5 fd5 ["_law_many"] (toSp false ordersD)) (b5 : Binds K fd5 ["_law_many"] []) (k5 : PySem.W.keepIn K (.ref f5) = true)
    (m6 : mg "_law_hits" = some (.ref f6)) (G6 : FnOk P w K mg base CX0 2 f6 fd6 ["_law_numbers"] (toSp true lhitsD)) (b6 : Binds K fd6 ["_law_numbers"] []) (k6 : PySem.W.keepIn K (.ref f6) = true)
    (m7 : mg "_law_told" = some (.ref f7)) (G7 : FnOk P w K mg base CX0 7 f7 fd7 ["_law_way", "_law_numbers", "_law_high", "_law_wide"] (toSp true toldXD)) (b7 : Binds K fd7 ["_law_way", "_law_numbers", "_law_high", "_law_wide"] []) (k7 : PySem.W.keepIn K (.ref f7) = true)
    (m8 : mg "_law_asked" = some (.ref f8)) (G8 : FnOk P w K mg base CX0 8 f8 fd8 ["_law_way", "_law_numbers", "_law_high", "_law_wide", "_law_due"] (toSp false askedD)) (b8 : Binds K fd8 ["_law_way", "_law_numbers", "_law_high", "_law_wide", "_law_due"] []) (k8 : PySem.W.keepIn K (.ref f8) = true)
    (m9 : mg "_law_right" = some (.ref f9)) (G9 : FnOk P w K mg base CX0 9 f9 fd9 ["_law_numbers", "_law_high", "_law_wide"] (toSp false rightD)) (b9 : Binds K fd9 ["_law_numbers", "_law_high", "_law_wide"] []) (k9 : PySem.W.keepIn K (.ref f9) = true) :
    FnOk P w K mg base CX0 10 f fd ["_law_script"] (spLawD K) := by
  refine okQL F sc_law (fun cdv A outer s H E hr => ?_)
  have hU := Room.u60 hr
  have hI := Room.i60 hr
  refine ⟨_, qss_cons (qs_for PassesOwn.never rfl (qi_rng1 (by rfl) T.range (q_toPF (q_callB (call_max2 rfl) cd_max2I (by rfl) T.max bt_max (qa_P (q_toP q_int) (qa_P (q_toPF (q_callB (call_min2 rfl) cd_min2I (by rfl) T.min bt_min (qa_P (q_toPF (q_lenS 0 (by rfl) T.len)) (qa_P (q_toP q_int) qa_nil)))) qa_nil))))) (qg_name 1 sc_law.nd rfl (by first | exact Or.inl rfl | exact Or.inr rfl))
        (qss_cons (qs_setP 2 (q_callF G2 (hr.mono (by decide)) (by rfl) m2 k2 b2 passA (qs_v (q_toD (q_cell 0 G1 (hr.mono (by decide)) (by rfl) m1 k1 b1 (qp 1))) qs_nil)) sc_law.nd)
      (qss_cons (qs_par3 3 4 5 (qa_D (q_toD (q_callF G3 (hr.mono (by decide)) (by rfl) m3 k3 b3 passA (qs_pot 2 (qs_v q_int qs_nil)))) (qa_D (q_toD (q_bin op_addD od_add (q_toP q_int) (q_toPF (q_callF G3 (hr.mono (by decide)) (by rfl) m3 k3 b3 passA (qs_pot 2 (qs_v q_int qs_nil)))))) (qa_D (q_toD (q_bin op_addD od_add (q_toP q_int) (q_toPF (q_callF G3 (hr.mono (by decide)) (by rfl) m3 k3 b3 passA (qs_pot 2 (qs_v q_int qs_nil)))))) qa_nil))) sc_law.nd)
      (qss_cons (qs_asg (q_toD (q_tup (qa_D (q_toD (q_bin op_addD od_add (q_toP q_int) (q_toPF (q_callF G3 (hr.mono (by decide)) (by rfl) m3 k3 b3 passA (qs_pot 2 (qs_v q_int qs_nil)))))) (qa_D (q_ix ix_any od_ix (q_toPF (q_lst (qa_D q_int (qa_D q_int (qa_D (q_toD (q_bin op_pow od_ii (q_toP q_int) (q_toP q_int))) qa_nil))))) (q_toPF (q_callF G3 (hr.mono (by decide)) (by rfl) m3 k3 b3 passA (qs_pot 2 (qs_v q_int qs_nil)))) (fun _ _ => rfl)) qa_nil)))) (qg_tup rfl (qg_cons 6 (qg_cons 7 qg_nil sc_law.nd rfl (by first | exact Or.inl rfl | exact Or.inr rfl)) sc_law.nd rfl (by first | exact Or.inl rfl | exact Or.inr rfl))))
      (qss_cons (qs_if (qt_cmp op_eqA (od_eq hU) (q_toPF (q_callF G3 (hr.mono (by decide)) (by rfl) m3 k3 b3 passA (qs_pot 2 (qs_v q_int qs_nil)))) (q_toP q_int) (nomark _)) (qss_one (qs_set 6 (q_toD (q_callB (call_min2 rfl) cd_min2I (by rfl) T.min bt_min (qa_P (qp 4) (qa_P (qp 5) qa_nil)))) sc_law.nd)) qss_nil)
      (qss_cons (qs_par 8 9 (qa_D (q_toD (q_callF G3 (hr.mono (by decide)) (by rfl) m3 k3 b3 passA (qs_pot 2 (qs_v (q_toD (q_bin op_addD od_add (qp 6) (q_toP q_int))) qs_nil)))) (qa_D (q_toD (q_bin op_addD od_add (q_toP q_int) (q_toPF (q_callF G3 (hr.mono (by decide)) (by rfl) m3 k3 b3 passA (qs_pot 2 (qs_v q_int qs_nil)))))) qa_nil)) sc_law.nd)
      (qss_cons (qs_set 10 (q_toD (q_bin op_addD od_add (q_toPF (q_lst (qa_D q_int qa_nil))) (q_toPF (q_comp ["_law_lap", "_law_far", "_law_pot_here"] [none, some 7, some 2] (qi_rng1 (by rfl) T.range (qp 6)) (fun cl ex s3 H3 C => ⟨(qg_name 0 nd_law1 rfl (Or.inl rfl) (Or.inr rfl)), qts_nil, (q_toD (q_callF G3 (hr.mono (by decide)) (by rfl) m3 k3 b3 passA (qs_pot 2 (qs_v (qv 1) qs_nil))))⟩))))) sc_law.nd)
      (qss_cons (qs_set 11 (q_ix ix_any od_ix (q_toPF (q_lst (qa_D q_bl (qa_D q_bl (qa_D q_non (qa_D q_str (qa_D (q_toD (q_neg (q_toP q_int))) (qa_D (q_toD (q_bin op_sub od_ii0 (q_toP q_int) (qp 7))) (qa_D (q_toD (q_lst (qa_D q_int qa_nil))) (qa_D q_dct (qa_D (q_toD (q_tup (qa_D q_int qa_nil))) (qa_D q_int (qa_D q_int (qa_D q_int qa_nil)))))))))))))) (qp 3) (fun _ _ => rfl)) sc_law.nd)
      (qss_cons (qs_setF 12 (q_lst qa_nil) sc_law.nd)
      (qss_cons (qs_for PassesOwn.never rfl (qi_rng1 (by rfl) T.range (q_toPF (q_bin op_addD od_add (q_toPF (q_callB (call_min2 rfl) cd_min2I (by rfl) T.min bt_min (qa_P (qp 4) (qa_P (qp 5) qa_nil)))) (q_toP q_int)))) (qg_name 13 sc_law.nd rfl (by first | exact Or.inl rfl | exact Or.inr rfl))
        (qss_one (qs_app 12 (q_toD (q_bin op_mulD od_mul (q_toPF (q_bin op_mulD od_mul (q_toP (q_call G4 (hr.mono (by decide)) (by rfl) m4 k4 b4 passA (qs_v (qv 4) (qs_v (qv 13) qs_nil)))) (q_toP (q_call G4 (hr.mono (by decide)) (by rfl) m4 k4 b4 passA (qs_v (qv 5) (qs_v (qv 13) qs_nil)))))) (q_toP (q_call G5 (hr.mono (by decide)) (by rfl) m5 k5 b5 passA (qs_v (qv 13) qs_nil))))))))
      (qss_cons (qs_set 14 (q_toD (q_lst (qa_D (qv 10) (qa_D (q_toD (q_bin op_addD od_add (q_toPF (q_bin op_addD od_add (q_toPF (q_slice (qp 10) qo_none (qo_some (qp 8)))) (q_toPF (q_lst (qa_D (qv 11) qa_nil))))) (q_toPF (q_slice (qp 10) (qo_some (q_toPF (q_bin op_addD od_add (qp 8) (q_toP q_int)))) qo_none)))) (qa_D (q_toD (q_bin op_addD od_add (qp 10) (q_toPF (q_lst (qa_D (qv 11) qa_nil))))) (qa_D (q_toD (q_slice (qp 10) qo_none (qo_some (q_toPF (q_neg (q_toP q_int)))))) (qa_D (q_toD (q_slice (qp 10) qo_none (qo_some (q_toP q_int)))) (qa_D (q_toD (q_lst qa_nil)) qa_nil)))))))) sc_law.nd)
      (qss_cons (qs_dem [12] (qs_set 14 (q_toD (q_bin op_addD od_add (qp 14) (q_toPF (q_lst (qa_D (q_toD (q_callTy call_tuple_ofW cd_tuple (by rfl) T.tuple bt_tuple (qa_P (qp 10) qa_nil))) (qa_D (q_toD (q_slice (q_toPF (q_bin op_mulD od_mul (qp 10) (q_toP q_int))) qo_none (qo_some (qp 9)))) (qa_D (q_toD (q_lst (qa_D (qv 10) qa_nil))) (qa_D (q_toD (q_callF G6 (hr.mono (by decide)) (by rfl) m6 k6 b6 passA (qs_v (qv 10) qs_nil))) (qa_D (qv 12) (qa_D q_non (qa_D q_str qa_nil))))))))))) sc_law.nd))
      (qss_cons (qs_for PassesOwn.never rfl (qi_list (qv 14)) (qg_name 15 sc_law.nd rfl (by first | exact Or.inl rfl | exact Or.inr rfl))
        (qss_one (qs_if (qt_not (qt_val (q_toP (q_call G9 (hr.mono (by decide)) (by rfl) m9 k9 b9 passA (qs_v (qv 15) (qs_v (qv 4) (qs_v (qv 5) qs_nil))))))) (qss_one (qs_ret q_bl)) qss_nil)))
      (qss_cons (qs_if (qt_not (qt_val (q_toP (q_call G8 (hr.mono (by decide)) (by rfl) m8 k8 b8 passA (qs_v q_int (qs_v q_int (qs_v (qv 4) (qs_v (qv 5) (qs_v (qv 12) qs_nil))))))))) (qss_one (qs_ret q_bl)) qss_nil)
      (qss_cons (qs_set 16 (q_ix ix_any od_ix (q_toPF (q_lst (qa_D q_int (qa_D q_int (qa_D (q_toD (q_neg (q_toP q_int))) (qa_D q_bl (qa_D q_non (qa_D q_str (qa_D (q_toD (q_bin op_addD od_add (q_toP q_int) (qp 7))) (qa_D (q_toD (q_tup (qa_D q_int qa_nil))) qa_nil)))))))))) (q_toPF (q_bin op_mod od_ii (qp 3) (q_toP q_int))) (fun _ _ => rfl)) sc_law.nd)
      (qss_one (qs_for PassesOwn.never rfl (qi_list (q_toD (q_lst (qa_D (q_toD (q_tup (qa_D (qv 16) (qa_D (qv 5) qa_nil)))) (qa_D (q_toD (q_tup (qa_D (qv 4) (qa_D (qv 16) qa_nil)))) (qa_D (q_toD (q_tup (qa_D (qv 16) (qa_D (qv 16) qa_nil)))) qa_nil)))))) (qg_name 17 sc_law.nd rfl (by first | exact Or.inl rfl | exact Or.inr rfl))
        (qss_one (qs_if (qt_cmp op_neA (od_ne hU) (q_toPF (q_comp ["_law_way", "_law_numbers", "_law_two"] [none, some 10, some 17] (qi_tup (q_toPF (q_tup (qa_D q_int (qa_D q_int (qa_D q_int (qa_D q_int qa_nil))))))) (fun cl ex s3 H3 C => ⟨(qg_name 0 nd_law2 rfl (Or.inl rfl) (Or.inr rfl)), qts_nil, (q_toD (q_callF G7 (hr.mono (by decide)) (by rfl) m7 k7 b7 passA (qs_v (qv 0) (qs_v (qv 1) (qs_v (q_ix ix_any od_ix (qp 2) (q_toP q_int) (fun _ _ => rfl)) (qs_v (q_ix ix_any od_ix (qp 2) (q_toP q_int) (fun _ _ => rfl)) qs_nil))))))⟩))) (q_toPF (q_bin op_mulD od_mul (q_toPF (q_lst (qa_D q_str qa_nil))) (q_toP q_int))) (nomark _)) (qss_one (qs_ret q_bl)) qss_nil)))))))))))))))))))
      (qss_one (qs_ret q_bl)), ?_⟩
  intro n0 n63
  refine min2_of rfl (max2_of rfl ⟨⟨by split <;> split <;> omega, by split <;> split <;> omega⟩, for_rng (fun i δ => ∃ x1 x2 x3 x4 x5 x6 x7 x8 x9 x10 x11 x12 x13 x14 x15 x16 x17, δ = [.scr, x1, x2, x3, x4, x5, x6, x7, x8, x9, x10, x11, x12, x13, x14, x15, x16, x17]) ⟨_, _, _, _, _, _, _, _, _, _, _, _, _, _, _, _, _, rfl⟩ ?_ ?_⟩)
  · rintro i δ hi ⟨x1, x2, x3, x4, x5, x6, x7, x8, x9, x10, x11, x12, x13, x14, x15, x16, x17, rfl⟩
    refine ⟨by omega, fun c => ⟨c, rfl, fun n1 => ?_⟩⟩
    refine ⟨_, rfl, by decide, by decide, fun r1 r10 r11 => ⟨_, rfl, by decide, by decide, fun r2 r20 r21 => ⟨_, rfl, by decide, by decide, fun r3 r30 r31 => ?_⟩⟩⟩
    refine ⟨_, rfl, by decide, by decide, fun r4 r40 r41 => ?_⟩
    show (fun d2 => addD (PyData.int 1) d2 _) (PyData.int r4)
    refine ⟨⟨by decide, by decide, by decide⟩, ⟨_, rfl, by decide, by decide, fun r5 r50 r51 => ix_of r50 r51 fun fd hfd => ?_⟩⟩
    obtain ⟨far, rfl, f0, f1⟩ := al_cons (p := fun d => ∃ far : Int, d = .int far ∧ 3 ≤ far ∧ far ≤ 10 ^ 20) ⟨3, rfl, by decide, by decide⟩ (al_cons ⟨30, rfl, by decide, by decide⟩ (al_cons ⟨10 ^ 20, rfl, by decide, by decide⟩ al_nil)) fd hfd
    obtain ⟨h, eh⟩ : ∃ h, h = 1 + r2 := ⟨_, rfl⟩
    obtain ⟨w, ew⟩ : ∃ w, w = 1 + r3 := ⟨_, rfl⟩
    have h1 : 1 ≤ h := by omega
    have h2 : h ≤ 12 := by omega
    have w1 : 1 ≤ w := by omega
    have w2 : w ≤ 12 := by omega
    rw [← eh, ← ew]
    refine ⟨rfl, _, rfl, by decide, by decide, fun r6 r60 r61 => ifC (fun z => ?_) fun z => ?_⟩
    · obtain ⟨mn, em⟩ : ∃ mn, (if w < h then w else h) = mn := ⟨_, rfl⟩
      have m1 : 1 ≤ mn := by split at em <;> omega
      have m2 : mn ≤ 12 := by split at em <;> omega
      refine min2_of em ?_
      refine ⟨_, rfl, by omega, by omega, fun at_ a0 a1 => ⟨_, rfl, by decide, by decide, fun r7 r70 r71 => ?_⟩⟩
      refine ⟨⟨by omega, by omega⟩, cm_all (fun e => ∃ i : Int, e = .int i ∧ i.natAbs ≤ 10 ^ 20) (fun d hd k2 hk => ⟨_, rfl, by omega, Int.le_trans f1 (by decide), fun r r0 r1 => hk _ ⟨r, rfl, by omega⟩⟩) fun acc hl ha => ?_⟩
      rw [rng_len] at hl
      obtain ⟨rs, rfl, hrs⟩ := ints_of ha
      rw [List.length_map] at hl
      refine ⟨by rw [List.length_map]; show 1 + _ ≤ _; omega, ?_⟩
      obtain ⟨cs, ec⟩ : ∃ cs : List Int, cs = 1 :: rs := ⟨_, rfl⟩
      have en : [PyData.int 1] ++ rs.map PyData.int = cs.map PyData.int := by rw [ec]; rfl
      have cl : cs.length = mn.toNat + 1 := by rw [ec, List.length_cons]; omega
      have cb : ∀ x ∈ cs, x.natAbs ≤ 10 ^ 20 := by
        rw [ec]
        exact al_cons (by decide) hrs
      rw [en]
      refine ix_of r10 r11 fun od hod => ?_
      have fb : (0 - far).natAbs ≤ 2 ^ 170 := Nat.le_trans (show (0 - far).natAbs ≤ 10 ^ 20 by omega) (by decide +kernel)
      have oa := al_cons (p := Ao) (ao_bool true) (al_cons (ao_bool false) (al_cons ao_none (al_cons ao_one (al_cons (ao_int (by decide)) (al_cons (ao_int fb) (al_cons ao_l1 (al_cons ao_dct (al_cons ao_t1 (al_cons (ao_int (by decide)) (al_cons (ao_int (by decide)) (al_cons (ao_int (by decide)) al_nil))))))))))) od hod
      obtain ⟨q, eq⟩ : ∃ q, (if w < h then w else h) = q := ⟨_, rfl⟩
      have eqn : q.toNat = min h.toNat w.toNat := by split at eq <;> omega
      have q1 : 1 ≤ q := by split at eq <;> omega
      have q2 : q ≤ 12 := by split at eq <;> omega
      have q3 : q ≤ h := by split at eq <;> omega
      have q4 : q ≤ w := by split at eq <;> omega
      refine min2_of eq ⟨⟨by omega, by omega⟩, for_rng (fun s δ => ∃ x13 x14 x15 x16 x17, δ = [.scr, .v (.int (0 + (i : Int))), .pot, .v (.int r1), .v (.int h), .v (.int w), .v (.int mn), .v (.int far), .v (.int at_), .v (.int (14 + r7)), .v (.list (cs.map PyData.int)), .v od, .own (((List.range s).map (fullI h.toNat w.toNat)).map PyData.int), x13, x14, x15, x16, x17]) ⟨_, _, _, _, _, rfl⟩ ?_ ?_⟩
      · rintro s δ hs ⟨x13, x14, x15, x16, x17, rfl⟩
        have hs : s ≤ q.toNat := by omega
        have sa := set_ok (m := h.toNat) (k := s) (by omega) (by omega)
        have sb := full_small (h := h.toNat) (w := w.toNat) (s := s) (by omega) (by omega) (by omega)
        have fo := fct_ok (show s ≤ 12 by omega)
        have es : (0 + (s : Int)).toNat = s := by omega
        refine ⟨_, _, rfl, by omega, by omega, by omega, _, _, rfl, by omega, by omega, by omega, ?_⟩
        rw [es]
        refine ⟨.inl (.inl ⟨by omega, by omega⟩), _, rfl, by omega, by omega, ?_⟩
        rw [es]
        refine ⟨.inl (.inl ⟨by omega, by omega⟩), by rw [List.length_map, List.length_map, List.length_range]; omega, .v (.int (0 + (s : Int))), x14, x15, x16, x17, ?_⟩
        rw [List.range_succ, List.map_append, List.map_append]
        rfl
      · rintro δ ⟨x13, x14, x15, x16, x17, rfl⟩
        have ef : (List.range (q + 1).toNat).map (fullI h.toNat w.toNat) = fullsI h.toNat w.toNat := by
          unfold fullsI
          rw [show (q + 1).toNat = min h.toNat w.toNat + 1 by omega]
        rw [ef]
        have ln := lenI cs
        have c1 := cutD_length (cs.map PyData.int) none (some at_)
        have c2 := cutD_length (cs.map PyData.int) (some (at_ + 1)) none
        refine ⟨by show _ + 1 ≤ _; omega, by rw [List.length_append]; show _ + 1 + _ ≤ _; omega, by show _ + 1 ≤ _; omega, ?_⟩
        refine ⟨⟨by decide, by decide, by show _ * 54 ≤ _; omega⟩, cs, rfl, by omega, by omega, by show 6 + 7 ≤ _; decide, ?_⟩
        have G := things_gd (od := od) (a := at_) (b := 14 + r7) (fl := fullsI h.toNat w.toNat) (show 2 ≤ cs.length by omega) (show cs.length ≤ 13 by omega) cb oa (by omega) (by omega) (fulls_len13 (by omega)) (fulls_bd (by omega) (by omega))
        refine for_items (fun _ δ => ∃ x13 x14 x15 x16 x17, δ = [.scr, .v (.int (0 + (i : Int))), .pot, .v (.int r1), .v (.int h), .v (.int w), .v (.int mn), .v (.int far), .v (.int at_), .v (.int (14 + r7)), .v (.list (cs.map PyData.int)), .v od, .v (.list ((fullsI h.toNat w.toNat).map PyData.int)), x13, x14, x15, x16, x17]) ⟨_, _, _, _, _, rfl⟩ ?_ ?_
        · rintro j d δ hd ⟨x13, x14, x15, x16, x17, rfl⟩
          have g := G d (List.mem_of_getElem? hd)
          exact ⟨h, w, d, rfl, h1, h2, w1, w2, g.ok, fun i hi => g.told h1 h2 w1 w2 (by omega), _, _, _, _, _, rfl⟩
        · rintro δ ⟨x13, x14, x15, x16, x17, rfl⟩
          have e5 := told_5 h1 h2 w1 w2 (.int 0)
          refine ⟨5, .int 0, .int h, .int w, by rw [e5]; rfl, by decide, gd_0.ok, gd_0.told h1 h2 w1 w2 (by decide), ?_⟩
          refine ⟨show (0 : Int) < 8 by decide, ix_of (by omega) (by show _ < (8 : Int); omega) fun off hoff => ?_⟩
          have ob := al_cons (p := fun d => inW d 1 12 = false) rfl (al_cons rfl (al_cons rfl (al_cons rfl (al_cons rfl (al_cons rfl (al_cons (inW_far (by omega)) (al_cons rfl al_nil))))))) off hoff
          refine for_items (fun _ δ => ∃ x13 x14 x15 x17, δ = [.scr, .v (.int (0 + (i : Int))), .pot, .v (.int r1), .v (.int h), .v (.int w), .v (.int mn), .v (.int far), .v (.int at_), .v (.int (14 + r7)), .v (.list (cs.map PyData.int)), .v od, .v (.list ((fullsI h.toNat w.toNat).map PyData.int)), x13, x14, x15, .v off, x17]) ⟨_, _, _, _, rfl⟩ ?_ ?_
          · rintro j d δ hd ⟨x13, x14, x15, x17, rfl⟩
            have sb : ∀ b, sized off b = false := fun b => by unfold sized; rw [ob]; rfl
            have sa : ∀ a, sized a off = false := fun a => by unfold sized; rw [ob]; simp
            obtain ⟨a, b, rfl, hs⟩ := al_cons (p := fun d => ∃ a b, d = PyData.tuple [a, b] ∧ sized a b = false) ⟨_, _, rfl, sb _⟩ (al_cons ⟨_, _, rfl, sa _⟩ (al_cons ⟨_, _, rfl, sa _⟩ al_nil)) d (List.mem_of_getElem? hd)
            refine cm_map (fun _ => .str "size") (fun d hd k2 hk => ?_) ?_
            · obtain ⟨q, rfl, q2, q5⟩ := al_cons (p := fun d => ∃ q : Nat, d = PyData.int q ∧ 2 ≤ q ∧ q ≤ 5) ⟨2, rfl, by decide, by decide⟩ (al_cons ⟨3, rfl, by decide, by decide⟩ (al_cons ⟨4, rfl, by decide, by decide⟩ (al_cons ⟨5, rfl, by decide, by decide⟩ al_nil))) d hd
              refine ⟨_, atI_nat (j := 0) rfl, _, atI_nat (j := 1) rfl, q, _, a, b, rfl, q5, ?_⟩
              rw [told_size hs q2]
              exact hk
            · refine ⟨⟨by decide, by decide, by decide⟩, ⟨rfl, rfl, .inr (by decide +kernel)⟩, ifF ?_ ?_⟩
              · show (!PyData.eqv (.list [.str "size", .str "size", .str "size", .str "size"]) (.list [.str "size", .str "size", .str "size", .str "size"])) = false
                decide +kernel
              · exact ⟨_, _, _, _, rfl⟩
          · rintro δ ⟨x13, x14, x15, x17, rfl⟩
            exact ⟨_, _, _, _, _, _, _, _, _, _, _, _, _, _, _, _, _, rfl⟩
    · obtain ⟨mn, em⟩ : ∃ mn, mn = 1 + r4 := ⟨_, rfl⟩
      have m1 : 1 ≤ mn := by omega
      have m2 : mn ≤ 12 := by omega
      rw [← em]
      refine ⟨_, rfl, by omega, by omega, fun at_ a0 a1 => ⟨_, rfl, by decide, by decide, fun r7 r70 r71 => ?_⟩⟩
      refine ⟨⟨by omega, by omega⟩, cm_all (fun e => ∃ i : Int, e = .int i ∧ i.natAbs ≤ 10 ^ 20) (fun d hd k2 hk => ⟨_, rfl, by omega, Int.le_trans f1 (by decide), fun r r0 r1 => hk _ ⟨r, rfl, by omega⟩⟩) fun acc hl ha => ?_⟩
      rw [rng_len] at hl
      obtain ⟨rs, rfl, hrs⟩ := ints_of ha
      rw [List.length_map] at hl
      refine ⟨by rw [List.length_map]; show 1 + _ ≤ _; omega, ?_⟩
      obtain ⟨cs, ec⟩ : ∃ cs : List Int, cs = 1 :: rs := ⟨_, rfl⟩
      have en : [PyData.int 1] ++ rs.map PyData.int = cs.map PyData.int := by rw [ec]; rfl
      have cl : cs.length = mn.toNat + 1 := by rw [ec, List.length_cons]; omega
      have cb : ∀ x ∈ cs, x.natAbs ≤ 10 ^ 20 := by
        rw [ec]
        exact al_cons (by decide) hrs
      rw [en]
      refine ix_of r10 r11 fun od hod => ?_
      have fb : (0 - far).natAbs ≤ 2 ^ 170 := Nat.le_trans (show (0 - far).natAbs ≤ 10 ^ 20 by omega) (by decide +kernel)
      have oa := al_cons (p := Ao) (ao_bool true) (al_cons (ao_bool false) (al_cons ao_none (al_cons ao_one (al_cons (ao_int (by decide)) (al_cons (ao_int fb) (al_cons ao_l1 (al_cons ao_dct (al_cons ao_t1 (al_cons (ao_int (by decide)) (al_cons (ao_int (by decide)) (al_cons (ao_int (by decide)) al_nil))))))))))) od hod
      obtain ⟨q, eq⟩ : ∃ q, (if w < h then w else h) = q := ⟨_, rfl⟩
      have eqn : q.toNat = min h.toNat w.toNat := by split at eq <;> omega
      have q1 : 1 ≤ q := by split at eq <;> omega
      have q2 : q ≤ 12 := by split at eq <;> omega
      have q3 : q ≤ h := by split at eq <;> omega
      have q4 : q ≤ w := by split at eq <;> omega
      refine min2_of eq ⟨⟨by omega, by omega⟩, for_rng (fun s δ => ∃ x13 x14 x15 x16 x17, δ = [.scr, .v (.int (0 + (i : Int))), .pot, .v (.int r1), .v (.int h), .v (.int w), .v (.int mn), .v (.int far), .v (.int at_), .v (.int (14 + r7)), .v (.list (cs.map PyData.int)), .v od, .own (((List.range s).map (fullI h.toNat w.toNat)).map PyData.int), x13, x14, x15, x16, x17]) ⟨_, _, _, _, _, rfl⟩ ?_ ?_⟩
      · rintro s δ hs ⟨x13, x14, x15, x16, x17, rfl⟩
        have hs : s ≤ q.toNat := by omega
        have sa := set_ok (m := h.toNat) (k := s) (by omega) (by omega)
        have sb := full_small (h := h.toNat) (w := w.toNat) (s := s) (by omega) (by omega) (by omega)
        have fo := fct_ok (show s ≤ 12 by omega)
        have es : (0 + (s : Int)).toNat = s := by omega
        refine ⟨_, _, rfl, by omega, by omega, by omega, _, _, rfl, by omega, by omega, by omega, ?_⟩
        rw [es]
        refine ⟨.inl (.inl ⟨by omega, by omega⟩), _, rfl, by omega, by omega, ?_⟩
        rw [es]
        refine ⟨.inl (.inl ⟨by omega, by omega⟩), by rw [List.length_map, List.length_map, List.length_range]; omega, .v (.int (0 + (s : Int))), x14, x15, x16, x17, ?_⟩
        rw [List.range_succ, List.map_append, List.map_append]
        rfl
      · rintro δ ⟨x13, x14, x15, x16, x17, rfl⟩
        have ef : (List.range (q + 1).toNat).map (fullI h.toNat w.toNat) = fullsI h.toNat w.toNat := by
          unfold fullsI
          rw [show (q + 1).toNat = min h.toNat w.toNat + 1 by omega]
        rw [ef]
        have ln := lenI cs
        have c1 := cutD_length (cs.map PyData.int) none (some at_)
        have c2 := cutD_length (cs.map PyData.int) (some (at_ + 1)) none
        refine ⟨by show _ + 1 ≤ _; omega, by rw [List.length_append]; show _ + 1 + _ ≤ _; omega, by show _ + 1 ≤ _; omega, ?_⟩
        refine ⟨⟨by decide, by decide, by show _ * 54 ≤ _; omega⟩, cs, rfl, by omega, by omega, by show 6 + 7 ≤ _; decide, ?_⟩
        have G := things_gd (od := od) (a := at_) (b := 14 + r7) (fl := fullsI h.toNat w.toNat) (show 2 ≤ cs.length by omega) (show cs.length ≤ 13 by omega) cb oa (by omega) (by omega) (fulls_len13 (by omega)) (fulls_bd (by omega) (by omega))
        refine for_items (fun _ δ => ∃ x13 x14 x15 x16 x17, δ = [.scr, .v (.int (0 + (i : Int))), .pot, .v (.int r1), .v (.int h), .v (.int w), .v (.int mn), .v (.int far), .v (.int at_), .v (.int (14 + r7)), .v (.list (cs.map PyData.int)), .v od, .v (.list ((fullsI h.toNat w.toNat).map PyData.int)), x13, x14, x15, x16, x17]) ⟨_, _, _, _, _, rfl⟩ ?_ ?_
        · rintro j d δ hd ⟨x13, x14, x15, x16, x17, rfl⟩
          have g := G d (List.mem_of_getElem? hd)
          exact ⟨h, w, d, rfl, h1, h2, w1, w2, g.ok, fun i hi => g.told h1 h2 w1 w2 (by omega), _, _, _, _, _, rfl⟩
        · rintro δ ⟨x13, x14, x15, x16, x17, rfl⟩
          have e5 := told_5 h1 h2 w1 w2 (.int 0)
          refine ⟨5, .int 0, .int h, .int w, by rw [e5]; rfl, by decide, gd_0.ok, gd_0.told h1 h2 w1 w2 (by decide), ?_⟩
          refine ⟨show (0 : Int) < 8 by decide, ix_of (by omega) (by show _ < (8 : Int); omega) fun off hoff => ?_⟩
          have ob := al_cons (p := fun d => inW d 1 12 = false) rfl (al_cons rfl (al_cons rfl (al_cons rfl (al_cons rfl (al_cons rfl (al_cons (inW_far (by omega)) (al_cons rfl al_nil))))))) off hoff
          refine for_items (fun _ δ => ∃ x13 x14 x15 x17, δ = [.scr, .v (.int (0 + (i : Int))), .pot, .v (.int r1), .v (.int h), .v (.int w), .v (.int mn), .v (.int far), .v (.int at_), .v (.int (14 + r7)), .v (.list (cs.map PyData.int)), .v od, .v (.list ((fullsI h.toNat w.toNat).map PyData.int)), x13, x14, x15, .v off, x17]) ⟨_, _, _, _, rfl⟩ ?_ ?_
          · rintro j d δ hd ⟨x13, x14, x15, x17, rfl⟩
            have sb : ∀ b, sized off b = false := fun b => by unfold sized; rw [ob]; rfl
            have sa : ∀ a, sized a off = false := fun a => by unfold sized; rw [ob]; simp
            obtain ⟨a, b, rfl, hs⟩ := al_cons (p := fun d => ∃ a b, d = PyData.tuple [a, b] ∧ sized a b = false) ⟨_, _, rfl, sb _⟩ (al_cons ⟨_, _, rfl, sa _⟩ (al_cons ⟨_, _, rfl, sa _⟩ al_nil)) d (List.mem_of_getElem? hd)
            refine cm_map (fun _ => .str "size") (fun d hd k2 hk => ?_) ?_
            · obtain ⟨q, rfl, q2, q5⟩ := al_cons (p := fun d => ∃ q : Nat, d = PyData.int q ∧ 2 ≤ q ∧ q ≤ 5) ⟨2, rfl, by decide, by decide⟩ (al_cons ⟨3, rfl, by decide, by decide⟩ (al_cons ⟨4, rfl, by decide, by decide⟩ (al_cons ⟨5, rfl, by decide, by decide⟩ al_nil))) d hd
              refine ⟨_, atI_nat (j := 0) rfl, _, atI_nat (j := 1) rfl, q, _, a, b, rfl, q5, ?_⟩
              rw [told_size hs q2]
              exact hk
            · refine ⟨⟨by decide, by decide, by decide⟩, ⟨rfl, rfl, .inr (by decide +kernel)⟩, ifF ?_ ?_⟩
              · show (!PyData.eqv (.list [.str "size", .str "size", .str "size", .str "size"]) (.list [.str "size", .str "size", .str "size", .str "size"])) = false
                decide +kernel
              · exact ⟨_, _, _, _, rfl⟩
          · rintro δ ⟨x13, x14, x15, x17, rfl⟩
            exact ⟨_, _, _, _, _, _, _, _, _, _, _, _, _, _, _, _, _, rfl⟩
  · rintro δ ⟨x1, x2, x3, x4, x5, x6, x7, x8, x9, x10, x11, x12, x13, x14, x15, x16, x17, rfl⟩
    rfl
end
end Rk
namespace Rk
open PySem PySem.Spec PyProof.Rows L2 _root_.Rd
open Dl
section
variable {P : Program} {w : World} {K : PySem.W.Frag} {mg : Str → Option Value} {base : Heap}
theorem nd_lhits1 : (["_law_m", "_law_found", "_law_k"] : List Str).Nodup := by decide +kernel
theorem sc_lhits : FnScope ["_law_numbers", "_law_rows", "_law_found", "_law_k", "_law_more"] ["_law_numbers"] (defScope lHits) := ⟨rfl, rfl, rfl, by decide +kernel, rfl, by decide +kernel, by decide +kernel⟩
theorem ok_lhits {f f1 f2  : Addr} {fd fd1 fd2 : FuncData} (F : Fun K "_law_hits" "_law_hits" lHits f fd) (T : GlbA mg)
    (m1 : mg "_law_ways" = some (.ref f1)) (G1 : FnOk P w K mg base CX0 1 f1 fd1 ["_law_many", "_law_some"] (toSp false waysXD)) (b1 : Binds K fd1 ["_law_many", "_law_some"] []) (k1 : PySem.W.keepIn K (.ref f1) = true)
    (m2 : mg "_law_orders" = some (.ref f2)) (G2 : FnOk P w K mg base CX0 1 f2 fd2 ["_law_many"] (toSp false ordersD)) (b2 : Binds K fd2 ["_law_many"] []) (k2 : PySem.W.keepIn K (.ref f2) = true) :
    FnOk P w K mg base CX0 2 f fd ["_law_numbers"] (toSp true lhitsD) := by
  refine okQ true F sc_lhits (fun args R EX h => ?_) (fun cdv A outer s H E hr => ?_)
  · obtain ⟨c, rfl, _⟩ := h
    rfl
  · have hU := Room.u60 hr
    have hI := Room.i60 hr
    refine ⟨_, qss_cons (qs_set 1 (q_toD (q_bin op_sub od_ii0 (q_toPF (q_callB call_lenK cd_len (by rfl) T.len bt_len (qa_P (qp 0) qa_nil))) (q_toP q_int))) sc_lhits.nd)
      (qss_cons (qs_setF 2 (q_bin op_mulD od_mul (q_toPF (q_lst (qa_D q_int qa_nil))) (q_toPF (q_bin op_addD od_add (qp 1) (q_toP q_int)))) sc_lhits.nd)
      (qss_cons (qs_for PassesOwn.never rfl (qi_down (by rfl) T.range (q_toP (qv 1)) (q_toPF (q_neg (q_toP q_int))) (q_toPF (q_neg (q_toP q_int)))) (qg_name 3 sc_lhits.nd rfl (by first | exact Or.inl rfl | exact Or.inr rfl))
        (qss_cons (qs_set 4 (q_toD (q_callB (call_sumI rfl) cd_sum (by rfl) T.sum bt_sum (qa_P (q_toPF (q_comp ["_law_m", "_law_found", "_law_k"] [none, some 2, some 3] (qi_rng2 (by rfl) T.range (q_toPF (q_bin op_addD od_add (qp 3) (q_toP q_int))) (q_toPF (q_bin op_addD od_add (qp 1) (q_toP q_int)))) (fun cl ex s3 H3 C => ⟨(qg_name 0 nd_lhits1 rfl (Or.inl rfl) (Or.inr rfl)), qts_nil, (q_toD (q_bin op_mulD od_mul (q_toP (q_call G1 (hr.mono (by decide)) (by rfl) m1 k1 b1 passA (qs_v (qv 0) (qs_v (qv 2) qs_nil)))) (q_toP (q_ix ix_any od_ix (qp 1) (qp 0) (fun _ _ => rfl)))))⟩))) qa_nil))) sc_lhits.nd)
      (qss_one (qs_put 2 (q_toD (q_bin op_sub od_ii0 (q_toPF (q_bin op_mulD od_mul (q_toP (q_ix ix_any od_ix (qp 0) (qp 3) (fun _ _ => rfl))) (q_toP (q_call G2 (hr.mono (by decide)) (by rfl) m2 k2 b2 passA (qs_v (q_toD (q_bin op_sub od_ii0 (qp 1) (qp 3))) qs_nil))))) (qp 4))) (qp 3)))))
      (qss_one (qs_retO 2)))), fun args R EX h => ?_⟩
    obtain ⟨c, rfl, c1, c2, hR⟩ := h
    have lc := lenI c
    refine ⟨⟨by omega, by omega, by show 1 * _ ≤ _; omega⟩, ⟨by omega, by omega, rfl, rfl⟩, for_items (fun i δ => ∃ x3 x4, δ = [.v (.list (c.map PyData.int)), .v (.int ((((c.map PyData.int).length : Nat) : Int) - 1)), .own ((hPart c (c.length - i)).map PyData.int), x3, x4]) ?_ ?_ ?_⟩
    · refine ⟨.no, .no, ?_⟩
      rw [Nat.sub_zero, hPart_none, rep_one, List.map_replicate, show ((((c.map PyData.int).length : Nat) : Int) - 1 + 1).toNat = c.length by omega]
      rfl
    · rintro i d δ hd ⟨x3, x4, rfl⟩
      obtain ⟨hi, rfl⟩ := rngB_get hd
      have hi : i < c.length := by omega
      obtain ⟨k, hk⟩ : ∃ k, k = c.length - 1 - i := ⟨_, rfl⟩
      have ek : (((((((c.map PyData.int).length : Nat) : Int) - 1 + 1).toNat : Nat) : Int) - 1 - (i : Int)) = (k : Int) := by omega
      rw [ek, show c.length - i = k + 1 by omega, show c.length - (i + 1) = k by omega]
      have hkl : k < c.length := by omega
      refine ⟨⟨by omega, by omega, by omega, by omega, by omega⟩, cm_map (fun d => match d with | .int m => .int (setI m.toNat k * (hitsI c).getD m.toNat 0) | _ => .none) (fun d hd k2 hk2 => ?_) ?_⟩
      · obtain ⟨j, hj⟩ := List.mem_iff_getElem?.mp hd
        obtain ⟨hj, rfl⟩ := rng_get hj
        have em : ((k : Int) + 1 + (j : Int)) = ((k + 1 + j : Nat) : Int) := by omega
        rw [em] at hk2 ⊢
        have hk2 : k2 (.int (setI (k + 1 + j) k * (hitsI c).getD (k + 1 + j) 0)) := hk2
        have so := set_ok (m := k + 1 + j) (k := k) (by omega) (by omega)
        refine ⟨_, _, rfl, by omega, by omega, by omega, .int ((hitsI c).getD (k + 1 + j) 0), atI_nat (by rw [List.getElem?_map, hPart_get c (by omega) (by omega)]; rfl), .inl (.inl ?_), ?_⟩
        · show -(2 ^ 64) < setI (k + 1 + j) k ∧ setI (k + 1 + j) k < 2 ^ 64
          exact ⟨by omega, by omega⟩
        · exact hk2
      · have et : (rngD ((k : Int) + 1) ((((c.map PyData.int).length : Nat) : Int) - 1 + 1 - ((k : Int) + 1)).toNat).map (fun d => match d with | .int m => PyData.int (setI m.toNat k * (hitsI c).getD m.toNat 0) | _ => .none) = ((List.range (c.length - 1 - k)).map fun j => setI (k + 1 + j) k * (hitsI c).getD (k + 1 + j) 0).map PyData.int := by
          rw [show ((((c.map PyData.int).length : Nat) : Int) - 1 + 1 - ((k : Int) + 1)).toNat = c.length - 1 - k by omega]
          unfold rngD
          rw [List.map_map, List.map_map]
          refine List.map_congr_left fun j _ => ?_
          show PyData.int (setI ((k : Int) + 1 + (j : Int)).toNat k * (hitsI c).getD ((k : Int) + 1 + (j : Int)).toNat 0) = _
          rw [show ((k : Int) + 1 + (j : Int)).toNat = k + 1 + j by omega]; rfl
        rw [et]
        refine sumD_of _ rfl ?_
        rw [sumN_list]
        have fo := fct_ok (show c.length - 1 - k ≤ 12 by omega)
        have ea : ((((c.map PyData.int).length : Nat) : Int) - 1 - (k : Int)).toNat = c.length - 1 - k := by omega
        refine ⟨.int (c.getD k 0), atI_nat (by rw [List.getElem?_map, List.getD_eq_getElem?_getD, List.getElem?_eq_getElem hkl]; rfl), _, rfl, by omega, by omega, ?_⟩
        rw [ea]
        refine ⟨.inl (.inr ⟨by omega, by omega⟩), ?_⟩
        show ∃ j, ixN ((hPart c (k + 1)).map PyData.int).length (k : Int) = some j ∧ _
        refine ⟨k, ixN_nat (by rw [List.length_map, hPart_len]; exact hkl), .v (.int (k : Int)), .v (.int (sumN (c.length - 1 - k) fun j => setI (k + 1 + j) k * (hitsI c).getD (k + 1 + j) 0)), ?_⟩
        rw [← hPart_set c hkl, List.map_set, hits_rec c2 hkl]
        rfl
    · rintro δ ⟨x3, x4, rfl⟩
      rw [rngB_len, show c.length - ((((c.map PyData.int).length : Nat) : Int) - 1 + 1).toNat = 0 by omega, hPart_all]
      exact hR
theorem nd_lcnts1 : (["_law_m", "_law_hits_here", "_law_k"] : List Str).Nodup := by decide +kernel
theorem sc_lcnts : FnScope ["_law_hits_here", "_law_rows", "_law_found", "_law_k", "_law_total"] ["_law_hits_here"] (defScope lCounts) := ⟨rfl, rfl, rfl, by decide +kernel, rfl, by decide +kernel, by decide +kernel⟩
theorem ok_lcnts {f f1 f2  : Addr} {fd fd1 fd2 : FuncData} (F : Fun K "_law_counts" "_law_counts" lCounts f fd) (T : GlbA mg)
    (m1 : mg "_law_ways" = some (.ref f1)) (G1 : FnOk P w K mg base CX0 1 f1 fd1 ["_law_many", "_law_some"] (toSp false waysXD)) (b1 : Binds K fd1 ["_law_many", "_law_some"] []) (k1 : PySem.W.keepIn K (.ref f1) = true)
    (m2 : mg "_law_orders" = some (.ref f2)) (G2 : FnOk P w K mg base CX0 1 f2 fd2 ["_law_many"] (toSp false ordersD)) (b2 : Binds K fd2 ["_law_many"] []) (k2 : PySem.W.keepIn K (.ref f2) = true) :
    FnOk P w K mg base CX0 2 f fd ["_law_hits_here"] (toSp true lcntsD) := by
  refine okQ true F sc_lcnts (fun args R EX h => ?_) (fun cdv A outer s H E hr => ?_)
  · obtain ⟨c, rfl, _⟩ := h
    rfl
  · have hU := Room.u60 hr
    have hI := Room.i60 hr
    refine ⟨_, qss_cons (qs_set 1 (q_toD (q_bin op_sub od_ii0 (q_toPF (q_callB call_lenK cd_len (by rfl) T.len bt_len (qa_P (qp 0) qa_nil))) (q_toP q_int))) sc_lcnts.nd)
      (qss_cons (qs_setF 2 (q_lst qa_nil) sc_lcnts.nd)
      (qss_cons (qs_for PassesOwn.never rfl (qi_rng1 (by rfl) T.range (q_toPF (q_bin op_addD od_add (qp 1) (q_toP q_int)))) (qg_name 3 sc_lcnts.nd rfl (by first | exact Or.inl rfl | exact Or.inr rfl))
        (qss_cons (qs_set 4 (q_toD (q_callB (call_sumI rfl) cd_sum (by rfl) T.sum bt_sum (qa_P (q_toPF (q_comp ["_law_m", "_law_hits_here", "_law_k"] [none, some 0, some 3] (qi_rng2 (by rfl) T.range (qp 3) (q_toPF (q_bin op_addD od_add (qp 1) (q_toP q_int)))) (fun cl ex s3 H3 C => ⟨(qg_name 0 nd_lcnts1 rfl (Or.inl rfl) (Or.inr rfl)), qts_nil, (q_toD (q_bin op_mulD od_mul (q_toP (q_call G1 (hr.mono (by decide)) (by rfl) m1 k1 b1 passA (qs_v (qv 0) (qs_v (qv 2) qs_nil)))) (q_toP (q_ix ix_any od_ix (qp 1) (qp 0) (fun _ _ => rfl)))))⟩))) qa_nil))) sc_lcnts.nd)
      (qss_cons (qs_if (qt_cmp op_neA (od_ne hU) (q_toPF (q_bin op_mod od_ii (qp 4) (q_toP (q_call G2 (hr.mono (by decide)) (by rfl) m2 k2 b2 passA (qs_v (q_toD (q_bin op_sub od_ii0 (qp 1) (qp 3))) qs_nil))))) (q_toP q_int) (nomark _)) (qss_one (qs_ret q_non)) qss_nil)
      (qss_one (qs_app 2 (q_toD (q_bin op_fdivC od_ii (qp 4) (q_toP (q_call G2 (hr.mono (by decide)) (by rfl) m2 k2 b2 passA (qs_v (q_toD (q_bin op_sub od_ii0 (qp 1) (qp 3))) qs_nil))))))))))
      (qss_one (qs_retO 2)))), fun args R EX h => ?_⟩
    obtain ⟨c, rfl, c1, c2, hR⟩ := h
    have lc := lenI c
    refine ⟨⟨by omega, by omega⟩, for_rng (fun i δ => ∃ ds x3 x4, δ = [.v (.list (c.map PyData.int)), .v (.int ((((c.map PyData.int).length : Nat) : Int) - 1)), .own ds, x3, x4] ∧ ds = ((List.range i).map fun i => totI c i / fctI (c.length - 1 - i)).map PyData.int ∧ ∀ k, k < i → totI c k % fctI (c.length - 1 - k) = 0) ⟨_, _, _, rfl, rfl, fun k hk => by omega⟩ ?_ ?_⟩
    · rintro i δ hi ⟨ds, x3, x4, rfl, rfl, hz⟩
      have hi : i < c.length := by omega
      refine ⟨⟨by omega, by omega, by omega, by omega, by omega⟩, cm_map (fun d => match d with | .int m => .int (setI m.toNat i * c.getD m.toNat 0) | _ => .none) (fun d hd k2 hk2 => ?_) ?_⟩
      · obtain ⟨j, hj⟩ := List.mem_iff_getElem?.mp hd
        obtain ⟨hj, rfl⟩ := rng_get hj
        have em : (0 + (i : Int) + (j : Int)) = ((i + j : Nat) : Int) := by omega
        rw [em] at hk2 ⊢
        have hk2 : k2 (.int (setI (i + j) i * c.getD (i + j) 0)) := hk2
        have so := set_ok (m := i + j) (k := i) (by omega) (by omega)
        refine ⟨_, _, rfl, by omega, by omega, by omega, .int (c.getD (i + j) 0), atI_nat (by rw [List.getElem?_map, List.getD_eq_getElem?_getD, List.getElem?_eq_getElem (show i + j < c.length by omega)]; rfl), .inl (.inl ?_), ?_⟩
        · rw [show (0 + (i : Int)).toNat = i by omega]
          show -(2 ^ 64) < setI (i + j) i ∧ setI (i + j) i < 2 ^ 64
          exact ⟨by omega, by omega⟩
        · rw [show (0 + (i : Int)).toNat = i by omega]
          exact hk2
      · have et : (rngD (0 + (i : Int)) ((((c.map PyData.int).length : Nat) : Int) - 1 + 1 - (0 + (i : Int))).toNat).map (fun d => match d with | .int m => PyData.int (setI m.toNat i * c.getD m.toNat 0) | _ => .none) = ((List.range (c.length - i)).map fun j => c.getD (i + j) 0 * setI (i + j) i).map PyData.int := by
          rw [show ((((c.map PyData.int).length : Nat) : Int) - 1 + 1 - (0 + (i : Int))).toNat = c.length - i by omega]
          unfold rngD
          rw [List.map_map, List.map_map]
          refine List.map_congr_left fun j _ => ?_
          show PyData.int (setI (0 + (i : Int) + (j : Int)).toNat i * c.getD (0 + (i : Int) + (j : Int)).toNat 0) = PyData.int (c.getD (i + j) 0 * setI (i + j) i)
          rw [show (0 + (i : Int) + (j : Int)).toNat = i + j by omega, Int.mul_comm]
        rw [et]
        refine sumD_of _ rfl ?_
        rw [sumN_list, ← tot_from c2 hi]
        have fo := fct_ok (show c.length - 1 - i ≤ 12 by omega)
        have ea : ((((c.map PyData.int).length : Nat) : Int) - 1 - (0 + (i : Int))).toNat = c.length - 1 - i := by omega
        refine ⟨_, rfl, by omega, by omega, ?_⟩
        rw [ea]
        refine ⟨by omega, ?_⟩
        show if (!decide (totI c i % fctI (c.length - 1 - i) = 0)) = true then _ else _
        refine ifC (fun z => ?_) fun z => ?_
        · have z := not_dec z
          have en : cbyI c = none := by
            unfold cbyI
            rw [if_neg]
            intro h
            exact z (of_decide_eq_true (List.all_eq_true.mp h i (List.mem_range.mpr hi)))
          rw [en] at hR
          exact ⟨rfl, hR⟩
        · have z := dec_not z
          refine ⟨_, rfl, by omega, by omega, ?_⟩
          rw [ea]
          refine ⟨⟨by omega, by omega⟩, by rw [List.length_map, List.length_map, List.length_range]; omega, _, _, _, rfl, ?_, fun k hk => ?_⟩
          · rw [List.range_succ, List.map_append, List.map_append]; rfl
          · by_cases y : k = i
            · subst y; exact z
            · exact hz k (by omega)
    · rintro δ ⟨ds, x3, x4, rfl, rfl, hz⟩
      rw [show ((((c.map PyData.int).length : Nat) : Int) - 1 + 1).toNat = c.length by omega] at hz ⊢
      have en : cbyI c = some ((List.range c.length).map fun i => totI c i / fctI (c.length - 1 - i)) := by
        unfold cbyI
        rw [if_pos (List.all_eq_true.mpr fun k hk => decide_eq_true (hz k (List.mem_range.mp hk)))]
      rw [en] at hR
      exact hR
theorem sc_lrest : FnScope ["_law_high", "_law_wide", "_law_numbers", "_law_found", "_law_k", "_law_total", "_law_j", "_law_some"] ["_law_high", "_law_wide", "_law_numbers"] (defScope lRest) := ⟨rfl, rfl, rfl, by decide +kernel, rfl, by decide +kernel, by decide +kernel⟩
theorem ok_lrest {f f1 f2  : Addr} {fd fd1 fd2 : FuncData} (F : Fun K "_law_rest" "_law_rest" lRest f fd) (T : GlbA mg)
    (m1 : mg "_law_ways" = some (.ref f1)) (G1 : FnOk P w K mg base CX0 1 f1 fd1 ["_law_many", "_law_some"] (toSp false waysXD)) (b1 : Binds K fd1 ["_law_many", "_law_some"] []) (k1 : PySem.W.keepIn K (.ref f1) = true)
    (m2 : mg "_law_orders" = some (.ref f2)) (G2 : FnOk P w K mg base CX0 1 f2 fd2 ["_law_many"] (toSp false ordersD)) (b2 : Binds K fd2 ["_law_many"] []) (k2 : PySem.W.keepIn K (.ref f2) = true) :
    FnOk P w K mg base CX0 2 f fd ["_law_high", "_law_wide", "_law_numbers"] (toSp true lrestD) := by
  refine okQ true F sc_lrest (fun args R EX h => ?_) (fun cdv A outer s H E hr => ?_)
  · obtain ⟨h, w, c, rfl, _⟩ := h
    rfl
  · have hU := Room.u60 hr
    have hI := Room.i60 hr
    refine ⟨_, qss_cons (qs_setF 3 (q_lst qa_nil) sc_lrest.nd)
      (qss_cons (qs_for PassesOwn.never rfl (qi_rng1 (by rfl) T.range (q_toPF (q_callB call_lenK cd_len (by rfl) T.len bt_len (qa_P (qp 2) qa_nil)))) (qg_name 4 sc_lrest.nd rfl (by first | exact Or.inl rfl | exact Or.inr rfl))
        (qss_cons (qs_set 5 q_int sc_lrest.nd)
      (qss_cons (qs_for PassesOwn.never rfl (qi_rng1 (by rfl) T.range (q_toPF (q_bin op_addD od_add (qp 4) (q_toP q_int)))) (qg_name 6 sc_lrest.nd rfl (by first | exact Or.inl rfl | exact Or.inr rfl))
        (qss_cons (qs_set 7 (q_toD (q_bin op_mulD od_mul (q_toPF (q_bin op_mulD od_mul (q_toPF (q_bin op_mulD od_mul (q_toP (q_ix ix_any od_ix (qp 2) (qp 6) (fun _ _ => rfl))) (q_toP (q_call G1 (hr.mono (by decide)) (by rfl) m1 k1 b1 passA (qs_v (q_toD (q_bin op_sub od_ii0 (qp 0) (qp 6))) (qs_v (q_toD (q_bin op_sub od_ii0 (qp 4) (qp 6))) qs_nil)))))) (q_toP (q_call G1 (hr.mono (by decide)) (by rfl) m1 k1 b1 passA (qs_v (q_toD (q_bin op_sub od_ii0 (qp 1) (qp 6))) (qs_v (q_toD (q_bin op_sub od_ii0 (qp 4) (qp 6))) qs_nil)))))) (q_toP (q_call G2 (hr.mono (by decide)) (by rfl) m2 k2 b2 passA (qs_v (q_toD (q_bin op_sub od_ii0 (qp 4) (qp 6))) qs_nil))))) sc_lrest.nd)
      (qss_one (qs_set 5 (q_toD (q_bin op_addD od_add (qp 5) (q_toP (q_ix ix_any od_ix (q_toPF (q_lst (qa_D (qv 7) (qa_D (q_toD (q_bin op_sub od_ii0 (q_toP q_int) (qp 7))) qa_nil)))) (q_toPF (q_bin op_mod od_ii (qp 6) (q_toP q_int))) (fun _ _ => rfl))))) sc_lrest.nd))))
      (qss_one (qs_app 3 (qv 5))))))
      (qss_one (qs_retO 3))), fun args R EX h => ?_⟩
    obtain ⟨h, w, c, rfl, h1, h2, w1, w2, cl, hR⟩ := h
    have lc := lenI c
    refine ⟨⟨by omega, by omega⟩, for_rng (fun k δ => ∃ x4 x5 x6 x7, δ = [.v (.int h), .v (.int w), .v (.list (c.map PyData.int)), .own (((List.range k).map (restAt h.toNat w.toNat c)).map PyData.int), x4, x5, x6, x7]) ⟨_, _, _, _, rfl⟩ ?_ ?_⟩
    · rintro k δ hk ⟨x4, x5, x6, x7, rfl⟩
      have hk : k < c.length := by omega
      refine ⟨⟨by omega, by omega⟩, for_rng (fun j δ => ∃ x6 x7, δ = [.v (.int h), .v (.int w), .v (.list (c.map PyData.int)), .own (((List.range k).map (restAt h.toNat w.toNat c)).map PyData.int), .v (.int (0 + (k : Int))), .v (.int (sumN j fun j => sgnI j * c.getD j 0 * fullI (h.toNat - j) (w.toNat - j) (k - j))), x6, x7]) ⟨_, _, rfl⟩ ?_ ?_⟩
      · rintro j δ hj ⟨x6, x7, rfl⟩
        have hj : j ≤ k := by omega
        have sa := set_ok (m := h.toNat - j) (k := k - j) (by omega) (by omega)
        have sb := set_ok (m := w.toNat - j) (k := k - j) (by omega) (by omega)
        have fo := fct_ok (show k - j ≤ 12 by omega)
        refine ⟨.int (c.getD j 0), ?_, _, _, rfl, by omega, by omega, by omega, ?_⟩
        · rw [show (0 : Int) + (j : Int) = (j : Int) by omega]
          refine atI_nat ?_
          rw [List.getElem?_map, List.getD_eq_getElem?_getD, List.getElem?_eq_getElem (show j < c.length by omega)]; rfl
        rw [show (h - (0 + (j : Int))).toNat = h.toNat - j by omega, show (0 + (k : Int) - (0 + (j : Int))).toNat = k - j by omega]
        refine ⟨.inl (.inr ⟨by omega, by omega⟩), _, _, rfl, by omega, by omega, by omega, ?_⟩
        rw [show (w - (0 + (j : Int))).toNat = w.toNat - j by omega, show (0 + (k : Int) - (0 + (j : Int))).toNat = k - j by omega]
        refine ⟨.inl (.inr ⟨by omega, by omega⟩), _, rfl, by omega, by omega, ?_⟩
        rw [show (0 + (k : Int) - (0 + (j : Int))).toNat = k - j by omega]
        refine ⟨.inl (.inr ⟨by omega, by omega⟩), by omega, ?_⟩
        have eS : c.getD j 0 * setI (h.toNat - j) (k - j) * setI (w.toNat - j) (k - j) * fctI (k - j) = c.getD j 0 * fullI (h.toNat - j) (w.toNat - j) (k - j) := by
          unfold fullI; rw [← Int.mul_assoc, ← Int.mul_assoc]
        rw [eS]
        show ∃ d, atI [PyData.int (c.getD j 0 * fullI (h.toNat - j) (w.toNat - j) (k - j)), PyData.int (0 - c.getD j 0 * fullI (h.toNat - j) (w.toNat - j) (k - j))] ((0 + (j : Int)) % 2) = some d ∧ _
        by_cases z : j % 2 = 0
        · rw [show (0 + (j : Int)) % 2 = 0 by omega]
          refine ⟨_, atI_nat (j := 0) rfl, .v (.int (0 + (j : Int))), .v (.int (c.getD j 0 * fullI (h.toNat - j) (w.toNat - j) (k - j))), ?_⟩
          show _ = [Sl.v (.int h), .v (.int w), .v (.list (c.map PyData.int)), _, _, Sl.v (.int ((sumN j fun j => sgnI j * c.getD j 0 * fullI (h.toNat - j) (w.toNat - j) (k - j)) + sgnI j * c.getD j 0 * fullI (h.toNat - j) (w.toNat - j) (k - j))), _, _]
          rw [sgn_par j, if_pos z, Int.one_mul]
          rfl
        · rw [show (0 + (j : Int)) % 2 = 1 by omega]
          refine ⟨_, atI_nat (j := 1) rfl, .v (.int (0 + (j : Int))), .v (.int (c.getD j 0 * fullI (h.toNat - j) (w.toNat - j) (k - j))), ?_⟩
          show _ = [Sl.v (.int h), .v (.int w), .v (.list (c.map PyData.int)), _, _, Sl.v (.int ((sumN j fun j => sgnI j * c.getD j 0 * fullI (h.toNat - j) (w.toNat - j) (k - j)) + sgnI j * c.getD j 0 * fullI (h.toNat - j) (w.toNat - j) (k - j))), _, _]
          rw [sgn_par j, if_neg z, Int.neg_mul, Int.one_mul, Int.neg_mul, ← Int.zero_sub]
          rfl
      · rintro δ ⟨x6, x7, rfl⟩
        rw [show (0 + (k : Int) + 1).toNat = k + 1 by omega]
        refine ⟨by rw [List.length_map, List.length_map, List.length_range]; omega, .v (.int (0 + (k : Int))), .v (.int (restAt h.toNat w.toNat c k)), x6, x7, ?_⟩
        rw [List.range_succ, List.map_append, List.map_append]
        rfl
    · rintro δ ⟨x4, x5, x6, x7, rfl⟩
      rw [show (((c.map PyData.int).length : Nat) : Int).toNat = c.length by omega]
      exact hR
end
end Rk
def PySem.W.Fast.tw5076513379176763622 : Nat := 0
def PySem.W.Fast.tw1139132342415322470 : Nat := 0
def PySem.W.Fast.tw459233131263049979 : Nat := 0
def PySem.W.Fast.tw17961363794840740608 : Nat := 0
def PySem.W.Fast.tw5960951023939305963 : Nat := 0
def PySem.W.Fast.tw9955634101178225759 : Nat := 0
def PySem.W.Fast.tw12643299299885505017 : Nat := 0
def PySem.W.Fast.tw2745405587506235147 : Nat := 0
def PySem.W.Fast.tw11740901059303211988 : Nat := 0
def PySem.W.Fast.tw12482231828060522230 : Nat := 0
def PySem.W.Fast.tw9923149233730661413 : Nat := 0
def PySem.W.Fast.tw3991964759284855436 : Nat := 0
def PySem.W.Fast.tw15873929660590267630 : Nat := 0
def PySem.W.Fast.tw17805715016380429045 : Nat := 0
def PySem.W.Fast.tw17933044065044844204 : Nat := 0
def PySem.W.Fast.tw6304200082732185332 : Nat := 0
def PySem.W.Fast.tw4957416157010270140 : Nat := 0
def PySem.W.Fast.tw8532161659948925023 : Nat := 0
def PySem.W.Fast.tw775500439325512257 : Nat := 0
def PySem.W.Fast.tw7571456259788120904 : Nat := 0
def PySem.W.Fast.tw606192644729215384 : Nat := 0
def PySem.W.Fast.tw7237007523055947939 : Nat := 0
def PySem.W.Fast.tw3273802321536371867 : Nat := 0
def PySem.W.Fast.tw10795272686741692264 : Nat := 0
def PySem.W.Fast.tw1750677482849138031 : Nat := 0
def PySem.W.Fast.tw5163345884146803674 : Nat := 0
def PySem.W.Fast.tw13708966689314029912 : Nat := 0
def PySem.W.Fast.tw8530865090877360914 : Nat := 0
def PySem.W.Fast.tw4316537859774202742 : Nat := 0
def PySem.W.Fast.tw5573176574563109518 : Nat := 0
def PySem.W.Fast.tw13815699638188048372 : Nat := 0
def PySem.W.Fast.tw9339864439719701897 : Nat := 0
def PySem.W.Fast.tw11189530402496392770 : Nat := 0
def PySem.W.Fast.tw8857354703804097796 : Nat := 0
def PySem.W.Fast.tw1452949374228023675 : Nat := 0
def PySem.W.Fast.tw9371213733386329273 : Nat := 0
def PySem.W.Fast.tw6177267209071102197 : Nat := 0
def PySem.W.Fast.tw8313805381926484990 : Nat := 0
def PySem.W.Fast.tw6492889601572673779 : Nat := 0
def PySem.W.Fast.tw9247661652451114777 : Nat := 0
def PySem.W.Fast.tw5128500344907856375 : Nat := 0
def PySem.W.Fast.tw15629261757251621574 : Nat := 0
def PySem.W.Fast.tw2900058708134207218 : Nat := 0
def PySem.W.Fast.tw1138671876397498660 : Nat := 0
def PySem.W.Fast.tw12720154768303600748 : Nat := 0
def PySem.W.Fast.tw765132904010186733 : Nat := 0
def PySem.W.Fast.tw2037058786802828509 : Nat := 0
def PySem.W.Fast.tw16976250475307403004 : Nat := 0
def PySem.W.Fast.tw13372147752352589086 : Nat := 0
def PySem.W.Fast.tw15020470067090497400 : Nat := 0
def PySem.W.Fast.tw13866527791550208295 : Nat := 0
def PySem.W.Fast.tw6940532596441885543 : Nat := 0
def PySem.W.Fast.tw9839565918225087587 : Nat := 0
def PySem.W.Fast.tw14773611818023412985 : Nat := 0
def PySem.W.Fast.tw7066886664691092305 : Nat := 0
def PySem.W.Fast.tw13898864832135952212 : Nat := 0
def PySem.W.Fast.tw7459661629737056871 : Nat := 0
def PySem.W.Fast.tw7651489801495568903 : Nat := 0
def PySem.W.Fast.tw9415196027372788842 : Nat := 0
def PySem.W.Fast.tw4476045688812116724 : Nat := 0
def PySem.W.Fast.tw4952433294303810214 : Nat := 0
def PySem.W.Fast.tw5773510733442242576 : Nat := 0
def PySem.W.Fast.tw17644864196512377507 : Nat := 0
def PySem.W.Fast.tw14665617213516007981 : Nat := 0
def PySem.W.Fast.tw18221404822320567392 : Nat := 0
def PySem.W.Fast.tw12647277958753241423 : Nat := 0
def PySem.W.Fast.tw16840628814559195001 : Nat := 0
def PySem.W.Fast.tw17738334177206089549 : Nat := 0
def PySem.W.Fast.tw4583231321868746087 : Nat := 0
def PySem.W.Fast.tw18355091861348430285 : Nat := 0
def PySem.W.Fast.tw9676014377815872979 : Nat := 0
def PySem.W.Fast.tw17180266148318669428 : Nat := 0
def PySem.W.Fast.tw1601090615622886626 : Nat := 0
def PySem.W.Fast.tw12716861130483597197 : Nat := 0
def PySem.W.Fast.tw2978673510921752461 : Nat := 0
def PySem.W.Fast.tw9241987203577253772 : Nat := 0
def PySem.W.Fast.tw7366008581050939661 : Nat := 0
def PySem.W.Fast.tw1054112047493853926 : Nat := 0
def PySem.W.Fast.tw7979351430311420550 : Nat := 0
def PySem.W.Fast.tw14699820827295714086 : Nat := 0
def PySem.W.Fast.tw6693219361446888418 : Nat := 0
def PySem.W.Fast.tw442559706651924659 : Nat := 0
def PySem.W.Fast.tw15637103644356266725 : Nat := 0
def PySem.W.Fast.tw7530384788140169445 : Nat := 0
def PySem.W.Fast.tw10272394344796739784 : Nat := 0
def PySem.W.Fast.tw13745304643553332489 : Nat := 0
def PySem.W.Fast.tw10502536751076085242 : Nat := 0
def PySem.W.Fast.tw2377871591602923909 : Nat := 0
def PySem.W.Fast.tw16082534532518744183 : Nat := 0
def PySem.W.Fast.tw3504791742274754636 : Nat := 0
def PySem.W.Fast.tw5800568538823941703 : Nat := 0
def PySem.W.Fast.tw3916805606543278128 : Nat := 0
def PySem.W.Fast.tw17104720274106647914 : Nat := 0
def PySem.W.Fast.tw12553915304143468795 : Nat := 0
def PySem.W.Fast.tw5896327512781442927 : Nat := 0
def PySem.W.Fast.tw6809124293938681072 : Nat := 0
def PySem.W.Fast.tw8534492553819013019 : Nat := 0
def PySem.W.Fast.tw1733229605168458001 : Nat := 0
def PySem.W.Fast.tw7737912999729783165 : Nat := 0
def PySem.W.Fast.tw6632865740366030843 : Nat := 0
def PySem.W.Fast.tw6703050239259710708 : Nat := 0
def PySem.W.Fast.tw64589745881429584 : Nat := 0
def PySem.W.Fast.tw15954400770921589496 : Nat := 0
def PySem.W.Fast.tw15063443536224396866 : Nat := 0
def PySem.W.Fast.tw12039259026537523917 : Nat := 0
def PySem.W.Fast.tw17165277264816268947 : Nat := 0
def PySem.W.Fast.tw14974427207858544918 : Nat := 0
def PySem.W.Fast.tw2889888012300122258 : Nat := 0
def PySem.W.Fast.tw2846458038646393987 : Nat := 0
def PySem.W.Fast.tw4246036225904349950 : Nat := 0
def PySem.W.Fast.tw17524691063318273833 : Nat := 0
def PySem.W.Fast.tw1970866917744236189 : Nat := 0
def PySem.W.Fast.tw9487361120822698280 : Nat := 0
def PySem.W.Fast.tw8117156027933283408 : Nat := 0
def PySem.W.Fast.tw17497596514840773890 : Nat := 0
def PySem.W.Fast.tw15472077435194643360 : Nat := 0
def PySem.W.Fast.tw9894978147401006041 : Nat := 0
def PySem.W.Fast.tw14898696789415478113 : Nat := 0
def PySem.W.Fast.tw4891234967478700797 : Nat := 0
def PySem.W.Fast.tw10489302013088708168 : Nat := 0
def PySem.W.Fast.tw3187428838941868412 : Nat := 0
def PySem.W.Fast.tw13898313342471176099 : Nat := 0
def PySem.W.Fast.tw13280272849226797994 : Nat := 0
def PySem.W.Fast.tw7989202270602076 : Nat := 0
def PySem.W.Fast.tw15284741230622236246 : Nat := 0
def PySem.W.Fast.tw16475117413321419405 : Nat := 0
def PySem.W.Fast.tw10774630540793563213 : Nat := 0
def PySem.W.Fast.tw14826506851509445555 : Nat := 0
def PySem.W.Fast.tw10782147944944799553 : Nat := 0
def PySem.W.Fast.tw2144536903457984234 : Nat := 0
def PySem.W.Fast.tw17045677761426452676 : Nat := 0
def PySem.W.Fast.tw14323924555197396612 : Nat := 0
def PySem.W.Fast.tw11698864147682842668 : Nat := 0
def PySem.W.Fast.tw9331520527609290331 : Nat := 0
def PySem.W.Fast.tw13868684748813137020 : Nat := 0
def PySem.W.Fast.tw17581502941494594692 : Nat := 0
def PySem.W.Fast.tw13688036015075038205 : Nat := 0
def PySem.W.Fast.tw4898686334795009603 : Nat := 0
def PySem.W.Fast.tw4805081480348159009 : Nat := 0
def PySem.W.Fast.tw13564852364356201869 : Nat := 0
def PySem.W.Fast.tw8324086563210899208 : Nat := 0
def PySem.W.Fast.tw8158660325218611243 : Nat := 0
def PySem.W.Fast.tw5621803089146346111 : Nat := 0
def PySem.W.Fast.tw4209203208832720795 : Nat := 0
def PySem.W.Fast.tw8526563504175276573 : Nat := 0
def PySem.W.Fast.tw4952671821764171611 : Nat := 0
def PySem.W.Fast.tw1346295739166057478 : Nat := 0
def PySem.W.Fast.tw3217049778501600015 : Nat := 0
def PySem.W.Fast.tw1937549986258229495 : Nat := 0
def PySem.W.Fast.tw18069616022122732086 : Nat := 0
def PySem.W.Fast.tw275938118318637671 : Nat := 0
def PySem.W.Fast.tw11668454033549299114 : Nat := 0
def PySem.W.Fast.tw2419056269917871872 : Nat := 0
def PySem.W.Fast.tw6005090117219098699 : Nat := 0
def PySem.W.Fast.tw6199754979104759275 : Nat := 0
def PySem.W.Fast.tw12663624928521406682 : Nat := 0
def PySem.W.Fast.tw10646259025595545405 : Nat := 0
def PySem.W.Fast.tw12446943698700236464 : Nat := 0
def PySem.W.Fast.tw11217892678486868767 : Nat := 0
def PySem.W.Fast.tw15228874551992747318 : Nat := 0
def PySem.W.Fast.tw17154580025373864359 : Nat := 0
def PySem.W.Fast.tw4271743579966080092 : Nat := 0
def PySem.W.Fast.tw16985514716638227842 : Nat := 0
def PySem.W.Fast.tw16857042587559083674 : Nat := 0
def PySem.W.Fast.tw13169778412356817458 : Nat := 0
def PySem.W.Fast.tw9015009990608533817 : Nat := 0
def PySem.W.Fast.tw5190769369538464401 : Nat := 0
def PySem.W.Fast.tw4542099383088058541 : Nat := 0
def PySem.W.Fast.tw1499702072878957748 : Nat := 0
def PySem.W.Fast.tw17638252977610217078 : Nat := 0
def PySem.W.Fast.tw3248322406621985644 : Nat := 0
def PySem.W.Fast.tw3262452987324947339 : Nat := 0
def PySem.W.Fast.tw11509461747072203389 : Nat := 0
def PySem.W.Fast.tw14307017849167966883 : Nat := 0
def PySem.W.Fast.tw13804682190650123213 : Nat := 0
def PySem.W.Fast.tw3977977817188614375 : Nat := 0
def PySem.W.Fast.tw2851673865042792034 : Nat := 0
def PySem.W.Fast.tw7352992820898205538 : Nat := 0
def PySem.W.Fast.tw8534048836739202785 : Nat := 0
def PySem.W.Fast.tw16747166194087257691 : Nat := 0
def PySem.W.Fast.tw5238712946828601791 : Nat := 0
def PySem.W.Fast.tw15227744890761622930 : Nat := 0
def PySem.W.Fast.tw3745764555007754037 : Nat := 0
def PySem.W.Fast.tw4363429209793116555 : Nat := 0
def PySem.W.Fast.tw9767890995250754799 : Nat := 0
def PySem.W.Fast.tw392451997378913805 : Nat := 0
def PySem.W.Fast.tw12479704685794848864 : Nat := 0
def PySem.W.Fast.tw12889287446781013026 : Nat := 0
def PySem.W.Fast.tw647942155238096345 : Nat := 0
def PySem.W.Fast.tw9809399694465643342 : Nat := 0
def PySem.W.Fast.tw7857774206706082118 : Nat := 0
def PySem.W.Fast.tw17322209690493381258 : Nat := 0
def PySem.W.Fast.tw17685944429717880970 : Nat := 0
def PySem.W.Fast.tw6928080319553917826 : Nat := 0
def PySem.W.Fast.tw15490449495227563718 : Nat := 0
def PySem.W.Fast.tw18171176046204364573 : Nat := 0
def PySem.W.Fast.tw10519532243347344793 : Nat := 0
def PySem.W.Fast.tw2753097549046417673 : Nat := 0
def PySem.W.Fast.tw3821829622305442600 : Nat := 0
def PySem.W.Fast.tw9164978018481781145 : Nat := 0
def PySem.W.Fast.tw12032088067864783904 : Nat := 0
def PySem.W.Fast.tw12716880982851320246 : Nat := 0
def PySem.W.Fast.tw2951129403499709431 : Nat := 0
def PySem.W.Fast.tw8437430942596072387 : Nat := 0
def PySem.W.Fast.tw692412305087514120 : Nat := 0
def PySem.W.Fast.tw14728593384416427032 : Nat := 0
def PySem.W.Fast.tw18373569021971881262 : Nat := 0
def PySem.W.Fast.tw2274619860149745546 : Nat := 0
def PySem.W.Fast.tw8180349357892963635 : Nat := 0
def PySem.W.Fast.tw1813777558444061142 : Nat := 0
def PySem.W.Fast.tw6475084647429989930 : Nat := 0
def PySem.W.Fast.tw14490626324146476254 : Nat := 0
def PySem.W.Fast.tw17716810037932146604 : Nat := 0
def PySem.W.Fast.tw4280801364278555883 : Nat := 0
def PySem.W.Fast.tw16529441879443797160 : Nat := 0
def PySem.W.Fast.tw1702529496486131731 : Nat := 0
def PySem.W.Fast.tw12970968283816612648 : Nat := 0
def PySem.W.Fast.tw3189824573259188200 : Nat := 0
def PySem.W.Fast.tw5806792374139716173 : Nat := 0
def PySem.W.Fast.tw13296257570000977346 : Nat := 0
def PySem.W.Fast.tw577755814422973244 : Nat := 0
def PySem.W.Fast.tw7808279728858502862 : Nat := 0
def PySem.W.Fast.tw9040517991061984867 : Nat := 0
def PySem.W.Fast.tw12651928519136460489 : Nat := 0
def PySem.W.Fast.tw8389244935655549901 : Nat := 0
def PySem.W.Fast.tw17309956676448746385 : Nat := 0
def PySem.W.Fast.tw16840247872714647061 : Nat := 0
def PySem.W.Fast.tw3573738888979161487 : Nat := 0
def PySem.W.Fast.tw14853523611401990957 : Nat := 0
def PySem.W.Fast.tw12226129377286995862 : Nat := 0
def PySem.W.Fast.tw4629617042192803049 : Nat := 0
namespace Rk
open PySem PySem.Spec PyProof.Rows L2
theorem all_mk {l : PySem.W.OpenLaw} {w : World} {K : PySem.W.Frag} {h : Heap} {mg : Str → Option Value} {fa f1 f2 f3 f4 f5 f6 f7 f8 f9 f10 f11 f12 f13 f14 f15 f16 f17 f18 f19 f20 f21 f22 f23 f24 f25 f26 f27 f28 f29 f30 f31 f32 : Addr} (X : K.In h) (G : h.Ns mainGlobals mg) (hfa : mg "law" = some (.ref fa))
    {od1 an1 od2 an2 od3 an3 od4 an4 od5 an5 od6 an6 od7 an7 od8 an8 od9 an9 od10 an10 od11 an11 od12 an12 od13 an13 od14 an14 od15 an15 od16 an16 od17 an17 od18 an18 od19 an19 od20 an20 od21 an21 od22 an22 od23 an23 od24 an24 od25 an25 od26 an26 od27 an27 od28 an28 od29 an29 od30 an30 od31 an31 od32 an32 : Option Addr} {sl1 sl2 sl3 sl4 sl5 sl6 sl7 sl8 sl9 sl10 sl11 sl12 sl13 sl14 sl15 sl16 sl17 sl18 sl19 sl20 sl21 sl22 sl23 sl24 sl25 sl26 sl27 sl28 sl29 sl30 sl31 sl32 : Array (Option Value)} {oc1 kV1 dc1 pm1 cd1 ct1 oc2 kV2 dc2 pm2 cd2 ct2 oc3 kV3 dc3 pm3 cd3 ct3 oc4 kV4 dc4 pm4 cd4 ct4 oc5 kV5 dc5 pm5 cd5 ct5 oc6 kV6 dc6 pm6 cd6 ct6 oc7 kV7 dc7 pm7 cd7 ct7 oc8 kV8 dc8 pm8 cd8 ct8 oc9 kV9 dc9 pm9 cd9 ct9 oc10 kV10 dc10 pm10 cd10 ct10 oc11 kV11 dc11 pm11 cd11 ct11 oc12 kV12 dc12 pm12 cd12 ct12 oc13 kV13 dc13 pm13 cd13 ct13 oc14 kV14 dc14 pm14 cd14 ct14 oc15 kV15 dc15 pm15 cd15 ct15 oc16 kV16 dc16 pm16 cd16 ct16 oc17 kV17 dc17 pm17 cd17 ct17 oc18 kV18 dc18 pm18 cd18 ct18 oc19 kV19 dc19 pm19 cd19 ct19 oc20 kV20 dc20 pm20 cd20 ct20 oc21 kV21 dc21 pm21 cd21 ct21 oc22 kV22 dc22 pm22 cd22 ct22 oc23 kV23 dc23 pm23 cd23 ct23 oc24 kV24 dc24 pm24 cd24 ct24 oc25 kV25 dc25 pm25 cd25 ct25 oc26 kV26 dc26 pm26 cd26 ct26 oc27 kV27 dc27 pm27 cd27 ct27 oc28 kV28 dc28 pm28 cd28 ct28 oc29 kV29 dc29 pm29 cd29 ct29 oc30 kV30 dc30 pm30 cd30 ct30 oc31 kV31 dc31 pm31 cd31 ct31 oc32 kV32 dc32 pm32 cd32 ct32 : Value}
    (a1 : PySem.W.nsIn K mainGlobals "is_whole" = some (some (.ref f1))) (l1 : K.lookup f1 = some ⟨oc1, od1, .func (PySem.W.fnOf "is_whole" "is_whole" (defArgs sWhole) (defBody sWhole) (defScope sWhole) .none kV1 dc1 pm1 an1 cd1 ct1), sl1⟩) (c1 : PySem.W.codeIn K cd1 "is_whole" = true) (k1 : PySem.W.keepIn K (.ref f1) = true)
    (a2 : PySem.W.nsIn K mainGlobals "is_whole_within" = some (some (.ref f2))) (l2 : K.lookup f2 = some ⟨oc2, od2, .func (PySem.W.fnOf "is_whole_within" "is_whole_within" (defArgs sWithin) (defBody sWithin) (defScope sWithin) .none kV2 dc2 pm2 an2 cd2 ct2), sl2⟩) (c2 : PySem.W.codeIn K cd2 "is_whole_within" = true) (k2 : PySem.W.keepIn K (.ref f2) = true)
    (a3 : PySem.W.nsIn K mainGlobals "how_many_orders" = some (some (.ref f3))) (l3 : K.lookup f3 = some ⟨oc3, od3, .func (PySem.W.fnOf "how_many_orders" "how_many_orders" (defArgs sOrders) (defBody sOrders) (defScope sOrders) .none kV3 dc3 pm3 an3 cd3 ct3), sl3⟩) (c3 : PySem.W.codeIn K cd3 "how_many_orders" = true) (k3 : PySem.W.keepIn K (.ref f3) = true)
    (a4 : PySem.W.nsIn K mainGlobals "how_many_sets" = some (some (.ref f4))) (l4 : K.lookup f4 = some ⟨oc4, od4, .func (PySem.W.fnOf "how_many_sets" "how_many_sets" (defArgs sSets) (defBody sSets) (defScope sSets) .none kV4 dc4 pm4 an4 cd4 ct4), sl4⟩) (c4 : PySem.W.codeIn K cd4 "how_many_sets" = true) (k4 : PySem.W.keepIn K (.ref f4) = true)
    (a5 : PySem.W.nsIn K mainGlobals "hits_by" = some (some (.ref f5))) (l5 : K.lookup f5 = some ⟨oc5, od5, .func (PySem.W.fnOf "hits_by" "hits_by" (defArgs sHBy) (defBody sHBy) (defScope sHBy) .none kV5 dc5 pm5 an5 cd5 ct5), sl5⟩) (c5 : PySem.W.codeIn K cd5 "hits_by" = true) (k5 : PySem.W.keepIn K (.ref f5) = true)
    (a6 : PySem.W.nsIn K mainGlobals "hits_at" = some (some (.ref f6))) (l6 : K.lookup f6 = some ⟨oc6, od6, .func (PySem.W.fnOf "hits_at" "hits_at" (defArgs sHAt) (defBody sHAt) (defScope sHAt) .none kV6 dc6 pm6 an6 cd6 ct6), sl6⟩) (c6 : PySem.W.codeIn K cd6 "hits_at" = true) (k6 : PySem.W.keepIn K (.ref f6) = true)
    (a7 : PySem.W.nsIn K mainGlobals "counts_by" = some (some (.ref f7))) (l7 : K.lookup f7 = some ⟨oc7, od7, .func (PySem.W.fnOf "counts_by" "counts_by" (defArgs sCBy) (defBody sCBy) (defScope sCBy) .none kV7 dc7 pm7 an7 cd7 ct7), sl7⟩) (c7 : PySem.W.codeIn K cd7 "counts_by" = true) (k7 : PySem.W.keepIn K (.ref f7) = true)
    (a8 : PySem.W.nsIn K mainGlobals "is_numbers" = some (some (.ref f8))) (l8 : K.lookup f8 = some ⟨oc8, od8, .func (PySem.W.fnOf "is_numbers" "is_numbers" (defArgs sIsN) (defBody sIsN) (defScope sIsN) .none kV8 dc8 pm8 an8 cd8 ct8), sl8⟩) (c8 : PySem.W.codeIn K cd8 "is_numbers" = true) (k8 : PySem.W.keepIn K (.ref f8) = true)
    (a9 : PySem.W.nsIn K mainGlobals "is_counts" = some (some (.ref f9))) (l9 : K.lookup f9 = some ⟨oc9, od9, .func (PySem.W.fnOf "is_counts" "is_counts" (defArgs sCounts) (defBody sCounts) (defScope sCounts) .none kV9 dc9 pm9 an9 cd9 ct9), sl9⟩) (c9 : PySem.W.codeIn K cd9 "is_counts" = true) (k9 : PySem.W.keepIn K (.ref f9) = true)
    (a10 : PySem.W.nsIn K mainGlobals "rest_counts" = some (some (.ref f10))) (l10 : K.lookup f10 = some ⟨oc10, od10, .func (PySem.W.fnOf "rest_counts" "rest_counts" (defArgs sRest) (defBody sRest) (defScope sRest) .none kV10 dc10 pm10 an10 cd10 ct10), sl10⟩) (c10 : PySem.W.codeIn K cd10 "rest_counts" = true) (k10 : PySem.W.keepIn K (.ref f10) = true)
    (a11 : PySem.W.nsIn K mainGlobals "rests_well" = some (some (.ref f11))) (l11 : K.lookup f11 = some ⟨oc11, od11, .func (PySem.W.fnOf "rests_well" "rests_well" (defArgs sWell) (defBody sWell) (defScope sWell) .none kV11 dc11 pm11 an11 cd11 ct11), sl11⟩) (c11 : PySem.W.codeIn K cd11 "rests_well" = true) (k11 : PySem.W.keepIn K (.ref f11) = true)
    (a12 : PySem.W.nsIn K mainGlobals "full_counts" = some (some (.ref f12))) (l12 : K.lookup f12 = some ⟨oc12, od12, .func (PySem.W.fnOf "full_counts" "full_counts" (defArgs sFulls) (defBody sFulls) (defScope sFulls) .none kV12 dc12 pm12 an12 cd12 ct12), sl12⟩) (c12 : PySem.W.codeIn K cd12 "full_counts" = true) (k12 : PySem.W.keepIn K (.ref f12) = true)
    (a13 : PySem.W.nsIn K mainGlobals "refuse_no_sizes" = some (some (.ref f13))) (l13 : K.lookup f13 = some ⟨oc13, od13, .func (PySem.W.fnOf "refuse_no_sizes" "refuse_no_sizes" (defArgs sRef) (defBody sRef) (defScope sRef) .none kV13 dc13 pm13 an13 cd13 ct13), sl13⟩) (c13 : PySem.W.codeIn K cd13 "refuse_no_sizes" = true) (k13 : PySem.W.keepIn K (.ref f13) = true)
    (a14 : PySem.W.nsIn K mainGlobals "rest_count" = some (some (.ref f14))) (l14 : K.lookup f14 = some ⟨oc14, od14, .func (PySem.W.fnOf "rest_count" "rest_count" (defArgs sRestC) (defBody sRestC) (defScope sRestC) .none kV14 dc14 pm14 an14 cd14 ct14), sl14⟩) (c14 : PySem.W.codeIn K cd14 "rest_count" = true) (k14 : PySem.W.keepIn K (.ref f14) = true)
    (a15 : PySem.W.nsIn K mainGlobals "full_count" = some (some (.ref f15))) (l15 : K.lookup f15 = some ⟨oc15, od15, .func (PySem.W.fnOf "full_count" "full_count" (defArgs sFull) (defBody sFull) (defScope sFull) .none kV15 dc15 pm15 an15 cd15 ct15), sl15⟩) (c15 : PySem.W.codeIn K cd15 "full_count" = true) (k15 : PySem.W.keepIn K (.ref f15) = true)
    (a16 : PySem.W.nsIn K mainGlobals "_law_cell_at" = some (some (.ref f16))) (l16 : K.lookup f16 = some ⟨oc16, od16, .func (PySem.W.fnOf "_law_cell_at" "_law_cell_at" (defArgs lCellAt) (defBody lCellAt) (defScope lCellAt) .none kV16 dc16 pm16 an16 cd16 ct16), sl16⟩) (c16 : PySem.W.codeIn K cd16 "_law_cell_at" = true) (k16 : PySem.W.keepIn K (.ref f16) = true)
    (a17 : PySem.W.nsIn K mainGlobals "_law_pot" = some (some (.ref f17))) (l17 : K.lookup f17 = some ⟨oc17, od17, .func (PySem.W.fnOf "_law_pot" "_law_pot" (defArgs lPot) (defBody lPot) (defScope lPot) .none kV17 dc17 pm17 an17 cd17 ct17), sl17⟩) (c17 : PySem.W.codeIn K cd17 "_law_pot" = true) (k17 : PySem.W.keepIn K (.ref f17) = true)
    (a18 : PySem.W.nsIn K mainGlobals "_law_take" = some (some (.ref f18))) (l18 : K.lookup f18 = some ⟨oc18, od18, .func (PySem.W.fnOf "_law_take" "_law_take" (defArgs lTake) (defBody lTake) (defScope lTake) .none kV18 dc18 pm18 an18 cd18 ct18), sl18⟩) (c18 : PySem.W.codeIn K cd18 "_law_take" = true) (k18 : PySem.W.keepIn K (.ref f18) = true)
    (a19 : PySem.W.nsIn K mainGlobals "_law_whole" = some (some (.ref f19))) (l19 : K.lookup f19 = some ⟨oc19, od19, .func (PySem.W.fnOf "_law_whole" "_law_whole" (defArgs lWhole) (defBody lWhole) (defScope lWhole) .none kV19 dc19 pm19 an19 cd19 ct19), sl19⟩) (c19 : PySem.W.codeIn K cd19 "_law_whole" = true) (k19 : PySem.W.keepIn K (.ref f19) = true)
    (a20 : PySem.W.nsIn K mainGlobals "_law_ways" = some (some (.ref f20))) (l20 : K.lookup f20 = some ⟨oc20, od20, .func (PySem.W.fnOf "_law_ways" "_law_ways" (defArgs lWays) (defBody lWays) (defScope lWays) .none kV20 dc20 pm20 an20 cd20 ct20), sl20⟩) (c20 : PySem.W.codeIn K cd20 "_law_ways" = true) (k20 : PySem.W.keepIn K (.ref f20) = true)
    (a21 : PySem.W.nsIn K mainGlobals "_law_orders" = some (some (.ref f21))) (l21 : K.lookup f21 = some ⟨oc21, od21, .func (PySem.W.fnOf "_law_orders" "_law_orders" (defArgs lOrders) (defBody lOrders) (defScope lOrders) .none kV21 dc21 pm21 an21 cd21 ct21), sl21⟩) (c21 : PySem.W.codeIn K cd21 "_law_orders" = true) (k21 : PySem.W.keepIn K (.ref f21) = true)
    (a22 : PySem.W.nsIn K mainGlobals "_law_word" = some (some (.ref f22))) (l22 : K.lookup f22 = some ⟨oc22, od22, .func (PySem.W.fnOf "_law_word" "_law_word" (defArgs lWord) (defBody lWord) (defScope lWord) .none kV22 dc22 pm22 an22 cd22 ct22), sl22⟩) (c22 : PySem.W.codeIn K cd22 "_law_word" = true) (k22 : PySem.W.keepIn K (.ref f22) = true)
    (a23 : PySem.W.nsIn K mainGlobals "_law_told" = some (some (.ref f23))) (l23 : K.lookup f23 = some ⟨oc23, od23, .func (PySem.W.fnOf "_law_told" "_law_told" (defArgs lTold) (defBody lTold) (defScope lTold) .none kV23 dc23 pm23 an23 cd23 ct23), sl23⟩) (c23 : PySem.W.codeIn K cd23 "_law_told" = true) (k23 : PySem.W.keepIn K (.ref f23) = true)
    (a24 : PySem.W.nsIn K mainGlobals "_law_asked" = some (some (.ref f24))) (l24 : K.lookup f24 = some ⟨oc24, od24, .func (PySem.W.fnOf "_law_asked" "_law_asked" (defArgs lAsked) (defBody lAsked) (defScope lAsked) .none kV24 dc24 pm24 an24 cd24 ct24), sl24⟩) (c24 : PySem.W.codeIn K cd24 "_law_asked" = true) (k24 : PySem.W.keepIn K (.ref f24) = true)
    (a25 : PySem.W.nsIn K mainGlobals "_law_are" = some (some (.ref f25))) (l25 : K.lookup f25 = some ⟨oc25, od25, .func (PySem.W.fnOf "_law_are" "_law_are" (defArgs lAre) (defBody lAre) (defScope lAre) .none kV25 dc25 pm25 an25 cd25 ct25), sl25⟩) (c25 : PySem.W.codeIn K cd25 "_law_are" = true) (k25 : PySem.W.keepIn K (.ref f25) = true)
    (a26 : PySem.W.nsIn K mainGlobals "_law_fine" = some (some (.ref f26))) (l26 : K.lookup f26 = some ⟨oc26, od26, .func (PySem.W.fnOf "_law_fine" "_law_fine" (defArgs lFine) (defBody lFine) (defScope lFine) .none kV26 dc26 pm26 an26 cd26 ct26), sl26⟩) (c26 : PySem.W.codeIn K cd26 "_law_fine" = true) (k26 : PySem.W.keepIn K (.ref f26) = true)
    (a27 : PySem.W.nsIn K mainGlobals "_law_hits" = some (some (.ref f27))) (l27 : K.lookup f27 = some ⟨oc27, od27, .func (PySem.W.fnOf "_law_hits" "_law_hits" (defArgs lHits) (defBody lHits) (defScope lHits) .none kV27 dc27 pm27 an27 cd27 ct27), sl27⟩) (c27 : PySem.W.codeIn K cd27 "_law_hits" = true) (k27 : PySem.W.keepIn K (.ref f27) = true)
    (a28 : PySem.W.nsIn K mainGlobals "_law_counts" = some (some (.ref f28))) (l28 : K.lookup f28 = some ⟨oc28, od28, .func (PySem.W.fnOf "_law_counts" "_law_counts" (defArgs lCounts) (defBody lCounts) (defScope lCounts) .none kV28 dc28 pm28 an28 cd28 ct28), sl28⟩) (c28 : PySem.W.codeIn K cd28 "_law_counts" = true) (k28 : PySem.W.keepIn K (.ref f28) = true)
    (a29 : PySem.W.nsIn K mainGlobals "_law_row" = some (some (.ref f29))) (l29 : K.lookup f29 = some ⟨oc29, od29, .func (PySem.W.fnOf "_law_row" "_law_row" (defArgs lRow) (defBody lRow) (defScope lRow) .none kV29 dc29 pm29 an29 cd29 ct29), sl29⟩) (c29 : PySem.W.codeIn K cd29 "_law_row" = true) (k29 : PySem.W.keepIn K (.ref f29) = true)
    (a30 : PySem.W.nsIn K mainGlobals "_law_rest" = some (some (.ref f30))) (l30 : K.lookup f30 = some ⟨oc30, od30, .func (PySem.W.fnOf "_law_rest" "_law_rest" (defArgs lRest) (defBody lRest) (defScope lRest) .none kV30 dc30 pm30 an30 cd30 ct30), sl30⟩) (c30 : PySem.W.codeIn K cd30 "_law_rest" = true) (k30 : PySem.W.keepIn K (.ref f30) = true)
    (a31 : PySem.W.nsIn K mainGlobals "_law_right" = some (some (.ref f31))) (l31 : K.lookup f31 = some ⟨oc31, od31, .func (PySem.W.fnOf "_law_right" "_law_right" (defArgs lRight) (defBody lRight) (defScope lRight) .none kV31 dc31 pm31 an31 cd31 ct31), sl31⟩) (c31 : PySem.W.codeIn K cd31 "_law_right" = true) (k31 : PySem.W.keepIn K (.ref f31) = true)
    (a32 : PySem.W.nsIn K mainGlobals "law" = some (some (.ref f32))) (l32 : K.lookup f32 = some ⟨oc32, od32, .func (PySem.W.fnOf "law" "law" (defArgs sLaw) (defBody sLaw) (defScope sLaw) .none kV32 dc32 pm32 an32 cd32 ct32), sl32⟩) (c32 : PySem.W.codeIn K cd32 "law" = true) (k32 : PySem.W.keepIn K (.ref f32) = true)
    (z1 : PySem.W.nsIn K mainGlobals "isinstance" = some none)
    (z2 : PySem.W.nsIn K mainGlobals "int" = some none)
    (z3 : PySem.W.nsIn K mainGlobals "bool" = some none)
    (z4 : PySem.W.nsIn K mainGlobals "str" = some none)
    (z5 : PySem.W.nsIn K mainGlobals "tuple" = some none)
    (z6 : PySem.W.nsIn K mainGlobals "list" = some none)
    (z7 : PySem.W.nsIn K mainGlobals "all" = some none)
    (z8 : PySem.W.nsIn K mainGlobals "len" = some none)
    (z9 : PySem.W.nsIn K mainGlobals "zip" = some none)
    (z10 : PySem.W.nsIn K mainGlobals "enumerate" = some none)
    (z11 : PySem.W.nsIn K mainGlobals "range" = some none)
    (z12 : PySem.W.nsIn K mainGlobals "max" = some none)
    (z13 : PySem.W.nsIn K mainGlobals "min" = some none)
    (z14 : PySem.W.nsIn K mainGlobals "sorted" = some none)
    (z15 : PySem.W.nsIn K mainGlobals "sum" = some none)
    (z16 : PySem.W.nsIn K mainGlobals "set" = some none)
    (z17 : PySem.W.nsIn K mainGlobals "any" = some none)
    (z18 : PySem.W.nsIn K mainGlobals "reversed" = some none)
    (z19 : PySem.W.nsIn K mainGlobals "divmod" = some none)
    (z20 : PySem.W.nsIn K mainGlobals "ValueError" = some none)
    {tA : _} (aA : PySem.W.nsIn K mainGlobals "MOST_COUNTED_LINES" = some (some (.int 12 tA)))
    {tB : _} (aB : PySem.W.nsIn K mainGlobals "LEAST_NUMBERS" = some (some (.int 2 tB)))
    {tC : _} (aC : PySem.W.nsIn K mainGlobals "MOST_NUMBERS" = some (some (.int 13 tC)))
    (zr : PySem.W.nsIn K mainGlobals "repr" = some none)
    {cc1 : Addr} (e1 : PySem.W.nsIn K mainGlobals "NoSize" = some (some (.ref cc1)))
    {cc2 : Addr} (e2 : PySem.W.nsIn K mainGlobals "TooMany" = some (some (.ref cc2)))
    {cc3 : Addr} (e3 : PySem.W.nsIn K mainGlobals "NoNumber" = some (some (.ref cc3)))
    {cc4 : Addr} (e4 : PySem.W.nsIn K mainGlobals "NoStand" = some (some (.ref cc4)))
    {cc5 : Addr} (e5 : PySem.W.nsIn K mainGlobals "NoHits" = some (some (.ref cc5)))
    {cc6 : Addr} (e6 : PySem.W.nsIn K mainGlobals "NoCounts" = some (some (.ref cc6)))
    {cc7 : Addr} (e7 : PySem.W.nsIn K mainGlobals "NoPlace" = some (some (.ref cc7)))
    {cc8 : Addr} (e8 : PySem.W.nsIn K mainGlobals "Double" = some (some (.ref cc8)))
    {cc9 : Addr} (e9 : PySem.W.nsIn K mainGlobals "NoCell" = some (some (.ref cc9)))
    {cc10 : Addr} (e10 : PySem.W.nsIn K mainGlobals "NoDeed" = some (some (.ref cc10)))
    {cc11 : Addr} (e11 : PySem.W.nsIn K mainGlobals "NotSquare" = some (some (.ref cc11)))
    {cc12 : Addr} (e12 : PySem.W.nsIn K mainGlobals "NoOrder" = some (some (.ref cc12)))
    {cR : Addr} (eR : PySem.W.nsIn K mainGlobals "RookError" = some (some (.ref cR)))
    (r1 : PySem.W.typeIn K (.ref cR) = some (.type "type"))
    {dR : _} (r2 : PySem.W.clsIn K cR = some dR)
    (r3 : PySem.W.mroIn K cR (.type "BaseException") = some true)
    (u1 : PySem.W.specialIn K (.builtin "object.__class__") "__get__" = some (some (.builtin "getset_descriptor.__get__")))
    (u2 : PySem.W.takesIn K (.builtin "object.__class__") = some true)
    (q1x : PySem.W.excIn K cc1 Rx.mroV "ValueError.__new__" = true)
    (q1r : PySem.W.mroIn K cc1 (.ref cR) = some true)
    (q1g : PySem.W.findIn K (.ref cc1) "__getattribute__" = some (some (.builtin "BaseException.__getattribute__")))
    (q1h : PySem.W.findIn K (.ref cc1) "__getattr__" = some none)
    (q1b : PySem.W.mroIn K cc1 (.type "BaseException") = some true)
    {dq1 : _} (q1c : PySem.W.clsIn K cc1 = some dq1)
    (q1a : PySem.W.findIn K (.ref cc1) "__class__" = some (some (.builtin "object.__class__")))
    (q1o : PySem.W.mroIn K cc1 (.type "object") = some true)
    (q1v : PySem.W.kitOne K (.ref cc1) (.type "ValueError") = some true)
    (q1k1 : PySem.W.kitOne K (.ref cc1) (.ref cc1) = some true)
    (q1k2 : PySem.W.kitOne K (.ref cc1) (.ref cc2) = some false)
    (q1k3 : PySem.W.kitOne K (.ref cc1) (.ref cc3) = some false)
    (q1k4 : PySem.W.kitOne K (.ref cc1) (.ref cc4) = some false)
    (q1k5 : PySem.W.kitOne K (.ref cc1) (.ref cc5) = some false)
    (q1k6 : PySem.W.kitOne K (.ref cc1) (.ref cc6) = some false)
    (q1k7 : PySem.W.kitOne K (.ref cc1) (.ref cc7) = some false)
    (q1k8 : PySem.W.kitOne K (.ref cc1) (.ref cc8) = some false)
    (q1k9 : PySem.W.kitOne K (.ref cc1) (.ref cc9) = some false)
    (q1k10 : PySem.W.kitOne K (.ref cc1) (.ref cc10) = some false)
    (q1k11 : PySem.W.kitOne K (.ref cc1) (.ref cc11) = some false)
    (q1k12 : PySem.W.kitOne K (.ref cc1) (.ref cc12) = some false)
    (q5x : PySem.W.excIn K cc5 Rx.mroV "ValueError.__new__" = true)
    (q5r : PySem.W.mroIn K cc5 (.ref cR) = some true)
    (q5g : PySem.W.findIn K (.ref cc5) "__getattribute__" = some (some (.builtin "BaseException.__getattribute__")))
    (q5h : PySem.W.findIn K (.ref cc5) "__getattr__" = some none)
    (q5b : PySem.W.mroIn K cc5 (.type "BaseException") = some true)
    {dq5 : _} (q5c : PySem.W.clsIn K cc5 = some dq5)
    (q5a : PySem.W.findIn K (.ref cc5) "__class__" = some (some (.builtin "object.__class__")))
    (q5o : PySem.W.mroIn K cc5 (.type "object") = some true)
    (q5v : PySem.W.kitOne K (.ref cc5) (.type "ValueError") = some true)
    (q5k1 : PySem.W.kitOne K (.ref cc5) (.ref cc1) = some false)
    (q5k2 : PySem.W.kitOne K (.ref cc5) (.ref cc2) = some false)
    (q5k3 : PySem.W.kitOne K (.ref cc5) (.ref cc3) = some false)
    (q5k4 : PySem.W.kitOne K (.ref cc5) (.ref cc4) = some false)
    (q5k5 : PySem.W.kitOne K (.ref cc5) (.ref cc5) = some true)
    (q5k6 : PySem.W.kitOne K (.ref cc5) (.ref cc6) = some false)
    (q5k7 : PySem.W.kitOne K (.ref cc5) (.ref cc7) = some false)
    (q5k8 : PySem.W.kitOne K (.ref cc5) (.ref cc8) = some false)
    (q5k9 : PySem.W.kitOne K (.ref cc5) (.ref cc9) = some false)
    (q5k10 : PySem.W.kitOne K (.ref cc5) (.ref cc10) = some false)
    (q5k11 : PySem.W.kitOne K (.ref cc5) (.ref cc11) = some false)
    (q5k12 : PySem.W.kitOne K (.ref cc5) (.ref cc12) = some false)
    (q6x : PySem.W.excIn K cc6 Rx.mroV "ValueError.__new__" = true)
    (q6r : PySem.W.mroIn K cc6 (.ref cR) = some true)
    (q6g : PySem.W.findIn K (.ref cc6) "__getattribute__" = some (some (.builtin "BaseException.__getattribute__")))
    (q6h : PySem.W.findIn K (.ref cc6) "__getattr__" = some none)
    (q6b : PySem.W.mroIn K cc6 (.type "BaseException") = some true)
    {dq6 : _} (q6c : PySem.W.clsIn K cc6 = some dq6)
    (q6a : PySem.W.findIn K (.ref cc6) "__class__" = some (some (.builtin "object.__class__")))
    (q6o : PySem.W.mroIn K cc6 (.type "object") = some true)
    (q6v : PySem.W.kitOne K (.ref cc6) (.type "ValueError") = some true)
    (q6k1 : PySem.W.kitOne K (.ref cc6) (.ref cc1) = some false)
    (q6k2 : PySem.W.kitOne K (.ref cc6) (.ref cc2) = some false)
    (q6k3 : PySem.W.kitOne K (.ref cc6) (.ref cc3) = some false)
    (q6k4 : PySem.W.kitOne K (.ref cc6) (.ref cc4) = some false)
    (q6k5 : PySem.W.kitOne K (.ref cc6) (.ref cc5) = some false)
    (q6k6 : PySem.W.kitOne K (.ref cc6) (.ref cc6) = some true)
    (q6k7 : PySem.W.kitOne K (.ref cc6) (.ref cc7) = some false)
    (q6k8 : PySem.W.kitOne K (.ref cc6) (.ref cc8) = some false)
    (q6k9 : PySem.W.kitOne K (.ref cc6) (.ref cc9) = some false)
    (q6k10 : PySem.W.kitOne K (.ref cc6) (.ref cc10) = some false)
    (q6k11 : PySem.W.kitOne K (.ref cc6) (.ref cc11) = some false)
    (q6k12 : PySem.W.kitOne K (.ref cc6) (.ref cc12) = some false)
    :
    ∃ fd : FuncData, (∀ (s : Shared) (v : Value), BindsTo s fd ⟨[v], []⟩ [("_law_script", v)]) ∧ ∀ base : Heap, K.In base → base.Ns mainGlobals mg → FnOk l.prog w K mg base CX0 10 fa fd ["_law_script"] (Dl.spLawD K) := by
  have e := hfa.symm.trans (PySem.W.mg_of X G a32)
  cases e
  have T := (⟨(PySem.W.mg_none_of X G z1), (PySem.W.mg_none_of X G z2), (PySem.W.mg_none_of X G z3), (PySem.W.mg_none_of X G z4), (PySem.W.mg_none_of X G z5), (PySem.W.mg_none_of X G z6), (PySem.W.mg_none_of X G z7), (PySem.W.mg_none_of X G z8), (PySem.W.mg_none_of X G z9), (PySem.W.mg_none_of X G z10), (PySem.W.mg_none_of X G z11), (PySem.W.mg_none_of X G z12), (PySem.W.mg_none_of X G z13), (PySem.W.mg_none_of X G z14), (PySem.W.mg_none_of X G z15), (PySem.W.mg_none_of X G z16), (PySem.W.mg_none_of X G z17), (PySem.W.mg_none_of X G z18), (PySem.W.mg_none_of X G z19)⟩ : GlbA mg)
  have F1 := fun_mk (st := sWhole) l1 c1 k1
  have b1 := F1.binds (ps := ["thing"]) fun _ _ _ _ _ _ us hl => match us, hl with | [_], _ => rfl
  have m1 := PySem.W.mg_of X G a1
  have F2 := fun_mk (st := sWithin) l2 c2 k2
  have b2 := F2.binds (ps := ["thing", "least", "most"]) fun _ _ _ _ _ _ us hl => match us, hl with | [_, _, _], _ => rfl
  have m2 := PySem.W.mg_of X G a2
  have F3 := fun_mk (st := sOrders) l3 c3 k3
  have b3 := F3.binds (ps := ["many"]) fun _ _ _ _ _ _ us hl => match us, hl with | [_], _ => rfl
  have m3 := PySem.W.mg_of X G a3
  have F4 := fun_mk (st := sSets) l4 c4 k4
  have b4 := F4.binds (ps := ["many", "size"]) fun _ _ _ _ _ _ us hl => match us, hl with | [_, _], _ => rfl
  have m4 := PySem.W.mg_of X G a4
  have F5 := fun_mk (st := sHBy) l5 c5 k5
  have b5 := F5.binds (ps := ["counts"]) fun _ _ _ _ _ _ us hl => match us, hl with | [_], _ => rfl
  have m5 := PySem.W.mg_of X G a5
  have F6 := fun_mk (st := sHAt) l6 c6 k6
  have b6 := F6.binds (ps := ["through", "many"]) fun _ _ _ _ _ _ us hl => match us, hl with | [_, _], _ => rfl
  have m6 := PySem.W.mg_of X G a6
  have F7 := fun_mk (st := sCBy) l7 c7 k7
  have b7 := F7.binds (ps := ["hits"]) fun _ _ _ _ _ _ us hl => match us, hl with | [_], _ => rfl
  have m7 := PySem.W.mg_of X G a7
  have F8 := fun_mk (st := sIsN) l8 c8 k8
  have b8 := F8.binds (ps := ["thing"]) fun _ _ _ _ _ _ us hl => match us, hl with | [_], _ => rfl
  have m8 := PySem.W.mg_of X G a8
  have F9 := fun_mk (st := sCounts) l9 c9 k9
  have b9 := F9.binds (ps := ["high", "wide", "thing"]) fun _ _ _ _ _ _ us hl => match us, hl with | [_, _, _], _ => rfl
  have m9 := PySem.W.mg_of X G a9
  have F10 := fun_mk (st := sRest) l10 c10 k10
  have b10 := F10.binds (ps := ["high", "wide", "counts"]) fun _ _ _ _ _ _ us hl => match us, hl with | [_, _, _], _ => rfl
  have m10 := PySem.W.mg_of X G a10
  have F11 := fun_mk (st := sWell) l11 c11 k11
  have b11 := F11.binds (ps := ["high", "wide", "counts"]) fun _ _ _ _ _ _ us hl => match us, hl with | [_, _, _], _ => rfl
  have m11 := PySem.W.mg_of X G a11
  have F12 := fun_mk (st := sFulls) l12 c12 k12
  have b12 := F12.binds (ps := ["high", "wide"]) fun _ _ _ _ _ _ us hl => match us, hl with | [_, _], _ => rfl
  have m12 := PySem.W.mg_of X G a12
  have F13 := fun_mk (st := sRef) l13 c13 k13
  have b13 := F13.binds (ps := ["high", "wide"]) fun _ _ _ _ _ _ us hl => match us, hl with | [_, _], _ => rfl
  have m13 := PySem.W.mg_of X G a13
  have F14 := fun_mk (st := sRestC) l14 c14 k14
  have b14 := F14.binds (ps := ["high", "wide", "counts", "size"]) fun _ _ _ _ _ _ us hl => match us, hl with | [_, _, _, _], _ => rfl
  have m14 := PySem.W.mg_of X G a14
  have F15 := fun_mk (st := sFull) l15 c15 k15
  have b15 := F15.binds (ps := ["high", "wide", "size"]) fun _ _ _ _ _ _ us hl => match us, hl with | [_, _, _], _ => rfl
  have m15 := PySem.W.mg_of X G a15
  have F16 := fun_mk (st := lCellAt) l16 c16 k16
  have b16 := F16.binds (ps := ["_law_script", "_law_k"]) fun _ _ _ _ _ _ us hl => match us, hl with | [_, _], _ => rfl
  have m16 := PySem.W.mg_of X G a16
  have F17 := fun_mk (st := lPot) l17 c17 k17
  have b17 := F17.binds (ps := ["_law_cell"]) fun _ _ _ _ _ _ us hl => match us, hl with | [_], _ => rfl
  have m17 := PySem.W.mg_of X G a17
  have F18 := fun_mk (st := lTake) l18 c18 k18
  have b18 := F18.binds (ps := ["_law_pot_here", "_law_far"]) fun _ _ _ _ _ _ us hl => match us, hl with | [_, _], _ => rfl
  have m18 := PySem.W.mg_of X G a18
  have F19 := fun_mk (st := lWhole) l19 c19 k19
  have b19 := F19.binds (ps := ["_law_found"]) fun _ _ _ _ _ _ us hl => match us, hl with | [_], _ => rfl
  have m19 := PySem.W.mg_of X G a19
  have F20 := fun_mk (st := lWays) l20 c20 k20
  have b20 := F20.binds (ps := ["_law_many", "_law_some"]) fun _ _ _ _ _ _ us hl => match us, hl with | [_, _], _ => rfl
  have m20 := PySem.W.mg_of X G a20
  have F21 := fun_mk (st := lOrders) l21 c21 k21
  have b21 := F21.binds (ps := ["_law_many"]) fun _ _ _ _ _ _ us hl => match us, hl with | [_], _ => rfl
  have m21 := PySem.W.mg_of X G a21
  have F22 := fun_mk (st := lWord) l22 c22 k22
  have b22 := F22.binds (ps := ["_law_e"]) fun _ _ _ _ _ _ us hl => match us, hl with | [_], _ => rfl
  have m22 := PySem.W.mg_of X G a22
  have F23 := fun_mk (st := lTold) l23 c23 k23
  have b23 := F23.binds (ps := ["_law_way", "_law_numbers", "_law_high", "_law_wide"]) fun _ _ _ _ _ _ us hl => match us, hl with | [_, _, _, _], _ => rfl
  have m23 := PySem.W.mg_of X G a23
  have F24 := fun_mk (st := lAsked) l24 c24 k24
  have b24 := F24.binds (ps := ["_law_way", "_law_numbers", "_law_high", "_law_wide", "_law_due"]) fun _ _ _ _ _ _ us hl => match us, hl with | [_, _, _, _, _], _ => rfl
  have m24 := PySem.W.mg_of X G a24
  have F25 := fun_mk (st := lAre) l25 c25 k25
  have b25 := F25.binds (ps := ["_law_thing", "_law_least", "_law_most"]) fun _ _ _ _ _ _ us hl => match us, hl with | [_, _, _], _ => rfl
  have m25 := PySem.W.mg_of X G a25
  have F26 := fun_mk (st := lFine) l26 c26 k26
  have b26 := F26.binds (ps := ["_law_thing"]) fun _ _ _ _ _ _ us hl => match us, hl with | [_], _ => rfl
  have m26 := PySem.W.mg_of X G a26
  have F27 := fun_mk (st := lHits) l27 c27 k27
  have b27 := F27.binds (ps := ["_law_numbers"]) fun _ _ _ _ _ _ us hl => match us, hl with | [_], _ => rfl
  have m27 := PySem.W.mg_of X G a27
  have F28 := fun_mk (st := lCounts) l28 c28 k28
  have b28 := F28.binds (ps := ["_law_hits_here"]) fun _ _ _ _ _ _ us hl => match us, hl with | [_], _ => rfl
  have m28 := PySem.W.mg_of X G a28
  have F29 := fun_mk (st := lRow) l29 c29 k29
  have b29 := F29.binds (ps := ["_law_high", "_law_wide", "_law_thing"]) fun _ _ _ _ _ _ us hl => match us, hl with | [_, _, _], _ => rfl
  have m29 := PySem.W.mg_of X G a29
  have F30 := fun_mk (st := lRest) l30 c30 k30
  have b30 := F30.binds (ps := ["_law_high", "_law_wide", "_law_numbers"]) fun _ _ _ _ _ _ us hl => match us, hl with | [_, _, _], _ => rfl
  have m30 := PySem.W.mg_of X G a30
  have F31 := fun_mk (st := lRight) l31 c31 k31
  have b31 := F31.binds (ps := ["_law_numbers", "_law_high", "_law_wide"]) fun _ _ _ _ _ _ us hl => match us, hl with | [_, _, _], _ => rfl
  have m31 := PySem.W.mg_of X G a31
  have F32 := fun_mk (st := sLaw) l32 c32 k32
  refine ⟨PySem.W.fnOf "law" "law" (defArgs sLaw) (defBody sLaw) (defScope sLaw) .none kV32 dc32 pm32 an32 cd32 ct32, fun s v => .of_eq rfl, fun base _ _ => ?_⟩
  have G1 : FnOk l.prog w K mg base CX0 1 f1 _ ["thing"] (Dl.toSp false Dl.wholeD) := ok_whole F1 T 
  have G2 : FnOk l.prog w K mg base CX0 2 f2 _ ["thing", "least", "most"] (Dl.toSp false withinD) := ok_within F2 T m1 G1 b1 k1
  have G13 : FnOk l.prog w K mg base (Rx.CXE l.prog w) 3 f13 _ ["high", "wide"] (Dl.toSp false (refXD cc1)) := ok_refs ⟨_, PySem.W.mg_of X G aA⟩ F13 T m2 G2 b2 k2 (PySem.W.mg_of X G e1) q1x
  have G9 : FnOk l.prog w K mg base (Rx.CXE l.prog w) 4 f9 _ ["high", "wide", "thing"] (Dl.toSp false (cntXD cc1)) := ok_counts F9 T m1 G1 b1 k1 m13 G13 b13 k13
  have G3 : FnOk l.prog w K mg base CX0 1 f3 _ ["many"] (Dl.toSp false ordersD) := ok_orders F3 T 
  have G4 : FnOk l.prog w K mg base CX0 1 f4 _ ["many", "size"] (Dl.toSp false setsD) := ok_sets F4 T 
  have G15 : FnOk l.prog w K mg base CX0 2 f15 _ ["high", "wide", "size"] (Dl.toSp false fullD) := ok_full F15 T m4 G4 b4 k4 m3 G3 b3 k3
  have G12 : FnOk l.prog w K mg base (Rx.CXE l.prog w) 4 f12 _ ["high", "wide"] (Dl.toSp true (fullsXD cc1)) := ok_fulls F12 T m13 G13 b13 k13 m15 G15 b15 k15
  have G14 : FnOk l.prog w K mg base CX0 3 f14 _ ["high", "wide", "counts", "size"] (Dl.toSp false restcD) := ok_restc F14 T m15 G15 b15 k15
  have G10 : FnOk l.prog w K mg base (Rx.CXE l.prog w) 5 f10 _ ["high", "wide", "counts"] (Dl.toSp true (restXD cc1 cc6)) := ok_rest F10 T m9 G9 b9 k9 m14 G14 b14 k14 (PySem.W.mg_of X G e6) q6x
  have G11 : FnOk l.prog w K mg base (Rx.CXE l.prog w) 6 f11 _ ["high", "wide", "counts"] (Dl.toSp false (wellXD cc1 cc6)) := ok_well F11 T m9 G9 b9 k9 m10 G10 b10 k10
  have G8 : FnOk l.prog w K mg base CX0 2 f8 _ ["thing"] (Dl.toSp false inXD) := ok_inu ⟨_, PySem.W.mg_of X G aB⟩ ⟨_, PySem.W.mg_of X G aC⟩ F8 T m1 G1 b1 k1
  have G6 : FnOk l.prog w K mg base CX0 2 f6 _ ["through", "many"] (Dl.toSp false hatXD) := ok_hat F6 T m4 G4 b4 k4
  have G5 : FnOk l.prog w K mg base (Rx.CXE l.prog w) 4 f5 _ ["counts"] (Dl.toSp true (hbXD cc6)) := ok_hby F5 T m8 G8 b8 k8 m3 G3 b3 k3 m6 G6 b6 k6 (PySem.W.mg_of X G e6) q6x
  have G7 : FnOk l.prog w K mg base (Rx.CXE l.prog w) 4 f7 _ ["hits"] (Dl.toSp true (cbXD cc5)) := ok_cby F7 T m8 G8 b8 k8 m4 G4 b4 k4 m3 G3 b3 k3 (PySem.W.mg_of X G e5) q5x
  have G16 : FnOk l.prog w K mg base CX0 1 f16 _ ["_law_script", "_law_k"] (spCellAt K) := ok_cellAt F16 T 
  have G17 : FnOk l.prog w K mg base CX0 1 f17 _ ["_law_cell"] (Dl.toSp true Dl.potD) := (ok_pot F17 T).imp fun _ _ _ _ h => Dl.pot_d h
  have G18 : FnOk l.prog w K mg base CX0 1 f18 _ ["_law_pot_here", "_law_far"] (Dl.toSp true Dl.takeD) := (ok_take F18 T).imp fun _ _ _ _ h => Dl.take_d h
  have G19 : FnOk l.prog w K mg base CX0 1 f19 _ ["_law_found"] (Dl.toSp false Dl.wholeD) := ok_lwhole F19 T 
  have G20 : FnOk l.prog w K mg base CX0 1 f20 _ ["_law_many", "_law_some"] (Dl.toSp false waysXD) := ok_lways F20 T 
  have G21 : FnOk l.prog w K mg base CX0 1 f21 _ ["_law_many"] (Dl.toSp false ordersD) := ok_lord F21 T 
  have G25 : FnOk l.prog w K mg base CX0 2 f25 _ ["_law_thing", "_law_least", "_law_most"] (Dl.toSp false areD) := ok_are F25 T m19 G19 b19 k19
  have G26 : FnOk l.prog w K mg base CX0 3 f26 _ ["_law_thing"] (Dl.toSp false fineD) := ok_fine F26 T m25 G25 b25 k25
  have G27 : FnOk l.prog w K mg base CX0 2 f27 _ ["_law_numbers"] (Dl.toSp true lhitsD) := ok_lhits F27 T m20 G20 b20 k20 m21 G21 b21 k21
  have G28 : FnOk l.prog w K mg base CX0 2 f28 _ ["_law_hits_here"] (Dl.toSp true lcntsD) := ok_lcnts F28 T m20 G20 b20 k20 m21 G21 b21 k21
  have G29 : FnOk l.prog w K mg base CX0 3 f29 _ ["_law_high", "_law_wide", "_law_thing"] (Dl.toSp false lrowD) := ok_lrow F29 T m25 G25 b25 k25
  have G30 : FnOk l.prog w K mg base CX0 2 f30 _ ["_law_high", "_law_wide", "_law_numbers"] (Dl.toSp true lrestD) := ok_lrest F30 T m20 G20 b20 k20 m21 G21 b21 k21
  have G22 : Rx.FnM l.prog w K mg base 1 f22 _ ["_law_e"] (spKind3 K [cc1, cc2, cc3, cc4, cc5, cc6, cc7, cc8, cc9, cc10, cc11, cc12]) := ok_word F22 T (PySem.W.mg_none_of X G z20) (PySem.W.mg_of X G e1) (PySem.W.mg_of X G e2) (PySem.W.mg_of X G e3) (PySem.W.mg_of X G e4) (PySem.W.mg_of X G e5) (PySem.W.mg_of X G e6) (PySem.W.mg_of X G e7) (PySem.W.mg_of X G e8) (PySem.W.mg_of X G e9) (PySem.W.mg_of X G e10) (PySem.W.mg_of X G e11) (PySem.W.mg_of X G e12)
  have G23 : FnOk l.prog w K mg base CX0 7 f23 _ ["_law_way", "_law_numbers", "_law_high", "_law_wide"] (Dl.toSp true toldXD) := ok_told F23 T m5 G5 b5 k5 m7 G7 b7 k7 m9 G9 b9 k9 m10 G10 b10 k10 m11 G11 b11 k11 m12 G12 b12 k12 m22 G22 b22 k22 (PySem.W.mg_of X G eR) (⟨⟨r1, (by rw [r2]; rfl), r3, q1r⟩, [true, false, false, false, false, false, false, false, false, false, false, false], 0, ⟨q1g, q1h, q1b, (by rw [q1c]; rfl), q1a, u1, u2, q1o⟩, (.cons q1k1 (.cons q1k2 (.cons q1k3 (.cons q1k4 (.cons q1k5 (.cons q1k6 (.cons q1k7 (.cons q1k8 (.cons q1k9 (.cons q1k10 (.cons q1k11 (.cons q1k12 .nil)))))))))))), q1v, rfl, rfl, (by decide), rfl⟩ : KOk3 K [cc1, cc2, cc3, cc4, cc5, cc6, cc7, cc8, cc9, cc10, cc11, cc12] cR cc1 "size") (⟨⟨r1, (by rw [r2]; rfl), r3, q6r⟩, [false, false, false, false, false, true, false, false, false, false, false, false], 5, ⟨q6g, q6h, q6b, (by rw [q6c]; rfl), q6a, u1, u2, q6o⟩, (.cons q6k1 (.cons q6k2 (.cons q6k3 (.cons q6k4 (.cons q6k5 (.cons q6k6 (.cons q6k7 (.cons q6k8 (.cons q6k9 (.cons q6k10 (.cons q6k11 (.cons q6k12 .nil)))))))))))), q6v, rfl, rfl, (by decide), rfl⟩ : KOk3 K [cc1, cc2, cc3, cc4, cc5, cc6, cc7, cc8, cc9, cc10, cc11, cc12] cR cc6 "counts") (⟨⟨r1, (by rw [r2]; rfl), r3, q5r⟩, [false, false, false, false, true, false, false, false, false, false, false, false], 4, ⟨q5g, q5h, q5b, (by rw [q5c]; rfl), q5a, u1, u2, q5o⟩, (.cons q5k1 (.cons q5k2 (.cons q5k3 (.cons q5k4 (.cons q5k5 (.cons q5k6 (.cons q5k7 (.cons q5k8 (.cons q5k9 (.cons q5k10 (.cons q5k11 (.cons q5k12 .nil)))))))))))), q5v, rfl, rfl, (by decide), rfl⟩ : KOk3 K [cc1, cc2, cc3, cc4, cc5, cc6, cc7, cc8, cc9, cc10, cc11, cc12] cR cc5 "hits")
  have G24 : FnOk l.prog w K mg base CX0 8 f24 _ ["_law_way", "_law_numbers", "_law_high", "_law_wide", "_law_due"] (Dl.toSp false askedD) := ok_asked (PySem.W.mg_none_of X G zr) F24 T m23 G23 b23 k23
  have G31 : FnOk l.prog w K mg base CX0 9 f31 _ ["_law_numbers", "_law_high", "_law_wide"] (Dl.toSp false rightD) := ok_right F31 T m26 G26 b26 k26 m27 G27 b27 k27 m25 G25 b25 k25 m28 G28 b28 k28 m29 G29 b29 k29 m30 G30 b30 k30 m24 G24 b24 k24
  exact ok_law F32 T m16 G16 b16 k16 m17 G17 b17 k17 m18 G18 b18 k18 m20 G20 b20 k20 m21 G21 b21 k21 m27 G27 b27 k27 m23 G23 b23 k23 m24 G24 b24 k24 m31 G31 b31 k31
theorem walk {l : PySem.W.OpenLaw} {q : Program} {loose : List Str} {XP : (Str → Option Value) → Heap → Prop} {YP : World → Heap → Prop} {d : DefRec} {K : Params → PySem.W.Frag} (hn : l.most = some 63) (hdf : d.params.defaults = [])
    (hY : ∀ (w : World) (h : Heap), YP w h → (K w.params).In h)
    (F : ∀ (w : World) (mg : Str → Option Value) (fa : Addr) (h : Heap), (K w.params).In h → h.Ns mainGlobals mg → mg d.name = some (.ref fa) →
      ∃ fd : FuncData, (∀ (s : Shared) (u : Value), BindsTo s fd ⟨[u], []⟩ [("_law_script", u)]) ∧ ∀ base : Heap, (K w.params).In base → base.Ns mainGlobals mg → FnOk l.prog w (K w.params) mg base CX0 10 fa fd ["_law_script"] (Dl.spLawD (K w.params))) :
    PySem.W.WalkO q loose XP YP l.row.toRowW d [] (fun f vs => PySem.call f vs) :=
  L2.walk_of (n := 63) (k := 10) (x := "_law_script") (CX := fun _ => CX0) (sp := fun w => (Dl.spLawD (K w.params))) hn (by decide) hdf ⟨rfl, by decide, by decide, rfl⟩ hY F (fun _ _ a ns hl _ hS => ⟨a, ns, rfl, hS, hl, fun _ => rfl⟩) fun _ _ _ _ _ z => z
end Rk
open PySem PySem.W PyProof.Rows
set_option maxRecDepth 100000 in
set_option maxHeartbeats 0 in
theorem PySem.Challenge.cw_rooklands_k46_numbers_spoilt_at_any_plac_holds : PySem.Challenge.rw_rooklands_k46_numbers_spoilt_at_any_plac.Holds := by
  w_on; o_law; k_head; (case hw => w_witness2)
  k_fill
  refine Rk.walk (l := PySem.Challenge.rw_rooklands_k46_numbers_spoilt_at_any_plac) rfl rfl (fun w h Y => PySem.W.kIn_of Y) ?F
  case F =>
    intro w mg fa h KX G hmg
    refine' Rk.all_mk KX G hmg ?a1 ?l1 ?c1 ?k1 ?a2 ?l2 ?c2 ?k2 ?a3 ?l3 ?c3 ?k3 ?a4 ?l4 ?c4 ?k4 ?a5 ?l5 ?c5 ?k5 ?a6 ?l6 ?c6 ?k6 ?a7 ?l7 ?c7 ?k7 ?a8 ?l8 ?c8 ?k8 ?a9 ?l9 ?c9 ?k9 ?a10 ?l10 ?c10 ?k10 ?a11 ?l11 ?c11 ?k11 ?a12 ?l12 ?c12 ?k12 ?a13 ?l13 ?c13 ?k13 ?a14 ?l14 ?c14 ?k14 ?a15 ?l15 ?c15 ?k15 ?a16 ?l16 ?c16 ?k16 ?a17 ?l17 ?c17 ?k17 ?a18 ?l18 ?c18 ?k18 ?a19 ?l19 ?c19 ?k19 ?a20 ?l20 ?c20 ?k20 ?a21 ?l21 ?c21 ?k21 ?a22 ?l22 ?c22 ?k22 ?a23 ?l23 ?c23 ?k23 ?a24 ?l24 ?c24 ?k24 ?a25 ?l25 ?c25 ?k25 ?a26 ?l26 ?c26 ?k26 ?a27 ?l27 ?c27 ?k27 ?a28 ?l28 ?c28 ?k28 ?a29 ?l29 ?c29 ?k29 ?a30 ?l30 ?c30 ?k30 ?a31 ?l31 ?c31 ?k31 ?a32 ?l32 ?c32 ?k32 ?z1 ?z2 ?z3 ?z4 ?z5 ?z6 ?z7 ?z8 ?z9 ?z10 ?z11 ?z12 ?z13 ?z14 ?z15 ?z16 ?z17 ?z18 ?z19 ?z20 ?aA ?aB ?aC ?zr ?e1 ?e2 ?e3 ?e4 ?e5 ?e6 ?e7 ?e8 ?e9 ?e10 ?e11 ?e12 ?eR ?r1 ?r2 ?r3 ?u1 ?u2 ?q1x ?q1r ?q1g ?q1h ?q1b ?q1c ?q1a ?q1o ?q1v ?q1k1 ?q1k2 ?q1k3 ?q1k4 ?q1k5 ?q1k6 ?q1k7 ?q1k8 ?q1k9 ?q1k10 ?q1k11 ?q1k12 ?q5x ?q5r ?q5g ?q5h ?q5b ?q5c ?q5a ?q5o ?q5v ?q5k1 ?q5k2 ?q5k3 ?q5k4 ?q5k5 ?q5k6 ?q5k7 ?q5k8 ?q5k9 ?q5k10 ?q5k11 ?q5k12 ?q6x ?q6r ?q6g ?q6h ?q6b ?q6c ?q6a ?q6o ?q6v ?q6k1 ?q6k2 ?q6k3 ?q6k4 ?q6k5 ?q6k6 ?q6k7 ?q6k8 ?q6k9 ?q6k10 ?q6k11 ?q6k12
    (case a1 => k_is)
    (case l1 => k_is)
    (case c1 => k_is)
    (case k1 => k_is)
    (case a2 => k_is)
    (case l2 => k_is)
    (case c2 => k_is)
    (case k2 => k_is)
    (case a3 => k_is)
    (case l3 => k_is)
    (case c3 => k_is)
    (case k3 => k_is)
    (case a4 => k_is)
    (case l4 => k_is)
    (case c4 => k_is)
    (case k4 => k_is)
    (case a5 => k_is)
    (case l5 => k_is)
    (case c5 => k_is)
    (case k5 => k_is)
    (case a6 => k_is)
    (case l6 => k_is)
    (case c6 => k_is)
    (case k6 => k_is)
    (case a7 => k_is)
    (case l7 => k_is)
    (case c7 => k_is)
    (case k7 => k_is)
    (case a8 => k_is)
    (case l8 => k_is)
    (case c8 => k_is)
    (case k8 => k_is)
    (case a9 => k_is)
    (case l9 => k_is)
    (case c9 => k_is)
    (case k9 => k_is)
    (case a10 => k_is)
    (case l10 => k_is)
    (case c10 => k_is)
    (case k10 => k_is)
    (case a11 => k_is)
    (case l11 => k_is)
    (case c11 => k_is)
    (case k11 => k_is)
    (case a12 => k_is)
    (case l12 => k_is)
    (case c12 => k_is)
    (case k12 => k_is)
    (case a13 => k_is)
    (case l13 => k_is)
    (case c13 => k_is)
    (case k13 => k_is)
    (case a14 => k_is)
    (case l14 => k_is)
    (case c14 => k_is)
    (case k14 => k_is)
    (case a15 => k_is)
    (case l15 => k_is)
    (case c15 => k_is)
    (case k15 => k_is)
    (case a16 => k_is)
    (case l16 => k_is)
    (case c16 => k_is)
    (case k16 => k_is)
    (case a17 => k_is)
    (case l17 => k_is)
    (case c17 => k_is)
    (case k17 => k_is)
    (case a18 => k_is)
    (case l18 => k_is)
    (case c18 => k_is)
    (case k18 => k_is)
    (case a19 => k_is)
    (case l19 => k_is)
    (case c19 => k_is)
    (case k19 => k_is)
    (case a20 => k_is)
    (case l20 => k_is)
    (case c20 => k_is)
    (case k20 => k_is)
    (case a21 => k_is)
    (case l21 => k_is)
    (case c21 => k_is)
    (case k21 => k_is)
    (case a22 => k_is)
    (case l22 => k_is)
    (case c22 => k_is)
    (case k22 => k_is)
    (case a23 => k_is)
    (case l23 => k_is)
    (case c23 => k_is)
    (case k23 => k_is)
    (case a24 => k_is)
    (case l24 => k_is)
    (case c24 => k_is)
    (case k24 => k_is)
    (case a25 => k_is)
    (case l25 => k_is)
    (case c25 => k_is)
    (case k25 => k_is)
    (case a26 => k_is)
    (case l26 => k_is)
    (case c26 => k_is)
    (case k26 => k_is)
    (case a27 => k_is)
    (case l27 => k_is)
    (case c27 => k_is)
    (case k27 => k_is)
    (case a28 => k_is)
    (case l28 => k_is)
    (case c28 => k_is)
    (case k28 => k_is)
    (case a29 => k_is)
    (case l29 => k_is)
    (case c29 => k_is)
    (case k29 => k_is)
    (case a30 => k_is)
    (case l30 => k_is)
    (case c30 => k_is)
    (case k30 => k_is)
    (case a31 => k_is)
    (case l31 => k_is)
    (case c31 => k_is)
    (case k31 => k_is)
    (case a32 => k_is)
    (case l32 => k_is)
    (case c32 => k_is)
    (case k32 => k_is)
    (case z1 => k_is)
    (case z2 => k_is)
    (case z3 => k_is)
    (case z4 => k_is)
    (case z5 => k_is)
    (case z6 => k_is)
    (case z7 => k_is)
    (case z8 => k_is)
    (case z9 => k_is)
    (case z10 => k_is)
    (case z11 => k_is)
    (case z12 => k_is)
    (case z13 => k_is)
    (case z14 => k_is)
    (case z15 => k_is)
    (case z16 => k_is)
    (case z17 => k_is)
    (case z18 => k_is)
    (case z19 => k_is)
    (case z20 => k_is)
    (case aA => k_is)
    (case aB => k_is)
    (case aC => k_is)
    (case zr => k_is)
    (case e1 => k_is)
    (case e2 => k_is)
    (case e3 => k_is)
    (case e4 => k_is)
    (case e5 => k_is)
    (case e6 => k_is)
    (case e7 => k_is)
    (case e8 => k_is)
    (case e9 => k_is)
    (case e10 => k_is)
    (case e11 => k_is)
    (case e12 => k_is)
    (case eR => k_is)
    (case r1 => k_is)
    (case r2 => k_is)
    (case r3 => k_is)
    (case u1 => k_is)
    (case u2 => k_is)
    (case q1x => k_exc)
    (case q1r => k_is)
    (case q1g => k_is)
    (case q1h => k_is)
    (case q1b => k_is)
    (case q1c => k_is)
    (case q1a => k_is)
    (case q1o => k_is)
    (case q1v => kit_is)
    (case q1k1 => kit_is)
    (case q1k2 => kit_is)
    (case q1k3 => kit_is)
    (case q1k4 => kit_is)
    (case q1k5 => kit_is)
    (case q1k6 => kit_is)
    (case q1k7 => kit_is)
    (case q1k8 => kit_is)
    (case q1k9 => kit_is)
    (case q1k10 => kit_is)
    (case q1k11 => kit_is)
    (case q1k12 => kit_is)
    (case q5x => k_exc)
    (case q5r => k_is)
    (case q5g => k_is)
    (case q5h => k_is)
    (case q5b => k_is)
    (case q5c => k_is)
    (case q5a => k_is)
    (case q5o => k_is)
    (case q5v => kit_is)
    (case q5k1 => kit_is)
    (case q5k2 => kit_is)
    (case q5k3 => kit_is)
    (case q5k4 => kit_is)
    (case q5k5 => kit_is)
    (case q5k6 => kit_is)
    (case q5k7 => kit_is)
    (case q5k8 => kit_is)
    (case q5k9 => kit_is)
    (case q5k10 => kit_is)
    (case q5k11 => kit_is)
    (case q5k12 => kit_is)
    (case q6x => k_exc)
    (case q6r => k_is)
    (case q6g => k_is)
    (case q6h => k_is)
    (case q6b => k_is)
    (case q6c => k_is)
    (case q6a => k_is)
    (case q6o => k_is)
    (case q6v => kit_is)
    (case q6k1 => kit_is)
    (case q6k2 => kit_is)
    (case q6k3 => kit_is)
    (case q6k4 => kit_is)
    (case q6k5 => kit_is)
    (case q6k6 => kit_is)
    (case q6k7 => kit_is)
    (case q6k8 => kit_is)
    (case q6k9 => kit_is)
    (case q6k10 => kit_is)
    (case q6k11 => kit_is)
    (case q6k12 => kit_is)
