import PyProof.Rows.All
import Wide.All
import OpenK.AllK
import Wide.FinOn
import Lean
import PyProof.EqAt
import PyProof.EqKinds
import PyProof.TupleCall
import KE.KDictOf
import PyProof.Rows.TupDisplay
import PyProof.Rows.SortRuns
import PyProof.Rows.SortShellK
import PyProof.P3Eq
import PyProof.Draws
import PyProof.EnumMake
import PyProof.NeData
import KE.LcSums
import PyProof.WalkInts
import PyProof.SeqI3
import KE.KSortTup
import KE.KRevIter
import PyProof.FactsAll.range_2
import PySem.Challenge.RW_rooklands_k52_rest_counts_told
set_option Elab.async false
set_option linter.all false
set_option maxRecDepth 100000
namespace L2
open PySem PySem.Spec PyProof.Rows
abbrev Key := Sum Int Str
def keyIs : Key → Value → Bool
  | .inl k, v => Value.isInt k v
  | .inr x, v => Value.isStrOf x v
def keyH (w : World) : Key → Int
  | .inl k => hashInt k
  | .inr x => hashStr w x
theorem keyIs_shape : ∀ {k : Key} {v : Value}, keyIs k v = true → (∃ i t, k = Sum.inl i ∧ v = Value.int i t) ∨ (∃ x t, k = Sum.inr x ∧ v = Value.str x t)
  | .inl i, v, h => by
    obtain ⟨t, e⟩ := Value.isInt_shape (k := i) (v := v) h
    exact .inl ⟨i, t, rfl, e⟩
  | .inr x, v, h => by
    obtain ⟨t, e⟩ := Value.isStrOf_shape (x := x) (v := v) h
    exact .inr ⟨x, t, rfl, e⟩
theorem keyIs_int (i : Int) (t : Tok) : keyIs (.inl i) (.int i t) = true := by simp [keyIs, Value.isInt]
theorem keyIs_str (x : Str) (t : Tok) : keyIs (.inr x) (.str x t) = true := by simp [keyIs, Value.isStrOf]
theorem key_ll (a b : Int) : decide ((Sum.inl a : Key) = Sum.inl b) = (a == b) := by
  by_cases e : a = b
  · subst e; simp
  · have h : ¬ (Sum.inl a : Key) = Sum.inl b := fun q => e (Sum.inl.inj q)
    rw [decide_eq_false h]
    exact (beq_eq_false_iff_ne.mpr e).symm
theorem key_rr (a b : Str) : decide ((Sum.inr a : Key) = Sum.inr b) = decide (a = b) := by
  by_cases e : a = b
  · subst e; simp
  · have h : ¬ (Sum.inr a : Key) = Sum.inr b := fun q => e (Sum.inr.inj q)
    rw [decide_eq_false h, decide_eq_false e]
theorem key_lr (a : Int) (b : Str) : decide ((Sum.inl a : Key) = Sum.inr b) = false := decide_eq_false (fun q => nomatch q)
theorem key_rl (a : Str) (b : Int) : decide ((Sum.inr a : Key) = Sum.inl b) = false := decide_eq_false (fun q => nomatch q)
def mixKind (prog : Program) (w : World) : PySem.KeyKind prog w Key where
  is := keyIs
  hash := keyH w
  inj := fun v a b ha hb => by
    rcases keyIs_shape ha with ⟨i, t, rfl, rfl⟩ | ⟨x, t, rfl, rfl⟩
    · rcases keyIs_shape hb with ⟨j, u, rfl, e⟩ | ⟨y, u, rfl, e⟩
      · injection e with e1 _; rw [e1]
      · exact nomatch e
    · rcases keyIs_shape hb with ⟨j, u, rfl, e⟩ | ⟨y, u, rfl, e⟩
      · exact nomatch e
      · injection e with e1 _; rw [e1]
  byValue := fun k v h => by
    rcases keyIs_shape h with ⟨i, t, rfl, rfl⟩ | ⟨x, t, rfl, rfl⟩ <;> rfl
  pyHash := fun hv h => by
    rcases keyIs_shape hv with ⟨i, t, rfl, rfl⟩ | ⟨x, t, rfl, rfl⟩
    · exact wpAny_pyHash_int h
    · exact wpAny_pyHash_str h
  eqBool := fun hu hv h => by
    rcases keyIs_shape hu with ⟨i, t, rfl, rfl⟩ | ⟨x, t, rfl, rfl⟩
    · rcases keyIs_shape hv with ⟨j, u, rfl, rfl⟩ | ⟨y, u, rfl, rfl⟩
      · rw [key_ll] at h; exact wpAny_eqBool_int h
      · rw [key_lr] at h; exact SeqAt.EqAt.int_str i t y u _ _ _ _ h
    · rcases keyIs_shape hv with ⟨j, u, rfl, rfl⟩ | ⟨y, u, rfl, rfl⟩
      · rw [key_rl] at h; exact SeqAt.EqAt.str_int x t j u _ _ _ _ h
      · rw [key_rr] at h; exact wpAny_eqBool_str h
  «strs» := fun k x t v h => by
    rcases keyIs_shape h with ⟨i, u, rfl, e⟩ | ⟨y, u, rfl, e⟩
    · exact nomatch e
    · injection e with e1 _
      subst e1
      cases v <;> rfl
theorem mixKind_int (prog : Program) (w : World) (i : Int) (t : Tok) : (mixKind prog w).is (.inl i) (.int i t) = true := keyIs_int i t
theorem mixKind_str (prog : Program) (w : World) (x : Str) (t : Tok) : (mixKind prog w).is (.inr x) (.str x t) = true := keyIs_str x t
end L2
namespace L2
open PySem PySem.Spec PyProof.Rows
inductive V where
  | non | bl (b : Bool) | int (i : Int) | str (x : Str) | byt (b : Array UInt8) | flt (b : UInt64) | ref (a : Addr) | ty (n : String)
  deriving DecidableEq
def RelV : V → Value → Prop
  | .non, u => u = Value.none
  | .bl b, u => u = Value.bool b
  | .int i, u => ∃ t, u = Value.int i t
  | .str x, u => ∃ t, u = Value.str x t
  | .byt b, u => ∃ t, u = Value.bytes b t
  | .flt b, u => ∃ t, u = Value.float b t
  | .ref a, u => u = Value.ref a
  | .ty n, u => u = Value.type n
abbrev Vals : List V → List Value → Prop := Paired RelV
theorem Vals.length {xs : List V} {us : List Value} (r : Vals xs us) : xs.length = us.length := Paired.length r
theorem Vals.get : ∀ {xs : List V} {us : List Value} {i : Nat} {x : V}, Vals xs us → xs[i]? = some x → ∃ u, us[i]? = some u ∧ RelV x u
  | _, _, _, _, .nil, e => by simp at e
  | _, _, 0, _, .cons r _, e => by simp at e; subst e; exact ⟨_, rfl, r⟩
  | _, _, i + 1, x, .cons _ t, e => by
    obtain ⟨u, h1, h2⟩ := Vals.get (i := i) (x := x) t (by simpa using e)
    exact ⟨u, by simpa using h1, h2⟩
theorem Vals.set {x : V} {u : Value} (r : RelV x u) : ∀ {xs : List V} {us : List Value} (i : Nat), Vals xs us → Vals (xs.set i x) (us.set i u)
  | _, _, _, .nil => .nil
  | _, _, 0, .cons _ t => .cons r t
  | _, _, i + 1, .cons q t => .cons q (Vals.set r i t)
theorem Vals.append : ∀ {xs ys : List V} {us ws : List Value}, Vals xs us → Vals ys ws → Vals (xs ++ ys) (us ++ ws)
  | _, _, _, _, .nil, s => s
  | _, _, _, _, .cons r t, s => .cons r (Vals.append t s)
theorem Vals.take : ∀ {xs : List V} {us : List Value} (n : Nat), Vals xs us → Vals (xs.take n) (us.take n)
  | _, _, 0, _ => .nil
  | _, _, _ + 1, .nil => .nil
  | _, _, n + 1, .cons r t => .cons r (Vals.take n t)
theorem Vals.drop : ∀ {xs : List V} {us : List Value} (n : Nat), Vals xs us → Vals (xs.drop n) (us.drop n)
  | _, _, 0, r => r
  | _, _, _ + 1, .nil => .nil
  | _, _, n + 1, .cons _ t => Vals.drop n t
def RelO : Option V → Option Value → Prop
  | some v, some u => RelV v u
  | none, none => True
  | _, _ => False
def KV {κ : Type} : List (κ × V) → List (κ × Value) → Prop := Paired fun (p : κ × V) (q : κ × Value) => p.1 = q.1 ∧ RelV p.2 q.2
def kV : Key → V
  | .inl i => .int i
  | .inr x => .str x
inductive HO where
  /-- a list -/
  | lst (xs : List V)
  /-- a tuple (never changes) -/
  | tup (xs : List V)
  /-- a dict whose keys are ints and texts; one whose keys are tuples of ints and texts (the empty one is both) -/
  | dK (kvs : List (Key × V)) | dT (kvs : List (List Key × V))
  /-- a set of ints: its members, its size -/
  | set (S : Int → Bool) (n : Nat)
  /-- an instance of the class at C, its dict at dx, its attributes -/
  | ins (C dx : Addr) (fs : List (Str × V))
  /-- the dict of the instance at x -/
  | own (x : Addr)
  /-- the dict of an exception -/
  | xd (fs : List (Str × V))
  /-- a bound method, f of x -/
  | met (f x : Addr)
  /-- a range object lo, lo + 1, .. below hi -/
  | rng (lo hi : Int)
  /-- a thing that is known to the object (the script; a dict while a loop walks it): read, never written while it is so -/
  | frz (o : Obj) (u : HO)
  /-- a code object's table -/
  | tbl (ps : Array Value)
  /-- any other thing, by what is true of its one object (a def of one's own: SetO a S n := HO.ext fun h => ..) -/
  | ext (φ : Heap → Prop)
abbrev Hp := Addr → Option HO
def upd (H : Hp) (a : Addr) (o : HO) : Hp := fun b => if b = a then some o else H b
theorem upd_same {H : Hp} {a : Addr} {o : HO} : upd H a o a = some o := by unfold upd; rw [if_pos rfl]
theorem upd_ne {H : Hp} {a b : Addr} {o : HO} (h : b ≠ a) : upd H a o b = H b := by unfold upd; rw [if_neg h]
theorem ne_of {H : Hp} {a b : Addr} {o u : HO} (h : H a = some o) (h' : H b = some u) (d : o ≠ u) : a ≠ b := by
  intro e; subst e; rw [h] at h'; exact d (Option.some.inj h')
theorem ne_of_none {H : Hp} {a b : Addr} {o : HO} (h : H a = some o) (h' : H b = none) : a ≠ b := by
  intro e; subst e; rw [h] at h'; cases h'
section
variable (P : Program) (w : World)
def ObjOk (H : Hp) (h : Heap) (a : Addr) : HO → Prop
  | .lst xs => xs.length ≤ sizeLine ∧ ∃ (its : List Value) (n : Nat), Vals xs its ∧ h.get? a = some { cls := .type "list", data := .seq its.toArray n }
  | .tup xs => xs.length ≤ sizeLine ∧ ∃ its : List Value, Vals xs its ∧ IsTup h a its.toArray
  | .dK kvs => kvs.length ≤ sizeLine ∧ (a == sysModules) = false ∧ ∃ vs, KV kvs vs ∧ h.DictOf (mixKind P w) a vs
  | .dT kvs => kvs.length ≤ sizeLine ∧ (a == sysModules) = false ∧ ∃ xs : List (List Key × Addr × Value),
      Paired (fun (p : List Key × V) (q : List Key × Addr × Value) => p.1 = q.1 ∧ H q.2.1 = some (.tup (p.1.map kV)) ∧ RelV p.2 q.2.2) kvs xs ∧
      ∃ o es ep, h.get? a = some o ∧ o.ExactDict ∧ o.data = .dict es ep ∧ es.toList = xs.map (entryOfKey (tupleKind (mixKind P w))) ∧ (xs.map (·.1)).Nodup
  | .set S n => h.SetOf (intKind P w) a S n
  | .ins C dx fs => H dx = some (.own a) ∧ fs.length ≤ 1000 ∧ dx ≠ a ∧ h.get? a = some (PySem.W.instObj C dx) ∧
      ∃ mA, h.Ns1 dx mA ∧ (∀ f, RelO (fs.lookup f) (mA f)) ∧ PySem.Within mA (fs.map (·.1))
  | .own _ => ∃ o, h.get? a = some o
  | .xd fs => ∃ mA, h.Ns1 a mA ∧ ∀ f, RelO (fs.lookup f) (mA f)
  | .rng lo hi => ∃ t u v, h.get? a = some { cls := .type "range", data := .fields #[.int lo t, .int hi u, .int 1 v] }
  | .frz o u => h.get? a = some o ∧ ObjOk H h a u
  | .tbl ps => h.get? a = some { cls := .none, data := .fields ps }
  | .met f x => h.get? a = some (PySem.W.methodObj (.ref f) (.ref x))
  | .ext φ => φ h ∧ (∃ o, h.get? a = some o) ∧ ∀ h1 h2 : Heap, φ h1 → (∀ o, h1.get? a = some o → h2.get? a = some o) → φ h2
def HOk (H : Hp) (h : Heap) : Prop := ∀ a o, H a = some o → ObjOk P w H h a o
end
section
variable {P : Program} {w : World} {H H' : Hp} {h h' : Heap} {a : Addr} {o : HO}
theorem ObjOk.lt (x : ObjOk P w H h a o) : a < h.objs.size := by
  cases o with
  | lst xs => obtain ⟨_, _, _, _, e⟩ := x; exact Heap.lt_size e
  | tup xs => obtain ⟨_, _, _, p⟩ := x; exact p.lt
  | dK kvs => obtain ⟨_, _, _, _, o, _, _, e, _⟩ := x; exact Heap.lt_size e
  | dT kvs => obtain ⟨_, _, _, _, o, _, _, e, _⟩ := x; exact Heap.lt_size e
  | set S n => obtain ⟨o, _, _, _, e, _⟩ := x; exact Heap.lt_size e
  | ins C dx fs => obtain ⟨_, _, _, e, _⟩ := x; exact Heap.lt_size e
  | own y => obtain ⟨_, e⟩ := x; exact Heap.lt_size e
  | xd fs => obtain ⟨_, ⟨_, _, _, e, _⟩, _⟩ := x; exact Heap.lt_size e
  | rng lo hi => obtain ⟨_, _, _, e⟩ := x; exact Heap.lt_size e
  | frz ob u => obtain ⟨e, _⟩ := x; exact Heap.lt_size e
  | tbl ps => exact Heap.lt_size (show h.get? a = some _ from x)
  | met f y => exact Heap.lt_size (show h.get? a = some _ from x)
  | ext φ => obtain ⟨_, ⟨_, e⟩, _⟩ := x; exact Heap.lt_size e
theorem Paired.mapP {α β : Type} {F G : α → β → Prop} : ∀ {l₁ : List α} {l₂ : List β}, Paired F l₁ l₂ → (∀ a b, F a b → G a b) → Paired G l₁ l₂
  | _, _, .nil, _ => .nil
  | _, _, .cons r t, f => .cons (f _ _ r) (Paired.mapP t f)
theorem ObjOk.stay (x : ObjOk P w H h a o) (k : ∀ b u, (b = a ∨ H b = some (.own a)) → h.get? b = some u → h'.get? b = some u)
    (ho : ∀ b, H b = some (.own a) → H' b = some (.own a)) (ht : ∀ b xs, H b = some (.tup xs) → H' b = some (.tup xs)) : ObjOk P w H' h' a o := by
  induction o with
  | lst xs => obtain ⟨z, its, n, r, e⟩ := x; exact ⟨z, its, n, r, k _ _ (.inl rfl) e⟩
  | tup xs => obtain ⟨z, its, r, ob, e, c⟩ := x; exact ⟨z, its, r, ob, k _ _ (.inl rfl) e, c⟩
  | dK kvs => obtain ⟨z, y, vs, r, ob, es, ep, e, c⟩ := x; exact ⟨z, y, vs, r, ob, es, ep, k _ _ (.inl rfl) e, c⟩
  | dT kvs =>
    obtain ⟨z, y, xs, r, ob, es, ep, e, c⟩ := x
    exact ⟨z, y, xs, Paired.mapP r fun p q z => ⟨z.1, ht _ _ z.2.1, z.2.2⟩, ob, es, ep, k _ _ (.inl rfl) e, c⟩
  | set S n => obtain ⟨ob, es, ep, t, e, c⟩ := x; exact ⟨ob, es, ep, t, k _ _ (.inl rfl) e, c⟩
  | ins C dx fs =>
    obtain ⟨d, z, ne, e, mA, ⟨od, es, ep, e2, c⟩, r⟩ := x
    exact ⟨ho _ d, z, ne, k _ _ (.inl rfl) e, mA, ⟨od, es, ep, k _ _ (.inr d) e2, c⟩, r⟩
  | own y => obtain ⟨ob, e⟩ := x; exact ⟨ob, k _ _ (.inl rfl) e⟩
  | xd fs => obtain ⟨mA, ⟨od, es, ep, e, c⟩, r⟩ := x; exact ⟨mA, ⟨od, es, ep, k _ _ (.inl rfl) e, c⟩, r⟩
  | rng lo hi => obtain ⟨t, u, v, e⟩ := x; exact ⟨t, u, v, k _ _ (.inl rfl) e⟩
  | frz ob u ih => obtain ⟨e, q⟩ := x; exact ⟨k _ _ (.inl rfl) e, ih q⟩
  | tbl ps =>
    have e : h.get? a = some { cls := .none, data := .fields ps } := x
    show h'.get? a = some { cls := .none, data := .fields ps }
    exact k a _ (.inl rfl) e
  | met f y =>
    have e : h.get? a = some (PySem.W.methodObj (.ref f) (.ref y)) := x
    show h'.get? a = some (PySem.W.methodObj (.ref f) (.ref y))
    exact k a _ (.inl rfl) e
  | ext φ => obtain ⟨p, ⟨o, e⟩, st⟩ := x; exact ⟨st _ _ p fun o q => k _ _ (.inl rfl) q, ⟨o, k _ _ (.inl rfl) e⟩, st⟩
theorem HOk.lt (x : HOk P w H h) (e : H a = some o) : a < h.objs.size := (x a o e).lt
theorem HOk.fresh (x : HOk P w H h) (e : h.objs.size ≤ a) : H a = none := by
  cases q : H a with
  | none => rfl
  | some u => exact absurd (Nat.lt_of_lt_of_le (x.lt q) e) (Nat.lt_irrefl _)
theorem HOk.kept (x : HOk P w H h) (k : ∀ b u, h.get? b = some u → h'.get? b = some u) : HOk P w H h' := fun a o e =>
  (x a o e).stay (fun b u _ q => k b u q) (fun _ q => q) fun _ _ q => q
theorem HOk.laid (x : HOk P w H h) (k : ∀ b u, h.get? b = some u → h'.get? b = some u) (hp : h.objs.size ≤ a) (new : ObjOk P w (upd H a o) h' a o) : HOk P w (upd H a o) h' := fun b u e => by
  have hn := x.fresh hp
  by_cases hb : b = a
  · subst hb; rw [upd_same] at e; cases e; exact new
  · rw [upd_ne hb] at e
    exact (x b u e).stay (fun c v _ q => k c v q) (fun c q => by rw [upd_ne (ne_of_none q hn)]; exact q) fun c xs q => by rw [upd_ne (ne_of_none q hn)]; exact q
end
def Rd (H : Hp) (a : Addr) (u : HO) : Prop := H a = some u ∨ ∃ o, H a = some (.frz o u)
theorem Rd.of {H : Hp} {a : Addr} {u : HO} (h : H a = some u) : Rd H a u := .inl h
theorem Rd.ok {P : Program} {w : World} {H : Hp} {h : Heap} {a : Addr} {u : HO} (r : Rd H a u) (x : HOk P w H h) : ObjOk P w H h a u := by
  rcases r with r | ⟨o, r⟩
  · exact x a u r
  · obtain ⟨_, q⟩ := x a _ r
    exact q
def Mut : Option HO → Prop
  | some (.lst _) => True
  | some (.dK _) => True
  | some (.dT _) => True
  | some (.set _ _) => True
  | some (.ins _ _ _) => True
  | some (.ext _) => True
  | _ => False
section
variable {P : Program} {w : World} {H : Hp} {h h' : Heap} {x e : Addr} {o' : HO}
theorem HOk.write (ok : HOk P w H h) (mu : Mut (H x)) (he : e = x ∨ H e = some (.own x)) (k : ∀ b u, b ≠ e → h.get? b = some u → h'.get? b = some u) (heo : ∃ u, h'.get? e = some u)
    (new : ObjOk P w (upd H x o') h' x o') : HOk P w (upd H x o') h' := fun b u q => by
  have nown : ∀ c y, H c = some (.own y) → c ≠ x := fun c y r z => by subst z; rw [r] at mu; exact mu
  have ntup : ∀ c xs, H c = some (.tup xs) → c ≠ x := fun c xs r z => by subst z; rw [r] at mu; exact mu
  by_cases hb : b = x
  · subst hb; rw [upd_same] at q; cases q; exact new
  · rw [upd_ne hb] at q
    by_cases hbe : b = e
    · have q' : H b = some (.own x) := by
        rcases he with z | z
        · exact absurd (hbe.trans z) hb
        · rw [hbe]; exact z
      rw [q] at q'; cases q'
      obtain ⟨v, hv⟩ := heo
      exact ⟨v, by rw [hbe]; exact hv⟩
    · refine (ok b u q).stay (fun c v hc r => k c v ?_ r) (fun c r => by rw [upd_ne (nown c b r)]; exact r) fun c xs r => by rw [upd_ne (ntup c xs r)]; exact r
      rcases hc with rfl | hc
      · exact hbe
      · rintro rfl
        rcases he with z | z
        · exact nown c b hc z
        · rw [hc] at z; cases z; exact hb rfl
end
structure Un (fs ex : List Addr) (H H' : Hp) (h h' : Heap) : Prop where
  keep : ∀ b o, h.get? b = some o → H b = none → b ∉ fs → b ∉ ex → h'.get? b = some o
  slot : ∀ b o, h.get? b = some o → H b = none → b ∈ fs → b ∉ ex → ∃ sl, h'.get? b = some { o with slots := sl }
  free : ∀ b o, h.get? b = some o → H b = none → b ∉ ex → H' b = none
  there : ∀ b o, h.get? b = some o → b ∉ ex → ∃ o', h'.get? b = some o'
  tups : ∀ b xs, H b = some (.tup xs) → H' b = some (.tup xs)
  frzs : ∀ b o u, H b = some (.frz o u) → H' b = some (.frz o u)
  tbls : ∀ b ps, H b = some (.tbl ps) → ∃ more, H' b = some (.tbl (ps ++ more))
section
variable {fs fs' ex ex' : List Addr} {H H1 H2 : Hp} {h h1 h2 h' : Heap} {a x e : Addr} {o : HO}
theorem Un.any (u : Un fs ex H H1 h h1) {b : Addr} {ob : Obj} (q : h.get? b = some ob) (n : H b = none) (hx : b ∉ ex) : ∃ sl, h1.get? b = some { ob with slots := sl } := by
  by_cases hb : b ∈ fs
  · exact u.slot b ob q n hb hx
  · exact ⟨ob.slots, u.keep b ob q n hb hx⟩
theorem Un.trans (a : Un fs ex H H1 h h1) (b : Un fs ex H1 H2 h1 h2) : Un fs ex H H2 h h2 where
  keep := fun c ob q n hc hx => b.keep c ob (a.keep c ob q n hc hx) (a.free c ob q n hx) hc hx
  slot := fun c ob q n hc hx => by
    obtain ⟨sl, e1⟩ := a.slot c ob q n hc hx
    obtain ⟨sl', e2⟩ := b.slot c _ e1 (a.free c ob q n hx) hc hx
    exact ⟨sl', e2⟩
  free := fun c ob q n hx => by
    obtain ⟨o', e1⟩ := a.there c ob q hx
    exact b.free c o' e1 (a.free c ob q n hx) hx
  there := fun c ob q hx => by
    obtain ⟨o', e1⟩ := a.there c ob q hx
    exact b.there c o' e1 hx
  tups := fun c xs q => b.tups c xs (a.tups c xs q)
  frzs := fun c ob xs q => b.frzs c ob xs (a.frzs c ob xs q)
  tbls := fun c ps q => by
    obtain ⟨m1, e1⟩ := a.tbls c ps q
    obtain ⟨m2, e2⟩ := b.tbls c _ e1
    exact ⟨m1 ++ m2, by rw [e2, Array.append_assoc]⟩
theorem Un.kept (k : ∀ b u, h.get? b = some u → h'.get? b = some u) : Un fs ex H H h h' :=
  ⟨fun b ob q _ _ _ => k b ob q, fun b ob q _ _ _ => ⟨ob.slots, k b ob q⟩, fun _ _ _ n _ => n, fun b ob q _ => ⟨ob, k b ob q⟩, fun _ _ q => q, fun _ _ _ q => q, fun _ ps q => ⟨#[], by rw [q]; simp⟩⟩
theorem Un.refl : Un fs ex H H h h := Un.kept fun _ _ q => q
theorem Un.laid (k : ∀ b u, h.get? b = some u → h'.get? b = some u) (hp : h.objs.size ≤ a) (hn : H a = none) : Un fs ex H (upd H a o) h h' where
  keep := fun b u q _ _ _ => k b u q
  slot := fun b u q _ _ _ => ⟨u.slots, k b u q⟩
  free := fun b u q n _ => by rw [upd_ne (Nat.ne_of_lt (Nat.lt_of_lt_of_le (Heap.lt_size q) hp))]; exact n
  there := fun b u q _ => ⟨u, k b u q⟩
  tups := fun b xs q => by rw [upd_ne (ne_of_none q hn)]; exact q
  frzs := fun b u xs q => by rw [upd_ne (ne_of_none q hn)]; exact q
  tbls := fun b ps q => ⟨#[], by rw [upd_ne (ne_of_none q hn), q]; simp⟩
theorem Un.write (mu : Mut (H x)) (he : e = x ∨ H e = some (.own x)) (k : ∀ b u, b ≠ e → h.get? b = some u → h'.get? b = some u) (heo : ∃ u, h'.get? e = some u) : Un fs ex H (upd H x o) h h' := by
  have hx : ∀ b, H b = none → b ≠ x := fun b n z => by subst z; rw [n] at mu; exact mu
  have hb : ∀ b, H b = none → b ≠ e := fun b n z => by
    subst z
    rcases he with r | r
    · exact hx b n r
    · rw [n] at r; cases r
  have hm : ∀ b u, H b = some u → ¬ Mut (some u) → b ≠ x := fun b u q nm z => by subst z; rw [q] at mu; exact nm mu
  refine ⟨fun b u q n _ _ => k b u (hb b n) q, fun b u q n _ _ => ⟨u.slots, k b u (hb b n) q⟩, fun b u q n _ => by rw [upd_ne (hx b n)]; exact n, fun b u q _ => ?_,
    fun b xs q => by rw [upd_ne (hm b _ q fun z => z)]; exact q, fun b u xs q => by rw [upd_ne (hm b _ q fun z => z)]; exact q, fun b ps q => ⟨#[], by rw [upd_ne (hm b _ q fun z => z), q]; simp⟩⟩
  by_cases hbe : b = e
  · subst hbe; exact heo
  · exact ⟨u, k b u hbe q⟩
theorem Un.mono (u : Un fs ex H H1 h h1) (hs : ∀ b ∈ fs, b ∈ fs') (hx : ∀ b ∈ ex, b ∈ ex') : Un fs' ex' H H1 h h1 :=
  ⟨fun b ob q n hb he => u.keep b ob q n (fun z => hb (hs b z)) fun z => he (hx b z), fun _ _ q n _ he => u.any q n fun z => he (hx _ z), fun b ob q n he => u.free b ob q n fun z => he (hx b z), fun b ob q he => u.there b ob q fun z => he (hx b z), u.tups, u.frzs, u.tbls⟩
end
def trk (h : Heap) (H : Hp) : List Addr := (List.range h.objs.size).filter fun a => (H a).isSome
def hidT (h : Heap) (H : Hp) : Heap := PySem.W.hideAll h (trk h H)
theorem hidT_size (h : Heap) (H : Hp) : (hidT h H).objs.size = h.objs.size := PySem.W.hideAll_size _ _
theorem hidT_get {h : Heap} {H : Hp} {b : Addr} {o : Obj} (e : h.get? b = some o) (n : H b = none) : (hidT h H).get? b = some o :=
  PySem.W.hideAll_get _ e fun hm => by
    have q : (H b).isSome = true := (List.mem_filter.mp hm).2
    rw [n] at q; simp at q
theorem of_hidT {h : Heap} {H : Hp} {b : Addr} {o : Obj} (e : (hidT h H).get? b = some o) : h.get? b = some o ∧ H b = none := by
  have e' : h.get? b = some o := PySem.W.of_hideAll (trk h H) e
  refine ⟨e', ?_⟩
  cases q : H b with
  | none => rfl
  | some x =>
    have hm : b ∈ trk h H := List.mem_filter.mpr ⟨List.mem_range.mpr (Heap.lt_size e'), by simp [q]⟩
    have z : (hidT h H).get? b = none := PySem.W.hideAll_none (trk h H) hm
    rw [z] at e; cases e
def allNews (g h : Heap) (L : Addr) : List (Addr × Obj) := (List.range h.objs.size).filterMap fun a => if a = L ∨ (g.get? a).isSome = true then none else (h.get? a).map fun o => (a, o)
def rest (g h : Heap) (L d : Addr) : List (Addr × Obj) := (allNews g h L).filter fun p => decide (p.1 ≠ d)
end L2
namespace L2
open PySem PySem.Spec PyProof.Rows
structure Mod (K : PySem.W.Frag) (mg : Str → Option Value) (base : Heap) : Prop where
  kin : K.In base
  glob : base.Ns mainGlobals mg
  blt : ∃ mb, base.Ns builtinsNs mb ∧ ∀ x : Str, x ≠ "__name__" → mb x = bootBuiltins x
  nolimit : base.NoLimit
structure Cx where
  prog : Program
  w : World
  K : PySem.W.Frag
  mg : Str → Option Value
  base : Heap
  A : Around
  N : List Str
  s₀ : Shared
  H₀ : Hp
  env : Env
  outer : List Env
  stack : List Env
  ex : List Addr
  fn : Str → Bool
  calm : Bool
  pn : List (Addr × Obj)
  xe : Value → Shared → Prop
def frs (l : List Env) : List Addr := l.filterMap (·.frame)
abbrev Cx.fs (X : Cx) : List Addr := frs X.outer
def Vis (sc : Scope) (x : Str) : Prop := sc.names.lookup x = some .local ∨ sc.names.lookup x = some .cell ∨ sc.names.lookup x = some .free
def Loc (sc : Scope) (x : Str) : Prop := sc.names.lookup x = some .local ∨ sc.names.lookup x = some .cell
def Look (env : Env) (h : Heap) (m : Str → Option Value) (x : Str) (u : Value) : Prop :=
  (env.kindOf x = some .local ∧ m x = some u) ∨ ((env.kindOf x = some .cell ∨ env.kindOf x = some .free) ∧ ∃ c, env.cells.lookup x = some c ∧ h.IsCell c (some u))
structure Cx.Ok (X : Cx) : Prop where
  mod : Mod X.K X.mg X.base
  kind : X.env.scope.kind = .function
  glob : X.env.globals = mainGlobals
  blt : X.env.builtins = builtinsNs
  above : X.s₀.heap.objs.size ≤ X.env.locals
  inj : ∀ x y c, X.env.cells.lookup x = some c → X.env.cells.lookup y = some c → x = y
  has : ∀ x, (X.env.kindOf x = some .cell ∨ X.env.kindOf x = some .free) → ∃ c, X.env.cells.lookup x = some c
  cab : ∀ x c, X.fn x = true → X.env.cells.lookup x = some c → X.s₀.heap.objs.size ≤ c
  hd : X.calm = true → X.A.handled = none
  frames : X.A.frames = some X.stack
  stk : X.stack = X.outer ∨ (X.stack = X.env :: X.outer ∧ X.env.frame = some X.env.locals)
  exf : ∀ b ∈ X.ex, b ≠ X.env.locals ∧ ∀ x c, X.env.cells.lookup x = some c → c ≠ b
  bs : ∀ b o, X.base.get? b = some o → X.s₀.heap.get? b = some o ∧ X.H₀ b = none
  bsz : X.base.objs.size ≤ X.s₀.heap.objs.size
  noex : ∀ b o, X.base.get? b = some o → b ∉ X.ex
  exfs : ∀ b ∈ X.ex, b ∉ X.fs
  funs : X.s₀.heap.FunFrames X.base X.outer
  frf : ∀ b ∈ X.fs, X.H₀ b = none
structure Inv (X : Cx) (pins : List (Addr × Obj)) (σ : List (Option V)) (H : Hp) (s : Shared) : Prop where
  ok : X.Ok
  os : s.os = X.s₀.os
  bare : AllBare s.gens
  base : Un X.fs X.ex X.H₀ H X.s₀.heap s.heap
  loc : ∃ m, s.heap.Ns X.env.locals m ∧ ∀ (i : Nat) (x : Str) (v : V), X.N[i]? = some x → σ[i]? = some (some v) → Vis X.env.scope x → ∃ u, RelV v u ∧ Look X.env s.heap m x u
  cell : ∀ x c, X.env.cells.lookup x = some c → ∃ v, s.heap.IsCell c v
  free : H X.env.locals = none
  freeC : ∀ x c, X.env.cells.lookup x = some c → H c = none
  pin : ∀ p ∈ X.pn ++ pins, s.heap.get? p.1 = some p.2 ∧ H p.1 = none ∧ p.1 ≠ X.env.locals ∧ p.1 ∉ X.fs ∧ ∀ v, p.2.data ≠ .cell v
  hok : HOk X.prog X.w H s.heap
  len : σ.length = X.N.length
section
variable {X : Cx} {pins : List (Addr × Obj)} {σ : List (Option V)} {H H' : Hp} {s : Shared} {h' : Heap}
theorem Cx.Ok.nofr (ok : X.Ok) {b : Addr} {o : Obj} (e : X.base.get? b = some o) : b ∉ X.fs := fun hb => by
  have := (ok.funs.mem hb).1
  rw [e] at this; cases this
theorem Inv.bs (I : Inv X pins σ H s) : ∀ b o, X.base.get? b = some o → s.heap.get? b = some o ∧ H b = none := fun b o e =>
  ⟨I.base.keep b o (I.ok.bs b o e).1 (I.ok.bs b o e).2 (I.ok.nofr e) (I.ok.noex b o e), I.base.free b o (I.ok.bs b o e).1 (I.ok.bs b o e).2 (I.ok.noex b o e)⟩
theorem Inv.bk (I : Inv X pins σ H s) : ∀ b o, X.base.get? b = some o → s.heap.get? b = some o := fun b o e => (I.bs b o e).1
theorem Inv.mod (I : Inv X pins σ H s) : Mod X.K X.mg X.base := I.ok.mod
theorem Inv.kIn (I : Inv X pins σ H s) : X.K.In s.heap := I.ok.mod.kin.keeps I.bk
theorem Inv.nolimit (I : Inv X pins σ H s) : s.heap.NoLimit := I.ok.mod.nolimit.keeps I.bk
theorem Inv.fr (I : Inv X pins σ H s) : ∃ m, Fr X.base X.env.locals s.heap m :=
  let ⟨m, hn, _⟩ := I.loc
  ⟨m, hn, I.bk, Nat.le_trans I.ok.bsz I.ok.above⟩
theorem Inv.lt (I : Inv X pins σ H s) : X.env.locals < s.heap.objs.size := let ⟨_, hn, _⟩ := I.loc; hn.lt
theorem Inv.sz (I : Inv X pins σ H s) : X.s₀.heap.objs.size ≤ s.heap.objs.size := Nat.le_trans I.ok.above (Nat.le_of_lt I.lt)
theorem Inv.nofs (I : Inv X pins σ H s) {a : Addr} (h : s.heap.objs.size ≤ a) : a ∉ X.fs := fun hb => by
  obtain ⟨_, o, ho, _⟩ := I.ok.funs.mem hb
  exact absurd (Nat.lt_of_lt_of_le (Heap.lt_size ho) (Nat.le_trans I.sz h)) (Nat.lt_irrefl _)
theorem Inv.cne (I : Inv X pins σ H s) : ∀ x c, X.env.cells.lookup x = some c → c ≠ X.env.locals := fun x c e z => by
  obtain ⟨v, o, ho, hd⟩ := I.cell x c e
  obtain ⟨m, ⟨o', es, ep, ho', hd', _⟩, _⟩ := I.loc
  rw [z, ho'] at ho; cases ho; rw [hd'] at hd; cases hd
theorem Inv.funs (I : Inv X pins σ H s) : s.heap.FunFrames X.base X.outer := by
  have all : ∀ (l : List Env), (∀ b ∈ frs l, b ∈ X.fs) → X.s₀.heap.FunFrames X.base l → s.heap.FunFrames X.base l := by
    intro l
    induction l with
    | nil => intro _ _; trivial
    | cons env r ih =>
      intro hs hl
      obtain ⟨hk, ⟨L, o, hf, hn, ho, hd⟩, hr⟩ := hl
      have hL : L ∈ X.fs := hs L (by unfold frs; rw [List.filterMap_cons, hf]; exact List.mem_cons_self)
      obtain ⟨sl, e⟩ := I.base.slot L o ho (I.ok.frf L hL) hL fun z => I.ok.exfs L z hL
      exact ⟨hk, ⟨L, _, hf, hn, e, hd⟩, ih (fun b hb => hs b (by unfold frs; rw [List.filterMap_cons, hf]; exact List.mem_cons_of_mem _ hb)) hr⟩
  exact all X.outer (fun _ hb => hb) I.ok.funs
theorem Inv.stack (I : Inv X pins σ H s) : s.heap.FunFrames X.base X.stack := by
  rcases I.ok.stk with e | ⟨e, hf⟩
  · rw [e]; exact I.funs
  · rw [e]
    obtain ⟨m, hn, _⟩ := I.loc
    refine .cons (by rw [I.ok.kind]; decide) hf hn ?_ I.funs
    exact Heap.get?_none_of_le (Nat.le_trans I.ok.bsz I.ok.above)
theorem Inv.stkSub (I : Inv X pins σ H s) : ∀ b ∈ frs X.stack, b ∈ X.env.locals :: X.fs := fun b hb => by
  rcases I.ok.stk with e | ⟨e, hf⟩
  · rw [e] at hb; exact List.mem_cons_of_mem _ hb
  · rw [e] at hb
    unfold frs at hb
    rw [List.filterMap_cons, hf] at hb
    exact hb
theorem Inv.stkFree (I : Inv X pins σ H s) : ∀ b ∈ frs X.stack, H b = none := fun b hb => by
  rcases List.mem_cons.mp (I.stkSub b hb) with e | hb
  · rw [e]; exact I.free
  · obtain ⟨_, o, ho, _⟩ := I.ok.funs.mem hb
    exact I.base.free b o ho (I.ok.frf b hb) fun z => I.ok.exfs b z hb
theorem Inv.step {g' : Array GenState} {t' : Nat} {d' : Drawn} {ch : List Addr} (I : Inv X pins σ H s)
    (hch : ∀ b ∈ ch, (b ∈ X.ex ∨ X.s₀.heap.objs.size ≤ b) ∧ b ≠ X.env.locals ∧ (∀ x c, X.env.cells.lookup x = some c → c ≠ b) ∧ ∀ p ∈ X.pn ++ pins, p.1 ≠ b)
    (keep : ∀ b o, b ≠ X.env.locals → b ∉ X.fs → b ∉ ch → s.heap.get? b = some o → H b = none → h'.get? b = some o)
    (slot : ∀ b o, b ≠ X.env.locals → b ∈ X.fs → b ∉ ch → s.heap.get? b = some o → H b = none → ∃ sl, h'.get? b = some { o with slots := sl }) (free : ∀ b o, b ∉ ch → s.heap.get? b = some o → H b = none → H' b = none)
    (there : ∀ b o, b ∉ ch → s.heap.get? b = some o → ∃ o', h'.get? b = some o')
    (tups : ∀ b xs, H b = some (.tup xs) → H' b = some (.tup xs)) (frzs : ∀ b o u, H b = some (.frz o u) → H' b = some (.frz o u)) (tbls : ∀ b ps, H b = some (.tbl ps) → ∃ more, H' b = some (.tbl (ps ++ more)))
    (ns : ∀ m, s.heap.Ns X.env.locals m → h'.Ns X.env.locals m) (hok : HOk X.prog X.w H' h') (hg : AllBare g') :
    Inv X pins σ H' { s with heap := h', gens := g', drawn := d', toks := t' } := by
  have neL : ∀ b o, X.s₀.heap.get? b = some o → b ≠ X.env.locals := fun b o e => Nat.ne_of_lt (Nat.lt_of_lt_of_le (Heap.lt_size e) I.ok.above)
  have neC : ∀ b o, X.s₀.heap.get? b = some o → b ∉ X.ex → b ∉ ch := fun b o e hx hb => by
    rcases (hch b hb).1 with z | z
    · exact hx z
    · exact absurd (Nat.lt_of_lt_of_le (Heap.lt_size e) z) (Nat.lt_irrefl _)
  have cellK : ∀ x c, X.env.cells.lookup x = some c → ∀ v, s.heap.IsCell c v → h'.IsCell c v := fun x c e v ⟨o, ho, hd⟩ => by
    have nch : c ∉ ch := fun z => (hch c z).2.2.1 x c e rfl
    by_cases hc : c ∈ X.fs
    · obtain ⟨sl, q⟩ := slot c o (I.cne x c e) hc nch ho (I.freeC x c e)
      exact ⟨_, q, hd⟩
    · exact ⟨o, keep c o (I.cne x c e) hc nch ho (I.freeC x c e), hd⟩
  refine ⟨I.ok, I.os, hg, ⟨fun b o e n hb hx => ?_, fun b o e n hb hx => ?_, fun b o e n hx => ?_, fun b o e hx => ?_, fun b xs e => tups b xs (I.base.tups b xs e), fun b o xs e => frzs b o xs (I.base.frzs b o xs e), fun b ps e => ?_⟩, ?_, fun x c e => ?_, ?_, fun x c e => ?_, fun p hp => ?_, hok, I.len⟩
  · exact keep b o (neL b o e) hb (neC b o e hx) (I.base.keep b o e n hb hx) (I.base.free b o e n hx)
  · obtain ⟨sl, e1⟩ := I.base.slot b o e n hb hx
    obtain ⟨sl', e2⟩ := slot b _ (neL b o e) hb (neC b o e hx) e1 (I.base.free b o e n hx)
    exact ⟨sl', e2⟩
  · obtain ⟨o', e1⟩ := I.base.there b o e hx
    exact free b o' (neC b o e hx) e1 (I.base.free b o e n hx)
  · obtain ⟨o', e1⟩ := I.base.there b o e hx
    exact there b o' (neC b o e hx) e1
  · obtain ⟨m1, e1⟩ := I.base.tbls b ps e
    obtain ⟨m2, e2⟩ := tbls b _ e1
    exact ⟨m1 ++ m2, by rw [e2, Array.append_assoc]⟩
  · obtain ⟨m, hn, hl⟩ := I.loc
    refine ⟨m, ns m hn, fun i x v e1 e2 e3 => ?_⟩
    obtain ⟨u, r, l⟩ := hl i x v e1 e2 e3
    refine ⟨u, r, ?_⟩
    rcases l with l | ⟨k, c, e, z⟩
    · exact .inl l
    · exact .inr ⟨k, c, e, cellK x c e _ z⟩
  · obtain ⟨v, z⟩ := I.cell x c e
    exact ⟨v, cellK x c e v z⟩
  · obtain ⟨m, ⟨o, _, _, ho, _⟩, _⟩ := I.loc
    exact free _ o (fun z => (hch _ z).2.1 rfl) ho I.free
  · obtain ⟨v, o, ho, hd⟩ := I.cell x c e
    exact free c o (fun z => (hch c z).2.2.1 x c e rfl) ho (I.freeC x c e)
  · obtain ⟨e, n, ne, nf, d⟩ := I.pin p hp
    have nch : p.1 ∉ ch := fun z => (hch p.1 z).2.2.2 p hp rfl
    exact ⟨keep p.1 p.2 ne nf nch e n, free p.1 p.2 nch e n, ne, nf, d⟩
theorem Inv.un {t' : Nat} (I : Inv X pins σ H s) (u : Un X.fs [] H H' s.heap h') (hok : HOk X.prog X.w H' h') : Inv X pins σ H' { s with heap := h', toks := t' } := by
  obtain ⟨m, ⟨o, es, ep, ho, r⟩, _⟩ := id I.loc
  obtain ⟨sl, hL⟩ := u.any ho I.free (by simp)
  exact I.step (g' := s.gens) (d' := s.drawn) (ch := []) (fun _ z => nomatch z) (fun b o _ hb _ e n => u.keep b o e n hb (by simp)) (fun b o _ hb _ e n => u.slot b o e n hb (by simp)) (fun b o _ e n => u.free b o e n (by simp)) (fun b o _ e => u.there b o e (by simp)) u.tups u.frzs u.tbls (fun m' hm => by
    obtain ⟨o', es', ep', ho', r'⟩ := hm
    rw [ho] at ho'; cases ho'
    exact ⟨_, es', ep', hL, r'⟩) hok I.bare
theorem Inv.call {g' : Array GenState} {t' : Nat} {d' : Drawn} {ch : List Addr} (I : Inv X pins σ H s) (u : Un (frs X.stack) ch H H' s.heap h') (hok : HOk X.prog X.w H' h') (hg : AllBare g')
    (hch : ∀ b ∈ ch, (b ∈ X.ex ∨ X.s₀.heap.objs.size ≤ b) ∧ b ≠ X.env.locals ∧ (∀ x c, X.env.cells.lookup x = some c → c ≠ b) ∧ ∀ p ∈ X.pn ++ pins, p.1 ≠ b) :
    Inv X pins σ H' { s with heap := h', gens := g', drawn := d', toks := t' } := by
  obtain ⟨m, ⟨o, es, ep, ho, r⟩, _⟩ := id I.loc
  obtain ⟨sl, hL⟩ := u.any ho I.free fun z => (hch _ z).2.1 rfl
  exact I.step (ch := ch) hch (fun b o hL hb hc e n => u.keep b o e n (fun z => (List.mem_cons.mp (I.stkSub b z)).elim hL hb) hc) (fun b o _ _ hc e n => u.any e n hc) (fun b o hc e n => u.free b o e n hc) (fun b o hc e => u.there b o e hc) u.tups u.frzs u.tbls (fun m' hm => by
    obtain ⟨o', es', ep', ho', r'⟩ := hm
    rw [ho] at ho'; cases ho'
    exact ⟨_, es', ep', hL, r'⟩) hok hg
theorem Inv.turned {t' : Nat} {it : Addr} (I : Inv X pins σ H s) (k : ∀ b o, b ≠ it → s.heap.get? b = some o → h'.get? b = some o) (hn : H it = none) (hL : it ≠ X.env.locals)
    (h1 : it ∈ X.ex ∨ X.s₀.heap.objs.size ≤ it) (h2 : ∀ x c, X.env.cells.lookup x = some c → c ≠ it) (h3 : ∀ p ∈ X.pn ++ pins, p.1 ≠ it) : Inv X pins σ H { s with heap := h', toks := t' } := by
  have nit : ∀ b u, H b = some u → b ≠ it := fun b u e z => by rw [z, hn] at e; cases e
  refine I.step (g' := s.gens) (d' := s.drawn) (ch := [it]) (fun b hb => ?_) (fun b o _ _ hc e _ => k b o (fun z => hc (by simp [z])) e) (fun b o _ _ hc e _ => ⟨o.slots, k b o (fun z => hc (by simp [z])) e⟩) (fun _ _ _ _ n => n)
    (fun b o hc e => ⟨o, k b o (fun z => hc (by simp [z])) e⟩) (fun _ _ e => e) (fun _ _ _ e => e) (fun b ps e => ⟨#[], by rw [e]; simp⟩) (fun m hm => ?_) (fun b u e => ?_) I.bare
  · have e : b = it := by simpa using hb
    subst e
    exact ⟨h1, hL, h2, h3⟩
  · obtain ⟨o, es, ep, ho, r⟩ := hm
    exact ⟨o, es, ep, k _ o (Ne.symm hL) ho, r⟩
  · refine (I.hok b u e).stay (fun c v hc q => k c v ?_ q) (fun _ q => q) fun _ _ q => q
    rcases hc with z | z
    · rw [z]; exact nit b u e
    · exact nit c _ z
theorem Inv.tok (I : Inv X pins σ H s) (t : Nat) : Inv X pins σ H { s with toks := t } := I.un (h' := s.heap) (t' := t) Un.refl I.hok
theorem Inv.kept {t' : Nat} (I : Inv X pins σ H s) (k : ∀ b u, s.heap.get? b = some u → h'.get? b = some u) : Inv X pins σ H { s with heap := h', toks := t' } := I.un (Un.kept k) (I.hok.kept k)
theorem Inv.laid {a : Addr} {o : HO} {t' : Nat} (I : Inv X pins σ H s) (k : ∀ b u, s.heap.get? b = some u → h'.get? b = some u) (hp : s.heap.objs.size ≤ a) (new : ObjOk X.prog X.w (upd H a o) h' a o) :
    Inv X pins σ (upd H a o) { s with heap := h', toks := t' } := I.un (Un.laid k hp (I.hok.fresh hp)) (I.hok.laid k hp new)
theorem Inv.write {x e : Addr} {o : HO} {t' : Nat} (I : Inv X pins σ H s) (mu : Mut (H x)) (he : e = x ∨ H e = some (.own x)) (k : ∀ b u, b ≠ e → s.heap.get? b = some u → h'.get? b = some u) (heo : ∃ u, h'.get? e = some u)
    (new : ObjOk X.prog X.w (upd H x o) h' x o) : Inv X pins σ (upd H x o) { s with heap := h', toks := t' } := I.un (Un.write mu he k heo) (I.hok.write mu he k heo new)
theorem Inv.weak {σ' : List (Option V)} (I : Inv X pins σ H s) (hl : σ'.length = σ.length) (w : ∀ (i : Nat) v, σ'[i]? = some (some v) → σ[i]? = some (some v)) : Inv X pins σ' H s :=
  ⟨I.ok, I.os, I.bare, I.base, let ⟨m, hn, hl'⟩ := I.loc; ⟨m, hn, fun i x v e1 e2 e3 => hl' i x v e1 (w i v e2) e3⟩, I.cell, I.free, I.freeC, I.pin, I.hok, hl.trans I.len⟩
theorem Inv.pins_of {pins' : List (Addr × Obj)} (I : Inv X pins σ H s) (h : ∀ p ∈ pins', s.heap.get? p.1 = some p.2 ∧ H p.1 = none ∧ p.1 ≠ X.env.locals ∧ p.1 ∉ X.fs ∧ ∀ v, p.2.data ≠ .cell v) : Inv X pins' σ H s :=
  ⟨I.ok, I.os, I.bare, I.base, I.loc, I.cell, I.free, I.freeC, fun p hp => (List.mem_append.mp hp).elim (fun z => I.pin p (List.mem_append_left _ z)) (h p), I.hok, I.len⟩
theorem nodup_ix {N : List Str} (hN : N.Nodup) {i j : Nat} {x : Str} (a : N[i]? = some x) (b : N[j]? = some x) : i = j := by
  obtain ⟨h1, e1⟩ := List.getElem?_eq_some_iff.mp a
  obtain ⟨h2, e2⟩ := List.getElem?_eq_some_iff.mp b
  exact (List.getElem_inj hN).mp (e1.trans e2.symm)
theorem store_ok2 {M : Model} {A : Around} {E : Value → Shared → Prop} {i : Nat} {x : Str} {v : V} {u : Value} {Q : Unit → Shared → Prop} (I : Inv X pins σ H s) (hN : X.N.Nodup) (hi : X.N[i]? = some x) (hx : Loc X.env.scope x) (r : RelV v u)
    (h : ∀ s', Inv X pins (σ.set i (some v)) H s' → (∃ a, Heap.SameBut a s.heap s'.heap ∧ (a = X.env.locals ∨ X.env.cells.lookup x = some a)) → Q () s') (hf : X.fn x = true ∨ X.env.scope.names.lookup x = some .local := by first | exact .inl rfl | exact .inr rfl | assumption) : wpAny M A (storeName X.env x u) Q E s := by
  obtain ⟨m, hn, hl⟩ := id I.loc
  have hcls : (X.env.scope.kind == .class || (X.env.scope.kind == .module && X.env.locals != X.env.globals)) = false := by rw [I.ok.kind]; rfl
  have hiσ : i < σ.length := by rw [I.len]; exact (List.getElem?_eq_some_iff.mp hi).1
  have cne := I.cne
  have tracked : ∀ {a : Addr} {h' : Heap}, (∃ o, s.heap.get? a = some o ∧ H a = none) → Heap.SameBut a s.heap h' → HOk X.prog X.w H h' := fun {a h'} ha hs b ob e => by
    obtain ⟨_, _, hfree⟩ := ha
    refine (I.hok b ob e).stay (fun c w' hc q => (hs.2 c ?_).trans q) (fun _ q => q) fun _ _ q => q
    rintro rfl
    rcases hc with rfl | hc
    · rw [hfree] at e; cases e
    · rw [hfree] at hc; cases hc
  rcases hx with hk | hk
  · refine wpAny_storeName_local hk hn (fun h' hn' hs => ?_) hcls
    obtain ⟨oL, _, _, hoL, _⟩ := id hn
    refine h _ ⟨I.ok, I.os, I.bare, ⟨fun b o e n hb hx => ?_, fun b o e n hb hx => ?_, I.base.free, fun b o e hx => ?_, I.base.tups, I.base.frzs, I.base.tbls⟩, ⟨_, hn', fun j y v' e1 e2 e3 => ?_⟩, fun y c e => ?_, I.free, I.freeC, fun p hp => ?_, tracked ⟨oL, hoL, I.free⟩ hs, by simpa using I.len⟩ ⟨_, hs, .inl rfl⟩
    · exact (hs.2 b (Nat.ne_of_lt (Nat.lt_of_lt_of_le (Heap.lt_size e) I.ok.above))).trans (I.base.keep b o e n hb hx)
    · obtain ⟨sl, e1⟩ := I.base.slot b o e n hb hx
      exact ⟨sl, (hs.2 b (Nat.ne_of_lt (Nat.lt_of_lt_of_le (Heap.lt_size e) I.ok.above))).trans e1⟩
    · obtain ⟨o', e1⟩ := I.base.there b o e hx
      exact ⟨o', (hs.2 b (Nat.ne_of_lt (Nat.lt_of_lt_of_le (Heap.lt_size e) I.ok.above))).trans e1⟩
    · by_cases hj : j = i
      · subst hj
        rw [hi] at e1; cases e1
        rw [List.getElem?_set_self hiσ] at e2
        cases e2
        exact ⟨u, r, .inl ⟨hk, by simp⟩⟩
      · rw [List.getElem?_set_ne (Ne.symm hj)] at e2
        obtain ⟨u', r', q⟩ := hl j y v' e1 e2 e3
        refine ⟨u', r', ?_⟩
        rcases q with ⟨k, e⟩ | ⟨k, c, e, z⟩
        · refine .inl ⟨k, ?_⟩
          have : y ≠ x := fun e => hj (nodup_ix hN e1 (e ▸ hi))
          simp [this, e]
        · exact .inr ⟨k, c, e, z.sameBut hs (cne y c e)⟩
    · obtain ⟨w', z⟩ := I.cell y c e
      exact ⟨w', z.sameBut hs (cne y c e)⟩
    · obtain ⟨e, n, ne, nf, d⟩ := I.pin p hp
      exact ⟨(hs.2 p.1 ne).trans e, n, ne, nf, d⟩
  · have hfn : X.fn x = true := by
      rcases hf with z | z
      · exact z
      · rw [z] at hk; cases hk
    obtain ⟨c, hc⟩ := I.ok.has x (.inl hk)
    obtain ⟨w', z⟩ := I.cell x c hc
    refine wpAny_storeName_cell I.ok.kind hk hc z (fun h' hc' hs => ?_)
    obtain ⟨oc, hoc, hocd⟩ := id z
    refine h { s with heap := h' } ⟨I.ok, I.os, I.bare, ⟨fun b o e n hb hx => ?_, fun b o e n hb hx => ?_, I.base.free, fun b o e hx => ?_, I.base.tups, I.base.frzs, I.base.tbls⟩, ⟨m, hn.sameBut hs (Ne.symm (cne x c hc)), fun j y v' e1 e2 e3 => ?_⟩, fun y c' e => ?_, I.free, I.freeC, fun p hp => ?_, tracked ⟨oc, hoc, I.freeC x c hc⟩ hs, by simpa using I.len⟩ ⟨c, hs, .inr hc⟩
    · exact (hs.2 b (Nat.ne_of_lt (Nat.lt_of_lt_of_le (Heap.lt_size e) (I.ok.cab x c hfn hc)))).trans (I.base.keep b o e n hb hx)
    · obtain ⟨sl, e1⟩ := I.base.slot b o e n hb hx
      exact ⟨sl, (hs.2 b (Nat.ne_of_lt (Nat.lt_of_lt_of_le (Heap.lt_size e) (I.ok.cab x c hfn hc)))).trans e1⟩
    · obtain ⟨o', e1⟩ := I.base.there b o e hx
      exact ⟨o', (hs.2 b (Nat.ne_of_lt (Nat.lt_of_lt_of_le (Heap.lt_size e) (I.ok.cab x c hfn hc)))).trans e1⟩
    · by_cases hj : j = i
      · subst hj
        rw [hi] at e1; cases e1
        rw [List.getElem?_set_self hiσ] at e2
        cases e2
        exact ⟨u, r, .inr ⟨.inl hk, c, hc, hc'⟩⟩
      · rw [List.getElem?_set_ne (Ne.symm hj)] at e2
        obtain ⟨u', r', q⟩ := hl j y v' e1 e2 e3
        refine ⟨u', r', ?_⟩
        rcases q with q | ⟨k, c', e, z'⟩
        · exact .inl q
        · refine .inr ⟨k, c', e, z'.sameBut hs ?_⟩
          rintro rfl
          exact hj (nodup_ix hN e1 (I.ok.inj _ _ _ e hc ▸ hi))
    · by_cases hcc : c' = c
      · subst hcc; exact ⟨_, hc'⟩
      · obtain ⟨w2, z2⟩ := I.cell y c' e
        exact ⟨w2, z2.sameBut hs hcc⟩
    · obtain ⟨e, n, ne, nf, d⟩ := I.pin p hp
      refine ⟨(hs.2 p.1 ?_).trans e, n, ne, nf, d⟩
      intro q
      rw [q, hoc] at e
      have q' : oc = p.2 := Option.some.inj e
      exact d w' (by rw [← q']; exact hocd)
theorem store_ok {M : Model} {A : Around} {E : Value → Shared → Prop} {i : Nat} {x : Str} {v : V} {u : Value} {Q : Unit → Shared → Prop} (I : Inv X pins σ H s) (hN : X.N.Nodup) (hi : X.N[i]? = some x) (hx : Loc X.env.scope x) (r : RelV v u)
    (h : ∀ s', Inv X pins (σ.set i (some v)) H s' → Q () s') (hf : X.fn x = true ∨ X.env.scope.names.lookup x = some .local := by first | exact .inl rfl | exact .inr rfl | assumption) : wpAny M A (storeName X.env x u) Q E s :=
  store_ok2 I hN hi hx r (fun s' I' _ => h s' I') hf
theorem Inv.call' {s' : Shared} {ch : List Addr} (I : Inv X pins σ H s) (ho : s'.os = s.os) (u : Un (frs X.stack) ch H H' s.heap s'.heap) (hok : HOk X.prog X.w H' s'.heap) (hg : AllBare s'.gens)
    (hch : ∀ b ∈ ch, (b ∈ X.ex ∨ X.s₀.heap.objs.size ≤ b) ∧ b ≠ X.env.locals ∧ (∀ x c, X.env.cells.lookup x = some c → c ≠ b) ∧ ∀ p ∈ X.pn ++ pins, p.1 ≠ b) : Inv X pins σ H' s' := by
  obtain ⟨h', g', d', t', o'⟩ := s'
  have e : o' = s.os := ho
  subst e
  exact I.call (g' := g') (t' := t') (d' := d') u hok hg hch
end
abbrev XK := Value → Option Addr → Hp → Prop
abbrev St := List (Option V)
abbrev VK := V → Hp → Prop
abbrev TE := St → Hp → VK → Prop
abbrev TT := St → Hp → (Bool → Hp → Prop) → Prop
abbrev TA := St → Hp → (List V → Hp → Prop) → Prop
structure Ends where
  nx : St → Hp → Prop
  rt : VK
  bk : St → Hp → Prop := fun _ _ => False
  ct : St → Hp → Prop := fun _ _ => False
abbrev TS := Ends → St → Hp → Prop
def EP (X : Cx) (pins : List (Addr × Obj)) (σ : St) (Q : VK) (u : Value) (s' : Shared) : Prop := ∃ v H', Inv X pins σ H' s' ∧ RelV v u ∧ Q v H'
def TP (X : Cx) (pins : List (Addr × Obj)) (σ : St) (Q : Bool → Hp → Prop) (b : Bool) (s' : Shared) : Prop := ∃ H', Inv X pins σ H' s' ∧ Q b H'
def AP (X : Cx) (pins : List (Addr × Obj)) (σ : St) (Q : List V → Hp → Prop) (us : List Value) (s' : Shared) : Prop := ∃ vs H', Inv X pins σ H' s' ∧ Vals vs us ∧ Q vs H'
def SP (X : Cx) (pins : List (Addr × Obj)) (D : Ends) (f : Flow) (s' : Shared) : Prop :=
  match f with
  | .next => ∃ σ' H', Inv X pins σ' H' s' ∧ D.nx σ' H'
  | .brk => ∃ σ' H', Inv X pins σ' H' s' ∧ D.bk σ' H'
  | .cont => ∃ σ' H', Inv X pins σ' H' s' ∧ D.ct σ' H'
  | .ret u => ∃ v σ' H', Inv X pins σ' H' s' ∧ RelV v u ∧ D.rt v H'
def PE (X : Cx) (e : Expr) (t : TE) : Prop :=
  ∀ (pins : List (Addr × Obj)) (s : Shared) (σ : St) (H : Hp) (Q : VK), Inv X pins σ H s → t σ H Q → wpAny (model X.prog X.w) X.A (eval e X.env) (EP X pins σ Q) X.xe s
def PT (X : Cx) (e : Expr) (t : TT) : Prop :=
  ∀ (pins : List (Addr × Obj)) (s : Shared) (σ : St) (H : Hp) (Q : Bool → Hp → Prop), Inv X pins σ H s → t σ H Q → wpAny (model X.prog X.w) X.A (isTrue e X.env (eval e X.env)) (TP X pins σ Q) X.xe s
def PW (X : Cx) (e : Expr) (t : TT) : Prop :=
  ∀ (whole : Sem Value) (pins : List (Addr × Obj)) (s : Shared) (σ : St) (H : Hp) (Q : Bool → Hp → Prop), Inv X pins σ H s → t σ H Q → wpAny (model X.prog X.w) X.A (isTrue e X.env whole) (TP X pins σ Q) X.xe s
theorem PW.pt {X : Cx} {e : Expr} {t : TT} (h : PW X e t) : PT X e t := h _
def PA (X : Cx) (es : List Expr) (t : TA) : Prop :=
  ∀ (pos : Pos) (pins : List (Addr × Obj)) (s : Shared) (σ : St) (H : Hp) (Q : List V → Hp → Prop), Inv X pins σ H s → t σ H Q → wpAny (model X.prog X.w) X.A (spliced (backTo pos (starEach es X.env))) (AP X pins σ Q) X.xe s
def PS (X : Cx) (st : Stmt) (t : TS) : Prop :=
  ∀ (pins : List (Addr × Obj)) (s : Shared) (σ : St) (H : Hp) (D : Ends), Inv X pins σ H s → t D σ H → wpAny (model X.prog X.w) X.A (exec st X.env) (SP X pins D) X.xe s
def PSs (X : Cx) (st : List Stmt) (t : TS) : Prop :=
  ∀ (pins : List (Addr × Obj)) (s : Shared) (σ : St) (H : Hp) (D : Ends), Inv X pins σ H s → t D σ H → wpAny (model X.prog X.w) X.A (execs st X.env) (SP X pins D) X.xe s
theorem thn {α : Type} {t : Sem α} {Q Q' : α → Shared → Prop} {M : Model} {A : Around} {E : Value → Shared → Prop} {s : Shared} (h : wpAny M A t Q E s) (hQ : ∀ a s, Q a s → Q' a s) : wpAny M A t Q' E s := wpAny_mono h hQ fun _ _ x => x
end L2
namespace L2
open PySem PySem.Spec PyProof.Rows
section
variable {X : Cx}
theorem bin {a b : Expr} {ta tb : TE} (ha : PE X a ta) (hb : PE X b tb) {pins : List (Addr × Obj)} {s : Shared} {σ : St} {H : Hp} {R : V → V → Hp → Prop} (I : Inv X pins σ H s) (h : ta σ H fun x H1 => tb σ H1 fun y H2 => R x y H2)
    {α : Type} {Q : α → Shared → Prop} {f : Value → Value → Sem α}
    (hf : ∀ v u s2 x y H2, Inv X pins σ H2 s2 → RelV x v → RelV y u → R x y H2 → wpAny (model X.prog X.w) X.A (f v u) Q X.xe s2) :
    wpAny (model X.prog X.w) X.A (eval a X.env) (fun v s₁ => wpAny (model X.prog X.w) X.A (eval b X.env) (fun u s₂ => wpAny (model X.prog X.w) X.A (f v u) Q X.xe s₂) X.xe s₁) X.xe s := by
  refine thn (ha pins s σ H _ I h) fun v s1 ⟨x, H1, I1, r1, q1⟩ => ?_
  refine thn (hb pins s1 σ H1 _ I1 q1) fun u s2 ⟨y, H2, I2, r2, q2⟩ => ?_
  exact hf v u s2 x y H2 I2 r1 r2 q2
def tVar (i : Nat) : TE := fun σ H Q => ∃ v, σ[i]? = some (some v) ∧ Q v H
def tC (v : V) : TE := fun _ H Q => Q v H
theorem pe_var {i : Nat} {x : Str} {pos : Pos} (hN : X.N[i]? = some x) (hv : Vis X.env.scope x) (hd : (x == ("__debug__" : Str)) = false := by decide) (hcd : (x == ("__classdict__" : Str)) = false := by decide) : PE X (.Name x pos) (tVar i) := by
  intro pins s σ H Q I h
  obtain ⟨v, e, h⟩ := h
  obtain ⟨m, hn, hl⟩ := I.loc
  obtain ⟨u, r, l⟩ := hl i x v hN e hv
  have fin : EP X pins σ Q u s := ⟨v, H, I, r, h⟩
  rcases l with ⟨hk, hm⟩ | ⟨hk, c, hc, hcell⟩
  · exact wpAny_Name (wpAny_loadName_local I.ok.kind hk hn hm fin) hd
  · rcases hk with hk | hk
    · exact wpAny_Name (wpAny_loadName_cell I.ok.kind hk hc hcell fin) hd
    · exact wpAny_Name (wpAny_loadName_free I.ok.kind hk hc hcell fin hcd) hd
theorem pe_int {i j pos} : PE X (.Constant (.int i) j pos) (tC (.int i)) := fun _ _ _ H _ I h => wpAny_Constant_int ⟨.int i, H, I.tok _, ⟨_, rfl⟩, h⟩
theorem pe_bl {b j pos} : PE X (.Constant (.bool b) j pos) (tC (.bl b)) := fun _ _ _ H _ I h => Constant_bool ⟨.bl b, H, I, rfl, h⟩
theorem pe_non {j pos} : PE X (.Constant .none j pos) (tC .non) := fun _ _ _ H _ I h => Constant_none ⟨.non, H, I, rfl, h⟩
def Gl (X : Cx) (x : Str) : Prop := X.env.kindOf x = some .globalImplicit
theorem ld_glob {E : Value → Shared → Prop} {pins : List (Addr × Obj)} {s : Shared} {σ : St} {H : Hp} {x : Str} {u : Value} {pos : Pos} {Q : Value → Shared → Prop} (I : Inv X pins σ H s) (hg : Gl X x) (hm : X.mg x = some u) (h : Q u s)
    (hd : (x == ("__debug__" : Str)) = false := by decide) : wpAny (model X.prog X.w) X.A (eval (.Name x pos) X.env) Q E s :=
  Calls.Name_function_global I.ok.kind hg (Calls.loadGlobal_global (by rw [I.ok.glob]; exact I.mod.glob.keeps I.bk) hm h) hd
theorem ld_blt {E : Value → Shared → Prop} {pins : List (Addr × Obj)} {s : Shared} {σ : St} {H : Hp} {x : Str} {u : Value} {pos : Pos} {Q : Value → Shared → Prop} (I : Inv X pins σ H s) (hg : Gl X x) (hm : X.mg x = none) (hv : bootBuiltins x = some u) (h : Q u s)
    (hn : x ≠ "__name__" := by decide) (hd : (x == ("__debug__" : Str)) = false := by decide) : wpAny (model X.prog X.w) X.A (eval (.Name x pos) X.env) Q E s := by
  obtain ⟨mb, h1, h2⟩ := I.mod.blt
  exact Calls.Name_function_global I.ok.kind hg (Calls.loadGlobal_builtin (by rw [I.ok.glob]; exact I.mod.glob.keeps I.bk) hm (by rw [I.ok.blt]; exact h1.keeps I.bk) ((h2 x hn).trans hv) h) hd
theorem pe_glob {x : Str} {v : V} {u : Value} {pos : Pos} (hg : Gl X x) (hm : X.mg x = some u) (r : RelV v u) (hd : (x == ("__debug__" : Str)) = false := by decide) : PE X (.Name x pos) (tC v) :=
  fun _ _ _ H _ I h => ld_glob I hg hm ⟨v, H, I, r, h⟩ hd
theorem pe_bltn {x : Str} {v : V} {u : Value} {pos : Pos} (hg : Gl X x) (hm : X.mg x = none) (hv : bootBuiltins x = some u) (r : RelV v u) (hn : x ≠ "__name__" := by decide) (hd : (x == ("__debug__" : Str)) = false := by decide) : PE X (.Name x pos) (tC v) :=
  fun _ _ _ H _ I h => ld_blt I hg hm hv ⟨v, H, I, r, h⟩ hn hd
variable {a b : Expr} {ta tb : TE} {pos : Pos}
def PC (X : Cx) (op : CmpOp) (a b : Expr) (t : TE) : Prop :=
  ∀ (pins : List (Addr × Obj)) (s : Shared) (σ : St) (H : Hp) (Q : VK), Inv X pins σ H s → t σ H Q →
    wpAny (model X.prog X.w) X.A (eval a X.env) (fun v s₁ => wpAny (model X.prog X.w) X.A (eval b X.env) (fun u s₂ => wpAny (model X.prog X.w) X.A (compareOp op v u) (EP X pins σ Q) X.xe s₂) X.xe s₁) X.xe s
theorem nobehind (b : Expr) {op : CmpOp} (h : op ≠ .In) (h2 : op ≠ .NotIn) : behindInMarks op b = false := by
  have e1 : (op == CmpOp.In) = false := by cases op <;> first | rfl | exact absurd rfl h
  have e2 : (op == CmpOp.NotIn) = false := by cases op <;> first | rfl | exact absurd rfl h2
  cases b <;> simp [behindInMarks, e1, e2]
def tB (t : TE) : TT := fun σ H Q => t σ H fun x H1 => ∃ c, x = .bl c ∧ Q c H1
theorem pt_cmp {op : CmpOp} {t : TE} (h : PC X op a b t) (h1 : behindInMarks op b = false := by first | exact nobehind _ (by decide) (by decide) | rfl) : PT X (.Compare a [op] [b] pos) (tB t) := by
  intro pins s σ H Q I hw
  refine wpAny_isTrue_Compare1 (thn (h pins s σ H _ I hw) fun v s1 h1 => thn h1 fun u s2 h2 => thn h2 fun c s3 ⟨x, H1, I1, r1, q1⟩ => ?_) h1
  obtain ⟨d, rfl, q⟩ := q1
  cases r1
  exact wpAny_truthy_bool ⟨H1, I1, q⟩
theorem pt_val {e : Expr} {t : TE} (h : PE X e t) (he : ∀ whole, isTrue e X.env whole = (do let v ← whole; standAt e.pos; holding [v] (truthy v)) := by intro _; rfl) : PT X e (tB t) := by
  intro pins s σ H Q I hw
  refine isTrue_plain (thn (h pins s σ H _ I hw) fun v s1 ⟨x, H1, I1, r1, q1⟩ => ?_) (he _)
  obtain ⟨d, rfl, q⟩ := q1
  cases r1
  exact wpAny_truthy_bool ⟨H1, I1, q⟩
variable {tA tB' : TT} {rest : List Expr}
def tAnd (t u : TT) : TT := fun σ H Q => t σ H fun c H1 => if c = true then u σ H1 Q else Q false H1
def tOr (t u : TT) : TT := fun σ H Q => t σ H fun c H1 => if c = true then Q true H1 else u σ H1 Q
def tNot (t : TT) : TT := fun σ H Q => t σ H fun c H1 => Q (!c) H1
theorem pw_and1 (ha : PT X a tA) : PW X (.BoolOp .And [a] pos) tA := by
  intro wh pins s σ H Q I h
  refine isTrue_and (thn (ha pins s σ H Q I h) fun c s1 e => ?_)
  cases c with
  | true => exact isTrue_and_nil e
  | false => exact e
theorem pw_or1 (ha : PT X a tA) : PW X (.BoolOp .Or [a] pos) tA := by
  intro wh pins s σ H Q I h
  refine isTrue_or (thn (ha pins s σ H Q I h) fun c s1 e => ?_)
  cases c with
  | false => exact isTrue_or_nil e
  | true => exact e
theorem pw_and (ha : PT X a tA) (hb : PW X (.BoolOp .And (b :: rest) pos) tB') : PW X (.BoolOp .And (a :: b :: rest) pos) (tAnd tA tB') := by
  intro wh pins s σ H Q I h
  refine isTrue_and (thn (ha pins s σ H _ I h) fun c s1 ⟨H1, I1, q1⟩ => ?_)
  cases c with
  | true => exact hb wh pins s1 σ H1 Q I1 q1
  | false => exact ⟨H1, I1, q1⟩
theorem pw_or (ha : PT X a tA) (hb : PW X (.BoolOp .Or (b :: rest) pos) tB') : PW X (.BoolOp .Or (a :: b :: rest) pos) (tOr tA tB') := by
  intro wh pins s σ H Q I h
  refine isTrue_or (thn (ha pins s σ H _ I h) fun c s1 ⟨H1, I1, q1⟩ => ?_)
  cases c with
  | true => exact ⟨H1, I1, q1⟩
  | false => exact hb wh pins s1 σ H1 Q I1 q1
theorem pt_not (ha : PT X a tA) : PT X (.UnaryOp .Not a pos) (tNot tA) := by
  intro pins s σ H Q I h
  exact isTrue_not (ha pins s σ H (fun c H1 => Q (!c) H1) I h)
def tAndV (ta tb : TE) : TE := fun σ H Q => ta σ H fun x H1 => ∃ c, x = .bl c ∧ if c = true then tb σ H1 Q else Q (.bl false) H1
def tNotV (ta : TE) : TE := fun σ H Q => ta σ H fun x H1 => ∃ c, x = .bl c ∧ Q (.bl (!c)) H1
theorem pe_one {op} {t : TE} (h : PE X a t) : PE X (.BoolOp op [a] pos) t := fun pins s σ H Q I hw => BoolOp_one (h pins s σ H Q I hw)
theorem pe_and (ha : PE X a ta) (hb : PE X (.BoolOp .And (b :: rest) pos) tb) : PE X (.BoolOp .And (a :: b :: rest) pos) (tAndV ta tb) := by
  intro pins s σ H Q I h
  refine BoolOp_and (thn (ha pins s σ H _ I h) fun v s1 ⟨x, H1, I1, r1, q1⟩ => ?_)
  obtain ⟨c, rfl, q1⟩ := q1
  cases r1
  refine wpAny_truthy_bool ?_
  cases c with
  | true => exact hb pins s1 σ H1 Q I1 q1
  | false => exact ⟨.bl false, H1, I1, rfl, q1⟩
theorem pe_not (ha : PE X a ta) : PE X (.UnaryOp .Not a pos) (tNotV ta) := by
  intro pins s σ H Q I h
  refine UnaryOp_ (thn (ha pins s σ H _ I h) fun v s1 ⟨x, H1, I1, r1, q1⟩ => ?_)
  obtain ⟨c, rfl, q1⟩ := q1
  cases r1
  exact not_of (wpAny_truthy_bool ⟨.bl (!c), H1, I1, rfl, q1⟩)
def tIf (t : TT) (ta tb : TE) : TE := fun σ H Q => t σ H fun c H1 => if c = true then ta σ H1 Q else tb σ H1 Q
theorem pe_ifExp {c : Expr} (hc : PT X c tA) (ha : PE X a ta) (hb : PE X b tb) : PE X (.IfExp c a b pos) (tIf tA ta tb) := by
  intro pins s σ H Q I h
  refine wpAny_IfExp (thn (hc pins s σ H _ I h) fun d s1 ⟨H1, I1, q1⟩ => ?_)
  cases d with
  | true => exact ha pins s1 σ H1 Q I1 q1
  | false => exact hb pins s1 σ H1 Q I1 q1
end
end L2
namespace L2
open PySem PySem.Spec PyProof.Rows
def SqL (K : PySem.W.Frag) (H : Hp) (a : Addr) (xs : List V) : Prop :=
  Rd H a (.lst xs) ∨
    ∃ (o : Obj) (its : Array Value) (n : Nat), K.lookup a = some o ∧ o.cls = .type "list" ∧ o.dict = none ∧ o.data = .seq its n ∧ its.size ≤ sizeLine ∧ Vals xs its.toList
def SqT (K : PySem.W.Frag) (H : Hp) (a : Addr) (xs : List V) : Prop :=
  Rd H a (.tup xs) ∨
    ∃ (o : Obj) (its : Array Value) (n : Nat), K.lookup a = some o ∧ o.cls = .type "tuple" ∧ o.data = .seq its n ∧ its.size ≤ sizeLine ∧ Vals xs its.toList
def absV : Value → Option V
  | .none => some .non
  | .bool b => some (.bl b)
  | .int i _ => some (.int i)
  | .str x _ => some (.str x)
  | .bytes b _ => some (.byt b)
  | .float b _ => some (.flt b)
  | .ref a => some (.ref a)
  | .type n => some (.ty n)
  | _ => none
theorem RelV.abs {x : V} {u : Value} (r : RelV x u) : absV u = some x := by
  cases x with
  | non => cases r; rfl
  | bl _ => cases r; rfl
  | int _ => obtain ⟨t, rfl⟩ := r; rfl
  | str _ => obtain ⟨t, rfl⟩ := r; rfl
  | byt _ => obtain ⟨t, rfl⟩ := r; rfl
  | flt _ => obtain ⟨t, rfl⟩ := r; rfl
  | ref _ => cases r; rfl
  | ty _ => cases r; rfl
theorem RelV.inj {x y : V} {u : Value} (r : RelV x u) (q : RelV y u) : x = y := Option.some.inj (r.abs.symm.trans q.abs)
theorem Vals.inj : ∀ {xs ys : List V} {us : List Value}, Vals xs us → Vals ys us → xs = ys
  | _, _, _, .nil, .nil => rfl
  | _, _, _, .cons r t, .cons r' t' => by rw [r.inj r', Vals.inj t t']
section
variable {X : Cx} {pins : List (Addr × Obj)} {σ : St} {H : Hp} {s : Shared} {a : Addr} {xs ys : List V}
theorem SqL.of {K : PySem.W.Frag} (h : H a = some (.lst xs)) : SqL K H a xs := .inl (.inl h)
theorem SqT.of {K : PySem.W.Frag} (h : H a = some (.tup xs)) : SqT K H a xs := .inl (.inl h)
theorem Inv.list (I : Inv X pins σ H s) (h : SqL X.K H a xs) : ∃ its : List Value, Vals xs its ∧ PlainL s.heap a its.toArray ∧ xs.length ≤ sizeLine := by
  rcases h with h | ⟨o, its, n, hk, hc, hd, hs, hz, r⟩
  · obtain ⟨z, its, n, r, e⟩ := h.ok I.hok
    exact ⟨its, r, ⟨_, n, e, rfl, rfl, rfl⟩, z⟩
  · refine ⟨its.toList, r, ⟨o, n, I.kIn a o hk, hc, hd, by simpa using hs⟩, ?_⟩
    have e := r.length
    simp only [Array.length_toList] at e
    omega
theorem Inv.tuple (I : Inv X pins σ H s) (h : SqT X.K H a xs) : ∃ its : List Value, Vals xs its ∧ IsTup s.heap a its.toArray ∧ xs.length ≤ sizeLine := by
  rcases h with h | ⟨o, its, n, hk, hc, hs, hz, r⟩
  · obtain ⟨z, its, r, p⟩ := h.ok I.hok
    exact ⟨its, r, p, z⟩
  · refine ⟨its.toList, r, ⟨o, I.kIn a o hk, hc, n, by simpa using hs⟩, ?_⟩
    have e := r.length
    simp only [Array.length_toList] at e
    omega
theorem Inv.list_inj (I : Inv X pins σ H s) (h : SqL X.K H a xs) (h' : SqL X.K H a ys) : xs = ys := by
  obtain ⟨its, r, ⟨o, n, e, _, _, d⟩, _⟩ := I.list h
  obtain ⟨its', r', ⟨o', n', e', _, _, d'⟩, _⟩ := I.list h'
  rw [e] at e'; cases e'
  rw [d] at d'
  injection d' with d1 _
  have : its = its' := by simpa using congrArg Array.toList d1
  subst this
  exact r.inj r'
end
abbrev Cx.wish (X : Cx) (E : Value → Shared → Prop) : Cx := { X with xe := E }
abbrev Cx.nox (X : Cx) : Cx := X.wish fun _ _ => False
theorem Cx.Ok.wish {X : Cx} (ok : X.Ok) (E : Value → Shared → Prop) : (X.wish E).Ok :=
  ⟨ok.mod, ok.kind, ok.glob, ok.blt, ok.above, ok.inj, ok.has, ok.cab, ok.hd, ok.frames, ok.stk, ok.exf, ok.bs, ok.bsz, ok.noex, ok.exfs, ok.funs, ok.frf⟩
theorem Cx.Ok.unwish {X : Cx} {E : Value → Shared → Prop} (ok : (X.wish E).Ok) : X.Ok :=
  ⟨ok.mod, ok.kind, ok.glob, ok.blt, ok.above, ok.inj, ok.has, ok.cab, ok.hd, ok.frames, ok.stk, ok.exf, ok.bs, ok.bsz, ok.noex, ok.exfs, ok.funs, ok.frf⟩
section
variable {X : Cx} {pins : List (Addr × Obj)} {σ : St} {H : Hp} {s : Shared} {E : Value → Shared → Prop}
theorem Inv.wish (I : Inv X pins σ H s) (E : Value → Shared → Prop) : Inv (X.wish E) pins σ H s := ⟨I.ok.wish E, I.os, I.bare, I.base, I.loc, I.cell, I.free, I.freeC, I.pin, I.hok, I.len⟩
theorem Inv.unwish (I : Inv (X.wish E) pins σ H s) : Inv X pins σ H s := ⟨I.ok.unwish, I.os, I.bare, I.base, I.loc, I.cell, I.free, I.freeC, I.pin, I.hok, I.len⟩
theorem SP.unwish {D : Ends} {f : Flow} {s' : Shared} (h : SP (X.wish E) pins D f s') : SP X pins D f s' := by
  cases f with
  | next => obtain ⟨σ', H', I, q⟩ := h; exact ⟨σ', H', I.unwish, q⟩
  | brk => obtain ⟨σ', H', I, q⟩ := h; exact ⟨σ', H', I.unwish, q⟩
  | cont => obtain ⟨σ', H', I, q⟩ := h; exact ⟨σ', H', I.unwish, q⟩
  | ret u => obtain ⟨v, σ', H', I, r, q⟩ := h; exact ⟨v, σ', H', I.unwish, r, q⟩
theorem PE.nox {e : Expr} {t : TE} (h : PE X.nox e t) : PE X e t := fun pins s σ H Q I hw =>
  wpAny_mono (h pins s σ H Q (I.wish _) hw) (fun _ _ ⟨v, H', I', r, q⟩ => ⟨v, H', I'.unwish, r, q⟩) fun _ _ z => False.elim z
theorem PT.nox {e : Expr} {t : TT} (h : PT X.nox e t) : PT X e t := fun pins s σ H Q I hw =>
  wpAny_mono (h pins s σ H Q (I.wish _) hw) (fun _ _ ⟨H', I', q⟩ => ⟨H', I'.unwish, q⟩) fun _ _ z => False.elim z
theorem PSs.nox {st : List Stmt} {t : TS} (h : PSs X.nox st t) : PSs X st t := fun pins s σ H D I hw =>
  wpAny_mono (h pins s σ H D (I.wish _) hw) (fun _ _ q => q.unwish) fun _ _ z => False.elim z
end
section
variable {X : Cx} {st : Stmt} {rest : List Stmt} {t u : TS} {e : Expr} {te : TE} {pos : Pos}
def tNext : TS := fun D σ H => D.nx σ H
def tSeq (t u : TS) : TS := fun D σ H => t { D with nx := u D } σ H
theorem pss_nil : PSs X [] tNext := fun _ _ σ H _ I h => wpAny_execs_nil ⟨σ, H, I, h⟩
theorem pss_cons (h1 : PS X st t) (h2 : PSs X rest u) : PSs X (st :: rest) (tSeq t u) := by
  intro pins s σ H D I h
  refine wpAny_execs_cons (thn (h1 pins s σ H { D with nx := u D } I h) fun f s1 q => ?_)
  cases f with
  | next =>
    obtain ⟨σ', H', I', q⟩ := q
    exact h2 pins s1 σ' H' D I' q
  | ret v => exact q
  | brk => exact q
  | cont => exact q
theorem pss_one (h1 : PS X st t) : PSs X [st] t := by
  intro pins s σ H D I h
  refine wpAny_execs_cons (thn (h1 pins s σ H D I h) fun f s1 q => ?_)
  cases f with
  | next => exact wpAny_execs_nil q
  | ret v => exact q
  | brk => exact q
  | cont => exact q
theorem Inv.quiet {pins : List (Addr × Obj)} {σ : St} {H : Hp} {s : Shared} (I : Inv X pins σ H s) : interactive X.env = false := by simp [interactive, I.ok.kind]
def tDrop (te : TE) : TS := fun D σ H => te σ H fun _ H1 => D.nx σ H1
theorem ps_expr (he : PE X e te) (hs : swapsWith e none pos.line X.env = pure false := by rfl) : PS X (.Expr e pos) (tDrop te) := by
  intro pins s σ H D I h
  exact wpAny_Expr_any (thn (he pins s σ H _ I h) fun v s1 ⟨x, H1, I1, r1, q1⟩ => ⟨σ, H1, I1, q1⟩) I.quiet hs
def tRet (te : TE) : TS := fun D σ H => te σ H D.rt
theorem ps_ret (he : PE X e te) : PS X (.Return (some e) pos) (tRet te) := by
  intro pins s σ H D I h
  exact wpAny_Return_some (thn (he pins s σ H _ I h) fun v s1 ⟨x, H1, I1, r1, q1⟩ => ⟨x, σ, H1, I1, r1, q1⟩)
def tIfS (c : TT) (t u : TS) : TS := fun D σ H => c σ H fun b H1 => if b = true then t D σ H1 else u D σ H1
theorem ps_if {c : Expr} {a b : List Stmt} {tc : TT} (hc : PT X c tc) (ha : PSs X a t) (hb : PSs X b u) : PS X (.If c a b pos) (tIfS tc t u) := by
  intro pins s σ H D I h
  refine wpAny_If (thn (hc pins s σ H _ I h) fun d s1 ⟨H1, I1, q1⟩ => ?_)
  cases d with
  | true => exact ha pins s1 σ H1 D I1 q1
  | false => exact hb pins s1 σ H1 D I1 q1
end
abbrev TG := V → St → Hp → (St → Hp → Prop) → Prop
abbrev TGs := List V → St → Hp → (St → Hp → Prop) → Prop
def PG (X : Cx) (target : Expr) (t : TG) : Prop :=
  ∀ (pins : List (Addr × Obj)) (s : Shared) (σ : St) (H : Hp) (v : V) (u : Value) (Q : St → Hp → Prop), Inv X pins σ H s → RelV v u → t v σ H Q →
    wpAny (model X.prog X.w) X.A (assign target X.env u) (fun _ s' => ∃ σ' H', Inv X pins σ' H' s' ∧ Q σ' H') X.xe s
def PGs (X : Cx) (ts : List Expr) (t : TGs) : Prop :=
  ∀ (pins : List (Addr × Obj)) (s : Shared) (σ : St) (H : Hp) (vs : List V) (us : List Value) (Q : St → Hp → Prop), Inv X pins σ H s → Vals vs us → t vs σ H Q →
    wpAny (model X.prog X.w) X.A (assignInOrder ((assignEach ts X.env).map (·.2)) us) (fun _ s' => ∃ σ' H', Inv X pins σ' H' s' ∧ Q σ' H') X.xe s
abbrev TSet := V → V → V → Hp → (Hp → Prop) → Prop
def PSet (X : Cx) (t : TSet) : Prop :=
  ∀ (pins : List (Addr × Obj)) (s : Shared) (σ : St) (H : Hp) (o i v : V) (ov iv u : Value) (Q : Hp → Prop), Inv X pins σ H s → RelV o ov → RelV i iv → RelV v u → t o i v H Q →
    wpAny (model X.prog X.w) X.A (setItem ov iv u) (fun _ s' => ∃ H', Inv X pins σ H' s' ∧ Q H') X.xe s
abbrev TIp := V → V → Hp → VK → Prop
def PIp (X : Cx) (op : Operator) (t : TIp) : Prop :=
  ∀ (pins : List (Addr × Obj)) (s : Shared) (σ : St) (H : Hp) (x y : V) (v u : Value) (Q : VK), Inv X pins σ H s → RelV x v → RelV y u → t x y H Q →
    wpAny (model X.prog X.w) X.A (inplaceOp op v u) (EP X pins σ Q) X.xe s
section
variable {X : Cx} {pos : Pos}
def gName (i : Nat) : TG := fun v σ H Q => Q (σ.set i (some v)) H
theorem pg_name {i : Nat} {x : Str} (hN : X.N.Nodup) (hi : X.N[i]? = some x) (hx : Loc X.env.scope x) (hf : X.fn x = true ∨ X.env.scope.names.lookup x = some .local := by first | exact .inl rfl | exact .inr rfl | assumption) : PG X (.Name x pos) (gName i) := by
  intro pins s σ H v u Q I r h
  exact wpAny_assign_Name (store_ok I hN hi hx r (fun s' I' => ⟨_, H, I', h⟩) hf)
def gNil : TGs := fun vs σ H Q => vs = [] ∧ Q σ H
def gCons (t : TG) (u : TGs) : TGs := fun vs σ H Q => ∃ v r, vs = v :: r ∧ t v σ H fun σ' H' => u r σ' H' Q
theorem pgs_nil : PGs X [] gNil := by
  intro pins s σ H vs us Q I r h
  obtain ⟨e, h⟩ := h
  subst e
  cases r
  exact assignInOrder_nil ⟨σ, H, I, h⟩
theorem pgs_cons {e : Expr} {es : List Expr} {t : TG} {u : TGs} (h1 : PG X e t) (h2 : PGs X es u)
    (hs : (assignEach (e :: es) X.env).map (·.2) = assign e X.env :: (assignEach es X.env).map (·.2) := by rfl) : PGs X (e :: es) (gCons t u) := by
  intro pins s σ H vs us Q I r h
  obtain ⟨v, vr, e1, h⟩ := h
  subst e1
  cases r with
  | cons r rr =>
    rw [hs]
    refine assignInOrder_cons (thn (h1 pins s σ H _ _ _ I r h) fun _ s1 ⟨σ1, H1, I1, q1⟩ => ?_)
    exact h2 pins s1 σ1 H1 _ _ Q I1 rr q1
def gTup (K : PySem.W.Frag) (n : Nat) (t : TGs) : TG := fun v σ H Q => ∃ a xs, v = .ref a ∧ SqT K H a xs ∧ xs.length = n ∧ t xs σ H Q
theorem pg_tup {es : List Expr} {k : Nat} {t : TGs} {n : Nat} (hc : X.calm = true) (h : PGs X es t)
    (hn : (assignEach es X.env).length = n := by rfl) (hst : (assignEach es X.env).findIdx? (·.1) = none := by rfl) : PG X (.Tuple es k pos) (gTup X.K n t) := by
  intro pins s σ H v u Q I r hw
  obtain ⟨a, xs, e1, hq, hl, hw⟩ := hw
  subst e1
  cases r
  obtain ⟨its, rv, ht, hz⟩ := I.tuple hq
  refine assign_Tuple_tuple (I.ok.hd hc) ht (by simp [hn, ← hl, rv.length]) hst fun h' hx => ?_
  have I1 : Inv X pins σ H { s with heap := h' } := I.kept (t' := s.toks) fun b o e => hx b o (Nat.ne_of_lt (Heap.lt_size e)) e
  exact h pins _ σ H xs _ Q I1 (by simpa using rv) hw
def gSub (to ti : TE) (t : TSet) : TG := fun v σ H Q => to σ H fun o H1 => ti σ H1 fun i H2 => t o i v H2 fun H3 => Q σ H3
theorem pg_sub {o i : Expr} {to ti : TE} {t : TSet} (ho : PE X o to) (hi : PE X i ti) (hs : PSet X t)
    (ha : ∀ v, assign (.Subscript o i pos) X.env v = (do
      let ov ← holding [v] (eval o X.env)
      let iv ← holding [v, ov] (eval i X.env)
      standAt pos
      holding [v, ov, iv] (setItem ov iv v)
      release [v, ov, iv] []) := by intro _; rfl) : PG X (.Subscript o i pos) (gSub to ti t) := by
  intro pins s σ H v u Q I r h
  rw [ha]
  refine wpAny_bind (wpAny_holding (thn (ho pins s σ H _ I h) fun ov s1 ⟨x, H1, I1, r1, q1⟩ => ?_))
  refine wpAny_bind (wpAny_holding (thn (hi pins s1 σ H1 _ I1 q1) fun iv s2 ⟨y, H2, I2, r2, q2⟩ => ?_))
  refine wpAny_bind (wpAny_standAt (wpAny_bind (wpAny_holding (thn (hs pins s2 σ H2 x y v ov iv u _ I2 r1 r2 r q2) fun _ s3 ⟨H3, I3, q3⟩ => ?_))))
  exact wpAny_release ⟨σ, H3, I3, q3⟩
def tAsg (te : TE) (g : TG) : TS := fun D σ H => te σ H fun x H1 => g x σ H1 D.nx
theorem ps_asg {tg e : Expr} {te : TE} {g : TG} (he : PE X e te) (hg : PG X tg g) (hs : swapsWithSole [tg] e pos.line X.env = pure false := by rfl) (hw : swappedStores [tg] e X.env = pure none := by rfl)
    (h1 : (assignEach [tg] X.env).map (·.2) = [assign tg X.env] := by rfl) : PS X (.Assign [tg] e pos) (tAsg te g) := by
  intro pins s σ H D I h
  refine wpAny_Assign_stores (thn (he pins s σ H _ I h) fun v s1 ⟨x, H1, I1, r1, q1⟩ => ?_) hs hw
  rw [h1]
  exact thn (hg pins s1 σ H1 x v _ I1 r1 q1) fun _ s2 q => q
theorem ps_set {i : Nat} {x : Str} {e : Expr} {te : TE} {pos' : Pos} (hN : X.N.Nodup) (hi : X.N[i]? = some x) (hx : Loc X.env.scope x) (he : PE X e te) (hs : swapsWith e (some (.Name x pos')) pos.line X.env = pure false := by rfl) (hf : X.fn x = true ∨ X.env.scope.names.lookup x = some .local := by first | exact .inl rfl | exact .inr rfl | assumption) :
    PS X (.Assign [.Name x pos'] e pos) (tAsg te (gName i)) := by
  intro pins s σ H D I h
  refine wpAny_Assign_Name (thn (he pins s σ H _ I h) fun v s1 ⟨y, H1, I1, r1, q1⟩ => ?_) hs
  exact store_ok I1 hN hi hx r1 (fun s2 I2 => ⟨_, H1, I2, q1⟩) hf
def tPar (i j : Nat) (ta : TA) : TS := fun D σ H => ta σ H fun vs H1 => ∃ v w, vs = [v, w] ∧ D.nx ((σ.set i (some v)).set j (some w)) H1
theorem ps_par {i j : Nat} {x y : Str} {a b : Expr} {ta : TA} {px py pt : Pos} {kt k2 pt2} (hc : X.calm = true) (hN : X.N.Nodup) (hi : X.N[i]? = some x) (hj : X.N[j]? = some y) (hij : i ≠ j)
    (hx : X.env.scope.names.lookup x = some .local) (hy : X.env.scope.names.lookup y = some .local) (ha : PA X [a, b] ta)
    (hw : swappedStores [.Tuple [.Name x px, .Name y py] kt pt] (.Tuple [a, b] k2 pt2) X.env = pure (some [x, y]))
    (hs : swapsWithSole [.Tuple [.Name x px, .Name y py] kt pt] (.Tuple [a, b] k2 pt2) pos.line X.env = pure false := by rfl) :
    PS X (.Assign [.Tuple [.Name x px, .Name y py] kt pt] (.Tuple [a, b] k2 pt2) pos) (tPar i j ta) := by
  intro pins s σ H D I h
  rw [exec_Assign_arm]
  refine wpAny_bind (wpAny_standAt ?_)
  rw [hs]
  refine wpAny_bind (wpAny_pure ?_)
  rw [if_neg (by decide)]
  refine wpAny_bind (Tuple_ (thn (ha _ pins s σ H _ I h) fun us s1 ⟨vs, H1, I1, r1, q1⟩ => ?_))
  obtain ⟨v, w, e1, q1⟩ := q1
  subst e1
  obtain ⟨u1, u2, rfl, rv, rw'⟩ : ∃ u1 u2, us = [u1, u2] ∧ RelV v u1 ∧ RelV w u2 := by
    cases r1 with
    | cons p q =>
      cases q with
      | cons p' q' =>
        cases q'
        exact ⟨_, _, rfl, p, p'⟩
  refine wpAny_newObj_type ?_ (by show 2 ≤ sizeLine; decide)
  have I2 : Inv X pins σ H1 { s1 with heap := s1.heap.push { cls := .type "tuple", data := .seq [u1, u2].toArray } } := I1.kept (t' := s1.toks) fun b o e => Heap.get?_push_of_some _ e
  rw [hw]
  refine wpAny_bind (wpAny_pure ?_)
  show wpAny (model X.prog X.w) X.A (do rule "assign.swapped-stores"; let items ← unpackItems (.ref s1.heap.objs.size) 2 none; assignInOrder [fun v => bindName X.env y v, fun v => bindName X.env x v] items.reverse; pure Flow.next) _ _ _
  refine wpAny_bind (wpAny_rule (wpAny_bind (unpackItems_tuple (items := #[u1, u2]) (I.ok.hd hc) (IsTup.new s1.heap _) fun h' hx' => ?_)))
  have I3 := I2.kept (h' := h') (t' := s1.toks) fun b o e => hx' b o (Nat.ne_of_lt (Heap.lt_size e)) e
  show wpAny _ _ (assignInOrder [fun v => bindName X.env y v, fun v => bindName X.env x v] [u2, u1] >>= fun _ => pure Flow.next) _ _ _
  refine wpAny_bind (assignInOrder_cons (wpAny_bindName (store_ok I3 hN hj (.inl hy) rw' (fun s2 I4 => ?_) (.inr hy))))
  refine assignInOrder_cons (wpAny_bindName (store_ok I4 hN hi (.inl hx) rv (fun s3 I5 => assignInOrder_nil (wpAny_pure ?_)) (.inr hx)))
  rw [List.set_comm _ _ (Ne.symm hij)] at I5
  exact ⟨_, H1, I5, q1⟩
def tAug (i : Nat) (te : TE) (ti : TIp) : TS := fun D σ H => ∃ x, σ[i]? = some (some x) ∧ te σ H fun y H1 => ti x y H1 fun z H2 => D.nx (σ.set i (some z)) H2
theorem ps_aug {i : Nat} {x : Str} {e : Expr} {te : TE} {op : Operator} {ti : TIp} {pos' : Pos} (hN : X.N.Nodup) (hi : X.N[i]? = some x) (hx : Loc X.env.scope x) (he : PE X e te) (ho : PIp X op ti) (hf : X.fn x = true ∨ X.env.scope.names.lookup x = some .local := by first | exact .inl rfl | exact .inr rfl | assumption) :
    PS X (.AugAssign (.Name x pos') op e pos) (tAug i te ti) := by
  intro pins s σ H D I h
  obtain ⟨v, e1, h⟩ := h
  obtain ⟨m, hn, hl⟩ := I.loc
  have vis : Vis X.env.scope x := by rcases hx with k | k; exact .inl k; exact .inr (.inl k)
  obtain ⟨u, r, l⟩ := hl i x v hi e1 vis
  refine wpAny_AugAssign_Name ?_
  have go : wpAny (model X.prog X.w) X.A (eval e X.env) (fun w s₂ => wpAny (model X.prog X.w) X.A (inplaceOp op u w) (fun r s₃ => wpAny (model X.prog X.w) X.A (storeName X.env x r) (fun _ => SP X pins D .next) X.xe s₃) X.xe s₂) X.xe s := by
    refine thn (he pins s σ H _ I h) fun w s1 ⟨y, H1, I1, r1, q1⟩ => ?_
    refine thn (ho pins s1 σ H1 v y u w _ I1 r r1 q1) fun z s2 ⟨zv, H2, I2, r2, q2⟩ => ?_
    exact store_ok I2 hN hi hx r2 (fun s3 I3 => ⟨_, H2, I3, q2⟩) hf
  rcases l with ⟨hk, hm⟩ | ⟨hk, c, hc, hcell⟩
  · exact wpAny_loadName_local I.ok.kind hk hn hm go
  · rcases hk with hk | hk
    · exact wpAny_loadName_cell I.ok.kind hk hc hcell go
    · rcases hx with k | k
      · have : X.env.scope.names.lookup x = some .free := hk
        rw [k] at this; cases this
      · have : X.env.scope.names.lookup x = some .free := hk
        rw [k] at this; cases this
def ipI (f : Int → Int → Int) : TIp := fun x y H Q => ∃ i j, x = .int i ∧ y = .int j ∧ Q (.int (f i j)) H
theorem ip_add : PIp X .Add (ipI fun i j => i + j) := by
  intro pins s σ H x y v u Q I r1 r2 h
  obtain ⟨i, j, e1, e2, q⟩ := h
  subst e1; subst e2
  obtain ⟨t, rfl⟩ := r1
  obtain ⟨t', rfl⟩ := r2
  exact iadd_int ⟨.int _, H, I.tok _, ⟨_, rfl⟩, q⟩
end
section
variable {X : Cx} {pos : Pos}
end
structure It where
  go : Nat → Hp → Prop
  yld : Nat → Hp → V → Hp → Prop
  stop : Nat → Hp → Prop
def FpOk (X : Cx) (pins : List (Addr × Obj)) (H : Hp) (b : Addr) : Prop :=
  H b = none ∧ b ≠ X.env.locals ∧ b ∉ X.fs ∧ (b ∈ X.ex ∨ X.s₀.heap.objs.size ≤ b) ∧ (∀ x c, X.env.cells.lookup x = some c → c ≠ b) ∧ ∀ p ∈ X.pn ++ pins, p.1 ≠ b
theorem Inv.fpOk {X : Cx} {pins : List (Addr × Obj)} {σ : St} {H H' : Hp} {s : Shared} {b : Addr} (I : Inv X pins σ H s) (hb : s.heap.objs.size ≤ b) (hn : H' b = none) : FpOk X pins H' b := by
  refine ⟨hn, Nat.ne_of_gt (Nat.lt_of_lt_of_le I.lt hb), I.nofs hb, .inr (Nat.le_trans I.sz hb), fun x c e z => ?_, fun p hp z => ?_⟩
  · obtain ⟨v, q⟩ := I.cell x c e
    exact absurd (Nat.lt_of_lt_of_le q.lt (by rw [z]; exact hb)) (Nat.lt_irrefl _)
  · exact absurd (Nat.lt_of_lt_of_le (Heap.lt_size (I.pin p hp).1) (by rw [z]; exact hb)) (Nat.lt_irrefl _)
structure Turn (P : Program) (w : World) (K : PySem.W.Frag) (tg : Expr) (J : It) (fp : List Addr) (it : Addr) (tn : Nat → Heap → Prop) : Prop where
  mem : it ∈ fp
  obj : ∀ i h, tn i h → ∀ b ∈ fp, ∃ o, h.get? b = some o ∧ ∀ v, o.data ≠ .cell v
  keep : ∀ i h h', tn i h → (∀ b ∈ fp, ∀ o, h.get? b = some o → h'.get? b = some o) → tn i h'
  item : ∀ (X : Cx), X.prog = P → X.w = w → X.K = K → X.calm = true → ∀ (i : Nat) (pins : List (Addr × Obj)) (s : Shared) (σ : St) (H : Hp) (E : Value → Shared → Prop), Inv X pins σ H s → (∀ b ∈ fp, FpOk X pins H b) → tn i s.heap → J.go i H →
    wpAny (model P w) X.A (pyNext (.ref it)) (fun r s1 => ∃ u, r = some u ∧
      wpAny (model P w) X.A (letOwnedTupleGo tg (.ref it) u) (fun _ s2 => ∃ x H', Inv X pins σ H' s2 ∧ RelV x u ∧ J.yld i H x H' ∧ tn (i + 1) s2.heap ∧ ∀ b ∈ fp, H' b = none) E s1) E s
  done : ∀ (X : Cx), X.prog = P → X.w = w → X.K = K → X.calm = true → ∀ (i : Nat) (pins : List (Addr × Obj)) (s : Shared) (σ : St) (H : Hp) (E : Value → Shared → Prop), Inv X pins σ H s → (∀ b ∈ fp, FpOk X pins H b) → tn i s.heap → J.stop i H →
    wpAny (model P w) X.A (pyNext (.ref it)) (fun r s1 => r = none ∧ Inv X pins σ H s1) E s
  self : ∀ (A : Around) (i : Nat) (s : Shared) (Q : Value → Shared → Prop) (E : Value → Shared → Prop), tn i s.heap → Q (.ref it) s → wpAny (model P w) A (pyIter (.ref it)) Q E s
abbrev TI := St → Hp → (It → Hp → Prop) → Prop
def PIE (X : Cx) (pins : List (Addr × Obj)) (σ : St) (tg : Expr) (R : It → Hp → Prop) (itv : Value) (s2 : Shared) : Prop :=
  ∃ (it : Addr) (fp : List Addr) (tn : Nat → Heap → Prop) (J : It) (H' : Hp), itv = .ref it ∧ Inv X pins σ H' s2 ∧ Turn X.prog X.w X.K tg J fp it tn ∧ tn 0 s2.heap ∧ (∀ b ∈ fp, FpOk X pins H' b) ∧ R J H'
def PI (X : Cx) (tg iter : Expr) (wi : TI) : Prop :=
  ∀ (pins : List (Addr × Obj)) (s : Shared) (σ : St) (H : Hp) (R : It → Hp → Prop), Inv X pins σ H s → wi σ H R →
    wpAny (model X.prog X.w) X.A (eval iter X.env) (fun v s1 => wpAny (model X.prog X.w) X.A (pyIter v) (PIE X pins σ tg R) X.xe s1) X.xe s
theorem go_of {M : Model} {A : Around} {E : Value → Shared → Prop} {s : Shared} {tg : Expr} {it : Addr} {u : Value} {o : Obj} {n : String} {vs : Array Value} {Q : Unit → Shared → Prop} (ho : s.heap.get? it = some o) (hc : o.cls = .type n) (hd : o.data = .fields vs)
    (hn : ["enumerate", "zip", "dict_itemiterator", "dict_reverseitemiterator", "odict_iterator", "itertools.zip_longest", "itertools.pairwise"].contains n = false) (hQ : Q () s) : wpAny M A (letOwnedTupleGo tg (.ref it) u) Q E s := by
  unfold letOwnedTupleGo
  cases tg <;> first
    | exact wpAny_pure hQ
    | (cases u <;> first
        | exact wpAny_pure hQ
        | (refine wpAny_bind (wpAny_load ho ?_)
           rw [hc, hd]
           show wpAny M A (if (["enumerate", "zip", "dict_itemiterator", "dict_reverseitemiterator", "odict_iterator", "itertools.zip_longest", "itertools.pairwise"].contains n && vs[0]? == some (rawInt _)) = true then _ else _) Q E s
           rw [if_neg (by intro h; rw [hn, Bool.false_and] at h; cases h)]
           exact wpAny_pure hQ))
def Itl (K : PySem.W.Frag) (a : Addr) : It :=
  ⟨fun i H => ∃ xs x, SqL K H a xs ∧ xs[i]? = some x, fun i H x H' => H' = H ∧ ∀ xs, SqL K H a xs → xs[i]? = some x, fun i H => ∃ xs, SqL K H a xs ∧ xs.length ≤ i⟩
def Itr (lo : Int) (n : Nat) : It := ⟨fun i _ => i < n, fun i H x H' => H' = H ∧ x = .int (lo + i), fun i _ => n ≤ i⟩
theorem turn_list {P : Program} {w : World} {K : PySem.W.Frag} {tg : Expr} (a it : Addr) : Turn P w K tg (Itl K a) [it] it (fun i h => h.IsListIter it a i) where
  mem := by simp
  obj := fun i h st b hb => by
    have e : b = it := by simpa using hb
    subst e
    obtain ⟨o, e, c, d⟩ := st
    exact ⟨o, e, fun v z => by rw [d] at z; cases z⟩
  keep := fun i h h' st k => st.at fun o e => k it (by simp) o e
  item := by
    intro X hP hw hK hc i pins s σ H E I hf st hg
    subst hP hw hK
    obtain ⟨xs, x, hq, hx⟩ := hg
    obtain ⟨its, rv, p, hz⟩ := I.list hq
    obtain ⟨u, hu, ru⟩ := rv.get hx
    obtain ⟨f0, f1, f2, f3, f4, f5⟩ := hf it (by simp)
    refine wpAny_pyNext_list_item st p.isList (x := u) (by simpa using hu) fun h' st' sb => ?_
    have I1 : Inv X pins σ H { s with heap := h' } := I.turned (t' := s.toks) (fun b o hb e => (sb.2 b hb).trans e) f0 f1 f3 f4 f5
    obtain ⟨o, e, c, d⟩ := id st'
    exact ⟨u, rfl, go_of (s := { s with heap := h' }) e c d (by decide) ⟨x, H, I1, ru, ⟨rfl, fun ys hy => by rw [I.list_inj hy hq]; exact hx⟩, st', fun b hb => (hf b hb).1⟩⟩
  done := by
    intro X hP hw hK hc i pins s σ H E I hf st hg
    subst hP hw hK
    obtain ⟨xs, hq, hx⟩ := hg
    obtain ⟨its, rv, p, hz⟩ := I.list hq
    obtain ⟨f0, f1, f2, f3, f4, f5⟩ := hf it (by simp)
    have hl := rv.length
    exact wpAny_pyNext_list_end (I.ok.hd hc) st p.isList (by simp; omega) fun h' eb => ⟨rfl, I.turned (t' := s.toks) (fun b o hb e => eb b o hb e) f0 f1 f3 f4 f5⟩
  self := fun _ _ _ _ _ st h => wpAny_pyIter_listiter st h
theorem turn_range {P : Program} {w : World} {K : PySem.W.Frag} {tg : Expr} (it : Addr) (lo : Int) (n : Nat) : Turn P w K tg (Itr lo n) [it] it (fun i h => IsRangeIter h it (lo + (i : Nat) * 1) ((n : Int) - (i : Nat)) 1) where
  mem := by simp
  obj := fun i h st b hb => by
    have e : b = it := by simpa using hb
    subst e
    exact ⟨_, st, fun v z => by
      have z' : Data.fields _ = Data.cell v := z
      cases z'⟩
  keep := fun i h h' st k => k it (by simp) _ st
  item := by
    intro X hP hw hK hc i pins s σ H E I hf st hg
    subst hP hw hK
    obtain ⟨f0, f1, f2, f3, f4, f5⟩ := hf it (by simp)
    have W := Walks.range (prog := X.prog) (w := X.w) (I.ok.hd hc) it lo 1 n
    refine W.item i s _ _ hg st fun v h' tk hv st' kk => ?_
    obtain ⟨t, rfl⟩ := hv
    have I1 : Inv X pins σ H { s with heap := h', toks := tk } := I.turned (fun b o hb e => kk b o (by simpa using hb) e) f0 f1 f3 f4 f5
    refine ⟨_, rfl, go_of (s := { s with heap := h', toks := tk }) (n := "range_iterator") st' rfl rfl (by decide) ⟨.int (lo + i), H, I1, ⟨t, ?_⟩, ⟨rfl, rfl⟩, st', fun b hb => (hf b hb).1⟩⟩
    rw [Int.mul_one]
  done := by
    intro X hP hw hK hc i pins s σ H E I hf st hg
    subst hP hw hK
    obtain ⟨f0, f1, f2, f3, f4, f5⟩ := hf it (by simp)
    exact wpAny_pyNext_range_end (I.ok.hd hc) st (by have : n ≤ i := hg; omega) fun h' eb => ⟨rfl, I.turned (t' := s.toks) (fun b o hb e => eb b o hb e) f0 f1 f3 f4 f5⟩
  self := fun _ _ _ _ _ st h => wpAny_pyIter_rangeiter st h
end L2
namespace L2
open PySem PySem.Spec PyProof.Rows
section
variable {X : Cx} {tg : Expr}
def iList (K : PySem.W.Frag) (tl : TE) : TI := fun σ H R => tl σ H fun x H1 => ∃ a, x = .ref a ∧ (∃ xs, SqL K H1 a xs) ∧ R (Itl K a) H1
theorem pi_list {l : Expr} {tl : TE} (hl : PE X l tl) : PI X tg l (iList X.K tl) := by
  intro pins s σ H R I h
  refine thn (hl pins s σ H _ I h) fun v s1 ⟨x, H1, I1, r1, q1⟩ => ?_
  obtain ⟨a, e, ⟨xs, hq⟩, q⟩ := q1
  subst e
  cases r1
  obtain ⟨its, rv, p, hz⟩ := I1.list hq
  refine wpAny_pyIter_list p.isList ?_
  refine ⟨s1.heap.objs.size, [s1.heap.objs.size], _, _, H1, rfl, I1.kept (t' := s1.toks) fun b o e => Heap.get?_push_of_some _ e, turn_list a _, ⟨_, Heap.get?_push_size _ rfl, rfl, rfl⟩, fun b hb => ?_, q⟩
  have e : b = s1.heap.objs.size := by simpa using hb
  subst e
  exact I1.fpOk (Nat.le_refl _) (I1.hok.fresh (Nat.le_refl _))
theorem range_it {pins : List (Addr × Obj)} {σ : St} {H : Hp} {s : Shared} {R : It → Hp → Prop} {E : Value → Shared → Prop} {lo hi : Int} {t u v : Tok} {tk : Nat} (I : Inv X pins σ H s) (h1 : -(2 ^ 62) ≤ lo) (h2 : lo < 2 ^ 62) (h3 : -(2 ^ 62) ≤ hi) (h4 : hi < 2 ^ 62)
    (q : R (Itr lo (hi - lo).toNat) H) : wpAny (model X.prog X.w) X.A (pyIter (.ref s.heap.objs.size)) (PIE X pins σ tg R) E { s with heap := s.heap.push { cls := .type "range", data := .fields #[.int lo t, .int hi u, .int 1 v] }, toks := tk } := by
  refine wpAny_pyIter_range (IsRange.new ..) (small_one h1 h2 h3 h4) ?_
  have I1 : Inv X pins σ H { s with heap := s.heap.push { cls := .type "range", data := .fields #[.int lo t, .int hi u, .int 1 v] }, toks := tk } := I.kept fun b o e => Heap.get?_push_of_some _ e
  refine ⟨(s.heap.push { cls := .type "range", data := .fields #[.int lo t, .int hi u, .int 1 v] }).objs.size, [(s.heap.push { cls := .type "range", data := .fields #[.int lo t, .int hi u, .int 1 v] }).objs.size], _, _, H, rfl,
    I1.kept (t' := tk) fun b o e => Heap.get?_push_of_some _ e, turn_range _ lo (hi - lo).toNat, ?_, fun b hb => ?_, q⟩
  · have e1 : lo + ((0 : Nat) : Int) * 1 = lo := by simp
    have e2 : (((hi - lo).toNat : Nat) : Int) - ((0 : Nat) : Int) = Builtin.Range.rangeSize lo hi 1 := by rw [rangeSize_one]; split <;> omega
    show IsRangeIter _ _ (lo + ((0 : Nat) : Int) * 1) ((((hi - lo).toNat : Nat) : Int) - ((0 : Nat) : Int)) 1
    rw [e1, e2]
    exact Heap.get?_push_size _ rfl
  · have e : b = (s.heap.push { cls := .type "range", data := .fields #[.int lo t, .int hi u, .int 1 v] }).objs.size := by simpa using hb
    subst e
    exact I1.fpOk (Nat.le_refl _) (I1.hok.fresh (Nat.le_refl _))
def iRng1 (ta : TA) : TI := fun σ H R => ta σ H fun vs H1 => ∃ j : Int, vs = [.int j] ∧ -(2 ^ 62) ≤ j ∧ j < 2 ^ 62 ∧ R (Itr 0 j.toNat) H1
def iRng2 (ta : TA) : TI := fun σ H R => ta σ H fun vs H1 => ∃ i j : Int, vs = [.int i, .int j] ∧ (-(2 ^ 62) ≤ i ∧ i < 2 ^ 62 ∧ -(2 ^ 62) ≤ j ∧ j < 2 ^ 62) ∧ R (Itr i (j - i).toNat) H1
theorem pi_range1 {a : Expr} {ta : TA} {p pos : Pos} (hg : Gl X "range") (hm : X.mg "range" = none) (ha : PA X [a] ta) (hs : starEach [a] X.env = [(false, eval a X.env)] := by rfl) : PI X tg (.Call (.Name "range" p) [a] [] pos) (iRng1 ta) := by
  intro pins s σ H R I h
  refine Call_ (ld_blt I hg hm boot_range (PyProof.Rows.callWith_type1 (thn (ha pos pins s σ H _ I h) fun us s1 ⟨vs, H1, I1, r1, q1⟩ => ?_) hs rfl))
  obtain ⟨j, e, q1, q2, q⟩ := q1
  subst e
  cases r1 with
  | cons r rr =>
    cases rr
    obtain ⟨t, rfl⟩ := r
    exact call_range_1 (range_it I1 (by omega) (by omega) q1 q2 (by simpa using q))
theorem pi_range2 {a b : Expr} {ta : TA} {p pos : Pos} (hg : Gl X "range") (hm : X.mg "range" = none) (ha : PA X [a, b] ta) (hs : starEach [a, b] X.env = [(false, eval a X.env), (false, eval b X.env)] := by rfl) (hs2 : starEach [b] X.env = [(false, eval b X.env)] := by rfl) :
    PI X tg (.Call (.Name "range" p) [a, b] [] pos) (iRng2 ta) := by
  intro pins s σ H R I h
  refine Call_ (ld_blt I hg hm boot_range (PyProof.Rows.callWith_type1 (thn (ha pos pins s σ H _ I h) fun us s1 ⟨vs, H1, I1, r1, q1⟩ => ?_) (by rw [hs, hs2]) (by rw [hs2]; rfl)))
  obtain ⟨i, j, e, ⟨q1, q2, q3, q4⟩, q⟩ := q1
  subst e
  cases r1 with
  | cons r rr =>
    cases rr with
    | cons r' rr =>
      cases rr
      obtain ⟨t, rfl⟩ := r
      obtain ⟨t', rfl⟩ := r'
      exact call_range_2 (range_it I1 q1 q2 q3 q4 q)
def tFor (wi : TI) (g : TG) (tb : TS) : TS := fun D σ H => wi σ H fun J H1 => ∃ W : Nat → Nat → St → Hp → Prop, (∃ m, W 0 m σ H1) ∧ ∀ i m σ H, W i m σ H →
  (J.stop i H ∧ D.nx σ H) ∨ (J.go i H ∧ ∃ N : St → Hp → Prop, (∀ σ' H', N σ' H' → ∃ m', m' < m ∧ W (i + 1) m' σ' H') ∧ ∀ x H', J.yld i H x H' → g x σ H' fun σ2 H2 => tb { D with nx := N, ct := N, bk := D.nx } σ2 H2)
def pinsAt (fp : List Addr) (h : Heap) : List (Addr × Obj) := fp.filterMap fun b => (h.get? b).map fun o => (b, o)
theorem mem_pinsAt {fp : List Addr} {h : Heap} {b : Addr} {o : Obj} (hb : b ∈ fp) (e : h.get? b = some o) : (b, o) ∈ pinsAt fp h := List.mem_filterMap.mpr ⟨b, hb, by rw [e]; rfl⟩
theorem of_pinsAt {fp : List Addr} {h : Heap} {p : Addr × Obj} (hp : p ∈ pinsAt fp h) : p.1 ∈ fp ∧ h.get? p.1 = some p.2 := by
  obtain ⟨b, hb, e⟩ := List.mem_filterMap.mp hp
  cases q : h.get? b with
  | none => rw [q] at e; cases e
  | some o =>
    rw [q] at e
    have e' : (b, o) = p := Option.some.inj e
    subst e'
    exact ⟨hb, q⟩
theorem Inv.pinned {pins : List (Addr × Obj)} {σ : St} {H : Hp} {s : Shared} {fp : List Addr} (I : Inv X pins σ H s) (hf : ∀ b ∈ fp, FpOk X pins H b) (ho : ∀ b ∈ fp, ∃ o, s.heap.get? b = some o ∧ ∀ v, o.data ≠ .cell v) : Inv X (pins ++ pinsAt fp s.heap) σ H s :=
  I.pins_of fun p hp => (List.mem_append.mp hp).elim (fun z => I.pin p (List.mem_append_right _ z)) fun z => by
    obtain ⟨hb, e⟩ := of_pinsAt z
    obtain ⟨f0, f1, f2, _⟩ := hf p.1 hb
    obtain ⟨o, e', d⟩ := ho p.1 hb
    rw [e] at e'; cases e'
    exact ⟨e, f0, f1, f2, d⟩
theorem Inv.unpinned {pins pl : List (Addr × Obj)} {σ : St} {H : Hp} {s : Shared} (I : Inv X (pins ++ pl) σ H s) : Inv X pins σ H s := I.pins_of fun p hp => I.pin p (List.mem_append_right _ (List.mem_append_left _ hp))
theorem ps_for {iter : Expr} {body : List Stmt} {wi : TI} {g : TG} {tb : TS} {pos : Pos} (hp : PassesOwn (model X.prog X.w) X.A X.env X.xe) (hc : X.calm = true) (hi : PI X tg iter wi) (hg : PG X tg g) (hb : PSs X body tb)
    (hs : ∀ x, foldedSetIterable iter X.env x = pure x := by intro _; rfl) : PS X (.For tg iter body [] pos) (tFor wi g tb) := by
  intro pins s σ H D I h
  refine wpAny_For (thn (hi pins s σ H _ I h) fun v s1 h1 => thn h1 fun itv s2 h2 => ?_) hs
  obtain ⟨it, fp, tn, J, H2, e, I2, T, st2, f2, W, ⟨m0, w0⟩, turn⟩ := h2
  subst e
  have stat : ∀ {H' : Hp}, (∀ b ∈ fp, H' b = none) → ∀ b ∈ fp, FpOk X pins H' b := fun hn b hb => ⟨hn b hb, (f2 b hb).2⟩
  refine codeAny_forLoop_any (fun n s' => ∃ i σ' H', Inv X pins σ' H' s' ∧ tn i s'.heap ∧ (∀ b ∈ fp, H' b = none) ∧ W i n σ' H') ?_ m0 ⟨0, σ, H2, I2, st2, fun b hb => (f2 b hb).1, w0⟩
  rintro n s3 ⟨i, σ3, H3, I3, st3, fr3, w3⟩
  rcases turn i n σ3 H3 w3 with ⟨stop, qn⟩ | ⟨go, N, hN, step⟩
  · refine wpAny_passesOwn hp (thn (T.done X rfl rfl rfl hc i pins s3 σ3 H3 X.xe I3 (stat fr3) st3 stop) fun r s4 ⟨hr, I4⟩ => ?_)
    subst hr
    exact wpAny_execs_nil ⟨σ3, H3, I4, qn⟩
  · refine wpAny_passesOwn hp (thn (T.item X rfl rfl rfl hc i pins s3 σ3 H3 X.xe I3 (stat fr3) st3 go) fun r s4 ⟨u, hr, h4⟩ => ?_)
    subst hr
    refine wpAny_passesOwn hp (thn h4 fun _ s5 ⟨x, H5, I5, r5, y5, st5, fr5⟩ => ?_)
    have I5' := I5.pinned (stat fr5) (T.obj _ _ st5)
    refine wpAny_passesOwn hp (thn (hg _ s5 σ3 H5 x u _ I5' r5 (step x H5 y5)) fun _ s6 ⟨σ6, H6, I6, q6⟩ => ?_)
    refine wpAny_passesOwn hp (thn (hb _ s6 σ6 H6 _ I6 q6) fun f s7 q7 => ?_)
    have again : ∀ {σ7 : St} {H7 : Hp}, Inv X (pins ++ pinsAt fp s5.heap) σ7 H7 s7 → N σ7 H7 → ∃ m, m < n ∧ ∃ i σ' H', Inv X pins σ' H' s7 ∧ tn i s7.heap ∧ (∀ b ∈ fp, H' b = none) ∧ W i m σ' H' := fun {σ7 H7} I7 n7 => by
      obtain ⟨m', hm, w7⟩ := hN σ7 H7 n7
      refine ⟨m', hm, i + 1, σ7, H7, I7.unpinned, T.keep _ _ _ st5 fun b hb o e => (I7.pin (b, o) (List.mem_append_right _ (List.mem_append_right _ (mem_pinsAt hb e)))).1, fun b hb => ?_, w7⟩
      obtain ⟨o, e, d⟩ := T.obj _ _ st5 b hb
      exact (I7.pin (b, o) (List.mem_append_right _ (List.mem_append_right _ (mem_pinsAt hb e)))).2.1
    cases f with
    | next => obtain ⟨σ7, H7, I7, n7⟩ := q7; exact again I7 n7
    | cont => obtain ⟨σ7, H7, I7, n7⟩ := q7; exact again I7 n7
    | brk => obtain ⟨σ7, H7, I7, q7⟩ := q7; exact ⟨σ7, H7, I7.unpinned, q7⟩
    | ret v => obtain ⟨x7, σ7, H7, I7, r7, q7⟩ := q7; exact ⟨x7, σ7, H7, I7.unpinned, r7, q7⟩
end
theorem for_range {lo : Int} {n : Nat} {g : TG} {tb : TS} {D : Ends} {σ : St} {H : Hp} (Pv : Nat → St → Hp → Prop) (h0 : Pv 0 σ H)
    (hs : ∀ i σ H, i < n → Pv i σ H → g (.int (lo + i)) σ H fun σ2 H2 => tb { D with nx := Pv (i + 1), ct := Pv (i + 1), bk := D.nx } σ2 H2) (hd : ∀ σ H, Pv n σ H → D.nx σ H) :
    ∃ W : Nat → Nat → St → Hp → Prop, (∃ m, W 0 m σ H) ∧ ∀ i m σ H, W i m σ H →
      ((Itr lo n).stop i H ∧ D.nx σ H) ∨ ((Itr lo n).go i H ∧ ∃ N : St → Hp → Prop, (∀ σ' H', N σ' H' → ∃ m', m' < m ∧ W (i + 1) m' σ' H') ∧ ∀ x H', (Itr lo n).yld i H x H' → g x σ H' fun σ2 H2 => tb { D with nx := N, ct := N, bk := D.nx } σ2 H2) := by
  refine ⟨fun i m σ H => m = n - i ∧ i ≤ n ∧ Pv i σ H, ⟨n, by simp, Nat.zero_le _, h0⟩, ?_⟩
  rintro i m σ H ⟨rfl, hi, p⟩
  by_cases hlt : i < n
  · refine .inr ⟨hlt, Pv (i + 1), fun σ' H' p' => ⟨n - (i + 1), by omega, rfl, hlt, p'⟩, fun x H' y => ?_⟩
    obtain ⟨e, y⟩ := y
    subst e y
    exact hs i σ _ hlt p
  · have e : i = n := by omega
    subst e
    exact .inl ⟨Nat.le_refl _, hd σ H p⟩
end L2
namespace L2
open PySem PySem.Spec PyProof.Rows
abbrev R2 := V → V → Hp → VK → Prop
def OpR (X : Cx) (f : Value → Value → Sem Value) (r : R2) : Prop :=
  ∀ (pins : List (Addr × Obj)) (s : Shared) (σ : St) (H : Hp) (x y : V) (v u : Value) (Q : VK), Inv X pins σ H s → RelV x v → RelV y u → r x y H Q →
    wpAny (model X.prog X.w) X.A (f v u) (EP X pins σ Q) X.xe s
def UnR (X : Cx) (f : Value → Sem Value) (r : V → Hp → VK → Prop) : Prop :=
  ∀ (pins : List (Addr × Obj)) (s : Shared) (σ : St) (H : Hp) (x : V) (v : Value) (Q : VK), Inv X pins σ H s → RelV x v → r x H Q →
    wpAny (model X.prog X.w) X.A (f v) (EP X pins σ Q) X.xe s
def CallR (X : Cx) (f : Value) (r : List V → Hp → VK → Prop) : Prop :=
  ∀ (pins : List (Addr × Obj)) (s : Shared) (σ : St) (H : Hp) (xs : List V) (us : List Value) (Q : VK), Inv X pins σ H s → Vals xs us → r xs H Q →
    wpAny (model X.prog X.w) X.A (call f us) (EP X pins σ Q) X.xe s
def tOp (r : R2) (ta tb : TE) : TE := fun σ H Q => ta σ H fun x H1 => tb σ H1 fun y H2 => r x y H2 Q
def tUn (r : V → Hp → VK → Prop) (ta : TE) : TE := fun σ H Q => ta σ H fun x H1 => r x H1 Q
def rI (C : Int → Int → Prop) (g : Int → Int → V) : R2 := fun x y H Q => ∃ i j, x = .int i ∧ y = .int j ∧ C i j ∧ Q (g i j) H
def rI0 (g : Int → Int → V) : R2 := fun x y H Q => ∃ i j, x = .int i ∧ y = .int j ∧ Q (g i j) H
def rU (g : Int → V) : V → Hp → VK → Prop := fun x H Q => ∃ i, x = .int i ∧ Q (g i) H
section
variable {X : Cx} {a b c : Expr} {ta tb tc : TE} {pos : Pos}
theorem binT (ha : PE X a ta) (hb : PE X b tb) {pins : List (Addr × Obj)} {s : Shared} {σ : St} {H : Hp} {R : V → V → Hp → Prop} (I : Inv X pins σ H s)
    (h : ta σ H fun x H1 => tb σ H1 fun y H2 => R x y H2) {Q : Value → Shared → Prop} {f : Value → Value → Sem Value}
    (hf : ∀ v u s2 x y H2, Inv X pins σ H2 s2 → RelV x v → RelV y u → R x y H2 → wpAny (model X.prog X.w) X.A (f v u) Q X.xe s2) :
    wpAny (model X.prog X.w) X.A (eval a X.env) (fun v s₁ => wpAny (model X.prog X.w) X.A (eval b X.env) (fun u s₂ => wpAny (model X.prog X.w) X.A (f v u) Q X.xe s₂) X.xe s₁) X.xe s := by
  refine thn (ha pins s σ H _ I h) fun v s1 ⟨x, H1, I1, r1, q1⟩ => ?_
  refine thn (hb pins s1 σ H1 _ I1 q1) fun u s2 ⟨y, H2, I2, r2, q2⟩ => ?_
  exact hf v u s2 x y H2 I2 r1 r2 q2
theorem pe_op {op : Operator} {r : R2} (ho : OpR X (binaryOp op) r) (ha : PE X a ta) (hb : PE X b tb) : PE X (.BinOp a op b pos) (tOp r ta tb) := by
  intro pins s σ H Q I h
  exact wpAny_BinOp (binT ha hb I h fun v u s2 x y H2 I2 rx ry q => ho pins s2 σ H2 x y v u Q I2 rx ry q)
theorem pe_un {op : UnaryOp} {r : V → Hp → VK → Prop} (ho : UnR X (unaryOp op) r) (ha : PE X a ta) : PE X (.UnaryOp op a pos) (tUn r ta) := by
  intro pins s σ H Q I h
  exact UnaryOp_ (thn (ha pins s σ H _ I h) fun v s1 ⟨x, H1, I1, r1, q1⟩ => ho pins s1 σ H1 x v Q I1 r1 q1)
theorem opI {f : Value → Value → Sem Value} {C : Int → Int → Prop} {g : Int → Int → Int}
    (rule : ∀ (i j : Int) (t u : Tok) (s : Shared) (Q : Value → Shared → Prop) (E : Value → Shared → Prop), C i j → Q (.int (g i j) s.toks) { s with toks := s.toks + 1 } → wpAny (model X.prog X.w) X.A (f (.int i t) (.int j u)) Q E s) :
    OpR X f (rI C fun i j => .int (g i j)) := by
  intro pins s σ H x y v u Q I rx ry h
  obtain ⟨i, j, rfl, rfl, hc, q⟩ := h
  obtain ⟨t, rfl⟩ := rx
  obtain ⟨t', rfl⟩ := ry
  exact rule i j t t' s _ _ hc ⟨.int (g i j), H, I.tok _, ⟨_, rfl⟩, q⟩
theorem opI0 {f : Value → Value → Sem Value} {g : Int → Int → Int}
    (rule : ∀ (i j : Int) (t u : Tok) (s : Shared) (Q : Value → Shared → Prop) (E : Value → Shared → Prop), Q (.int (g i j) s.toks) { s with toks := s.toks + 1 } → wpAny (model X.prog X.w) X.A (f (.int i t) (.int j u)) Q E s) :
    OpR X f (rI0 fun i j => .int (g i j)) := by
  intro pins s σ H x y v u Q I rx ry h
  obtain ⟨i, j, rfl, rfl, q⟩ := h
  obtain ⟨t, rfl⟩ := rx
  obtain ⟨t', rfl⟩ := ry
  exact rule i j t t' s _ _ ⟨.int (g i j), H, I.tok _, ⟨_, rfl⟩, q⟩
theorem opB0 {f : Value → Value → Sem Value} {g : Int → Int → Bool}
    (rule : ∀ (i j : Int) (t u : Tok) (s : Shared) (Q : Value → Shared → Prop) (E : Value → Shared → Prop), Q (.bool (g i j)) s → wpAny (model X.prog X.w) X.A (f (.int i t) (.int j u)) Q E s) :
    OpR X f (rI0 fun i j => .bl (g i j)) := by
  intro pins s σ H x y v u Q I rx ry h
  obtain ⟨i, j, rfl, rfl, q⟩ := h
  obtain ⟨t, rfl⟩ := rx
  obtain ⟨t', rfl⟩ := ry
  exact rule i j t t' s _ _ ⟨.bl (g i j), H, I, rfl, q⟩
def CPow (i j : Int) : Prop := 0 ≤ j ∧ j ≤ 1000000 ∧ i.natAbs < 2 ^ 64
def CMul (i j : Int) : Prop := (-(2 ^ 64) < i ∧ i < 2 ^ 64) ∨ (-(2 ^ 64) < j ∧ j < 2 ^ 64)
theorem CMul.ok {i j : Int} (h : CMul i j) : IntMulOk i j := by
  rcases h with ⟨h1, h2⟩ | ⟨h1, h2⟩
  · exact .of_left (intBits_le_64 h1 h2)
  · exact .of_right (intBits_le_64 h1 h2)
theorem op_add : OpR X (binaryOp .Add) (rI0 fun i j => .int (i + j)) := opI0 fun _ _ _ _ _ _ _ q => add_int q
theorem op_sub : OpR X (binaryOp .Sub) (rI0 fun i j => .int (i - j)) := opI0 fun _ _ _ _ _ _ _ q => sub_int q
theorem op_mul : OpR X (binaryOp .Mult) (rI CMul fun i j => .int (i * j)) := opI fun _ _ _ _ _ _ _ hc q => mul_int q hc.ok
theorem op_mod : OpR X (binaryOp .Mod) (rI (fun _ j => 0 < j) fun i j => .int (i % j)) := opI fun i j _ _ _ _ _ hc q => by
  have h1 : (0 : Int) < j := hc
  exact mod_int' (by omega) (by rw [Int.fmod_eq_emod_of_nonneg i (by omega)]; exact q)
theorem op_pow : OpR X (binaryOp .Pow) (rI CPow fun i j => .int (i ^ j.toNat)) := opI fun _ _ _ _ _ _ _ hc q => pow_int_small hc.1 hc.2.1 hc.2.2 q
theorem iop_mul : OpR X (inplaceOp .Mult) (rI CMul fun i j => .int (i * j)) := opI fun _ _ _ _ _ _ _ hc q => imul_int q hc.ok
theorem unI {f : Value → Sem Value} {g : Int → Int}
    (rule : ∀ (i : Int) (t : Tok) (s : Shared) (Q : Value → Shared → Prop) (E : Value → Shared → Prop), Q (.int (g i) s.toks) { s with toks := s.toks + 1 } → wpAny (model X.prog X.w) X.A (f (.int i t)) Q E s) :
    UnR X f (rU fun i => .int (g i)) := by
  intro pins s σ H x v Q I rx h
  obtain ⟨i, rfl, q⟩ := h
  obtain ⟨t, rfl⟩ := rx
  exact rule i t s _ _ ⟨.int (g i), H, I.tok _, ⟨_, rfl⟩, q⟩
theorem un_neg : UnR X (unaryOp .USub) (rU fun i => .int (-i)) := unI fun _ _ _ _ _ q => neg_int q
end
def scal : V → V → Bool
  | .non, .non => true | .non, .int _ => true | .int _, .non => true | .non, .bl _ => true | .bl _, .non => true | .non, .str _ => true | .str _, .non => true
  | .int _, .int _ => true | .bl _, .bl _ => true | .str _, .str _ => true | .byt _, .byt _ => true
  | .int _, .str _ => true | .str _, .int _ => true | .bl _, .str _ => true | .str _, .bl _ => true
  | _, _ => false
def rEq : R2 := fun x y H Q => scal x y = true ∧ Q (.bl (decide (x = y))) H
def rNe : R2 := fun x y H Q => scal x y = true ∧ Q (.bl (!decide (x = y))) H
theorem dec_int {i j : Int} : decide (V.int i = V.int j) = (i == j) := by
  rw [Bool.eq_iff_iff]
  simp
theorem dec_bl {i j : Bool} : decide (V.bl i = V.bl j) = (i == j) := by
  rw [Bool.eq_iff_iff]
  simp
theorem dec_str {i j : Str} : decide (V.str i = V.str j) = (i == j) := by
  rw [Bool.eq_iff_iff]
  simp
theorem dec_byt {i j : Array UInt8} : decide (V.byt i = V.byt j) = (i.toList == j.toList) := by
  rw [Bool.eq_iff_iff]
  cases i
  cases j
  simp
section
variable {X : Cx} {a b c : Expr} {ta tb tc : TE} {pos : Pos}
theorem fin_bl {pins : List (Addr × Obj)} {σ : St} {H : Hp} {s : Shared} {Q : VK} {k k' : Bool} (I : Inv X pins σ H s) (q : Q (.bl k) H) (e : k = k') : EP X pins σ Q (.bool k') s := by
  subst e
  exact ⟨.bl k, H, I, rfl, q⟩
theorem op_eq : OpR X (compareOp .Eq) rEq := by
  intro pins s σ H x y v u Q I rx ry h
  obtain ⟨hs, q⟩ := h
  cases x with
  | non =>
    cases rx
    cases y with
    | non => cases ry; exact PySem.EqNone.eq_none_none (fin_bl I q (by simp))
    | bl j => cases ry; exact PySem.EqNone.eq_none_bool (fin_bl I q (by simp))
    | int j => obtain ⟨t', rfl⟩ := ry; exact PySem.EqNone.eq_none_int (fin_bl I q (by simp))
    | str j => obtain ⟨t', rfl⟩ := ry; exact PySem.EqNone.eq_none_str (fin_bl I q (by simp))
    | _ => exact absurd (show false = true from hs) Bool.false_ne_true
  | bl i =>
    cases rx
    cases y with
    | non => cases ry; exact PySem.EqNone.eq_bool_none (fin_bl I q (by simp))
    | bl j => cases ry; exact eq_bool (fin_bl I q dec_bl)
    | str j => obtain ⟨t', rfl⟩ := ry; exact PySem.EqMixed.eq_bool_str (fin_bl I q (by simp))
    | _ => exact absurd (show false = true from hs) Bool.false_ne_true
  | int i =>
    obtain ⟨t, rfl⟩ := rx
    cases y with
    | non => cases ry; exact PySem.EqNone.eq_int_none (fin_bl I q (by simp))
    | int j => obtain ⟨t', rfl⟩ := ry; exact eq_int (fin_bl I q dec_int)
    | str j => obtain ⟨t', rfl⟩ := ry; exact PySem.EqMixed.eq_int_str (fin_bl I q (by simp))
    | _ => exact absurd (show false = true from hs) Bool.false_ne_true
  | str i =>
    obtain ⟨t, rfl⟩ := rx
    cases y with
    | non => cases ry; exact PySem.EqNone.eq_str_none (fin_bl I q (by simp))
    | bl j => cases ry; exact PySem.EqMixed.eq_str_bool (fin_bl I q (by simp))
    | int j => obtain ⟨t', rfl⟩ := ry; exact PySem.EqMixed.eq_str_int (fin_bl I q (by simp))
    | str j => obtain ⟨t', rfl⟩ := ry; exact eq_str (fin_bl I q dec_str)
    | _ => exact absurd (show false = true from hs) Bool.false_ne_true
  | byt i =>
    obtain ⟨t, rfl⟩ := rx
    cases y with
    | byt j => obtain ⟨t', rfl⟩ := ry; exact PySem.W.eq_bytes (fin_bl I q dec_byt)
    | _ => exact absurd (show false = true from hs) Bool.false_ne_true
  | _ => cases y <;> exact absurd (show false = true from hs) Bool.false_ne_true
theorem op_ne : OpR X (compareOp .NotEq) rNe := by
  intro pins s σ H x y v u Q I rx ry h
  obtain ⟨hs, q⟩ := h
  cases x with
  | non =>
    cases rx
    cases y with
    | non => cases ry; exact PySem.EqNone.ne_none_none (fin_bl I q (by simp))
    | bl j => cases ry; exact PySem.EqNone.ne_none_bool (fin_bl I q (by simp))
    | int j => obtain ⟨t', rfl⟩ := ry; exact PySem.EqNone.ne_none_int (fin_bl I q (by simp))
    | str j => obtain ⟨t', rfl⟩ := ry; exact PySem.EqNone.ne_none_str (fin_bl I q (by simp))
    | _ => exact absurd (show false = true from hs) Bool.false_ne_true
  | bl i =>
    cases rx
    cases y with
    | non => cases ry; exact PySem.EqNone.ne_bool_none (fin_bl I q (by simp))
    | bl j => cases ry; exact ne_bool (fin_bl I q (congrArg not dec_bl))
    | str j => obtain ⟨t', rfl⟩ := ry; exact PySem.EqMixed.ne_bool_str (fin_bl I q (by simp))
    | _ => exact absurd (show false = true from hs) Bool.false_ne_true
  | int i =>
    obtain ⟨t, rfl⟩ := rx
    cases y with
    | non => cases ry; exact PySem.EqNone.ne_int_none (fin_bl I q (by simp))
    | int j => obtain ⟨t', rfl⟩ := ry; exact ne_int (fin_bl I q (congrArg not dec_int))
    | str j => obtain ⟨t', rfl⟩ := ry; exact PySem.EqMixed.ne_int_str (fin_bl I q (by simp))
    | _ => exact absurd (show false = true from hs) Bool.false_ne_true
  | str i =>
    obtain ⟨t, rfl⟩ := rx
    cases y with
    | non => cases ry; exact PySem.EqNone.ne_str_none (fin_bl I q (by simp))
    | bl j => cases ry; exact PySem.EqMixed.ne_str_bool (fin_bl I q (by simp))
    | int j => obtain ⟨t', rfl⟩ := ry; exact PySem.EqMixed.ne_str_int (fin_bl I q (by simp))
    | str j => obtain ⟨t', rfl⟩ := ry; exact ne_str (fin_bl I q (congrArg not dec_str))
    | _ => exact absurd (show false = true from hs) Bool.false_ne_true
  | byt i =>
    obtain ⟨t, rfl⟩ := rx
    cases y with
    | byt j => obtain ⟨t', rfl⟩ := ry; exact PySem.W.ne_bytes (fin_bl I q (congrArg not dec_byt))
    | _ => exact absurd (show false = true from hs) Bool.false_ne_true
  | _ => cases y <;> exact absurd (show false = true from hs) Bool.false_ne_true
theorem op_lt : OpR X (compareOp .Lt) (rI0 fun i j => .bl (decide (i < j))) := opB0 fun _ _ _ _ _ _ _ q => lt_int q
theorem op_le : OpR X (compareOp .LtE) (rI0 fun i j => .bl (decide (i ≤ j))) := opB0 fun _ _ _ _ _ _ _ q => le_int q
theorem op_gt : OpR X (compareOp .Gt) (rI0 fun i j => .bl (decide (j < i))) := opB0 fun _ _ _ _ _ _ _ q => gt_int q
theorem op_ge : OpR X (compareOp .GtE) (rI0 fun i j => .bl (decide (j ≤ i))) := opB0 fun _ _ _ _ _ _ _ q => ge_int q
theorem op_isN : OpR X (compareOp .Is) (fun x y H Q => y = .non ∧ Q (.bl (decide (x = .non))) H) := by
  intro pins s σ H x y v u Q I rx ry h
  obtain ⟨rfl, q⟩ := h
  cases ry
  refine is_none_gen (fin_bl I q ?_)
  cases x <;> first
    | (cases rx; rfl)
    | (obtain ⟨t, rfl⟩ := rx; rfl)
theorem OpR.or {f : Value → Value → Sem Value} {r r' : R2} (h : OpR X f r) (h' : OpR X f r') : OpR X f (fun x y H Q => r x y H Q ∨ r' x y H Q) := by
  intro pins s σ H x y v u Q I rx ry q
  rcases q with q | q
  · exact h pins s σ H x y v u Q I rx ry q
  · exact h' pins s σ H x y v u Q I rx ry q
theorem nomark (b : Expr) {op : CmpOp} (h : op ≠ .In := by decide) (h2 : op ≠ .NotIn := by decide) : behindInMarks op b = false := by
  have e1 : (op == CmpOp.In) = false := by cases op <;> first | rfl | exact absurd rfl h
  have e2 : (op == CmpOp.NotIn) = false := by cases op <;> first | rfl | exact absurd rfl h2
  cases b <;> simp [behindInMarks, e1, e2]
theorem pe_cmpR {op : CmpOp} {r : R2} (ho : OpR X (compareOp op) r) (ha : PE X a ta) (hb : PE X b tb) (hm : behindInMarks op b = false) : PE X (.Compare a [op] [b] pos) (tOp r ta tb) := by
  intro pins s σ H Q I h
  exact wpAny_Compare1 (binT ha hb I h fun v u s2 x y H2 I2 rx ry q => ho pins s2 σ H2 x y v u Q I2 rx ry q) hm
def tTest (t : TE) : TT := fun σ H Q => t σ H fun x H' => ∃ k, x = .bl k ∧ Q k H'
theorem pt_cmpR {op : CmpOp} {r : R2} (ho : OpR X (compareOp op) r) (ha : PE X a ta) (hb : PE X b tb) (hm : behindInMarks op b = false) : PT X (.Compare a [op] [b] pos) (tTest (tOp r ta tb)) := by
  intro pins s σ H Q I h
  refine wpAny_isTrue_Compare1 (thn (ha pins s σ H _ I h) fun v s1 ⟨x, H1, I1, r1, q1⟩ => thn (hb pins s1 σ H1 _ I1 q1) fun u s2 ⟨y, H2, I2, r2, q2⟩ =>
    thn (ho pins s2 σ H2 x y v u _ I2 r1 r2 q2) fun c s3 ⟨z, H3, I3, r3, k, e, q3⟩ => ?_) hm
  subst e
  cases r3
  exact wpAny_truthy_bool ⟨H3, I3, q3⟩
def tChain (r r' : R2) (ta tb tc : TE) : TE := fun σ H Q => ta σ H fun x H1 => tb σ H1 fun y H2 => r x y H2 fun z H3 => ∃ k, z = .bl k ∧
  (if k = true then tc σ H3 fun w' H4 => r' y w' H4 Q else Q (.bl false) H3)
theorem pe_chain {op op' : CmpOp} {r r' : R2} (ho : OpR X (compareOp op) r) (ho' : OpR X (compareOp op') r') (ha : PE X a ta) (hb : PE X b tb) (hc : PE X c tc)
    (hm : lastMarks [op, op'] [b, c] = false := by with_unfolding_all rfl) : PE X (.Compare a [op, op'] [b, c] pos) (tChain r r' ta tb tc) := by
  intro pins s σ H Q I h
  refine Compare_chain (thn (ha pins s σ H _ I h) fun v s1 ⟨x, H1, I1, r1, q1⟩ => chain_link (thn (hb pins s1 σ H1 _ I1 q1) fun u s2 ⟨y, H2, I2, r2, q2⟩ =>
    thn (ho pins s2 σ H2 x y v u _ I2 r1 r2 q2) fun d s3 ⟨z, H3, I3, r3, k, e, q3⟩ => ?_)) hm
  subst e
  cases r3
  refine wpAny_truthy_bool ?_
  cases k with
  | false => exact ite_ff ⟨.bl false, H3, I3, rfl, q3⟩
  | true => exact ite_tt (chain_last (thn (hc pins s3 σ H3 _ I3 q3) fun w' s4 ⟨z', H4, I4, r4, q4⟩ => ho' pins s4 σ H4 y z' u w' Q I4 r2 r4 q4))
theorem pt_chain {op op' : CmpOp} {r r' : R2} (ho : OpR X (compareOp op) r) (ho' : OpR X (compareOp op') r') (ha : PE X a ta) (hb : PE X b tb) (hc : PE X c tc)
    (hm : lastMarks [op, op'] [b, c] = false := by with_unfolding_all rfl) : PT X (.Compare a [op, op'] [b, c] pos) (tTest (tChain r r' ta tb tc)) := by
  intro pins s σ H Q I h
  refine isTrue_chain (thn (ha pins s σ H _ I h) fun v s1 ⟨x, H1, I1, r1, q1⟩ => test_link (thn (hb pins s1 σ H1 _ I1 q1) fun u s2 ⟨y, H2, I2, r2, q2⟩ =>
    thn (ho pins s2 σ H2 x y v u _ I2 r1 r2 q2) fun d s3 ⟨z, H3, I3, r3, k, e, q3⟩ => ?_)) hm
  subst e
  cases r3
  refine wpAny_truthy_bool ?_
  cases k with
  | false =>
    obtain ⟨k', e', q'⟩ := q3
    cases e'
    exact ite_ff ⟨H3, I3, q'⟩
  | true =>
    refine ite_tt (test_last (thn (hc pins s3 σ H3 _ I3 q3) fun w' s4 ⟨z', H4, I4, r4, q4⟩ => thn (ho' pins s4 σ H4 y z' u w' _ I4 r2 r4 q4) fun d' s5 ⟨z2, H5, I5, r5, k2, e2, q5⟩ => ?_))
    subst e2
    cases r5
    exact wpAny_truthy_bool ⟨H5, I5, q5⟩
theorem line63 : (sizeLine : Nat) < 2 ^ 63 := by rw [sizeLine_eq]; decide
theorem vals1 {x : V} {us : List Value} (r : Vals [x] us) : ∃ u, us = [u] ∧ RelV x u := by
  cases r with
  | cons r1 r2 => cases r2; exact ⟨_, rfl, r1⟩
theorem vals2 {x y : V} {us : List Value} (r : Vals [x, y] us) : ∃ u w', us = [u, w'] ∧ RelV x u ∧ RelV y w' := by
  cases r with
  | cons r1 r2 =>
    cases r2 with
    | cons r3 r4 => cases r4; exact ⟨_, _, rfl, r1, r3⟩
theorem call_max2 (hc : X.calm = true) : CallR X (.builtin "max") (fun xs H Q => ∃ i j, xs = [.int i, .int j] ∧ Q (.int (if j > i then j else i)) H) := by
  intro pins s σ H xs us Q I r h
  obtain ⟨i, j, rfl, q⟩ := h
  obtain ⟨u, w', rfl, ⟨t, rfl⟩, ⟨t', rfl⟩⟩ := vals2 r
  refine max_two_ints (I.ok.hd hc) fun h' tk k => ⟨_, H, I.kept k, ?_, q⟩
  by_cases hj : j > i
  · rw [if_pos hj, if_pos hj]; exact ⟨_, rfl⟩
  · rw [if_neg hj, if_neg hj]; exact ⟨_, rfl⟩
theorem call_min2 (hc : X.calm = true) : CallR X (.builtin "min") (fun xs H Q => ∃ i j, xs = [.int i, .int j] ∧ Q (.int (if j < i then j else i)) H) := by
  intro pins s σ H xs us Q I r h
  obtain ⟨i, j, rfl, q⟩ := h
  obtain ⟨u, w', rfl, ⟨t, rfl⟩, ⟨t', rfl⟩⟩ := vals2 r
  refine min_two_ints (I.ok.hd hc) fun h' tk k => ⟨_, H, I.kept k, ?_, q⟩
  by_cases hj : j < i
  · rw [if_pos hj, if_pos hj]; exact ⟨_, rfl⟩
  · rw [if_neg hj, if_neg hj]; exact ⟨_, rfl⟩
end
end L2
namespace L2
open PySem PySem.Spec PyProof.Rows
structure ObjM (h : Heap) (x dx C : Addr) (mA : Str → Option Value) : Prop where
  obj : h.get? x = some (PySem.W.instObj C dx)
  ns : h.Ns1 dx mA
  ne : dx ≠ x
theorem lookIn_ns {h : Heap} {dx : Addr} {mA : Str → Option Value} (n : h.Ns1 dx mA) : ∃ od, h.get? dx = some od ∧ ∀ name, PySem.W.lookIn name od = some (mA name) := by
  obtain ⟨o, es, ep, ho, hd, hk, _, hm⟩ := n
  refine ⟨o, ho, fun name => ?_⟩
  have e := hm name
  unfold nsFind findBy at e
  rw [← Array.find?_toList] at e
  unfold PySem.W.lookIn
  rw [hd]
  dsimp only
  split
  · rename_i y q
    rw [q] at e
    exact congrArg some e
  · rename_i q
    rw [q] at e
    have a : es.toList.any (·.refKey) = false := by
      rw [List.any_eq_false]
      intro y hy
      obtain ⟨z, t, hkey⟩ := hk y (Array.mem_toList_iff.mp hy)
      simp [DictEntry.refKey, hkey]
    have a' : ¬ es.toList.any (·.refKey) = true := by rw [a]; exact Bool.false_ne_true
    rw [if_neg a']
    exact congrArg some e
theorem ObjM.look {h : Heap} {x dx C : Addr} {mA : Str → Option Value} (I : ObjM h x dx C mA) : ∃ od, PySem.W.InstAt h x (PySem.W.instObj C dx) C (some od) ∧ ∀ name, PySem.W.lookIn name od = some (mA name) :=
  let ⟨od, ho, hl⟩ := lookIn_ns I.ns
  ⟨od, ⟨I.obj, rfl, rfl, ho⟩, hl⟩
section
variable {prog : Program} {w : World} {A : Around} {E : Value → Shared → Prop} {s : Shared} {K : PySem.W.Frag} {x dx C f : Addr} {mA : Str → Option Value} {name : Str} {v : Value}
end
theorem RelO.some_of {v : V} {o : Option Value} (r : RelO (some v) o) : ∃ u, o = some u ∧ RelV v u := by
  cases o with
  | none => exact (show False from r).elim
  | some u => exact ⟨u, rfl, r⟩
section
variable {P : Program} {w : World} {H H' : Hp} {h h' : Heap} {a C dx : Addr} {fs fs' : List (Str × V)}
theorem ins_get (hok : HOk P w H h) (e : H a = some (.ins C dx fs)) : ∃ mA, ObjM h a dx C mA ∧ (∀ f, RelO (fs.lookup f) (mA f)) ∧ PySem.Within mA (fs.map (·.1)) ∧ fs.length ≤ 1000 ∧ H dx = some (.own a) := by
  obtain ⟨d, z, ne, ob, mA, n, r, q⟩ := (show ObjOk P w H h a (.ins C dx fs) from hok a _ e)
  exact ⟨mA, ⟨ob, n, ne⟩, r, q, z, d⟩
end
structure Cls (K : PySem.W.Frag) (C : Addr) : Prop where
  pg : PySem.W.plainGet K C Str.empty = true
  hd : PySem.W.hasDictIn K C = true
  po : PySem.W.plainOver K C = true
  sa : PySem.W.findIn K (.ref C) "__setattr__" = some (some (.builtin "object.__setattr__"))
theorem Cls.get {K : PySem.W.Frag} {C : Addr} (c : Cls K C) (f : Str) : PySem.W.plainGet K C f = true := c.pg
section
variable {X : Cx} {pins : List (Addr × Obj)} {σ : St} {H : Hp} {s : Shared} {a C dx : Addr} {fs : List (Str × V)} {f : Str} {v : V} {A : Around} {E : Value → Shared → Prop}
theorem Inv.made (I : Inv X pins σ H s) : Inv X pins σ (upd (upd H s.heap.objs.size (.own (s.heap.objs.size + 1))) (s.heap.objs.size + 1) (.ins C s.heap.objs.size []))
    { s with heap := (s.heap.push PySem.W.emptyDict).push (PySem.W.instObj C s.heap.objs.size) } := by
  have e1 : (s.heap.push PySem.W.emptyDict).get? s.heap.objs.size = some PySem.W.emptyDict := Heap.get?_push_size s.heap rfl
  have e2 : ((s.heap.push PySem.W.emptyDict).push (PySem.W.instObj C s.heap.objs.size)).get? (s.heap.objs.size + 1) = some (PySem.W.instObj C s.heap.objs.size) := by
    have := Heap.get?_push_size (s.heap.push PySem.W.emptyDict) (o := PySem.W.instObj C s.heap.objs.size) rfl
    rwa [Heap.size_push] at this
  have e3 : (s.heap.push PySem.W.emptyDict).Ns s.heap.objs.size (fun _ => none) := ⟨PySem.W.emptyDict, #[], _, e1, rfl, (fun e he => absurd he (by simp)), fun _ => rfl⟩
  have I1 := I.laid (a := s.heap.objs.size) (o := .own (s.heap.objs.size + 1)) (h' := s.heap.push PySem.W.emptyDict) (t' := s.toks) (fun b u q => Heap.get?_push_of_some _ q) (Nat.le_refl _) ⟨_, e1⟩
  refine I1.laid (a := s.heap.objs.size + 1) (o := .ins C s.heap.objs.size []) (t' := s.toks) (fun b u q => Heap.get?_push_of_some _ q) (Nat.le_of_eq (Heap.size_push _ _)) ?_
  have ne : s.heap.objs.size ≠ s.heap.objs.size + 1 := Nat.ne_of_lt (Nat.lt_succ_self _)
  refine ⟨by rw [upd_ne ne, upd_same], Nat.zero_le _, ne, e2, fun _ => none, (Heap.Ns1.of_empty e3).at fun o q => Heap.get?_push_of_some _ q, fun _ => True.intro, fun y hy => absurd rfl hy⟩
end
section
variable {X : Cx} {o e value : Expr} {f : Str} {pos pos' tpos : Pos} {ta tv : TE}
def rAdd : V → V → Hp → VK → Prop := fun x y H Q => ∃ i j, x = .int i ∧ y = .int j ∧ Q (.int (i + j)) H
end
section
variable {X : Cx} {pins : List (Addr × Obj)} {σ : St} {H : Hp} {s : Shared} {A : Around} {E : Value → Shared → Prop} {Q : Value → Shared → Prop} {c : Value} {b : Bool}
inductive TyOf (K : PySem.W.Frag) (H : Hp) : V → Value → Prop where
  | non : TyOf K H .non (.type "NoneType")
  | bl (x : Bool) : TyOf K H (.bl x) (.type "bool")
  | int (i : Int) : TyOf K H (.int i) (.type "int")
  | str (x : Str) : TyOf K H (.str x) (.type "str")
  | flt (x : UInt64) : TyOf K H (.flt x) (.type "float")
  | lst {a : Addr} {xs : List V} (e : H a = some (.lst xs)) : TyOf K H (.ref a) (.type "list")
  | frz {a : Addr} {o : Obj} {xs : List V} (e : H a = some (.frz o (.lst xs))) : TyOf K H (.ref a) (.type "list")
  | tup {a : Addr} {xs : List V} (e : H a = some (.tup xs)) : TyOf K H (.ref a) (.type "tuple")
  | dK {a : Addr} {kvs : List (Key × V)} (e : H a = some (.dK kvs)) : TyOf K H (.ref a) (.type "dict")
  | dT {a : Addr} {kvs : List (List Key × V)} (e : H a = some (.dT kvs)) : TyOf K H (.ref a) (.type "dict")
  | ins {a C dx : Addr} {fs : List (Str × V)} (e : H a = some (.ins C dx fs)) (cl : Cls K C) (ha : PySem.W.findIn K (.ref C) "__class__" = some (some (.builtin "object.__class__")))
      (hn : PySem.W.specialIn K (.builtin "object.__class__") "__get__" = some (some (.builtin "getset_descriptor.__get__"))) (htk : PySem.W.takesIn K (.builtin "object.__class__") = some true)
      (hm : PySem.W.mroIn K C (.type "object") = some true) : TyOf K H (.ref a) (.ref C)
theorem isinst_ok {x : V} {u t : Value} (I : Inv X pins σ H s) (rx : RelV x u) (ty : TyOf X.K H x t) (e : PySem.W.kitOne X.K t c = some b) (h : ∀ tk, Q (.bool b) { s with toks := tk }) :
    wpAny (model X.prog X.w) A (call (.builtin "isinstance") [u, c]) Q E s := by
  cases ty with
  | non => cases (show u = Value.none from rx); exact PySem.W.kia_one PySem.W.kitx_none I.kIn True.intro e (fun z => nomatch z) h
  | bl y => cases (show u = Value.bool y from rx); exact PySem.W.kia_one PySem.W.kitx_bool I.kIn True.intro e (fun z => nomatch z) h
  | int i => obtain ⟨t, q⟩ := (show ∃ t, u = Value.int i t from rx); cases q; exact PySem.W.kia_one PySem.W.kitx_int I.kIn True.intro e (fun z => nomatch z) h
  | str y => obtain ⟨t, q⟩ := (show ∃ t, u = Value.str y t from rx); cases q; exact PySem.W.kia_one PySem.W.kitx_str I.kIn True.intro e (fun z => nomatch z) h
  | flt y => obtain ⟨t, q⟩ := (show ∃ t, u = Value.float y t from rx); cases q; exact PySem.W.kia_one PySem.W.kitx_float I.kIn True.intro e (fun z => nomatch z) h
  | @lst a xs ea =>
    cases (show u = Value.ref a from rx)
    obtain ⟨_, _, n, _, h1⟩ := (show ObjOk X.prog X.w H s.heap a (.lst xs) from I.hok a _ ea)
    exact PySem.W.kia_one PySem.W.kitx_list I.kIn ⟨_, h1, rfl⟩ e (fun z => nomatch z) h
  | @frz a ob xs ea =>
    cases (show u = Value.ref a from rx)
    obtain ⟨_, _, _, n, _, h1⟩ := (show ObjOk X.prog X.w H s.heap a (.frz ob (.lst xs)) from I.hok a _ ea)
    exact PySem.W.kia_one PySem.W.kitx_list I.kIn ⟨_, h1, rfl⟩ e (fun z => nomatch z) h
  | @tup a xs ea =>
    cases (show u = Value.ref a from rx)
    obtain ⟨_, _, _, p⟩ := (show ObjOk X.prog X.w H s.heap a (.tup xs) from I.hok a _ ea)
    obtain ⟨o, h1, h2, _⟩ := p
    exact PySem.W.kia_one PySem.W.kitx_tuple I.kIn ⟨o, h1, h2⟩ e (fun z => nomatch z) h
  | @dK a kvs ea =>
    cases (show u = Value.ref a from rx)
    obtain ⟨_, _, vs, _, p⟩ := (show ObjOk X.prog X.w H s.heap a (.dK kvs) from I.hok a _ ea)
    obtain ⟨o, es, ep, h1, h2, _⟩ := p
    exact PySem.W.kia_one PySem.W.kitx_dict I.kIn ⟨o, h1, h2.1⟩ e (fun z => nomatch z) h
  | @dT a kvs ea =>
    cases (show u = Value.ref a from rx)
    obtain ⟨_, _, xs, _, o, es, ep, h1, h2, _⟩ := (show ObjOk X.prog X.w H s.heap a (.dT kvs) from I.hok a _ ea)
    exact PySem.W.kia_one PySem.W.kitx_dict I.kIn ⟨o, h1, h2.1⟩ e (fun z => nomatch z) h
  | @ins a C dx fs ea cl ha hn htk hm =>
    cases (show u = Value.ref a from rx)
    obtain ⟨mA, O, _⟩ := ins_get I.hok ea
    obtain ⟨od, J, _⟩ := O.look
    exact PySem.W.kia_one (PySem.W.kitx_own (cl.get _) cl.hd ha hn htk hm) I.kIn J e (fun z => nomatch z) h
end
end L2
namespace L2
open PySem PySem.Spec PyProof.Rows
structure Room (k : Nat) (A : Around) : Prop where
  hd : A.handled = none
  dp : A.depth + 3 * k + 5 < recursionLimit
  un : A.units + 16 * k + 200 < cLine
theorem Room.mono {j k : Nat} {A : Around} (r : Room k A) (h : j ≤ k) : Room j A := ⟨r.hd, by have := r.dp; omega, by have := r.un; omega⟩
theorem Room.deeper {k : Nat} {A : Around} (r : Room (k + 1) A) (env : Env) : Room k (A.deeper env) :=
  ⟨r.hd, by have := r.dp; show A.depth + 1 + 3 * k + 5 < _; omega, by have := r.un; show A.units + 3 + 16 * k + 200 < _; omega⟩
theorem Room.in1 {k : Nat} {A : Around} (r : Room (k + 1) A) : Room k A.in1 :=
  ⟨r.hd, by have := r.dp; show A.depth + 3 * k + 5 < _; omega, by have := r.un; show A.units + 1 + 16 * k + 200 < _; omega⟩
theorem Room.depth {k : Nat} {A : Around} (r : Room k A) : A.depth < recursionLimit := by have := r.dp; omega
theorem Room.units {k : Nat} {A : Around} (r : Room k A) : A.units + 64 < cLine := by have := r.un; omega
theorem Room.units0 {k : Nat} {A : Around} (r : Room k A) : A.units < cLine := by have := r.un; omega
def tNil : TA := fun _ H Q => Q [] H
def tCons (ta : TE) (tr : TA) : TA := fun σ H Q => ta σ H fun x H1 => tr σ H1 fun xs H2 => Q (x :: xs) H2
section
variable {X : Cx} {e : Expr} {es : List Expr} {te : TE} {t : TA} {pos : Pos}
theorem pa_nil : PA X [] tNil := fun _ _ _ _ H Q I h => Calls.spliced_nil ⟨[], H, I, .nil, h⟩
theorem pa_cons (ha : PE X e te) (hr : PA X es t) (hs : starEach (e :: es) X.env = (false, eval e X.env) :: starEach es X.env := by rfl) : PA X (e :: es) (tCons te t) := by
  intro pos pins s σ H Q I h
  rw [hs]
  show wpAny _ _ (spliced ((false, eval e X.env) :: backTo pos (starEach es X.env))) _ _ s
  refine Calls.spliced_cons (thn (ha pins s σ H _ I h) fun u s1 ⟨x, H1, I1, r1, q1⟩ => ?_)
  exact thn (hr pos pins s1 σ H1 _ I1 q1) fun us s2 ⟨xs, H2, I2, r2, q2⟩ => ⟨x :: xs, H2, I2, .cons r1 r2, q2⟩
def tLst (t : TA) : TE := fun σ H Q => t σ H fun xs H1 => xs.length ≤ sizeLine ∧ ∀ p, H1 p = none → Q (.ref p) (upd H1 p (.lst xs))
theorem pe_lst (h : PA X es t) : PE X (.List es pos) (tLst t) := by
  intro pins s σ H Q I hq
  refine wpAny_List_spliced (thn (h pos pins s σ H _ I hq) fun us s1 ⟨xs, H1, I1, r, z, q⟩ => ⟨by rw [← r.length]; exact z, ?_⟩)
  have hf : H1 s1.heap.objs.size = none := I1.hok.fresh (Nat.le_refl _)
  refine ⟨.ref s1.heap.objs.size, upd H1 s1.heap.objs.size (.lst xs), I1.laid (t' := s1.toks) (fun b u e => Heap.get?_push_of_some _ e) (Nat.le_refl _) ?_, rfl, q _ hf⟩
  exact ⟨z, us, 0, r, Heap.get?_push_size _ rfl⟩
end
abbrev Sp := List V → Hp → VK → XK → Prop
abbrev CXT := List Env → Hp → Shared → XK → Value → Shared → Prop
structure Env0 (P : Program) (w : World) (K : PySem.W.Frag) (mg : Str → Option Value) (base : Heap) (A : Around) (outer : List Env) (s : Shared) (H : Hp) : Prop where
  frames : A.frames = some outer
  mod : Mod K mg base
  bs : ∀ b o, base.get? b = some o → s.heap.get? b = some o ∧ H b = none
  bsz : base.objs.size ≤ s.heap.objs.size
  funs : s.heap.FunFrames base outer
  frf : ∀ b ∈ frs outer, H b = none
  hok : HOk P w H s.heap
  bare : AllBare s.gens
def CE (outer : List Env) (P : Program) (w : World) (H : Hp) (s : Shared) (Q : VK) (u : Value) (s' : Shared) : Prop :=
  ∃ v H', s'.os = s.os ∧ AllBare s'.gens ∧ Un (frs outer) [] H H' s.heap s'.heap ∧ HOk P w H' s'.heap ∧ RelV v u ∧ Q v H'
def CR (CX : CXT) (outer : List Env) (P : Program) (w : World) (H : Hp) (s : Shared) (Q : VK) (E : XK) (r : Result) (s' : Shared) : Prop :=
  match r with
  | .ok (.ret u) => CE outer P w H s Q u s'
  | .ok _ => False
  | .error e => CX outer H s E e s'
structure FnOk (P : Program) (w : World) (K : PySem.W.Frag) (mg : Str → Option Value) (base : Heap) (CX : CXT) (k : Nat) (f : Addr) (fd : FuncData) (ps : List Str) (sp : Sp) : Prop where
  len : ∀ vs H Q E, sp vs H Q E → vs.length = ps.length
  run : ∀ (A : Around) (outer : List Env) (s : Shared) (H : Hp) (args : Args) (us : List Value) (vs : List V) (Q : VK) (E : XK), Room k A → Env0 P w K mg base A outer s H → BindsTo s fd args (ps.zip us) → Vals vs us → sp vs H Q E →
    codeAny (model P w) A (.call (.ref f) args) (CR CX outer P w H s Q E) s
theorem FnOk.mono {P : Program} {w : World} {K : PySem.W.Frag} {mg : Str → Option Value} {base : Heap} {CX : CXT} {j k : Nat} {f : Addr} {fd : FuncData} {ps : List Str} {sp : Sp} (F : FnOk P w K mg base CX j f fd ps sp) (h : j ≤ k) :
    FnOk P w K mg base CX k f fd ps sp := ⟨F.len, fun A outer s H args us vs Q E hr => F.run A outer s H args us vs Q E (hr.mono h)⟩
theorem FnOk.imp {P : Program} {w : World} {K : PySem.W.Frag} {mg : Str → Option Value} {base : Heap} {CX : CXT} {k : Nat} {f : Addr} {fd : FuncData} {ps : List Str} {sp sp' : Sp} (F : FnOk P w K mg base CX k f fd ps sp)
    (h : ∀ vs H Q E, sp' vs H Q E → sp vs H Q E) : FnOk P w K mg base CX k f fd ps sp' :=
  ⟨fun vs H Q E q => F.len vs H Q E (h _ _ _ _ q), fun A outer s H args us vs Q E hr he hb hv hs => F.run A outer s H args us vs Q E hr he hb hv (h _ _ _ _ hs)⟩
theorem Env0.in1 {P : Program} {w : World} {K : PySem.W.Frag} {mg : Str → Option Value} {base : Heap} {A : Around} {outer : List Env} {s : Shared} {H : Hp} (e : Env0 P w K mg base A outer s H) :
    Env0 P w K mg base A.in1 outer s H := ⟨e.frames, e.mod, e.bs, e.bsz, e.funs, e.frf, e.hok, e.bare⟩
section
variable {X : Cx} {pins : List (Addr × Obj)} {σ : St} {H : Hp} {s s' : Shared}
theorem Inv.env0 (I : Inv X pins σ H s) : Env0 X.prog X.w X.K X.mg X.base X.A X.stack s H :=
  ⟨I.ok.frames, I.ok.mod, I.bs, Nat.le_trans I.ok.bsz I.sz, I.stack, I.stkFree, I.hok, I.bare⟩
theorem Inv.after {Q : VK} {u : Value} (I : Inv X pins σ H s) (h : CE X.stack X.prog X.w H s Q u s') : EP X pins σ Q u s' := by
  obtain ⟨v, H', os, bare, un, hok, r, q⟩ := h
  obtain ⟨hh, g, d, t, os'⟩ := s'
  obtain rfl : os' = s.os := os
  exact ⟨v, H', I.call (h' := hh) (g' := g) (d' := d) (t' := t) (ch := []) un hok bare (fun b z => absurd z (by simp)), r, q⟩
end
def tCall (sp : Sp) (dvs : List V) (E : XK) (t : TA) : TE := fun σ H Q => t σ H fun vs H1 => sp (vs ++ dvs) H1 Q E
def Binds (K : PySem.W.Frag) (fd : FuncData) (ps : List Str) (ds : List Value) : Prop :=
  ∀ (s : Shared) (us : List Value), K.In s.heap → (us ++ ds).length = ps.length → BindsTo s fd ⟨us, []⟩ (ps.zip (us ++ ds))
theorem Binds.all {K : PySem.W.Frag} {fd : FuncData} {ps : List Str} (h : ∀ us : List Value, us.length = ps.length → bindArgs fd ⟨us, []⟩ = pure (ps.zip us)) : Binds K fd ps [] := fun s us _ hl => by
  rw [List.append_nil] at hl ⊢
  exact .of_eq (h us hl)
def Passes (CX : CXT) (X : Cx) (E : XK) : Prop := ∀ (pins : List (Addr × Obj)) (σ : St) (H : Hp) (s : Shared) (e : Value) (s' : Shared), Inv X pins σ H s → CX X.stack H s E e s' → X.xe e s'
section
variable {X : Cx} {CX : CXT} {k : Nat} {f C : Addr} {fd : FuncData} {ps : List Str} {sp : Sp} {dvs : List V} {ds : List Value} {E : XK} {x m : Str} {p pos apos : Pos} {e o : Expr} {es : List Expr} {ta : TE} {t : TA}
theorem run_fn {pins : List (Addr × Obj)} {σ : St} {H : Hp} {s : Shared} {Q : VK} {us : List Value} {vs : List V} (F : FnOk X.prog X.w X.K X.mg X.base CX k f fd ps sp) (hr : Room k X.A) (hb : Binds X.K fd ps ds) (hd : Vals dvs ds) (hx : Passes CX X E)
    (I : Inv X pins σ H s) (r : Vals vs us) (h : sp (vs ++ dvs) H Q E) : wpAny (model X.prog X.w) X.A (call (.ref f) us) (EP X pins σ Q) X.xe s := by
  have r2 : Vals (vs ++ dvs) (us ++ ds) := r.append hd
  have hl : (us ++ ds).length = ps.length := by rw [← r2.length]; exact F.len _ _ _ _ h
  refine wpAny_call (codeAny_mono (F.run X.A X.stack s H ⟨us, []⟩ (us ++ ds) (vs ++ dvs) Q E hr I.env0 (hb s us I.kIn hl) r2 h) fun r s' hq => ?_)
  cases r with
  | error e => exact hx pins σ H s e s' I hq
  | ok fl =>
    cases fl with
    | ret u => exact I.after hq
    | next => exact False.elim hq
    | brk => exact False.elim hq
    | cont => exact False.elim hq
theorem pe_call (F : FnOk X.prog X.w X.K X.mg X.base CX k f fd ps sp) (hr : Room k X.A) (hg : Gl X x) (hm : X.mg x = some (.ref f)) (hk : PySem.W.keepIn X.K (.ref f) = true) (hb : Binds X.K fd ps ds) (hd : Vals dvs ds) (hx : Passes CX X E)
    (ha : PA X (e :: es) t) (hdb : (x == ("__debug__" : Str)) = false := by decide) (he : starEach (e :: es) X.env = (false, eval e X.env) :: starEach es X.env := by rfl) (hpl : (backTo pos (starEach es X.env)).any (·.1) = false := by rfl) :
    PE X (.Call (.Name x p) (e :: es) [] pos) (tCall sp dvs E t) := by
  intro pins s σ H Q I h
  refine wpAny_Call_Name_kw (ld_glob I hg hm ?_ hdb)
  refine PySem.W.callWith_K (h₀ := X.base) I.ok.mod.kin hk (thn (ha pos pins s σ H _ I h) fun us s1 ⟨vs, H1, I1, r, q⟩ => ⟨I1.kIn, ?_⟩) he hpl
  exact run_fn F hr hb hd hx I1 r q
end
section
variable {X : Cx} {CX : CXT} {k : Nat} {f C : Addr} {fd : FuncData} {ps ks : List Str} {sp : Sp} {E : XK} {x m : Str} {p pos apos kpos : Pos} {e o : Expr} {es : List Expr} {kws : List Keyword} {te ta : TE} {t tk : TA} {nm : Option Str}
variable {g : List Value → List Value → List Value} {gV : List V → List V → List V}
end
structure FnScope (N P : List Str) (sc : Scope) : Prop where
  kind : sc.kind = .function
  co : sc.isCoroutine = false
  gen : sc.isGenerator = false
  nd : N.Nodup
  pre : N.take P.length = P
  par : ∀ x ∈ P, sc.names.lookup x = some .local ∨ sc.names.lookup x = some .cell
  nofree : ∀ y ∈ sc.names, y.2 ≠ .free
theorem bindL_out {kindOf : Str → Option NameKind} {x : Str} : ∀ {binds : List (Str × Value)} {m : Str → Option Value}, (∀ v, (x, v) ∉ binds) → bindL kindOf binds m x = m x
  | [], _, _ => rfl
  | (n, v) :: r, m, h => by
    unfold bindL
    rw [bindL_out fun w hw => h w (List.mem_cons_of_mem _ hw)]
    split
    · have : x ≠ n := by rintro rfl; exact h v List.mem_cons_self
      simp [this]
    · rfl
theorem bindC_out {kindOf : Str → Option NameKind} {x : Str} : ∀ {binds : List (Str × Value)} {m : Str → Option Value}, (∀ v, (x, v) ∉ binds) → bindC kindOf binds m x = m x
  | [], _, _ => rfl
  | (n, v) :: r, m, h => by
    unfold bindC
    rw [bindC_out fun w hw => h w (List.mem_cons_of_mem _ hw)]
    split
    · rfl
    · have : x ≠ n := by rintro rfl; exact h v List.mem_cons_self
      simp [this]
theorem bindL_get {kindOf : Str → Option NameKind} {x : Str} {v : Value} : ∀ {P : List Str} {vs : List Value} {i : Nat} {m : Str → Option Value}, P.Nodup → P[i]? = some x → vs[i]? = some v → kindOf x = some .local →
    bindL kindOf (P.zip vs) m x = some v
  | [], _, _, _, _, h, _, _ => by simp at h
  | _ :: _, [], _, _, _, _, h, _ => by simp at h
  | p :: P, w :: vs, 0, m, nd, h1, h2, hk => by
    simp at h1 h2; subst h1; subst h2
    show bindL kindOf ((p, w) :: P.zip vs) m p = _
    unfold bindL
    rw [bindL_out fun v hv => (List.nodup_cons.mp nd).1 (List.of_mem_zip hv).1, if_pos hk]
    simp
  | p :: P, w :: vs, i + 1, m, nd, h1, h2, hk => by
    show bindL kindOf ((p, w) :: P.zip vs) m x = _
    unfold bindL
    exact bindL_get (i := i) (List.nodup_cons.mp nd).2 (by simpa using h1) (by simpa using h2) hk
theorem bindC_get {kindOf : Str → Option NameKind} {x : Str} {v : Value} : ∀ {P : List Str} {vs : List Value} {i : Nat} {m : Str → Option Value}, P.Nodup → P[i]? = some x → vs[i]? = some v → kindOf x ≠ some .local →
    bindC kindOf (P.zip vs) m x = some v
  | [], _, _, _, _, h, _, _ => by simp at h
  | _ :: _, [], _, _, _, _, h, _ => by simp at h
  | p :: P, w :: vs, 0, m, nd, h1, h2, hk => by
    simp at h1 h2; subst h1; subst h2
    show bindC kindOf ((p, w) :: P.zip vs) m p = _
    unfold bindC
    rw [bindC_out fun v hv => (List.nodup_cons.mp nd).1 (List.of_mem_zip hv).1, if_neg hk]
    simp
  | p :: P, w :: vs, i + 1, m, nd, h1, h2, hk => by
    show bindC kindOf ((p, w) :: P.zip vs) m x = _
    unfold bindC
    exact bindC_get (i := i) (List.nodup_cons.mp nd).2 (by simpa using h1) (by simpa using h2) hk
def start (N : List Str) (vs : List V) : St := vs.map some ++ List.replicate (N.length - vs.length) none
def cxOf (CX : CXT) (P : Program) (w : World) (K : PySem.W.Frag) (mg : Str → Option Value) (base : Heap) (N : List Str) (qual : Str) (scope : Scope) (f : Addr) (cd : Value) (A : Around) (outer : List Env) (s : Shared) (H : Hp) (E : XK) : Cx where
  prog := P
  w := w
  K := K
  mg := mg
  base := base
  A := A.deeper (envOfC qual scope s.heap.objs.size f cd)
  N := N
  s₀ := s
  H₀ := H
  env := envOfC qual scope s.heap.objs.size f cd
  outer := outer
  stack := envOfC qual scope s.heap.objs.size f cd :: outer
  ex := []
  calm := true
  fn := fun _ => true
  pn := []
  xe := fun e s' => wpAny (model P w) (A.deeper (envOfC qual scope s.heap.objs.size f cd)) (leaving (envOfC qual scope s.heap.objs.size f cd) e) (fun _ s'' => CX outer H s E e s'') (fun e' s'' => CX outer H s E e' s'') s'
theorem cell_has {sc : Scope} {n : Nat} {x : Str} (h : sc.names.lookup x = some .cell) : ∃ c, (cellsFrom n sc.names []).lookup x = some c := by
  have q := PySem.W.cellsFrom_some sc.names n [] (.inl h)
  exact Option.isSome_iff_exists.mp q
theorem inv_start {CX : CXT} {P : Program} {w : World} {K : PySem.W.Frag} {mg : Str → Option Value} {base : Heap} {N ps : List Str} {qual : Str} {scope : Scope} {f : Addr} {cd : Value} {A : Around} {outer : List Env} {s s1 : Shared} {H : Hp} {E : XK} {us : List Value} {vs : List V}
    (S : FnScope N ps scope) (hd : A.handled = none) (e0 : Env0 P w K mg base A outer s H) (hl : vs.length = ps.length) (r : Vals vs us)
    (x : InCallC s s.heap.objs.size (bindL (envOfC qual scope s.heap.objs.size f cd).kindOf (ps.zip us) fun _ => none) (cellsFrom (s.heap.objs.size + 1) scope.names []) (bindC (envOfC qual scope s.heap.objs.size f cd).kindOf (ps.zip us) fun _ => none) s1) :
    Inv (cxOf CX P w K mg base N qual scope f cd A outer s H E) [] (start N vs) H s1 := by
  have hpl : ps.length ≤ N.length := by have := congrArg List.length S.pre; rw [List.length_take] at this; omega
  obtain ⟨h1, tk, rfl, hk⟩ := x.done
  have noA : ∀ b : Addr, b ∉ (cxOf CX P w K mg base N qual scope f cd A outer s H E).ex := fun b z => absurd (show b ∈ ([] : List Addr) from z) (by simp)
  refine ⟨⟨e0.mod, S.kind, rfl, rfl, Nat.le_refl _, fun y z c h1 h2 => ?_, fun y hy => ?_, fun y c _ h => ?_, fun _ => hd, Around.frames_deeper e0.frames, .inr ⟨rfl, rfl⟩, fun b z => absurd z (noA b), e0.bs, e0.bsz, fun b _ _ => noA b, fun b z => absurd z (noA b), e0.funs, e0.frf⟩,
    rfl, e0.bare, Un.kept hk, ⟨_, x.toInCall.ns, fun i y v h1 h2 h3 => ?_⟩, fun y c h => ⟨_, x.cell y c h⟩, e0.hok.fresh (Nat.le_refl _), fun y c h => ?_, fun p hp => absurd (show p ∈ ([] : List (Addr × Obj)) from hp) (by simp), e0.hok.kept hk, ?_⟩
  · exact name_of_addr x.apart (PySem.mem_of_lookup h1) (PySem.mem_of_lookup h2)
  · have hy : scope.names.lookup y = some .cell ∨ scope.names.lookup y = some .free := hy
    rcases hy with hy | hy
    · exact cell_has hy
    · exact absurd rfl (S.nofree _ (PySem.mem_of_lookup hy))
  · exact Nat.le_of_lt (x.above y c (PySem.mem_of_lookup h))
  · have hi : i < vs.length := by
      unfold start at h2
      by_cases hi : i < vs.length
      · exact hi
      · rw [List.getElem?_append_right (by simpa using hi)] at h2
        rw [List.getElem?_replicate] at h2
        split at h2 <;> cases h2
    have ha : vs[i]? = some v := by
      unfold start at h2
      rw [List.getElem?_append_left (by simpa using hi), List.getElem?_map] at h2
      cases e : vs[i]? with
      | none => rw [e] at h2; cases h2
      | some a => rw [e] at h2; cases h2; rfl
    obtain ⟨u, hu, rv⟩ := r.get ha
    have hp : ps[i]? = some y := by
      rw [← S.pre, List.getElem?_take_of_lt (by omega)]; exact h1
    have ndP : ps.Nodup := by rw [← S.pre]; exact S.nd.sublist (List.take_sublist _ _)
    refine ⟨u, rv, ?_⟩
    rcases S.par y (List.mem_of_getElem? hp) with k | k
    · exact .inl ⟨k, bindL_get ndP hp hu k⟩
    · obtain ⟨c, e⟩ := cell_has (n := s.heap.objs.size + 1) k
      refine .inr ⟨.inl k, c, e, ?_⟩
      have q := x.cell y c e
      rw [bindC_get ndP hp hu (by show scope.names.lookup y ≠ _; rw [k]; decide)] at q
      exact q
  · exact e0.hok.fresh (Nat.le_of_lt (x.above y c (PySem.mem_of_lookup h)))
  · unfold start
    show _ = N.length
    rw [List.length_append, List.length_map, List.length_replicate]
    omega
theorem fn_of {CX : CXT} {P : Program} {w : World} {K : PySem.W.Frag} {mg : Str → Option Value} {base : Heap} {k : Nat} {f : Addr} {name qual : Str} {params : Arguments} {body : List Stmt} {scope : Scope} {dV kV doc pm cdv ct oc : Value} {an od : Option Addr}
    {osl : Array (Option Value)} {N ps : List Str} {sp : Sp} (lk : K.lookup f = some ⟨oc, od, .func (PySem.W.fnOf name qual params body scope dV kV doc pm an cdv ct), osl⟩) (hcd : PySem.W.codeIn K cdv qual = true) (S : FnScope N ps scope)
    (len : ∀ vs H Q E, sp vs H Q E → vs.length = ps.length)
    (hbody : ∀ (A : Around) (outer : List Env) (s : Shared) (H : Hp) (vs : List V) (Q : VK) (E : XK), Room k (A.deeper (envOfC qual scope s.heap.objs.size f cdv)) → sp vs H Q E →
      ∃ t, PSs (cxOf CX P w K mg base N qual scope f cdv A outer s H E) body t ∧ t { nx := fun _ H' => Q .non H', rt := Q } (start N vs) H) :
    FnOk P w K mg base CX (k + 1) f (PySem.W.fnOf name qual params body scope dV kV doc pm an cdv ct) ps sp := by
  refine ⟨len, fun A outer s H args us vs Q E hr e0 hb r hsp => ?_⟩
  have hl := len _ _ _ _ hsp
  have KX : K.In s.heap := e0.mod.kin.keeps fun b o e => (e0.bs b o e).1
  have lim : s.heap.NoLimit := e0.mod.nolimit.keeps fun b o e => (e0.bs b o e).1
  have hkind : ∀ y ∈ ps.zip us, scope.names.lookup y.1 = some .local ∨ (scope.names.lookup y.1 = some .cell ∧ ((cellsFrom (s.heap.objs.size + 1) scope.names []).lookup y.1).isSome = true) := fun ⟨n, v⟩ hy => by
    rcases S.par n (List.of_mem_zip hy).1 with q | q
    · exact .inl q
    · exact .inr ⟨q, PySem.W.cellsFrom_some _ _ _ (.inl q)⟩
  refine codeAny_call_function hr.depth (KX _ _ lk) rfl S.co S.gen rfl (PySem.W.codeRec_of KX hcd) (hb _ _ _ _ ?_)
  refine wpAny_newFunctionEnv_cells S.kind hkind fun env he s1 x => ?_
  subst he
  refine ⟨lim.keeps x.toInCall.keep, codeAny_func ?_⟩
  obtain ⟨t, ht, hq⟩ := hbody A outer s H vs Q E (hr.deeper _) hsp
  have I : Inv (cxOf CX P w K mg base N qual scope f cdv A outer s H E) [] (start N vs) H s1 := inv_start S hr.hd e0 hl r x
  refine wpAny_mono (ht [] s1 (start N vs) H _ I hq) (fun fl s' hs => ?_) fun e s' hs => hs
  have fin : ∀ {σ' : St} {H' : Hp} {v : V} {u : Value}, Inv (cxOf CX P w K mg base N qual scope f cdv A outer s H E) [] σ' H' s' → RelV v u → Q v H' → CE outer P w H s Q u s' :=
    fun {σ' H' v u} J rv q => ⟨v, H', J.os, J.bare, J.base, J.hok, rv, q⟩
  cases fl with
  | ret u =>
    obtain ⟨v, σ', H', J, rv, q⟩ := hs
    exact fin J rv q
  | next =>
    obtain ⟨σ', H', J, q⟩ := hs
    exact fin (v := V.non) (u := Value.none) J rfl q
  | brk =>
    obtain ⟨_, _, _, q⟩ := hs
    exact False.elim q
  | cont =>
    obtain ⟨_, _, _, q⟩ := hs
    exact False.elim q
end L2
namespace L2
open PySem PySem.Spec PyProof.Rows
section
variable {X : Cx} {x : Str} {p pos : Pos} {e : Expr} {es : List Expr} {t : TA} {id T : String} {r : List V → Hp → VK → Prop}
def tCB (r : List V → Hp → VK → Prop) (t : TA) : TE := fun σ H Q => t σ H fun vs H1 => r vs H1 Q
theorem pe_callB (hc : CallR X (.builtin id) r) (hg : Gl X x) (hm : X.mg x = none) (hv : bootBuiltins x = some (.builtin id)) (ha : PA X (e :: es) t) (hn : x ≠ "__name__" := by decide) (hdb : (x == ("__debug__" : Str)) = false := by decide)
    (he : starEach (e :: es) X.env = (false, eval e X.env) :: starEach es X.env := by rfl) (hpl : (backTo pos (starEach es X.env)).any (·.1) = false := by rfl) : PE X (.Call (.Name x p) (e :: es) [] pos) (tCB r t) := by
  intro pins s σ H Q I h
  refine wpAny_Call_Name_kw (ld_blt I hg hm hv ?_ hn hdb)
  exact PyProof.Rows.callWith_builtin1 (thn (ha pos pins s σ H _ I h) fun us s1 ⟨vs, H1, I1, r1, q1⟩ => hc pins s1 σ H1 vs us Q I1 r1 q1) he hpl
theorem pe_callTy (hc : CallR X (.type T) r) (hg : Gl X x) (hm : X.mg x = none) (hv : bootBuiltins x = some (.type T)) (ha : PA X (e :: es) t) (hn : x ≠ "__name__" := by decide) (hdb : (x == ("__debug__" : Str)) = false := by decide)
    (he : starEach (e :: es) X.env = (false, eval e X.env) :: starEach es X.env := by rfl) (hpl : (backTo pos (starEach es X.env)).any (·.1) = false := by rfl) : PE X (.Call (.Name x p) (e :: es) [] pos) (tCB r t) := by
  intro pins s σ H Q I h
  refine wpAny_Call_Name_kw (ld_blt I hg hm hv ?_ hn hdb)
  exact PyProof.Rows.callWith_type1 (thn (ha pos pins s σ H _ I h) fun us s1 ⟨vs, H1, I1, r1, q1⟩ => hc pins s1 σ H1 vs us Q I1 r1 q1) he hpl
end
end L2
namespace HT
open PySem PyProof.Rows
section
open PySem.SeqAt
open PySem.AutoSeq1 (wpAny_loadPart')
open PySem.MeetsSeq PySem.MeetsSeq2 PySem.MeetsSeq3
end
section
variable {prog : Program} {w : World} {A : Around} {E : Value → Shared → Prop} {s : Shared}
theorem cat_tup {t b : Addr} {vs ws : List Value} {Q : Value → Shared → Prop} (ht : IsTup s.heap t vs.toArray) (hb : IsTup s.heap b ws.toArray) (hv : vs ≠ [])
    (h1 : ws = [] → Q (.ref t) s) (h2 : ws ≠ [] → Q (.ref s.heap.objs.size) { s with heap := s.heap.push { cls := .type "tuple", data := .seq (vs ++ ws).toArray } })
    (hsz : vs.length + ws.length ≤ sizeLine) : wpAny (model prog w) A (binaryOp .Add (.ref t) (.ref b)) Q E s := by
  obtain ⟨⟨cls, dd, data, sl⟩, ho, hc, n, hd⟩ := id ht
  obtain ⟨⟨cls2, dd2, data2, sl2⟩, ho2, hc2, n2, hd2⟩ := id hb
  simp only at hc hd hc2 hd2
  subst hc hd hc2 hd2
  have e : vs.toArray ++ ws.toArray = (vs ++ ws).toArray := by simp
  by_cases hw : ws = []
  · exact concat_meets ⟨_, ho, rfl⟩ ⟨_, ho2, rfl⟩ noFill_tuple_add seq_tuple_add PySem.F.slot_tuple_add PySem.F.entry_tuple_add (PySem.F.args_tuple_add_2 _ _)
      (tuple_addW1 t b vs.toArray ws.toArray n n2 dd dd2 sl sl2 (by simpa using hv) (by simp [hw])) ⟨ho, ho2, h1 hw⟩
  · refine concat_meets ⟨_, ho, rfl⟩ ⟨_, ho2, rfl⟩ noFill_tuple_add seq_tuple_add PySem.F.slot_tuple_add PySem.F.entry_tuple_add (PySem.F.args_tuple_add_2 _ _)
      (tuple_addW2 t b vs.toArray ws.toArray n n2 dd dd2 sl sl2 (by simpa using hv) (by simpa using hw) (by rw [List.size_toArray, List.size_toArray]; exact hsz)) ⟨ho, ho2, ?_⟩
    rw [e]
    exact h2 hw
def sIx (n d : Nat) : Option Int → Nat
  | none => d
  | some v => if v < 0 then (v + (n : Int)).toNat else min v.toNat n
end
end HT
namespace L2
open PySem PySem.Spec PyProof.Rows
abbrev TO := St → Hp → (Option Int → Hp → Prop) → Prop
def PO (X : Cx) (e : Option Expr) (t : TO) : Prop :=
  ∀ (pins : List (Addr × Obj)) (s : Shared) (σ : St) (H : Hp) (Q : Option Int → Hp → Prop), Inv X pins σ H s → t σ H Q →
    wpAny (model X.prog X.w) X.A (evalPart e X.env) (fun u s' => ∃ o H', Inv X pins σ H' s' ∧ IsPart u o ∧ Q o H') X.xe s
theorem intsAre_of {ns : List Int} : ∀ {us : List Value}, Vals (ns.map V.int) us → IntsAre us ns := by
  induction ns with
  | nil => intro us r; rw [List.map_nil] at r; cases r; exact .nil
  | cons n ns ih =>
    intro us r
    rw [List.map_cons] at r
    cases r with
    | cons r1 r2 =>
      obtain ⟨t, e⟩ := r1
      subst e
      exact .cons n t (ih r2)
section
variable {X : Cx} {e : Expr} {te : TE} {lo hi : Option Expr} {tl th : TO} {pos p2 : Pos}
def SlR (X : Cx) (r : V → Option Int → Option Int → Hp → VK → Prop) : Prop :=
  ∀ (pins : List (Addr × Obj)) (s : Shared) (σ : St) (H : Hp) (x : V) (v vl vu : Value) (lo hi : Option Int) (sl : Addr) (Q : VK), Inv X pins σ H s → RelV x v → s.heap.IsSliceOf sl vl vu .none → IsPart vl lo → IsPart vu hi → r x lo hi H Q →
    ∃ T id, typeLookup (.type T) "__getitem__" = pure (some (.builtin id)) ∧ s.TypeIs v T ∧ wpAny (model X.prog X.w) X.A (getItem v (.ref sl)) (EP X pins σ Q) X.xe s
theorem SlR.or {r r' : V → Option Int → Option Int → Hp → VK → Prop} (h : SlR X r) (h' : SlR X r') : SlR X (fun x lo hi H Q => r x lo hi H Q ∨ r' x lo hi H Q) := by
  intro pins s σ H x v vl vu lo hi sl Q I rx hs pl pu q
  rcases q with q | q
  · exact h pins s σ H x v vl vu lo hi sl Q I rx hs pl pu q
  · exact h' pins s σ H x v vl vu lo hi sl Q I rx hs pl pu q
def cutV (xs : List V) (lo hi : Option Int) : List V := (xs.drop (HT.sIx xs.length 0 lo)).take (HT.sIx xs.length xs.length hi - HT.sIx xs.length 0 lo)
theorem cutV_length (xs : List V) (lo hi : Option Int) : (cutV xs lo hi).length ≤ xs.length := by
  unfold cutV
  rw [List.length_take, List.length_drop]
  omega
def rCatT (K : PySem.W.Frag) : R2 := fun x y H Q => ∃ a b xs ys, x = .ref a ∧ y = .ref b ∧ SqT K H a xs ∧ SqT K H b ys ∧ xs ≠ [] ∧ xs.length + ys.length ≤ sizeLine ∧
  (ys = [] → Q (.ref a) H) ∧ (ys ≠ [] → ∀ p, H p = none → Q (.ref p) (upd H p (.tup (xs ++ ys))))
theorem Vals.nil_iff {xs : List V} {us : List Value} (r : Vals xs us) : us = [] ↔ xs = [] := by
  cases r with
  | nil => simp
  | cons _ _ => simp
theorem op_catT : OpR X (binaryOp .Add) (rCatT X.K) := by
  intro pins s σ H x y v u Q I rx ry h
  obtain ⟨a, b, xs, ys, rfl, rfl, ha, hb, hx, hz, q1, q2⟩ := h
  cases rx
  cases ry
  obtain ⟨its, r1, p1, _⟩ := I.tuple ha
  obtain ⟨its2, r2, p2, _⟩ := I.tuple hb
  refine HT.cat_tup p1 p2 (fun z => hx (r1.nil_iff.mp z)) (fun z => ⟨.ref a, H, I, rfl, q1 (r2.nil_iff.mp z)⟩) (fun z => ?_) (by rw [← r1.length, ← r2.length]; exact hz)
  refine ⟨.ref s.heap.objs.size, _, I.laid (t' := s.toks) (o := .tup (xs ++ ys)) (fun b ob q => Heap.get?_push_of_some _ q) (Nat.le_refl _) ?_, rfl, q2 (fun w => z (r2.nil_iff.mpr w)) _ (I.hok.fresh (Nat.le_refl _))⟩
  exact ⟨by rw [List.length_append]; exact hz, _, r1.append r2, IsTup.new _ _⟩
end
end L2
namespace L2
open PySem PySem.Spec PyProof.Rows
def ixN (n : Nat) (i : Int) : Option Nat := if 0 ≤ i then (if i < n then some i.toNat else none) else if -(n : Int) ≤ i then some (i + n).toNat else none
def atI {α : Type} (xs : List α) (i : Int) : Option α := (ixN xs.length i).bind fun j => xs[j]?
theorem ixN_seq {n : Nat} {i : Int} {j : Nat} (h : ixN n i = some j) : seqIndex? i n = some j ∧ j < n ∧ -(n : Int) ≤ i ∧ i < n := by
  unfold ixN at h
  by_cases h0 : 0 ≤ i
  · rw [if_pos h0] at h
    by_cases h1 : i < n
    · rw [if_pos h1] at h
      have e : i.toNat = j := Option.some.inj h
      exact ⟨by rw [seqIndex_of h0 h1, e], by omega, by omega, h1⟩
    · rw [if_neg h1] at h; cases h
  · rw [if_neg h0] at h
    by_cases h1 : -(n : Int) ≤ i
    · rw [if_pos h1] at h
      have e : (i + n).toNat = j := Option.some.inj h
      exact ⟨by rw [seqIndex_neg (by omega) h1, e], by omega, h1, by omega⟩
    · rw [if_neg h1] at h; cases h
theorem atI_get {α : Type} {xs : List α} {i : Int} {v : α} (h : atI xs i = some v) : ∃ j, seqIndex? i xs.length = some j ∧ xs[j]? = some v ∧ j < xs.length ∧ -(xs.length : Int) ≤ i ∧ i < xs.length := by
  unfold atI at h
  cases e : ixN xs.length i with
  | none => rw [e] at h; cases h
  | some j =>
    rw [e] at h
    obtain ⟨h1, h2, h3, h4⟩ := ixN_seq e
    exact ⟨j, h1, h, h2, h3, h4⟩
theorem atI_nat {α : Type} {xs : List α} {j : Nat} {v : α} (h : xs[j]? = some v) : atI xs (j : Int) = some v := by
  have hj : j < xs.length := (List.getElem?_eq_some_iff.mp h).1
  have e : ixN xs.length (j : Int) = some j := by
    unfold ixN
    rw [if_pos (by omega), if_pos (by omega)]; simp
  unfold atI; rw [e]; exact h
def PlainIx (b : Expr) : Prop := ∀ o i, subscripted b false o i = operate [o, i] (getItem o i)
def IxR (X : Cx) (r : R2) : Prop :=
  ∀ (value slice : Expr) (pins : List (Addr × Obj)) (s : Shared) (σ : St) (H : Hp) (x y : V) (v u : Value) (Q : VK), Inv X pins σ H s → RelV x v → RelV y u → r x y H Q →
    subscripted slice false v u = operate [v, u] (getItem v u) → wpAny (model X.prog X.w) X.A (subscriptTail value slice v u) (EP X pins σ Q) X.xe s
def MtR (X : Cx) (id : String) (r : V → List V → Hp → VK → Prop) : Prop :=
  ∀ (pins : List (Addr × Obj)) (s : Shared) (σ : St) (H : Hp) (x : V) (xs : List V) (v : Value) (us : List Value) (Q : VK), Inv X pins σ H s → RelV x v → Vals xs us → r x xs H Q →
    wpAny (model X.prog X.w) X.A (call (.builtin id) (v :: us)) (EP X pins σ Q) X.xe s
section
variable {X : Cx} {a b : Expr} {ta tb : TE} {pos : Pos}
theorem IxR.or {r r' : R2} (h : IxR X r) (h' : IxR X r') : IxR X (fun x y H Q => r x y H Q ∨ r' x y H Q) := by
  intro value slice pins s σ H x y v u Q I rx ry q hs
  rcases q with q | q
  · exact h value slice pins s σ H x y v u Q I rx ry q hs
  · exact h' value slice pins s σ H x y v u Q I rx ry q hs
theorem MtR.or {id : String} {r r' : V → List V → Hp → VK → Prop} (h : MtR X id r) (h' : MtR X id r') : MtR X id (fun x xs H Q => r x xs H Q ∨ r' x xs H Q) := by
  intro pins s σ H x xs v us Q I rx rs q
  rcases q with q | q
  · exact h pins s σ H x xs v us Q I rx rs q
  · exact h' pins s σ H x xs v us Q I rx rs q
theorem pe_ix {r : R2} (hr : IxR X r) (ha : PE X a ta) (hb : PE X b tb) (hs : PlainIx b) : PE X (.Subscript a b pos) (tOp r ta tb) := by
  intro pins s σ H Q I h
  exact Subscript_ (binT ha hb I h fun v u s2 x y H2 I2 rx ry q => hr a b pins s2 σ H2 x y v u Q I2 rx ry q (hs _ _))
def rIxL (K : PySem.W.Frag) : R2 := fun x y H Q => ∃ p xs i v, x = .ref p ∧ y = .int i ∧ SqL K H p xs ∧ atI xs i = some v ∧ Q v H
def rIxT (K : PySem.W.Frag) : R2 := fun x y H Q => ∃ p xs i v, x = .ref p ∧ y = .int i ∧ SqT K H p xs ∧ atI xs i = some v ∧ Q v H
theorem ix_list : IxR X (rIxL X.K) := by
  intro value slice pins s σ H x y v u Q I rx ry h hs
  obtain ⟨p, xs, i, z, rfl, rfl, hq, he, q⟩ := h
  cases rx
  obtain ⟨t, rfl⟩ := ry
  obtain ⟨its, r, pl, hz⟩ := I.list hq
  obtain ⟨j, h1, h2, h3, h4, h5⟩ := atI_get he
  obtain ⟨w, ew, rw'⟩ := r.get h2
  have hl := r.length
  have hn := line63
  have fin : EP X pins σ Q w s := ⟨z, H, I, rw', q⟩
  by_cases h0 : 0 ≤ i
  · have hj : i.toNat = j := by
      rw [seqIndex_of h0 h5] at h1
      exact Option.some.inj h1
    exact item_listR pl.isList h0 (by omega) (by rw [hj]; simpa using ew) fin hs
  · have hj : (i + (its.toArray.size : Int)).toNat = j := by
      rw [seqIndex_neg (by omega) h4] at h1
      rw [List.size_toArray, ← hl]
      exact Option.some.inj h1
    exact subscriptTail_builtinR (x := w) pl.isList.typeIs slot_list_getitem.lookup
      (wpAny_getItem_list_neg (Q := fun r s' => r = w ∧ EP X pins σ Q r s') pl.isList (by omega) (by rw [List.size_toArray] <;> omega) (by omega) (by rw [hj]; simpa using ew) ⟨rfl, fin⟩) hs
theorem ix_tup : IxR X (rIxT X.K) := by
  intro value slice pins s σ H x y v u Q I rx ry h hs
  obtain ⟨p, xs, i, z, rfl, rfl, hq, he, q⟩ := h
  cases rx
  obtain ⟨t, rfl⟩ := ry
  obtain ⟨its, r, pl, hz⟩ := I.tuple hq
  obtain ⟨j, h1, h2, h3, h4, h5⟩ := atI_get he
  obtain ⟨w, ew, rw'⟩ := r.get h2
  have hl := r.length
  have hn := line63
  have fin : EP X pins σ Q w s := ⟨z, H, I, rw', q⟩
  exact subscriptTail_builtinR (x := w) pl.typeIs slot_tuple_getitem.lookup
    (getItem_tuple (j := j) (Q := fun r s' => r = w ∧ EP X pins σ Q r s') pl (by omega) (by omega) (by rw [List.size_toArray, ← hl]; exact h1) (by simpa using ew) ⟨rfl, fin⟩) hs
theorem mapSeq_set (its : List Value) (n j : Nat) (u : Value) : Obj.mapSeq (·.setIfInBounds j u) { cls := .type "list", data := .seq its.toArray n } = { cls := .type "list", data := .seq (its.set j u).toArray n } := by
  simp [Obj.mapSeq]
theorem Inv.lst {pins : List (Addr × Obj)} {σ : St} {H : Hp} {s : Shared} {p : Addr} {xs : List V} (I : Inv X pins σ H s) (h : H p = some (.lst xs)) :
    ∃ (its : List Value) (n : Nat), Vals xs its ∧ s.heap.get? p = some { cls := .type "list", data := .seq its.toArray n } ∧ xs.length ≤ sizeLine := by
  obtain ⟨z, its, n, r, e⟩ := I.hok p _ h
  exact ⟨its, n, r, e, z⟩
theorem Inv.lstUpd {pins : List (Addr × Obj)} {σ : St} {H : Hp} {s : Shared} {p : Addr} {xs ys : List V} {its its' : List Value} {n n' : Nat} {f : Obj → Obj} (I : Inv X pins σ H s) (h : H p = some (.lst xs))
    (ho : s.heap.get? p = some { cls := .type "list", data := .seq its.toArray n }) (hf : f { cls := .type "list", data := .seq its.toArray n } = { cls := .type "list", data := .seq its'.toArray n' }) (r : Vals ys its') (hz : ys.length ≤ sizeLine) (t : Nat) :
    Inv X pins σ (upd H p (.lst ys)) { s with heap := s.heap.update p f, toks := t } := by
  have e : (s.heap.update p f).get? p = some { cls := .type "list", data := .seq its'.toArray n' } := by
    rw [Heap.get?_update_self f ho (by rw [hf] <;> rfl), hf]
  refine I.write (x := p) (e := p) (by rw [h]; trivial) (.inl rfl) (fun b u hb q => (Heap.get?_update_other _ _ (Ne.symm hb)).trans q) ⟨_, e⟩ ?_
  exact ⟨hz, its', n', r, e⟩
def rSetL : V → V → V → Hp → (Hp → Prop) → Prop := fun o i v H Q => ∃ p xs k j, o = .ref p ∧ i = .int k ∧ H p = some (.lst xs) ∧ ixN xs.length k = some j ∧ Q (upd H p (.lst (xs.set j v)))
theorem set_list : PSet X rSetL := by
  intro pins s σ H o i v ov iv u Q I ro ri rv h
  obtain ⟨p, xs, k, j, rfl, rfl, hp, hj, q⟩ := h
  cases ro
  obtain ⟨t, rfl⟩ := ri
  obtain ⟨its, n, r, ho, hz⟩ := I.lst hp
  obtain ⟨h1, h2, h3, h4⟩ := ixN_seq hj
  have hl := r.length
  have hn := line63
  have I' : Inv X pins σ (upd H p (.lst (xs.set j v))) { s with heap := s.heap.update p (Obj.mapSeq (·.setIfInBounds j u)) } :=
    I.lstUpd hp ho (mapSeq_set its n j u) (r.set rv j) (by rw [List.length_set]; exact hz) s.toks
  by_cases h0 : 0 ≤ k
  · have hk : k.toNat = j := by
      rw [seqIndex_of h0 h4] at h1
      exact Option.some.inj h1
    exact PySem.W.ki_setAt ho h0 (by omega) (by rw [List.size_toArray, ← hl]; exact h4) (by rw [hk]; exact ⟨_, I', q⟩)
  · have hk : (k + (its.toArray.size : Int)).toNat = j := by
      rw [seqIndex_neg (by omega) h3] at h1
      rw [List.size_toArray, ← hl]
      exact Option.some.inj h1
    exact PySem.W.ki_setBack ho (by omega) (by rw [List.size_toArray, ← hl]; exact h3) (by omega) (by rw [hk]; exact ⟨_, I', q⟩)
theorem slice_bounds (lo hi : Option Int) (n : Nat) : (sliceBounds lo hi none n).1 = ((HT.sIx n 0 lo : Nat) : Int) ∧ (sliceBounds lo hi none n).2.1 = ((HT.sIx n n hi : Nat) : Int) ∧ (sliceBounds lo hi none n).2.2 = 1 := by
  refine ⟨?_, ?_, rfl⟩
  · cases lo with
    | none => simp [sliceBounds, HT.sIx]
    | some i =>
      simp only [sliceBounds, HT.sIx, Option.getD_none, show (1 : Int) > 0 by decide, if_true]
      by_cases h : i < 0
      · simp only [h, if_true] <;> omega
      · simp only [h, if_false] <;> omega
  · cases hi with
    | none => simp [sliceBounds, HT.sIx]
    | some i =>
      simp only [sliceBounds, HT.sIx, Option.getD_none, show (1 : Int) > 0 by decide, if_true]
      by_cases h : i < 0
      · simp only [h, if_true] <;> omega
      · simp only [h, if_false] <;> omega
theorem slicePick_cut (its : List Value) (lo hi : Option Int) : slicePick its.toArray lo hi none = ((its.drop (HT.sIx its.length 0 lo)).take (HT.sIx its.length its.length hi - HT.sIx its.length 0 lo)).toArray := by
  obtain ⟨h1, h2, h3⟩ := slice_bounds lo hi its.toArray.size
  unfold slicePick
  rw [h1, h2, h3]
  simp only [sliceRange_one, pick_run, List.size_toArray] <;> rfl
def rSlL (K : PySem.W.Frag) : V → Option Int → Option Int → Hp → VK → Prop := fun x lo hi H Q => ∃ a xs, x = .ref a ∧ SqL K H a xs ∧ ∀ p, H p = none → Q (.ref p) (upd H p (.lst (cutV xs lo hi)))
theorem sl_list : SlR X (rSlL X.K) := by
  intro pins s σ H x v vl vu lo hi sl Q I rx hs pl pu h
  obtain ⟨a, xs, rfl, hx, q⟩ := h
  cases rx
  obtain ⟨its, r, ht, hz⟩ := I.list hx
  have hlen := r.length
  refine ⟨"list", _, slot_list_getitem.lookup, ht.isList.typeIs, ?_⟩
  refine wpAny_getItem_list_slice ht.isList hs pl pu .none (by simp) ?_ (by rw [List.size_toArray] <;> omega)
  rw [slicePick_cut, ← hlen]
  refine ⟨.ref s.heap.objs.size, _, I.laid (t' := s.toks) (o := .lst (cutV xs lo hi)) (fun b ob q => Heap.get?_push_of_some _ q) (Nat.le_refl _) ?_, rfl, q _ (I.hok.fresh (Nat.le_refl _))⟩
  exact ⟨Nat.le_trans (cutV_length xs lo hi) hz, _, 0, (r.drop (HT.sIx xs.length 0 lo)).take (HT.sIx xs.length xs.length hi - HT.sIx xs.length 0 lo), Heap.get?_push_size _ rfl⟩
def flatV : V → Bool
  | .non => true
  | .bl _ => true
  | .int _ => true
  | .str _ => true
  | _ => false
def eqV : V → V → Bool
  | .non, .non => true
  | .bl a, .bl b => a == b
  | .bl a, .int b => (if a then 1 else 0) == b
  | .int a, .bl b => a == (if b then 1 else 0)
  | .int a, .int b => a == b
  | .str a, .str b => a == b
  | _, _ => false
theorem eqAt_V {A : Around} {s : Shared} {y x : V} {u v : Value} (ry : RelV y u) (rx : RelV x v) (fy : flatV y = true) (fx : flatV x = true) : SeqAt.EqAt A s u v (eqV y x) := by
  cases y with
  | non =>
    cases ry
    cases x with
    | non => cases rx; exact SeqAt.EqAt.same _
    | bl b => cases rx; exact SeqAt.EqAt.none_bool b
    | int b => obtain ⟨t, rfl⟩ := rx; exact SeqAt.EqAt.none_int b t
    | str b => obtain ⟨t, rfl⟩ := rx; exact SeqAt.EqAt.none_str b t
    | _ => exact absurd (show false = true from fx) Bool.false_ne_true
  | bl a =>
    cases ry
    cases x with
    | non => cases rx; exact SeqAt.EqAt.bool_none a
    | bl b => cases rx; exact SeqAt.EqAt.bool_bool a b
    | int b => obtain ⟨t, rfl⟩ := rx; exact SeqAt.EqAt.bool_int a b t
    | str b => obtain ⟨t, rfl⟩ := rx; exact SeqAt.EqAt.bool_str a b t
    | _ => exact absurd (show false = true from fx) Bool.false_ne_true
  | int a =>
    obtain ⟨t', rfl⟩ := ry
    cases x with
    | non => cases rx; exact SeqAt.EqAt.int_none a t'
    | bl b => cases rx; exact SeqAt.EqAt.int_bool a t' b
    | int b => obtain ⟨t, rfl⟩ := rx; exact SeqAt.EqAt.int_int a t' b t
    | str b => obtain ⟨t, rfl⟩ := rx; exact SeqAt.EqAt.int_str a t' b t
    | _ => exact absurd (show false = true from fx) Bool.false_ne_true
  | str a =>
    obtain ⟨t', rfl⟩ := ry
    cases x with
    | non => cases rx; exact SeqAt.EqAt.str_none a t'
    | bl b => cases rx; exact SeqAt.EqAt.str_bool a t' b
    | int b => obtain ⟨t, rfl⟩ := rx; exact SeqAt.EqAt.str_int a t' b t
    | str b => obtain ⟨t, rfl⟩ := rx; exact SeqAt.EqAt.str_str a t' b t
    | _ => exact absurd (show false = true from fx) Bool.false_ne_true
  | _ => exact absurd (show false = true from fy) Bool.false_ne_true
def eqU (x : V) (u : Value) : Bool := match u with
  | .none => eqV .non x
  | .bool b => eqV (.bl b) x
  | .int i _ => eqV (.int i) x
  | .str z _ => eqV (.str z) x
  | _ => false
theorem eqU_of {x y : V} {u : Value} (r : RelV y u) (f : flatV y = true) : eqU x u = eqV y x := by
  cases y with
  | non => cases r; rfl
  | bl b => cases r; rfl
  | int i => obtain ⟨t, rfl⟩ := r; rfl
  | str z => obtain ⟨t, rfl⟩ := r; rfl
  | _ => exact absurd (show false = true from f) Bool.false_ne_true
theorem any_eqU {x : V} : ∀ {xs : List V} {us : List Value}, Vals xs us → xs.all flatV = true → us.any (eqU x) = xs.any fun y => eqV y x
  | _, _, .nil, _ => rfl
  | y :: xs, u :: us, .cons r t, f => by
    rw [List.all_cons, Bool.and_eq_true] at f
    rw [List.any_cons, List.any_cons, eqU_of r f.1, any_eqU t f.2]
theorem mem_eqAt {A : Around} {s : Shared} {x : V} {v : Value} (rx : RelV x v) (fx : flatV x = true) : ∀ {xs : List V} {us : List Value}, Vals xs us → xs.all flatV = true → ∀ u ∈ us, SeqAt.EqAt A s u v (eqU x u)
  | _, _, .nil, _ => fun u hu => by cases hu
  | y :: xs, u :: us, .cons r t, f => fun u' hu => by
    rw [List.all_cons, Bool.and_eq_true] at f
    rcases List.mem_cons.mp hu with rfl | hu
    · rw [eqU_of r f.1]; exact eqAt_V r rx f.1 fx
    · exact mem_eqAt rx fx t f.2 u' hu
def inV (x : V) (xs : List V) : Bool := xs.any fun y => eqV y x
def rIn (K : PySem.W.Frag) (neg : Bool) : R2 := fun x y H Q => ∃ p xs, y = .ref p ∧ (SqL K H p xs ∨ SqT K H p xs) ∧ flatV x = true ∧ xs.all flatV = true ∧ Q (.bl (if neg then !inV x xs else inV x xs)) H
theorem op_notIn_seq : OpR X (compareOp .NotIn) (rIn X.K true) := by
  intro pins s σ H x y v u Q I rx ry h
  obtain ⟨p, xs, rfl, hq, fx, fs, q⟩ := h
  cases ry
  rcases hq with hq | hq
  · obtain ⟨its, r, pl, hz⟩ := I.list hq
    refine SeqAt.notIn_listAt (eqU x) pl.isList (fun w hw => mem_eqAt rx fx r fs w (by simpa using hw)) ⟨.bl _, H, I, rfl, ?_⟩
    rw [show its.toArray.any (eqU x) = its.any (eqU x) by simp, any_eqU r fs]
    exact q
  · obtain ⟨its, r, pl, hz⟩ := I.tuple hq
    refine SeqAt.notIn_tupleAt (eqU x) pl (fun w hw => mem_eqAt rx fx r fs w (by simpa using hw)) ⟨.bl _, H, I, rfl, ?_⟩
    rw [show its.toArray.any (eqU x) = its.any (eqU x) by simp, any_eqU r fs]
    exact q
theorem call_len_seq : CallR X (.builtin "len") (fun xs H Q => ∃ p ys, xs = [.ref p] ∧ (SqL X.K H p ys ∨ SqT X.K H p ys) ∧ Q (.int ys.length) H) := by
  intro pins s σ H xs us Q I r h
  obtain ⟨p, ys, rfl, hq, q⟩ := h
  obtain ⟨u, rfl, rx⟩ := vals1 r
  cases rx
  have hn := line63
  rcases hq with hq | hq
  · obtain ⟨its, r', pl, hz⟩ := I.list hq
    have hlen := r'.length
    exact Calls.call_len_list pl.isList (by simp only [List.size_toArray] <;> omega) ⟨.int ys.length, H, I.tok _, ⟨s.toks + 1, by rw [List.size_toArray, hlen]⟩, q⟩
  · obtain ⟨its, r', pl, hz⟩ := I.tuple hq
    have hlen := r'.length
    exact len_tuple pl (by simp only [List.size_toArray] <;> omega) ⟨.int ys.length, H, I.tok _, ⟨s.toks + 1, by rw [List.size_toArray, hlen]⟩, q⟩
theorem CallR.or {f : Value} {r r' : List V → Hp → VK → Prop} (h : CallR X f r) (h' : CallR X f r') : CallR X f (fun xs H Q => r xs H Q ∨ r' xs H Q) := by
  intro pins s σ H xs us Q I rs q
  rcases q with q | q
  · exact h pins s σ H xs us Q I rs q
  · exact h' pins s σ H xs us Q I rs q
theorem call_list_of : CallR X (.type "list") (fun xs H Q => ∃ p ys, xs = [.ref p] ∧ (SqL X.K H p ys ∨ SqT X.K H p ys) ∧ ∀ l, H l = none → Q (.ref l) (upd H l (.lst ys))) := by
  intro pins s σ H xs us Q I r h
  obtain ⟨p, ys, rfl, hq, q⟩ := h
  obtain ⟨u, rfl, rx⟩ := vals1 r
  cases rx
  have fin : ∀ (its : List Value), Vals ys its → ys.length ≤ sizeLine → ∀ (h' : Heap) (c' : Nat), (∀ b o', s.heap.get? b = some o' → h'.get? b = some o') →
      h'.get? s.heap.objs.size = some { cls := .type "list", dict := none, data := .seq its.toArray c', slots := #[] } → EP X pins σ Q (.ref s.heap.objs.size) { s with heap := h' } := fun its r' hz h' c' kp e =>
    ⟨.ref s.heap.objs.size, _, I.laid (t' := s.toks) kp (Nat.le_refl _) (show ObjOk X.prog X.w _ h' _ (.lst ys) from ⟨hz, its, c', r', e⟩), rfl, q _ (I.hok.fresh (Nat.le_refl _))⟩
  rcases hq with hq | hq
  · obtain ⟨its, r', pl, hz⟩ := I.list hq
    have hlen := r'.length
    obtain ⟨o, ho, hc, n, hd⟩ := pl.isList
    exact call_list_seq p (.inl rfl) ho hc hd (fun h' c' kp e => fin its r' hz h' c' kp e) (by simp only [List.size_toArray] <;> omega)
  · obtain ⟨its, r', pl, hz⟩ := I.tuple hq
    have hlen := r'.length
    obtain ⟨o, ho, hc, n, hd⟩ := pl
    exact call_list_seq p (.inr rfl) ho hc hd (fun h' c' kp e => fin its r' hz h' c' kp e) (by simp only [List.size_toArray] <;> omega)
theorem call_tuple_of : CallR X (.type "tuple") (fun xs H Q => ∃ p ys, xs = [.ref p] ∧ ((SqL X.K H p ys ∧ ∀ l, H l = none → Q (.ref l) (upd H l (.tup ys))) ∨ (SqT X.K H p ys ∧ Q (.ref p) H))) := by
  intro pins s σ H xs us Q I r h
  obtain ⟨p, ys, rfl, h⟩ := h
  obtain ⟨u, rfl, rx⟩ := vals1 r
  cases rx
  rcases h with ⟨hq, q⟩ | ⟨hq, q⟩
  · obtain ⟨its, r', pl, hz⟩ := I.list hq
    have hlen := r'.length
    refine call_tuple_list pl.isList (fun h' kp => ?_) (by simp only [List.size_toArray] <;> omega)
    have I1 : Inv X pins σ H { s with heap := h' } := I.kept (t' := s.toks) kp
    have I2 : Inv X pins σ (upd H h'.objs.size (.tup ys)) { s with heap := h'.push { cls := .type "tuple", data := .seq its.toArray } } :=
      I1.laid (t' := s.toks) (fun b o e => Heap.get?_push_of_some _ e) (Nat.le_refl _) (show ObjOk X.prog X.w _ _ _ (.tup ys) from ⟨hz, its, r', IsTup.new _ _⟩)
    exact ⟨.ref h'.objs.size, _, I2, rfl, q _ (I1.hok.fresh (Nat.le_refl _))⟩
  · obtain ⟨its, r', pl, hz⟩ := I.tuple hq
    exact call_tuple_same pl ⟨.ref p, H, I, rfl, q⟩
def tyV (K : PySem.W.Frag) (T : String) (x : V) (H : Hp) : Prop := match x with
  | .str _ => T = "str"
  | .int _ => T = "int"
  | .ref p => (T = "list" ∧ ∃ xs, SqL K H p xs) ∨ (T = "tuple" ∧ ∃ o, K.lookup p = some o ∧ o.cls = .type "tuple" ∧ o.dict = none) ∨
      (T = "dict" ∧ ((∃ kvs, H p = some (.dK kvs)) ∨ ∃ kvs, H p = some (.dT kvs))) ∨ (T = "set" ∧ ∃ S n, H p = some (.set S n))
  | _ => False
theorem tyV_is {pins : List (Addr × Obj)} {σ : St} {H : Hp} {s : Shared} {T : String} {x : V} {v : Value} (I : Inv X pins σ H s) (r : RelV x v) (ty : tyV X.K T x H) :
    s.TypeIs v T ∧ ∀ a, v = .ref a → ∃ ob, s.heap.get? a = some ob ∧ ob.dict = none := by
  cases x with
  | str z =>
    obtain ⟨t, rfl⟩ := r
    cases (show T = "str" from ty)
    exact ⟨typeIs_str s z t, fun _ e => nomatch e⟩
  | int i =>
    obtain ⟨t, rfl⟩ := r
    cases (show T = "int" from ty)
    exact ⟨typeIs_int s i t, fun _ e => nomatch e⟩
  | ref p =>
    cases r
    rcases ty with ⟨rfl, xs, hq⟩ | ⟨rfl, o, hk, hc, hd⟩ | ⟨rfl, hk⟩ | ⟨rfl, S, n, hk⟩
    · obtain ⟨its, _, pl, _⟩ := I.list hq
      refine ⟨pl.isList.typeIs, fun a e => ?_⟩
      cases e
      obtain ⟨o, n, e, c, hd, _⟩ := pl
      exact ⟨o, e, hd⟩
    · refine ⟨⟨o, I.kIn p o hk, hc⟩, fun a e => ?_⟩
      cases e
      exact ⟨o, I.kIn _ o hk, hd⟩
    · have z : ∃ o, s.heap.get? p = some o ∧ o.ExactDict := by
        rcases hk with ⟨kvs, hk⟩ | ⟨kvs, hk⟩
        · obtain ⟨_, _, _, _, o, _, _, e, ex, _⟩ := I.hok p _ hk
          exact ⟨o, e, ex⟩
        · obtain ⟨_, _, _, _, o, _, _, e, ex, _⟩ := I.hok p _ hk
          exact ⟨o, e, ex⟩
      obtain ⟨o, e, ex⟩ := z
      refine ⟨⟨o, e, ex.1⟩, fun a e2 => ?_⟩
      cases e2
      exact ⟨o, e, ex.2.1⟩
    · obtain ⟨o, _, _, _, e, ex, _⟩ := I.hok p _ hk
      refine ⟨⟨o, e, ex.1⟩, fun a e2 => ?_⟩
      cases e2
      exact ⟨o, e, ex.2.1⟩
  | _ => exact False.elim ty
def tBM (K : PySem.W.Frag) (T : String) (r : V → List V → Hp → VK → Prop) (to : TE) (t : TA) : TE := fun σ H Q => to σ H fun x H1 => tyV K T x H1 ∧ t σ H1 fun xs H2 => r x xs H2 Q
variable {o e : Expr} {es : List Expr} {to : TE} {t : TA} {name : Str} {apos cpos : Pos} {T id : String} {r : V → List V → Hp → VK → Prop}
theorem pe_bm (pa : PlainAttrs T) (slot : Slot T name id) (hty : typeOf (.builtin id) = pure (.type "method_descriptor")) (hm : MtR X id r) (ho : PE X o to) (ha : PA X (e :: es) t)
    (hbase : attributeBase o name X.env (eval o X.env) = eval o X.env := by rfl)
    (hfew : ((backTo cpos (starEach (e :: es) X.env)).all (fun x => !x.1) && (backToKw cpos (keywordEach [] X.env)).all (fun x => x.1.isSome)
      && decide ((e :: es).length + ([] : List Keyword).length + (if ([] : List Keyword).isEmpty then 0 else 1) < 30)) = true := by rfl)
    (hline : (apos.endLine == cpos.line) = true := by rfl) (hs : starEach (e :: es) X.env = (false, eval e X.env) :: starEach es X.env := by rfl) (hplain : (backTo cpos (starEach es X.env)).any (·.1) = false := by rfl) :
    PE X (.Call (.Attribute o name apos) (e :: es) [] cpos) (tBM X.K T r to t) := by
  intro pins s σ H Q I h
  refine wpAny_Call_method_late hbase hfew hline rfl (thn (ho pins s σ H _ I h) fun v s1 ⟨x, H1, I1, r1, ty, q1⟩ => ?_)
  obtain ⟨h1, h2⟩ := tyV_is I1 r1 ty
  refine ⟨T, id, pa, slot, hty, h1, h2, ?_⟩
  have hA := ha cpos pins s1 σ H1 _ I1 q1
  rw [hs] at hA ⊢
  refine Calls.callWith_builtin (by show (false || (backTo cpos (starEach es X.env)).any (·.1)) = false; rw [hplain] <;> rfl) (Calls.evalArgs_plain ?_)
  exact thn hA fun us s2 ⟨vs, H2, I2, r2, q2⟩ => hm pins s2 σ H2 x vs v us Q I2 r1 r2 q2
end
end L2
namespace L2
open PySem PySem.Spec PyProof.Rows
def MtM (X : Cx) (id : String) (r : V → List V → Hp → VK → Prop) : Prop :=
  ∀ (pins : List (Addr × Obj)) (s : Shared) (σ : St) (H : Hp) (x : V) (xs : List V) (v : Value) (us : List Value) (Q : VK), Inv X pins σ H s → RelV x v → Vals xs us → r x xs H Q →
    wpAny (model X.prog X.w) X.A (call (.builtin id) (v :: us)) (EP X pins σ Q) X.xe s
theorem Vals.one : ∀ {x : V} {us : List Value}, Vals [x] us → ∃ u, us = [u] ∧ RelV x u
  | _, _, .cons r .nil => ⟨_, rfl, r⟩
theorem Vals.zero : ∀ {us : List Value}, Vals [] us → us = []
  | _, .nil => rfl
theorem Vals.dropLast {xs : List V} {us : List Value} (h : Vals xs us) : Vals xs.dropLast us.dropLast := by
  induction h with
  | nil => exact .nil
  | cons r t ih =>
    cases t with
    | nil => exact .nil
    | cons q t' => exact .cons r ih
theorem Vals.rep {xs : List V} {us : List Value} (h : Vals xs us) : ∀ k : Nat, Vals (List.replicate k xs).flatten (List.replicate k us).flatten
  | 0 => .nil
  | k + 1 => by
    rw [List.replicate_succ, List.replicate_succ, List.flatten_cons, List.flatten_cons]
    exact Vals.append h (Vals.rep h k)
theorem foldl_rep (its : List Value) : ∀ (k : Nat) (acc : List Value),
    List.foldl (fun x1 x2 => x1 ++ x2) acc.toArray (List.replicate k its.toArray) = (acc ++ (List.replicate k its).flatten).toArray
  | 0, acc => by simp
  | k + 1, acc => by
    have e : acc.toArray ++ its.toArray = (acc ++ its).toArray := by simp
    have e2 : (acc ++ its) ++ (List.replicate k its).flatten = acc ++ (List.replicate (k + 1) its).flatten := by
      rw [List.replicate_succ, List.flatten_cons, List.append_assoc]
    rw [← e2, ← foldl_rep its k (acc ++ its), ← e, List.replicate_succ, List.foldl_cons]
section
variable {X : Cx} {pins : List (Addr × Obj)} {σ : St} {H : Hp} {s : Shared} {l b : Addr} {xs ys zs : List V}
theorem Inv.lset {its its' : List Value} {n : Nat} {f : Array Value → Array Value} {t' : Nat} (I : Inv X pins σ H s) (hH : H l = some (.lst xs))
    (e : s.heap.get? l = some { cls := .type "list", data := .seq its.toArray n }) (hf : f its.toArray = its'.toArray) (hv : Vals ys its') (hz : ys.length ≤ sizeLine) :
    Inv X pins σ (upd H l (.lst ys)) { s with heap := s.heap.update l (Obj.mapSeq f), toks := t' } := by
  have q := PySem.IsL.update e f
  rw [hf] at q
  refine I.write (x := l) (e := l) (by rw [hH]; exact trivial) (.inl rfl) (fun b' u hb hu => (Heap.get?_update_other s.heap (Obj.mapSeq f) (Ne.symm hb)).trans hu) ⟨_, q⟩ ?_
  exact ⟨hz, its', _, hv, q⟩
theorem Inv.lnew {its : List Value} {t' : Nat} (I : Inv X pins σ H s) (hv : Vals ys its) (hz : ys.length ≤ sizeLine) :
    Inv X pins σ (upd H s.heap.objs.size (.lst ys)) { s with heap := s.heap.push { cls := .type "list", data := .seq its.toArray }, toks := t' } :=
  I.laid (fun _ _ q => Heap.get?_push_of_some _ q) (Nat.le_refl _) ⟨hz, its, 0, hv, Heap.get?_push_size _ rfl⟩
theorem Inv.fresh (I : Inv X pins σ H s) : H s.heap.objs.size = none := I.hok.fresh (Nat.le_refl _)
theorem Inv.lstM (I : Inv X pins σ H s) (hH : H l = some (.lst xs)) : xs.length ≤ sizeLine ∧ ∃ (its : List Value) (n : Nat), Vals xs its ∧ xs.length = its.length ∧ s.heap.get? l = some { cls := .type "list", data := .seq its.toArray n } := by
  obtain ⟨z, its, n, r, e⟩ := I.hok l _ hH
  exact ⟨z, its, n, r, r.length, e⟩
theorem notLongL {n : Nat} (h : n ≤ sizeLine) : Builtin.List.listTooLong n = false := by
  unfold Builtin.List.listTooLong
  exact decide_eq_false (by omega)
end
section
variable {X : Cx}
def rAppend : V → List V → Hp → VK → Prop := fun x vs H Q => ∃ l xs y, x = .ref l ∧ vs = [y] ∧ H l = some (.lst xs) ∧ xs.length < sizeLine ∧ Q .non (upd H l (.lst (xs ++ [y])))
theorem mt_append : MtM X "list.append" rAppend := by
  intro pins s σ H x vs v us Q I rx rv h
  obtain ⟨l, xs, y, rfl, rfl, hH, hz, q⟩ := h
  cases rx
  obtain ⟨u, rfl, ru⟩ := rv.one
  obtain ⟨z, its, n, r, hl, e⟩ := I.lstM hH
  refine call_meets F.slot_list_append ⟨_, e, rfl⟩ F.entry_list_append (F.args_list_append_2 _ _) (PySem.list_append l its.toArray n u (by rw [List.size_toArray]; omega)) ⟨e, ?_⟩
  refine ⟨.non, _, I.lset (its' := its ++ [u]) hH e (by simp) (r.append (.cons ru .nil)) ?_, rfl, q⟩
  rw [List.length_append, List.length_singleton]
  omega
def rExtend : V → List V → Hp → VK → Prop := fun x vs H Q => ∃ l b xs zs, x = .ref l ∧ vs = [.ref b] ∧ H l = some (.lst xs) ∧ H b = some (.lst zs) ∧ xs.length + zs.length ≤ sizeLine ∧ Q .non (upd H l (.lst (xs ++ zs)))
theorem mt_extend : MtM X "list.extend" rExtend := by
  intro pins s σ H x vs v us Q I rx rv h
  obtain ⟨l, b, xs, zs, rfl, rfl, hH, hB, hz, q⟩ := h
  cases rx
  obtain ⟨u, rfl, ru⟩ := rv.one
  cases ru
  obtain ⟨z, its, n, r, hl, e⟩ := I.lstM hH
  obtain ⟨z2, its2, n2, r2, hl2, e2⟩ := I.lstM hB
  have hsz : its.toArray.size + its2.toArray.size ≤ sizeLine := by rw [List.size_toArray, List.size_toArray]; omega
  have hlong : ¬ (!its.toArray.isEmpty && Builtin.List.listTooLong (its.toArray.size + its2.toArray.size)) = true := by
    rw [notLongL hsz, Bool.and_false]
    exact Bool.false_ne_true
  refine call_meets F.slot_list_extend ⟨_, e, rfl⟩ F.entry_list_extend (F.args_list_extend_2 _ _)
    (AutoSeq1.list_extend_list_list_0 l its.toArray n b its2.toArray n2 hlong (by rw [List.size_toArray]; omega) (by omega)) ⟨e, e2, ?_⟩
  refine ⟨.non, _, I.lset (its' := its ++ its2) hH e (by simp) (r.append r2) ?_, rfl, q⟩
  rw [List.length_append]
  omega
def rCat : R2 := fun x y H Q => ∃ l b xs zs, x = .ref l ∧ y = .ref b ∧ H l = some (.lst xs) ∧ H b = some (.lst zs) ∧ xs.length + zs.length ≤ sizeLine ∧ ∀ p, H p = none → Q (.ref p) (upd H p (.lst (xs ++ zs)))
theorem op_cat : OpR X (binaryOp .Add) rCat := by
  intro pins s σ H x y v u Q I rx ry h
  obtain ⟨l, b, xs, zs, rfl, rfl, hH, hB, hz, q⟩ := h
  cases rx
  cases ry
  obtain ⟨z, its, n, r, hl, e⟩ := I.lstM hH
  obtain ⟨z2, its2, n2, r2, hl2, e2⟩ := I.lstM hB
  refine PySem.P.add_list e e2 ?_ (by rw [List.size_toArray, List.size_toArray]; omega)
  have ea : its.toArray ++ its2.toArray = (its ++ its2).toArray := by simp
  rw [ea]
  exact ⟨.ref _, _, I.lnew (t' := s.toks) (r.append r2) (by rw [List.length_append]; omega), rfl, q _ I.fresh⟩
def rRep : R2 := fun x y H Q => ∃ l k xs, x = .ref l ∧ y = .int k ∧ H l = some (.lst xs) ∧ -(2 ^ 63) ≤ k ∧ k < 2 ^ 63 ∧ xs.length * k.toNat ≤ sizeLine ∧
  ∀ p, H p = none → Q (.ref p) (upd H p (.lst (List.replicate k.toNat xs).flatten))
theorem len_rep {α : Type} (xs : List α) (k : Nat) : (List.replicate k xs).flatten.length = k * xs.length := by
  induction k with
  | zero => simp
  | succ k ih => rw [List.replicate_succ, List.flatten_cons, List.length_append, ih, Nat.succ_mul, Nat.add_comm]
theorem op_rep : OpR X (binaryOp .Mult) rRep := by
  intro pins s σ H x y v u Q I rx ry h
  obtain ⟨l, k, xs, rfl, rfl, hH, h1, h2, hz, q⟩ := h
  cases rx
  obtain ⟨t, rfl⟩ := ry
  obtain ⟨z, its, n, r, hl, e⟩ := I.lstM hH
  have hlen : its.toArray.size * k.toNat ≤ sizeLine := by rw [List.size_toArray, ← hl]; exact hz
  have hcap : ¬ its.toArray.size * k.toNat > (2 ^ 63 - 1) / 8 := by
    have : (sizeLine : Nat) ≤ (2 ^ 63 - 1) / 8 := by decide
    omega
  have hfit : ¬ (!Builtin.List.listFitsIndex k) = true := by
    rw [fitsIndex_both h1 h2]
    exact Bool.false_ne_true
  have hlong : ¬ Builtin.List.listTooLong (its.toArray.size * k.toNat) = true := by
    rw [notLongL hlen]
    exact Bool.false_ne_true
  have hnew : List.foldl (fun x1 x2 => x1 ++ x2) #[] (List.replicate (if its.toArray.isEmpty = true then 0 else k.toNat) its.toArray) = (List.replicate k.toNat its).flatten.toArray := by
    have f0 : ∀ m : Nat, List.foldl (fun x1 x2 => x1 ++ x2) #[] (List.replicate m its.toArray) = (List.replicate m its).flatten.toArray := fun m => by
      have := foldl_rep its m []
      rw [List.nil_append] at this
      exact this
    rw [f0]
    cases its with
    | nil => simp
    | cons a r' => rw [if_neg (by simp)]
  refine wpAny_binaryOp_repeat_ref (T := "list") (U := "int") (by decide) ⟨_, e, rfl⟩ (fun s' => typeIs_int s' k t) noFill_list_mul F.fills_int_mul F.slot_int_rmul repeat_list F.slot_int_index.lookup
    (call_meets F.slot_int_rmul (typeIs_int s k t) F.entry_int_rmul (F.args_int_rmul_2 _ _) (int___rmul___int_list k t l its.toArray n)
      ⟨e, rfl, ⟨_, e, rfl⟩, call_meets F.slot_list_mul ⟨_, e, rfl⟩ F.entry_list_mul (F.args_list_mul_2 _ _) (AutoListH.list___mul___list_int_3 l its.toArray n k t hfit hcap hlong) ⟨e, ?_⟩⟩)
  rw [hnew]
  exact ⟨.ref _, _, I.lnew (t' := s.toks) (r.rep k.toNat) (by rw [len_rep, Nat.mul_comm]; exact hz), rfl, q _ I.fresh⟩
end
section
variable {prog : Program} {w : World} {A : Around} {E : Value → Shared → Prop} {s : Shared}
end
section
variable {X : Cx}
end
end L2
namespace Att
open PySem PySem.W PySem.Calls PyProof.Rows
theorem ints_of_wellAll {P : Params} {h : Heap} : ∀ (ns : List Int) (vs : List Value), WellAll P h vs (ns.map WData.int) → IntsAre vs ns := by
  intro ns
  induction ns with
  | nil =>
    intro vs w
    rw [List.map_nil] at w
    cases w
    exact .nil
  | cons n ns ih =>
    intro vs w
    rw [List.map_cons] at w
    cases w with
    | cons a b =>
      cases a
      exact .cons _ _ (ih _ b)
theorem script_of {l : OpenLaw} {n : Nat} (hn : l.most = some n) {P : Params} {h : Heap} {args : List WData} {vals : List Value}
    (hpre : l.row.toRowW.claim.pre args = true) (hwl : WellAll P h vals args) :
    ∃ a vs ns, vals = [Value.ref a] ∧ args = [WData.list (ns.map WData.int)] ∧ h.get? a = some { cls := .type "list", data := .seq vs.toArray } ∧ IntsAre vs ns ∧ ns.length ≤ n := by
  have hsh : WShape.hasAll [] args [.list .int] = true := (pre_splitW hpre).1
  have hc : l.pre.holds [] { args := args } = true := (pre_splitW hpre).2
  obtain ⟨d, r, rfl, h1, h2⟩ := hasAllW_cons hsh
  obtain rfl := hasAllW_nil h2
  obtain ⟨xs, rfl, h3⟩ := hasW_list h1
  obtain ⟨ns, rfl⟩ := items_int h3
  have hlen : ns.length ≤ n := by
    unfold OpenLaw.pre at hc
    have h4 : (WTm.not (.lt (.lit (.int (n : Int))) (.len (.arg 0)))).holds [] { args := [.list (ns.map .int)] } = true := by
      have h4 := (holds_andW hc).1
      rw [hn] at h4
      exact h4
    have h5 := condW_of h4 (w_not (w_lt w_lit (w_len_list (w_arg rfl))))
    rw [List.length_map] at h5
    refine Nat.le_of_not_lt fun q => ?_
    have q' : (n : Int) < ((ns.length : Nat) : Int) := by omega
    first
      | (rw [decide_eq_true q'] at h5; exact absurd h5 (by decide))
      | (simp at h5; omega)
  cases hwl with
  | cons w1 w2 =>
    cases w2
    cases w1 with
    | list ho hall => exact ⟨_, _, ns, rfl, rfl, ho, ints_of_wellAll ns _ hall, hlen⟩
theorem post_true (l : OpenLaw) (args : List WData) : l.row.toRowW.claim.post args (.bool true) args = true :=
  postW_of (r := l.row.toRowW) (X := (true == true))
    (show WShape.has [] (.bool true) .bool = true by first | rfl | decide | simp [WShape.has, WShape.arms, WShape.armsAll])
    (show (WTm.eq .res (.lit (.bool true))).value [] { args := args, res := some (.bool true), after := args } = some (.bool (true == true)) from w_eq_bool (w_res rfl) w_lit) rfl
theorem attach_call {l : OpenLaw} {n : Nat} {q : Program} {loose : List Str} {XP : (Str → Option Value) → Heap → Prop} {YP : World → Heap → Prop} {d : DefRec}
    (hn : l.most = some n) (hdf : d.params.defaults = [])
    (call : ∀ (w : World) (s₀ s₁ : Shared) (mg mb : Str → Option Value) (fa : Addr) (o : Obj) (pm cd doc : Value) (a : Addr) (vs : List Value) (ns : List Int),
      Ground q loose [] XP w s₀ mg mb s₁.heap → YP w s₁.heap →
      s₁.heap.get? fa = some o → o.data = .func (docDef d.name d.params d.body d.scope pm cd doc) → s₁.heap.CodeRec cd d.name → mg d.name = some (.ref fa) →
      s₁.heap.get? a = some { cls := .type "list", data := .seq vs.toArray } → IntsAre vs ns → ns.length ≤ n → s₁.gens = #[] →
      codeAny (model l.prog w) callerA (.call (.ref fa) ⟨[.ref a], []⟩) (fun r s' => r = .ok (.ret (.bool true)) ∧ OldK s₁.heap s'.heap ∧ s'.os = s₁.os ∧ AllBare s'.gens) s₁) :
    WalkO q loose XP YP l.row.toRowW d [] (fun f vs => PySem.call f vs) := by
  intro w s₀ s₁ mg mb G Y fa o pm cd doc dV kV ho hd hcd hD hmg hg args vals as hpre hlay hrd hwl hlo
  obtain rfl : dV = .none := Dflts.none hD hdf
  obtain rfl : kV = .none := Dflts.noKw hD
  obtain ⟨a, vs, ns, rfl, rfl, hobj, hints, hlen⟩ := script_of hn hpre hwl
  refine enter_call (codeAny_mono (call w s₀ s₁ mg mb fa o pm cd doc a vs ns G Y ho (fd_plain hd) hcd hmg hobj hints hlen hg) fun r s' hq => ?_)
  obtain ⟨rfl, h2, h3, h4⟩ := hq
  exact ⟨.inl ⟨.bool true, .bool true, [], rfl, fun _ => rfl, .bool true, post_true l _, fun _ => ⟨List.Pairwise.nil, fun _ hm => (nomatch hm)⟩⟩, h2, h3, h4⟩
section
variable {prog : Program} {w : World} {A : Around} {E : Value → Shared → Prop} {s : Shared} {K : Frag}
end
end Att
namespace L2
open PySem PySem.Spec PyProof.Rows
theorem vals_ints : ∀ {vs : List Value} {ns : List Int}, IntsAre vs ns → Vals (ns.map V.int) vs
  | _, _, .nil => .nil
  | _, _, .cons n t h => .cons ⟨t, rfl⟩ (vals_ints h)
def Only (H : Hp) : Prop := ∀ b, H b = none ∨ ∃ o xs, H b = some (.frz o (.lst xs))
theorem law_call {P : Program} {w : World} {K : PySem.W.Frag} {mg mb : Str → Option Value} {CX : CXT} {k : Nat} {fa a : Addr} {fd : FuncData} {x : Str} {sp : Sp} {s₁ : Shared} {vs : List Value} {ns : List Int}
    (KX : K.In s₁.heap) (hns : s₁.heap.Ns mainGlobals mg) (hb : s₁.heap.Ns builtinsNs mb) (hbb : ∀ x : Str, x ≠ "__name__" → mb x = bootBuiltins x) (hlim : s₁.heap.NoLimit) (hg : s₁.gens = #[])
    (ha : s₁.heap.get? a = some { cls := .type "list", data := .seq vs.toArray }) (hi : IntsAre vs ns) (hl : ns.length ≤ sizeLine) (hr : Room k callerA)
    (F : ∀ base : Heap, K.In base → base.Ns mainGlobals mg → FnOk P w K mg base CX k fa fd [x] sp) (hbind : ∀ (s : Shared) (u : Value), BindsTo s fd ⟨[u], []⟩ [(x, u)])
    (hsp : ∀ H : Hp, Only H → SqL K H a (ns.map V.int) → sp [.ref a] H (fun v _ => v = .bl true) fun _ _ _ => False)
    (hCX : ∀ H e s', CX [] H s₁ (fun _ _ _ => False) e s' → False) :
    codeAny (model P w) callerA (.call (.ref fa) ⟨[.ref a], []⟩) (fun r s' => r = .ok (.ret (.bool true)) ∧ OldK s₁.heap s'.heap ∧ s'.os = s₁.os ∧ AllBare s'.gens) s₁ := by
  have rv := vals_ints hi
  have lenV := hi.length
  have core : ∀ H : Hp, Only H → SqL K H a (ns.map V.int) → HOk P w H s₁.heap → (∀ b, H b ≠ none → b = a) → (H a ≠ none → K.lookup a = none) →
      codeAny (model P w) callerA (.call (.ref fa) ⟨[.ref a], []⟩) (fun r s' => r = .ok (.ret (.bool true)) ∧ OldK s₁.heap s'.heap ∧ s'.os = s₁.os ∧ AllBare s'.gens) s₁ := by
    intro H hO hS hok hA hK
    have base_of : ∀ {b : Addr} {o : Obj}, s₁.heap.get? b = some o → H b = none → (hidT s₁.heap H).get? b = some o := fun e n => hidT_get e n
    have noA : ∀ {b : Addr} {o : Obj} {es : Array DictEntry} {ep : Nat}, s₁.heap.get? b = some o → o.data = .dict es ep → H b = none := fun {b o es ep} e d => by
      cases q : H b with
      | none => rfl
      | some u =>
        have e' : b = a := hA b (by rw [q]; simp)
        subst e'
        rw [ha] at e; cases e
        have d' : Data.seq vs.toArray _ = Data.dict es ep := d
        cases d'
    have nsK : ∀ {b : Addr} {m : Str → Option Value}, s₁.heap.Ns b m → (hidT s₁.heap H).Ns b m := fun {b m} ⟨o, es, ep, e, d, r⟩ => ⟨o, es, ep, base_of e (noA e d), d, r⟩
    have hKb : K.In (hidT s₁.heap H) := fun b o e => base_of (KX b o e) (by
      cases q : H b with
      | none => rfl
      | some u =>
        have e' : b = a := hA b (by rw [q]; simp)
        subst e'
        rw [hK (by rw [q]; simp)] at e; cases e)
    have hM : Mod K mg (hidT s₁.heap H) := ⟨hKb, nsK hns, ⟨mb, nsK hb, hbb⟩, let ⟨mc, h1, h2⟩ := hlim; ⟨mc, nsK h1, h2⟩⟩
    have e0 : Env0 P w K mg (hidT s₁.heap H) callerA [] s₁ H := ⟨rfl, hM, fun b o e => of_hidT e, Nat.le_of_eq (hidT_size _ _), trivial, fun b hb => absurd (show b ∈ ([] : List Addr) from hb) (by simp), hok, .of_eq hg⟩
    refine codeAny_mono ((F _ hKb (nsK hns)).run callerA [] s₁ H ⟨[.ref a], []⟩ [.ref a] [.ref a] _ _ hr e0 (hbind s₁ (.ref a)) (.cons rfl .nil) (hsp H hO hS)) fun r s' h => ?_
    cases r with
    | error e => exact (hCX H e s' h).elim
    | ok fl =>
      cases fl with
      | next => exact False.elim h
      | brk => exact False.elim h
      | cont => exact False.elim h
      | ret u =>
        obtain ⟨v, H', os, bare, un, hok', r', q⟩ := h
        have q' : v = .bl true := q
        subst q'
        obtain rfl : u = Value.bool true := r'
        refine ⟨rfl, OldK.of_keep fun b o e => ?_, os, bare⟩
        cases q : H b with
        | none => exact un.keep b o e q (by intro z; exact absurd (show b ∈ ([] : List Addr) from z) (by simp)) (by simp)
        | some u =>
          rcases hO b with z | ⟨ob, xs, z⟩
          · rw [q] at z; cases z
          · have z2 := un.frzs b ob _ z
            obtain ⟨e1, _⟩ := hok b _ z
            obtain ⟨e2, _⟩ := hok' b _ z2
            rw [e] at e1; cases e1
            exact e2
  cases hk : K.lookup a with
  | some o =>
    have e := KX a o hk
    rw [ha] at e
    cases e
    refine core (fun _ => none) (fun _ => .inl rfl) (.inr ⟨_, vs.toArray, _, hk, rfl, rfl, rfl, by rw [List.size_toArray, lenV]; exact hl, by simpa using rv⟩) (fun b u z => by have z' : (none : Option HO) = some u := z; cases z') (fun b z => absurd rfl z) fun z => absurd rfl z
  | none =>
    refine core (fun b => if b = a then some (.frz { cls := .type "list", data := .seq vs.toArray } (.lst (ns.map V.int))) else none) (fun b => ?_) (.inl (.inr ⟨{ cls := .type "list", data := .seq vs.toArray }, if_pos rfl⟩)) (fun b u z => ?_) (fun b z => ?_) fun _ => hk
    · by_cases hb : b = a
      · exact .inr ⟨_, _, if_pos hb⟩
      · exact .inl (if_neg hb)
    · by_cases hb : b = a
      · have z' := (if_pos hb).symm.trans z
        cases z'
        subst hb
        exact ⟨ha, by rw [List.length_map]; exact hl, vs, _, rv, ha⟩
      · have z' := (if_neg hb).symm.trans z
        cases z'
    · by_cases hb : b = a
      · exact hb
      · exact absurd (if_neg hb) z
end L2
namespace L2
open PySem PySem.Spec PyProof.Rows
theorem walk_of {l : PySem.W.OpenLaw} {n k : Nat} {q : Program} {loose : List Str} {XP : (Str → Option Value) → Heap → Prop} {YP : World → Heap → Prop} {d : DefRec} {K : Params → PySem.W.Frag} {CX : World → CXT} {sp : World → Sp} {x : Str}
    (hn : l.most = some n) (hn2 : n ≤ sizeLine) (hdf : d.params.defaults = []) (hr : Room k callerA)
    (hY : ∀ (w : World) (h : Heap), YP w h → (K w.params).In h)
    (F : ∀ (w : World) (mg : Str → Option Value) (fa : Addr) (h : Heap), (K w.params).In h → h.Ns mainGlobals mg → mg d.name = some (.ref fa) →
      ∃ fd : FuncData, (∀ (s : Shared) (u : Value), BindsTo s fd ⟨[u], []⟩ [(x, u)]) ∧
        ∀ base : Heap, (K w.params).In base → base.Ns mainGlobals mg → FnOk l.prog w (K w.params) mg base (CX w) k fa fd [x] (sp w))
    (hsp : ∀ (w : World) (H : Hp) (a : Addr) (ns : List Int), ns.length ≤ n → Only H → SqL (K w.params) H a (ns.map V.int) → sp w [.ref a] H (fun v _ => v = .bl true) fun _ _ _ => False)
    (hCX : ∀ (w : World) (H : Hp) (s : Shared) (e : Value) (s' : Shared), CX w [] H s (fun _ _ _ => False) e s' → False) :
    PySem.W.WalkO q loose XP YP l.row.toRowW d [] (fun f vs => PySem.call f vs) := by
  refine Att.attach_call hn hdf fun w s₀ s₁ mg mb fa o pm cd doc a vs ns G Y ho hd hcd hmg hobj hints hlen hg => ?_
  have KX := hY w _ Y
  obtain ⟨fd, hb, hF⟩ := F w mg fa _ KX G.T.g hmg
  exact law_call KX G.T.g G.T.b G.T.builtins G.T.nolimit hg hobj hints (Nat.le_trans hlen hn2) hr hF hb (fun H hO hS => hsp w H a ns hlen hO hS) fun H e s' => hCX w H s₁ e s'
end L2
namespace L2
open PySem PySem.Spec PyProof.Rows
def defArgs (s : Stmt) : Arguments := match s with
  | .FunctionDef _ a _ _ _ _ _ _ _ _ => a
  | _ => { posonlyargs := [], args := [], vararg := none, kwonlyargs := [], kw_defaults := [], kwarg := none, defaults := [] }
def defBody (s : Stmt) : List Stmt := match s with
  | .FunctionDef _ _ b _ _ _ _ _ _ _ => b
  | _ => []
def defScope (s : Stmt) : Scope := match s with
  | .FunctionDef _ _ _ _ _ _ sc _ _ _ => sc
  | _ => { kind := .function, names := [], isGenerator := false, isCoroutine := false }
abbrev CX0 : CXT := fun _ _ _ _ _ _ => False
abbrev E0 : XK := fun _ _ _ => False
theorem pass0 {X : Cx} : Passes CX0 X E0 := fun _ _ _ _ _ _ _ h => h.elim
structure Fun (K : PySem.W.Frag) (x qual : Str) (st : Stmt) (f : Addr) (fd : FuncData) : Prop where
  ex : ∃ (oc : Value) (od : Option Addr) (kV doc pm : Value) (an : Option Addr) (cdv ct : Value) (osl : Array (Option Value)),
    fd = PySem.W.fnOf x qual (defArgs st) (defBody st) (defScope st) .none kV doc pm an cdv ct ∧ K.lookup f = some ⟨oc, od, .func fd, osl⟩ ∧ PySem.W.codeIn K cdv qual = true
  kp : PySem.W.keepIn K (.ref f) = true
section
variable {P : Program} {w : World} {K : PySem.W.Frag} {mg : Str → Option Value} {base : Heap}
theorem Fun.ok {x qual : Str} {st : Stmt} {f : Addr} {fd : FuncData} {N ps : List Str} {k : Nat} {sp : Sp} (F : Fun K x qual st f fd) (S : FnScope N ps (defScope st)) (len : ∀ vs H Q E, sp vs H Q E → vs.length = ps.length)
    (hbody : ∀ (cdv : Value) (A : Around) (outer : List Env) (s : Shared) (H : Hp) (vs : List V) (Q : VK) (E : XK), Room k (A.deeper (envOfC qual (defScope st) s.heap.objs.size f cdv)) → sp vs H Q E →
      ∃ t, PSs (cxOf CX0 P w K mg base N qual (defScope st) f cdv A outer s H E).nox (defBody st) t ∧ t { nx := fun _ H' => Q .non H', rt := Q } (start N vs) H) : FnOk P w K mg base CX0 (k + 1) f fd ps sp := by
  obtain ⟨oc, od, kV, doc, pm, an, cdv, ct, osl, rfl, lk, hcd⟩ := F.ex
  refine fn_of lk hcd S len fun A outer s H vs Q E hr hsp => ?_
  obtain ⟨t, h, q⟩ := hbody cdv A outer s H vs Q E hr hsp
  exact ⟨t, h.nox, q⟩
theorem Fun.binds {x qual : Str} {st : Stmt} {f : Addr} {fd : FuncData} {ps : List Str} (F : Fun K x qual st f fd)
    (h : ∀ (kV doc pm : Value) (an : Option Addr) (cdv ct : Value) (us : List Value), us.length = ps.length → bindArgs (PySem.W.fnOf x qual (defArgs st) (defBody st) (defScope st) .none kV doc pm an cdv ct) ⟨us, []⟩ = pure (ps.zip us)) : Binds K fd ps [] := by
  obtain ⟨oc, od, kV, doc, pm, an, cdv, ct, osl, rfl, lk, hcd⟩ := F.ex
  exact .all (h kV doc pm an cdv ct)
theorem fun_mk {x qual : Str} {st : Stmt} {f : Addr} {oc : Value} {od an : Option Addr} {osl : Array (Option Value)} {kV doc pm cdv ct : Value} (l : K.lookup f = some ⟨oc, od, .func (PySem.W.fnOf x qual (defArgs st) (defBody st) (defScope st) .none kV doc pm an cdv ct), osl⟩)
    (c : PySem.W.codeIn K cdv qual = true) (k : PySem.W.keepIn K (.ref f) = true) : Fun K x qual st f (PySem.W.fnOf x qual (defArgs st) (defBody st) (defScope st) .none kV doc pm an cdv ct) := ⟨⟨oc, od, kV, doc, pm, an, cdv, ct, osl, rfl, l, c⟩, k⟩
end
theorem hu_of {A : Around} {k : Nat} (hr : Room k A) : A.units + 1 < cLine := Nat.lt_of_le_of_lt (Nat.add_le_add_left (by decide : 1 ≤ 64) _) hr.units
section
variable {X : Cx}
theorem pv (i : Nat) {x : Str} {pos : Pos} (hN : X.N[i]? = some x := by rfl) (hv : Vis X.env.scope x := by first | exact Or.inl rfl | exact Or.inr (Or.inl rfl) | exact Or.inr (Or.inr rfl)) (hd : (x == ("__debug__" : Str)) = false := by decide)
    (hcd : (x == ("__classdict__" : Str)) = false := by decide) : PE X (.Name x pos) (tVar i) := pe_var hN hv hd hcd
end
theorem iteF {A B : Prop} (h : B) : if false = true then A else B := by
  rw [if_neg Bool.false_ne_true]
  exact h
theorem iteT {A B : Prop} (h : A) : if true = true then A else B := by
  rw [if_pos rfl]
  exact h
theorem ite2 {c A B : Prop} [Decidable c] (h1 : c → A) (h2 : ¬ c → B) : if c then A else B := by
  by_cases h : c
  · rw [if_pos h]
    exact h1 h
  · rw [if_neg h]
    exact h2 h
theorem iteNS {c A B : Prop} [Decidable c] (hc : c) (h : B) : if (!decide c) = true then A else B := by
  rw [decide_eq_true hc]
  exact iteF h
def Same (H H' : Hp) : Prop := ∀ b o, H b = some o → H' b = some o
theorem Same.refl (H : Hp) : Same H H := fun _ _ h => h
theorem Same.trans {H H1 H2 : Hp} (a : Same H H1) (b : Same H1 H2) : Same H H2 := fun c o h => b c o (a c o h)
theorem Same.free {H H' : Hp} (e : Same H H') {l : Addr} (h : H' l = Option.none) : H l = Option.none := by
  cases q : H l with
  | none => rfl
  | some o =>
    rw [e l o q] at h
    cases h
theorem Same.seq {K : PySem.W.Frag} {H H' : Hp} {a : Addr} {xs : List V} (e : Same H H') (h : SqL K H a xs) : SqL K H' a xs := by
  rcases h with (h | ⟨o, h⟩) | h
  · exact .inl (.inl (e _ _ h))
  · exact .inl (.inr ⟨o, e _ _ h⟩)
  · exact .inr h
end L2
set_option maxHeartbeats 4000000
namespace L2
open PySem PySem.Spec PyProof.Rows
section
variable {κ : Type} [DecidableEq κ]
def valV (kvs : List (κ × V)) (k : κ) : Option V := (kvs.find? fun kv => decide (kv.1 = k)).map (·.2)
def putK (kvs : List (κ × V)) (k : κ) (v : V) : List (κ × V) :=
  if (kvs.any fun kv => decide (kv.1 = k)) = true then kvs.map (fun kv => if kv.1 = k then (kv.1, v) else kv) else kvs ++ [(k, v)]
theorem valV_pos {p : κ × V} {r : List (κ × V)} {k : κ} (e : p.1 = k) : valV (p :: r) k = some p.2 := by simp [valV, List.find?_cons, e]
theorem valV_neg {p : κ × V} {r : List (κ × V)} {k : κ} (e : ¬ p.1 = k) : valV (p :: r) k = valV r k := by simp [valV, List.find?_cons, e]
theorem valV_any (k : κ) : ∀ kvs : List (κ × V), (kvs.any fun kv => decide (kv.1 = k)) = (valV kvs k).isSome
  | [] => rfl
  | p :: r => by
    rw [List.any_cons]
    by_cases e : p.1 = k
    · simp only [valV_pos e, decide_eq_true e, Bool.true_or, Option.isSome_some]
    · rw [valV_neg e, decide_eq_false e, Bool.false_or]; exact valV_any k r
theorem length_putK (kvs : List (κ × V)) (k : κ) (v : V) : (putK kvs k v).length ≤ kvs.length + 1 := by
  unfold putK
  split
  · rw [List.length_map]; omega
  · rw [List.length_append, List.length_cons, List.length_nil]; omega
theorem RelO.isSome_eq {o : Option V} {u : Option Value} (r : RelO o u) : o.isSome = u.isSome := by
  cases o with
  | none => cases u with
    | none => rfl
    | some _ => exact (show False from r).elim
  | some _ => cases u with
    | none => exact (show False from r).elim
    | some _ => rfl
theorem RelO.getD {o : Option V} {u : Option Value} {d : V} {d' : Value} (r : RelO o u) (rd : RelV d d') : RelV (o.getD d) (u.getD d') := by
  cases o with
  | none => cases u with
    | none => exact rd
    | some _ => exact (show False from r).elim
  | some _ => cases u with
    | none => exact (show False from r).elim
    | some _ => exact r
theorem KV.val {kvs : List (κ × V)} {vs : List (κ × Value)} (r : KV kvs vs) (k : κ) : RelO (valV kvs k) (valueAt vs k) := by
  unfold KV at r
  induction r with
  | nil => exact True.intro
  | @cons p q ps qs h t ih =>
    obtain ⟨h1, h2⟩ := h
    by_cases e : p.1 = k
    · have e' : q.1 = k := h1.symm.trans e
      have b : valueAt (q :: qs) k = some q.2 := by simp [valueAt, List.find?_cons, e']
      rw [valV_pos e, b]; exact h2
    · have e' : ¬ q.1 = k := fun z => e (h1.trans z)
      have b : valueAt (q :: qs) k = valueAt qs k := by simp [valueAt, List.find?_cons, e']
      rw [valV_neg e, b]; exact ih
theorem KV.any {kvs : List (κ × V)} {vs : List (κ × Value)} (r : KV kvs vs) (k : κ) : (kvs.any fun kv => decide (kv.1 = k)) = vs.any fun kv => decide (kv.1 = k) := by
  unfold KV at r
  induction r with
  | nil => rfl
  | cons h t ih => rw [List.any_cons, List.any_cons, ih, h.1]
theorem KV.repl {kvs : List (κ × V)} {vs : List (κ × Value)} (r : KV kvs vs) (k : κ) {y : V} {u : Value} (ry : RelV y u) :
    KV (kvs.map fun kv => if kv.1 = k then (kv.1, y) else kv) (vs.map fun kv => if kv.1 = k then (kv.1, u) else kv) := by
  unfold KV at r ⊢
  induction r with
  | nil => exact .nil
  | @cons p q ps qs h t ih =>
    rw [List.map_cons, List.map_cons]
    refine .cons ?_ ih
    obtain ⟨h1, h2⟩ := h
    by_cases e : p.1 = k
    · rw [if_pos e, if_pos (h1.symm.trans e)]; exact ⟨h1, ry⟩
    · rw [if_neg e, if_neg (fun z => e (h1.trans z))]; exact ⟨h1, h2⟩
theorem KV.put {kvs : List (κ × V)} {vs : List (κ × Value)} (r : KV kvs vs) (k : κ) {y : V} {u : Value} (ry : RelV y u) : KV (putK kvs k y) (stored vs k u) := by
  unfold putK stored
  rw [r.any k]
  by_cases e : (vs.any fun kv => decide (kv.1 = k)) = true
  · rw [if_pos e, if_pos e]; exact r.repl k ry
  · rw [if_neg e, if_neg e]; exact Paired.snoc r ⟨rfl, ry⟩
theorem KV.keys {kvs : List (κ × V)} {vs : List (κ × Value)} (r : KV kvs vs) : kvs.map (·.1) = vs.map (·.1) := by
  unfold KV at r
  induction r with
  | nil => rfl
  | cons h t ih => rw [List.map_cons, List.map_cons, ih, h.1]
theorem KV.length {kvs : List (κ × V)} {vs : List (κ × Value)} (r : KV kvs vs) : kvs.length = vs.length := Paired.length r
end
theorem kV_is {P : Program} {w : World} {k : Key} {u : Value} (r : RelV (kV k) u) : (mixKind P w).is k u = true := by
  cases k with
  | inl i => obtain ⟨t, e⟩ := (show ∃ t, u = Value.int i t from r); subst e; exact mixKind_int P w i t
  | inr x => obtain ⟨t, e⟩ := (show ∃ t, u = Value.str x t from r); subst e; exact mixKind_str P w x t
theorem items_are {P : Program} {w : World} : ∀ {ks : List Key} {us : List Value}, Vals (ks.map kV) us → ItemsAre (mixKind P w) ks us
  | [], _, r => by rw [List.map_nil] at r; cases r; exact .nil
  | k :: ks, _, r => by
    rw [List.map_cons] at r
    cases r with
    | cons h t => exact .cons (kV_is h) (items_are t)
abbrev KT (H : Hp) : List (List Key × V) → List (List Key × Addr × Value) → Prop := Paired fun p q => p.1 = q.1 ∧ H q.2.1 = some (.tup (p.1.map kV)) ∧ RelV p.2 q.2.2
theorem KT.val {H : Hp} {kvs : List (List Key × V)} {xs : List (List Key × Addr × Value)} (r : KT H kvs xs) (k : List Key) : RelO (valV kvs k) ((atKey xs k).map (·.2)) := by
  induction r with
  | nil => exact True.intro
  | @cons p q ps qs h t ih =>
    obtain ⟨h1, _, h2⟩ := h
    by_cases e : p.1 = k
    · have e' : q.1 = k := h1.symm.trans e
      have b : atKey (q :: qs) k = some q.2 := by simp [atKey, List.find?_cons, e']
      rw [valV_pos e, b]; exact h2
    · have e' : ¬ q.1 = k := fun z => e (h1.trans z)
      have b : atKey (q :: qs) k = atKey qs k := by simp [atKey, List.find?_cons, e']
      rw [valV_neg e, b]; exact ih
theorem KT.repl {H : Hp} {kvs : List (List Key × V)} {xs : List (List Key × Addr × Value)} (r : KT H kvs xs) (k : List Key) {y : V} {u : Value} (ry : RelV y u) :
    KT H (kvs.map fun kv => if kv.1 = k then (kv.1, y) else kv) (xs.map (putAt k u)) := by
  induction r with
  | nil => exact .nil
  | @cons p q ps qs h t ih =>
    rw [List.map_cons, List.map_cons]
    refine .cons ?_ ih
    obtain ⟨h1, h2, h3⟩ := h
    unfold putAt
    by_cases e : p.1 = k
    · rw [if_pos e, if_pos (h1.symm.trans e)]; exact ⟨h1, h2, ry⟩
    · rw [if_neg e, if_neg (fun z => e (h1.trans z))]; exact ⟨h1, h2, h3⟩
theorem KT.put {H : Hp} {kvs : List (List Key × V)} {xs : List (List Key × Addr × Value)} (r : KT H kvs xs) (k : List Key) {b : Addr} {y : V} {u : Value} (hb : H b = some (.tup (k.map kV))) (ry : RelV y u) :
    KT H (putK kvs k y) (storedH xs k b u) := by
  have e : (kvs.any fun kv => decide (kv.1 = k)) = (atKey xs k).isSome := by
    rw [valV_any, (r.val k).isSome_eq, Option.isSome_map]
  unfold putK storedH
  rw [e]
  by_cases q : (atKey xs k).isSome = true
  · rw [if_pos q, if_pos q]; exact r.repl k ry
  · rw [if_neg q, if_neg q]; exact Paired.snoc r ⟨rfl, hb, ry⟩
theorem KT.keeps {H H' : Hp} {kvs : List (List Key × V)} {xs : List (List Key × Addr × Value)} (r : KT H kvs xs) (ht : ∀ b ys, H b = some (.tup ys) → H' b = some (.tup ys)) : KT H' kvs xs :=
  Paired.mapP r fun _ _ z => ⟨z.1, ht _ _ z.2.1, z.2.2⟩
section
variable {P : Program} {w : World} {H : Hp} {h : Heap} {a : Addr}
theorem rd_of {u : HO} (ok : HOk P w H h) (e : Rd H a u) : ObjOk P w H h a u := e.ok ok
theorem dk_rd {kvs : List (Key × V)} (ok : HOk P w H h) (e : Rd H a (.dK kvs)) : kvs.length ≤ sizeLine ∧ (a == sysModules) = false ∧ ∃ vs, KV kvs vs ∧ h.DictOf (mixKind P w) a vs :=
  show ObjOk P w H h a (.dK kvs) from rd_of ok e
theorem dk_of {kvs : List (Key × V)} (ok : HOk P w H h) (e : H a = some (.dK kvs)) : kvs.length ≤ sizeLine ∧ (a == sysModules) = false ∧ ∃ vs, KV kvs vs ∧ h.DictOf (mixKind P w) a vs := dk_rd ok (.inl e)
theorem dkey_of {ks : List Key} (ok : HOk P w H h) (e : H a = some (.tup (ks.map kV))) : (tupleKind (mixKind P w)).is h ks a := by
  obtain ⟨_, its, r, o, h1, h2, n, h3⟩ := (show ObjOk P w H h a (.tup (ks.map kV)) from ok a _ e)
  exact ⟨o, its.toArray, n, h1, h2, h3, by simpa using items_are r⟩
theorem dt_rd {kvs : List (List Key × V)} (ok : HOk P w H h) (e : Rd H a (.dT kvs)) : kvs.length ≤ sizeLine ∧ (a == sysModules) = false ∧
    ∃ xs, KT H kvs xs ∧ h.DictOfH (tupleKind (mixKind P w)) a xs := by
  obtain ⟨z, y, xs, r, o, es, ep, h1, h2, h3, h4, h5⟩ := (show ObjOk P w H h a (.dT kvs) from rd_of ok e)
  refine ⟨z, y, xs, r, o, es, ep, h1, h2, h3, h4, fun x hx => ?_, h5⟩
  have all : ∀ {l : List (List Key × V)} {m : List (List Key × Addr × Value)}, KT H l m → ∀ x ∈ m, (tupleKind (mixKind P w)).is h x.1 x.2.1 := by
    intro l m q
    induction q with
    | nil => intro x hx; exact nomatch hx
    | @cons p q ps qs hq t ih =>
      intro x hx
      rcases List.mem_cons.mp hx with e | hx
      · subst e
        exact dkey_of ok (by rw [← hq.1]; exact hq.2.1)
      · exact ih x hx
  exact all r x hx
theorem dt_of {kvs : List (List Key × V)} (ok : HOk P w H h) (e : H a = some (.dT kvs)) : kvs.length ≤ sizeLine ∧ (a == sysModules) = false ∧
    ∃ xs, KT H kvs xs ∧ h.DictOfH (tupleKind (mixKind P w)) a xs := dt_rd ok (.inl e)
end
def DGet (H : Hp) (a : Addr) (y : V) (r : Option V) : Prop :=
  (∃ kvs k, Rd H a (.dK kvs) ∧ y = kV k ∧ r = valV kvs k) ∨ ∃ kvs k b, Rd H a (.dT kvs) ∧ y = .ref b ∧ H b = some (.tup (k.map kV)) ∧ r = valV kvs k
def DPut (H : Hp) (a : Addr) (y v : V) (H' : Hp) : Prop :=
  (∃ kvs k, H a = some (.dK kvs) ∧ y = kV k ∧ kvs.length < sizeLine ∧ H' = upd H a (.dK (putK kvs k v))) ∨
  ∃ kvs k b, H a = some (.dT kvs) ∧ y = .ref b ∧ H b = some (.tup (k.map kV)) ∧ kvs.length < sizeLine ∧ H' = upd H a (.dT (putK kvs k v))
theorem DGet.t {H : Hp} {a b : Addr} {kvs : List (List Key × V)} {k : List Key} (e : H a = some (.dT kvs)) (eb : H b = some (.tup (k.map kV))) : DGet H a (.ref b) (valV kvs k) := .inr ⟨kvs, k, b, .inl e, rfl, eb, rfl⟩
theorem DPut.t {H : Hp} {a b : Addr} {kvs : List (List Key × V)} {k : List Key} {v : V} (e : H a = some (.dT kvs)) (eb : H b = some (.tup (k.map kV))) (hl : kvs.length < sizeLine) :
    DPut H a (.ref b) v (upd H a (.dT (putK kvs k v))) := .inr ⟨kvs, k, b, e, rfl, eb, hl, rfl⟩
section
variable {X : Cx} {pins : List (Addr × Obj)} {σ : St} {H : Hp} {s : Shared} {a : Addr} {y v : V} {u r : Value} {o : Option V} {A : Around} {E : Value → Shared → Prop}
theorem Inv.big (I : Inv X pins σ H s) : sysModules < s.heap.objs.size := by
  have h : mainGlobals < s.heap.objs.size := (I.mod.glob.keeps I.bk).lt
  exact Nat.lt_trans (by decide) h
theorem d_getItem {Q : Value → Shared → Prop} (hu : A.units + 1 < cLine) (I : Inv X pins σ H s) (g : DGet H a y (some v)) (ry : RelV y u) (h : ∀ w' s', Inv X pins σ H s' → RelV v w' → Q w' s') :
    wpAny (model X.prog X.w) A (getItem (.ref a) u) Q E s := by
  rcases g with ⟨kvs, k, e, ey, l⟩ | ⟨kvs, k, b, e, ey, eb, l⟩
  · subst ey
    obtain ⟨z, hd, vs, rel, dd⟩ := dk_rd I.hok e
    obtain ⟨w', hw, rw'⟩ := RelO.some_of (v := v) (o := valueAt vs k) (by rw [l]; exact rel.val k)
    exact wpAny_getItem_of (kV_is ry) dd.mapOf hw (h w' _ (I.tok _) rw')
  · subst ey
    cases (show u = Value.ref b from ry)
    obtain ⟨z, hd, xs, rel, dd⟩ := dt_rd I.hok e
    obtain ⟨w', hw, rw'⟩ := RelO.some_of (v := v) (o := (atKey xs k).map (·.2)) (by rw [l]; exact rel.val k)
    obtain ⟨p, hp, hp2⟩ := Option.map_eq_some_iff.mp hw
    refine wpAny_getItem_heap (tupleKind_room_in1 hu) (dkey_of I.hok eb) dd hp ?_
    rw [hp2]
    exact h w' _ (I.tok _) rw'
theorem d_write {h' : Heap} {t' : Nat} {ob : HO} (I : Inv X pins σ H s) (mu : Mut (H a)) (hs : Heap.SameBut a s.heap h') (he : ∃ q, h'.get? a = some q) (new : ObjOk X.prog X.w (upd H a ob) h' a ob) :
    Inv X pins σ (upd H a ob) { s with heap := h', toks := t' } :=
  I.write (x := a) (e := a) mu (.inl rfl) (fun b q hb z => (hs.2 b hb).trans z) he new
theorem dk_new {P : Program} {w : World} {H' : Hp} {h' : Heap} {kvs : List (Key × V)} {vs : List (Key × Value)} (z : kvs.length ≤ sizeLine) (hd : (a == sysModules) = false) (rel : KV kvs vs) (dd : h'.DictOf (mixKind P w) a vs) :
    ObjOk P w H' h' a (.dK kvs) := ⟨z, hd, vs, rel, dd⟩
theorem d_setItem {H' : Hp} {Q : Unit → Shared → Prop} (hu : A.units + 1 < cLine) (I : Inv X pins σ H s) (g : DPut H a y v H') (ry : RelV y u) (rv : RelV v r) (h : ∀ s', Inv X pins σ H' s' → Q () s') :
    wpAny (model X.prog X.w) A (setItem (.ref a) u r) Q E s := by
  rcases g with ⟨kvs, k, e, ey, l, eH⟩ | ⟨kvs, k, b, e, ey, eb, l, eH⟩
  · subst ey eH
    obtain ⟨z, hd, vs, rel, dd⟩ := dk_of I.hok e
    have hz : vs.length ≤ sizeLine := by rw [← rel.length]; exact z
    have hl : (putK kvs k v).length ≤ sizeLine := by have := length_putK kvs k v; omega
    refine wpAny_setItem_pairs (hsz := hz) (kV_is ry) dd fun h' dd' hs => h _ ?_
    have he : ∃ q, h'.get? a = some q := let ⟨q, _, _, hq, _⟩ := dd'; ⟨q, hq⟩
    exact d_write I (by rw [e]; exact True.intro) hs he (dk_new hl hd (rel.put k rv) dd')
  · subst ey eH
    cases (show u = Value.ref b from ry)
    obtain ⟨z, hd, xs, rel, dd⟩ := dt_of I.hok e
    have hz : xs.length ≤ sizeLine := by rw [← Paired.length rel]; exact z
    have hl : (putK kvs k v).length ≤ sizeLine := by have := length_putK kvs k v; omega
    refine wpAny_setItem_heap (hsz := hz) (tupleKind_room_in1 hu) (dkey_of I.hok eb) dd fun h' dd' hs => h _ ?_
    obtain ⟨q, es, ep, hq, h2, h3, h4, _, h5⟩ := dd'
    refine d_write I (by rw [e]; exact True.intro) hs ⟨q, hq⟩ ⟨hl, hd, _, (rel.put k eb rv).keeps fun c ys ec => ?_, q, es, ep, hq, h2, h3, h4, h5⟩
    rw [upd_ne (ne_of ec e (fun z => nomatch z))]
    exact ec
end
section
variable {X : Cx} {pins : List (Addr × Obj)} {σ : St} {H : Hp} {s : Shared} {a : Addr} {kvs : List (Key × V)} {k : Key} {u : Value} {A : Around} {E : Value → Shared → Prop}
end
def NoSl (i : Expr) : Prop := ∀ ov iv, subscripted i false ov iv = operate [ov, iv] (getItem ov iv)
theorem subD_of {prog : Program} {w : World} {A : Around} {E : Value → Shared → Prop} {s : Shared} {env : Env} {value slice : Expr} {pos : Pos} {T id : String} {Q : Value → Shared → Prop}
    (hl : typeLookup (.type T) "__getitem__" = pure (some (.builtin id))) (hs : NoSl slice)
    (h : wpAny (model prog w) A (eval value env) (fun o s₁ => wpAny (model prog w) A (eval slice env) (fun i s₂ => s₂.TypeIs o T ∧ wpAny (model prog w) A (getItem o i) Q E s₂) E s₁) E s) :
    wpAny (model prog w) A (eval (.Subscript value slice pos) env) Q E s := by
  refine Subscript_ (wpAny_mono h (fun o s₁ h₁ => wpAny_mono h₁ (fun i s₂ h₂ => ?_) fun _ _ x => x) fun _ _ x => x)
  obtain ⟨hT, h₂⟩ := h₂
  unfold subscriptTail
  refine wpAny_bind ?_
  rw [getitemInPython_of_ne hT.not_modules]
  refine wpAny_bind (wpAny_specialOf hT hl ?_)
  have fin : wpAny (model prog w) A (subscripted slice false o i) (fun r s₃ => wpAny (model prog w) A (letTemporaryGo value o r >>= fun _ => pure r) Q E s₃) E s₂ := by
    rw [hs o i]
    exact wpAny_operating (wpAny_mono h₂ (fun r s₃ h₃ => wpAny_bind (wpAny_letTemporaryGo (wpAny_pure h₃))) fun _ _ x => x)
  first
    | exact wpAny_pure (wpAny_bind fin)
    | exact wpAny_bind (wpAny_pure (wpAny_bind fin))
    | exact wpAny_bind fin
theorem dict_typeIs {X : Cx} {pins : List (Addr × Obj)} {σ : St} {H : Hp} {s : Shared} {a : Addr} {y : V} {o : Option V} (I : Inv X pins σ H s) (g : DGet H a y o) : s.TypeIs (.ref a) "dict" := by
  rcases g with ⟨kvs, k, e, _, _⟩ | ⟨kvs, k, b, e, _, _, _⟩
  · obtain ⟨_, _, vs, _, dd⟩ := dk_rd I.hok e
    exact dd.typeIs
  · obtain ⟨_, _, xs, _, dd⟩ := dt_rd I.hok e
    exact dd.typeIs
def tDGet (td ty : TE) : TE := fun σ H Q => td σ H fun x H1 => ty σ H1 fun y H2 => ∃ a v, x = .ref a ∧ DGet H2 a y (some v) ∧ Q v H2
def sDPut (td ty tv : TE) : TS := fun D σ H => tv σ H fun v H1 => td σ H1 fun x H2 => ty σ H2 fun y H3 => ∃ a H4, x = .ref a ∧ DPut H3 a y v H4 ∧ D.nx σ H4
section
variable {X : Cx} {o i e value : Expr} {pos pos' tpos : Pos} {td ty tv : TE}
theorem pe_dget (hu : X.A.units + 1 < cLine) (ho : PE X o td) (hi : PE X i ty) (hs : NoSl i) : PE X (.Subscript o i pos) (tDGet td ty) := by
  intro pins s σ H Q I h
  refine subD_of PySem.F.slot_dict_getitem.lookup hs (thn (ho pins s σ H _ I h) fun u s1 ⟨x, H1, I1, rx, q1⟩ => thn (hi pins s1 σ H1 _ I1 q1) fun iv s2 ⟨y, H2, I2, ry, a, v, ex, g, q2⟩ => ?_)
  subst ex
  obtain rfl : u = Value.ref a := rx
  exact ⟨dict_typeIs I2 g, d_getItem hu I2 g ry fun w' s3 I3 rw' => ⟨v, H2, I3, rw', q2⟩⟩
theorem ps_dput (hu : X.A.units + 1 < cLine) (ho : PE X o td) (hi : PE X i ty) (hv : PE X value tv) (hs : swapsWith value (some (.Subscript o i pos')) pos.line X.env = pure false) :
    PS X (.Assign [.Subscript o i pos'] value pos) (sDPut td ty tv) := by
  intro pins s σ H D I h
  refine wpAny_Assign_Subscript (thn (hv pins s σ H _ I h) fun r s1 ⟨v, H1, I1, rv, q1⟩ => thn (ho pins s1 σ H1 _ I1 q1) fun u s2 ⟨x, H2, I2, rx, q2⟩ => thn (hi pins s2 σ H2 _ I2 q2) fun iv s3 ⟨y, H3, I3, ry, a, H4, ex, g, q3⟩ => ?_) hs
  subst ex
  obtain rfl : u = Value.ref a := rx
  exact d_setItem hu I3 g ry rv fun s4 I4 => ⟨σ, H4, I4, q3⟩
end
theorem dt_empty {P : Program} {w : World} {H : Hp} (h : Heap) (hb : sysModules < h.objs.size) : ObjOk P w H (h.push { cls := .type "dict", data := .dict #[] }) h.objs.size (.dT []) :=
  ⟨Nat.zero_le _, beq_eq_false_iff_ne.mpr (Ne.symm (Nat.ne_of_lt hb)), [], .nil, _, #[], 0, Heap.get?_push_size _ rfl, ⟨rfl, rfl, rfl⟩, rfl, rfl, List.nodup_nil⟩
section
variable {X : Cx} {pos : Pos}
end
def tPairs : List (TE × TE) → St → Hp → (List (V × V) → Hp → Prop) → Prop
  | [], _, H, Q => Q [] H
  | (tk, tv) :: r, σ, H, Q => tk σ H fun x H1 => tv σ H1 fun y H2 => tPairs r σ H2 fun ps H3 => Q ((x, y) :: ps) H3
abbrev VV : List (V × V) → List (Value × Value) → Prop := Paired fun p q => RelV p.1 q.1 ∧ RelV p.2 q.2
def PPs (X : Cx) (pos : Pos) (keys : List (Option Expr)) (values : List Expr) (trs : List (TE × TE)) : Prop :=
  ∀ (pins : List (Addr × Obj)) (s : Shared) (σ : St) (H : Hp) (Q : List (V × V) → Hp → Prop), Inv X pins σ H s → tPairs trs σ H Q →
    wpAny (model X.prog X.w) X.A (evalPairs (pairTrees keys values X.env pos)) (fun vs s' => ∃ ps H', Inv X pins σ H' s' ∧ VV ps vs ∧ Q ps H') X.xe s
theorem pps_nil {X : Cx} {pos : Pos} : PPs X pos [] [] [] := fun pins s σ H Q I h => pairTrees_nil_walk ⟨[], H, I, .nil, h⟩
theorem pps_cons {X : Cx} {pos : Pos} {k v : Expr} {ks : List (Option Expr)} {vs : List Expr} {tk tv : TE} {trs : List (TE × TE)} (hk : PE X k tk) (hv : PE X v tv) (hr : PPs X pos ks vs trs) :
    PPs X pos (some k :: ks) (v :: vs) ((tk, tv) :: trs) := fun pins s σ H Q I h =>
  pairTrees_cons_walk (thn (hk pins s σ H _ I h) fun u s1 ⟨x, H1, I1, rx, q1⟩ => thn (hv pins s1 σ H1 _ I1 q1) fun w2 s2 ⟨y, H2, I2, ry, q2⟩ =>
    thn (hr pins s2 σ H2 _ I2 q2) fun ws s3 ⟨ps, H3, I3, rel, q3⟩ => ⟨(x, y) :: ps, H3, I3, .cons ⟨rx, ry⟩ rel, q3⟩)
def mergeK (kvs more : List (Key × V)) : List (Key × V) := more.foldl (fun acc kv => putK acc kv.1 kv.2) kvs
theorem KV.merge : ∀ {more : List (Key × V)} {rs : List (Key × Value)} {kvs : List (Key × V)} {vs : List (Key × Value)}, KV more rs → KV kvs vs → KV (mergeK kvs more) (merged vs rs) := by
  intro more rs kvs vs r
  unfold KV at r
  induction r generalizing kvs vs with
  | nil => intro q; exact q
  | @cons p q ps qs h t ih =>
    intro r0
    have e : KV (putK kvs p.1 p.2) (stored vs q.1 q.2) := by
      have := r0.put p.1 h.2
      rw [← h.1]; exact this
    exact ih e
structure M2 (X : Cx) (o : Expr) (m : Str) (apos : Pos) (e f : Expr) (cpos : Pos) : Prop where
  base : attributeBase o m X.env (eval o X.env) = eval o X.env
  few : ((backTo cpos (starEach [e, f] X.env)).all (fun x => !x.1) && (backToKw cpos (keywordEach [] X.env)).all (fun x => x.1.isSome)
    && decide (([e, f] : List Expr).length + ([] : List Keyword).length + (if ([] : List Keyword).isEmpty then 0 else 1) < 30)) = true
  line : (apos.endLine == cpos.line) = true
  trees : backTo cpos (starEach [e, f] X.env) = [(false, eval e X.env), (false, eval f X.env)]
def IsD (H : Hp) (a : Addr) : Prop := (∃ kvs, Rd H a (.dK kvs)) ∨ ∃ kvs, Rd H a (.dT kvs)
theorem isD_at {X : Cx} {pins : List (Addr × Obj)} {σ : St} {H : Hp} {s : Shared} {a : Addr} (I : Inv X pins σ H s) (d : IsD H a) :
    s.TypeIs (.ref a) "dict" ∧ (∀ b, Value.ref a = .ref b → ∃ ob, s.heap.get? b = some ob ∧ ob.dict = none) ∧ (a == sysModules) = false := by
  rcases d with ⟨kvs, e⟩ | ⟨kvs, e⟩
  · obtain ⟨_, hd, vs, _, dd⟩ := dk_rd I.hok e
    refine ⟨dd.typeIs, fun b q => ?_, hd⟩
    cases q
    obtain ⟨ob, _, _, h1, h2, _⟩ := dd
    exact ⟨ob, h1, h2.2.1⟩
  · obtain ⟨_, hd, xs, _, dd⟩ := dt_rd I.hok e
    refine ⟨dd.typeIs, fun b q => ?_, hd⟩
    cases q
    obtain ⟨ob, _, _, h1, h2, _⟩ := dd
    exact ⟨ob, h1, h2.2.1⟩
section
variable {X : Cx} {pins : List (Addr × Obj)} {σ : St} {H : Hp} {s : Shared} {a : Addr} {y d : V} {u r : Value} {o : Option V} {A : Around} {E : Value → Shared → Prop}
theorem d_get2 {Q : Value → Shared → Prop} (hu : A.units + 1 < cLine) (I : Inv X pins σ H s) (g : DGet H a y o) (ry : RelV y u) (rd : RelV d r) (h : ∀ w' s', Inv X pins σ H s' → RelV (o.getD d) w' → Q w' s') :
    wpAny (model X.prog X.w) A (call (.builtin "dict.get") [.ref a, u, r]) Q E s := by
  rcases g with ⟨kvs, k, e, ey, l⟩ | ⟨kvs, k, b, e, ey, eb, l⟩
  · subst ey
    obtain ⟨z, hd, vs, rel, dd⟩ := dk_rd I.hok e
    refine call_meetsIn PySem.F.slot_dict_get dd.typeIs PySem.F.entry_dict_get (PySem.F.args_dict_get_3 _ _ _) (meets_dict_get_default (mixKind X.prog X.w) a (kV_is ry) hd r) ⟨_, dd.mapOf, h _ _ (I.tok _) ?_⟩
    rw [l]
    exact (rel.val k).getD rd
  · subst ey
    cases (show u = Value.ref b from ry)
    obtain ⟨z, hd, xs, rel, dd⟩ := dt_rd I.hok e
    refine call_meetsIn PySem.F.slot_dict_get dd.typeIs PySem.F.entry_dict_get (PySem.F.args_dict_get_3 _ _ _) (meetsH_dict_get_default (tupleKind (mixKind X.prog X.w)) a b hd r) ⟨tupleKind_room_in1 hu, k, xs, dkey_of I.hok eb, dd, h _ _ (I.tok _) ?_⟩
    rw [l]
    exact (rel.val k).getD rd
end
def tDGet2 (td ty tx : TE) : TE := fun σ H Q => td σ H fun x H1 => ∃ a, x = .ref a ∧ IsD H1 a ∧ ty σ H1 fun y H2 => tx σ H2 fun z H3 => ∃ o, DGet H3 a y o ∧ Q (o.getD z) H3
section
variable {X : Cx} {o e f : Expr} {apos cpos : Pos} {td ty tx : TE}
theorem pe_dget2 (hu : X.A.units + 1 < cLine) (ho : PE X o td) (he : PE X e ty) (hf : PE X f tx) (m : M2 X o "get" apos e f cpos) : PE X (.Call (.Attribute o "get" apos) [e, f] [] cpos) (tDGet2 td ty tx) := by
  intro pins s σ H Q I h
  refine wpAny_Call_method m.base m.few m.line PySem.F.plainAttrs_dict PySem.F.slot_dict_get PySem.F.type_dict_get (thn (ho pins s σ H _ I h) fun u s1 ⟨x, H1, I1, rx, a, ex, d, q1⟩ => ?_)
  subst ex
  obtain rfl : u = Value.ref a := rx
  obtain ⟨t1, t2, _⟩ := isD_at I1 d
  refine ⟨t1, t2, ?_⟩
  rw [m.trees]
  refine Calls.callWith_builtin rfl (Calls.evalArgs_plain (Calls.spliced_cons (thn (he pins s1 σ H1 _ I1 q1) fun iv s2 ⟨y, H2, I2, ry, q2⟩ =>
    Calls.spliced_cons (thn (hf pins s2 σ H2 _ I2 q2) fun fv s3 ⟨z, H3, I3, rz, ov, g, q3⟩ => Calls.spliced_nil ?_))))
  exact d_get2 hu I3 g ry rz fun w' s4 I4 rw' => ⟨_, H3, I4, rw', q3⟩
end
section
variable {X : Cx} {pins : List (Addr × Obj)} {σ : St} {H : Hp} {s : Shared} {a : Addr} {kvs : List (Key × V)} {A : Around} {E : Value → Shared → Prop}
end
section
variable {X : Cx} {pins : List (Addr × Obj)} {σ : St} {H : Hp} {s : Shared} {a : Addr} {y : V} {u : Value} {A : Around} {E : Value → Shared → Prop}
end
end L2
namespace Dz
open PySem PySem.Spec PyProof.Rows
section
variable {prog : Program} {w : World} {A : Around} {E : Value → Shared → Prop} {s : Shared}
structure Raw (h : Heap) (d : Addr) (es : Array DictEntry) (ep : Nat) : Prop where
  at_ : ∃ o, h.get? d = some o ∧ o.ExactDict ∧ o.data = .dict es ep
theorem Raw.ty {d : Addr} {es : Array DictEntry} {ep : Nat} (x : Raw s.heap d es ep) : s.TypeIs (.ref d) "dict" := by
  obtain ⟨o, e, c, _⟩ := x.at_
  exact ⟨o, e, c.1⟩
theorem Raw.keep {h h' : Heap} {d : Addr} {es : Array DictEntry} {ep : Nat} (x : Raw h d es ep) (k : ∀ o, h.get? d = some o → h'.get? d = some o) : Raw h' d es ep := by
  obtain ⟨o, e, r⟩ := x.at_
  exact ⟨o, k o e, r⟩
theorem iter_raw {d : Addr} {es : Array DictEntry} {ep : Nat} {Q : Value → Shared → Prop} (hS : (d == sysModules) = false) (x : Raw s.heap d es ep)
    (q : Q (.ref s.heap.objs.size) { s with heap := s.heap.push { cls := .type "dict_keyiterator", data := .fields #[.ref d, .int 0 0, .int es.size 0, .int ep 0] } }) :
    wpAny (model prog w) A (pyIter (.ref d)) Q E s := by
  have ty := x.ty
  obtain ⟨o, e, c, dt⟩ := x.at_
  refine wpAny_pyIter_slot ty F.slot_dict_iter (wpAny_call_entry F.slot_dict_iter ty F.entry_dict_iter ?_ (F.args_dict_iter_1 _))
  have first : ∀ {Q' : Value → Shared → Prop} {A' : Around} {E' : Value → Shared → Prop}, Q' (.ref d) s → wpAny (model prog w) A' (Builtin.Dict.dictSlotNone "__iter__" ⟨[.ref d], []⟩) Q' E' s := fun q' => by
    unfold Builtin.Dict.dictSlotNone
    exact wpAny_bind (wpAny_notOrdered_dict ty (wpAny_pure q'))
  unfold Builtin.«dict.__iter__»
  refine wpAny_bind (first ?_)
  show wpAny _ _ (Builtin.Dict.showsAll d >>= _) _ _ s; unfold Builtin.Dict.showsAll; rw [if_neg (by rw [hS]; exact Bool.false_ne_true)]
  refine wpAny_bind (wpAny_pure (wpAny_bind (wpAny_dictEntries e dt (wpAny_bind (wpAny_dictEpoch e dt ?_)))))
  refine wpAny_bind (wpAny_newObj_type (wpAny_pure ⟨_, rfl, "dict_keyiterator", _, ⟨_, Heap.get?_push_size _ rfl, rfl⟩, F.slot_dict_keyiterator_next.lookup, ?_⟩))
  simpa [rawInt] using q
theorem next_raw {it d : Addr} {i ep : Nat} {es : Array DictEntry} {en : DictEntry} {Q : Option Value → Shared → Prop} (hi : s.heap.IsKeyIter it d i es.size ep) (x : Raw s.heap d es ep) (he : es[i]? = some en)
    (q : ∀ h', h'.IsKeyIter it d (i + 1) es.size ep → Heap.SameBut it s.heap h' → Q (some en.key) { s with heap := h' }) : wpAny (model prog w) A (pyNext (.ref it)) Q E s := by
  have ty := hi.typeIs
  obtain ⟨o, e, c, dt⟩ := id hi
  obtain ⟨od, eo, co, dd⟩ := x.at_
  have own : Builtin.Dict_items.ownsTuple "dict_keyiterator" = false := by decide
  have lt : i < es.size := by
    rcases Nat.lt_or_ge i es.size with z | z
    · exact z
    · rw [Array.getElem?_eq_none z] at he; cases he
  have ek : es[i] = en := by rw [Array.getElem?_eq_getElem lt] at he; exact Option.some.inj he
  unfold pyNext
  refine wpAny_bind (wpAny_attempt (wpAny_callSpecial?_slot (name := Str.ofString "__next__") ty F.slot_dict_keyiterator_next (wpAny_call_entry F.slot_dict_keyiterator_next ty F.entry_dict_keyiterator_next ?_ (F.args_dict_keyiterator_next_1 _))))
  refine wpAny_bind (wpAny_pure (wpAny_bind (wpAny_bind ?_)))
  first | refine wpAny_bind (wpAny_typeNameOfWhole_keyiter ty (wpAny_pure (wpAny_bind (wpAny_fieldsOf e dt ?_)))) | refine wpAny_bind (wpAny_typeNameOf_keyiter ty (wpAny_pure (wpAny_bind (wpAny_fieldsOf e dt ?_))))
  simp only [own, Bool.false_eq_true, if_false]; show wpAny _ _ (if (Value.ref d == Value.none) = true then _ else _) _ _ s
  rw [if_neg (fun z : (Value.ref d == Value.none) = true => Bool.false_ne_true z)]
  refine wpAny_bind (wpAny_pure (wpAny_bind (wpAny_dictEntries eo dd ?_))); rw [if_neg (by simp)]
  refine wpAny_bind (wpAny_pure (wpAny_bind (wpAny_dictEpoch eo dd ?_))); rw [if_neg (by simp)]; refine wpAny_pure ?_
  simp only [show ¬ ((i : Int) < 0) by omega, if_false, Int.toNat_natCast, Array.getElem?_eq_getElem lt]; refine wpAny_bind ?_
  first | refine wpAny_bind (wpAny_typeNameOfWhole_keyiter ty (wpAny_pure (wpAny_bind (wpAny_isOneOf_keyiter ty ?_)))) | refine wpAny_bind (wpAny_typeNameOf_keyiter ty (wpAny_pure (wpAny_bind (wpAny_isOneOf_keyiter ty ?_))))
  show wpAny _ _ (setField (.ref it) 1 (rawInt ((i : Int) + 1)) >>= _) _ _ s; refine wpAny_bind (wpAny_setField e dt (by simp) ?_)
  have hi' : (s.heap.update it (Obj.mapFields (·.setIfInBounds 1 (rawInt ((i : Int) + 1))))).IsKeyIter it d (i + 1) es.size ep := ⟨_, Heap.get?_update_self _ e (Obj.isFreed_of_fields (Obj.data_mapFields dt _)), (Obj.cls_mapFields ..).trans c, by rw [Obj.data_mapFields dt]; simp [rawInt]⟩
  refine wpAny_bind (wpAny_holding (wpAny_bind (wpAny_isOneOf_keyiter (s := { s with heap := s.heap.update it (Obj.mapFields (·.setIfInBounds 1 (rawInt ((i : Int) + 1)))) }) hi'.typeIs ?_)))
  show wpAny _ _ (pure es[i].key) _ _ _; rw [ek]
  exact wpAny_pure (wpAny_pure ⟨_, rfl, wpAny_pure (q _ hi' (Heap.SameBut.update ..))⟩)
theorem stop_raw {it d : Addr} {i ep : Nat} {es : Array DictEntry} {Q : Option Value → Shared → Prop} (hh : A.handled = none) (hi : s.heap.IsKeyIter it d i es.size ep) (x : Raw s.heap d es ep) (ge : es.size ≤ i)
    (q : ∀ h', Heap.ExtBut it s.heap h' → Q none { s with heap := h' }) : wpAny (model prog w) A (pyNext (.ref it)) Q E s := by
  have ty := hi.typeIs
  obtain ⟨o, e, c, dt⟩ := id hi
  obtain ⟨od, eo, co, dd⟩ := x.at_
  have own : Builtin.Dict_items.ownsTuple "dict_keyiterator" = false := by decide
  unfold pyNext
  refine wpAny_bind (wpAny_attempt (wpAny_callSpecial?_slot (name := Str.ofString "__next__") ty F.slot_dict_keyiterator_next (wpAny_call_entry F.slot_dict_keyiterator_next ty F.entry_dict_keyiterator_next ?_ (F.args_dict_keyiterator_next_1 _))))
  refine wpAny_bind (wpAny_pure (wpAny_bind (wpAny_bind ?_)))
  first | refine wpAny_bind (wpAny_typeNameOfWhole_keyiter ty (wpAny_pure (wpAny_bind (wpAny_fieldsOf e dt ?_)))) | refine wpAny_bind (wpAny_typeNameOf_keyiter ty (wpAny_pure (wpAny_bind (wpAny_fieldsOf e dt ?_))))
  simp only [own, Bool.false_eq_true, if_false]; show wpAny _ _ (if (Value.ref d == Value.none) = true then _ else _) _ _ s
  rw [if_neg (fun z : (Value.ref d == Value.none) = true => Bool.false_ne_true z)]
  refine wpAny_bind (wpAny_pure (wpAny_bind (wpAny_dictEntries eo dd ?_))); rw [if_neg (by simp)]
  refine wpAny_bind (wpAny_pure (wpAny_bind (wpAny_dictEpoch eo dd ?_))); rw [if_neg (by simp)]; refine wpAny_pure ?_
  simp only [show ¬ ((i : Int) < 0) by omega, if_false, Int.toNat_natCast, Array.getElem?_eq_none ge]; refine wpAny_bind ?_
  first | refine wpAny_bind (wpAny_typeNameOfWhole_keyiter ty (wpAny_pure ?_)) | refine wpAny_bind (wpAny_typeNameOf_keyiter ty (wpAny_pure ?_))
  show wpAny _ _ (setField (.ref it) 0 .none >>= _) _ _ s; refine wpAny_bind (wpAny_setField e dt (by simp) ?_)
  show wpAny _ _ (newExc (.type "StopIteration") [] >>= _) _ _ _; refine wpAny_bind ?_
  simp only [newExc, newTuple]; refine wpAny_bind (wpAny_newObj_type ?_ (by size_fits))
  refine wpAny_bind (m := firstArgMember _ _) (wpAny_of_eq (a := Value.none) (by first | rfl | (simp only [firstArgMember]; rfl)) (wpAny_newObj_type ?_ (by size_fits)))
  simp only [raiseNew]; refine wpAny_bind (wpAny_handled ?_); rw [show A.in1.handled = none from hh]; refine wpAny_bind (wpAny_pure (wpAny_throw ?_))
  refine wpAny_bind (wpAny_isInstance (b := true) (T := "StopIteration") ⟨_, Heap.get?_push_size _ rfl, rfl⟩ isSubtype_stop ?_)
  exact wpAny_pure (q _ (((Heap.SameBut.update ..).extBut.push _).push _))
end
end Dz
namespace L2
open PySem PySem.Spec PyProof.Rows Dz
section
variable {X : Cx}
def Itd (d : Addr) (o : Obj) (kvs : List (List Key × V)) : It :=
  ⟨fun i H => H d = some (.frz o (.dT kvs)) ∧ i < kvs.length, fun i H x H' => H' = H ∧ ∃ p b, kvs[i]? = some p ∧ x = .ref b ∧ H b = some (.tup (p.1.map kV)), fun i H => H d = some (.frz o (.dT kvs)) ∧ kvs.length ≤ i⟩
theorem paired_get {α β : Type} {F : α → β → Prop} : ∀ {l : List α} {m : List β}, Paired F l m → ∀ (i : Nat) (b : β), m[i]? = some b → ∃ a, l[i]? = some a ∧ F a b
  | _, _, .nil, i, b, h => by simp at h
  | _, _, .cons (a := a) r t, 0, b, h => by simp at h; subst h; exact ⟨_, rfl, r⟩
  | _, _, .cons r t, i + 1, b, h => by
    simp only [List.getElem?_cons_succ] at h
    obtain ⟨a, e, q⟩ := paired_get t i b h
    exact ⟨a, by simpa using e, q⟩
theorem paired_len {α β : Type} {F : α → β → Prop} : ∀ {l : List α} {m : List β}, Paired F l m → l.length = m.length
  | _, _, .nil => rfl
  | _, _, .cons r t => by rw [List.length_cons, List.length_cons, paired_len t]
theorem turn_dict {P : Program} {w : World} {K : PySem.W.Frag} {tg : Expr} {d it : Addr} {o : Obj} {kvs : List (List Key × V)} {es : Array DictEntry} {ep : Nat} (hd : o.ExactDict ∧ o.data = .dict es ep) : Turn P w K tg (Itd d o kvs) [it] it (fun i h => h.IsKeyIter it d i es.size ep) where
  mem := by simp
  obj := fun i h st b hb => by
    have e : b = it := by simpa using hb
    subst e
    obtain ⟨q, e, c, dt⟩ := st
    exact ⟨q, e, fun v z => by rw [dt] at z; cases z⟩
  keep := fun i h h' st k => st.at fun q e => k it (by simp) q e
  item := by
    intro X hP hw hK hc i pins s σ H E I hf st hg
    subst hP hw hK
    obtain ⟨hg, hlt⟩ := hg
    obtain ⟨ho, z, y, xs, r, o', es', ep', e1, e2, e3, e4, e5⟩ := I.hok d _ hg
    rw [ho] at e1
    cases e1
    rw [hd.2] at e3
    cases e3
    have hl : es.size = kvs.length := by rw [← Array.length_toList, e4, List.length_map, paired_len r]
    have hlx : i < xs.length := by rw [← paired_len r]; exact hlt
    obtain ⟨p, ep1, h1, h2, h3⟩ := paired_get r i xs[i] (List.getElem?_eq_getElem hlx)
    obtain ⟨f0, f1, f2, f3, f4, f5⟩ := hf it (by simp)
    have hen : es[i]? = some (entryOfKey (tupleKind (mixKind X.prog X.w)) xs[i]) := by
      rw [← Array.getElem?_toList, e4, List.getElem?_map, List.getElem?_eq_getElem hlx]; rfl
    refine next_raw st ⟨o, ho, e2, hd.2⟩ hen fun h' st' sb => ?_
    have I1 : Inv X pins σ H { s with heap := h' } := I.turned (t' := s.toks) (fun b q hb e => (sb.2 b hb).trans e) f0 f1 f3 f4 f5
    obtain ⟨q, e, c, dt⟩ := id st'
    exact ⟨_, rfl, go_of (s := { s with heap := h' }) e c dt (by decide) ⟨.ref (xs[i]).2.1, H, I1, rfl, ⟨rfl, p, _, ep1, rfl, h2⟩, st', fun b hb => (hf b hb).1⟩⟩
  done := by
    intro X hP hw hK hc i pins s σ H E I hf st hg
    subst hP hw hK
    obtain ⟨hg, hlt⟩ := hg
    obtain ⟨ho, z, y, xs, r, o', es', ep', e1, e2, e3, e4, e5⟩ := I.hok d _ hg
    rw [ho] at e1
    cases e1
    rw [hd.2] at e3
    cases e3
    have hl : es.size = kvs.length := by rw [← Array.length_toList, e4, List.length_map, paired_len r]
    obtain ⟨f0, f1, f2, f3, f4, f5⟩ := hf it (by simp)
    refine stop_raw (I.ok.hd hc) st ⟨o, ho, e2, hd.2⟩ (by omega) fun h' sb => ⟨rfl, ?_⟩
    exact I.turned (t' := s.toks) (fun b q hb e => sb b q hb e) f0 f1 f3 f4 f5
  self := fun A i s Q E st q => wpAny_pyIter_keyiter st q
def iDict (td : TE) : TI := fun σ H R => td σ H fun v H1 => ∃ d kvs, v = .ref d ∧ H1 d = some (.dT kvs) ∧ ∀ o, R (Itd d o kvs) (upd H1 d (.frz o (.dT kvs)))
theorem pi_dict {tg l : Expr} {td : TE} (hl : PE X l td) : PI X tg l (iDict td) := by
  intro pins s σ H R I h
  refine thn (hl pins s σ H _ I h) fun v s1 ⟨x, H1, I1, r1, q1⟩ => ?_
  obtain ⟨d, kvs, e, hq, q⟩ := q1
  subst e
  cases r1
  obtain ⟨z, y, xs, r, o, es, ep, e1, e2, e3, e4, e5⟩ := (show ObjOk X.prog X.w H1 s1.heap d (.dT kvs) from I1.hok d _ hq)
  refine iter_raw y ⟨o, e1, e2, e3⟩ ?_
  have I2 : Inv X pins σ (upd H1 d (.frz o (.dT kvs))) { s1 with heap := s1.heap, toks := s1.toks } := by
    refine I1.write (x := d) (e := d) (by rw [hq]; exact True.intro) (.inl rfl) (fun b q hb z => z) ⟨o, e1⟩ ⟨e1, z, y, xs, KT.keeps r fun c ys ec => ?_, o, es, ep, e1, e2, e3, e4, e5⟩
    rw [upd_ne (ne_of ec hq (fun z => nomatch z))]
    exact ec
  refine ⟨s1.heap.objs.size, [s1.heap.objs.size], _, _, _, rfl, I2.kept (t' := s1.toks) fun b q e => Heap.get?_push_of_some _ e, turn_dict ⟨e2, e3⟩, ⟨_, Heap.get?_push_size _ rfl, rfl, rfl⟩, fun b hb => ?_, q o⟩
  have e : b = s1.heap.objs.size := by simpa using hb
  subst e
  exact I2.fpOk (Nat.le_refl _) (I2.hok.fresh (Nat.le_refl _))
end
end L2
namespace Dz
open PySem PySem.Spec PyProof.Rows
section
variable {prog : Program} {w : World} {A : Around} {E : Value → Shared → Prop} {s : Shared}
theorem quiet_tup {b : Addr} {Q : Bool → Shared → Prop} (ty : s.TypeIs (.ref b) "tuple") (q : Q false s) : wpAny (model prog w) A (Builtin.Dict.quietEq (.ref b)) Q E s := by
  unfold Builtin.Dict.quietEq
  refine wpAny_bind (wpAny_specialOf ty F.slot_tuple_eq.lookup (wpAny_pure ?_))
  exact q
theorem entries_raw {id : String} {d : Addr} {es : Array DictEntry} {ep : Nat} {Q : Array DictEntry → Shared → Prop} (x : Raw s.heap d es ep) (hk : ∀ e ∈ es.toList, ∃ b, e.key = .ref b ∧ s.TypeIs (.ref b) "tuple") (hu : ∀ e ∈ es.toList, (es.filter (·.hash == e.hash)).size ≤ 1) (q : Q es s) :
    wpAny (model prog w) A (Builtin.Dict.entriesForEmpty id d) Q E s := by
  obtain ⟨o, eo, co, dd⟩ := x.at_
  unfold Builtin.Dict.entriesForEmpty
  refine wpAny_bind (wpAny_dictEntries eo dd (wpAny_bind ?_))
  rw [← Array.forIn_toList]
  refine wpAny_forIn_list _ (fun rest _ s' => s' = s ∧ ∀ e ∈ rest, e ∈ es.toList) _ ?_ ?_ _ _ ⟨rfl, fun e h => h⟩
  · rintro e rest r s' ⟨rfl, hr⟩
    obtain ⟨b, eb, ty⟩ := hk e (hr e (.head _))
    rw [eb]
    refine wpAny_bind (quiet_tup ty ?_)
    simp only [Bool.not_false, if_true]
    rw [if_neg (by have := hu e (hr e (.head _)); omega)]
    exact wpAny_pure ⟨rfl, fun y hy => hr y (.tail _ hy)⟩
  · rintro r s' ⟨rfl, _⟩
    exact wpAny_pure q
theorem merge_raw {id : String} {d o : Addr} {es : Array DictEntry} {ep ep0 : Nat} {Q : Unit → Shared → Prop} (ne : d ≠ o) (hS : (o == sysModules) = false) (x0 : Raw s.heap d #[] ep0) (x : Raw s.heap o es ep) (h0 : 0 < es.size) (hz : es.size ≤ sizeLine)
    (hk : ∀ e ∈ es.toList, ∃ b, e.key = .ref b ∧ s.TypeIs (.ref b) "tuple") (hu : ∀ e ∈ es.toList, (es.filter (·.hash == e.hash)).size ≤ 1) (q : ∀ h' ep', Raw h' d es ep' → Heap.SameBut d s.heap h' → Q () { s with heap := h' }) :
    wpAny (model prog w) A (Builtin.Dict.mergeDict id d o) Q E s := by
  obtain ⟨oo, eo, co, dd⟩ := x.at_
  obtain ⟨od, eo0, co0, dd0⟩ := x0.at_
  have few : (decide (es.size ≤ 8) && es.all fun e => (keyPart e.key).isSome) = false := by
    have : (es.all fun e => (keyPart e.key).isSome) = false := by
      rw [Bool.eq_false_iff]
      intro z
      have z := Array.all_eq_true.mp z 0 h0
      obtain ⟨b, eb, _⟩ := hk es[0] (Array.mem_toList_iff.mpr (Array.getElem_mem h0))
      rw [eb] at z
      cases z
    rw [this, Bool.and_false]
  unfold Builtin.Dict.mergeDict
  rw [if_neg (by simpa using ne)]; unfold Builtin.Dict.showsAll; rw [if_neg (by rw [hS]; exact Bool.false_ne_true)]
  refine wpAny_bind (wpAny_pure (wpAny_bind (wpAny_dictEntries eo dd ?_)))
  simp only [few, Bool.not_false, if_true]
  refine wpAny_bind (wpAny_dictEntries eo0 dd0 ?_)
  rw [if_pos (by rfl)]
  refine wpAny_bind (entries_raw x hk hu ?_)
  have hem : es.isEmpty = false := by
    rw [Bool.eq_false_iff]
    intro z
    rw [Array.isEmpty_iff] at z
    subst z
    exact absurd h0 (Nat.lt_irrefl _)
  simp only [hem, Bool.not_false, if_true]
  refine wpAny_bind (wpAny_updateDictKeysTo eo0 dd0 ?_ (by omega))
  refine wpAny_pure (q _ (ep0 + 1) ⟨_, Heap.get?_update_self _ eo0 (Obj.isFreed_of_dict (Obj.data_mapDictKeys dd0 _)), co0.mapDictKeys _, Obj.data_mapDictKeys dd0 _⟩ (Heap.SameBut.update ..))
theorem call_dict_raw {o : Addr} {es : Array DictEntry} {ep : Nat} {Q : Value → Shared → Prop} (hS : (o == sysModules) = false) (x : Raw s.heap o es ep) (h0 : 0 < es.size) (hz : es.size ≤ sizeLine)
    (hk : ∀ e ∈ es.toList, ∃ b, e.key = .ref b ∧ s.TypeIs (.ref b) "tuple") (hu : ∀ e ∈ es.toList, (es.filter (·.hash == e.hash)).size ≤ 1)
    (q : ∀ h' ep', Raw h' s.heap.objs.size es ep' → Heap.SameBut s.heap.objs.size (s.heap.push { cls := .type "dict", data := .dict #[] }) h' → Q (.ref s.heap.objs.size) { s with heap := h' }) :
    wpAny (model prog w) A (call (.type "dict") [.ref o]) Q E s := by
  obtain ⟨oo, eo, co, dd⟩ := x.at_
  have ne : s.heap.objs.size ≠ o := fun z => absurd (Heap.lt_size eo) (by rw [z]; exact Nat.lt_irrefl _)
  have kp : ∀ b u, s.heap.get? b = some u → (s.heap.push { cls := .type "dict", data := .dict #[] }).get? b = some u := fun b u e => Heap.get?_push_of_some _ e
  refine callType_codes (Q₁ := fun obj s₁ => obj = .ref s.heap.objs.size ∧ s₁ = { s with heap := s.heap.push { cls := .type "dict", data := .dict #[] } }) F.kt_called_dict (F.kt_typeCall_dict_1 _) F.entry_dict_init (kt_code_dict_new _ ⟨rfl, rfl⟩) ?_
  rintro obj s₁ ⟨rfl, rfl⟩
  have x0 : Raw (s.heap.push { cls := .type "dict", data := .dict #[] }) s.heap.objs.size #[] 0 := ⟨_, Heap.get?_push_size _ rfl, ⟨rfl, rfl, rfl⟩, rfl⟩
  have x1 : Raw (s.heap.push { cls := .type "dict", data := .dict #[] }) o es ep := x.keep fun u e => kp _ _ e
  have t0 := Raw.ty (s := { s with heap := s.heap.push { cls := .type "dict", data := .dict #[] } }) x0
  have t1 := Raw.ty (s := { s with heap := s.heap.push { cls := .type "dict", data := .dict #[] } }) x1
  refine ⟨t0, F.args_dict_init_2 _ _, ?_⟩
  unfold Builtin.«dict.__init__»; refine wpAny_bind ?_
  unfold Builtin.Dict.selfAndRest; refine wpAny_bind (wpAny_notOrdered_dict t0 ?_)
  show wpAny _ _ (pure (s.heap.objs.size, [Value.ref o])) _ _ _; refine wpAny_pure ?_
  show wpAny _ _ (Builtin.Dict.updateFrom "dict.__init__" s.heap.objs.size (.ref o) [] .none) _ _ _; unfold Builtin.Dict.updateFrom
  refine wpAny_bind (wpAny_typeOf t1 ?_); rw [if_neg (by decide)]; refine wpAny_bind ?_
  unfold Builtin.Dict.merge; refine wpAny_bind ?_; unfold Builtin.Dict.readDirectly
  refine wpAny_bind (wpAny_isInstance t1 isSubtype_dict_dict ?_); simp only [Bool.not_true, Bool.false_eq_true, if_false]
  refine wpAny_bind (wpAny_specialOf t1 F.slot_dict_iter.lookup (wpAny_pure ?_)); simp only [beq_self_eq_true, if_true]
  refine wpAny_bind (wpAny_pure (merge_raw (s := { s with heap := s.heap.push { cls := .type "dict", data := .dict #[] } }) ne hS x0 x1 h0 hz (fun e he => ?_) hu fun h' ep' x' sb => ?_))
  · obtain ⟨b, eb, ob, e1, e2⟩ := hk e he
    exact ⟨b, eb, ob, kp _ _ e1, e2⟩
  · show wpAny _ _ (Builtin.Dict.addKeywords s.heap.objs.size [] >>= _) _ _ _
    exact wpAny_bind (wpAny_pure (wpAny_pure ⟨rfl, q h' ep' x' sb⟩))
end
end Dz
namespace L2
open PySem PySem.Spec PyProof.Rows Dz
section
variable {X : Cx}
def hashU (kvs : List (List Key × V)) (P : Program) (w : World) : Prop := (kvs.map fun p => tupleKeyHash (mixKind P w) p.1).Nodup
def rDictT (P : Program) (w : World) : List V → Hp → VK → Prop := fun xs H Q => ∃ a kvs, xs = [.ref a] ∧ Rd H a (.dT kvs) ∧ 0 < kvs.length ∧ hashU kvs P w ∧ ∀ p, H p = none → Q (.ref p) (upd H p (.dT kvs))
theorem filter_one {α : Type} (f : α → Int) : ∀ (l : List α), (l.map f).Nodup → ∀ e ∈ l, (l.filter fun y => f y == f e).length ≤ 1
  | [], _, e, h => nomatch h
  | x :: l, nd, e, h => by
    have nd := List.nodup_cons.mp nd
    rw [List.filter_cons]
    by_cases z : f x = f e
    · rw [if_pos (beq_iff_eq.mpr z)]
      have : (l.filter fun y => f y == f e) = [] := List.filter_eq_nil_iff.mpr fun y hy q => nd.1 (by rw [z, ← beq_iff_eq.mp q]; exact List.mem_map.mpr ⟨y, hy, rfl⟩)
      rw [this]; exact Nat.le_refl _
    · rw [if_neg (fun q => z (beq_iff_eq.mp q))]
      rcases List.mem_cons.mp h with q | q
      · subst q; exact absurd rfl z
      · exact filter_one f l nd.2 e q
theorem paired_map {α β γ : Type} {F : α → β → Prop} {f : α → γ} {g : β → γ} : ∀ {l : List α} {m : List β}, Paired F l m → (∀ a b, F a b → f a = g b) → m.map g = l.map f
  | _, _, .nil, _ => rfl
  | _, _, .cons r t, h => by rw [List.map_cons, List.map_cons, paired_map t h, h _ _ r]
theorem call_dictT : CallR X (.type "dict") (rDictT X.prog X.w) := by
  intro pins s σ H xs us Q I r h
  obtain ⟨a, kvs, rfl, hR, h0, hu, q⟩ := h
  obtain ⟨u, rfl, ru⟩ := vals1 r
  cases ru
  obtain ⟨z, y, xs, r, o, es, ep, e1, e2, e3, e4, e5⟩ := (show ObjOk X.prog X.w H s.heap a (.dT kvs) from hR.ok I.hok)
  have hl := paired_len r
  have hes : es.size = xs.length := by rw [← Array.length_toList, e4, List.length_map]
  have hh : (xs.map fun p => tupleKeyHash (mixKind X.prog X.w) p.1) = kvs.map fun p => tupleKeyHash (mixKind X.prog X.w) p.1 := by
    exact paired_map r fun p q h => by rw [h.1]
  refine call_dict_raw y ⟨o, e1, e2, e3⟩ (by omega) (by omega) (fun e he => ?_) (fun e he => ?_) fun h' ep' x' sb => ?_
  · rw [e4] at he
    obtain ⟨p, hp, rfl⟩ := List.mem_map.mp he
    obtain ⟨i, hi⟩ := List.mem_iff_getElem?.mp hp
    obtain ⟨kv, _, h1, h2, h3⟩ := paired_get r i p hi
    obtain ⟨_, its, _, ob, e6, e7, _⟩ := (show ObjOk X.prog X.w H s.heap _ (.tup _) from I.hok _ _ h2)
    exact ⟨p.2.1, rfl, ob, e6, e7⟩
  · rw [← Array.length_toList, Array.toList_filter, e4]
    rw [e4] at he
    refine filter_one (fun y : DictEntry => y.hash) _ ?_ e he
    rw [List.map_map]
    show (xs.map fun p => tupleKeyHash (mixKind X.prog X.w) p.1).Nodup
    rw [hh]
    exact hu
  · obtain ⟨o', f1, f2, f3⟩ := x'.at_
    have hf : H s.heap.objs.size = none := I.hok.fresh (Nat.le_refl _)
    refine ⟨.ref s.heap.objs.size, _, I.laid (t' := s.toks) (a := s.heap.objs.size) (o := .dT kvs) (fun b u hb => (sb.2 b (Nat.ne_of_lt (Heap.lt_size hb))).trans (Heap.get?_push_of_some _ hb)) (Nat.le_refl _) ⟨z, beq_eq_false_iff_ne.mpr (Ne.symm (Nat.ne_of_lt I.big)), xs, KT.keeps r fun c ys ec => ?_, o', es, ep', f1, f2, f3, e4, e5⟩, rfl, q _ hf⟩
    rw [upd_ne (ne_of_none ec hf)]
    exact ec
end
end L2
namespace L2
open PySem PySem.Spec PyProof.Rows Dz
section
variable {X : Cx}
def tDispT (tk tv : TE) : TE := fun σ H Q => ∀ p, H p = none → tPairs [(tk, tv)] σ (upd H p (.dT [])) fun ps H2 => ∃ b k y, ps = [(.ref b, y)] ∧ H2 p = some (.dT []) ∧ H2 b = some (.tup (k.map kV)) ∧ Q (.ref p) (upd H2 p (.dT [(k, y)]))
theorem pe_dispT {k v : Expr} {pos : Pos} {tk tv : TE} (hu : X.A.units + 1 < cLine) (hk : PE X k tk) (hv : PE X v tv) : PE X (.Dict [some k] [v] pos) (tDispT tk tv) := by
  intro pins s σ H Q I q
  have hn := I.hok.fresh (Nat.le_refl s.heap.objs.size)
  have I1 := I.laid (a := s.heap.objs.size) (o := .dT []) (h' := s.heap.push { cls := .type "dict", data := .dict #[] }) (t' := s.toks) (fun _ _ q => Heap.get?_push_of_some _ q) (Nat.le_refl _) (dt_empty s.heap I.big)
  have pp : PPs X pos [some k] [v] [(tk, tv)] := pps_cons hk hv pps_nil
  refine wpAny_Dict_any rfl rfl (by simp) (by show 1 ≤ 15; decide) (thn (pp pins _ σ _ _ I1 (q _ hn)) fun ws s2 ⟨ps, H2, I2, rel, b, ks, y, e, e1, e2, q2⟩ => ?_)
  subst e
  cases rel with
  | @cons _ c _ _ r1 r2 =>
    cases r2
    obtain ⟨u1, u2⟩ := c
    obtain ⟨ru, rv⟩ := r1
    cases (show u1 = Value.ref b from ru)
    obtain ⟨z, hd, xs, rl, dd⟩ := dt_of I2.hok e1
    cases rl
    unfold storeAll
    rw [List.forIn_cons]
    refine wpAny_bind (wpAny_bind (wpAny_dictSet_heap (knd := tupleKind (mixKind X.prog X.w)) ?_ (dkey_of I2.hok e2) dd (fun h' dd' hs => ?_) (Nat.zero_le _)))
    · show X.A.units < cLine
      omega
    · refine wpAny_pure (wpAny_pure ⟨.ref s.heap.objs.size, _, ?_, rfl, q2⟩)
      obtain ⟨o, es, ep, h1, h2, h3, h4, _, h5⟩ := dd'
      refine d_write I2 (by rw [e1]; exact True.intro) hs ⟨o, h1⟩ ⟨by show 1 ≤ sizeLine; decide, hd, _, .cons ⟨rfl, ?_, rv⟩ .nil, o, es, ep, h1, h2, h3, h4, h5⟩
      show upd H2 s.heap.objs.size (.dT [(ks, y)]) b = _
      rw [upd_ne (ne_of e2 e1 (fun z => nomatch z))]
      exact e2
end
end L2
namespace Rk
open PySem
theorem bt_dict : bootBuiltins "dict" = some (.type "dict") := by decide +kernel
end Rk
namespace Rt
open PySem PyProof.Rows
abbrev le (c : Keyed → Keyed → Bool) (x y : Keyed) : Prop := c y x = false
section
variable {c : Keyed → Keyed → Bool}
end
def kx (xs : Array Keyed) (i : Nat) : Keyed := (xs[i]?).getD (Value.none, Value.none)
def Sg (c : Keyed → Keyed → Bool) (xs : Array Keyed) (lo hi : Nat) : Prop := ∀ i j, lo ≤ i → i ≤ j → j < hi → le c (kx xs i) (kx xs j)
structure SB (κ : SortKind) (a₀ : Array Keyed) (st : SortSt) : Prop where
  perm : (arrOf st).Perm a₀
  kind : kindOf st = κ
  failed : failedOf st = none
theorem SB.size {κ : SortKind} {a₀ : Array Keyed} {st : SortSt} (h : SB κ a₀ st) : (arrOf st).size = a₀.size := h.perm.size_eq
theorem SB.mem {κ : SortKind} {a₀ : Array Keyed} {st : SortSt} (h : SB κ a₀ st) {p : Keyed} (e : p ∈ (arrOf st).toList) : p ∈ a₀.toList := (Array.perm_iff_toList_perm.mp h.perm).mem_iff.mp e
section
variable {prog : Program} {w : World} {A : Around} {E : Value → Shared → Prop} {s : Shared} {a₀ : Array Keyed} {κ : SortKind} {c : Keyed → Keyed → Bool}
structure Fb (κ : SortKind) (a₀ : Array Keyed) (lo : Nat) (st st' : SortSt) : Prop where
  sb : SB κ a₀ st'
  pend : pendingOf st' = pendingOf st
  low : ∀ k, k < lo → kx (arrOf st') k = kx (arrOf st) k
theorem Fb.refl {st : SortSt} {lo : Nat} (h : SB κ a₀ st) : Fb κ a₀ lo st st := ⟨h, rfl, fun _ _ => rfl⟩
end
end Rt
namespace Rt
open PySem PyProof.Rows
section
variable {c : Keyed → Keyed → Bool}
abbrev Pw (c : Keyed → Keyed → Bool) (l : List Keyed) : Prop := l.Pairwise (le c)
def Out (c : Keyed → Keyed → Bool) (a b z : Array Keyed) : Prop := Pw c z.toList ∧ z.toList.Perm (a.toList ++ b.toList)
variable {a b r : Array Keyed} {i j k : Nat}
end
structure Sm (st st' : SortSt) : Prop where
  kind : kindOf st' = kindOf st
  arr : arrOf st' = arrOf st
  pend : pendingOf st' = pendingOf st
  failed : failedOf st' = failedOf st
theorem Sm.refl (st : SortSt) : Sm st st := ⟨rfl, rfl, rfl, rfl⟩
section
variable {prog : Program} {w : World} {A : Around} {E : Value → Shared → Prop} {s : Shared} {a₀ : Array Keyed} {κ : SortKind} {c : Keyed → Keyed → Bool}
end
end Rt
namespace Rt
open PySem PyProof.Rows
section
variable {c : Keyed → Keyed → Bool}
variable {a b r : Array Keyed} {i j t : Nat}
end
section
variable {prog : Program} {w : World} {A : Around} {E : Value → Shared → Prop} {s : Shared} {a₀ : Array Keyed} {κ : SortKind} {c : Keyed → Keyed → Bool}
end
end Rt
namespace Rt
open PySem PyProof.Rows
section
variable {c : Keyed → Keyed → Bool}
end
section
variable {prog : Program} {w : World} {A : Around} {E : Value → Shared → Prop} {s : Shared} {a₀ : Array Keyed} {κ : SortKind} {c : Keyed → Keyed → Bool}
end
end Rt
namespace Rt
open PySem PyProof.Rows
def RunsOk : List (Nat × Nat) → Nat → Nat → Prop
  | [], s, e => s = e
  | (s', n) :: r, s, e => s' = s ∧ 1 ≤ n ∧ RunsOk r (s + n) e
theorem RunsOk.app : ∀ {l1 l2 : List (Nat × Nat)} {s e : Nat}, RunsOk (l1 ++ l2) s e ↔ ∃ m, RunsOk l1 s m ∧ RunsOk l2 m e
  | [], l2, s, e => ⟨fun h => ⟨s, rfl, h⟩, fun ⟨m, h1, h2⟩ => by cases (show s = m from h1); exact h2⟩
  | (s', n) :: l1, l2, s, e => by
    constructor
    · rintro ⟨h1, h2, h3⟩
      obtain ⟨m, a, b⟩ := RunsOk.app.mp h3
      exact ⟨m, ⟨h1, h2, a⟩, b⟩
    · rintro ⟨m, ⟨h1, h2, a⟩, b⟩
      exact ⟨h1, h2, RunsOk.app.mpr ⟨m, a, b⟩⟩
theorem RunsOk.le : ∀ {l : List (Nat × Nat)} {s e : Nat}, RunsOk l s e → s + l.length ≤ e
  | [], s, e, h => by cases (show s = e from h); exact Nat.le_refl _
  | (s', n) :: l, s, e, ⟨_, h2, h3⟩ => by
    have := RunsOk.le h3
    rw [List.length_cons]
    omega
theorem RunsOk.mem : ∀ {l : List (Nat × Nat)} {s e : Nat}, RunsOk l s e → ∀ p ∈ l, s ≤ p.1 ∧ p.1 + p.2 ≤ e
  | (s', n) :: l, s, e, ⟨h1, h2, h3⟩, p, hp => by
    have hl := RunsOk.le h3
    rcases List.mem_cons.mp hp with z | z
    · subst z
      show s ≤ s' ∧ s' + n ≤ e
      omega
    · have := RunsOk.mem h3 p z
      omega
section
variable {prog : Program} {w : World} {A : Around} {E : Value → Shared → Prop} {s : Shared} {a₀ : Array Keyed} {κ : SortKind} {c : Keyed → Keyed → Bool}
theorem Sg.same {xs ys : Array Keyed} {u v : Nat} (h : Sg c xs u v) (k : ∀ n, u ≤ n → n < v → kx ys n = kx xs n) : Sg c ys u v := fun i j hi hij hj => by
  rw [k i hi (by omega), k j (by omega) hj]
  exact h i j hi hij hj
end
end Rt
namespace L2
open PySem PySem.Spec PyProof.Rows
def blk (X : Cx) (M : List Str) (scope : Scope) (cl : List (Str × Addr)) (ex : List Addr) (s3 : Shared) (H3 : Hp) (C : Addr) : Cx where
  prog := X.prog
  w := X.w
  K := X.K
  mg := X.mg
  base := X.base
  A := X.A
  N := M
  s₀ := s3
  H₀ := H3
  env := compEnvC scope cl C X.env
  outer := X.stack
  stack := X.stack
  ex := ex
  fn := fun _ => false
  calm := X.calm
  pn := []
  xe := fun _ _ => False
def clOf (env : Env) : List (Str × NameKind) → List (Str × Addr) → List (Str × Addr)
  | [], acc => acc
  | (n, k) :: r, acc => clOf env r (if k = .free then (n, (env.cells.lookup n).getD 0) :: acc else acc)
theorem clos_go {env : Env} : ∀ (l : List (Str × NameKind)) (acc : List (Str × Addr)), (∀ x ∈ l, x.2 = .free → ∃ c, env.cells.lookup x.1 = some c) →
    (forIn (m := Sem) l acc fun x cs => (if (x.2 == NameKind.free) = true then do let a ← cellOf env x.1; pure (ForInStep.yield ((x.1, a) :: cs)) else pure (ForInStep.yield cs))) = pure (clOf env l acc)
  | [], acc, _ => rfl
  | (n, k) :: r, acc, h => by
    rw [List.forIn_cons]
    by_cases hk : k = .free
    · subst hk
      obtain ⟨c, hc⟩ := h (n, .free) List.mem_cons_self rfl
      have e1 : cellOf env n = pure c := by unfold cellOf; rw [hc]
      have e2 : clOf env ((n, .free) :: r) acc = clOf env r ((n, c) :: acc) := by
        show clOf env r (if NameKind.free = .free then (n, (env.cells.lookup n).getD 0) :: acc else acc) = _
        rw [if_pos rfl, hc]; rfl
      rw [e2]
      show ((if (NameKind.free == NameKind.free) = true then do let a ← cellOf env n; pure (ForInStep.yield ((n, a) :: acc)) else pure (ForInStep.yield acc)) >>= _) = _
      rw [if_pos (show (NameKind.free == NameKind.free) = true by decide), e1]
      exact clos_go r _ fun x hx => h x (List.mem_cons_of_mem _ hx)
    · have hb : (k == NameKind.free) = false := by simpa using hk
      have e2 : clOf env ((n, k) :: r) acc = clOf env r acc := by
        show clOf env r (if k = .free then (n, (env.cells.lookup n).getD 0) :: acc else acc) = _
        rw [if_neg hk]
      rw [e2]
      show ((if (k == NameKind.free) = true then _ else pure (ForInStep.yield acc)) >>= _) = _
      rw [hb, if_neg Bool.false_ne_true]
      exact clos_go r _ fun x hx => h x (List.mem_cons_of_mem _ hx)
theorem clos_eq {scope : Scope} {env : Env} (h : ∀ x ∈ scope.names, x.2 = .free → ∃ c, env.cells.lookup x.1 = some c) : closureFor scope env = pure (clOf env scope.names []) := by
  have e := clos_go (env := env) scope.names [] h
  unfold closureFor
  show (forIn scope.names [] _ >>= _) = _
  have e' : (forIn (m := Sem) scope.names ([] : List (Str × Addr)) fun x cs => match x with | (name, kind) => (if (kind == NameKind.free) = true then do let a ← cellOf env name; pure (ForInStep.yield ((name, a) :: cs)) else pure (ForInStep.yield cs))) = pure (clOf env scope.names []) := e
  first
    | (rw [e']; rfl)
    | (refine Eq.trans (congrArg (fun t => t >>= _) e') ?_; rfl)
theorem clOf_ok {env : Env} : ∀ (l : List (Str × NameKind)) (acc : List (Str × Addr)), (∀ x ∈ l, x.2 = .free → ∃ c, env.cells.lookup x.1 = some c) → (∀ x c, acc.lookup x = some c → env.cells.lookup x = some c) →
    (∀ x c, (clOf env l acc).lookup x = some c → env.cells.lookup x = some c) ∧ (∀ x c, acc.lookup x = some c → (clOf env l acc).lookup x = some c) ∧ ∀ x, (x, NameKind.free) ∈ l → ∃ c, (clOf env l acc).lookup x = some c
  | [], acc, _, ha => ⟨ha, fun _ _ h => h, fun _ h => nomatch h⟩
  | (n, k) :: r, acc, h, ha => by
    have hr : ∀ x ∈ r, x.2 = .free → ∃ c, env.cells.lookup x.1 = some c := fun x hx => h x (List.mem_cons_of_mem _ hx)
    by_cases hk : k = .free
    · subst hk
      obtain ⟨c, hc⟩ := h (n, .free) List.mem_cons_self rfl
      have e2 : clOf env ((n, .free) :: r) acc = clOf env r ((n, c) :: acc) := by
        show clOf env r (if NameKind.free = .free then (n, (env.cells.lookup n).getD 0) :: acc else acc) = _
        rw [if_pos rfl, hc]; rfl
      rw [e2]
      have ha' : ∀ x c', ((n, c) :: acc).lookup x = some c' → env.cells.lookup x = some c' := fun x c' q => by
        rw [List.lookup_cons] at q
        cases hx : x == n with
        | true =>
          rw [hx] at q
          have z : c = c' := Option.some.inj q
          have y : x = n := by simpa using hx
          rw [y, ← z]; exact hc
        | false => rw [hx] at q; exact ha x c' q
      obtain ⟨i1, i2, i3⟩ := clOf_ok r ((n, c) :: acc) hr ha'
      refine ⟨i1, fun x c' q => ?_, fun x hx => ?_⟩
      · refine i2 x c' ?_
        rw [List.lookup_cons]
        cases hx : x == n with
        | true =>
          have y : x = n := by simpa using hx
          have := ha x c' q
          rw [y, hc] at this
          exact this
        | false => exact q
      · rcases List.mem_cons.mp hx with z | z
        · cases z
          exact ⟨c, i2 n c (by rw [List.lookup_cons, beq_self_eq_true])⟩
        · exact i3 x z
    · have e2 : clOf env ((n, k) :: r) acc = clOf env r acc := by
        show clOf env r (if k = .free then (n, (env.cells.lookup n).getD 0) :: acc else acc) = _
        rw [if_neg hk]
      rw [e2]
      obtain ⟨i1, i2, i3⟩ := clOf_ok r acc hr ha
      refine ⟨i1, i2, fun x hx => ?_⟩
      rcases List.mem_cons.mp hx with z | z
      · cases z; exact absurd rfl hk
      · exact i3 x z
theorem lookup_mem {l : List (Str × NameKind)} {x : Str} {k : NameKind} (h : l.lookup x = some k) : (x, k) ∈ l := by
  induction l with
  | nil => cases h
  | cons p r ih =>
    obtain ⟨n, q⟩ := p
    rw [List.lookup_cons] at h
    cases hx : x == n with
    | true =>
      rw [hx] at h
      have y : x = n := by simpa using hx
      have z : q = k := Option.some.inj h
      subst y z; exact List.mem_cons_self
    | false => rw [hx] at h; exact List.mem_cons_of_mem _ (ih h)
theorem relabel_lookup {env : Env} : ∀ {names : List (Str × NameKind)} {x : Str} {k : NameKind}, (names.map fun (n, k) => if (k == NameKind.free && env.scope.kind == .function && env.kindOf n == some .cell) then (n, NameKind.cell) else (n, k)).lookup x = some k →
    names.lookup x = some k ∨ (k = .cell ∧ names.lookup x = some .free)
  | [], x, k, h => by cases h
  | (n, q) :: r, x, k, h => by
    have ih := @relabel_lookup env r x k
    rw [List.map_cons] at h
    have h' : List.lookup x ((if (q == NameKind.free && env.scope.kind == .function && env.kindOf n == some .cell) = true then (n, NameKind.cell) else (n, q)) :: _) = some k := h
    cases hx : x == n with
    | true =>
      by_cases hc : (q == NameKind.free && env.scope.kind == .function && env.kindOf n == some .cell) = true
      · rw [if_pos hc, List.lookup_cons, hx] at h'
        have z : NameKind.cell = k := Option.some.inj h'
        have y : q = .free := by simp at hc; exact hc.1.1
        refine .inr ⟨z.symm, ?_⟩
        rw [List.lookup_cons, hx, y]
      · rw [if_neg hc, List.lookup_cons, hx] at h'
        refine .inl ?_
        rw [List.lookup_cons, hx]; exact h'
    | false =>
      have h2 : List.lookup x (r.map fun (n, k) => if (k == NameKind.free && env.scope.kind == .function && env.kindOf n == some .cell) then (n, NameKind.cell) else (n, k)) = some k := by
        by_cases hc : (q == NameKind.free && env.scope.kind == .function && env.kindOf n == some .cell) = true
        · rw [if_pos hc, List.lookup_cons, hx] at h'; exact h'
        · rw [if_neg hc, List.lookup_cons, hx] at h'; exact h'
      rw [List.lookup_cons, hx]
      exact ih h2
theorem relabel_free {env : Env} : ∀ {names : List (Str × NameKind)} {x : Str}, names.lookup x = some .free → (names.map fun (n, k) => if (k == NameKind.free && env.scope.kind == .function && env.kindOf n == some .cell) then (n, NameKind.cell) else (n, k)).lookup x = some .cell ∨
      (names.map fun (n, k) => if (k == NameKind.free && env.scope.kind == .function && env.kindOf n == some .cell) then (n, NameKind.cell) else (n, k)).lookup x = some .free
  | [], x, h => by cases h
  | (n, q) :: r, x, h => by
    have ih := @relabel_free env r x
    rw [List.map_cons]
    show List.lookup x ((if (q == NameKind.free && env.scope.kind == .function && env.kindOf n == some .cell) = true then (n, NameKind.cell) else (n, q)) :: _) = some .cell ∨ List.lookup x ((if (q == NameKind.free && env.scope.kind == .function && env.kindOf n == some .cell) = true then (n, NameKind.cell) else (n, q)) :: _) = some .free
    cases hx : x == n with
    | true =>
      rw [List.lookup_cons, hx] at h
      have z : q = NameKind.free := Option.some.inj h
      subst z
      by_cases hc : (NameKind.free == NameKind.free && env.scope.kind == .function && env.kindOf n == some .cell) = true
      · rw [if_pos hc, List.lookup_cons, hx]; exact .inl rfl
      · rw [if_neg hc, List.lookup_cons, hx]; exact .inr rfl
    | false =>
      rw [List.lookup_cons, hx] at h
      by_cases hc : (q == NameKind.free && env.scope.kind == .function && env.kindOf n == some .cell) = true
      · rw [if_pos hc, List.lookup_cons, hx]; exact ih h
      · rw [if_neg hc, List.lookup_cons, hx]; exact ih h
def capOk (N : List Str) (sc : Scope) (M : List Str) (scope : Scope) (cap : List (Option Nat)) : Bool :=
  cap.length == M.length && (M.zip cap).all (fun (x, o) => match o with
    | none => scope.names.lookup x == some .local
    | some j => N[j]? == some x && (scope.names.lookup x == some .free && (sc.names.lookup x == some .cell || sc.names.lookup x == some .free))) &&
  (scope.kind == .function && scope.names.all fun y => y.2 != .cell && ((y.2 != .free || (sc.names.lookup y.1 == some .cell || sc.names.lookup y.1 == some .free)) && (y.2 != .local || scope.names.lookup y.1 == some .local)))
def capS (cap : List (Option Nat)) (σ : St) : St := cap.map fun o => match o with
  | none => none
  | some j => (σ[j]?).getD none
structure CapOk (N : List Str) (sc : Scope) (M : List Str) (scope : Scope) (cap : List (Option Nat)) : Prop where
  len : cap.length = M.length
  own : ∀ (i j : Nat) (x : Str), M[i]? = some x → cap[i]? = some (some j) → N[j]? = some x ∧ scope.names.lookup x = some .free ∧ (sc.names.lookup x = some .cell ∨ sc.names.lookup x = some .free)
  kind : scope.kind = .function
  cell : ∀ y ∈ scope.names, y.2 ≠ .cell
  free : ∀ y ∈ scope.names, y.2 = .free → sc.names.lookup y.1 = some .cell ∨ sc.names.lookup y.1 = some .free
  loc : ∀ y ∈ scope.names, y.2 = .local → scope.names.lookup y.1 = some .local
theorem CapOk.of {N : List Str} {sc : Scope} {M : List Str} {scope : Scope} {cap : List (Option Nat)} (h : capOk N sc M scope cap = true) : CapOk N sc M scope cap := by
  unfold capOk at h
  simp only [Bool.and_eq_true, List.all_eq_true, beq_iff_eq] at h
  obtain ⟨⟨h1, h2⟩, h3, h4⟩ := h
  refine ⟨h1, fun i j x e1 e2 => ?_, h3, fun y hy z => ?_, fun y hy z => ?_, fun y hy z => ?_⟩
  · have hm : (x, some j) ∈ M.zip cap := by
      have : (M.zip cap)[i]? = some (x, some j) := by rw [List.getElem?_zip_eq_some]; exact ⟨e1, e2⟩
      exact List.mem_of_getElem? this
    have := h2 _ hm
    simp only [Bool.and_eq_true, beq_iff_eq, Bool.or_eq_true] at this
    exact this
  · have := (h4 y hy).1
    simp [z] at this
  · have := (h4 y hy).2.1
    simpa [z] using this
  · have := (h4 y hy).2.2
    simpa [z] using this
section
variable {X : Cx} {pins : List (Addr × Obj)} {σ : St} {H H3 : Hp} {s3 : Shared} {M : List Str} {scope : Scope} {cap : List (Option Nat)} {fp : List Addr} {h4 : Heap} {t4 : Nat}
theorem Cx.Ok.cells (ok : X.Ok) {N : List Str} (c : CapOk N X.env.scope M scope cap) : ∀ y ∈ scope.names, y.2 = .free → ∃ d, X.env.cells.lookup y.1 = some d := fun y hy z => ok.has y.1 (c.free y hy z)
theorem blk_start (I : Inv X pins σ H3 s3) (c : CapOk X.N X.env.scope M scope cap) (hf : ∀ b ∈ fp, FpOk X pins H3 b) (hb : ∀ b ∈ fp, b < s3.heap.objs.size)
    (hn : h4.Ns s3.heap.objs.size fun _ => none) (hk : ∀ b o, s3.heap.get? b = some o → h4.get? b = some o) :
    Inv (blk X M scope (clOf X.env scope.names []) fp s3 H3 s3.heap.objs.size) [] (capS cap σ) H3 { s3 with heap := h4, toks := t4 } := by
  obtain ⟨c1, c2, c3⟩ := clOf_ok scope.names [] (I.ok.cells c) (fun x d q => by cases q)
  refine ⟨⟨I.ok.mod, c.kind, I.ok.glob, I.ok.blt, Nat.le_refl _, fun x y d e1 e2 => I.ok.inj x y d (c1 x d e1) (c1 y d e2), fun x hx => ?_, (fun x d z => nomatch z), I.ok.hd, I.ok.frames, .inl rfl, fun b hb' => ?_, I.bs,
    Nat.le_trans I.ok.bsz I.sz, fun b o e z => ?_, fun b hb' z => ?_, I.stack, I.stkFree⟩, rfl, I.bare, Un.kept hk, ⟨_, hn, fun i x v e1 e2 e3 => ?_⟩, fun x d e => ?_, I.hok.fresh (Nat.le_refl _), fun x d e => I.freeC x d (c1 x d e), fun p hp => (nomatch hp), I.hok.kept hk, ?_⟩
  · have hx' : (relabel scope X.env).names.lookup x = some .cell ∨ (relabel scope X.env).names.lookup x = some .free := hx
    rcases hx' with q | q
    · rcases relabel_lookup q with z | ⟨_, z⟩
      · exact absurd rfl (c.cell _ (lookup_mem z))
      · exact c3 x (lookup_mem z)
    · rcases relabel_lookup q with z | ⟨z, _⟩
      · exact c3 x (lookup_mem z)
      · cases z
  · obtain ⟨f0, f1, f2, f3, f4, f5⟩ := hf b hb'
    exact ⟨Nat.ne_of_lt (hb b hb'), fun x d e => f4 x d (c1 x d e)⟩
  · obtain ⟨f0, f1, f2, f3, f4, f5⟩ := hf b z
    rcases f3 with q | q
    · exact I.ok.noex b o e q
    · exact absurd (Nat.lt_of_lt_of_le (Heap.lt_size e) (Nat.le_trans I.ok.bsz q)) (Nat.lt_irrefl _)
  · obtain ⟨f0, f1, f2, f3, f4, f5⟩ := hf b hb'
    rcases List.mem_cons.mp (I.stkSub b z) with q | q
    · exact f1 q
    · exact f2 q
  · have e2' : (cap.map fun o => match o with | none => none | some j => (σ[j]?).getD none)[i]? = some (some v) := e2
    rw [List.getElem?_map] at e2'
    cases q : cap[i]? with
    | none => rw [q] at e2'; cases e2'
    | some o =>
      rw [q] at e2'
      cases o with
      | none => cases e2'
      | some j =>
        have e4 : (σ[j]?).getD none = some v := Option.some.inj e2'
        have e5 : σ[j]? = some (some v) := by
          cases r : σ[j]? with
          | none => rw [r] at e4; cases e4
          | some o => rw [r] at e4; exact congrArg some e4
        obtain ⟨n1, n2, n3⟩ := c.own i j x e1 q
        obtain ⟨m, hm, hl⟩ := I.loc
        obtain ⟨u, ru, lk⟩ := hl j x v n1 e5 (n3.elim (fun z => .inr (.inl z)) fun z => .inr (.inr z))
        refine ⟨u, ru, .inr ?_⟩
        rcases lk with ⟨k1, _⟩ | ⟨_, d, k2, k3⟩
        · have k1' : X.env.scope.names.lookup x = some .local := k1
          rcases n3 with z | z <;> (rw [z] at k1'; cases k1')
        · obtain ⟨d', hd'⟩ := c3 x (lookup_mem n2)
          have ed : d' = d := by
            have := c1 x d' hd'
            rw [k2] at this
            exact (Option.some.inj this).symm
          subst ed
          exact ⟨(relabel_free n2 : (relabel scope X.env).names.lookup x = some .cell ∨ (relabel scope X.env).names.lookup x = some .free), d', hd', k3.keeps hk⟩
  · obtain ⟨v, q⟩ := I.cell x d (c1 x d e)
    exact ⟨v, q.keeps hk⟩
  · show (cap.map _).length = M.length
    rw [List.length_map]; exact c.len
theorem blk_end {σ' : St} {s' : Shared} {h' : Heap} (I : Inv X pins σ H3 s3) (hf : ∀ b ∈ fp, FpOk X pins H3 b) (J : Inv (blk X M scope (clOf X.env scope.names []) fp s3 H3 s3.heap.objs.size) [] σ' H s') (hs : Heap.SameBut s3.heap.objs.size s'.heap h') :
    Inv X pins σ H { s' with heap := h' } := by
  have u : Un (frs X.stack) fp H3 H s3.heap s'.heap := J.base
  have ne : ∀ b o, s3.heap.get? b = some o → b ≠ s3.heap.objs.size := fun b o e => Nat.ne_of_lt (Heap.lt_size e)
  have hC : H s3.heap.objs.size = none := J.free
  refine I.call' (ch := fp) (s' := { s' with heap := h' }) J.os ⟨fun b o e n hb hx => (hs.2 b (ne b o e)).trans (u.keep b o e n hb hx), fun b o e n hb hx => ?_, u.free, fun b o e hx => ?_, u.tups, u.frzs, u.tbls⟩ (fun b o e => ?_) J.bare fun b hb => ?_
  · obtain ⟨sl, q⟩ := u.slot b o e n hb hx
    exact ⟨sl, (hs.2 b (ne b o e)).trans q⟩
  · obtain ⟨o', q⟩ := u.there b o e hx
    exact ⟨o', (hs.2 b (ne b o e)).trans q⟩
  · refine (J.hok b o e).stay (fun c v hc q => (hs.2 c ?_).trans q) (fun _ q => q) fun _ _ q => q
    rintro rfl
    rcases hc with z | z
    · rw [← z, hC] at e; cases e
    · rw [hC] at z; cases z
  · obtain ⟨f0, f1, f2, f3, f4, f5⟩ := hf b hb
    exact ⟨f3, f1, f4, f5⟩
end
end L2
namespace L2
open PySem PySem.Spec PyProof.Rows
def Wk : St → St → Prop
  | [], [] => True
  | none :: a, _ :: b => Wk a b
  | some v :: a, some u :: b => v = u ∧ Wk a b
  | _, _ => False
theorem Wk.len : ∀ {a b : St}, Wk a b → a.length = b.length
  | [], [], _ => rfl
  | none :: a, _ :: b, h => congrArg (· + 1) (Wk.len (a := a) (b := b) h)
  | some v :: a, some u :: b, h => congrArg (· + 1) (Wk.len (a := a) (b := b) h.2)
  | [], _ :: _, h => h.elim
  | some _ :: _, [], h => h.elim
  | none :: _, [], h => h.elim
  | some _ :: _, none :: _, h => h.elim
theorem Wk.get : ∀ {a b : St}, Wk a b → ∀ (i : Nat) v, a[i]? = some (some v) → b[i]? = some (some v)
  | [], [], _, i, v, h => by simp at h
  | none :: a, x :: b, h, 0, v, e => by simp at e
  | none :: a, x :: b, h, i + 1, v, e => by
    simp only [List.getElem?_cons_succ] at e ⊢
    exact Wk.get (a := a) (b := b) h i v e
  | some q :: a, some u :: b, h, 0, v, e => by
    simp only [List.getElem?_cons_zero] at e ⊢
    rw [← h.1]; exact e
  | some q :: a, some u :: b, h, i + 1, v, e => by
    simp only [List.getElem?_cons_succ] at e ⊢
    exact Wk.get (a := a) (b := b) h.2 i v e
  | [], _ :: _, h, _, _, _ => h.elim
  | some _ :: _, [], h, _, _, _ => h.elim
  | none :: _, [], h, _, _, _ => h.elim
  | some _ :: _, none :: _, h, _, _, _ => h.elim
theorem Inv.wk {X : Cx} {pins : List (Addr × Obj)} {σ σ' : St} {H : Hp} {s : Shared} (I : Inv X pins σ H s) (h : Wk σ' σ) : Inv X pins σ' H s := I.weak h.len h.get
def tLoop (J : It) (body : V → Hp → (Hp → Prop) → Prop) (Qn : Hp → Prop) (H : Hp) : Prop :=
  ∃ W : Nat → Nat → Hp → Prop, (∃ m, W 0 m H) ∧ ∀ i m H2, W i m H2 → (J.stop i H2 ∧ Qn H2) ∨ (J.go i H2 ∧ ∀ x H3, J.yld i H2 x H3 → body x H3 fun H6 => ∃ m', m' < m ∧ W (i + 1) m' H6)
abbrev Act := (Shared → Prop) → Shared → Prop
def BodyOk (Y : Cx) (σ : St) (act : Act) (b : Hp → (Hp → Prop) → Prop) : Prop :=
  ∀ (pins : List (Addr × Obj)) (s : Shared) (H : Hp) (k : Hp → Prop) (Q : Shared → Prop), Inv Y pins σ H s → b H k → (∀ s' H', Inv Y pins σ H' s' → k H' → Q s') → act Q s
theorem comp_loop {Y : Cx} {σ : St} {tg : Expr} {elt : Expr} {gens : List Comprehension} {scope : Scope} {cpos : Pos} {d : Nat} {it D : Addr} {fp : List Addr} {tn : Nat → Heap → Prop} {J : It} {pins : List (Addr × Obj)} {s : Shared} {H : Hp} {body : V → Hp → (Hp → Prop) → Prop} {Qn : Hp → Prop} {R : Result → Shared → Prop} {act : Value → Act}
    (hc : Y.calm = true) (T : Turn Y.prog Y.w Y.K tg J fp it tn) (st : tn 0 s.heap) (hf : ∀ b ∈ fp, FpOk Y pins H b)
    (hturn : ∀ (Q : PySem.Fin → Shared → Prop) (E : Value → Shared → Prop) (s : Shared), wpAny (model Y.prog Y.w) Y.A (pyNext (.ref it)) (fun r s1 => match r with
      | none => Q (.done .next) s1
      | some v => wpAny (model Y.prog Y.w) Y.A (letOwnedTupleGo tg (.ref it) v) (fun _ s2 => act v (fun s3 => Q (.again (.compLoop (.ListComp elt gens scope cpos) d (.ref it) (.ref D) Y.env)) s3) s2) E s1) E s →
      wpAny (model Y.prog Y.w) Y.A (compTurn (.ListComp elt gens scope cpos) d (.ref it) (.ref D) Y.env) Q E s)
    (hact : ∀ (x : V) (u : Value), RelV x u → BodyOk Y σ (act u) (body x))
    (I : Inv Y pins σ H s) (h : tLoop J body Qn H) (hR : ∀ s' H', Inv Y pins σ H' s' → Qn H' → R (.ok .next) s') :
    codeAny (model Y.prog Y.w) Y.A (.compLoop (.ListComp elt gens scope cpos) d (.ref it) (.ref D) Y.env) R s := by
  obtain ⟨W, ⟨m0, w0⟩, turn⟩ := h
  have stat : ∀ {H' : Hp}, (∀ b ∈ fp, H' b = none) → ∀ b ∈ fp, FpOk Y pins H' b := fun hn b hb => ⟨hn b hb, (hf b hb).2⟩
  refine codeAny_loop rfl (fun n s' => ∃ i H', Inv Y pins σ H' s' ∧ tn i s'.heap ∧ (∀ b ∈ fp, H' b = none) ∧ W i n H') (fun n s3 hI => ?_) m0 ⟨0, H, I, st, fun b hb => (hf b hb).1, w0⟩
  show wpAny _ Y.A ((compTurn (.ListComp elt gens scope cpos) d (.ref it) (.ref D) Y.env).onRaise (fun x => do noteFrame x Y.env; theTreesLotGoes x)) _ _ s3
  refine wpAny_noted (hturn _ _ _ ?_)
  obtain ⟨i, H3, I3, st3, fr3, w3⟩ := hI
  rcases turn i n H3 w3 with ⟨stop, qn⟩ | ⟨go, step⟩
  · refine thn (T.done Y rfl rfl rfl hc i pins s3 σ H3 _ I3 (stat fr3) st3 stop) fun r s4 ⟨hr, I4⟩ => ?_
    subst hr
    exact hR s4 H3 I4 qn
  · refine thn (T.item Y rfl rfl rfl hc i pins s3 σ H3 _ I3 (stat fr3) st3 go) fun r s4 ⟨u, hr, h4⟩ => ?_
    subst hr
    refine thn h4 fun _ s5 ⟨x, H5, I5, r5, y5, st5, fr5⟩ => ?_
    have I5' := I5.pinned (stat fr5) (T.obj _ _ st5)
    refine hact x u r5 _ s5 H5 _ _ I5' (step x H5 y5) fun s7 H7 I7 ⟨m', hm, w7⟩ => ?_
    refine ⟨rfl, m', hm, i + 1, H7, I7.unpinned, T.keep _ _ _ st5 fun b hb o e => (I7.pin (b, o) (List.mem_append_right _ (List.mem_append_right _ (mem_pinsAt hb e)))).1, fun b hb => ?_, w7⟩
    obtain ⟨o, e, dd⟩ := T.obj _ _ st5 b hb
    exact (I7.pin (b, o) (List.mem_append_right _ (List.mem_append_right _ (mem_pinsAt hb e)))).2.1
abbrev testsOf (ifs : List Expr) (env : Env) : Sem Bool := forIn ifs true fun c r => if r = true then do let ok ← isTrue c env (eval c env); pure (ForInStep.yield ok) else pure (ForInStep.yield r)
def PTs (Y : Cx) (ifs : List Expr) (t : TT) : Prop :=
  ∀ (pins : List (Addr × Obj)) (s : Shared) (σ : St) (H : Hp) (Q : Bool → Hp → Prop), Inv Y pins σ H s → t σ H Q → wpAny (model Y.prog Y.w) Y.A (testsOf ifs Y.env) (TP Y pins σ Q) Y.xe s
def tNoTest : TT := fun _ H Q => Q true H
theorem pts_nil {Y : Cx} : PTs Y [] tNoTest := fun pins s σ H Q I h => wpAny_tests_nil ⟨H, I, h⟩
theorem pts_one {Y : Cx} {c : Expr} {t : TT} (h : PT Y c t) : PTs Y [c] t := fun pins s σ H Q I q => wpAny_tests_one (h pins s σ H Q I q)
def actOf (Y : Cx) (tg : Expr) (ifs : List Expr) (inner : Act) : Value → Act := fun u Q s =>
  wpAny (model Y.prog Y.w) Y.A (assign tg Y.env u) (fun _ s4 => wpAny (model Y.prog Y.w) Y.A (testsOf ifs Y.env) (fun ok s5 => if ok = true then inner Q s5 else Q s5) (fun _ _ => False) s4) (fun _ _ => False) s
def bOf (σ : St) (g : TG) (tc : TT) (inner : St → Hp → (Hp → Prop) → Prop) : V → Hp → (Hp → Prop) → Prop := fun x H k => g x σ H fun σ4 H4 => Wk σ σ4 ∧ tc σ4 H4 fun b H5 =>
  if b = true then inner σ4 H5 k else k H5
theorem body_of {Y : Cx} {σ : St} {tg : Expr} {ifs : List Expr} {g : TG} {tc : TT} {inner : Act} {ri : St → Hp → (Hp → Prop) → Prop} (hx : Y.xe = fun _ _ => False) (hg : PG Y tg g) (ht : PTs Y ifs tc) (he : ∀ σ4, BodyOk Y σ4 inner (ri σ4)) (x : V) (u : Value) (r : RelV x u) :
    BodyOk Y σ (actOf Y tg ifs inner u) (bOf σ g tc ri x) := by
  intro pins s H k Q I h hQ
  have hx' : ∀ (v : Value) (s' : Shared), Y.xe v s' → False := fun v s' z => by rw [hx] at z; exact z
  refine wpAny_mono (hg pins s σ H x u _ I r h) (fun _ s4 ⟨σ4, H4, I4, wk, q4⟩ => ?_) hx'
  refine wpAny_mono (ht pins s4 σ4 H4 _ I4 q4) (fun b s5 ⟨H5, I5, q5⟩ => ?_) hx'
  cases b with
  | false =>
    rw [if_neg Bool.false_ne_true] at q5
    rw [if_neg Bool.false_ne_true]
    exact hQ s5 H5 (I5.wk wk) q5
  | true =>
    rw [if_pos rfl] at q5
    rw [if_pos rfl]
    exact he σ4 pins s5 H5 k Q I5 q5 fun s' H' I' k' => hQ s' H' (I'.wk wk) k'
def actElt (Y : Cx) (elt : Expr) (D : Addr) : Act := fun Q s => wpAny (model Y.prog Y.w) Y.A (eval elt Y.env) (fun v s6 => wpAny (model Y.prog Y.w) Y.A (call (.builtin "list.append") [.ref D, v]) (fun _ s7 => Q s7) (fun _ _ => False) s6) (fun _ _ => False) s
def bElt (p : Addr) (te : TE) : St → Hp → (Hp → Prop) → Prop := fun σ H k => te σ H fun v H6 => ∃ ys, H6 p = some (.lst ys) ∧ ys.length < sizeLine ∧ k (upd H6 p (.lst (ys ++ [v])))
theorem body_elt {Y : Cx} {σ : St} {elt : Expr} {te : TE} {D : Addr} (hx : Y.xe = fun _ _ => False) (he : PE Y elt te) : BodyOk Y σ (actElt Y elt D) (bElt D te σ) := by
  intro pins s H k Q I h hQ
  have hx' : ∀ (v : Value) (s' : Shared), Y.xe v s' → False := fun v s' z => by rw [hx] at z; exact z
  refine wpAny_mono (he pins s σ H _ I h) (fun v s6 ⟨y, H6, I6, r6, ys, e, hz, q⟩ => ?_) hx'
  exact wpAny_mono (mt_append (X := Y) pins s6 σ H6 (.ref D) [y] (.ref D) [v] (fun _ H' => k H') I6 rfl (.cons r6 .nil) ⟨D, ys, y, rfl, rfl, e, hz, q⟩) (fun _ s7 ⟨_, H7, I7, _, q7⟩ => hQ s7 H7 I7 q7) hx'
theorem turn_one {Y : Cx} {elt tg iter : Expr} {ifs : List Expr} {scope : Scope} {cpos : Pos} {it D : Addr} (Q : PySem.Fin → Shared → Prop) (E : Value → Shared → Prop) (s : Shared)
    (h : wpAny (model Y.prog Y.w) Y.A (pyNext (.ref it)) (fun r s1 => match r with
      | none => Q (.done .next) s1
      | some v => wpAny (model Y.prog Y.w) Y.A (letOwnedTupleGo tg (.ref it) v) (fun _ s2 => actOf Y tg ifs (actElt Y elt D) v (fun s3 => Q (.again (.compLoop (.ListComp elt [⟨tg, iter, ifs, 0⟩] scope cpos) 0 (.ref it) (.ref D) Y.env)) s3) s2) E s1) E s) :
    wpAny (model Y.prog Y.w) Y.A (compTurn (.ListComp elt [⟨tg, iter, ifs, 0⟩] scope cpos) 0 (.ref it) (.ref D) Y.env) Q E s := by
  rw [compTurn_list]
  refine wpAny_bind (wpAny_standAt (wpAny_bind (thn h fun r s1 h1 => ?_)))
  cases r with
  | none => exact wpAny_pure h1
  | some v =>
    refine wpAny_bind (thn h1 fun _ s2 h2 => ?_)
    refine wpAny_bind (wpAny_mono h2 (fun _ s4 h4 => wpAny_bind (wpAny_mono h4 (fun ok s5 h5 => ?_) fun _ _ f => f.elim)) fun _ _ f => f.elim)
    cases ok with
    | false => exact wpAny_pure h5
    | true => exact wpAny_bind (wpAny_bind (wpAny_mono h5 (fun x s6 h6 => wpAny_bind (wpAny_mono h6 (fun _ s7 h7 => wpAny_pure (wpAny_pure h7)) fun _ _ f => f.elim)) fun _ _ f => f.elim))
def tComp (cap : List (Option Nat)) (wi : TI) (g : TG) (tc : TT) (te : TE) : TE := fun σ H Q => wi σ H fun J H1 => ∀ p, H1 p = none → tLoop J (bOf (capS cap σ) g tc (bElt p te)) (Q (.ref p)) (upd H1 p (.lst []))
theorem FpOk.upd {X : Cx} {pins : List (Addr × Obj)} {H : Hp} {b a : Addr} {o : HO} (h : FpOk X pins H b) (hne : b ≠ a) : FpOk X pins (upd H a o) b := ⟨by rw [upd_ne hne]; exact h.1, h.2⟩
theorem pe_lcomp {X : Cx} {M : List Str} {cap : List (Option Nat)} {elt tg iter : Expr} {ifs : List Expr} {scope : Scope} {pos : Pos} {wi : TI} {g : TG} {tc : TT} {te : TE} (hc : X.calm = true) (ok : capOk X.N X.env.scope M scope cap = true)
    (hi : PI X tg iter wi) (hb : ∀ cl ex s3 H3 C, PG (blk X M scope cl ex s3 H3 C) tg g ∧ PTs (blk X M scope cl ex s3 H3 C) ifs tc ∧ PE (blk X M scope cl ex s3 H3 C) elt te)
    (hs : ∀ x, foldedSetIterable iter X.env x = pure x := by intro _; rfl) : PE X (.ListComp elt [⟨tg, iter, ifs, 0⟩] scope pos) (tComp cap wi g tc te) := by
  intro pins s σ H Q I h
  have c := CapOk.of ok
  rw [eval_ListComp]
  refine wpAny_comprehension_free (use := none) rfl hs (clos_eq (I.ok.cells c)) c.kind c.loc ?_
  refine thn (hi pins s σ H _ I h) fun v s1 h1 => thn h1 fun itv s2 h2 => ?_
  obtain ⟨it, fp, tn, J, H2, e, I2, T, st2, f2, hW⟩ := h2
  subst e
  refine wpAny_newObj_type (wpAny_newFunctionEnv c.cell (by intro y hy; simp at hy) (fun h₁ hns₁ hsb₁ => ?_) c.kind)
  have I3 : Inv X pins σ (upd H2 s2.heap.objs.size (.lst [])) { s2 with heap := s2.heap.push { cls := .type "list", data := .seq ([] : List Value).toArray } } := I2.lnew (t' := s2.toks) (ys := []) .nil (Nat.zero_le _)
  have lt2 : ∀ b ∈ fp, b < s2.heap.objs.size := fun b hb => by obtain ⟨o, e, _⟩ := T.obj _ _ st2 b hb; exact Heap.lt_size e
  have f3 : ∀ b ∈ fp, FpOk X pins (upd H2 s2.heap.objs.size (.lst [])) b := fun b hb => (f2 b hb).upd (Nat.ne_of_lt (lt2 b hb))
  generalize hs3 : ({ s2 with heap := s2.heap.push { cls := .type "list", data := .seq ([] : List Value).toArray } } : Shared) = s3 at I3
  have e3 : s3.heap = s2.heap.push { cls := .type "list", data := .seq ([] : List Value).toArray } := by rw [← hs3]
  have z3 : s3.heap.objs.size = s2.heap.objs.size + 1 := by rw [e3, Heap.size_push]
  have hk : ∀ b o, s3.heap.get? b = some o → h₁.get? b = some o := fun b o e => hsb₁.extBut b o (by
    have := Heap.lt_size e
    rw [e3] at this
    exact Nat.ne_of_lt this) (Heap.get?_push_of_some _ (e3 ▸ e))
  have hn₁ : h₁.Ns s3.heap.objs.size fun _ => none := by rw [e3]; exact hns₁
  have B := blk_start (t4 := s3.toks + ([] : List (Str × Value)).length) (fp := fp) I3 c f3 (fun b hb => by rw [z3]; exact Nat.lt_succ_of_lt (lt2 b hb)) hn₁ hk
  have st4 : tn 0 h₁ := T.keep _ _ _ st2 fun b hb o e => hk b o (by rw [e3]; exact Heap.get?_push_of_some _ e)
  have fp4 : ∀ b ∈ fp, FpOk (blk X M scope (clOf X.env scope.names []) fp s3 (upd H2 s2.heap.objs.size (.lst [])) s3.heap.objs.size) [] (upd H2 s2.heap.objs.size (.lst [])) b := fun b hb => by
    refine ⟨(f3 b hb).1, (B.ok.exf b hb).1, B.ok.exfs b hb, .inl hb, (B.ok.exf b hb).2, fun p hp => (nomatch hp)⟩
  obtain ⟨hg, ht, he⟩ := hb (clOf X.env scope.names []) fp s3 (upd H2 s2.heap.objs.size (.lst [])) s3.heap.objs.size
  have loop : codeAny (model X.prog X.w) X.A (.compLoop (.ListComp elt [⟨tg, iter, ifs, 0⟩] scope pos) 0 (.ref it) (.ref s2.heap.objs.size) (compEnvC scope (clOf X.env scope.names []) s3.heap.objs.size X.env))
      (compPost (model X.prog X.w) X.A X.xe none (EP X pins σ Q) (.ref s2.heap.objs.size) s3.heap.objs.size) { s3 with heap := h₁, toks := s3.toks + ([] : List (Str × Value)).length } := by
    refine comp_loop (Y := blk X M scope (clOf X.env scope.names []) fp s3 (upd H2 s2.heap.objs.size (.lst [])) s3.heap.objs.size) (gens := [⟨tg, iter, ifs, 0⟩]) (d := 0) hc T st4 fp4
      (fun Q E s h => turn_one Q E s h) (fun x u r => body_of rfl hg ht (fun σ4 => body_elt rfl he) x u r) B (hW _ (I2.hok.fresh (Nat.le_refl _))) fun s' H' I' q => ?_
    obtain ⟨m, hn, _⟩ := I'.loc
    exact ⟨m, hn, fun h' hs' => ⟨.ref s2.heap.objs.size, H', blk_end I3 f3 I' hs', rfl, q⟩⟩
  exact codeAny_compStart_list loop (T.self _ 0 _ _ _ st4 loop)
end L2
namespace L2
open PySem PySem.Spec PyProof.Rows
section
variable {X : Cx}
theorem call_isinst : CallR X (.builtin "isinstance") (fun xs H Q => ∃ x t T b, xs = [x, .ty T] ∧ TyOf X.K H x t ∧ PySem.W.kitOne X.K t (.type T) = some b ∧ Q (.bl b) H) := by
  intro pins s σ H xs us Q I r h
  obtain ⟨x, t, T, b, rfl, ty, e, q⟩ := h
  obtain ⟨u, v, rfl, ru, rv⟩ := vals2 r
  cases (show v = Value.type T from rv)
  exact isinst_ok I ru ty e fun tk => ⟨.bl b, H, I.tok tk, rfl, q⟩
theorem bools_of {bs : List Bool} : ∀ {us : List Value}, Vals (bs.map V.bl) us → LSm.BoolsAre us bs := by
  induction bs with
  | nil => intro us r; cases r; exact .nil
  | cons b bs ih =>
    intro us r
    cases r with
    | cons r t =>
      cases (show _ = Value.bool b from r)
      exact .cons b (ih t)
theorem call_all : CallR X (.builtin "all") (fun xs H Q => ∃ (p : Addr) (bs : List Bool), xs = [.ref p] ∧ SqL X.K H p (bs.map V.bl) ∧ X.calm = true ∧ Q (.bl (bs.all id)) H) := by
  intro pins s σ H xs us Q I r h
  obtain ⟨p, bs, rfl, hp, hc, q⟩ := h
  obtain ⟨u, rfl, ru⟩ := vals1 r
  cases ru
  obtain ⟨its, rv, pl, hz⟩ := I.list hp
  have hl := pl.isList
  have hb := bools_of rv
  have hlt : p < s.heap.objs.size := by obtain ⟨_, e, _⟩ := hl; exact Heap.lt_size e
  refine call_all_walk (wpAny_pyIter_list hl ?_)
  refine ⟨s.heap.objs.size, [s.heap.objs.size, p], [s.heap.objs.size], its.toArray.size, _, _, fun i => (bs[i]?).getD true, rfl, Walks.list (A := X.A.in1) (I.ok.hd hc) _ p (Nat.ne_of_lt hlt) its.toArray,
    ⟨⟨_, Heap.get?_push_size _ rfl, rfl, rfl⟩, hl.push _⟩, fun i v s' Q' E' hP hQ => ?_, fun h' tk hk => ?_⟩
  · obtain ⟨b, e, rfl⟩ := hb.get i v (by simpa using hP)
    simp only [e, Option.getD_some] at hQ
    exact wpAny_truthy_bool hQ
  · have e : ((List.range its.toArray.size).all fun i => (bs[i]?).getD true) = bs.all id := by
      rw [List.size_toArray, hb.length]; exact LSm.range_all bs
    rw [e]
    exact ⟨.bl _, H, I.kept (LSm.kept_iter hk), rfl, q⟩
theorem same_upd {H : Hp} {p : Addr} {o : HO} (h : H p = none) : Same H (upd H p o) := fun b u e => by rw [upd_ne (ne_of_none e h)]; exact e
def rCatA : R2 := fun x y H Q => ∃ a b xs ys, x = .ref a ∧ y = .ref b ∧ H a = some (.tup xs) ∧ H b = some (.tup ys) ∧ xs.length + ys.length ≤ sizeLine ∧ ∀ p H', Same H H' → H' p = some (.tup (xs ++ ys)) → Q (.ref p) H'
theorem op_catA : OpR X (binaryOp .Add) rCatA := by
  intro pins s σ H x y v u Q I rx ry h
  obtain ⟨a, b, xs, ys, rfl, rfl, ha, hb, hz, q⟩ := h
  by_cases hx : xs = []
  · subst hx
    cases rx
    cases ry
    obtain ⟨its, r1, p1, _⟩ := I.tuple (SqT.of ha)
    obtain ⟨its2, r2, p2, _⟩ := I.tuple (SqT.of hb)
    cases r1
    obtain ⟨⟨cls, dd, data, sl⟩, ho, hc, n, hd⟩ := id p1
    obtain ⟨⟨cls2, dd2, data2, sl2⟩, ho2, hc2, n2, hd2⟩ := id p2
    simp only at hc hd hc2 hd2
    subst hc hd hc2 hd2
    exact concat_meets ⟨_, ho, rfl⟩ ⟨_, ho2, rfl⟩ noFill_tuple_add seq_tuple_add PySem.F.slot_tuple_add PySem.F.entry_tuple_add (PySem.F.args_tuple_add_2 _ _)
      (tuple_addW0 a b #[] its2.toArray n n2 dd dd2 sl sl2 rfl) ⟨ho, ho2, ⟨.ref b, H, I, rfl, q b H (Same.refl H) hb⟩⟩
  · exact op_catT pins s σ H _ _ v u Q I rx ry ⟨a, b, xs, ys, rfl, rfl, SqT.of ha, SqT.of hb, hx, hz, fun e => q a H (Same.refl H) (by rw [e, List.append_nil]; exact ha), fun _ p hp => q p _ (same_upd hp) upd_same⟩
end
end L2
namespace Rz
open PySem PyProof.Rows
open Sem (wp)
section
variable {prog : Program} {w : World} {A : Around} {E : Value → Shared → Prop} {s : Shared}
theorem nxt_item {it t : Addr} {i : Nat} {items : Array Value} {x : Value} {Q : Value → Shared → Prop} (hit : s.heap.IsTupleIter it t i) (ht : s.heap.IsTuple t items) (hx : items[i]? = some x)
    (hQ : ∀ h', h'.IsTupleIter it t (i + 1) → Heap.SameBut it s.heap h' → Q x { s with heap := h' }) : wpAny (model prog w) A (Builtin.SmallTypes.nextOf (.ref it)) Q E s := by
  obtain ⟨o, ho, hc, hd⟩ := id hit
  obtain ⟨ol, hol, _, nl, hdl⟩ := ht
  unfold Builtin.SmallTypes.nextOf
  refine wpAny_bind (wpAny_callSpecial?_slot (name := Str.ofString "__next__") hit.typeIs F.slot_tuple_iterator_next
    (wpAny_call_entry F.slot_tuple_iterator_next hit.typeIs F.entry_tuple_iterator_next ?_ (F.args_tuple_iterator_next_1 _)))
  show wpAny _ _ (field (.ref it) 0 >>= _) _ _ s
  refine wpAny_bind (wpAny_field ho hd (x := .ref t) rfl ?_)
  show wpAny _ _ (if (Value.ref t == Value.none) = true then _ else _) _ _ s
  rw [if_neg (show ¬ ((Value.ref t == Value.none) = true) from Bool.false_ne_true)]
  show wpAny _ _ (field (.ref it) 1 >>= _) _ _ s
  refine wpAny_bind (wpAny_field ho hd (x := .int i 0) rfl ?_)
  show wpAny _ _ (seqItems? (.ref t) >>= _) _ _ s
  refine wpAny_bind (wpAny_seqItems hol hdl ?_)
  simp only [Int.toNat_natCast, hx]
  refine wpAny_bind (wpAny_setField ho hd (by simp) (wpAny_pure ⟨x, rfl, wpAny_pure (hQ _ ?_ (Heap.SameBut.update ..))⟩))
  exact ⟨_, Heap.get?_update_self _ ho (Obj.isFreed_of_fields (Obj.data_mapFields hd _)), (Obj.cls_mapFields ..).trans hc, by
    rw [Obj.data_mapFields hd]; simp [rawInt]⟩
theorem nxt_end {it t : Addr} {i : Nat} {items : Array Value} {Q : Value → Shared → Prop} (hh : A.handled = none) (hit : s.heap.IsTupleIter it t i) (ht : s.heap.IsTuple t items) (hx : items[i]? = none)
    (hE : ∀ h' e, Heap.ExtBut it s.heap h' → (∃ o, h'.get? e = some o ∧ o.cls = .type "StopIteration") → E (.ref e) { s with heap := h' }) : wpAny (model prog w) A (Builtin.SmallTypes.nextOf (.ref it)) Q E s := by
  obtain ⟨o, ho, hc, hd⟩ := id hit
  obtain ⟨ol, hol, _, nl, hdl⟩ := ht
  unfold Builtin.SmallTypes.nextOf
  refine wpAny_bind (wpAny_callSpecial?_slot (name := Str.ofString "__next__") hit.typeIs F.slot_tuple_iterator_next
    (wpAny_call_entry F.slot_tuple_iterator_next hit.typeIs F.entry_tuple_iterator_next ?_ (F.args_tuple_iterator_next_1 _)))
  show wpAny _ _ (field (.ref it) 0 >>= _) _ _ s
  refine wpAny_bind (wpAny_field ho hd (x := .ref t) rfl ?_)
  show wpAny _ _ (if (Value.ref t == Value.none) = true then _ else _) _ _ s
  rw [if_neg (show ¬ ((Value.ref t == Value.none) = true) from Bool.false_ne_true)]
  show wpAny _ _ (field (.ref it) 1 >>= _) _ _ s
  refine wpAny_bind (wpAny_field ho hd (x := .int i 0) rfl ?_)
  show wpAny _ _ (seqItems? (.ref t) >>= _) _ _ s
  refine wpAny_bind (wpAny_seqItems hol hdl ?_)
  simp only [Int.toNat_natCast, hx]
  refine wpAny_bind (wpAny_rule (wpAny_bind (wpAny_setField ho hd (by simp) ?_)))
  show wpAny _ _ (newExc (.type "StopIteration") [] >>= _) _ _ _
  refine wpAny_bind ?_
  simp only [newExc, newTuple]
  refine wpAny_bind (wpAny_newObj_type ?_ (by size_fits))
  refine wpAny_bind (m := firstArgMember _ _) (wpAny_of_eq (a := Value.none) (by first | rfl | (simp only [firstArgMember]; rfl)) ?_)
  refine wpAny_newObj_type ?_ (by size_fits)
  simp only [raiseNew]
  refine wpAny_bind (wpAny_handled ?_)
  first | rw [show A.in1.handled = none from hh] | rw [hh]
  refine wpAny_bind (wpAny_pure (wpAny_throw ?_))
  exact hE _ _ (((Heap.SameBut.update ..).extBut.push _).push _) ⟨_, Heap.get?_push_size _ rfl, rfl⟩
structure Apart (z TI TO i1 i2 t1 t2 : Addr) : Prop where
  a1 : TI ≠ z
  a2 : TO ≠ z
  a3 : i1 ≠ z
  a4 : i2 ≠ z
  a5 : TI ≠ TO
  a6 : TI ≠ i1
  a7 : TI ≠ i2
  a8 : TO ≠ i1
  a9 : TO ≠ i2
  b1 : i1 ≠ i2
  b2 : t1 ≠ z ∧ t1 ≠ TO ∧ t1 ≠ i1 ∧ t1 ≠ i2
  b3 : t2 ≠ z ∧ t2 ≠ TO ∧ t2 ≠ i1 ∧ t2 ≠ i2
structure ZipAt (h : Heap) (z TI TO i1 i2 t1 t2 : Addr) (f : Value) (k : Nat) : Prop where
  zp : IsZip h z TI TO f
  ti : IsPair h TI (.ref i1) (.ref i2)
  to : ∃ a b, IsPair h TO a b
  i1 : h.IsTupleIter i1 t1 k
  i2 : h.IsTupleIter i2 t2 k
theorem next_item {z TI TO i1 i2 t1 t2 : Addr} {k : Nat} {xs ys : Array Value} {x y : Value} {Q : Option Value → Shared → Prop} (D : Apart z TI TO i1 i2 t1 t2) (Z : ZipAt s.heap z TI TO i1 i2 t1 t2 .none k)
    (hl1 : s.heap.IsTuple t1 xs) (hl2 : s.heap.IsTuple t2 ys) (hx : xs[k]? = some x) (hy : ys[k]? = some y)
    (hQ : ∀ h', ZipAt h' z TI TO i1 i2 t1 t2 (rawInt s.heap.objs.size) (k + 1) → IsPair h' s.heap.objs.size x y → (∀ c o, c ≠ z → c ≠ TO → c ≠ i1 → c ≠ i2 → s.heap.get? c = some o → h'.get? c = some o) → Q (some (.ref s.heap.objs.size)) { s with heap := h' }) :
    wpAny (model prog w) A (pyNext (.ref z)) Q E s := by
  obtain ⟨hz, hTI, ⟨a, b, hTO⟩, h1, h2⟩ := Z
  have hT : s.TypeIs (.ref z) "zip" := ⟨_, hz, rfl⟩
  unfold pyNext
  refine wpAny_bind (wpAny_attempt (wpAny_callSpecial?_slot (name := Str.ofString "__next__") hT F.slot_zip_next (wpAny_call_entry F.slot_zip_next hT F.entry_zip_next ?_ (F.args_zip_next_1 _))))
  show wpAny _ _ (field (.ref z) 2 >>= _) _ _ _
  refine wpAny_bind (wpAny_field hz rfl (x := .bool false) rfl ?_)
  show wpAny _ _ (field (.ref z) 3 >>= _) _ _ _
  refine wpAny_bind (wpAny_field hz rfl (x := .ref TI) rfl (wpAny_bind (wpAny_seqItems hTI rfl ?_)))
  show wpAny _ _ (Builtin.SmallTypes.ownedTupleIsFree (.ref z) >>= _) _ _ _
  refine wpAny_bind ?_
  unfold Builtin.SmallTypes.ownedTupleIsFree
  refine wpAny_bind (wpAny_field hz rfl (x := .none) rfl (wpAny_pure ?_))
  simp only [if_true]
  refine wpAny_bind (wpAny_rule (wpAny_bind (wpAny_field hz rfl (x := .ref TO) rfl (wpAny_bind (wpAny_setField_rec hz (by simp) fun g1 z1 s1 => ?_)))))
  replace z1 : IsZip g1 z TI TO .ellipsis := z1
  refine wpAny_bind ?_
  simp only [List.zipIdx_cons, List.zipIdx_nil, List.forIn_cons, List.forIn_nil]
  refine wpAny_bind (wpAny_bind (wpAny_onRaise ?_))
  show wpAny _ _ (Builtin.SmallTypes.nextOf (.ref i1) >>= _) _ _ _
  refine wpAny_bind (nxt_item (h1.extBut s1.extBut D.a3) (hl1.extBut s1.extBut D.b2.1) hx fun g2 p2 s2 => wpAny_pure ?_)
  have o2 : IsPair g2 TO a b := s2.extBut _ _ D.a8 (s1.extBut _ _ D.a2 hTO)
  refine wpAny_bind (wpAny_seqItems o2 rfl (wpAny_bind (wpAny_updateSeq_pair o2 fun g3 o3 s3 => wpAny_bind (wpAny_letGo (wpAny_pure ?_)))))
  replace o3 : IsPair g3 TO x b := o3
  refine wpAny_bind (wpAny_bind (wpAny_onRaise ?_))
  show wpAny _ _ (Builtin.SmallTypes.nextOf (.ref i2) >>= _) _ _ _
  refine wpAny_bind (nxt_item (((h2.extBut s1.extBut D.a4).extBut s2.extBut D.b1.symm).extBut s3.extBut D.a9.symm)
    (((hl2.extBut s1.extBut D.b3.1).extBut s2.extBut D.b3.2.2.1).extBut s3.extBut D.b3.2.1) hy fun g4 p4 s4 => wpAny_pure ?_)
  have o4 : IsPair g4 TO x b := s4.extBut _ _ D.a9 o3
  refine wpAny_bind (wpAny_seqItems o4 rfl (wpAny_bind (wpAny_updateSeq_pair o4 fun g5 o5 s5 => wpAny_bind (wpAny_letGo (wpAny_pure (wpAny_pure ?_))))))
  replace o5 : IsPair g5 TO x y := o5
  refine wpAny_bind (wpAny_seqItems o5 rfl (wpAny_bind (wpAny_newTuple ?_)))
  have sz : g5.objs.size = s.heap.objs.size := by rw [s5.1, s4.1, s3.1, s2.1, s1.1]
  have kp : ∀ c o, c ≠ z → c ≠ TO → c ≠ i1 → c ≠ i2 → s.heap.get? c = some o → g5.get? c = some o := fun c o c1 c2 c3 c4 e =>
    s5.extBut _ _ c2 (s4.extBut _ _ c4 (s3.extBut _ _ c2 (s2.extBut _ _ c3 (s1.extBut _ _ c1 e))))
  have z5 : IsZip g5 z TI TO .ellipsis := s5.extBut _ _ D.a2.symm (s4.extBut _ _ D.a4.symm (s3.extBut _ _ D.a2.symm (s2.extBut _ _ D.a3.symm z1)))
  have q1 : g5.IsTupleIter i1 t1 (k + 1) := ((p2.extBut s3.extBut D.a8.symm).extBut s4.extBut D.b1).extBut s5.extBut D.a8.symm
  have q2 : g5.IsTupleIter i2 t2 (k + 1) := p4.extBut s5.extBut D.a9.symm
  show wpAny _ _ (Builtin.SmallTypes.ownedTupleHandOut (.ref z) (.ref g5.objs.size) >>= _) _ _ _
  refine wpAny_bind ?_
  unfold Builtin.SmallTypes.ownedTupleHandOut
  have z6 : IsZip (g5.push { cls := .type "tuple", data := .seq #[x, y] }) z TI TO .ellipsis := Heap.get?_push_of_some _ z5
  refine wpAny_bind (wpAny_setField_rec z6 (by simp) fun g7 z7 s7 => ?_)
  replace z7 : IsZip g7 z TI TO (rawInt g5.objs.size) := z7
  refine wpAny_setField_rec z7 (by simp) fun g8 z8 s8 => ?_
  replace z8 : IsZip g8 z TI TO (rawInt g5.objs.size) := z8
  have up : ∀ c o, c ≠ z → g5.get? c = some o → g8.get? c = some o := fun c o c1 e => s8.extBut _ _ c1 (s7.extBut _ _ c1 (Heap.get?_push_of_some _ e))
  have ne : g5.objs.size ≠ z := Nat.ne_of_gt (Heap.lt_size z5)
  have t8 : IsPair g8 g5.objs.size x y := s8.extBut _ _ ne (s7.extBut _ _ ne (Heap.get?_push_size _ rfl))
  rw [sz] at z8 t8
  refine wpAny_pure ⟨_, rfl, wpAny_pure ?_⟩
  show Q (some (.ref g5.objs.size)) _
  rw [sz]
  exact hQ g8 ⟨z8, up _ _ D.a1 (kp _ _ D.a1 D.a5 D.a6 D.a7 hTI), ⟨x, y, up _ _ D.a2 o5⟩, q1.at fun o e => up _ o D.a3 e, q2.at fun o e => up _ o D.a4 e⟩ t8 fun c o c1 c2 c3 c4 e => up c o c1 (kp c o c1 c2 c3 c4 e)
theorem next_end {z TI TO i1 i2 t1 t2 : Addr} {k : Nat} {xs ys : Array Value} {Q : Option Value → Shared → Prop} (hh : A.handled = none) (D : Apart z TI TO i1 i2 t1 t2) (Z : ZipAt s.heap z TI TO i1 i2 t1 t2 .none k)
    (hl1 : s.heap.IsTuple t1 xs) (hl2 : s.heap.IsTuple t2 ys) (hend : xs[k]? = none ∨ ys[k]? = none)
    (hQ : ∀ h', (∀ c o, c ≠ z → c ≠ TO → c ≠ i1 → c ≠ i2 → s.heap.get? c = some o → h'.get? c = some o) → Q none { s with heap := h' }) : wpAny (model prog w) A (pyNext (.ref z)) Q E s := by
  obtain ⟨hz, hTI, ⟨a, b, hTO⟩, h1, h2⟩ := Z
  have hT : s.TypeIs (.ref z) "zip" := ⟨_, hz, rfl⟩
  have fin : ∀ (h' : Heap) (e : Addr), (∀ c o, c ≠ z → c ≠ TO → c ≠ i1 → c ≠ i2 → s.heap.get? c = some o → h'.get? c = some o) → (∃ o, h'.get? e = some o ∧ o.cls = .type "StopIteration") →
      wpAny (model prog w) A (isInstance (.ref e) (.type "StopIteration") >>= fun x => if x = true then pure none else throw (.ref e)) Q E { s with heap := h' } := fun h' e hk he => by
    obtain ⟨o, ho, hc⟩ := he
    refine wpAny_bind (wpAny_isInstance (T := "StopIteration") (b := true) ⟨o, ho, hc⟩ isSubtype_stop ?_)
    exact wpAny_pure (hQ _ hk)
  unfold pyNext
  refine wpAny_bind (wpAny_attempt (wpAny_callSpecial?_slot (name := Str.ofString "__next__") hT F.slot_zip_next (wpAny_call_entry F.slot_zip_next hT F.entry_zip_next ?_ (F.args_zip_next_1 _))))
  show wpAny _ _ (field (.ref z) 2 >>= _) _ _ _
  refine wpAny_bind (wpAny_field hz rfl (x := .bool false) rfl ?_)
  show wpAny _ _ (field (.ref z) 3 >>= _) _ _ _
  refine wpAny_bind (wpAny_field hz rfl (x := .ref TI) rfl (wpAny_bind (wpAny_seqItems hTI rfl ?_)))
  show wpAny _ _ (Builtin.SmallTypes.ownedTupleIsFree (.ref z) >>= _) _ _ _
  refine wpAny_bind ?_
  unfold Builtin.SmallTypes.ownedTupleIsFree
  refine wpAny_bind (wpAny_field hz rfl (x := .none) rfl (wpAny_pure ?_))
  simp only [if_true]
  refine wpAny_bind (wpAny_rule (wpAny_bind (wpAny_field hz rfl (x := .ref TO) rfl (wpAny_bind (wpAny_setField_rec hz (by simp) fun g1 z1 s1 => ?_)))))
  replace z1 : IsZip g1 z TI TO .ellipsis := z1
  refine wpAny_bind ?_
  simp only [List.zipIdx_cons, List.zipIdx_nil, List.forIn_cons, List.forIn_nil]
  refine wpAny_bind (wpAny_bind (wpAny_onRaise ?_))
  show wpAny _ _ (Builtin.SmallTypes.nextOf (.ref i1) >>= _) _ _ _
  cases hx : xs[k]? with
  | none =>
    refine wpAny_bind (nxt_end hh (h1.extBut s1.extBut D.a3) (hl1.extBut s1.extBut D.b2.1) hx fun g2 e s2 he => ?_)
    obtain ⟨oe, hoe, hce⟩ := he
    have z2 : IsZip g2 z TI TO .ellipsis := s2 _ _ D.a3.symm z1
    have hez : e ≠ z := fun q => by subst q; rw [z2] at hoe; cases hoe; simp at hce
    refine wpAny_setField_rec z2 (by simp) fun g3 _ s3 => ?_
    exact fin g3 e (fun c o c1 _ c3 _ q => s3.extBut _ _ c1 (s2 _ _ c3 (s1.extBut _ _ c1 q))) ⟨oe, s3.extBut _ _ hez hoe, hce⟩
  | some x =>
    have hy : ys[k]? = none := by
      rcases hend with q | q
      · rw [hx] at q; cases q
      · exact q
    refine wpAny_bind (nxt_item (h1.extBut s1.extBut D.a3) (hl1.extBut s1.extBut D.b2.1) hx fun g2 p2 s2 => wpAny_pure ?_)
    have o2 : IsPair g2 TO a b := s2.extBut _ _ D.a8 (s1.extBut _ _ D.a2 hTO)
    refine wpAny_bind (wpAny_seqItems o2 rfl (wpAny_bind (wpAny_updateSeq_pair o2 fun g3 o3 s3 => wpAny_bind (wpAny_letGo (wpAny_pure ?_)))))
    refine wpAny_bind (wpAny_bind (wpAny_onRaise ?_))
    show wpAny _ _ (Builtin.SmallTypes.nextOf (.ref i2) >>= _) _ _ _
    refine wpAny_bind (nxt_end hh (((h2.extBut s1.extBut D.a4).extBut s2.extBut D.b1.symm).extBut s3.extBut D.a9.symm)
      (((hl2.extBut s1.extBut D.b3.1).extBut s2.extBut D.b3.2.2.1).extBut s3.extBut D.b3.2.1) hy fun g4 e s4 he => ?_)
    obtain ⟨oe, hoe, hce⟩ := he
    have z4 : IsZip g4 z TI TO .ellipsis := s4 _ _ D.a4.symm (s3.extBut _ _ D.a2.symm (s2.extBut _ _ D.a3.symm z1))
    have hez : e ≠ z := fun q => by subst q; rw [z4] at hoe; cases hoe; simp at hce
    refine wpAny_setField_rec z4 (by simp) fun g5 _ s5 => ?_
    exact fin g5 e (fun c o c1 c2 c3 c4 q => s5.extBut _ _ c1 (s4 _ _ c4 (s3.extBut _ _ c2 (s2.extBut _ _ c3 (s1.extBut _ _ c1 q))))) ⟨oe, s5.extBut _ _ hez hoe, hce⟩
end
abbrev zh1 (h : Heap) (t1 : Addr) : Heap := h.push { cls := .type "tuple_iterator", data := .fields #[.ref t1, .int 0 0] }
abbrev zh2 (h : Heap) (t1 t2 : Addr) : Heap := (zh1 h t1).push { cls := .type "tuple_iterator", data := .fields #[.ref t2, .int 0 0] }
abbrev zh3 (h : Heap) (t1 t2 : Addr) : Heap := (zh2 h t1 t2).push { cls := .type "tuple", data := .seq #[.ref h.objs.size, .ref (zh1 h t1).objs.size] }
abbrev zh4 (h : Heap) (t1 t2 : Addr) : Heap := (zh3 h t1 t2).push { cls := .type "tuple", data := .seq #[.none, .none] }
abbrev zh5 (h : Heap) (t1 t2 : Addr) : Heap := (zh4 h t1 t2).push { cls := .type "zip", data := .fields #[.none, .bool false, .bool false, .ref (zh2 h t1 t2).objs.size, .ref (zh3 h t1 t2).objs.size] }
theorem made (t1 t2 : Addr) (xs ys : Array Value) :
    Meets (Builtin.«zip.__new__» ⟨[.type "zip", .ref t1, .ref t2], []⟩) (fun _ R s => s.heap.IsTuple t1 xs ∧ s.heap.IsTuple t2 ys ∧ R (.ok (.ret (.ref (zh4 s.heap t1 t2).objs.size))) { s with heap := zh5 s.heap t1 t2 }) :=
  .of_wp fun prog w A R s h => by
    obtain ⟨hp, g, d, tk, os⟩ := s; obtain ⟨hl1, hl2, h⟩ := h
    have hsub := sub_zip
    have k1 : Heap.IsTuple (Shared.heap ⟨hp, g, d, tk, os⟩) t1 xs := hl1
    have k2 : Heap.IsTuple (Shared.heap ⟨hp.push { cls := .type "tuple_iterator", data := .fields #[.ref t1, .int 0 0] }, g, d, tk, os⟩) t2 ys := hl2.at fun o e => Heap.get?_push_of_some _ e
    wp_walk using wpAny_pyIter_tuple k1, wpAny_pyIter_tuple k2
    exact ⟨_, rfl, h⟩
section
variable {prog : Program} {w : World} {A : Around} {E : Value → Shared → Prop} {s : Shared}
theorem call_two {t1 t2 : Addr} {xs ys : Array Value} {Q : Value → Shared → Prop} (hl1 : s.heap.IsTuple t1 xs) (hl2 : s.heap.IsTuple t2 ys)
    (h : ∀ h', ZipAt h' (s.heap.objs.size + 4) (s.heap.objs.size + 2) (s.heap.objs.size + 3) s.heap.objs.size (s.heap.objs.size + 1) t1 t2 .none 0 → (∀ c o, s.heap.get? c = some o → h'.get? c = some o) → Q (.ref (s.heap.objs.size + 4)) { s with heap := h' }) :
    wpAny (model prog w) A (call (.type "zip") [.ref t1, .ref t2]) Q E s := by
  refine callType_new F.called_zip (by decide) (F.typeCall_zip_2 _ _) (F.newCall_zip_2 _ _) (fun obj => F.args_object_init_3 obj _ _) F.entry_zip_new (made t1 t2 xs ys) ⟨hl1, hl2, ?_⟩
  have z1 : (zh1 s.heap t1).objs.size = s.heap.objs.size + 1 := Heap.size_push ..
  have z2 : (zh2 s.heap t1 t2).objs.size = s.heap.objs.size + 2 := by rw [Heap.size_push, z1]
  have z3 : (zh3 s.heap t1 t2).objs.size = s.heap.objs.size + 3 := by rw [Heap.size_push, z2]
  have z4 : (zh4 s.heap t1 t2).objs.size = s.heap.objs.size + 4 := by rw [Heap.size_push, z3]
  have g5 : (zh5 s.heap t1 t2).get? (zh4 s.heap t1 t2).objs.size = some _ := Heap.get?_push_size _ rfl
  have g4 : (zh5 s.heap t1 t2).get? (zh3 s.heap t1 t2).objs.size = some _ := Heap.get?_push_of_some _ (Heap.get?_push_size _ rfl)
  have g3 : (zh5 s.heap t1 t2).get? (zh2 s.heap t1 t2).objs.size = some _ := Heap.get?_push_of_some _ (Heap.get?_push_of_some _ (Heap.get?_push_size _ rfl))
  have g2 : (zh5 s.heap t1 t2).get? (zh1 s.heap t1).objs.size = some _ := Heap.get?_push_of_some _ (Heap.get?_push_of_some _ (Heap.get?_push_of_some _ (Heap.get?_push_size _ rfl)))
  have g1 : (zh5 s.heap t1 t2).get? s.heap.objs.size = some _ := Heap.get?_push_of_some _ (Heap.get?_push_of_some _ (Heap.get?_push_of_some _ (Heap.get?_push_of_some _ (Heap.get?_push_size _ rfl))))
  show _ ∧ _
  rw [z2, z3, z4] at g5
  rw [z1, z2] at g3
  rw [z3] at g4
  rw [z1] at g2
  rw [z4]
  exact ⟨⟨_, g5, rfl⟩, h _ ⟨g5, g3, ⟨_, _, g4⟩, ⟨_, g1, rfl, rfl⟩, ⟨_, g2, rfl, rfl⟩⟩ fun c o x => Heap.get?_push_of_some _ (Heap.get?_push_of_some _ (Heap.get?_push_of_some _ (Heap.get?_push_of_some _ (Heap.get?_push_of_some _ x))))⟩
end
end Rz
namespace L2
open PySem PySem.Spec PyProof.Rows
section
variable {X : Cx} {pins : List (Addr × Obj)} {σ : St} {H : Hp} {s : Shared} {h' : Heap}
theorem Inv.turnedNew {t' : Nat} {ch : List Addr} {a : Addr} {o : HO} (I : Inv X pins σ H s) (hch : ∀ b ∈ ch, FpOk X pins H b) (k : ∀ b u, b ∉ ch → s.heap.get? b = some u → h'.get? b = some u) (hp : s.heap.objs.size ≤ a)
    (new : ObjOk X.prog X.w (upd H a o) h' a o) : Inv X pins σ (upd H a o) { s with heap := h', toks := t' } := by
  have hn : H a = none := I.hok.fresh hp
  have nch : ∀ b u, H b = some u → b ∉ ch := fun b u e z => by rw [(hch b z).1] at e; cases e
  refine I.step (g' := s.gens) (d' := s.drawn) (ch := ch) (fun b hb => ?_) (fun b u _ _ hc e _ => k b u hc e) (fun b u _ _ hc e _ => ⟨u.slots, k b u hc e⟩) (fun b u hc e n => ?_) (fun b u hc e => ⟨u, k b u hc e⟩)
    (fun b xs e => by rw [upd_ne (ne_of_none e hn)]; exact e) (fun b u v e => by rw [upd_ne (ne_of_none e hn)]; exact e) (fun b ps e => ⟨#[], by rw [upd_ne (ne_of_none e hn), e]; simp⟩) (fun m hm => ?_) (fun b u e => ?_) I.bare
  · obtain ⟨f0, f1, f2, f3, f4, f5⟩ := hch b hb
    exact ⟨f3, f1, f4, f5⟩
  · rw [upd_ne (Nat.ne_of_lt (Nat.lt_of_lt_of_le (Heap.lt_size e) hp))]; exact n
  · obtain ⟨u, es, ep, ho, r⟩ := hm
    exact ⟨u, es, ep, k _ u (fun z => (hch _ z).2.1 rfl) ho, r⟩
  · by_cases hb : b = a
    · subst hb; rw [upd_same] at e; cases e; exact new
    · rw [upd_ne hb] at e
      refine (I.hok b u e).stay (fun c v hc q => k c v ?_ q) (fun c q => by rw [upd_ne (ne_of_none q hn)]; exact q) fun c xs q => by rw [upd_ne (ne_of_none q hn)]; exact q
      rcases hc with z | z
      · rw [z]; exact nch b u e
      · exact nch c _ z
theorem Inv.turnedAll {t' : Nat} {ch : List Addr} (I : Inv X pins σ H s) (hch : ∀ b ∈ ch, FpOk X pins H b) (k : ∀ b u, b ∉ ch → s.heap.get? b = some u → h'.get? b = some u) : Inv X pins σ H { s with heap := h', toks := t' } := by
  have nch : ∀ b u, H b = some u → b ∉ ch := fun b u e z => by rw [(hch b z).1] at e; cases e
  refine I.step (g' := s.gens) (d' := s.drawn) (ch := ch) (fun b hb => ?_) (fun b u _ _ hc e _ => k b u hc e) (fun b u _ _ hc e _ => ⟨u.slots, k b u hc e⟩) (fun b u hc e n => n) (fun b u hc e => ⟨u, k b u hc e⟩)
    (fun b xs e => e) (fun b u v e => e) (fun b ps e => ⟨#[], by rw [e]; simp⟩) (fun m hm => ?_) (fun b u e => ?_) I.bare
  · obtain ⟨f0, f1, f2, f3, f4, f5⟩ := hch b hb
    exact ⟨f3, f1, f4, f5⟩
  · obtain ⟨u, es, ep, ho, r⟩ := hm
    exact ⟨u, es, ep, k _ u (fun z => (hch _ z).2.1 rfl) ho, r⟩
  · refine (I.hok b u e).stay (fun c v hc q => k c v ?_ q) (fun c q => q) fun c xs q => q
    rcases hc with z | z
    · rw [z]; exact nch b u e
    · exact nch c _ z
end
def Itz (t1 t2 : Addr) : It :=
  ⟨fun i H => ∃ xs ys x y, H t1 = some (.tup xs) ∧ H t2 = some (.tup ys) ∧ xs[i]? = some x ∧ ys[i]? = some y,
   fun i H v H' => ∃ p x y, H p = none ∧ (∀ xs, H t1 = some (.tup xs) → xs[i]? = some x) ∧ (∀ ys, H t2 = some (.tup ys) → ys[i]? = some y) ∧ v = .ref p ∧ H' = upd H p (.tup [x, y]),
   fun i H => ∃ xs ys, H t1 = some (.tup xs) ∧ H t2 = some (.tup ys) ∧ (xs.length ≤ i ∨ ys.length ≤ i)⟩
theorem turn_zip {P : Program} {w : World} {K : PySem.W.Frag} {elts : List Expr} {x1} {tpos : Pos} {z TI TO i1 i2 t1 t2 : Addr} (D : Rz.Apart z TI TO i1 i2 t1 t2) :
    Turn P w K (.Tuple elts x1 tpos) (Itz t1 t2) [z, TI, TO, i1, i2] z (fun i h => Rz.ZipAt h z TI TO i1 i2 t1 t2 .none i) where
  mem := by simp
  obj := fun i h st b hb => by
    obtain ⟨a1, a2, ⟨_, _, a3⟩, ⟨o4, a4, _, d4⟩, ⟨o5, a5, _, d5⟩⟩ := st
    simp only [List.mem_cons, List.not_mem_nil, or_false] at hb
    rcases hb with rfl | rfl | rfl | rfl | rfl
    · exact ⟨_, a1, fun v q => nomatch q⟩
    · exact ⟨_, a2, fun v q => nomatch q⟩
    · exact ⟨_, a3, fun v q => nomatch q⟩
    · exact ⟨_, a4, fun v q => by rw [d4] at q; cases q⟩
    · exact ⟨_, a5, fun v q => by rw [d5] at q; cases q⟩
  keep := fun i h h' st k => by
    obtain ⟨a1, a2, ⟨a, b, a3⟩, a4, a5⟩ := st
    exact ⟨k z (by simp) _ a1, k TI (by simp) _ a2, ⟨a, b, k TO (by simp) _ a3⟩, a4.at fun o e => k i1 (by simp) o e, a5.at fun o e => k i2 (by simp) o e⟩
  item := by
    intro X hP hw hK hc i pins s σ H E I hf st hg
    subst hP hw hK
    obtain ⟨xs, ys, x, y, h1, h2, hx, hy⟩ := hg
    obtain ⟨its1, r1, p1, _⟩ := I.tuple (SqT.of h1)
    obtain ⟨its2, r2, p2, _⟩ := I.tuple (SqT.of h2)
    obtain ⟨u1, hu1, ru1⟩ := r1.get hx
    obtain ⟨u2, hu2, ru2⟩ := r2.get hy
    refine Rz.next_item D st (show s.heap.IsTuple t1 its1.toArray from p1) (show s.heap.IsTuple t2 its2.toArray from p2) (by simpa using hu1) (by simpa using hu2) fun h' st' tp kp => ?_
    have hlt : ∀ b ∈ [z, TI, TO, i1, i2], b ≠ s.heap.objs.size := fun b hb => by
      obtain ⟨a1, a2, ⟨_, _, a3⟩, ⟨o4, a4, _, d4⟩, ⟨o5, a5, _, d5⟩⟩ := st
      simp only [List.mem_cons, List.not_mem_nil, or_false] at hb
      rcases hb with rfl | rfl | rfl | rfl | rfl
      · exact Nat.ne_of_lt (Heap.lt_size a1)
      · exact Nat.ne_of_lt (Heap.lt_size a2)
      · exact Nat.ne_of_lt (Heap.lt_size a3)
      · exact Nat.ne_of_lt (Heap.lt_size a4)
      · exact Nat.ne_of_lt (Heap.lt_size a5)
    have fr : H s.heap.objs.size = none := I.hok.fresh (Nat.le_refl _)
    refine ⟨_, rfl, wpAny_letOwnedTupleGo_zip st'.zp fun h2' z2 s2 => ?_⟩
    have I1 : Inv X pins σ (upd H s.heap.objs.size (.tup [x, y])) { s with heap := h2', toks := s.toks } := by
      refine I.turnedNew (ch := [z, TI, TO, i1, i2]) hf (fun b u hb e => ?_) (Nat.le_refl _) ⟨by show 2 ≤ sizeLine; decide, [u1, u2], .cons ru1 (.cons ru2 .nil), ?_⟩
      · simp only [List.mem_cons, List.not_mem_nil, or_false, not_or] at hb
        exact s2.extBut _ _ hb.1 (kp b u hb.1 hb.2.2.1 hb.2.2.2.1 hb.2.2.2.2 e)
      · exact ⟨_, s2.extBut _ _ (hlt z (by simp)).symm tp, rfl, 0, rfl⟩
    refine ⟨.ref s.heap.objs.size, _, I1, rfl, ⟨_, x, y, fr, fun xs' e => ?_, fun ys' e => ?_, rfl, rfl⟩, ?_, fun b hb => ?_⟩
    · rw [h1] at e; cases e; exact hx
    · rw [h2] at e; cases e; exact hy
    · obtain ⟨a1, a2, ⟨a, b, a3⟩, a4, a5⟩ := st'
      exact ⟨z2, s2.extBut _ _ D.a1 a2, ⟨a, b, s2.extBut _ _ D.a2 a3⟩, a4.extBut s2.extBut D.a3, a5.extBut s2.extBut D.a4⟩
    · rw [upd_ne (hlt b hb)]; exact (hf b hb).1
  done := by
    intro X hP hw hK hc i pins s σ H E I hf st hg
    subst hP hw hK
    obtain ⟨xs, ys, h1, h2, he⟩ := hg
    obtain ⟨its1, r1, p1, _⟩ := I.tuple (SqT.of h1)
    obtain ⟨its2, r2, p2, _⟩ := I.tuple (SqT.of h2)
    have l1 := r1.length
    have l2 := r2.length
    refine Rz.next_end (I.ok.hd hc) D st (show s.heap.IsTuple t1 its1.toArray from p1) (show s.heap.IsTuple t2 its2.toArray from p2) ?_ fun h' kp => ⟨rfl, I.turnedAll (t' := s.toks) (ch := [z, TI, TO, i1, i2]) hf fun b u hb e => ?_⟩
    · rcases he with q | q
      · exact .inl (by simp; omega)
      · exact .inr (by simp; omega)
    · simp only [List.mem_cons, List.not_mem_nil, or_false, not_or] at hb
      exact kp b u hb.1 hb.2.2.1 hb.2.2.2.1 hb.2.2.2.2 e
  self := fun _ _ _ _ _ st h => wpAny_pyIter_zip st.zp h
section
variable {X : Cx}
theorem apart_new (n t1 t2 : Nat) (h1 : t1 < n) (h2 : t2 < n) : Rz.Apart (n + 4) (n + 2) (n + 3) n (n + 1) t1 t2 where
  a1 := by show ¬ (n + 2 = n + 4); omega
  a2 := by show ¬ (n + 3 = n + 4); omega
  a3 := by show ¬ (n = n + 4); omega
  a4 := by show ¬ (n + 1 = n + 4); omega
  a5 := by show ¬ (n + 2 = n + 3); omega
  a6 := by show ¬ (n + 2 = n); omega
  a7 := by show ¬ (n + 2 = n + 1); omega
  a8 := by show ¬ (n + 3 = n); omega
  a9 := by show ¬ (n + 3 = n + 1); omega
  b1 := by show ¬ (n = n + 1); omega
  b2 := ⟨by show ¬ (t1 = n + 4); omega, by show ¬ (t1 = n + 3); omega, by show ¬ (t1 = n); omega, by show ¬ (t1 = n + 1); omega⟩
  b3 := ⟨by show ¬ (t2 = n + 4); omega, by show ¬ (t2 = n + 3); omega, by show ¬ (t2 = n); omega, by show ¬ (t2 = n + 1); omega⟩
def iZip (ta : TA) : TI := fun σ H R => ta σ H fun vs H1 => ∃ t1 t2 xs ys, vs = [.ref t1, .ref t2] ∧ H1 t1 = some (.tup xs) ∧ H1 t2 = some (.tup ys) ∧ R (Itz t1 t2) H1
theorem boot_zip' : bootBuiltins "zip" = some (.type "zip") := by decide +kernel
theorem pi_zip {a b : Expr} {elts : List Expr} {x1} {tpos : Pos} {ta : TA} {p pos : Pos} (hg : Gl X "zip") (hm : X.mg "zip" = none) (ha : PA X [a, b] ta) (hs : starEach [a, b] X.env = [(false, eval a X.env), (false, eval b X.env)] := by rfl) (hs2 : starEach [b] X.env = [(false, eval b X.env)] := by rfl) :
    PI X (.Tuple elts x1 tpos) (.Call (.Name "zip" p) [a, b] [] pos) (iZip ta) := by
  intro pins s σ H R I h
  refine Call_ (ld_blt I hg hm boot_zip' (PyProof.Rows.callWith_type1 (thn (ha pos pins s σ H _ I h) fun us s1 ⟨vs, H1, I1, r1, q1⟩ => ?_) (by rw [hs, hs2]) (by rw [hs2]; rfl)))
  obtain ⟨t1, t2, xs, ys, e, h1, h2, q⟩ := q1
  subst e
  obtain ⟨u, v, rfl, ru, rv⟩ := vals2 r1
  cases (show u = Value.ref t1 from ru)
  cases (show v = Value.ref t2 from rv)
  obtain ⟨its1, w1, p1, _⟩ := I1.tuple (SqT.of h1)
  obtain ⟨its2, w2, p2, _⟩ := I1.tuple (SqT.of h2)
  have n1 : t1 < s1.heap.objs.size := I1.hok.lt h1
  have n2 : t2 < s1.heap.objs.size := I1.hok.lt h2
  refine Rz.call_two (show s1.heap.IsTuple t1 its1.toArray from p1) (show s1.heap.IsTuple t2 its2.toArray from p2) fun h' st kp => ?_
  refine wpAny_pyIter_zip (s := { s1 with heap := h' }) st.zp ?_
  have D := apart_new s1.heap.objs.size t1 t2 n1 n2
  refine ⟨s1.heap.objs.size + 4, _, _, _, H1, rfl, I1.kept (t' := s1.toks) kp, turn_zip D, st, fun b hb => ?_, q⟩
  have hb' : s1.heap.objs.size ≤ b := by
    simp only [List.mem_cons, List.not_mem_nil, or_false] at hb
    rcases hb with rfl | rfl | rfl | rfl | rfl <;> omega
  exact I1.fpOk hb' (I1.hok.fresh hb')
end
end L2
namespace Rk
open PySem PySem.Spec PyProof.Rows L2
def tupO : Option HO → Option (List V)
  | some (.tup xs) => some xs
  | _ => none
def tupOf (H : Hp) : V → Option (List V)
  | .ref a => tupO (H a)
  | _ => none
theorem tupOf_at (H : Hp) (a : Addr) : tupOf H (.ref a) = tupO (H a) := rfl
def isT (H : Hp) (x : V) : Bool := (tupOf H x).isSome
def isI : V → Bool
  | .int _ => true
  | _ => false
def isB : V → Bool
  | .bl _ => true
  | _ => false
def Kn (p : Addr) (H : Hp) : V → Prop
  | .non => True
  | .bl _ => True
  | .int _ => True
  | .str _ => True
  | .ref a => a ≠ p ∧ ((∃ xs, H a = some (.tup xs)) ∨ (∃ xs, H a = some (.lst xs)) ∨ ∃ kvs, H a = some (.dK kvs))
  | _ => False
def KnD (p : Addr) : Nat → Hp → V → Prop
  | 0, H, x => Kn p H x
  | n + 1, H, x => Kn p H x ∧ ∀ xs, tupOf H x = some xs → ∀ y ∈ xs, KnD p n H y
def KX (p : Addr) (H H' : Hp) : Prop := ∀ b o, b ≠ p → H b = some o → H' b = some o
theorem KX.refl (p : Addr) (H : Hp) : KX p H H := fun _ _ _ e => e
theorem KX.trans {p : Addr} {H H1 H2 : Hp} (a : KX p H H1) (b : KX p H1 H2) : KX p H H2 := fun c o h e => b c o h (a c o h e)
theorem KX.of {p : Addr} {H H' : Hp} (h : Same H H') : KX p H H' := fun b o _ e => h b o e
theorem KX.upd {p : Addr} {H : Hp} {o : HO} : KX p H (upd H p o) := fun b u n e => by rw [upd_ne n]; exact e
theorem Kn.keep {p : Addr} {H H' : Hp} (k : KX p H H') : ∀ {x : V}, Kn p H x → Kn p H' x
  | .non, h => h
  | .bl _, h => h
  | .int _, h => h
  | .str _, h => h
  | .ref a, ⟨n, h⟩ => ⟨n, by
    rcases h with ⟨xs, e⟩ | ⟨xs, e⟩ | ⟨xs, e⟩
    · exact .inl ⟨xs, k a _ n e⟩
    · exact .inr (.inl ⟨xs, k a _ n e⟩)
    · exact .inr (.inr ⟨xs, k a _ n e⟩)⟩
  | .byt _, h => h.elim
  | .flt _, h => h.elim
  | .ty _, h => h.elim
theorem tupOf_keep {p : Addr} {H H' : Hp} (k : KX p H H') : ∀ {x : V}, Kn p H x → tupOf H' x = tupOf H x
  | .non, h => rfl
  | .bl _, h => rfl
  | .int _, h => rfl
  | .str _, h => rfl
  | .ref a, ⟨n, h⟩ => by
    rcases h with ⟨xs, e⟩ | ⟨xs, e⟩ | ⟨xs, e⟩ <;> rw [tupOf_at, tupOf_at, e, k a _ n e]
  | .byt _, h => h.elim
  | .flt _, h => h.elim
  | .ty _, h => h.elim
theorem KnD.kn {p : Addr} {H : Hp} {x : V} : ∀ {n : Nat}, KnD p n H x → Kn p H x
  | 0, h => h
  | _ + 1, h => h.1
theorem KnD.keep {p : Addr} {H H' : Hp} (k : KX p H H') : ∀ {n : Nat} {x : V}, KnD p n H x → KnD p n H' x
  | 0, x, h => Kn.keep k h
  | n + 1, x, h => ⟨Kn.keep k h.1, fun xs e y hy => KnD.keep k (h.2 xs (by rw [← tupOf_keep k h.1]; exact e) y hy)⟩
theorem KnD.low {p : Addr} {H : Hp} : ∀ {n : Nat} {x : V}, KnD p (n + 1) H x → KnD p n H x
  | 0, x, h => h.1
  | n + 1, x, h => ⟨h.1, fun xs e y hy => KnD.low (h.2 xs e y hy)⟩
theorem KnD.tup {p : Addr} {H : Hp} {n : Nat} {a : Addr} {xs : List V} (hp : a ≠ p) (e : H a = some (.tup xs)) (h : ∀ y ∈ xs, KnD p n H y) : KnD p (n + 1) H (.ref a) :=
  ⟨⟨hp, .inl ⟨xs, e⟩⟩, fun ys z y hy => h y (by
    have z' : some xs = some ys := by rw [← z, tupOf_at, e]; rfl
    cases z'; exact hy)⟩
theorem KnD.int {p : Addr} {H : Hp} (i : Int) : ∀ (n : Nat), KnD p n H (.int i)
  | 0 => trivial
  | n + 1 => ⟨trivial, fun _ e => nomatch e⟩
theorem KnD.bl {p : Addr} {H : Hp} (i : Bool) : ∀ (n : Nat), KnD p n H (.bl i)
  | 0 => trivial
  | n + 1 => ⟨trivial, fun _ e => nomatch e⟩
theorem KnD.str {p : Addr} {H : Hp} (i : Str) : ∀ (n : Nat), KnD p n H (.str i)
  | 0 => trivial
  | n + 1 => ⟨trivial, fun _ e => nomatch e⟩
theorem KnD.non {p : Addr} {H : Hp} : ∀ (n : Nat), KnD p n H .non
  | 0 => trivial
  | n + 1 => ⟨trivial, fun _ e => nomatch e⟩
theorem KnD.lst {p : Addr} {H : Hp} {a : Addr} {xs : List V} (hp : a ≠ p) (e : H a = some (.lst xs)) : ∀ (n : Nat), KnD p n H (.ref a)
  | 0 => ⟨hp, .inr (.inl ⟨xs, e⟩)⟩
  | n + 1 => ⟨⟨hp, .inr (.inl ⟨xs, e⟩)⟩, fun ys z => by rw [tupOf_at, e] at z; cases z⟩
theorem KnD.dct {p : Addr} {H : Hp} {a : Addr} {kvs : List (Key × V)} (hp : a ≠ p) (e : H a = some (.dK kvs)) : ∀ (n : Nat), KnD p n H (.ref a)
  | 0 => ⟨hp, .inr (.inr ⟨kvs, e⟩)⟩
  | n + 1 => ⟨⟨hp, .inr (.inr ⟨kvs, e⟩)⟩, fun ys z => by rw [tupOf_at, e] at z; cases z⟩
theorem tupOf_ref {H : Hp} {a : Addr} {xs : List V} (e : H a = some (.tup xs)) : tupOf H (.ref a) = some xs := by rw [tupOf_at, e]; rfl
theorem inst_int {K : PySem.W.Frag} {p : Addr} {H : Hp} : ∀ {x : V}, Kn p H x → ∃ t, TyOf K H x t ∧ PySem.W.kitOne K t (.type "int") = some (isI x || isB x)
  | .non, h => ⟨_, .non, rfl⟩
  | .bl _, h => ⟨_, .bl _, rfl⟩
  | .int _, h => ⟨_, .int _, rfl⟩
  | .str _, h => ⟨_, .str _, rfl⟩
  | .ref a, ⟨_, h⟩ => by
    rcases h with ⟨xs, e⟩ | ⟨xs, e⟩ | ⟨xs, e⟩
    · exact ⟨_, .tup e, rfl⟩
    · exact ⟨_, .lst e, rfl⟩
    · exact ⟨_, .dK e, rfl⟩
  | .byt _, h => h.elim
  | .flt _, h => h.elim
  | .ty _, h => h.elim
theorem inst_bool {K : PySem.W.Frag} {p : Addr} {H : Hp} : ∀ {x : V}, Kn p H x → ∃ t, TyOf K H x t ∧ PySem.W.kitOne K t (.type "bool") = some (isB x)
  | .non, h => ⟨_, .non, rfl⟩
  | .bl _, h => ⟨_, .bl _, rfl⟩
  | .int _, h => ⟨_, .int _, rfl⟩
  | .str _, h => ⟨_, .str _, rfl⟩
  | .ref a, ⟨_, h⟩ => by
    rcases h with ⟨xs, e⟩ | ⟨xs, e⟩ | ⟨xs, e⟩
    · exact ⟨_, .tup e, rfl⟩
    · exact ⟨_, .lst e, rfl⟩
    · exact ⟨_, .dK e, rfl⟩
  | .byt _, h => h.elim
  | .flt _, h => h.elim
  | .ty _, h => h.elim
def IntsT (H : Hp) (x : V) (ns : List Int) : Prop := ∃ a, x = .ref a ∧ H a = some (.tup (ns.map V.int))
theorem IntsT.keep {H H' : Hp} (s : Same H H') {x : V} {ns : List Int} (h : IntsT H x ns) : IntsT H' x ns := by
  obtain ⟨a, e, q⟩ := h
  exact ⟨a, e, s a _ q⟩
end Rk
namespace Rk
open PySem PySem.Spec PyProof.Rows L2
theorem bt_isinstance : bootBuiltins "isinstance" = some (.builtin "isinstance") := by decide +kernel
theorem bt_int : bootBuiltins "int" = some (.type "int") := by decide +kernel
theorem bt_bool : bootBuiltins "bool" = some (.type "bool") := by decide +kernel
theorem bt_tuple : bootBuiltins "tuple" = some (.type "tuple") := by decide +kernel
theorem bt_list : bootBuiltins "list" = some (.type "list") := by decide +kernel
theorem bt_str : bootBuiltins "str" = some (.type "str") := by decide +kernel
theorem bt_all : bootBuiltins "all" = some (.builtin "all") := by decide +kernel
theorem bt_len : bootBuiltins "len" = some (.builtin "len") := by decide +kernel
theorem bt_max : bootBuiltins "max" = some (.builtin "max") := by decide +kernel
theorem bt_min : bootBuiltins "min" = some (.builtin "min") := by decide +kernel
end Rk
namespace L2
open PySem PySem.Spec PyProof.Rows
theorem loop_by {J : It} {body : V → Hp → (Hp → Prop) → Prop} {Qn : Hp → Prop} {H : Hp} (n : Nat) (Pv : Nat → Hp → Prop) (h0 : Pv 0 H)
    (hs : ∀ i H2, i < n → Pv i H2 → J.go i H2 ∧ ∀ x H3, J.yld i H2 x H3 → ∀ k : Hp → Prop, (∀ H6, Pv (i + 1) H6 → k H6) → body x H3 k) (hd : ∀ H2, Pv n H2 → J.stop n H2 ∧ Qn H2) : tLoop J body Qn H := by
  refine ⟨fun i m H => m = n - i ∧ i ≤ n ∧ Pv i H, ⟨n, by simp, Nat.zero_le _, h0⟩, ?_⟩
  rintro i m H2 ⟨rfl, hi, p⟩
  by_cases hlt : i < n
  · obtain ⟨go, st⟩ := hs i H2 hlt p
    exact .inr ⟨go, fun x H3 y => st x H3 y _ fun H6 p6 => ⟨n - (i + 1), by omega, rfl, hlt, p6⟩⟩
  · have e : i = n := by omega
    subst e
    exact .inl (hd H2 p)
theorem comp_bools {J : It} {σ : St} {g : TG} {te : TE} {p : Addr} {H1 : Hp} {Qn : Hp → Prop} (n : Nat) (hn : n < sizeLine) (F : Nat → Bool) (hp : H1 p = none)
    (hs : ∀ i H2, i < n → Same H1 H2 → J.go i H2 ∧ ∀ x H3, J.yld i H2 x H3 → ∀ k : VK, (∀ H6, Same H2 H6 → k (.bl (F i)) H6) → g x σ H3 fun σ4 H4 => Wk σ σ4 ∧ te σ4 H4 k)
    (hst : ∀ H2, Same H1 H2 → J.stop n H2) (hq : ∀ H2, Same H1 H2 → H2 p = some (.lst (((List.range n).map F).map V.bl)) → Qn H2) :
    tLoop J (bOf σ g tNoTest (bElt p te)) Qn (upd H1 p (.lst [])) := by
  refine loop_by n (fun i H2 => Same H1 H2 ∧ H2 p = some (.lst (((List.range i).map F).map V.bl))) ⟨same_upd hp, upd_same⟩ (fun i H2 hi ⟨s2, e2⟩ => ?_) fun H2 ⟨s2, e2⟩ => ⟨hst H2 s2, hq H2 s2 e2⟩
  obtain ⟨go, st⟩ := hs i H2 hi s2
  refine ⟨go, fun x H3 y k hk => ?_⟩
  refine st x H3 y (fun v H6 => ∃ ys, H6 p = some (.lst ys) ∧ ys.length < sizeLine ∧ k (upd H6 p (.lst (ys ++ [v])))) fun H6 s6 => ?_
  have e6 := s6 p _ e2
  refine ⟨_, e6, ?_, hk _ ⟨fun b o e => ?_, ?_⟩⟩
  · rw [List.length_map, List.length_map, List.length_range]; omega
  · have hb : b ≠ p := ne_of_none e hp
    rw [upd_ne hb]; exact s6 b o (s2 b o e)
  · rw [upd_same, List.range_succ, List.map_append, List.map_append]; rfl
end L2
namespace Rk
open PySem PySem.Spec PyProof.Rows L2
end Rk
namespace Rk
open PySem PySem.Spec PyProof.Rows L2
def spCellAt (K : PySem.W.Frag) : Sp := fun vs H Q _ => ∃ a ns k, vs = [.ref a, .int k] ∧ SqL K H a ((ns : List Int).map V.int) ∧ ns.length < 2 ^ 20 ∧ 0 ≤ k ∧ ∀ c, Q (.int c) H
def spPot : Sp := fun vs H Q _ => ∃ c, vs = [.int c] ∧ ∀ p n, H p = none → Q (.ref p) (upd H p (.lst [.int n]))
def Cs (p : Addr) (H : Hp) : List V → List (Int × Int) → Prop := Paired fun x ij => ∃ d, d ≠ p ∧ x = .ref d ∧ H d = some (.tup [.int ij.1, .int ij.2])
theorem Cs.keep {p : Addr} {H H' : Hp} (k : ∀ d xs, d ≠ p → H d = some (.tup xs) → H' d = some (.tup xs)) : ∀ {ps : List V} {L : List (Int × Int)}, Cs p H ps L → Cs p H' ps L := fun h => Paired.mapP h fun x ij ⟨d, n, e, q⟩ => ⟨d, n, e, k d _ n q⟩
theorem Cs.kx {p : Addr} {H H' : Hp} (k : KX p H H') {ps : List V} {L : List (Int × Int)} (h : Cs p H ps L) : Cs p H' ps L := h.keep fun d xs n e => k d _ n e
theorem Cs.upd {p cl : Addr} {H : Hp} {xs : List V} {o : HO} (e : H cl = some (.lst xs)) {ps : List V} {L : List (Int × Int)} (h : Cs p H ps L) : Cs p (L2.upd H cl o) ps L := h.keep fun d ys n q => by
  rw [upd_ne]
  · exact q
  · intro z; rw [z, e] at q; cases q
theorem Cs.len {p : Addr} {H : Hp} {ps : List V} {L : List (Int × Int)} (h : Cs p H ps L) : ps.length = L.length := Paired.length h
theorem Cs.snoc {p : Addr} {H : Hp} {ps : List V} {L : List (Int × Int)} {x : V} {ij : Int × Int} (h : Cs p H ps L) (q : ∃ d, d ≠ p ∧ x = .ref d ∧ H d = some (.tup [.int ij.1, .int ij.2])) : Cs p H (ps ++ [x]) (L ++ [ij]) := Paired.snoc h q
theorem Cs.mem {p : Addr} {H : Hp} : ∀ {ps : List V} {L : List (Int × Int)}, Cs p H ps L → ∀ x ∈ ps, ∃ ij ∈ L, ∃ d, d ≠ p ∧ x = .ref d ∧ H d = some (.tup [.int ij.1, .int ij.2])
  | _, _, .nil, x, h => nomatch h
  | _, _, .cons r t, x, h => by
    rcases List.mem_cons.mp h with e | e
    · subst e; exact ⟨_, List.mem_cons_self, r⟩
    · obtain ⟨ij, m, q⟩ := Cs.mem t x e; exact ⟨ij, List.mem_cons_of_mem _ m, q⟩
def Before (a b : Int × Int) : Prop := a.1 < b.1 ∨ (a.1 = b.1 ∧ a.2 < b.2)
structure Good (h w : Int) (L : List (Int × Int)) : Prop where
  asc : L.Pairwise Before
  ins : ∀ x ∈ L, 0 ≤ x.1 ∧ x.1 < h ∧ 0 ≤ x.2 ∧ x.2 < w
  len : L.length ≤ 36
structure BoardAt (p : Addr) (H : Hp) (q : Addr) (h w : Int) (L : List (Int × Int)) : Prop where
  ne : q ≠ p
  it : ∃ c ps, c ≠ p ∧ H q = some (.tup [.int h, .int w, .ref c]) ∧ H c = some (.tup ps) ∧ Cs p H ps L
  h1 : 1 ≤ h
  h6 : h ≤ 6
  w1 : 1 ≤ w
  w6 : w ≤ 6
  good : Good h w L
theorem BoardAt.kx {p : Addr} {H H' : Hp} {q : Addr} {h w : Int} {L : List (Int × Int)} (B : BoardAt p H q h w L) (k : KX p H H') : BoardAt p H' q h w L := by
  obtain ⟨ne, ⟨c, ps, nc, e1, e2, cs⟩, h1, h6, w1, w6, g⟩ := B
  exact ⟨ne, ⟨c, ps, nc, k q _ ne e1, k c _ nc e2, cs.kx k⟩, h1, h6, w1, w6, g⟩
theorem emod_lt' (x : Int) {m : Int} (h : 0 < m) : 0 ≤ x % m ∧ x % m < m := ⟨Int.emod_nonneg _ (by omega), Int.emod_lt_of_pos _ h⟩
end Rk
namespace Rk
open PySem PySem.Spec PyProof.Rows L2
def notStar : Expr → Bool
  | .Starred _ _ => false
  | _ => true
theorem star_of {e : Expr} {es : List Expr} {env : Env} (h : notStar e = true) : starEach (e :: es) env = (false, eval e env) :: starEach es env := by
  cases e <;> first | rfl | cases h
section
variable {X : Cx}
theorem pa_c {e : Expr} {es : List Expr} {te : TE} {t : TA} (ha : PE X e te) (hr : PA X es t) (hs : notStar e = true := by rfl) : PA X (e :: es) (tCons te t) := pa_cons ha hr (star_of hs)
end
theorem KnD.mono {p : Addr} {H : Hp} {x : V} {n m : Nat} (h : m ≤ n) (k : KnD p n H x) : KnD p m H x := by
  induction n with
  | zero => have : m = 0 := by omega
            subst this; exact k
  | succ n ih =>
    by_cases e : m = n + 1
    · subst e; exact k
    · exact ih (by omega) k.low
def Sm (H : Hp) (x : V) : Prop := ∀ ps, tupOf H x = some ps → ps.length < sizeLine
def Part (p : Addr) (H : Hp) (x : V) : Prop := KnD p 2 H x ∧ Sm H x
def Thing (p : Addr) (H : Hp) (x : V) : Prop := KnD p 3 H x ∧ Sm H x ∧ ∀ xs, tupOf H x = some xs → ∀ y ∈ xs, Sm H y
theorem Sm.keep {p : Addr} {H H' : Hp} (k : KX p H H') {x : V} (n : Kn p H x) (h : Sm H x) : Sm H' x := fun ps e => h ps (by rw [← tupOf_keep k n]; exact e)
theorem Part.keep {p : Addr} {H H' : Hp} (k : KX p H H') {x : V} (h : Part p H x) : Part p H' x := ⟨h.1.keep k, h.2.keep k h.1.kn⟩
theorem Thing.keep {p : Addr} {H H' : Hp} (k : KX p H H') {x : V} (h : Thing p H x) : Thing p H' x :=
  ⟨h.1.keep k, h.2.1.keep k h.1.kn, fun xs e y hy => by
    have e' : tupOf H x = some xs := by rw [← tupOf_keep k h.1.kn]; exact e
    exact Sm.keep k (h.1.2 xs e' y hy).kn (h.2.2 xs e' y hy)⟩
theorem Thing.int {p : Addr} {H : Hp} (i : Int) : Thing p H (.int i) := ⟨KnD.int i 3, (fun _ e => nomatch e), (fun _ e => nomatch e)⟩
theorem Thing.bl {p : Addr} {H : Hp} (i : Bool) : Thing p H (.bl i) := ⟨KnD.bl i 3, (fun _ e => nomatch e), (fun _ e => nomatch e)⟩
theorem Thing.str {p : Addr} {H : Hp} (i : Str) : Thing p H (.str i) := ⟨KnD.str i 3, (fun _ e => nomatch e), (fun _ e => nomatch e)⟩
theorem Thing.non {p : Addr} {H : Hp} : Thing p H .non := ⟨KnD.non 3, (fun _ e => nomatch e), (fun _ e => nomatch e)⟩
theorem no_tup {H : Hp} {a : Addr} {o : HO} (e : H a = some o) (h : tupO (some o) = none) {xs : List V} (z : tupOf H (.ref a) = some xs) : False := by
  rw [tupOf_at, e, h] at z; cases z
theorem Thing.lst {p : Addr} {H : Hp} {a : Addr} {xs : List V} (hp : a ≠ p) (e : H a = some (.lst xs)) : Thing p H (.ref a) := ⟨KnD.lst hp e 3, (fun _ z => (no_tup e rfl z).elim), (fun _ z => (no_tup e rfl z).elim)⟩
theorem Thing.dct {p : Addr} {H : Hp} {a : Addr} {xs : List (Key × V)} (hp : a ≠ p) (e : H a = some (.dK xs)) : Thing p H (.ref a) := ⟨KnD.dct hp e 3, (fun _ z => (no_tup e rfl z).elim), (fun _ z => (no_tup e rfl z).elim)⟩
theorem tup_eq {H : Hp} {a : Addr} {xs ys : List V} (e : H a = some (.tup xs)) (z : tupOf H (.ref a) = some ys) : ys = xs := by
  rw [tupOf_ref e] at z; cases z; rfl
theorem Thing.tup {p : Addr} {H : Hp} {a : Addr} {xs : List V} (hp : a ≠ p) (e : H a = some (.tup xs)) (hl : xs.length < sizeLine) (h : ∀ y ∈ xs, Part p H y) : Thing p H (.ref a) :=
  ⟨KnD.tup hp e fun y hy => (h y hy).1, (fun ps z => by rw [tup_eq e z]; exact hl), fun ys z y hy => by rw [tup_eq e z] at hy; exact (h y hy).2⟩
theorem Part.tup {p : Addr} {H : Hp} {a : Addr} {xs : List V} (hp : a ≠ p) (e : H a = some (.tup xs)) (hl : xs.length < sizeLine) (h : ∀ y ∈ xs, KnD p 1 H y) : Part p H (.ref a) :=
  ⟨KnD.tup hp e h, fun ps z => by rw [tup_eq e z]; exact hl⟩
theorem Thing.part {p : Addr} {H : Hp} {x : V} (h : Thing p H x) : Part p H x := ⟨h.1.low, h.2.1⟩
theorem fm_nil {P : V → Prop} : ∀ y ∈ ([] : List V), P y := fun _ h => nomatch h
theorem fm_cons {P : V → Prop} {a : V} {l : List V} (h : P a) (k : ∀ y ∈ l, P y) : ∀ y ∈ a :: l, P y := fun y hy => by
  rcases List.mem_cons.mp hy with e | e
  · subst e; exact h
  · exact k y e
theorem Cs.kn {p : Addr} {H : Hp} {ps : List V} {L : List (Int × Int)} (h : Cs p H ps L) : ∀ x ∈ ps, KnD p 1 H x := fun x hx => by
  obtain ⟨ij, _, d, n, rfl, e⟩ := h.mem x hx
  exact KnD.tup n e (fm_cons (KnD.int _ 0) (fm_cons (KnD.int _ 0) fm_nil))
theorem Cs.part {p : Addr} {H : Hp} {c : Addr} {ps : List V} {L : List (Int × Int)} (n : c ≠ p) (e : H c = some (.tup ps)) (hl : ps.length < sizeLine) (h : Cs p H ps L) : Part p H (.ref c) := Part.tup n e hl h.kn
theorem lt_line {n : Nat} (h : n ≤ 1000) : n < sizeLine := Nat.lt_of_le_of_lt h (by decide)
end Rk
namespace Rk
open PySem PySem.Spec PyProof.Rows L2
def Fine (p : Addr) : Nat → Hp → V → Prop
  | 0, H, x => Kn p H x ∧ Sm H x
  | n + 1, H, x => Kn p H x ∧ Sm H x ∧ ∀ xs, tupOf H x = some xs → ∀ y ∈ xs, Fine p n H y
theorem Fine.kn {p : Addr} {H : Hp} {x : V} : ∀ {n : Nat}, Fine p n H x → Kn p H x
  | 0, h => h.1
  | _ + 1, h => h.1
theorem Fine.sm {p : Addr} {H : Hp} {x : V} : ∀ {n : Nat}, Fine p n H x → Sm H x
  | 0, h => h.2
  | _ + 1, h => h.2.1
theorem Fine.knd {p : Addr} {H : Hp} : ∀ {n : Nat} {x : V}, Fine p n H x → KnD p n H x
  | 0, _, h => h.1
  | _ + 1, _, h => ⟨h.1, fun xs e y hy => (h.2.2 xs e y hy).knd⟩
theorem Fine.keep {p : Addr} {H H' : Hp} (k : KX p H H') : ∀ {n : Nat} {x : V}, Fine p n H x → Fine p n H' x
  | 0, x, h => ⟨h.1.keep k, h.2.keep k h.1⟩
  | n + 1, x, h => ⟨h.1.keep k, h.2.1.keep k h.1, fun xs e y hy => (h.2.2 xs (by rw [← tupOf_keep k h.1]; exact e) y hy).keep k⟩
theorem Fine.thing {p : Addr} {H : Hp} {x : V} (h : ∀ n, Fine p n H x) : Thing p H x := ⟨(h 3).knd, (h 0).2, fun xs e y hy => ((h 1).2.2 xs e y hy).2⟩
theorem fine_plain {p : Addr} {H : Hp} {x : V} (k : Kn p H x) (t : tupOf H x = none) : ∀ n, Fine p n H x
  | 0 => ⟨k, fun ps e => by rw [t] at e; cases e⟩
  | _ + 1 => ⟨k, (fun ps e => by rw [t] at e; cases e), fun ps e => by rw [t] at e; cases e⟩
theorem fine_tup {p a : Addr} {H : Hp} {xs : List V} (hp : a ≠ p) (e : H a = some (.tup xs)) (hl : xs.length < sizeLine) (h : ∀ y ∈ xs, ∀ n, Fine p n H y) : ∀ n, Fine p n H (.ref a)
  | 0 => ⟨⟨hp, .inl ⟨xs, e⟩⟩, fun ps z => by rw [tup_eq e z]; exact hl⟩
  | n + 1 => ⟨⟨hp, .inl ⟨xs, e⟩⟩, (fun ps z => by rw [tup_eq e z]; exact hl), fun ys z y hy => h y (by rw [tup_eq e z] at hy; exact hy) n⟩
theorem fine_lst {p a : Addr} {H : Hp} {xs : List V} (hp : a ≠ p) (e : H a = some (.lst xs)) : ∀ n, Fine p n H (.ref a) := fine_plain ⟨hp, .inr (.inl ⟨xs, e⟩)⟩ (by rw [tupOf_at, e]; rfl)
section
variable {X : Cx}
end
end Rk
namespace Rk
open PySem PySem.Spec PyProof.Rows L2
def tTupW (t : TA) : TE := fun σ H Q => t σ H fun xs H1 => xs.length ≤ 1000 ∧ ∀ a H2, Same H1 H2 → H1 a = none → H2 a = some (.tup xs) → Q (.ref a) H2
def tLstW (t : TA) : TE := fun σ H Q => t σ H fun xs H1 => xs.length ≤ 1000 ∧ ∀ a H2, Same H1 H2 → H1 a = none → H2 a = some (.lst xs) → Q (.ref a) H2
section
variable {X : Cx}
theorem pe_tupW {es : List Expr} {t : TA} {x1} {pos : Pos} (h : PA X es t) : PE X (.Tuple es x1 pos) (tTupW t) := by
  intro pins s σ H Q I hq
  refine wpAny_Tuple_spliced (thn (h pos pins s σ H _ I hq) fun us s1 ⟨xs, H1, I1, r, z, q⟩ => ⟨by rw [← r.length]; exact Nat.le_of_lt (lt_line z), ?_⟩)
  have hf : H1 s1.heap.objs.size = none := I1.hok.fresh (Nat.le_refl _)
  refine ⟨.ref s1.heap.objs.size, upd H1 s1.heap.objs.size (.tup xs), I1.laid (t' := s1.toks) (fun b u e => Heap.get?_push_of_some _ e) (Nat.le_refl _) ?_, rfl, q _ _ (same_upd hf) hf upd_same⟩
  exact ⟨Nat.le_of_lt (lt_line z), us, r, ⟨_, Heap.get?_push_size _ rfl, rfl, _, rfl⟩⟩
theorem pe_lstW {es : List Expr} {t : TA} {pos : Pos} (h : PA X es t) : PE X (.List es pos) (tLstW t) := by
  intro pins s σ H Q I hq
  refine wpAny_List_spliced (thn (h pos pins s σ H _ I hq) fun us s1 ⟨xs, H1, I1, r, z, q⟩ => ⟨by rw [← r.length]; exact Nat.le_of_lt (lt_line z), ?_⟩)
  have hf : H1 s1.heap.objs.size = none := I1.hok.fresh (Nat.le_refl _)
  refine ⟨.ref s1.heap.objs.size, upd H1 s1.heap.objs.size (.lst xs), I1.laid (t' := s1.toks) (fun b u e => Heap.get?_push_of_some _ e) (Nat.le_refl _) ?_, rfl, q _ _ (same_upd hf) hf upd_same⟩
  exact ⟨Nat.le_of_lt (lt_line z), us, 0, r, Heap.get?_push_size _ rfl⟩
end
def FineA (p : Addr) (H : Hp) (x : V) : Prop := ∀ n, Fine p n H x
theorem FineA.keep {p : Addr} {H H' : Hp} {x : V} (h : FineA p H x) (k : KX p H H') : FineA p H' x := fun n => (h n).keep k
theorem FineA.int {p : Addr} {H : Hp} (i : Int) : FineA p H (.int i) := fine_plain trivial rfl
theorem FineA.bl {p : Addr} {H : Hp} (i : Bool) : FineA p H (.bl i) := fine_plain trivial rfl
theorem FineA.tup {p a : Addr} {H : Hp} {xs : List V} (hp : a ≠ p) (e : H a = some (.tup xs)) (hl : xs.length ≤ 1000) (h : ∀ y ∈ xs, FineA p H y) : FineA p H (.ref a) := fine_tup hp e (lt_line hl) h
theorem FineA.lst {p a : Addr} {H : Hp} {xs : List V} (hp : a ≠ p) (e : H a = some (.lst xs)) : FineA p H (.ref a) := fine_lst hp e
theorem FineA.thing {p : Addr} {H : Hp} {x : V} (h : FineA p H x) : Thing p H x := Fine.thing h
theorem FineA.part {p : Addr} {H : Hp} {x : V} (h : FineA p H x) : Part p H x := (Fine.thing h).part
end Rk
namespace Rx
open PySem PySem.Spec PySem.Calls PyProof.Rows L2 PySem.W Builtin Builtin.ObjectAttr Builtin.Getset_descriptor
def ExAt (a C : Addr) (h : Heap) : Prop := ∃ o vs, h.get? a = some o ∧ o.cls = .ref C ∧ o.data = .fields vs
theorem ExAt.ty {M : Model} {h : Heap} {a C : Addr} (x : ExAt a C h) : Looks M h (typeOf (.ref a)) (.ref C) := by
  obtain ⟨o, vs, e, c, _⟩ := x
  exact c ▸ (Looks.ld e).andThen .now
structure ExC (K : PySem.W.Frag) (C : Addr) : Prop where
  ga : findIn K (.ref C) "__getattribute__" = some (some (.builtin "BaseException.__getattribute__"))
  hk : findIn K (.ref C) "__getattr__" = some none
  bas : mroIn K C (.type "BaseException") = some true
  cls : (clsIn K C).isSome = true
  att : findIn K (.ref C) "__class__" = some (some (.builtin "object.__class__"))
  spc : specialIn K (.builtin "object.__class__") "__get__" = some (some (.builtin "getset_descriptor.__get__"))
  tks : takesIn K (.builtin "object.__class__") = some true
  mro : mroIn K C (.type "object") = some true
section
variable {prog : Program} {w : World} {A : Around} {E : Value → Shared → Prop} {s : Shared} {K : PySem.W.Frag} {a C : Addr}
end
end Rx
namespace Rx
open PySem PySem.Spec PySem.Calls PyProof.Rows L2
section
variable {X : Cx} {E : XK} {C : Addr} {x : Str} {e0 : Expr} {te : TE} {np cpos pos : Pos}
end
end Rx
namespace Rx
open PySem PySem.Spec PySem.Calls PyProof.Rows L2
def exO (a C : Addr) : HO := .ext (ExAt a C)
structure ByC (K : PySem.W.Frag) (C R : Addr) : Prop where
  ty : PySem.W.typeIn K (.ref R) = some (.type "type")
  cls : (PySem.W.clsIn K R).isSome = true
  base : PySem.W.mroIn K R (.type "BaseException") = some true
  sub : PySem.W.mroIn K C (.ref R) = some true
end Rx
namespace Rx
open PySem PySem.Spec PySem.Calls PyProof.Rows L2
section
variable {X : Cx} {pins : List (Addr × Obj)} {σ : L2.St} {H : Hp} {s : Shared}
end
def XP (X : Cx) (pins : List (Addr × Obj)) (Ex : L2.St → Addr → Hp → Prop) (e : Value) (s1 : Shared) : Prop :=
  ∃ (σ : L2.St) (C : Addr) (H' : Hp) (a t : Addr) (B : Heap), e = .ref a ∧ Heap.FlyingW B X.stack a (.ref C) (.ref t) s1.heap ∧ H' a = none ∧ X.s₀.heap.get? a = none ∧ (∀ p ∈ X.pn ++ pins, p.1 ≠ a) ∧
    (∀ (h2 : Heap) (tk : Nat), B.StaysIn h2 → s1.heap.UpToSlots h2 → Inv X pins σ H' { s1 with heap := h2, toks := tk }) ∧ Ex σ C H'
abbrev TX := L2.St → Hp → VK → (Addr → Hp → Prop) → Prop
def PEX (X : Cx) (e : Expr) (t : TX) : Prop := ∀ (pins : List (Addr × Obj)) (s : Shared) (σ : L2.St) (H : Hp) (Q : VK) (Ex : Addr → Hp → Prop), Inv X pins σ H s → t σ H Q Ex →
  wpAny (model X.prog X.w) X.A (eval e X.env) (EP X pins σ Q) (XP X pins fun σ1 C H1 => σ1 = σ ∧ Ex C H1) s
section
variable {X : Cx} {k : Nat} {f : Addr} {fd : FuncData} {ps : List Str} {sp : Sp} {x : Str} {p pos : Pos} {e : Expr} {es : List Expr} {t : TA}
end
section
variable {X : Cx} {R : Addr} {i : Nat} {n r : Str} {call hx : Expr} {tc : TX} {th : TE} {rp np hp hpos pos : Pos}
end
end Rx
namespace Rx
open PySem PySem.Spec PySem.Calls PyProof.Rows L2
structure RoomM (k : Nat) (A : Around) : Prop where
  dp : A.depth + 3 * k + 5 < recursionLimit
  un : A.units + 16 * k + 200 < cLine
theorem RoomM.mono {j k : Nat} {A : Around} (r : RoomM k A) (h : j ≤ k) : RoomM j A := ⟨by have := r.dp; omega, by have := r.un; omega⟩
section
variable {P : Program} {w : World} {K : PySem.W.Frag} {mg : Str → Option Value} {base : Heap}
end
section
variable {X : Cx} {k : Nat} {f : Addr} {fd : FuncData} {ps : List Str} {sp : Sp} {x : Str} {p pos : Pos} {e : Expr} {es : List Expr} {t : TA}
end
section
variable {X : Cx}
theorem bools_eq {bs : List Bool} {us : List Value} (r : Vals (bs.map V.bl) us) : us = bs.map Value.bool := by
  induction bs generalizing us with
  | nil => cases r; rfl
  | cons b bs ih =>
    cases r with
    | cons r t =>
      cases (show _ = Value.bool b from r)
      rw [ih t]
      rfl
end
end Rx
namespace Rd
open PySem PySem.Spec PyProof.Rows L2
mutual
inductive Dat (H : Hp) : V → PyData → Prop
  | non : Dat H .non .none
  | bl (b : Bool) : Dat H (.bl b) (.bool b)
  | int (i : Int) : Dat H (.int i) (.int i)
  | str (x : Str) : PyData.canLay0 (.str x) = true → Dat H (.str x) (.str x)
  | tup {a : Addr} {xs : List V} {ds : List PyData} : H a = some (.tup xs) → Dats H xs ds → Dat H (.ref a) (.tuple ds)
  | lst {a : Addr} {xs : List V} {ds : List PyData} : H a = some (.lst xs) → Dats H xs ds → Dat H (.ref a) (.list ds)
inductive Dats (H : Hp) : List V → List PyData → Prop
  | nil : Dats H [] []
  | cons {x : V} {xs : List V} {d : PyData} {ds : List PyData} : Dat H x d → Dats H xs ds → Dats H (x :: xs) (d :: ds)
end
mutual
theorem dat_reads {P : Program} {w : World} {H : Hp} {h : Heap} (ok : HOk P w H h) : ∀ (d : PyData) (x : V) (v : Value), Dat H x d → RelV x v → (∃ as, Reads h v d as) ∧ d.canLay0 = true
  | .none, _, v, .non, r => by cases r; exact ⟨⟨_, .none⟩, rfl⟩
  | .bool b, _, v, .bl _, r => by cases r; exact ⟨⟨_, .bool b⟩, rfl⟩
  | .int i, _, v, .int _, r => by obtain ⟨t, rfl⟩ := r; exact ⟨⟨_, .int i t⟩, rfl⟩
  | .str z, _, v, .str _ c, r => by obtain ⟨t, rfl⟩ := r; exact ⟨⟨_, .str z t⟩, c⟩
  | .tuple ds, _, v, .tup (a := a) (xs := xs) e q, r => by
    cases r
    obtain ⟨_, its, rv, o, ho, hc, n, hd⟩ := ok a _ e
    obtain ⟨⟨as, ra⟩, cl⟩ := dats_reads ok ds xs its q rv
    exact ⟨⟨as, .tuple ho hc hd ra⟩, cl⟩
  | .list ds, _, v, .lst (a := a) (xs := xs) e q, r => by
    cases r
    obtain ⟨_, its, n, rv, ho⟩ := ok a _ e
    obtain ⟨⟨as, ra⟩, cl⟩ := dats_reads ok ds xs its q rv
    exact ⟨⟨a :: as, .list ho rfl rfl ra⟩, cl⟩
  | .dict _, _, _, q, _ => nomatch q
theorem dats_reads {P : Program} {w : World} {H : Hp} {h : Heap} (ok : HOk P w H h) : ∀ (ds : List PyData) (xs : List V) (vs : List Value), Dats H xs ds → Vals xs vs → (∃ as, ReadsAll h vs ds as) ∧ PyData.canLayAll0 ds = true
  | [], _, vs, .nil, r => by cases r; exact ⟨⟨_, .nil⟩, rfl⟩
  | d :: ds, _, vs, .cons (x := x) (xs := xs) q qs, r => by
    cases r with
    | cons r rs =>
      obtain ⟨⟨a1, r1⟩, c1⟩ := dat_reads ok d x _ q r
      obtain ⟨⟨a2, r2⟩, c2⟩ := dats_reads ok ds xs _ qs rs
      exact ⟨⟨_, .cons r1 r2⟩, by simp [PyData.canLayAll0, c1, c2]⟩
end
mutual
theorem dat_same {H H' : Hp} (s : Same H H') : ∀ (d : PyData) (x : V), Dat H x d → Dat H' x d
  | .none, _, .non => .non
  | .bool _, _, .bl _ => .bl _
  | .int _, _, .int _ => .int _
  | .str _, _, .str _ c => .str _ c
  | .tuple ds, _, .tup (xs := xs) e q => .tup (s _ _ e) (dats_same s ds xs q)
  | .list ds, _, .lst (xs := xs) e q => .lst (s _ _ e) (dats_same s ds xs q)
  | .dict _, _, q => nomatch q
theorem dats_same {H H' : Hp} (s : Same H H') : ∀ (ds : List PyData) (xs : List V), Dats H xs ds → Dats H' xs ds
  | [], _, .nil => .nil
  | d :: ds, _, .cons (x := x) (xs := xs) q qs => .cons (dat_same s d x q) (dats_same s ds xs qs)
end
theorem Dat.same {H H' : Hp} {x : V} {d : PyData} (q : Dat H x d) (s : Same H H') : Dat H' x d := dat_same s d x q
theorem Dats.same {H H' : Hp} {xs : List V} {ds : List PyData} (q : Dats H xs ds) (s : Same H H') : Dats H' xs ds := dats_same s ds xs q
theorem Dats.length {H : Hp} : ∀ {xs : List V} {ds : List PyData}, Dats H xs ds → xs.length = ds.length
  | _, _, .nil => rfl
  | _, _, .cons _ q => by rw [List.length_cons, List.length_cons, q.length]
theorem Dats.get {H : Hp} : ∀ {xs : List V} {ds : List PyData}, Dats H xs ds → ∀ (i : Nat) (x : V), xs[i]? = some x → ∃ d, ds[i]? = some d ∧ Dat H x d
  | _, _, .nil, i, x, e => by simp at e
  | _, _, .cons q qs, 0, x, e => by simp at e; subst e; exact ⟨_, rfl, q⟩
  | _, _, .cons q qs, i + 1, x, e => qs.get i x (by simpa using e)
theorem Dats.app {H : Hp} : ∀ {xs ys : List V} {ds es : List PyData}, Dats H xs ds → Dats H ys es → Dats H (xs ++ ys) (ds ++ es)
  | _, _, _, _, .nil, q => q
  | _, _, _, _, .cons a b, q => .cons a (b.app q)
section
variable {X : Cx}
def rEqD (X : Cx) : R2 := fun x y H Q => ∃ dx dy, Dat H x dx ∧ Dat H y dy ∧ X.A.units + min dx.depth dy.depth < cLine ∧ Q (.bl (PyData.eqv dx dy)) H
theorem op_eqD : OpR X (compareOp .Eq) (rEqD X) := by
  intro pins s σ H x y v u Q I rx ry h
  obtain ⟨dx, dy, qx, qy, hu, q⟩ := h
  obtain ⟨⟨as, ra⟩, ca⟩ := dat_reads I.hok dx x v qx rx
  obtain ⟨⟨bs, rb⟩, cb⟩ := dat_reads I.hok dy y u qy ry
  exact SeqAt.compareEq_reads ra rb ca cb hu ⟨.bl _, H, I, rfl, q⟩
open Classical in
noncomputable def eqH (h : Heap) (d : PyData) (y : Value) : Bool := decide (∃ e as, Reads h y e as ∧ e.canLay0 = true ∧ PyData.eqv e d = true)
open Classical in
theorem eqH_t {h : Heap} {d : PyData} {y : Value} (q : ∃ e as, Reads h y e as ∧ e.canLay0 = true ∧ PyData.eqv e d = true) : eqH h d y = true := by
  unfold eqH
  exact decide_eq_true q
open Classical in
theorem eqH_f {h : Heap} {d : PyData} {y : Value} (q : ¬ ∃ e as, Reads h y e as ∧ e.canLay0 = true ∧ PyData.eqv e d = true) : eqH h d y = false := by
  unfold eqH
  exact decide_eq_false q
theorem eqH_of {h : Heap} {d e : PyData} {y : Value} {as : List Addr} (r : Reads h y e as) (c : e.canLay0 = true) : eqH h d y = PyData.eqv e d := by
  cases q : PyData.eqv e d with
  | true => exact eqH_t ⟨e, as, r, c, q⟩
  | false =>
    refine eqH_f fun ⟨e', as', r', c', q'⟩ => ?_
    rw [← SeqAt.Reads.unique e e' y as as' c r r', q] at q'
    cases q'
theorem any_eqH {h : Heap} {d : PyData} : ∀ {vs : List Value} {ds : List PyData} {as : List Addr}, ReadsAll h vs ds as → PyData.canLayAll0 ds = true → vs.any (eqH h d) = ds.any fun e => PyData.eqv e d
  | _, _, _, .nil, _ => rfl
  | _, _, _, .cons r rs, c => by
    simp only [PyData.canLayAll0, Bool.and_eq_true] at c
    rw [List.any_cons, List.any_cons, eqH_of r c.1, any_eqH rs c.2]
theorem mem_eqH {A : Around} {s : Shared} {d : PyData} {v : Value} {bs : List Addr} (rv : Reads s.heap v d bs) (cv : d.canLay0 = true) : ∀ {vs : List Value} {ds : List PyData} {as : List Addr}, ReadsAll s.heap vs ds as → PyData.canLayAll0 ds = true → A.units + d.depth < cLine →
    ∀ u ∈ vs, SeqAt.EqAt A s u v (eqH s.heap d u)
  | _, _, _, .nil, _, _ => fun u hu => nomatch hu
  | _, _, _, .cons (d := e) r rs, c, hu => fun u hm => by
    simp only [PyData.canLayAll0, Bool.and_eq_true] at c
    rcases List.mem_cons.mp hm with z | z
    · subst z
      rw [eqH_of r c.1]
      exact SeqAt.eqAt_reads e d A s _ v _ bs r rv c.1 cv (Nat.lt_of_le_of_lt (Nat.add_le_add_left (Nat.min_le_right _ _) _) hu)
    · exact mem_eqH rv cv rs c.2 hu u z
def rInD (X : Cx) (neg : Bool) : R2 := fun x y H Q => ∃ c ps ds d, y = .ref c ∧ H c = some (.tup ps) ∧ Dats H ps ds ∧ Dat H x d ∧ X.A.in1.units + d.depth < cLine ∧ Q (.bl (if neg then !(ds.any fun e => PyData.eqv e d) else ds.any fun e => PyData.eqv e d)) H
theorem op_inD : OpR X (compareOp .In) (rInD X false) := by
  intro pins s σ H x y v u Q I rx ry h
  obtain ⟨c, ps, ds, d, rfl, hc, qs, qx, hu, q⟩ := h
  cases ry
  obtain ⟨⟨as, ra⟩, ca⟩ := dat_reads I.hok d x v qx rx
  obtain ⟨_, its, rv, tp⟩ := I.hok c _ hc
  obtain ⟨⟨bs, rb⟩, cb⟩ := dats_reads I.hok ds ps its qs rv
  refine SeqAt.in_tupleAt (eqH s.heap d) tp (fun w hw => mem_eqH ra ca rb cb hu w (List.mem_toArray.mp hw)) ⟨.bl _, H, I, rfl, ?_⟩
  rw [show its.toArray.any (eqH s.heap d) = its.any (eqH s.heap d) by simp, any_eqH rb cb]
  exact q
end
end Rd
namespace Rd
open PySem PySem.Spec PyProof.Rows L2
section
variable {X : Cx}
end
end Rd
namespace L2
open PySem PySem.Spec PyProof.Rows
section
variable {X : Cx}
end
end L2
namespace L2
open PySem PySem.Spec PyProof.Rows
section
variable {prog : Program} {w : World} {A : Around} {R : Result → Shared → Prop} {s : Shared}
end
end L2
namespace L2
open PySem PySem.Spec PyProof.Rows
end L2
namespace Rk
open PySem PySem.Spec PyProof.Rows L2 Rd
def pairD (ij : Int × Int) : PyData := .tuple [.int ij.1, .int ij.2]
end Rk
namespace Rr
open PySem PyProof.Rows
section
variable {prog : Program} {w : World} {A : Around} {E : Value → Shared → Prop} {s : Shared}
end
end Rr
namespace L2
open PySem PySem.Spec PyProof.Rows
section
variable {X : Cx}
end
end L2
namespace Rs
open PySem PySem.W PyProof.Rows
def sp {α : Type} (n : Nat) (c : Nat → Nat → Bool) : KasT α → (α → Prop) → Prop
  | .ret a, Q => Q a
  | .ask i j f, Q => i < n ∧ j < n ∧ sp n c (f (c i j)) Q
theorem sp_mono {α : Type} {n : Nat} {c : Nat → Nat → Bool} {Q Q' : α → Prop} (h : ∀ a, Q a → Q' a) : ∀ {t : KasT α}, sp n c t Q → sp n c t Q'
  | .ret a, q => h a q
  | .ask i j f, q => ⟨q.1, q.2.1, sp_mono h (t := f (c i j)) q.2.2⟩
theorem sp_bind {α β : Type} {n : Nat} {c : Nat → Nat → Bool} {f : α → KasT β} {Q : β → Prop} : ∀ {t : KasT α}, sp n c t (fun a => sp n c (f a) Q) → sp n c (t.bind f) Q
  | .ret a, q => q
  | .ask i j g, q => ⟨q.1, q.2.1, sp_bind (t := g (c i j)) q.2.2⟩
theorem wp_of_sp {α : Type} {n : Nat} {c : Nat → Nat → Bool} {cmp : Nat → Nat → (Bool → Shared → Prop) → Shared → Prop} {s : Shared} {Q : α → Shared → Prop} (hc : ∀ i j (C : Bool → Shared → Prop), i < n → j < n → C (c i j) s → cmp i j C s) :
    ∀ {t : KasT α}, sp n c t (fun a => Q a s) → t.kasWp cmp Q s
  | .ret a, q => q
  | .ask i j f, q => hc i j _ q.1 q.2.1 (wp_of_sp hc (t := f (c i j)) q.2.2)
section
variable {n : Nat} {K : Nat → Int}
abbrev cK (K : Nat → Int) (i j : Nat) : Bool := decide (K i < K j)
structure Good (n : Nat) (p : Array Nat) : Prop where
  perm : p.toList.Perm (List.range n)
theorem Good.size {p : Array Nat} (g : Good n p) : p.size = n := by
  have := g.perm.length_eq
  rw [List.length_range, Array.length_toList] at this
  exact this
def at_ (p : Array Nat) (i : Nat) : Nat := p.getD i 0
theorem at_get {p : Array Nat} {i : Nat} (h : i < p.size) : p[i]? = some (at_ p i) := by
  unfold at_
  rw [Array.getD_eq_getD_getElem?, Array.getElem?_eq_getElem h]
  rfl
theorem at_of {p q : Array Nat} {i j : Nat} (h : p[i]? = q[j]?) : at_ p i = at_ q j := by
  unfold at_
  rw [Array.getD_eq_getD_getElem?, Array.getD_eq_getD_getElem?, h]
theorem Good.lt {p : Array Nat} (g : Good n p) (h0 : 0 < n) (i : Nat) : at_ p i < n := by
  by_cases h : i < p.size
  · have e := at_get h
    have m : at_ p i ∈ p.toList := by
      have := Array.mem_of_getElem? e
      exact Array.mem_toList_iff.mpr this
    exact List.mem_range.mp (g.perm.mem_iff.mp m)
  · unfold at_
    rw [Array.getD_eq_getD_getElem?, Array.getElem?_eq_none (by omega)]
    exact h0
theorem Good.inj {p : Array Nat} (g : Good n p) {i j : Nat} (hi : i < n) (hj : j < n) (e : at_ p i = at_ p j) : i = j := by
  have nd : p.toList.Nodup := g.perm.nodup_iff.mpr List.nodup_range
  have hs := g.size
  have hi' : i < p.toList.length := by rw [Array.length_toList]; omega
  have hj' : j < p.toList.length := by rw [Array.length_toList]; omega
  have ei : p.toList[i] = at_ p i := by
    have := at_get (p := p) (i := i) (by omega)
    rw [Array.getElem?_eq_getElem (by omega)] at this
    rw [Array.getElem_toList]
    exact Option.some.inj this
  have ej : p.toList[j] = at_ p j := by
    have := at_get (p := p) (i := j) (by omega)
    rw [Array.getElem?_eq_getElem (by omega)] at this
    rw [Array.getElem_toList]
    exact Option.some.inj this
  have pw := List.pairwise_iff_getElem.mp nd
  rcases Nat.lt_trichotomy i j with h | h | h
  · exact absurd (ei.trans (e.trans ej.symm)) (pw i j hi' hj' h)
  · exact h
  · exact absurd (ej.trans (e.symm.trans ei.symm)) (pw j i hj' hi' h)
def kk (K : Nat → Int) (p : Array Nat) (i : Nat) : Int := K (at_ p i)
def Adj (K : Nat → Int) (p : Array Nat) (m : Nat) : Prop := ∀ i, i + 1 < m → kk K p i ≤ kk K p (i + 1)
def Dsc (K : Nat → Int) (p : Array Nat) (m : Nat) : Prop := ∀ i, i + 1 < m → kk K p (i + 1) < kk K p i
theorem Adj.le {p : Array Nat} {m : Nat} (h : Adj K p m) {i : Nat} : ∀ {j : Nat}, i ≤ j → j < m → kk K p i ≤ kk K p j
  | 0, hij, _ => by cases Nat.le_zero.mp hij; exact Int.le_refl _
  | j + 1, hij, hj => by
    by_cases e : i = j + 1
    · rw [e]; exact Int.le_refl _
    · exact Int.le_trans (h.le (i := i) (j := j) (by omega) (by omega)) (h j hj)
theorem rev_good {p : Array Nat} (g : Good n p) (i j : Nat) : Good n (kas_rev p i j) := ⟨(Array.perm_iff_toList_perm.mp (mirror_perm p i j _)).trans g.perm⟩
theorem rev_at {p : Array Nat} {m k : Nat} (hm : m ≤ p.size) (hk : k < m) : at_ (kas_rev p 0 m) k = at_ p (m - 1 - k) := by
  refine at_of ?_
  have := getElem?_mirror_all (xs := p) (i := 0) (j := m) hm k
  rw [if_pos ⟨Nat.zero_le _, hk⟩, Nat.zero_add] at this
  exact this
theorem rev_adj {p : Array Nat} {m : Nat} (hm : m ≤ p.size) (d : Dsc K p m) : Adj K (kas_rev p 0 m) m := by
  intro i hi
  unfold kk
  rw [rev_at hm (by omega), rev_at hm hi]
  have := d (m - 1 - (i + 1)) (by omega)
  have e : m - 1 - (i + 1) + 1 = m - 1 - i := by omega
  rw [e] at this
  exact Int.le_of_lt this
theorem sp_asc {p : Array Nat} (g : Good n p) (h0 : 0 < n) : ∀ (f a : Nat), 1 ≤ a → Adj K p a →
    sp n (cK K) (kas_asc p f a) (fun m => a ≤ m ∧ m ≤ a + f ∧ Adj K p m ∧ (m = a + f ∨ kk K p m < kk K p (m - 1)))
  | 0, a, _, h => ⟨Nat.le_refl _, Nat.le_refl _, h, .inl rfl⟩
  | f + 1, a, ha, h => by
    refine ⟨g.lt h0 a, g.lt h0 (a - 1), ?_⟩
    show sp n (cK K) (if decide (kk K p a < kk K p (a - 1)) = true then .ret a else kas_asc p f (a + 1)) _
    by_cases e : kk K p a < kk K p (a - 1)
    · rw [decide_eq_true e, if_pos rfl]
      exact ⟨Nat.le_refl _, Nat.le_add_right _ _, h, .inr e⟩
    · rw [decide_eq_false e, if_neg (by simp)]
      refine sp_mono ?_ (sp_asc g h0 f (a + 1) (by omega) ?_)
      · rintro m ⟨h1, h2, h3, h4⟩
        exact ⟨by omega, by omega, h3, h4.imp (fun q => by omega) id⟩
      · intro i hi
        by_cases q : i + 1 < a
        · exact h i q
        · have e1 : i = a - 1 := by omega
          have e2 : i + 1 = a := by omega
          rw [e2, e1]
          exact Int.not_lt.mp e
theorem kk_ne (inj : ∀ i j, i < n → j < n → K i = K j → i = j) {p : Array Nat} (g : Good n p) {i j : Nat} (hi : i < n) (hj : j < n) (h : i ≠ j) : kk K p i ≠ kk K p j :=
  fun e => h (g.inj hi hj (inj _ _ (g.lt (by omega) i) (g.lt (by omega) j) e))
theorem sp_desc (inj : ∀ i j, i < n → j < n → K i = K j → i = j) {p : Array Nat} (g : Good n p) (h0 : 0 < n) : ∀ (f a : Nat), 1 ≤ a → a + f ≤ n → Dsc K p a →
    sp n (cK K) (kas_desc f p a 0) (fun r => r.1 = p ∧ r.2.2 = 0 ∧ a ≤ r.2.1 ∧ r.2.1 ≤ a + f ∧ Dsc K p r.2.1)
  | 0, a, _, _, h => ⟨rfl, rfl, Nat.le_refl _, Nat.le_refl _, h⟩
  | f + 1, a, ha, haf, h => by
    refine ⟨g.lt h0 a, g.lt h0 (a - 1), ?_⟩
    show sp n (cK K) (if decide (kk K p a < kk K p (a - 1)) = true then (if 0 > 0 then kas_desc f (kas_rev p (a - (0 + 1)) a) (a + 1) 0 else kas_desc f p (a + 1) 0) else _) _
    by_cases e : kk K p a < kk K p (a - 1)
    · rw [decide_eq_true e, if_pos rfl, if_neg (by omega)]
      refine sp_mono ?_ (sp_desc inj g h0 f (a + 1) (by omega) (by omega) ?_)
      · rintro r ⟨h1, h2, h3, h4, h5⟩
        exact ⟨h1, h2, by omega, by omega, h5⟩
      · intro i hi
        by_cases q : i + 1 < a
        · exact h i q
        · have e1 : i = a - 1 := by omega
          have e2 : i + 1 = a := by omega
          rw [e2, e1]
          exact e
    · rw [decide_eq_false e, if_neg (by simp)]
      refine ⟨g.lt h0 (a - 1), g.lt h0 a, ?_⟩
      show sp n (cK K) (if decide (kk K p (a - 1) < kk K p a) = true then .ret (p, a, 0) else _) _
      have ne := kk_ne (K := K) inj g (i := a - 1) (j := a) (by omega) (by omega) (by omega)
      rw [decide_eq_true (by omega), if_pos rfl]
      exact ⟨rfl, rfl, Nat.le_refl _, Nat.le_add_right _ _, h⟩
def Run (K : Nat → Int) (n : Nat) (r : Nat × Array Nat) : Prop := Good n r.2 ∧ 1 ≤ r.1 ∧ r.1 ≤ n ∧ Adj K r.2 r.1
theorem sp_tail3 {p : Array Nat} (g : Good n p) {m : Nat} (h1 : 1 ≤ m) (hm : m ≤ n) (d : Dsc K p m) : sp n (cK K) (kas_tail3 m n p) (Run K n) := by
  refine sp_bind ?_
  have hs := g.size
  have g' := rev_good g 0 m
  refine sp_mono ?_ (sp_asc g' (by omega) (n - m) m h1 (rev_adj (by omega) d))
  rintro k ⟨a, b, c, _⟩
  exact ⟨g', by omega, by omega, c⟩
theorem sp_descPart (inj : ∀ i j, i < n → j < n → K i = K j → i = j) {p : Array Nat} (g : Good n p) {m : Nat} (hm : m + 1 ≤ n) (d : Dsc K p (m + 1)) : sp n (cK K) (kas_descPart m n p) (Run K n) := by
  refine sp_bind ?_
  refine sp_mono ?_ (sp_desc inj g (by omega) (n - (m + 1)) (m + 1) (by omega) (by omega) d)
  rintro ⟨p', k, q⟩ ⟨e1, e2, h3, h4, h5⟩
  have e1 : p' = p := e1
  have e2 : q = 0 := e2
  subst e1 e2
  show sp n (cK K) (if 0 > 0 then _ else kas_tail3 k n p') _
  rw [if_neg (by omega)]
  have h3 : m + 1 ≤ k := h3
  have h4 : k ≤ m + 1 + (n - (m + 1)) := h4
  exact sp_tail3 g (by omega) (by omega) h5
theorem sp_count (inj : ∀ i j, i < n → j < n → K i = K j → i = j) {p : Array Nat} (g : Good n p) (h0 : 0 < n) : sp n (cK K) (kas_count n p) (Run K n) := by
  refine sp_bind ?_
  refine sp_mono ?_ (sp_asc g h0 (n - 1) 1 (Nat.le_refl _) (fun i hi => by omega))
  rintro m ⟨h1, h2, h3, h4⟩
  show sp n (cK K) (if (m == n) = true then .ret (m, p) else if m > 1 then _ else kas_descPart m n p) _
  by_cases e : m = n
  · rw [if_pos (beq_iff_eq.mpr e)]
    exact ⟨g, h1, by omega, h3⟩
  · rw [if_neg (fun q => e (beq_iff_eq.mp q))]
    by_cases e2 : m > 1
    · rw [if_pos e2]
      refine ⟨g.lt h0 0, g.lt h0 (m - 1), ?_⟩
      show sp n (cK K) (if decide (kk K p 0 < kk K p (m - 1)) = true then .ret (m, p) else _) _
      have le := h3.le (i := 0) (j := m - 1) (by omega) (by omega)
      have ne := kk_ne (K := K) inj g (i := 0) (j := m - 1) (by omega) (by omega) (by omega)
      rw [decide_eq_true (by omega), if_pos rfl]
      exact ⟨g, h1, by omega, h3⟩
    · rw [if_neg e2]
      have em : m = 1 := by omega
      subst em
      refine sp_descPart inj g (by omega) fun i hi => ?_
      have ei : i = 0 := by omega
      subst ei
      rcases h4 with q | q
      · omega
      · exact q
theorem sp_place {p : Array Nat} (g : Good n p) (h0 : 0 < n) {k : Nat} (A : Adj K p k) : ∀ (f l r : Nat), l ≤ r → r ≤ k → r - l ≤ f → (∀ i, i < l → kk K p i ≤ kk K p k) → (∀ i, r ≤ i → i < k → kk K p k < kk K p i) →
    sp n (cK K) (kas_place p k f l r) (fun m => m ≤ k ∧ (∀ i, i < m → kk K p i ≤ kk K p k) ∧ ∀ i, m ≤ i → i < k → kk K p k < kk K p i)
  | 0, l, r, h1, h2, h3, a, b => ⟨by omega, a, fun i hi hk => b i (by omega) hk⟩
  | f + 1, l, r, h1, h2, h3, a, b => by
    show sp n (cK K) (if l ≥ r then .ret l else _) _
    by_cases e : l ≥ r
    · rw [if_pos e]
      exact ⟨by omega, a, fun i hi hk => b i (by omega) hk⟩
    · rw [if_neg e]
      refine ⟨g.lt h0 k, g.lt h0 ((l + r) / 2), ?_⟩
      show sp n (cK K) (if decide (kk K p k < kk K p ((l + r) / 2)) = true then kas_place p k f l ((l + r) / 2) else kas_place p k f ((l + r) / 2 + 1) r) _
      by_cases q : kk K p k < kk K p ((l + r) / 2)
      · rw [decide_eq_true q, if_pos rfl]
        refine sp_place g h0 A f l ((l + r) / 2) (by omega) (by omega) (by omega) a fun i hi hk => ?_
        exact Int.lt_of_lt_of_le q (A.le hi hk)
      · rw [decide_eq_false q, if_neg (by simp)]
        refine sp_place g h0 A f ((l + r) / 2 + 1) r (by omega) h2 (by omega) (fun i hi => ?_) b
        exact Int.le_trans (A.le (i := i) (j := (l + r) / 2) (by omega) (by omega)) (Int.not_lt.mp q)
theorem sp_bin (h0 : 0 < n) : ∀ (f k : Nat) {p : Array Nat}, Good n p → k + f ≤ n → Adj K p k → sp n (cK K) (kas_bin f p k) (fun p' => Good n p' ∧ Adj K p' (k + f))
  | 0, k, p, g, _, A => ⟨g, A⟩
  | f + 1, k, p, g, hk, A => by
    refine sp_bind ?_
    refine sp_mono ?_ (sp_place g h0 A k 0 k (Nat.zero_le _) (Nat.le_refl _) (by omega) (fun i hi => by omega) (fun i hi hk => by omega))
    rintro l ⟨hl, lo, hi⟩
    have hs := g.size
    have bb : ∀ j, at_ (bubble p k (k - l)) j = if j = l then at_ p k else if l < j ∧ j ≤ k then at_ p (j - 1) else at_ p j := by
      intro j
      have := getElem?_bubble (xs := p) (src := k) (by omega) (k - l) (by omega) j
      have e : k - (k - l) = l := by omega
      rw [e] at this
      split
      · rename_i q; rw [if_pos q] at this; exact at_of this
      · rename_i q
        rw [if_neg q] at this
        split
        · rename_i q2; rw [if_pos q2] at this; exact at_of this
        · rename_i q2; rw [if_neg q2] at this; exact at_of this
    refine sp_mono ?_ (sp_bin h0 f (k + 1) (p := bubble p k (k - l)) ⟨(Array.perm_iff_toList_perm.mp (bubble_perm p k (k - l))).trans g.perm⟩ (by omega) ?_)
    · rintro p' ⟨a, b⟩
      exact ⟨a, by rw [show k + (f + 1) = k + 1 + f by omega]; exact b⟩
    · intro i hik
      unfold kk
      rw [bb, bb]
      by_cases c1 : i + 1 < l
      · rw [if_neg (by omega), if_neg (by omega), if_neg (by omega), if_neg (by omega)]
        exact A i (by omega)
      · by_cases c2 : i + 1 = l
        · rw [if_neg (by omega), if_neg (by omega), if_pos c2]
          exact lo i (by omega)
        · by_cases c3 : i = l
          · rw [if_pos c3, if_neg (by omega), if_pos ⟨by omega, by omega⟩]
            exact Int.le_of_lt (hi (i + 1 - 1) (by omega) (by omega))
          · rw [if_neg c3, if_pos ⟨by omega, by omega⟩, if_neg (by omega), if_pos ⟨by omega, by omega⟩]
            have := A (i - 1) (by omega)
            rw [show i - 1 + 1 = i + 1 - 1 by omega] at this
            exact this
theorem sp_sort (inj : ∀ i j, i < n → j < n → K i = K j → i = j) (h0 : 0 < n) : sp n (cK K) (kas_sort n) (fun p => Good n p ∧ Adj K p n) := by
  have g : Good n (List.toArray (List.range n)) := ⟨List.Perm.refl _⟩
  refine sp_bind ?_
  refine sp_mono ?_ (sp_count inj g h0)
  rintro ⟨m, p⟩ ⟨g', h1, h2, A⟩
  show sp n (cK K) (if m < n then kas_bin (n - max m 1) p (max m 1) else .ret p) _
  have e : max m 1 = m := by have : 1 ≤ m := h1; omega
  rw [e]
  by_cases q : m < n
  · rw [if_pos q]
    refine sp_mono ?_ (sp_bin h0 (n - m) m g' (by omega) A)
    rintro p' ⟨a, b⟩
    exact ⟨a, by rw [show m + (n - m) = n by omega] at b; exact b⟩
  · rw [if_neg q]
    have h2 : m ≤ n := h2
    have e2 : m = n := by omega
    subst e2
    exact ⟨g', A⟩
end
end Rs
namespace Rs
open PySem PySem.W PySem.Calls PyProof.Rows
section
variable {prog : Program} {w : World} {A : Around} {E : Value → Shared → Prop} {s : Shared}
def Kept (a : Addr) (h h' : Heap) : Prop := ∀ b x, b ≠ a → h.get? b = some x → h'.get? b = some x
theorem upd_kept {h : Heap} {a : Addr} (f : Obj → Obj) : Kept a h (h.update a f) := fun b x hb e => (Heap.get?_update_ne _ _ _ _ hb).trans e
theorem push_kept {h : Heap} {a : Addr} (o : Obj) : Kept a h (h.push o) := fun b x _ e => Heap.get?_push_of_some _ e
theorem Kept.trans {a : Addr} {h h1 h2 : Heap} (k : Kept a h h1) (k' : Kept a h1 h2) : Kept a h h2 := fun b x hb e => k' b x hb (k b x hb e)
theorem range_map (vs : List Value) : (List.range vs.length).map (fun i => vs.getD i Value.none) = vs := by
  apply List.ext_getElem?
  intro i
  rw [List.getElem?_map]
  by_cases h : i < vs.length
  · rw [List.getElem?_range h, List.getElem?_eq_getElem h]
    show some (vs.getD i Value.none) = _
    rw [List.getD_eq_getElem?_getD, List.getElem?_eq_getElem h]
    rfl
  · rw [List.getElem?_eq_none (by simpa using h), List.getElem?_eq_none (by omega)]
    rfl
theorem list_sort_keys {a : Addr} {vs : List Value} {n : Nat} {P : PySem.Fin → Shared → Prop} (ho : s.heap.get? a = some (seqObj "list" vs.toArray n)) (h64 : vs.length < 64) (K : Nat → Int) (κ : SortKind)
    (inj : ∀ i j, i < vs.length → j < vs.length → K i = K j → i = j)
    (hkind : 2 ≤ vs.length → ∀ h' : Heap, Kept a s.heap h' → ∀ (Q' : SortKind → Shared → Prop) (E' : Value → Shared → Prop), Q' κ { s with heap := h' } → wpAny (model prog w) A (keyKind' vs.toArray) Q' E' { s with heap := h' })
    (hcmp : ∀ h' : Heap, Kept a s.heap h' → ∀ (i j : Nat) (C : Bool → Shared → Prop), i < vs.length → j < vs.length → C (decide (K i < K j)) { s with heap := h' } → wpAny (model prog w) A (keyLt' κ (vs.getD i Value.none) (vs.getD j Value.none)) C (fun _ _ => False) { s with heap := h' })
    (h : ∀ p : Array Nat, Good vs.length p → Adj K p vs.length → ∀ (h' : Heap) (e : Nat), Kept a s.heap h' → h'.get? a = some (seqObj "list" (List.toArray (p.toList.map fun i => vs.getD i Value.none)) e) → P (.done (.ret .none)) { s with heap := h' }) :
    wpAny (model prog w) A (Builtin.«list.sort» ⟨[.ref a], []⟩) P E s := by
  have ha : a < s.heap.objs.size := Heap.lt_size ho
  obtain ⟨e1, ho1⟩ : ∃ e1, (s.heap.update a (Obj.mapSeq fun _ => (#[] : Array Value))).get? a = some (seqObj "list" #[] e1) := ⟨_, get?_update_seq ho fun _ => #[]⟩
  have K3 : Kept a s.heap (((s.heap.update a (Obj.mapSeq fun _ => (#[] : Array Value))).push (seqObj "tuple" vs.toArray 0)).push (seqObj "list" #[] 0)) := (upd_kept _).trans ((push_kept _).trans (push_kept _))
  have ho6 : (((s.heap.update a (Obj.mapSeq fun _ => (#[] : Array Value))).push (seqObj "tuple" vs.toArray 0)).push (seqObj "list" #[] 0)).get? a = some (seqObj "list" #[] e1) := Heap.get?_push_of_some _ (Heap.get?_push_of_some _ ho1)
  rw [list_sort_plain]
  refine wpAny_bind (listItems_at ho rfl ?_)
  refine wpAny_bind (listUpdate_at ho rfl ?_ (by rw [List.size_toArray, sizeLine_eq]; omega) (Nat.zero_le _))
  refine wpAny_bind (seqEpoch_at ho1 rfl ?_)
  refine wpAny_bind (wpAny_newTuple ?_ (by show vs.length ≤ _; rw [sizeLine_eq]; omega))
  refine wpAny_bind (wpAny_newList ?_ (Nat.zero_le _))
  refine wpAny_holding ?_
  show wpAny (model prog w) A _ P E { s with heap := ((s.heap.update a (Obj.mapSeq fun _ => (#[] : Array Value))).push (seqObj "tuple" vs.toArray 0)).push (seqObj "list" #[] 0) }
  dsimp only
  generalize (((s.heap.update a (Obj.mapSeq fun _ => (#[] : Array Value))).push (seqObj "tuple" vs.toArray 0)).push (seqObj "list" #[] 0)) = h3 at K3 ho6 ⊢
  have fin : ∀ p : Array Nat, Good vs.length p → Adj K p vs.length → ∀ st' : SortSt, (arrOf st').map (·.2) = List.toArray (p.toList.map fun i => vs.getD i Value.none) → failedOf st' = none →
      ∃ e2, (h3.update a (Obj.mapSeq fun _ => List.toArray (p.toList.map fun i => vs.getD i Value.none))).get? a = some (seqObj "list" (List.toArray (p.toList.map fun i => vs.getD i Value.none)) e2) := fun p _ _ _ _ _ => ⟨_, get?_update_seq ho6 fun _ => _⟩
  by_cases h2 : vs.toArray.size < 2
  · rw [if_pos h2, if_pos h2]
    refine wpAny_bind (wpAny_pure ?_)
    rw [StateT.run_pure]
    refine wpAny_bind (wpAny_pure ?_)
    dsimp only
    have gg : Good vs.length (List.toArray (List.range vs.length)) := ⟨List.Perm.refl _⟩
    have aa : Adj K (List.toArray (List.range vs.length)) vs.length := fun i hi => by rw [List.size_toArray] at h2; omega
    have out : (arrOf (SortSt.mk' general' (vs.toArray.zip vs.toArray) #[] 7 none)).map (·.2) = List.toArray ((List.toArray (List.range vs.length)).toList.map fun i => vs.getD i Value.none) := by
      show (vs.toArray.zip vs.toArray).map (·.2) = _
      rw [List.toList_toArray, range_map]
      apply Array.toList_inj.mp
      rw [Array.toList_map, Array.toList_zip]
      show (vs.zip vs).map (·.2) = vs
      exact List.map_snd_zip (Nat.le_refl _)
    obtain ⟨e2, he2⟩ := fin _ gg aa _ out rfl
    rw [out]
    refine wpAny_bind (seqEpoch_at ho6 rfl ?_)
    refine wpAny_bind (listUpdate_at ho6 rfl ?_ (Nat.zero_le _) (by rw [List.size_toArray, List.length_map, List.toList_toArray, List.length_range, sizeLine_eq]; omega))
    simp only [bne_self_eq_false, Bool.false_eq_true, if_false]
    exact wpAny_pure (h _ gg aa _ e2 (K3.trans (upd_kept _)) he2)
  · rw [if_neg h2, if_neg h2]
    have h2' : 2 ≤ vs.length := by rw [List.size_toArray] at h2; omega
    refine wpAny_bind (hkind h2' h3 K3 _ _ ?_)
    refine wpAny_bind (wpAny_mono (kat_run (Q := fun st' s' => ∃ p : Array Nat, Good vs.length p ∧ Adj K p vs.length ∧ arrOf st' = p.map (kas_item (vs.toArray.zip vs.toArray)) ∧ failedOf st' = none ∧ s' = { s with heap := h3 })
      (G := fun p s' => Good vs.length p ∧ Adj K p vs.length ∧ s' = { s with heap := h3 }) rfl h2' h64 (fun p' st' s' a1 a2 a3 a4 => ⟨p', a4.1, a4.2.1, a2, a3, a4.2.2⟩)
      (wp_of_sp (c := cK K) (fun i j C hi hj hC => hcmp h3 K3 i j C hi hj hC) (sp_mono (fun p q => ⟨q.1, q.2, rfl⟩) (sp_sort inj (by omega))))) ?_ fun _ _ e => e)
    rintro ⟨⟨⟩, st'⟩ s' ⟨p, gg, aa, har, hf, rfl⟩
    dsimp only
    have out := kat_snds (ks := vs) rfl har
    obtain ⟨e2, he2⟩ := fin p gg aa st' out hf
    rw [out]
    refine wpAny_bind (seqEpoch_at ho6 rfl ?_)
    refine wpAny_bind (listUpdate_at ho6 rfl ?_ (Nat.zero_le _) (by rw [List.size_toArray, List.length_map, Array.length_toList, gg.size, sizeLine_eq]; omega))
    rw [hf]
    simp only [bne_self_eq_false, Bool.false_eq_true, if_false]
    exact wpAny_pure (h p gg aa _ e2 (K3.trans (upd_kept _)) he2)
theorem sorted_shell {Q : Value → Shared → Prop} {l : Addr} {T : String} {o : Obj} {vs : List Value} {n : Nat} (hT : T = "list" ∨ T = "tuple") (ho : s.heap.get? l = some o) (hc : o.cls = .type T) (hd : o.data = .seq vs.toArray n) (h64 : vs.length < 64)
    (h : ∀ h' : Heap, (∀ b x, s.heap.get? b = some x → h'.get? b = some x) → ∀ (P : PySem.Fin → Shared → Prop) (E' : Value → Shared → Prop), (∀ s2, Q (.ref h'.objs.size) s2 → P (.done (.ret .none)) s2) →
      wpAny (model prog w) A.in1.in1 (Builtin.«list.sort» ⟨[.ref h'.objs.size], []⟩) P E' { s with heap := h'.push (seqObj "list" vs.toArray 0) }) :
    wpAny (model prog w) A (call (.builtin "sorted") [.ref l]) Q E s := by
  refine Calls.call_function_entry kind_sorted plain_sorted entry_sorted (args_sorted1 _) ?_
  unfold Builtin.«sorted»
  refine wpAny_bind (m := checkCount "sorted" 1 1 _) (wpAny_pure ?_)
  refine wpAny_bind (wpAny_collect_seq (items := vs.toArray) l hT ho hc hd (fun h' kp => ?_) (by rw [List.size_toArray, sizeLine_eq]; omega))
  refine wpAny_bind (wpAny_newList ?_ (by rw [List.toList_toArray, sizeLine_eq]; omega))
  have hoL : (h'.push (seqObj "list" vs.toArray 0)).get? h'.objs.size = some (seqObj "list" vs.toArray 0) := Heap.get?_push_size _ rfl
  show wpAny _ _ _ _ _ { s with heap := h'.push (seqObj "list" vs.toArray 0) }
  refine wpAny_bind (wpAny_holding (wpAny_call_entry slot_list_sort ⟨_, hoL, rfl⟩ entry_list_sort ?body (args_list_sort _)))
  exact h h' kp _ _ fun s2 hq => ⟨_, rfl, wpAny_pure ⟨_, rfl, hq⟩⟩
end
end Rs
namespace Rs
open PySem PySem.W PySem.Calls PyProof.Rows
structure PairV (h : Heap) (v : Value) (ij : Int × Int) : Prop where
  it : ∃ (a : Addr) (o : Obj) (n : Nat) (t u : Tok), v = .ref a ∧ h.get? a = some o ∧ o.cls = .type "tuple" ∧ o.data = .seq #[.int ij.1 t, .int ij.2 u] n
theorem PairV.keep {h h' : Heap} {v : Value} {ij : Int × Int} (q : PairV h v ij) (k : ∀ b x, h.get? b = some x → h'.get? b = some x) : PairV h' v ij := by
  obtain ⟨a, o, n, t, u, e, g, c, d⟩ := q.it
  exact ⟨a, o, n, t, u, e, k _ _ g, c, d⟩
inductive PairsV (h : Heap) : List Value → List (Int × Int) → Prop
  | nil : PairsV h [] []
  | cons {v : Value} {vs : List Value} {ij : Int × Int} {L : List (Int × Int)} : PairV h v ij → PairsV h vs L → PairsV h (v :: vs) (ij :: L)
theorem PairsV.keep {h h' : Heap} (k : ∀ b x, h.get? b = some x → h'.get? b = some x) : ∀ {vs : List Value} {L : List (Int × Int)}, PairsV h vs L → PairsV h' vs L
  | _, _, .nil => .nil
  | _, _, .cons q r => .cons (q.keep k) (r.keep k)
theorem PairsV.len {h : Heap} : ∀ {vs : List Value} {L : List (Int × Int)}, PairsV h vs L → vs.length = L.length
  | _, _, .nil => rfl
  | _, _, .cons _ r => by rw [List.length_cons, List.length_cons, r.len]
theorem PairsV.at_ {h : Heap} : ∀ {vs : List Value} {L : List (Int × Int)}, PairsV h vs L → ∀ i, i < vs.length → PairV h (vs.getD i Value.none) (L.getD i (0, 0))
  | _, _, .nil, i, hi => by simp at hi
  | _, _, .cons q r, 0, hi => q
  | _, _, .cons q r, i + 1, hi => by
    have := r.at_ i (by simpa using hi)
    simpa using this
section
variable {prog : Program} {w : World} {A : Around} {E : Value → Shared → Prop} {s : Shared}
end
end Rs
namespace L2
open PySem PySem.Spec PyProof.Rows _root_.Rd _root_.Rk _root_.Rs
theorem boot_sorted : bootBuiltins "sorted" = some (.builtin "sorted") := by decide +kernel
section
variable {X : Cx}
theorem ints_are : ∀ {ns : List Int} {vs : List Value}, Vals (ns.map V.int) vs → IntsAre vs ns
  | [], _, .nil => .nil
  | i :: ns, _, .cons ⟨t, e⟩ r => by subst e; exact .cons _ _ (ints_are r)
theorem are_ints : ∀ {ns : List Int} {vs : List Value}, IntsAre vs ns → Vals (ns.map V.int) vs
  | _, _, .nil => .nil
  | _, _, .cons n t r => .cons ⟨t, rfl⟩ (are_ints r)
def rSortI (K : PySem.W.Frag) : List V → Hp → VK → Prop := fun xs H Q => ∃ l ns, xs = [.ref l] ∧ SqT K H l ((ns : List Int).map V.int) ∧ ns.length < 64 ∧
  ∀ t ms H2, Same H H2 → H t = none → H2 t = some (.lst ((ms : List Int).map V.int)) → ms.Perm ns → ms.Pairwise (· ≤ ·) → Q (.ref t) H2
theorem call_sortI : CallR X (.builtin "sorted") (rSortI X.K) := by
  intro pins s σ H xs us Q I r h
  obtain ⟨l, ns, rfl, hl, h64, q⟩ := h
  obtain ⟨u, rfl, ru⟩ := vals1 r
  cases ru
  obtain ⟨its, rv, tp, hz⟩ := I.tuple hl
  obtain ⟨o, ho, hc, n, hd⟩ := tp
  have li := rv.length
  rw [List.length_map] at li
  refine sorted_shell (.inr rfl) ho hc hd (by omega) fun h' kp P E' hP => ?_
  have hn : (h'.push (seqObj "list" its.toArray 0)).get? h'.objs.size = some (seqObj "list" its.toArray 0) := Heap.get?_push_size _ rfl
  refine list_sort_tree (s := { s with heap := h'.push (seqObj "list" its.toArray 0) }) hn (ints_are rv) (by omega) fun out ns' ia pm pw => hP _ ?_
  have I1 : Inv X pins σ H { s with heap := h' } := I.kept (t' := s.toks) kp
  have hf : H h'.objs.size = none := I1.hok.fresh (Nat.le_refl _)
  obtain ⟨e, he⟩ : ∃ e, (sortedHeap (h'.push (seqObj "list" its.toArray 0)) h'.objs.size its out).get? h'.objs.size = some (seqObj "list" out e) := sortedHeap_at hn
  have rv' := are_ints ia
  have lp := pm.length_eq
  have I2 : Inv X pins σ (upd H h'.objs.size (.lst (ns'.map V.int))) { s with heap := sortedHeap (h'.push (seqObj "list" its.toArray 0)) h'.objs.size its out } :=
    I1.laid (t' := s.toks) (fun b x e' => (sortedHeap_old (Nat.ne_of_lt (Heap.lt_size e')) (Nat.lt_of_lt_of_le (Heap.lt_size e') (by rw [size_push']; exact Nat.le_succ _))).trans (Heap.get?_push_of_some _ e')) (Nat.le_refl _) (show ObjOk X.prog X.w _ _ _ (.lst _) from ⟨by rw [List.length_map]; exact Nat.le_of_lt (Rk.lt_line (by omega)), out.toList, e, rv', by rw [he]⟩)
  exact ⟨.ref h'.objs.size, _, I2, rfl, q _ ns' _ (same_upd hf) hf upd_same pm pw⟩
end
end L2
namespace Re
open PySem PyProof.Rows
open AutoSeq1 (wpAny_loadPart')
end Re
namespace L2
open PySem PySem.Spec PyProof.Rows
section
variable {X : Cx}
end
end L2
namespace Rk
open PySem PySem.Spec PyProof.Rows L2
end Rk
namespace L2
open PySem PySem.Spec PyProof.Rows
section
variable {X : Cx} {pins : List (Addr × Obj)} {σ : St} {H : Hp}
theorem store_then_end {M : List Str} {scope : Scope} {fp : List Addr} {σ' : St} {H3 : Hp} {s3 s' : Shared} {D : Addr} {i : Nat} {y : Str} {py : Pos} {Mo : Model} {A : Around} {E : Value → Shared → Prop} {Q : Value → Shared → Prop}
    (I3 : Inv X pins σ H3 s3) (f3 : ∀ b ∈ fp, FpOk X pins H3 b) (J : Inv (blk X M scope (clOf X.env scope.names []) fp s3 H3 s3.heap.objs.size) [] σ' H s')
    (hN : X.N.Nodup) (hi : X.N[i]? = some y) (hl : X.env.scope.names.lookup y = some .local) (hq : ∀ s2, Inv X pins (σ.set i (some (.ref D))) H s2 → Q .none s2) :
    wpAny Mo A (assign (.Name y py) X.env (.ref D)) (fun _ s2 => ∃ m, s2.heap.Ns s3.heap.objs.size m ∧ ∀ h', Heap.SameBut s3.heap.objs.size s2.heap h' → Q .none { s2 with heap := h' }) E s' := by
  have J0 : Inv X pins σ H s' := blk_end I3 f3 J (Heap.SameBut.refl ..)
  obtain ⟨m, hn, _⟩ := J.loc
  have hC : H s3.heap.objs.size = none := J.free
  have lt : X.env.locals < s3.heap.objs.size := I3.lt
  refine wpAny_assign_Name (store_ok2 J0 hN hi (Or.inl hl) (show RelV (.ref D) (.ref D) from rfl) (fun s2 J2 ⟨a, sb, ha⟩ => ?_) (.inr hl))
  have ea : a = X.env.locals ∨ X.env.cells.lookup y = some a := ha
  have na : s3.heap.objs.size ≠ a := by
    rcases ea with z | z
    · rw [z]; exact Nat.ne_of_gt lt
    · obtain ⟨v, o, ho, _⟩ := I3.cell y a z
      exact Nat.ne_of_gt (Heap.lt_size ho)
  refine ⟨m, hn.sameBut sb na, fun h' hs => hq _ ?_⟩
  refine J2.turned (t' := s2.toks) (it := s3.heap.objs.size) (fun b o hb e => hs.extBut b o hb e) hC (Nat.ne_of_gt lt) (.inr I3.sz) (fun x c e z => ?_) fun p hp z => ?_
  · obtain ⟨v, o, ho, _⟩ := I3.cell x c e
    exact absurd (z ▸ Heap.lt_size ho) (Nat.lt_irrefl _)
  · have e := (I3.pin p hp).1
    exact absurd (z ▸ Heap.lt_size e) (Nat.lt_irrefl _)
end
theorem ps_lcomp {X : Cx} {M : List Str} {cap : List (Option Nat)} {elt tg iter : Expr} {ifs : List Expr} {scope : Scope} {pos : Pos} {wi : TI} {g : TG} {tc : TT} {te : TE} {i : Nat} {y : Str} {py spos : Pos} (hN : X.N.Nodup) (hiy : X.N[i]? = some y) (hly : X.env.scope.names.lookup y = some .local) (hc : X.calm = true) (ok : capOk X.N X.env.scope M scope cap = true)
    (hi : PI X tg iter wi) (hb : ∀ cl ex s3 H3 C, PG (blk X M scope cl ex s3 H3 C) tg g ∧ PTs (blk X M scope cl ex s3 H3 C) ifs tc ∧ PE (blk X M scope cl ex s3 H3 C) elt te)
    (hs : ∀ x, foldedSetIterable iter X.env x = pure x := by intro _; rfl)  (hsw : swapsWith (.ListComp elt [⟨tg, iter, ifs, 0⟩] scope pos) (some (.Name y py)) spos.line X.env = pure true := by rfl) : PS X (.Assign [.Name y py] (.ListComp elt [⟨tg, iter, ifs, 0⟩] scope pos) spos) (tAsg (tComp cap wi g tc te) (gName i)) := by
  intro pins s σ H D I h
  have c := CapOk.of ok
  rw [exec_Assign_Name_used _ _ _ _ hsw]
  refine wpAny_bind (wpAny_standAt (wpAny_bind ?_))
  show wpAny _ X.A (do let _ ← comprehension (.ListComp elt [⟨tg, iter, ifs, 0⟩] scope pos) scope X.env _ (newList []) false (eval iter X.env) (some (assign (.Name y py) X.env))) _ _ s
  refine wpAny_bind (wpAny_mono (wpAny_comprehension_free (use := some (assign (.Name y py) X.env)) (Q := fun _ s' => SP X pins D .next s') rfl hs (clos_eq (I.ok.cells c)) c.kind c.loc ?_) (fun _ s' hq => wpAny_pure (wpAny_pure hq)) fun _ _ e => e)
  refine thn (hi pins s σ H _ I h) fun v s1 h1 => thn h1 fun itv s2 h2 => ?_
  obtain ⟨it, fp, tn, J, H2, e, I2, T, st2, f2, hW⟩ := h2
  subst e
  refine wpAny_newObj_type (wpAny_newFunctionEnv c.cell (by intro y hy; simp at hy) (fun h₁ hns₁ hsb₁ => ?_) c.kind)
  have I3 : Inv X pins σ (upd H2 s2.heap.objs.size (.lst [])) { s2 with heap := s2.heap.push { cls := .type "list", data := .seq ([] : List Value).toArray } } := I2.lnew (t' := s2.toks) (ys := []) .nil (Nat.zero_le _)
  have lt2 : ∀ b ∈ fp, b < s2.heap.objs.size := fun b hb => by obtain ⟨o, e, _⟩ := T.obj _ _ st2 b hb; exact Heap.lt_size e
  have f3 : ∀ b ∈ fp, FpOk X pins (upd H2 s2.heap.objs.size (.lst [])) b := fun b hb => (f2 b hb).upd (Nat.ne_of_lt (lt2 b hb))
  generalize hs3 : ({ s2 with heap := s2.heap.push { cls := .type "list", data := .seq ([] : List Value).toArray } } : Shared) = s3 at I3
  have e3 : s3.heap = s2.heap.push { cls := .type "list", data := .seq ([] : List Value).toArray } := by rw [← hs3]
  have z3 : s3.heap.objs.size = s2.heap.objs.size + 1 := by rw [e3, Heap.size_push]
  have hk : ∀ b o, s3.heap.get? b = some o → h₁.get? b = some o := fun b o e => hsb₁.extBut b o (by
    have := Heap.lt_size e
    rw [e3] at this
    exact Nat.ne_of_lt this) (Heap.get?_push_of_some _ (e3 ▸ e))
  have hn₁ : h₁.Ns s3.heap.objs.size fun _ => none := by rw [e3]; exact hns₁
  have B := blk_start (t4 := s3.toks + ([] : List (Str × Value)).length) (fp := fp) I3 c f3 (fun b hb => by rw [z3]; exact Nat.lt_succ_of_lt (lt2 b hb)) hn₁ hk
  have st4 : tn 0 h₁ := T.keep _ _ _ st2 fun b hb o e => hk b o (by rw [e3]; exact Heap.get?_push_of_some _ e)
  have fp4 : ∀ b ∈ fp, FpOk (blk X M scope (clOf X.env scope.names []) fp s3 (upd H2 s2.heap.objs.size (.lst [])) s3.heap.objs.size) [] (upd H2 s2.heap.objs.size (.lst [])) b := fun b hb => by
    refine ⟨(f3 b hb).1, (B.ok.exf b hb).1, B.ok.exfs b hb, .inl hb, (B.ok.exf b hb).2, fun p hp => (nomatch hp)⟩
  obtain ⟨hg, ht, he⟩ := hb (clOf X.env scope.names []) fp s3 (upd H2 s2.heap.objs.size (.lst [])) s3.heap.objs.size
  have loop : codeAny (model X.prog X.w) X.A (.compLoop (.ListComp elt [⟨tg, iter, ifs, 0⟩] scope pos) 0 (.ref it) (.ref s2.heap.objs.size) (compEnvC scope (clOf X.env scope.names []) s3.heap.objs.size X.env))
      (compPost (model X.prog X.w) X.A X.xe (some (assign (.Name y py) X.env)) (fun _ s' => SP X pins D .next s') (.ref s2.heap.objs.size) s3.heap.objs.size) { s3 with heap := h₁, toks := s3.toks + ([] : List (Str × Value)).length } := by
    refine comp_loop (Y := blk X M scope (clOf X.env scope.names []) fp s3 (upd H2 s2.heap.objs.size (.lst [])) s3.heap.objs.size) (gens := [⟨tg, iter, ifs, 0⟩]) (d := 0) hc T st4 fp4
      (fun Q E s h => turn_one Q E s h) (fun x u r => body_of rfl hg ht (fun σ4 => body_elt rfl he) x u r) B (hW _ (I2.hok.fresh (Nat.le_refl _))) fun s' H' I' q => ?_
    exact store_then_end (Q := fun _ s' => SP X pins D .next s') I3 f3 I' hN hiy hly fun s2' J2 => ⟨_, H', J2, q⟩
  exact codeAny_compStart_list loop (T.self _ 0 _ _ _ st4 loop)
end L2
namespace Rk
open PySem PySem.Spec PyProof.Rows L2 _root_.Rd
theorem Cs.get {p : Addr} {H : Hp} : ∀ {ps : List V} {L : List (Int × Int)}, Cs p H ps L → ∀ (i : Nat) (x : V), ps[i]? = some x → ∃ ij, L[i]? = some ij ∧ ∃ d, d ≠ p ∧ x = .ref d ∧ H d = some (.tup [.int ij.1, .int ij.2])
  | _, _, .nil, i, x, e => by simp at e
  | _, _, .cons r t, 0, x, e => by simp at e; subst e; exact ⟨_, rfl, r⟩
  | _, _, .cons r t, i + 1, x, e => by
    obtain ⟨ij, h1, h2⟩ := Cs.get t i x (by simpa using e)
    exact ⟨ij, by simpa using h1, h2⟩
section
variable {X : Cx}
def rNeD (X : Cx) : R2 := fun x y H Q => ∃ dx dy, Dat H x dx ∧ Dat H y dy ∧ X.A.units + min dx.depth dy.depth < cLine ∧ Q (.bl (!PyData.eqv dx dy)) H
theorem op_neD : OpR X (compareOp .NotEq) (rNeD X) := by
  intro pins s σ H x y v u Q I rx ry h
  obtain ⟨dx, dy, qx, qy, hu, q⟩ := h
  obtain ⟨⟨as, ra⟩, ca⟩ := dat_reads I.hok dx x v qx rx
  obtain ⟨⟨bs, rb⟩, cb⟩ := dat_reads I.hok dy y u qy ry
  exact SeqAt.compareNe_reads ra rb ca cb hu ⟨.bl _, H, I, rfl, q⟩
end
end Rk
namespace Rk
open PySem PySem.Spec PyProof.Rows L2 _root_.Rd
theorem Cs.app {p : Addr} {H : Hp} : ∀ {ps qs : List V} {L M : List (Int × Int)}, Cs p H ps L → Cs p H qs M → Cs p H (ps ++ qs) (L ++ M)
  | _, _, _, _, .nil, h => h
  | _, _, _, _, .cons r t, h => .cons r (Cs.app t h)
end Rk
namespace Rk
open PySem PySem.Spec PyProof.Rows L2
def wordsK : List Str := ["text", "order", "lines", "few", "size", "many", "number", "stand", "cell", "square", "hits", "counts", "stairs", "alike", "parting", "place", "double", "deed", "row"]
def spKind (K : PySem.W.Frag) (cs : List Addr) : Sp := fun vs H Q _ => ∃ (a C : Addr) (bs : List Bool) (j : Nat) (wd : Str), vs = [.ref a] ∧ H a = some (Rx.exO a C) ∧ Rx.ExC K C ∧ Paired (fun c b => PySem.W.kitOne K (.ref C) (.ref c) = some b) cs bs ∧ PySem.W.kitOne K (.ref C) (.type "ValueError") = some true ∧
  bs.countP id = 1 ∧ bs[j]? = some true ∧ (∀ m, m < j → bs[m]? = some false) ∧ wordsK[j]? = some wd ∧ ∀ H', Same H H' → Q (.str wd) H'
end Rk
namespace Rx
open PySem PySem.Spec PySem.Calls PyProof.Rows L2
section
variable {X : Cx} {E : XK}
end
section
variable {X : Cx} {tf : TE} {fe : Expr} {pos : Pos} {e : Expr} {es : List Expr} {t : TA} {M : Addr → Sp → Prop}
end
end Rx
namespace Rk
open PySem PySem.Spec PyProof.Rows L2 _root_.Rd
structure GlbA (mg : Str → Option Value) : Prop where
  isinstance : mg "isinstance" = none
  int : mg "int" = none
  bool : mg "bool" = none
  str : mg "str" = none
  tuple : mg "tuple" = none
  list : mg "list" = none
  all : mg "all" = none
  len : mg "len" = none
  zip : mg "zip" = none
  enumerate : mg "enumerate" = none
  range : mg "range" = none
  max : mg "max" = none
  min : mg "min" = none
  sorted : mg "sorted" = none
  sum : mg "sum" = none
  set : mg "set" = none
  any : mg "any" = none
  reversed : mg "reversed" = none
  divmod : mg "divmod" = none
structure KOk (K : PySem.W.Frag) (cs : List Addr) (R C : Addr) (wd : Str) : Prop where
  by_ : Rx.ByC K C R
  ex : ∃ (bs : List Bool) (j : Nat), Rx.ExC K C ∧ Paired (fun c b => PySem.W.kitOne K (.ref C) (.ref c) = some b) cs bs ∧ PySem.W.kitOne K (.ref C) (.type "ValueError") = some true ∧ bs.countP id = 1 ∧ bs[j]? = some true ∧ (∀ m, m < j → bs[m]? = some false) ∧ wordsK[j]? = some wd
def rInU (u : Nat) (neg : Bool) : R2 := fun x y H Q => ∃ c ps ds d, y = .ref c ∧ H c = some (.tup ps) ∧ Dats H ps ds ∧ Dat H x d ∧ u + d.depth < cLine ∧ Q (.bl (if neg then !(ds.any fun e => PyData.eqv e d) else ds.any fun e => PyData.eqv e d)) H
theorem op_inU {X : Cx} : OpR X (compareOp .In) (rInU X.A.in1.units false) := op_inD
end Rk
namespace Rx
open PySem PySem.Spec PySem.Calls PyProof.Rows L2
section
variable {P : Program} {w : World} {K : PySem.W.Frag} {mg : Str → Option Value} {base : Heap}
end
end Rx
namespace Rk
open PySem PySem.Spec PyProof.Rows L2 _root_.Rd
def FinV (is js : List Nat) (p : Addr) (σ : L2.St) (H : Hp) : Prop := (∃ o, H p = some o) ∧ (∀ i ∈ is, ∃ v, σ[i]? = some (some v) ∧ FineA p H v) ∧ ∀ j ∈ js, ∃ k, σ[j]? = some (some (.int k))
theorem FinV.same {is js : List Nat} {p : Addr} {σ : L2.St} {H H' : Hp} (h : FinV is js p σ H) (s : Same H H') : FinV is js p σ H' := by
  obtain ⟨⟨o, ho⟩, h1, h2⟩ := h
  refine ⟨⟨o, s _ _ ho⟩, fun i hi => ?_, h2⟩
  obtain ⟨v, e, f⟩ := h1 i hi
  exact ⟨v, e, f.keep (KX.of s)⟩
section
variable {X : Cx} {is js : List Nat}
end
theorem handled {K : PySem.W.Frag} {cs : List Addr} {R C : Addr} {wd : Str} (o : KOk K cs R C wd) {H1 : Hp} {Q : VK} {σ : L2.St} {i : Nat} (hi : i < σ.length) (k : ∀ H', Same H1 H' → Q (.str wd) H') :
    Rx.ByC K C R ∧ ∀ a, H1 a = none → (tCons (tVar i) tNil) (σ.set i (some (.ref a))) (upd H1 a (Rx.exO a C)) fun vs H2 => spKind K cs vs H2 Q E0 := by
  refine ⟨o.by_, fun a ha => ?_⟩
  obtain ⟨bs, j, hx, pb, eV, hc, hj, hm, hw⟩ := o.ex
  exact ⟨_, List.getElem?_set_self hi, a, C, bs, j, wd, rfl, upd_same, hx, pb, eV, hc, hj, hm, hw, fun H2 s2 => k H2 ((same_upd ha).trans s2)⟩
end Rk
namespace L2
open PySem PySem.Spec PyProof.Rows
theorem plain_isList {h : Heap} {a : Addr} {its : Array Value} (p : PlainL h a its) : h.IsList a its := by
  obtain ⟨o, n, h1, h2, _, h3⟩ := p
  exact ⟨o, h1, h2, n, h3⟩
structure ZipLAt (h : Heap) (z TI TO i1 i2 t1 t2 : Addr) (f : Value) (k : Nat) : Prop where
  zp : IsZip h z TI TO f
  ti : IsPair h TI (.ref i1) (.ref i2)
  to : ∃ a b, IsPair h TO a b
  i1 : h.IsListIter i1 t1 k
  i2 : h.IsListIter i2 t2 k
section
variable {prog : Program} {w : World} {A : Around} {E : Value → Shared → Prop} {s : Shared}
theorem zipL_item {z TI TO i1 i2 t1 t2 : Addr} {k : Nat} {xs ys : Array Value} {x y : Value} {Q : Option Value → Shared → Prop} (D : ZipApart z TI TO i1 i2 t1 t2) (Z : ZipLAt s.heap z TI TO i1 i2 t1 t2 .none k)
    (hl1 : s.heap.IsList t1 xs) (hl2 : s.heap.IsList t2 ys) (hx : xs[k]? = some x) (hy : ys[k]? = some y)
    (hQ : ∀ h', ZipLAt h' z TI TO i1 i2 t1 t2 (rawInt s.heap.objs.size) (k + 1) → IsPair h' s.heap.objs.size x y → (∀ c o, c ≠ z → c ≠ TO → c ≠ i1 → c ≠ i2 → s.heap.get? c = some o → h'.get? c = some o) → Q (some (.ref s.heap.objs.size)) { s with heap := h' }) :
    wpAny (model prog w) A (pyNext (.ref z)) Q E s := by
  obtain ⟨hz, hTI, ⟨a, b, hTO⟩, h1, h2⟩ := Z
  exact wpAny_pyNext_zip_item D hz hTI hTO h1 h2 hl1 hl2 hx hy fun h' a1 a2 a3 a4 a5 a6 a7 => hQ h' ⟨a1, a7 _ _ D.TIz D.TITO D.TIi1 D.TIi2 hTI, ⟨x, y, a2⟩, a3, a4⟩ a5 a7
theorem zipL_end {z TI TO i1 i2 t1 t2 : Addr} {k : Nat} {xs ys : Array Value} {Q : Option Value → Shared → Prop} (hh : A.handled = none) (D : ZipApart z TI TO i1 i2 t1 t2) (Z : ZipLAt s.heap z TI TO i1 i2 t1 t2 .none k)
    (hl1 : s.heap.IsList t1 xs) (hl2 : s.heap.IsList t2 ys) (hend : xs[k]? = none ∨ ys[k]? = none)
    (hQ : ∀ h', (∀ c o, c ≠ z → c ≠ TO → c ≠ i1 → c ≠ i2 → s.heap.get? c = some o → h'.get? c = some o) → Q none { s with heap := h' }) : wpAny (model prog w) A (pyNext (.ref z)) Q E s := by
  obtain ⟨hz, hTI, ⟨a, b, hTO⟩, h1, h2⟩ := Z
  exact wpAny_pyNext_zip_end hh D hz hTI hTO h1 h2 hl1 hl2 hend hQ
theorem zipL_call {t1 t2 : Addr} {xs ys : Array Value} {Q : Value → Shared → Prop} (hl1 : s.heap.IsList t1 xs) (hl2 : s.heap.IsList t2 ys)
    (h : ∀ h', ZipLAt h' (s.heap.objs.size + 4) (s.heap.objs.size + 2) (s.heap.objs.size + 3) s.heap.objs.size (s.heap.objs.size + 1) t1 t2 .none 0 → (∀ c o, s.heap.get? c = some o → h'.get? c = some o) → Q (.ref (s.heap.objs.size + 4)) { s with heap := h' }) :
    wpAny (model prog w) A (call (.type "zip") [.ref t1, .ref t2]) Q E s :=
  call_zip_2 hl1 hl2 fun h' a1 a2 a3 a4 a5 a6 a7 => h h' ⟨a1, a2, ⟨_, _, a3⟩, a4, a5⟩ a7
end
def ItzL (t1 t2 : Addr) : It :=
  ⟨fun i H => ∃ xs ys x y, H t1 = some (.lst xs) ∧ H t2 = some (.lst ys) ∧ xs[i]? = some x ∧ ys[i]? = some y,
   fun i H v H' => ∃ p x y, H p = none ∧ (∀ xs, H t1 = some (.lst xs) → xs[i]? = some x) ∧ (∀ ys, H t2 = some (.lst ys) → ys[i]? = some y) ∧ v = .ref p ∧ H' = upd H p (.tup [x, y]),
   fun i H => ∃ xs ys, H t1 = some (.lst xs) ∧ H t2 = some (.lst ys) ∧ (xs.length ≤ i ∨ ys.length ≤ i)⟩
theorem turn_zipL {P : Program} {w : World} {K : PySem.W.Frag} {elts : List Expr} {x1} {tpos : Pos} {z TI TO i1 i2 t1 t2 : Addr} (D : ZipApart z TI TO i1 i2 t1 t2) :
    Turn P w K (.Tuple elts x1 tpos) (ItzL t1 t2) [z, TI, TO, i1, i2] z (fun i h => ZipLAt h z TI TO i1 i2 t1 t2 .none i) where
  mem := by simp
  obj := fun i h st b hb => by
    obtain ⟨a1, a2, ⟨_, _, a3⟩, ⟨o4, a4, _, d4⟩, ⟨o5, a5, _, d5⟩⟩ := st
    simp only [List.mem_cons, List.not_mem_nil, or_false] at hb
    rcases hb with rfl | rfl | rfl | rfl | rfl
    · exact ⟨_, a1, fun v q => nomatch q⟩
    · exact ⟨_, a2, fun v q => nomatch q⟩
    · exact ⟨_, a3, fun v q => nomatch q⟩
    · exact ⟨_, a4, fun v q => by rw [d4] at q; cases q⟩
    · exact ⟨_, a5, fun v q => by rw [d5] at q; cases q⟩
  keep := fun i h h' st k => by
    obtain ⟨a1, a2, ⟨a, b, a3⟩, a4, a5⟩ := st
    exact ⟨k z (by simp) _ a1, k TI (by simp) _ a2, ⟨a, b, k TO (by simp) _ a3⟩, a4.at fun o e => k i1 (by simp) o e, a5.at fun o e => k i2 (by simp) o e⟩
  item := by
    intro X hP hw hK hc i pins s σ H E I hf st hg
    subst hP hw hK
    obtain ⟨xs, ys, x, y, h1, h2, hx, hy⟩ := hg
    obtain ⟨its1, r1, p1, _⟩ := I.list (SqL.of h1)
    obtain ⟨its2, r2, p2, _⟩ := I.list (SqL.of h2)
    obtain ⟨u1, hu1, ru1⟩ := r1.get hx
    obtain ⟨u2, hu2, ru2⟩ := r2.get hy
    refine zipL_item D st (plain_isList p1) (plain_isList p2) (by simpa using hu1) (by simpa using hu2) fun h' st' tp kp => ?_
    have hlt : ∀ b ∈ [z, TI, TO, i1, i2], b ≠ s.heap.objs.size := fun b hb => by
      obtain ⟨a1, a2, ⟨_, _, a3⟩, ⟨o4, a4, _, d4⟩, ⟨o5, a5, _, d5⟩⟩ := st
      simp only [List.mem_cons, List.not_mem_nil, or_false] at hb
      rcases hb with rfl | rfl | rfl | rfl | rfl
      · exact Nat.ne_of_lt (Heap.lt_size a1)
      · exact Nat.ne_of_lt (Heap.lt_size a2)
      · exact Nat.ne_of_lt (Heap.lt_size a3)
      · exact Nat.ne_of_lt (Heap.lt_size a4)
      · exact Nat.ne_of_lt (Heap.lt_size a5)
    have fr : H s.heap.objs.size = none := I.hok.fresh (Nat.le_refl _)
    refine ⟨_, rfl, wpAny_letOwnedTupleGo_zip st'.zp fun h2' z2 s2 => ?_⟩
    have I1 : Inv X pins σ (upd H s.heap.objs.size (.tup [x, y])) { s with heap := h2', toks := s.toks } := by
      refine I.turnedNew (ch := [z, TI, TO, i1, i2]) hf (fun b u hb e => ?_) (Nat.le_refl _) ⟨by show 2 ≤ sizeLine; decide, [u1, u2], .cons ru1 (.cons ru2 .nil), ?_⟩
      · simp only [List.mem_cons, List.not_mem_nil, or_false, not_or] at hb
        exact s2.extBut _ _ hb.1 (kp b u hb.1 hb.2.2.1 hb.2.2.2.1 hb.2.2.2.2 e)
      · exact ⟨_, s2.extBut _ _ (hlt z (by simp)).symm tp, rfl, 0, rfl⟩
    refine ⟨.ref s.heap.objs.size, _, I1, rfl, ⟨_, x, y, fr, fun xs' e => ?_, fun ys' e => ?_, rfl, rfl⟩, ?_, fun b hb => ?_⟩
    · rw [h1] at e; cases e; exact hx
    · rw [h2] at e; cases e; exact hy
    · obtain ⟨a1, a2, ⟨a, b, a3⟩, a4, a5⟩ := st'
      exact ⟨z2, s2.extBut _ _ D.TIz a2, ⟨a, b, s2.extBut _ _ D.TOz a3⟩, a4.extBut s2.extBut D.i1z, a5.extBut s2.extBut D.i2z⟩
    · rw [upd_ne (hlt b hb)]; exact (hf b hb).1
  done := by
    intro X hP hw hK hc i pins s σ H E I hf st hg
    subst hP hw hK
    obtain ⟨xs, ys, h1, h2, he⟩ := hg
    obtain ⟨its1, r1, p1, _⟩ := I.list (SqL.of h1)
    obtain ⟨its2, r2, p2, _⟩ := I.list (SqL.of h2)
    have l1 := r1.length
    have l2 := r2.length
    refine zipL_end (I.ok.hd hc) D st (plain_isList p1) (plain_isList p2) ?_ fun h' kp => ⟨rfl, I.turnedAll (t' := s.toks) (ch := [z, TI, TO, i1, i2]) hf fun b u hb e => ?_⟩
    · rcases he with q | q
      · exact .inl (by simp; omega)
      · exact .inr (by simp; omega)
    · simp only [List.mem_cons, List.not_mem_nil, or_false, not_or] at hb
      exact kp b u hb.1 hb.2.2.1 hb.2.2.2.1 hb.2.2.2.2 e
  self := fun _ _ _ _ _ st h => wpAny_pyIter_zip st.zp h
section
variable {X : Cx}
theorem apart_newL (n t1 t2 : Nat) (h1 : t1 < n) (h2 : t2 < n) : ZipApart (n + 4) (n + 2) (n + 3) n (n + 1) t1 t2 where
  TIz := by show ¬ (n + 2 = n + 4); omega
  TOz := by show ¬ (n + 3 = n + 4); omega
  i1z := by show ¬ (n = n + 4); omega
  i2z := by show ¬ (n + 1 = n + 4); omega
  TITO := by show ¬ (n + 2 = n + 3); omega
  TIi1 := by show ¬ (n + 2 = n); omega
  TIi2 := by show ¬ (n + 2 = n + 1); omega
  TOi1 := by show ¬ (n + 3 = n); omega
  TOi2 := by show ¬ (n + 3 = n + 1); omega
  i12 := by show ¬ (n = n + 1); omega
  l1z := by show ¬ (t1 = n + 4); omega
  l1TO := by show ¬ (t1 = n + 3); omega
  l1i1 := by show ¬ (t1 = n); omega
  l1i2 := by show ¬ (t1 = n + 1); omega
  l2z := by show ¬ (t2 = n + 4); omega
  l2TO := by show ¬ (t2 = n + 3); omega
  l2i1 := by show ¬ (t2 = n); omega
  l2i2 := by show ¬ (t2 = n + 1); omega
def iZipL (ta : TA) : TI := fun σ H R => ta σ H fun vs H1 => ∃ t1 t2 xs ys, vs = [.ref t1, .ref t2] ∧ H1 t1 = some (.lst xs) ∧ H1 t2 = some (.lst ys) ∧ R (ItzL t1 t2) H1
theorem boot_zipL : bootBuiltins "zip" = some (.type "zip") := by decide +kernel
theorem pi_zipL {a b : Expr} {elts : List Expr} {x1} {tpos : Pos} {ta : TA} {p pos : Pos} (hg : Gl X "zip") (hm : X.mg "zip" = none) (ha : PA X [a, b] ta) (hs : starEach [a, b] X.env = [(false, eval a X.env), (false, eval b X.env)] := by rfl) (hs2 : starEach [b] X.env = [(false, eval b X.env)] := by rfl) :
    PI X (.Tuple elts x1 tpos) (.Call (.Name "zip" p) [a, b] [] pos) (iZipL ta) := by
  intro pins s σ H R I h
  refine Call_ (ld_blt I hg hm boot_zipL (PyProof.Rows.callWith_type1 (thn (ha pos pins s σ H _ I h) fun us s1 ⟨vs, H1, I1, r1, q1⟩ => ?_) (by rw [hs, hs2]) (by rw [hs2]; rfl)))
  obtain ⟨t1, t2, xs, ys, e, h1, h2, q⟩ := q1
  subst e
  obtain ⟨u, v, rfl, ru, rv⟩ := vals2 r1
  cases (show u = Value.ref t1 from ru)
  cases (show v = Value.ref t2 from rv)
  obtain ⟨its1, w1, p1, _⟩ := I1.list (SqL.of h1)
  obtain ⟨its2, w2, p2, _⟩ := I1.list (SqL.of h2)
  have n1 : t1 < s1.heap.objs.size := I1.hok.lt h1
  have n2 : t2 < s1.heap.objs.size := I1.hok.lt h2
  refine zipL_call (plain_isList p1) (plain_isList p2) fun h' st kp => ?_
  refine wpAny_pyIter_zip (s := { s1 with heap := h' }) st.zp ?_
  have D := apart_newL s1.heap.objs.size t1 t2 n1 n2
  refine ⟨s1.heap.objs.size + 4, _, _, _, H1, rfl, I1.kept (t' := s1.toks) kp, turn_zipL D, st, fun b hb => ?_, q⟩
  have hb' : s1.heap.objs.size ≤ b := by
    simp only [List.mem_cons, List.not_mem_nil, or_false] at hb
    rcases hb with rfl | rfl | rfl | rfl | rfl <;> omega
  exact I1.fpOk hb' (I1.hok.fresh hb')
end
end L2
namespace L2
open PySem PySem.Spec PyProof.Rows
def rLenK (K : PySem.W.Frag) : List V → Hp → VK → Prop := fun xs H Q => ∃ p ys, xs = [.ref p] ∧ (SqL K H p ys ∨ SqT K H p ys) ∧ Q (.int ys.length) H
def CMulB (i j : Int) : Prop := ∃ k : Nat, k ≤ 1000000 ∧ i.natAbs < 2 ^ k ∧ j.natAbs < 2 ^ k
theorem bits_le {i : Int} {k : Nat} (h : i.natAbs < 2 ^ k) : Builtin.Int.intBits i ≤ k := by
  unfold Builtin.Int.intBits
  split
  · exact Nat.zero_le _
  · rename_i z
    have hz : i.natAbs ≠ 0 := by
      intro q
      apply z
      have : i = 0 := by omega
      subst this
      rfl
    have := (Nat.log2_lt hz).mpr h
    omega
theorem CMulB.ok {i j : Int} (h : CMulB i j) : IntMulOk i j := by
  obtain ⟨k, hk, h1, h2⟩ := h
  have a := bits_le h1
  have b := bits_le h2
  unfold IntMulOk
  have c : Builtin.Int.intTooBig (Builtin.Int.intBits i + Builtin.Int.intBits j : Nat) = false := by
    unfold Builtin.Int.intTooBig
    rw [decide_eq_false]
    have : bitsLine = 134217728 := by decide +kernel
    rw [this]
    omega
  intro z
  rw [Bool.and_eq_true] at z
  have z2 := z.2
  have e : ((Builtin.Int.intBits i + Builtin.Int.intBits j : Nat) : Int) = (Builtin.Int.intBits i : Int) + (Builtin.Int.intBits j : Int) := by omega
  rw [e] at c
  rw [c] at z2
  cases z2
section
variable {X : Cx}
theorem op_mulB : OpR X (binaryOp .Mult) (rI CMulB fun i j => .int (i * j)) := opI fun _ _ _ _ _ _ _ hc q => mul_int q hc.ok
def iOr (a b : TI) : TI := fun σ H R => a σ H R ∨ b σ H R
theorem pi_or {tg e : Expr} {a b : TI} (h1 : PI X tg e a) (h2 : PI X tg e b) : PI X tg e (iOr a b) := by
  intro pins s σ H R I h
  rcases h with h | h
  · exact h1 pins s σ H R I h
  · exact h2 pins s σ H R I h
end
end L2
namespace Rk
open PySem PySem.Spec PyProof.Rows L2 _root_.Rd
def rNeU (u : Nat) : R2 := fun x y H Q => ∃ dx dy, Dat H x dx ∧ Dat H y dy ∧ u + min dx.depth dy.depth < cLine ∧ Q (.bl (!PyData.eqv dx dy)) H
theorem op_neU {X : Cx} : OpR X (compareOp .NotEq) (rNeU X.A.units) := op_neD
def rEqU (u : Nat) : R2 := fun x y H Q => ∃ dx dy, Dat H x dx ∧ Dat H y dy ∧ u + min dx.depth dy.depth < cLine ∧ Q (.bl (PyData.eqv dx dy)) H
theorem op_eqU {X : Cx} : OpR X (compareOp .Eq) (rEqU X.A.units) := op_eqD
def flatL : Nat → PyData → Bool
  | _, .none => true
  | _, .bool _ => true
  | _, .int _ => true
  | _, .str _ => true
  | n + 1, .tuple ds => decide (ds.length ≤ 1000) && ds.all (flatL n)
  | n + 1, .list ds => decide (ds.length ≤ 1000) && ds.all (flatL n)
  | _, _ => false
def spSameL : Nat → Sp
  | 0 => fun _ _ _ _ => False
  | n + 1 => fun vs H Q _ => ∃ x y d, vs = [x, y] ∧ Dat H x d ∧ Dat H y d ∧ flatL n d = true ∧ ∀ H', Same H H' → Q (.bl true) H'
end Rk
namespace Rk
open PySem PySem.Spec PyProof.Rows L2 _root_.Rd
end Rk
namespace Rx
open PySem PySem.Spec PySem.Calls PyProof.Rows L2
end Rx
namespace Rk
open PySem PySem.Spec PyProof.Rows L2 _root_.Rd
theorem ixN_nat {n k : Nat} (h : k < n) : ixN n (k : Nat) = some k := by
  unfold ixN
  rw [if_pos (by omega), if_pos (by omega)]
  simp
end Rk
namespace HT
open PySem PyProof.Rows
section
open PySem.SeqAt
open PySem.AutoSeq1 (wpAny_loadPart')
open PySem.MeetsSeq PySem.MeetsSeq2 PySem.MeetsSeq3
end
section
variable {prog : Program} {w : World} {A : Around} {E : Value → Shared → Prop} {s : Shared}
end
end HT
namespace L2
open PySem PySem.Spec PyProof.Rows
end L2
namespace L2
open PySem PySem.Spec PyProof.Rows
end L2
namespace Rk
open PySem PySem.Spec PyProof.Rows L2 _root_.Rd
end Rk
namespace L2
open PySem PySem.Spec PyProof.Rows
section
variable {X : Cx}
def rTupOfW (K : PySem.W.Frag) : List V → Hp → VK → Prop := fun xs H Q => ∃ p ys, xs = [.ref p] ∧ ((SqL K H p ys ∧ ∀ l H', Same H H' → H l = none → H' l = some (.tup ys) → Q (.ref l) H') ∨ (SqT K H p ys ∧ Q (.ref p) H))
theorem call_tuple_ofW : CallR X (.type "tuple") (rTupOfW X.K) := by
  intro pins s σ H xs us Q I r h
  obtain ⟨p, ys, e, h⟩ := h
  refine call_tuple_of pins s σ H xs us Q I r ⟨p, ys, e, ?_⟩
  rcases h with ⟨h1, h2⟩ | h
  · exact .inl ⟨h1, fun l hl => h2 l _ (same_upd hl) hl upd_same⟩
  · exact .inr h
def rLstOfW (K : PySem.W.Frag) : List V → Hp → VK → Prop := fun xs H Q => ∃ p ys, xs = [.ref p] ∧ (SqL K H p ys ∨ SqT K H p ys) ∧ ∀ l H', Same H H' → H l = none → H' l = some (.lst ys) → Q (.ref l) H'
theorem call_list_ofW : CallR X (.type "list") (rLstOfW X.K) := by
  intro pins s σ H xs us Q I r h
  obtain ⟨p, ys, e, h1, h2⟩ := h
  exact call_list_of pins s σ H xs us Q I r ⟨p, ys, e, h1, fun l hl => h2 l _ (same_upd hl) hl upd_same⟩
def rRepW : R2 := fun x y H Q => ∃ l k xs, x = .ref l ∧ y = .int k ∧ H l = some (.lst xs) ∧ -(2 ^ 63) ≤ k ∧ k < 2 ^ 63 ∧ xs.length * k.toNat ≤ 1000000 ∧ ∀ p H', Same H H' → H p = none → H' p = some (.lst (List.replicate k.toNat xs).flatten) → Q (.ref p) H'
theorem op_repW : OpR X (binaryOp .Mult) rRepW := by
  intro pins s σ H x y v u Q I rx ry h
  obtain ⟨l, k, xs, e1, e2, h1, h2, h3, h4, q⟩ := h
  exact op_rep pins s σ H x y v u Q I rx ry ⟨l, k, xs, e1, e2, h1, h2, h3, Nat.le_trans h4 (by decide), fun p hp => q p _ (same_upd hp) hp upd_same⟩
end
end L2
namespace Rk
open PySem PySem.Spec PyProof.Rows L2 _root_.Rd
theorem map_set {n : Nat} (f : Nat → Int) {j : Nat} (v : Int) : ((List.range n).map f).set j v = (List.range n).map fun k => if k = j then v else f k := by
  refine List.ext_getElem? fun k => ?_
  rw [List.getElem?_set, List.getElem?_map, List.getElem?_map]
  by_cases hk : k < n
  · rw [List.getElem?_range hk]
    by_cases z : j = k
    · subst z
      rw [if_pos rfl, if_pos (by rw [List.length_map, List.length_range]; exact hk)]
      simp
    · rw [if_neg z]
      simp only [Option.map_some]
      rw [if_neg (fun y => z y.symm)]
  · rw [List.getElem?_eq_none (by rw [List.length_range]; omega)]
    by_cases z : j = k
    · subst z
      rw [if_pos rfl, if_neg (by rw [List.length_map, List.length_range]; exact hk)]
      rfl
    · rw [if_neg z]
      rfl
end Rk
namespace Rk
open PySem PySem.Spec PyProof.Rows L2 _root_.Rd
def sumN : Nat → (Nat → Int) → Int
  | 0, _ => 0
  | n + 1, f => sumN n f + f n
theorem sumN_congr {n : Nat} {f g : Nat → Int} (h : ∀ i, i < n → f i = g i) : sumN n f = sumN n g := by
  induction n with
  | zero => rfl
  | succ n ih => rw [sumN, sumN, ih fun i hi => h i (by omega), h n (by omega)]
theorem sumN_zero {n : Nat} {f : Nat → Int} (h : ∀ i, i < n → f i = 0) : sumN n f = 0 := by
  induction n with
  | zero => rfl
  | succ n ih => rw [sumN, ih fun i hi => h i (by omega), h n (by omega)]; rfl
theorem sumN_add (n : Nat) (f g : Nat → Int) : sumN n (fun i => f i + g i) = sumN n f + sumN n g := by
  induction n with
  | zero => rfl
  | succ n ih => rw [sumN, sumN, sumN, ih]; omega
theorem sumN_mulL (n : Nat) (c : Int) (f : Nat → Int) : sumN n (fun i => c * f i) = c * sumN n f := by
  induction n with
  | zero => simp [sumN]
  | succ n ih => rw [sumN, sumN, ih, Int.mul_add]
theorem sumN_comm (n m : Nat) (f : Nat → Nat → Int) : sumN n (fun i => sumN m fun j => f i j) = sumN m fun j => sumN n fun i => f i j := by
  induction n with
  | zero => rw [sumN]; exact (sumN_zero fun _ _ => rfl).symm
  | succ n ih =>
    rw [sumN, ih, ← sumN_add]
    exact sumN_congr fun j _ => rfl
theorem sumN_from {n a : Nat} {f : Nat → Int} (ha : a ≤ n) (h : ∀ i, i < a → f i = 0) : sumN n f = sumN (n - a) fun j => f (a + j) := by
  induction n with
  | zero => have : a = 0 := by omega
            subst this; rfl
  | succ n ih =>
    by_cases z : a = n + 1
    · subst z
      rw [Nat.sub_self, sumN_zero fun i hi => h i hi]
      rfl
    · rw [sumN, ih (by omega), show n + 1 - a = (n - a) + 1 by omega, sumN, show a + (n - a) = n by omega]
theorem sumN_more {n m : Nat} {f : Nat → Int} (hn : n ≤ m) (h : ∀ i, n ≤ i → i < m → f i = 0) : sumN m f = sumN n f := by
  induction m with
  | zero => have : n = 0 := by omega
            subst this; rfl
  | succ m ih =>
    by_cases z : n = m + 1
    · subst z; rfl
    · rw [sumN, ih (by omega) fun i h1 h2 => h i h1 (by omega), h m (by omega) (by omega)]; omega
theorem sumN_pick {n k : Nat} {f : Nat → Int} (hk : k < n) (h : ∀ i, i < n → i ≠ k → f i = 0) : sumN n f = f k := by
  induction n with
  | zero => omega
  | succ n ih =>
    by_cases z : k = n
    · subst z
      rw [sumN, sumN_zero fun i hi => h i (by omega) (by omega)]
      omega
    · rw [sumN, ih (by omega) fun i h1 h2 => h i (by omega) h2, h n (by omega) (by omega)]; omega
def fctI : Nat → Int
  | 0 => 1
  | n + 1 => fctI n * ((n : Int) + 1)
def setI (m : Nat) : Nat → Int
  | 0 => 1
  | i + 1 => setI m i * ((m : Int) - (i : Int)) / ((i : Int) + 1)
def sgnI : Nat → Int
  | 0 => 1
  | j + 1 => - sgnI j
theorem fct_all : ∀ n : Fin 13, 0 < fctI n.val ∧ fctI n.val ≤ 479001600 := by decide +kernel
theorem set_all : ∀ m : Fin 14, ∀ k : Fin 14, 0 ≤ setI m.val k.val ∧ setI m.val k.val ≤ 1716 ∧ (m.val < k.val → setI m.val k.val = 0) := by decide +kernel
theorem fct_ok {n : Nat} (h : n ≤ 12) : 0 < fctI n ∧ fctI n ≤ 479001600 := fct_all ⟨n, by omega⟩
theorem set_ok {m k : Nat} (hm : m ≤ 13) (hk : k ≤ 13) : 0 ≤ setI m k ∧ setI m k ≤ 1716 ∧ (m < k → setI m k = 0) := set_all ⟨m, by omega⟩ ⟨k, by omega⟩
theorem sgn_ok : ∀ j, sgnI j = 1 ∨ sgnI j = -1
  | 0 => .inl rfl
  | j + 1 => by
    rw [sgnI]
    rcases sgn_ok j with h | h <;> rw [h]
    · exact .inr rfl
    · exact .inl rfl
end Rk
namespace L2
open PySem PySem.Spec PyProof.Rows
section
variable {X : Cx}
theorem ip_of {op : Operator} {r : R2} (h : OpR X (inplaceOp op) r) : PIp X op r := fun pins s σ H x y v u Q I rx ry q => h pins s σ H x y v u Q I rx ry q
end
end L2
namespace L2
open PySem PySem.Spec PyProof.Rows
section
variable {X : Cx}
end
end L2
namespace Rk
open PySem PySem.Spec PyProof.Rows L2 _root_.Rd
end Rk
namespace Rx
open PySem PySem.Spec PySem.Calls PyProof.Rows L2
abbrev TSX := L2.Ends → L2.St → Hp → (Addr → Hp → Prop) → Prop
def PSX (X : Cx) (st : Stmt) (t : TSX) : Prop := ∀ (pins : List (Addr × Obj)) (s : Shared) (σ : L2.St) (H : Hp) (D : L2.Ends) (Ex : Addr → Hp → Prop), Inv X pins σ H s → t D σ H Ex →
  wpAny (model X.prog X.w) X.A (exec st X.env) (SP X pins D) (XP X pins fun σ1 C H1 => σ1 = σ ∧ Ex C H1) s
def PSXs (X : Cx) (sts : List Stmt) (t : TSX) : Prop := ∀ (pins : List (Addr × Obj)) (s : Shared) (σ : L2.St) (H : Hp) (D : L2.Ends) (Ex : Addr → Hp → Prop), Inv X pins σ H s → t D σ H Ex →
  wpAny (model X.prog X.w) X.A (execs sts X.env) (SP X pins D) (XP X pins fun σ1 C H1 => σ1 = σ ∧ Ex C H1) s
section
variable {X : Cx} {e : Expr} {st : Stmt} {pos : Pos} {te : TX} {t u : TSX} {tc : TT} {c : Expr} {a b : List Stmt}
end
section
variable {X : Cx} {R : Addr} {i : Nat} {n r : Str} {body : List Stmt} {hx : Expr} {tb : TSX} {th : TE} {np hp hpos pos : Pos}
end
end Rx
namespace L2
open PySem PySem.Spec PyProof.Rows
theorem FnOk.or {P : Program} {w : World} {K : PySem.W.Frag} {mg : Str → Option Value} {base : Heap} {CX : CXT} {k : Nat} {f : Addr} {fd : FuncData} {ps : List Str} {sp sp' : Sp} (F : FnOk P w K mg base CX k f fd ps sp) (G : FnOk P w K mg base CX k f fd ps sp') :
    FnOk P w K mg base CX k f fd ps (fun vs H Q E => sp vs H Q E ∨ sp' vs H Q E) :=
  ⟨fun vs H Q E q => q.elim (F.len vs H Q E) (G.len vs H Q E), fun A outer s H args us vs Q E hr he hb hv hs => hs.elim (fun z => F.run A outer s H args us vs Q E hr he hb hv z) fun z => G.run A outer s H args us vs Q E hr he hb hv z⟩
theorem FnOk.ex {P : Program} {w : World} {K : PySem.W.Frag} {mg : Str → Option Value} {base : Heap} {CX : CXT} {k : Nat} {f : Addr} {fd : FuncData} {ps : List Str} {sp : Sp} (F : FnOk P w K mg base CX0 k f fd ps sp) :
    FnOk P w K mg base CX k f fd ps sp :=
  ⟨F.len, fun A outer s H args us vs Q E hr he hb hv hs => codeAny_mono (F.run A outer s H args us vs Q E hr he hb hv hs) fun r s' z => by
    cases r with
    | error e => exact False.elim z
    | ok fl => cases fl <;> exact z⟩
section
variable {X : Cx}
def rMinM (K : PySem.W.Frag) : List V → Hp → VK → Prop := fun xs H Q => ∃ (p : Addr) (ns : List Int), xs = [.ref p] ∧ SqL K H p (ns.map V.int) ∧ 0 < ns.length ∧ ∀ m, m ∈ ns → (∀ y ∈ ns, m ≤ y) → Q (.int m) H
theorem call_minM (hc : X.calm = true) : CallR X (.builtin "min") (rMinM X.K) := by
  intro pins s σ H xs us Q I r h
  obtain ⟨p, ns, rfl, hp, hn, q⟩ := h
  obtain ⟨u, rfl, ru⟩ := vals1 r
  cases ru
  obtain ⟨its, rv, pl, hz⟩ := I.list hp
  have hi : IntsAre its ns := intsAre_of rv
  obtain ⟨ys, hx⟩ := hi.allInts.items
  have hl' : s.heap.IsList p (intItems ys) := hx ▸ pl.isList
  have hsz : ys.size = ns.length := by
    have h1 : its.toArray.size = (intItems ys).size := by rw [hx]
    rw [List.size_toArray, hi.length] at h1
    simp [intItems] at h1
    omega
  have num : ∀ j m, ns[j]? = some m → numAt ys j = m := fun j m e => by
    obtain ⟨w, hw, rw'⟩ := rv.get (i := j) (x := V.int m) (by rw [List.getElem?_map, e]; rfl)
    have h2 : (intItems ys)[j]? = some w := by rw [← hx, List.getElem?_toArray]; exact hw
    unfold intItems at h2
    rw [Array.getElem?_map] at h2
    obtain ⟨y, hy, ey⟩ := Option.map_eq_some_iff.mp h2
    unfold numAt
    rw [hy]
    subst ey
    obtain ⟨t, et⟩ := rw'
    cases et
    rfl
  refine min_intList (I.ok.hd hc) hl' (by omega) fun v h' tk hv hk => ?_
  rw [← hx] at hv
  rw [List.getElem?_toArray] at hv
  have ab := argBest_lt (numAt ys) (ys.size - 1)
  generalize argBest (fun i j => decide (numAt ys i < numAt ys j)) (ys.size - 1) = b at *
  obtain ⟨x, hx2, rx⟩ : ∃ x, (ns.map V.int)[b]? = some x ∧ RelV x v := by
    have hlen := rv.length
    have hlt := (List.getElem?_eq_some_iff.mp hv).1
    cases e : (ns.map V.int)[b]? with
    | none =>
      have := List.getElem?_eq_none_iff.mp e
      omega
    | some x =>
      obtain ⟨w, hw, rw'⟩ := rv.get e
      rw [hw] at hv
      cases hv
      exact ⟨x, rfl, rw'⟩
  rw [List.getElem?_map] at hx2
  obtain ⟨m, hm, rfl⟩ := Option.map_eq_some_iff.mp hx2
  refine ⟨.int m, H, I.kept hk, rx, q m (List.mem_of_getElem? hm) fun y hy => ?_⟩
  obtain ⟨j, hj⟩ := List.mem_iff_getElem?.mp hy
  have hjl := (List.getElem?_eq_some_iff.mp hj).1
  have := ab.2 j (by omega)
  rw [num b m hm, num j y hj] at this
  exact this
end
end L2
namespace Rk
open PySem PySem.Spec PyProof.Rows L2 _root_.Rd
end Rk
namespace Rk
open PySem PySem.Spec PyProof.Rows L2 _root_.Rd
end Rk
namespace Dl
open PySem PySem.Spec PyProof.Rows L2 _root_.Rd Rk
mutual
inductive DA (A : Addr → Prop) (H : Hp) : V → PyData → Prop
  | non : DA A H .non .none
  | bl (b : Bool) : DA A H (.bl b) (.bool b)
  | int (i : Int) : DA A H (.int i) (.int i)
  | str (x : Str) : PyData.canLay0 (.str x) = true → DA A H (.str x) (.str x)
  | tup {a : Addr} {xs : List V} {ds : List PyData} : ¬ A a → H a = some (.tup xs) → DAs A H xs ds → DA A H (.ref a) (.tuple ds)
  | lst {a : Addr} {xs : List V} {ds : List PyData} : ¬ A a → H a = some (.lst xs) → DAs A H xs ds → DA A H (.ref a) (.list ds)
  | dct {a : Addr} : ¬ A a → H a = some (.dK []) → DA A H (.ref a) (.dict [])
inductive DAs (A : Addr → Prop) (H : Hp) : List V → List PyData → Prop
  | nil : DAs A H [] []
  | cons {x : V} {xs : List V} {d : PyData} {ds : List PyData} : DA A H x d → DAs A H xs ds → DAs A H (x :: xs) (d :: ds)
end
mutual
theorem da_mv {A A' : Addr → Prop} {H H' : Hp} (k : ∀ a o, ¬ A a → H a = some o → H' a = some o) (m : ∀ a, A' a → A a ∨ H a = none) : ∀ (d : PyData) (x : V), DA A H x d → DA A' H' x d
  | .none, _, .non => .non
  | .bool _, _, .bl _ => .bl _
  | .int _, _, .int _ => .int _
  | .str _, _, .str _ c => .str _ c
  | .tuple ds, _, .tup (xs := xs) n e q => .tup (fun z => (m _ z).elim n fun z => by rw [z] at e; cases e) (k _ _ n e) (das_mv k m ds xs q)
  | .list ds, _, .lst (xs := xs) n e q => .lst (fun z => (m _ z).elim n fun z => by rw [z] at e; cases e) (k _ _ n e) (das_mv k m ds xs q)
  | .dict _, _, .dct n e => .dct (fun z => (m _ z).elim n fun z => by rw [z] at e; cases e) (k _ _ n e)
theorem das_mv {A A' : Addr → Prop} {H H' : Hp} (k : ∀ a o, ¬ A a → H a = some o → H' a = some o) (m : ∀ a, A' a → A a ∨ H a = none) : ∀ (ds : List PyData) (xs : List V), DAs A H xs ds → DAs A' H' xs ds
  | [], _, .nil => .nil
  | d :: ds, _, .cons (x := x) (xs := xs) q qs => .cons (da_mv k m d x q) (das_mv k m ds xs qs)
end
theorem DA.mv {A A' : Addr → Prop} {H H' : Hp} {x : V} {d : PyData} (q : DA A H x d) (k : ∀ a o, ¬ A a → H a = some o → H' a = some o) (m : ∀ a, A' a → A a ∨ H a = none) : DA A' H' x d := da_mv k m d x q
theorem DAs.mv {A A' : Addr → Prop} {H H' : Hp} {x : List V} {d : List PyData} (q : DAs A H x d) (k : ∀ a o, ¬ A a → H a = some o → H' a = some o) (m : ∀ a, A' a → A a ∨ H a = none) : DAs A' H' x d := das_mv k m d x q
theorem DA.same {A : Addr → Prop} {H H' : Hp} {x : V} {d : PyData} (q : DA A H x d) (s : Same H H') : DA A H' x d := q.mv (fun a o _ e => s a o e) fun a z => .inl z
theorem DAs.same {A : Addr → Prop} {H H' : Hp} {x : List V} {d : List PyData} (q : DAs A H x d) (s : Same H H') : DAs A H' x d := q.mv (fun a o _ e => s a o e) fun a z => .inl z
theorem DAs.length {A : Addr → Prop} {H : Hp} : ∀ {xs : List V} {ds : List PyData}, DAs A H xs ds → xs.length = ds.length
  | _, _, .nil => rfl
  | _, _, .cons _ q => by rw [List.length_cons, List.length_cons, q.length]
theorem DAs.get {A : Addr → Prop} {H : Hp} : ∀ {xs : List V} {ds : List PyData}, DAs A H xs ds → ∀ (i : Nat) (d : PyData), ds[i]? = some d → ∃ x, xs[i]? = some x ∧ DA A H x d
  | _, _, .nil, i, x, e => by simp at e
  | _, _, .cons q qs, 0, x, e => by simp at e; subst e; exact ⟨_, rfl, q⟩
  | _, _, .cons q qs, i + 1, x, e => qs.get i x (by simpa using e)
theorem DAs.app {A : Addr → Prop} {H : Hp} : ∀ {xs ys : List V} {ds es : List PyData}, DAs A H xs ds → DAs A H ys es → DAs A H (xs ++ ys) (ds ++ es)
  | _, _, _, _, .nil, q => q
  | _, _, _, _, .cons a b, q => .cons a (b.app q)
theorem DAs.take {A : Addr → Prop} {H : Hp} : ∀ {xs : List V} {ds : List PyData}, DAs A H xs ds → ∀ n : Nat, DAs A H (xs.take n) (ds.take n)
  | _, _, .nil, n => by rw [List.take_nil, List.take_nil]; exact .nil
  | _, _, .cons a b, 0 => .nil
  | _, _, .cons a b, n + 1 => .cons a (b.take n)
theorem DAs.set {A : Addr → Prop} {H : Hp} {x : V} {d : PyData} (q : DA A H x d) : ∀ {xs : List V} {ds : List PyData}, DAs A H xs ds → ∀ n : Nat, DAs A H (xs.set n x) (ds.set n d)
  | _, _, .nil, n => .nil
  | _, _, .cons a b, 0 => .cons q b
  | _, _, .cons a b, n + 1 => .cons a (b.set q n)
mutual
def nd : PyData → Bool
  | .dict _ => false
  | .tuple ds => nds ds
  | .list ds => nds ds
  | _ => true
def nds : List PyData → Bool
  | [] => true
  | d :: ds => nd d && nds ds
end
mutual
theorem da_dat {A : Addr → Prop} {H : Hp} : ∀ (d : PyData) (x : V), nd d = true → DA A H x d → Dat H x d
  | .none, _, _, .non => .non
  | .bool _, _, _, .bl _ => .bl _
  | .int _, _, _, .int _ => .int _
  | .str _, _, _, .str _ c => .str _ c
  | .tuple ds, _, n, .tup (xs := xs) _ e q => .tup e (das_dats ds xs n q)
  | .list ds, _, n, .lst (xs := xs) _ e q => .lst e (das_dats ds xs n q)
theorem das_dats {A : Addr → Prop} {H : Hp} : ∀ (ds : List PyData) (xs : List V), nds ds = true → DAs A H xs ds → Dats H xs ds
  | [], _, _, .nil => .nil
  | d :: ds, _, n, .cons (x := x) (xs := xs) q qs => by
    have n' := Bool.and_eq_true_iff.mp (show (nd d && nds ds) = true from n)
    exact .cons (da_dat d x n'.1 q) (das_dats ds xs n'.2 qs)
end
theorem nds_all {ds : List PyData} : nds ds = true ↔ ∀ d ∈ ds, nd d = true := by
  induction ds with
  | nil => exact ⟨(fun _ _ h => nomatch h), fun _ => rfl⟩
  | cons d ds ih =>
    rw [show nds (d :: ds) = (nd d && nds ds) from rfl, Bool.and_eq_true_iff, ih]
    constructor
    · rintro ⟨a, b⟩ e he
      rcases List.mem_cons.mp he with z | z
      · rw [z]; exact a
      · exact b e z
    · intro h
      exact ⟨h d (by simp), fun e he => h e (by simp [he])⟩
def DP (A P : Addr → Prop) (H : Hp) (v : V) (d : PyData) : Prop := DA A H v d ∨ ∃ l xs ds, v = .ref l ∧ d = .list ds ∧ ¬ P l ∧ H l = some (.lst xs) ∧ DAs A H xs ds
theorem DP.dat {A P : Addr → Prop} {H : Hp} {v : V} {d : PyData} (h : DP A P H v d) (n : nd d = true) : Dat H v d := by
  rcases h with h | ⟨l, xs, ds, rfl, rfl, _, e, q⟩
  · exact da_dat d v n h
  · exact .lst e (das_dats ds xs n q)
theorem DP.list {A P : Addr → Prop} {H : Hp} {v : V} {ds : List PyData} (h : DP A P H v (.list ds)) : ∃ l xs, v = .ref l ∧ H l = some (.lst xs) ∧ DAs A H xs ds := by
  rcases h with h | ⟨l, xs, ds', rfl, e, _, h2, q⟩
  · cases h with | lst n e q => exact ⟨_, _, rfl, e, q⟩
  · cases e; exact ⟨l, xs, rfl, h2, q⟩
theorem DP.tuple {A P : Addr → Prop} {H : Hp} {v : V} {ds : List PyData} (h : DP A P H v (.tuple ds)) : ∃ l xs, v = .ref l ∧ H l = some (.tup xs) ∧ DAs A H xs ds := by
  rcases h with h | ⟨l, xs, ds', rfl, e, _⟩
  · cases h with | tup n e q => exact ⟨_, _, rfl, e, q⟩
  · cases e
theorem DP.int {A P : Addr → Prop} {H : Hp} {v : V} {i : Int} (h : DP A P H v (.int i)) : v = .int i := by
  rcases h with h | ⟨l, xs, ds', rfl, e, _⟩
  · cases h; rfl
  · cases e
theorem DP.bool {A P : Addr → Prop} {H : Hp} {v : V} {i : Bool} (h : DP A P H v (.bool i)) : v = .bl i := by
  rcases h with h | ⟨l, xs, ds', rfl, e, _⟩
  · cases h; rfl
  · cases e
theorem DP.none {A P : Addr → Prop} {H : Hp} {v : V} (h : DP A P H v .none) : v = .non := by
  rcases h with h | ⟨l, xs, ds', rfl, e, _⟩
  · cases h; rfl
  · cases e
theorem DP.str {A P : Addr → Prop} {H : Hp} {v : V} {x : Str} (h : DP A P H v (.str x)) : v = .str x ∧ PyData.canLay0 (.str x) = true := by
  rcases h with h | ⟨l, xs, ds', rfl, e, _⟩
  · cases h with | str _ c => exact ⟨rfl, c⟩
  · cases e
inductive Sl where
  | no | pot | scr
  | v (d : PyData)
  | own (ds : List PyData)
  | pk (ds : List PyData)
abbrev Sts := List Sl
structure Fm where
  H0 : Hp
  A0 : Addr → Prop
  pt : Addr → Prop
def OwAt (σ : L2.St) (δ : Sts) (i : Nat) (a : Addr) : Prop := σ[i]? = some (some (.ref a)) ∧ (δ[i]? = some .pot ∨ ∃ ds, δ[i]? = some (.own ds))
def Av (F : Fm) (σ : L2.St) (δ : Sts) (a : Addr) : Prop := F.A0 a ∨ ∃ i, OwAt σ δ i a
def PotA (σ : L2.St) (δ : Sts) (a : Addr) : Prop := ∃ i : Nat, σ[i]? = some (some (.ref a)) ∧ δ[i]? = some .pot
def SlOk (K : PySem.W.Frag) (F : Fm) (H : Hp) (A : Addr → Prop) (o : Option V) : Sl → Prop
  | .no => True
  | .v d => ∃ v, o = some v ∧ DA A H v d
  | .own ds => ∃ l xs, o = some (.ref l) ∧ H l = some (.lst xs) ∧ DAs A H xs ds ∧ F.H0 l = none
  | .pk ds => ∃ l xs, o = some (.ref l) ∧ H l = some (.lst xs) ∧ DAs A H xs ds ∧ ∃ ys, F.H0 l = some (.lst ys) ∧ ¬ F.pt l
  | .pot => ∃ p n, o = some (.ref p) ∧ H p = some (.lst [.int n]) ∧ (F.pt p ∨ F.H0 p = none)
  | .scr => ∃ a ns, o = some (.ref a) ∧ SqL K F.H0 a ((ns : List Int).map V.int) ∧ ¬ F.pt a ∧ ns.length ≤ 63
structure Rel (K : PySem.W.Frag) (F : Fm) (σ : L2.St) (H : Hp) (δ : Sts) : Prop where
  len : σ.length = δ.length
  dom : ∀ a, F.A0 a → ∃ xs, H a = some (.lst xs)
  dom0 : ∀ a, F.A0 a → ∃ xs, F.H0 a = some (.lst xs)
  pt0 : ∀ p, F.pt p → F.A0 p ∧ ∃ n, H p = some (.lst [.int n])
  kx : ∀ b o, ¬ F.pt b → F.H0 b = some o → H b = some o
  sl : ∀ (i : Nat) o x, σ[i]? = some o → δ[i]? = some x → SlOk K F H (Av F σ δ) o x
  inj : ∀ (i j : Nat) a ds, δ[i]? = some (.own ds) → σ[i]? = some (some (.ref a)) → OwAt σ δ j a → i = j
def Kp (σ : L2.St) (δ : Sts) (H H' : Hp) : Prop := (∀ b o, ¬ PotA σ δ b → H b = some o → H' b = some o) ∧ ∀ b, PotA σ δ b → ∃ n, H' b = some (.lst [.int n])
def Stp (F : Fm) (σ : L2.St) (H : Hp) (δ : Sts) (σ' : L2.St) (H' : Hp) (δ' : Sts) : Prop := (∀ b o, ¬ Av F σ δ b → H b = some o → H' b = some o) ∧ ∀ b, Av F σ' δ' b → Av F σ δ b ∨ H b = none
def Ke (F : Fm) (H' : Hp) : Prop := (∀ b o, ¬ F.pt b → F.H0 b = some o → H' b = some o) ∧ ∀ p, F.pt p → ∃ n, H' p = some (.lst [.int n])
theorem pot_av {F : Fm} {σ : L2.St} {δ : Sts} {a : Addr} (h : PotA σ δ a) : Av F σ δ a := let ⟨i, h1, h2⟩ := h; .inr ⟨i, h1, .inl h2⟩
theorem Rel.ke {K : PySem.W.Frag} {F : Fm} {σ : L2.St} {H : Hp} {δ : Sts} (r : Rel K F σ H δ) : Ke F H := ⟨r.kx, fun p hp => (r.pt0 p hp).2⟩
theorem Rel.isl {K : PySem.W.Frag} {F : Fm} {σ : L2.St} {H : Hp} {δ : Sts} (r : Rel K F σ H δ) {a : Addr} (h : Av F σ δ a) : ∃ xs, H a = some (.lst xs) := by
  rcases h with h | ⟨i, h1, h2⟩
  · exact r.dom a h
  · rcases h2 with h2 | ⟨ds, h2⟩
    · obtain ⟨p, n, e, h, _⟩ := r.sl i _ _ h1 h2
      cases e
      exact ⟨_, h⟩
    · obtain ⟨l, xs, e, h, _⟩ := r.sl i _ _ h1 h2
      cases e
      exact ⟨_, h⟩
theorem Kp.refl {K : PySem.W.Frag} {F : Fm} {σ : L2.St} {H : Hp} {δ : Sts} (r : Rel K F σ H δ) : Kp σ δ H H := ⟨fun _ _ _ e => e, fun b ⟨i, h1, h2⟩ => by
  obtain ⟨p, n, e, h, _⟩ := r.sl i _ _ h1 h2
  cases e
  exact ⟨n, h⟩⟩
theorem Kp.trans {σ : L2.St} {δ : Sts} {H H1 H2 : Hp} (a : Kp σ δ H H1) (b : Kp σ δ H1 H2) : Kp σ δ H H2 := ⟨fun c o n e => b.1 c o n (a.1 c o n e), b.2⟩
theorem Kp.same {K : PySem.W.Frag} {F : Fm} {σ : L2.St} {H H' : Hp} {δ : Sts} (r : Rel K F σ H δ) (s : Same H H') : Kp σ δ H H' := ⟨fun b o _ e => s b o e, fun b hb => let ⟨n, h⟩ := (Kp.refl r).2 b hb; ⟨n, s _ _ h⟩⟩
theorem Kp.da {F : Fm} {σ : L2.St} {H H' : Hp} {δ : Sts} {v : V} {d : PyData} (k : Kp σ δ H H') (h : DA (Av F σ δ) H v d) : DA (Av F σ δ) H' v d := h.mv (fun a o n e => k.1 a o (fun z => n (pot_av z)) e) fun a z => .inl z
theorem Kp.das {F : Fm} {σ : L2.St} {H H' : Hp} {δ : Sts} {v : List V} {d : List PyData} (k : Kp σ δ H H') (h : DAs (Av F σ δ) H v d) : DAs (Av F σ δ) H' v d := h.mv (fun a o n e => k.1 a o (fun z => n (pot_av z)) e) fun a z => .inl z
theorem Kp.dp {F : Fm} {σ : L2.St} {H H' : Hp} {δ : Sts} {v : V} {d : PyData} (k : Kp σ δ H H') (h : DP (Av F σ δ) (PotA σ δ) H v d) : DP (Av F σ δ) (PotA σ δ) H' v d := by
  rcases h with h | ⟨l, xs, ds, e1, e2, n, e, q⟩
  · exact .inl (k.da h)
  · exact .inr ⟨l, xs, ds, e1, e2, n, k.1 _ _ n e, k.das q⟩
theorem Rel.own_pot {K : PySem.W.Frag} {F : Fm} {σ : L2.St} {H : Hp} {δ : Sts} (r : Rel K F σ H δ) {i : Nat} {ds : List PyData} {l : Addr} (h : δ[i]? = some (.own ds)) (e : σ[i]? = some (some (.ref l))) : ¬ PotA σ δ l := by
  rintro ⟨j, h1, h2⟩
  have := r.inj i j l _ h e ⟨h1, .inl h2⟩
  subst this
  rw [h] at h2
  cases h2
theorem Rel.pt_pot {K : PySem.W.Frag} {F : Fm} {σ : L2.St} {H H' : Hp} {δ : Sts} (r : Rel K F σ H δ) (k : Kp σ δ H H') {p : Addr} (hp : F.pt p) : ∃ n, H' p = some (.lst [.int n]) := by
  by_cases z : PotA σ δ p
  · exact k.2 p z
  · obtain ⟨n, e⟩ := (r.pt0 p hp).2
    exact ⟨n, k.1 _ _ z e⟩
theorem Rel.kp {K : PySem.W.Frag} {F : Fm} {σ : L2.St} {H H' : Hp} {δ : Sts} (r : Rel K F σ H δ) (k : Kp σ δ H H') : Rel K F σ H' δ where
  len := r.len
  dom := fun a ha => by
    by_cases z : PotA σ δ a
    · exact ⟨_, (k.2 a z).choose_spec⟩
    · obtain ⟨xs, e⟩ := r.dom a ha
      exact ⟨xs, k.1 _ _ z e⟩
  dom0 := r.dom0
  pt0 := fun p hp => ⟨(r.pt0 p hp).1, r.pt_pot k hp⟩
  kx := fun b o n e => by
    by_cases z : PotA σ δ b
    · obtain ⟨i, h1, h2⟩ := z
      obtain ⟨p, m, e1, h, q⟩ := r.sl i _ _ h1 h2
      cases e1
      rcases q with q | q
      · exact absurd q n
      · rw [q] at e; cases e
    · exact k.1 _ _ z (r.kx b o n e)
  sl := fun i o x h1 h2 => by
    have h := r.sl i o x h1 h2
    cases x with
    | no => trivial
    | v d => obtain ⟨v, e, q⟩ := h; exact ⟨v, e, k.da q⟩
    | own ds => obtain ⟨l, xs, rfl, e, q, f⟩ := h; exact ⟨l, xs, rfl, k.1 _ _ (r.own_pot h2 h1) e, k.das q, f⟩
    | pk ds =>
      obtain ⟨l, xs, rfl, e, q, ys, f, f2⟩ := h
      refine ⟨l, xs, rfl, k.1 _ _ ?_ e, k.das q, ys, f, f2⟩
      rintro ⟨j, j1, j2⟩
      obtain ⟨p, m, e1, _, w⟩ := r.sl j _ _ j1 j2
      cases e1
      rcases w with w | w
      · exact f2 w
      · rw [w] at f; cases f
    | pot =>
      obtain ⟨p, n, rfl, e, q⟩ := h
      obtain ⟨m, e'⟩ := k.2 p ⟨i, h1, h2⟩
      exact ⟨p, m, rfl, e', q⟩
    | scr => exact h
  inj := r.inj
theorem Rel.same {K : PySem.W.Frag} {F : Fm} {σ : L2.St} {H H' : Hp} {δ : Sts} (r : Rel K F σ H δ) (s : Same H H') : Rel K F σ H' δ := r.kp (Kp.same r s)
theorem Stp.refl {F : Fm} {σ : L2.St} {H : Hp} {δ : Sts} : Stp F σ H δ σ H δ := ⟨fun _ _ _ e => e, fun _ z => .inl z⟩
theorem Stp.trans {F : Fm} {σ σ1 σ2 : L2.St} {H H1 H2 : Hp} {δ δ1 δ2 : Sts} (a : Stp F σ H δ σ1 H1 δ1) (b : Stp F σ1 H1 δ1 σ2 H2 δ2) : Stp F σ H δ σ2 H2 δ2 := by
  refine ⟨fun c o n e => ?_, fun c z => ?_⟩
  · refine b.1 c o (fun z => ?_) (a.1 c o n e)
    rcases a.2 c z with q | q
    · exact n q
    · rw [q] at e; cases e
  · rcases b.2 c z with q | q
    · exact a.2 c q
    · by_cases y : Av F σ δ c
      · exact .inl y
      · right
        cases e : H c with
        | none => rfl
        | some o => rw [a.1 c o y e] at q; cases q
theorem Stp.kp {F : Fm} {σ : L2.St} {H H' : Hp} {δ : Sts} (k : Kp σ δ H H') : Stp F σ H δ σ H' δ := ⟨fun b o n e => k.1 b o (fun z => n (pot_av z)) e, fun _ z => .inl z⟩
theorem Stp.da {F : Fm} {σ σ' : L2.St} {H H' : Hp} {δ δ' : Sts} {v : V} {d : PyData} (k : Stp F σ H δ σ' H' δ') (h : DA (Av F σ δ) H v d) : DA (Av F σ' δ') H' v d := h.mv k.1 k.2
theorem Stp.das {F : Fm} {σ σ' : L2.St} {H H' : Hp} {δ δ' : Sts} {v : List V} {d : List PyData} (k : Stp F σ H δ σ' H' δ') (h : DAs (Av F σ δ) H v d) : DAs (Av F σ' δ') H' v d := h.mv k.1 k.2
end Dl
namespace Dl
open PySem PySem.Spec PyProof.Rows L2 _root_.Rd Rk
abbrev XP := Addr → Prop
abbrev DE := Sts → (PyData → Prop) → XP → Prop
abbrev DT := Sts → (Bool → Prop) → XP → Prop
abbrev DAr := Sts → (List PyData → Prop) → XP → Prop
abbrev DSl := Sts → (List Sl → Prop) → XP → Prop
inductive Md where | D | P | F
def FrV (H H' : Hp) (v : V) : Prop := ∀ l, v = .ref l → (∃ xs, H' l = some (.lst xs)) → H l = none
def Vok (m : Md) (F : Fm) (σ : L2.St) (δ : Sts) (H H' : Hp) (v : V) (d : PyData) : Prop :=
  match m with
  | .D => DA (Av F σ δ) H' v d
  | .P => DP (Av F σ δ) (PotA σ δ) H' v d
  | .F => DA (Av F σ δ) H' v d ∧ FrV H H' v
def Out (F : Fm) (E : XK) (EX : XP) : Prop := ∀ C, EX C → ∀ H', Ke F H' → E (.ref C) none H'
def tX (m : Md) (K : PySem.W.Frag) (E : XK) (w : DE) : TE := fun σ H Q => ∃ (F : Fm) (δ : Sts) (R : PyData → Prop) (EX : XP), Rel K F σ H δ ∧ w δ R EX ∧ (∀ d, R d → ∀ v H', Rel K F σ H' δ → Kp σ δ H H' → Vok m F σ δ H H' v d → Q v H') ∧ Out F E EX
def tT (K : PySem.W.Frag) (E : XK) (w : DT) : TT := fun σ H Q => ∃ (F : Fm) (δ : Sts) (R : Bool → Prop) (EX : XP), Rel K F σ H δ ∧ w δ R EX ∧ (∀ b, R b → ∀ H', Rel K F σ H' δ → Kp σ δ H H' → Q b H') ∧ Out F E EX
def VD (m : Md) (A P : Addr → Prop) (H : Hp) (v : V) (d : PyData) : Prop :=
  match m with
  | .P => DP A P H v d
  | _ => DA A H v d
def tAr (n : Nat) (m : Md) (K : PySem.W.Frag) (E : XK) (w : DAr) : TA := fun σ H Q => ∃ (F : Fm) (δ : Sts) (R : List PyData → Prop) (EX : XP), Rel K F σ H δ ∧ w δ R EX ∧ (∀ ds, R ds → ds.length = n → ∀ vs H', Rel K F σ H' δ → Kp σ δ H H' → Paired (VD m (Av F σ δ) (PotA σ δ) H') vs ds → Q vs H') ∧ Out F E EX
def ArgOk (A pt : Addr → Prop) (H : Hp) (v : V) : Sl → Prop
  | .v d => DA A H v d
  | .pot => ∃ p, v = .ref p ∧ pt p
  | _ => False
def tAs (K : PySem.W.Frag) (E : XK) (w : DSl) : TA := fun σ H Q => ∃ (F : Fm) (δ : Sts) (R : List Sl → Prop) (EX : XP), Rel K F σ H δ ∧ w δ R EX ∧ (∀ ds, R ds → ∀ vs H', Rel K F σ H' δ → Kp σ δ H H' → Paired (ArgOk (Av F σ δ) (PotA σ δ) H') vs ds → Q vs H') ∧ Out F E EX
theorem Kp.vd {m : Md} {F : Fm} {σ : L2.St} {H H' : Hp} {δ : Sts} {v : V} {d : PyData} (k : Kp σ δ H H') (h : VD m (Av F σ δ) (PotA σ δ) H v d) : VD m (Av F σ δ) (PotA σ δ) H' v d := by
  cases m
  · exact k.da h
  · exact k.dp h
  · exact k.da h
theorem Kp.arg {F : Fm} {σ : L2.St} {H H' : Hp} {δ : Sts} {v : V} {d : Sl} (k : Kp σ δ H H') (h : ArgOk (Av F σ δ) (PotA σ δ) H v d) : ArgOk (Av F σ δ) (PotA σ δ) H' v d := by
  cases d with
  | v d => exact k.da h
  | pot => exact h
  | _ => exact h.elim
def LenOk (H : Hp) : Prop := ∀ a xs, H a = some (.lst xs) ∨ H a = some (.tup xs) → xs.length ≤ sizeLine
section
variable {X : Cx} {E : XK}
theorem Inv.lens {pins : List (Addr × Obj)} {σ : L2.St} {H : Hp} {s : Shared} (I : Inv X pins σ H s) : LenOk H := fun a xs h => by
  rcases h with h | h
  · exact (I.hok a _ h).1
  · exact (I.hok a _ h).1
theorem PE.imp {e : Expr} {t t' : TE} (h : PE X e t) (i : ∀ σ H Q, t' σ H Q → t σ H Q) : PE X e t' := fun pins s σ H Q I q => h pins s σ H Q I (i σ H Q q)
theorem PT.imp {e : Expr} {t t' : TT} (h : PT X e t) (i : ∀ σ H Q, t' σ H Q → t σ H Q) : PT X e t' := fun pins s σ H Q I q => h pins s σ H Q I (i σ H Q q)
theorem PW.imp {e : Expr} {t t' : TT} (h : PW X e t) (i : ∀ σ H Q, t' σ H Q → t σ H Q) : PW X e t' := fun wh pins s σ H Q I q => h wh pins s σ H Q I (i σ H Q q)
theorem PA.imp {e : List Expr} {t t' : TA} (h : PA X e t) (i : ∀ σ H Q, t' σ H Q → t σ H Q) : PA X e t' := fun pos pins s σ H Q I q => h pos pins s σ H Q I (i σ H Q q)
theorem OpR.len {f : Value → Value → Sem Value} {r : R2} (h : OpR X f r) : OpR X f (fun x y H Q => LenOk H → r x y H Q) := fun pins s σ H x y v u Q I rx ry q => h pins s σ H x y v u Q I rx ry (q (Inv.lens I))
theorem CallR.len {f : Value} {r : List V → Hp → VK → Prop} (h : CallR X f r) : CallR X f (fun xs H Q => LenOk H → r xs H Q) := fun pins s σ H xs us Q I rx q => h pins s σ H xs us Q I rx (q (Inv.lens I))
theorem UnR.len {f : Value → Sem Value} {r : V → Hp → VK → Prop} (h : UnR X f r) : UnR X f (fun x H Q => LenOk H → r x H Q) := fun pins s σ H x v Q I rx q => h pins s σ H x v Q I rx (q (Inv.lens I))
theorem IxR.len {r : R2} (h : IxR X r) : IxR X (fun x y H Q => LenOk H → r x y H Q) := fun a b pins s σ H x y v u Q I rx ry q hs => h a b pins s σ H x y v u Q I rx ry (q (Inv.lens I)) hs
theorem SlR.len {r : V → Option Int → Option Int → Hp → VK → Prop} (h : SlR X r) : SlR X (fun x a b H Q => LenOk H → r x a b H Q) := fun pins s σ H x v vl vu lo hi sl Q I rx hs pl pu q => h pins s σ H x v vl vu lo hi sl Q I rx hs pl pu (q (Inv.lens I))
theorem OpR.or2 {f : Value → Value → Sem Value} {r r' : R2} (h : OpR X f r) (h' : OpR X f r') : OpR X f (fun x y H Q => r x y H Q ∨ r' x y H Q) := OpR.or h h'
theorem CallR.or2 {f : Value} {r r' : List V → Hp → VK → Prop} (h : CallR X f r) (h' : CallR X f r') : CallR X f (fun x H Q => r x H Q ∨ r' x H Q) := fun pins s σ H xs us Q I rx q => q.elim (h pins s σ H xs us Q I rx) (h' pins s σ H xs us Q I rx)
theorem IxR.or2 {r r' : R2} (h : IxR X r) (h' : IxR X r') : IxR X (fun x y H Q => r x y H Q ∨ r' x y H Q) := fun a b pins s σ H x y v u Q I rx ry q hs => q.elim (fun q => h a b pins s σ H x y v u Q I rx ry q hs) fun q => h' a b pins s σ H x y v u Q I rx ry q hs
theorem SlR.or2 {r r' : V → Option Int → Option Int → Hp → VK → Prop} (h : SlR X r) (h' : SlR X r') : SlR X (fun x a b H Q => r x a b H Q ∨ r' x a b H Q) := fun pins s σ H x v vl vu lo hi sl Q I rx hs pl pu q => q.elim (h pins s σ H x v vl vu lo hi sl Q I rx hs pl pu) (h' pins s σ H x v vl vu lo hi sl Q I rx hs pl pu)
theorem toD {e : Expr} {w : DE} (h : PE X e (tX .F X.K E w)) : PE X e (tX .D X.K E w) := PE.imp h fun σ H Q ⟨F, δ, R, EX, r, hw, k, o⟩ => ⟨F, δ, R, EX, r, hw, fun d hd v H' r' kp vk => k d hd v H' r' kp vk.1, o⟩
theorem toP {e : Expr} {w : DE} (h : PE X e (tX .D X.K E w)) : PE X e (tX .P X.K E w) := PE.imp h fun σ H Q ⟨F, δ, R, EX, r, hw, k, o⟩ => ⟨F, δ, R, EX, r, hw, fun d hd v H' r' kp vk => k d hd v H' r' kp (.inl vk), o⟩
theorem toPF {e : Expr} {w : DE} (h : PE X e (tX .F X.K E w)) : PE X e (tX .P X.K E w) := toP (toD h)
def dVar (i : Nat) : DE := fun δ Q _ => match δ[i]? with
  | some (.v d) => Q d
  | _ => False
def dPk (i : Nat) : DE := fun δ Q _ => match δ[i]? with
  | some (.v d) => Q d
  | some (.own ds) => Q (.list ds)
  | some (.pk ds) => Q (.list ds)
  | _ => False
def dC (d : PyData) : DE := fun _ Q _ => Q d
theorem Rel.lt {K : PySem.W.Frag} {F : Fm} {σ : L2.St} {H : Hp} {δ : Sts} (r : Rel K F σ H δ) {i : Nat} {x : Sl} (h : δ[i]? = some x) : ∃ o, σ[i]? = some o := by
  have := (List.getElem?_eq_some_iff.mp h).1
  exact ⟨σ[i]'(by rw [r.len]; exact this), List.getElem?_eq_getElem _⟩
theorem pd_var {e : Expr} {i : Nat} (h : PE X e (tVar i)) : PE X e (tX .D X.K E (dVar i)) := PE.imp h fun σ H Q ⟨F, δ, R, EX, r, hw, k, o⟩ => by
  unfold dVar at hw
  split at hw
  · rename_i d hd
    obtain ⟨x, hx⟩ := r.lt hd
    obtain ⟨v, rfl, q⟩ := r.sl i _ _ hx hd
    exact ⟨v, hx, k d hw v H r (Kp.refl r) q⟩
  · exact hw.elim
theorem pd_pk {e : Expr} {i : Nat} (h : PE X e (tVar i)) : PE X e (tX .P X.K E (dPk i)) := PE.imp h fun σ H Q ⟨F, δ, R, EX, r, hw, k, o⟩ => by
  unfold dPk at hw
  split at hw
  · rename_i d hd
    obtain ⟨x, hx⟩ := r.lt hd
    obtain ⟨v, rfl, q⟩ := r.sl i _ _ hx hd
    exact ⟨v, hx, k d hw v H r (Kp.refl r) (.inl q)⟩
  · rename_i d hd
    obtain ⟨x, hx⟩ := r.lt hd
    obtain ⟨l, xs, rfl, e, q, _⟩ := r.sl i _ _ hx hd
    exact ⟨_, hx, k _ hw _ H r (Kp.refl r) (.inr ⟨l, xs, d, rfl, rfl, r.own_pot hd hx, e, q⟩)⟩
  · rename_i d hd
    obtain ⟨x, hx⟩ := r.lt hd
    obtain ⟨l, xs, rfl, e, q, ys, f, f2⟩ := r.sl i _ _ hx hd
    refine ⟨_, hx, k _ hw _ H r (Kp.refl r) (.inr ⟨l, xs, d, rfl, rfl, ?_, e, q⟩)⟩
    rintro ⟨j, j1, j2⟩
    obtain ⟨p, m, e1, _, w⟩ := r.sl j _ _ j1 j2
    cases e1
    rcases w with w | w
    · exact f2 w
    · rw [w] at f; cases f
  · exact hw.elim
theorem pd_c {e : Expr} {v : V} {d : PyData} (h : PE X e (tC v)) (q : ∀ (A : Addr → Prop) (H : Hp), DA A H v d) : PE X e (tX .D X.K E (dC d)) := PE.imp h fun σ H Q ⟨F, δ, R, EX, r, hw, k, o⟩ => k d hw v H r (Kp.refl r) (q _ _)
theorem pd_int {i : Int} {j pos} : PE X (.Constant (.int i) j pos) (tX .D X.K E (dC (.int i))) := pd_c pe_int fun _ _ => .int i
theorem pd_bl {b : Bool} {j pos} : PE X (.Constant (.bool b) j pos) (tX .D X.K E (dC (.bool b))) := pd_c pe_bl fun _ _ => .bl b
def OpD (r : R2) (rD : PyData → PyData → (PyData → Prop) → Prop) : Prop := ∀ (A P : Addr → Prop) (H : Hp) (x y : V) (d1 d2 : PyData) (R : PyData → Prop) (Q : VK), LenOk H → (∀ a, A a → ∃ xs, H a = some (.lst xs)) → DP A P H x d1 → DP A P H y d2 → rD d1 d2 R →
  (∀ d, R d → ∀ v H', Same H H' → DA A H' v d → FrV H H' v → Q v H') → r x y H Q
def OpDn (r : R2) (rD : PyData → PyData → (PyData → Prop) → Prop) : Prop := ∀ (A P : Addr → Prop) (H : Hp) (x y : V) (d1 d2 : PyData) (R : PyData → Prop) (Q : VK), LenOk H → (∀ a, A a → ∃ xs, H a = some (.lst xs)) → DP A P H x d1 → DP A P H y d2 → rD d1 d2 R →
  (∀ d, R d → ∀ v H', Same H H' → DA A H' v d → Q v H') → r x y H Q
def dOp (rD : PyData → PyData → (PyData → Prop) → Prop) (wa wb : DE) : DE := fun δ Q EX => wa δ (fun d1 => wb δ (fun d2 => rD d1 d2 Q) EX) EX
theorem op_read {K : PySem.W.Frag} {r : R2} {rD : PyData → PyData → (PyData → Prop) → Prop} {wa wb : DE} (hd : OpD r rD) (σ : L2.St) (H : Hp) (Q : VK) (h : tX .F K E (dOp rD wa wb) σ H Q) :
    tOp (fun x y H Q => LenOk H → r x y H Q) (tX .P K E wa) (tX .P K E wb) σ H Q := by
  obtain ⟨F, δ, R, EX, rel, hw, k, o⟩ := h
  refine ⟨F, δ, _, EX, rel, hw, fun d1 h1 x H1 rel1 kp1 x1 => ⟨F, δ, _, EX, rel1, h1, fun d2 h2 y H2 rel2 kp2 y2 => fun ln => ?_, o⟩, o⟩
  refine hd (Av F σ δ) (PotA σ δ) H2 x y d1 d2 R Q ln (fun a ha => rel2.isl ha) (kp2.dp x1) y2 h2 fun d hR v H' s q f => ?_
  refine k d hR v H' (rel2.same s) ((kp1.trans kp2).trans (Kp.same rel2 s)) ⟨q, fun l e1 e2 => ?_⟩
  have f2 := f l e1 e2
  cases e : H l with
  | none => rfl
  | some ob =>
    by_cases z : PotA σ δ l
    · obtain ⟨n, en⟩ := kp2.2 l z
      rw [en] at f2; cases f2
    · rw [(kp1.trans kp2).1 _ _ z e] at f2; cases f2
theorem op_readn {K : PySem.W.Frag} {r : R2} {rD : PyData → PyData → (PyData → Prop) → Prop} {wa wb : DE} (hd : OpDn r rD) (σ : L2.St) (H : Hp) (Q : VK) (h : tX .D K E (dOp rD wa wb) σ H Q) :
    tOp (fun x y H Q => LenOk H → r x y H Q) (tX .P K E wa) (tX .P K E wb) σ H Q := by
  obtain ⟨F, δ, R, EX, rel, hw, k, o⟩ := h
  refine ⟨F, δ, _, EX, rel, hw, fun d1 h1 x H1 rel1 kp1 x1 => ⟨F, δ, _, EX, rel1, h1, fun d2 h2 y H2 rel2 kp2 y2 => fun ln => ?_, o⟩, o⟩
  refine hd (Av F σ δ) (PotA σ δ) H2 x y d1 d2 R Q ln (fun a ha => rel2.isl ha) (kp2.dp x1) y2 h2 fun d hR v H' s q => ?_
  exact k d hR v H' (rel2.same s) ((kp1.trans kp2).trans (Kp.same rel2 s)) q
variable {a b : Expr} {wa wb : DE} {pos : Pos} {r : R2} {rD : PyData → PyData → (PyData → Prop) → Prop}
theorem pd_bin {op : Operator} (ho : OpR X (binaryOp op) r) (hd : OpD r rD) (ha : PE X a (tX .P X.K E wa)) (hb : PE X b (tX .P X.K E wb)) : PE X (.BinOp a op b pos) (tX .F X.K E (dOp rD wa wb)) := PE.imp (pe_op (OpR.len ho) ha hb) (op_read hd)
theorem pd_cmp {op : CmpOp} (ho : OpR X (compareOp op) r) (hd : OpD r rD) (ha : PE X a (tX .P X.K E wa)) (hb : PE X b (tX .P X.K E wb)) (hm : behindInMarks op b = false) : PE X (.Compare a [op] [b] pos) (tX .F X.K E (dOp rD wa wb)) := PE.imp (pe_cmpR (OpR.len ho) ha hb hm) (op_read hd)
theorem pd_ix {r : R2} {rD : PyData → PyData → (PyData → Prop) → Prop} (ho : IxR X r) (hd : OpDn r rD) (ha : PE X a (tX .P X.K E wa)) (hb : PE X b (tX .P X.K E wb)) (hs : PlainIx b) : PE X (.Subscript a b pos) (tX .D X.K E (dOp rD wa wb)) := PE.imp (pe_ix (IxR.len ho) ha hb hs) (op_readn hd)
def dTst (w : DE) : DT := fun δ Q EX => w δ (fun d => match d with
  | .bool k => Q k
  | _ => False) EX
theorem pdt_cmp {op : CmpOp} (ho : OpR X (compareOp op) r) (hd : OpD r rD) (ha : PE X a (tX .P X.K E wa)) (hb : PE X b (tX .P X.K E wb)) (hm : behindInMarks op b = false) : PT X (.Compare a [op] [b] pos) (tT X.K E (dTst (dOp rD wa wb))) := by
  refine PT.imp (pt_cmpR (OpR.len ho) ha hb hm) fun σ H Q ⟨F, δ, R, EX, rel, hw, k, o⟩ => ?_
  refine op_read hd σ H (fun x H' => ∃ k, x = .bl k ∧ Q k H') ⟨F, δ, _, EX, rel, hw, fun d hd2 v H' rel' kp vk => ?_, o⟩
  split at hd2
  · rename_i b
    have : v = .bl b := by cases vk.1; rfl
    exact ⟨b, this, k b hd2 H' rel' kp⟩
  · exact hd2.elim
theorem pdt_val {e : Expr} {w : DE} (h : PE X e (tX .P X.K E w)) (he : ∀ whole, isTrue e X.env whole = (do let v ← whole; standAt e.pos; holding [v] (truthy v)) := by intro _; rfl) : PT X e (tT X.K E (dTst w)) := by
  refine PT.imp (pt_val h he) fun σ H Q ⟨F, δ, R, EX, rel, hw, k, o⟩ => ?_
  refine ⟨F, δ, _, EX, rel, hw, fun d hd v H' rel' kp vk => ?_, o⟩
  split at hd
  · exact ⟨_, DP.bool vk, k _ hd H' rel' kp⟩
  · exact hd.elim
def dAnd (wa wb : DT) : DT := fun δ Q EX => wa δ (fun c => if c = true then wb δ Q EX else Q false) EX
def dOr (wa wb : DT) : DT := fun δ Q EX => wa δ (fun c => if c = true then Q true else wb δ Q EX) EX
def dNot (wa : DT) : DT := fun δ Q EX => wa δ (fun c => Q (!c)) EX
theorem if_imp {c : Prop} [Decidable c] {p q p' q' : Prop} (h : if c then p else q) (h1 : p → p') (h2 : q → q') : if c then p' else q' := by
  split at h
  · rw [if_pos (by assumption)]; exact h1 h
  · rw [if_neg (by assumption)]; exact h2 h
variable {rest : List Expr} {ta tb : DT}
theorem pdw_and1 (ha : PT X a (tT X.K E ta)) : PW X (.BoolOp .And [a] pos) (tT X.K E ta) := pw_and1 ha
theorem pdw_or1 (ha : PT X a (tT X.K E ta)) : PW X (.BoolOp .Or [a] pos) (tT X.K E ta) := pw_or1 ha
theorem pdw_and (ha : PT X a (tT X.K E ta)) (hb : PW X (.BoolOp .And (b :: rest) pos) (tT X.K E tb)) : PW X (.BoolOp .And (a :: b :: rest) pos) (tT X.K E (dAnd ta tb)) := by
  refine PW.imp (pw_and ha hb) fun σ H Q ⟨F, δ, R, EX, rel, hw, k, o⟩ => ?_
  refine ⟨F, δ, _, EX, rel, hw, fun c hc H' rel' kp => ?_, o⟩
  exact if_imp hc (fun z => ⟨F, δ, R, EX, rel', z, fun c hc H2 rel2 kp2 => k c hc H2 rel2 (kp.trans kp2), o⟩) fun z => k _ z H' rel' kp
theorem pdw_or (ha : PT X a (tT X.K E ta)) (hb : PW X (.BoolOp .Or (b :: rest) pos) (tT X.K E tb)) : PW X (.BoolOp .Or (a :: b :: rest) pos) (tT X.K E (dOr ta tb)) := by
  refine PW.imp (pw_or ha hb) fun σ H Q ⟨F, δ, R, EX, rel, hw, k, o⟩ => ?_
  refine ⟨F, δ, _, EX, rel, hw, fun c hc H' rel' kp => ?_, o⟩
  exact if_imp hc (fun z => k _ z H' rel' kp) (fun z => ⟨F, δ, R, EX, rel', z, fun c hc H2 rel2 kp2 => k c hc H2 rel2 (kp.trans kp2), o⟩)
theorem pdt_not (ha : PT X a (tT X.K E ta)) : PT X (.UnaryOp .Not a pos) (tT X.K E (dNot ta)) := by
  refine PT.imp (pt_not ha) fun σ H Q ⟨F, δ, R, EX, rel, hw, k, o⟩ => ?_
  exact ⟨F, δ, _, EX, rel, hw, fun c hc H' rel' kp => k _ hc H' rel' kp, o⟩
def dAndV (wa wb : DE) : DE := fun δ Q EX => wa δ (fun d => match d with
  | .bool c => if c = true then wb δ Q EX else Q (.bool false)
  | _ => False) EX
def dNotV (wa : DE) : DE := fun δ Q EX => wa δ (fun d => match d with
  | .bool c => Q (.bool (!c))
  | _ => False) EX
theorem pd_one {op} {w : DE} (h : PE X a (tX .D X.K E w)) : PE X (.BoolOp op [a] pos) (tX .D X.K E w) := pe_one h
theorem pd_and (ha : PE X a (tX .P X.K E wa)) (hb : PE X (.BoolOp .And (b :: rest) pos) (tX .D X.K E wb)) : PE X (.BoolOp .And (a :: b :: rest) pos) (tX .D X.K E (dAndV wa wb)) := by
  refine PE.imp (pe_and ha hb) fun σ H Q ⟨F, δ, R, EX, rel, hw, k, o⟩ => ?_
  refine ⟨F, δ, _, EX, rel, hw, fun d hd v H' rel' kp vk => ?_, o⟩
  split at hd
  · exact ⟨_, DP.bool vk, if_imp hd (fun z => ⟨F, δ, R, EX, rel', z, fun d hd v H2 rel2 kp2 => k d hd v H2 rel2 (kp.trans kp2), o⟩) fun z => k _ z _ H' rel' kp (.bl _)⟩
  · exact hd.elim
theorem pd_not (ha : PE X a (tX .P X.K E wa)) : PE X (.UnaryOp .Not a pos) (tX .D X.K E (dNotV wa)) := by
  refine PE.imp (pe_not ha) fun σ H Q ⟨F, δ, R, EX, rel, hw, k, o⟩ => ?_
  refine ⟨F, δ, _, EX, rel, hw, fun d hd v H' rel' kp vk => ?_, o⟩
  split at hd
  · exact ⟨_, DP.bool vk, k _ hd _ H' rel' kp (.bl _)⟩
  · exact hd.elim
def dIfE (t : DT) (wa wb : DE) : DE := fun δ Q EX => t δ (fun c => if c = true then wa δ Q EX else wb δ Q EX) EX
theorem pd_ifE {c : Expr} (hc : PT X c (tT X.K E ta)) (ha : PE X a (tX .D X.K E wa)) (hb : PE X b (tX .D X.K E wb)) : PE X (.IfExp c a b pos) (tX .D X.K E (dIfE ta wa wb)) := by
  refine PE.imp (pe_ifExp hc ha hb) fun σ H Q ⟨F, δ, R, EX, rel, hw, k, o⟩ => ?_
  refine ⟨F, δ, _, EX, rel, hw, fun d hd H' rel' kp => ?_, o⟩
  exact if_imp hd (fun z => ⟨F, δ, R, EX, rel', z, fun d hd v H2 rel2 kp2 => k d hd v H2 rel2 (kp.trans kp2), o⟩) (fun z => ⟨F, δ, R, EX, rel', z, fun d hd v H2 rel2 kp2 => k d hd v H2 rel2 (kp.trans kp2), o⟩)
end
end Dl
namespace Dl
open PySem PySem.Spec PyProof.Rows L2 _root_.Rd Rk
theorem new_da {A : Addr → Prop} {H H' : Hp} {l : Addr} {xs : List V} {ds : List PyData} (dm : ∀ a, A a → ∃ xs, H a = some (.lst xs)) (s : Same H H') (n : H l = none) (e : H' l = some (.lst xs)) (q : DAs A H xs ds) : DA A H' (.ref l) (.list ds) :=
  .lst (fun z => by obtain ⟨ys, e'⟩ := dm l z; rw [n] at e'; cases e') e (q.same s)
theorem tup_da {A : Addr → Prop} {H H' : Hp} {l : Addr} {xs : List V} {ds : List PyData} (dm : ∀ a, A a → ∃ xs, H a = some (.lst xs)) (s : Same H H') (e : H' l = some (.tup xs)) (q : DAs A H xs ds) : DA A H' (.ref l) (.tuple ds) :=
  .tup (fun z => by obtain ⟨ys, e'⟩ := dm l z; rw [s _ _ e'] at e; cases e) e (q.same s)
theorem frv_new {H H' : Hp} {l : Addr} (n : H l = none) : FrV H H' (.ref l) := fun l' e _ => by cases e; exact n
theorem frv_tup {H H' : Hp} {l : Addr} {xs : List V} (e : H' l = some (.tup xs)) : FrV H H' (.ref l) := fun l' e1 ⟨ys, e2⟩ => by cases e1; rw [e] at e2; cases e2
theorem frv_int {H H' : Hp} {i : Int} : FrV H H' (.int i) := fun l' e _ => by cases e
theorem frv_bl {H H' : Hp} {i : Bool} : FrV H H' (.bl i) := fun l' e _ => by cases e
theorem frv_non {H H' : Hp} : FrV H H' .non := fun l' e _ => by cases e
theorem DAs.rep {A : Addr → Prop} {H : Hp} {xs : List V} {ds : List PyData} (q : DAs A H xs ds) : ∀ k : Nat, DAs A H (List.replicate k xs).flatten (List.replicate k ds).flatten
  | 0 => .nil
  | k + 1 => by rw [List.replicate_succ, List.replicate_succ, List.flatten_cons, List.flatten_cons]; exact q.app (DAs.rep q k)
def addD : PyData → PyData → (PyData → Prop) → Prop
  | .int i, .int j, Q => Q (.int (i + j))
  | .tuple a, .tuple b, Q => a.length + b.length ≤ 1000000 ∧ Q (.tuple (a ++ b))
  | .list a, .list b, Q => a.length + b.length ≤ 1000000 ∧ Q (.list (a ++ b))
  | _, _, _ => False
def iiD (C : Int → Int → Prop) (f : Int → Int → PyData) : PyData → PyData → (PyData → Prop) → Prop
  | .int i, .int j, Q => C i j ∧ Q (f i j)
  | _, _, _ => False
def ii0 (f : Int → Int → PyData) : PyData → PyData → (PyData → Prop) → Prop
  | .int i, .int j, Q => Q (f i j)
  | _, _, _ => False
def mulD : PyData → PyData → (PyData → Prop) → Prop
  | .int i, .int j, Q => (CMul i j ∨ CMulB i j) ∧ Q (.int (i * j))
  | .list a, .int k, Q => (k < 1000000 ∧ -1000000 < k ∧ a.length * k.toNat ≤ 1000000) ∧ Q (.list (List.replicate k.toNat a).flatten)
  | _, _, _ => False
theorem lineM : 1000000 ≤ sizeLine := by show 1000000 ≤ 2 ^ 24; decide
section
variable {X : Cx} {E : XK}
theorem od_ii {C : Int → Int → Prop} {g : Int → Int → Int} : OpD (rI C fun i j => .int (g i j)) (iiD C fun i j => .int (g i j)) := fun A P H x y d1 d2 R Q ln dm hx hy h k => by
  cases d1 <;> cases d2 <;> first | exact h.elim | skip
  rw [hx.int, hy.int]
  exact ⟨_, _, rfl, rfl, h.1, k _ h.2 _ H (Same.refl H) (.int _) frv_int⟩
theorem od_ii0 {g : Int → Int → Int} : OpD (rI0 fun i j => .int (g i j)) (ii0 fun i j => .int (g i j)) := fun A P H x y d1 d2 R Q ln dm hx hy h k => by
  cases d1 <;> cases d2 <;> first | exact h.elim | skip
  rw [hx.int, hy.int]
  exact ⟨_, _, rfl, rfl, k _ h _ H (Same.refl H) (.int _) frv_int⟩
theorem od_ib0 {g : Int → Int → Bool} : OpD (rI0 fun i j => .bl (g i j)) (ii0 fun i j => .bool (g i j)) := fun A P H x y d1 d2 R Q ln dm hx hy h k => by
  cases d1 <;> cases d2 <;> first | exact h.elim | skip
  rw [hx.int, hy.int]
  exact ⟨_, _, rfl, rfl, k _ h _ H (Same.refl H) (.bl _) frv_bl⟩
def rAdd : R2 := fun x y H Q => (rI0 (fun i j => .int (i + j)) x y H Q ∨ rCatA x y H Q) ∨ rCat x y H Q
theorem op_addD : OpR X (binaryOp .Add) rAdd := OpR.or2 (OpR.or2 op_add op_catA) op_cat
theorem od_add : OpD rAdd addD := fun A P H x y d1 d2 R Q ln dm hx hy h k => by
  cases d1 <;> cases d2 <;> first | exact h.elim | skip
  · rw [hx.int, hy.int]
    exact .inl (.inl ⟨_, _, rfl, rfl, k _ h _ H (Same.refl H) (.int _) frv_int⟩)
  · obtain ⟨l1, xs, rfl, e1, q1⟩ := hx.list
    obtain ⟨l2, ys, rfl, e2, q2⟩ := hy.list
    refine .inr ⟨l1, l2, xs, ys, rfl, rfl, e1, e2, Nat.le_trans (by rw [q1.length, q2.length]; exact h.1) lineM, fun p hp => ?_⟩
    exact k _ h.2 _ _ (same_upd hp) (new_da dm (same_upd hp) hp upd_same (q1.app q2)) (frv_new hp)
  · obtain ⟨l1, xs, rfl, e1, q1⟩ := hx.tuple
    obtain ⟨l2, ys, rfl, e2, q2⟩ := hy.tuple
    refine .inl (.inr ⟨l1, l2, xs, ys, rfl, rfl, e1, e2, Nat.le_trans (by rw [q1.length, q2.length]; exact h.1) lineM, fun p H' s e => ?_⟩)
    exact k _ h.2 _ _ s (tup_da dm s e (q1.app q2)) (frv_tup e)
def rMulA : R2 := fun x y H Q => (rI CMul (fun i j => .int (i * j)) x y H Q ∨ rI CMulB (fun i j => .int (i * j)) x y H Q) ∨ rRep x y H Q
theorem op_mulD : OpR X (binaryOp .Mult) rMulA := OpR.or2 (OpR.or2 op_mul op_mulB) op_rep
theorem od_mul : OpD rMulA mulD := fun A P H x y d1 d2 R Q ln dm hx hy h k => by
  cases d1 <;> cases d2 <;> first | exact h.elim | skip
  · rw [hx.int, hy.int]
    rcases h.1 with c | c
    · exact .inl (.inl ⟨_, _, rfl, rfl, c, k _ h.2 _ H (Same.refl H) (.int _) frv_int⟩)
    · exact .inl (.inr ⟨_, _, rfl, rfl, c, k _ h.2 _ H (Same.refl H) (.int _) frv_int⟩)
  · obtain ⟨l1, xs, rfl, e1, q1⟩ := hx.list
    rw [hy.int]
    obtain ⟨⟨h1, h2, h3⟩, h4⟩ := h
    refine .inr ⟨l1, _, xs, rfl, rfl, e1, by omega, by omega, Nat.le_trans (by rw [q1.length]; exact h3) lineM, fun p hp => ?_⟩
    exact k _ h4 _ _ (same_upd hp) (new_da dm (same_upd hp) hp upd_same (q1.rep _)) (frv_new hp)
def eqD : PyData → PyData → (PyData → Prop) → Prop
  | .int i, .int j, Q => Q (.bool (decide (i = j)))
  | .bool i, .bool j, Q => Q (.bool (decide (i = j)))
  | .str i, .str j, Q => Q (.bool (decide (i = j)))
  | a, b, Q => (nd a = true ∧ nd b = true ∧ (a.depth ≤ 50 ∨ b.depth ≤ 50)) ∧ Q (.bool (PyData.eqv a b))
def neD : PyData → PyData → (PyData → Prop) → Prop
  | .int i, .int j, Q => Q (.bool (!decide (i = j)))
  | .bool i, .bool j, Q => Q (.bool (!decide (i = j)))
  | .str i, .str j, Q => Q (.bool (!decide (i = j)))
  | a, b, Q => (nd a = true ∧ nd b = true ∧ (a.depth ≤ 50 ∨ b.depth ≤ 50)) ∧ Q (.bool (!PyData.eqv a b))
theorem min50 {a b : PyData} (h : a.depth ≤ 50 ∨ b.depth ≤ 50) : min a.depth b.depth ≤ 50 := by rcases h with h | h <;> omega
def rEqA (u : Nat) : R2 := fun x y H Q => rEq x y H Q ∨ rEqU u x y H Q
def rNeA (u : Nat) : R2 := fun x y H Q => rNe x y H Q ∨ rNeU u x y H Q
theorem op_eqA : OpR X (compareOp .Eq) (rEqA X.A.units) := OpR.or2 op_eq op_eqU
theorem op_neA : OpR X (compareOp .NotEq) (rNeA X.A.units) := OpR.or2 op_ne op_neU
theorem dec_i {i j : Int} : decide (V.int i = V.int j) = decide (i = j) := by
  by_cases h : i = j
  · subst h; simp
  · rw [decide_eq_false h, decide_eq_false (fun z => h (V.int.inj z))]
theorem dec_b {i j : Bool} : decide (V.bl i = V.bl j) = decide (i = j) := by
  by_cases h : i = j
  · subst h; simp
  · rw [decide_eq_false h, decide_eq_false (fun z => h (V.bl.inj z))]
theorem dec_s {i j : Str} : decide (V.str i = V.str j) = decide (i = j) := by
  by_cases h : i = j
  · subst h; simp
  · rw [decide_eq_false h, decide_eq_false (fun z => h (V.str.inj z))]
theorem od_eq {u : Nat} (hu : u + 60 < cLine) : OpD (rEqA u) eqD := fun A P H x y d1 d2 R Q ln dm hx hy h k => by
  unfold eqD at h
  split at h
  · rw [hx.int, hy.int]
    exact .inl ⟨rfl, k (.bool (decide (V.int _ = V.int _))) (by rw [dec_i]; exact h) _ H (Same.refl H) (.bl _) frv_bl⟩
  · rw [hx.bool, hy.bool]
    exact .inl ⟨rfl, k (.bool (decide (V.bl _ = V.bl _))) (by rw [dec_b]; exact h) _ H (Same.refl H) (.bl _) frv_bl⟩
  · rw [hx.str.1, hy.str.1]
    exact .inl ⟨rfl, k (.bool (decide (V.str _ = V.str _))) (by rw [dec_s]; exact h) _ H (Same.refl H) (.bl _) frv_bl⟩
  · obtain ⟨⟨n1, n2, dp⟩, hR⟩ := h
    have := min50 dp
    exact .inr ⟨_, _, hx.dat n1, hy.dat n2, by omega, k _ hR _ H (Same.refl H) (.bl _) frv_bl⟩
theorem od_ne {u : Nat} (hu : u + 60 < cLine) : OpD (rNeA u) neD := fun A P H x y d1 d2 R Q ln dm hx hy h k => by
  unfold neD at h
  split at h
  · rw [hx.int, hy.int]
    exact .inl ⟨rfl, k (.bool (!decide (V.int _ = V.int _))) (by rw [dec_i]; exact h) _ H (Same.refl H) (.bl _) frv_bl⟩
  · rw [hx.bool, hy.bool]
    exact .inl ⟨rfl, k (.bool (!decide (V.bl _ = V.bl _))) (by rw [dec_b]; exact h) _ H (Same.refl H) (.bl _) frv_bl⟩
  · rw [hx.str.1, hy.str.1]
    exact .inl ⟨rfl, k (.bool (!decide (V.str _ = V.str _))) (by rw [dec_s]; exact h) _ H (Same.refl H) (.bl _) frv_bl⟩
  · obtain ⟨⟨n1, n2, dp⟩, hR⟩ := h
    have := min50 dp
    exact .inr ⟨_, _, hx.dat n1, hy.dat n2, by omega, k _ hR _ H (Same.refl H) (.bl _) frv_bl⟩
def inD (neg : Bool) (d : PyData) : PyData → (PyData → Prop) → Prop
  | .list ds, Q => (nds ds = true ∧ nd d = true ∧ d.depth ≤ 50) ∧ Q (.bool (if neg then !(ds.any fun e => PyData.eqv e d) else ds.any fun e => PyData.eqv e d))
  | .tuple ds, Q => (nds ds = true ∧ nd d = true ∧ d.depth ≤ 50) ∧ Q (.bool (if neg then !(ds.any fun e => PyData.eqv e d) else ds.any fun e => PyData.eqv e d))
  | _, _ => False
def ixD : PyData → PyData → (PyData → Prop) → Prop
  | .list ds, .int i, Q => ∃ d, atI ds i = some d ∧ Q d
  | .tuple ds, .int i, Q => ∃ d, atI ds i = some d ∧ Q d
  | _, _, _ => False
theorem atI_da {A : Addr → Prop} {H : Hp} {xs : List V} {ds : List PyData} {i : Int} {d : PyData} (q : DAs A H xs ds) (h : atI ds i = some d) : ∃ v, atI xs i = some v ∧ DA A H v d := by
  unfold atI at h ⊢
  rw [q.length]
  cases e : ixN ds.length i with
  | none => rw [e] at h; cases h
  | some j =>
    rw [e] at h
    exact q.get j d h
def rIxA (K : PySem.W.Frag) : R2 := fun x y H Q => rIxL K x y H Q ∨ rIxT K x y H Q
theorem ix_any : IxR X (rIxA X.K) := IxR.or2 ix_list ix_tup
theorem od_ix {K : PySem.W.Frag} : OpDn (rIxA K) ixD := fun A P H x y d1 d2 R Q ln dm hx hy h k => by
  cases d1 <;> cases d2 <;> first | exact h.elim | skip
  · obtain ⟨l, xs, rfl, e, q⟩ := hx.list
    obtain ⟨d, hd, hR⟩ := h
    obtain ⟨v, hv, dv⟩ := atI_da q hd
    rw [hy.int]
    exact .inl ⟨l, xs, _, v, rfl, rfl, SqL.of e, hv, k d hR v H (Same.refl H) dv⟩
  · obtain ⟨l, xs, rfl, e, q⟩ := hx.tuple
    obtain ⟨d, hd, hR⟩ := h
    obtain ⟨v, hv, dv⟩ := atI_da q hd
    rw [hy.int]
    exact .inr ⟨l, xs, _, v, rfl, rfl, SqT.of e, hv, k d hR v H (Same.refl H) dv⟩
def dUn (rD : PyData → (PyData → Prop) → Prop) (wa : DE) : DE := fun δ Q EX => wa δ (fun d => rD d Q) EX
def negD : PyData → (PyData → Prop) → Prop
  | .int i, Q => Q (.int (-i))
  | _, _ => False
variable {a b c : Expr} {wa wb wc : DE} {pos : Pos}
theorem pd_neg (ha : PE X a (tX .P X.K E wa)) : PE X (.UnaryOp .USub a pos) (tX .F X.K E (dUn negD wa)) := by
  refine PE.imp (pe_un un_neg ha) fun σ H Q ⟨F, δ, R, EX, rel, hw, k, o⟩ => ?_
  refine ⟨F, δ, _, EX, rel, hw, fun d hd v H' rel' kp vk => ?_, o⟩
  cases d <;> first | exact (show False from hd).elim | skip
  exact ⟨_, DP.int vk, k _ hd _ H' rel' kp ⟨.int _, frv_int⟩⟩
def dCh (p q : Int → Int → Bool) (wa wb wc : DE) : DE := fun δ Q EX => wa δ (fun x => wb δ (fun y => match x, y with
  | .int i, .int j => if p i j = true then wc δ (fun z => match z with
    | .int k => Q (.bool (q j k))
    | _ => False) EX else Q (.bool false)
  | _, _ => False) EX) EX
theorem ch_read {K : PySem.W.Frag} {p q : Int → Int → Bool} (σ : L2.St) (H : Hp) (Q : VK) (h : tX .F K E (dCh p q wa wb wc) σ H Q) :
    tChain (rI0 fun i j => .bl (p i j)) (rI0 fun i j => .bl (q i j)) (tX .P K E wa) (tX .P K E wb) (tX .P K E wc) σ H Q := by
  obtain ⟨F, δ, R, EX, rel, hw, k, o⟩ := h
  refine ⟨F, δ, _, EX, rel, hw, fun d1 h1 x H1 rel1 kp1 x1 => ⟨F, δ, _, EX, rel1, h1, fun d2 h2 y H2 rel2 kp2 y2 => ?_, o⟩, o⟩
  cases d1 <;> cases d2 <;> first | exact (show False from h2).elim | skip
  rw [DP.int x1, DP.int y2]
  refine ⟨_, _, rfl, rfl, _, rfl, if_imp h2 (fun z => ⟨F, δ, _, EX, rel2, z, fun d3 h3 v H3 rel3 kp3 v3 => ?_, o⟩) fun z => k _ z _ H2 rel2 (kp1.trans kp2) ⟨.bl _, frv_bl⟩⟩
  cases d3 <;> first | exact (show False from h3).elim | skip
  rw [DP.int v3]
  exact ⟨_, _, rfl, rfl, k _ h3 _ H3 rel3 ((kp1.trans kp2).trans kp3) ⟨.bl _, frv_bl⟩⟩
theorem pd_ch {op op' : CmpOp} {p q : Int → Int → Bool} (ho : OpR X (compareOp op) (rI0 fun i j => .bl (p i j))) (ho' : OpR X (compareOp op') (rI0 fun i j => .bl (q i j))) (ha : PE X a (tX .P X.K E wa)) (hb : PE X b (tX .P X.K E wb)) (hc : PE X c (tX .P X.K E wc)) (hm : lastMarks [op, op'] [b, c] = false := by with_unfolding_all rfl) :
    PE X (.Compare a [op, op'] [b, c] pos) (tX .F X.K E (dCh p q wa wb wc)) := PE.imp (pe_chain ho ho' ha hb hc (hm := hm)) ch_read
theorem pdt_ch {op op' : CmpOp} {p q : Int → Int → Bool} (ho : OpR X (compareOp op) (rI0 fun i j => .bl (p i j))) (ho' : OpR X (compareOp op') (rI0 fun i j => .bl (q i j))) (ha : PE X a (tX .P X.K E wa)) (hb : PE X b (tX .P X.K E wb)) (hc : PE X c (tX .P X.K E wc)) (hm : lastMarks [op, op'] [b, c] = false := by with_unfolding_all rfl) :
    PT X (.Compare a [op, op'] [b, c] pos) (tT X.K E (dTst (dCh p q wa wb wc))) := by
  refine PT.imp (pt_chain ho ho' ha hb hc (hm := hm)) fun σ H Q ⟨F, δ, R, EX, rel, hw, k, o⟩ => ?_
  refine ch_read σ H (fun x H' => ∃ k, x = .bl k ∧ Q k H') ⟨F, δ, _, EX, rel, hw, fun d hd2 v H' rel' kp vk => ?_, o⟩
  split at hd2
  · rename_i b
    have : v = .bl b := by cases vk.1; rfl
    exact ⟨b, this, k b hd2 H' rel' kp⟩
  · exact hd2.elim
def dNil : DAr := fun _ Q _ => Q []
def dCons (we : DE) (wr : DAr) : DAr := fun δ Q EX => we δ (fun d => wr δ (fun ds => Q (d :: ds)) EX) EX
theorem pda_nil {m : Md} : PA X [] (tAr 0 m X.K E dNil) := PA.imp pa_nil fun σ H Q ⟨F, δ, R, EX, rel, hw, k, o⟩ => k [] hw rfl [] H rel (Kp.refl rel) .nil
theorem ar_read {n : Nat} {m : Md} {K : PySem.W.Frag} {we : DE} {wr : DAr} (hm : ∀ {F : Fm} {σ : L2.St} {δ : Sts} {H H' : Hp} {v : V} {d : PyData}, Vok m F σ δ H H' v d → VD m (Av F σ δ) (PotA σ δ) H' v d) (σ : L2.St) (H : Hp) (Q : List V → Hp → Prop) (h : tAr (n + 1) m K E (dCons we wr) σ H Q) : tCons (tX m K E we) (tAr n m K E wr) σ H Q := by
  obtain ⟨F, δ, R, EX, rel, hw, k, o⟩ := h
  refine ⟨F, δ, _, EX, rel, hw, fun d hd v H' rel' kp vk => ⟨F, δ, _, EX, rel', hd, fun ds hds hl vs H2 rel2 kp2 vks => ?_, o⟩, o⟩
  exact k _ hds (by rw [List.length_cons, hl]) (v :: vs) H2 rel2 (kp.trans kp2) (.cons (kp2.vd (hm vk)) vks)
theorem pda_consD {n : Nat} {e : Expr} {es : List Expr} {we : DE} {wr : DAr} (he : PE X e (tX .D X.K E we)) (hr : PA X es (tAr n .D X.K E wr)) (hs : notStar e = true := by rfl) : PA X (e :: es) (tAr (n + 1) .D X.K E (dCons we wr)) := PA.imp (pa_c he hr hs) (ar_read fun h => h)
theorem pda_consP {n : Nat} {e : Expr} {es : List Expr} {we : DE} {wr : DAr} (he : PE X e (tX .P X.K E we)) (hr : PA X es (tAr n .P X.K E wr)) (hs : notStar e = true := by rfl) : PA X (e :: es) (tAr (n + 1) .P X.K E (dCons we wr)) := PA.imp (pa_c he hr hs) (ar_read fun h => h)
theorem paired_das {A P : Addr → Prop} {H : Hp} : ∀ {vs : List V} {ds : List PyData}, Paired (VD .D A P H) vs ds → DAs A H vs ds
  | _, _, .nil => .nil
  | _, _, .cons a b => .cons a (paired_das b)
def dTup (w : DAr) : DE := fun δ Q EX => w δ (fun ds => Q (.tuple ds)) EX
def dLst (w : DAr) : DE := fun δ Q EX => w δ (fun ds => Q (.list ds)) EX
theorem pd_tup {n : Nat} {es : List Expr} {w : DAr} {x1} (h : PA X es (tAr n .D X.K E w)) (hn : n ≤ 1000 := by decide) : PE X (.Tuple es x1 pos) (tX .F X.K E (dTup w)) := by
  refine PE.imp (pe_tupW h) fun σ H Q ⟨F, δ, R, EX, rel, hw, k, o⟩ => ?_
  refine ⟨F, δ, _, EX, rel, hw, fun ds hds hl vs H' rel' kp q => ?_, o⟩
  have q' := paired_das q
  refine ⟨by rw [q'.length, hl]; exact hn, fun a H2 s n e => k _ hds _ H2 (rel'.same s) (kp.trans (Kp.same rel' s)) ⟨tup_da (fun a ha => rel'.isl ha) s e q', frv_tup e⟩⟩
theorem kp_none {σ : L2.St} {δ : Sts} {H H' : Hp} {l : Addr} (k : Kp σ δ H H') (n : H' l = none) : H l = none := by
  cases e : H l with
  | none => rfl
  | some ob =>
    by_cases z : PotA σ δ l
    · obtain ⟨m, em⟩ := k.2 l z
      rw [em] at n; cases n
    · rw [k.1 _ _ z e] at n; cases n
theorem pd_lst {n : Nat} {es : List Expr} {w : DAr} (h : PA X es (tAr n .D X.K E w)) (hn : n ≤ 1000 := by decide) : PE X (.List es pos) (tX .F X.K E (dLst w)) := by
  refine PE.imp (pe_lstW h) fun σ H Q ⟨F, δ, R, EX, rel, hw, k, o⟩ => ?_
  refine ⟨F, δ, _, EX, rel, hw, fun ds hds hl vs H' rel' kp q => ?_, o⟩
  have q' := paired_das q
  refine ⟨by rw [q'.length, hl]; exact hn, fun a H2 s n e => k _ hds _ H2 (rel'.same s) (kp.trans (Kp.same rel' s)) ⟨new_da (fun a ha => rel'.isl ha) s n e q', frv_new (kp_none kp n)⟩⟩
def CallD (r : List V → Hp → VK → Prop) (rD : List PyData → (PyData → Prop) → Prop) : Prop := ∀ (A P : Addr → Prop) (H : Hp) (vs : List V) (ds : List PyData) (R : PyData → Prop) (Q : VK), LenOk H → (∀ a, A a → ∃ xs, H a = some (.lst xs)) → Paired (DP A P H) vs ds → rD ds R →
  (∀ d, R d → ∀ v H', Same H H' → DA A H' v d → FrV H H' v → Q v H') → r vs H Q
def dCB (rD : List PyData → (PyData → Prop) → Prop) (wa : DAr) : DE := fun δ Q EX => wa δ (fun ds => rD ds Q) EX
theorem cb_read {n : Nat} {K : PySem.W.Frag} {r : List V → Hp → VK → Prop} {rD : List PyData → (PyData → Prop) → Prop} {wa : DAr} (hd : CallD r rD) (σ : L2.St) (H : Hp) (Q : VK) (h : tX .F K E (dCB rD wa) σ H Q) :
    tCB (fun xs H Q => LenOk H → r xs H Q) (tAr n .P K E wa) σ H Q := by
  obtain ⟨F, δ, R, EX, rel, hw, k, o⟩ := h
  refine ⟨F, δ, _, EX, rel, hw, fun ds hds hl vs H' rel' kp q ln => ?_, o⟩
  refine hd (Av F σ δ) (PotA σ δ) H' vs ds R Q ln (fun a ha => rel'.isl ha) q hds fun d hR v H2 s dv fr => ?_
  exact k d hR v H2 (rel'.same s) (kp.trans (Kp.same rel' s)) ⟨dv, fun l e1 e2 => kp_none kp (fr l e1 e2)⟩
variable {x : Str} {bid T : String} {p : Pos} {e : Expr} {es : List Expr} {n : Nat} {wr : DAr} {r : List V → Hp → VK → Prop} {rD : List PyData → (PyData → Prop) → Prop}
theorem pd_callB (hc : CallR X (.builtin bid) r) (hd : CallD r rD) (hg : Gl X x) (hm : X.mg x = none) (hv : bootBuiltins x = some (.builtin bid)) (ha : PA X (e :: es) (tAr n .P X.K E wr)) (hn : x ≠ "__name__" := by decide) (hdb : (x == ("__debug__" : Str)) = false := by decide)
    (he : starEach (e :: es) X.env = (false, eval e X.env) :: starEach es X.env := by rfl) (hpl : (backTo pos (starEach es X.env)).any (·.1) = false := by rfl) : PE X (.Call (.Name x p) (e :: es) [] pos) (tX .F X.K E (dCB rD wr)) :=
  PE.imp (pe_callB (CallR.len hc) hg hm hv ha hn hdb he hpl) (cb_read hd)
theorem pd_callTy (hc : CallR X (.type T) r) (hd : CallD r rD) (hg : Gl X x) (hm : X.mg x = none) (hv : bootBuiltins x = some (.type T)) (ha : PA X (e :: es) (tAr n .P X.K E wr)) (hn : x ≠ "__name__" := by decide) (hdb : (x == ("__debug__" : Str)) = false := by decide)
    (he : starEach (e :: es) X.env = (false, eval e X.env) :: starEach es X.env := by rfl) (hpl : (backTo pos (starEach es X.env)).any (·.1) = false := by rfl) : PE X (.Call (.Name x p) (e :: es) [] pos) (tX .F X.K E (dCB rD wr)) :=
  PE.imp (pe_callTy (CallR.len hc) hg hm hv ha hn hdb he hpl) (cb_read hd)
theorem pd1 {A P : Addr → Prop} {H : Hp} {vs : List V} {d : PyData} (q : Paired (DP A P H) vs [d]) : ∃ v, vs = [v] ∧ DP A P H v d := by
  cases q with
  | cons a b => cases b; exact ⟨_, rfl, a⟩
theorem pd2 {A P : Addr → Prop} {H : Hp} {vs : List V} {d d' : PyData} (q : Paired (DP A P H) vs [d, d']) : ∃ v v', vs = [v, v'] ∧ DP A P H v d ∧ DP A P H v' d' := by
  cases q with
  | cons a b => cases b with | cons b c => cases c; exact ⟨_, _, rfl, a, b⟩
def lenD : List PyData → (PyData → Prop) → Prop
  | [.list ds], Q => Q (.int ds.length)
  | [.tuple ds], Q => Q (.int ds.length)
  | _, _ => False
theorem cd_len {K : PySem.W.Frag} : CallD (rLenK K) lenD := fun A P H vs ds R Q ln dm q h k => by
  unfold lenD at h
  split at h
  · obtain ⟨v, rfl, hv⟩ := pd1 q
    obtain ⟨l, xs, rfl, e, qq⟩ := hv.list
    exact ⟨l, xs, rfl, .inl (SqL.of e), by rw [qq.length]; exact k _ h _ H (Same.refl H) (.int _) frv_int⟩
  · obtain ⟨v, rfl, hv⟩ := pd1 q
    obtain ⟨l, xs, rfl, e, qq⟩ := hv.tuple
    exact ⟨l, xs, rfl, .inr (SqT.of e), by rw [qq.length]; exact k _ h _ H (Same.refl H) (.int _) frv_int⟩
  · exact h.elim
theorem call_lenK : CallR X (.builtin "len") (rLenK X.K) := call_len_seq
def min2D : List PyData → (PyData → Prop) → Prop
  | [.int i, .int j], Q => Q (.int (if j < i then j else i))
  | _, _ => False
def max2D : List PyData → (PyData → Prop) → Prop
  | [.int i, .int j], Q => Q (.int (if j > i then j else i))
  | _, _ => False
theorem cd_min2 : CallD (fun xs H Q => ∃ i j, xs = [.int i, .int j] ∧ Q (.int (if j < i then j else i)) H) min2D := fun A P H vs ds R Q ln dm q h k => by
  unfold min2D at h
  split at h
  · obtain ⟨v, v', rfl, h1, h2⟩ := pd2 q
    rw [h1.int, h2.int]
    exact ⟨_, _, rfl, k _ h _ H (Same.refl H) (.int _) frv_int⟩
  · exact h.elim
theorem cd_max2 : CallD (fun xs H Q => ∃ i j, xs = [.int i, .int j] ∧ Q (.int (if j > i then j else i)) H) max2D := fun A P H vs ds R Q ln dm q h k => by
  unfold max2D at h
  split at h
  · obtain ⟨v, v', rfl, h1, h2⟩ := pd2 q
    rw [h1.int, h2.int]
    exact ⟨_, _, rfl, k _ h _ H (Same.refl H) (.int _) frv_int⟩
  · exact h.elim
def asBools : List PyData → Option (List Bool)
  | [] => some []
  | .bool b :: ds => (asBools ds).map (b :: ·)
  | _ :: _ => none
def asInts : List PyData → Option (List Int)
  | [] => some []
  | .int b :: ds => (asInts ds).map (b :: ·)
  | _ :: _ => none
theorem bools_map (bs : List Bool) : asBools (bs.map PyData.bool) = some bs := by
  induction bs with
  | nil => rfl
  | cons b bs ih => rw [List.map_cons, asBools, ih]; rfl
theorem ints_map (bs : List Int) : asInts (bs.map PyData.int) = some bs := by
  induction bs with
  | nil => rfl
  | cons b bs ih => rw [List.map_cons, asInts, ih]; rfl
theorem bools_eq : ∀ {ds : List PyData} {bs : List Bool}, asBools ds = some bs → ds = bs.map PyData.bool
  | [], bs, h => by cases h; rfl
  | d :: ds, bs, h => by
    cases d <;> first | (unfold asBools at h; cases h; done) | skip
    rw [asBools] at h
    obtain ⟨cs, h1, rfl⟩ := Option.map_eq_some_iff.mp h
    rw [bools_eq h1]; rfl
theorem ints_eq : ∀ {ds : List PyData} {bs : List Int}, asInts ds = some bs → ds = bs.map PyData.int
  | [], bs, h => by cases h; rfl
  | d :: ds, bs, h => by
    cases d <;> first | (unfold asInts at h; cases h; done) | skip
    rw [asInts] at h
    obtain ⟨cs, h1, rfl⟩ := Option.map_eq_some_iff.mp h
    rw [ints_eq h1]; rfl
theorem das_bools {A : Addr → Prop} {H : Hp} : ∀ {bs : List Bool} {xs : List V}, DAs A H xs (bs.map PyData.bool) → xs = bs.map V.bl
  | [], _, .nil => rfl
  | b :: bs, _, .cons (.bl _) r => by rw [das_bools r]; rfl
theorem das_ints {A : Addr → Prop} {H : Hp} : ∀ {bs : List Int} {xs : List V}, DAs A H xs (bs.map PyData.int) → xs = bs.map V.int
  | [], _, .nil => rfl
  | b :: bs, _, .cons (.int _) r => by rw [das_ints r]; rfl
@[irreducible] def allD : List PyData → (PyData → Prop) → Prop
  | [.list ds], Q => ∃ bs, asBools ds = some bs ∧ Q (.bool (bs.all id))
  | _, _ => False
theorem cd_all {K : PySem.W.Frag} {cm : Bool} (hc : cm = true) : CallD (fun xs H Q => ∃ (p : Addr) (bs : List Bool), xs = [.ref p] ∧ SqL K H p (bs.map V.bl) ∧ cm = true ∧ Q (.bl (bs.all id)) H) allD := fun A P H vs ds R Q ln dm q h k => by
  unfold allD at h
  split at h
  · obtain ⟨v, rfl, hv⟩ := pd1 q
    obtain ⟨bs, hb, hR⟩ := h
    rw [bools_eq hb] at hv
    obtain ⟨l, xs, rfl, e, qq⟩ := hv.list
    rw [das_bools qq] at e
    exact ⟨l, bs, rfl, SqL.of e, hc, k _ hR _ H (Same.refl H) (.bl _) frv_bl⟩
  · exact h.elim
@[irreducible] def minLD : List PyData → (PyData → Prop) → Prop
  | [.list ds], Q => ∃ ns, asInts ds = some ns ∧ 0 < ns.length ∧ ∀ m, m ∈ ns → (∀ y ∈ ns, m ≤ y) → Q (.int m)
  | _, _ => False
theorem cd_minL {K : PySem.W.Frag} : CallD (rMinM K) minLD := fun A P H vs ds R Q ln dm q h k => by
  unfold minLD at h
  split at h
  · obtain ⟨v, rfl, hv⟩ := pd1 q
    obtain ⟨bs, hb, h0, hR⟩ := h
    rw [ints_eq hb] at hv
    obtain ⟨l, xs, rfl, e, qq⟩ := hv.list
    rw [das_ints qq] at e
    exact ⟨l, bs, rfl, SqL.of e, h0, fun m h1 h2 => k _ (hR m h1 h2) _ H (Same.refl H) (.int _) frv_int⟩
  · exact h.elim
def tupleD : List PyData → (PyData → Prop) → Prop
  | [.list ds], Q => Q (.tuple ds)
  | [.tuple ds], Q => Q (.tuple ds)
  | _, _ => False
def listD : List PyData → (PyData → Prop) → Prop
  | [.list ds], Q => Q (.list ds)
  | [.tuple ds], Q => Q (.list ds)
  | _, _ => False
theorem cd_tuple {K : PySem.W.Frag} : CallD (rTupOfW K) tupleD := fun A P H vs ds R Q ln dm q h k => by
  unfold tupleD at h
  split at h
  · obtain ⟨v, rfl, hv⟩ := pd1 q
    obtain ⟨l, xs, rfl, e, qq⟩ := hv.list
    exact ⟨l, xs, rfl, .inl ⟨SqL.of e, fun l' H' s n e' => k _ h _ H' s (tup_da dm s e' qq) (frv_tup e')⟩⟩
  · obtain ⟨v, rfl, hv⟩ := pd1 q
    obtain ⟨l, xs, rfl, e, qq⟩ := hv.tuple
    exact ⟨l, xs, rfl, .inr ⟨SqT.of e, k _ h _ H (Same.refl H) (tup_da dm (Same.refl H) e qq) (frv_tup e)⟩⟩
  · exact h.elim
theorem cd_list {K : PySem.W.Frag} : CallD (rLstOfW K) listD := fun A P H vs ds R Q ln dm q h k => by
  unfold listD at h
  split at h
  · obtain ⟨v, rfl, hv⟩ := pd1 q
    obtain ⟨l, xs, rfl, e, qq⟩ := hv.list
    exact ⟨l, xs, rfl, .inl (SqL.of e), fun l' H' s n e' => k _ h _ H' s (new_da dm s n e' qq) (frv_new n)⟩
  · obtain ⟨v, rfl, hv⟩ := pd1 q
    obtain ⟨l, xs, rfl, e, qq⟩ := hv.tuple
    exact ⟨l, xs, rfl, .inr (SqT.of e), fun l' H' s n e' => k _ h _ H' s (new_da dm s n e' qq) (frv_new n)⟩
  · exact h.elim
end
end Dl
namespace Dl
open PySem PySem.Spec PyProof.Rows L2 _root_.Rd Rk
section
variable {X : Cx} {E : XK}
inductive Tn where | int | bool | str | tuple | list
def Tn.s : Tn → String
  | .int => "int"
  | .bool => "bool"
  | .str => "str"
  | .tuple => "tuple"
  | .list => "list"
def isT : Tn → PyData → Bool
  | .int, .int _ => true
  | .int, .bool _ => true
  | .bool, .bool _ => true
  | .str, .str _ => true
  | .tuple, .tuple _ => true
  | .list, .list _ => true
  | _, _ => false
theorem inst_dp {K : PySem.W.Frag} {A P : Addr → Prop} {H : Hp} {v : V} {d : PyData} (tn : Tn) (h : DP A P H v d) : ∃ t, TyOf K H v t ∧ PySem.W.kitOne K t (.type tn.s) = some (isT tn d) := by
  rcases h with h | ⟨l, xs, ds, rfl, rfl, _, e, q⟩
  · cases h with
    | non => exact ⟨_, .non, by cases tn <;> rfl⟩
    | bl b => exact ⟨_, .bl _, by cases tn <;> rfl⟩
    | int i => exact ⟨_, .int _, by cases tn <;> rfl⟩
    | str x c => exact ⟨_, .str _, by cases tn <;> rfl⟩
    | tup n e q => exact ⟨_, .tup e, by cases tn <;> rfl⟩
    | lst n e q => exact ⟨_, .lst e, by cases tn <;> rfl⟩
    | dct n e => exact ⟨_, .dK e, by cases tn <;> rfl⟩
  · exact ⟨_, .lst e, by cases tn <;> rfl⟩
def dInst (tn : Tn) (we : DE) : DE := fun δ Q EX => we δ (fun d => Q (.bool (isT tn d))) EX
theorem pd_inst {e f : Expr} {we : DE} {p pos : Pos} (tn : Tn) (hg : Gl X "isinstance") (hm : X.mg "isinstance" = none) (he : PE X e (tX .P X.K E we)) (hf : PE X f (tC (.ty tn.s))) (h1 : notStar e = true := by rfl) (h2 : notStar f = true := by rfl) :
    PE X (.Call (.Name "isinstance" p) [e, f] [] pos) (tX .F X.K E (dInst tn we)) := by
  refine PE.imp (pe_callB call_isinst hg hm bt_isinstance (pa_c he (pa_c hf pa_nil h2) h1) (he := star_of h1) (hpl := by rw [star_of h2]; rfl)) fun σ H Q ⟨F, δ, R, EX, rel, hw, k, o⟩ => ?_
  refine ⟨F, δ, _, EX, rel, hw, fun d hd v H' rel' kp vk => ?_, o⟩
  obtain ⟨t, ty, et⟩ := inst_dp (K := X.K) tn vk
  exact ⟨v, t, tn.s, _, rfl, ty, et, k _ hd _ H' rel' kp ⟨.bl _, frv_bl⟩⟩
theorem pb_ty {x : Str} {pos : Pos} (tn : Tn) (hg : Gl X x) (hm : X.mg x = none) (hv : bootBuiltins x = some (.type tn.s)) (hn : x ≠ "__name__" := by decide) (hd : (x == ("__debug__" : Str)) = false := by decide) : PE X (.Name x pos) (tC (.ty tn.s)) := pe_bltn (v := .ty tn.s) hg hm hv rfl hn hd
theorem PO.imp {e : Option Expr} {t t' : TO} (h : PO X e t) (i : ∀ σ H Q, t' σ H Q → t σ H Q) : PO X e t' := fun pins s σ H Q I q => h pins s σ H Q I (i σ H Q q)
abbrev DF := List Sl → (PyData → Prop) → XP → Prop
def Kq (pt : Addr → Prop) (H H' : Hp) : Prop := (∀ b o, ¬ pt b → H b = some o → H' b = some o) ∧ ∀ p, pt p → ∃ n, H' p = some (.lst [.int n])
def toSp (fr : Bool) (f : DF) : Sp := fun vs H Q Ex => ∃ (A pt : Addr → Prop) (args : List Sl) (R : PyData → Prop) (EX : XP), (∀ a, A a → ∃ xs, H a = some (.lst xs)) ∧ (∀ p, pt p → A p ∧ ∃ n, H p = some (.lst [.int n])) ∧ Paired (ArgOk A pt H) vs args ∧ f args R EX ∧
  (∀ d, R d → ∀ v H', Kq pt H H' → DA A H' v d → (fr = true → FrV H H' v) → Q v H') ∧ ∀ C, EX C → ∀ H', Kq pt H H' → Ex (.ref C) none H'
def sNil : DSl := fun _ Q _ => Q []
def sV (we : DE) (wr : DSl) : DSl := fun δ Q EX => we δ (fun d => wr δ (fun ds => Q (.v d :: ds)) EX) EX
def sPot (i : Nat) (wr : DSl) : DSl := fun δ Q EX => match δ[i]? with
  | some .pot => wr δ (fun ds => Q (.pot :: ds)) EX
  | _ => False
theorem pds_nil : PA X [] (tAs X.K E sNil) := PA.imp pa_nil fun σ H Q ⟨F, δ, R, EX, rel, hw, k, o⟩ => k [] hw [] H rel (Kp.refl rel) .nil
theorem pds_v {e : Expr} {es : List Expr} {we : DE} {wr : DSl} (he : PE X e (tX .D X.K E we)) (hr : PA X es (tAs X.K E wr)) (hs : notStar e = true := by rfl) : PA X (e :: es) (tAs X.K E (sV we wr)) := by
  refine PA.imp (pa_c he hr hs) fun σ H Q ⟨F, δ, R, EX, rel, hw, k, o⟩ => ?_
  refine ⟨F, δ, _, EX, rel, hw, fun d hd v H' rel' kp vk => ⟨F, δ, _, EX, rel', hd, fun ds hds vs H2 rel2 kp2 vks => ?_, o⟩, o⟩
  exact k _ hds (v :: vs) H2 rel2 (kp.trans kp2) (.cons (kp2.da vk) vks)
theorem pds_pot {e : Expr} {es : List Expr} {i : Nat} {wr : DSl} (he : PE X e (tVar i)) (hr : PA X es (tAs X.K E wr)) (hs : notStar e = true := by rfl) : PA X (e :: es) (tAs X.K E (sPot i wr)) := by
  refine PA.imp (pa_c he hr hs) fun σ H Q ⟨F, δ, R, EX, rel, hw, k, o⟩ => ?_
  unfold sPot at hw
  split at hw
  · rename_i hd
    obtain ⟨x, hx⟩ := rel.lt hd
    obtain ⟨p, n, rfl, e, q⟩ := rel.sl i _ _ hx hd
    refine ⟨.ref p, hx, F, δ, _, EX, rel, hw, fun ds hds vs H2 rel2 kp2 vks => ?_, o⟩
    exact k _ hds (.ref p :: vs) H2 rel2 kp2 (.cons ⟨p, rfl, i, hx, hd⟩ vks)
  · exact hw.elim
def dCall (f : DF) (wa : DSl) : DE := fun δ Q EX => wa δ (fun args => f args Q EX) EX
theorem Kq.kp {K : PySem.W.Frag} {F : Fm} {σ : L2.St} {δ : Sts} {H H' : Hp} (k : Kq (PotA σ δ) H H') : Kp σ δ H H' := k
theorem call_read {m : Md} {fr : Bool} {K : PySem.W.Frag} {f : DF} {wa : DSl} (hm : ∀ {F : Fm} {σ : L2.St} {δ : Sts} {H H' : Hp} {v : V} {d : PyData}, DA (Av F σ δ) H' v d → (fr = true → FrV H H' v) → Vok m F σ δ H H' v d) (σ : L2.St) (H : Hp) (Q : VK) (h : tX m K E (dCall f wa) σ H Q) : tCall (toSp fr f) [] E (tAs K E wa) σ H Q := by
  obtain ⟨F, δ, R, EX, rel, hw, k, o⟩ := h
  refine ⟨F, δ, _, EX, rel, hw, fun args ha vs H1 rel1 kp1 q => ?_, o⟩
  show toSp fr f (vs ++ []) H1 Q E
  rw [List.append_nil]
  refine ⟨Av F σ δ, PotA σ δ, args, R, EX, fun a ha => rel1.isl ha, fun p hp => ⟨pot_av hp, (Kp.refl rel1).2 p hp⟩, q, ha, fun d hd v H' kq dv fr => ?_, fun C hC H' kq => o C hC H' (rel1.kp kq).ke⟩
  exact k d hd v H' (rel1.kp kq) (kp1.trans kq) (hm dv fun z l e1 e2 => kp_none kp1 (fr z l e1 e2))
variable {CX : CXT} {k : Nat} {f : Addr} {fd : FuncData} {ps : List Str} {x : Str} {p pos : Pos} {e : Expr} {es : List Expr} {fD : DF} {wa : DSl}
theorem pd_call (G : FnOk X.prog X.w X.K X.mg X.base CX k f fd ps (toSp false fD)) (hr : Room k X.A) (hg : Gl X x) (hm : X.mg x = some (.ref f)) (hk : PySem.W.keepIn X.K (.ref f) = true) (hb : Binds X.K fd ps []) (hx : Passes CX X E)
    (ha : PA X (e :: es) (tAs X.K E wa)) (hdb : (x == ("__debug__" : Str)) = false := by decide) (he : starEach (e :: es) X.env = (false, eval e X.env) :: starEach es X.env := by rfl) (hpl : (backTo pos (starEach es X.env)).any (·.1) = false := by rfl) :
    PE X (.Call (.Name x p) (e :: es) [] pos) (tX .D X.K E (dCall fD wa)) := PE.imp (pe_call G hr hg hm hk hb .nil hx ha hdb he hpl) (call_read fun h _ => h)
theorem pd_callF (G : FnOk X.prog X.w X.K X.mg X.base CX k f fd ps (toSp true fD)) (hr : Room k X.A) (hg : Gl X x) (hm : X.mg x = some (.ref f)) (hk : PySem.W.keepIn X.K (.ref f) = true) (hb : Binds X.K fd ps []) (hx : Passes CX X E)
    (ha : PA X (e :: es) (tAs X.K E wa)) (hdb : (x == ("__debug__" : Str)) = false := by decide) (he : starEach (e :: es) X.env = (false, eval e X.env) :: starEach es X.env := by rfl) (hpl : (backTo pos (starEach es X.env)).any (·.1) = false := by rfl) :
    PE X (.Call (.Name x p) (e :: es) [] pos) (tX .F X.K E (dCall fD wa)) := PE.imp (pe_call G hr hg hm hk hb .nil hx ha hdb he hpl) (call_read fun h z => ⟨h, z rfl⟩)
def scal : PyData → Bool
  | .list _ => false
  | .tuple _ => false
  | .dict _ => false
  | _ => true
theorem scal_da {A A' : Addr → Prop} {H : Hp} {v : V} {d : PyData} (h : DA A H v d) (s : scal d = true) : DA A' H v d := by
  cases h with
  | non => exact .non
  | bl b => exact .bl b
  | int i => exact .int i
  | str x c => exact .str x c
  | tup _ _ _ => cases s
  | lst _ _ _ => cases s
  | dct _ _ => cases s
def Lent (P : Addr → Prop) (H : Hp) (vs : List V) (a : Addr) : Prop := V.ref a ∈ vs ∧ ¬ P a
theorem lent_args {A P : Addr → Prop} {H : Hp} (ws : List V) : ∀ {vs : List V} {ds : List PyData}, (∀ v ∈ vs, v ∈ ws) → Paired (VD .P A P H) vs ds → Paired (ArgOk (fun a => A a ∧ ¬ Lent P H ws a) (fun _ => False) H) vs (ds.map Sl.v)
  | _, _, _, .nil => .nil
  | v :: vs, d :: ds, m, .cons a b => by
    refine .cons ?_ (lent_args ws (fun v hv => m v (List.mem_cons_of_mem _ hv)) b)
    rcases a with a | ⟨l, xs, ds, rfl, rfl, n, e, q⟩
    · exact a.mv (fun _ _ _ e => e) fun a z => .inl z.1
    · exact .lst (fun z => z.2 ⟨m _ List.mem_cons_self, n⟩) e (q.mv (fun _ _ _ e => e) fun a z => .inl z.1)
end
end Dl
namespace Dl
open PySem PySem.Spec PyProof.Rows L2 _root_.Rd Rk
abbrev DG := PyData → Sts → (Sts → Prop) → Prop
def tG (ix : List Nat) (K : PySem.W.Frag) (w : DG) : TG := fun v σ H Q => ∃ (F : Fm) (δ : Sts) (d : PyData) (R : Sts → Prop), Rel K F σ H δ ∧ DA (Av F σ δ) H v d ∧ w d δ R ∧
  ∀ δ', R δ' → ∀ σ', Rel K F σ' H δ' → Stp F σ H δ σ' H δ' → σ'.length = σ.length → (∀ j, j ∉ ix → σ'[j]? = σ[j]?) → Q σ' H
theorem set_ne {α : Type} {l : List α} {i j : Nat} {x : α} (h : j ≠ i) : (l.set i x)[j]? = l[j]? := List.getElem?_set_ne (Ne.symm h)
theorem set_eq {α : Type} {l : List α} {i : Nat} {x y : α} (h : (l.set i x)[i]? = some y) : y = x := by
  rw [List.getElem?_set] at h
  simp only [if_true] at h
  split at h
  · exact (Option.some.inj h).symm
  · cases h
theorem av_set {F : Fm} {σ : L2.St} {δ : Sts} {i : Nat} {o : Option V} {d : PyData} {a : Addr} (h : Av F (σ.set i o) (δ.set i (.v d)) a) : Av F σ δ a := by
  rcases h with h | ⟨j, h1, h2⟩
  · exact .inl h
  · by_cases z : j = i
    · subst z
      rcases h2 with h2 | ⟨ds, h2⟩ <;> cases set_eq h2
    · rw [set_ne z] at h1 h2
      exact .inr ⟨j, h1, h2⟩
theorem Rel.setv {K : PySem.W.Frag} {F : Fm} {σ : L2.St} {H : Hp} {δ : Sts} (r : Rel K F σ H δ) {i : Nat} {v : V} {d : PyData} (q : DA (Av F σ δ) H v d) : Rel K F (σ.set i (some v)) H (δ.set i (.v d)) where
  len := by rw [List.length_set, List.length_set]; exact r.len
  dom := r.dom
  dom0 := r.dom0
  pt0 := r.pt0
  kx := r.kx
  sl := fun j o x h1 h2 => by
    have wk : ∀ {v : V} {d' : PyData}, DA (Av F σ δ) H v d' → DA (Av F (σ.set i (some v)) (δ.set i (.v d))) H v d' := fun h => h.mv (fun _ _ _ e => e) fun a z => .inl (av_set z)
    by_cases z : j = i
    · subst z
      cases set_eq h1
      cases set_eq h2
      exact ⟨v, rfl, q.mv (fun _ _ _ e => e) fun a z => .inl (av_set z)⟩
    · rw [set_ne z] at h1 h2
      have h := r.sl j o x h1 h2
      cases x with
      | no => trivial
      | v d => obtain ⟨v', e, q'⟩ := h; exact ⟨v', e, q'.mv (fun _ _ _ e => e) fun a z => .inl (av_set z)⟩
      | own ds => obtain ⟨l, xs, e, e2, q', f⟩ := h; exact ⟨l, xs, e, e2, q'.mv (fun _ _ _ e => e) fun a z => .inl (av_set z), f⟩
      | pk ds => obtain ⟨l, xs, e, e2, q', f⟩ := h; exact ⟨l, xs, e, e2, q'.mv (fun _ _ _ e => e) fun a z => .inl (av_set z), f⟩
      | pot => exact h
      | scr => exact h
  inj := fun j k a ds h1 h2 ⟨h3, h4⟩ => by
    by_cases z : j = i
    · subst z; cases set_eq h1
    · rw [set_ne z] at h1 h2
      by_cases z2 : k = i
      · subst z2
        rcases h4 with h4 | ⟨ds, h4⟩ <;> cases set_eq h4
      · rw [set_ne z2] at h3 h4
        exact r.inj j k a ds h1 h2 ⟨h3, h4⟩
theorem Stp.setv {F : Fm} {σ : L2.St} {H : Hp} {δ : Sts} {i : Nat} {o : Option V} {d : PyData} : Stp F σ H δ (σ.set i o) H (δ.set i (.v d)) := ⟨fun _ _ _ e => e, fun a z => .inl (av_set z)⟩
def gN (i : Nat) : DG := fun d δ Q => Q (δ.set i (.v d))
def setAll : Sts → List Nat → List PyData → Sts
  | δ, i :: is, d :: ds => setAll (δ.set i (.v d)) is ds
  | δ, _, _ => δ
def gTN (is : List Nat) : DG := fun d δ Q => match d with
  | .tuple ds => ds.length = is.length ∧ Q (setAll δ is ds)
  | _ => False
section
variable {X : Cx} {E : XK}
theorem PG.imp {e : Expr} {t t' : TG} (h : PG X e t) (i : ∀ v σ H Q, t' v σ H Q → t v σ H Q) : PG X e t' := fun pins s σ H v u Q I r q => h pins s σ H v u Q I r (i v σ H Q q)
theorem pdg_name {e : Expr} {i : Nat} (h : PG X e (gName i)) : PG X e (tG [i] X.K (gN i)) := PG.imp h fun v σ H Q ⟨F, δ, d, R, rel, dv, hw, k⟩ =>
  k _ hw _ (rel.setv dv) Stp.setv (List.length_set ..) fun j hj => set_ne fun z => hj (by rw [z]; exact List.mem_singleton.mpr rfl)
def gNs : List Nat → TGs
  | [] => gNil
  | i :: is => gCons (gName i) (gNs is)
theorem gns_read {K : PySem.W.Frag} {F : Fm} {H : Hp} {Q : L2.St → Hp → Prop} : ∀ (is : List Nat) (vs : List V) (ds : List PyData) (σ : L2.St) (δ : Sts), ds.length = is.length → Rel K F σ H δ → DAs (Av F σ δ) H vs ds →
    (∀ σ', Rel K F σ' H (setAll δ is ds) → Stp F σ H δ σ' H (setAll δ is ds) → σ'.length = σ.length → (∀ j, j ∉ is → σ'[j]? = σ[j]?) → Q σ' H) → gNs is vs σ H Q
  | [], vs, ds, σ, δ, hl, rel, q, k => by
    cases ds with
    | nil => cases q; exact ⟨rfl, k σ rel Stp.refl rfl fun _ _ => rfl⟩
    | cons d ds => cases hl
  | i :: is, vs, ds, σ, δ, hl, rel, q, k => by
    cases ds with
    | nil => cases hl
    | cons d ds =>
      cases q with
      | @cons v vs _ _ q qs =>
        refine ⟨v, vs, rfl, ?_⟩
        refine gns_read is vs ds _ _ (by simpa using hl) (rel.setv q) (qs.mv (fun _ _ _ e => e) fun a z => .inl (av_set z)) fun σ' r' st hl' hj => ?_
        refine k σ' r' (Stp.setv.trans st) (by rw [hl', List.length_set]) fun j hn => ?_
        rw [hj j (fun z => hn (List.mem_cons_of_mem _ z)), set_ne (fun z => hn (by rw [z]; exact List.mem_cons_self))]
theorem pdg_tup {e : Expr} {n : Nat} {is : List Nat} (h : PG X e (gTup X.K n (gNs is))) (hn : is.length = n := by rfl) : PG X e (tG is X.K (gTN is)) := PG.imp h fun v σ H Q ⟨F, δ, d, R, rel, dv, hw, k⟩ => by
  unfold gTN at hw
  split at hw
  · obtain ⟨hl, hR⟩ := hw
    cases dv with
    | @tup a xs ds na e q =>
      exact ⟨a, xs, rfl, SqT.of e, by rw [q.length, hl, hn], gns_read is xs _ σ δ hl rel q fun σ' r' st hl' hj => k _ hR σ' r' st hl' hj⟩
  · exact hw.elim
def ItD (A S : Addr → Prop) (J : It) (items : List PyData) (H1 : Hp) : Prop := items.length ≤ sizeLine ∧ ∀ (H2 : Hp) (A' : Addr → Prop), (∀ b o, S b → H1 b = some o → H2 b = some o) → (∀ b, A' b → A b ∨ H1 b = none) → (∀ a, A' a → ∃ xs, H2 a = some (.lst xs)) →
  (∀ (i : Nat) d, items[i]? = some d → J.go i H2 ∧ ∀ x H3, J.yld i H2 x H3 → Same H2 H3 ∧ DA A' H3 x d) ∧ J.stop items.length H2
def Sx (m : Md) (F : Fm) (σ : L2.St) (δ : Sts) (b : Addr) : Prop :=
  match m with
  | .P => ¬ PotA σ δ b
  | _ => ¬ Av F σ δ b
abbrev DI := Sts → (List PyData → Prop) → XP → Prop
def tI (m : Md) (K : PySem.W.Frag) (E : XK) (w : DI) : TI := fun σ H R => ∃ (F : Fm) (δ : Sts) (R' : List PyData → Prop) (EX : XP), Rel K F σ H δ ∧ w δ R' EX ∧ (∀ items, R' items → ∀ J H', Rel K F σ H' δ → Kp σ δ H H' → ItD (Av F σ δ) (Sx m F σ δ) J items H' → R J H') ∧ Out F E EX
theorem PI.imp {tg e : Expr} {t t' : TI} (h : PI X tg e t) (i : ∀ σ H R, LenOk H → t' σ H R → t σ H R) : PI X tg e t' := fun pins s σ H R I q => h pins s σ H R I (i σ H R (Inv.lens I) q)
theorem PI.len {tg e : Expr} {t : TI} (h : PI X tg e t) : PI X tg e (fun σ H R => t σ H fun J H1 => LenOk H1 → R J H1) := fun pins s σ H R I q => by
  refine thn (h pins s σ H _ I q) fun v s1 h1 => thn h1 fun itv s2 h2 => ?_
  obtain ⟨it, fp, tn, J, H', e, I', T, t0, fo, hR⟩ := h2
  exact ⟨it, fp, tn, J, H', e, I', T, t0, fo, hR (Inv.lens I')⟩
def dItL (w : DE) : DI := fun δ Q EX => w δ (fun d => match d with
  | .list ds => Q ds
  | _ => False) EX
theorem seq_stay {A S : Addr → Prop} {H H2 : Hp} {A' : Addr → Prop} {xs : List V} {ds : List PyData} (sA : ∀ b, ¬ A b → S b) (k : ∀ b o, S b → H b = some o → H2 b = some o) (m : ∀ b, A' b → A b ∨ H b = none) (q : DAs A H xs ds) : DAs A' H2 xs ds := q.mv (fun a o n e => k a o (sA a n) e) m
theorem itl_d {K : PySem.W.Frag} {A S : Addr → Prop} {H : Hp} {l : Addr} {xs : List V} {ds : List PyData} (sA : ∀ b, ¬ A b → S b) (sl : S l) (e : H l = some (.lst xs)) (q : DAs A H xs ds) (ln : xs.length ≤ sizeLine) : ItD A S (Itl K l) ds H := by
  refine ⟨by rw [← q.length]; exact ln, fun H2 A' k m dm => ⟨fun i d hd => ?_, xs, SqL.of (k _ _ sl e), by rw [q.length]; exact Nat.le_refl _⟩⟩
  obtain ⟨x, hx, dx⟩ := (seq_stay sA k m q).get i d hd
  refine ⟨⟨xs, x, SqL.of (k _ _ sl e), hx⟩, fun y H3 ⟨e3, hy⟩ => ?_⟩
  subst e3
  have := hy xs (SqL.of (k _ _ sl e))
  rw [hx] at this
  cases this
  exact ⟨Same.refl _, dx⟩
theorem sx_av {m : Md} {F : Fm} {σ : L2.St} {δ : Sts} {b : Addr} (h : ¬ Av F σ δ b) : Sx m F σ δ b := by
  cases m
  · exact h
  · exact fun z => h (pot_av z)
  · exact h
theorem stL {m : Md} {F : Fm} {σ : L2.St} {δ : Sts} {H H' : Hp} {v : V} {ds : List PyData} (h : VD m (Av F σ δ) (PotA σ δ) H v (.list ds)) : ∃ l xs, v = .ref l ∧ Sx m F σ δ l ∧ H l = some (.lst xs) ∧ DAs (Av F σ δ) H xs ds := by
  cases m
  · cases h with | @lst a xs _ n e q => exact ⟨a, xs, rfl, n, e, q⟩
  · rcases h with h | ⟨l, xs, ds', rfl, e, n, e2, q⟩
    · cases h with | @lst a xs _ n e q => exact ⟨a, xs, rfl, sx_av n, e, q⟩
    · cases e; exact ⟨l, xs, rfl, n, e2, q⟩
  · cases h with | @lst a xs _ n e q => exact ⟨a, xs, rfl, n, e, q⟩
theorem vok_vd {m : Md} {F : Fm} {σ : L2.St} {δ : Sts} {H H' : Hp} {v : V} {d : PyData} (h : Vok m F σ δ H H' v d) : VD m (Av F σ δ) (PotA σ δ) H' v d := by
  cases m
  · exact h
  · exact h
  · exact h.1
variable {m : Md} {tg e e' : Expr} {w w' : DE} {p pos tpos : Pos}
theorem pdi_list (h : PE X e (tX m X.K E w)) : PI X tg e (tI m X.K E (dItL w)) := by
  refine PI.imp (PI.len (pi_list h)) fun σ H R _ ⟨F, δ, R', EX, rel, hw, k, o⟩ => ?_
  refine ⟨F, δ, _, EX, rel, hw, fun d hd v H' rel' kp vk => ?_, o⟩
  cases d <;> first | exact (show False from hd).elim | skip
  obtain ⟨l, xs, rfl, sl, e, q⟩ := stL (H' := H') (vok_vd vk)
  exact ⟨l, rfl, ⟨xs, SqL.of e⟩, fun ln => k _ hd _ H' rel' kp (itl_d (fun b => sx_av) sl e q (ln _ _ (.inl e)))⟩
def rngD (lo : Int) (n : Nat) : List PyData := (List.range n).map fun (i : Nat) => .int (lo + i)
theorem rng_get {lo : Int} {n i : Nat} {d : PyData} (h : (rngD lo n)[i]? = some d) : i < n ∧ d = .int (lo + i) := by
  unfold rngD at h
  rw [List.getElem?_map] at h
  by_cases z : i < n
  · rw [List.getElem?_range z] at h
    exact ⟨z, (Option.some.inj h).symm⟩
  · rw [List.getElem?_eq_none (by rw [List.length_range]; omega)] at h
    cases h
theorem rng_len {lo : Int} {n : Nat} : (rngD lo n).length = n := by unfold rngD; rw [List.length_map, List.length_range]
theorem itr_d {A S : Addr → Prop} {H : Hp} {lo : Int} {n : Nat} (hn : n ≤ 1000000) : ItD A S (Itr lo n) (rngD lo n) H := by
  refine ⟨by rw [rng_len]; exact Nat.le_trans hn lineM, fun H2 A' k m dm => ⟨fun i d hd => ?_, by rw [rng_len]; exact Nat.le_refl _⟩⟩
  obtain ⟨hi, rfl⟩ := rng_get hd
  exact ⟨hi, fun x H3 ⟨e1, e2⟩ => by subst e1 e2; exact ⟨Same.refl _, .int _⟩⟩
def dRng1 (w : DE) : DI := fun δ Q EX => w δ (fun d => match d with
  | .int j => (-1000000 ≤ j ∧ j ≤ 1000000) ∧ Q (rngD 0 j.toNat)
  | _ => False) EX
def dRng2 (w w' : DE) : DI := fun δ Q EX => w δ (fun d => w' δ (fun d' => match d, d' with
  | .int i, .int j => (-1000000 ≤ i ∧ i ≤ 1000000 ∧ -1000000 ≤ j ∧ j ≤ 1000000 ∧ j - i ≤ 1000000) ∧ Q (rngD i (j - i).toNat)
  | _, _ => False) EX) EX
theorem pdi_rng1 (hg : Gl X "range") (hm : X.mg "range" = none) (h : PE X e (tX .P X.K E w)) (hs : notStar e = true := by rfl) : PI X tg (.Call (.Name "range" p) [e] [] pos) (tI m X.K E (dRng1 w)) := by
  refine PI.imp (pi_range1 hg hm (pa_c h pa_nil hs) (by rw [star_of hs]; rfl)) fun σ H R _ ⟨F, δ, R', EX, rel, hw, k, o⟩ => ?_
  refine ⟨F, δ, _, EX, rel, hw, fun d hd v H' rel' kp vk => ?_, o⟩
  cases d <;> first | exact (show False from hd).elim | skip
  obtain ⟨⟨h1, h2⟩, hR⟩ := hd
  rw [DP.int vk]
  exact ⟨_, rfl, by omega, by omega, k _ hR _ H' rel' kp (itr_d (by omega))⟩
theorem pdi_rng2 (hg : Gl X "range") (hm : X.mg "range" = none) (h : PE X e (tX .P X.K E w)) (h' : PE X e' (tX .P X.K E w')) (hs : notStar e = true := by rfl) (hs' : notStar e' = true := by rfl) : PI X tg (.Call (.Name "range" p) [e, e'] [] pos) (tI m X.K E (dRng2 w w')) := by
  refine PI.imp (pi_range2 hg hm (pa_c h (pa_c h' pa_nil hs') hs) (by rw [star_of hs, star_of hs']; rfl) (hs2 := by rw [star_of hs']; rfl)) fun σ H R _ ⟨F, δ, R', EX, rel, hw, k, o⟩ => ?_
  refine ⟨F, δ, _, EX, rel, hw, fun d hd v H1 rel1 kp1 vk => ⟨F, δ, _, EX, rel1, hd, fun d2 hd2 v2 H2 rel2 kp2 vk2 => ?_, o⟩, o⟩
  cases d <;> cases d2 <;> first | exact (show False from hd2).elim | skip
  obtain ⟨⟨h1, h2, h3, h4, h5⟩, hR⟩ := hd2
  rw [DP.int vk, DP.int vk2]
  exact ⟨_, _, rfl, ⟨by omega, by omega, by omega, by omega⟩, k _ hR _ H2 rel2 (kp1.trans kp2) (itr_d (by omega))⟩
theorem pair_da {A' : Addr → Prop} {H2 : Hp} {r : Addr} {x y : V} {d d' : PyData} (dm : ∀ a, A' a → ∃ xs, H2 a = some (.lst xs)) (n : H2 r = none) (q : DA A' H2 x d) (q' : DA A' H2 y d') : DA A' (upd H2 r (.tup [x, y])) (.ref r) (.tuple [d, d']) :=
  .tup (fun z => by obtain ⟨xs, e⟩ := dm r z; rw [n] at e; cases e) upd_same (.cons (q.same (same_upd n)) (.cons (q'.same (same_upd n)) .nil))
variable {elts : List Expr}
def zipD (ds es : List PyData) : List PyData := List.zipWith (fun d e => .tuple [d, e]) ds es
theorem zip_get {ds es : List PyData} {i : Nat} {d : PyData} (h : (zipD ds es)[i]? = some d) : ∃ a b, ds[i]? = some a ∧ es[i]? = some b ∧ d = .tuple [a, b] := by
  unfold zipD at h
  rw [List.getElem?_zipWith] at h
  cases h1 : ds[i]? with
  | none => rw [h1] at h; cases h
  | some a =>
    cases h2 : es[i]? with
    | none => rw [h1, h2] at h; cases h
    | some b => rw [h1, h2] at h; exact ⟨a, b, rfl, rfl, (Option.some.inj h).symm⟩
theorem zip_len {ds es : List PyData} : (zipD ds es).length = min ds.length es.length := by unfold zipD; rw [List.length_zipWith]
def dZiL (w w' : DE) : DI := fun δ Q EX => w δ (fun d => w' δ (fun d' => match d, d' with
  | .list ds, .list es => Q (zipD ds es)
  | _, _ => False) EX) EX
theorem pdi_zipL {x1} (hg : Gl X "zip") (hm : X.mg "zip" = none) (h : PE X e (tX m X.K E w)) (h' : PE X e' (tX m X.K E w')) (hs : notStar e = true := by rfl) (hs' : notStar e' = true := by rfl) : PI X (.Tuple elts x1 tpos) (.Call (.Name "zip" p) [e, e'] [] pos) (tI m X.K E (dZiL w w')) := by
  refine PI.imp (PI.len (pi_zipL hg hm (pa_c h (pa_c h' pa_nil hs') hs) (by rw [star_of hs, star_of hs']; rfl) (hs2 := by rw [star_of hs']; rfl))) fun σ H R _ ⟨F, δ, R', EX, rel, hw, k, o⟩ => ?_
  refine ⟨F, δ, _, EX, rel, hw, fun d hd v H1 rel1 kp1 vk => ⟨F, δ, _, EX, rel1, hd, fun d2 hd2 v2 H2 rel2 kp2 vk2 => ?_, o⟩, o⟩
  cases d <;> cases d2 <;> first | exact (show False from hd2).elim | skip
  obtain ⟨l, xs, rfl, sl, e, q⟩ := stL (H' := H2) (kp2.vd (vok_vd vk))
  obtain ⟨l2, ys, rfl, sl2, e2, q2⟩ := stL (H' := H2) (vok_vd vk2)
  refine ⟨l, l2, xs, ys, rfl, e, e2, fun ln => k _ hd2 _ H2 rel2 (kp1.trans kp2) ⟨?_, fun H3 A' kk mm dm => ⟨fun i d hd' => ?_, xs, ys, kk _ _ sl e, kk _ _ sl2 e2, by rw [zip_len, q.length, q2.length]; omega⟩⟩⟩
  · rw [zip_len, ← q.length]
    exact Nat.le_trans (Nat.min_le_left _ _) (ln _ _ (.inl e))
  obtain ⟨a, b, ha, hb, rfl⟩ := zip_get hd'
  obtain ⟨x, hx, dx⟩ := (seq_stay (S := Sx m F σ δ) (fun b => sx_av) kk mm q).get i a ha
  obtain ⟨y, hy, dy⟩ := (seq_stay (S := Sx m F σ δ) (fun b => sx_av) kk mm q2).get i b hb
  refine ⟨⟨xs, ys, x, y, kk _ _ sl e, kk _ _ sl2 e2, hx, hy⟩, fun z H4 ⟨r, x', y', nr, hx', hy', e1, e3⟩ => ?_⟩
  subst e1 e3
  have h1 := hx' xs (kk _ _ sl e)
  have h2 := hy' ys (kk _ _ sl2 e2)
  rw [hx] at h1
  rw [hy] at h2
  cases h1
  cases h2
  exact ⟨same_upd nr, pair_da dm nr dx dy⟩
end
end Dl
namespace Dl
open PySem PySem.Spec PyProof.Rows L2 _root_.Rd Rk
def capSl : Option Sl → Sl
  | some (.v d) => .v d
  | some (.own ds) => .pk ds
  | some (.pk ds) => .pk ds
  | some .pot => .pot
  | _ => .no
def capD (cap : List (Option Nat)) (δ : Sts) : Sts := cap.map fun o => match o with
  | none => .no
  | some j => capSl δ[j]?
theorem capS_get {cap : List (Option Nat)} {σ : L2.St} {i : Nat} {o : Option V} (h : (capS cap σ)[i]? = some o) : (cap[i]? = some none ∧ o = none) ∨ ∃ j, cap[i]? = some (some j) ∧ o = (σ[j]?).getD none := by
  unfold capS at h
  rw [List.getElem?_map] at h
  obtain ⟨c, hc, rfl⟩ := Option.map_eq_some_iff.mp h
  cases c with
  | none => exact .inl ⟨hc, rfl⟩
  | some j => exact .inr ⟨j, hc, rfl⟩
theorem capD_get {cap : List (Option Nat)} {δ : Sts} {i : Nat} {x : Sl} (h : (capD cap δ)[i]? = some x) : (cap[i]? = some none ∧ x = .no) ∨ ∃ j, cap[i]? = some (some j) ∧ x = capSl δ[j]? := by
  unfold capD at h
  rw [List.getElem?_map] at h
  obtain ⟨c, hc, rfl⟩ := Option.map_eq_some_iff.mp h
  cases c with
  | none => exact .inl ⟨hc, rfl⟩
  | some j => exact .inr ⟨j, hc, rfl⟩
theorem cap_both {cap : List (Option Nat)} {σ : L2.St} {δ : Sts} {i : Nat} {o : Option V} {x : Sl} (h1 : (capS cap σ)[i]? = some o) (h2 : (capD cap δ)[i]? = some x) (hx : x ≠ .no) : ∃ (j : Nat) (y : Sl), δ[j]? = some y ∧ x = capSl (some y) ∧ o = (σ[j]?).getD none := by
  rcases capD_get h2 with ⟨_, e⟩ | ⟨j, hj, e⟩
  · exact absurd e hx
  · rcases capS_get h1 with ⟨z, _⟩ | ⟨j', hj', e'⟩
    · rw [hj] at z; cases z
    · rw [hj] at hj'
      cases hj'
      cases e2 : δ[j]? with
      | none => rw [e2] at e; exact absurd e hx
      | some y => exact ⟨j, y, e2, by rw [e, e2], e'⟩
theorem cap_pot {cap : List (Option Nat)} {σ : L2.St} {δ : Sts} {a : Addr} (h : PotA (capS cap σ) (capD cap δ) a) : PotA σ δ a := by
  obtain ⟨i, h1, h2⟩ := h
  obtain ⟨j, y, hy, e, eo⟩ := cap_both h1 h2 (fun z => by cases z)
  cases y <;> first | (cases e; done) | skip
  refine ⟨j, ?_, hy⟩
  cases e2 : σ[j]? with
  | none => rw [e2] at eo; cases eo
  | some o' => rw [e2] at eo; exact congrArg some eo.symm
def inF (A1 : Addr → Prop) (cap : List (Option Nat)) (σ : L2.St) (δ : Sts) (H : Hp) : Fm := ⟨H, A1, PotA (capS cap σ) (capD cap δ)⟩
theorem inF_av {A1 : Addr → Prop} {cap : List (Option Nat)} {σ : L2.St} {δ : Sts} {H : Hp} (h : ∀ a, PotA σ δ a → A1 a) {a : Addr} : Av (inF A1 cap σ δ H) (capS cap σ) (capD cap δ) a ↔ A1 a := by
  constructor
  · rintro (z | ⟨i, h1, h2⟩)
    · exact z
    · rcases h2 with h2 | ⟨ds, h2⟩
      · exact h a (cap_pot ⟨i, h1, h2⟩)
      · obtain ⟨j, y, hy, e, eo⟩ := cap_both h1 h2 (fun z => by cases z)
        cases y <;> cases e
  · exact .inl
theorem in_rel {K : PySem.W.Frag} {F : Fm} {σ : L2.St} {δ : Sts} {H1 H3 : Hp} {A1 : Addr → Prop} {cap : List (Option Nat)} (rel : Rel K F σ H1 δ) (hA : ∀ a, Av F σ δ a → A1 a) (hN : ∀ a, A1 a → Av F σ δ a ∨ H1 a = none)
    (dm : ∀ a, A1 a → ∃ xs, H3 a = some (.lst xs)) (kp : Kp σ δ H1 H3) : Rel K (inF A1 cap σ δ H3) (capS cap σ) H3 (capD cap δ) where
  len := by unfold capS capD; rw [List.length_map, List.length_map]
  dom := dm
  dom0 := dm
  pt0 := fun p hp => ⟨hA p (pot_av (cap_pot hp)), kp.2 p (cap_pot hp)⟩
  kx := fun b o _ e => e
  sl := fun i o x h1 h2 => by
    have iv : ∀ {a : Addr}, Av (inF A1 cap σ δ H3) (capS cap σ) (capD cap δ) a → A1 a := fun {a} => (inF_av fun a z => hA a (pot_av z)).mp
    have mv : ∀ {v : V} {d : PyData}, DA (Av F σ δ) H1 v d → DA (Av (inF A1 cap σ δ H3) (capS cap σ) (capD cap δ)) H3 v d := fun q => q.mv (fun a o n e => kp.1 a o (fun z => n (pot_av z)) e) fun a z => hN a (iv z)
    have mvs : ∀ {v : List V} {d : List PyData}, DAs (Av F σ δ) H1 v d → DAs (Av (inF A1 cap σ δ H3) (capS cap σ) (capD cap δ)) H3 v d := fun q => q.mv (fun a o n e => kp.1 a o (fun z => n (pot_av z)) e) fun a z => hN a (iv z)
    cases x with
    | no => trivial
    | own ds =>
      obtain ⟨j, y, hy, e, eo⟩ := cap_both h1 h2 (fun z => by cases z)
      cases y <;> cases e
    | scr =>
      obtain ⟨j, y, hy, e, eo⟩ := cap_both h1 h2 (fun z => by cases z)
      cases y <;> cases e
    | v d =>
      obtain ⟨j, y, hy, e, eo⟩ := cap_both h1 h2 (fun z => by cases z)
      cases y <;> first | (cases e; done) | skip
      cases e
      obtain ⟨x, hx⟩ := rel.lt hy
      obtain ⟨v, rfl, q⟩ := rel.sl j _ _ hx hy
      rw [hx] at eo
      exact ⟨v, eo, mv q⟩
    | pk ds =>
      obtain ⟨j, y, hy, e, eo⟩ := cap_both h1 h2 (fun z => by cases z)
      cases y <;> first | (cases e; done) | skip
      · cases e
        obtain ⟨x, hx⟩ := rel.lt hy
        obtain ⟨l, xs, rfl, e, q, f⟩ := rel.sl j _ _ hx hy
        rw [hx] at eo
        have np := rel.own_pot hy hx
        exact ⟨l, xs, eo, kp.1 _ _ np e, mvs q, xs, kp.1 _ _ np e, fun z => np (cap_pot z)⟩
      · cases e
        obtain ⟨x, hx⟩ := rel.lt hy
        obtain ⟨l, xs, rfl, e, q, ys, f, f2⟩ := rel.sl j _ _ hx hy
        rw [hx] at eo
        have np : ¬ PotA σ δ l := by
          rintro ⟨j, j1, j2⟩
          obtain ⟨p, m, e1, _, w⟩ := rel.sl j _ _ j1 j2
          cases e1
          rcases w with w | w
          · exact f2 w
          · rw [w] at f; cases f
        exact ⟨l, xs, eo, kp.1 _ _ np e, mvs q, xs, kp.1 _ _ np e, fun z => np (cap_pot z)⟩
    | pot =>
      obtain ⟨j, y, hy, e, eo⟩ := cap_both h1 h2 (fun z => by cases z)
      cases y <;> first | (cases e; done) | skip
      obtain ⟨x, hx⟩ := rel.lt hy
      obtain ⟨p, n, rfl, e, q⟩ := rel.sl j _ _ hx hy
      rw [hx] at eo
      obtain ⟨m, em⟩ := kp.2 p ⟨j, hx, hy⟩
      have eo' : o = some (.ref p) := eo
      subst eo'
      exact ⟨p, m, rfl, em, .inl ⟨i, h1, h2⟩⟩
  inj := fun i j a ds h1 h2 _ => by
    obtain ⟨j, y, hy, e, eo⟩ := cap_both h2 h1 (fun z => by cases z)
    cases y <;> cases e
theorem wk_of : ∀ {σ σ' : L2.St}, σ'.length = σ.length → (∀ (i : Nat) v, σ[i]? = some (some v) → σ'[i]? = some (some v)) → Wk σ σ'
  | [], [], _, _ => trivial
  | [], _ :: _, h, _ => by cases h
  | _ :: _, [], h, _ => by cases h
  | none :: a, x :: b, h, g => wk_of (σ := a) (σ' := b) (by simpa using h) fun i v e => by simpa using g (i + 1) v (by simpa using e)
  | some u :: a, x :: b, h, g => by
    have h0 := g 0 u rfl
    simp only [List.getElem?_cons_zero, Option.some.injEq] at h0
    subst h0
    exact ⟨rfl, wk_of (σ := a) (σ' := b) (by simpa using h) fun i v e => by simpa using g (i + 1) v (by simpa using e)⟩
def freeT (cap : List (Option Nat)) (ix : List Nat) : Bool := ix.all fun i => match cap[i]? with
  | some none => true
  | _ => false
theorem cap_wk {cap : List (Option Nat)} {ix : List Nat} (hf : freeT cap ix = true) {σ σ4 : L2.St} (hl : σ4.length = (capS cap σ).length) (hj : ∀ j, j ∉ ix → σ4[j]? = (capS cap σ)[j]?) : Wk (capS cap σ) σ4 := by
  refine wk_of hl fun i v e => ?_
  by_cases z : i ∈ ix
  · have := List.all_eq_true.mp hf i z
    rcases capS_get e with ⟨_, e2⟩ | ⟨j, hj2, _⟩
    · cases e2
    · rw [hj2] at this; cases this
  · rw [hj i z]; exact e
def XF : XP := fun _ => False
@[irreducible] def CompR (items : List PyData) (wg : DG) (wt : DT) (we : DE) (δ : Sts) (Q : PyData → Prop) : Prop := ∃ Iv : Nat → List PyData → Prop, Iv 0 [] ∧
  (∀ (i : Nat) acc d, items[i]? = some d → Iv i acc → wg d δ fun δ4 => wt δ4 (fun b => if b = true then we δ4 (fun e => Iv (i + 1) (acc ++ [e])) XF else Iv (i + 1) acc) XF) ∧ ∀ acc, Iv items.length acc → Q (.list acc)
def dComp (cap : List (Option Nat)) (wi : DI) (wg : DG) (wt : DT) (we : DE) : DE := fun δ Q EX => wi δ (fun items => CompR items wg wt we (capD cap δ) Q) EX
def dNoT : DT := fun _ Q _ => Q true
section
variable {X : Cx} {E : XK}
theorem outF {F : Fm} {E : XK} : Out F E XF := fun _ z => z.elim
theorem PTs.imp {es : List Expr} {t t' : TT} (h : PTs X es t) (i : ∀ σ H Q, t' σ H Q → t σ H Q) : PTs X es t' := fun pins s σ H Q I q => h pins s σ H Q I (i σ H Q q)
theorem pdts_nil : PTs X [] (tT X.K E dNoT) := PTs.imp pts_nil fun σ H Q ⟨F, δ, R, EX, rel, hw, k, o⟩ => k _ hw H rel (Kp.refl rel)
theorem pdts_one {c : Expr} {t : DT} (h : PT X c (tT X.K E t)) : PTs X [c] (tT X.K E t) := pts_one h
theorem in_pots {K : PySem.W.Frag} {A1 : Addr → Prop} {cap : List (Option Nat)} {σ σ4 : L2.St} {δ δ4 : Sts} {H3 H4 : Hp} (r : Rel K (inF A1 cap σ δ H3) σ4 H4 δ4) (hk : ∀ b o, ¬ PotA σ δ b → H4 b = some o → H3 b = none → False) {b : Addr} (h : PotA σ4 δ4 b) : PotA σ δ b := by
  obtain ⟨i, h1, h2⟩ := h
  obtain ⟨p, n, e, hp, w⟩ := r.sl i _ _ h1 h2
  cases e
  rcases w with w | w
  · exact cap_pot w
  · by_cases z : PotA σ δ b
    · exact z
    · exact (hk b _ z hp w).elim
theorem turn_in {K : PySem.W.Frag} {F : Fm} {σ : L2.St} {δ : Sts} {H1 H3 : Hp} {cap : List (Option Nat)} {ix : List Nat} {wg : DG} {wt : DT} {A1 : Addr → Prop} {x : V} {d : PyData} {inner : L2.St → Hp → (Hp → Prop) → Prop} {kk : Hp → Prop} {T : Sts → Prop} {N : Prop}
    (hf : freeT cap ix = true) (rel : Rel K F σ H1 δ) (hA : ∀ a, Av F σ δ a → A1 a) (hN : ∀ a, A1 a → Av F σ δ a ∨ H1 a = none) (dm : ∀ a, A1 a → ∃ xs, H3 a = some (.lst xs)) (kp : Kp σ δ H1 H3) (dx : DA A1 H3 x d)
    (h : wg d (capD cap δ) fun δ4 => wt δ4 (fun b => if b = true then T δ4 else N) XF)
    (hT : ∀ σ4 δ4 H5, T δ4 → Rel K (inF A1 cap σ δ H3) σ4 H5 δ4 → Kp σ δ H3 H5 → (∀ b, PotA σ4 δ4 b → PotA σ δ b) → inner σ4 H5 kk) (hF : N → ∀ H5, Kp σ δ H3 H5 → kk H5) :
    bOf (capS cap σ) (tG ix K wg) (tT K E0 wt) inner x H3 kk := by
  have ri := in_rel (cap := cap) rel hA hN dm kp
  have iv : ∀ {a : Addr}, Av (inF A1 cap σ δ H3) (capS cap σ) (capD cap δ) a → A1 a := fun {a} => (inF_av fun a z => hA a (pot_av z)).mp
  refine ⟨inF A1 cap σ δ H3, capD cap δ, d, _, ri, dx.mv (fun _ _ _ e => e) fun a z => .inl (iv z), h, fun δ4 h4 σ4 r4 st4 l4 j4 => ⟨cap_wk hf l4 j4, inF A1 cap σ δ H3, δ4, _, XF, r4, h4, fun b hb H5 r5 kp5 => ?_, outF⟩⟩
  have pots : ∀ {b : Addr}, PotA σ4 δ4 b → PotA σ δ b := fun z => in_pots r4 (fun b o _ e1 e2 => by rw [e2] at e1; cases e1) z
  have K5 : Kp σ δ H3 H5 := by
    refine ⟨fun b o n e => kp5.1 b o (fun z => n (pots z)) e, fun b hb => ?_⟩
    by_cases z : PotA σ4 δ4 b
    · exact kp5.2 b z
    · obtain ⟨n, e⟩ := kp.2 b hb
      exact ⟨n, kp5.1 _ _ z e⟩
  exact if_imp hb (fun z => hT σ4 δ4 H5 z r5 K5 fun b => pots) fun z => hF z H5 K5
structure Lp (σ : L2.St) (δ : Sts) (A1 : Addr → Prop) (p : Addr) (H1 H2 : Hp) (acc : List PyData) : Prop where
  kp : Kp σ δ H1 H2
  at_ : ∃ ys, H2 p = some (.lst ys) ∧ DAs A1 H2 ys acc
theorem Lp.step {σ : L2.St} {δ : Sts} {A1 : Addr → Prop} {p : Addr} {H1 H2 H3 : Hp} {acc : List PyData} (hpA : ∀ a, PotA σ δ a → A1 a) (hpn : ¬ PotA σ δ p) (h : Lp σ δ A1 p H1 H2 acc) (k : Kp σ δ H2 H3) : Lp σ δ A1 p H1 H3 acc := by
  obtain ⟨ys, e, q⟩ := h.at_
  exact ⟨h.kp.trans k, ys, k.1 _ _ hpn e, q.mv (fun a o n e => k.1 a o (fun z => n (hpA a z)) e) fun a z => .inl z⟩
theorem elt_in {K : PySem.W.Frag} {σ σ4 : L2.St} {δ δ4 : Sts} {H1 H3 H5 : Hp} {cap : List (Option Nat)} {we : DE} {A1 : Addr → Prop} {p : Addr} {acc : List PyData} {kk : Hp → Prop} {G : PyData → Prop}
    (hpA : A1 p) (hP : ∀ a, PotA σ δ a → A1 a) (hp1 : H1 p = none) (hpn : ¬ PotA σ δ p) (lp : Lp σ δ A1 p H1 H5 acc) (hl : acc.length < sizeLine) (r5 : Rel K (inF A1 cap σ δ H3) σ4 H5 δ4) (pots : ∀ b, PotA σ4 δ4 b → PotA σ δ b)
    (h : we δ4 G XF) (hk : ∀ e, G e → ∀ H', Lp σ δ A1 p H1 H' (acc ++ [e]) → kk H') : bElt p (tX .D K E0 we) σ4 H5 kk := by
  refine ⟨inF A1 cap σ δ H3, δ4, G, XF, r5, h, fun e he v H6 r6 kp6 dv => ?_, outF⟩
  have k56 : Kp σ δ H5 H6 := by
    refine ⟨fun b o n e => kp6.1 b o (fun z => n (pots b z)) e, fun b hb => ?_⟩
    by_cases z : PotA σ4 δ4 b
    · exact kp6.2 b z
    · obtain ⟨n, e⟩ := lp.kp.2 b hb
      exact ⟨n, kp6.1 _ _ z e⟩
  obtain ⟨k6, ys, e6, q6⟩ := lp.step hP hpn k56
  have up : ∀ {b : Addr} {o : HO}, ¬ A1 b → H6 b = some o → upd H6 p (.lst (ys ++ [v])) b = some o := fun {b o} n e => by rw [upd_ne (fun z => n (by rw [z]; exact hpA))]; exact e
  refine ⟨ys, e6, by rw [q6.length]; exact hl, hk e he _ ⟨⟨fun b o n e => ?_, fun b hb => ?_⟩, ys ++ [v], upd_same, DAs.app (q6.mv (fun _ _ => up) fun a z => .inl z) (.cons (DA.mv dv (fun a o n e => up (fun z => n (.inl z)) e) fun a z => .inl (.inl z)) .nil)⟩⟩
  · rw [upd_ne (fun z => by rw [z, hp1] at e; cases e)]
    exact k6.1 b o n e
  · rw [upd_ne (fun z => hpn (by rw [← z]; exact hb))]
    exact k6.2 b hb
theorem pd_comp {M : List Str} {cap : List (Option Nat)} {elt tg iter : Expr} {ifs : List Expr} {scope : Scope} {pos : Pos} {ix : List Nat} {wi : DI} {wg : DG} {wt : DT} {we : DE} (hc : X.calm = true) (ok : capOk X.N X.env.scope M scope cap = true) (hf : freeT cap ix = true)
    (hi : PI X tg iter (tI .P X.K E wi)) (hb : ∀ cl ex s3 H3 C, PG (blk X M scope cl ex s3 H3 C) tg (tG ix X.K wg) ∧ PTs (blk X M scope cl ex s3 H3 C) ifs (tT X.K E0 wt) ∧ PE (blk X M scope cl ex s3 H3 C) elt (tX .D X.K E0 we))
    (hs : ∀ x, foldedSetIterable iter X.env x = pure x := by intro _; rfl) : PE X (.ListComp elt [⟨tg, iter, ifs, 0⟩] scope pos) (tX .F X.K E (dComp cap wi wg wt we)) := by
  refine PE.imp (pe_lcomp hc ok hi hb hs) fun σ H Q ⟨F, δ, R, EX, rel, hw, k, o⟩ => ?_
  refine ⟨F, δ, _, EX, rel, hw, fun items hC J H1 rel1 kp1 ⟨ln, it⟩ p hp => ?_, o⟩
  unfold CompR at hC
  obtain ⟨Iv, i0, step, fin⟩ := hC
  have hpn : ¬ PotA σ δ p := fun z => by obtain ⟨xs, e⟩ := rel1.isl (pot_av (F := F) z); rw [hp] at e; cases e
  let A1 : Addr → Prop := fun a => Av F σ δ a ∨ a = p
  have hP : ∀ a, PotA σ δ a → A1 a := fun a z => .inl (pot_av z)
  have hN : ∀ a, A1 a → Av F σ δ a ∨ H1 a = none := fun a z => z.elim .inl fun z => .inr (by rw [z]; exact hp)
  have dmK : ∀ {H2 : Hp}, Kp σ δ H1 H2 → (∃ ys, H2 p = some (.lst ys)) → ∀ a, A1 a → ∃ xs, H2 a = some (.lst xs) := fun {H2} k2 e2 a z => by
    rcases z with z | z
    · exact (rel1.kp k2).isl z
    · rw [z]; exact e2
  refine loop_by items.length (fun i H2 => i ≤ items.length ∧ ∃ acc, Iv i acc ∧ acc.length ≤ i ∧ Lp σ δ A1 p H1 H2 acc) ⟨Nat.zero_le _, [], i0, Nat.le_refl _, Kp.same rel1 (same_upd hp), [], upd_same, .nil⟩ (fun i H2 hi ⟨_, acc, iv, hl, lp⟩ => ?_) fun H2 ⟨_, acc, iv, hl, lp⟩ => ?_
  · obtain ⟨k2, ys, e2, q2⟩ := lp
    obtain ⟨go, _⟩ := it H2 A1 (fun b o n e => k2.1 b o n e) hN (dmK k2 ⟨ys, e2⟩)
    have hd : items[i]? = some items[i] := List.getElem?_eq_getElem hi
    obtain ⟨g1, g2⟩ := go i _ hd
    refine ⟨g1, fun x H3 y kk hk => ?_⟩
    obtain ⟨s3, dx⟩ := g2 x H3 y
    have k23 := Kp.same (rel1.kp k2) s3
    have lp3 : Lp σ δ A1 p H1 H3 acc := Lp.step hP hpn ⟨k2, ys, e2, q2⟩ k23
    refine turn_in hf rel1 (fun a z => .inl z) hN (dmK lp3.kp ⟨ys, s3 _ _ e2⟩) lp3.kp dx (step i acc _ hd iv) (fun σ4 δ4 H5 h5 r5 k5 pots => ?_) fun h5 H5 k5 => hk _ ⟨hi, acc, h5, by omega, lp3.step hP hpn k5⟩
    exact elt_in (.inr rfl) hP hp hpn (lp3.step hP hpn k5) (by omega) r5 pots h5 fun e he H' lp' => hk _ ⟨hi, acc ++ [e], he, by rw [List.length_append]; show _ + 1 ≤ _; omega, lp'⟩
  · obtain ⟨k2, ys, e2, q2⟩ := lp
    obtain ⟨_, st⟩ := it H2 A1 (fun b o n e => k2.1 b o n e) hN (dmK k2 ⟨ys, e2⟩)
    refine ⟨st, k _ (fin acc iv) (.ref p) H2 (rel1.kp k2) (kp1.trans k2) ⟨.lst (fun z => ?_) e2 (q2.mv (fun _ _ _ e => e) fun a z => .inl (.inl z)), fun l e1 _ => ?_⟩⟩
    · obtain ⟨xs, e⟩ := rel1.isl z
      rw [hp] at e; cases e
    · cases e1
      exact kp_none kp1 hp
theorem cm_map {items : List PyData} {wg : DG} {we : DE} {δ : Sts} {Q : PyData → Prop} (G : PyData → PyData)
    (h : ∀ d ∈ items, ∀ (k2 : PyData → Prop), k2 (G d) → wg d δ fun δ4 => we δ4 k2 XF) (q : Q (.list (items.map G))) :
    CompR items wg dNoT we δ Q := by
  unfold CompR
  refine ⟨fun i acc => acc = (items.take i).map G, by simp, fun i acc d hd e => ?_, fun acc e => by rw [e, List.take_length]; exact q⟩
  have hs : (items.take (i + 1)).map G = (items.take i).map G ++ [G d] := by
    rw [List.take_add_one, hd, List.map_append]
    simp
  have e : acc = (items.take i).map G := e
  have hh := h d (List.mem_of_getElem? hd) (fun e => acc ++ [e] = (items.take (i + 1)).map G) (by show acc ++ [G d] = _; rw [hs, e])
  simp only [dNoT, if_true]
  exact hh
end
end Dl
namespace Dl
open PySem PySem.Spec PyProof.Rows L2 _root_.Rd Rk
mutual
theorem da_uniq {A B : Addr → Prop} {H : Hp} : ∀ (d d' : PyData) (x : V), DA A H x d → DA B H x d' → d = d'
  | .none, d', _, .non, h => by cases h; rfl
  | .bool _, d', _, .bl _, h => by cases h; rfl
  | .int _, d', _, .int _, h => by cases h; rfl
  | .str _, d', _, .str _ _, h => by cases h; rfl
  | .tuple ds, d', _, .tup (xs := xs) n e q, h => by
    cases h with
    | @tup a ys es n' e' q' =>
      rw [e] at e'
      cases e'
      rw [das_uniq ds es xs q q']
    | @lst a ys es n' e' q' => rw [e] at e'; cases e'
    | @dct a n' e' => rw [e] at e'; cases e'
  | .list ds, d', _, .lst (xs := xs) n e q, h => by
    cases h with
    | @tup a ys es n' e' q' => rw [e] at e'; cases e'
    | @lst a ys es n' e' q' =>
      rw [e] at e'
      cases e'
      rw [das_uniq ds es xs q q']
    | @dct a n' e' => rw [e] at e'; cases e'
  | .dict _, d', _, .dct n e, h => by
    cases h with
    | @tup a ys es n' e' q' => rw [e] at e'; cases e'
    | @lst a ys es n' e' q' => rw [e] at e'; cases e'
    | @dct a n' e' => rfl
theorem das_uniq {A B : Addr → Prop} {H : Hp} : ∀ (ds es : List PyData) (xs : List V), DAs A H xs ds → DAs B H xs es → ds = es
  | [], es, _, .nil, h => by cases h; rfl
  | d :: ds, es, _, .cons q qs, h => by
    cases h with
    | @cons x xs e es q' qs' => rw [da_uniq d e _ q q', das_uniq ds es _ qs qs']
end
mutual
theorem da_off {A : Addr → Prop} {H : Hp} {l : Addr} {rs : List PyData} (root : DA A H (.ref l) (.list rs)) : ∀ (d : PyData) (x : V), sizeOf d < sizeOf (PyData.list rs) → DA A H x d → DA (fun a => A a ∨ a = l) H x d
  | .none, _, _, .non => .non
  | .bool _, _, _, .bl _ => .bl _
  | .int _, _, _, .int _ => .int _
  | .str _, _, _, .str _ c => .str _ c
  | .tuple ds, _, hs, .tup (a := a) (xs := xs) n e q => .tup (fun z => z.elim n fun z => by subst z; cases root with | @lst _ ys _ n' e' q' => (rw [e] at e'; cases e')) e (das_off root ds xs (by simp at hs ⊢; omega) q)
  | .list ds, _, hs, .lst (a := a) (xs := xs) n e q => .lst (fun z => z.elim n fun z => by
      subst z
      have := da_uniq _ _ _ root (.lst n e q)
      rw [this] at hs
      omega) e (das_off root ds xs (by simp at hs ⊢; omega) q)
  | .dict _, _, hs, .dct (a := a) n e => .dct (fun z => z.elim n fun z => by subst z; cases root with | @lst _ ys _ n' e' q' => (rw [e] at e'; cases e')) e
theorem das_off {A : Addr → Prop} {H : Hp} {l : Addr} {rs : List PyData} (root : DA A H (.ref l) (.list rs)) : ∀ (ds : List PyData) (xs : List V), sizeOf ds < sizeOf (PyData.list rs) → DAs A H xs ds → DAs (fun a => A a ∨ a = l) H xs ds
  | [], _, _, .nil => .nil
  | d :: ds, _, hs, .cons q qs => .cons (da_off root d _ (by simp at hs ⊢; omega) q) (das_off root ds _ (by simp at hs ⊢; omega) qs)
end
theorem DA.items {A : Addr → Prop} {H : Hp} {l : Addr} {ds : List PyData} (root : DA A H (.ref l) (.list ds)) : ∃ xs, H l = some (.lst xs) ∧ DAs (fun a => A a ∨ a = l) H xs ds := by
  have root' := root
  cases root with
  | @lst _ xs _ n e q => exact ⟨xs, e, das_off root' ds xs (by simp) q⟩
structure DEnds where
  nx : Sts → Prop
  rt : PyData → Prop
  rtF : PyData → Prop
  bk : Sts → Prop
  ct : Sts → Prop
  ex : XP
abbrev DS := DEnds → Sts → Prop
structure Nx (K : PySem.W.Frag) (F : Fm) (σ : L2.St) (H : Hp) (δ : Sts) (R : Sts → Prop) (T : L2.St → Hp → Prop) : Prop where
  go : ∀ δ', R δ' → ∀ σ' H', Rel K F σ' H' δ' → Stp F σ H δ σ' H' δ' → T σ' H'
structure Ends1 (K : PySem.W.Frag) (E : XK) (F : Fm) (σ : L2.St) (H : Hp) (δ : Sts) (DD : DEnds) (D : Ends) : Prop where
  nx : Nx K F σ H δ DD.nx D.nx
  rt : ∀ d, DD.rt d → ∀ v H', Ke F H' → DA F.A0 H' v d → D.rt v H'
  rtF : ∀ d, DD.rtF d → ∀ v H', Ke F H' → DA F.A0 H' v d → FrV F.H0 H' v → D.rt v H'
  bk : Nx K F σ H δ DD.bk D.bk
  ct : Nx K F σ H δ DD.ct D.ct
  ex : Out F E DD.ex
def tS (K : PySem.W.Frag) (E : XK) (w : DS) : TS := fun D σ H => ∃ (F : Fm) (δ : Sts) (DD : DEnds), Rel K F σ H δ ∧ w DD δ ∧ Ends1 K E F σ H δ DD D
theorem Nx.step {K : PySem.W.Frag} {F : Fm} {σ σ1 : L2.St} {H H1 : Hp} {δ δ1 : Sts} {R : Sts → Prop} {T : L2.St → Hp → Prop} (h : Nx K F σ H δ R T) (s : Stp F σ H δ σ1 H1 δ1) : Nx K F σ1 H1 δ1 R T := ⟨fun δ' hR σ' H' r st => h.go δ' hR σ' H' r (s.trans st)⟩
theorem Ends1.step {K : PySem.W.Frag} {E : XK} {F : Fm} {σ σ1 : L2.St} {H H1 : Hp} {δ δ1 : Sts} {DD : DEnds} {D : Ends} (h : Ends1 K E F σ H δ DD D) (s : Stp F σ H δ σ1 H1 δ1) : Ends1 K E F σ1 H1 δ1 DD D := ⟨h.nx.step s, h.rt, h.rtF, h.bk.step s, h.ct.step s, h.ex⟩
section
variable {X : Cx} {E : XK}
theorem PS.imp {e : Stmt} {t t' : TS} (h : PS X e t) (i : ∀ D σ H, t' D σ H → t D σ H) : PS X e t' := fun pins s σ H D I q => h pins s σ H D I (i D σ H q)
theorem PSs.imp {e : List Stmt} {t t' : TS} (h : PSs X e t) (i : ∀ D σ H, t' D σ H → t D σ H) : PSs X e t' := fun pins s σ H D I q => h pins s σ H D I (i D σ H q)
def dSeq (a b : DS) : DS := fun D δ => a { D with nx := b D } δ
def dSkip : DS := fun D δ => D.nx δ
theorem pds_snil : PSs X [] (tS X.K E dSkip) := PSs.imp pss_nil fun D σ H ⟨F, δ, DD, rel, hw, en⟩ => en.nx.go δ hw σ H rel Stp.refl
theorem pds_one {st : Stmt} {w : DS} (h : PS X st (tS X.K E w)) : PSs X [st] (tS X.K E w) := pss_one h
theorem pds_cons {st : Stmt} {rest : List Stmt} {w w' : DS} (h : PS X st (tS X.K E w)) (h' : PSs X rest (tS X.K E w')) : PSs X (st :: rest) (tS X.K E (dSeq w w')) := by
  refine PSs.imp (pss_cons h h') fun D σ H ⟨F, δ, DD, rel, hw, en⟩ => ?_
  exact ⟨F, δ, _, rel, hw, ⟨fun δ' h' σ' H' r st => ⟨F, δ', DD, r, h', en.step st⟩⟩, en.rt, en.rtF, en.bk, en.ct, en.ex⟩
def dSet (i : Nat) (we : DE) : DS := fun D δ => we δ (fun d => D.nx (δ.set i (.v d))) D.ex
def dSetF (i : Nat) (we : DE) : DS := fun D δ => we δ (fun d => match d with
  | .list ds => D.nx (δ.set i (.own ds))
  | _ => False) D.ex
def dSetP (i : Nat) (we : DE) : DS := fun D δ => we δ (fun d => match d with
  | .list [.int _] => D.nx (δ.set i .pot)
  | _ => False) D.ex
variable {i : Nat} {e : Expr} {st : Stmt} {we wi : DE}
theorem pds_set (h : PS X st (tAsg (tX .D X.K E we) (gName i))) : PS X st (tS X.K E (dSet i we)) := by
  refine PS.imp h fun D σ H ⟨F, δ, DD, rel, hw, en⟩ => ?_
  refine ⟨F, δ, _, DD.ex, rel, hw, fun d hd v H' rel' kp vk => ?_, en.ex⟩
  exact en.nx.go _ hd _ H' (rel'.setv vk) ((Stp.kp kp).trans Stp.setv)
theorem av_own {F : Fm} {σ : L2.St} {δ : Sts} {i : Nat} {l : Addr} {x : Sl} {a : Addr} (h : Av F (σ.set i (some (.ref l))) (δ.set i x) a) : Av F σ δ a ∨ a = l := by
  rcases h with h | ⟨j, h1, h2⟩
  · exact .inl (.inl h)
  · by_cases z : j = i
    · subst z
      cases set_eq h1
      exact .inr rfl
    · rw [set_ne z] at h1 h2
      exact .inl (.inr ⟨j, h1, h2⟩)
theorem Rel.seto {K : PySem.W.Frag} {F : Fm} {σ : L2.St} {H H' : Hp} {δ : Sts} {l : Addr} {x : Sl} (r : Rel K F σ H δ) (r' : Rel K F σ H' δ) (kp : Kp σ δ H H') (n : H l = none) (hx : ∀ A : Addr → Prop, (∀ a, A a → Av F σ δ a ∨ H a = none) → (∀ a, A a → Av F σ δ a ∨ a = l) → SlOk K F H' A (some (.ref l)) x) :
    Rel K F (σ.set i (some (.ref l))) H' (δ.set i x) ∧ Stp F σ H δ (σ.set i (some (.ref l))) H' (δ.set i x) := by
  have nA : ∀ a, Av F (σ.set i (some (.ref l))) (δ.set i x) a → Av F σ δ a ∨ H a = none := fun a z => (av_own z).elim .inl fun z => .inr (by rw [z]; exact n)
  have kk : ∀ a o, ¬ Av F σ δ a → H a = some o → H' a = some o := fun a o m e => kp.1 a o (fun z => m (pot_av z)) e
  refine ⟨?_, ⟨kk, nA⟩⟩
  exact {
    len := by rw [List.length_set, List.length_set]; exact r.len
    dom := r'.dom
    dom0 := r'.dom0
    pt0 := r'.pt0
    kx := r'.kx
    sl := fun j o y h1 h2 => by
      by_cases z : j = i
      · subst z
        cases set_eq h1
        cases set_eq h2
        exact hx _ nA fun a z => av_own z
      · rw [set_ne z] at h1 h2
        have h := r.sl j o y h1 h2
        have h' := r'.sl j o y h1 h2
        cases y with
        | no => trivial
        | v d => obtain ⟨v', e, q'⟩ := h; exact ⟨v', e, q'.mv kk nA⟩
        | own ds => obtain ⟨l', xs, rfl, e2, q', f⟩ := h; exact ⟨l', xs, rfl, kp.1 _ _ (r.own_pot h2 h1) e2, q'.mv kk nA, f⟩
        | pk ds =>
          obtain ⟨l', xs, rfl, e2, q', ys, f, f2⟩ := h
          refine ⟨l', xs, rfl, kp.1 _ _ ?_ e2, q'.mv kk nA, ys, f, f2⟩
          rintro ⟨j, j1, j2⟩
          obtain ⟨p, m, e1, _, w⟩ := r.sl j _ _ j1 j2
          cases e1
          rcases w with w | w
          · exact f2 w
          · rw [w] at f; cases f
        | pot => exact h'
        | scr => exact h'
    inj := fun j k a ds h1 h2 ⟨h3, h4⟩ => by
      have ne : ∀ (k : Nat), k ≠ i → σ[k]? = some (some (.ref l)) → (δ[k]? = some .pot ∨ ∃ ds, δ[k]? = some (.own ds)) → False := fun k _ h3 h4 => by
        obtain ⟨xs, e⟩ := r.isl (a := l) (.inr ⟨k, h3, h4⟩)
        rw [n] at e; cases e
      by_cases z : j = i
      · subst z
        cases set_eq h2
        by_cases z2 : k = j
        · exact z2.symm
        · rw [set_ne z2] at h3 h4
          exact (ne k z2 h3 h4).elim
      · rw [set_ne z] at h1 h2
        by_cases z2 : k = i
        · subst z2
          cases set_eq h3
          exact (ne j z h2 (.inr ⟨ds, h1⟩)).elim
        · rw [set_ne z2] at h3 h4
          exact r.inj j k a ds h1 h2 ⟨h3, h4⟩ }
theorem fresh0 {K : PySem.W.Frag} {F : Fm} {σ : L2.St} {H : Hp} {δ : Sts} (r : Rel K F σ H δ) {l : Addr} (n : H l = none) : F.H0 l = none := by
  cases e : F.H0 l with
  | none => rfl
  | some o =>
    by_cases z : F.pt l
    · obtain ⟨_, m, e'⟩ := r.pt0 l z
      rw [n] at e'; cases e'
    · rw [r.kx l o z e] at n; cases n
theorem pds_setF (h : PS X st (tAsg (tX .F X.K E we) (gName i))) : PS X st (tS X.K E (dSetF i we)) := by
  refine PS.imp h fun D σ H ⟨F, δ, DD, rel, hw, en⟩ => ?_
  refine ⟨F, δ, _, DD.ex, rel, hw, fun d hd v H' rel' kp ⟨vk, fr⟩ => ?_, en.ex⟩
  obtain ⟨ds, rfl⟩ : ∃ ds, d = .list ds := by cases d <;> first | exact ⟨_, rfl⟩ | exact (show False from hd).elim
  obtain ⟨l, rfl⟩ : ∃ l, v = .ref l := by cases vk; exact ⟨_, rfl⟩
  obtain ⟨xs, e, q⟩ := DA.items vk
  have n := fr l rfl ⟨xs, e⟩
  obtain ⟨r2, st⟩ := rel.seto (i := i) (x := .own ds) rel' kp n fun A hA hB => ⟨l, xs, rfl, e, q.mv (fun _ _ _ e => e) fun a z => .inl (hB a z), fresh0 rel n⟩
  exact en.nx.go _ hd _ H' r2 st
theorem pds_setP (h : PS X st (tAsg (tX .F X.K E we) (gName i))) : PS X st (tS X.K E (dSetP i we)) := by
  refine PS.imp h fun D σ H ⟨F, δ, DD, rel, hw, en⟩ => ?_
  refine ⟨F, δ, _, DD.ex, rel, hw, fun d hd v H' rel' kp ⟨vk, fr⟩ => ?_, en.ex⟩
  split at hd
  · cases vk with
    | @lst l xs ds na e q =>
      have n := fr l rfl ⟨xs, e⟩
      cases q with
      | cons q1 q2 =>
        cases q1
        cases q2
        obtain ⟨r2, st⟩ := rel.seto (i := i) (x := .pot) rel' kp n fun A hA hB => ⟨l, _, rfl, e, .inr (fresh0 rel n)⟩
        exact en.nx.go _ hd _ H' r2 st
  · exact hd.elim
def dPar (i j : Nat) (wa : DAr) : DS := fun D δ => wa δ (fun ds => match ds with
  | [a, b] => D.nx ((δ.set i (.v a)).set j (.v b))
  | _ => False) D.ex
theorem pds_par {n i j : Nat} {wa : DAr} (h : PS X st (tPar i j (tAr n .D X.K E wa))) : PS X st (tS X.K E (dPar i j wa)) := by
  refine PS.imp h fun D σ H ⟨F, δ, DD, rel, hw, en⟩ => ?_
  refine ⟨F, δ, _, DD.ex, rel, hw, fun ds hds _ vs H' rel' kp q => ?_, en.ex⟩
  split at hds
  · cases q with
    | cons q1 q2 => cases q2 with
      | cons q2 q3 =>
        cases q3
        refine ⟨_, _, rfl, en.nx.go _ hds _ H' ((rel'.setv q1).setv (DA.mv q2 (fun _ _ _ e => e) fun a z => .inl (av_set z))) (((Stp.kp kp).trans Stp.setv).trans Stp.setv)⟩
  · exact hds.elim
def dRet (we : DE) : DS := fun D δ => we δ D.rt D.ex
def dRetF (we : DE) : DS := fun D δ => we δ D.rtF D.ex
theorem da_a0 {F : Fm} {σ : L2.St} {δ : Sts} {H : Hp} {v : V} {d : PyData} (h : DA (Av F σ δ) H v d) : DA F.A0 H v d := h.mv (fun _ _ _ e => e) fun a z => .inl (.inl z)
theorem pds_ret {e : Expr} {pos : Pos} (h : PE X e (tX .D X.K E we)) : PS X (.Return (some e) pos) (tS X.K E (dRet we)) := by
  refine PS.imp (ps_ret h) fun D σ H ⟨F, δ, DD, rel, hw, en⟩ => ?_
  exact ⟨F, δ, _, DD.ex, rel, hw, fun d hd v H' rel' kp vk => en.rt d hd v H' rel'.ke (da_a0 vk), en.ex⟩
theorem pds_retF {e : Expr} {pos : Pos} (h : PE X e (tX .F X.K E we)) : PS X (.Return (some e) pos) (tS X.K E (dRetF we)) := by
  refine PS.imp (ps_ret h) fun D σ H ⟨F, δ, DD, rel, hw, en⟩ => ?_
  exact ⟨F, δ, _, DD.ex, rel, hw, fun d hd v H' rel' kp vk => en.rtF d hd v H' rel'.ke (da_a0 vk.1) fun l e1 e2 => fresh0 rel (vk.2 l e1 e2), en.ex⟩
def dRetO (i : Nat) : DS := fun D δ => match δ[i]? with
  | some (.own ds) => D.rtF (.list ds)
  | some (.v d) => D.rt d
  | _ => False
theorem pds_retO {e : Expr} {pos : Pos} (h : PE X e (tVar i)) : PS X (.Return (some e) pos) (tS X.K E (dRetO i)) := by
  refine PS.imp (ps_ret h) fun D σ H ⟨F, δ, DD, rel, hw, en⟩ => ?_
  unfold dRetO at hw
  split at hw
  · rename_i ds hd
    obtain ⟨x, hx⟩ := rel.lt hd
    obtain ⟨l, xs, rfl, e, q, f⟩ := rel.sl i _ _ hx hd
    refine ⟨_, hx, en.rtF _ hw _ H rel.ke (.lst (fun z => ?_) e (q.mv (fun _ _ _ e => e) fun a z => .inl (.inl z))) fun l' e1 _ => by cases e1; exact f⟩
    obtain ⟨ys, e'⟩ := rel.dom0 l z
    rw [f] at e'; cases e'
  · rename_i d hd
    obtain ⟨x, hx⟩ := rel.lt hd
    obtain ⟨v, rfl, q⟩ := rel.sl i _ _ hx hd
    exact ⟨v, hx, en.rt _ hw _ H rel.ke (da_a0 q)⟩
  · exact hw.elim
def dIf (t : DT) (a b : DS) : DS := fun D δ => t δ (fun c => if c = true then a D δ else b D δ) D.ex
theorem pds_if {c : Expr} {a b : List Stmt} {pos : Pos} {t : DT} {w w' : DS} (hc : PT X c (tT X.K E t)) (ha : PSs X a (tS X.K E w)) (hb : PSs X b (tS X.K E w')) : PS X (.If c a b pos) (tS X.K E (dIf t w w')) := by
  refine PS.imp (ps_if hc ha hb) fun D σ H ⟨F, δ, DD, rel, hw, en⟩ => ?_
  exact ⟨F, δ, _, DD.ex, rel, hw, fun b hb H' rel' kp => if_imp hb (fun z => ⟨F, δ, DD, rel', z, en.step (Stp.kp kp)⟩) fun z => ⟨F, δ, DD, rel', z, en.step (Stp.kp kp)⟩, en.ex⟩
theorem pds_never {sts : List Stmt} : PSs X sts (tS X.K E fun _ _ => False) := fun pins s σ H D I ⟨F, δ, DD, rel, hw, en⟩ => hw.elim
def dAug (i : Nat) (rD : PyData → PyData → (PyData → Prop) → Prop) (we : DE) : DS := fun D δ => match δ[i]? with
  | some (.v d) => we δ (fun e => rD d e (fun z => D.nx (δ.set i (.v z)))) D.ex
  | _ => False
theorem pds_aug {r : TIp} {rD : PyData → PyData → (PyData → Prop) → Prop} (hd : OpDn r rD) (h : PS X st (tAug i (tX .P X.K E we) (fun x y H Q => LenOk H → r x y H Q))) : PS X st (tS X.K E (dAug i rD we)) := by
  refine PS.imp h fun D σ H ⟨F, δ, DD, rel, hw, en⟩ => ?_
  unfold dAug at hw
  split at hw
  · rename_i d hd'
    obtain ⟨x, hx⟩ := rel.lt hd'
    obtain ⟨v, rfl, q⟩ := rel.sl i _ _ hx hd'
    refine ⟨v, hx, F, δ, _, DD.ex, rel, hw, fun e he y H' rel' kp yk ln => ?_, en.ex⟩
    refine hd (Av F σ δ) (PotA σ δ) H' v y d e _ _ ln (fun a ha => rel'.isl ha) (.inl (kp.da q)) yk he fun z hz u H2 s du => ?_
    exact en.nx.go _ hz _ H2 ((rel'.same s).setv du) (((Stp.kp kp).trans (Stp.kp (Kp.same rel' s))).trans Stp.setv)
  · exact hw.elim
theorem odn_ii0 {g : Int → Int → Int} : OpDn (ipI g) (ii0 fun i j => .int (g i j)) := fun A P H x y d1 d2 R Q ln dm hx hy h k => by
  cases d1 <;> cases d2 <;> first | exact h.elim | skip
  rw [hx.int, hy.int]
  exact ⟨_, _, rfl, rfl, k _ h _ H (Same.refl H) (.int _)⟩
theorem odn_mul : OpDn (rI CMul fun i j => .int (i * j)) (iiD CMul fun i j => .int (i * j)) := fun A P H x y d1 d2 R Q ln dm hx hy h k => by
  cases d1 <;> cases d2 <;> first | exact h.elim | skip
  rw [hx.int, hy.int]
  exact ⟨_, _, rfl, rfl, h.1, k _ h.2 _ H (Same.refl H) (.int _)⟩
theorem PIp.len {op : Operator} {t : TIp} (h : PIp X op t) : PIp X op (fun x y H Q => LenOk H → t x y H Q) := fun pins s σ H x y v u Q I rx ry q => h pins s σ H x y v u Q I rx ry (q (Inv.lens I))
theorem Rel.mut {K : PySem.W.Frag} {F : Fm} {σ : L2.St} {H : Hp} {δ : Sts} (r : Rel K F σ H δ) {l : Addr} {ds ds' : List PyData} {ys : List V} (h : δ[i]? = some (.own ds)) (hx : σ[i]? = some (some (.ref l))) (q : DAs (Av F σ δ) H ys ds') :
    Rel K F σ (upd H l (.lst ys)) (δ.set i (.own ds')) ∧ Stp F σ H δ σ (upd H l (.lst ys)) (δ.set i (.own ds')) := by
  have hl : Av F σ δ l := .inr ⟨i, hx, .inr ⟨ds, h⟩⟩
  obtain ⟨l', xs0, e0, el, _, f⟩ := r.sl i _ _ hx h
  cases e0
  have lt : i < δ.length := (List.getElem?_eq_some_iff.mp h).1
  have ge : (δ.set i (.own ds'))[i]? = some (.own ds') := by rw [List.getElem?_set_self lt]
  have kk : ∀ a o, ¬ Av F σ δ a → H a = some o → upd H l (.lst ys) a = some o := fun a o n e => by rw [upd_ne (fun z => n (by rw [z]; exact hl))]; exact e
  have av : ∀ a, Av F σ (δ.set i (.own ds')) a → Av F σ δ a := fun a z => by
    rcases z with z | ⟨j, h1, h2⟩
    · exact .inl z
    · by_cases z : j = i
      · subst z; exact .inr ⟨j, h1, .inr ⟨ds, h⟩⟩
      · rw [set_ne z] at h2; exact .inr ⟨j, h1, h2⟩
  have up : ∀ {b : Addr} {o : HO}, b ≠ l → H b = some o → upd H l (.lst ys) b = some o := fun n e => by rw [upd_ne n]; exact e
  refine ⟨?_, ⟨kk, fun a z => .inl (av a z)⟩⟩
  exact {
    len := by rw [List.length_set]; exact r.len
    dom := fun a ha => by
      by_cases z : a = l
      · rw [z]; exact ⟨_, upd_same⟩
      · obtain ⟨xs, e⟩ := r.dom a ha; exact ⟨xs, up z e⟩
    dom0 := r.dom0
    pt0 := fun p hp => by
      obtain ⟨h1, n, e⟩ := r.pt0 p hp
      refine ⟨h1, n, up (fun z => ?_) e⟩
      obtain ⟨xs, e'⟩ := r.dom0 p h1
      rw [z, f] at e'; cases e'
    kx := fun b o n e => up (fun z => by rw [z, f] at e; cases e) (r.kx b o n e)
    sl := fun j o y h1 h2 => by
      by_cases z : j = i
      · subst z
        rw [ge] at h2
        cases h2
        rw [hx] at h1
        cases h1
        exact ⟨l, ys, rfl, upd_same, q.mv kk fun a z => .inl (av a z), f⟩
      · rw [set_ne z] at h2
        have hh := r.sl j o y h1 h2
        cases y with
        | no => trivial
        | v d => obtain ⟨v', e, q'⟩ := hh; exact ⟨v', e, q'.mv kk fun a z => .inl (av a z)⟩
        | own es =>
          obtain ⟨l', xs, rfl, e2, q', f'⟩ := hh
          exact ⟨l', xs, rfl, up (fun z2 => z (r.inj j i l' es h2 h1 ⟨by rw [z2]; exact hx, .inr ⟨ds, h⟩⟩)) e2, q'.mv kk fun a z => .inl (av a z), f'⟩
        | pk es =>
          obtain ⟨l', xs, rfl, e2, q', ys', f', f2⟩ := hh
          exact ⟨l', xs, rfl, up (fun z2 => by rw [z2, f] at f'; cases f') e2, q'.mv kk fun a z => .inl (av a z), ys', f', f2⟩
        | pot =>
          obtain ⟨p, n, rfl, e2, w⟩ := hh
          refine ⟨p, n, rfl, up (fun z2 => ?_) e2, w⟩
          subst z2
          exact r.own_pot h hx ⟨j, h1, h2⟩
        | scr => exact hh
    inj := fun j k a es h1 h2 ⟨h3, h4⟩ => by
      have h4' : δ[k]? = some .pot ∨ ∃ ds, δ[k]? = some (.own ds) := by
        by_cases z : k = i
        · subst z; exact .inr ⟨ds, h⟩
        · rw [set_ne z] at h4; exact h4
      by_cases z : j = i
      · subst z; exact r.inj j k a ds h h2 ⟨h3, h4'⟩
      · rw [set_ne z] at h1; exact r.inj j k a es h1 h2 ⟨h3, h4'⟩ }
def dApp (i : Nat) (we : DE) : DS := fun D δ => match δ[i]? with
  | some (.own ds) => we δ (fun d => ds.length < 1000000 ∧ D.nx (δ.set i (.own (ds ++ [d])))) D.ex
  | _ => False
theorem pds_app (h : PS X st (tDrop (tBM X.K "list" rAppend (tVar i) (tCons (tX .D X.K E we) tNil)))) : PS X st (tS X.K E (dApp i we)) := by
  refine PS.imp h fun D σ H ⟨F, δ, DD, rel, hw, en⟩ => ?_
  unfold dApp at hw
  split at hw
  · rename_i ds hd
    obtain ⟨x, hx⟩ := rel.lt hd
    obtain ⟨l, xs, rfl, e, q, f⟩ := rel.sl i _ _ hx hd
    have np := rel.own_pot hd hx
    refine ⟨.ref l, hx, .inl ⟨rfl, _, SqL.of e⟩, F, δ, _, DD.ex, rel, hw, fun d ⟨hl, hn⟩ v H' rel' kp vk => ?_, en.ex⟩
    have q' := kp.das q
    refine ⟨l, xs, v, rfl, rfl, kp.1 _ _ np e, Nat.lt_of_lt_of_le (by rw [q.length]; exact hl) lineM, ?_⟩
    obtain ⟨r2, st⟩ := rel'.mut hd hx (q'.app (.cons vk .nil))
    exact en.nx.go _ hn _ _ r2 ((Stp.kp kp).trans st)
  · exact hw.elim
def dExt (i : Nat) (we : DE) : DS := fun D δ => match δ[i]? with
  | some (.own ds) => we δ (fun d => match d with
    | .list es => ds.length + es.length ≤ 1000000 ∧ D.nx (δ.set i (.own (ds ++ es)))
    | _ => False) D.ex
  | _ => False
theorem pds_ext (h : PS X st (tDrop (tBM X.K "list" rExtend (tVar i) (tCons (tX .P X.K E we) tNil)))) : PS X st (tS X.K E (dExt i we)) := by
  refine PS.imp h fun D σ H ⟨F, δ, DD, rel, hw, en⟩ => ?_
  unfold dExt at hw
  split at hw
  · rename_i ds hd
    obtain ⟨x, hx⟩ := rel.lt hd
    obtain ⟨l, xs, rfl, e, q, f⟩ := rel.sl i _ _ hx hd
    have np := rel.own_pot hd hx
    refine ⟨.ref l, hx, .inl ⟨rfl, _, SqL.of e⟩, F, δ, _, DD.ex, rel, hw, fun d hd2 v H' rel' kp vk => ?_, en.ex⟩
    cases d <;> first | exact (show False from hd2).elim | skip
    obtain ⟨hl, hn⟩ := hd2
    obtain ⟨l2, ys, rfl, e2, q2⟩ := DP.list vk
    have q' := kp.das q
    refine ⟨l, l2, xs, ys, rfl, rfl, kp.1 _ _ np e, e2, Nat.le_trans (by rw [q.length, q2.length]; exact hl) lineM, ?_⟩
    obtain ⟨r2, st⟩ := rel'.mut hd hx (q'.app q2)
    exact en.nx.go _ hn _ _ r2 ((Stp.kp kp).trans st)
  · exact hw.elim
@[irreducible] def ForR (items : List PyData) (wg : DG) (wb : DS) (D : DEnds) (δ : Sts) : Prop := ∃ Iv : Nat → Sts → Prop, Iv 0 δ ∧ (∀ (i : Nat) d δ, items[i]? = some d → Iv i δ → wg d δ fun δ2 => wb { D with nx := Iv (i + 1), ct := Iv (i + 1), bk := D.nx } δ2) ∧ ∀ δ, Iv items.length δ → D.nx δ
def dFor (wi : DI) (wg : DG) (wb : DS) : DS := fun D δ => wi δ (fun items => ForR items wg wb D δ) D.ex
theorem pds_for {tg iter : Expr} {body : List Stmt} {pos : Pos} {ix : List Nat} {wi : DI} {wg : DG} {wb : DS} (hp : PassesOwn (model X.prog X.w) X.A X.env X.xe) (hc : X.calm = true) (hi : PI X tg iter (tI .D X.K E wi)) (hg : PG X tg (tG ix X.K wg)) (hb : PSs X body (tS X.K E wb))
    (hs : ∀ x, foldedSetIterable iter X.env x = pure x := by intro _; rfl) : PS X (.For tg iter body [] pos) (tS X.K E (dFor wi wg wb)) := by
  refine PS.imp (ps_for hp hc hi hg hb hs) fun D σ H ⟨F, δ, DD, rel, hw, en⟩ => ?_
  refine ⟨F, δ, _, DD.ex, rel, hw, fun items hC J H1 rel1 kp1 ⟨ln, it⟩ => ?_, en.ex⟩
  unfold ForR at hC
  obtain ⟨Iv, i0, step, fin⟩ := hC
  have en1 := en.step (Stp.kp (F := F) kp1)
  refine ⟨fun i m σ' H' => m = items.length - i ∧ i ≤ items.length ∧ ∃ δ', Iv i δ' ∧ Rel X.K F σ' H' δ' ∧ Stp F σ H1 δ σ' H' δ', ⟨_, rfl, Nat.zero_le _, δ, i0, rel1, Stp.refl⟩, ?_⟩
  rintro i m σ' H' ⟨rfl, hi', δ', iv, r', st'⟩
  obtain ⟨go, stop⟩ := it H' (Av F σ' δ') st'.1 st'.2 fun a ha => r'.isl ha
  by_cases hlt : i < items.length
  · have hd : items[i]? = some items[i] := List.getElem?_eq_getElem hlt
    obtain ⟨g1, g2⟩ := go i _ hd
    refine .inr ⟨g1, fun σ2 H2 => ∃ δ2, Iv (i + 1) δ2 ∧ Rel X.K F σ2 H2 δ2 ∧ Stp F σ H1 δ σ2 H2 δ2, fun σ2 H2 ⟨δ2, h2, r2, s2⟩ => ⟨_, by omega, rfl, hlt, δ2, h2, r2, s2⟩, fun x H3 y => ?_⟩
    obtain ⟨s3, dx⟩ := g2 x H3 y
    have r3 := r'.same s3
    have st3 : Stp F σ H1 δ σ' H3 δ' := st'.trans (Stp.kp (Kp.same r' s3))
    refine ⟨F, δ', _, _, r3, dx, step i _ δ' hd iv, fun δ4 h4 σ4 r4 st4 _ _ => ⟨F, δ4, _, r4, h4, ?_⟩⟩
    have st5 := st3.trans st4
    exact ⟨⟨fun δ6 h6 σ6 H6 r6 s6 => ⟨δ6, h6, r6, st5.trans s6⟩⟩, en.rt, en.rtF, (en1.step st5).nx, ⟨fun δ6 h6 σ6 H6 r6 s6 => ⟨δ6, h6, r6, st5.trans s6⟩⟩, en.ex⟩
  · have e : i = items.length := by omega
    subst e
    exact .inl ⟨stop, (en1.step st').nx.go δ' (fin δ' iv) σ' H' r' Stp.refl⟩
theorem for_rng {lo : Int} {n : Nat} {wg : DG} {wb : DS} {D : DEnds} {δ : Sts} (Iv : Nat → Sts → Prop) (h0 : Iv 0 δ)
    (hs : ∀ (i : Nat) δ, i < n → Iv i δ → wg (.int (lo + i)) δ fun δ2 => wb { D with nx := Iv (i + 1), ct := Iv (i + 1), bk := D.nx } δ2) (hd : ∀ δ, Iv n δ → D.nx δ) : ForR (rngD lo n) wg wb D δ := by
  unfold ForR
  exact ⟨Iv, h0, fun i d δ hd iv => by obtain ⟨hi, rfl⟩ := rng_get hd; exact hs i δ hi iv, fun δ iv => hd δ (by rw [rng_len] at iv; exact iv)⟩
def dExpr (we : DE) : DS := fun D δ => we δ (fun _ => D.nx δ) D.ex
theorem pds_expr (h : PS X st (tDrop (tX .P X.K E we))) : PS X st (tS X.K E (dExpr we)) := by
  refine PS.imp h fun D σ H ⟨F, δ, DD, rel, hw, en⟩ => ?_
  exact ⟨F, δ, _, DD.ex, rel, hw, fun d hd v H' rel' kp vk => en.nx.go δ hd σ H' rel' (Stp.kp kp), en.ex⟩
end
def stD (N : List Str) (args : List Sl) : Sts := args ++ List.replicate (N.length - args.length) .no
theorem paired_get {α β : Type} {R : α → β → Prop} : ∀ {xs : List α} {ys : List β}, Paired R xs ys → ∀ (i : Nat) x y, xs[i]? = some x → ys[i]? = some y → R x y
  | _, _, .nil, i, x, y, h, _ => by simp at h
  | _, _, .cons a b, 0, x, y, h, h' => by simp at h h'; subst h h'; exact a
  | _, _, .cons a b, i + 1, x, y, h, h' => paired_get b i x y (by simpa using h) (by simpa using h')
theorem start_rel {K : PySem.W.Frag} {N : List Str} {A pt : Addr → Prop} {H : Hp} {vs : List V} {args : List Sl} (dm : ∀ a, A a → ∃ xs, H a = some (.lst xs)) (hp : ∀ p, pt p → A p ∧ ∃ n, H p = some (.lst [.int n])) (q : Paired (ArgOk A pt H) vs args) : Rel K ⟨H, A, pt⟩ (L2.start N vs) H (stD N args) := by
  have hl : vs.length = args.length := q.length
  have no : ∀ (i : Nat) x, (stD N args)[i]? = some x → (i < args.length ∧ args[i]? = some x) ∨ x = .no := fun i x h => by
    unfold stD at h
    by_cases z : i < args.length
    · rw [List.getElem?_append_left z] at h; exact .inl ⟨z, h⟩
    · rw [List.getElem?_append_right (by omega), List.getElem?_replicate] at h
      split at h
      · exact .inr (Option.some.inj h).symm
      · cases h
  have arg : ∀ (i : Nat) o x, (L2.start N vs)[i]? = some o → (stD N args)[i]? = some x → x ≠ .no → ∃ v, o = some v ∧ ArgOk A pt H v x := fun i o x h1 h2 hx => by
    rcases no i x h2 with ⟨z, e⟩ | e
    · unfold L2.start at h1
      rw [List.getElem?_append_left (by rw [List.length_map]; omega), List.getElem?_map] at h1
      obtain ⟨v, hv, rfl⟩ := Option.map_eq_some_iff.mp h1
      exact ⟨v, rfl, paired_get q i v x hv e⟩
    · exact absurd e hx
  have av : ∀ a, Av ⟨H, A, pt⟩ (L2.start N vs) (stD N args) a → A a := fun a z => by
    rcases z with z | ⟨i, h1, h2⟩
    · exact z
    · rcases h2 with h2 | ⟨ds, h2⟩
      · obtain ⟨v, e, p, rfl, hp'⟩ := arg i _ _ h1 h2 (fun z => by cases z)
        cases e
        exact (hp _ hp').1
      · obtain ⟨v, e, hh⟩ := arg i _ _ h1 h2 (fun z => by cases z)
        exact hh.elim
  exact {
    len := by unfold L2.start stD; rw [List.length_append, List.length_append, List.length_map, List.length_replicate, List.length_replicate, hl]
    dom := dm
    dom0 := dm
    pt0 := hp
    kx := fun _ _ _ e => e
    sl := fun i o x h1 h2 => by
      cases x with
      | no => trivial
      | v d =>
        obtain ⟨v, e, hh⟩ := arg i _ _ h1 h2 (fun z => by cases z)
        exact ⟨v, e, DA.mv hh (fun _ _ _ e => e) fun a z => .inl (av a z)⟩
      | pot =>
        obtain ⟨v, e, p, rfl, hp'⟩ := arg i _ _ h1 h2 (fun z => by cases z)
        obtain ⟨_, n, en⟩ := hp p hp'
        exact ⟨p, n, e, en, .inl hp'⟩
      | own ds => obtain ⟨v, e, hh⟩ := arg i _ _ h1 h2 (fun z => by cases z); exact hh.elim
      | pk ds => obtain ⟨v, e, hh⟩ := arg i _ _ h1 h2 (fun z => by cases z); exact hh.elim
      | scr => obtain ⟨v, e, hh⟩ := arg i _ _ h1 h2 (fun z => by cases z); exact hh.elim
    inj := fun i j a ds h1 h2 _ => by
      obtain ⟨v, e, hh⟩ := arg i _ _ h2 h1 (fun z => by cases z)
      exact hh.elim }
def notL : PyData → Bool
  | .list _ => false
  | _ => true
def rtD : Bool → (PyData → Prop) → PyData → Prop
  | true, R, d => notL d = true ∧ R d
  | false, R, d => R d
def endsD (fr : Bool) (R : PyData → Prop) (EX : XP) : DEnds := ⟨fun _ => R .none, rtD fr R, R, fun _ => False, fun _ => False, EX⟩
theorem ends_ok {K : PySem.W.Frag} {E Ex : XK} {fr : Bool} {A pt : Addr → Prop} {H : Hp} {R : PyData → Prop} {EX EX' : XP} {Q : VK} {σ : L2.St} {δ : Sts} (k : ∀ d, R d → ∀ v H', Kq pt H H' → DA A H' v d → (fr = true → FrV H H' v) → Q v H') (o : Out ⟨H, A, pt⟩ E EX') :
    Ends1 K E ⟨H, A, pt⟩ σ H δ (endsD fr R EX') { nx := fun _ H' => Q .non H', rt := Q } where
  nx := ⟨fun δ' hR σ' H' r st => k _ hR _ H' r.ke .non fun _ => frv_non⟩
  rt := fun d h v H' ke dv => by
    cases fr with
    | false => exact k d h v H' ke dv fun z => by cases z
    | true =>
      obtain ⟨h1, h2⟩ := h
      refine k d h2 v H' ke dv fun z l e1 ⟨xs, e2⟩ => ?_
      subst e1
      cases dv with
      | @tup a ys ds n e q => rw [e] at e2; cases e2
      | @lst a ys ds n e q => cases h1
      | @dct a n e => rw [e] at e2; cases e2
  rtF := fun d h v H' ke dv fr' => k d h v H' ke dv fun _ => fr'
  bk := ⟨fun _ h => h.elim⟩
  ct := ⟨fun _ h => h.elim⟩
  ex := o
section
variable {P : Program} {w : World} {K : PySem.W.Frag} {mg : Str → Option Value} {base : Heap}
theorem okD {x qual : Str} {st : Stmt} {f : Addr} {fd : FuncData} {N ps : List Str} {k : Nat} {fD : DF} (fr : Bool) (F : Fun K x qual st f fd) (S : FnScope N ps (defScope st)) (len : ∀ args R EX, fD args R EX → args.length = ps.length)
    (hbody : ∀ (cdv : Value) (A : Around) (outer : List Env) (s : Shared) (H : Hp) (E : XK), Room k (A.deeper (envOfC qual (defScope st) s.heap.objs.size f cdv)) →
      ∃ wd, PSs (cxOf CX0 P w K mg base N qual (defScope st) f cdv A outer s H E).nox (defBody st) (tS K E0 wd) ∧ ∀ args R EX, fD args R EX → wd (endsD fr R XF) (stD N args)) : FnOk P w K mg base CX0 (k + 1) f fd ps (toSp fr fD) := by
  refine F.ok S (fun vs H Q E h => ?_) fun cdv A outer s H vs Q E hr h => ?_
  · obtain ⟨A, pt, args, R, EX, _, _, q, h, _⟩ := h
    rw [q.length]; exact len _ _ _ h
  · obtain ⟨wd, hp, hw⟩ := hbody cdv A outer s H E hr
    obtain ⟨A', pt, args, R, EX, dm, hpt, q, h, k, _⟩ := h
    exact ⟨_, hp, ⟨H, A', pt⟩, _, _, start_rel dm hpt q, hw args R EX h, ends_ok (Ex := E) (EX := EX) k outF⟩
end
end Dl
namespace L2
open PySem PySem.Spec PyProof.Rows
def CDivC (i j : Int) : Prop := 0 < j ∧ j ≤ 10 ^ 40
theorem op_fdivC {X : Cx} : OpR X (binaryOp .FloorDiv) (rI CDivC fun i j => .int (i / j)) := opI fun i j _ _ _ _ _ hc q => by
  have h1 : (0 : Int) < j := hc.1
  have h2 : j ≤ 10 ^ 40 := hc.2
  refine floordiv_int (by omega) (by rw [Int.fdiv_eq_ediv_of_nonneg i (by omega)]; exact q) (.inl (PyProof.noPylong_of_log2 ?_))
  have h3 : j.natAbs < 2 ^ 200 := by
    have : (10 : Int) ^ 40 < 2 ^ 200 := by decide
    omega
  have := (Nat.log2_lt (by omega : j.natAbs ≠ 0)).mpr h3
  omega
end L2
namespace Rk
open PySem PySem.Spec PyProof.Rows L2 _root_.Rd
def spTakeC0 : Sp := fun vs H Q _ => ∃ p n f, vs = [.ref p, .int f] ∧ H p = some (.lst [.int n]) ∧ 0 < f ∧ f ≤ 10 ^ 40 ∧ ∀ r m, 0 ≤ r → r < f → Q (.int r) (upd H p (.lst [.int m]))
end Rk
namespace Dl
open PySem PySem.Spec PyProof.Rows L2 _root_.Rd Rk
theorem passA {X : Cx} {E : XK} : Passes CX0 X E := fun _ _ _ _ _ _ _ h => h.elim
theorem Room.u60 {k : Nat} {A : Around} (r : Room k A) : A.units + 60 < cLine := by have := r.un; omega
theorem Room.i60 {k : Nat} {A : Around} (r : Room k A) : A.in1.units + 60 < cLine := by
  have := r.un
  show A.units + 1 + 60 < cLine
  omega
section
variable {X : Cx} {E : XK} {CX : CXT} {k : Nat} {f : Addr} {fd : FuncData} {ps : List Str} {x : Str} {p pos : Pos} {e : Expr} {es : List Expr} {fD : DF}
def dCallS0 (f : DF) (wa : DAr) : DE := fun δ Q EX => wa δ (fun ds => f (ds.map Sl.v) (fun d => scal d = true ∧ Q d) EX) EX
theorem callS0_read {n : Nat} {fr : Bool} {K : PySem.W.Frag} {f : DF} {wa : DAr} (σ : L2.St) (H : Hp) (Q : VK) (h : tX .F K E (dCallS0 f wa) σ H Q) : tCall (toSp fr f) [] E (tAr n .P K E wa) σ H Q := by
  obtain ⟨F, δ, R, EX, rel, hw, k, o⟩ := h
  refine ⟨F, δ, _, EX, rel, hw, fun args ha _ vs H1 rel1 kp1 q => ?_, o⟩
  show toSp fr f (vs ++ []) H1 Q E
  rw [List.append_nil]
  refine ⟨fun a => Av F σ δ a ∧ ¬ Lent (PotA σ δ) H1 vs a, fun _ => False, args.map Sl.v, _, EX, fun a ha => rel1.isl ha.1, fun p hp => hp.elim, lent_args vs (fun _ h => h) q, ha, fun d hd v H' kq dv fr => ?_, fun C hC H' kq => o C hC H' (rel1.same fun b o e => kq.1 b o (fun z => z) e).ke⟩
  have s : Same H1 H' := fun b o e => kq.1 b o (fun z => z) e
  refine k d hd.2 v H' (rel1.same s) (kp1.trans (Kp.same rel1 s)) ⟨scal_da dv hd.1, fun l e1 e2 => ?_⟩
  subst e1
  have hf := hd.1
  cases dv <;> cases hf
theorem pd_callS0 {n : Nat} {fr : Bool} {wr : DAr} (G : FnOk X.prog X.w X.K X.mg X.base CX k f fd ps (toSp fr fD)) (hr : Room k X.A) (hg : Gl X x) (hm : X.mg x = some (.ref f)) (hk : PySem.W.keepIn X.K (.ref f) = true) (hb : Binds X.K fd ps []) (hx : Passes CX X E)
    (ha : PA X (e :: es) (tAr n .P X.K E wr)) (hdb : (x == ("__debug__" : Str)) = false := by decide) (he : starEach (e :: es) X.env = (false, eval e X.env) :: starEach es X.env := by rfl) (hpl : (backTo pos (starEach es X.env)).any (·.1) = false := by rfl) :
    PE X (.Call (.Name x p) (e :: es) [] pos) (tX .F X.K E (dCallS0 fD wr)) := PE.imp (pe_call G hr hg hm hk hb .nil hx ha hdb he hpl) callS0_read
def takeD : DF := fun args R _ => ∃ f, args = [.pot, .v (.int f)] ∧ 0 < f ∧ f ≤ 10 ^ 40 ∧ ∀ r, 0 ≤ r → r < f → R (.int r)
theorem take_d {vs : List V} {H : Hp} {Q : VK} {Ex : XK} (h : toSp true takeD vs H Q Ex) : spTakeC0 vs H Q Ex := by
  obtain ⟨A, pt, args, R, EX, dm, hp, q, ⟨f, rfl, f0, f1, hR⟩, k, _⟩ := h
  cases q with
  | cons q1 q2 => cases q2 with
    | cons q2 q3 =>
      cases q3
      obtain ⟨p, rfl, pp⟩ := q1
      cases q2
      obtain ⟨_, n, e⟩ := hp p pp
      refine ⟨p, n, f, rfl, e, f0, f1, fun r m r0 r1 => k _ (hR r r0 r1) _ _ ⟨fun b o nb eb => ?_, fun z hz => ?_⟩ (.int _) fun _ => frv_int⟩
      · rw [upd_ne (fun z => nb (by rw [z]; exact pp))]; exact eb
      · by_cases y : z = p
        · rw [y]; exact ⟨m, upd_same⟩
        · obtain ⟨_, n', e'⟩ := hp z hz
          exact ⟨n', by rw [upd_ne y]; exact e'⟩
def potD : DF := fun args R _ => ∃ c, args = [.v (.int c)] ∧ ∀ n, R (.list [.int n])
theorem pot_d {vs : List V} {H : Hp} {Q : VK} {Ex : XK} (h : toSp true potD vs H Q Ex) : spPot vs H Q Ex := by
  obtain ⟨A, pt, args, R, EX, dm, hp, q, ⟨c, rfl, hR⟩, k, _⟩ := h
  cases q with
  | cons q1 q2 =>
    cases q2
    cases q1
    refine ⟨c, rfl, fun p n hn => k _ (hR n) _ _ ⟨fun b o _ eb => same_upd hn b o eb, fun z hz => ?_⟩ (.lst (fun z => ?_) upd_same (.cons (.int _) .nil)) fun _ => frv_new hn⟩
    · obtain ⟨_, n', e'⟩ := hp z hz
      exact ⟨n', same_upd hn _ _ e'⟩
    · obtain ⟨xs, e⟩ := dm p z
      rw [hn] at e; cases e
def isW : PyData → Bool
  | .int _ => true
  | _ => false
def wholeD : DF := fun args R _ => ∃ d, args = [.v d] ∧ R (.bool (isW d))
def sameD (n : Nat) : DF := fun args R _ => ∃ d, args = [.v d, .v d] ∧ nd d = true ∧ flatL n d = true ∧ R (.bool true)
theorem same_d {n : Nat} {vs : List V} {H : Hp} {Q : VK} {Ex : XK} (h : toSp false (sameD n) vs H Q Ex) : spSameL (n + 1) vs H Q Ex := by
  obtain ⟨A, pt, args, R, EX, dm, hp, q, ⟨d, rfl, hn, hf, hR⟩, k, _⟩ := h
  cases q with
  | cons q1 q2 => cases q2 with
    | cons q2 q3 =>
      cases q3
      exact ⟨_, _, d, rfl, da_dat d _ hn q1, da_dat d _ hn q2, hf, fun H' s => k _ hR _ H' ⟨fun b o _ e => s b o e, fun p hp' => let ⟨_, n, e⟩ := hp p hp'; ⟨n, s _ _ e⟩⟩ (.bl _) fun z => by cases z⟩
theorem scr_seq {K : PySem.W.Frag} {F : Fm} {σ : L2.St} {H : Hp} {δ : Sts} (r : Rel K F σ H δ) {a : Addr} {xs : List V} (h : SqL K F.H0 a xs) (n : ¬ F.pt a) : SqL K H a xs := by
  rcases h with h | h
  · rcases h with h | ⟨o, h⟩
    · exact .inl (.inl (r.kx _ _ n h))
    · exact .inl (.inr ⟨o, r.kx _ _ n h⟩)
  · exact .inr h
def dLenS (i : Nat) : DE := fun δ Q _ => match δ[i]? with
  | some .scr => ∀ n : Nat, n ≤ 63 → Q (.int n)
  | _ => False
theorem pd_lenS {i : Nat} {a : Expr} (hg : Gl X "len") (hm : X.mg "len" = none) (h : PE X a (tVar i)) (hs : notStar a = true := by rfl) : PE X (.Call (.Name "len" p) [a] [] pos) (tX .F X.K E (dLenS i)) := by
  refine PE.imp (pe_callB call_len_seq hg hm bt_len (pa_c h pa_nil hs) (he := by rw [star_of hs])) fun σ H Q ⟨F, δ, R, EX, rel, hw, k, o⟩ => ?_
  unfold dLenS at hw
  split at hw
  · rename_i hd
    obtain ⟨x, hx⟩ := rel.lt hd
    obtain ⟨l, ns, rfl, sq, np, n63⟩ := rel.sl i _ _ hx hd
    refine ⟨_, hx, l, _, rfl, .inl (scr_seq rel sq np), ?_⟩
    rw [List.length_map]
    exact k _ (hw _ n63) _ H rel (Kp.refl rel) ⟨.int _, frv_int⟩
  · exact hw.elim
def dCell (i : Nat) (wb : DE) : DE := fun δ Q EX => match δ[i]? with
  | some .scr => wb δ (fun d => match d with
    | .int k => 0 ≤ k ∧ ∀ c, Q (.int c)
    | _ => False) EX
  | _ => False
theorem pd_cell {i : Nat} {a b : Expr} {wb : DE} (G : FnOk X.prog X.w X.K X.mg X.base CX0 k f fd ps (spCellAt X.K)) (hr : Room k X.A) (hg : Gl X x) (hm : X.mg x = some (.ref f)) (hk : PySem.W.keepIn X.K (.ref f) = true) (hb : Binds X.K fd ps [])
    (ha : PE X a (tVar i)) (h : PE X b (tX .P X.K E wb)) (h1 : notStar a = true := by rfl) (h2 : notStar b = true := by rfl) (hdb : (x == ("__debug__" : Str)) = false := by decide) :
    PE X (.Call (.Name x p) [a, b] [] pos) (tX .F X.K E (dCell i wb)) := by
  refine PE.imp (pe_call (E := E) G hr hg hm hk hb .nil passA (pa_c ha (pa_c h pa_nil h2) h1) hdb (star_of h1) (by rw [star_of h2]; rfl)) fun σ H Q ⟨F, δ, R, EX, rel, hw, k, o⟩ => ?_
  unfold dCell at hw
  split at hw
  · rename_i hd
    obtain ⟨x, hx⟩ := rel.lt hd
    obtain ⟨l, ns, rfl, sq, np, n63⟩ := rel.sl i _ _ hx hd
    refine ⟨_, hx, F, δ, _, EX, rel, hw, fun d hd2 v H' rel' kp vk => ?_, o⟩
    cases d <;> first | exact (show False from hd2).elim | skip
    rw [DP.int vk]
    exact ⟨l, ns, _, rfl, scr_seq rel' sq np, Nat.lt_of_le_of_lt n63 (by decide), hd2.1, fun c => k _ (hd2.2 c) _ H' rel' kp ⟨.int _, frv_int⟩⟩
  · exact hw.elim
end
section
variable {P : Program} {w : World} {K : PySem.W.Frag} {mg : Str → Option Value} {base : Heap}
def spLawD (K : PySem.W.Frag) : Sp := fun vs H Q _ => ∃ (a : Addr) (ns : List Int), vs = [.ref a] ∧ SqL K H a (ns.map V.int) ∧ ns.length ≤ 63 ∧ ∀ H', Q (.bl true) H'
def endsL : DEnds := ⟨fun _ => False, fun d => d = .bool true, fun d => d = .bool true, fun _ => False, fun _ => False, XF⟩
theorem okLaw {x qual : Str} {st : Stmt} {f : Addr} {fd : FuncData} {N : List Str} {p : Str} {k : Nat} (F : Fun K x qual st f fd) (S : FnScope N [p] (defScope st))
    (hbody : ∀ (cdv : Value) (A : Around) (outer : List Env) (s : Shared) (H : Hp) (E : XK), Room k (A.deeper (envOfC qual (defScope st) s.heap.objs.size f cdv)) →
      ∃ wd, PSs (cxOf CX0 P w K mg base N qual (defScope st) f cdv A outer s H E).nox (defBody st) (tS K E0 wd) ∧ wd endsL (stD N [.scr])) : FnOk P w K mg base CX0 (k + 1) f fd [p] (spLawD K) := by
  refine F.ok S (fun vs H Q E h => ?_) fun cdv A outer s H vs Q E hr h => ?_
  · obtain ⟨a, ns, rfl, _⟩ := h
    rfl
  · obtain ⟨wd, hp, hw⟩ := hbody cdv A outer s H E hr
    obtain ⟨a, ns, rfl, sq, n63, k⟩ := h
    have get0 : ∀ (i : Nat) o y, (L2.start N [V.ref a])[i]? = some o → (stD N [.scr])[i]? = some y → y ≠ .no → o = some (.ref a) ∧ y = .scr := fun i o y h1 h2 hy => by
      cases i with
      | zero => cases h1; cases h2; exact ⟨rfl, rfl⟩
      | succ i =>
        unfold stD at h2
        rw [List.getElem?_append_right (by simp), List.getElem?_replicate] at h2
        split at h2
        · exact absurd (Option.some.inj h2).symm hy
        · cases h2
    have noav : ∀ b, ¬ Av (⟨H, fun _ => False, fun _ => False⟩ : Fm) (L2.start N [V.ref a]) (stD N [.scr]) b := fun b z => by
      rcases z with z | ⟨i, h1, h2⟩
      · exact z
      · rcases h2 with h2 | ⟨ds, h2⟩
        · cases (get0 i _ _ h1 h2 (fun z => by cases z)).2
        · cases (get0 i _ _ h1 h2 (fun z => by cases z)).2
    refine ⟨_, hp, ⟨H, fun _ => False, fun _ => False⟩, _, _, ?_, hw, ?_⟩
    · exact {
        len := by unfold L2.start stD; simp
        dom := fun _ h => h.elim
        dom0 := fun _ h => h.elim
        pt0 := fun _ h => h.elim
        kx := fun _ _ _ e => e
        sl := fun i o y h1 h2 => by
          cases y with
          | no => trivial
          | scr =>
            obtain ⟨rfl, _⟩ := get0 i _ _ h1 h2 (fun z => by cases z)
            exact ⟨a, ns, rfl, sq, fun z => z, n63⟩
          | v d => cases (get0 i _ _ h1 h2 (fun z => by cases z)).2
          | own d => cases (get0 i _ _ h1 h2 (fun z => by cases z)).2
          | pk d => cases (get0 i _ _ h1 h2 (fun z => by cases z)).2
          | pot => cases (get0 i _ _ h1 h2 (fun z => by cases z)).2
        inj := fun i j b ds h1 h2 _ => by cases (get0 i _ _ h2 h1 (fun z => by cases z)).2 }
    · exact {
        nx := ⟨fun _ h => h.elim⟩
        rt := fun d h v H' ke dv => by cases (show d = .bool true from h); cases dv; exact k H'
        rtF := fun d h v H' ke dv _ => by cases (show d = .bool true from h); cases dv; exact k H'
        bk := ⟨fun _ h => h.elim⟩
        ct := ⟨fun _ h => h.elim⟩
        ex := outF }
end
end Dl
namespace Dl
open PySem PySem.Spec PyProof.Rows L2 _root_.Rd Rk
theorem al_nil {α : Type} {p : α → Prop} : ∀ x ∈ ([] : List α), p x := fun _ h => nomatch h
theorem al_cons {α : Type} {p : α → Prop} {a : α} {l : List α} (h : p a) (t : ∀ x ∈ l, p x) : ∀ x ∈ a :: l, p x := fun x hx => by
  rcases List.mem_cons.mp hx with z | z
  · rw [z]; exact h
  · exact t x z
theorem and_if {b c : Bool} {R : PyData → Prop} (h : R (.bool (b && c))) : if b = true then R (.bool c) else R (.bool false) := by
  cases b
  · exact iteF h
  · exact iteT h
theorem and_ifK {b c : Bool} {R : PyData → Prop} {Pk : Prop} (h : R (.bool (b && c))) (k : b = true → R (.bool c) → Pk) : if b = true then Pk else R (.bool false) := by
  cases b
  · exact iteF h
  · exact iteT (k rfl h)
theorem ifC {c : Bool} {A B : Prop} (t : c = true → A) (f : c = false → B) : if c = true then A else B := by
  cases c
  · exact f rfl
  · exact t rfl
theorem not_dec {p : Prop} [Decidable p] (h : (!decide p) = true) : ¬ p := by simpa using h
theorem dec_not {p : Prop} [Decidable p] (h : (!decide p) = false) : p := by simpa using h
theorem all_map {α : Type} (l : List α) (g : α → Bool) : (l.map g).all id = l.all g := by
  rw [List.all_map]; rfl
theorem allD_of {ds : List PyData} {Q : PyData → Prop} {g : PyData → Bool} {items : List PyData} (h : ds = [.list (items.map fun d => .bool (g d))]) (q : Q (.bool (items.all g))) : allD ds Q := by
  subst h
  unfold allD
  refine ⟨items.map g, ?_, by rw [all_map]; exact q⟩
  rw [show items.map (fun d => PyData.bool (g d)) = (items.map g).map PyData.bool by rw [List.map_map]; rfl, bools_map]
theorem cm_all {items : List PyData} {wg : DG} {we : DE} {δ : Sts} {Q : PyData → Prop} (Pd : PyData → Prop) (h : ∀ d ∈ items, ∀ (k2 : PyData → Prop), (∀ e, Pd e → k2 e) → wg d δ fun δ4 => we δ4 k2 XF) (q : ∀ acc, acc.length = items.length → (∀ e ∈ acc, Pd e) → Q (.list acc)) :
    CompR items wg dNoT we δ Q := by
  unfold CompR
  refine ⟨fun i acc => acc.length = i ∧ ∀ e ∈ acc, Pd e, ⟨rfl, fun _ h => nomatch h⟩, fun i acc d hd ⟨hl, ha⟩ => ?_, fun acc ⟨hl, ha⟩ => q acc hl ha⟩
  have hh := h d (List.mem_of_getElem? hd) (fun e => (acc ++ [e]).length = i + 1 ∧ ∀ x ∈ acc ++ [e], Pd x) fun e he => ⟨by rw [List.length_append, hl]; rfl, fun x hx => by
    rcases List.mem_append.mp hx with z | z
    · exact ha x z
    · rw [List.mem_singleton.mp z]; exact he⟩
  simp only [dNoT, if_true]
  exact hh
theorem ints_of {acc : List PyData} {p : Int → Prop} (h : ∀ e ∈ acc, ∃ i, e = .int i ∧ p i) : ∃ ns : List Int, acc = ns.map PyData.int ∧ ∀ i ∈ ns, p i := by
  induction acc with
  | nil => exact ⟨[], rfl, fun _ h => nomatch h⟩
  | cons e acc ih =>
    obtain ⟨i, rfl, hp⟩ := h e (by simp)
    obtain ⟨ns, rfl, hns⟩ := ih fun e he => h e (by simp [he])
    refine ⟨i :: ns, rfl, fun j hj => ?_⟩
    rcases List.mem_cons.mp hj with z | z
    · rw [z]; exact hp
    · exact hns j z
theorem ints_isW : ∀ {ds : List PyData}, ds.all isW = true → ∃ ns : List Int, ds = ns.map PyData.int
  | [], _ => ⟨[], rfl⟩
  | d :: ds, h => by
    rw [List.all_cons, Bool.and_eq_true] at h
    obtain ⟨ns, rfl⟩ := ints_isW h.2
    cases d <;> first | (cases h.1; done) | skip
    exact ⟨_ :: ns, rfl⟩
theorem minD_of {ds : List PyData} {Q : PyData → Prop} (ns : List Int) (h : ds = [.list (ns.map PyData.int)]) (h0 : 0 < ns.length) (q : ∀ m, m ∈ ns → (∀ y ∈ ns, m ≤ y) → Q (.int m)) : minLD ds Q := by
  subst h
  unfold minLD
  exact ⟨ns, ints_map ns, h0, q⟩
end Dl
namespace L2
open PySem PySem.Spec PyProof.Rows
section
variable {X : Cx}
end
end L2
namespace Dl
open PySem PySem.Spec PyProof.Rows L2 _root_.Rd Rk
section
variable {X : Cx} {E : XK}
variable {e : Expr} {w : DE} {p p2 pos pos2 : Pos}
end
theorem at_mem {ds : List PyData} {i : Int} (h0 : 0 ≤ i) (h1 : i < ds.length) : ∃ d, d ∈ ds ∧ atI ds i = some d := by
  obtain ⟨j, rfl⟩ : ∃ j : Nat, i = j := ⟨i.toNat, by omega⟩
  have hj : j < ds.length := by omega
  exact ⟨ds[j], List.getElem_mem hj, atI_nat (List.getElem?_eq_getElem hj)⟩
theorem ix_of {ds : List PyData} {i : Int} {Q : PyData → Prop} (h0 : 0 ≤ i) (h1 : i < ds.length) (q : ∀ d ∈ ds, Q d) : ∃ d, atI ds i = some d ∧ Q d := by
  obtain ⟨d, hd, e⟩ := at_mem h0 h1
  exact ⟨d, e, q d hd⟩
end Dl
namespace Dl
open PySem PySem.Spec PyProof.Rows L2 _root_.Rd Rk
structure QE (m : Md) (X : Cx) (E : XK) (e : Expr) (w : DE) : Prop where h : PE X e (tX m X.K E w)
structure QT (X : Cx) (E : XK) (e : Expr) (w : DT) : Prop where h : PT X e (tT X.K E w)
structure QW (X : Cx) (E : XK) (e : Expr) (w : DT) : Prop where h : PW X e (tT X.K E w)
structure QTs (X : Cx) (E : XK) (es : List Expr) (w : DT) : Prop where h : PTs X es (tT X.K E w)
structure QA (n : Nat) (m : Md) (X : Cx) (E : XK) (es : List Expr) (w : DAr) : Prop where h : PA X es (tAr n m X.K E w)
structure QAs (X : Cx) (E : XK) (es : List Expr) (w : DSl) : Prop where h : PA X es (tAs X.K E w)
structure QG (ix : List Nat) (X : Cx) (tg : Expr) (w : DG) : Prop where h : PG X tg (tG ix X.K w)
structure QI (m : Md) (X : Cx) (E : XK) (tg it : Expr) (w : DI) : Prop where h : PI X tg it (tI m X.K E w)
structure QS (X : Cx) (E : XK) (st : Stmt) (w : DS) : Prop where h : PS X st (tS X.K E w)
structure QSs (X : Cx) (E : XK) (sts : List Stmt) (w : DS) : Prop where h : PSs X sts (tS X.K E w)
section
variable {X : Cx} {E : XK}
theorem q_toD {e : Expr} {w : DE} (h : QE .F X E e w) : QE .D X E e w := ⟨toD h.h⟩
theorem q_toP {e : Expr} {w : DE} (h : QE .D X E e w) : QE .P X E e w := ⟨toP h.h⟩
theorem q_toPF {e : Expr} {w : DE} (h : QE .F X E e w) : QE .P X E e w := ⟨toPF h.h⟩
theorem qv (i : Nat) {x : Str} {pos : Pos} (hN : X.N[i]? = some x := by rfl) (hv : Vis X.env.scope x := by first | exact Or.inl rfl | exact Or.inr (Or.inl rfl) | exact Or.inr (Or.inr rfl)) (hd : (x == ("__debug__" : Str)) = false := by decide) (hcd : (x == ("__classdict__" : Str)) = false := by decide) : QE .D X E (.Name x pos) (dVar i) := ⟨pd_var (pv i hN hv hd hcd)⟩
theorem qp (i : Nat) {x : Str} {pos : Pos} (hN : X.N[i]? = some x := by rfl) (hv : Vis X.env.scope x := by first | exact Or.inl rfl | exact Or.inr (Or.inl rfl) | exact Or.inr (Or.inr rfl)) (hd : (x == ("__debug__" : Str)) = false := by decide) (hcd : (x == ("__classdict__" : Str)) = false := by decide) : QE .P X E (.Name x pos) (dPk i) := ⟨pd_pk (pv i hN hv hd hcd)⟩
theorem q_int {i : Int} {j pos} : QE .D X E (.Constant (.int i) j pos) (dC (.int i)) := ⟨pd_int⟩
theorem q_bl {b : Bool} {j pos} : QE .D X E (.Constant (.bool b) j pos) (dC (.bool b)) := ⟨pd_bl⟩
theorem q_glob {x : Str} (i : Int) {u : Value} {pos : Pos} (hg : Gl X x) (hm : X.mg x = some u) (r : RelV (.int i) u) (hd : (x == ("__debug__" : Str)) = false := by decide) : QE .D X E (.Name x pos) (dC (.int i)) := ⟨pd_c (pe_glob hg hm r hd) fun _ _ => .int i⟩
theorem q_bin {a b : Expr} {wa wb : DE} {pos : Pos} {r : R2} {rD : PyData → PyData → (PyData → Prop) → Prop} {op : Operator} (ho : OpR X (binaryOp op) r) (hd : OpD r rD) (ha : QE .P X E a wa) (hb : QE .P X E b wb) : QE .F X E (.BinOp a op b pos) (dOp rD wa wb) := ⟨pd_bin ho hd ha.h hb.h⟩
theorem q_cmp {a b : Expr} {wa wb : DE} {pos : Pos} {r : R2} {rD : PyData → PyData → (PyData → Prop) → Prop} {op : CmpOp} (ho : OpR X (compareOp op) r) (hd : OpD r rD) (ha : QE .P X E a wa) (hb : QE .P X E b wb) (hm : behindInMarks op b = false) : QE .F X E (.Compare a [op] [b] pos) (dOp rD wa wb) := ⟨pd_cmp ho hd ha.h hb.h hm⟩
theorem qt_cmp {a b : Expr} {wa wb : DE} {pos : Pos} {r : R2} {rD : PyData → PyData → (PyData → Prop) → Prop} {op : CmpOp} (ho : OpR X (compareOp op) r) (hd : OpD r rD) (ha : QE .P X E a wa) (hb : QE .P X E b wb) (hm : behindInMarks op b = false) : QT X E (.Compare a [op] [b] pos) (dTst (dOp rD wa wb)) := ⟨pdt_cmp ho hd ha.h hb.h hm⟩
theorem q_ix {a b : Expr} {wa wb : DE} {pos : Pos} {r : R2} {rD : PyData → PyData → (PyData → Prop) → Prop} (ho : IxR X r) (hd : OpDn r rD) (ha : QE .P X E a wa) (hb : QE .P X E b wb) (hs : PlainIx b) : QE .D X E (.Subscript a b pos) (dOp rD wa wb) := ⟨pd_ix ho hd ha.h hb.h hs⟩
theorem q_neg {a : Expr} {wa : DE} {pos : Pos} (ha : QE .P X E a wa) : QE .F X E (.UnaryOp .USub a pos) (dUn negD wa) := ⟨pd_neg ha.h⟩
theorem q_ch {a b c : Expr} {wa wb wc : DE} {pos : Pos} {op op' : CmpOp} {p q : Int → Int → Bool} (ho : OpR X (compareOp op) (rI0 fun i j => .bl (p i j))) (ho' : OpR X (compareOp op') (rI0 fun i j => .bl (q i j))) (ha : QE .P X E a wa) (hb : QE .P X E b wb) (hc : QE .P X E c wc) (hm : lastMarks [op, op'] [b, c] = false := by with_unfolding_all rfl) : QE .F X E (.Compare a [op, op'] [b, c] pos) (dCh p q wa wb wc) := ⟨pd_ch ho ho' ha.h hb.h hc.h hm⟩
theorem qt_ch {a b c : Expr} {wa wb wc : DE} {pos : Pos} {op op' : CmpOp} {p q : Int → Int → Bool} (ho : OpR X (compareOp op) (rI0 fun i j => .bl (p i j))) (ho' : OpR X (compareOp op') (rI0 fun i j => .bl (q i j))) (ha : QE .P X E a wa) (hb : QE .P X E b wb) (hc : QE .P X E c wc) (hm : lastMarks [op, op'] [b, c] = false := by with_unfolding_all rfl) : QT X E (.Compare a [op, op'] [b, c] pos) (dTst (dCh p q wa wb wc)) := ⟨pdt_ch ho ho' ha.h hb.h hc.h hm⟩
theorem qt_val {e : Expr} {w : DE} (h : QE .P X E e w) (he : ∀ whole, isTrue e X.env whole = (do let v ← whole; standAt e.pos; holding [v] (truthy v)) := by intro _; rfl) : QT X E e (dTst w) := ⟨pdt_val h.h he⟩
theorem qw_and1 {a : Expr} {pos : Pos} {ta : DT} (ha : QT X E a ta) : QW X E (.BoolOp .And [a] pos) ta := ⟨pdw_and1 ha.h⟩
theorem qw_and {a b : Expr} {rest : List Expr} {pos : Pos} {ta tb : DT} (ha : QT X E a ta) (hb : QW X E (.BoolOp .And (b :: rest) pos) tb) : QW X E (.BoolOp .And (a :: b :: rest) pos) (dAnd ta tb) := ⟨pdw_and ha.h hb.h⟩
theorem q_and {a b : Expr} {rest : List Expr} {pos : Pos} {wa wb : DE} (ha : QE .P X E a wa) (hb : QE .D X E (.BoolOp .And (b :: rest) pos) wb) : QE .D X E (.BoolOp .And (a :: b :: rest) pos) (dAndV wa wb) := ⟨pd_and ha.h hb.h⟩
theorem qw_or1 {a : Expr} {pos : Pos} {ta : DT} (ha : QT X E a ta) : QW X E (.BoolOp .Or [a] pos) ta := ⟨pdw_or1 ha.h⟩
theorem qw_or {a b : Expr} {rest : List Expr} {pos : Pos} {ta tb : DT} (ha : QT X E a ta) (hb : QW X E (.BoolOp .Or (b :: rest) pos) tb) : QW X E (.BoolOp .Or (a :: b :: rest) pos) (dOr ta tb) := ⟨pdw_or ha.h hb.h⟩
theorem q_pw {e : Expr} {t : DT} (h : QW X E e t) : QT X E e t := ⟨PW.pt h.h⟩
theorem qt_not {a : Expr} {pos : Pos} {ta : DT} (ha : QT X E a ta) : QT X E (.UnaryOp .Not a pos) (dNot ta) := ⟨pdt_not ha.h⟩
theorem q_one {op} {a : Expr} {pos : Pos} {w : DE} (h : QE .D X E a w) : QE .D X E (.BoolOp op [a] pos) w := ⟨pd_one h.h⟩
theorem q_not {a : Expr} {pos : Pos} {wa : DE} (ha : QE .P X E a wa) : QE .D X E (.UnaryOp .Not a pos) (dNotV wa) := ⟨pd_not ha.h⟩
theorem q_ifE {c a b : Expr} {pos : Pos} {ta : DT} {wa wb : DE} (hc : QT X E c ta) (ha : QE .D X E a wa) (hb : QE .D X E b wb) : QE .D X E (.IfExp c a b pos) (dIfE ta wa wb) := ⟨pd_ifE hc.h ha.h hb.h⟩
theorem qa_nil {m : Md} : QA 0 m X E [] dNil := ⟨pda_nil⟩
theorem qa_D {n : Nat} {e : Expr} {es : List Expr} {we : DE} {wr : DAr} (he : QE .D X E e we) (hr : QA n .D X E es wr) (hs : notStar e = true := by rfl) : QA (n + 1) .D X E (e :: es) (dCons we wr) := ⟨pda_consD he.h hr.h hs⟩
theorem qa_P {n : Nat} {e : Expr} {es : List Expr} {we : DE} {wr : DAr} (he : QE .P X E e we) (hr : QA n .P X E es wr) (hs : notStar e = true := by rfl) : QA (n + 1) .P X E (e :: es) (dCons we wr) := ⟨pda_consP he.h hr.h hs⟩
theorem q_tup {n : Nat} {es : List Expr} {w : DAr} {x1} {pos : Pos} (h : QA n .D X E es w) (hn : n ≤ 1000 := by decide) : QE .F X E (.Tuple es x1 pos) (dTup w) := ⟨pd_tup h.h hn⟩
theorem q_lst {n : Nat} {es : List Expr} {w : DAr} {pos : Pos} (h : QA n .D X E es w) (hn : n ≤ 1000 := by decide) : QE .F X E (.List es pos) (dLst w) := ⟨pd_lst h.h hn⟩
theorem q_callB {x : Str} {bid : String} {p pos : Pos} {e : Expr} {es : List Expr} {n : Nat} {wr : DAr} {r : List V → Hp → VK → Prop} {rD : List PyData → (PyData → Prop) → Prop} (hc : CallR X (.builtin bid) r) (hd : CallD r rD) (hg : Gl X x) (hm : X.mg x = none) (hv : bootBuiltins x = some (.builtin bid)) (ha : QA n .P X E (e :: es) wr) (hn : x ≠ "__name__" := by decide) (hdb : (x == ("__debug__" : Str)) = false := by decide) (he : starEach (e :: es) X.env = (false, eval e X.env) :: starEach es X.env := by rfl) (hpl : (backTo pos (starEach es X.env)).any (·.1) = false := by rfl) : QE .F X E (.Call (.Name x p) (e :: es) [] pos) (dCB rD wr) := ⟨pd_callB hc hd hg hm hv ha.h hn hdb he hpl⟩
theorem q_callTy {x : Str} {T : String} {p pos : Pos} {e : Expr} {es : List Expr} {n : Nat} {wr : DAr} {r : List V → Hp → VK → Prop} {rD : List PyData → (PyData → Prop) → Prop} (hc : CallR X (.type T) r) (hd : CallD r rD) (hg : Gl X x) (hm : X.mg x = none) (hv : bootBuiltins x = some (.type T)) (ha : QA n .P X E (e :: es) wr) (hn : x ≠ "__name__" := by decide) (hdb : (x == ("__debug__" : Str)) = false := by decide) (he : starEach (e :: es) X.env = (false, eval e X.env) :: starEach es X.env := by rfl) (hpl : (backTo pos (starEach es X.env)).any (·.1) = false := by rfl) : QE .F X E (.Call (.Name x p) (e :: es) [] pos) (dCB rD wr) := ⟨pd_callTy hc hd hg hm hv ha.h hn hdb he hpl⟩
theorem q_inst {e : Expr} {we : DE} {p pos pos2 : Pos} {x : Str} (tn : Tn) (hg : Gl X "isinstance") (hm : X.mg "isinstance" = none) (he : QE .P X E e we) (hg2 : Gl X x) (hm2 : X.mg x = none) (hv : bootBuiltins x = some (.type tn.s)) (hn : x ≠ "__name__" := by decide) (hd : (x == ("__debug__" : Str)) = false := by decide) (h1 : notStar e = true := by rfl) : QE .F X E (.Call (.Name "isinstance" p) [e, .Name x pos2] [] pos) (dInst tn we) := ⟨pd_inst tn hg hm he.h (pb_ty tn hg2 hm2 hv hn hd) h1 rfl⟩
theorem qs_nil  : QAs X E [] sNil := ⟨pds_nil⟩
theorem qs_v {e : Expr} {es : List Expr} {we : DE} {wr : DSl} (he : QE .D X E e we) (hr : QAs X E es wr) (hs : notStar e = true := by rfl) : QAs X E (e :: es) (sV we wr) := ⟨pds_v he.h hr.h hs⟩
theorem qs_pot (i : Nat) {x : Str} {pos : Pos} {es : List Expr} {wr : DSl} (hr : QAs X E es wr) (hN : X.N[i]? = some x := by rfl) (hv : Vis X.env.scope x := by first | exact Or.inl rfl | exact Or.inr (Or.inl rfl) | exact Or.inr (Or.inr rfl)) (hd : (x == ("__debug__" : Str)) = false := by decide) (hcd : (x == ("__classdict__" : Str)) = false := by decide) : QAs X E (.Name x pos :: es) (sPot i wr) := ⟨pds_pot (pv i hN hv hd hcd) hr.h rfl⟩
theorem q_call {CX : CXT} {k : Nat} {f : Addr} {fd : FuncData} {ps : List Str} {x : Str} {p pos : Pos} {e : Expr} {es : List Expr} {fD : DF} {wa : DSl} (G : FnOk X.prog X.w X.K X.mg X.base CX k f fd ps (toSp false fD)) (hr : Room k X.A) (hg : Gl X x) (hm : X.mg x = some (.ref f)) (hk : PySem.W.keepIn X.K (.ref f) = true) (hb : Binds X.K fd ps []) (hx : Passes CX X E) (ha : QAs X E (e :: es) wa) (hdb : (x == ("__debug__" : Str)) = false := by decide) (he : starEach (e :: es) X.env = (false, eval e X.env) :: starEach es X.env := by rfl) (hpl : (backTo pos (starEach es X.env)).any (·.1) = false := by rfl) : QE .D X E (.Call (.Name x p) (e :: es) [] pos) (dCall fD wa) := ⟨pd_call G hr hg hm hk hb hx ha.h hdb he hpl⟩
theorem q_callF {CX : CXT} {k : Nat} {f : Addr} {fd : FuncData} {ps : List Str} {x : Str} {p pos : Pos} {e : Expr} {es : List Expr} {fD : DF} {wa : DSl} (G : FnOk X.prog X.w X.K X.mg X.base CX k f fd ps (toSp true fD)) (hr : Room k X.A) (hg : Gl X x) (hm : X.mg x = some (.ref f)) (hk : PySem.W.keepIn X.K (.ref f) = true) (hb : Binds X.K fd ps []) (hx : Passes CX X E) (ha : QAs X E (e :: es) wa) (hdb : (x == ("__debug__" : Str)) = false := by decide) (he : starEach (e :: es) X.env = (false, eval e X.env) :: starEach es X.env := by rfl) (hpl : (backTo pos (starEach es X.env)).any (·.1) = false := by rfl) : QE .F X E (.Call (.Name x p) (e :: es) [] pos) (dCall fD wa) := ⟨pd_callF G hr hg hm hk hb hx ha.h hdb he hpl⟩
theorem q_callS0 {CX : CXT} {k : Nat} {f : Addr} {fd : FuncData} {ps : List Str} {x : Str} {p pos : Pos} {e : Expr} {es : List Expr} {fD : DF} {n : Nat} {fr : Bool} {wr : DAr} (G : FnOk X.prog X.w X.K X.mg X.base CX k f fd ps (toSp fr fD)) (hr : Room k X.A) (hg : Gl X x) (hm : X.mg x = some (.ref f)) (hk : PySem.W.keepIn X.K (.ref f) = true) (hb : Binds X.K fd ps []) (hx : Passes CX X E) (ha : QA n .P X E (e :: es) wr) (hdb : (x == ("__debug__" : Str)) = false := by decide) (he : starEach (e :: es) X.env = (false, eval e X.env) :: starEach es X.env := by rfl) (hpl : (backTo pos (starEach es X.env)).any (·.1) = false := by rfl) : QE .F X E (.Call (.Name x p) (e :: es) [] pos) (dCallS0 fD wr) := ⟨pd_callS0 G hr hg hm hk hb hx ha.h hdb he hpl⟩
theorem q_cell {k : Nat} {f : Addr} {fd : FuncData} {ps : List Str} {x y : Str} {p pos pos2 : Pos} {b : Expr} {wb : DE} (i : Nat) (G : FnOk X.prog X.w X.K X.mg X.base CX0 k f fd ps (spCellAt X.K)) (hr : Room k X.A) (hg : Gl X x) (hm : X.mg x = some (.ref f)) (hk : PySem.W.keepIn X.K (.ref f) = true) (hb : Binds X.K fd ps []) (h : QE .P X E b wb) (hN : X.N[i]? = some y := by rfl) (hv : Vis X.env.scope y := by first | exact Or.inl rfl | exact Or.inr (Or.inl rfl) | exact Or.inr (Or.inr rfl)) (hd : (y == ("__debug__" : Str)) = false := by decide) (hcd : (y == ("__classdict__" : Str)) = false := by decide) (h2 : notStar b = true := by rfl) (hdb : (x == ("__debug__" : Str)) = false := by decide) : QE .F X E (.Call (.Name x p) [.Name y pos2, b] [] pos) (dCell i wb) := ⟨pd_cell G hr hg hm hk hb (pv i hN hv hd hcd) h.h rfl h2 hdb⟩
theorem q_lenS {y : Str} {p pos pos2 : Pos} (i : Nat) (hg : Gl X "len") (hm : X.mg "len" = none) (hN : X.N[i]? = some y := by rfl) (hv : Vis X.env.scope y := by first | exact Or.inl rfl | exact Or.inr (Or.inl rfl) | exact Or.inr (Or.inr rfl)) (hd : (y == ("__debug__" : Str)) = false := by decide) (hcd : (y == ("__classdict__" : Str)) = false := by decide) : QE .F X E (.Call (.Name "len" p) [.Name y pos2] [] pos) (dLenS i) := ⟨pd_lenS hg hm (pv i hN hv hd hcd) rfl⟩
theorem qg_name (i : Nat) {x : Str} {pos : Pos} (hN : X.N.Nodup) (hi : X.N[i]? = some x) (hx : Loc X.env.scope x) (hf : X.fn x = true ∨ X.env.scope.names.lookup x = some .local := by first | exact .inl rfl | exact .inr rfl | assumption) : QG [i] X (.Name x pos) (gN i) := ⟨pdg_name (pg_name hN hi hx hf)⟩
structure QGs (X : Cx) (es : List Expr) (is : List Nat) : Prop where h : PGs X es (gNs is)
theorem qg_nil  : QGs X [] [] := ⟨pgs_nil⟩
theorem qg_cons (i : Nat) {is : List Nat} {x : Str} {pos : Pos} {es : List Expr} (h : QGs X es is) (hN : X.N.Nodup) (hi : X.N[i]? = some x) (hx : Loc X.env.scope x) (hf : X.fn x = true ∨ X.env.scope.names.lookup x = some .local := by first | exact .inl rfl | exact .inr rfl | assumption) (hs : (assignEach (.Name x pos :: es) X.env).map (·.2) = assign (.Name x pos) X.env :: (assignEach es X.env).map (·.2) := by rfl) : QGs X (.Name x pos :: es) (i :: is) := ⟨pgs_cons (pg_name hN hi hx hf) h.h hs⟩
theorem qg_tup {es : List Expr} {k : Nat} {pos : Pos} {is : List Nat} (hc : X.calm = true) (h : QGs X es is) (hn : (assignEach es X.env).length = is.length := by rfl) (hst : (assignEach es X.env).findIdx? (·.1) = none := by rfl) : QG is X (.Tuple es k pos) (gTN is) := ⟨pdg_tup (pg_tup hc h.h hn hst) rfl⟩
theorem qi_list {m : Md} {tg e : Expr} {w : DE} (h : QE m X E e w) : QI m X E tg e (dItL w) := ⟨pdi_list h.h⟩
theorem qi_rng1 {m : Md} {tg e : Expr} {w : DE} {p pos : Pos} (hg : Gl X "range") (hm : X.mg "range" = none) (h : QE .P X E e w) (hs : notStar e = true := by rfl) : QI m X E tg (.Call (.Name "range" p) [e] [] pos) (dRng1 w) := ⟨pdi_rng1 hg hm h.h hs⟩
theorem qi_rng2 {m : Md} {tg e e' : Expr} {w w' : DE} {p pos : Pos} (hg : Gl X "range") (hm : X.mg "range" = none) (h : QE .P X E e w) (h' : QE .P X E e' w') (hs : notStar e = true := by rfl) (hs' : notStar e' = true := by rfl) : QI m X E tg (.Call (.Name "range" p) [e, e'] [] pos) (dRng2 w w') := ⟨pdi_rng2 hg hm h.h h'.h hs hs'⟩
theorem qi_zipL {m : Md} {e e' : Expr} {w w' : DE} {p pos tpos : Pos} {elts : List Expr} {x1} (hg : Gl X "zip") (hm : X.mg "zip" = none) (h : QE m X E e w) (h' : QE m X E e' w') (hs : notStar e = true := by rfl) (hs' : notStar e' = true := by rfl) : QI m X E (.Tuple elts x1 tpos) (.Call (.Name "zip" p) [e, e'] [] pos) (dZiL w w') := ⟨pdi_zipL hg hm h.h h'.h hs hs'⟩
theorem qts_nil  : QTs X E [] dNoT := ⟨pdts_nil⟩
theorem qts_one {c : Expr} {t : DT} (h : QT X E c t) : QTs X E [c] t := ⟨pdts_one h.h⟩
theorem q_comp (M : List Str) (cap : List (Option Nat)) {elt tg iter : Expr} {ifs : List Expr} {scope : Scope} {pos : Pos} {ix : List Nat} {wi : DI} {wg : DG} {wt : DT} {we : DE} (hi : QI .P X E tg iter wi) (hb : ∀ cl ex s3 H3 C, QG ix (blk X M scope cl ex s3 H3 C) tg wg ∧ QTs (blk X M scope cl ex s3 H3 C) E0 ifs wt ∧ QE .D (blk X M scope cl ex s3 H3 C) E0 elt we) (hc : X.calm = true := by rfl) (ok : capOk X.N X.env.scope M scope cap = true := by rfl) (hf : freeT cap ix = true := by rfl) (hs : ∀ x, foldedSetIterable iter X.env x = pure x := by intro _; rfl) : QE .F X E (.ListComp elt [⟨tg, iter, ifs, 0⟩] scope pos) (dComp cap wi wg wt we) := ⟨pd_comp hc ok hf hi.h (fun cl ex s3 H3 C => ⟨(hb cl ex s3 H3 C).1.h, (hb cl ex s3 H3 C).2.1.h, (hb cl ex s3 H3 C).2.2.h⟩) hs⟩
theorem qss_nil  : QSs X E [] dSkip := ⟨pds_snil⟩
theorem qss_one {st : Stmt} {w : DS} (h : QS X E st w) : QSs X E [st] w := ⟨pds_one h.h⟩
theorem qss_cons {st : Stmt} {rest : List Stmt} {w w' : DS} (h : QS X E st w) (h' : QSs X E rest w') : QSs X E (st :: rest) (dSeq w w') := ⟨pds_cons h.h h'.h⟩
theorem qss_never {sts : List Stmt} : QSs X E sts (fun _ _ => False) := ⟨pds_never⟩
theorem qs_set (i : Nat) {x : Str} {e : Expr} {pos pos' : Pos} {we : DE} (he : QE .D X E e we) (hN : X.N.Nodup) (hi : X.N[i]? = some x := by rfl) (hx : Loc X.env.scope x := by first | exact Or.inl rfl | exact Or.inr rfl) (hs : swapsWith e (some (.Name x pos')) pos.line X.env = pure false := by rfl) (hf : X.fn x = true ∨ X.env.scope.names.lookup x = some .local := by first | exact .inl rfl | exact .inr rfl | assumption) : QS X E (.Assign [.Name x pos'] e pos) (dSet i we) := ⟨pds_set (ps_set hN hi hx he.h hs hf)⟩
theorem qs_setF (i : Nat) {x : Str} {e : Expr} {pos pos' : Pos} {we : DE} (he : QE .F X E e we) (hN : X.N.Nodup) (hi : X.N[i]? = some x := by rfl) (hx : Loc X.env.scope x := by first | exact Or.inl rfl | exact Or.inr rfl) (hs : swapsWith e (some (.Name x pos')) pos.line X.env = pure false := by rfl) (hf : X.fn x = true ∨ X.env.scope.names.lookup x = some .local := by first | exact .inl rfl | exact .inr rfl | assumption) : QS X E (.Assign [.Name x pos'] e pos) (dSetF i we) := ⟨pds_setF (ps_set hN hi hx he.h hs hf)⟩
theorem qs_setP (i : Nat) {x : Str} {e : Expr} {pos pos' : Pos} {we : DE} (he : QE .F X E e we) (hN : X.N.Nodup) (hi : X.N[i]? = some x := by rfl) (hx : Loc X.env.scope x := by first | exact Or.inl rfl | exact Or.inr rfl) (hs : swapsWith e (some (.Name x pos')) pos.line X.env = pure false := by rfl) (hf : X.fn x = true ∨ X.env.scope.names.lookup x = some .local := by first | exact .inl rfl | exact .inr rfl | assumption) : QS X E (.Assign [.Name x pos'] e pos) (dSetP i we) := ⟨pds_setP (ps_set hN hi hx he.h hs hf)⟩
theorem qs_par (i j : Nat) {x y : Str} {a b : Expr} {n : Nat} {wa : DAr} {pos px py pt : Pos} {kt k2 pt2} (ha : QA n .D X E [a, b] wa) (hN : X.N.Nodup) (hc : X.calm = true := by rfl) (hi : X.N[i]? = some x := by rfl) (hj : X.N[j]? = some y := by rfl) (hij : i ≠ j := by decide) (hx : X.env.scope.names.lookup x = some .local := by rfl) (hy : X.env.scope.names.lookup y = some .local := by rfl) (hw : swappedStores [.Tuple [.Name x px, .Name y py] kt pt] (.Tuple [a, b] k2 pt2) X.env = pure (some [x, y]) := by rfl) (hs : swapsWithSole [.Tuple [.Name x px, .Name y py] kt pt] (.Tuple [a, b] k2 pt2) pos.line X.env = pure false := by rfl) : QS X E (.Assign [.Tuple [.Name x px, .Name y py] kt pt] (.Tuple [a, b] k2 pt2) pos) (dPar i j wa) := ⟨pds_par (ps_par hc hN hi hj hij hx hy ha.h hw hs)⟩
theorem qs_ret {e : Expr} {pos : Pos} {we : DE} (h : QE .D X E e we) : QS X E (.Return (some e) pos) (dRet we) := ⟨pds_ret h.h⟩
theorem qs_retF {e : Expr} {pos : Pos} {we : DE} (h : QE .F X E e we) : QS X E (.Return (some e) pos) (dRetF we) := ⟨pds_retF h.h⟩
theorem qs_retO (i : Nat) {x : Str} {pos pos2 : Pos} (hN : X.N[i]? = some x := by rfl) (hv : Vis X.env.scope x := by first | exact Or.inl rfl | exact Or.inr (Or.inl rfl) | exact Or.inr (Or.inr rfl)) (hd : (x == ("__debug__" : Str)) = false := by decide) (hcd : (x == ("__classdict__" : Str)) = false := by decide) : QS X E (.Return (some (.Name x pos)) pos2) (dRetO i) := ⟨pds_retO (pv i hN hv hd hcd)⟩
theorem qs_if {c : Expr} {a b : List Stmt} {pos : Pos} {t : DT} {w w' : DS} (hc : QT X E c t) (ha : QSs X E a w) (hb : QSs X E b w') : QS X E (.If c a b pos) (dIf t w w') := ⟨pds_if hc.h ha.h hb.h⟩
theorem qs_aug (i : Nat) {x : Str} {e : Expr} {we : DE} {op : Operator} {ti : TIp} {rD : PyData → PyData → (PyData → Prop) → Prop} {pos pos' : Pos} (ho : PIp X op ti) (hd : OpDn ti rD) (he : QE .P X E e we) (hN : X.N.Nodup) (hi : X.N[i]? = some x := by rfl) (hx : Loc X.env.scope x := by first | exact Or.inl rfl | exact Or.inr rfl) (hf : X.fn x = true ∨ X.env.scope.names.lookup x = some .local := by first | exact .inl rfl | exact .inr rfl | assumption) : QS X E (.AugAssign (.Name x pos') op e pos) (dAug i rD we) := ⟨pds_aug hd (ps_aug hN hi hx he.h (PIp.len ho) hf)⟩
theorem qs_app {y : Str} {e : Expr} {we : DE} {apos cpos pos npos : Pos} (i : Nat) (he : QE .D X E e we) (hN : X.N[i]? = some y := by rfl) (hv : Vis X.env.scope y := by first | exact Or.inl rfl | exact Or.inr (Or.inl rfl) | exact Or.inr (Or.inr rfl)) (hd : (y == ("__debug__" : Str)) = false := by decide) (hcd : (y == ("__classdict__" : Str)) = false := by decide) (hst : notStar e = true := by rfl) (hbase : attributeBase (.Name y npos) "append" X.env (eval (.Name y npos) X.env) = eval (.Name y npos) X.env := by rfl) (hfew : ((backTo cpos (starEach [e] X.env)).all (fun x => !x.1) && (backToKw cpos (keywordEach [] X.env)).all (fun x => x.1.isSome) && decide ([e].length + ([] : List Keyword).length + (if ([] : List Keyword).isEmpty then 0 else 1) < 30)) = true := by rfl) (hline : (apos.endLine == cpos.line) = true := by rfl) (hsw : swapsWith (.Call (.Attribute (.Name y npos) "append" apos) [e] [] cpos) none pos.line X.env = pure false := by rfl) : QS X E (.Expr (.Call (.Attribute (.Name y npos) "append" apos) [e] [] cpos) pos) (dApp i we) := ⟨pds_app (ps_expr (pe_bm PySem.F.plainAttrs_list PySem.F.slot_list_append PySem.F.type_list_append mt_append (pv i hN hv hd hcd) (pa_c he.h pa_nil hst) hbase hfew hline (star_of hst) rfl) hsw)⟩
theorem qs_ext {y : Str} {e : Expr} {we : DE} {apos cpos pos npos : Pos} (i : Nat) (he : QE .P X E e we) (hN : X.N[i]? = some y := by rfl) (hv : Vis X.env.scope y := by first | exact Or.inl rfl | exact Or.inr (Or.inl rfl) | exact Or.inr (Or.inr rfl)) (hd : (y == ("__debug__" : Str)) = false := by decide) (hcd : (y == ("__classdict__" : Str)) = false := by decide) (hst : notStar e = true := by rfl) (hbase : attributeBase (.Name y npos) "extend" X.env (eval (.Name y npos) X.env) = eval (.Name y npos) X.env := by rfl) (hfew : ((backTo cpos (starEach [e] X.env)).all (fun x => !x.1) && (backToKw cpos (keywordEach [] X.env)).all (fun x => x.1.isSome) && decide ([e].length + ([] : List Keyword).length + (if ([] : List Keyword).isEmpty then 0 else 1) < 30)) = true := by rfl) (hline : (apos.endLine == cpos.line) = true := by rfl) (hsw : swapsWith (.Call (.Attribute (.Name y npos) "extend" apos) [e] [] cpos) none pos.line X.env = pure false := by rfl) : QS X E (.Expr (.Call (.Attribute (.Name y npos) "extend" apos) [e] [] cpos) pos) (dExt i we) := ⟨pds_ext (ps_expr (pe_bm PySem.F.plainAttrs_list PySem.F.slot_list_extend PySem.F.type_list_extend mt_extend (pv i hN hv hd hcd) (pa_c he.h pa_nil hst) hbase hfew hline (star_of hst) rfl) hsw)⟩
theorem qs_for {tg iter : Expr} {body : List Stmt} {pos : Pos} {ix : List Nat} {wi : DI} {wg : DG} {wb : DS} (hp : PassesOwn (model X.prog X.w) X.A X.env X.xe) (hc : X.calm = true) (hi : QI .D X E tg iter wi) (hg : QG ix X tg wg) (hb : QSs X E body wb) (hs : ∀ x, foldedSetIterable iter X.env x = pure x := by intro _; rfl) : QS X E (.For tg iter body [] pos) (dFor wi wg wb) := ⟨pds_for hp hc hi.h hg.h hb.h hs⟩
theorem qs_expr {e : Expr} {we : DE} {pos : Pos} (he : QE .P X E e we) (hs : swapsWith e none pos.line X.env = pure false := by rfl) : QS X E (.Expr e pos) (dExpr we) := ⟨pds_expr (ps_expr he.h hs)⟩
end
section
variable {P : Program} {w : World} {K : PySem.W.Frag} {mg : Str → Option Value} {base : Heap}
theorem okQ {x qual : Str} {st : Stmt} {f : Addr} {fd : FuncData} {N ps : List Str} {k : Nat} {fD : DF} (fr : Bool) (F : Fun K x qual st f fd) (S : FnScope N ps (defScope st)) (len : ∀ args R EX, fD args R EX → args.length = ps.length)
    (hbody : ∀ (cdv : Value) (A : Around) (outer : List Env) (s : Shared) (H : Hp) (E : XK), Room k (A.deeper (envOfC qual (defScope st) s.heap.objs.size f cdv)) →
      ∃ wd, QSs (cxOf CX0 P w K mg base N qual (defScope st) f cdv A outer s H E).nox E0 (defBody st) wd ∧ ∀ args R EX, fD args R EX → wd (endsD fr R XF) (stD N args)) : FnOk P w K mg base CX0 (k + 1) f fd ps (toSp fr fD) :=
  okD fr F S len fun cdv A outer s H E hr => let ⟨wd, h, q⟩ := hbody cdv A outer s H E hr; ⟨wd, h.h, q⟩
theorem okQL {x qual : Str} {st : Stmt} {f : Addr} {fd : FuncData} {N : List Str} {p : Str} {k : Nat} (F : Fun K x qual st f fd) (S : FnScope N [p] (defScope st))
    (hbody : ∀ (cdv : Value) (A : Around) (outer : List Env) (s : Shared) (H : Hp) (E : XK), Room k (A.deeper (envOfC qual (defScope st) s.heap.objs.size f cdv)) →
      ∃ wd, QSs (cxOf CX0 P w K mg base N qual (defScope st) f cdv A outer s H E).nox E0 (defBody st) wd ∧ wd endsL (stD N [.scr])) : FnOk P w K mg base CX0 (k + 1) f fd [p] (spLawD K) :=
  okLaw F S fun cdv A outer s H E hr => let ⟨wd, h, q⟩ := hbody cdv A outer s H E hr; ⟨wd, h.h, q⟩
end
end Dl
namespace Dl
open PySem PySem.Spec PyProof.Rows L2 _root_.Rd Rk
section
variable {K : PySem.W.Frag} {σ σ4 : L2.St} {δ δ4 : Sts} {cap : List (Option Nat)} {ix : List Nat} {A1 : Addr → Prop} {H3 H5 H6 : Hp}
end
section
variable {X : Cx} {E : XK}
end
section
variable {X : Cx} {E : XK}
end
section
open Rs PySem.W PySem.Calls
variable {X : Cx}
end
theorem ints_das {A : Addr → Prop} {H : Hp} : ∀ ms : List Int, DAs A H (ms.map V.int) (ms.map .int)
  | [] => .nil
  | m :: ms => .cons (.int m) (ints_das ms)
end Dl
namespace PySem
namespace AutoSeq1
open PyProof PyProof.Rows
end AutoSeq1
end PySem
namespace L2
open PySem PySem.Spec PyProof.Rows
end L2
namespace Dl
open PySem PySem.Spec PyProof.Rows L2 _root_.Rd Rk
section
variable {X : Cx} {E : XK}
end
end Dl
namespace Dl
open PySem PySem.Spec PyProof.Rows L2 _root_.Rd Rk
theorem comp_read {K : PySem.W.Frag} {E : XK} {cap : List (Option Nat)} {ix : List Nat} {wi : DI} {wg : DG} {wt : DT} {we : DE} (hf : freeT cap ix = true) (σ : L2.St) (H : Hp) (Q : VK) (h : tX .F K E (dComp cap wi wg wt we) σ H Q) :
    tComp cap (tI .P K E wi) (tG ix K wg) (tT K E0 wt) (tX .D K E0 we) σ H Q := by
  obtain ⟨F, δ, R, EX, rel, hw, k, o⟩ := h
  refine ⟨F, δ, _, EX, rel, hw, fun items hC J H1 rel1 kp1 ⟨ln, it⟩ p hp => ?_, o⟩
  unfold CompR at hC
  obtain ⟨Iv, i0, step, fin⟩ := hC
  have hpn : ¬ PotA σ δ p := fun z => by obtain ⟨xs, e⟩ := rel1.isl (pot_av (F := F) z); rw [hp] at e; cases e
  let A1 : Addr → Prop := fun a => Av F σ δ a ∨ a = p
  have hP : ∀ a, PotA σ δ a → A1 a := fun a z => .inl (pot_av z)
  have hN : ∀ a, A1 a → Av F σ δ a ∨ H1 a = none := fun a z => z.elim .inl fun z => .inr (by rw [z]; exact hp)
  have dmK : ∀ {H2 : Hp}, Kp σ δ H1 H2 → (∃ ys, H2 p = some (.lst ys)) → ∀ a, A1 a → ∃ xs, H2 a = some (.lst xs) := fun {H2} k2 e2 a z => by
    rcases z with z | z
    · exact (rel1.kp k2).isl z
    · rw [z]; exact e2
  refine loop_by items.length (fun i H2 => i ≤ items.length ∧ ∃ acc, Iv i acc ∧ acc.length ≤ i ∧ Lp σ δ A1 p H1 H2 acc) ⟨Nat.zero_le _, [], i0, Nat.le_refl _, Kp.same rel1 (same_upd hp), [], upd_same, .nil⟩ (fun i H2 hi ⟨_, acc, iv, hl, lp⟩ => ?_) fun H2 ⟨_, acc, iv, hl, lp⟩ => ?_
  · obtain ⟨k2, ys, e2, q2⟩ := lp
    obtain ⟨go, _⟩ := it H2 A1 (fun b o n e => k2.1 b o n e) hN (dmK k2 ⟨ys, e2⟩)
    have hd : items[i]? = some items[i] := List.getElem?_eq_getElem hi
    obtain ⟨g1, g2⟩ := go i _ hd
    refine ⟨g1, fun x H3 y kk hk => ?_⟩
    obtain ⟨s3, dx⟩ := g2 x H3 y
    have k23 := Kp.same (rel1.kp k2) s3
    have lp3 : Lp σ δ A1 p H1 H3 acc := Lp.step hP hpn ⟨k2, ys, e2, q2⟩ k23
    refine turn_in hf rel1 (fun a z => .inl z) hN (dmK lp3.kp ⟨ys, s3 _ _ e2⟩) lp3.kp dx (step i acc _ hd iv) (fun σ4 δ4 H5 h5 r5 k5 pots => ?_) fun h5 H5 k5 => hk _ ⟨hi, acc, h5, by omega, lp3.step hP hpn k5⟩
    exact elt_in (.inr rfl) hP hp hpn (lp3.step hP hpn k5) (by omega) r5 pots h5 fun e he H' lp' => hk _ ⟨hi, acc ++ [e], he, by rw [List.length_append]; show _ + 1 ≤ _; omega, lp'⟩
  · obtain ⟨k2, ys, e2, q2⟩ := lp
    obtain ⟨_, st⟩ := it H2 A1 (fun b o n e => k2.1 b o n e) hN (dmK k2 ⟨ys, e2⟩)
    refine ⟨st, k _ (fin acc iv) (.ref p) H2 (rel1.kp k2) (kp1.trans k2) ⟨.lst (fun z => ?_) e2 (q2.mv (fun _ _ _ e => e) fun a z => .inl (.inl z)), fun l e1 _ => ?_⟩⟩
    · obtain ⟨xs, e⟩ := rel1.isl z
      rw [hp] at e; cases e
    · cases e1
      exact kp_none kp1 hp
theorem fToD {K : PySem.W.Frag} {E : XK} {w : DE} (σ : L2.St) (H : Hp) (Q : VK) (h : tX .D K E w σ H Q) : tX .F K E w σ H Q := by
  obtain ⟨F, δ, R, EX, rel, hw, k, o⟩ := h
  exact ⟨F, δ, R, EX, rel, hw, fun d hd v H' r kp vk => k d hd v H' r kp vk.1, o⟩
section
variable {X : Cx} {E : XK}
theorem qs_comp (M : List Str) (cap : List (Option Nat)) (i : Nat) {elt tg iter : Expr} {ifs : List Expr} {scope : Scope} {pos py spos : Pos} {y : Str} {ix : List Nat} {wi : DI} {wg : DG} {wt : DT} {we : DE} (hN : X.N.Nodup) (hi : QI .P X E tg iter wi) (hb : ∀ cl ex s3 H3 C, QG ix (blk X M scope cl ex s3 H3 C) tg wg ∧ QTs (blk X M scope cl ex s3 H3 C) E0 ifs wt ∧ QE .D (blk X M scope cl ex s3 H3 C) E0 elt we) (hiy : X.N[i]? = some y := by rfl) (hly : X.env.scope.names.lookup y = some .local := by rfl) (hc : X.calm = true := by rfl) (ok : capOk X.N X.env.scope M scope cap = true := by rfl) (hf : freeT cap ix = true := by rfl) (hs : ∀ x, foldedSetIterable iter X.env x = pure x := by intro _; rfl) (hsw : swapsWith (.ListComp elt [⟨tg, iter, ifs, 0⟩] scope pos) (some (.Name y py)) spos.line X.env = pure true := by rfl) : QS X E (.Assign [.Name y py] (.ListComp elt [⟨tg, iter, ifs, 0⟩] scope pos) spos) (dSet i (dComp cap wi wg wt we)) :=
  ⟨pds_set (PS.imp (PS.imp (ps_lcomp hN hiy hly hc ok hi.h (fun cl ex s3 H3 C => ⟨(hb cl ex s3 H3 C).1.h, (hb cl ex s3 H3 C).2.1.h, (hb cl ex s3 H3 C).2.2.h⟩) hs hsw) fun D σ H q => comp_read (E := E) hf σ H _ q) fun D σ H q => fToD σ H _ q)⟩
end
end Dl
namespace Dl
open PySem PySem.Spec PyProof.Rows L2 _root_.Rd Rk
section
variable {X : Cx} {E : XK}
end
end Dl
namespace Dl
open PySem PySem.Spec PyProof.Rows L2 _root_.Rd Rk
end Dl
namespace Dl
open PySem PySem.Spec PyProof.Rows L2 _root_.Rd Rk
theorem nds_pairs (L : List (Int × Int)) : nds (L.map Rk.pairD) = true := nds_all.mpr fun d hd => by
  obtain ⟨i, _, rfl⟩ := List.mem_map.mp hd
  rfl
end Dl
namespace Dl
open PySem PySem.Spec PyProof.Rows L2 _root_.Rd Rk
end Dl
namespace Rt
open PySem PySem.Spec PySem.Calls PyProof.Rows Dl
section
open PySem.SeqAt
open PySem.AutoSeq1 (wpAny_loadPart')
open PySem.MeetsSeq PySem.MeetsSeq2 PySem.MeetsSeq3
end
end Rt
namespace Rt
open PySem PySem.Spec PySem.Calls PySem.W PyProof.Rows Dl
section
variable {prog : Program} {w : World} {A : Around} {E : Value → Shared → Prop} {s : Shared}
end
end Rt
namespace Rt
open PySem PySem.Spec PySem.Calls PySem.W PyProof.Rows Dl
section
variable {M : Model} {A : Around} {E : Value → Shared → Prop} {s : Shared}
end
section
variable {prog : Program} {w : World} {A : Around} {E : Value → Shared → Prop} {s : Shared}
end
end Rt
namespace Rt
open PySem PySem.Spec PySem.Calls PySem.W PyProof.Rows Dl Rs
section
variable {prog : Program} {w : World} {A : Around} {E : Value → Shared → Prop} {s : Shared}
end
end Rt
namespace L2
open PySem PySem.Spec PySem.Calls PyProof.Rows _root_.Rd _root_.Rk _root_.Rs Rt Dl
section
variable {X : Cx}
end
end L2
namespace Dl
open PySem PySem.Spec PyProof.Rows L2 _root_.Rd Rk Rt
end Dl
namespace L2
open PySem PySem.Spec PySem.Calls PyProof.Rows _root_.Rd _root_.Rk Rt
section
variable {X : Cx}
end
end L2
namespace Dl
open PySem PySem.Spec PyProof.Rows L2 _root_.Rd Rk Rt
theorem any_map {α : Type} (l : List α) (g : α → Bool) : (l.map g).any id = l.any g := by rw [List.any_map]; rfl
section
variable {X : Cx} {E : XK}
end
end Dl
namespace Rk
open PySem PySem.Spec PyProof.Rows L2 _root_.Rd Dl
def inW (d : PyData) (a b : Int) : Bool := match d with
  | .int i => decide (a ≤ i) && decide (i ≤ b)
  | _ => false
theorem inW_t {i a b : Int} (h1 : a ≤ i) (h2 : i ≤ b) : inW (.int i) a b = true := by
  show (decide (a ≤ i) && decide (i ≤ b)) = true
  rw [decide_eq_true h1, decide_eq_true h2]; rfl
def withinD : DF := fun args R _ => ∃ d a b, args = [.v d, .v (.int a), .v (.int b)] ∧ R (.bool (inW d a b))
def refD : DF := fun args R _ => ∃ h w, args = [.v (.int h), .v (.int w)] ∧ 1 ≤ h ∧ h ≤ 12 ∧ 1 ≤ w ∧ w ≤ 12 ∧ R .none
def isNN : PyData → Bool
  | .int i => decide (0 ≤ i)
  | _ => false
def one1 : List PyData → Bool
  | .int i :: _ => decide (i = 1)
  | _ => false
def isCnt (m : Nat) : PyData → Bool
  | .list ds => decide (ds.length = m + 1) && (ds.all isNN && one1 ds)
  | _ => false
def cntD : DF := fun args R _ => ∃ (h w : Int) (d : PyData), args = [.v (.int h), .v (.int w), .v d] ∧ 1 ≤ h ∧ h ≤ 12 ∧ 1 ≤ w ∧ w ≤ 12 ∧ R (.bool (isCnt (min h w).toNat d))
theorem lenI (ns : List Int) : (ns.map PyData.int).length = ns.length := List.length_map _
def ordersD : DF := fun args R _ => ∃ m : Int, args = [.v (.int m)] ∧ 0 ≤ m ∧ m ≤ 12 ∧ R (.int (fctI m.toNat))
def setsD : DF := fun args R _ => ∃ m k : Int, args = [.v (.int m), .v (.int k)] ∧ 0 ≤ m ∧ m ≤ 13 ∧ 0 ≤ k ∧ k ≤ 13 ∧ R (.int (setI m.toNat k.toNat))
def fullI (h w s : Nat) : Int := setI h s * setI w s * fctI s
def fullD : DF := fun args R _ => ∃ h w s : Int, args = [.v (.int h), .v (.int w), .v (.int s)] ∧ 0 ≤ h ∧ h ≤ 12 ∧ 0 ≤ w ∧ w ≤ 12 ∧ 0 ≤ s ∧ s ≤ 12 ∧ R (.int (fullI h.toNat w.toNat s.toNat))
theorem full_small {h w s : Nat} (hh : h ≤ 13) (hw : w ≤ 13) (hs : s ≤ 13) : 0 ≤ setI h s * setI w s ∧ setI h s * setI w s ≤ 1716 * 1716 := by
  have a := set_ok hh hs
  have b := set_ok hw hs
  refine ⟨Int.mul_nonneg a.1 b.1, ?_⟩
  exact Int.le_trans (Int.mul_le_mul_of_nonneg_left b.2.1 a.1) (Int.mul_le_mul_of_nonneg_right a.2.1 (by decide))
theorem nds_ints (ns : List Int) : nds (ns.map PyData.int) = true := nds_all.mpr fun d hd => by
  obtain ⟨i, _, rfl⟩ := List.mem_map.mp hd
  rfl
def restAt (h w : Nat) (c : List Int) (k : Nat) : Int := sumN (k + 1) fun j => sgnI j * c.getD j 0 * fullI (h - j) (w - j) (k - j)
def rcI (h w : Nat) (c : List Int) : List Int := (List.range c.length).map (restAt h w c)
def restcD : DF := fun args R _ => ∃ (h w s : Int) (c : List Int), args = [.v (.int h), .v (.int w), .v (.list (c.map PyData.int)), .v (.int s)] ∧ h ≤ 12 ∧ w ≤ 12 ∧ 0 ≤ s ∧ s < c.length ∧ c.length = (min h w).toNat + 1 ∧ 1 ≤ h ∧ 1 ≤ w ∧ R (.int (restAt h.toNat w.toNat c s.toNat))
theorem cnt_ints {m : Nat} {d : PyData} (h : isCnt m d = true) : ∃ c : List Int, d = .list (c.map PyData.int) ∧ c.length = m + 1 ∧ (∀ x ∈ c, 0 ≤ x) ∧ c.getD 0 0 = 1 := by
  cases d <;> first | (cases h; done) | skip
  rename_i ds
  have h := Bool.and_eq_true_iff.mp (show (decide (ds.length = m + 1) && (ds.all isNN && one1 ds)) = true from h)
  have h2 := Bool.and_eq_true_iff.mp h.2
  have hl := of_decide_eq_true h.1
  obtain ⟨c, rfl⟩ := ints_isW (ds := ds) (List.all_eq_true.mpr fun v hv => by
    have := List.all_eq_true.mp h2.1 v hv
    cases v <;> first | rfl | cases this)
  refine ⟨c, rfl, by rw [← hl, List.length_map], fun x hx => ?_, ?_⟩
  · exact of_decide_eq_true (List.all_eq_true.mp h2.1 (.int x) (List.mem_map.mpr ⟨x, hx, rfl⟩))
  · cases c with
    | nil => cases h2.2
    | cons x c => exact of_decide_eq_true h2.2
theorem full_abs {h w s : Nat} (hh : h ≤ 12) (hw : w ≤ 12) (hs : s ≤ 12) : -(2 ^ 64) < fullI h w s ∧ fullI h w s < 2 ^ 64 := by
  have a := full_small (h := h) (w := w) (s := s) (by omega) (by omega) (by omega)
  have b := fct_ok hs
  unfold fullI
  have c := Int.mul_le_mul_of_nonneg_left b.2 a.1
  have d : setI h s * setI w s * 479001600 ≤ 1716 * 1716 * 479001600 := Int.mul_le_mul_of_nonneg_right a.2 (by decide)
  have e := Int.mul_nonneg a.1 (Int.le_of_lt b.1)
  omega
end Rk
namespace Rx
open PySem PySem.Spec PySem.Calls PyProof.Rows L2
section
variable {X : Cx} {e : Expr} {st : Stmt} {rest : List Stmt} {pos : Pos} {te : TX} {t u : TSX}
end
end Rx
namespace L2
open PySem PySem.Spec PyProof.Rows Dl
end L2
namespace Dl
open PySem PySem.Spec PyProof.Rows L2 _root_.Rd Rk
section
variable {X : Cx}
theorem PEX.imp {e : Expr} {t t' : Rx.TX} (h : Rx.PEX X e t) (i : ∀ σ H Q Ex, t' σ H Q Ex → t σ H Q Ex) : Rx.PEX X e t' := fun pins s σ H Q Ex I q => h pins s σ H Q Ex I (i σ H Q Ex q)
theorem PSX.imp {e : Stmt} {t t' : Rx.TSX} (h : Rx.PSX X e t) (i : ∀ D σ H Ex, t' D σ H Ex → t D σ H Ex) : Rx.PSX X e t' := fun pins s σ H D Ex I q => h pins s σ H D Ex I (i D σ H Ex q)
theorem PSXs.imp {e : List Stmt} {t t' : Rx.TSX} (h : Rx.PSXs X e t) (i : ∀ D σ H Ex, t' D σ H Ex → t D σ H Ex) : Rx.PSXs X e t' := fun pins s σ H D Ex I q => h pins s σ H D Ex I (i D σ H Ex q)
variable {k : Nat} {f : Addr} {fd : FuncData} {ps : List Str} {x : Str} {p pos : Pos} {e : Expr} {es : List Expr} {fD : DF} {wa : DSl}
end
end Dl
namespace Rk
open PySem PySem.Spec PyProof.Rows L2 _root_.Rd Dl Rt
theorem depth_pair2 (p : Int × Int) : (pairD p).depth ≤ 1 := by
  show PyData.depthAll [.int p.1, .int p.2] + 1 ≤ 1
  simp [PyData.depthAll, PyData.depth]
def plt (p q : Int × Int) : Prop := p.1 < q.1 ∨ (p.1 = q.1 ∧ p.2 < q.2)
theorem eqv_pair2 (p q : Int × Int) : PyData.eqv (pairD p) (pairD q) = decide (p = q) := by
  show ((p.1 == q.1) && ((p.2 == q.2) && true)) = _
  obtain ⟨a, b⟩ := p
  obtain ⟨c, d⟩ := q
  by_cases h1 : a = c
  · by_cases h2 : b = d
    · subst h1 h2; simp
    · simp [h1, h2]
  · simp [h1]
theorem any_pair2 (cs : List (Int × Int)) (p : Int × Int) : ((cs.map pairD).any fun c => PyData.eqv c (pairD p)) = decide (p ∈ cs) := by
  rw [List.any_map, Bool.eq_iff_iff, List.any_eq_true, decide_eq_true_iff]
  constructor
  · rintro ⟨c, hc, h⟩
    have : c = p := of_decide_eq_true (by rw [← eqv_pair2]; exact h)
    rw [← this]; exact hc
  · intro h
    refine ⟨p, h, ?_⟩
    show PyData.eqv (pairD p) (pairD p) = true
    rw [eqv_pair2]; simp
def bdD (h w : Int) (cs : List (Int × Int)) : PyData := .tuple [.int h, .int w, .tuple (cs.map pairD)]
end Rk
namespace Rk
open PySem PySem.Spec PyProof.Rows L2 _root_.Rd Dl Rt
def rowF (r n : Nat) (f : Nat → Nat → Bool) : List (Int × Int) := ((List.range n).filter (f r)).map fun (c : Nat) => ((r : Int), (c : Int))
def cellsF (h w : Nat) (f : Nat → Nat → Bool) : List (Int × Int) := (List.range h).flatMap fun r => rowF r w f
theorem cellsF_succ (h w : Nat) (f : Nat → Nat → Bool) : cellsF (h + 1) w f = cellsF h w f ++ rowF h w f := by
  unfold cellsF
  rw [List.range_succ, List.flatMap_append]
  simp
theorem rowF_congr {r n : Nat} {f g : Nat → Nat → Bool} (h : ∀ c, c < n → f r c = g r c) : rowF r n f = rowF r n g := by
  unfold rowF
  congr 1
  exact List.filter_congr fun c hc => h c (List.mem_range.mp hc)
theorem cellsF_congr {h w : Nat} {f g : Nat → Nat → Bool} (q : ∀ r c, r < h → c < w → f r c = g r c) : cellsF h w f = cellsF h w g := by
  induction h with
  | zero => rfl
  | succ h ih => rw [cellsF_succ, cellsF_succ, ih fun r c hr => q r c (by omega), rowF_congr fun c hc => q h c (by omega) hc]
theorem mem_rowF {r n : Nat} {f : Nat → Nat → Bool} {p : Int × Int} : p ∈ rowF r n f ↔ ∃ c : Nat, c < n ∧ f r c = true ∧ p = ((r : Int), (c : Int)) := by
  unfold rowF
  rw [List.mem_map]
  constructor
  · rintro ⟨c, hc, rfl⟩
    have hc := List.mem_filter.mp hc
    exact ⟨c, List.mem_range.mp hc.1, hc.2, rfl⟩
  · rintro ⟨c, hc, hf, rfl⟩
    exact ⟨c, List.mem_filter.mpr ⟨List.mem_range.mpr hc, hf⟩, rfl⟩
theorem mem_cellsF {h w : Nat} {f : Nat → Nat → Bool} {p : Int × Int} : p ∈ cellsF h w f ↔ ∃ r c : Nat, r < h ∧ c < w ∧ f r c = true ∧ p = ((r : Int), (c : Int)) := by
  unfold cellsF
  rw [List.mem_flatMap]
  constructor
  · rintro ⟨r, hr, hp⟩
    obtain ⟨c, hc, hf, rfl⟩ := mem_rowF.mp hp
    exact ⟨r, c, List.mem_range.mp hr, hc, hf, rfl⟩
  · rintro ⟨r, c, hr, hc, hf, rfl⟩
    exact ⟨r, List.mem_range.mpr hr, mem_rowF.mpr ⟨c, hc, hf, rfl⟩⟩
theorem cellsF_bd {h w : Nat} {f : Nat → Nat → Bool} {p : Int × Int} (q : p ∈ cellsF h w f) : 0 ≤ p.1 ∧ p.1 < h ∧ 0 ≤ p.2 ∧ p.2 < w := by
  obtain ⟨r, c, hr, hc, _, rfl⟩ := mem_cellsF.mp q
  exact ⟨Int.natCast_nonneg _, by show (r : Int) < h; omega, Int.natCast_nonneg _, by show (c : Int) < w; omega⟩
theorem rowF_len (r n : Nat) (f : Nat → Nat → Bool) : (rowF r n f).length ≤ n := by
  unfold rowF
  rw [List.length_map]
  exact Nat.le_trans (List.length_filter_le _ _) (by rw [List.length_range]; exact Nat.le_refl _)
theorem cellsF_len (w : Nat) (f : Nat → Nat → Bool) : ∀ h, (cellsF h w f).length ≤ h * w
  | 0 => Nat.zero_le _
  | h + 1 => by
    have := cellsF_len w f h
    have := rowF_len h w f
    rw [cellsF_succ, List.length_append, Nat.succ_mul]
    omega
theorem filter_row_self (r n : Nat) (f : Nat → Nat → Bool) : (rowF r n f).filter (fun p => decide (p.1 = (r : Int))) = rowF r n f := List.filter_eq_self.mpr fun p hp => by
  obtain ⟨c, _, _, rfl⟩ := mem_rowF.mp hp
  exact decide_eq_true rfl
theorem filter_row_none {r k n : Nat} (h : r ≠ k) (f : Nat → Nat → Bool) : (rowF r n f).filter (fun p => decide (p.1 = (k : Int))) = [] := List.filter_eq_nil_iff.mpr fun p hp => by
  obtain ⟨c, _, _, rfl⟩ := mem_rowF.mp hp
  show ¬ decide ((r : Int) = (k : Int)) = true
  rw [decide_eq_false (by omega)]
  exact Bool.false_ne_true
theorem cellsF_row (w k : Nat) (f : Nat → Nat → Bool) : ∀ h, (cellsF h w f).filter (fun p => decide (p.1 = (k : Int))) = if k < h then rowF k w f else []
  | 0 => rfl
  | h + 1 => by
    rw [cellsF_succ, List.filter_append, cellsF_row w k f h]
    by_cases z : k = h
    · subst z
      rw [if_neg (by omega), filter_row_self, if_pos (by omega)]; rfl
    · rw [filter_row_none (fun e => z e.symm), List.append_nil]
      by_cases z2 : k < h
      · rw [if_pos z2, if_pos (by omega)]
      · rw [if_neg z2, if_neg (by omega)]
theorem pw_rowF (r n : Nat) (f : Nat → Nat → Bool) : (rowF r n f).Pairwise plt := by
  unfold rowF
  refine List.Pairwise.map (R := fun a b => a < b) _ (fun a b hab => .inr ⟨rfl, by show (a : Int) < b; omega⟩) ?_
  exact List.Pairwise.filter _ List.pairwise_lt_range
theorem pw_cellsF (w : Nat) (f : Nat → Nat → Bool) : ∀ h, (cellsF h w f).Pairwise plt
  | 0 => .nil
  | h + 1 => by
    rw [cellsF_succ]
    refine List.pairwise_append.mpr ⟨pw_cellsF w f h, pw_rowF h w f, fun p hp q hq => ?_⟩
    obtain ⟨r, c, hr, _, _, rfl⟩ := mem_cellsF.mp hp
    obtain ⟨c', _, _, rfl⟩ := mem_rowF.mp hq
    exact .inl (by show (r : Int) < h; omega)
theorem plt_ne {p q : Int × Int} (h : plt p q) : p ≠ q := fun e => by subst e; rcases h with z | z <;> omega
end Rk
namespace Rk
open PySem PySem.Spec PyProof.Rows L2 _root_.Rd Dl Rt
def rowC (cs : List (Int × Int)) (r : Int) : List (Int × Int) := cs.filter fun p => decide (p.1 = r)
def extS (cells L : List (Int × Int)) : List (List (Int × Int)) := (cells.filter fun c => !decide (c.2 ∈ L.map (·.2))).map fun c => L ++ [c]
def stsN (cs : List (Int × Int)) : Nat → List (List (Int × Int))
  | 0 => [[]]
  | i + 1 => stsN cs i ++ (stsN cs i).flatMap (extS (rowC cs i))
theorem extS_len (cells L : List (Int × Int)) : (extS cells L).length ≤ cells.length := by
  unfold extS
  rw [List.length_map]
  exact List.length_filter_le _ _
theorem flat_len {α β : Type} {f : α → List β} {k : Nat} : ∀ {xs : List α}, (∀ x ∈ xs, (f x).length ≤ k) → (xs.flatMap f).length ≤ xs.length * k
  | [], _ => Nat.zero_le _
  | x :: xs, h => by
    have h1 := h x (.head _)
    have h2 := flat_len (xs := xs) fun y hy => h y (.tail _ hy)
    rw [List.flatMap_cons, List.length_append, List.length_cons, Nat.succ_mul]
    omega
theorem stsN_len {cs : List (Int × Int)} {k : Nat} (h : ∀ r, (rowC cs r).length ≤ k) : ∀ i, (stsN cs i).length ≤ (k + 1) ^ i
  | 0 => Nat.le_refl _
  | i + 1 => by
    have h1 := stsN_len h i
    have h2 := flat_len (xs := stsN cs i) (k := k) fun L _ => Nat.le_trans (extS_len (rowC cs i) L) (h i)
    show (stsN cs i ++ (stsN cs i).flatMap (extS (rowC cs i))).length ≤ _
    rw [List.length_append, Nat.pow_succ, Nat.mul_add, Nat.mul_one]
    have h3 : (stsN cs i).length * k ≤ (k + 1) ^ i * k := Nat.mul_le_mul_right k h1
    omega
theorem mem_extS {cells L M : List (Int × Int)} : M ∈ extS cells L ↔ ∃ c ∈ cells, c.2 ∉ L.map (·.2) ∧ M = L ++ [c] := by
  unfold extS
  rw [List.mem_map]
  constructor
  · rintro ⟨c, hc, rfl⟩
    have hc := List.mem_filter.mp hc
    exact ⟨c, hc.1, by simpa using hc.2, rfl⟩
  · rintro ⟨c, hc, hn, rfl⟩
    exact ⟨c, List.mem_filter.mpr ⟨hc, by simpa using hn⟩, rfl⟩
theorem stsN_ne (cs : List (Int × Int)) : ∀ i, [] ∈ stsN cs i
  | 0 => .head _
  | i + 1 => List.mem_append.mpr (.inl (stsN_ne cs i))
theorem rowC_cellsF (w h : Nat) (f : Nat → Nat → Bool) (r : Int) : (rowC (cellsF h w f) r).length ≤ w := by
  by_cases z : 0 ≤ r
  · obtain ⟨k, rfl⟩ : ∃ k : Nat, r = k := ⟨r.toNat, by omega⟩
    unfold rowC
    rw [cellsF_row]
    split
    · exact rowF_len _ _ _
    · exact Nat.zero_le _
  · have : rowC (cellsF h w f) r = [] := List.filter_eq_nil_iff.mpr fun p hp e => by
      have := cellsF_bd hp
      have := of_decide_eq_true e
      omega
    rw [this]
    exact Nat.zero_le _
end Rk
namespace Rk
open PySem PySem.Spec PyProof.Rows L2 _root_.Rd Dl Rt
def toI : PyData → Int
  | .int i => i
  | _ => 0
theorem toI_ints (ns : List Int) : (ns.map PyData.int).map toI = ns := by
  rw [List.map_map]
  conv => rhs; rw [← List.map_id ns]
  rfl
def tI (ns : List Int) : PyData := .tuple (ns.map PyData.int)
def isLf (L : List (Int × Int)) (p : Int × Int) : Bool := !(L.any fun q => (decide (q.2 = p.2) && decide (q.1 ≥ p.1)) || (decide (q.1 = p.1) && decide (q.2 < p.2)))
end Rk
namespace Rv
open PySem PySem.Spec PyProof.Rows
section
variable {prog : Program} {w : World} {A : Around} {E : Value → Shared → Prop} {s : Shared}
end
end Rv
namespace L2
open PySem PySem.Spec PyProof.Rows
section
variable {X : Cx} {tg : Expr}
end
end L2
namespace L2
open PySem PySem.Spec PyProof.Rows
section
variable {X : Cx}
end
end L2
namespace Dl
open PySem PySem.Spec PyProof.Rows L2 _root_.Rd Rk
section
variable {X : Cx} {E : XK} {st : Stmt} {i : Nat} {we : DE}
end
end Dl
namespace Rk
open PySem PySem.Spec PyProof.Rows L2 _root_.Rd Dl Rt
def sumC (B : Nat → Nat → Int) (t : Nat) : List Nat → Nat → Int
  | [], _ => 0
  | c :: cs, k => (if t.testBit c = true then 0 else B (t ||| 2 ^ c) k) + sumC B t cs k
def stepB (B : Nat → Nat → Int) (cols : List Nat) (t k : Nat) : Int := B t k + if k = 0 then 0 else sumC B t cols (k - 1)
def colN (cs : List (Int × Int)) (r : Nat) : List Nat := (rowC cs r).map fun p => p.2.toNat
def Wc (cs : List (Int × Int)) (h : Nat) : Nat → Nat → Nat → Int
  | 0, _, k => if k = 0 then 1 else 0
  | i + 1, t, k => stepB (Wc cs h i) (colN cs (h - 1 - i)) t k
end Rk
namespace Rk
open PySem PySem.Spec PyProof.Rows L2 _root_.Rd Dl Rt
end Rk
namespace Rk
open PySem PySem.Spec PyProof.Rows L2 _root_.Rd Dl Rt
def sumZ {α : Type} (f : α → Int) : List α → Int
  | [] => 0
  | x :: xs => f x + sumZ f xs
theorem sumZ_app {α : Type} (f : α → Int) : ∀ a b : List α, sumZ f (a ++ b) = sumZ f a + sumZ f b
  | [], b => by show _ = 0 + _; rw [Int.zero_add]; rfl
  | x :: a, b => by show _ + sumZ f (a ++ b) = _ + sumZ f a + _; rw [sumZ_app f a b]; omega
theorem sumZ_flat {α β : Type} (f : β → Int) (g : α → List β) : ∀ a : List α, sumZ f (a.flatMap g) = sumZ (fun x => sumZ f (g x)) a
  | [] => rfl
  | x :: a => by rw [List.flatMap_cons, sumZ_app, sumZ_flat f g a]; rfl
theorem sumZ_congr {α : Type} {f g : α → Int} : ∀ {a : List α}, (∀ x ∈ a, f x = g x) → sumZ f a = sumZ g a
  | [], _ => rfl
  | x :: a, h => by show f x + _ = g x + _; rw [h x (.head _), sumZ_congr fun y hy => h y (.tail _ hy)]
theorem sumZ_add {α : Type} (f g : α → Int) : ∀ a : List α, sumZ (fun x => f x + g x) a = sumZ f a + sumZ g a
  | [] => rfl
  | x :: a => by show (f x + g x) + sumZ _ a = f x + sumZ f a + (g x + sumZ g a); rw [sumZ_add f g a]; omega
theorem sumZ_filter {α : Type} (f : α → Int) (p : α → Bool) : ∀ a : List α, sumZ f (a.filter p) = sumZ (fun x => if p x = true then f x else 0) a
  | [] => rfl
  | x :: a => by
    by_cases z : p x = true
    · rw [List.filter_cons_of_pos z]
      show f x + _ = (if p x = true then f x else 0) + _
      rw [if_pos z, sumZ_filter f p a]
    · rw [List.filter_cons_of_neg z]
      show _ = (if p x = true then f x else 0) + _
      rw [if_neg z, sumZ_filter f p a, Int.zero_add]
theorem sumZ_map {α β : Type} (f : β → Int) (g : α → β) : ∀ a : List α, sumZ f (a.map g) = sumZ (fun x => f (g x)) a
  | [] => rfl
  | x :: a => by show _ + sumZ f (a.map g) = _ + _; rw [sumZ_map f g a]
theorem sumZ_zero {α : Type} : ∀ a : List α, sumZ (fun _ => 0) a = 0
  | [] => rfl
  | x :: a => by show 0 + sumZ _ a = 0; rw [sumZ_zero a]; rfl
theorem sumZ_count {α : Type} (p : α → Bool) : ∀ a : List α, sumZ (fun x => if p x = true then 1 else 0) a = ((a.countP p : Nat) : Int)
  | [] => rfl
  | x :: a => by
    show (if p x = true then 1 else 0) + _ = _
    rw [sumZ_count p a]
    by_cases z : p x = true
    · rw [if_pos z, List.countP_cons_of_pos z]; omega
    · rw [if_neg z, List.countP_cons_of_neg z]; omega
theorem sumC_sumZ {α : Type} (B : Nat → Nat → Int) (t k : Nat) (g : α → Nat) : ∀ a : List α, sumC B t (a.map g) k = sumZ (fun x => if t.testBit (g x) = true then 0 else B (t ||| 2 ^ g x) k) a
  | [] => rfl
  | x :: a => by show _ + sumC B t (a.map g) k = _ + _; rw [sumC_sumZ B t k g a]
def mkL (L : List (Int × Int)) : Nat := L.foldl (fun t p => t ||| 2 ^ p.2.toNat) 0
theorem mkL_snoc (L : List (Int × Int)) (p : Int × Int) : mkL (L ++ [p]) = mkL L ||| 2 ^ p.2.toNat := by
  unfold mkL
  rw [List.foldl_append]; rfl
theorem bit_fold (c : Nat) : ∀ (L : List (Int × Int)) (t : Nat), (L.foldl (fun t p => t ||| 2 ^ p.2.toNat) t).testBit c = (t.testBit c || decide (c ∈ L.map fun p => p.2.toNat))
  | [], t => by simp
  | p :: L, t => by
    rw [List.foldl_cons, bit_fold c L, Nat.testBit_or, Nat.testBit_two_pow, Bool.or_assoc]
    congr 1
    rw [List.map_cons, Bool.eq_iff_iff]
    simp only [Bool.or_eq_true, decide_eq_true_eq, List.mem_cons]
    constructor
    · rintro (z | z)
      · exact .inl z.symm
      · exact .inr z
    · rintro (z | z)
      · exact .inl z.symm
      · exact .inr z
theorem bit_mkL (L : List (Int × Int)) (c : Nat) : (mkL L).testBit c = decide (c ∈ L.map fun p => p.2.toNat) := by
  unfold mkL
  rw [bit_fold]
  simp
theorem stsN_sub {cs : List (Int × Int)} : ∀ i, ∀ L ∈ stsN cs i, ∀ p ∈ L, p ∈ cs
  | 0, L, h, p, hp => by rw [List.mem_singleton.mp h] at hp; cases hp
  | i + 1, L, h, p, hp => by
    rcases List.mem_append.mp (show L ∈ stsN cs i ++ (stsN cs i).flatMap (extS (rowC cs i)) from h) with z | z
    · exact stsN_sub i L z p hp
    · obtain ⟨M, hM, hL⟩ := List.mem_flatMap.mp z
      obtain ⟨c, hc, _, rfl⟩ := mem_extS.mp hL
      rcases List.mem_append.mp hp with y | y
      · exact stsN_sub i M hM p y
      · rw [List.mem_singleton.mp y]; exact (List.mem_filter.mp hc).1
theorem mem_col {L : List (Int × Int)} {c : Int × Int} (hL : ∀ p ∈ L, 0 ≤ p.2) (hc : 0 ≤ c.2) : (c.2.toNat ∈ L.map fun p => p.2.toNat) ↔ c.2 ∈ L.map (·.2) := by
  rw [List.mem_map, List.mem_map]
  constructor
  · rintro ⟨p, hp, e⟩
    refine ⟨p, hp, ?_⟩
    have := hL p hp
    have e : p.2.toNat = c.2.toNat := e
    show p.2 = c.2
    omega
  · rintro ⟨p, hp, e⟩
    exact ⟨p, hp, by show p.2.toNat = c.2.toNat; rw [show p.2 = c.2 from e]⟩
def trm (cs : List (Int × Int)) (h r k : Nat) (L : List (Int × Int)) : Int := if L.length ≤ k then Wc cs h (h - r) (mkL L) (k - L.length) else 0
theorem trm_step {cs : List (Int × Int)} {h r k : Nat} (hr : r < h) (hb : ∀ p ∈ cs, 0 ≤ p.2) {L : List (Int × Int)} (hL : ∀ p ∈ L, p ∈ cs) :
    trm cs h r k L = trm cs h (r + 1) k L + sumZ (trm cs h (r + 1) k) (extS (rowC cs r) L) := by
  have e1 : h - r = (h - (r + 1)) + 1 := by omega
  have e2 : h - 1 - (h - (r + 1)) = r := by omega
  unfold extS
  rw [sumZ_map, sumZ_filter]
  unfold trm
  rw [e1]
  by_cases z : L.length ≤ k
  · rw [if_pos z, if_pos z]
    show stepB (Wc cs h (h - (r + 1))) (colN cs (h - 1 - (h - (r + 1)))) (mkL L) (k - L.length) = _
    rw [e2]
    unfold stepB
    congr 1
    by_cases z2 : k - L.length = 0
    · rw [if_pos z2]
      refine (Eq.trans (sumZ_congr (g := fun _ => 0) fun c hc => ?_) (sumZ_zero _)).symm
      rw [List.length_append, if_neg (show ¬ (L.length + [c].length ≤ k) by show ¬ (L.length + 1 ≤ k); omega)]
      split <;> rfl
    · rw [if_neg z2]
      unfold colN
      rw [sumC_sumZ]
      refine sumZ_congr fun c hc => ?_
      have hc' := hb c (List.mem_filter.mp hc).1
      rw [bit_mkL, mkL_snoc, List.length_append, if_pos (show L.length + [c].length ≤ k by show L.length + 1 ≤ k; omega)]
      have em := mem_col (c := c) (fun p hp => hb p (hL p hp)) hc'
      by_cases y : c.2 ∈ L.map (·.2)
      · rw [if_pos (decide_eq_true (em.mpr y)), if_neg (by simpa using y)]
      · rw [if_neg (by rw [decide_eq_true_eq]; exact fun q => y (em.mp q)), if_pos (by simpa using y)]
        show _ = Wc cs h (h - (r + 1)) _ (k - (L.length + 1))
        rw [show k - L.length - 1 = k - (L.length + 1) by omega]
  · rw [if_neg z, if_neg z, Int.zero_add]
    refine (Eq.trans (sumZ_congr (g := fun _ => 0) fun c hc => ?_) (sumZ_zero _)).symm
    rw [List.length_append, if_neg (show ¬ (L.length + [c].length ≤ k) by show ¬ (L.length + 1 ≤ k); omega)]
    split <;> rfl
theorem ways_all {cs : List (Int × Int)} {h k : Nat} (hb : ∀ p ∈ cs, 0 ≤ p.2) : ∀ r, r ≤ h → sumZ (trm cs h r k) (stsN cs r) = Wc cs h h 0 k
  | 0, _ => by
    show (if 0 ≤ k then Wc cs h (h - 0) (mkL []) (k - 0) else 0) + 0 = _
    rw [if_pos (Nat.zero_le _), Int.add_zero]; rfl
  | r + 1, hr => by
    rw [← ways_all hb r (by omega)]
    show sumZ _ (stsN cs r ++ (stsN cs r).flatMap (extS (rowC cs r))) = _
    rw [sumZ_app, sumZ_flat, ← sumZ_add]
    exact (sumZ_congr fun L hL => trm_step (by omega) hb (stsN_sub r L hL)).symm
def cntS (cs : List (Int × Int)) (h k : Nat) : Int := (((stsN cs h).countP fun L => L.length == k : Nat) : Int)
theorem cnt_ways {cs : List (Int × Int)} {h : Nat} (hb : ∀ p ∈ cs, 0 ≤ p.2) (k : Nat) : cntS cs h k = Wc cs h h 0 k := by
  rw [← ways_all (k := k) hb h (Nat.le_refl _)]
  unfold cntS
  rw [← sumZ_count]
  refine sumZ_congr fun L _ => ?_
  unfold trm
  rw [Nat.sub_self]
  show (if (L.length == k) = true then 1 else 0) = if L.length ≤ k then (if k - L.length = 0 then 1 else 0) else 0
  by_cases z : L.length = k
  · rw [if_pos (by simpa using z), if_pos (by omega), if_pos (by omega)]
  · rw [if_neg (by simpa using z)]
    by_cases z2 : L.length ≤ k
    · rw [if_pos z2, if_neg (by omega)]
    · rw [if_neg z2]
end Rk
namespace Rk
open PySem PySem.Spec PyProof.Rows L2 _root_.Rd Dl Rt
end Rk
namespace Rk
open PySem PySem.Spec PyProof.Rows L2 _root_.Rd Dl Rt
end Rk
namespace L2
open PySem PySem.Spec PyProof.Rows
section
variable {X : Cx}
end
end L2
namespace Dl
open PySem PySem.Spec PyProof.Rows L2 _root_.Rd Rk
end Dl
namespace Rk
open PySem PySem.Spec PyProof.Rows L2 _root_.Rd Dl Rt
theorem flat_congr {α β : Type} {f g : α → List β} : ∀ {xs : List α}, (∀ x ∈ xs, f x = g x) → xs.flatMap f = xs.flatMap g
  | [], _ => rfl
  | x :: xs, h => by rw [List.flatMap_cons, List.flatMap_cons, h x (.head _), flat_congr fun y hy => h y (.tail _ hy)]
def Bds (h w : Nat) (cs : List (Int × Int)) : Prop := h ≤ 6 ∧ w ≤ 6 ∧ ∀ p ∈ cs, 0 ≤ p.1 ∧ p.1 < h ∧ 0 ≤ p.2 ∧ p.2 < w
theorem Bds.nn {h w : Nat} {cs : List (Int × Int)} (b : Bds h w cs) : ∀ p ∈ cs, 0 ≤ p.2 := fun p hp => (b.2.2 p hp).2.2.1
end Rk
namespace Rk
open PySem PySem.Spec PyProof.Rows L2 _root_.Rd Dl Rt
def lexL : List (Int × Int) → List (Int × Int) → Prop
  | [], [] => False
  | [], _ :: _ => True
  | _ :: _, [] => False
  | p :: L, q :: M => plt p q ∨ (p = q ∧ lexL L M)
theorem lex_irr : ∀ L : List (Int × Int), ¬ lexL L L
  | [], h => h
  | p :: L, h => by
    rcases h with z | z
    · rcases z with z | z <;> omega
    · exact lex_irr L z.2
theorem lex_app : ∀ {S T : List (Int × Int)} (c d : Int × Int), S.length = T.length → lexL S T → lexL (S ++ [c]) (T ++ [d])
  | [], [], _, _, _, h => h.elim
  | [], _ :: _, _, _, e, _ => by cases e
  | _ :: _, [], _, _, e, _ => by cases e
  | p :: S, q :: T, c, d, e, h => by
    rcases h with z | z
    · exact .inl z
    · exact .inr ⟨z.1, lex_app c d (by simpa using e) z.2⟩
theorem lex_same : ∀ (S : List (Int × Int)) {c d : Int × Int}, plt c d → lexL (S ++ [c]) (S ++ [d])
  | [], c, d, h => .inl h
  | p :: S, c, d, h => .inr ⟨rfl, lex_same S h⟩
def rbI (S : List (Int × Int)) : Int := match S.getLast? with
  | some c => c.1 + 1
  | none => 0
def fol (cs S : List (Int × Int)) : List (Int × Int) := cs.filter fun c => decide (rbI S ≤ c.1) && !decide (c.2 ∈ S.map (·.2))
def evS (cs : List (Int × Int)) : Nat → List (List (Int × Int))
  | 0 => [[]]
  | k + 1 => (evS cs k).flatMap fun S => (fol cs S).map fun c => S ++ [c]
structure Std (cs L : List (Int × Int)) : Prop where
  sub : ∀ p ∈ L, p ∈ cs
  rows : L.Pairwise fun p q => p.1 < q.1
  cols : (L.map (·.2)).Nodup
theorem Std.nil {cs : List (Int × Int)} : Std cs [] := ⟨fun p hp => (nomatch hp), .nil, .nil⟩
theorem Std.init {cs S : List (Int × Int)} {c : Int × Int} (h : Std cs (S ++ [c])) : Std cs S ∧ c ∈ cs ∧ (∀ p ∈ S, p.1 < c.1) ∧ c.2 ∉ S.map (·.2) := by
  have r := List.pairwise_append.mp h.rows
  have k := h.cols
  rw [List.map_append] at k
  have k := List.nodup_append.mp k
  refine ⟨⟨fun p hp => h.sub p (List.mem_append_left _ hp), r.1, k.1⟩, h.sub c (by simp), fun p hp => r.2.2 p hp c (by simp), fun z => ?_⟩
  exact k.2.2 c.2 z c.2 (by simp) rfl
theorem Std.snoc {cs S : List (Int × Int)} {c : Int × Int} (h : Std cs S) (h1 : c ∈ cs) (h2 : ∀ p ∈ S, p.1 < c.1) (h3 : c.2 ∉ S.map (·.2)) : Std cs (S ++ [c]) := by
  refine ⟨fun p hp => ?_, List.pairwise_append.mpr ⟨h.rows, by simp, fun p hp q hq => ?_⟩, ?_⟩
  · rcases List.mem_append.mp hp with z | z
    · exact h.sub p z
    · rw [List.mem_singleton.mp z]; exact h1
  · rw [List.mem_singleton.mp hq]; exact h2 p hp
  · rw [List.map_append]
    refine List.nodup_append.mpr ⟨h.cols, by simp, fun a ha b hb e => ?_⟩
    have hb : b = c.2 := by simpa using hb
    rw [e, hb] at ha
    exact h3 ha
theorem last_max {S : List (Int × Int)} (h : S.Pairwise fun p q => p.1 < q.1) {c : Int × Int} : (∀ p ∈ S, p.1 < c.1) ∨ ¬ rbI S ≤ c.1 ∨ (S = [] ) := by
  by_cases z : S = []
  · exact .inr (.inr z)
  · by_cases y : rbI S ≤ c.1
    · refine .inl fun p hp => ?_
      obtain ⟨T, d, rfl⟩ : ∃ T d, S = T ++ [d] := ⟨S.dropLast, S.getLast z, (List.dropLast_concat_getLast z).symm⟩
      have y : d.1 + 1 ≤ c.1 := by unfold rbI at y; rw [List.getLast?_append] at y; simpa using y
      rcases List.mem_append.mp hp with q | q
      · have := (List.pairwise_append.mp h).2.2 p q d (by simp)
        omega
      · rw [List.mem_singleton.mp q]; omega
    · exact .inr (.inl y)
theorem rb_le {S : List (Int × Int)} {c : Int × Int} (h : ∀ p ∈ S, p.1 < c.1) (h0 : 0 ≤ c.1) : rbI S ≤ c.1 := by
  unfold rbI
  cases e : S.getLast? with
  | none => exact h0
  | some d =>
    have := h d (List.mem_of_getLast? e)
    show d.1 + 1 ≤ c.1
    omega
theorem mem_ev {cs : List (Int × Int)} (h0 : ∀ p ∈ cs, 0 ≤ p.1) : ∀ (k : Nat) (L : List (Int × Int)), L ∈ evS cs k ↔ Std cs L ∧ L.length = k
  | 0, L => by
    constructor
    · intro h; rw [List.mem_singleton.mp h]; exact ⟨.nil, rfl⟩
    · rintro ⟨_, h⟩
      cases L with
      | nil => exact .head _
      | cons a b => cases h
  | k + 1, L => by
    show L ∈ (evS cs k).flatMap (fun S => (fol cs S).map fun c => S ++ [c]) ↔ _
    rw [List.mem_flatMap]
    constructor
    · rintro ⟨S, hS, hL⟩
      obtain ⟨c, hc, rfl⟩ := List.mem_map.mp hL
      obtain ⟨st, hl⟩ := (mem_ev h0 k S).mp hS
      have hc := List.mem_filter.mp hc
      have hc2 := Bool.and_eq_true_iff.mp hc.2
      refine ⟨st.snoc hc.1 ?_ (by simpa using hc2.2), by rw [List.length_append, hl]; rfl⟩
      rcases last_max st.rows (c := c) with z | z | z
      · exact z
      · exact absurd (of_decide_eq_true hc2.1) z
      · rw [z]; exact fun p hp => (nomatch hp)
    · rintro ⟨st, hl⟩
      have hne : L ≠ [] := fun e => by rw [e] at hl; cases hl
      obtain ⟨S, c, rfl⟩ : ∃ T d, L = T ++ [d] := ⟨L.dropLast, L.getLast hne, (List.dropLast_concat_getLast hne).symm⟩
      obtain ⟨s1, s2, s3, s4⟩ := st.init
      refine ⟨S, (mem_ev h0 k S).mpr ⟨s1, by rw [List.length_append] at hl; exact Nat.succ.inj hl⟩, List.mem_map.mpr ⟨c, List.mem_filter.mpr ⟨s2, ?_⟩, rfl⟩⟩
      rw [Bool.and_eq_true]
      exact ⟨decide_eq_true (rb_le s3 (h0 c s2)), by simpa using s4⟩
theorem ev_sorted {cs : List (Int × Int)} (hp : cs.Pairwise plt) (h0 : ∀ p ∈ cs, 0 ≤ p.1) : ∀ k, (evS cs k).Pairwise lexL
  | 0 => List.pairwise_singleton _ _
  | k + 1 => by
    show ((evS cs k).flatMap fun S => (fol cs S).map fun c => S ++ [c]).Pairwise lexL
    rw [List.pairwise_flatMap]
    refine ⟨fun S _ => ?_, ?_⟩
    · exact List.pairwise_map.mpr ((List.Pairwise.filter _ hp).imp fun h => lex_same S h)
    · refine List.Pairwise.imp_of_mem (fun {S T} hS hT h => ?_) (ev_sorted hp h0 k)
      intro x hx y hy
      obtain ⟨c, _, rfl⟩ := List.mem_map.mp hx
      obtain ⟨d, _, rfl⟩ := List.mem_map.mp hy
      exact lex_app c d (by rw [((mem_ev h0 k S).mp hS).2, ((mem_ev h0 k T).mp hT).2]) h
theorem mem_sts {cs : List (Int × Int)} (h0 : ∀ p ∈ cs, 0 ≤ p.1) : ∀ (i : Nat) (L : List (Int × Int)), L ∈ stsN cs i ↔ Std cs L ∧ ∀ p ∈ L, p.1 < (i : Int)
  | 0, L => by
    constructor
    · intro h; rw [List.mem_singleton.mp h]; exact ⟨.nil, fun p hp => (nomatch hp)⟩
    · rintro ⟨s, h⟩
      cases L with
      | nil => exact .head _
      | cons a b =>
        have h1 := h a (.head _)
        have h2 := h0 a (s.sub a (.head _))
        exact absurd h1 (by show ¬ a.1 < 0; omega)
  | i + 1, L => by
    show L ∈ stsN cs i ++ (stsN cs i).flatMap (extS (rowC cs i)) ↔ _
    rw [List.mem_append, List.mem_flatMap]
    constructor
    · rintro (h | ⟨S, hS, hL⟩)
      · obtain ⟨a, b⟩ := (mem_sts h0 i L).mp h
        exact ⟨a, fun p hp => by have := b p hp; omega⟩
      · obtain ⟨c, hc, hn, rfl⟩ := mem_extS.mp hL
        obtain ⟨a, b⟩ := (mem_sts h0 i S).mp hS
        have hc := List.mem_filter.mp hc
        have hr : c.1 = (i : Int) := of_decide_eq_true hc.2
        refine ⟨a.snoc hc.1 (fun p hp => by rw [hr]; exact b p hp) hn, fun p hp => ?_⟩
        rcases List.mem_append.mp hp with z | z
        · have := b p z; omega
        · rw [List.mem_singleton.mp z, hr]; omega
    · rintro ⟨s, h⟩
      by_cases z : L = []
      · left
        rw [z]; exact stsN_ne cs i
      · obtain ⟨S, c, rfl⟩ : ∃ T d, L = T ++ [d] := ⟨L.dropLast, L.getLast z, (List.dropLast_concat_getLast z).symm⟩
        obtain ⟨s1, s2, s3, s4⟩ := s.init
        have hc := h c (by simp)
        by_cases y : c.1 = (i : Int)
        · right
          exact ⟨S, (mem_sts h0 i S).mpr ⟨s1, fun p hp => by have := s3 p hp; omega⟩, mem_extS.mpr ⟨c, List.mem_filter.mpr ⟨s2, decide_eq_true y⟩, s4, rfl⟩⟩
        · left
          refine (mem_sts h0 i _).mpr ⟨s, fun p hp => ?_⟩
          rcases List.mem_append.mp hp with q | q
          · have := s3 p q; omega
          · rw [List.mem_singleton.mp q]; omega
theorem sts_nd {cs : List (Int × Int)} (nd : cs.Nodup) (h0 : ∀ p ∈ cs, 0 ≤ p.1) : ∀ i, (stsN cs i).Nodup
  | 0 => by show [([] : List (Int × Int))].Nodup; simp
  | i + 1 => by
    have ih := sts_nd nd h0 i
    show (stsN cs i ++ (stsN cs i).flatMap (extS (rowC cs i))).Nodup
    refine List.nodup_append.mpr ⟨ih, ?_, fun L hL M hM e => ?_⟩
    · show List.Pairwise _ _
      rw [List.pairwise_flatMap]
      refine ⟨fun S _ => ?_, ih.imp fun {S T} hne x hx y hy e => ?_⟩
      · unfold extS
        refine List.pairwise_map.mpr ((List.Pairwise.filter _ (List.Pairwise.filter _ nd)).imp fun {c d} hne e => hne ?_)
        have := List.append_inj_right' e rfl
        simpa using this
      · obtain ⟨c, _, _, rfl⟩ := mem_extS.mp hx
        obtain ⟨d, _, _, rfl⟩ := mem_extS.mp hy
        exact hne (List.append_inj_left' e rfl)
    · obtain ⟨S, hS, hM⟩ := List.mem_flatMap.mp hM
      obtain ⟨c, hc, _, rfl⟩ := mem_extS.mp hM
      have hr : c.1 = (i : Int) := of_decide_eq_true (List.mem_filter.mp hc).2
      have := ((mem_sts h0 i L).mp hL).2 c (by rw [e]; simp)
      omega
end Rk
namespace Dl
open PySem PySem.Spec PyProof.Rows L2 _root_.Rd Rk
section
variable {X : Cx} {E : XK} {st : Stmt} {we : DE}
end
end Dl
namespace Rk
open PySem PySem.Spec PyProof.Rows L2 _root_.Rd Dl Rt
structure GB (h w : Nat) (cs : List (Int × Int)) : Prop where
  bds : Bds h w cs
  srt : cs.Pairwise plt
  few : (stsN cs h).length ≤ 200000
theorem GB.r0 {h w : Nat} {cs : List (Int × Int)} (g : GB h w cs) : ∀ p ∈ cs, 0 ≤ p.1 := fun p hp => (g.bds.2.2 p hp).1
theorem GB.rh {h w : Nat} {cs : List (Int × Int)} (g : GB h w cs) : ∀ p ∈ cs, p.1 < (h : Int) := fun p hp => (g.bds.2.2 p hp).2.1
theorem ev_perm {h w : Nat} {cs : List (Int × Int)} (g : GB h w cs) (k : Nat) : (evS cs k).Perm ((stsN cs h).filter fun L => L.length == k) := by
  have nd := sts_nd (g.srt.imp plt_ne) g.r0 h
  have s2 := ev_sorted g.srt g.r0 k
  have n2 : (evS cs k).Nodup := List.Pairwise.imp (R := lexL) (S := fun a b => a ≠ b) (fun {S T} z (e : S = T) => lex_irr S (by rw [← e] at z; exact z)) s2
  refine (List.perm_ext_iff_of_nodup n2 (List.Pairwise.filter _ nd)).mpr fun L => ?_
  rw [List.mem_filter, mem_ev g.r0, mem_sts g.r0]
  constructor
  · rintro ⟨a, b⟩; exact ⟨⟨a, fun p hp => g.rh p (a.sub p hp)⟩, by simpa using b⟩
  · rintro ⟨⟨a, _⟩, b⟩; exact ⟨a, by simpa using b⟩
theorem ev_cnt {h w : Nat} {cs : List (Int × Int)} (g : GB h w cs) (k : Nat) : ((evS cs k).length : Int) = Wc cs h h 0 k := by
  rw [← cnt_ways g.bds.nn]
  unfold cntS
  rw [(ev_perm g k).length_eq, List.countP_eq_length_filter]
end Rk
namespace L2
open PySem PySem.Spec PyProof.Rows
section
variable {X : Cx}
end
end L2
namespace Dl
open PySem PySem.Spec PyProof.Rows L2 _root_.Rd Rk Rt
end Dl
namespace Rk
open PySem PySem.Spec PyProof.Rows L2 _root_.Rd Dl Rt
def wt (cs L : List (Int × Int)) : Nat := (cs.filter (isLf L)).length
end Rk
namespace L2
open PySem PySem.Spec PyProof.Rows _root_.Rd
section
variable {X : Cx}
end
end L2
namespace Dl
open PySem PySem.Spec PyProof.Rows L2 _root_.Rd Rk Rt
section
variable {X : Cx} {E : XK}
end
end Dl
namespace Rk
open PySem PySem.Spec PyProof.Rows L2 _root_.Rd Dl Rt
def xts (cs : List (Int × Int)) : Nat → List (Int × Int) → List (List (Int × Int))
  | 0, S => [S]
  | m + 1, S => (fol cs S).flatMap fun c => xts cs m (S ++ [c])
theorem ev_xts (cs : List (Int × Int)) : ∀ (m j : Nat), (evS cs j).flatMap (xts cs m) = evS cs (j + m)
  | 0, j => by
    show (evS cs j).flatMap (fun S => [S]) = evS cs j
    rw [List.flatMap_singleton']
  | m + 1, j => by
    have h := ev_xts cs m (j + 1)
    rw [show j + 1 + m = j + (m + 1) by omega] at h
    rw [← h]
    show (evS cs j).flatMap (fun S => (fol cs S).flatMap fun c => xts cs m (S ++ [c])) = ((evS cs j).flatMap fun S => (fol cs S).map fun c => S ++ [c]).flatMap (xts cs m)
    rw [List.flatMap_assoc]
    refine flat_congr fun S _ => ?_
    rw [List.flatMap_map]
theorem Wc_zero (cs : List (Int × Int)) (h : Nat) : ∀ (i t : Nat), Wc cs h i t 0 = 1
  | 0, _ => rfl
  | i + 1, t => by
    show Wc cs h i t 0 + 0 = 1
    rw [Wc_zero cs h i t]; rfl
end Rk
namespace Rk
open PySem PySem.Spec PyProof.Rows L2 _root_.Rd Dl Rt
theorem gb_F {h w : Nat} (f : Nat → Nat → Bool) (h6 : h ≤ 6) (w6 : w ≤ 6) : GB h w (cellsF h w f) := by
  refine ⟨⟨h6, w6, fun p hp => cellsF_bd hp⟩, pw_cellsF w f h, Nat.le_trans (stsN_len (fun r => rowC_cellsF w h f r) h) ?_⟩
  have c : (w + 1) ^ h ≤ 7 ^ h := Nat.pow_le_pow_left (by omega) _
  have d : 7 ^ h ≤ 7 ^ 6 := Nat.pow_le_pow_right (by decide) h6
  have e : (7 : Nat) ^ 6 = 117649 := rfl
  omega
theorem ev_cnt2 {h w : Nat} {cs : List (Int × Int)} (g : GB h w cs) (k : Nat) : Wc cs h h 0 k = ((evS cs k).length : Int) := (ev_cnt g k).symm
end Rk
namespace Rk
open PySem PySem.Spec PyProof.Rows L2 _root_.Rd Dl Rt
theorem rowC_F (w : Nat) (f : Nat → Nat → Bool) {r : Nat} : ∀ h, r < h → rowC (cellsF h w f) r = rowF r w f
  | h + 1, hr => by
    unfold rowC
    rw [cellsF_succ, List.filter_append]
    have no : ∀ (q : Nat) (L : List (Int × Int)), (∀ p ∈ L, p.1 ≠ (r : Int)) → L.filter (fun p => decide (p.1 = (r : Int))) = [] := fun q L hL => by
      rw [List.filter_eq_nil_iff]
      intro p hp
      rw [decide_eq_false (hL p hp)]; exact Bool.false_ne_true
    by_cases z : r < h
    · have ih := rowC_F w f h z
      unfold rowC at ih
      rw [ih, no 0 _ fun p hp => ?_, List.append_nil]
      obtain ⟨c, _, _, rfl⟩ := mem_rowF.mp hp
      show (h : Int) ≠ r
      omega
    · have e : r = h := by omega
      subst e
      rw [no 0 (cellsF r w f) fun p hp => ?_, List.nil_append, List.filter_eq_self.mpr fun p hp => ?_]
      · obtain ⟨c, _, _, rfl⟩ := mem_rowF.mp hp
        exact decide_eq_true rfl
      · have := (cellsF_bd hp).2.1
        omega
theorem colN_F {h w r : Nat} (f : Nat → Nat → Bool) (hr : r < h) : colN (cellsF h w f) r = (List.range w).filter (f r) := by
  unfold colN
  rw [rowC_F w f h hr]
  unfold rowF
  rw [List.map_map]
  conv => rhs; rw [← List.map_id ((List.range w).filter (f r))]
  exact List.map_congr_left fun c _ => by show ((c : Int)).toNat = c; omega
end Rk
namespace Rk
open PySem PySem.Spec PyProof.Rows L2 _root_.Rd Dl Rt
abbrev Tb := List (List Int × Int)
def encT (L : Tb) : List (List Key × V) := L.map fun p => (p.1.map Sum.inl, V.int p.2)
def getT (L : Tb) (ks : List Int) : Option Int := (L.find? fun p => decide (p.1 = ks)).map (·.2)
def putT (L : Tb) (ks : List Int) (v : Int) : Tb := if (L.any fun p => decide (p.1 = ks)) = true then L.map (fun p => if p.1 = ks then (p.1, v) else p) else L ++ [(ks, v)]
theorem inl_inj {a b : List Int} : a.map (Sum.inl : Int → Key) = b.map Sum.inl ↔ a = b := List.map_inj_right fun _ _ e => Sum.inl.inj e
theorem val_enc (ks : List Int) : ∀ L : Tb, valV (encT L) (ks.map Sum.inl) = (getT L ks).map V.int
  | [] => rfl
  | p :: L => by
    have ih := val_enc ks L
    by_cases e : p.1 = ks
    · rw [show encT (p :: L) = (p.1.map Sum.inl, V.int p.2) :: encT L from rfl, valV_pos (by rw [e])]
      unfold getT
      rw [List.find?_cons_of_pos (by simpa using e)]; rfl
    · rw [show encT (p :: L) = (p.1.map Sum.inl, V.int p.2) :: encT L from rfl, valV_neg (fun z => e (inl_inj.mp z)), ih]
      unfold getT
      rw [List.find?_cons_of_neg (by simpa using e)]
theorem put_enc (L : Tb) (ks : List Int) (v : Int) : putK (encT L) (ks.map Sum.inl) (.int v) = encT (putT L ks v) := by
  have ea : ((encT L).any fun kv => decide (kv.1 = ks.map Sum.inl)) = L.any fun p => decide (p.1 = ks) := by
    unfold encT
    rw [List.any_map]
    congr 1
    funext p
    exact decide_eq_decide.mpr inl_inj
  unfold putK putT
  rw [ea]
  split
  · unfold encT
    rw [List.map_map, List.map_map]
    refine List.map_congr_left fun p _ => ?_
    show (if p.1.map Sum.inl = ks.map Sum.inl then (p.1.map Sum.inl, V.int v) else (p.1.map Sum.inl, V.int p.2)) = _
    by_cases e : p.1 = ks
    · rw [if_pos (inl_inj.mpr e)]
      show _ = ((if p.1 = ks then (p.1, v) else p).1.map Sum.inl, V.int (if p.1 = ks then (p.1, v) else p).2)
      rw [if_pos e]
    · rw [if_neg (fun z => e (inl_inj.mp z))]
      show _ = ((if p.1 = ks then (p.1, v) else p).1.map Sum.inl, V.int (if p.1 = ks then (p.1, v) else p).2)
      rw [if_neg e]
  · unfold encT
    rw [List.map_append]; rfl
def Tw (φ : List Int → Int) (L : Tb) : Int := sumZ (fun p => p.2 * φ p.1) L
theorem getT_some {L : Tb} {p : List Int × Int} (nd : (L.map (·.1)).Nodup) (h : p ∈ L) : getT L p.1 = some p.2 := by
  induction L with
  | nil => cases h
  | cons q L ih =>
    have nd := List.nodup_cons.mp nd
    unfold getT
    by_cases e : q.1 = p.1
    · rw [List.find?_cons_of_pos (by simpa using e)]
      rcases List.mem_cons.mp h with z | z
      · rw [z]; rfl
      · exact absurd (by show q.1 ∈ _; rw [e]; exact List.mem_map.mpr ⟨p, z, rfl⟩) nd.1
    · rw [List.find?_cons_of_neg (by simpa using e)]
      rcases List.mem_cons.mp h with z | z
      · exact absurd (by rw [z]) e
      · exact ih nd.2 z
theorem getT_none {L : Tb} {ks : List Int} (h : (L.any fun p => decide (p.1 = ks)) = false) : getT L ks = none := by
  unfold getT
  rw [List.find?_eq_none.mpr fun p hp z => by
    rw [List.any_eq_false] at h
    exact h p hp z]
  rfl
theorem put_keys (L : Tb) (ks : List Int) (v : Int) : ∀ p ∈ putT L ks v, p.1 = ks ∨ p.1 ∈ L.map (·.1) := fun p hp => by
  unfold putT at hp
  split at hp
  · obtain ⟨q, hq, rfl⟩ := List.mem_map.mp hp
    right
    refine List.mem_map.mpr ⟨q, hq, ?_⟩
    split <;> rfl
  · rcases List.mem_append.mp hp with z | z
    · exact .inr (List.mem_map.mpr ⟨p, z, rfl⟩)
    · rw [List.mem_singleton.mp z]; exact .inl rfl
theorem put_nd {L : Tb} (nd : (L.map (·.1)).Nodup) (ks : List Int) (v : Int) : ((putT L ks v).map (·.1)).Nodup := by
  unfold putT
  split
  · rw [List.map_map]
    have : ((fun p : List Int × Int => p.1) ∘ fun p => if p.1 = ks then (p.1, v) else p) = fun p => p.1 := by
      funext p
      show (if p.1 = ks then (p.1, v) else p).1 = p.1
      split <;> rfl
    rw [this]; exact nd
  · rename_i h
    rw [List.map_append]
    refine List.nodup_append.mpr ⟨nd, List.nodup_cons.mpr ⟨List.not_mem_nil, List.nodup_nil⟩, fun a ha b hb e => h ?_⟩
    rw [List.any_eq_true]
    obtain ⟨p, hp, rfl⟩ := List.mem_map.mp ha
    refine ⟨p, hp, ?_⟩
    have hb : b = ks := List.mem_singleton.mp hb
    rw [decide_eq_true_eq, ← hb]; exact e
theorem put_sum (φ : List Int → Int) (ks : List Int) (n : Int) : ∀ {L : Tb}, (L.map (·.1)).Nodup → Tw φ (putT L ks ((getT L ks).getD 0 + n)) = Tw φ L + n * φ ks := by
  intro L nd
  by_cases z : (L.any fun p => decide (p.1 = ks)) = true
  · unfold putT
    rw [if_pos z]
    generalize hv : (getT L ks).getD 0 + n = v
    have key : ∀ M : Tb, (M.map (·.1)).Nodup → (∀ p ∈ M, p.1 = ks → p.2 + n = v) → (M.any fun p => decide (p.1 = ks)) = true → Tw φ (M.map fun p => if p.1 = ks then (p.1, v) else p) = Tw φ M + n * φ ks := fun M => by
      induction M with
      | nil => intro _ _ h; cases h
      | cons p M ih =>
        intro nd hm h
        have nd := List.nodup_cons.mp nd
        show (if p.1 = ks then (p.1, v) else p).2 * φ (if p.1 = ks then (p.1, v) else p).1 + Tw φ (M.map fun p => if p.1 = ks then (p.1, v) else p) = p.2 * φ p.1 + Tw φ M + n * φ ks
        by_cases e : p.1 = ks
        · rw [if_pos e]
          have : (M.map fun p => if p.1 = ks then (p.1, v) else p) = M := by
            conv => rhs; rw [← List.map_id M]
            refine List.map_congr_left fun q hq => if_neg fun z => nd.1 ?_
            show p.1 ∈ _
            rw [e, ← z]; exact List.mem_map.mpr ⟨q, hq, rfl⟩
          rw [this, ← hm p (.head _) e]
          show (p.2 + n) * φ p.1 + _ = _
          rw [e, Int.add_mul]; omega
        · rw [if_neg e, ih nd.2 (fun q hq => hm q (.tail _ hq)) (by
            rw [List.any_cons, decide_eq_false e, Bool.false_or] at h
            exact h)]
          omega
    refine key L nd (fun p hp e => ?_) z
    have := getT_some nd hp
    rw [e] at this
    rw [this] at hv
    exact hv
  · have z : (L.any fun p => decide (p.1 = ks)) = false := Bool.eq_false_iff.mpr z
    rw [getT_none z]
    unfold putT
    rw [if_neg (by rw [z]; exact Bool.false_ne_true)]
    show sumZ _ (L ++ [(ks, 0 + n)]) = _
    rw [sumZ_app]
    show _ + ((0 + n) * φ ks + 0) = _
    unfold Tw
    rw [Int.zero_add]; omega
def subsI : List Int → List (List Int)
  | [] => [[]]
  | x :: xs => (subsI xs).map (x :: ·) ++ subsI xs
def fam : List (List Int) := subsI [0, 1, 2, 3, 4, 5]
def insI (c : Int) : List Int → List Int
  | [] => [c]
  | x :: xs => if c ≤ x then c :: x :: xs else x :: insI c xs
def mkT (ks : List Int) : Nat := ks.foldr (fun c t => t ||| 2 ^ c.toNat) 0
theorem insI_perm (c : Int) : ∀ ks : List Int, (insI c ks).Perm (ks ++ [c])
  | [] => List.Perm.refl _
  | x :: xs => by
    unfold insI
    split
    · exact (List.perm_append_singleton c (x :: xs)).symm
    · exact (insI_perm c xs).cons x
theorem fam_rise : ∀ ks ∈ fam, ks.Pairwise (· ≤ ·) := by decide +kernel
theorem fam_ins : ∀ ks ∈ fam, ∀ c ∈ ([0, 1, 2, 3, 4, 5] : List Int), c ∉ ks → insI c ks ∈ fam ∧ mkT (insI c ks) = mkT ks ||| 2 ^ c.toNat ∧ (insI c ks).length = ks.length + 1 := by decide +kernel
theorem fam_bit : ∀ ks ∈ fam, ∀ c ∈ ([0, 1, 2, 3, 4, 5] : List Int), (mkT ks).testBit c.toNat = decide (c ∈ ks) := by decide +kernel
theorem fam_bd : ∀ ks ∈ fam, ∀ c ∈ ks, c ∈ ([0, 1, 2, 3, 4, 5] : List Int) := by decide +kernel
theorem fam_len : ∀ w : Fin 7, ∀ ks ∈ fam, (∀ c ∈ ks, c < (w : Nat)) → ks.length ≤ w := by decide +kernel
def hashI (ks : List Int) : Int := reduceHash (Builtin.Tuple.tupleHashOf (ks.map hashInt))
theorem fam_hash : (fam.map hashI).Nodup := by decide +kernel
theorem hash_enc (P : Program) (w : World) (ks : List Int) : tupleKeyHash (mixKind P w) (ks.map Sum.inl) = hashI ks := by
  unfold tupleKeyHash hashI
  rw [List.map_map]
  rfl
theorem six_of {c : Int} (h0 : 0 ≤ c) (h6 : c < 6) : c ∈ ([0, 1, 2, 3, 4, 5] : List Int) := by
  have : c = 0 ∨ c = 1 ∨ c = 2 ∨ c = 3 ∨ c = 4 ∨ c = 5 := by omega
  rcases this with rfl | rfl | rfl | rfl | rfl | rfl <;> decide
theorem sort_ins {ks ms : List Int} {c : Int} (hk : ks ∈ fam) (hc : c ∈ ([0, 1, 2, 3, 4, 5] : List Int)) (hn : c ∉ ks) (p : ms.Perm (ks ++ [c])) (s : ms.Pairwise (· ≤ ·)) : ms = insI c ks :=
  List.Perm.eq_of_pairwise (le := fun a b => a ≤ b) (fun a b _ _ h1 h2 => Int.le_antisymm h1 h2) s (fam_rise _ (fam_ins ks hk c hc hn).1) (p.trans (insI_perm c ks).symm)
structure TbOk (r w : Nat) (L : Tb) : Prop where
  nd : (L.map (·.1)).Nodup
  mem : ∀ p ∈ L, p.1 ∈ fam ∧ p.1.length ≤ r ∧ ∀ c ∈ p.1, c < (w : Int)
theorem nodup_of_map {α β : Type} {f : α → β} {l : List α} (h : (l.map f).Nodup) : ∀ {a b : α}, a ∈ l → b ∈ l → f a = f b → a = b := by
  induction l with
  | nil => intro a b ha; cases ha
  | cons x l ih =>
    intro a b ha hb e
    have h := List.nodup_cons.mp h
    rcases List.mem_cons.mp ha with z | z
    · rcases List.mem_cons.mp hb with y | y
      · rw [z, y]
      · exact absurd (by rw [← z, e]; exact List.mem_map.mpr ⟨b, y, rfl⟩) h.1
    · rcases List.mem_cons.mp hb with y | y
      · exact absurd (by rw [← y, ← e]; exact List.mem_map.mpr ⟨a, z, rfl⟩) h.1
      · exact ih h.2 z y e
theorem nodup_map {α β : Type} {f : α → β} : ∀ {l : List α}, l.Nodup → (∀ a ∈ l, ∀ b ∈ l, f a = f b → a = b) → (l.map f).Nodup
  | [], _, _ => List.nodup_nil
  | x :: l, h, q => by
    have h := List.nodup_cons.mp h
    refine List.nodup_cons.mpr ⟨fun z => h.1 ?_, nodup_map h.2 fun a ha b hb => q a (.tail _ ha) b (.tail _ hb)⟩
    obtain ⟨y, hy, e⟩ := List.mem_map.mp z
    rw [q x (.head _) y (.tail _ hy) e.symm]; exact hy
theorem TbOk.hashU {r w : Nat} {L : Tb} (t : TbOk r w L) (P : Program) (W : World) : L2.hashU (encT L) P W := by
  unfold L2.hashU encT
  rw [List.map_map]
  have e : ((fun p : List Key × V => tupleKeyHash (mixKind P W) p.1) ∘ fun p : List Int × Int => (p.1.map Sum.inl, V.int p.2)) = fun p => hashI p.1 := by
    funext p
    exact hash_enc P W p.1
  rw [e]
  have e2 : (L.map fun p => hashI p.1) = (L.map (·.1)).map hashI := by rw [List.map_map]; rfl
  rw [e2]
  refine nodup_map t.nd fun a ha b hb he => ?_
  obtain ⟨p, hp, rfl⟩ := List.mem_map.mp ha
  obtain ⟨q, hq, rfl⟩ := List.mem_map.mp hb
  exact nodup_of_map fam_hash (t.mem p hp).1 (t.mem q hq).1 he
theorem enc_len (L : Tb) : (encT L).length = L.length := List.length_map _
theorem TbOk.len {r w : Nat} {L : Tb} (t : TbOk r w L) : L.length ≤ 64 := by
  have key : ∀ (M N : List (List Int)), M.Nodup → (∀ x ∈ M, x ∈ N) → M.length ≤ N.length := fun M => by
    induction M with
    | nil => intro N _ _; exact Nat.zero_le _
    | cons x M ih =>
      intro N nd h
      have nd := List.nodup_cons.mp nd
      have := ih (N.erase x) nd.2 fun y hy => (List.mem_erase_of_ne (fun e : y = x => nd.1 (by rw [← e]; exact hy))).mpr (h y (.tail _ hy))
      have a := List.length_erase_of_mem (h x (.head _))
      have b : 0 < N.length := List.length_pos_of_mem (h x (.head _))
      rw [List.length_cons]; omega
  have := key (L.map (·.1)) fam t.nd fun x hx => by
    obtain ⟨p, hp, rfl⟩ := List.mem_map.mp hx
    exact (t.mem p hp).1
  rw [List.length_map] at this
  exact this
theorem TbOk.put {r w : Nat} {L : Tb} (t : TbOk r w L) {ks : List Int} (hk : ks ∈ fam ∧ ks.length ≤ r ∧ ∀ c ∈ ks, c < (w : Int)) (v : Int) : TbOk r w (putT L ks v) := by
  refine ⟨put_nd t.nd ks v, fun p hp => ?_⟩
  rcases put_keys L ks v p hp with z | z
  · rw [z]; exact hk
  · obtain ⟨q, hq, e⟩ := List.mem_map.mp z
    rw [← e]; exact t.mem q hq
theorem TbOk.mono {r w : Nat} {L : Tb} (t : TbOk r w L) : TbOk (r + 1) w L := ⟨t.nd, fun p hp => ⟨(t.mem p hp).1, Nat.le_succ_of_le (t.mem p hp).2.1, (t.mem p hp).2.2⟩⟩
def Nx (f : Nat → Nat → Bool) (r : Nat) (φ : List Int → Int) (ks : List Int) (w : Nat) : Int := sumZ (fun c : Nat => if (f r c && !decide ((c : Int) ∈ ks)) = true then φ (insI c ks) else 0) (List.range w)
def Ph (f : Nat → Nat → Bool) (h w r k : Nat) (ks : List Int) : Int := if ks.length ≤ k then Wc (cellsF h w f) h (h - r) (mkT ks) (k - ks.length) else 0
theorem sumZ_flt {α : Type} (F : α → Int) (p : α → Bool) : ∀ l : List α, sumZ F (l.filter p) = sumZ (fun x => if p x = true then F x else 0) l
  | [] => rfl
  | x :: l => by
    rw [List.filter_cons]
    by_cases z : p x = true
    · rw [if_pos z]
      show F x + _ = (if p x = true then F x else 0) + _
      rw [if_pos z, sumZ_flt F p l]
    · rw [if_neg z]
      show _ = (if p x = true then F x else 0) + _
      rw [if_neg z, sumZ_flt F p l]; omega
theorem sumC_Z (B : Nat → Nat → Int) (t k : Nat) : ∀ cs : List Nat, sumC B t cs k = sumZ (fun c => if t.testBit c = true then 0 else B (t ||| 2 ^ c) k) cs
  | [] => rfl
  | c :: cs => by show _ + sumC B t cs k = _ + _; rw [sumC_Z B t k cs]
theorem sumZ_cg {α : Type} {F G : α → Int} : ∀ {l : List α}, (∀ x ∈ l, F x = G x) → sumZ F l = sumZ G l
  | [], _ => rfl
  | x :: l, h => by show F x + _ = G x + _; rw [h x (.head _), sumZ_cg fun y hy => h y (.tail _ hy)]
theorem Ph_step {f : Nat → Nat → Bool} {h w r k : Nat} (w6 : w ≤ 6) (hr : r < h) {ks : List Int} (hk : ks ∈ fam) : Ph f h w r k ks = Ph f h w (r + 1) k ks + Nx f r (Ph f h w (r + 1) k) ks w := by
  have eh : h - r = (h - (r + 1)) + 1 := by omega
  have er : h - 1 - (h - (r + 1)) = r := by omega
  have go : ∀ c ∈ List.range w, (if (f r c && !decide ((c : Int) ∈ ks)) = true then Ph f h w (r + 1) k (insI c ks) else 0) = if f r c = true then (if (mkT ks).testBit c = true then 0 else if ks.length + 1 ≤ k then Wc (cellsF h w f) h (h - (r + 1)) (mkT ks ||| 2 ^ c) (k - (ks.length + 1)) else 0) else 0 := fun c hc => by
    have hc := List.mem_range.mp hc
    have h6 := six_of (c := (c : Int)) (by omega) (by omega)
    have hb := fam_bit ks hk c h6
    rw [Int.toNat_natCast] at hb
    rw [hb]
    by_cases z : f r c = true
    · rw [z, Bool.true_and]
      by_cases y : (c : Int) ∈ ks
      · rw [decide_eq_true y]; rfl
      · rw [decide_eq_false y]
        obtain ⟨_, e1, e2⟩ := fam_ins ks hk c h6 y
        rw [Int.toNat_natCast] at e1
        show Ph f h w (r + 1) k (insI c ks) = _
        unfold Ph
        rw [e1, e2]
        rfl
    · have z : f r c = false := Bool.eq_false_iff.mpr z
      rw [z]; rfl
  unfold Nx
  rw [sumZ_cg go]
  unfold Ph
  by_cases l : ks.length ≤ k
  · rw [if_pos l, if_pos l, eh]
    show stepB (Wc (cellsF h w f) h (h - (r + 1))) (colN (cellsF h w f) (h - 1 - (h - (r + 1)))) (mkT ks) (k - ks.length) = _
    unfold stepB
    rw [er, colN_F f hr, sumC_Z, sumZ_flt]
    congr 1
    by_cases l2 : k - ks.length = 0
    · rw [if_pos l2]
      have l3 : ¬ ks.length + 1 ≤ k := by omega
      symm
      have : ∀ c ∈ List.range w, (if f r c = true then (if (mkT ks).testBit c = true then 0 else if ks.length + 1 ≤ k then Wc (cellsF h w f) h (h - (r + 1)) (mkT ks ||| 2 ^ c) (k - (ks.length + 1)) else 0) else 0) = (0 : Int) := fun c _ => by
        rw [if_neg l3]; split
        · split <;> rfl
        · rfl
      rw [sumZ_cg this]
      generalize List.range w = l
      induction l with
      | nil => rfl
      | cons x l ih => show (0 : Int) + _ = 0; rw [ih]; rfl
    · rw [if_neg l2]
      refine sumZ_cg fun c _ => ?_
      rw [if_pos (by omega : ks.length + 1 ≤ k), show k - ks.length - 1 = k - (ks.length + 1) by omega]
  · rw [if_neg l, if_neg l]
    have l3 : ¬ ks.length + 1 ≤ k := by omega
    have : ∀ c ∈ List.range w, (if f r c = true then (if (mkT ks).testBit c = true then 0 else if ks.length + 1 ≤ k then Wc (cellsF h w f) h (h - (r + 1)) (mkT ks ||| 2 ^ c) (k - (ks.length + 1)) else 0) else 0) = (0 : Int) := fun c _ => by
      rw [if_neg l3]; split
      · split <;> rfl
      · rfl
    rw [sumZ_cg this]
    symm
    rw [Int.zero_add]
    generalize List.range w = l
    induction l with
    | nil => rfl
    | cons x l ih => show (0 : Int) + _ = 0; rw [ih]; rfl
theorem Tw_cg {φ ψ : List Int → Int} {L : Tb} (h : ∀ p ∈ L, φ p.1 = ψ p.1) : Tw φ L = Tw ψ L := sumZ_cg fun p hp => by rw [h p hp]
theorem Tw_add (φ ψ : List Int → Int) : ∀ L : Tb, Tw (fun ks => φ ks + ψ ks) L = Tw φ L + Tw ψ L
  | [] => rfl
  | p :: L => by
    show p.2 * (φ p.1 + ψ p.1) + Tw (fun ks => φ ks + ψ ks) L = p.2 * φ p.1 + Tw φ L + (p.2 * ψ p.1 + Tw ψ L)
    rw [Tw_add φ ψ L, Int.mul_add]; omega
end Rk
namespace Rk
open PySem PySem.Spec PyProof.Rows L2 _root_.Rd Dl Rt
section
variable (K : PySem.W.Frag) (P : Program) (W : World) (u : Nat)
def cIx (i : Int) : TE := tOp (rIxT K) (tVar 0) (tC (.int i))
def cB2 : TS := tIfS (tAnd (tTest (tOp (rInU u false) (tTupW (tCons (tVar 2) (tCons (tVar 5) tNil))) (cIx K 2))) (tTest (tOp (rIn K true) (tVar 5) (tVar 4))))
  (tSeq (tAsg (tCB (rTupOfW K) (tCons (tCB (rSortI K) (tCons (tOp rCatA (tVar 4) (tTupW (tCons (tVar 5) tNil))) tNil)) tNil)) (gName 6)) (sDPut (tVar 3) (tVar 6) (tOp (rI0 fun i j => V.int (i + j)) (tDGet2 (tVar 3) (tVar 6) (tC (V.int 0))) (tDGet (tVar 1) (tVar 4))))) tNext
def cB1 : TS := tFor (iRng1 (tCons (cIx K 1) tNil)) (gName 5) (cB2 K u)
def cRow : TS := tSeq (tAsg (tCB (rDictT P W) (tCons (tVar 1) tNil)) (gName 3)) (tSeq (tFor (iDict (tVar 1)) (gName 4) (cB1 K u)) (tAsg (tVar 3) (gName 1)))
def cLen : TE := tCB (fun xs H Q => ∃ p ys, xs = [V.ref p] ∧ (SqL K H p ys ∨ SqT K H p ys) ∧ Q (V.int ys.length) H) (tCons (tVar 4) tNil)
def cSum : TS := tAsg (tOp (rI0 fun i j => V.int (i + j)) (tOp (rIxL K) (tVar 7) (cLen K)) (tDGet (tVar 1) (tVar 4))) (gSub (tVar 7) (cLen K) rSetL)
def cAll : TS := tSeq (tAsg (tDispT (tTupW tNil) (tC (V.int 1))) (gName 1)) (tSeq (tFor (iRng1 (tCons (cIx K 0) tNil)) (gName 2) (cRow K P W u))
  (tSeq (tAsg (tOp rRepW (tLstW (tCons (tC (V.int 0)) tNil)) (tOp (rI0 fun i j => V.int (i + j)) (tCB (fun xs H Q => ∃ i j, xs = [V.int i, V.int j] ∧ Q (V.int (if j < i then j else i)) H) (tCons (cIx K 0) (tCons (cIx K 1) tNil))) (tC (V.int 1)))) (gName 7))
    (tSeq (tFor (iDict (tVar 1)) (gName 4) (cSum K)) (tRet (tVar 7)))))
end
def Kb (e : Addr) (H H' : Hp) : Prop := ∀ a o, a ≠ e → H a = some o → H' a = some o
def stp (f : Nat → Nat → Bool) (r : Nat) (ks : List Int) (n : Int) (c : Nat) (L : Tb) : Tb := if (f r c && !decide ((c : Int) ∈ ks)) = true then putT L (insI c ks) ((getT L (insI c ks)).getD 0 + n) else L
structure Bf (H : Hp) (b : Addr) (h w : Nat) (f : Nat → Nat → Bool) : Prop where
  at_ : ∃ c ps, H b = some (.tup [.int h, .int w, .ref c]) ∧ H c = some (.tup ps) ∧ Dats H ps ((cellsF h w f).map pairD)
theorem Bf.of {H : Hp} {b : Addr} {h w : Nat} {f : Nat → Nat → Bool} (q : Dat H (.ref b) (bdD h w (cellsF h w f))) : Bf H b h w f := by
  cases q with
  | tup e q => cases q with
    | cons q1 q => cases q with
      | cons q2 q => cases q with
        | cons q3 q =>
          cases q
          cases q1
          cases q2
          cases q3 with
          | tup e2 q2 => exact ⟨_, _, e, e2, q2⟩
theorem Bf.same {H H' : Hp} {b : Addr} {h w : Nat} {f : Nat → Nat → Bool} (x : Bf H b h w f) (s : Same H H') : Bf H' b h w f := by
  obtain ⟨c, ps, e1, e2, q⟩ := x.at_
  exact ⟨c, ps, s _ _ e1, s _ _ e2, q.same s⟩
theorem cB2_ok {K : PySem.W.Frag} {u : Nat} {b d e t : Addr} {h w r c : Nat} {f : Nat → Nat → Bool} {L L' : Tb} {ks : List Int} {n : Int} {o : Obj} {x6 x7 : Option V} {D : Ends} {H : Hp} (hu : u + 60 < cLine) (w6 : w ≤ 6) (hr : r < h) (hc : c < w) (B : Bf H b h w f) (hd : H d = some (.frz o (.dT (encT L)))) (he : H e = some (.dT (encT L'))) (ht : H t = some (.tup (ks.map V.int))) (hk : (ks, n) ∈ L) (t1 : TbOk r w L) (t2 : TbOk (r + 1) w L')
    (hN : ∀ x6 H', Kb e H H' → H' e = some (.dT (encT (stp f r ks n c L'))) → D.nx [some (.ref b), some (.ref d), some (.int r), some (.ref e), some (.ref t), some (.int c), x6, x7] H') :
    cB2 K u D [some (.ref b), some (.ref d), some (.int r), some (.ref e), some (.ref t), some (.int c), x6, x7] H := by
  obtain ⟨cc, ps, e1, e2, q⟩ := B.at_
  have ek : (ks.map (Sum.inl : Int → Key)).map kV = ks.map V.int := by rw [List.map_map]; rfl
  obtain ⟨hf, _, _⟩ := t1.mem _ hk
  have h6 := six_of (c := (c : Int)) (by omega) (by omega)
  refine ⟨_, rfl, _, rfl, by show 2 ≤ 1000; decide, fun a H2 s2 n2 a2 => ⟨_, rfl, b, _, _, _, rfl, rfl, SqT.of (s2 _ _ e1), atI_nat (j := 2) rfl, ?_⟩⟩
  have dz := depth_pair2 ((r : Int), (c : Int))
  refine ⟨cc, ps, _, pairD ((r : Int), (c : Int)), rfl, s2 _ _ e2, q.same s2, .tup a2 (.cons (.int _) (.cons (.int _) .nil)), by omega, _, rfl, ?_⟩
  rw [any_pair2]
  have ec : decide (((r : Int), (c : Int)) ∈ cellsF h w f) = f r c := by
    rw [Bool.eq_iff_iff, decide_eq_true_eq, mem_cellsF]
    constructor
    · rintro ⟨r', c', _, _, e, q⟩
      injection q with q1 q2
      rw [show r = r' by omega, show c = c' by omega]; exact e
    · exact fun e => ⟨r, c, hr, hc, e, rfl⟩
  rw [ec]
  cases z1 : f r c with
  | false =>
    refine hN x6 H2 (fun a o _ ea => s2 _ _ ea) ?_
    rw [show stp f r ks n c L' = L' by unfold stp; rw [z1]; rfl]
    exact s2 _ _ he
  | true =>
    have ei : inV (V.int c) (ks.map V.int) = decide ((c : Int) ∈ ks) := by
      unfold inV
      rw [List.any_map, Bool.eq_iff_iff, List.any_eq_true, decide_eq_true_eq]
      constructor
      · rintro ⟨x, hx, e⟩
        have e : (x == (c : Int)) = true := e
        rw [← beq_iff_eq.mp e]; exact hx
      · intro hx
        exact ⟨c, hx, beq_self_eq_true (c : Int)⟩
    refine ⟨_, rfl, _, rfl, t, _, rfl, .inr (SqT.of (s2 _ _ ht)), rfl, by rw [List.all_map]; exact List.all_eq_true.mpr fun _ _ => rfl, _, rfl, ?_⟩
    show if (!inV (V.int c) (ks.map V.int)) = true then _ else _
    rw [ei]
    by_cases z2 : (c : Int) ∈ ks
    · rw [decide_eq_true z2]
      refine hN x6 H2 (fun a o _ ea => s2 _ _ ea) ?_
      rw [show stp f r ks n c L' = L' by unfold stp; rw [z1, decide_eq_true z2]; rfl]
      exact s2 _ _ he
    · rw [decide_eq_false z2]
      obtain ⟨g1, g2, g3⟩ := fam_ins ks hf c h6 z2
      refine ⟨_, rfl, _, rfl, by show 1 ≤ 1000; decide, fun a3 H3 s3 n3 e3 => ?_⟩
      refine ⟨t, a3, _, _, rfl, rfl, s3 _ _ (s2 _ _ ht), e3, ?_, fun a4 H4 s4 e4 => ?_⟩
      · rw [List.length_map]
        have := (fam_len ⟨6, by decide⟩ ks hf fun c hc => by have := fam_bd ks hf c hc; revert this; simp; omega)
        have : ks.length ≤ 6 := this
        show _ + 1 ≤ sizeLine
        rw [sizeLine_eq]; omega
      have ecat : ks.map V.int ++ [V.int c] = (ks ++ [(c : Int)]).map V.int := by rw [List.map_append]; rfl
      rw [ecat] at e4
      refine ⟨a4, ks ++ [(c : Int)], rfl, SqT.of e4, ?_, fun a5 ms H5 s5 n5 e5 pm pw => ?_⟩
      · have := (fam_len ⟨6, by decide⟩ ks hf fun c hc => by have := fam_bd ks hf c hc; revert this; simp; omega)
        have : ks.length ≤ 6 := this
        rw [List.length_append]; show _ + 1 < 64; omega
      obtain rfl := sort_ins hf h6 z2 pm pw
      refine ⟨a5, _, rfl, .inl ⟨SqL.of e5, fun a6 H6 s6 n6 e6 => ?_⟩⟩
      have s26 : Same H H6 := ((((s2.trans s3).trans s4).trans s5).trans s6)
      have he6 := s26 _ _ he
      have hd6 := s26 _ _ hd
      have ht6 := s26 _ _ ht
      have ek6 : H6 a6 = some (.tup (((insI c ks).map (Sum.inl : Int → Key)).map kV)) := by
        rw [List.map_map]; exact e6
      have gd : DGet H6 d (.ref t) (some (.int n)) := .inr ⟨encT L, ks.map Sum.inl, t, .inr ⟨o, hd6⟩, rfl, by rw [ek]; exact ht6, by rw [val_enc, getT_some t1.nd hk]; rfl⟩
      refine ⟨_, rfl, e, rfl, .inr ⟨_, .inl he6⟩, _, rfl, _, DGet.t he6 ek6, _, rfl, _, rfl, d, _, rfl, gd, (getT L' (insI c ks)).getD 0, n, ?_, rfl, ?_⟩
      · rw [val_enc]
        cases getT L' (insI c ks) <;> rfl
      · refine ⟨_, rfl, _, rfl, e, _, rfl, DPut.t he6 ek6 ?_, ?_⟩
        · rw [enc_len, sizeLine_eq]
          have := t2.len
          omega
        · refine hN _ _ (fun a o ne ea => ?_) ?_
          · rw [upd_ne ne]; exact s26 _ _ ea
          · rw [upd_same, put_enc]
            unfold stp
            rw [z1, decide_eq_false z2]
            rfl
theorem stp_ok {f : Nat → Nat → Bool} {r w c : Nat} {ks : List Int} {n : Int} {L L' : Tb} (w6 : w ≤ 6) (hc : c < w) (t1 : TbOk r w L) (hk : (ks, n) ∈ L) (t2 : TbOk (r + 1) w L') : TbOk (r + 1) w (stp f r ks n c L') := by
  unfold stp
  split
  · rename_i z
    have z := Bool.and_eq_true_iff.mp z
    have z2 : (c : Int) ∉ ks := by simpa using z.2
    obtain ⟨hf, hl, hb⟩ := t1.mem _ hk
    obtain ⟨g1, g2, g3⟩ := fam_ins ks hf c (six_of (by omega) (by omega)) z2
    refine t2.put ⟨g1, by rw [g3]; exact Nat.succ_le_succ hl, fun x hx => ?_⟩ _
    rcases List.mem_append.mp ((insI_perm c ks).mem_iff.mp hx) with y | y
    · exact hb x y
    · rw [List.mem_singleton.mp y]; omega
  · exact t2
theorem stp_sum {f : Nat → Nat → Bool} {r w c : Nat} {ks : List Int} {n : Int} {L' : Tb} (t2 : TbOk (r + 1) w L') (φ : List Int → Int) : Tw φ (stp f r ks n c L') = Tw φ L' + n * (if (f r c && !decide ((c : Int) ∈ ks)) = true then φ (insI c ks) else 0) := by
  unfold stp
  split
  · exact put_sum φ (insI c ks) n t2.nd
  · rw [Int.mul_zero]; omega
theorem stp_len (f : Nat → Nat → Bool) (r : Nat) (ks : List Int) (n : Int) (c : Nat) (L : Tb) : L.length ≤ (stp f r ks n c L).length := by
  unfold stp putT
  split
  · split
    · rw [List.length_map]; exact Nat.le_refl _
    · rw [List.length_append]; exact Nat.le_add_right _ _
  · exact Nat.le_refl _
theorem Kb.trans {e : Addr} {H H1 H2 : Hp} (a : Kb e H H1) (b : Kb e H1 H2) : Kb e H H2 := fun x o n h => b x o n (a x o n h)
theorem Kb.base {e : Addr} {H0 H H' : Hp} (s : Same H0 H) (n : H0 e = none) (k : Kb e H H') : Same H0 H' := fun b o h => k b o (fun z => by rw [z, n] at h; cases h) (s b o h)
def colS (f : Nat → Nat → Bool) (r : Nat) (φ : List Int → Int) (ks : List Int) (j : Nat) : Int := sumZ (fun c : Nat => if (f r c && !decide ((c : Int) ∈ ks)) = true then φ (insI c ks) else 0) (List.range j)
theorem cB1_ok {K : PySem.W.Frag} {u : Nat} {b d e t : Addr} {h w r : Nat} {f : Nat → Nat → Bool} {L L' : Tb} {ks : List Int} {n : Int} {o : Obj} {x5 x6 x7 : Option V} {D : Ends} {H0 H : Hp} (hu : u + 60 < cLine) (w6 : w ≤ 6) (hr : r < h) (B : Bf H0 b h w f) (s0 : Same H0 H) (n0 : H0 e = none) (hd : H d = some (.frz o (.dT (encT L)))) (he : H e = some (.dT (encT L'))) (ht : H t = some (.tup (ks.map V.int))) (hk : (ks, n) ∈ L) (t1 : TbOk r w L) (t2 : TbOk (r + 1) w L')
    (hN : ∀ x5 x6 H' L'', Kb e H H' → H' e = some (.dT (encT L'')) → TbOk (r + 1) w L'' → L'.length ≤ L''.length → (∀ φ, Tw φ L'' = Tw φ L' + n * Nx f r φ ks w) → D.nx [some (.ref b), some (.ref d), some (.int r), some (.ref e), some (.ref t), x5, x6, x7] H') :
    cB1 K u D [some (.ref b), some (.ref d), some (.int r), some (.ref e), some (.ref t), x5, x6, x7] H := by
  obtain ⟨cc, ps, e1, e2, q⟩ := (B.same s0).at_
  have de : d ≠ e := ne_of hd he (fun z => nomatch z)
  have te : t ≠ e := ne_of ht he (fun z => nomatch z)
  refine ⟨_, rfl, b, _, _, _, rfl, rfl, SqT.of e1, atI_nat (j := 1) rfl, w, rfl, by omega, by omega, ?_⟩
  rw [Int.toNat_natCast]
  refine for_range (fun j σ H' => ∃ x5 x6 L'', σ = [some (.ref b), some (.ref d), some (.int r), some (.ref e), some (.ref t), x5, x6, x7] ∧ Kb e H H' ∧ H' e = some (.dT (encT L'')) ∧ TbOk (r + 1) w L'' ∧ L'.length ≤ L''.length ∧ ∀ φ, Tw φ L'' = Tw φ L' + n * colS f r φ ks j) ⟨_, _, L', rfl, fun _ _ _ h => h, he, t2, Nat.le_refl _, fun φ => ?_⟩ ?_ ?_
  · show _ = _ + n * 0
    rw [Int.mul_zero]; omega
  · rintro j σ H' hj ⟨x5, x6, L'', rfl, kb, he', t', ln, sm⟩
    rw [show (0 : Int) + (j : Int) = (j : Int) by omega]
    refine cB2_ok hu w6 hr hj (B.same (Kb.base s0 n0 kb)) (kb _ _ de hd) he' (kb _ _ te ht) hk t1 t' fun x6' H2 kb2 he2 => ⟨_, _, _, rfl, kb.trans kb2, he2, stp_ok w6 hj t1 hk t', Nat.le_trans ln (stp_len ..), fun φ => ?_⟩
    rw [stp_sum t' φ, sm φ]
    unfold colS
    rw [List.range_succ, sumZ_app, Int.mul_add]
    show _ = _ + (_ + n * ((if (f r j && !decide ((j : Int) ∈ ks)) = true then φ (insI j ks) else 0) + 0))
    rw [Int.add_zero, Int.add_assoc]
  · rintro σ H' ⟨x5, x6, L'', rfl, kb, he', t', ln, sm⟩
    exact hN x5 x6 H' L'' kb he' t' ln sm
theorem for_dict {d : Addr} {o : Obj} {kvs : List (List Key × V)} {g : TG} {tb : TS} {D : Ends} {σ : L2.St} {H : Hp} (Pv : Nat → L2.St → Hp → Prop) (h0 : Pv 0 σ H) (hl : ∀ i σ H, Pv i σ H → H d = some (.frz o (.dT kvs)))
    (hs : ∀ i p b σ H, kvs[i]? = some p → H b = some (.tup (p.1.map kV)) → Pv i σ H → g (.ref b) σ H fun σ2 H2 => tb { D with nx := Pv (i + 1), ct := Pv (i + 1), bk := D.nx } σ2 H2) (hd : ∀ σ H, Pv kvs.length σ H → D.nx σ H) :
    ∃ W : Nat → Nat → L2.St → Hp → Prop, (∃ m, W 0 m σ H) ∧ ∀ i m σ H, W i m σ H →
      ((Itd d o kvs).stop i H ∧ D.nx σ H) ∨ ((Itd d o kvs).go i H ∧ ∃ N : L2.St → Hp → Prop, (∀ σ' H', N σ' H' → ∃ m', m' < m ∧ W (i + 1) m' σ' H') ∧ ∀ x H', (Itd d o kvs).yld i H x H' → g x σ H' fun σ2 H2 => tb { D with nx := N, ct := N, bk := D.nx } σ2 H2) := by
  refine ⟨fun i m σ H => m = kvs.length - i ∧ i ≤ kvs.length ∧ Pv i σ H, ⟨kvs.length, by simp, Nat.zero_le _, h0⟩, ?_⟩
  rintro i m σ H ⟨rfl, hi, p⟩
  have q := hl i σ H p
  by_cases lt : i < kvs.length
  · refine .inr ⟨⟨q, lt⟩, Pv (i + 1), fun σ' H' p' => ⟨kvs.length - (i + 1), by omega, rfl, lt, p'⟩, fun x H' y => ?_⟩
    obtain ⟨rfl, kv, b, e1, rfl, e2⟩ := y
    exact hs i kv b σ _ e1 e2 p
  · obtain rfl : i = kvs.length := by omega
    exact .inl ⟨⟨q, Nat.le_refl _⟩, hd σ H p⟩
theorem enc_at {L : Tb} {i : Nat} {p : List Key × V} (h : (encT L)[i]? = some p) : ∃ ks n, L[i]? = some (ks, n) ∧ p = (ks.map Sum.inl, V.int n) := by
  unfold encT at h
  rw [List.getElem?_map] at h
  cases z : L[i]? with
  | none => rw [z] at h; cases h
  | some q => rw [z] at h; cases h; exact ⟨q.1, q.2, rfl, rfl⟩
theorem cRow_ok {K : PySem.W.Frag} {P : Program} {W : World} {u : Nat} {b d : Addr} {h w r : Nat} {f : Nat → Nat → Bool} {L : Tb} {x3 x4 x5 x6 x7 : Option V} {D : Ends} {H0 H : Hp} (hu : u + 60 < cLine) (w6 : w ≤ 6) (hr : r < h) (B : Bf H0 b h w f) (s0 : Same H0 H) (nd0 : H0 d = none) (hd : H d = some (.dT (encT L))) (t1 : TbOk r w L) (hl : 0 < L.length)
    (hN : ∀ e x3 x4 x5 x6 H' L', Same H0 H' → H0 e = none → H' e = some (.dT (encT L')) → TbOk (r + 1) w L' → 0 < L'.length → (∀ φ, Tw φ L' = Tw (fun ks => φ ks + Nx f r φ ks w) L) → D.nx [some (.ref b), some (.ref e), some (.int r), x3, x4, x5, x6, x7] H') :
    cRow K P W u D [some (.ref b), some (.ref d), some (.int r), x3, x4, x5, x6, x7] H := by
  refine ⟨_, rfl, d, _, rfl, .inl hd, by rw [enc_len]; exact hl, t1.hashU P W, fun e ne => ?_⟩
  have n0e : H0 e = none := by
    cases z : H0 e with
    | none => rfl
    | some o => rw [s0 _ _ z] at ne; cases ne
  have de : d ≠ e := ne_of_none hd ne
  refine ⟨_, rfl, d, _, rfl, by rw [upd_ne de]; exact hd, fun o => ?_⟩
  refine for_dict (fun i σ H' => ∃ x4 x5 x6 L', σ = [some (.ref b), some (.ref d), some (.int r), some (.ref e), x4, x5, x6, x7] ∧ Same H0 H' ∧ H' d = some (.frz o (.dT (encT L))) ∧ H' e = some (.dT (encT L')) ∧ TbOk (r + 1) w L' ∧ L.length ≤ L'.length ∧ ∀ φ, Tw φ L' = Tw φ L + sumZ (fun p => p.2 * Nx f r φ p.1 w) (L.take i)) ⟨_, _, _, L, rfl, fun a oo h0 => ?_, upd_same, ?_, t1.mono, Nat.le_refl _, fun φ => ?_⟩ ?_ ?_ ?_
  · rw [upd_ne (fun z => by rw [z, nd0] at h0; cases h0), upd_ne (fun z => by rw [z, n0e] at h0; cases h0)]
    exact s0 _ _ h0
  · rw [upd_ne (Ne.symm de), upd_same]
  · show _ = _ + 0
    omega
  · rintro i σ H' ⟨x4, x5, x6, L', rfl, _, hd', _⟩
    exact hd'
  · rintro i p a σ H' hp ha ⟨x4, x5, x6, L', rfl, s', hd', he', t', ln, sm⟩
    obtain ⟨ks, n, hL, rfl⟩ := enc_at hp
    have ha' : H' a = some (.tup (ks.map V.int)) := by
      rw [show ks.map V.int = (ks.map (Sum.inl : Int → Key)).map kV by rw [List.map_map]; rfl]
      exact ha
    refine cB1_ok hu w6 hr B s' n0e hd' he' ha' (List.mem_of_getElem? hL) t1 t' fun x5' x6' H2 L'' kb he2 t2 ln2 sm2 => ⟨_, _, _, L'', rfl, Kb.base s' n0e kb, kb _ _ (ne_of hd' he' (fun z => nomatch z)) hd', he2, t2, Nat.le_trans ln ln2, fun φ => ?_⟩
    rw [sm2 φ, sm φ, List.take_add_one, hL, sumZ_app]
    show _ = _ + (_ + (n * Nx f r φ ks w + 0))
    rw [Int.add_zero, Int.add_assoc]
  · rintro σ H' ⟨x4, x5, x6, L', rfl, s', hd', he', t', ln, sm⟩
    refine ⟨_, rfl, hN e _ _ _ _ H' L' s' n0e he' t' (by omega) fun φ => ?_⟩
    rw [sm φ, enc_len, List.take_length, Tw_add]
    rfl
def cIw (f : Nat → Nat → Bool) (h w : Nat) : List Int := (List.range (min h w + 1)).map fun k => Wc (cellsF h w f) h h 0 k
def byL (L : Tb) (k : Nat) : Int := sumZ (fun p => if p.1.length = k then p.2 else 0) L
def rowL (m : Nat) (L : Tb) : List Int := (List.range (m + 1)).map (byL L)
theorem Ph_end (f : Nat → Nat → Bool) (h w k : Nat) (ks : List Int) : Ph f h w h k ks = if ks.length = k then 1 else 0 := by
  unfold Ph
  rw [Nat.sub_self]
  by_cases z : ks.length ≤ k
  · rw [if_pos z]
    show (if k - ks.length = 0 then (1 : Int) else 0) = _
    by_cases y : ks.length = k
    · rw [if_pos y, if_pos (by omega)]
    · rw [if_neg y, if_neg (by omega)]
  · rw [if_neg z, if_neg (by omega)]
theorem byL_Tw (f : Nat → Nat → Bool) (h w k : Nat) (L : Tb) : Tw (Ph f h w h k) L = byL L k := by
  unfold Tw byL
  refine sumZ_cg fun p _ => ?_
  rw [Ph_end]
  split
  · rw [Int.mul_one]
  · rw [Int.mul_zero]
theorem rowL_at {m k : Nat} {L : Tb} (h : k ≤ m) : (rowL m L)[k]? = some (byL L k) := by
  unfold rowL
  rw [List.getElem?_map, List.getElem?_range (by omega)]; rfl
theorem rowL_len (m : Nat) (L : Tb) : (rowL m L).length = m + 1 := by unfold rowL; rw [List.length_map, List.length_range]
theorem rowL_put {m : Nat} {L : Tb} {p : List Int × Int} : (rowL m L).set p.1.length (byL L p.1.length + p.2) = rowL m (L ++ [p]) := by
  refine List.ext_getElem (by rw [List.length_set, rowL_len, rowL_len]) fun k h1 h2 => ?_
  rw [List.length_set, rowL_len] at h1
  have a : (rowL m (L ++ [p]))[k]? = some (byL (L ++ [p]) k) := rowL_at (by omega)
  have b : (rowL m L)[k]? = some (byL L k) := rowL_at (by omega)
  have ea : byL (L ++ [p]) k = byL L k + (if p.1.length = k then p.2 else 0) := by
    unfold byL
    rw [sumZ_app]
    show _ + (_ + 0) = _
    rw [Int.add_zero]
  rw [List.getElem?_eq_getElem h2] at a
  rw [Option.some.inj a, ea, List.getElem_set]
  rw [List.getElem?_eq_getElem (by rw [rowL_len]; omega)] at b
  split
  · rename_i z
    rw [← z]
  · rename_i z
    rw [Option.some.inj b, Int.add_zero]
theorem cSum_ok {K : PySem.W.Frag} {b d t g : Addr} {m : Nat} {L M : Tb} {ks : List Int} {n : Int} {o : Obj} {x2 x3 x5 x6 : Option V} {D : Ends} {H : Hp} (hd : H d = some (.frz o (.dT (encT L)))) (hg : H g = some (.lst ((rowL m M).map V.int))) (ht : H t = some (.tup (ks.map V.int))) (hk : (ks, n) ∈ L) (nd : (L.map (·.1)).Nodup) (hm : ks.length ≤ m)
    (hN : D.nx [some (.ref b), some (.ref d), x2, x3, some (.ref t), x5, x6, some (.ref g)] (upd H g (.lst ((rowL m (M ++ [(ks, n)])).map V.int)))) :
    cSum K D [some (.ref b), some (.ref d), x2, x3, some (.ref t), x5, x6, some (.ref g)] H := by
  have ek : (ks.map (Sum.inl : Int → Key)).map kV = ks.map V.int := by rw [List.map_map]; rfl
  have gd : DGet H d (.ref t) (some (.int n)) := .inr ⟨encT L, ks.map Sum.inl, t, .inr ⟨o, hd⟩, rfl, by rw [ek]; exact ht, by rw [val_enc, getT_some nd hk]; rfl⟩
  have lm : (ks.map V.int).length = ks.length := List.length_map _
  refine ⟨_, rfl, _, rfl, t, _, rfl, .inr (SqT.of ht), g, _, _, _, rfl, rfl, SqL.of hg, by rw [lm]; exact atI_nat (j := ks.length) (by rw [List.getElem?_map, rowL_at hm]; rfl), _, rfl, _, rfl, d, _, rfl, gd, byL M ks.length, n, rfl, rfl, ?_⟩
  refine ⟨_, rfl, _, rfl, t, _, rfl, .inr (SqT.of ht), g, _, _, ks.length, rfl, rfl, hg, by rw [lm]; exact ixN_nat (by rw [List.length_map, rowL_len]; omega), ?_⟩
  rw [← List.map_set (f := V.int), rowL_put (p := (ks, n))]
  exact hN
theorem rowL_nil (m : Nat) : (List.replicate (m + 1) [V.int 0]).flatten = (rowL m []).map V.int := by
  unfold rowL
  rw [List.map_map]
  generalize m + 1 = n
  induction n with
  | zero => rfl
  | succ n ih => rw [List.replicate_succ', List.flatten_append, ih, List.range_succ, List.map_append]; rfl
theorem cAll_ok {K : PySem.W.Frag} {P : Program} {W : World} {u : Nat} {b : Addr} {h w : Nat} {f : Nat → Nat → Bool} {D : Ends} {H : Hp} (hu : u + 60 < cLine) (h6 : h ≤ 6) (w6 : w ≤ 6) (B : Bf H b h w f)
    (hN : ∀ t H', Same H H' → H t = none → H' t = some (.lst ((cIw f h w).map V.int)) → D.rt (.ref t) H') :
    cAll K P W u D [some (.ref b), none, none, none, none, none, none, none] H := by
  refine fun p np => ⟨by show 0 ≤ 1000; decide, fun a H2 s2 n2 e2 => ⟨a, [], _, rfl, s2 _ _ upd_same, e2, ?_⟩⟩
  have s1 : Same H (upd H2 p (.dT (encT [([], 1)]))) := fun x oo hx => by
    have xp : x ≠ p := fun z => by rw [z, np] at hx; cases hx
    rw [upd_ne xp]
    exact s2 _ _ (by rw [upd_ne xp]; exact hx)
  obtain ⟨cc, ps, e1, _, _⟩ := (B.same s1).at_
  have t0 : TbOk 0 w [([], 1)] := ⟨List.nodup_cons.mpr ⟨List.not_mem_nil, List.nodup_nil⟩, fun q hq => by
    rw [List.mem_singleton.mp hq]
    exact ⟨by decide, Nat.le_refl _, fun c hc => nomatch hc⟩⟩
  refine ⟨_, rfl, b, _, _, _, rfl, rfl, SqT.of e1, atI_nat (j := 0) rfl, h, rfl, by omega, by omega, ?_⟩
  rw [Int.toNat_natCast]
  refine for_range (fun r σ H' => ∃ d x2 x3 x4 x5 x6 L, σ = [some (.ref b), some (.ref d), x2, x3, x4, x5, x6, none] ∧ Same H H' ∧ H d = none ∧ H' d = some (.dT (encT L)) ∧ TbOk r w L ∧ 0 < L.length ∧ ∀ k, Tw (Ph f h w r k) L = Wc (cellsF h w f) h h 0 k) ⟨p, _, _, _, _, _, [([], 1)], rfl, s1, np, upd_same, t0, Nat.one_pos, fun k => ?_⟩ ?_ ?_
  · show 1 * Ph f h w 0 k [] + 0 = _
    rw [Int.one_mul, Int.add_zero]
    rfl
  · rintro r σ H' hr ⟨d, x2, x3, x4, x5, x6, L, rfl, s', nd, hd, t', l', sm⟩
    rw [show (0 : Int) + (r : Int) = (r : Int) by omega]
    refine cRow_ok hu w6 hr B s' nd hd t' l' fun e x3 x4 x5 x6 H3 L3 s3 n3 e3 t3 l3 sm3 => ⟨e, _, _, _, _, _, L3, rfl, s3, n3, e3, t3, l3, fun k => ?_⟩
    rw [sm3, ← sm k]
    exact Tw_cg fun q hq => (Ph_step w6 hr (t'.mem q hq).1).symm
  · rintro σ H' ⟨d, x2, x3, x4, x5, x6, L, rfl, s', nd, hd, t', l', sm⟩
    obtain ⟨cc, ps, e1, _, _⟩ := (B.same s').at_
    refine ⟨by show 1 ≤ 1000; decide, fun a3 H3 s3 n3 e3 => ?_⟩
    refine ⟨_, rfl, b, _, _, _, rfl, rfl, SqT.of (s3 _ _ e1), atI_nat (j := 0) rfl, _, rfl, b, _, _, _, rfl, rfl, SqT.of (s3 _ _ e1), atI_nat (j := 1) rfl, h, w, rfl, _, 1, rfl, rfl, ?_⟩
    have em : ((if (w : Int) < (h : Int) then (w : Int) else (h : Int)) + 1).toNat = min h w + 1 := by split <;> omega
    refine ⟨a3, _, _, rfl, rfl, e3, by split <;> omega, by split <;> omega, by rw [em]; show 1 * _ ≤ _; omega, fun g H4 s4 n4 e4 => ?_⟩
    rw [em, rowL_nil] at e4
    have n4' : H g = none := by
      cases z : H g with
      | none => rfl
      | some oo => rw [s3 _ _ (s' _ _ z)] at n4; cases n4
    have dg : d ≠ g := ne_of (s4 _ _ (s3 _ _ hd)) e4 (fun z => nomatch z)
    refine ⟨_, rfl, d, _, rfl, s4 _ _ (s3 _ _ hd), fun o => ?_⟩
    refine for_dict (fun i σ H' => ∃ x4, σ = [some (.ref b), some (.ref d), x2, x3, x4, x5, x6, some (.ref g)] ∧ Same H H' ∧ H' d = some (.frz o (.dT (encT L))) ∧ H' g = some (.lst ((rowL (min h w) (L.take i)).map V.int))) ⟨_, rfl, fun x oo hx => ?_, upd_same, ?_⟩ ?_ ?_ ?_
    · rw [upd_ne (fun z => by rw [z, nd] at hx; cases hx)]
      exact s4 _ _ (s3 _ _ (s' _ _ hx))
    · rw [upd_ne (Ne.symm dg)]; exact e4
    · rintro i σ H5 ⟨x4, rfl, _, hd5, _⟩
      exact hd5
    · rintro i q a σ H5 hq ha ⟨x4, rfl, s5, hd5, hg5⟩
      obtain ⟨ks, n, hL, rfl⟩ := enc_at hq
      have ha' : H5 a = some (.tup (ks.map V.int)) := by
        rw [show ks.map V.int = (ks.map (Sum.inl : Int → Key)).map kV by rw [List.map_map]; rfl]
        exact ha
      obtain ⟨hf, hl, hb⟩ := t'.mem _ (List.mem_of_getElem? hL)
      have lw : ks.length ≤ w := fam_len ⟨w, by omega⟩ ks hf hb
      have hl : ks.length ≤ h := hl
      refine cSum_ok hd5 hg5 ha' (List.mem_of_getElem? hL) t'.nd (by omega) ⟨_, rfl, fun x oo hx => ?_, ?_, ?_⟩
      · rw [upd_ne (fun z => by rw [z, n4'] at hx; cases hx)]; exact s5 _ _ hx
      · rw [upd_ne dg]; exact hd5
      · rw [upd_same, List.take_add_one, hL]; rfl
    · rintro σ H5 ⟨x4, rfl, s5, hd5, hg5⟩
      rw [enc_len, List.take_length] at hg5
      refine ⟨_, rfl, hN g H5 s5 n4' ?_⟩
      have : rowL (min h w) L = cIw f h w := by
        unfold rowL cIw
        refine List.map_congr_left fun k _ => ?_
        rw [← byL_Tw f h w k L, sm k]
      rw [← this]; exact hg5
end Rk
namespace Rk
open PySem PySem.Spec PyProof.Rows L2 _root_.Rd Dl Rt
theorem full_inv : ∀ a : Fin 13, ∀ b : Fin 13, ∀ m : Fin 13, sumN (m + 1) (fun j => sgnI j * fullI a b j * fullI (a - j) (b - j) (m - j)) = if (m : Nat) = 0 then 1 else 0 := by decide +kernel
def pasI : Nat → List Int
  | 0 => [1]
  | n + 1 => List.zipWith (fun a b => a + b) (0 :: pasI n) (pasI n ++ [0])
theorem pas_ok : ∀ n : Fin 14, pasI n = (List.range (n + 1)).map (setI n) := by decide +kernel
theorem set_out : ∀ n : Fin 14, ∀ k : Fin 14, (n : Nat) < k → setI n k = 0 := by decide +kernel
theorem sgn_add (i : Nat) : ∀ j, sgnI (i + j) = sgnI i * sgnI j
  | 0 => by show _ = _ * 1; rw [Int.mul_one]; rfl
  | j + 1 => by show - sgnI (i + j) = sgnI i * - sgnI j; rw [sgn_add i j, Int.mul_neg]
theorem sgn_sq (i : Nat) : sgnI i * sgnI i = 1 := by
  rcases sgn_ok i with h | h <;> rw [h] <;> decide
theorem rcI_at {h w : Nat} {c : List Int} {j : Nat} (hj : j < c.length) : (rcI h w c).getD j 0 = restAt h w c j := by
  rw [List.getD_eq_getElem?_getD]
  unfold rcI
  rw [List.getElem?_map, List.getElem?_range hj]; rfl
theorem rcI_len (h w : Nat) (c : List Int) : (rcI h w c).length = c.length := by unfold rcI; rw [List.length_map, List.length_range]
theorem rc_inv {h w : Nat} (h12 : h ≤ 12) (w12 : w ≤ 12) {c : List Int} (hc : c.length = min h w + 1) : rcI h w (rcI h w c) = c := by
  refine List.ext_getElem (by rw [rcI_len, rcI_len]) fun k h1 h2 => ?_
  have e1 := rcI_at (h := h) (w := w) (c := rcI h w c) (j := k) (by rw [rcI_len]; exact h2)
  rw [List.getD_eq_getElem?_getD, List.getElem?_eq_getElem h1] at e1
  have e1 : (rcI h w (rcI h w c))[k] = restAt h w (rcI h w c) k := e1
  have e2 : c.getD k 0 = c[k] := by rw [List.getD_eq_getElem?_getD, List.getElem?_eq_getElem h2]; rfl
  rw [e1, ← e2]
  unfold restAt
  have s1 : sumN (k + 1) (fun j => sgnI j * (rcI h w c).getD j 0 * fullI (h - j) (w - j) (k - j)) = sumN (k + 1) (fun j => sumN (k + 1) fun i => if i ≤ j then sgnI j * (sgnI i * c.getD i 0 * fullI (h - i) (w - i) (j - i)) * fullI (h - j) (w - j) (k - j) else 0) := sumN_congr fun j hj => by
    rw [rcI_at (by omega)]
    unfold restAt
    rw [sumN_more (n := j + 1) (m := k + 1) (by omega) (fun i hi _ => if_neg (by omega))]
    rw [← sumN_mulL, Int.mul_comm (sumN _ _), ← sumN_mulL]
    refine sumN_congr fun i hi => ?_
    rw [if_pos (by omega), Int.mul_comm]
  rw [s1, sumN_comm]
  have s2 : ∀ i, i < k + 1 → sumN (k + 1) (fun j => if i ≤ j then sgnI j * (sgnI i * c.getD i 0 * fullI (h - i) (w - i) (j - i)) * fullI (h - j) (w - j) (k - j) else 0) = c.getD i 0 * (if k - i = 0 then 1 else 0) := fun i hi => by
    rw [sumN_from (a := i) (by omega) (fun j hj => if_neg (by omega))]
    have fi := full_inv ⟨h - i, by omega⟩ ⟨w - i, by omega⟩ ⟨k - i, by omega⟩
    have fi : sumN (k - i + 1) (fun j => sgnI j * fullI (h - i) (w - i) j * fullI (h - i - j) (w - i - j) (k - i - j)) = if k - i = 0 then 1 else 0 := fi
    rw [← fi, ← sumN_mulL, show k + 1 - i = k - i + 1 by omega]
    refine sumN_congr fun j hj => ?_
    rw [if_pos (by omega), sgn_add, show i + j - i = j by omega, show h - (i + j) = h - i - j by omega, show w - (i + j) = w - i - j by omega, show k - (i + j) = k - i - j by omega]
    have sq := sgn_sq i
    generalize fullI (h - i) (w - i) j = x
    generalize fullI (h - i - j) (w - i - j) (k - i - j) = y
    generalize c.getD i 0 = z
    generalize sgnI i = s at sq ⊢
    generalize sgnI j = t
    have : s * t * (s * z * x) = (s * s) * (z * (t * x)) := by
      simp only [Int.mul_assoc, Int.mul_comm, Int.mul_left_comm]
    rw [this, sq, Int.one_mul]
    simp only [Int.mul_assoc]
  rw [sumN_congr s2, sumN_pick (k := k) (by omega) (fun i hi ne => by rw [if_neg (by omega), Int.mul_zero]), if_pos (by omega), Int.mul_one]
end Rk
namespace Rk
open PySem PySem.Spec PyProof.Rows L2 _root_.Rd Dl Rt
def lb2D : DF := fun args R _ => ∃ h w : Nat, args = [.pot, .v (.int h), .v (.int w)] ∧ h ≤ 6 ∧ w ≤ 6 ∧ ∀ f : Nat → Nat → Bool, R (bdD h w (cellsF h w f))
def cI (cs : List (Int × Int)) (h w : Nat) : List Int := (List.range (min h w + 1)).map (Wc cs h h 0)
theorem cI_len (cs : List (Int × Int)) (h w : Nat) : (cI cs h w).length = min h w + 1 := by unfold cI; rw [List.length_map, List.length_range]
theorem cI_cnt {cs : List (Int × Int)} {h w : Nat} (g : GB h w cs) : isCnt (min h w) (.list ((cI cs h w).map PyData.int)) = true := by
  show (decide (((cI cs h w).map PyData.int).length = min h w + 1) && (((cI cs h w).map PyData.int).all isNN && one1 ((cI cs h w).map PyData.int))) = true
  rw [decide_eq_true (by rw [List.length_map, cI_len]), Bool.true_and, Bool.and_eq_true]
  constructor
  · refine List.all_eq_true.mpr fun d hd => ?_
    obtain ⟨i, hi, rfl⟩ := List.mem_map.mp hd
    unfold cI at hi
    obtain ⟨k, _, rfl⟩ := List.mem_map.mp hi
    rw [ev_cnt2 g]
    show decide (0 ≤ ((evS cs k).length : Int)) = true
    exact decide_eq_true (Int.natCast_nonneg _)
  · unfold cI
    rw [List.range_succ_eq_map, List.map_cons, List.map_cons]
    show decide (Wc cs h h 0 0 = 1) = true
    rw [Wc_zero]; rfl
theorem eqv_ints (ns : List Int) : PyData.eqv (.list (ns.map PyData.int)) (.list (ns.map PyData.int)) = true := by
  show PyData.eqvAll (ns.map PyData.int) (ns.map PyData.int) = true
  induction ns with
  | nil => rfl
  | cons x ns ih =>
    show (PyData.eqv (.int x) (.int x) && PyData.eqvAll (ns.map PyData.int) (ns.map PyData.int)) = true
    rw [ih, Bool.and_true]
    show decide (x = x) = true
    exact decide_eq_true rfl
theorem depth_ints (ns : List Int) : (PyData.list (ns.map PyData.int)).depth ≤ 50 := by
  have : ∀ ns : List Int, PyData.depthAll (ns.map PyData.int) ≤ 1 := fun ns => by
    induction ns with
    | nil => decide
    | cons x ns ih =>
      show max (PyData.depth (.int x)) (PyData.depthAll (ns.map PyData.int)) ≤ 1
      have : PyData.depth (.int x) ≤ 1 := by unfold PyData.depth; decide
      omega
  have := this ns
  unfold PyData.depth
  omega
end Rk
namespace L2
open PySem PySem.Spec PyProof.Rows
def capOkC (N : List Str) (sc : Scope) (M : List Str) (scope : Scope) (cap : List (Option Nat)) : Bool :=
  cap.length == M.length && (M.zip cap).all (fun (x, o) => match o with
    | none => true
    | some j => N[j]? == some x && (scope.names.lookup x == some .free && (sc.names.lookup x == some .cell || sc.names.lookup x == some .free))) &&
  (scope.kind == .function && scope.names.all fun y => (y.2 != .cell || scope.names.lookup y.1 == some .cell) && ((y.2 != .free || (sc.names.lookup y.1 == some .cell || sc.names.lookup y.1 == some .free)) && (y.2 != .local || scope.names.lookup y.1 == some .local)))
structure CapOkC (N : List Str) (sc : Scope) (M : List Str) (scope : Scope) (cap : List (Option Nat)) : Prop where
  len : cap.length = M.length
  own : ∀ (i j : Nat) (x : Str), M[i]? = some x → cap[i]? = some (some j) → N[j]? = some x ∧ scope.names.lookup x = some .free ∧ (sc.names.lookup x = some .cell ∨ sc.names.lookup x = some .free)
  kind : scope.kind = .function
  cell : ∀ y ∈ scope.names, y.2 = .cell → scope.names.lookup y.1 = some .cell
  free : ∀ y ∈ scope.names, y.2 = .free → sc.names.lookup y.1 = some .cell ∨ sc.names.lookup y.1 = some .free
  loc : ∀ y ∈ scope.names, y.2 = .local → scope.names.lookup y.1 = some .local
theorem CapOkC.of {N : List Str} {sc : Scope} {M : List Str} {scope : Scope} {cap : List (Option Nat)} (h : capOkC N sc M scope cap = true) : CapOkC N sc M scope cap := by
  unfold capOkC at h
  simp only [Bool.and_eq_true, List.all_eq_true, beq_iff_eq] at h
  obtain ⟨⟨h1, h2⟩, h3, h4⟩ := h
  refine ⟨h1, fun i j x e1 e2 => ?_, h3, fun y hy z => ?_, fun y hy z => ?_, fun y hy z => ?_⟩
  · have hm : (x, some j) ∈ M.zip cap := by
      have : (M.zip cap)[i]? = some (x, some j) := by rw [List.getElem?_zip_eq_some]; exact ⟨e1, e2⟩
      exact List.mem_of_getElem? this
    have := h2 _ hm
    simp only [Bool.and_eq_true, beq_iff_eq, Bool.or_eq_true] at this
    exact this
  · have := (h4 y hy).1
    simpa [z] using this
  · have := (h4 y hy).2.1
    simpa [z] using this
  · have := (h4 y hy).2.2
    simpa [z] using this
section
variable {X : Cx} {pins : List (Addr × Obj)} {σ : St} {H H3 : Hp} {s3 : Shared} {M : List Str} {scope : Scope} {cap : List (Option Nat)} {fp : List Addr} {h4 : Heap} {t4 : Nat}
end
section
variable {X : Cx} {pins : List (Addr × Obj)} {σ : St} {H : Hp}
end
end L2
namespace Rk
open PySem PySem.Spec PyProof.Rows L2 _root_.Rd Dl
end Rk
namespace Dl
open PySem PySem.Spec PyProof.Rows L2
section
variable {X : Cx} {E : XK}
end
end Dl
namespace Rk
open PySem PySem.Spec PyProof.Rows L2 _root_.Rd
def top (i : Nat) : Stmt := PySem.Challenge.pw_rooklands_k52_rest_counts_told.main.body.getD i (.Pass ⟨0, 0, 0, 0⟩)
abbrev sWhole : Stmt := top 5
abbrev sWithin : Stmt := top 6
abbrev sOrders : Stmt := top 7
abbrev sSets : Stmt := top 8
abbrev sCounts : Stmt := top 11
abbrev sRest : Stmt := top 12
abbrev sWell : Stmt := top 13
abbrev sRef : Stmt := top 14
abbrev sRestC : Stmt := top 15
abbrev sFull : Stmt := top 16
abbrev lCellAt : Stmt := top 18
abbrev lPot : Stmt := top 19
abbrev lTake : Stmt := top 20
abbrev lWhole : Stmt := top 21
abbrev lSame : Stmt := top 22
abbrev lBoard : Stmt := top 23
abbrev lCounts : Stmt := top 24
abbrev lSets : Stmt := top 25
abbrev lSet : Stmt := top 26
abbrev lWays : Stmt := top 27
abbrev lRest : Stmt := top 28
abbrev sLaw : Stmt := top 29
section
variable {P : Program} {w : World} {K : PySem.W.Frag} {mg : Str → Option Value} {base : Heap}
theorem scCellAt : FnScope ["_law_script", "_law_k"] ["_law_script", "_law_k"] (defScope lCellAt) := ⟨rfl, rfl, rfl, by decide +kernel, rfl, by decide +kernel, by decide +kernel⟩
theorem ok_cellAt {f : Addr} {fd : FuncData} (F : Fun K "_law_cell_at" "_law_cell_at" lCellAt f fd) (T : GlbA mg) : FnOk P w K mg base CX0 1 f fd ["_law_script", "_law_k"] (spCellAt K) := by
  refine F.ok scCellAt (fun vs H Q E h => ?_) (fun cdv A outer s H vs Q E hr h => ?_)
  · obtain ⟨a, ns, k, rfl, _⟩ := h
    rfl
  · obtain ⟨a, ns, n, rfl, hs, hl, h0, k⟩ := h
    refine ⟨_, pss_cons (ps_if (pt_cmpR op_lt (pv 1) (pe_callB call_len_seq (by rfl) T.len bt_len (pa_cons (pv 0) pa_nil)) (nomark _)) (pss_one (ps_ret (pe_ix ix_list (pv 0) (pv 1) (fun _ _ => rfl)))) pss_nil) (pss_one (ps_ret pe_int)), ?_⟩
    refine ⟨_, rfl, _, rfl, a, _, rfl, .inl hs, _, _, rfl, rfl, _, rfl, ?_⟩
    refine ite2 (fun hlt => ?_) (fun _ => k 0)
    have hlt' : n < (ns.map V.int).length := of_decide_eq_true hlt
    rw [List.length_map] at hlt'
    obtain ⟨j, rfl⟩ := Int.eq_ofNat_of_zero_le h0
    have hj : j < ns.length := by omega
    refine ⟨_, rfl, _, rfl, a, _, _, .int ns[j], rfl, rfl, hs, atI_nat ?_, k _⟩
    rw [List.getElem?_map, List.getElem?_eq_getElem hj]; rfl
theorem scPot : FnScope ["_law_cell", "_law_number", "_law_j", "_law_more"] ["_law_cell"] (defScope lPot) := ⟨rfl, rfl, rfl, by decide +kernel, rfl, by decide +kernel, by decide +kernel⟩
theorem ok_pot {f : Addr} {fd : FuncData} (F : Fun K "_law_pot" "_law_pot" lPot f fd) (T : GlbA mg) : FnOk P w K mg base CX0 1 f fd ["_law_cell"] spPot := by
  refine F.ok scPot (fun vs H Q E h => ?_) (fun cdv A outer s H vs Q E hr h => ?_)
  · obtain ⟨c, rfl, _⟩ := h
    rfl
  · obtain ⟨c, rfl, k⟩ := h
    refine ⟨_, pss_cons (ps_if (pt_cmpR op_ge (pv 0) (pe_op op_pow pe_int pe_int) (nomark _)) (pss_one (ps_ret (pe_lst (pa_cons (pe_op op_sub (pv 0) (pe_op op_pow pe_int pe_int)) pa_nil)))) pss_nil)
      (pss_cons (ps_set (i := 1) scPot.nd rfl (Or.inl rfl) pe_int)
      (pss_cons (ps_for PassesOwn.never rfl (pi_range1 (by rfl) T.range (pa_cons pe_int pa_nil)) (pg_name (i := 2) scPot.nd rfl (Or.inl rfl))
        (pss_cons (ps_set (i := 3) scPot.nd rfl (Or.inl rfl) (pe_op op_mod (pe_op op_mul (pe_op op_add (pe_op op_add (pe_op op_mod (pv 0) pe_int) (pe_op op_mul pe_int (pv 2))) pe_int) pe_int) pe_int))
        (pss_cons (ps_set (i := 3) scPot.nd rfl (Or.inl rfl) (pe_op op_mod (pe_op op_add (pe_op op_add (pe_op op_mul (pv 3) (pv 3)) (pe_op op_mul pe_int (pv 2))) pe_int) pe_int))
        (pss_one (ps_set (i := 1) scPot.nd rfl (Or.inl rfl) (pe_op op_add (pe_op op_mul (pv 1) pe_int) (pv 3)))))))
      (pss_one (ps_ret (pe_lst (pa_cons (pv 1) pa_nil)))))), ?_⟩
    refine ⟨_, rfl, _, _, rfl, rfl, ⟨by decide, by decide, by decide⟩, _, _, rfl, rfl, _, rfl, ?_⟩
    refine ite2 (fun _ => ?_) (fun _ => ?_)
    · exact ⟨_, rfl, _, _, rfl, rfl, ⟨by decide, by decide, by decide⟩, _, _, rfl, rfl, by show 1 ≤ sizeLine; decide, fun p hp => k p _ hp⟩
    · refine ⟨64, rfl, by decide, by decide, for_range (n := 64) (fun i σ H2 => ∃ n v u, σ = [some (.int c), some (.int n), v, u] ∧ H2 = H) ⟨0, none, none, rfl, rfl⟩ ?_ ?_⟩
      · rintro i σ H2 hi ⟨n, v, u, rfl, rfl⟩
        have b1 := emod_lt' ((c % 2147483629 + 7919 * (0 + (i : Int)) + 1) * 48271) (m := 2147483647) (by decide)
        refine ⟨_, rfl, _, _, rfl, rfl, by show (0 : Int) < 2147483629; decide, _, rfl, _, _, rfl, rfl, .inl ⟨by decide, by decide⟩, _, _, rfl, rfl, _, _, rfl, rfl, _, _, rfl, rfl, .inr ⟨by decide, by decide⟩, _, _, rfl, rfl, by show (0 : Int) < 2147483647; decide, ?_⟩
        refine ⟨_, rfl, _, rfl, _, _, rfl, rfl, .inl ⟨by omega, by omega⟩, _, rfl, _, _, rfl, rfl, .inl ⟨by decide, by decide⟩, _, _, rfl, rfl, _, _, rfl, rfl, _, _, rfl, rfl, by show (0 : Int) < 2147483587; decide, ?_⟩
        exact ⟨_, rfl, _, _, rfl, rfl, .inr ⟨by decide, by decide⟩, _, rfl, _, _, rfl, rfl, _, _, _, rfl, rfl⟩
      · rintro σ H2 ⟨n, v, u, rfl, rfl⟩
        exact ⟨_, rfl, by show 1 ≤ sizeLine; decide, fun p hp => k p _ hp⟩
theorem scTake : FnScope ["_law_pot_here", "_law_far", "_law_found"] ["_law_pot_here", "_law_far"] (defScope lTake) := ⟨rfl, rfl, rfl, by decide +kernel, rfl, by decide +kernel, by decide +kernel⟩
theorem ok_take {f : Addr} {fd : FuncData} (F : Fun K "_law_take" "_law_take" lTake f fd) (T : GlbA mg) : FnOk P w K mg base CX0 1 f fd ["_law_pot_here", "_law_far"] spTakeC0 := by
  refine F.ok scTake (fun vs H Q E h => ?_) (fun cdv A outer s H vs Q E hr h => ?_)
  · obtain ⟨p, n, m, rfl, _⟩ := h
    rfl
  · obtain ⟨p, n, m, rfl, hp, h0, h1, k⟩ := h
    refine ⟨_, pss_cons (ps_set (i := 2) scTake.nd rfl (Or.inl rfl) (pe_op op_mod (pe_ix ix_list (pv 0) pe_int (fun _ _ => rfl)) (pv 1)))
      (pss_cons (ps_asg (pe_op op_fdivC (pe_ix ix_list (pv 0) pe_int (fun _ _ => rfl)) (pv 1)) (pg_sub (pv 0) pe_int set_list))
      (pss_one (ps_ret (pv 2)))), ?_⟩
    have b := emod_lt' n h0
    exact ⟨_, rfl, p, _, _, _, rfl, rfl, SqL.of hp, rfl, _, rfl, _, _, rfl, rfl, h0, _, rfl, p, _, _, _, rfl, rfl, SqL.of hp, rfl, _, rfl, _, _, rfl, rfl, ⟨h0, h1⟩, _, rfl, p, _, _, _, rfl, rfl, hp, rfl, _, rfl, k _ _ b.1 b.2⟩
end
end Rk
namespace Rk
open PySem PySem.Spec PyProof.Rows L2 _root_.Rd
open Dl
open Rt
theorem cm_any {items : List PyData} {wg : DG} {wt : DT} {we : DE} {δ : Sts} {Q : PyData → Prop} (G : PyData → PyData)
    (h : ∀ d ∈ items, ∀ (k1 : Prop) (k2 : PyData → Prop), k1 → k2 (G d) → wg d δ fun δ4 => wt δ4 (fun b => if b = true then we δ4 k2 XF else k1) XF) (q : ∀ p : Nat → Bool, Q (.list (((List.range items.length).filter p).map fun i => G (items.getD i .none)))) : CompR items wg wt we δ Q := by
  unfold CompR
  refine ⟨fun i acc => ∃ p : Nat → Bool, acc = ((List.range i).filter p).map fun i => G (items.getD i .none), ⟨fun _ => false, rfl⟩, fun i acc d hd ⟨p, e⟩ => ?_, fun acc ⟨p, e⟩ => by rw [e]; exact q p⟩
  have ed : items.getD i .none = d := by rw [List.getD_eq_getElem?_getD, hd]; rfl
  have same : ∀ b, (List.range i).filter (fun n => if n = i then b else p n) = (List.range i).filter p := fun b => List.filter_congr fun n hn => if_neg (by have := List.mem_range.mp hn; omega)
  refine h d (List.mem_of_getElem? hd) _ _ ⟨fun n => if n = i then false else p n, ?_⟩ ⟨fun n => if n = i then true else p n, ?_⟩
  · rw [List.range_succ, List.filter_append, same, List.filter_cons_of_neg (by simp), List.filter_nil, List.append_nil]; exact e
  · rw [List.range_succ, List.filter_append, same, List.filter_cons_of_pos (by simp), List.filter_nil, List.map_append, ← e]
    show acc ++ [G d] = acc ++ [G (items.getD i .none)]
    rw [ed]
def rest12D : DF := fun args R _ => ∃ (h w : Nat) (c : List Int), args = [.v (.int h), .v (.int w), .v (.list (c.map PyData.int))] ∧ 1 ≤ h ∧ h ≤ 12 ∧ 1 ≤ w ∧ w ≤ 12 ∧ isCnt (min h w) (.list (c.map PyData.int)) = true ∧ R (.list ((rcI h w c).map PyData.int))
def well12D : DF := fun args R _ => ∃ (h w : Nat) (c : List Int), args = [.v (.int h), .v (.int w), .v (.list (c.map PyData.int))] ∧ 1 ≤ h ∧ h ≤ 12 ∧ 1 ≤ w ∧ w ≤ 12 ∧ isCnt (min h w) (.list (c.map PyData.int)) = true ∧ R (.bool (isCnt (min h w) (.list ((rcI h w c).map PyData.int))))
def lsetsD : DF := fun args R _ => ∃ n : Nat, args = [.v (.int n)] ∧ n ≤ 12 ∧ R (.list ((pasI n).map PyData.int))
def lsetD : DF := fun args R _ => ∃ m k : Nat, args = [.v (.int m), .v (.int k)] ∧ m ≤ 12 ∧ k ≤ 12 ∧ R (.int (setI m k))
def lwaysF : DF := fun args R _ => ∃ n : Nat, args = [.v (.int n)] ∧ n ≤ 12 ∧ R (.int (fctI n))
def lrestD : DF := fun args R _ => ∃ (h w : Nat) (c : List Int), args = [.v (.int h), .v (.int w), .v (.list (c.map PyData.int))] ∧ h ≤ 12 ∧ w ≤ 12 ∧ c.length = min h w + 1 ∧ R (.list ((rcI h w c).map PyData.int))
section
variable {P : Program} {w : World} {K : PySem.W.Frag} {mg : Str → Option Value} {base : Heap}
theorem sc_whole : FnScope ["thing"] ["thing"] (defScope sWhole) := ⟨rfl, rfl, rfl, by decide +kernel, rfl, by decide +kernel, by decide +kernel⟩
theorem ok_whole {f   : Addr} {fd  : FuncData} (F : Fun K "is_whole" "is_whole" sWhole f fd) (T : GlbA mg) :
    FnOk P w K mg base CX0 1 f fd ["thing"] (toSp false wholeD) := by
  refine okQ false F sc_whole (fun args R EX h => ?_) (fun cdv A outer s H E hr => ?_)
  · obtain ⟨d, rfl, _⟩ := h
    rfl
  · have hU := Room.u60 hr
    have hI := Room.i60 hr
    refine ⟨_, qss_one (qs_ret (q_and (q_toPF (q_inst .int (by rfl) T.isinstance (qp 0) (by rfl) T.int bt_int)) (q_one (q_not (q_toPF (q_inst .bool (by rfl) T.isinstance (qp 0) (by rfl) T.bool bt_bool)))))), fun args R EX h => ?_⟩
    obtain ⟨d, rfl, hR⟩ := h
    cases d <;> exact hR
theorem sc_within : FnScope ["thing", "least", "most"] ["thing", "least", "most"] (defScope sWithin) := ⟨rfl, rfl, rfl, by decide +kernel, rfl, by decide +kernel, by decide +kernel⟩
theorem ok_within {f f1  : Addr} {fd fd1 : FuncData} (F : Fun K "is_whole_within" "is_whole_within" sWithin f fd) (T : GlbA mg)
    (m1 : mg "is_whole" = some (.ref f1)) (G1 : FnOk P w K mg base CX0 1 f1 fd1 ["thing"] (toSp false wholeD)) (b1 : Binds K fd1 ["thing"] []) (k1 : PySem.W.keepIn K (.ref f1) = true) :
    FnOk P w K mg base CX0 2 f fd ["thing", "least", "most"] (toSp false withinD) := by
  refine okQ false F sc_within (fun args R EX h => ?_) (fun cdv A outer s H E hr => ?_)
  · obtain ⟨d, a, b, rfl, _⟩ := h
    rfl
  · have hU := Room.u60 hr
    have hI := Room.i60 hr
    refine ⟨_, qss_one (qs_ret (q_and (q_toP (q_call G1 (hr.mono (by decide)) (by rfl) m1 k1 b1 passA (qs_v (qv 0) qs_nil))) (q_one (q_toD (q_ch op_le op_le (qp 1) (qp 0) (qp 2)))))), fun args R EX h => ?_⟩
    obtain ⟨d, a, b, rfl, hR⟩ := h
    refine ⟨d, rfl, ?_⟩
    cases d with
    | int i => exact iteT (and_if hR)
    | _ => exact hR
theorem sc_refs : FnScope ["high", "wide"] ["high", "wide"] (defScope sRef) := ⟨rfl, rfl, rfl, by decide +kernel, rfl, by decide +kernel, by decide +kernel⟩
theorem ok_refs {f f1  : Addr} {fd fd1 : FuncData} (hA : ∃ t, mg "MOST_COUNTED_LINES" = some (.int 12 t)) (F : Fun K "refuse_no_sizes" "refuse_no_sizes" sRef f fd) (T : GlbA mg)
    (m1 : mg "is_whole_within" = some (.ref f1)) (G1 : FnOk P w K mg base CX0 2 f1 fd1 ["thing", "least", "most"] (toSp false withinD)) (b1 : Binds K fd1 ["thing", "least", "most"] []) (k1 : PySem.W.keepIn K (.ref f1) = true) :
    FnOk P w K mg base CX0 3 f fd ["high", "wide"] (toSp false refD) := by
  refine okQ false F sc_refs (fun args R EX h => ?_) (fun cdv A outer s H E hr => ?_)
  · obtain ⟨h, w, rfl, _⟩ := h
    rfl
  · obtain ⟨tA, mA⟩ := hA
    have hU := Room.u60 hr
    have hI := Room.i60 hr
    refine ⟨_, qss_cons (qs_if (qt_not (qt_val (q_toP (q_call G1 (hr.mono (by decide)) (by rfl) m1 k1 b1 passA (qs_v (qv 0) (qs_v q_int (qs_v (q_glob 12 (by rfl) mA ⟨_, rfl⟩) qs_nil))))))) qss_never qss_nil)
      (qss_one (qs_if (qt_not (qt_val (q_toP (q_call G1 (hr.mono (by decide)) (by rfl) m1 k1 b1 passA (qs_v (qv 1) (qs_v q_int (qs_v (q_glob 12 (by rfl) mA ⟨_, rfl⟩) qs_nil))))))) qss_never qss_nil)), fun args R EX h => ?_⟩
    obtain ⟨h, w, rfl, h1, h2, w1, w2, hR⟩ := h
    refine ⟨_, _, _, rfl, ?_⟩
    rw [show inW (.int h) 1 12 = true from inW_t h1 h2]
    refine ⟨_, _, _, rfl, ?_⟩
    rw [show inW (.int w) 1 12 = true from inW_t w1 w2]
    exact hR
theorem nd_counts1 : (["part"] : List Str).Nodup := by decide +kernel
theorem sc_counts : FnScope ["high", "wide", "thing"] ["high", "wide", "thing"] (defScope sCounts) := ⟨rfl, rfl, rfl, by decide +kernel, rfl, by decide +kernel, by decide +kernel⟩
theorem ok_counts {f f1 f2  : Addr} {fd fd1 fd2 : FuncData} (F : Fun K "is_counts" "is_counts" sCounts f fd) (T : GlbA mg)
    (m1 : mg "is_whole" = some (.ref f1)) (G1 : FnOk P w K mg base CX0 1 f1 fd1 ["thing"] (toSp false wholeD)) (b1 : Binds K fd1 ["thing"] []) (k1 : PySem.W.keepIn K (.ref f1) = true)
    (m2 : mg "refuse_no_sizes" = some (.ref f2)) (G2 : FnOk P w K mg base CX0 3 f2 fd2 ["high", "wide"] (toSp false refD)) (b2 : Binds K fd2 ["high", "wide"] []) (k2 : PySem.W.keepIn K (.ref f2) = true) :
    FnOk P w K mg base CX0 4 f fd ["high", "wide", "thing"] (toSp false cntD) := by
  refine okQ false F sc_counts (fun args R EX h => ?_) (fun cdv A outer s H E hr => ?_)
  · obtain ⟨h, w, d, rfl, _⟩ := h
    rfl
  · have hU := Room.u60 hr
    have hI := Room.i60 hr
    refine ⟨_, qss_cons (qs_expr (q_toP (q_call G2 (hr.mono (by decide)) (by rfl) m2 k2 b2 passA (qs_v (qv 0) (qs_v (qv 1) qs_nil)))))
      (qss_cons (qs_if (q_pw (qw_or (qt_not (qt_val (q_toPF (q_inst .list (by rfl) T.isinstance (qp 2) (by rfl) T.list bt_list)))) (qw_or1 (qt_cmp op_neA (od_ne hU) (q_toPF (q_callB call_lenK cd_len (by rfl) T.len bt_len (qa_P (qp 2) qa_nil))) (q_toPF (q_bin op_addD od_add (q_toPF (q_callB (call_min2 rfl) cd_min2 (by rfl) T.min bt_min (qa_P (qp 0) (qa_P (qp 1) qa_nil)))) (q_toP q_int))) (nomark _))))) (qss_one (qs_ret q_bl)) qss_nil)
      (qss_one (qs_ret (q_and (q_toPF (q_callB call_all (cd_all rfl) (by rfl) T.all bt_all (qa_P (q_toPF (q_comp ["part"] [none] (qi_list (qp 2)) (fun cl ex s3 H3 C => ⟨(qg_name 0 nd_counts1 rfl (Or.inl rfl) (Or.inr rfl)), qts_nil, (q_and (q_toP (q_call G1 (hr.mono (by decide)) (by rfl) m1 k1 b1 passA (qs_v (qv 0) qs_nil))) (q_one (q_toD (q_cmp op_ge od_ib0 (qp 0) (q_toP q_int) (nomark _)))))⟩))) qa_nil))) (q_one (q_toD (q_cmp op_eqA (od_eq hU) (q_toP (q_ix ix_any od_ix (qp 2) (q_toP q_int) (fun _ _ => rfl))) (q_toP q_int) (nomark _)))))))), fun args R EX h => ?_⟩
    obtain ⟨h, w, d, rfl, h1, h2, w1, w2, hR⟩ := h
    refine ⟨_, _, rfl, by omega, by omega, by omega, by omega, ?_⟩
    cases d with
    | list ds =>
      refine ifC (fun z => ?_) fun z => ?_
      · have z := not_dec z
        have hl : ds.length ≠ (min h w).toNat + 1 := fun e => z (by split <;> omega)
        rw [show isCnt (min h w).toNat (.list ds) = false by show (decide _ && _) = false; rw [decide_eq_false hl]; rfl] at hR
        exact hR
      · have z := dec_not z
        have hl : ds.length = (min h w).toNat + 1 := by split at z <;> omega
        rw [show isCnt (min h w).toNat (.list ds) = (ds.all isNN && one1 ds) by show (decide _ && _) = _; rw [decide_eq_true hl]; rfl] at hR
        refine cm_map (fun d => .bool (isNN d)) (fun d hd k2 hk => ?_) ?_
        · refine ⟨d, rfl, ?_⟩
          cases d <;> exact hk
        · refine allD_of (items := ds) rfl ?_
          refine and_ifK hR fun ha hR => ?_
          cases ds with
          | nil => cases hl
          | cons d ds =>
            refine ⟨d, atI_nat (j := 0) rfl, ?_⟩
            rw [List.all_cons, Bool.and_eq_true] at ha
            cases d <;> first | exact hR | (cases ha.1)
    | _ => exact hR
theorem sc_orders : FnScope ["many", "told", "number"] ["many"] (defScope sOrders) := ⟨rfl, rfl, rfl, by decide +kernel, rfl, by decide +kernel, by decide +kernel⟩
theorem ok_orders {f   : Addr} {fd  : FuncData} (F : Fun K "how_many_orders" "how_many_orders" sOrders f fd) (T : GlbA mg) :
    FnOk P w K mg base CX0 1 f fd ["many"] (toSp false ordersD) := by
  refine okQ false F sc_orders (fun args R EX h => ?_) (fun cdv A outer s H E hr => ?_)
  · obtain ⟨m, rfl, _⟩ := h
    rfl
  · have hU := Room.u60 hr
    have hI := Room.i60 hr
    refine ⟨_, qss_cons (qs_set 1 q_int sc_orders.nd)
      (qss_cons (qs_for PassesOwn.never rfl (qi_rng1 (by rfl) T.range (qp 0)) (qg_name 2 sc_orders.nd rfl (by first | exact Or.inl rfl | exact Or.inr rfl))
        (qss_one (qs_aug 1 (ip_of iop_mul) odn_mul (q_toPF (q_bin op_addD od_add (qp 2) (q_toP q_int))) sc_orders.nd)))
      (qss_one (qs_ret (qv 1)))), fun args R EX h => ?_⟩
    obtain ⟨m, rfl, h0, h1, hR⟩ := h
    refine ⟨⟨by omega, by omega⟩, for_rng (fun i δ => ∃ x, δ = [.v (.int m), .v (.int (fctI i)), x]) ⟨_, rfl⟩ ?_ ?_⟩
    · rintro i δ hi ⟨x, rfl⟩
      have := fct_ok (show i ≤ 12 by omega)
      refine ⟨.inl ⟨by omega, by omega⟩, .v (.int (0 + (i : Int))), ?_⟩
      show [Sl.v (.int m), .v (.int (fctI i * (0 + (i : Int) + 1))), .v (.int (0 + (i : Int)))] = _
      rw [show (0 : Int) + (i : Int) + 1 = (i : Int) + 1 by omega]
      rfl
    · rintro δ ⟨x, rfl⟩
      exact hR
theorem sc_sets : FnScope ["many", "size", "told", "number"] ["many", "size"] (defScope sSets) := ⟨rfl, rfl, rfl, by decide +kernel, rfl, by decide +kernel, by decide +kernel⟩
theorem ok_sets {f   : Addr} {fd  : FuncData} (F : Fun K "how_many_sets" "how_many_sets" sSets f fd) (T : GlbA mg) :
    FnOk P w K mg base CX0 1 f fd ["many", "size"] (toSp false setsD) := by
  refine okQ false F sc_sets (fun args R EX h => ?_) (fun cdv A outer s H E hr => ?_)
  · obtain ⟨m, k, rfl, _⟩ := h
    rfl
  · have hU := Room.u60 hr
    have hI := Room.i60 hr
    refine ⟨_, qss_cons (qs_set 2 q_int sc_sets.nd)
      (qss_cons (qs_for PassesOwn.never rfl (qi_rng1 (by rfl) T.range (qp 1)) (qg_name 3 sc_sets.nd rfl (by first | exact Or.inl rfl | exact Or.inr rfl))
        (qss_one (qs_set 2 (q_toD (q_bin op_fdivC od_ii (q_toPF (q_bin op_mulD od_mul (qp 2) (q_toPF (q_bin op_sub od_ii0 (qp 0) (qp 3))))) (q_toPF (q_bin op_addD od_add (qp 3) (q_toP q_int))))) sc_sets.nd)))
      (qss_one (qs_ret (qv 2)))), fun args R EX h => ?_⟩
    obtain ⟨m, k, rfl, m0, m1, k0, k1, hR⟩ := h
    refine ⟨⟨by omega, by omega⟩, for_rng (fun i δ => ∃ x, δ = [.v (.int m), .v (.int k), .v (.int (setI m.toNat i)), x]) ⟨_, rfl⟩ ?_ ?_⟩
    · rintro i δ hi ⟨x, rfl⟩
      have := set_ok (m := m.toNat) (k := i) (by omega) (by omega)
      refine ⟨.inl (.inl ⟨by omega, by omega⟩), ⟨by omega, by omega⟩, .v (.int (0 + (i : Int))), ?_⟩
      show [Sl.v (.int m), .v (.int k), .v (.int (setI m.toNat i * (m - (0 + (i : Int))) / (0 + (i : Int) + 1))), .v (.int (0 + (i : Int)))] = _
      rw [show (0 : Int) + (i : Int) = (i : Int) by omega]
      show [Sl.v (.int m), .v (.int k), .v (.int (setI m.toNat i * (m - (i : Int)) / ((i : Int) + 1))), .v (.int (i : Int))] = [Sl.v (.int m), .v (.int k), .v (.int (setI m.toNat i * ((m.toNat : Int) - (i : Int)) / ((i : Int) + 1))), .v (.int (i : Int))]
      rw [show ((m.toNat : Nat) : Int) = m by omega]
    · rintro δ ⟨x, rfl⟩
      exact hR
theorem sc_full : FnScope ["high", "wide", "size"] ["high", "wide", "size"] (defScope sFull) := ⟨rfl, rfl, rfl, by decide +kernel, rfl, by decide +kernel, by decide +kernel⟩
theorem ok_full {f f1 f2  : Addr} {fd fd1 fd2 : FuncData} (F : Fun K "full_count" "full_count" sFull f fd) (T : GlbA mg)
    (m1 : mg "how_many_sets" = some (.ref f1)) (G1 : FnOk P w K mg base CX0 1 f1 fd1 ["many", "size"] (toSp false setsD)) (b1 : Binds K fd1 ["many", "size"] []) (k1 : PySem.W.keepIn K (.ref f1) = true)
    (m2 : mg "how_many_orders" = some (.ref f2)) (G2 : FnOk P w K mg base CX0 1 f2 fd2 ["many"] (toSp false ordersD)) (b2 : Binds K fd2 ["many"] []) (k2 : PySem.W.keepIn K (.ref f2) = true) :
    FnOk P w K mg base CX0 2 f fd ["high", "wide", "size"] (toSp false fullD) := by
  refine okQ false F sc_full (fun args R EX h => ?_) (fun cdv A outer s H E hr => ?_)
  · obtain ⟨h, w, s, rfl, _⟩ := h
    rfl
  · have hU := Room.u60 hr
    have hI := Room.i60 hr
    refine ⟨_, qss_one (qs_retF (q_bin op_mulD od_mul (q_toPF (q_bin op_mulD od_mul (q_toP (q_call G1 (hr.mono (by decide)) (by rfl) m1 k1 b1 passA (qs_v (qv 0) (qs_v (qv 2) qs_nil)))) (q_toP (q_call G1 (hr.mono (by decide)) (by rfl) m1 k1 b1 passA (qs_v (qv 1) (qs_v (qv 2) qs_nil)))))) (q_toP (q_call G2 (hr.mono (by decide)) (by rfl) m2 k2 b2 passA (qs_v (qv 2) qs_nil))))), fun args R EX h => ?_⟩
    obtain ⟨h, w, s, rfl, h0, h1, w0, w1, s0, s1, hR⟩ := h
    have a := set_ok (m := h.toNat) (k := s.toNat) (by omega) (by omega)
    have b := full_small (h := h.toNat) (w := w.toNat) (s := s.toNat) (by omega) (by omega) (by omega)
    refine ⟨_, _, rfl, by omega, by omega, by omega, by omega, ⟨_, _, rfl, by omega, by omega, by omega, by omega, ?_⟩⟩
    exact ⟨.inl (.inl ⟨by omega, by omega⟩), _, rfl, by omega, by omega, .inl (.inl ⟨by omega, by omega⟩), hR⟩
theorem sc_restc : FnScope ["high", "wide", "counts", "size", "told", "sign", "less"] ["high", "wide", "counts", "size"] (defScope sRestC) := ⟨rfl, rfl, rfl, by decide +kernel, rfl, by decide +kernel, by decide +kernel⟩
theorem ok_restc {f f1  : Addr} {fd fd1 : FuncData} (F : Fun K "rest_count" "rest_count" sRestC f fd) (T : GlbA mg)
    (m1 : mg "full_count" = some (.ref f1)) (G1 : FnOk P w K mg base CX0 2 f1 fd1 ["high", "wide", "size"] (toSp false fullD)) (b1 : Binds K fd1 ["high", "wide", "size"] []) (k1 : PySem.W.keepIn K (.ref f1) = true) :
    FnOk P w K mg base CX0 3 f fd ["high", "wide", "counts", "size"] (toSp false restcD) := by
  refine okQ false F sc_restc (fun args R EX h => ?_) (fun cdv A outer s H E hr => ?_)
  · obtain ⟨h, w, s, c, rfl, _⟩ := h
    rfl
  · have hU := Room.u60 hr
    have hI := Room.i60 hr
    refine ⟨_, qss_cons (qs_set 4 q_int sc_restc.nd)
      (qss_cons (qs_set 5 q_int sc_restc.nd)
      (qss_cons (qs_for PassesOwn.never rfl (qi_rng1 (by rfl) T.range (q_toPF (q_bin op_addD od_add (qp 3) (q_toP q_int)))) (qg_name 6 sc_restc.nd rfl (by first | exact Or.inl rfl | exact Or.inr rfl))
        (qss_cons (qs_aug 4 ip_add odn_ii0 (q_toPF (q_bin op_mulD od_mul (q_toPF (q_bin op_mulD od_mul (qp 5) (q_toP (q_ix ix_any od_ix (qp 2) (qp 6) (fun _ _ => rfl))))) (q_toP (q_call G1 (hr.mono (by decide)) (by rfl) m1 k1 b1 passA (qs_v (q_toD (q_bin op_sub od_ii0 (qp 0) (qp 6))) (qs_v (q_toD (q_bin op_sub od_ii0 (qp 1) (qp 6))) (qs_v (q_toD (q_bin op_sub od_ii0 (qp 3) (qp 6))) qs_nil))))))) sc_restc.nd)
      (qss_one (qs_set 5 (q_toD (q_neg (qp 5))) sc_restc.nd))))
      (qss_one (qs_ret (qv 4))))), fun args R EX h => ?_⟩
    obtain ⟨h, w, s, c, rfl, h1, w1, s0, s1, cl, h2, w2, hR⟩ := h
    have lc := lenI c
    refine ⟨⟨by omega, by omega⟩, for_rng (fun i δ => ∃ x, δ = [.v (.int h), .v (.int w), .v (.list (c.map PyData.int)), .v (.int s), .v (.int (sumN i fun j => sgnI j * c.getD j 0 * fullI (h.toNat - j) (w.toNat - j) (s.toNat - j))), .v (.int (sgnI i)), x]) ⟨_, rfl⟩ ?_ ?_⟩
    · rintro i δ hi ⟨x, rfl⟩
      have hi2 : i < c.length := by omega
      have fa := full_abs (h := h.toNat - i) (w := w.toNat - i) (s := s.toNat - i) (by omega) (by omega) (by omega)
      refine ⟨.int (c.getD i 0), ?_, .inl (.inl (by rcases sgn_ok i with z | z <;> rw [z] <;> decide)), ⟨_, _, _, rfl, by omega, by omega, by omega, by omega, by omega, by omega, ?_⟩⟩
      · rw [show (0 : Int) + (i : Int) = (i : Int) by omega]
        refine atI_nat ?_
        rw [List.getElem?_map, List.getD_eq_getElem?_getD, List.getElem?_eq_getElem hi2]
        rfl
      · have e1 : (h - (0 + (i : Int))).toNat = h.toNat - i := by omega
        have e2 : (w - (0 + (i : Int))).toNat = w.toNat - i := by omega
        have e3 : (s - (0 + (i : Int))).toNat = s.toNat - i := by omega
        rw [e1, e2, e3]
        exact ⟨.inl (.inr fa), .v (.int (0 + (i : Int))), rfl⟩
    · rintro δ ⟨x, rfl⟩
      have e : (s + 1).toNat = s.toNat + 1 := by omega
      rw [e]
      exact hR
theorem nd_rest1 : (["size", "counts", "high", "wide"] : List Str).Nodup := by decide +kernel
theorem sc_rest : FnScope ["high", "wide", "counts"] ["high", "wide", "counts"] (defScope sRest) := ⟨rfl, rfl, rfl, by decide +kernel, rfl, by decide +kernel, by decide +kernel⟩
theorem ok_rest {f f1 f2  : Addr} {fd fd1 fd2 : FuncData} (F : Fun K "rest_counts" "rest_counts" sRest f fd) (T : GlbA mg)
    (m1 : mg "is_counts" = some (.ref f1)) (G1 : FnOk P w K mg base CX0 4 f1 fd1 ["high", "wide", "thing"] (toSp false cntD)) (b1 : Binds K fd1 ["high", "wide", "thing"] []) (k1 : PySem.W.keepIn K (.ref f1) = true)
    (m2 : mg "rest_count" = some (.ref f2)) (G2 : FnOk P w K mg base CX0 3 f2 fd2 ["high", "wide", "counts", "size"] (toSp false restcD)) (b2 : Binds K fd2 ["high", "wide", "counts", "size"] []) (k2 : PySem.W.keepIn K (.ref f2) = true) :
    FnOk P w K mg base CX0 5 f fd ["high", "wide", "counts"] (toSp true rest12D) := by
  refine okQ true F sc_rest (fun args R EX h => ?_) (fun cdv A outer s H E hr => ?_)
  · obtain ⟨h, w, c, rfl, _⟩ := h
    rfl
  · have hU := Room.u60 hr
    have hI := Room.i60 hr
    refine ⟨_, qss_cons (qs_if (qt_not (qt_val (q_toP (q_call G1 (hr.mono (by decide)) (by rfl) m1 k1 b1 passA (qs_v (qv 0) (qs_v (qv 1) (qs_v (qv 2) qs_nil))))))) qss_never qss_nil)
      (qss_one (qs_retF (q_comp ["size", "counts", "high", "wide"] [none, some 2, some 0, some 1] (qi_rng1 (by rfl) T.range (q_toPF (q_callB call_lenK cd_len (by rfl) T.len bt_len (qa_P (qp 2) qa_nil)))) (fun cl ex s3 H3 C => ⟨(qg_name 0 nd_rest1 rfl (Or.inl rfl) (Or.inr rfl)), qts_nil, (q_call G2 (hr.mono (by decide)) (by rfl) m2 k2 b2 passA (qs_v (qv 2) (qs_v (qv 3) (qs_v (qv 1) (qs_v (qv 0) qs_nil)))))⟩)))), fun args R EX h => ?_⟩
    obtain ⟨h, w, c, rfl, h1, h6, w1, w6, hc, hR⟩ := h
    have em : (min (h : Int) (w : Int)).toNat = min h w := by omega
    refine ⟨_, _, _, rfl, by omega, by omega, by omega, by omega, ?_⟩
    rw [em, hc]
    have lc := lenI c
    obtain ⟨c2, e2, cl, cp, c0⟩ := cnt_ints hc
    have e2 : c.map PyData.int = c2.map PyData.int := PyData.list.inj e2
    have ec : c = c2 := by rw [← toI_ints c, e2, toI_ints]
    subst ec
    refine ⟨⟨by omega, by omega⟩, cm_map (fun d => match d with | .int s => .int (restAt h w c s.toNat) | _ => .none) (fun d hd k2 hk => ?_) ?_⟩
    · obtain ⟨i, hi⟩ := List.mem_iff_getElem?.mp hd
      obtain ⟨hi, rfl⟩ := rng_get hi
      exact ⟨_, _, _, _, rfl, by omega, by omega, by omega, by omega, by omega, by omega, by omega, hk⟩
    · have e : (rngD 0 (((c.map PyData.int).length : Nat) : Int).toNat).map (fun d => match d with | .int s => PyData.int (restAt h w c s.toNat) | _ => .none) = (rcI h w c).map PyData.int := by
        unfold rngD rcI
        rw [List.map_map, List.map_map, Int.toNat_natCast, lc]
        refine List.map_congr_left fun i _ => ?_
        show PyData.int (restAt h w c (0 + (i : Int)).toNat) = _
        rw [show (0 + (i : Int)).toNat = i by omega]
        rfl
      rw [← e] at hR
      exact hR
theorem sc_well : FnScope ["high", "wide", "counts"] ["high", "wide", "counts"] (defScope sWell) := ⟨rfl, rfl, rfl, by decide +kernel, rfl, by decide +kernel, by decide +kernel⟩
theorem ok_well {f f1 f2  : Addr} {fd fd1 fd2 : FuncData} (F : Fun K "rests_well" "rests_well" sWell f fd) (T : GlbA mg)
    (m1 : mg "is_counts" = some (.ref f1)) (G1 : FnOk P w K mg base CX0 4 f1 fd1 ["high", "wide", "thing"] (toSp false cntD)) (b1 : Binds K fd1 ["high", "wide", "thing"] []) (k1 : PySem.W.keepIn K (.ref f1) = true)
    (m2 : mg "rest_counts" = some (.ref f2)) (G2 : FnOk P w K mg base CX0 5 f2 fd2 ["high", "wide", "counts"] (toSp true rest12D)) (b2 : Binds K fd2 ["high", "wide", "counts"] []) (k2 : PySem.W.keepIn K (.ref f2) = true) :
    FnOk P w K mg base CX0 6 f fd ["high", "wide", "counts"] (toSp false well12D) := by
  refine okQ false F sc_well (fun args R EX h => ?_) (fun cdv A outer s H E hr => ?_)
  · obtain ⟨h, w, c, rfl, _⟩ := h
    rfl
  · have hU := Room.u60 hr
    have hI := Room.i60 hr
    refine ⟨_, qss_one (qs_ret (q_call G1 (hr.mono (by decide)) (by rfl) m1 k1 b1 passA (qs_v (qv 0) (qs_v (qv 1) (qs_v (q_toD (q_callF G2 (hr.mono (by decide)) (by rfl) m2 k2 b2 passA (qs_v (qv 0) (qs_v (qv 1) (qs_v (qv 2) qs_nil))))) qs_nil))))), fun args R EX h => ?_⟩
    obtain ⟨h, w, c, rfl, h1, h6, w1, w6, hc, hR⟩ := h
    have em : (min (h : Int) (w : Int)).toNat = min h w := by omega
    refine ⟨_, _, _, rfl, h1, h6, w1, w6, hc, ⟨_, _, _, rfl, by omega, by omega, by omega, by omega, ?_⟩⟩
    rw [em]
    exact hR
theorem nd_lboard1 : (["_law_column", "_law_pot_here", "_law_row", "_law_thick"] : List Str).Nodup := by decide +kernel
theorem sc_lboard : FnScope ["_law_pot_here", "_law_high", "_law_wide", "_law_thick", "_law_cells", "_law_row"] ["_law_pot_here", "_law_high", "_law_wide"] (defScope lBoard) := ⟨rfl, rfl, rfl, by decide +kernel, rfl, by decide +kernel, by decide +kernel⟩
theorem ok_lboard {f f1  : Addr} {fd fd1 : FuncData} (F : Fun K "_law_board" "_law_board" lBoard f fd) (T : GlbA mg)
    (m1 : mg "_law_take" = some (.ref f1)) (G1 : FnOk P w K mg base CX0 1 f1 fd1 ["_law_pot_here", "_law_far"] (toSp true takeD)) (b1 : Binds K fd1 ["_law_pot_here", "_law_far"] []) (k1 : PySem.W.keepIn K (.ref f1) = true) :
    FnOk P w K mg base CX0 2 f fd ["_law_pot_here", "_law_high", "_law_wide"] (toSp false lb2D) := by
  refine okQ false F sc_lboard (fun args R EX h => ?_) (fun cdv A outer s H E hr => ?_)
  · obtain ⟨h, w, rfl, _⟩ := h
    rfl
  · have hU := Room.u60 hr
    have hI := Room.i60 hr
    refine ⟨_, qss_cons (qs_set 3 (q_toD (q_callF G1 (hr.mono (by decide)) (by rfl) m1 k1 b1 passA (qs_pot 0 (qs_v q_int qs_nil)))) sc_lboard.nd)
      (qss_cons (qs_setF 4 (q_lst qa_nil) sc_lboard.nd)
      (qss_cons (qs_for PassesOwn.never rfl (qi_rng1 (by rfl) T.range (qp 1)) (qg_name 5 sc_lboard.nd rfl (by first | exact Or.inl rfl | exact Or.inr rfl))
        (qss_one (qs_ext 4 (q_toPF (q_comp ["_law_column", "_law_pot_here", "_law_row", "_law_thick"] [none, some 0, some 5, some 3] (qi_rng1 (by rfl) T.range (qp 2)) (fun cl ex s3 H3 C => ⟨(qg_name 0 nd_lboard1 rfl (Or.inl rfl) (Or.inr rfl)), (qts_one (qt_cmp op_lt od_ib0 (q_toPF (q_callF G1 (hr.mono (by decide)) (by rfl) m1 k1 b1 passA (qs_pot 1 (qs_v q_int qs_nil)))) (qp 3) (nomark _))), (q_toD (q_tup (qa_D (qv 2) (qa_D (qv 0) qa_nil))))⟩))))))
      (qss_one (qs_retF (q_tup (qa_D (qv 1) (qa_D (qv 2) (qa_D (q_toD (q_callTy call_tuple_ofW cd_tuple (by rfl) T.tuple bt_tuple (qa_P (qp 4) qa_nil))) qa_nil)))))))), fun args R EX h => ?_⟩
    obtain ⟨h, w, rfl, h6, w6, hR⟩ := h
    refine ⟨_, rfl, by decide, by decide, fun th th0 th1 => ⟨⟨by omega, by omega⟩, for_rng (fun i δ => ∃ f ds x5, δ = [.pot, .v (.int h), .v (.int w), .v (.int th), .own ds, x5] ∧ ds = (cellsF i w f).map pairD) ⟨fun _ _ => false, _, _, rfl, rfl⟩ ?_ ?_⟩⟩
    · rintro i δ hi ⟨f, ds, x5, rfl, rfl⟩
      rw [Int.toNat_natCast] at hi
      refine ⟨⟨by omega, by omega⟩, cm_any (fun d => match d with | .int c => pairD ((i : Int), c) | _ => .none) (fun d hd k1 k2 h1 h2 => ?_) fun p => ?_⟩
      · obtain ⟨c, hc⟩ := List.mem_iff_getElem?.mp hd
        obtain ⟨hc2, rfl⟩ := rng_get hc
        refine ⟨_, rfl, by decide, by decide, fun r r0 r1 => ?_⟩
        refine ifC (fun z => ?_) fun z => ?_
        · show k2 (pairD (0 + (i : Int), 0 + (c : Int)))
          rw [show (0 : Int) + (i : Int) = (i : Int) by omega]
          exact h2
        · exact h1
      · have er : ((List.range (rngD 0 ((w : Nat) : Int).toNat).length).filter p).map (fun q => (match (rngD 0 ((w : Nat) : Int).toNat).getD q .none with | .int c => pairD ((i : Int), c) | _ => .none)) = (rowF i w fun _ => p).map pairD := by
          rw [rng_len, Int.toNat_natCast]
          unfold rowF
          rw [List.map_map]
          refine List.map_congr_left fun c hc => ?_
          have hc := List.mem_range.mp (List.mem_filter.mp hc).1
          have eg : (rngD 0 w).getD c .none = .int (0 + (c : Int)) := by
            unfold rngD
            rw [List.getD_eq_getElem?_getD, List.getElem?_map, List.getElem?_range hc]; rfl
          rw [eg]
          show pairD ((i : Int), 0 + (c : Int)) = pairD ((i : Int), (c : Int))
          rw [show (0 : Int) + (c : Int) = (c : Int) by omega]
        rw [er]
        have l1 := cellsF_len w f i
        have l2 := rowF_len i w (fun _ => p)
        have l3 : i * w ≤ 6 * 6 := Nat.mul_le_mul (by omega) w6
        refine ⟨by rw [List.length_map, List.length_map]; omega, fun r c => if r = i then p c else f r c, _, _, rfl, ?_⟩
        rw [cellsF_succ, List.map_append, cellsF_congr (f := fun r c => if r = i then p c else f r c) (g := f) fun r c hr _ => if_neg (by omega), rowF_congr (f := fun r c => if r = i then p c else f r c) (g := fun _ => p) fun c _ => if_pos rfl]
    · rintro δ ⟨f, ds, x5, rfl, rfl⟩
      rw [Int.toNat_natCast]
      exact hR f
end
end Rk
namespace Rk
open PySem PySem.Spec PyProof.Rows L2 _root_.Rd
open Dl
open Rt
def addF : PyData → PyData
  | .tuple [.int a, .int b] => .int (a + b)
  | _ => .none
theorem pas_len : ∀ n, (pasI n).length = n + 1
  | 0 => rfl
  | n + 1 => by
    show (List.zipWith _ (0 :: pasI n) (pasI n ++ [0])).length = _
    rw [List.length_zipWith, List.length_append, List.length_cons, pas_len n]
    exact Nat.min_self _
theorem zip_pas (p : List Int) : (zipD ([.int 0] ++ p.map PyData.int) (p.map PyData.int ++ [.int 0])).map addF = (List.zipWith (fun a b => a + b) (0 :: p) (p ++ [0])).map PyData.int := by
  have e1 : p.map PyData.int ++ [.int 0] = (p ++ [0]).map PyData.int := by rw [List.map_append]; rfl
  have e2 : [PyData.int 0] ++ p.map PyData.int = (0 :: p).map PyData.int := rfl
  rw [e1, e2]
  unfold zipD
  rw [List.zipWith_map, List.map_zipWith, List.map_zipWith]
  rfl
theorem fct_bd : ∀ n : Fin 13, 1 ≤ fctI n ∧ fctI n ≤ 479001600 := by decide +kernel
theorem sgn_par : ∀ j : Nat, sgnI j = if j % 2 = 0 then 1 else -1
  | 0 => rfl
  | j + 1 => by
    show - sgnI j = _
    rw [sgn_par j]
    by_cases z : j % 2 = 0
    · rw [if_pos z, if_neg (by omega)]
    · rw [if_neg z, if_pos (by omega)]; rfl
theorem at_sgn (j : Nat) (s : Int) : atI [PyData.int s, PyData.int (0 - s)] ((0 + (j : Int)) % 2) = some (.int (sgnI j * s)) := by
  rw [sgn_par]
  by_cases z : j % 2 = 0
  · rw [if_pos z, Int.one_mul, show ((0 : Int) + (j : Int)) % 2 = ((0 : Nat) : Int) by omega]
    exact atI_nat (j := 0) rfl
  · rw [if_neg z, show ((0 : Int) + (j : Int)) % 2 = ((1 : Nat) : Int) by omega, show -1 * s = 0 - s by omega]
    exact atI_nat (j := 1) rfl
section
variable {P : Program} {w : World} {K : PySem.W.Frag} {mg : Str → Option Value} {base : Heap}
theorem nd_lsets1 : (["_law_one", "_law_other"] : List Str).Nodup := by decide +kernel
theorem sc_lsets : FnScope ["_law_many", "_law_row", "_law_turn"] ["_law_many"] (defScope lSets) := ⟨rfl, rfl, rfl, by decide +kernel, rfl, by decide +kernel, by decide +kernel⟩
theorem ok_lsets {f   : Addr} {fd  : FuncData} (F : Fun K "_law_sets" "_law_sets" lSets f fd) (T : GlbA mg) :
    FnOk P w K mg base CX0 1 f fd ["_law_many"] (toSp false lsetsD) := by
  refine okQ false F sc_lsets (fun args R EX h => ?_) (fun cdv A outer s H E hr => ?_)
  · obtain ⟨n, rfl, _⟩ := h
    rfl
  · have hU := Room.u60 hr
    have hI := Room.i60 hr
    refine ⟨_, qss_cons (qs_set 1 (q_toD (q_lst (qa_D q_int qa_nil))) sc_lsets.nd)
      (qss_cons (qs_for PassesOwn.never rfl (qi_rng1 (by rfl) T.range (qp 0)) (qg_name 2 sc_lsets.nd rfl (by first | exact Or.inl rfl | exact Or.inr rfl))
        (qss_one (qs_comp ["_law_one", "_law_other"] [none, none] 1 sc_lsets.nd (qi_zipL (by rfl) T.zip (q_toPF (q_bin op_addD od_add (q_toPF (q_lst (qa_D q_int qa_nil))) (qp 1))) (q_toPF (q_bin op_addD od_add (qp 1) (q_toPF (q_lst (qa_D q_int qa_nil)))))) (fun cl ex s3 H3 C => ⟨(qg_tup rfl (qg_cons 0 (qg_cons 1 qg_nil nd_lsets1 rfl (Or.inl rfl) (Or.inr rfl)) nd_lsets1 rfl (Or.inl rfl) (Or.inr rfl))), qts_nil, (q_toD (q_bin op_addD od_add (qp 0) (qp 1)))⟩))))
      (qss_one (qs_ret (qv 1)))), fun args R EX h => ?_⟩
    obtain ⟨n, rfl, n12, hR⟩ := h
    refine ⟨⟨by omega, by omega⟩, for_rng (fun i δ => ∃ x2, δ = [.v (.int n), .v (.list ((pasI i).map PyData.int)), x2]) ⟨_, rfl⟩ ?_ ?_⟩
    · rintro i δ hi ⟨x2, rfl⟩
      rw [Int.toNat_natCast] at hi
      have lp := pas_len i
      have lm : ((pasI i).map PyData.int).length = i + 1 := by rw [List.length_map, lp]
      refine ⟨by rw [lm]; show 1 + _ ≤ _; omega, by rw [lm]; show _ + 1 ≤ _; omega, cm_map addF (fun d hd k2 hk => ?_) ?_⟩
      · obtain ⟨j, hj⟩ := List.mem_iff_getElem?.mp hd
        obtain ⟨a, b, ha, hb, rfl⟩ := Dl.zip_get hj
        have ib : ∃ x, b = .int x := by
          rcases List.mem_append.mp (List.mem_of_getElem? hb) with z | z
          · obtain ⟨x, _, rfl⟩ := List.mem_map.mp z; exact ⟨x, rfl⟩
          · exact ⟨0, List.mem_singleton.mp z⟩
        have ia : ∃ x, a = .int x := by
          rcases List.mem_append.mp (List.mem_of_getElem? ha) with z | z
          · exact ⟨0, List.mem_singleton.mp z⟩
          · obtain ⟨x, _, rfl⟩ := List.mem_map.mp z; exact ⟨x, rfl⟩
        obtain ⟨x, rfl⟩ := ia
        obtain ⟨y, rfl⟩ := ib
        exact ⟨rfl, hk⟩
      · refine ⟨.v (.int (0 + (i : Int))), ?_⟩
        rw [zip_pas]
        rfl
    · rintro δ ⟨x2, rfl⟩
      rw [Int.toNat_natCast]
      exact hR
theorem sc_lset : FnScope ["_law_many", "_law_size"] ["_law_many", "_law_size"] (defScope lSet) := ⟨rfl, rfl, rfl, by decide +kernel, rfl, by decide +kernel, by decide +kernel⟩
theorem ok_lset {f f1  : Addr} {fd fd1 : FuncData} (F : Fun K "_law_set" "_law_set" lSet f fd) (T : GlbA mg)
    (m1 : mg "_law_sets" = some (.ref f1)) (G1 : FnOk P w K mg base CX0 1 f1 fd1 ["_law_many"] (toSp false lsetsD)) (b1 : Binds K fd1 ["_law_many"] []) (k1 : PySem.W.keepIn K (.ref f1) = true) :
    FnOk P w K mg base CX0 2 f fd ["_law_many", "_law_size"] (toSp false lsetD) := by
  refine okQ false F sc_lset (fun args R EX h => ?_) (fun cdv A outer s H E hr => ?_)
  · obtain ⟨m, k, rfl, _⟩ := h
    rfl
  · have hU := Room.u60 hr
    have hI := Room.i60 hr
    refine ⟨_, qss_one (qs_ret (q_ifE (qt_ch op_le op_le (q_toP q_int) (qp 1) (qp 0)) (q_ix ix_any od_ix (q_toP (q_call G1 (hr.mono (by decide)) (by rfl) m1 k1 b1 passA (qs_v (qv 0) qs_nil))) (qp 1) (fun _ _ => rfl)) q_int)), fun args R EX h => ?_⟩
    obtain ⟨m, k, rfl, m12, k12, hR⟩ := h
    refine ifC (fun z => ?_) fun z => ?_
    · have z := of_decide_eq_true z
      refine ⟨m, rfl, m12, _, atI_nat (j := k) ?_, hR⟩
      rw [pas_ok ⟨m, by omega⟩, List.getElem?_map, List.getElem?_map, List.getElem?_range (by show k < m + 1; omega)]
      rfl
    · have z := of_decide_eq_false z
      rw [set_out ⟨m, by omega⟩ ⟨k, by omega⟩ (by show m < k; omega)] at hR
      exact hR
theorem sc_lways : FnScope ["_law_many", "_law_found", "_law_number"] ["_law_many"] (defScope lWays) := ⟨rfl, rfl, rfl, by decide +kernel, rfl, by decide +kernel, by decide +kernel⟩
theorem ok_lways {f   : Addr} {fd  : FuncData} (F : Fun K "_law_ways" "_law_ways" lWays f fd) (T : GlbA mg) :
    FnOk P w K mg base CX0 1 f fd ["_law_many"] (toSp false lwaysF) := by
  refine okQ false F sc_lways (fun args R EX h => ?_) (fun cdv A outer s H E hr => ?_)
  · obtain ⟨n, rfl, _⟩ := h
    rfl
  · have hU := Room.u60 hr
    have hI := Room.i60 hr
    refine ⟨_, qss_cons (qs_set 1 q_int sc_lways.nd)
      (qss_cons (qs_for PassesOwn.never rfl (qi_rng2 (by rfl) T.range (q_toP q_int) (q_toPF (q_bin op_addD od_add (qp 0) (q_toP q_int)))) (qg_name 2 sc_lways.nd rfl (by first | exact Or.inl rfl | exact Or.inr rfl))
        (qss_one (qs_set 1 (q_toD (q_bin op_mulD od_mul (qp 1) (qp 2))) sc_lways.nd)))
      (qss_one (qs_ret (qv 1)))), fun args R EX h => ?_⟩
    obtain ⟨n, rfl, n12, hR⟩ := h
    refine ⟨⟨by decide, by decide, by omega, by omega⟩, for_rng (fun i δ => ∃ x2, δ = [.v (.int n), .v (.int (fctI i)), x2]) ⟨_, rfl⟩ ?_ ?_⟩
    · rintro i δ hi ⟨x2, rfl⟩
      refine ⟨.inl (.inr (by show -(2 ^ 64 : Int) < 1 + (i : Int) ∧ 1 + (i : Int) < 2 ^ 64; omega)), .v (.int (1 + (i : Int))), ?_⟩
      have e : fctI i * (1 + (i : Int)) = fctI (i + 1) := by
        show _ = fctI i * ((i : Int) + 1)
        rw [Int.add_comm 1]
      rw [← e]
      rfl
    · rintro δ ⟨x2, rfl⟩
      rw [show ((n : Int) + 1 - 1).toNat = n by omega]
      exact hR
theorem sc_lrest : FnScope ["_law_high", "_law_wide", "_law_row", "_law_found", "_law_size", "_law_total", "_law_less", "_law_more", "_law_some"] ["_law_high", "_law_wide", "_law_row"] (defScope lRest) := ⟨rfl, rfl, rfl, by decide +kernel, rfl, by decide +kernel, by decide +kernel⟩
theorem ok_lrest {f f1 f2  : Addr} {fd fd1 fd2 : FuncData} (F : Fun K "_law_rest" "_law_rest" lRest f fd) (T : GlbA mg)
    (m1 : mg "_law_set" = some (.ref f1)) (G1 : FnOk P w K mg base CX0 2 f1 fd1 ["_law_many", "_law_size"] (toSp false lsetD)) (b1 : Binds K fd1 ["_law_many", "_law_size"] []) (k1 : PySem.W.keepIn K (.ref f1) = true)
    (m2 : mg "_law_ways" = some (.ref f2)) (G2 : FnOk P w K mg base CX0 1 f2 fd2 ["_law_many"] (toSp false lwaysF)) (b2 : Binds K fd2 ["_law_many"] []) (k2 : PySem.W.keepIn K (.ref f2) = true) :
    FnOk P w K mg base CX0 3 f fd ["_law_high", "_law_wide", "_law_row"] (toSp false lrestD) := by
  refine okQ false F sc_lrest (fun args R EX h => ?_) (fun cdv A outer s H E hr => ?_)
  · obtain ⟨h, w, c, rfl, _⟩ := h
    rfl
  · have hU := Room.u60 hr
    have hI := Room.i60 hr
    refine ⟨_, qss_cons (qs_setF 3 (q_lst qa_nil) sc_lrest.nd)
      (qss_cons (qs_for PassesOwn.never rfl (qi_rng1 (by rfl) T.range (q_toPF (q_callB call_lenK cd_len (by rfl) T.len bt_len (qa_P (qp 2) qa_nil)))) (qg_name 4 sc_lrest.nd rfl (by first | exact Or.inl rfl | exact Or.inr rfl))
        (qss_cons (qs_set 5 q_int sc_lrest.nd)
      (qss_cons (qs_for PassesOwn.never rfl (qi_rng1 (by rfl) T.range (q_toPF (q_bin op_addD od_add (qp 4) (q_toP q_int)))) (qg_name 6 sc_lrest.nd rfl (by first | exact Or.inl rfl | exact Or.inr rfl))
        (qss_cons (qs_set 7 (q_toD (q_bin op_sub od_ii0 (qp 4) (qp 6))) sc_lrest.nd)
      (qss_cons (qs_set 8 (q_toD (q_bin op_mulD od_mul (q_toPF (q_bin op_mulD od_mul (q_toPF (q_bin op_mulD od_mul (q_toP (q_call G1 (hr.mono (by decide)) (by rfl) m1 k1 b1 passA (qs_v (q_toD (q_bin op_sub od_ii0 (qp 0) (qp 6))) (qs_v (qv 7) qs_nil)))) (q_toP (q_call G1 (hr.mono (by decide)) (by rfl) m1 k1 b1 passA (qs_v (q_toD (q_bin op_sub od_ii0 (qp 1) (qp 6))) (qs_v (qv 7) qs_nil)))))) (q_toP (q_call G2 (hr.mono (by decide)) (by rfl) m2 k2 b2 passA (qs_v (qv 7) qs_nil))))) (q_toP (q_ix ix_any od_ix (qp 2) (qp 6) (fun _ _ => rfl))))) sc_lrest.nd)
      (qss_one (qs_set 5 (q_toD (q_bin op_addD od_add (qp 5) (q_toP (q_ix ix_any od_ix (q_toPF (q_lst (qa_D (qv 8) (qa_D (q_toD (q_bin op_sub od_ii0 (q_toP q_int) (qp 8))) qa_nil)))) (q_toPF (q_bin op_mod od_ii (qp 6) (q_toP q_int))) (fun _ _ => rfl))))) sc_lrest.nd)))))
      (qss_one (qs_app 3 (qv 5))))))
      (qss_one (qs_retO 3))), fun args R EX h => ?_⟩
    obtain ⟨h, w, c, rfl, h12, w12, hc, hR⟩ := h
    have lc : (c.map PyData.int).length = c.length := List.length_map _
    refine ⟨⟨by rw [lc]; omega, by rw [lc]; omega⟩, for_rng (fun i δ => ∃ x4 x5 x6 x7 x8, δ = [.v (.int h), .v (.int w), .v (.list (c.map PyData.int)), .own (((List.range i).map (restAt h w c)).map PyData.int), x4, x5, x6, x7, x8]) ⟨_, _, _, _, _, rfl⟩ ?_ ?_⟩
    · rintro i δ hi ⟨x4, x5, x6, x7, x8, rfl⟩
      rw [lc, Int.toNat_natCast] at hi
      refine ⟨⟨by omega, by omega⟩, for_rng (fun j δ => ∃ x6 x7 x8, δ = [.v (.int h), .v (.int w), .v (.list (c.map PyData.int)), .own (((List.range i).map (restAt h w c)).map PyData.int), .v (.int (0 + (i : Int))), .v (.int (sumN j fun q => sgnI q * c.getD q 0 * fullI (h - q) (w - q) (i - q))), x6, x7, x8]) ⟨_, _, _, rfl⟩ ?_ ?_⟩
      · rintro j δ hj ⟨x6, x7, x8, rfl⟩
        have hj : j < i + 1 := by omega
        have e1 : (0 : Int) + (i : Int) - (0 + (j : Int)) = ((i - j : Nat) : Int) := by omega
        have e2 : (h : Int) - (0 + (j : Int)) = ((h - j : Nat) : Int) := by omega
        have e3 : (w : Int) - (0 + (j : Int)) = ((w - j : Nat) : Int) := by omega
        have so1 := set_ok (m := h - j) (k := i - j) (by omega) (by omega)
        have so2 := set_ok (m := w - j) (k := i - j) (by omega) (by omega)
        have fs := full_small (h := h - j) (w := w - j) (s := i - j) (by omega) (by omega) (by omega)
        have fo := fct_bd ⟨i - j, by omega⟩
        have fo : 1 ≤ fctI (i - j) ∧ fctI (i - j) ≤ 479001600 := fo
        refine ⟨h - j, i - j, by show [Sl.v (.int ((h : Int) - (0 + (j : Int)))), Sl.v (.int ((0 : Int) + (i : Int) - (0 + (j : Int))))] = _; rw [e1, e2], by omega, by omega, w - j, i - j, by show [Sl.v (.int ((w : Int) - (0 + (j : Int)))), Sl.v (.int ((0 : Int) + (i : Int) - (0 + (j : Int))))] = _; rw [e1, e3], by omega, by omega, .inl (.inl ⟨by omega, by omega⟩), i - j, by show [Sl.v (.int ((0 : Int) + (i : Int) - (0 + (j : Int))))] = _; rw [e1], by omega, .inl (.inr ⟨by omega, by omega⟩), .int (c.getD j 0), ?_, .inl (.inl ⟨?_, ?_⟩), (by decide : (0 : Int) < 2), _, at_sgn j _, ?_⟩
        · rw [show (0 : Int) + (j : Int) = (j : Int) by omega]
          exact atI_nat (by rw [List.getElem?_map, List.getElem?_eq_getElem (by omega : j < c.length), List.getD_eq_getElem?_getD, List.getElem?_eq_getElem (by omega : j < c.length)]; rfl)
        · have := Int.mul_nonneg fs.1 (by omega : 0 ≤ fctI (i - j))
          omega
        · have := Int.mul_le_mul fs.2 fo.2 (by omega) (by decide)
          omega
        · refine ⟨.v (.int (0 + (j : Int))), .v (.int (0 + (i : Int) - (0 + (j : Int)))), .v (.int (setI (h - j) (i - j) * setI (w - j) (i - j) * fctI (i - j) * c.getD j 0)), ?_⟩
          have e : sumN (j + 1) (fun q => sgnI q * c.getD q 0 * fullI (h - q) (w - q) (i - q)) = sumN j (fun q => sgnI q * c.getD q 0 * fullI (h - q) (w - q) (i - q)) + sgnI j * (setI (h - j) (i - j) * setI (w - j) (i - j) * fctI (i - j) * c.getD j 0) := by
            show _ + sgnI j * c.getD j 0 * (setI (h - j) (i - j) * setI (w - j) (i - j) * fctI (i - j)) = _
            rw [Int.mul_assoc, Int.mul_comm (c.getD j 0)]
          rw [e]
          rfl
      · rintro δ ⟨x6, x7, x8, rfl⟩
        rw [show ((0 : Int) + (i : Int) + 1).toNat = i + 1 by omega]
        refine ⟨by rw [List.length_map, List.length_map, List.length_range]; show _ + 1 ≤ _; omega, .v (.int (0 + (i : Int))), .v (.int (restAt h w c i)), x6, x7, x8, ?_⟩
        rw [List.range_succ, List.map_append, List.map_append]
        rfl
    · rintro δ ⟨x4, x5, x6, x7, x8, rfl⟩
      rw [lc, Int.toNat_natCast]
      exact hR
end
end Rk
namespace Rk
open PySem PySem.Spec PyProof.Rows L2 _root_.Rd
def spLCnt : Sp := fun vs H Q _ => ∃ (b : Addr) (h w : Nat) (f : Nat → Nat → Bool), vs = [.ref b] ∧ Dat H (.ref b) (bdD h w (cellsF h w f)) ∧ h ≤ 6 ∧ w ≤ 6 ∧ ∀ t H', Same H H' → H t = none → H' t = some (.lst ((cIw f h w).map V.int)) → Q (.ref t) H'
section
variable {P : Program} {w : World} {K : PySem.W.Frag} {mg : Str → Option Value} {base : Heap}
theorem sc_lcnt : FnScope ["_law_board_here", "_law_ways_here", "_law_row", "_law_later", "_law_taken", "_law_column", "_law_key", "_law_found"] ["_law_board_here"] (defScope lCounts) := ⟨rfl, rfl, rfl, by decide +kernel, rfl, by decide +kernel, by decide +kernel⟩
theorem ok_lcnt {f   : Addr} {fd  : FuncData} (zD : mg "dict" = none) (F : Fun K "_law_counts" "_law_counts" lCounts f fd) (T : GlbA mg) :
    FnOk P w K mg base CX0 1 f fd ["_law_board_here"] spLCnt := by
  refine F.ok sc_lcnt (fun vs H Q E h => ?_) (fun cdv A outer s H vs Q E hr h => ?_)
  · obtain ⟨b, h, w, f, rfl, _⟩ := h
    rfl
  · obtain ⟨b, h, w, f, rfl, hb, h6, w6, k⟩ := h
    have un := hr.units
    refine ⟨_, pss_cons (ps_set (i := 1) sc_lcnt.nd rfl (by first | exact Or.inl rfl | exact Or.inr rfl) (pe_dispT (hu_of hr) (pe_tupW pa_nil) pe_int))
      (pss_cons (ps_for PassesOwn.never rfl (pi_range1 (by rfl) T.range (pa_cons (pe_ix ix_tup (pv 0) pe_int (fun _ _ => rfl)) pa_nil)) (pg_name (i := 2) sc_lcnt.nd rfl (by first | exact Or.inl rfl | exact Or.inr rfl))
        (pss_cons (ps_set (i := 3) sc_lcnt.nd rfl (by first | exact Or.inl rfl | exact Or.inr rfl) (pe_callTy call_dictT (by rfl) zD bt_dict (pa_cons (pv 1) pa_nil)))
      (pss_cons (ps_for PassesOwn.never rfl (pi_dict (pv 1)) (pg_name (i := 4) sc_lcnt.nd rfl (by first | exact Or.inl rfl | exact Or.inr rfl))
        (pss_one (ps_for PassesOwn.never rfl (pi_range1 (by rfl) T.range (pa_cons (pe_ix ix_tup (pv 0) pe_int (fun _ _ => rfl)) pa_nil)) (pg_name (i := 5) sc_lcnt.nd rfl (by first | exact Or.inl rfl | exact Or.inr rfl))
        (pss_one (ps_if (PW.pt (pw_and (pt_cmpR op_inU (pe_tupW (pa_c (pv 2) (pa_c (pv 5) pa_nil))) (pe_ix ix_tup (pv 0) pe_int (fun _ _ => rfl)) (by rfl)) (pw_and1 (pt_cmpR op_notIn_seq (pv 5) (pv 4) (by rfl))))) (pss_cons (ps_set (i := 6) sc_lcnt.nd rfl (by first | exact Or.inl rfl | exact Or.inr rfl) (pe_callTy call_tuple_ofW (by rfl) T.tuple bt_tuple (pa_cons (pe_callB call_sortI (by rfl) T.sorted L2.boot_sorted (pa_cons (pe_op op_catA (pv 4) (pe_tupW (pa_c (pv 5) pa_nil))) pa_nil)) pa_nil)))
      (pss_one (ps_dput (hu_of hr) (pv 3) (pv 6) (pe_op op_add (pe_dget2 (hu_of hr) (pv 3) (pv 6) pe_int ⟨rfl, rfl, rfl, rfl⟩) (pe_dget (hu_of hr) (pv 1) (pv 4) (fun _ _ => rfl))) rfl))) pss_nil)))))
      (pss_one (ps_set (i := 1) sc_lcnt.nd rfl (by first | exact Or.inl rfl | exact Or.inr rfl) (pv 3))))))
      (pss_cons (ps_set (i := 7) sc_lcnt.nd rfl (by first | exact Or.inl rfl | exact Or.inr rfl) (pe_op op_repW (pe_lstW (pa_c pe_int pa_nil)) (pe_op op_add (pe_callB (call_min2 rfl) (by rfl) T.min bt_min (pa_cons (pe_ix ix_tup (pv 0) pe_int (fun _ _ => rfl)) (pa_cons (pe_ix ix_tup (pv 0) pe_int (fun _ _ => rfl)) pa_nil))) pe_int)))
      (pss_cons (ps_for PassesOwn.never rfl (pi_dict (pv 1)) (pg_name (i := 4) sc_lcnt.nd rfl (by first | exact Or.inl rfl | exact Or.inr rfl))
        (pss_one (ps_asg (pe_op op_add (pe_ix ix_list (pv 7) (pe_callB call_len_seq (by rfl) T.len bt_len (pa_cons (pv 4) pa_nil)) (fun _ _ => rfl)) (pe_dget (hu_of hr) (pv 1) (pv 4) (fun _ _ => rfl))) (pg_sub (pv 7) (pe_callB call_len_seq (by rfl) T.len bt_len (pa_cons (pv 4) pa_nil)) set_list))))
      (pss_one (ps_ret (pv 7)))))), ?_⟩
    have un2 := un
    refine cAll_ok (u := (A.deeper (envOfC "_law_counts" (defScope lCounts) s.heap.objs.size _ cdv)).in1.units) ?_ h6 w6 (Bf.of hb) k
    show (A.deeper (envOfC "_law_counts" (defScope lCounts) s.heap.objs.size _ cdv)).units + 1 + 60 < cLine
    omega
end
end Rk
namespace Rk
open PySem PySem.Spec PyProof.Rows L2 _root_.Rd
open Dl
open Rt
theorem nd_bd (h w : Int) (cs : List (Int × Int)) : nd (bdD h w cs) = true := by
  show (true && (true && (nds (cs.map pairD) && true))) = true
  rw [nds_pairs]; rfl
def lcntD : DF := fun args R _ => ∃ (h w : Nat) (f : Nat → Nat → Bool), args = [.v (bdD h w (cellsF h w f))] ∧ h ≤ 6 ∧ w ≤ 6 ∧ R (.list ((cIw f h w).map PyData.int))
theorem cnt_d {vs : List V} {H : Hp} {Q : VK} {Ex : XK} (h : toSp true lcntD vs H Q Ex) : spLCnt vs H Q Ex := by
  obtain ⟨A, pt, args, R, EX, dm, hp, q, ⟨hh, w, f, rfl, h6, w6, hR⟩, k, _⟩ := h
  cases q with
  | cons q1 q2 =>
    cases q2
    cases q1 with
    | @tup b xs ds nb e qq =>
      refine ⟨b, hh, w, f, rfl, da_dat _ _ (nd_bd _ _ _) (DA.tup nb e qq), h6, w6, fun t H' s n e' => k _ hR _ H' ⟨fun b o _ e => s _ _ e, fun p pp => ?_⟩ (new_da dm s n e' (ints_das _)) fun _ => frv_new n⟩
      obtain ⟨_, m, em⟩ := hp p pp
      exact ⟨m, s _ _ em⟩
theorem flat_lI {ns : List Int} (hl : ns.length ≤ 36) : flatL 3 (.list (ns.map PyData.int)) = true := by
  show (decide ((ns.map PyData.int).length ≤ 1000) && (ns.map PyData.int).all (flatL 2)) = true
  rw [List.length_map, decide_eq_true (by omega), show (ns.map PyData.int).all (flatL 2) = true from List.all_eq_true.mpr fun d hd => by
    obtain ⟨p, _, rfl⟩ := List.mem_map.mp hd
    rfl]; rfl
theorem cnt_min {h w : Nat} {c : List Int} (hl : c.length = min h w + 1) (c0 : c.getD 0 0 = 1) {m : Int} (m1 : m ∈ rcI h w c) (m2 : ∀ y ∈ rcI h w c, m ≤ y) : isCnt (min h w) (.list ((rcI h w c).map PyData.int)) = decide (0 ≤ m) := by
  have e0 : ∃ r, (rcI h w c).map PyData.int = .int 1 :: r := by
    have a : (rcI h w c).getD 0 0 = 1 := by
      rw [rcI_at (by omega)]
      show 0 + 1 * c.getD 0 0 * fullI h w 0 = 1
      rw [c0]; rfl
    have b : (rcI h w c).length = c.length := rcI_len h w c
    cases hq : rcI h w c with
    | nil => rw [hq] at b; rw [hl] at b; cases b
    | cons x r =>
      rw [hq] at a
      have a : x = 1 := a
      exact ⟨r.map PyData.int, by rw [a]; rfl⟩
  have ea : ((rcI h w c).map PyData.int).all isNN = decide (0 ≤ m) := by
    rw [List.all_map, Bool.eq_iff_iff, List.all_eq_true, decide_eq_true_eq]
    constructor
    · exact fun q => of_decide_eq_true (q m m1)
    · exact fun q y hy => decide_eq_true (Int.le_trans q (m2 y hy))
  show (decide (((rcI h w c).map PyData.int).length = min h w + 1) && (((rcI h w c).map PyData.int).all isNN && one1 ((rcI h w c).map PyData.int))) = _
  obtain ⟨r, er⟩ := e0
  rw [ea, er, ← er, List.length_map, rcI_len, hl, decide_eq_true rfl, er]
  show (true && (decide (0 ≤ m) && decide ((1 : Int) = 1))) = _
  rw [decide_eq_true rfl, Bool.and_true, Bool.true_and]
theorem body52 {D : DEnds} {h w : Nat} {c : List Int} {x1 x3 x6 x8 x9 x10 x11 : Sl} (h1 : 1 ≤ h) (h12 : h ≤ 12) (w1 : 1 ≤ w) (w12 : w ≤ 12) (hc : isCnt (min h w) (.list (c.map PyData.int)) = true) (hN : ∀ x8 x9 x10 x11, D.nx [.scr, x1, .pot, x3, .v (.int h), .v (.int w), x6, .v (.list (c.map PyData.int)), x8, x9, x10, x11]) :
    (dSeq (dSet 8 (dCall lrestD (sV (dVar 4) (sV (dVar 5) (sV (dVar 7) sNil))))) (dSeq (dSet 9 (dCB listD (dCons (dPk 7) dNil))) (dSeq (dFor (dRng1 (dC (PyData.int 2))) (gN 10) (dSeq (dSetF 11 (dCall rest12D (sV (dVar 4) (sV (dVar 5) (sV (dVar 9) sNil))))) (dSeq (dIf (dOr (dNot (dTst (dCallS0 (sameD 3) (dCons (dPk 11) (dCons (dPk 8) dNil))))) (dTst (dOp neD (dPk 9) (dPk 7)))) (dRet (dC (PyData.bool false))) dSkip) (dApp 11 (dC (PyData.int 0)))))) (dSeq (dIf (dNot (dTst (dCallS0 (sameD 3) (dCons (dCall well12D (sV (dVar 4) (sV (dVar 5) (sV (dVar 9) sNil)))) (dCons (dOp (ii0 fun i j => PyData.bool (decide (j ≤ i))) (dCB minLD (dCons (dPk 8) dNil)) (dC (PyData.int 0))) dNil))))) (dRet (dC (PyData.bool false))) dSkip) (dIf (dAnd (dTst (dOp (ii0 fun i j => PyData.bool (decide (j ≤ i))) (dCB minLD (dCons (dPk 8) dNil)) (dC (PyData.int 0)))) (dNot (dTst (dCallS0 (sameD 3) (dCons (dCall rest12D (sV (dVar 4) (sV (dVar 5) (sV (dVar 8) sNil)))) (dCons (dPk 7) dNil)))))) (dRet (dC (PyData.bool false))) dSkip))))) D [.scr, x1, .pot, x3, .v (.int h), .v (.int w), x6, .v (.list (c.map PyData.int)), x8, x9, x10, x11] := by
  have hc' := hc
  obtain ⟨c2, e2, cl, cp, c0⟩ := cnt_ints hc'
  have e2 : c.map PyData.int = c2.map PyData.int := PyData.list.inj e2
  have ec : c = c2 := by rw [← toI_ints c, e2, toI_ints]
  subst ec
  have cg := c0
  have lr : (rcI h w c).length = min h w + 1 := by rw [rcI_len, cl]
  refine ⟨h, w, c, rfl, h12, w12, cl, ?_⟩
  refine ⟨⟨by decide, by decide⟩, for_rng (fun j δ => ∃ x10 x11, δ = [.scr, x1, .pot, x3, .v (.int h), .v (.int w), x6, .v (.list (c.map PyData.int)), .v (.list ((rcI h w c).map PyData.int)), .v (.list (c.map PyData.int)), x10, x11]) ⟨_, _, rfl⟩ ?_ ?_⟩
  · rintro j δ hj ⟨x10, x11, rfl⟩
    refine ⟨h, w, c, rfl, h1, h12, w1, w12, hc, ?_⟩
    refine ⟨_, rfl, nds_ints _, flat_lI (by omega), rfl, ?_⟩
    refine ⟨⟨nds_ints _, nds_ints _, .inl (depth_ints _)⟩, ?_⟩
    rw [eqv_ints]
    exact ⟨by rw [List.length_map, lr]; show _ + 1 ≤ _; omega, _, _, rfl⟩
  · rintro δ ⟨x10, x11, rfl⟩
    refine ⟨h, w, c, rfl, h1, h12, w1, w12, hc, minD_of (rcI h w c) rfl (by omega) fun m m1 m2 => ?_⟩
    rw [cnt_min cl cg m1 m2]
    refine ⟨_, rfl, rfl, rfl, rfl, ?_⟩
    refine minD_of (rcI h w c) rfl (by omega) fun m' m1' m2' => ?_
    refine ifC (fun z => ?_) fun z => ?_
    · refine ⟨h, w, rcI h w c, rfl, h1, h12, w1, w12, by rw [cnt_min cl cg m1' m2']; exact z, ?_⟩
      rw [rc_inv h12 w12 cl]
      exact ⟨_, rfl, nds_ints _, flat_lI (by omega), rfl, hN _ _ _ _⟩
    · exact hN _ _ _ _
section
variable {P : Program} {w : World} {K : PySem.W.Frag} {mg : Str → Option Value} {base : Heap}
theorem nd_law1 : (["_law_turn", "_law_far", "_law_pot_here"] : List Str).Nodup := by decide +kernel
theorem sc_law : FnScope ["_law_script", "_law_at", "_law_pot_here", "_law_way", "_law_high", "_law_wide", "_law_far", "_law_row", "_law_due", "_law_handed", "_law_turn", "_law_found"] ["_law_script"] (defScope sLaw) := ⟨rfl, rfl, rfl, by decide +kernel, rfl, by decide +kernel, by decide +kernel⟩
theorem ok_law {f f1 f2 f3 f4 f5 f6 f7 f8 f9  : Addr} {fd fd1 fd2 fd3 fd4 fd5 fd6 fd7 fd8 fd9 : FuncData} (F : Fun K "law" "law" sLaw f fd) (T : GlbA mg)
    (m1 : mg "_law_cell_at" = some (.ref f1)) (G1 : FnOk P w K mg base CX0 1 f1 fd1 ["_law_script", "_law_k"] (spCellAt K)) (b1 : Binds K fd1 ["_law_script", "_law_k"] []) (k1 : PySem.W.keepIn K (.ref f1) = true)
    (m2 : mg "_law_pot" = some (.ref f2)) (G2 : FnOk P w K mg base CX0 1 f2 fd2 ["_law_cell"] (toSp true potD)) (b2 : Binds K fd2 ["_law_cell"] []) (k2 : PySem.W.keepIn K (.ref f2) = true)
    (m3 : mg "_law_take" = some (.ref f3)) (G3 : FnOk P w K mg base CX0 1 f3 fd3 ["_law_pot_here", "_law_far"] (toSp true takeD)) (b3 : Binds K fd3 ["_law_pot_here", "_law_far"] []) (k3 : PySem.W.keepIn K (.ref f3) = true)
    (m4 : mg "_law_board" = some (.ref f4)) (G4 : FnOk P w K mg base CX0 2 f4 fd4 ["_law_pot_here", "_law_high", "_law_wide"] (toSp false lb2D)) (b4 : Binds K fd4 ["_law_pot_here", "_law_high", "_law_wide"] []) (k4 : PySem.W.keepIn K (.ref f4) = true)
    (m5 : mg "_law_counts" = some (.ref f5)) (G5 : FnOk P w K mg base CX0 1 f5 fd5 ["_law_board_here"] (toSp true lcntD)) (b5 : Binds K fd5 ["_law_board_here"] []) (k5 : PySem.W.keepIn K (.ref f5) = true)
    (m6 : mg "_law_rest" = some (.ref f6)) (G6 : FnOk P w K mg base CX0 3 f6 fd6 ["_law_high", "_law_wide", "_law_row"] (toSp false lrestD)) (b6 : Binds K fd6 ["_law_high", "_law_wide", "_law_row"] []) (k6 : PySem.W.keepIn K (.ref f6) = true)
    (m7 : mg "rest_counts" = some (.ref f7)) (G7 : FnOk P w K mg base CX0 5 f7 fd7 ["high", "wide", "counts"] (toSp true rest12D)) (b7 : Binds K fd7 ["high", "wide", "counts"] []) (k7 : PySem.W.keepIn K (.ref f7) = true)
    (m8 : mg "rests_well" = some (.ref f8)) (G8 : FnOk P w K mg base CX0 6 f8 fd8 ["high", "wide", "counts"] (toSp false well12D)) (b8 : Binds K fd8 ["high", "wide", "counts"] []) (k8 : PySem.W.keepIn K (.ref f8) = true)
    (m9 : mg "_law_same" = some (.ref f9)) (G9 : FnOk P w K mg base CX0 5 f9 fd9 ["_law_found", "_law_due"] (toSp false (sameD 3))) (b9 : Binds K fd9 ["_law_found", "_law_due"] []) (k9 : PySem.W.keepIn K (.ref f9) = true) :
    FnOk P w K mg base CX0 7 f fd ["_law_script"] (spLawD K) := by
  refine okQL F sc_law (fun cdv A outer s H E hr => ?_)
  have hU := Room.u60 hr
  have hI := Room.i60 hr
  refine ⟨_, qss_cons (qs_for PassesOwn.never rfl (qi_rng1 (by rfl) T.range (q_toPF (q_callB (call_max2 rfl) cd_max2 (by rfl) T.max bt_max (qa_P (q_toP q_int) (qa_P (q_toPF (q_callB (call_min2 rfl) cd_min2 (by rfl) T.min bt_min (qa_P (q_toPF (q_lenS 0 (by rfl) T.len)) (qa_P (q_toP q_int) qa_nil)))) qa_nil))))) (qg_name 1 sc_law.nd rfl (by first | exact Or.inl rfl | exact Or.inr rfl))
        (qss_cons (qs_setP 2 (q_callF G2 (hr.mono (by decide)) (by rfl) m2 k2 b2 passA (qs_v (q_toD (q_cell 0 G1 (hr.mono (by decide)) (by rfl) m1 k1 b1 (qp 1))) qs_nil)) sc_law.nd)
      (qss_cons (qs_set 3 (q_toD (q_callF G3 (hr.mono (by decide)) (by rfl) m3 k3 b3 passA (qs_pot 2 (qs_v q_int qs_nil)))) sc_law.nd)
      (qss_cons (qs_par 4 5 (qa_D (q_toD (q_bin op_addD od_add (q_toP q_int) (q_toPF (q_callF G3 (hr.mono (by decide)) (by rfl) m3 k3 b3 passA (qs_pot 2 (qs_v (q_ix ix_any od_ix (q_toPF (q_lst (qa_D q_int (qa_D q_int qa_nil)))) (q_toPF (q_bin op_fdivC od_ii (qp 3) (q_toP q_int))) (fun _ _ => rfl)) qs_nil)))))) (qa_D (q_toD (q_bin op_addD od_add (q_toP q_int) (q_toPF (q_callF G3 (hr.mono (by decide)) (by rfl) m3 k3 b3 passA (qs_pot 2 (qs_v (q_ix ix_any od_ix (q_toPF (q_lst (qa_D q_int (qa_D q_int qa_nil)))) (q_toPF (q_bin op_fdivC od_ii (qp 3) (q_toP q_int))) (fun _ _ => rfl)) qs_nil)))))) qa_nil)) sc_law.nd)
      (qss_cons (qs_set 6 (q_ix ix_any od_ix (q_toPF (q_lst (qa_D q_int (qa_D q_int (qa_D (q_toD (q_bin op_pow od_ii (q_toP q_int) (q_toP q_int))) qa_nil))))) (q_toPF (q_callF G3 (hr.mono (by decide)) (by rfl) m3 k3 b3 passA (qs_pot 2 (qs_v q_int qs_nil)))) (fun _ _ => rfl)) sc_law.nd)
      (qss_cons (qs_set 7 (q_toD (q_bin op_addD od_add (q_toPF (q_lst (qa_D q_int qa_nil))) (q_toPF (q_comp ["_law_turn", "_law_far", "_law_pot_here"] [none, some 6, some 2] (qi_rng1 (by rfl) T.range (q_toPF (q_callB (call_min2 rfl) cd_min2 (by rfl) T.min bt_min (qa_P (qp 4) (qa_P (qp 5) qa_nil))))) (fun cl ex s3 H3 C => ⟨(qg_name 0 nd_law1 rfl (Or.inl rfl) (Or.inr rfl)), qts_nil, (q_toD (q_callF G3 (hr.mono (by decide)) (by rfl) m3 k3 b3 passA (qs_pot 2 (qs_v (qv 1) qs_nil))))⟩))))) sc_law.nd)
      (qss_cons (qs_if (qt_cmp op_gt od_ib0 (qp 3) (q_toP q_int) (nomark _)) (qss_one (qs_set 7 (q_toD (q_callF G5 (hr.mono (by decide)) (by rfl) m5 k5 b5 passA (qs_v (q_call G4 (hr.mono (by decide)) (by rfl) m4 k4 b4 passA (qs_pot 2 (qs_v (qv 4) (qs_v (qv 5) qs_nil)))) qs_nil))) sc_law.nd)) qss_nil)
      (qss_cons (qs_set 8 (q_call G6 (hr.mono (by decide)) (by rfl) m6 k6 b6 passA (qs_v (qv 4) (qs_v (qv 5) (qs_v (qv 7) qs_nil)))) sc_law.nd)
      (qss_cons (qs_set 9 (q_toD (q_callTy call_list_ofW cd_list (by rfl) T.list bt_list (qa_P (qp 7) qa_nil))) sc_law.nd)
      (qss_cons (qs_for PassesOwn.never rfl (qi_rng1 (by rfl) T.range (q_toP q_int)) (qg_name 10 sc_law.nd rfl (by first | exact Or.inl rfl | exact Or.inr rfl))
        (qss_cons (qs_setF 11 (q_callF G7 (hr.mono (by decide)) (by rfl) m7 k7 b7 passA (qs_v (qv 4) (qs_v (qv 5) (qs_v (qv 9) qs_nil)))) sc_law.nd)
      (qss_cons (qs_if (q_pw (qw_or (qt_not (qt_val (q_toPF (q_callS0 G9 (hr.mono (by decide)) (by rfl) m9 k9 b9 passA (qa_P (qp 11) (qa_P (qp 8) qa_nil)))))) (qw_or1 (qt_cmp op_neA (od_ne hU) (qp 9) (qp 7) (nomark _))))) (qss_one (qs_ret q_bl)) qss_nil)
      (qss_one (qs_app 11 q_int)))))
      (qss_cons (qs_if (qt_not (qt_val (q_toPF (q_callS0 G9 (hr.mono (by decide)) (by rfl) m9 k9 b9 passA (qa_P (q_toP (q_call G8 (hr.mono (by decide)) (by rfl) m8 k8 b8 passA (qs_v (qv 4) (qs_v (qv 5) (qs_v (qv 9) qs_nil))))) (qa_P (q_toPF (q_cmp op_ge od_ib0 (q_toPF (q_callB (call_minM rfl) cd_minL (by rfl) T.min bt_min (qa_P (qp 8) qa_nil))) (q_toP q_int) (nomark _))) qa_nil)))))) (qss_one (qs_ret q_bl)) qss_nil)
      (qss_one (qs_if (q_pw (qw_and (qt_cmp op_ge od_ib0 (q_toPF (q_callB (call_minM rfl) cd_minL (by rfl) T.min bt_min (qa_P (qp 8) qa_nil))) (q_toP q_int) (nomark _)) (qw_and1 (qt_not (qt_val (q_toPF (q_callS0 G9 (hr.mono (by decide)) (by rfl) m9 k9 b9 passA (qa_P (q_toPF (q_callF G7 (hr.mono (by decide)) (by rfl) m7 k7 b7 passA (qs_v (qv 4) (qs_v (qv 5) (qs_v (qv 8) qs_nil))))) (qa_P (qp 7) qa_nil))))))))) (qss_one (qs_ret q_bl)) qss_nil)))))))))))))
      (qss_one (qs_ret q_bl)), ?_⟩
  intro n0 n63
  refine ⟨⟨by split <;> split <;> omega, by split <;> split <;> omega⟩, for_rng (fun i δ => ∃ x1 x2 x3 x4 x5 x6 x7 x8 x9 x10 x11, δ = [.scr, x1, x2, x3, x4, x5, x6, x7, x8, x9, x10, x11]) ⟨_, _, _, _, _, _, _, _, _, _, _, rfl⟩ ?_ ?_⟩
  · rintro i δ hi ⟨x1, x2, x3, x4, x5, x6, x7, x8, x9, x10, x11, rfl⟩
    refine ⟨by omega, fun c => ⟨c, rfl, fun n1 => ?_⟩⟩
    refine ⟨_, rfl, by decide, by decide, fun y y0 y1 => ?_⟩
    have cd : CDivC y 2 := ⟨by decide, by decide⟩
    obtain ⟨B, hB, B1, B12, B6⟩ : ∃ B : Int, atI [PyData.int 12, PyData.int 6] (y / 2) = some (.int B) ∧ 1 ≤ B ∧ B ≤ 12 ∧ (1 < y → B ≤ 6) := by
      by_cases z : 1 < y
      · exact ⟨6, by rw [show y / 2 = ((1 : Nat) : Int) by omega]; exact atI_nat (j := 1) rfl, by decide, by decide, fun _ => by decide⟩
      · exact ⟨12, by rw [show y / 2 = ((0 : Nat) : Int) by omega]; exact atI_nat (j := 0) rfl, by decide, by decide, fun q => absurd q z⟩
    refine ⟨cd, _, hB, _, rfl, by omega, by omega, fun a a0 a1 => ⟨cd, _, hB, _, rfl, by omega, by omega, fun b b0 b1 => ?_⟩⟩
    obtain ⟨h, hh⟩ : ∃ h : Nat, 1 + a = (h : Int) := ⟨(1 + a).toNat, by omega⟩
    obtain ⟨w, hw⟩ : ∃ w : Nat, 1 + b = (w : Int) := ⟨(1 + b).toNat, by omega⟩
    refine ⟨⟨by decide, by decide, by decide⟩, _, rfl, by decide, by decide, fun q q0 q1 => ix_of q0 q1 fun far hfar => ?_⟩
    obtain ⟨F, rfl, F1, F2⟩ := al_cons (p := fun d => ∃ F : Int, d = .int F ∧ 0 < F ∧ F ≤ 10 ^ 40) ⟨2, rfl, by decide, by decide⟩ (al_cons ⟨50, rfl, by decide, by decide⟩ (al_cons ⟨_, rfl, by decide, by decide⟩ al_nil)) far hfar
    rw [hh, hw]
    refine ⟨⟨by split <;> omega, by split <;> omega⟩, cm_all (fun e => ∃ i, e = .int i ∧ 0 ≤ i) (fun d hd k2 hk => ⟨_, rfl, F1, F2, fun r r0 _ => hk _ ⟨r, rfl, r0⟩⟩) fun acc hl ha => ?_⟩
    obtain ⟨ns, rfl, hns⟩ := ints_of ha
    rw [List.length_map, rng_len] at hl
    have ln := lenI ns
    have l12 : ns.length = min h w := by split at hl <;> omega
    refine ⟨by show 1 + _ ≤ _; omega, ?_⟩
    refine ifC (fun z => ?_) fun z => ?_
    · have z := of_decide_eq_true z
      have b6 := B6 z
      refine ⟨h, w, rfl, by omega, by omega, fun f => ⟨h, w, f, rfl, by omega, by omega, ?_⟩⟩
      exact body52 (by omega) (by omega) (by omega) (by omega) (cI_cnt (gb_F f (by omega) (by omega))) fun _ _ _ _ => ⟨_, _, _, _, _, _, _, _, _, _, _, rfl⟩
    · have hc : isCnt (min h w) (.list ((1 :: ns).map PyData.int)) = true := by
        rw [← l12]
        show (decide _ && ((isNN (.int 1) && (ns.map PyData.int).all isNN) && true)) = true
        rw [decide_eq_true (by rw [List.length_map, List.length_cons])]
        rw [List.all_map, show ns.all (isNN ∘ PyData.int) = true from List.all_eq_true.mpr fun x hx => decide_eq_true (hns x hx)]
        rfl
      exact body52 (c := 1 :: ns) (by omega) (by omega) (by omega) (by omega) hc fun _ _ _ _ => ⟨_, _, _, _, _, _, _, _, _, _, _, rfl⟩
  · rintro δ ⟨x1, x2, x3, x4, x5, x6, x7, x8, x9, x10, x11, rfl⟩
    rfl
end
end Rk
namespace Rk
open PySem PySem.Spec PyProof.Rows L2 _root_.Rd
def isSeqD : PyData → Bool
  | .tuple _ => true
  | .list _ => true
  | _ => false
def isLD : PyData → Bool
  | .list _ => true
  | _ => false
def isTD : PyData → Bool
  | .tuple _ => true
  | _ => false
def isBD : PyData → Bool
  | .bool _ => true
  | _ => false
def isSD : PyData → Bool
  | .str _ => true
  | _ => false
theorem ty_of {K : PySem.W.Frag} {H : Hp} : ∀ {x : V} {d : PyData}, Dat H x d → ∃ t, TyOf K H x t ∧ PySem.W.kitAny K t [.type "list", .type "tuple"] = some (isSeqD d) ∧ PySem.W.kitOne K t (.type "list") = some (isLD d) ∧ PySem.W.kitOne K t (.type "tuple") = some (isTD d) ∧
    PySem.W.kitOne K t (.type "bool") = some (isBD d) ∧ PySem.W.kitOne K t (.type "str") = some (isSD d)
  | _, _, .non => ⟨_, .non, rfl, rfl, rfl, rfl, rfl⟩
  | _, _, .bl _ => ⟨_, .bl _, rfl, rfl, rfl, rfl, rfl⟩
  | _, _, .int _ => ⟨_, .int _, rfl, rfl, rfl, rfl, rfl⟩
  | _, _, .str _ _ => ⟨_, .str _, rfl, rfl, rfl, rfl, rfl⟩
  | _, _, .tup e _ => ⟨_, .tup e, rfl, rfl, rfl, rfl, rfl⟩
  | _, _, .lst e _ => ⟨_, .lst e, rfl, rfl, rfl, rfl, rfl⟩
def spWhole : Sp := fun vs H Q _ => ∃ p x, vs = [x] ∧ Kn p H x ∧ Q (.bl (isI x)) H
section
variable {P : Program} {w : World} {K : PySem.W.Frag} {mg : Str → Option Value} {base : Heap}
theorem scWholeL : FnScope ["_law_found"] ["_law_found"] (defScope lWhole) := ⟨rfl, rfl, rfl, by decide +kernel, rfl, by decide +kernel, by decide +kernel⟩
theorem ok_wholeL {f : Addr} {fd : FuncData} (F : Fun K "_law_whole" "_law_whole" lWhole f fd) (T : GlbA mg) : FnOk P w K mg base CX0 1 f fd ["_law_found"] spWhole := by
  refine F.ok scWholeL (fun vs H Q E h => ?_) (fun cdv A outer s H vs Q E hr h => ?_)
  · obtain ⟨p, x, rfl, _⟩ := h
    rfl
  · obtain ⟨p, x, rfl, kn, k⟩ := h
    refine ⟨_, pss_one (ps_ret (pe_and (pe_callB call_isinst (by rfl) T.isinstance bt_isinstance (pa_cons (pv 0) (pa_cons (pe_bltn (v := .ty "int") (by rfl) T.int bt_int rfl) pa_nil)))
      (pe_one (pe_not (pe_callB call_isinst (by rfl) T.isinstance bt_isinstance (pa_cons (pv 0) (pa_cons (pe_bltn (v := .ty "bool") (by rfl) T.bool bt_bool rfl) pa_nil))))))), ?_⟩
    obtain ⟨t, ty, e⟩ := inst_int (K := K) kn
    obtain ⟨t2, ty2, e2⟩ := inst_bool (K := K) kn
    refine ⟨_, rfl, _, t, _, _, rfl, ty, e, _, rfl, ?_⟩
    cases x with
    | int i => exact iteT ⟨_, rfl, _, t2, _, _, rfl, ty2, e2, _, rfl, k⟩
    | bl i => exact iteT ⟨_, rfl, _, t2, _, _, rfl, ty2, e2, _, rfl, k⟩
    | _ => exact iteF k
theorem kn_dat {H : Hp} : ∀ {x : V} {d : PyData}, Dat H x d → ∃ p, Kn p H x
  | _, _, .non => ⟨0, trivial⟩
  | _, _, .bl _ => ⟨0, trivial⟩
  | _, _, .int _ => ⟨0, trivial⟩
  | _, _, .str _ _ => ⟨0, trivial⟩
  | _, _, .tup (a := a) e _ => ⟨(a + 1 : Nat), Nat.ne_of_lt (Nat.lt_succ_self a), .inl ⟨_, e⟩⟩
  | _, _, .lst (a := a) e _ => ⟨(a + 1 : Nat), Nat.ne_of_lt (Nat.lt_succ_self a), .inr (.inl ⟨_, e⟩)⟩
theorem nd_same1 : (["_law_one", "_law_other"] : List Str).Nodup := by decide +kernel
theorem sc_same : FnScope ["_law_found", "_law_due"] ["_law_found", "_law_due"] (defScope lSame) := ⟨rfl, rfl, rfl, by decide +kernel, rfl, by decide +kernel, by decide +kernel⟩
theorem ok_same {f f1 : Addr} {fd fd1 : FuncData} (F : Fun K "_law_same" "_law_same" lSame f fd) (T : GlbA mg) (mf : mg "_law_same" = some (.ref f)) (bf : Binds K fd ["_law_found", "_law_due"] []) (kf : PySem.W.keepIn K (.ref f) = true)
    (m1 : mg "_law_whole" = some (.ref f1)) (G1 : FnOk P w K mg base CX0 1 f1 fd1 ["_law_found"] spWhole) (b1 : Binds K fd1 ["_law_found"] []) (k1 : PySem.W.keepIn K (.ref f1) = true) :
    ∀ n : Nat, FnOk P w K mg base CX0 (n + 1) f fd ["_law_found", "_law_due"] (spSameL n)
  | 0 => ⟨fun _ _ _ _ h => h.elim, fun _ _ _ _ _ _ _ _ _ _ _ _ _ h => h.elim⟩
  | n + 1 => by
    have IH := ok_same F T mf bf kf m1 G1 b1 k1 n
    refine F.ok sc_same (fun vs H Q E h => ?_) (fun cdv A outer s H vs Q E hr h => ?_)
    · obtain ⟨x, y, d, rfl, _⟩ := h
      rfl
    · obtain ⟨x, y, d, rfl, qx, qy, fl, k⟩ := h
      have hr1 : Room 1 _ := hr.mono (by omega)
      refine ⟨_, pss_cons (ps_if (pt_cmpR op_isN (pv 1) pe_non (nomark _)) (pss_one (ps_ret (pe_cmpR op_isN (pv 0) pe_non (nomark _)))) pss_nil)
        (pss_cons (ps_if (pt_val (pe_callB call_isinst (by rfl) T.isinstance bt_isinstance (pa_cons (pv 1) (pa_cons (pe_bltn (v := .ty "bool") (by rfl) T.bool bt_bool rfl) pa_nil)))) (pss_one (ps_ret (pe_and (pe_callB call_isinst (by rfl) T.isinstance bt_isinstance (pa_cons (pv 0) (pa_cons (pe_bltn (v := .ty "bool") (by rfl) T.bool bt_bool rfl) pa_nil))) (pe_one (pe_cmpR op_eqU (pv 0) (pv 1) (nomark _)))))) pss_nil)
        (pss_cons (ps_if (pt_val (pe_callB call_isinst (by rfl) T.isinstance bt_isinstance (pa_cons (pv 1) (pa_cons (pe_bltn (v := .ty "int") (by rfl) T.int bt_int rfl) pa_nil)))) (pss_one (ps_ret (pe_and (pe_call G1 hr1 (by rfl) m1 k1 b1 .nil pass0 (pa_cons (pv 0) pa_nil)) (pe_one (pe_cmpR op_eqU (pv 0) (pv 1) (nomark _)))))) pss_nil)
        (pss_cons (ps_if (pt_val (pe_callB call_isinst (by rfl) T.isinstance bt_isinstance (pa_cons (pv 1) (pa_cons (pe_bltn (v := .ty "str") (by rfl) T.str bt_str rfl) pa_nil)))) (pss_one (ps_ret (pe_and (pe_callB call_isinst (by rfl) T.isinstance bt_isinstance (pa_cons (pv 0) (pa_cons (pe_bltn (v := .ty "str") (by rfl) T.str bt_str rfl) pa_nil))) (pe_one (pe_cmpR op_eqU (pv 0) (pv 1) (nomark _)))))) pss_nil)
        (pss_cons (ps_if (PW.pt (pw_or (pt_cmpR op_ne (pe_callB call_isinst (by rfl) T.isinstance bt_isinstance (pa_cons (pv 1) (pa_cons (pe_bltn (v := .ty "tuple") (by rfl) T.tuple bt_tuple rfl) pa_nil))) (pe_callB call_isinst (by rfl) T.isinstance bt_isinstance (pa_cons (pv 0) (pa_cons (pe_bltn (v := .ty "tuple") (by rfl) T.tuple bt_tuple rfl) pa_nil))) (nomark _)) (pw_or1 (pt_cmpR op_ne (pe_callB call_isinst (by rfl) T.isinstance bt_isinstance (pa_cons (pv 1) (pa_cons (pe_bltn (v := .ty "list") (by rfl) T.list bt_list rfl) pa_nil))) (pe_callB call_isinst (by rfl) T.isinstance bt_isinstance (pa_cons (pv 0) (pa_cons (pe_bltn (v := .ty "list") (by rfl) T.list bt_list rfl) pa_nil))) (nomark _))))) (pss_one (ps_ret pe_bl)) pss_nil)
        (pss_one (ps_ret (pe_and (pe_cmpR op_eq (pe_callB call_len_seq (by rfl) T.len bt_len (pa_cons (pv 0) pa_nil)) (pe_callB call_len_seq (by rfl) T.len bt_len (pa_cons (pv 1) pa_nil)) (nomark _)) (pe_one (pe_callB call_all (by rfl) T.all bt_all (pa_cons (pe_lcomp (M := ["_law_one", "_law_other"]) (cap := [none, none]) (g := (gTup K 2 (gCons (gName 0) (gCons (gName 1) gNil)))) (tc := tNoTest) (te := (tCall (spSameL n) [] E0 (tCons (tVar 0) (tCons (tVar 1) tNil)))) rfl (by rfl) (pi_or (pi_zip (by rfl) T.zip (pa_cons (pv 0) (pa_cons (pv 1) pa_nil))) (pi_zipL (by rfl) T.zip (pa_cons (pv 0) (pa_cons (pv 1) pa_nil)))) (fun cl ex s3 H3 C => ⟨(pg_tup rfl (pgs_cons (pg_name (i := 0) nd_same1 rfl (Or.inl rfl) (Or.inr rfl)) (pgs_cons (pg_name (i := 1) nd_same1 rfl (Or.inl rfl) (Or.inr rfl)) pgs_nil))), pts_nil, (pe_call IH (hr.mono (Nat.le_refl _)) (by rfl) mf kf bf .nil pass0 (pa_cons (pv 0) (pa_cons (pv 1) pa_nil)))⟩)) pa_nil)))))))))), ?_⟩
      obtain ⟨t, ty, a1, a2, a3, a4, a5⟩ := ty_of (K := K) qy
      obtain ⟨t', ty', a1', a2', a3', a4', a5'⟩ := ty_of (K := K) qx
      obtain ⟨p0, kn⟩ := kn_dat qy
      obtain ⟨tI, tyI, eI⟩ := inst_int (K := K) kn
      cases d with
      | none =>
        have hy : y = .non := by cases qy; rfl
        have hx : x = .non := by cases qx; rfl
        subst hy hx
        exact ⟨_, rfl, rfl, _, rfl, iteT ⟨_, rfl, rfl, k H (Same.refl H)⟩⟩
      | bool v =>
        have hy : y = .bl v := by cases qy; rfl
        have hx : x = .bl v := by cases qx; rfl
        subst hy hx
        refine ⟨_, rfl, rfl, _, rfl, iteF ⟨_, rfl, _, t, _, _, rfl, ty, a4, _, rfl, iteT ⟨_, rfl, _, t', _, _, rfl, ty', a4', _, rfl, iteT ?_⟩⟩⟩
        refine ⟨_, rfl, _, rfl, (PyData.bool v), (PyData.bool v), qx, qy, by rw [Nat.min_self]; show _ + PyData.depth (PyData.bool v) < cLine; rw [show PyData.depth (PyData.bool v) = 0 from by simp [PyData.depth]]; exact hr.units0, ?_⟩
        rw [SeqAt.eqv_refl (PyData.bool v) rfl]
        exact k H (Same.refl H)
      | int i =>
        have hy : y = .int i := by cases qy; rfl
        have hx : x = .int i := by cases qx; rfl
        subst hy hx
        refine ⟨_, rfl, rfl, _, rfl, iteF ⟨_, rfl, _, t, _, _, rfl, ty, a4, _, rfl, iteF ⟨_, rfl, _, tI, _, _, rfl, tyI, eI, _, rfl, iteT ⟨_, rfl, 0, .int i, rfl, trivial, _, rfl, iteT ?_⟩⟩⟩⟩
        refine ⟨_, rfl, _, rfl, .int i, .int i, qx, qy, by rw [Nat.min_self]; show _ + PyData.depth (.int i) < cLine; rw [show PyData.depth (.int i) = 0 from by simp [PyData.depth]]; exact hr.units0, ?_⟩
        rw [SeqAt.eqv_refl (.int i) rfl]
        exact k H (Same.refl H)
      | str v =>
        have cl : PyData.canLay0 (.str v) = true := by cases qy with | str _ c => exact c
        have hy : y = .str v := by cases qy; rfl
        have hx : x = .str v := by cases qx; rfl
        subst hy hx
        refine ⟨_, rfl, rfl, _, rfl, iteF ⟨_, rfl, _, t, _, _, rfl, ty, a4, _, rfl, iteF ⟨_, rfl, _, tI, _, _, rfl, tyI, eI, _, rfl, iteF ⟨_, rfl, _, t, _, _, rfl, ty, a5, _, rfl, iteT ⟨_, rfl, _, t', _, _, rfl, ty', a5', _, rfl, iteT ?_⟩⟩⟩⟩⟩
        refine ⟨_, rfl, _, rfl, (PyData.str v), (PyData.str v), qx, qy, by rw [Nat.min_self]; show _ + PyData.depth (PyData.str v) < cLine; rw [show PyData.depth (PyData.str v) = 0 from by simp [PyData.depth]]; exact hr.units0, ?_⟩
        rw [SeqAt.eqv_refl (PyData.str v) cl]
        exact k H (Same.refl H)
      | tuple ds =>
        obtain ⟨m, rfl⟩ : ∃ m, n = m + 1 := by
          cases n with
          | zero => cases fl
          | succ m => exact ⟨m, rfl⟩
        have fl' := Bool.and_eq_true_iff.mp (show (decide (ds.length ≤ 1000) && ds.all (flatL m)) = true from fl)
        have hdl : ds.length ≤ 1000 := of_decide_eq_true fl'.1
        cases qy with
        | @tup b ys _ eb qs =>
        cases qx with
        | @tup a xs _ ea ps =>
        refine ⟨_, rfl, rfl, _, rfl, iteF ⟨_, rfl, _, t, _, _, rfl, ty, a4, _, rfl, iteF ⟨_, rfl, _, tI, _, _, rfl, tyI, eI, _, rfl, iteF ⟨_, rfl, _, t, _, _, rfl, ty, a5, _, rfl, iteF ?_⟩⟩⟩⟩
        refine ⟨_, rfl, _, t, _, _, rfl, ty, a3, _, rfl, _, t', _, _, rfl, ty', a3', rfl, _, rfl, iteNS rfl ?_⟩
        refine ⟨_, rfl, _, t, _, _, rfl, ty, a2, _, rfl, _, t', _, _, rfl, ty', a2', rfl, _, rfl, iteNS rfl ?_⟩
        have hxl := ps.length
        have hyl := qs.length
        refine ⟨_, rfl, a, xs, rfl, .inr (SqT.of ea), _, rfl, b, ys, rfl, .inr (SqT.of eb), rfl, _, rfl, ?_⟩
        rw [show decide (V.int (xs.length : Nat) = V.int (ys.length : Nat)) = true from decide_eq_true (by rw [hxl, hyl])]
        refine iteT (.inl ⟨_, rfl, _, rfl, a, b, xs, ys, rfl, ea, eb, fun p hp => ?_⟩)
        refine comp_bools ds.length (lt_line hdl) (fun _ => true) hp (fun i H2 hi2 s2 => ?_) (fun H2 s2 => ?_) fun H2 s2 e2 => ?_
        · have hx : xs[i]? = some xs[i] := List.getElem?_eq_getElem (by omega)
          have hy : ys[i]? = some ys[i] := List.getElem?_eq_getElem (by omega)
          have ea2 := s2 a _ ea
          have eb2 := s2 b _ eb
          refine ⟨⟨xs, ys, _, _, ea2, eb2, hx, hy⟩, fun v H3 ⟨r, x', y', hr0, ex, ey, ev, eH⟩ kk hk => ?_⟩
          have ex' := ex xs ea2
          have ey' := ey ys eb2
          rw [hx] at ex'
          rw [hy] at ey'
          cases ex'
          cases ey'
          subst ev eH
          obtain ⟨d1, hd1, q1⟩ := ps.get i _ hx
          obtain ⟨d2, hd2, q2⟩ := qs.get i _ hy
          rw [hd1] at hd2
          cases hd2
          have fd1 : flatL m d1 = true := List.all_eq_true.mp fl'.2 d1 (List.mem_of_getElem? hd1)
          refine ⟨r, [xs[i], ys[i]], rfl, SqT.of upd_same, rfl, xs[i], [ys[i]], rfl, ys[i], [], rfl, rfl, ⟨trivial, ?_⟩⟩
          exact ⟨_, rfl, _, rfl, xs[i], ys[i], d1, rfl, (q1.same s2).same (same_upd hr0), (q2.same s2).same (same_upd hr0), fd1, fun H' s' => hk H' ((same_upd hr0).trans s')⟩
        · refine ⟨xs, ys, s2 a _ ea, s2 b _ eb, ?_⟩
          omega
        · refine ⟨p, _, rfl, SqL.of e2, rfl, ?_⟩
          have e3 : ((List.range ds.length).map fun _ => true).all id = true := by
            rw [List.all_eq_true]
            intro z hz
            obtain ⟨_, _, rfl⟩ := List.mem_map.mp hz
            rfl
          rw [e3]
          exact k H2 s2
      | list ds =>
        obtain ⟨m, rfl⟩ : ∃ m, n = m + 1 := by
          cases n with
          | zero => cases fl
          | succ m => exact ⟨m, rfl⟩
        have fl' := Bool.and_eq_true_iff.mp (show (decide (ds.length ≤ 1000) && ds.all (flatL m)) = true from fl)
        have hdl : ds.length ≤ 1000 := of_decide_eq_true fl'.1
        cases qy with
        | @lst b ys _ eb qs =>
        cases qx with
        | @lst a xs _ ea ps =>
        refine ⟨_, rfl, rfl, _, rfl, iteF ⟨_, rfl, _, t, _, _, rfl, ty, a4, _, rfl, iteF ⟨_, rfl, _, tI, _, _, rfl, tyI, eI, _, rfl, iteF ⟨_, rfl, _, t, _, _, rfl, ty, a5, _, rfl, iteF ?_⟩⟩⟩⟩
        refine ⟨_, rfl, _, t, _, _, rfl, ty, a3, _, rfl, _, t', _, _, rfl, ty', a3', rfl, _, rfl, iteNS rfl ?_⟩
        refine ⟨_, rfl, _, t, _, _, rfl, ty, a2, _, rfl, _, t', _, _, rfl, ty', a2', rfl, _, rfl, iteNS rfl ?_⟩
        have hxl := ps.length
        have hyl := qs.length
        refine ⟨_, rfl, a, xs, rfl, .inl (SqL.of ea), _, rfl, b, ys, rfl, .inl (SqL.of eb), rfl, _, rfl, ?_⟩
        rw [show decide (V.int (xs.length : Nat) = V.int (ys.length : Nat)) = true from decide_eq_true (by rw [hxl, hyl])]
        refine iteT (.inr ⟨_, rfl, _, rfl, a, b, xs, ys, rfl, ea, eb, fun p hp => ?_⟩)
        refine comp_bools ds.length (lt_line hdl) (fun _ => true) hp (fun i H2 hi2 s2 => ?_) (fun H2 s2 => ?_) fun H2 s2 e2 => ?_
        · have hx : xs[i]? = some xs[i] := List.getElem?_eq_getElem (by omega)
          have hy : ys[i]? = some ys[i] := List.getElem?_eq_getElem (by omega)
          have ea2 := s2 a _ ea
          have eb2 := s2 b _ eb
          refine ⟨⟨xs, ys, _, _, ea2, eb2, hx, hy⟩, fun v H3 ⟨r, x', y', hr0, ex, ey, ev, eH⟩ kk hk => ?_⟩
          have ex' := ex xs ea2
          have ey' := ey ys eb2
          rw [hx] at ex'
          rw [hy] at ey'
          cases ex'
          cases ey'
          subst ev eH
          obtain ⟨d1, hd1, q1⟩ := ps.get i _ hx
          obtain ⟨d2, hd2, q2⟩ := qs.get i _ hy
          rw [hd1] at hd2
          cases hd2
          have fd1 : flatL m d1 = true := List.all_eq_true.mp fl'.2 d1 (List.mem_of_getElem? hd1)
          refine ⟨r, [xs[i], ys[i]], rfl, SqT.of upd_same, rfl, xs[i], [ys[i]], rfl, ys[i], [], rfl, rfl, ⟨trivial, ?_⟩⟩
          exact ⟨_, rfl, _, rfl, xs[i], ys[i], d1, rfl, (q1.same s2).same (same_upd hr0), (q2.same s2).same (same_upd hr0), fd1, fun H' s' => hk H' ((same_upd hr0).trans s')⟩
        · refine ⟨xs, ys, s2 a _ ea, s2 b _ eb, ?_⟩
          omega
        · refine ⟨p, _, rfl, SqL.of e2, rfl, ?_⟩
          have e3 : ((List.range ds.length).map fun _ => true).all id = true := by
            rw [List.all_eq_true]
            intro z hz
            obtain ⟨_, _, rfl⟩ := List.mem_map.mp hz
            rfl
          rw [e3]
          exact k H2 s2
      | dict ds => cases qx
end
end Rk
def PySem.W.Fast.tw11967692717515751142 : Nat := 0
def PySem.W.Fast.tw17567894184869937697 : Nat := 0
def PySem.W.Fast.tw16918700187958121835 : Nat := 0
def PySem.W.Fast.tw4156498895477879655 : Nat := 0
def PySem.W.Fast.tw1883670425394061441 : Nat := 0
def PySem.W.Fast.tw11830135236961744121 : Nat := 0
def PySem.W.Fast.tw8877354770741206848 : Nat := 0
def PySem.W.Fast.tw16710305617039986139 : Nat := 0
def PySem.W.Fast.tw7590333406353957239 : Nat := 0
def PySem.W.Fast.tw12792786744431103188 : Nat := 0
def PySem.W.Fast.tw12835425925876384405 : Nat := 0
def PySem.W.Fast.tw10056010232798369871 : Nat := 0
def PySem.W.Fast.tw16806481573559283334 : Nat := 0
def PySem.W.Fast.tw15582327676665947539 : Nat := 0
def PySem.W.Fast.tw10605618838327042984 : Nat := 0
def PySem.W.Fast.tw16148588635285875200 : Nat := 0
def PySem.W.Fast.tw17988166565929492649 : Nat := 0
def PySem.W.Fast.tw12504393114068117280 : Nat := 0
def PySem.W.Fast.tw9622569915888403554 : Nat := 0
def PySem.W.Fast.tw10120710464716359838 : Nat := 0
def PySem.W.Fast.tw7182127675905924110 : Nat := 0
def PySem.W.Fast.tw14889475321457592077 : Nat := 0
def PySem.W.Fast.tw14365310893777923619 : Nat := 0
def PySem.W.Fast.tw5046589931814154688 : Nat := 0
def PySem.W.Fast.tw14900956878452159757 : Nat := 0
def PySem.W.Fast.tw11746507591699383049 : Nat := 0
namespace Rk
open PySem PySem.Spec PyProof.Rows L2
theorem all_mk {l : PySem.W.OpenLaw} {w : World} {K : PySem.W.Frag} {h : Heap} {mg : Str → Option Value} {fa f1 f2 f3 f4 f5 f6 f7 f8 f9 f10 f11 f12 f13 f14 f15 f16 f17 f18 f19 f20 f21 f22 : Addr} (X : K.In h) (G : h.Ns mainGlobals mg) (hfa : mg "law" = some (.ref fa))
    {od1 an1 od2 an2 od3 an3 od4 an4 od5 an5 od6 an6 od7 an7 od8 an8 od9 an9 od10 an10 od11 an11 od12 an12 od13 an13 od14 an14 od15 an15 od16 an16 od17 an17 od18 an18 od19 an19 od20 an20 od21 an21 od22 an22 : Option Addr} {sl1 sl2 sl3 sl4 sl5 sl6 sl7 sl8 sl9 sl10 sl11 sl12 sl13 sl14 sl15 sl16 sl17 sl18 sl19 sl20 sl21 sl22 : Array (Option Value)} {oc1 kV1 dc1 pm1 cd1 ct1 oc2 kV2 dc2 pm2 cd2 ct2 oc3 kV3 dc3 pm3 cd3 ct3 oc4 kV4 dc4 pm4 cd4 ct4 oc5 kV5 dc5 pm5 cd5 ct5 oc6 kV6 dc6 pm6 cd6 ct6 oc7 kV7 dc7 pm7 cd7 ct7 oc8 kV8 dc8 pm8 cd8 ct8 oc9 kV9 dc9 pm9 cd9 ct9 oc10 kV10 dc10 pm10 cd10 ct10 oc11 kV11 dc11 pm11 cd11 ct11 oc12 kV12 dc12 pm12 cd12 ct12 oc13 kV13 dc13 pm13 cd13 ct13 oc14 kV14 dc14 pm14 cd14 ct14 oc15 kV15 dc15 pm15 cd15 ct15 oc16 kV16 dc16 pm16 cd16 ct16 oc17 kV17 dc17 pm17 cd17 ct17 oc18 kV18 dc18 pm18 cd18 ct18 oc19 kV19 dc19 pm19 cd19 ct19 oc20 kV20 dc20 pm20 cd20 ct20 oc21 kV21 dc21 pm21 cd21 ct21 oc22 kV22 dc22 pm22 cd22 ct22 : Value}
    (a1 : PySem.W.nsIn K mainGlobals "is_whole" = some (some (.ref f1))) (l1 : K.lookup f1 = some ⟨oc1, od1, .func (PySem.W.fnOf "is_whole" "is_whole" (defArgs sWhole) (defBody sWhole) (defScope sWhole) .none kV1 dc1 pm1 an1 cd1 ct1), sl1⟩) (c1 : PySem.W.codeIn K cd1 "is_whole" = true) (k1 : PySem.W.keepIn K (.ref f1) = true)
    (a2 : PySem.W.nsIn K mainGlobals "is_whole_within" = some (some (.ref f2))) (l2 : K.lookup f2 = some ⟨oc2, od2, .func (PySem.W.fnOf "is_whole_within" "is_whole_within" (defArgs sWithin) (defBody sWithin) (defScope sWithin) .none kV2 dc2 pm2 an2 cd2 ct2), sl2⟩) (c2 : PySem.W.codeIn K cd2 "is_whole_within" = true) (k2 : PySem.W.keepIn K (.ref f2) = true)
    (a3 : PySem.W.nsIn K mainGlobals "how_many_orders" = some (some (.ref f3))) (l3 : K.lookup f3 = some ⟨oc3, od3, .func (PySem.W.fnOf "how_many_orders" "how_many_orders" (defArgs sOrders) (defBody sOrders) (defScope sOrders) .none kV3 dc3 pm3 an3 cd3 ct3), sl3⟩) (c3 : PySem.W.codeIn K cd3 "how_many_orders" = true) (k3 : PySem.W.keepIn K (.ref f3) = true)
    (a4 : PySem.W.nsIn K mainGlobals "how_many_sets" = some (some (.ref f4))) (l4 : K.lookup f4 = some ⟨oc4, od4, .func (PySem.W.fnOf "how_many_sets" "how_many_sets" (defArgs sSets) (defBody sSets) (defScope sSets) .none kV4 dc4 pm4 an4 cd4 ct4), sl4⟩) (c4 : PySem.W.codeIn K cd4 "how_many_sets" = true) (k4 : PySem.W.keepIn K (.ref f4) = true)
    (a5 : PySem.W.nsIn K mainGlobals "is_counts" = some (some (.ref f5))) (l5 : K.lookup f5 = some ⟨oc5, od5, .func (PySem.W.fnOf "is_counts" "is_counts" (defArgs sCounts) (defBody sCounts) (defScope sCounts) .none kV5 dc5 pm5 an5 cd5 ct5), sl5⟩) (c5 : PySem.W.codeIn K cd5 "is_counts" = true) (k5 : PySem.W.keepIn K (.ref f5) = true)
    (a6 : PySem.W.nsIn K mainGlobals "rest_counts" = some (some (.ref f6))) (l6 : K.lookup f6 = some ⟨oc6, od6, .func (PySem.W.fnOf "rest_counts" "rest_counts" (defArgs sRest) (defBody sRest) (defScope sRest) .none kV6 dc6 pm6 an6 cd6 ct6), sl6⟩) (c6 : PySem.W.codeIn K cd6 "rest_counts" = true) (k6 : PySem.W.keepIn K (.ref f6) = true)
    (a7 : PySem.W.nsIn K mainGlobals "rests_well" = some (some (.ref f7))) (l7 : K.lookup f7 = some ⟨oc7, od7, .func (PySem.W.fnOf "rests_well" "rests_well" (defArgs sWell) (defBody sWell) (defScope sWell) .none kV7 dc7 pm7 an7 cd7 ct7), sl7⟩) (c7 : PySem.W.codeIn K cd7 "rests_well" = true) (k7 : PySem.W.keepIn K (.ref f7) = true)
    (a8 : PySem.W.nsIn K mainGlobals "refuse_no_sizes" = some (some (.ref f8))) (l8 : K.lookup f8 = some ⟨oc8, od8, .func (PySem.W.fnOf "refuse_no_sizes" "refuse_no_sizes" (defArgs sRef) (defBody sRef) (defScope sRef) .none kV8 dc8 pm8 an8 cd8 ct8), sl8⟩) (c8 : PySem.W.codeIn K cd8 "refuse_no_sizes" = true) (k8 : PySem.W.keepIn K (.ref f8) = true)
    (a9 : PySem.W.nsIn K mainGlobals "rest_count" = some (some (.ref f9))) (l9 : K.lookup f9 = some ⟨oc9, od9, .func (PySem.W.fnOf "rest_count" "rest_count" (defArgs sRestC) (defBody sRestC) (defScope sRestC) .none kV9 dc9 pm9 an9 cd9 ct9), sl9⟩) (c9 : PySem.W.codeIn K cd9 "rest_count" = true) (k9 : PySem.W.keepIn K (.ref f9) = true)
    (a10 : PySem.W.nsIn K mainGlobals "full_count" = some (some (.ref f10))) (l10 : K.lookup f10 = some ⟨oc10, od10, .func (PySem.W.fnOf "full_count" "full_count" (defArgs sFull) (defBody sFull) (defScope sFull) .none kV10 dc10 pm10 an10 cd10 ct10), sl10⟩) (c10 : PySem.W.codeIn K cd10 "full_count" = true) (k10 : PySem.W.keepIn K (.ref f10) = true)
    (a11 : PySem.W.nsIn K mainGlobals "_law_cell_at" = some (some (.ref f11))) (l11 : K.lookup f11 = some ⟨oc11, od11, .func (PySem.W.fnOf "_law_cell_at" "_law_cell_at" (defArgs lCellAt) (defBody lCellAt) (defScope lCellAt) .none kV11 dc11 pm11 an11 cd11 ct11), sl11⟩) (c11 : PySem.W.codeIn K cd11 "_law_cell_at" = true) (k11 : PySem.W.keepIn K (.ref f11) = true)
    (a12 : PySem.W.nsIn K mainGlobals "_law_pot" = some (some (.ref f12))) (l12 : K.lookup f12 = some ⟨oc12, od12, .func (PySem.W.fnOf "_law_pot" "_law_pot" (defArgs lPot) (defBody lPot) (defScope lPot) .none kV12 dc12 pm12 an12 cd12 ct12), sl12⟩) (c12 : PySem.W.codeIn K cd12 "_law_pot" = true) (k12 : PySem.W.keepIn K (.ref f12) = true)
    (a13 : PySem.W.nsIn K mainGlobals "_law_take" = some (some (.ref f13))) (l13 : K.lookup f13 = some ⟨oc13, od13, .func (PySem.W.fnOf "_law_take" "_law_take" (defArgs lTake) (defBody lTake) (defScope lTake) .none kV13 dc13 pm13 an13 cd13 ct13), sl13⟩) (c13 : PySem.W.codeIn K cd13 "_law_take" = true) (k13 : PySem.W.keepIn K (.ref f13) = true)
    (a14 : PySem.W.nsIn K mainGlobals "_law_whole" = some (some (.ref f14))) (l14 : K.lookup f14 = some ⟨oc14, od14, .func (PySem.W.fnOf "_law_whole" "_law_whole" (defArgs lWhole) (defBody lWhole) (defScope lWhole) .none kV14 dc14 pm14 an14 cd14 ct14), sl14⟩) (c14 : PySem.W.codeIn K cd14 "_law_whole" = true) (k14 : PySem.W.keepIn K (.ref f14) = true)
    (a15 : PySem.W.nsIn K mainGlobals "_law_same" = some (some (.ref f15))) (l15 : K.lookup f15 = some ⟨oc15, od15, .func (PySem.W.fnOf "_law_same" "_law_same" (defArgs lSame) (defBody lSame) (defScope lSame) .none kV15 dc15 pm15 an15 cd15 ct15), sl15⟩) (c15 : PySem.W.codeIn K cd15 "_law_same" = true) (k15 : PySem.W.keepIn K (.ref f15) = true)
    (a16 : PySem.W.nsIn K mainGlobals "_law_board" = some (some (.ref f16))) (l16 : K.lookup f16 = some ⟨oc16, od16, .func (PySem.W.fnOf "_law_board" "_law_board" (defArgs lBoard) (defBody lBoard) (defScope lBoard) .none kV16 dc16 pm16 an16 cd16 ct16), sl16⟩) (c16 : PySem.W.codeIn K cd16 "_law_board" = true) (k16 : PySem.W.keepIn K (.ref f16) = true)
    (a17 : PySem.W.nsIn K mainGlobals "_law_counts" = some (some (.ref f17))) (l17 : K.lookup f17 = some ⟨oc17, od17, .func (PySem.W.fnOf "_law_counts" "_law_counts" (defArgs lCounts) (defBody lCounts) (defScope lCounts) .none kV17 dc17 pm17 an17 cd17 ct17), sl17⟩) (c17 : PySem.W.codeIn K cd17 "_law_counts" = true) (k17 : PySem.W.keepIn K (.ref f17) = true)
    (a18 : PySem.W.nsIn K mainGlobals "_law_sets" = some (some (.ref f18))) (l18 : K.lookup f18 = some ⟨oc18, od18, .func (PySem.W.fnOf "_law_sets" "_law_sets" (defArgs lSets) (defBody lSets) (defScope lSets) .none kV18 dc18 pm18 an18 cd18 ct18), sl18⟩) (c18 : PySem.W.codeIn K cd18 "_law_sets" = true) (k18 : PySem.W.keepIn K (.ref f18) = true)
    (a19 : PySem.W.nsIn K mainGlobals "_law_set" = some (some (.ref f19))) (l19 : K.lookup f19 = some ⟨oc19, od19, .func (PySem.W.fnOf "_law_set" "_law_set" (defArgs lSet) (defBody lSet) (defScope lSet) .none kV19 dc19 pm19 an19 cd19 ct19), sl19⟩) (c19 : PySem.W.codeIn K cd19 "_law_set" = true) (k19 : PySem.W.keepIn K (.ref f19) = true)
    (a20 : PySem.W.nsIn K mainGlobals "_law_ways" = some (some (.ref f20))) (l20 : K.lookup f20 = some ⟨oc20, od20, .func (PySem.W.fnOf "_law_ways" "_law_ways" (defArgs lWays) (defBody lWays) (defScope lWays) .none kV20 dc20 pm20 an20 cd20 ct20), sl20⟩) (c20 : PySem.W.codeIn K cd20 "_law_ways" = true) (k20 : PySem.W.keepIn K (.ref f20) = true)
    (a21 : PySem.W.nsIn K mainGlobals "_law_rest" = some (some (.ref f21))) (l21 : K.lookup f21 = some ⟨oc21, od21, .func (PySem.W.fnOf "_law_rest" "_law_rest" (defArgs lRest) (defBody lRest) (defScope lRest) .none kV21 dc21 pm21 an21 cd21 ct21), sl21⟩) (c21 : PySem.W.codeIn K cd21 "_law_rest" = true) (k21 : PySem.W.keepIn K (.ref f21) = true)
    (a22 : PySem.W.nsIn K mainGlobals "law" = some (some (.ref f22))) (l22 : K.lookup f22 = some ⟨oc22, od22, .func (PySem.W.fnOf "law" "law" (defArgs sLaw) (defBody sLaw) (defScope sLaw) .none kV22 dc22 pm22 an22 cd22 ct22), sl22⟩) (c22 : PySem.W.codeIn K cd22 "law" = true) (k22 : PySem.W.keepIn K (.ref f22) = true)
    (z1 : PySem.W.nsIn K mainGlobals "isinstance" = some none)
    (z2 : PySem.W.nsIn K mainGlobals "int" = some none)
    (z3 : PySem.W.nsIn K mainGlobals "bool" = some none)
    (z4 : PySem.W.nsIn K mainGlobals "str" = some none)
    (z5 : PySem.W.nsIn K mainGlobals "tuple" = some none)
    (z6 : PySem.W.nsIn K mainGlobals "list" = some none)
    (z7 : PySem.W.nsIn K mainGlobals "all" = some none)
    (z8 : PySem.W.nsIn K mainGlobals "len" = some none)
    (z9 : PySem.W.nsIn K mainGlobals "zip" = some none)
    (z10 : PySem.W.nsIn K mainGlobals "enumerate" = some none)
    (z11 : PySem.W.nsIn K mainGlobals "range" = some none)
    (z12 : PySem.W.nsIn K mainGlobals "max" = some none)
    (z13 : PySem.W.nsIn K mainGlobals "min" = some none)
    (z14 : PySem.W.nsIn K mainGlobals "sorted" = some none)
    (z15 : PySem.W.nsIn K mainGlobals "sum" = some none)
    (z16 : PySem.W.nsIn K mainGlobals "set" = some none)
    (z17 : PySem.W.nsIn K mainGlobals "any" = some none)
    (z18 : PySem.W.nsIn K mainGlobals "reversed" = some none)
    (z19 : PySem.W.nsIn K mainGlobals "divmod" = some none)
    {tA : _} (aA : PySem.W.nsIn K mainGlobals "MOST_COUNTED_LINES" = some (some (.int 12 tA)))
    (zD : PySem.W.nsIn K mainGlobals "dict" = some none)
    :
    ∃ fd : FuncData, (∀ (s : Shared) (v : Value), BindsTo s fd ⟨[v], []⟩ [("_law_script", v)]) ∧ ∀ base : Heap, K.In base → base.Ns mainGlobals mg → FnOk l.prog w K mg base CX0 7 fa fd ["_law_script"] (Dl.spLawD K) := by
  have e := hfa.symm.trans (PySem.W.mg_of X G a22)
  cases e
  have T := (⟨(PySem.W.mg_none_of X G z1), (PySem.W.mg_none_of X G z2), (PySem.W.mg_none_of X G z3), (PySem.W.mg_none_of X G z4), (PySem.W.mg_none_of X G z5), (PySem.W.mg_none_of X G z6), (PySem.W.mg_none_of X G z7), (PySem.W.mg_none_of X G z8), (PySem.W.mg_none_of X G z9), (PySem.W.mg_none_of X G z10), (PySem.W.mg_none_of X G z11), (PySem.W.mg_none_of X G z12), (PySem.W.mg_none_of X G z13), (PySem.W.mg_none_of X G z14), (PySem.W.mg_none_of X G z15), (PySem.W.mg_none_of X G z16), (PySem.W.mg_none_of X G z17), (PySem.W.mg_none_of X G z18), (PySem.W.mg_none_of X G z19)⟩ : GlbA mg)
  have F1 := fun_mk (st := sWhole) l1 c1 k1
  have b1 := F1.binds (ps := ["thing"]) fun _ _ _ _ _ _ us hl => match us, hl with | [_], _ => rfl
  have m1 := PySem.W.mg_of X G a1
  have F2 := fun_mk (st := sWithin) l2 c2 k2
  have b2 := F2.binds (ps := ["thing", "least", "most"]) fun _ _ _ _ _ _ us hl => match us, hl with | [_, _, _], _ => rfl
  have m2 := PySem.W.mg_of X G a2
  have F3 := fun_mk (st := sOrders) l3 c3 k3
  have b3 := F3.binds (ps := ["many"]) fun _ _ _ _ _ _ us hl => match us, hl with | [_], _ => rfl
  have m3 := PySem.W.mg_of X G a3
  have F4 := fun_mk (st := sSets) l4 c4 k4
  have b4 := F4.binds (ps := ["many", "size"]) fun _ _ _ _ _ _ us hl => match us, hl with | [_, _], _ => rfl
  have m4 := PySem.W.mg_of X G a4
  have F5 := fun_mk (st := sCounts) l5 c5 k5
  have b5 := F5.binds (ps := ["high", "wide", "thing"]) fun _ _ _ _ _ _ us hl => match us, hl with | [_, _, _], _ => rfl
  have m5 := PySem.W.mg_of X G a5
  have F6 := fun_mk (st := sRest) l6 c6 k6
  have b6 := F6.binds (ps := ["high", "wide", "counts"]) fun _ _ _ _ _ _ us hl => match us, hl with | [_, _, _], _ => rfl
  have m6 := PySem.W.mg_of X G a6
  have F7 := fun_mk (st := sWell) l7 c7 k7
  have b7 := F7.binds (ps := ["high", "wide", "counts"]) fun _ _ _ _ _ _ us hl => match us, hl with | [_, _, _], _ => rfl
  have m7 := PySem.W.mg_of X G a7
  have F8 := fun_mk (st := sRef) l8 c8 k8
  have b8 := F8.binds (ps := ["high", "wide"]) fun _ _ _ _ _ _ us hl => match us, hl with | [_, _], _ => rfl
  have m8 := PySem.W.mg_of X G a8
  have F9 := fun_mk (st := sRestC) l9 c9 k9
  have b9 := F9.binds (ps := ["high", "wide", "counts", "size"]) fun _ _ _ _ _ _ us hl => match us, hl with | [_, _, _, _], _ => rfl
  have m9 := PySem.W.mg_of X G a9
  have F10 := fun_mk (st := sFull) l10 c10 k10
  have b10 := F10.binds (ps := ["high", "wide", "size"]) fun _ _ _ _ _ _ us hl => match us, hl with | [_, _, _], _ => rfl
  have m10 := PySem.W.mg_of X G a10
  have F11 := fun_mk (st := lCellAt) l11 c11 k11
  have b11 := F11.binds (ps := ["_law_script", "_law_k"]) fun _ _ _ _ _ _ us hl => match us, hl with | [_, _], _ => rfl
  have m11 := PySem.W.mg_of X G a11
  have F12 := fun_mk (st := lPot) l12 c12 k12
  have b12 := F12.binds (ps := ["_law_cell"]) fun _ _ _ _ _ _ us hl => match us, hl with | [_], _ => rfl
  have m12 := PySem.W.mg_of X G a12
  have F13 := fun_mk (st := lTake) l13 c13 k13
  have b13 := F13.binds (ps := ["_law_pot_here", "_law_far"]) fun _ _ _ _ _ _ us hl => match us, hl with | [_, _], _ => rfl
  have m13 := PySem.W.mg_of X G a13
  have F14 := fun_mk (st := lWhole) l14 c14 k14
  have b14 := F14.binds (ps := ["_law_found"]) fun _ _ _ _ _ _ us hl => match us, hl with | [_], _ => rfl
  have m14 := PySem.W.mg_of X G a14
  have F15 := fun_mk (st := lSame) l15 c15 k15
  have b15 := F15.binds (ps := ["_law_found", "_law_due"]) fun _ _ _ _ _ _ us hl => match us, hl with | [_, _], _ => rfl
  have m15 := PySem.W.mg_of X G a15
  have F16 := fun_mk (st := lBoard) l16 c16 k16
  have b16 := F16.binds (ps := ["_law_pot_here", "_law_high", "_law_wide"]) fun _ _ _ _ _ _ us hl => match us, hl with | [_, _, _], _ => rfl
  have m16 := PySem.W.mg_of X G a16
  have F17 := fun_mk (st := lCounts) l17 c17 k17
  have b17 := F17.binds (ps := ["_law_board_here"]) fun _ _ _ _ _ _ us hl => match us, hl with | [_], _ => rfl
  have m17 := PySem.W.mg_of X G a17
  have F18 := fun_mk (st := lSets) l18 c18 k18
  have b18 := F18.binds (ps := ["_law_many"]) fun _ _ _ _ _ _ us hl => match us, hl with | [_], _ => rfl
  have m18 := PySem.W.mg_of X G a18
  have F19 := fun_mk (st := lSet) l19 c19 k19
  have b19 := F19.binds (ps := ["_law_many", "_law_size"]) fun _ _ _ _ _ _ us hl => match us, hl with | [_, _], _ => rfl
  have m19 := PySem.W.mg_of X G a19
  have F20 := fun_mk (st := lWays) l20 c20 k20
  have b20 := F20.binds (ps := ["_law_many"]) fun _ _ _ _ _ _ us hl => match us, hl with | [_], _ => rfl
  have m20 := PySem.W.mg_of X G a20
  have F21 := fun_mk (st := lRest) l21 c21 k21
  have b21 := F21.binds (ps := ["_law_high", "_law_wide", "_law_row"]) fun _ _ _ _ _ _ us hl => match us, hl with | [_, _, _], _ => rfl
  have m21 := PySem.W.mg_of X G a21
  have F22 := fun_mk (st := sLaw) l22 c22 k22
  refine ⟨PySem.W.fnOf "law" "law" (defArgs sLaw) (defBody sLaw) (defScope sLaw) .none kV22 dc22 pm22 an22 cd22 ct22, fun s v => .of_eq rfl, fun base _ _ => ?_⟩
  have G1 : FnOk l.prog w K mg base CX0 1 f1 _ ["thing"] (Dl.toSp false Dl.wholeD) := ok_whole F1 T 
  have G2 : FnOk l.prog w K mg base CX0 2 f2 _ ["thing", "least", "most"] (Dl.toSp false withinD) := ok_within F2 T m1 G1 b1 k1
  have G8 : FnOk l.prog w K mg base CX0 3 f8 _ ["high", "wide"] (Dl.toSp false refD) := ok_refs ⟨_, PySem.W.mg_of X G aA⟩ F8 T m2 G2 b2 k2
  have G5 : FnOk l.prog w K mg base CX0 4 f5 _ ["high", "wide", "thing"] (Dl.toSp false cntD) := ok_counts F5 T m1 G1 b1 k1 m8 G8 b8 k8
  have G3 : FnOk l.prog w K mg base CX0 1 f3 _ ["many"] (Dl.toSp false ordersD) := ok_orders F3 T 
  have G4 : FnOk l.prog w K mg base CX0 1 f4 _ ["many", "size"] (Dl.toSp false setsD) := ok_sets F4 T 
  have G10 : FnOk l.prog w K mg base CX0 2 f10 _ ["high", "wide", "size"] (Dl.toSp false fullD) := ok_full F10 T m4 G4 b4 k4 m3 G3 b3 k3
  have G9 : FnOk l.prog w K mg base CX0 3 f9 _ ["high", "wide", "counts", "size"] (Dl.toSp false restcD) := ok_restc F9 T m10 G10 b10 k10
  have G6 : FnOk l.prog w K mg base CX0 5 f6 _ ["high", "wide", "counts"] (Dl.toSp true rest12D) := ok_rest F6 T m5 G5 b5 k5 m9 G9 b9 k9
  have G7 : FnOk l.prog w K mg base CX0 6 f7 _ ["high", "wide", "counts"] (Dl.toSp false well12D) := ok_well F7 T m5 G5 b5 k5 m6 G6 b6 k6
  have G11 : FnOk l.prog w K mg base CX0 1 f11 _ ["_law_script", "_law_k"] (spCellAt K) := ok_cellAt F11 T 
  have G12 : FnOk l.prog w K mg base CX0 1 f12 _ ["_law_cell"] (Dl.toSp true Dl.potD) := (ok_pot F12 T).imp fun _ _ _ _ h => Dl.pot_d h
  have G13 : FnOk l.prog w K mg base CX0 1 f13 _ ["_law_pot_here", "_law_far"] (Dl.toSp true Dl.takeD) := (ok_take F13 T).imp fun _ _ _ _ h => Dl.take_d h
  have G15 : FnOk l.prog w K mg base CX0 5 f15 _ ["_law_found", "_law_due"] (Dl.toSp false (Dl.sameD 3)) := (ok_same F15 T m15 b15 k15 m14 (ok_wholeL F14 T) b14 k14 4).imp fun _ _ _ _ h => Dl.same_d h
  have G16 : FnOk l.prog w K mg base CX0 2 f16 _ ["_law_pot_here", "_law_high", "_law_wide"] (Dl.toSp false lb2D) := ok_lboard F16 T m13 G13 b13 k13
  have G17 : FnOk l.prog w K mg base CX0 1 f17 _ ["_law_board_here"] (Dl.toSp true lcntD) := (ok_lcnt (PySem.W.mg_none_of X G zD) F17 T).imp fun _ _ _ _ h => cnt_d h
  have G18 : FnOk l.prog w K mg base CX0 1 f18 _ ["_law_many"] (Dl.toSp false lsetsD) := ok_lsets F18 T 
  have G19 : FnOk l.prog w K mg base CX0 2 f19 _ ["_law_many", "_law_size"] (Dl.toSp false lsetD) := ok_lset F19 T m18 G18 b18 k18
  have G20 : FnOk l.prog w K mg base CX0 1 f20 _ ["_law_many"] (Dl.toSp false lwaysF) := ok_lways F20 T 
  have G21 : FnOk l.prog w K mg base CX0 3 f21 _ ["_law_high", "_law_wide", "_law_row"] (Dl.toSp false lrestD) := ok_lrest F21 T m19 G19 b19 k19 m20 G20 b20 k20
  exact ok_law F22 T m11 G11 b11 k11 m12 G12 b12 k12 m13 G13 b13 k13 m16 G16 b16 k16 m17 G17 b17 k17 m21 G21 b21 k21 m6 G6 b6 k6 m7 G7 b7 k7 m15 G15 b15 k15
theorem walk {l : PySem.W.OpenLaw} {q : Program} {loose : List Str} {XP : (Str → Option Value) → Heap → Prop} {YP : World → Heap → Prop} {d : DefRec} {K : Params → PySem.W.Frag} (hn : l.most = some 63) (hdf : d.params.defaults = [])
    (hY : ∀ (w : World) (h : Heap), YP w h → (K w.params).In h)
    (F : ∀ (w : World) (mg : Str → Option Value) (fa : Addr) (h : Heap), (K w.params).In h → h.Ns mainGlobals mg → mg d.name = some (.ref fa) →
      ∃ fd : FuncData, (∀ (s : Shared) (u : Value), BindsTo s fd ⟨[u], []⟩ [("_law_script", u)]) ∧ ∀ base : Heap, (K w.params).In base → base.Ns mainGlobals mg → FnOk l.prog w (K w.params) mg base CX0 7 fa fd ["_law_script"] (Dl.spLawD (K w.params))) :
    PySem.W.WalkO q loose XP YP l.row.toRowW d [] (fun f vs => PySem.call f vs) :=
  L2.walk_of (n := 63) (k := 7) (x := "_law_script") (CX := fun _ => CX0) (sp := fun w => (Dl.spLawD (K w.params))) hn (by decide) hdf ⟨rfl, by decide, by decide⟩ hY F (fun _ _ a ns hl _ hS => ⟨a, ns, rfl, hS, hl, fun _ => rfl⟩) fun _ _ _ _ _ z => z
end Rk
open PySem PySem.W PyProof.Rows
set_option maxRecDepth 100000 in
set_option maxHeartbeats 0 in
theorem PySem.Challenge.cw_rooklands_k52_rest_counts_told_holds : PySem.Challenge.rw_rooklands_k52_rest_counts_told.Holds := by
  w_on; o_law; k_head; (case hw => w_witness2)
  k_fill
  refine Rk.walk (l := PySem.Challenge.rw_rooklands_k52_rest_counts_told) rfl rfl (fun w h Y => PySem.W.kIn_of Y) ?F
  case F =>
    intro w mg fa h KX G hmg
    refine' Rk.all_mk KX G hmg ?a1 ?l1 ?c1 ?k1 ?a2 ?l2 ?c2 ?k2 ?a3 ?l3 ?c3 ?k3 ?a4 ?l4 ?c4 ?k4 ?a5 ?l5 ?c5 ?k5 ?a6 ?l6 ?c6 ?k6 ?a7 ?l7 ?c7 ?k7 ?a8 ?l8 ?c8 ?k8 ?a9 ?l9 ?c9 ?k9 ?a10 ?l10 ?c10 ?k10 ?a11 ?l11 ?c11 ?k11 ?a12 ?l12 ?c12 ?k12 ?a13 ?l13 ?c13 ?k13 ?a14 ?l14 ?c14 ?k14 ?a15 ?l15 ?c15 ?k15 ?a16 ?l16 ?c16 ?k16 ?a17 ?l17 ?c17 ?k17 ?a18 ?l18 ?c18 ?k18 ?a19 ?l19 ?c19 ?k19 ?a20 ?l20 ?c20 ?k20 ?a21 ?l21 ?c21 ?k21 ?a22 ?l22 ?c22 ?k22 ?z1 ?z2 ?z3 ?z4 ?z5 ?z6 ?z7 ?z8 ?z9 ?z10 ?z11 ?z12 ?z13 ?z14 ?z15 ?z16 ?z17 ?z18 ?z19 ?aA ?zD
    (case a1 => k_is)
    (case l1 => k_is)
    (case c1 => k_is)
    (case k1 => k_is)
    (case a2 => k_is)
    (case l2 => k_is)
    (case c2 => k_is)
    (case k2 => k_is)
    (case a3 => k_is)
    (case l3 => k_is)
    (case c3 => k_is)
    (case k3 => k_is)
    (case a4 => k_is)
    (case l4 => k_is)
    (case c4 => k_is)
    (case k4 => k_is)
    (case a5 => k_is)
    (case l5 => k_is)
    (case c5 => k_is)
    (case k5 => k_is)
    (case a6 => k_is)
    (case l6 => k_is)
    (case c6 => k_is)
    (case k6 => k_is)
    (case a7 => k_is)
    (case l7 => k_is)
    (case c7 => k_is)
    (case k7 => k_is)
    (case a8 => k_is)
    (case l8 => k_is)
    (case c8 => k_is)
    (case k8 => k_is)
    (case a9 => k_is)
    (case l9 => k_is)
    (case c9 => k_is)
    (case k9 => k_is)
    (case a10 => k_is)
    (case l10 => k_is)
    (case c10 => k_is)
    (case k10 => k_is)
    (case a11 => k_is)
    (case l11 => k_is)
    (case c11 => k_is)
    (case k11 => k_is)
    (case a12 => k_is)
    (case l12 => k_is)
    (case c12 => k_is)
    (case k12 => k_is)
    (case a13 => k_is)
    (case l13 => k_is)
    (case c13 => k_is)
    (case k13 => k_is)
    (case a14 => k_is)
    (case l14 => k_is)
    (case c14 => k_is)
    (case k14 => k_is)
    (case a15 => k_is)
    (case l15 => k_is)
    (case c15 => k_is)
    (case k15 => k_is)
    (case a16 => k_is)
    (case l16 => k_is)
    (case c16 => k_is)
    (case k16 => k_is)
    (case a17 => k_is)
    (case l17 => k_is)
    (case c17 => k_is)
    (case k17 => k_is)
    (case a18 => k_is)
    (case l18 => k_is)
    (case c18 => k_is)
    (case k18 => k_is)
    (case a19 => k_is)
    (case l19 => k_is)
    (case c19 => k_is)
    (case k19 => k_is)
    (case a20 => k_is)
    (case l20 => k_is)
    (case c20 => k_is)
    (case k20 => k_is)
    (case a21 => k_is)
    (case l21 => k_is)
    (case c21 => k_is)
    (case k21 => k_is)
    (case a22 => k_is)
    (case l22 => k_is)
    (case c22 => k_is)
    (case k22 => k_is)
    (case z1 => k_is)
    (case z2 => k_is)
    (case z3 => k_is)
    (case z4 => k_is)
    (case z5 => k_is)
    (case z6 => k_is)
    (case z7 => k_is)
    (case z8 => k_is)
    (case z9 => k_is)
    (case z10 => k_is)
    (case z11 => k_is)
    (case z12 => k_is)
    (case z13 => k_is)
    (case z14 => k_is)
    (case z15 => k_is)
    (case z16 => k_is)
    (case z17 => k_is)
    (case z18 => k_is)
    (case z19 => k_is)
    (case aA => k_is)
    (case zD => k_is)
