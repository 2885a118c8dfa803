import PyProof.Rows.All
import Wide.All
import OpenK.AllK
import Wide.FinOn
import Lean
import PyProof.EqAt
import PyProof.EqKinds
import PyProof.TupleCall
import PyProof.P3Eq
import PyProof.Draws
import PyProof.EnumMake
import PyProof.NeData
import KE.LcSums
import PySem.Challenge.RW_rooklands_k44_no_square_no_order
import PyProof.WalkInts
import PyProof.SeqI3
set_option Elab.async false
set_option linter.all false
set_option maxRecDepth 100000
namespace L2
open PySem PySem.Spec PyProof.Rows
abbrev Key := Sum Int Str
def keyIs : Key → Value → Bool
  | .inl k, v => Value.isInt k v
  | .inr x, v => Value.isStrOf x v
def keyH (w : World) : Key → Int
  | .inl k => hashInt k
  | .inr x => hashStr w x
theorem keyIs_shape : ∀ {k : Key} {v : Value}, keyIs k v = true → (∃ i t, k = Sum.inl i ∧ v = Value.int i t) ∨ (∃ x t, k = Sum.inr x ∧ v = Value.str x t)
  | .inl i, v, h => by
    obtain ⟨t, e⟩ := Value.isInt_shape (k := i) (v := v) h
    exact .inl ⟨i, t, rfl, e⟩
  | .inr x, v, h => by
    obtain ⟨t, e⟩ := Value.isStrOf_shape (x := x) (v := v) h
    exact .inr ⟨x, t, rfl, e⟩
theorem key_ll (a b : Int) : decide ((Sum.inl a : Key) = Sum.inl b) = (a == b) := by
  by_cases e : a = b
  · subst e; simp
  · have h : ¬ (Sum.inl a : Key) = Sum.inl b := fun q => e (Sum.inl.inj q)
    rw [decide_eq_false h]
    exact (beq_eq_false_iff_ne.mpr e).symm
theorem key_rr (a b : Str) : decide ((Sum.inr a : Key) = Sum.inr b) = decide (a = b) := by
  by_cases e : a = b
  · subst e; simp
  · have h : ¬ (Sum.inr a : Key) = Sum.inr b := fun q => e (Sum.inr.inj q)
    rw [decide_eq_false h, decide_eq_false e]
theorem key_lr (a : Int) (b : Str) : decide ((Sum.inl a : Key) = Sum.inr b) = false := decide_eq_false (fun q => nomatch q)
theorem key_rl (a : Str) (b : Int) : decide ((Sum.inr a : Key) = Sum.inl b) = false := decide_eq_false (fun q => nomatch q)
def mixKind (prog : Program) (w : World) : PySem.KeyKind prog w Key where
  is := keyIs
  hash := keyH w
  inj := fun v a b ha hb => by
    rcases keyIs_shape ha with ⟨i, t, rfl, rfl⟩ | ⟨x, t, rfl, rfl⟩
    · rcases keyIs_shape hb with ⟨j, u, rfl, e⟩ | ⟨y, u, rfl, e⟩
      · injection e with e1 _; rw [e1]
      · exact nomatch e
    · rcases keyIs_shape hb with ⟨j, u, rfl, e⟩ | ⟨y, u, rfl, e⟩
      · exact nomatch e
      · injection e with e1 _; rw [e1]
  byValue := fun k v h => by
    rcases keyIs_shape h with ⟨i, t, rfl, rfl⟩ | ⟨x, t, rfl, rfl⟩ <;> rfl
  pyHash := fun hv h => by
    rcases keyIs_shape hv with ⟨i, t, rfl, rfl⟩ | ⟨x, t, rfl, rfl⟩
    · exact wpAny_pyHash_int h
    · exact wpAny_pyHash_str h
  eqBool := fun hu hv h => by
    rcases keyIs_shape hu with ⟨i, t, rfl, rfl⟩ | ⟨x, t, rfl, rfl⟩
    · rcases keyIs_shape hv with ⟨j, u, rfl, rfl⟩ | ⟨y, u, rfl, rfl⟩
      · rw [key_ll] at h; exact wpAny_eqBool_int h
      · rw [key_lr] at h; exact SeqAt.EqAt.int_str i t y u _ _ _ _ h
    · rcases keyIs_shape hv with ⟨j, u, rfl, rfl⟩ | ⟨y, u, rfl, rfl⟩
      · rw [key_rl] at h; exact SeqAt.EqAt.str_int x t j u _ _ _ _ h
      · rw [key_rr] at h; exact wpAny_eqBool_str h
  «strs» := fun k x t v h => by
    rcases keyIs_shape h with ⟨i, u, rfl, e⟩ | ⟨y, u, rfl, e⟩
    · exact nomatch e
    · injection e with e1 _
      subst e1
      cases v <;> rfl
end L2
namespace L2
open PySem PySem.Spec PyProof.Rows
inductive V where
  | non | bl (b : Bool) | int (i : Int) | str (x : Str) | byt (b : Array UInt8) | flt (b : UInt64) | ref (a : Addr) | ty (n : String)
  deriving DecidableEq
def RelV : V → Value → Prop
  | .non, u => u = Value.none
  | .bl b, u => u = Value.bool b
  | .int i, u => ∃ t, u = Value.int i t
  | .str x, u => ∃ t, u = Value.str x t
  | .byt b, u => ∃ t, u = Value.bytes b t
  | .flt b, u => ∃ t, u = Value.float b t
  | .ref a, u => u = Value.ref a
  | .ty n, u => u = Value.type n
abbrev Vals : List V → List Value → Prop := Paired RelV
theorem Vals.length {xs : List V} {us : List Value} (r : Vals xs us) : xs.length = us.length := Paired.length r
theorem Vals.get : ∀ {xs : List V} {us : List Value} {i : Nat} {x : V}, Vals xs us → xs[i]? = some x → ∃ u, us[i]? = some u ∧ RelV x u
  | _, _, _, _, .nil, e => by simp at e
  | _, _, 0, _, .cons r _, e => by simp at e; subst e; exact ⟨_, rfl, r⟩
  | _, _, i + 1, x, .cons _ t, e => by
    obtain ⟨u, h1, h2⟩ := Vals.get (i := i) (x := x) t (by simpa using e)
    exact ⟨u, by simpa using h1, h2⟩
theorem Vals.set {x : V} {u : Value} (r : RelV x u) : ∀ {xs : List V} {us : List Value} (i : Nat), Vals xs us → Vals (xs.set i x) (us.set i u)
  | _, _, _, .nil => .nil
  | _, _, 0, .cons _ t => .cons r t
  | _, _, i + 1, .cons q t => .cons q (Vals.set r i t)
theorem Vals.append : ∀ {xs ys : List V} {us ws : List Value}, Vals xs us → Vals ys ws → Vals (xs ++ ys) (us ++ ws)
  | _, _, _, _, .nil, s => s
  | _, _, _, _, .cons r t, s => .cons r (Vals.append t s)
theorem Vals.take : ∀ {xs : List V} {us : List Value} (n : Nat), Vals xs us → Vals (xs.take n) (us.take n)
  | _, _, 0, _ => .nil
  | _, _, _ + 1, .nil => .nil
  | _, _, n + 1, .cons r t => .cons r (Vals.take n t)
theorem Vals.drop : ∀ {xs : List V} {us : List Value} (n : Nat), Vals xs us → Vals (xs.drop n) (us.drop n)
  | _, _, 0, r => r
  | _, _, _ + 1, .nil => .nil
  | _, _, n + 1, .cons _ t => Vals.drop n t
def RelO : Option V → Option Value → Prop
  | some v, some u => RelV v u
  | none, none => True
  | _, _ => False
def KV {κ : Type} : List (κ × V) → List (κ × Value) → Prop := Paired fun (p : κ × V) (q : κ × Value) => p.1 = q.1 ∧ RelV p.2 q.2
def kV : Key → V
  | .inl i => .int i
  | .inr x => .str x
inductive HO where
  /-- a list -/
  | lst (xs : List V)
  /-- a tuple (never changes) -/
  | tup (xs : List V)
  /-- a dict whose keys are ints and texts; one whose keys are tuples of ints and texts (the empty one is both) -/
  | dK (kvs : List (Key × V)) | dT (kvs : List (List Key × V))
  /-- a set of ints: its members, its size -/
  | set (S : Int → Bool) (n : Nat)
  /-- an instance of the class at C, its dict at dx, its attributes -/
  | ins (C dx : Addr) (fs : List (Str × V))
  /-- the dict of the instance at x -/
  | own (x : Addr)
  /-- the dict of an exception -/
  | xd (fs : List (Str × V))
  /-- a bound method, f of x -/
  | met (f x : Addr)
  /-- a range object lo, lo + 1, .. below hi -/
  | rng (lo hi : Int)
  /-- a thing that is known to the object (the script; a dict while a loop walks it): read, never written while it is so -/
  | frz (o : Obj) (u : HO)
  /-- a code object's table -/
  | tbl (ps : Array Value)
  /-- any other thing, by what is true of its one object (a def of one's own: SetO a S n := HO.ext fun h => ..) -/
  | ext (φ : Heap → Prop)
abbrev Hp := Addr → Option HO
def upd (H : Hp) (a : Addr) (o : HO) : Hp := fun b => if b = a then some o else H b
theorem upd_same {H : Hp} {a : Addr} {o : HO} : upd H a o a = some o := by unfold upd; rw [if_pos rfl]
theorem upd_ne {H : Hp} {a b : Addr} {o : HO} (h : b ≠ a) : upd H a o b = H b := by unfold upd; rw [if_neg h]
theorem ne_of_none {H : Hp} {a b : Addr} {o : HO} (h : H a = some o) (h' : H b = none) : a ≠ b := by
  intro e; subst e; rw [h] at h'; cases h'
section
variable (P : Program) (w : World)
def ObjOk (H : Hp) (h : Heap) (a : Addr) : HO → Prop
  | .lst xs => xs.length ≤ sizeLine ∧ ∃ (its : List Value) (n : Nat), Vals xs its ∧ h.get? a = some { cls := .type "list", data := .seq its.toArray n }
  | .tup xs => xs.length ≤ sizeLine ∧ ∃ its : List Value, Vals xs its ∧ IsTup h a its.toArray
  | .dK kvs => kvs.length ≤ sizeLine ∧ (a == sysModules) = false ∧ ∃ vs, KV kvs vs ∧ h.DictOf (mixKind P w) a vs
  | .dT kvs => kvs.length ≤ sizeLine ∧ (a == sysModules) = false ∧ ∃ xs : List (List Key × Addr × Value),
      Paired (fun (p : List Key × V) (q : List Key × Addr × Value) => p.1 = q.1 ∧ H q.2.1 = some (.tup (p.1.map kV)) ∧ RelV p.2 q.2.2) kvs xs ∧
      ∃ o es ep, h.get? a = some o ∧ o.ExactDict ∧ o.data = .dict es ep ∧ es.toList = xs.map (entryOfKey (tupleKind (mixKind P w))) ∧ (xs.map (·.1)).Nodup
  | .set S n => h.SetOf (intKind P w) a S n
  | .ins C dx fs => H dx = some (.own a) ∧ fs.length ≤ 1000 ∧ dx ≠ a ∧ h.get? a = some (PySem.W.instObj C dx) ∧
      ∃ mA, h.Ns1 dx mA ∧ (∀ f, RelO (fs.lookup f) (mA f)) ∧ PySem.Within mA (fs.map (·.1))
  | .own _ => ∃ o, h.get? a = some o
  | .xd fs => ∃ mA, h.Ns1 a mA ∧ ∀ f, RelO (fs.lookup f) (mA f)
  | .rng lo hi => ∃ t u v, h.get? a = some { cls := .type "range", data := .fields #[.int lo t, .int hi u, .int 1 v] }
  | .frz o u => h.get? a = some o ∧ ObjOk H h a u
  | .tbl ps => h.get? a = some { cls := .none, data := .fields ps }
  | .met f x => h.get? a = some (PySem.W.methodObj (.ref f) (.ref x))
  | .ext φ => φ h ∧ (∃ o, h.get? a = some o) ∧ ∀ h1 h2 : Heap, φ h1 → (∀ o, h1.get? a = some o → h2.get? a = some o) → φ h2
def HOk (H : Hp) (h : Heap) : Prop := ∀ a o, H a = some o → ObjOk P w H h a o
end
section
variable {P : Program} {w : World} {H H' : Hp} {h h' : Heap} {a : Addr} {o : HO}
theorem ObjOk.lt (x : ObjOk P w H h a o) : a < h.objs.size := by
  cases o with
  | lst xs => obtain ⟨_, _, _, _, e⟩ := x; exact Heap.lt_size e
  | tup xs => obtain ⟨_, _, _, p⟩ := x; exact p.lt
  | dK kvs => obtain ⟨_, _, _, _, o, _, _, e, _⟩ := x; exact Heap.lt_size e
  | dT kvs => obtain ⟨_, _, _, _, o, _, _, e, _⟩ := x; exact Heap.lt_size e
  | set S n => obtain ⟨o, _, _, _, e, _⟩ := x; exact Heap.lt_size e
  | ins C dx fs => obtain ⟨_, _, _, e, _⟩ := x; exact Heap.lt_size e
  | own y => obtain ⟨_, e⟩ := x; exact Heap.lt_size e
  | xd fs => obtain ⟨_, ⟨_, _, _, e, _⟩, _⟩ := x; exact Heap.lt_size e
  | rng lo hi => obtain ⟨_, _, _, e⟩ := x; exact Heap.lt_size e
  | frz ob u => obtain ⟨e, _⟩ := x; exact Heap.lt_size e
  | tbl ps => exact Heap.lt_size (show h.get? a = some _ from x)
  | met f y => exact Heap.lt_size (show h.get? a = some _ from x)
  | ext φ => obtain ⟨_, ⟨_, e⟩, _⟩ := x; exact Heap.lt_size e
theorem Paired.mapP {α β : Type} {F G : α → β → Prop} : ∀ {l₁ : List α} {l₂ : List β}, Paired F l₁ l₂ → (∀ a b, F a b → G a b) → Paired G l₁ l₂
  | _, _, .nil, _ => .nil
  | _, _, .cons r t, f => .cons (f _ _ r) (Paired.mapP t f)
theorem ObjOk.stay (x : ObjOk P w H h a o) (k : ∀ b u, (b = a ∨ H b = some (.own a)) → h.get? b = some u → h'.get? b = some u)
    (ho : ∀ b, H b = some (.own a) → H' b = some (.own a)) (ht : ∀ b xs, H b = some (.tup xs) → H' b = some (.tup xs)) : ObjOk P w H' h' a o := by
  induction o with
  | lst xs => obtain ⟨z, its, n, r, e⟩ := x; exact ⟨z, its, n, r, k _ _ (.inl rfl) e⟩
  | tup xs => obtain ⟨z, its, r, ob, e, c⟩ := x; exact ⟨z, its, r, ob, k _ _ (.inl rfl) e, c⟩
  | dK kvs => obtain ⟨z, y, vs, r, ob, es, ep, e, c⟩ := x; exact ⟨z, y, vs, r, ob, es, ep, k _ _ (.inl rfl) e, c⟩
  | dT kvs =>
    obtain ⟨z, y, xs, r, ob, es, ep, e, c⟩ := x
    exact ⟨z, y, xs, Paired.mapP r fun p q z => ⟨z.1, ht _ _ z.2.1, z.2.2⟩, ob, es, ep, k _ _ (.inl rfl) e, c⟩
  | set S n => obtain ⟨ob, es, ep, t, e, c⟩ := x; exact ⟨ob, es, ep, t, k _ _ (.inl rfl) e, c⟩
  | ins C dx fs =>
    obtain ⟨d, z, ne, e, mA, ⟨od, es, ep, e2, c⟩, r⟩ := x
    exact ⟨ho _ d, z, ne, k _ _ (.inl rfl) e, mA, ⟨od, es, ep, k _ _ (.inr d) e2, c⟩, r⟩
  | own y => obtain ⟨ob, e⟩ := x; exact ⟨ob, k _ _ (.inl rfl) e⟩
  | xd fs => obtain ⟨mA, ⟨od, es, ep, e, c⟩, r⟩ := x; exact ⟨mA, ⟨od, es, ep, k _ _ (.inl rfl) e, c⟩, r⟩
  | rng lo hi => obtain ⟨t, u, v, e⟩ := x; exact ⟨t, u, v, k _ _ (.inl rfl) e⟩
  | frz ob u ih => obtain ⟨e, q⟩ := x; exact ⟨k _ _ (.inl rfl) e, ih q⟩
  | tbl ps =>
    have e : h.get? a = some { cls := .none, data := .fields ps } := x
    show h'.get? a = some { cls := .none, data := .fields ps }
    exact k a _ (.inl rfl) e
  | met f y =>
    have e : h.get? a = some (PySem.W.methodObj (.ref f) (.ref y)) := x
    show h'.get? a = some (PySem.W.methodObj (.ref f) (.ref y))
    exact k a _ (.inl rfl) e
  | ext φ => obtain ⟨p, ⟨o, e⟩, st⟩ := x; exact ⟨st _ _ p fun o q => k _ _ (.inl rfl) q, ⟨o, k _ _ (.inl rfl) e⟩, st⟩
theorem HOk.lt (x : HOk P w H h) (e : H a = some o) : a < h.objs.size := (x a o e).lt
theorem HOk.fresh (x : HOk P w H h) (e : h.objs.size ≤ a) : H a = none := by
  cases q : H a with
  | none => rfl
  | some u => exact absurd (Nat.lt_of_lt_of_le (x.lt q) e) (Nat.lt_irrefl _)
theorem HOk.kept (x : HOk P w H h) (k : ∀ b u, h.get? b = some u → h'.get? b = some u) : HOk P w H h' := fun a o e =>
  (x a o e).stay (fun b u _ q => k b u q) (fun _ q => q) fun _ _ q => q
theorem HOk.laid (x : HOk P w H h) (k : ∀ b u, h.get? b = some u → h'.get? b = some u) (hp : h.objs.size ≤ a) (new : ObjOk P w (upd H a o) h' a o) : HOk P w (upd H a o) h' := fun b u e => by
  have hn := x.fresh hp
  by_cases hb : b = a
  · subst hb; rw [upd_same] at e; cases e; exact new
  · rw [upd_ne hb] at e
    exact (x b u e).stay (fun c v _ q => k c v q) (fun c q => by rw [upd_ne (ne_of_none q hn)]; exact q) fun c xs q => by rw [upd_ne (ne_of_none q hn)]; exact q
end
def Rd (H : Hp) (a : Addr) (u : HO) : Prop := H a = some u ∨ ∃ o, H a = some (.frz o u)
theorem Rd.of {H : Hp} {a : Addr} {u : HO} (h : H a = some u) : Rd H a u := .inl h
theorem Rd.ok {P : Program} {w : World} {H : Hp} {h : Heap} {a : Addr} {u : HO} (r : Rd H a u) (x : HOk P w H h) : ObjOk P w H h a u := by
  rcases r with r | ⟨o, r⟩
  · exact x a u r
  · obtain ⟨_, q⟩ := x a _ r
    exact q
def Mut : Option HO → Prop
  | some (.lst _) => True
  | some (.dK _) => True
  | some (.dT _) => True
  | some (.set _ _) => True
  | some (.ins _ _ _) => True
  | some (.ext _) => True
  | _ => False
section
variable {P : Program} {w : World} {H : Hp} {h h' : Heap} {x e : Addr} {o' : HO}
theorem HOk.write (ok : HOk P w H h) (mu : Mut (H x)) (he : e = x ∨ H e = some (.own x)) (k : ∀ b u, b ≠ e → h.get? b = some u → h'.get? b = some u) (heo : ∃ u, h'.get? e = some u)
    (new : ObjOk P w (upd H x o') h' x o') : HOk P w (upd H x o') h' := fun b u q => by
  have nown : ∀ c y, H c = some (.own y) → c ≠ x := fun c y r z => by subst z; rw [r] at mu; exact mu
  have ntup : ∀ c xs, H c = some (.tup xs) → c ≠ x := fun c xs r z => by subst z; rw [r] at mu; exact mu
  by_cases hb : b = x
  · subst hb; rw [upd_same] at q; cases q; exact new
  · rw [upd_ne hb] at q
    by_cases hbe : b = e
    · have q' : H b = some (.own x) := by
        rcases he with z | z
        · exact absurd (hbe.trans z) hb
        · rw [hbe]; exact z
      rw [q] at q'; cases q'
      obtain ⟨v, hv⟩ := heo
      exact ⟨v, by rw [hbe]; exact hv⟩
    · refine (ok b u q).stay (fun c v hc r => k c v ?_ r) (fun c r => by rw [upd_ne (nown c b r)]; exact r) fun c xs r => by rw [upd_ne (ntup c xs r)]; exact r
      rcases hc with rfl | hc
      · exact hbe
      · rintro rfl
        rcases he with z | z
        · exact nown c b hc z
        · rw [hc] at z; cases z; exact hb rfl
end
structure Un (fs ex : List Addr) (H H' : Hp) (h h' : Heap) : Prop where
  keep : ∀ b o, h.get? b = some o → H b = none → b ∉ fs → b ∉ ex → h'.get? b = some o
  slot : ∀ b o, h.get? b = some o → H b = none → b ∈ fs → b ∉ ex → ∃ sl, h'.get? b = some { o with slots := sl }
  free : ∀ b o, h.get? b = some o → H b = none → b ∉ ex → H' b = none
  there : ∀ b o, h.get? b = some o → b ∉ ex → ∃ o', h'.get? b = some o'
  tups : ∀ b xs, H b = some (.tup xs) → H' b = some (.tup xs)
  frzs : ∀ b o u, H b = some (.frz o u) → H' b = some (.frz o u)
  tbls : ∀ b ps, H b = some (.tbl ps) → ∃ more, H' b = some (.tbl (ps ++ more))
section
variable {fs fs' ex ex' : List Addr} {H H1 H2 : Hp} {h h1 h2 h' : Heap} {a x e : Addr} {o : HO}
theorem Un.any (u : Un fs ex H H1 h h1) {b : Addr} {ob : Obj} (q : h.get? b = some ob) (n : H b = none) (hx : b ∉ ex) : ∃ sl, h1.get? b = some { ob with slots := sl } := by
  by_cases hb : b ∈ fs
  · exact u.slot b ob q n hb hx
  · exact ⟨ob.slots, u.keep b ob q n hb hx⟩
theorem Un.trans (a : Un fs ex H H1 h h1) (b : Un fs ex H1 H2 h1 h2) : Un fs ex H H2 h h2 where
  keep := fun c ob q n hc hx => b.keep c ob (a.keep c ob q n hc hx) (a.free c ob q n hx) hc hx
  slot := fun c ob q n hc hx => by
    obtain ⟨sl, e1⟩ := a.slot c ob q n hc hx
    obtain ⟨sl', e2⟩ := b.slot c _ e1 (a.free c ob q n hx) hc hx
    exact ⟨sl', e2⟩
  free := fun c ob q n hx => by
    obtain ⟨o', e1⟩ := a.there c ob q hx
    exact b.free c o' e1 (a.free c ob q n hx) hx
  there := fun c ob q hx => by
    obtain ⟨o', e1⟩ := a.there c ob q hx
    exact b.there c o' e1 hx
  tups := fun c xs q => b.tups c xs (a.tups c xs q)
  frzs := fun c ob xs q => b.frzs c ob xs (a.frzs c ob xs q)
  tbls := fun c ps q => by
    obtain ⟨m1, e1⟩ := a.tbls c ps q
    obtain ⟨m2, e2⟩ := b.tbls c _ e1
    exact ⟨m1 ++ m2, by rw [e2, Array.append_assoc]⟩
theorem Un.kept (k : ∀ b u, h.get? b = some u → h'.get? b = some u) : Un fs ex H H h h' :=
  ⟨fun b ob q _ _ _ => k b ob q, fun b ob q _ _ _ => ⟨ob.slots, k b ob q⟩, fun _ _ _ n _ => n, fun b ob q _ => ⟨ob, k b ob q⟩, fun _ _ q => q, fun _ _ _ q => q, fun _ ps q => ⟨#[], by rw [q]; simp⟩⟩
theorem Un.refl : Un fs ex H H h h := Un.kept fun _ _ q => q
theorem Un.laid (k : ∀ b u, h.get? b = some u → h'.get? b = some u) (hp : h.objs.size ≤ a) (hn : H a = none) : Un fs ex H (upd H a o) h h' where
  keep := fun b u q _ _ _ => k b u q
  slot := fun b u q _ _ _ => ⟨u.slots, k b u q⟩
  free := fun b u q n _ => by rw [upd_ne (Nat.ne_of_lt (Nat.lt_of_lt_of_le (Heap.lt_size q) hp))]; exact n
  there := fun b u q _ => ⟨u, k b u q⟩
  tups := fun b xs q => by rw [upd_ne (ne_of_none q hn)]; exact q
  frzs := fun b u xs q => by rw [upd_ne (ne_of_none q hn)]; exact q
  tbls := fun b ps q => ⟨#[], by rw [upd_ne (ne_of_none q hn), q]; simp⟩
theorem Un.write (mu : Mut (H x)) (he : e = x ∨ H e = some (.own x)) (k : ∀ b u, b ≠ e → h.get? b = some u → h'.get? b = some u) (heo : ∃ u, h'.get? e = some u) : Un fs ex H (upd H x o) h h' := by
  have hx : ∀ b, H b = none → b ≠ x := fun b n z => by subst z; rw [n] at mu; exact mu
  have hb : ∀ b, H b = none → b ≠ e := fun b n z => by
    subst z
    rcases he with r | r
    · exact hx b n r
    · rw [n] at r; cases r
  have hm : ∀ b u, H b = some u → ¬ Mut (some u) → b ≠ x := fun b u q nm z => by subst z; rw [q] at mu; exact nm mu
  refine ⟨fun b u q n _ _ => k b u (hb b n) q, fun b u q n _ _ => ⟨u.slots, k b u (hb b n) q⟩, fun b u q n _ => by rw [upd_ne (hx b n)]; exact n, fun b u q _ => ?_,
    fun b xs q => by rw [upd_ne (hm b _ q fun z => z)]; exact q, fun b u xs q => by rw [upd_ne (hm b _ q fun z => z)]; exact q, fun b ps q => ⟨#[], by rw [upd_ne (hm b _ q fun z => z), q]; simp⟩⟩
  by_cases hbe : b = e
  · subst hbe; exact heo
  · exact ⟨u, k b u hbe q⟩
theorem Un.mono (u : Un fs ex H H1 h h1) (hs : ∀ b ∈ fs, b ∈ fs') (hx : ∀ b ∈ ex, b ∈ ex') : Un fs' ex' H H1 h h1 :=
  ⟨fun b ob q n hb he => u.keep b ob q n (fun z => hb (hs b z)) fun z => he (hx b z), fun _ _ q n _ he => u.any q n fun z => he (hx _ z), fun b ob q n he => u.free b ob q n fun z => he (hx b z), fun b ob q he => u.there b ob q fun z => he (hx b z), u.tups, u.frzs, u.tbls⟩
end
def trk (h : Heap) (H : Hp) : List Addr := (List.range h.objs.size).filter fun a => (H a).isSome
def hidT (h : Heap) (H : Hp) : Heap := PySem.W.hideAll h (trk h H)
theorem hidT_size (h : Heap) (H : Hp) : (hidT h H).objs.size = h.objs.size := PySem.W.hideAll_size _ _
theorem hidT_get {h : Heap} {H : Hp} {b : Addr} {o : Obj} (e : h.get? b = some o) (n : H b = none) : (hidT h H).get? b = some o :=
  PySem.W.hideAll_get _ e fun hm => by
    have q : (H b).isSome = true := (List.mem_filter.mp hm).2
    rw [n] at q; simp at q
theorem of_hidT {h : Heap} {H : Hp} {b : Addr} {o : Obj} (e : (hidT h H).get? b = some o) : h.get? b = some o ∧ H b = none := by
  have e' : h.get? b = some o := PySem.W.of_hideAll (trk h H) e
  refine ⟨e', ?_⟩
  cases q : H b with
  | none => rfl
  | some x =>
    have hm : b ∈ trk h H := List.mem_filter.mpr ⟨List.mem_range.mpr (Heap.lt_size e'), by simp [q]⟩
    have z : (hidT h H).get? b = none := PySem.W.hideAll_none (trk h H) hm
    rw [z] at e; cases e
def allNews (g h : Heap) (L : Addr) : List (Addr × Obj) := (List.range h.objs.size).filterMap fun a => if a = L ∨ (g.get? a).isSome = true then none else (h.get? a).map fun o => (a, o)
def rest (g h : Heap) (L d : Addr) : List (Addr × Obj) := (allNews g h L).filter fun p => decide (p.1 ≠ d)
end L2
namespace L2
open PySem PySem.Spec PyProof.Rows
structure Mod (K : PySem.W.Frag) (mg : Str → Option Value) (base : Heap) : Prop where
  kin : K.In base
  glob : base.Ns mainGlobals mg
  blt : ∃ mb, base.Ns builtinsNs mb ∧ ∀ x : Str, x ≠ "__name__" → mb x = bootBuiltins x
  nolimit : base.NoLimit
structure Cx where
  prog : Program
  w : World
  K : PySem.W.Frag
  mg : Str → Option Value
  base : Heap
  A : Around
  N : List Str
  s₀ : Shared
  H₀ : Hp
  env : Env
  outer : List Env
  stack : List Env
  ex : List Addr
  fn : Str → Bool
  calm : Bool
  pn : List (Addr × Obj)
  xe : Value → Shared → Prop
def frs (l : List Env) : List Addr := l.filterMap (·.frame)
abbrev Cx.fs (X : Cx) : List Addr := frs X.outer
def Vis (sc : Scope) (x : Str) : Prop := sc.names.lookup x = some .local ∨ sc.names.lookup x = some .cell ∨ sc.names.lookup x = some .free
def Loc (sc : Scope) (x : Str) : Prop := sc.names.lookup x = some .local ∨ sc.names.lookup x = some .cell
def Look (env : Env) (h : Heap) (m : Str → Option Value) (x : Str) (u : Value) : Prop :=
  (env.kindOf x = some .local ∧ m x = some u) ∨ ((env.kindOf x = some .cell ∨ env.kindOf x = some .free) ∧ ∃ c, env.cells.lookup x = some c ∧ h.IsCell c (some u))
structure Cx.Ok (X : Cx) : Prop where
  mod : Mod X.K X.mg X.base
  kind : X.env.scope.kind = .function
  glob : X.env.globals = mainGlobals
  blt : X.env.builtins = builtinsNs
  above : X.s₀.heap.objs.size ≤ X.env.locals
  inj : ∀ x y c, X.env.cells.lookup x = some c → X.env.cells.lookup y = some c → x = y
  has : ∀ x, (X.env.kindOf x = some .cell ∨ X.env.kindOf x = some .free) → ∃ c, X.env.cells.lookup x = some c
  cab : ∀ x c, X.fn x = true → X.env.cells.lookup x = some c → X.s₀.heap.objs.size ≤ c
  hd : X.calm = true → X.A.handled = none
  frames : X.A.frames = some X.stack
  stk : X.stack = X.outer ∨ (X.stack = X.env :: X.outer ∧ X.env.frame = some X.env.locals)
  exf : ∀ b ∈ X.ex, b ≠ X.env.locals ∧ ∀ x c, X.env.cells.lookup x = some c → c ≠ b
  bs : ∀ b o, X.base.get? b = some o → X.s₀.heap.get? b = some o ∧ X.H₀ b = none
  bsz : X.base.objs.size ≤ X.s₀.heap.objs.size
  noex : ∀ b o, X.base.get? b = some o → b ∉ X.ex
  exfs : ∀ b ∈ X.ex, b ∉ X.fs
  funs : X.s₀.heap.FunFrames X.base X.outer
  frf : ∀ b ∈ X.fs, X.H₀ b = none
structure Inv (X : Cx) (pins : List (Addr × Obj)) (σ : List (Option V)) (H : Hp) (s : Shared) : Prop where
  ok : X.Ok
  os : s.os = X.s₀.os
  bare : AllBare s.gens
  base : Un X.fs X.ex X.H₀ H X.s₀.heap s.heap
  loc : ∃ m, s.heap.Ns X.env.locals m ∧ ∀ (i : Nat) (x : Str) (v : V), X.N[i]? = some x → σ[i]? = some (some v) → Vis X.env.scope x → ∃ u, RelV v u ∧ Look X.env s.heap m x u
  cell : ∀ x c, X.env.cells.lookup x = some c → ∃ v, s.heap.IsCell c v
  free : H X.env.locals = none
  freeC : ∀ x c, X.env.cells.lookup x = some c → H c = none
  pin : ∀ p ∈ X.pn ++ pins, s.heap.get? p.1 = some p.2 ∧ H p.1 = none ∧ p.1 ≠ X.env.locals ∧ p.1 ∉ X.fs ∧ ∀ v, p.2.data ≠ .cell v
  hok : HOk X.prog X.w H s.heap
  len : σ.length = X.N.length
section
variable {X : Cx} {pins : List (Addr × Obj)} {σ : List (Option V)} {H H' : Hp} {s : Shared} {h' : Heap}
theorem Cx.Ok.nofr (ok : X.Ok) {b : Addr} {o : Obj} (e : X.base.get? b = some o) : b ∉ X.fs := fun hb => by
  have := (ok.funs.mem hb).1
  rw [e] at this; cases this
theorem Inv.bs (I : Inv X pins σ H s) : ∀ b o, X.base.get? b = some o → s.heap.get? b = some o ∧ H b = none := fun b o e =>
  ⟨I.base.keep b o (I.ok.bs b o e).1 (I.ok.bs b o e).2 (I.ok.nofr e) (I.ok.noex b o e), I.base.free b o (I.ok.bs b o e).1 (I.ok.bs b o e).2 (I.ok.noex b o e)⟩
theorem Inv.bk (I : Inv X pins σ H s) : ∀ b o, X.base.get? b = some o → s.heap.get? b = some o := fun b o e => (I.bs b o e).1
theorem Inv.mod (I : Inv X pins σ H s) : Mod X.K X.mg X.base := I.ok.mod
theorem Inv.kIn (I : Inv X pins σ H s) : X.K.In s.heap := I.ok.mod.kin.keeps I.bk
theorem Inv.nolimit (I : Inv X pins σ H s) : s.heap.NoLimit := I.ok.mod.nolimit.keeps I.bk
theorem Inv.fr (I : Inv X pins σ H s) : ∃ m, Fr X.base X.env.locals s.heap m :=
  let ⟨m, hn, _⟩ := I.loc
  ⟨m, hn, I.bk, Nat.le_trans I.ok.bsz I.ok.above⟩
theorem Inv.lt (I : Inv X pins σ H s) : X.env.locals < s.heap.objs.size := let ⟨_, hn, _⟩ := I.loc; hn.lt
theorem Inv.sz (I : Inv X pins σ H s) : X.s₀.heap.objs.size ≤ s.heap.objs.size := Nat.le_trans I.ok.above (Nat.le_of_lt I.lt)
theorem Inv.nofs (I : Inv X pins σ H s) {a : Addr} (h : s.heap.objs.size ≤ a) : a ∉ X.fs := fun hb => by
  obtain ⟨_, o, ho, _⟩ := I.ok.funs.mem hb
  exact absurd (Nat.lt_of_lt_of_le (Heap.lt_size ho) (Nat.le_trans I.sz h)) (Nat.lt_irrefl _)
theorem Inv.cne (I : Inv X pins σ H s) : ∀ x c, X.env.cells.lookup x = some c → c ≠ X.env.locals := fun x c e z => by
  obtain ⟨v, o, ho, hd⟩ := I.cell x c e
  obtain ⟨m, ⟨o', es, ep, ho', hd', _⟩, _⟩ := I.loc
  rw [z, ho'] at ho; cases ho; rw [hd'] at hd; cases hd
theorem Inv.funs (I : Inv X pins σ H s) : s.heap.FunFrames X.base X.outer := by
  have all : ∀ (l : List Env), (∀ b ∈ frs l, b ∈ X.fs) → X.s₀.heap.FunFrames X.base l → s.heap.FunFrames X.base l := by
    intro l
    induction l with
    | nil => intro _ _; trivial
    | cons env r ih =>
      intro hs hl
      obtain ⟨hk, ⟨L, o, hf, hn, ho, hd⟩, hr⟩ := hl
      have hL : L ∈ X.fs := hs L (by unfold frs; rw [List.filterMap_cons, hf]; exact List.mem_cons_self)
      obtain ⟨sl, e⟩ := I.base.slot L o ho (I.ok.frf L hL) hL fun z => I.ok.exfs L z hL
      exact ⟨hk, ⟨L, _, hf, hn, e, hd⟩, ih (fun b hb => hs b (by unfold frs; rw [List.filterMap_cons, hf]; exact List.mem_cons_of_mem _ hb)) hr⟩
  exact all X.outer (fun _ hb => hb) I.ok.funs
theorem Inv.stack (I : Inv X pins σ H s) : s.heap.FunFrames X.base X.stack := by
  rcases I.ok.stk with e | ⟨e, hf⟩
  · rw [e]; exact I.funs
  · rw [e]
    obtain ⟨m, hn, _⟩ := I.loc
    refine .cons (by rw [I.ok.kind]; decide) hf hn ?_ I.funs
    exact Heap.get?_none_of_le (Nat.le_trans I.ok.bsz I.ok.above)
theorem Inv.stkSub (I : Inv X pins σ H s) : ∀ b ∈ frs X.stack, b ∈ X.env.locals :: X.fs := fun b hb => by
  rcases I.ok.stk with e | ⟨e, hf⟩
  · rw [e] at hb; exact List.mem_cons_of_mem _ hb
  · rw [e] at hb
    unfold frs at hb
    rw [List.filterMap_cons, hf] at hb
    exact hb
theorem Inv.stkFree (I : Inv X pins σ H s) : ∀ b ∈ frs X.stack, H b = none := fun b hb => by
  rcases List.mem_cons.mp (I.stkSub b hb) with e | hb
  · rw [e]; exact I.free
  · obtain ⟨_, o, ho, _⟩ := I.ok.funs.mem hb
    exact I.base.free b o ho (I.ok.frf b hb) fun z => I.ok.exfs b z hb
theorem Inv.step {g' : Array GenState} {t' : Nat} {d' : Drawn} {ch : List Addr} (I : Inv X pins σ H s)
    (hch : ∀ b ∈ ch, (b ∈ X.ex ∨ X.s₀.heap.objs.size ≤ b) ∧ b ≠ X.env.locals ∧ (∀ x c, X.env.cells.lookup x = some c → c ≠ b) ∧ ∀ p ∈ X.pn ++ pins, p.1 ≠ b)
    (keep : ∀ b o, b ≠ X.env.locals → b ∉ X.fs → b ∉ ch → s.heap.get? b = some o → H b = none → h'.get? b = some o)
    (slot : ∀ b o, b ≠ X.env.locals → b ∈ X.fs → b ∉ ch → s.heap.get? b = some o → H b = none → ∃ sl, h'.get? b = some { o with slots := sl }) (free : ∀ b o, b ∉ ch → s.heap.get? b = some o → H b = none → H' b = none)
    (there : ∀ b o, b ∉ ch → s.heap.get? b = some o → ∃ o', h'.get? b = some o')
    (tups : ∀ b xs, H b = some (.tup xs) → H' b = some (.tup xs)) (frzs : ∀ b o u, H b = some (.frz o u) → H' b = some (.frz o u)) (tbls : ∀ b ps, H b = some (.tbl ps) → ∃ more, H' b = some (.tbl (ps ++ more)))
    (ns : ∀ m, s.heap.Ns X.env.locals m → h'.Ns X.env.locals m) (hok : HOk X.prog X.w H' h') (hg : AllBare g') :
    Inv X pins σ H' { s with heap := h', gens := g', drawn := d', toks := t' } := by
  have neL : ∀ b o, X.s₀.heap.get? b = some o → b ≠ X.env.locals := fun b o e => Nat.ne_of_lt (Nat.lt_of_lt_of_le (Heap.lt_size e) I.ok.above)
  have neC : ∀ b o, X.s₀.heap.get? b = some o → b ∉ X.ex → b ∉ ch := fun b o e hx hb => by
    rcases (hch b hb).1 with z | z
    · exact hx z
    · exact absurd (Nat.lt_of_lt_of_le (Heap.lt_size e) z) (Nat.lt_irrefl _)
  have cellK : ∀ x c, X.env.cells.lookup x = some c → ∀ v, s.heap.IsCell c v → h'.IsCell c v := fun x c e v ⟨o, ho, hd⟩ => by
    have nch : c ∉ ch := fun z => (hch c z).2.2.1 x c e rfl
    by_cases hc : c ∈ X.fs
    · obtain ⟨sl, q⟩ := slot c o (I.cne x c e) hc nch ho (I.freeC x c e)
      exact ⟨_, q, hd⟩
    · exact ⟨o, keep c o (I.cne x c e) hc nch ho (I.freeC x c e), hd⟩
  refine ⟨I.ok, I.os, hg, ⟨fun b o e n hb hx => ?_, fun b o e n hb hx => ?_, fun b o e n hx => ?_, fun b o e hx => ?_, fun b xs e => tups b xs (I.base.tups b xs e), fun b o xs e => frzs b o xs (I.base.frzs b o xs e), fun b ps e => ?_⟩, ?_, fun x c e => ?_, ?_, fun x c e => ?_, fun p hp => ?_, hok, I.len⟩
  · exact keep b o (neL b o e) hb (neC b o e hx) (I.base.keep b o e n hb hx) (I.base.free b o e n hx)
  · obtain ⟨sl, e1⟩ := I.base.slot b o e n hb hx
    obtain ⟨sl', e2⟩ := slot b _ (neL b o e) hb (neC b o e hx) e1 (I.base.free b o e n hx)
    exact ⟨sl', e2⟩
  · obtain ⟨o', e1⟩ := I.base.there b o e hx
    exact free b o' (neC b o e hx) e1 (I.base.free b o e n hx)
  · obtain ⟨o', e1⟩ := I.base.there b o e hx
    exact there b o' (neC b o e hx) e1
  · obtain ⟨m1, e1⟩ := I.base.tbls b ps e
    obtain ⟨m2, e2⟩ := tbls b _ e1
    exact ⟨m1 ++ m2, by rw [e2, Array.append_assoc]⟩
  · obtain ⟨m, hn, hl⟩ := I.loc
    refine ⟨m, ns m hn, fun i x v e1 e2 e3 => ?_⟩
    obtain ⟨u, r, l⟩ := hl i x v e1 e2 e3
    refine ⟨u, r, ?_⟩
    rcases l with l | ⟨k, c, e, z⟩
    · exact .inl l
    · exact .inr ⟨k, c, e, cellK x c e _ z⟩
  · obtain ⟨v, z⟩ := I.cell x c e
    exact ⟨v, cellK x c e v z⟩
  · obtain ⟨m, ⟨o, _, _, ho, _⟩, _⟩ := I.loc
    exact free _ o (fun z => (hch _ z).2.1 rfl) ho I.free
  · obtain ⟨v, o, ho, hd⟩ := I.cell x c e
    exact free c o (fun z => (hch c z).2.2.1 x c e rfl) ho (I.freeC x c e)
  · obtain ⟨e, n, ne, nf, d⟩ := I.pin p hp
    have nch : p.1 ∉ ch := fun z => (hch p.1 z).2.2.2 p hp rfl
    exact ⟨keep p.1 p.2 ne nf nch e n, free p.1 p.2 nch e n, ne, nf, d⟩
theorem Inv.un {t' : Nat} (I : Inv X pins σ H s) (u : Un X.fs [] H H' s.heap h') (hok : HOk X.prog X.w H' h') : Inv X pins σ H' { s with heap := h', toks := t' } := by
  obtain ⟨m, ⟨o, es, ep, ho, r⟩, _⟩ := id I.loc
  obtain ⟨sl, hL⟩ := u.any ho I.free (by simp)
  exact I.step (g' := s.gens) (d' := s.drawn) (ch := []) (fun _ z => nomatch z) (fun b o _ hb _ e n => u.keep b o e n hb (by simp)) (fun b o _ hb _ e n => u.slot b o e n hb (by simp)) (fun b o _ e n => u.free b o e n (by simp)) (fun b o _ e => u.there b o e (by simp)) u.tups u.frzs u.tbls (fun m' hm => by
    obtain ⟨o', es', ep', ho', r'⟩ := hm
    rw [ho] at ho'; cases ho'
    exact ⟨_, es', ep', hL, r'⟩) hok I.bare
theorem Inv.call {g' : Array GenState} {t' : Nat} {d' : Drawn} {ch : List Addr} (I : Inv X pins σ H s) (u : Un (frs X.stack) ch H H' s.heap h') (hok : HOk X.prog X.w H' h') (hg : AllBare g')
    (hch : ∀ b ∈ ch, (b ∈ X.ex ∨ X.s₀.heap.objs.size ≤ b) ∧ b ≠ X.env.locals ∧ (∀ x c, X.env.cells.lookup x = some c → c ≠ b) ∧ ∀ p ∈ X.pn ++ pins, p.1 ≠ b) :
    Inv X pins σ H' { s with heap := h', gens := g', drawn := d', toks := t' } := by
  obtain ⟨m, ⟨o, es, ep, ho, r⟩, _⟩ := id I.loc
  obtain ⟨sl, hL⟩ := u.any ho I.free fun z => (hch _ z).2.1 rfl
  exact I.step (ch := ch) hch (fun b o hL hb hc e n => u.keep b o e n (fun z => (List.mem_cons.mp (I.stkSub b z)).elim hL hb) hc) (fun b o _ _ hc e n => u.any e n hc) (fun b o hc e n => u.free b o e n hc) (fun b o hc e => u.there b o e hc) u.tups u.frzs u.tbls (fun m' hm => by
    obtain ⟨o', es', ep', ho', r'⟩ := hm
    rw [ho] at ho'; cases ho'
    exact ⟨_, es', ep', hL, r'⟩) hok hg
theorem Inv.turned {t' : Nat} {it : Addr} (I : Inv X pins σ H s) (k : ∀ b o, b ≠ it → s.heap.get? b = some o → h'.get? b = some o) (hn : H it = none) (hL : it ≠ X.env.locals)
    (h1 : it ∈ X.ex ∨ X.s₀.heap.objs.size ≤ it) (h2 : ∀ x c, X.env.cells.lookup x = some c → c ≠ it) (h3 : ∀ p ∈ X.pn ++ pins, p.1 ≠ it) : Inv X pins σ H { s with heap := h', toks := t' } := by
  have nit : ∀ b u, H b = some u → b ≠ it := fun b u e z => by rw [z, hn] at e; cases e
  refine I.step (g' := s.gens) (d' := s.drawn) (ch := [it]) (fun b hb => ?_) (fun b o _ _ hc e _ => k b o (fun z => hc (by simp [z])) e) (fun b o _ _ hc e _ => ⟨o.slots, k b o (fun z => hc (by simp [z])) e⟩) (fun _ _ _ _ n => n)
    (fun b o hc e => ⟨o, k b o (fun z => hc (by simp [z])) e⟩) (fun _ _ e => e) (fun _ _ _ e => e) (fun b ps e => ⟨#[], by rw [e]; simp⟩) (fun m hm => ?_) (fun b u e => ?_) I.bare
  · have e : b = it := by simpa using hb
    subst e
    exact ⟨h1, hL, h2, h3⟩
  · obtain ⟨o, es, ep, ho, r⟩ := hm
    exact ⟨o, es, ep, k _ o (Ne.symm hL) ho, r⟩
  · refine (I.hok b u e).stay (fun c v hc q => k c v ?_ q) (fun _ q => q) fun _ _ q => q
    rcases hc with z | z
    · rw [z]; exact nit b u e
    · exact nit c _ z
theorem Inv.tok (I : Inv X pins σ H s) (t : Nat) : Inv X pins σ H { s with toks := t } := I.un (h' := s.heap) (t' := t) Un.refl I.hok
theorem Inv.kept {t' : Nat} (I : Inv X pins σ H s) (k : ∀ b u, s.heap.get? b = some u → h'.get? b = some u) : Inv X pins σ H { s with heap := h', toks := t' } := I.un (Un.kept k) (I.hok.kept k)
theorem Inv.laid {a : Addr} {o : HO} {t' : Nat} (I : Inv X pins σ H s) (k : ∀ b u, s.heap.get? b = some u → h'.get? b = some u) (hp : s.heap.objs.size ≤ a) (new : ObjOk X.prog X.w (upd H a o) h' a o) :
    Inv X pins σ (upd H a o) { s with heap := h', toks := t' } := I.un (Un.laid k hp (I.hok.fresh hp)) (I.hok.laid k hp new)
theorem Inv.write {x e : Addr} {o : HO} {t' : Nat} (I : Inv X pins σ H s) (mu : Mut (H x)) (he : e = x ∨ H e = some (.own x)) (k : ∀ b u, b ≠ e → s.heap.get? b = some u → h'.get? b = some u) (heo : ∃ u, h'.get? e = some u)
    (new : ObjOk X.prog X.w (upd H x o) h' x o) : Inv X pins σ (upd H x o) { s with heap := h', toks := t' } := I.un (Un.write mu he k heo) (I.hok.write mu he k heo new)
theorem Inv.weak {σ' : List (Option V)} (I : Inv X pins σ H s) (hl : σ'.length = σ.length) (w : ∀ (i : Nat) v, σ'[i]? = some (some v) → σ[i]? = some (some v)) : Inv X pins σ' H s :=
  ⟨I.ok, I.os, I.bare, I.base, let ⟨m, hn, hl'⟩ := I.loc; ⟨m, hn, fun i x v e1 e2 e3 => hl' i x v e1 (w i v e2) e3⟩, I.cell, I.free, I.freeC, I.pin, I.hok, hl.trans I.len⟩
theorem Inv.pins_of {pins' : List (Addr × Obj)} (I : Inv X pins σ H s) (h : ∀ p ∈ pins', s.heap.get? p.1 = some p.2 ∧ H p.1 = none ∧ p.1 ≠ X.env.locals ∧ p.1 ∉ X.fs ∧ ∀ v, p.2.data ≠ .cell v) : Inv X pins' σ H s :=
  ⟨I.ok, I.os, I.bare, I.base, I.loc, I.cell, I.free, I.freeC, fun p hp => (List.mem_append.mp hp).elim (fun z => I.pin p (List.mem_append_left _ z)) (h p), I.hok, I.len⟩
theorem nodup_ix {N : List Str} (hN : N.Nodup) {i j : Nat} {x : Str} (a : N[i]? = some x) (b : N[j]? = some x) : i = j := by
  obtain ⟨h1, e1⟩ := List.getElem?_eq_some_iff.mp a
  obtain ⟨h2, e2⟩ := List.getElem?_eq_some_iff.mp b
  exact (List.getElem_inj hN).mp (e1.trans e2.symm)
theorem store_ok2 {M : Model} {A : Around} {E : Value → Shared → Prop} {i : Nat} {x : Str} {v : V} {u : Value} {Q : Unit → Shared → Prop} (I : Inv X pins σ H s) (hN : X.N.Nodup) (hi : X.N[i]? = some x) (hx : Loc X.env.scope x) (r : RelV v u)
    (h : ∀ s', Inv X pins (σ.set i (some v)) H s' → (∃ a, Heap.SameBut a s.heap s'.heap ∧ (a = X.env.locals ∨ X.env.cells.lookup x = some a)) → Q () s') (hf : X.fn x = true ∨ X.env.scope.names.lookup x = some .local := by first | exact .inl rfl | exact .inr rfl | assumption) : wpAny M A (storeName X.env x u) Q E s := by
  obtain ⟨m, hn, hl⟩ := id I.loc
  have hcls : (X.env.scope.kind == .class || (X.env.scope.kind == .module && X.env.locals != X.env.globals)) = false := by rw [I.ok.kind]; rfl
  have hiσ : i < σ.length := by rw [I.len]; exact (List.getElem?_eq_some_iff.mp hi).1
  have cne := I.cne
  have tracked : ∀ {a : Addr} {h' : Heap}, (∃ o, s.heap.get? a = some o ∧ H a = none) → Heap.SameBut a s.heap h' → HOk X.prog X.w H h' := fun {a h'} ha hs b ob e => by
    obtain ⟨_, _, hfree⟩ := ha
    refine (I.hok b ob e).stay (fun c w' hc q => (hs.2 c ?_).trans q) (fun _ q => q) fun _ _ q => q
    rintro rfl
    rcases hc with rfl | hc
    · rw [hfree] at e; cases e
    · rw [hfree] at hc; cases hc
  rcases hx with hk | hk
  · refine wpAny_storeName_local hk hn (fun h' hn' hs => ?_) hcls
    obtain ⟨oL, _, _, hoL, _⟩ := id hn
    refine h _ ⟨I.ok, I.os, I.bare, ⟨fun b o e n hb hx => ?_, fun b o e n hb hx => ?_, I.base.free, fun b o e hx => ?_, I.base.tups, I.base.frzs, I.base.tbls⟩, ⟨_, hn', fun j y v' e1 e2 e3 => ?_⟩, fun y c e => ?_, I.free, I.freeC, fun p hp => ?_, tracked ⟨oL, hoL, I.free⟩ hs, by simpa using I.len⟩ ⟨_, hs, .inl rfl⟩
    · exact (hs.2 b (Nat.ne_of_lt (Nat.lt_of_lt_of_le (Heap.lt_size e) I.ok.above))).trans (I.base.keep b o e n hb hx)
    · obtain ⟨sl, e1⟩ := I.base.slot b o e n hb hx
      exact ⟨sl, (hs.2 b (Nat.ne_of_lt (Nat.lt_of_lt_of_le (Heap.lt_size e) I.ok.above))).trans e1⟩
    · obtain ⟨o', e1⟩ := I.base.there b o e hx
      exact ⟨o', (hs.2 b (Nat.ne_of_lt (Nat.lt_of_lt_of_le (Heap.lt_size e) I.ok.above))).trans e1⟩
    · by_cases hj : j = i
      · subst hj
        rw [hi] at e1; cases e1
        rw [List.getElem?_set_self hiσ] at e2
        cases e2
        exact ⟨u, r, .inl ⟨hk, by simp⟩⟩
      · rw [List.getElem?_set_ne (Ne.symm hj)] at e2
        obtain ⟨u', r', q⟩ := hl j y v' e1 e2 e3
        refine ⟨u', r', ?_⟩
        rcases q with ⟨k, e⟩ | ⟨k, c, e, z⟩
        · refine .inl ⟨k, ?_⟩
          have : y ≠ x := fun e => hj (nodup_ix hN e1 (e ▸ hi))
          simp [this, e]
        · exact .inr ⟨k, c, e, z.sameBut hs (cne y c e)⟩
    · obtain ⟨w', z⟩ := I.cell y c e
      exact ⟨w', z.sameBut hs (cne y c e)⟩
    · obtain ⟨e, n, ne, nf, d⟩ := I.pin p hp
      exact ⟨(hs.2 p.1 ne).trans e, n, ne, nf, d⟩
  · have hfn : X.fn x = true := by
      rcases hf with z | z
      · exact z
      · rw [z] at hk; cases hk
    obtain ⟨c, hc⟩ := I.ok.has x (.inl hk)
    obtain ⟨w', z⟩ := I.cell x c hc
    refine wpAny_storeName_cell I.ok.kind hk hc z (fun h' hc' hs => ?_)
    obtain ⟨oc, hoc, hocd⟩ := id z
    refine h { s with heap := h' } ⟨I.ok, I.os, I.bare, ⟨fun b o e n hb hx => ?_, fun b o e n hb hx => ?_, I.base.free, fun b o e hx => ?_, I.base.tups, I.base.frzs, I.base.tbls⟩, ⟨m, hn.sameBut hs (Ne.symm (cne x c hc)), fun j y v' e1 e2 e3 => ?_⟩, fun y c' e => ?_, I.free, I.freeC, fun p hp => ?_, tracked ⟨oc, hoc, I.freeC x c hc⟩ hs, by simpa using I.len⟩ ⟨c, hs, .inr hc⟩
    · exact (hs.2 b (Nat.ne_of_lt (Nat.lt_of_lt_of_le (Heap.lt_size e) (I.ok.cab x c hfn hc)))).trans (I.base.keep b o e n hb hx)
    · obtain ⟨sl, e1⟩ := I.base.slot b o e n hb hx
      exact ⟨sl, (hs.2 b (Nat.ne_of_lt (Nat.lt_of_lt_of_le (Heap.lt_size e) (I.ok.cab x c hfn hc)))).trans e1⟩
    · obtain ⟨o', e1⟩ := I.base.there b o e hx
      exact ⟨o', (hs.2 b (Nat.ne_of_lt (Nat.lt_of_lt_of_le (Heap.lt_size e) (I.ok.cab x c hfn hc)))).trans e1⟩
    · by_cases hj : j = i
      · subst hj
        rw [hi] at e1; cases e1
        rw [List.getElem?_set_self hiσ] at e2
        cases e2
        exact ⟨u, r, .inr ⟨.inl hk, c, hc, hc'⟩⟩
      · rw [List.getElem?_set_ne (Ne.symm hj)] at e2
        obtain ⟨u', r', q⟩ := hl j y v' e1 e2 e3
        refine ⟨u', r', ?_⟩
        rcases q with q | ⟨k, c', e, z'⟩
        · exact .inl q
        · refine .inr ⟨k, c', e, z'.sameBut hs ?_⟩
          rintro rfl
          exact hj (nodup_ix hN e1 (I.ok.inj _ _ _ e hc ▸ hi))
    · by_cases hcc : c' = c
      · subst hcc; exact ⟨_, hc'⟩
      · obtain ⟨w2, z2⟩ := I.cell y c' e
        exact ⟨w2, z2.sameBut hs hcc⟩
    · obtain ⟨e, n, ne, nf, d⟩ := I.pin p hp
      refine ⟨(hs.2 p.1 ?_).trans e, n, ne, nf, d⟩
      intro q
      rw [q, hoc] at e
      have q' : oc = p.2 := Option.some.inj e
      exact d w' (by rw [← q']; exact hocd)
theorem store_ok {M : Model} {A : Around} {E : Value → Shared → Prop} {i : Nat} {x : Str} {v : V} {u : Value} {Q : Unit → Shared → Prop} (I : Inv X pins σ H s) (hN : X.N.Nodup) (hi : X.N[i]? = some x) (hx : Loc X.env.scope x) (r : RelV v u)
    (h : ∀ s', Inv X pins (σ.set i (some v)) H s' → Q () s') (hf : X.fn x = true ∨ X.env.scope.names.lookup x = some .local := by first | exact .inl rfl | exact .inr rfl | assumption) : wpAny M A (storeName X.env x u) Q E s :=
  store_ok2 I hN hi hx r (fun s' I' _ => h s' I') hf
theorem Inv.call' {s' : Shared} {ch : List Addr} (I : Inv X pins σ H s) (ho : s'.os = s.os) (u : Un (frs X.stack) ch H H' s.heap s'.heap) (hok : HOk X.prog X.w H' s'.heap) (hg : AllBare s'.gens)
    (hch : ∀ b ∈ ch, (b ∈ X.ex ∨ X.s₀.heap.objs.size ≤ b) ∧ b ≠ X.env.locals ∧ (∀ x c, X.env.cells.lookup x = some c → c ≠ b) ∧ ∀ p ∈ X.pn ++ pins, p.1 ≠ b) : Inv X pins σ H' s' := by
  obtain ⟨h', g', d', t', o'⟩ := s'
  have e : o' = s.os := ho
  subst e
  exact I.call (g' := g') (t' := t') (d' := d') u hok hg hch
end
abbrev XK := Value → Option Addr → Hp → Prop
abbrev St := List (Option V)
abbrev VK := V → Hp → Prop
abbrev TE := St → Hp → VK → Prop
abbrev TT := St → Hp → (Bool → Hp → Prop) → Prop
abbrev TA := St → Hp → (List V → Hp → Prop) → Prop
structure Ends where
  nx : St → Hp → Prop
  rt : VK
  bk : St → Hp → Prop := fun _ _ => False
  ct : St → Hp → Prop := fun _ _ => False
abbrev TS := Ends → St → Hp → Prop
def EP (X : Cx) (pins : List (Addr × Obj)) (σ : St) (Q : VK) (u : Value) (s' : Shared) : Prop := ∃ v H', Inv X pins σ H' s' ∧ RelV v u ∧ Q v H'
def TP (X : Cx) (pins : List (Addr × Obj)) (σ : St) (Q : Bool → Hp → Prop) (b : Bool) (s' : Shared) : Prop := ∃ H', Inv X pins σ H' s' ∧ Q b H'
def AP (X : Cx) (pins : List (Addr × Obj)) (σ : St) (Q : List V → Hp → Prop) (us : List Value) (s' : Shared) : Prop := ∃ vs H', Inv X pins σ H' s' ∧ Vals vs us ∧ Q vs H'
def SP (X : Cx) (pins : List (Addr × Obj)) (D : Ends) (f : Flow) (s' : Shared) : Prop :=
  match f with
  | .next => ∃ σ' H', Inv X pins σ' H' s' ∧ D.nx σ' H'
  | .brk => ∃ σ' H', Inv X pins σ' H' s' ∧ D.bk σ' H'
  | .cont => ∃ σ' H', Inv X pins σ' H' s' ∧ D.ct σ' H'
  | .ret u => ∃ v σ' H', Inv X pins σ' H' s' ∧ RelV v u ∧ D.rt v H'
def PE (X : Cx) (e : Expr) (t : TE) : Prop :=
  ∀ (pins : List (Addr × Obj)) (s : Shared) (σ : St) (H : Hp) (Q : VK), Inv X pins σ H s → t σ H Q → wpAny (model X.prog X.w) X.A (eval e X.env) (EP X pins σ Q) X.xe s
def PT (X : Cx) (e : Expr) (t : TT) : Prop :=
  ∀ (pins : List (Addr × Obj)) (s : Shared) (σ : St) (H : Hp) (Q : Bool → Hp → Prop), Inv X pins σ H s → t σ H Q → wpAny (model X.prog X.w) X.A (isTrue e X.env (eval e X.env)) (TP X pins σ Q) X.xe s
def PW (X : Cx) (e : Expr) (t : TT) : Prop :=
  ∀ (whole : Sem Value) (pins : List (Addr × Obj)) (s : Shared) (σ : St) (H : Hp) (Q : Bool → Hp → Prop), Inv X pins σ H s → t σ H Q → wpAny (model X.prog X.w) X.A (isTrue e X.env whole) (TP X pins σ Q) X.xe s
theorem PW.pt {X : Cx} {e : Expr} {t : TT} (h : PW X e t) : PT X e t := h _
def PA (X : Cx) (es : List Expr) (t : TA) : Prop :=
  ∀ (pos : Pos) (pins : List (Addr × Obj)) (s : Shared) (σ : St) (H : Hp) (Q : List V → Hp → Prop), Inv X pins σ H s → t σ H Q → wpAny (model X.prog X.w) X.A (spliced (backTo pos (starEach es X.env))) (AP X pins σ Q) X.xe s
def PS (X : Cx) (st : Stmt) (t : TS) : Prop :=
  ∀ (pins : List (Addr × Obj)) (s : Shared) (σ : St) (H : Hp) (D : Ends), Inv X pins σ H s → t D σ H → wpAny (model X.prog X.w) X.A (exec st X.env) (SP X pins D) X.xe s
def PSs (X : Cx) (st : List Stmt) (t : TS) : Prop :=
  ∀ (pins : List (Addr × Obj)) (s : Shared) (σ : St) (H : Hp) (D : Ends), Inv X pins σ H s → t D σ H → wpAny (model X.prog X.w) X.A (execs st X.env) (SP X pins D) X.xe s
theorem thn {α : Type} {t : Sem α} {Q Q' : α → Shared → Prop} {M : Model} {A : Around} {E : Value → Shared → Prop} {s : Shared} (h : wpAny M A t Q E s) (hQ : ∀ a s, Q a s → Q' a s) : wpAny M A t Q' E s := wpAny_mono h hQ fun _ _ x => x
end L2
namespace L2
open PySem PySem.Spec PyProof.Rows
section
variable {X : Cx}
theorem bin {a b : Expr} {ta tb : TE} (ha : PE X a ta) (hb : PE X b tb) {pins : List (Addr × Obj)} {s : Shared} {σ : St} {H : Hp} {R : V → V → Hp → Prop} (I : Inv X pins σ H s) (h : ta σ H fun x H1 => tb σ H1 fun y H2 => R x y H2)
    {α : Type} {Q : α → Shared → Prop} {f : Value → Value → Sem α}
    (hf : ∀ v u s2 x y H2, Inv X pins σ H2 s2 → RelV x v → RelV y u → R x y H2 → wpAny (model X.prog X.w) X.A (f v u) Q X.xe s2) :
    wpAny (model X.prog X.w) X.A (eval a X.env) (fun v s₁ => wpAny (model X.prog X.w) X.A (eval b X.env) (fun u s₂ => wpAny (model X.prog X.w) X.A (f v u) Q X.xe s₂) X.xe s₁) X.xe s := by
  refine thn (ha pins s σ H _ I h) fun v s1 ⟨x, H1, I1, r1, q1⟩ => ?_
  refine thn (hb pins s1 σ H1 _ I1 q1) fun u s2 ⟨y, H2, I2, r2, q2⟩ => ?_
  exact hf v u s2 x y H2 I2 r1 r2 q2
def tVar (i : Nat) : TE := fun σ H Q => ∃ v, σ[i]? = some (some v) ∧ Q v H
def tC (v : V) : TE := fun _ H Q => Q v H
theorem pe_var {i : Nat} {x : Str} {pos : Pos} (hN : X.N[i]? = some x) (hv : Vis X.env.scope x) (hd : (x == ("__debug__" : Str)) = false := by decide) (hcd : (x == ("__classdict__" : Str)) = false := by decide) : PE X (.Name x pos) (tVar i) := by
  intro pins s σ H Q I h
  obtain ⟨v, e, h⟩ := h
  obtain ⟨m, hn, hl⟩ := I.loc
  obtain ⟨u, r, l⟩ := hl i x v hN e hv
  have fin : EP X pins σ Q u s := ⟨v, H, I, r, h⟩
  rcases l with ⟨hk, hm⟩ | ⟨hk, c, hc, hcell⟩
  · exact wpAny_Name (wpAny_loadName_local I.ok.kind hk hn hm fin) hd
  · rcases hk with hk | hk
    · exact wpAny_Name (wpAny_loadName_cell I.ok.kind hk hc hcell fin) hd
    · exact wpAny_Name (wpAny_loadName_free I.ok.kind hk hc hcell fin hcd) hd
theorem pe_int {i j pos} : PE X (.Constant (.int i) j pos) (tC (.int i)) := fun _ _ _ H _ I h => wpAny_Constant_int ⟨.int i, H, I.tok _, ⟨_, rfl⟩, h⟩
theorem pe_bl {b j pos} : PE X (.Constant (.bool b) j pos) (tC (.bl b)) := fun _ _ _ H _ I h => Constant_bool ⟨.bl b, H, I, rfl, h⟩
theorem pe_non {j pos} : PE X (.Constant .none j pos) (tC .non) := fun _ _ _ H _ I h => Constant_none ⟨.non, H, I, rfl, h⟩
theorem pe_str {x j pos} : PE X (.Constant (.str x) j pos) (tC (.str x)) := fun _ _ _ H _ I h => Calls.Constant_str ⟨.str x, H, I.tok _, ⟨_, rfl⟩, h⟩
def Gl (X : Cx) (x : Str) : Prop := X.env.kindOf x = some .globalImplicit
theorem ld_glob {E : Value → Shared → Prop} {pins : List (Addr × Obj)} {s : Shared} {σ : St} {H : Hp} {x : Str} {u : Value} {pos : Pos} {Q : Value → Shared → Prop} (I : Inv X pins σ H s) (hg : Gl X x) (hm : X.mg x = some u) (h : Q u s)
    (hd : (x == ("__debug__" : Str)) = false := by decide) : wpAny (model X.prog X.w) X.A (eval (.Name x pos) X.env) Q E s :=
  Calls.Name_function_global I.ok.kind hg (Calls.loadGlobal_global (by rw [I.ok.glob]; exact I.mod.glob.keeps I.bk) hm h) hd
theorem ld_blt {E : Value → Shared → Prop} {pins : List (Addr × Obj)} {s : Shared} {σ : St} {H : Hp} {x : Str} {u : Value} {pos : Pos} {Q : Value → Shared → Prop} (I : Inv X pins σ H s) (hg : Gl X x) (hm : X.mg x = none) (hv : bootBuiltins x = some u) (h : Q u s)
    (hn : x ≠ "__name__" := by decide) (hd : (x == ("__debug__" : Str)) = false := by decide) : wpAny (model X.prog X.w) X.A (eval (.Name x pos) X.env) Q E s := by
  obtain ⟨mb, h1, h2⟩ := I.mod.blt
  exact Calls.Name_function_global I.ok.kind hg (Calls.loadGlobal_builtin (by rw [I.ok.glob]; exact I.mod.glob.keeps I.bk) hm (by rw [I.ok.blt]; exact h1.keeps I.bk) ((h2 x hn).trans hv) h) hd
theorem pe_glob {x : Str} {v : V} {u : Value} {pos : Pos} (hg : Gl X x) (hm : X.mg x = some u) (r : RelV v u) (hd : (x == ("__debug__" : Str)) = false := by decide) : PE X (.Name x pos) (tC v) :=
  fun _ _ _ H _ I h => ld_glob I hg hm ⟨v, H, I, r, h⟩ hd
theorem pe_bltn {x : Str} {v : V} {u : Value} {pos : Pos} (hg : Gl X x) (hm : X.mg x = none) (hv : bootBuiltins x = some u) (r : RelV v u) (hn : x ≠ "__name__" := by decide) (hd : (x == ("__debug__" : Str)) = false := by decide) : PE X (.Name x pos) (tC v) :=
  fun _ _ _ H _ I h => ld_blt I hg hm hv ⟨v, H, I, r, h⟩ hn hd
variable {a b : Expr} {ta tb : TE} {pos : Pos}
def PC (X : Cx) (op : CmpOp) (a b : Expr) (t : TE) : Prop :=
  ∀ (pins : List (Addr × Obj)) (s : Shared) (σ : St) (H : Hp) (Q : VK), Inv X pins σ H s → t σ H Q →
    wpAny (model X.prog X.w) X.A (eval a X.env) (fun v s₁ => wpAny (model X.prog X.w) X.A (eval b X.env) (fun u s₂ => wpAny (model X.prog X.w) X.A (compareOp op v u) (EP X pins σ Q) X.xe s₂) X.xe s₁) X.xe s
theorem nobehind (b : Expr) {op : CmpOp} (h : op ≠ .In) (h2 : op ≠ .NotIn) : behindInMarks op b = false := by
  have e1 : (op == CmpOp.In) = false := by cases op <;> first | rfl | exact absurd rfl h
  have e2 : (op == CmpOp.NotIn) = false := by cases op <;> first | rfl | exact absurd rfl h2
  cases b <;> simp [behindInMarks, e1, e2]
def tB (t : TE) : TT := fun σ H Q => t σ H fun x H1 => ∃ c, x = .bl c ∧ Q c H1
theorem pt_cmp {op : CmpOp} {t : TE} (h : PC X op a b t) (h1 : behindInMarks op b = false := by first | exact nobehind _ (by decide) (by decide) | rfl) : PT X (.Compare a [op] [b] pos) (tB t) := by
  intro pins s σ H Q I hw
  refine wpAny_isTrue_Compare1 (thn (h pins s σ H _ I hw) fun v s1 h1 => thn h1 fun u s2 h2 => thn h2 fun c s3 ⟨x, H1, I1, r1, q1⟩ => ?_) h1
  obtain ⟨d, rfl, q⟩ := q1
  cases r1
  exact wpAny_truthy_bool ⟨H1, I1, q⟩
theorem pt_val {e : Expr} {t : TE} (h : PE X e t) (he : ∀ whole, isTrue e X.env whole = (do let v ← whole; standAt e.pos; holding [v] (truthy v)) := by intro _; rfl) : PT X e (tB t) := by
  intro pins s σ H Q I hw
  refine isTrue_plain (thn (h pins s σ H _ I hw) fun v s1 ⟨x, H1, I1, r1, q1⟩ => ?_) (he _)
  obtain ⟨d, rfl, q⟩ := q1
  cases r1
  exact wpAny_truthy_bool ⟨H1, I1, q⟩
variable {tA tB' : TT} {rest : List Expr}
def tOr (t u : TT) : TT := fun σ H Q => t σ H fun c H1 => if c = true then Q true H1 else u σ H1 Q
def tNot (t : TT) : TT := fun σ H Q => t σ H fun c H1 => Q (!c) H1
theorem pw_or1 (ha : PT X a tA) : PW X (.BoolOp .Or [a] pos) tA := by
  intro wh pins s σ H Q I h
  refine isTrue_or (thn (ha pins s σ H Q I h) fun c s1 e => ?_)
  cases c with
  | false => exact isTrue_or_nil e
  | true => exact e
theorem pw_or (ha : PT X a tA) (hb : PW X (.BoolOp .Or (b :: rest) pos) tB') : PW X (.BoolOp .Or (a :: b :: rest) pos) (tOr tA tB') := by
  intro wh pins s σ H Q I h
  refine isTrue_or (thn (ha pins s σ H _ I h) fun c s1 ⟨H1, I1, q1⟩ => ?_)
  cases c with
  | true => exact ⟨H1, I1, q1⟩
  | false => exact hb wh pins s1 σ H1 Q I1 q1
theorem pt_not (ha : PT X a tA) : PT X (.UnaryOp .Not a pos) (tNot tA) := by
  intro pins s σ H Q I h
  exact isTrue_not (ha pins s σ H (fun c H1 => Q (!c) H1) I h)
def tAndV (ta tb : TE) : TE := fun σ H Q => ta σ H fun x H1 => ∃ c, x = .bl c ∧ if c = true then tb σ H1 Q else Q (.bl false) H1
def tNotV (ta : TE) : TE := fun σ H Q => ta σ H fun x H1 => ∃ c, x = .bl c ∧ Q (.bl (!c)) H1
theorem pe_one {op} {t : TE} (h : PE X a t) : PE X (.BoolOp op [a] pos) t := fun pins s σ H Q I hw => BoolOp_one (h pins s σ H Q I hw)
theorem pe_and (ha : PE X a ta) (hb : PE X (.BoolOp .And (b :: rest) pos) tb) : PE X (.BoolOp .And (a :: b :: rest) pos) (tAndV ta tb) := by
  intro pins s σ H Q I h
  refine BoolOp_and (thn (ha pins s σ H _ I h) fun v s1 ⟨x, H1, I1, r1, q1⟩ => ?_)
  obtain ⟨c, rfl, q1⟩ := q1
  cases r1
  refine wpAny_truthy_bool ?_
  cases c with
  | true => exact hb pins s1 σ H1 Q I1 q1
  | false => exact ⟨.bl false, H1, I1, rfl, q1⟩
theorem pe_not (ha : PE X a ta) : PE X (.UnaryOp .Not a pos) (tNotV ta) := by
  intro pins s σ H Q I h
  refine UnaryOp_ (thn (ha pins s σ H _ I h) fun v s1 ⟨x, H1, I1, r1, q1⟩ => ?_)
  obtain ⟨c, rfl, q1⟩ := q1
  cases r1
  exact not_of (wpAny_truthy_bool ⟨.bl (!c), H1, I1, rfl, q1⟩)
end
end L2
namespace L2
open PySem PySem.Spec PyProof.Rows
def SqL (K : PySem.W.Frag) (H : Hp) (a : Addr) (xs : List V) : Prop :=
  Rd H a (.lst xs) ∨
    ∃ (o : Obj) (its : Array Value) (n : Nat), K.lookup a = some o ∧ o.cls = .type "list" ∧ o.dict = none ∧ o.data = .seq its n ∧ its.size ≤ sizeLine ∧ Vals xs its.toList
def SqT (K : PySem.W.Frag) (H : Hp) (a : Addr) (xs : List V) : Prop :=
  Rd H a (.tup xs) ∨
    ∃ (o : Obj) (its : Array Value) (n : Nat), K.lookup a = some o ∧ o.cls = .type "tuple" ∧ o.data = .seq its n ∧ its.size ≤ sizeLine ∧ Vals xs its.toList
def absV : Value → Option V
  | .none => some .non
  | .bool b => some (.bl b)
  | .int i _ => some (.int i)
  | .str x _ => some (.str x)
  | .bytes b _ => some (.byt b)
  | .float b _ => some (.flt b)
  | .ref a => some (.ref a)
  | .type n => some (.ty n)
  | _ => none
theorem RelV.abs {x : V} {u : Value} (r : RelV x u) : absV u = some x := by
  cases x with
  | non => cases r; rfl
  | bl _ => cases r; rfl
  | int _ => obtain ⟨t, rfl⟩ := r; rfl
  | str _ => obtain ⟨t, rfl⟩ := r; rfl
  | byt _ => obtain ⟨t, rfl⟩ := r; rfl
  | flt _ => obtain ⟨t, rfl⟩ := r; rfl
  | ref _ => cases r; rfl
  | ty _ => cases r; rfl
theorem RelV.inj {x y : V} {u : Value} (r : RelV x u) (q : RelV y u) : x = y := Option.some.inj (r.abs.symm.trans q.abs)
theorem Vals.inj : ∀ {xs ys : List V} {us : List Value}, Vals xs us → Vals ys us → xs = ys
  | _, _, _, .nil, .nil => rfl
  | _, _, _, .cons r t, .cons r' t' => by rw [r.inj r', Vals.inj t t']
section
variable {X : Cx} {pins : List (Addr × Obj)} {σ : St} {H : Hp} {s : Shared} {a : Addr} {xs ys : List V}
theorem SqL.of {K : PySem.W.Frag} (h : H a = some (.lst xs)) : SqL K H a xs := .inl (.inl h)
theorem SqT.of {K : PySem.W.Frag} (h : H a = some (.tup xs)) : SqT K H a xs := .inl (.inl h)
theorem Inv.list (I : Inv X pins σ H s) (h : SqL X.K H a xs) : ∃ its : List Value, Vals xs its ∧ PlainL s.heap a its.toArray ∧ xs.length ≤ sizeLine := by
  rcases h with h | ⟨o, its, n, hk, hc, hd, hs, hz, r⟩
  · obtain ⟨z, its, n, r, e⟩ := h.ok I.hok
    exact ⟨its, r, ⟨_, n, e, rfl, rfl, rfl⟩, z⟩
  · refine ⟨its.toList, r, ⟨o, n, I.kIn a o hk, hc, hd, by simpa using hs⟩, ?_⟩
    have e := r.length
    simp only [Array.length_toList] at e
    omega
theorem Inv.tuple (I : Inv X pins σ H s) (h : SqT X.K H a xs) : ∃ its : List Value, Vals xs its ∧ IsTup s.heap a its.toArray ∧ xs.length ≤ sizeLine := by
  rcases h with h | ⟨o, its, n, hk, hc, hs, hz, r⟩
  · obtain ⟨z, its, r, p⟩ := h.ok I.hok
    exact ⟨its, r, p, z⟩
  · refine ⟨its.toList, r, ⟨o, I.kIn a o hk, hc, n, by simpa using hs⟩, ?_⟩
    have e := r.length
    simp only [Array.length_toList] at e
    omega
theorem Inv.list_inj (I : Inv X pins σ H s) (h : SqL X.K H a xs) (h' : SqL X.K H a ys) : xs = ys := by
  obtain ⟨its, r, ⟨o, n, e, _, _, d⟩, _⟩ := I.list h
  obtain ⟨its', r', ⟨o', n', e', _, _, d'⟩, _⟩ := I.list h'
  rw [e] at e'; cases e'
  rw [d] at d'
  injection d' with d1 _
  have : its = its' := by simpa using congrArg Array.toList d1
  subst this
  exact r.inj r'
theorem Inv.tuple_inj (I : Inv X pins σ H s) (h : SqT X.K H a xs) (h' : SqT X.K H a ys) : xs = ys := by
  obtain ⟨its, r, ⟨o, e, _, n, d⟩, _⟩ := I.tuple h
  obtain ⟨its', r', ⟨o', e', _, n', d'⟩, _⟩ := I.tuple h'
  rw [e] at e'; cases e'
  rw [d] at d'
  injection d' with d1 _
  have : its = its' := by simpa using congrArg Array.toList d1
  subst this
  exact r.inj r'
end
abbrev Cx.wish (X : Cx) (E : Value → Shared → Prop) : Cx := { X with xe := E }
abbrev Cx.nox (X : Cx) : Cx := X.wish fun _ _ => False
theorem Cx.Ok.wish {X : Cx} (ok : X.Ok) (E : Value → Shared → Prop) : (X.wish E).Ok :=
  ⟨ok.mod, ok.kind, ok.glob, ok.blt, ok.above, ok.inj, ok.has, ok.cab, ok.hd, ok.frames, ok.stk, ok.exf, ok.bs, ok.bsz, ok.noex, ok.exfs, ok.funs, ok.frf⟩
theorem Cx.Ok.unwish {X : Cx} {E : Value → Shared → Prop} (ok : (X.wish E).Ok) : X.Ok :=
  ⟨ok.mod, ok.kind, ok.glob, ok.blt, ok.above, ok.inj, ok.has, ok.cab, ok.hd, ok.frames, ok.stk, ok.exf, ok.bs, ok.bsz, ok.noex, ok.exfs, ok.funs, ok.frf⟩
section
variable {X : Cx} {pins : List (Addr × Obj)} {σ : St} {H : Hp} {s : Shared} {E : Value → Shared → Prop}
theorem Inv.wish (I : Inv X pins σ H s) (E : Value → Shared → Prop) : Inv (X.wish E) pins σ H s := ⟨I.ok.wish E, I.os, I.bare, I.base, I.loc, I.cell, I.free, I.freeC, I.pin, I.hok, I.len⟩
theorem Inv.unwish (I : Inv (X.wish E) pins σ H s) : Inv X pins σ H s := ⟨I.ok.unwish, I.os, I.bare, I.base, I.loc, I.cell, I.free, I.freeC, I.pin, I.hok, I.len⟩
theorem SP.unwish {D : Ends} {f : Flow} {s' : Shared} (h : SP (X.wish E) pins D f s') : SP X pins D f s' := by
  cases f with
  | next => obtain ⟨σ', H', I, q⟩ := h; exact ⟨σ', H', I.unwish, q⟩
  | brk => obtain ⟨σ', H', I, q⟩ := h; exact ⟨σ', H', I.unwish, q⟩
  | cont => obtain ⟨σ', H', I, q⟩ := h; exact ⟨σ', H', I.unwish, q⟩
  | ret u => obtain ⟨v, σ', H', I, r, q⟩ := h; exact ⟨v, σ', H', I.unwish, r, q⟩
theorem PE.nox {e : Expr} {t : TE} (h : PE X.nox e t) : PE X e t := fun pins s σ H Q I hw =>
  wpAny_mono (h pins s σ H Q (I.wish _) hw) (fun _ _ ⟨v, H', I', r, q⟩ => ⟨v, H', I'.unwish, r, q⟩) fun _ _ z => False.elim z
theorem PT.nox {e : Expr} {t : TT} (h : PT X.nox e t) : PT X e t := fun pins s σ H Q I hw =>
  wpAny_mono (h pins s σ H Q (I.wish _) hw) (fun _ _ ⟨H', I', q⟩ => ⟨H', I'.unwish, q⟩) fun _ _ z => False.elim z
theorem PSs.nox {st : List Stmt} {t : TS} (h : PSs X.nox st t) : PSs X st t := fun pins s σ H D I hw =>
  wpAny_mono (h pins s σ H D (I.wish _) hw) (fun _ _ q => q.unwish) fun _ _ z => False.elim z
end
section
variable {X : Cx} {st : Stmt} {rest : List Stmt} {t u : TS} {e : Expr} {te : TE} {pos : Pos}
def tNext : TS := fun D σ H => D.nx σ H
def tSeq (t u : TS) : TS := fun D σ H => t { D with nx := u D } σ H
theorem pss_nil : PSs X [] tNext := fun _ _ σ H _ I h => wpAny_execs_nil ⟨σ, H, I, h⟩
theorem pss_cons (h1 : PS X st t) (h2 : PSs X rest u) : PSs X (st :: rest) (tSeq t u) := by
  intro pins s σ H D I h
  refine wpAny_execs_cons (thn (h1 pins s σ H { D with nx := u D } I h) fun f s1 q => ?_)
  cases f with
  | next =>
    obtain ⟨σ', H', I', q⟩ := q
    exact h2 pins s1 σ' H' D I' q
  | ret v => exact q
  | brk => exact q
  | cont => exact q
theorem pss_one (h1 : PS X st t) : PSs X [st] t := by
  intro pins s σ H D I h
  refine wpAny_execs_cons (thn (h1 pins s σ H D I h) fun f s1 q => ?_)
  cases f with
  | next => exact wpAny_execs_nil q
  | ret v => exact q
  | brk => exact q
  | cont => exact q
theorem Inv.quiet {pins : List (Addr × Obj)} {σ : St} {H : Hp} {s : Shared} (I : Inv X pins σ H s) : interactive X.env = false := by simp [interactive, I.ok.kind]
def tDrop (te : TE) : TS := fun D σ H => te σ H fun _ H1 => D.nx σ H1
theorem ps_expr (he : PE X e te) (hs : swapsWith e none pos.line X.env = pure false := by rfl) : PS X (.Expr e pos) (tDrop te) := by
  intro pins s σ H D I h
  exact wpAny_Expr_any (thn (he pins s σ H _ I h) fun v s1 ⟨x, H1, I1, r1, q1⟩ => ⟨σ, H1, I1, q1⟩) I.quiet hs
def tRet (te : TE) : TS := fun D σ H => te σ H D.rt
theorem ps_ret (he : PE X e te) : PS X (.Return (some e) pos) (tRet te) := by
  intro pins s σ H D I h
  exact wpAny_Return_some (thn (he pins s σ H _ I h) fun v s1 ⟨x, H1, I1, r1, q1⟩ => ⟨x, σ, H1, I1, r1, q1⟩)
def tIfS (c : TT) (t u : TS) : TS := fun D σ H => c σ H fun b H1 => if b = true then t D σ H1 else u D σ H1
theorem ps_if {c : Expr} {a b : List Stmt} {tc : TT} (hc : PT X c tc) (ha : PSs X a t) (hb : PSs X b u) : PS X (.If c a b pos) (tIfS tc t u) := by
  intro pins s σ H D I h
  refine wpAny_If (thn (hc pins s σ H _ I h) fun d s1 ⟨H1, I1, q1⟩ => ?_)
  cases d with
  | true => exact ha pins s1 σ H1 D I1 q1
  | false => exact hb pins s1 σ H1 D I1 q1
def tNever : TS := fun _ _ _ => False
theorem pss_never {sts : List Stmt} : PSs X sts tNever := fun _ _ _ _ _ _ h => h.elim
end
abbrev TG := V → St → Hp → (St → Hp → Prop) → Prop
abbrev TGs := List V → St → Hp → (St → Hp → Prop) → Prop
def PG (X : Cx) (target : Expr) (t : TG) : Prop :=
  ∀ (pins : List (Addr × Obj)) (s : Shared) (σ : St) (H : Hp) (v : V) (u : Value) (Q : St → Hp → Prop), Inv X pins σ H s → RelV v u → t v σ H Q →
    wpAny (model X.prog X.w) X.A (assign target X.env u) (fun _ s' => ∃ σ' H', Inv X pins σ' H' s' ∧ Q σ' H') X.xe s
def PGs (X : Cx) (ts : List Expr) (t : TGs) : Prop :=
  ∀ (pins : List (Addr × Obj)) (s : Shared) (σ : St) (H : Hp) (vs : List V) (us : List Value) (Q : St → Hp → Prop), Inv X pins σ H s → Vals vs us → t vs σ H Q →
    wpAny (model X.prog X.w) X.A (assignInOrder ((assignEach ts X.env).map (·.2)) us) (fun _ s' => ∃ σ' H', Inv X pins σ' H' s' ∧ Q σ' H') X.xe s
abbrev TSet := V → V → V → Hp → (Hp → Prop) → Prop
def PSet (X : Cx) (t : TSet) : Prop :=
  ∀ (pins : List (Addr × Obj)) (s : Shared) (σ : St) (H : Hp) (o i v : V) (ov iv u : Value) (Q : Hp → Prop), Inv X pins σ H s → RelV o ov → RelV i iv → RelV v u → t o i v H Q →
    wpAny (model X.prog X.w) X.A (setItem ov iv u) (fun _ s' => ∃ H', Inv X pins σ H' s' ∧ Q H') X.xe s
abbrev TIp := V → V → Hp → VK → Prop
def PIp (X : Cx) (op : Operator) (t : TIp) : Prop :=
  ∀ (pins : List (Addr × Obj)) (s : Shared) (σ : St) (H : Hp) (x y : V) (v u : Value) (Q : VK), Inv X pins σ H s → RelV x v → RelV y u → t x y H Q →
    wpAny (model X.prog X.w) X.A (inplaceOp op v u) (EP X pins σ Q) X.xe s
section
variable {X : Cx} {pos : Pos}
def gName (i : Nat) : TG := fun v σ H Q => Q (σ.set i (some v)) H
theorem pg_name {i : Nat} {x : Str} (hN : X.N.Nodup) (hi : X.N[i]? = some x) (hx : Loc X.env.scope x) (hf : X.fn x = true ∨ X.env.scope.names.lookup x = some .local := by first | exact .inl rfl | exact .inr rfl | assumption) : PG X (.Name x pos) (gName i) := by
  intro pins s σ H v u Q I r h
  exact wpAny_assign_Name (store_ok I hN hi hx r (fun s' I' => ⟨_, H, I', h⟩) hf)
def gNil : TGs := fun vs σ H Q => vs = [] ∧ Q σ H
def gCons (t : TG) (u : TGs) : TGs := fun vs σ H Q => ∃ v r, vs = v :: r ∧ t v σ H fun σ' H' => u r σ' H' Q
theorem pgs_nil : PGs X [] gNil := by
  intro pins s σ H vs us Q I r h
  obtain ⟨e, h⟩ := h
  subst e
  cases r
  exact assignInOrder_nil ⟨σ, H, I, h⟩
theorem pgs_cons {e : Expr} {es : List Expr} {t : TG} {u : TGs} (h1 : PG X e t) (h2 : PGs X es u)
    (hs : (assignEach (e :: es) X.env).map (·.2) = assign e X.env :: (assignEach es X.env).map (·.2) := by rfl) : PGs X (e :: es) (gCons t u) := by
  intro pins s σ H vs us Q I r h
  obtain ⟨v, vr, e1, h⟩ := h
  subst e1
  cases r with
  | cons r rr =>
    rw [hs]
    refine assignInOrder_cons (thn (h1 pins s σ H _ _ _ I r h) fun _ s1 ⟨σ1, H1, I1, q1⟩ => ?_)
    exact h2 pins s1 σ1 H1 _ _ Q I1 rr q1
def gTup (K : PySem.W.Frag) (n : Nat) (t : TGs) : TG := fun v σ H Q => ∃ a xs, v = .ref a ∧ SqT K H a xs ∧ xs.length = n ∧ t xs σ H Q
theorem pg_tup {es : List Expr} {k : Nat} {t : TGs} {n : Nat} (hc : X.calm = true) (h : PGs X es t)
    (hn : (assignEach es X.env).length = n := by rfl) (hst : (assignEach es X.env).findIdx? (·.1) = none := by rfl) : PG X (.Tuple es k pos) (gTup X.K n t) := by
  intro pins s σ H v u Q I r hw
  obtain ⟨a, xs, e1, hq, hl, hw⟩ := hw
  subst e1
  cases r
  obtain ⟨its, rv, ht, hz⟩ := I.tuple hq
  refine assign_Tuple_tuple (I.ok.hd hc) ht (by simp [hn, ← hl, rv.length]) hst fun h' hx => ?_
  have I1 : Inv X pins σ H { s with heap := h' } := I.kept (t' := s.toks) fun b o e => hx b o (Nat.ne_of_lt (Heap.lt_size e)) e
  exact h pins _ σ H xs _ Q I1 (by simpa using rv) hw
def gSub (to ti : TE) (t : TSet) : TG := fun v σ H Q => to σ H fun o H1 => ti σ H1 fun i H2 => t o i v H2 fun H3 => Q σ H3
theorem pg_sub {o i : Expr} {to ti : TE} {t : TSet} (ho : PE X o to) (hi : PE X i ti) (hs : PSet X t)
    (ha : ∀ v, assign (.Subscript o i pos) X.env v = (do
      let ov ← holding [v] (eval o X.env)
      let iv ← holding [v, ov] (eval i X.env)
      standAt pos
      holding [v, ov, iv] (setItem ov iv v)
      release [v, ov, iv] []) := by intro _; rfl) : PG X (.Subscript o i pos) (gSub to ti t) := by
  intro pins s σ H v u Q I r h
  rw [ha]
  refine wpAny_bind (wpAny_holding (thn (ho pins s σ H _ I h) fun ov s1 ⟨x, H1, I1, r1, q1⟩ => ?_))
  refine wpAny_bind (wpAny_holding (thn (hi pins s1 σ H1 _ I1 q1) fun iv s2 ⟨y, H2, I2, r2, q2⟩ => ?_))
  refine wpAny_bind (wpAny_standAt (wpAny_bind (wpAny_holding (thn (hs pins s2 σ H2 x y v ov iv u _ I2 r1 r2 r q2) fun _ s3 ⟨H3, I3, q3⟩ => ?_))))
  exact wpAny_release ⟨σ, H3, I3, q3⟩
def tAsg (te : TE) (g : TG) : TS := fun D σ H => te σ H fun x H1 => g x σ H1 D.nx
theorem ps_asg {tg e : Expr} {te : TE} {g : TG} (he : PE X e te) (hg : PG X tg g) (hs : swapsWithSole [tg] e pos.line X.env = pure false := by rfl) (hw : swappedStores [tg] e X.env = pure none := by rfl)
    (h1 : (assignEach [tg] X.env).map (·.2) = [assign tg X.env] := by rfl) : PS X (.Assign [tg] e pos) (tAsg te g) := by
  intro pins s σ H D I h
  refine wpAny_Assign_stores (thn (he pins s σ H _ I h) fun v s1 ⟨x, H1, I1, r1, q1⟩ => ?_) hs hw
  rw [h1]
  exact thn (hg pins s1 σ H1 x v _ I1 r1 q1) fun _ s2 q => q
theorem ps_set {i : Nat} {x : Str} {e : Expr} {te : TE} {pos' : Pos} (hN : X.N.Nodup) (hi : X.N[i]? = some x) (hx : Loc X.env.scope x) (he : PE X e te) (hs : swapsWith e (some (.Name x pos')) pos.line X.env = pure false := by rfl) (hf : X.fn x = true ∨ X.env.scope.names.lookup x = some .local := by first | exact .inl rfl | exact .inr rfl | assumption) :
    PS X (.Assign [.Name x pos'] e pos) (tAsg te (gName i)) := by
  intro pins s σ H D I h
  refine wpAny_Assign_Name (thn (he pins s σ H _ I h) fun v s1 ⟨y, H1, I1, r1, q1⟩ => ?_) hs
  exact store_ok I1 hN hi hx r1 (fun s2 I2 => ⟨_, H1, I2, q1⟩) hf
def tAug (i : Nat) (te : TE) (ti : TIp) : TS := fun D σ H => ∃ x, σ[i]? = some (some x) ∧ te σ H fun y H1 => ti x y H1 fun z H2 => D.nx (σ.set i (some z)) H2
theorem ps_aug {i : Nat} {x : Str} {e : Expr} {te : TE} {op : Operator} {ti : TIp} {pos' : Pos} (hN : X.N.Nodup) (hi : X.N[i]? = some x) (hx : Loc X.env.scope x) (he : PE X e te) (ho : PIp X op ti) (hf : X.fn x = true ∨ X.env.scope.names.lookup x = some .local := by first | exact .inl rfl | exact .inr rfl | assumption) :
    PS X (.AugAssign (.Name x pos') op e pos) (tAug i te ti) := by
  intro pins s σ H D I h
  obtain ⟨v, e1, h⟩ := h
  obtain ⟨m, hn, hl⟩ := I.loc
  have vis : Vis X.env.scope x := by rcases hx with k | k; exact .inl k; exact .inr (.inl k)
  obtain ⟨u, r, l⟩ := hl i x v hi e1 vis
  refine wpAny_AugAssign_Name ?_
  have go : wpAny (model X.prog X.w) X.A (eval e X.env) (fun w s₂ => wpAny (model X.prog X.w) X.A (inplaceOp op u w) (fun r s₃ => wpAny (model X.prog X.w) X.A (storeName X.env x r) (fun _ => SP X pins D .next) X.xe s₃) X.xe s₂) X.xe s := by
    refine thn (he pins s σ H _ I h) fun w s1 ⟨y, H1, I1, r1, q1⟩ => ?_
    refine thn (ho pins s1 σ H1 v y u w _ I1 r r1 q1) fun z s2 ⟨zv, H2, I2, r2, q2⟩ => ?_
    exact store_ok I2 hN hi hx r2 (fun s3 I3 => ⟨_, H2, I3, q2⟩) hf
  rcases l with ⟨hk, hm⟩ | ⟨hk, c, hc, hcell⟩
  · exact wpAny_loadName_local I.ok.kind hk hn hm go
  · rcases hk with hk | hk
    · exact wpAny_loadName_cell I.ok.kind hk hc hcell go
    · rcases hx with k | k
      · have : X.env.scope.names.lookup x = some .free := hk
        rw [k] at this; cases this
      · have : X.env.scope.names.lookup x = some .free := hk
        rw [k] at this; cases this
def tAugS (to ti te : TE) (tget : V → V → Hp → VK → Prop) (tip : TIp) (tset : TSet) : TS := fun D σ H => to σ H fun o H1 => ti σ H1 fun i H2 => tget o i H2 fun x H3 => te σ H3 fun y H4 => tip x y H4 fun z H5 => tset o i z H5 fun H6 => D.nx σ H6
def PGet (X : Cx) (t : V → V → Hp → VK → Prop) : Prop :=
  ∀ (pins : List (Addr × Obj)) (s : Shared) (σ : St) (H : Hp) (o i : V) (ov iv : Value) (Q : VK), Inv X pins σ H s → RelV o ov → RelV i iv → t o i H Q →
    wpAny (model X.prog X.w) X.A (getItem ov iv) (EP X pins σ Q) X.xe s
theorem ps_augS {o i e : Expr} {to ti te : TE} {tget : V → V → Hp → VK → Prop} {tip : TIp} {tset : TSet} {op : Operator} {tpos : Pos} (ho : PE X o to) (hi : PE X i ti) (hg : PGet X tget) (he : PE X e te) (hp : PIp X op tip) (hs : PSet X tset)
    (ha : ∀ ov iv new, augStore i ov iv new = (do holding [new, ov, iv] (setItem ov iv new); release [new, ov, iv] []; pure .next) := by intros; rfl) : PS X (.AugAssign (.Subscript o i tpos) op e pos) (tAugS to ti te tget tip tset) := by
  intro pins s σ H D I h
  refine wpAny_AugAssign_SubscriptAny (thn (ho pins s σ H _ I h) fun ov s1 ⟨x1, H1, I1, r1, q1⟩ => ?_) ha
  refine thn (hi pins s1 σ H1 _ I1 q1) fun iv s2 ⟨x2, H2, I2, r2, q2⟩ => ?_
  refine thn (hg pins s2 σ H2 x1 x2 ov iv _ I2 r1 r2 q2) fun old s3 ⟨x3, H3, I3, r3, q3⟩ => ?_
  refine thn (he pins s3 σ H3 _ I3 q3) fun v s4 ⟨x4, H4, I4, r4, q4⟩ => ?_
  refine thn (hp pins s4 σ H4 x3 x4 old v _ I4 r3 r4 q4) fun new s5 ⟨x5, H5, I5, r5, q5⟩ => ?_
  exact thn (hs pins s5 σ H5 x1 x2 x5 ov iv new _ I5 r1 r2 r5 q5) fun _ s6 ⟨H6, I6, q6⟩ => ⟨σ, H6, I6, q6⟩
def ipI (f : Int → Int → Int) : TIp := fun x y H Q => ∃ i j, x = .int i ∧ y = .int j ∧ Q (.int (f i j)) H
theorem ip_add : PIp X .Add (ipI fun i j => i + j) := by
  intro pins s σ H x y v u Q I r1 r2 h
  obtain ⟨i, j, e1, e2, q⟩ := h
  subst e1; subst e2
  obtain ⟨t, rfl⟩ := r1
  obtain ⟨t', rfl⟩ := r2
  exact iadd_int ⟨.int _, H, I.tok _, ⟨_, rfl⟩, q⟩
end
section
variable {X : Cx} {pos : Pos}
end
structure It where
  go : Nat → Hp → Prop
  yld : Nat → Hp → V → Hp → Prop
  stop : Nat → Hp → Prop
def FpOk (X : Cx) (pins : List (Addr × Obj)) (H : Hp) (b : Addr) : Prop :=
  H b = none ∧ b ≠ X.env.locals ∧ b ∉ X.fs ∧ (b ∈ X.ex ∨ X.s₀.heap.objs.size ≤ b) ∧ (∀ x c, X.env.cells.lookup x = some c → c ≠ b) ∧ ∀ p ∈ X.pn ++ pins, p.1 ≠ b
theorem Inv.fpOk {X : Cx} {pins : List (Addr × Obj)} {σ : St} {H H' : Hp} {s : Shared} {b : Addr} (I : Inv X pins σ H s) (hb : s.heap.objs.size ≤ b) (hn : H' b = none) : FpOk X pins H' b := by
  refine ⟨hn, Nat.ne_of_gt (Nat.lt_of_lt_of_le I.lt hb), I.nofs hb, .inr (Nat.le_trans I.sz hb), fun x c e z => ?_, fun p hp z => ?_⟩
  · obtain ⟨v, q⟩ := I.cell x c e
    exact absurd (Nat.lt_of_lt_of_le q.lt (by rw [z]; exact hb)) (Nat.lt_irrefl _)
  · exact absurd (Nat.lt_of_lt_of_le (Heap.lt_size (I.pin p hp).1) (by rw [z]; exact hb)) (Nat.lt_irrefl _)
structure Turn (P : Program) (w : World) (K : PySem.W.Frag) (tg : Expr) (J : It) (fp : List Addr) (it : Addr) (tn : Nat → Heap → Prop) : Prop where
  mem : it ∈ fp
  obj : ∀ i h, tn i h → ∀ b ∈ fp, ∃ o, h.get? b = some o ∧ ∀ v, o.data ≠ .cell v
  keep : ∀ i h h', tn i h → (∀ b ∈ fp, ∀ o, h.get? b = some o → h'.get? b = some o) → tn i h'
  item : ∀ (X : Cx), X.prog = P → X.w = w → X.K = K → X.calm = true → ∀ (i : Nat) (pins : List (Addr × Obj)) (s : Shared) (σ : St) (H : Hp) (E : Value → Shared → Prop), Inv X pins σ H s → (∀ b ∈ fp, FpOk X pins H b) → tn i s.heap → J.go i H →
    wpAny (model P w) X.A (pyNext (.ref it)) (fun r s1 => ∃ u, r = some u ∧
      wpAny (model P w) X.A (letOwnedTupleGo tg (.ref it) u) (fun _ s2 => ∃ x H', Inv X pins σ H' s2 ∧ RelV x u ∧ J.yld i H x H' ∧ tn (i + 1) s2.heap ∧ ∀ b ∈ fp, H' b = none) E s1) E s
  done : ∀ (X : Cx), X.prog = P → X.w = w → X.K = K → X.calm = true → ∀ (i : Nat) (pins : List (Addr × Obj)) (s : Shared) (σ : St) (H : Hp) (E : Value → Shared → Prop), Inv X pins σ H s → (∀ b ∈ fp, FpOk X pins H b) → tn i s.heap → J.stop i H →
    wpAny (model P w) X.A (pyNext (.ref it)) (fun r s1 => r = none ∧ Inv X pins σ H s1) E s
  self : ∀ (A : Around) (i : Nat) (s : Shared) (Q : Value → Shared → Prop) (E : Value → Shared → Prop), tn i s.heap → Q (.ref it) s → wpAny (model P w) A (pyIter (.ref it)) Q E s
abbrev TI := St → Hp → (It → Hp → Prop) → Prop
def PIE (X : Cx) (pins : List (Addr × Obj)) (σ : St) (tg : Expr) (R : It → Hp → Prop) (itv : Value) (s2 : Shared) : Prop :=
  ∃ (it : Addr) (fp : List Addr) (tn : Nat → Heap → Prop) (J : It) (H' : Hp), itv = .ref it ∧ Inv X pins σ H' s2 ∧ Turn X.prog X.w X.K tg J fp it tn ∧ tn 0 s2.heap ∧ (∀ b ∈ fp, FpOk X pins H' b) ∧ R J H'
def PI (X : Cx) (tg iter : Expr) (wi : TI) : Prop :=
  ∀ (pins : List (Addr × Obj)) (s : Shared) (σ : St) (H : Hp) (R : It → Hp → Prop), Inv X pins σ H s → wi σ H R →
    wpAny (model X.prog X.w) X.A (eval iter X.env) (fun v s1 => wpAny (model X.prog X.w) X.A (pyIter v) (PIE X pins σ tg R) X.xe s1) X.xe s
theorem go_of {M : Model} {A : Around} {E : Value → Shared → Prop} {s : Shared} {tg : Expr} {it : Addr} {u : Value} {o : Obj} {n : String} {vs : Array Value} {Q : Unit → Shared → Prop} (ho : s.heap.get? it = some o) (hc : o.cls = .type n) (hd : o.data = .fields vs)
    (hn : ["enumerate", "zip", "dict_itemiterator", "dict_reverseitemiterator", "odict_iterator", "itertools.zip_longest", "itertools.pairwise"].contains n = false) (hQ : Q () s) : wpAny M A (letOwnedTupleGo tg (.ref it) u) Q E s := by
  unfold letOwnedTupleGo
  cases tg <;> first
    | exact wpAny_pure hQ
    | (cases u <;> first
        | exact wpAny_pure hQ
        | (refine wpAny_bind (wpAny_load ho ?_)
           rw [hc, hd]
           show wpAny M A (if (["enumerate", "zip", "dict_itemiterator", "dict_reverseitemiterator", "odict_iterator", "itertools.zip_longest", "itertools.pairwise"].contains n && vs[0]? == some (rawInt _)) = true then _ else _) Q E s
           rw [if_neg (by intro h; rw [hn, Bool.false_and] at h; cases h)]
           exact wpAny_pure hQ))
def Itl (K : PySem.W.Frag) (a : Addr) : It :=
  ⟨fun i H => ∃ xs x, SqL K H a xs ∧ xs[i]? = some x, fun i H x H' => H' = H ∧ ∀ xs, SqL K H a xs → xs[i]? = some x, fun i H => ∃ xs, SqL K H a xs ∧ xs.length ≤ i⟩
def Itt (K : PySem.W.Frag) (a : Addr) : It :=
  ⟨fun i H => ∃ xs x, SqT K H a xs ∧ xs[i]? = some x, fun i H x H' => H' = H ∧ ∀ xs, SqT K H a xs → xs[i]? = some x, fun i H => ∃ xs, SqT K H a xs ∧ xs.length ≤ i⟩
def Itr (lo : Int) (n : Nat) : It := ⟨fun i _ => i < n, fun i H x H' => H' = H ∧ x = .int (lo + i), fun i _ => n ≤ i⟩
theorem turn_list {P : Program} {w : World} {K : PySem.W.Frag} {tg : Expr} (a it : Addr) : Turn P w K tg (Itl K a) [it] it (fun i h => h.IsListIter it a i) where
  mem := by simp
  obj := fun i h st b hb => by
    have e : b = it := by simpa using hb
    subst e
    obtain ⟨o, e, c, d⟩ := st
    exact ⟨o, e, fun v z => by rw [d] at z; cases z⟩
  keep := fun i h h' st k => st.at fun o e => k it (by simp) o e
  item := by
    intro X hP hw hK hc i pins s σ H E I hf st hg
    subst hP hw hK
    obtain ⟨xs, x, hq, hx⟩ := hg
    obtain ⟨its, rv, p, hz⟩ := I.list hq
    obtain ⟨u, hu, ru⟩ := rv.get hx
    obtain ⟨f0, f1, f2, f3, f4, f5⟩ := hf it (by simp)
    refine wpAny_pyNext_list_item st p.isList (x := u) (by simpa using hu) fun h' st' sb => ?_
    have I1 : Inv X pins σ H { s with heap := h' } := I.turned (t' := s.toks) (fun b o hb e => (sb.2 b hb).trans e) f0 f1 f3 f4 f5
    obtain ⟨o, e, c, d⟩ := id st'
    exact ⟨u, rfl, go_of (s := { s with heap := h' }) e c d (by decide) ⟨x, H, I1, ru, ⟨rfl, fun ys hy => by rw [I.list_inj hy hq]; exact hx⟩, st', fun b hb => (hf b hb).1⟩⟩
  done := by
    intro X hP hw hK hc i pins s σ H E I hf st hg
    subst hP hw hK
    obtain ⟨xs, hq, hx⟩ := hg
    obtain ⟨its, rv, p, hz⟩ := I.list hq
    obtain ⟨f0, f1, f2, f3, f4, f5⟩ := hf it (by simp)
    have hl := rv.length
    exact wpAny_pyNext_list_end (I.ok.hd hc) st p.isList (by simp; omega) fun h' eb => ⟨rfl, I.turned (t' := s.toks) (fun b o hb e => eb b o hb e) f0 f1 f3 f4 f5⟩
  self := fun _ _ _ _ _ st h => wpAny_pyIter_listiter st h
theorem turn_tuple {P : Program} {w : World} {K : PySem.W.Frag} {tg : Expr} (a it : Addr) : Turn P w K tg (Itt K a) [it] it (fun i h => h.IsTupleIter it a i) where
  mem := by simp
  obj := fun i h st b hb => by
    have e : b = it := by simpa using hb
    subst e
    obtain ⟨o, e, c, d⟩ := st
    exact ⟨o, e, fun v z => by rw [d] at z; cases z⟩
  keep := fun i h h' st k => st.at fun o e => k it (by simp) o e
  item := by
    intro X hP hw hK hc i pins s σ H E I hf st hg
    subst hP hw hK
    obtain ⟨xs, x, hq, hx⟩ := hg
    obtain ⟨its, rv, p, hz⟩ := I.tuple hq
    obtain ⟨u, hu, ru⟩ := rv.get hx
    obtain ⟨f0, f1, f2, f3, f4, f5⟩ := hf it (by simp)
    refine wpAny_pyNext_tuple_item st (show s.heap.IsTuple a its.toArray from p) (x := u) (by simpa using hu) fun h' st' sb => ?_
    have I1 : Inv X pins σ H { s with heap := h' } := I.turned (t' := s.toks) (fun b o hb e => (sb.2 b hb).trans e) f0 f1 f3 f4 f5
    obtain ⟨o, e, c, d⟩ := id st'
    exact ⟨u, rfl, go_of (s := { s with heap := h' }) e c d (by decide) ⟨x, H, I1, ru, ⟨rfl, fun ys hy => by rw [I.tuple_inj hy hq]; exact hx⟩, st', fun b hb => (hf b hb).1⟩⟩
  done := by
    intro X hP hw hK hc i pins s σ H E I hf st hg
    subst hP hw hK
    obtain ⟨xs, hq, hx⟩ := hg
    obtain ⟨its, rv, p, hz⟩ := I.tuple hq
    obtain ⟨f0, f1, f2, f3, f4, f5⟩ := hf it (by simp)
    have hl := rv.length
    exact wpAny_pyNext_tuple_end (I.ok.hd hc) st (show s.heap.IsTuple a its.toArray from p) (by simp; omega) fun h' eb => ⟨rfl, I.turned (t' := s.toks) (fun b o hb e => eb b o hb e) f0 f1 f3 f4 f5⟩
  self := fun _ _ _ _ _ st h => wpAny_pyIter_tupleiter st h
theorem turn_range {P : Program} {w : World} {K : PySem.W.Frag} {tg : Expr} (it : Addr) (lo : Int) (n : Nat) : Turn P w K tg (Itr lo n) [it] it (fun i h => IsRangeIter h it (lo + (i : Nat) * 1) ((n : Int) - (i : Nat)) 1) where
  mem := by simp
  obj := fun i h st b hb => by
    have e : b = it := by simpa using hb
    subst e
    exact ⟨_, st, fun v z => by
      have z' : Data.fields _ = Data.cell v := z
      cases z'⟩
  keep := fun i h h' st k => k it (by simp) _ st
  item := by
    intro X hP hw hK hc i pins s σ H E I hf st hg
    subst hP hw hK
    obtain ⟨f0, f1, f2, f3, f4, f5⟩ := hf it (by simp)
    have W := Walks.range (prog := X.prog) (w := X.w) (I.ok.hd hc) it lo 1 n
    refine W.item i s _ _ hg st fun v h' tk hv st' kk => ?_
    obtain ⟨t, rfl⟩ := hv
    have I1 : Inv X pins σ H { s with heap := h', toks := tk } := I.turned (fun b o hb e => kk b o (by simpa using hb) e) f0 f1 f3 f4 f5
    refine ⟨_, rfl, go_of (s := { s with heap := h', toks := tk }) (n := "range_iterator") st' rfl rfl (by decide) ⟨.int (lo + i), H, I1, ⟨t, ?_⟩, ⟨rfl, rfl⟩, st', fun b hb => (hf b hb).1⟩⟩
    rw [Int.mul_one]
  done := by
    intro X hP hw hK hc i pins s σ H E I hf st hg
    subst hP hw hK
    obtain ⟨f0, f1, f2, f3, f4, f5⟩ := hf it (by simp)
    exact wpAny_pyNext_range_end (I.ok.hd hc) st (by have : n ≤ i := hg; omega) fun h' eb => ⟨rfl, I.turned (t' := s.toks) (fun b o hb e => eb b o hb e) f0 f1 f3 f4 f5⟩
  self := fun _ _ _ _ _ st h => wpAny_pyIter_rangeiter st h
end L2
namespace L2
open PySem PySem.Spec PyProof.Rows
section
variable {X : Cx} {tg : Expr}
def iList (K : PySem.W.Frag) (tl : TE) : TI := fun σ H R => tl σ H fun x H1 => ∃ a, x = .ref a ∧ (∃ xs, SqL K H1 a xs) ∧ R (Itl K a) H1
def iTup (K : PySem.W.Frag) (tl : TE) : TI := fun σ H R => tl σ H fun x H1 => ∃ a, x = .ref a ∧ (∃ xs, SqT K H1 a xs) ∧ R (Itt K a) H1
theorem pi_list {l : Expr} {tl : TE} (hl : PE X l tl) : PI X tg l (iList X.K tl) := by
  intro pins s σ H R I h
  refine thn (hl pins s σ H _ I h) fun v s1 ⟨x, H1, I1, r1, q1⟩ => ?_
  obtain ⟨a, e, ⟨xs, hq⟩, q⟩ := q1
  subst e
  cases r1
  obtain ⟨its, rv, p, hz⟩ := I1.list hq
  refine wpAny_pyIter_list p.isList ?_
  refine ⟨s1.heap.objs.size, [s1.heap.objs.size], _, _, H1, rfl, I1.kept (t' := s1.toks) fun b o e => Heap.get?_push_of_some _ e, turn_list a _, ⟨_, Heap.get?_push_size _ rfl, rfl, rfl⟩, fun b hb => ?_, q⟩
  have e : b = s1.heap.objs.size := by simpa using hb
  subst e
  exact I1.fpOk (Nat.le_refl _) (I1.hok.fresh (Nat.le_refl _))
theorem pi_tup {l : Expr} {tl : TE} (hl : PE X l tl) : PI X tg l (iTup X.K tl) := by
  intro pins s σ H R I h
  refine thn (hl pins s σ H _ I h) fun v s1 ⟨x, H1, I1, r1, q1⟩ => ?_
  obtain ⟨a, e, ⟨xs, hq⟩, q⟩ := q1
  subst e
  cases r1
  obtain ⟨its, rv, p, hz⟩ := I1.tuple hq
  refine wpAny_pyIter_tuple (show s1.heap.IsTuple a its.toArray from p) ?_
  refine ⟨s1.heap.objs.size, [s1.heap.objs.size], _, _, H1, rfl, I1.kept (t' := s1.toks) fun b o e => Heap.get?_push_of_some _ e, turn_tuple a _, ⟨_, Heap.get?_push_size _ rfl, rfl, rfl⟩, fun b hb => ?_, q⟩
  have e : b = s1.heap.objs.size := by simpa using hb
  subst e
  exact I1.fpOk (Nat.le_refl _) (I1.hok.fresh (Nat.le_refl _))
theorem range_it {pins : List (Addr × Obj)} {σ : St} {H : Hp} {s : Shared} {R : It → Hp → Prop} {E : Value → Shared → Prop} {lo hi : Int} {t u v : Tok} {tk : Nat} (I : Inv X pins σ H s) (h1 : -(2 ^ 62) ≤ lo) (h2 : lo < 2 ^ 62) (h3 : -(2 ^ 62) ≤ hi) (h4 : hi < 2 ^ 62)
    (q : R (Itr lo (hi - lo).toNat) H) : wpAny (model X.prog X.w) X.A (pyIter (.ref s.heap.objs.size)) (PIE X pins σ tg R) E { s with heap := s.heap.push { cls := .type "range", data := .fields #[.int lo t, .int hi u, .int 1 v] }, toks := tk } := by
  refine wpAny_pyIter_range (IsRange.new ..) (small_one h1 h2 h3 h4) ?_
  have I1 : Inv X pins σ H { s with heap := s.heap.push { cls := .type "range", data := .fields #[.int lo t, .int hi u, .int 1 v] }, toks := tk } := I.kept fun b o e => Heap.get?_push_of_some _ e
  refine ⟨(s.heap.push { cls := .type "range", data := .fields #[.int lo t, .int hi u, .int 1 v] }).objs.size, [(s.heap.push { cls := .type "range", data := .fields #[.int lo t, .int hi u, .int 1 v] }).objs.size], _, _, H, rfl,
    I1.kept (t' := tk) fun b o e => Heap.get?_push_of_some _ e, turn_range _ lo (hi - lo).toNat, ?_, fun b hb => ?_, q⟩
  · have e1 : lo + ((0 : Nat) : Int) * 1 = lo := by simp
    have e2 : (((hi - lo).toNat : Nat) : Int) - ((0 : Nat) : Int) = Builtin.Range.rangeSize lo hi 1 := by rw [rangeSize_one]; split <;> omega
    show IsRangeIter _ _ (lo + ((0 : Nat) : Int) * 1) ((((hi - lo).toNat : Nat) : Int) - ((0 : Nat) : Int)) 1
    rw [e1, e2]
    exact Heap.get?_push_size _ rfl
  · have e : b = (s.heap.push { cls := .type "range", data := .fields #[.int lo t, .int hi u, .int 1 v] }).objs.size := by simpa using hb
    subst e
    exact I1.fpOk (Nat.le_refl _) (I1.hok.fresh (Nat.le_refl _))
def iRng1 (ta : TA) : TI := fun σ H R => ta σ H fun vs H1 => ∃ j : Int, vs = [.int j] ∧ -(2 ^ 62) ≤ j ∧ j < 2 ^ 62 ∧ R (Itr 0 j.toNat) H1
def iRng2 (ta : TA) : TI := fun σ H R => ta σ H fun vs H1 => ∃ i j : Int, vs = [.int i, .int j] ∧ (-(2 ^ 62) ≤ i ∧ i < 2 ^ 62 ∧ -(2 ^ 62) ≤ j ∧ j < 2 ^ 62) ∧ R (Itr i (j - i).toNat) H1
theorem pi_range1 {a : Expr} {ta : TA} {p pos : Pos} (hg : Gl X "range") (hm : X.mg "range" = none) (ha : PA X [a] ta) (hs : starEach [a] X.env = [(false, eval a X.env)] := by rfl) : PI X tg (.Call (.Name "range" p) [a] [] pos) (iRng1 ta) := by
  intro pins s σ H R I h
  refine Call_ (ld_blt I hg hm boot_range (PyProof.Rows.callWith_type1 (thn (ha pos pins s σ H _ I h) fun us s1 ⟨vs, H1, I1, r1, q1⟩ => ?_) hs rfl))
  obtain ⟨j, e, q1, q2, q⟩ := q1
  subst e
  cases r1 with
  | cons r rr =>
    cases rr
    obtain ⟨t, rfl⟩ := r
    exact call_range_1 (range_it I1 (by omega) (by omega) q1 q2 (by simpa using q))
theorem pi_range2 {a b : Expr} {ta : TA} {p pos : Pos} (hg : Gl X "range") (hm : X.mg "range" = none) (ha : PA X [a, b] ta) (hs : starEach [a, b] X.env = [(false, eval a X.env), (false, eval b X.env)] := by rfl) (hs2 : starEach [b] X.env = [(false, eval b X.env)] := by rfl) :
    PI X tg (.Call (.Name "range" p) [a, b] [] pos) (iRng2 ta) := by
  intro pins s σ H R I h
  refine Call_ (ld_blt I hg hm boot_range (PyProof.Rows.callWith_type1 (thn (ha pos pins s σ H _ I h) fun us s1 ⟨vs, H1, I1, r1, q1⟩ => ?_) (by rw [hs, hs2]) (by rw [hs2]; rfl)))
  obtain ⟨i, j, e, ⟨q1, q2, q3, q4⟩, q⟩ := q1
  subst e
  cases r1 with
  | cons r rr =>
    cases rr with
    | cons r' rr =>
      cases rr
      obtain ⟨t, rfl⟩ := r
      obtain ⟨t', rfl⟩ := r'
      exact call_range_2 (range_it I1 q1 q2 q3 q4 q)
def tFor (wi : TI) (g : TG) (tb : TS) : TS := fun D σ H => wi σ H fun J H1 => ∃ W : Nat → Nat → St → Hp → Prop, (∃ m, W 0 m σ H1) ∧ ∀ i m σ H, W i m σ H →
  (J.stop i H ∧ D.nx σ H) ∨ (J.go i H ∧ ∃ N : St → Hp → Prop, (∀ σ' H', N σ' H' → ∃ m', m' < m ∧ W (i + 1) m' σ' H') ∧ ∀ x H', J.yld i H x H' → g x σ H' fun σ2 H2 => tb { D with nx := N, ct := N, bk := D.nx } σ2 H2)
def pinsAt (fp : List Addr) (h : Heap) : List (Addr × Obj) := fp.filterMap fun b => (h.get? b).map fun o => (b, o)
theorem mem_pinsAt {fp : List Addr} {h : Heap} {b : Addr} {o : Obj} (hb : b ∈ fp) (e : h.get? b = some o) : (b, o) ∈ pinsAt fp h := List.mem_filterMap.mpr ⟨b, hb, by rw [e]; rfl⟩
theorem of_pinsAt {fp : List Addr} {h : Heap} {p : Addr × Obj} (hp : p ∈ pinsAt fp h) : p.1 ∈ fp ∧ h.get? p.1 = some p.2 := by
  obtain ⟨b, hb, e⟩ := List.mem_filterMap.mp hp
  cases q : h.get? b with
  | none => rw [q] at e; cases e
  | some o =>
    rw [q] at e
    have e' : (b, o) = p := Option.some.inj e
    subst e'
    exact ⟨hb, q⟩
theorem Inv.pinned {pins : List (Addr × Obj)} {σ : St} {H : Hp} {s : Shared} {fp : List Addr} (I : Inv X pins σ H s) (hf : ∀ b ∈ fp, FpOk X pins H b) (ho : ∀ b ∈ fp, ∃ o, s.heap.get? b = some o ∧ ∀ v, o.data ≠ .cell v) : Inv X (pins ++ pinsAt fp s.heap) σ H s :=
  I.pins_of fun p hp => (List.mem_append.mp hp).elim (fun z => I.pin p (List.mem_append_right _ z)) fun z => by
    obtain ⟨hb, e⟩ := of_pinsAt z
    obtain ⟨f0, f1, f2, _⟩ := hf p.1 hb
    obtain ⟨o, e', d⟩ := ho p.1 hb
    rw [e] at e'; cases e'
    exact ⟨e, f0, f1, f2, d⟩
theorem Inv.unpinned {pins pl : List (Addr × Obj)} {σ : St} {H : Hp} {s : Shared} (I : Inv X (pins ++ pl) σ H s) : Inv X pins σ H s := I.pins_of fun p hp => I.pin p (List.mem_append_right _ (List.mem_append_left _ hp))
theorem ps_for {iter : Expr} {body : List Stmt} {wi : TI} {g : TG} {tb : TS} {pos : Pos} (hp : PassesOwn (model X.prog X.w) X.A X.env X.xe) (hc : X.calm = true) (hi : PI X tg iter wi) (hg : PG X tg g) (hb : PSs X body tb)
    (hs : ∀ x, foldedSetIterable iter X.env x = pure x := by intro _; rfl) : PS X (.For tg iter body [] pos) (tFor wi g tb) := by
  intro pins s σ H D I h
  refine wpAny_For (thn (hi pins s σ H _ I h) fun v s1 h1 => thn h1 fun itv s2 h2 => ?_) hs
  obtain ⟨it, fp, tn, J, H2, e, I2, T, st2, f2, W, ⟨m0, w0⟩, turn⟩ := h2
  subst e
  have stat : ∀ {H' : Hp}, (∀ b ∈ fp, H' b = none) → ∀ b ∈ fp, FpOk X pins H' b := fun hn b hb => ⟨hn b hb, (f2 b hb).2⟩
  refine codeAny_forLoop_any (fun n s' => ∃ i σ' H', Inv X pins σ' H' s' ∧ tn i s'.heap ∧ (∀ b ∈ fp, H' b = none) ∧ W i n σ' H') ?_ m0 ⟨0, σ, H2, I2, st2, fun b hb => (f2 b hb).1, w0⟩
  rintro n s3 ⟨i, σ3, H3, I3, st3, fr3, w3⟩
  rcases turn i n σ3 H3 w3 with ⟨stop, qn⟩ | ⟨go, N, hN, step⟩
  · refine wpAny_passesOwn hp (thn (T.done X rfl rfl rfl hc i pins s3 σ3 H3 X.xe I3 (stat fr3) st3 stop) fun r s4 ⟨hr, I4⟩ => ?_)
    subst hr
    exact wpAny_execs_nil ⟨σ3, H3, I4, qn⟩
  · refine wpAny_passesOwn hp (thn (T.item X rfl rfl rfl hc i pins s3 σ3 H3 X.xe I3 (stat fr3) st3 go) fun r s4 ⟨u, hr, h4⟩ => ?_)
    subst hr
    refine wpAny_passesOwn hp (thn h4 fun _ s5 ⟨x, H5, I5, r5, y5, st5, fr5⟩ => ?_)
    have I5' := I5.pinned (stat fr5) (T.obj _ _ st5)
    refine wpAny_passesOwn hp (thn (hg _ s5 σ3 H5 x u _ I5' r5 (step x H5 y5)) fun _ s6 ⟨σ6, H6, I6, q6⟩ => ?_)
    refine wpAny_passesOwn hp (thn (hb _ s6 σ6 H6 _ I6 q6) fun f s7 q7 => ?_)
    have again : ∀ {σ7 : St} {H7 : Hp}, Inv X (pins ++ pinsAt fp s5.heap) σ7 H7 s7 → N σ7 H7 → ∃ m, m < n ∧ ∃ i σ' H', Inv X pins σ' H' s7 ∧ tn i s7.heap ∧ (∀ b ∈ fp, H' b = none) ∧ W i m σ' H' := fun {σ7 H7} I7 n7 => by
      obtain ⟨m', hm, w7⟩ := hN σ7 H7 n7
      refine ⟨m', hm, i + 1, σ7, H7, I7.unpinned, T.keep _ _ _ st5 fun b hb o e => (I7.pin (b, o) (List.mem_append_right _ (List.mem_append_right _ (mem_pinsAt hb e)))).1, fun b hb => ?_, w7⟩
      obtain ⟨o, e, d⟩ := T.obj _ _ st5 b hb
      exact (I7.pin (b, o) (List.mem_append_right _ (List.mem_append_right _ (mem_pinsAt hb e)))).2.1
    cases f with
    | next => obtain ⟨σ7, H7, I7, n7⟩ := q7; exact again I7 n7
    | cont => obtain ⟨σ7, H7, I7, n7⟩ := q7; exact again I7 n7
    | brk => obtain ⟨σ7, H7, I7, q7⟩ := q7; exact ⟨σ7, H7, I7.unpinned, q7⟩
    | ret v => obtain ⟨x7, σ7, H7, I7, r7, q7⟩ := q7; exact ⟨x7, σ7, H7, I7.unpinned, r7, q7⟩
end
theorem for_list {K : PySem.W.Frag} {a : Addr} {xs : List V} {g : TG} {tb : TS} {D : Ends} {σ : St} {H : Hp} (Pv : Nat → St → Hp → Prop) (h0 : Pv 0 σ H) (hl : ∀ i σ H, i ≤ xs.length → Pv i σ H → SqL K H a xs)
    (hs : ∀ i x σ H, xs[i]? = some x → Pv i σ H → g x σ H fun σ2 H2 => tb { D with nx := Pv (i + 1), ct := Pv (i + 1), bk := D.nx } σ2 H2) (hd : ∀ σ H, Pv xs.length σ H → D.nx σ H) :
    ∃ W : Nat → Nat → St → Hp → Prop, (∃ m, W 0 m σ H) ∧ ∀ i m σ H, W i m σ H →
      ((Itl K a).stop i H ∧ D.nx σ H) ∨ ((Itl K a).go i H ∧ ∃ N : St → Hp → Prop, (∀ σ' H', N σ' H' → ∃ m', m' < m ∧ W (i + 1) m' σ' H') ∧ ∀ x H', (Itl K a).yld i H x H' → g x σ H' fun σ2 H2 => tb { D with nx := N, ct := N, bk := D.nx } σ2 H2) := by
  refine ⟨fun i m σ H => m = xs.length - i ∧ i ≤ xs.length ∧ Pv i σ H, ⟨xs.length, by simp, Nat.zero_le _, h0⟩, ?_⟩
  rintro i m σ H ⟨rfl, hi, p⟩
  have q := hl i σ H hi p
  by_cases hlt : i < xs.length
  · refine .inr ⟨⟨xs, xs[i], q, by simp [hlt]⟩, Pv (i + 1), fun σ' H' p' => ⟨xs.length - (i + 1), by omega, rfl, hlt, p'⟩, fun x H' y => ?_⟩
    obtain ⟨e, y⟩ := y
    subst e
    exact hs i x σ _ (y xs q) p
  · have e : i = xs.length := by omega
    subst e
    exact .inl ⟨⟨xs, q, Nat.le_refl _⟩, hd σ H p⟩
theorem for_range {lo : Int} {n : Nat} {g : TG} {tb : TS} {D : Ends} {σ : St} {H : Hp} (Pv : Nat → St → Hp → Prop) (h0 : Pv 0 σ H)
    (hs : ∀ i σ H, i < n → Pv i σ H → g (.int (lo + i)) σ H fun σ2 H2 => tb { D with nx := Pv (i + 1), ct := Pv (i + 1), bk := D.nx } σ2 H2) (hd : ∀ σ H, Pv n σ H → D.nx σ H) :
    ∃ W : Nat → Nat → St → Hp → Prop, (∃ m, W 0 m σ H) ∧ ∀ i m σ H, W i m σ H →
      ((Itr lo n).stop i H ∧ D.nx σ H) ∨ ((Itr lo n).go i H ∧ ∃ N : St → Hp → Prop, (∀ σ' H', N σ' H' → ∃ m', m' < m ∧ W (i + 1) m' σ' H') ∧ ∀ x H', (Itr lo n).yld i H x H' → g x σ H' fun σ2 H2 => tb { D with nx := N, ct := N, bk := D.nx } σ2 H2) := by
  refine ⟨fun i m σ H => m = n - i ∧ i ≤ n ∧ Pv i σ H, ⟨n, by simp, Nat.zero_le _, h0⟩, ?_⟩
  rintro i m σ H ⟨rfl, hi, p⟩
  by_cases hlt : i < n
  · refine .inr ⟨hlt, Pv (i + 1), fun σ' H' p' => ⟨n - (i + 1), by omega, rfl, hlt, p'⟩, fun x H' y => ?_⟩
    obtain ⟨e, y⟩ := y
    subst e y
    exact hs i σ _ hlt p
  · have e : i = n := by omega
    subst e
    exact .inl ⟨Nat.le_refl _, hd σ H p⟩
end L2
namespace L2
open PySem PySem.Spec PyProof.Rows
abbrev R2 := V → V → Hp → VK → Prop
def OpR (X : Cx) (f : Value → Value → Sem Value) (r : R2) : Prop :=
  ∀ (pins : List (Addr × Obj)) (s : Shared) (σ : St) (H : Hp) (x y : V) (v u : Value) (Q : VK), Inv X pins σ H s → RelV x v → RelV y u → r x y H Q →
    wpAny (model X.prog X.w) X.A (f v u) (EP X pins σ Q) X.xe s
def UnR (X : Cx) (f : Value → Sem Value) (r : V → Hp → VK → Prop) : Prop :=
  ∀ (pins : List (Addr × Obj)) (s : Shared) (σ : St) (H : Hp) (x : V) (v : Value) (Q : VK), Inv X pins σ H s → RelV x v → r x H Q →
    wpAny (model X.prog X.w) X.A (f v) (EP X pins σ Q) X.xe s
def CallR (X : Cx) (f : Value) (r : List V → Hp → VK → Prop) : Prop :=
  ∀ (pins : List (Addr × Obj)) (s : Shared) (σ : St) (H : Hp) (xs : List V) (us : List Value) (Q : VK), Inv X pins σ H s → Vals xs us → r xs H Q →
    wpAny (model X.prog X.w) X.A (call f us) (EP X pins σ Q) X.xe s
def TruR (X : Cx) (r : V → Hp → (Bool → Hp → Prop) → Prop) : Prop :=
  ∀ (pins : List (Addr × Obj)) (s : Shared) (σ : St) (H : Hp) (x : V) (v : Value) (Q : Bool → Hp → Prop), Inv X pins σ H s → RelV x v → r x H Q →
    wpAny (model X.prog X.w) X.A (truthy v) (TP X pins σ Q) X.xe s
def tOp (r : R2) (ta tb : TE) : TE := fun σ H Q => ta σ H fun x H1 => tb σ H1 fun y H2 => r x y H2 Q
def tUn (r : V → Hp → VK → Prop) (ta : TE) : TE := fun σ H Q => ta σ H fun x H1 => r x H1 Q
def rI (C : Int → Int → Prop) (g : Int → Int → V) : R2 := fun x y H Q => ∃ i j, x = .int i ∧ y = .int j ∧ C i j ∧ Q (g i j) H
def rI0 (g : Int → Int → V) : R2 := fun x y H Q => ∃ i j, x = .int i ∧ y = .int j ∧ Q (g i j) H
def rU (g : Int → V) : V → Hp → VK → Prop := fun x H Q => ∃ i, x = .int i ∧ Q (g i) H
section
variable {X : Cx} {a b c : Expr} {ta tb tc : TE} {pos : Pos}
theorem binT (ha : PE X a ta) (hb : PE X b tb) {pins : List (Addr × Obj)} {s : Shared} {σ : St} {H : Hp} {R : V → V → Hp → Prop} (I : Inv X pins σ H s)
    (h : ta σ H fun x H1 => tb σ H1 fun y H2 => R x y H2) {Q : Value → Shared → Prop} {f : Value → Value → Sem Value}
    (hf : ∀ v u s2 x y H2, Inv X pins σ H2 s2 → RelV x v → RelV y u → R x y H2 → wpAny (model X.prog X.w) X.A (f v u) Q X.xe s2) :
    wpAny (model X.prog X.w) X.A (eval a X.env) (fun v s₁ => wpAny (model X.prog X.w) X.A (eval b X.env) (fun u s₂ => wpAny (model X.prog X.w) X.A (f v u) Q X.xe s₂) X.xe s₁) X.xe s := by
  refine thn (ha pins s σ H _ I h) fun v s1 ⟨x, H1, I1, r1, q1⟩ => ?_
  refine thn (hb pins s1 σ H1 _ I1 q1) fun u s2 ⟨y, H2, I2, r2, q2⟩ => ?_
  exact hf v u s2 x y H2 I2 r1 r2 q2
theorem pe_op {op : Operator} {r : R2} (ho : OpR X (binaryOp op) r) (ha : PE X a ta) (hb : PE X b tb) : PE X (.BinOp a op b pos) (tOp r ta tb) := by
  intro pins s σ H Q I h
  exact wpAny_BinOp (binT ha hb I h fun v u s2 x y H2 I2 rx ry q => ho pins s2 σ H2 x y v u Q I2 rx ry q)
theorem pe_un {op : UnaryOp} {r : V → Hp → VK → Prop} (ho : UnR X (unaryOp op) r) (ha : PE X a ta) : PE X (.UnaryOp op a pos) (tUn r ta) := by
  intro pins s σ H Q I h
  exact UnaryOp_ (thn (ha pins s σ H _ I h) fun v s1 ⟨x, H1, I1, r1, q1⟩ => ho pins s1 σ H1 x v Q I1 r1 q1)
theorem opI {f : Value → Value → Sem Value} {C : Int → Int → Prop} {g : Int → Int → Int}
    (rule : ∀ (i j : Int) (t u : Tok) (s : Shared) (Q : Value → Shared → Prop) (E : Value → Shared → Prop), C i j → Q (.int (g i j) s.toks) { s with toks := s.toks + 1 } → wpAny (model X.prog X.w) X.A (f (.int i t) (.int j u)) Q E s) :
    OpR X f (rI C fun i j => .int (g i j)) := by
  intro pins s σ H x y v u Q I rx ry h
  obtain ⟨i, j, rfl, rfl, hc, q⟩ := h
  obtain ⟨t, rfl⟩ := rx
  obtain ⟨t', rfl⟩ := ry
  exact rule i j t t' s _ _ hc ⟨.int (g i j), H, I.tok _, ⟨_, rfl⟩, q⟩
theorem opI0 {f : Value → Value → Sem Value} {g : Int → Int → Int}
    (rule : ∀ (i j : Int) (t u : Tok) (s : Shared) (Q : Value → Shared → Prop) (E : Value → Shared → Prop), Q (.int (g i j) s.toks) { s with toks := s.toks + 1 } → wpAny (model X.prog X.w) X.A (f (.int i t) (.int j u)) Q E s) :
    OpR X f (rI0 fun i j => .int (g i j)) := by
  intro pins s σ H x y v u Q I rx ry h
  obtain ⟨i, j, rfl, rfl, q⟩ := h
  obtain ⟨t, rfl⟩ := rx
  obtain ⟨t', rfl⟩ := ry
  exact rule i j t t' s _ _ ⟨.int (g i j), H, I.tok _, ⟨_, rfl⟩, q⟩
theorem opB0 {f : Value → Value → Sem Value} {g : Int → Int → Bool}
    (rule : ∀ (i j : Int) (t u : Tok) (s : Shared) (Q : Value → Shared → Prop) (E : Value → Shared → Prop), Q (.bool (g i j)) s → wpAny (model X.prog X.w) X.A (f (.int i t) (.int j u)) Q E s) :
    OpR X f (rI0 fun i j => .bl (g i j)) := by
  intro pins s σ H x y v u Q I rx ry h
  obtain ⟨i, j, rfl, rfl, q⟩ := h
  obtain ⟨t, rfl⟩ := rx
  obtain ⟨t', rfl⟩ := ry
  exact rule i j t t' s _ _ ⟨.bl (g i j), H, I, rfl, q⟩
def CDiv (i j : Int) : Prop := 0 < j ∧ j < 1073741824
def CPow (i j : Int) : Prop := 0 ≤ j ∧ j ≤ 1000000 ∧ i.natAbs < 2 ^ 64
def CMul (i j : Int) : Prop := (-(2 ^ 64) < i ∧ i < 2 ^ 64) ∨ (-(2 ^ 64) < j ∧ j < 2 ^ 64)
theorem CMul.ok {i j : Int} (h : CMul i j) : IntMulOk i j := by
  rcases h with ⟨h1, h2⟩ | ⟨h1, h2⟩
  · exact .of_left (intBits_le_64 h1 h2)
  · exact .of_right (intBits_le_64 h1 h2)
theorem op_add : OpR X (binaryOp .Add) (rI0 fun i j => .int (i + j)) := opI0 fun _ _ _ _ _ _ _ q => add_int q
theorem op_sub : OpR X (binaryOp .Sub) (rI0 fun i j => .int (i - j)) := opI0 fun _ _ _ _ _ _ _ q => sub_int q
theorem op_mul : OpR X (binaryOp .Mult) (rI CMul fun i j => .int (i * j)) := opI fun _ _ _ _ _ _ _ hc q => mul_int q hc.ok
theorem op_fdiv : OpR X (binaryOp .FloorDiv) (rI CDiv fun i j => .int (i / j)) := opI fun i j _ _ _ _ _ hc q => by
  have h1 : (0 : Int) < j := hc.1
  have h2 : j < 1073741824 := hc.2
  exact floordiv_int (by omega) (by rw [Int.fdiv_eq_ediv_of_nonneg i (by omega)]; exact q) (.inl (PyProof.noPylong_small (by omega)))
theorem op_mod : OpR X (binaryOp .Mod) (rI (fun _ j => 0 < j) fun i j => .int (i % j)) := opI fun i j _ _ _ _ _ hc q => by
  have h1 : (0 : Int) < j := hc
  exact mod_int' (by omega) (by rw [Int.fmod_eq_emod_of_nonneg i (by omega)]; exact q)
theorem op_pow : OpR X (binaryOp .Pow) (rI CPow fun i j => .int (i ^ j.toNat)) := opI fun _ _ _ _ _ _ _ hc q => pow_int_small hc.1 hc.2.1 hc.2.2 q
theorem iop_mul : OpR X (inplaceOp .Mult) (rI CMul fun i j => .int (i * j)) := opI fun _ _ _ _ _ _ _ hc q => imul_int q hc.ok
theorem unI {f : Value → Sem Value} {g : Int → Int}
    (rule : ∀ (i : Int) (t : Tok) (s : Shared) (Q : Value → Shared → Prop) (E : Value → Shared → Prop), Q (.int (g i) s.toks) { s with toks := s.toks + 1 } → wpAny (model X.prog X.w) X.A (f (.int i t)) Q E s) :
    UnR X f (rU fun i => .int (g i)) := by
  intro pins s σ H x v Q I rx h
  obtain ⟨i, rfl, q⟩ := h
  obtain ⟨t, rfl⟩ := rx
  exact rule i t s _ _ ⟨.int (g i), H, I.tok _, ⟨_, rfl⟩, q⟩
theorem un_neg : UnR X (unaryOp .USub) (rU fun i => .int (-i)) := unI fun _ _ _ _ _ q => neg_int q
end
def scal : V → V → Bool
  | .non, .non => true | .non, .int _ => true | .int _, .non => true | .non, .bl _ => true | .bl _, .non => true | .non, .str _ => true | .str _, .non => true
  | .int _, .int _ => true | .bl _, .bl _ => true | .str _, .str _ => true | .byt _, .byt _ => true
  | .int _, .str _ => true | .str _, .int _ => true | .bl _, .str _ => true | .str _, .bl _ => true
  | _, _ => false
def rEq : R2 := fun x y H Q => scal x y = true ∧ Q (.bl (decide (x = y))) H
def rNe : R2 := fun x y H Q => scal x y = true ∧ Q (.bl (!decide (x = y))) H
theorem dec_int {i j : Int} : decide (V.int i = V.int j) = (i == j) := by
  rw [Bool.eq_iff_iff]
  simp
theorem dec_bl {i j : Bool} : decide (V.bl i = V.bl j) = (i == j) := by
  rw [Bool.eq_iff_iff]
  simp
theorem dec_str {i j : Str} : decide (V.str i = V.str j) = (i == j) := by
  rw [Bool.eq_iff_iff]
  simp
theorem dec_byt {i j : Array UInt8} : decide (V.byt i = V.byt j) = (i.toList == j.toList) := by
  rw [Bool.eq_iff_iff]
  cases i
  cases j
  simp
section
variable {X : Cx} {a b c : Expr} {ta tb tc : TE} {pos : Pos}
theorem fin_bl {pins : List (Addr × Obj)} {σ : St} {H : Hp} {s : Shared} {Q : VK} {k k' : Bool} (I : Inv X pins σ H s) (q : Q (.bl k) H) (e : k = k') : EP X pins σ Q (.bool k') s := by
  subst e
  exact ⟨.bl k, H, I, rfl, q⟩
theorem op_eq : OpR X (compareOp .Eq) rEq := by
  intro pins s σ H x y v u Q I rx ry h
  obtain ⟨hs, q⟩ := h
  cases x with
  | non =>
    cases rx
    cases y with
    | non => cases ry; exact PySem.EqNone.eq_none_none (fin_bl I q (by simp))
    | bl j => cases ry; exact PySem.EqNone.eq_none_bool (fin_bl I q (by simp))
    | int j => obtain ⟨t', rfl⟩ := ry; exact PySem.EqNone.eq_none_int (fin_bl I q (by simp))
    | str j => obtain ⟨t', rfl⟩ := ry; exact PySem.EqNone.eq_none_str (fin_bl I q (by simp))
    | _ => exact absurd (show false = true from hs) Bool.false_ne_true
  | bl i =>
    cases rx
    cases y with
    | non => cases ry; exact PySem.EqNone.eq_bool_none (fin_bl I q (by simp))
    | bl j => cases ry; exact eq_bool (fin_bl I q dec_bl)
    | str j => obtain ⟨t', rfl⟩ := ry; exact PySem.EqMixed.eq_bool_str (fin_bl I q (by simp))
    | _ => exact absurd (show false = true from hs) Bool.false_ne_true
  | int i =>
    obtain ⟨t, rfl⟩ := rx
    cases y with
    | non => cases ry; exact PySem.EqNone.eq_int_none (fin_bl I q (by simp))
    | int j => obtain ⟨t', rfl⟩ := ry; exact eq_int (fin_bl I q dec_int)
    | str j => obtain ⟨t', rfl⟩ := ry; exact PySem.EqMixed.eq_int_str (fin_bl I q (by simp))
    | _ => exact absurd (show false = true from hs) Bool.false_ne_true
  | str i =>
    obtain ⟨t, rfl⟩ := rx
    cases y with
    | non => cases ry; exact PySem.EqNone.eq_str_none (fin_bl I q (by simp))
    | bl j => cases ry; exact PySem.EqMixed.eq_str_bool (fin_bl I q (by simp))
    | int j => obtain ⟨t', rfl⟩ := ry; exact PySem.EqMixed.eq_str_int (fin_bl I q (by simp))
    | str j => obtain ⟨t', rfl⟩ := ry; exact eq_str (fin_bl I q dec_str)
    | _ => exact absurd (show false = true from hs) Bool.false_ne_true
  | byt i =>
    obtain ⟨t, rfl⟩ := rx
    cases y with
    | byt j => obtain ⟨t', rfl⟩ := ry; exact PySem.W.eq_bytes (fin_bl I q dec_byt)
    | _ => exact absurd (show false = true from hs) Bool.false_ne_true
  | _ => cases y <;> exact absurd (show false = true from hs) Bool.false_ne_true
theorem op_ne : OpR X (compareOp .NotEq) rNe := by
  intro pins s σ H x y v u Q I rx ry h
  obtain ⟨hs, q⟩ := h
  cases x with
  | non =>
    cases rx
    cases y with
    | non => cases ry; exact PySem.EqNone.ne_none_none (fin_bl I q (by simp))
    | bl j => cases ry; exact PySem.EqNone.ne_none_bool (fin_bl I q (by simp))
    | int j => obtain ⟨t', rfl⟩ := ry; exact PySem.EqNone.ne_none_int (fin_bl I q (by simp))
    | str j => obtain ⟨t', rfl⟩ := ry; exact PySem.EqNone.ne_none_str (fin_bl I q (by simp))
    | _ => exact absurd (show false = true from hs) Bool.false_ne_true
  | bl i =>
    cases rx
    cases y with
    | non => cases ry; exact PySem.EqNone.ne_bool_none (fin_bl I q (by simp))
    | bl j => cases ry; exact ne_bool (fin_bl I q (congrArg not dec_bl))
    | str j => obtain ⟨t', rfl⟩ := ry; exact PySem.EqMixed.ne_bool_str (fin_bl I q (by simp))
    | _ => exact absurd (show false = true from hs) Bool.false_ne_true
  | int i =>
    obtain ⟨t, rfl⟩ := rx
    cases y with
    | non => cases ry; exact PySem.EqNone.ne_int_none (fin_bl I q (by simp))
    | int j => obtain ⟨t', rfl⟩ := ry; exact ne_int (fin_bl I q (congrArg not dec_int))
    | str j => obtain ⟨t', rfl⟩ := ry; exact PySem.EqMixed.ne_int_str (fin_bl I q (by simp))
    | _ => exact absurd (show false = true from hs) Bool.false_ne_true
  | str i =>
    obtain ⟨t, rfl⟩ := rx
    cases y with
    | non => cases ry; exact PySem.EqNone.ne_str_none (fin_bl I q (by simp))
    | bl j => cases ry; exact PySem.EqMixed.ne_str_bool (fin_bl I q (by simp))
    | int j => obtain ⟨t', rfl⟩ := ry; exact PySem.EqMixed.ne_str_int (fin_bl I q (by simp))
    | str j => obtain ⟨t', rfl⟩ := ry; exact ne_str (fin_bl I q (congrArg not dec_str))
    | _ => exact absurd (show false = true from hs) Bool.false_ne_true
  | byt i =>
    obtain ⟨t, rfl⟩ := rx
    cases y with
    | byt j => obtain ⟨t', rfl⟩ := ry; exact PySem.W.ne_bytes (fin_bl I q (congrArg not dec_byt))
    | _ => exact absurd (show false = true from hs) Bool.false_ne_true
  | _ => cases y <;> exact absurd (show false = true from hs) Bool.false_ne_true
theorem op_lt : OpR X (compareOp .Lt) (rI0 fun i j => .bl (decide (i < j))) := opB0 fun _ _ _ _ _ _ _ q => lt_int q
theorem op_le : OpR X (compareOp .LtE) (rI0 fun i j => .bl (decide (i ≤ j))) := opB0 fun _ _ _ _ _ _ _ q => le_int q
theorem op_ge : OpR X (compareOp .GtE) (rI0 fun i j => .bl (decide (j ≤ i))) := opB0 fun _ _ _ _ _ _ _ q => ge_int q
def isObj : HO → Bool
  | .lst _ => true
  | .ins _ _ _ => true
  | _ => false
theorem obj_there {pins : List (Addr × Obj)} {s : Shared} {σ : St} {H : Hp} {a : Addr} {o : HO} (I : Inv X pins σ H s) (h : H a = some o) (p : isObj o = true) : ∃ ob, s.heap.get? a = some ob ∧ ob.cls ≠ .type "tuple" := by
  cases o with
  | lst xs =>
    obtain ⟨_, its, n, _, e⟩ : xs.length ≤ sizeLine ∧ ∃ (its : List Value) (n : Nat), Vals xs its ∧ s.heap.get? a = some { cls := .type "list", data := .seq its.toArray n } := I.hok a _ h
    exact ⟨_, e, (by show Value.type "list" ≠ .type "tuple"; decide +kernel)⟩
  | ins C dx fs =>
    have x := I.hok a _ h
    obtain ⟨_, _, _, e, _⟩ := x
    exact ⟨_, e, (by show Value.ref C ≠ .type "tuple"; exact fun z => by cases z)⟩
  | _ => exact absurd (show false = true from p) Bool.false_ne_true
theorem OpR.or {f : Value → Value → Sem Value} {r r' : R2} (h : OpR X f r) (h' : OpR X f r') : OpR X f (fun x y H Q => r x y H Q ∨ r' x y H Q) := by
  intro pins s σ H x y v u Q I rx ry q
  rcases q with q | q
  · exact h pins s σ H x y v u Q I rx ry q
  · exact h' pins s σ H x y v u Q I rx ry q
theorem nomark (b : Expr) {op : CmpOp} (h : op ≠ .In := by decide) (h2 : op ≠ .NotIn := by decide) : behindInMarks op b = false := by
  have e1 : (op == CmpOp.In) = false := by cases op <;> first | rfl | exact absurd rfl h
  have e2 : (op == CmpOp.NotIn) = false := by cases op <;> first | rfl | exact absurd rfl h2
  cases b <;> simp [behindInMarks, e1, e2]
theorem pe_cmpR {op : CmpOp} {r : R2} (ho : OpR X (compareOp op) r) (ha : PE X a ta) (hb : PE X b tb) (hm : behindInMarks op b = false) : PE X (.Compare a [op] [b] pos) (tOp r ta tb) := by
  intro pins s σ H Q I h
  exact wpAny_Compare1 (binT ha hb I h fun v u s2 x y H2 I2 rx ry q => ho pins s2 σ H2 x y v u Q I2 rx ry q) hm
def tTest (t : TE) : TT := fun σ H Q => t σ H fun x H' => ∃ k, x = .bl k ∧ Q k H'
theorem pt_cmpR {op : CmpOp} {r : R2} (ho : OpR X (compareOp op) r) (ha : PE X a ta) (hb : PE X b tb) (hm : behindInMarks op b = false) : PT X (.Compare a [op] [b] pos) (tTest (tOp r ta tb)) := by
  intro pins s σ H Q I h
  refine wpAny_isTrue_Compare1 (thn (ha pins s σ H _ I h) fun v s1 ⟨x, H1, I1, r1, q1⟩ => thn (hb pins s1 σ H1 _ I1 q1) fun u s2 ⟨y, H2, I2, r2, q2⟩ =>
    thn (ho pins s2 σ H2 x y v u _ I2 r1 r2 q2) fun c s3 ⟨z, H3, I3, r3, k, e, q3⟩ => ?_) hm
  subst e
  cases r3
  exact wpAny_truthy_bool ⟨H3, I3, q3⟩
def tChain (r r' : R2) (ta tb tc : TE) : TE := fun σ H Q => ta σ H fun x H1 => tb σ H1 fun y H2 => r x y H2 fun z H3 => ∃ k, z = .bl k ∧
  (if k = true then tc σ H3 fun w' H4 => r' y w' H4 Q else Q (.bl false) H3)
theorem pe_chain {op op' : CmpOp} {r r' : R2} (ho : OpR X (compareOp op) r) (ho' : OpR X (compareOp op') r') (ha : PE X a ta) (hb : PE X b tb) (hc : PE X c tc)
    (hm : lastMarks [op, op'] [b, c] = false := by with_unfolding_all rfl) : PE X (.Compare a [op, op'] [b, c] pos) (tChain r r' ta tb tc) := by
  intro pins s σ H Q I h
  refine Compare_chain (thn (ha pins s σ H _ I h) fun v s1 ⟨x, H1, I1, r1, q1⟩ => chain_link (thn (hb pins s1 σ H1 _ I1 q1) fun u s2 ⟨y, H2, I2, r2, q2⟩ =>
    thn (ho pins s2 σ H2 x y v u _ I2 r1 r2 q2) fun d s3 ⟨z, H3, I3, r3, k, e, q3⟩ => ?_)) hm
  subst e
  cases r3
  refine wpAny_truthy_bool ?_
  cases k with
  | false => exact ite_ff ⟨.bl false, H3, I3, rfl, q3⟩
  | true => exact ite_tt (chain_last (thn (hc pins s3 σ H3 _ I3 q3) fun w' s4 ⟨z', H4, I4, r4, q4⟩ => ho' pins s4 σ H4 y z' u w' Q I4 r2 r4 q4))
theorem pt_chain {op op' : CmpOp} {r r' : R2} (ho : OpR X (compareOp op) r) (ho' : OpR X (compareOp op') r') (ha : PE X a ta) (hb : PE X b tb) (hc : PE X c tc)
    (hm : lastMarks [op, op'] [b, c] = false := by with_unfolding_all rfl) : PT X (.Compare a [op, op'] [b, c] pos) (tTest (tChain r r' ta tb tc)) := by
  intro pins s σ H Q I h
  refine isTrue_chain (thn (ha pins s σ H _ I h) fun v s1 ⟨x, H1, I1, r1, q1⟩ => test_link (thn (hb pins s1 σ H1 _ I1 q1) fun u s2 ⟨y, H2, I2, r2, q2⟩ =>
    thn (ho pins s2 σ H2 x y v u _ I2 r1 r2 q2) fun d s3 ⟨z, H3, I3, r3, k, e, q3⟩ => ?_)) hm
  subst e
  cases r3
  refine wpAny_truthy_bool ?_
  cases k with
  | false =>
    obtain ⟨k', e', q'⟩ := q3
    cases e'
    exact ite_ff ⟨H3, I3, q'⟩
  | true =>
    refine ite_tt (test_last (thn (hc pins s3 σ H3 _ I3 q3) fun w' s4 ⟨z', H4, I4, r4, q4⟩ => thn (ho' pins s4 σ H4 y z' u w' _ I4 r2 r4 q4) fun d' s5 ⟨z2, H5, I5, r5, k2, e2, q5⟩ => ?_))
    subst e2
    cases r5
    exact wpAny_truthy_bool ⟨H5, I5, q5⟩
def TruV (K : PySem.W.Frag) (x : V) (H : Hp) (k : Bool) : Prop :=
  match x with
  | .non => k = false
  | .bl b => k = b
  | .int i => k = (i != 0)
  | .str y => y.length ≤ sizeLine ∧ k = ((y.length : Int) != 0)
  | .byt y => y.size ≤ sizeLine ∧ k = ((y.size : Int) != 0)
  | .ref p => (∃ xs, SqL K H p xs ∧ k = !xs.isEmpty) ∨ (∃ xs, SqT K H p xs ∧ k = !xs.isEmpty) ∨ ∃ kvs, H p = some (.dK kvs) ∧ k = !kvs.isEmpty
  | _ => False
theorem isEmpty_kv {κ : Type} {kvs : List (κ × V)} {vs : List (κ × Value)} (r : KV kvs vs) : (!vs.isEmpty) = !kvs.isEmpty := by
  cases r <;> rfl
theorem isEmpty_of {xs : List V} {its : List Value} (r : Vals xs its) : (!its.toArray.isEmpty) = !xs.isEmpty := by
  cases r <;> simp
theorem line63 : (sizeLine : Nat) < 2 ^ 63 := by rw [sizeLine_eq]; decide
theorem tru_ok : TruR X (fun x H Q => ∃ k, TruV X.K x H k ∧ Q k H) := by
  intro pins s σ H x v Q I rx h
  obtain ⟨k, e, q⟩ := h
  have hl := line63
  have hs : sizeLine = 16777216 := sizeLine_eq
  cases x with
  | non =>
    cases rx
    have e' : k = false := e
    subst e'
    exact truthy_none ⟨H, I, q⟩
  | bl b =>
    cases rx
    have e' : k = b := e
    subst e'
    exact wpAny_truthy_bool ⟨H, I, q⟩
  | int i =>
    obtain ⟨t, rfl⟩ := rx
    have e' : k = (i != 0) := e
    subst e'
    exact PySem.P.truthy_int ⟨H, I, q⟩
  | str y =>
    obtain ⟨t, rfl⟩ := rx
    obtain ⟨hy, e'⟩ : y.length ≤ sizeLine ∧ k = ((y.length : Int) != 0) := e
    subst e'
    exact PySem.P.truthy_str (by omega) ⟨H, I.tok _, q⟩
  | byt y =>
    obtain ⟨t, rfl⟩ := rx
    obtain ⟨hy, e'⟩ : y.size ≤ sizeLine ∧ k = ((y.size : Int) != 0) := e
    subst e'
    exact PySem.W.truthy_bytes (by omega) ⟨H, I.tok _, q⟩
  | ref p =>
    cases rx
    have e' : (∃ xs, SqL X.K H p xs ∧ k = !xs.isEmpty) ∨ (∃ xs, SqT X.K H p xs ∧ k = !xs.isEmpty) ∨ ∃ kvs, H p = some (.dK kvs) ∧ k = !kvs.isEmpty := e
    rcases e' with ⟨xs, hx, e'⟩ | ⟨xs, hx, e'⟩ | ⟨kvs, hx, e'⟩
    · subst e'
      obtain ⟨its, r, pl, hz⟩ := I.list hx
      have hlen := r.length
      exact wpAny_truthy_list pl.isList (by simp only [List.size_toArray]; omega) ⟨H, I.tok _, by rw [isEmpty_of r]; exact q⟩
    · subst e'
      obtain ⟨its, r, pl, hz⟩ := I.tuple hx
      have hlen := r.length
      exact truthy_tuple pl (by simp only [List.size_toArray]; omega) ⟨H, I.tok _, by rw [isEmpty_of r]; exact q⟩
    · subst e'
      obtain ⟨hz, hS, vs, r, m⟩ : kvs.length ≤ sizeLine ∧ (p == sysModules) = false ∧ ∃ vs, KV kvs vs ∧ s.heap.DictOf (mixKind X.prog X.w) p vs := I.hok p _ hx
      have hlen : kvs.length = vs.length := Paired.length r
      exact wpAny_truthy_dict hS m (by omega) ⟨H, I.tok _, by rw [isEmpty_kv r]; exact q⟩
  | _ => exact (show False from e).elim
theorem pt_truth (ha : PE X a ta) (he : ∀ whole, isTrue a X.env whole = (do let v ← whole; standAt a.pos; holding [v] (truthy v))) :
    PT X a (fun σ H Q => ta σ H fun x H' => ∃ k, TruV X.K x H' k ∧ Q k H') := by
  intro pins s σ H Q I h
  exact isTrue_plain (thn (ha pins s σ H _ I h) fun v s1 ⟨x, H1, I1, r1, q1⟩ => tru_ok pins s1 σ H1 x v Q I1 r1 q1) (he _)
theorem vals1 {x : V} {us : List Value} (r : Vals [x] us) : ∃ u, us = [u] ∧ RelV x u := by
  cases r with
  | cons r1 r2 => cases r2; exact ⟨_, rfl, r1⟩
theorem vals2 {x y : V} {us : List Value} (r : Vals [x, y] us) : ∃ u w', us = [u, w'] ∧ RelV x u ∧ RelV y w' := by
  cases r with
  | cons r1 r2 =>
    cases r2 with
    | cons r3 r4 => cases r4; exact ⟨_, _, rfl, r1, r3⟩
theorem call_max2 (hc : X.calm = true) : CallR X (.builtin "max") (fun xs H Q => ∃ i j, xs = [.int i, .int j] ∧ Q (.int (if j > i then j else i)) H) := by
  intro pins s σ H xs us Q I r h
  obtain ⟨i, j, rfl, q⟩ := h
  obtain ⟨u, w', rfl, ⟨t, rfl⟩, ⟨t', rfl⟩⟩ := vals2 r
  refine max_two_ints (I.ok.hd hc) fun h' tk k => ⟨_, H, I.kept k, ?_, q⟩
  by_cases hj : j > i
  · rw [if_pos hj, if_pos hj]; exact ⟨_, rfl⟩
  · rw [if_neg hj, if_neg hj]; exact ⟨_, rfl⟩
theorem call_min2 (hc : X.calm = true) : CallR X (.builtin "min") (fun xs H Q => ∃ i j, xs = [.int i, .int j] ∧ Q (.int (if j < i then j else i)) H) := by
  intro pins s σ H xs us Q I r h
  obtain ⟨i, j, rfl, q⟩ := h
  obtain ⟨u, w', rfl, ⟨t, rfl⟩, ⟨t', rfl⟩⟩ := vals2 r
  refine min_two_ints (I.ok.hd hc) fun h' tk k => ⟨_, H, I.kept k, ?_, q⟩
  by_cases hj : j < i
  · rw [if_pos hj, if_pos hj]; exact ⟨_, rfl⟩
  · rw [if_neg hj, if_neg hj]; exact ⟨_, rfl⟩
theorem call_divmod : CallR X (.builtin "divmod") (fun xs H Q => ∃ i j, xs = [.int i, .int j] ∧ CDiv i j ∧ ∀ p, H p = none → Q (.ref p) (upd H p (.tup [.int (i / j), .int (i % j)]))) := by
  intro pins s σ H xs us Q I r h
  obtain ⟨i, j, rfl, ⟨h1, h2⟩, q⟩ := h
  obtain ⟨u, w', rfl, ⟨t, rfl⟩, ⟨t', rfl⟩⟩ := vals2 r
  refine divmod_int (by omega) ?_ (.inl (PyProof.noPylong_small (by omega)))
  rw [Int.fdiv_eq_ediv_of_nonneg i (by omega), Int.fmod_eq_emod_of_nonneg i (by omega)]
  have hn : H s.heap.objs.size = none := I.hok.fresh (Nat.le_refl _)
  refine ⟨.ref s.heap.objs.size, _, ?_, rfl, q _ hn⟩
  refine I.laid (fun b o e => Heap.get?_push_of_some _ e) (Nat.le_refl _) ⟨by simp only [List.length_cons, List.length_nil]; rw [sizeLine_eq]; decide, [.int (i / j) s.toks, .int (i % j) (s.toks + 1)], .cons ⟨_, rfl⟩ (.cons ⟨_, rfl⟩ .nil), ?_⟩
  exact ⟨_, Heap.get?_push_size s.heap rfl, rfl, 0, rfl⟩
end
end L2
namespace L2
open PySem PySem.Spec PyProof.Rows
structure ObjM (h : Heap) (x dx C : Addr) (mA : Str → Option Value) : Prop where
  obj : h.get? x = some (PySem.W.instObj C dx)
  ns : h.Ns1 dx mA
  ne : dx ≠ x
theorem lookIn_ns {h : Heap} {dx : Addr} {mA : Str → Option Value} (n : h.Ns1 dx mA) : ∃ od, h.get? dx = some od ∧ ∀ name, PySem.W.lookIn name od = some (mA name) := by
  obtain ⟨o, es, ep, ho, hd, hk, _, hm⟩ := n
  refine ⟨o, ho, fun name => ?_⟩
  have e := hm name
  unfold nsFind findBy at e
  rw [← Array.find?_toList] at e
  unfold PySem.W.lookIn
  rw [hd]
  dsimp only
  split
  · rename_i y q
    rw [q] at e
    exact congrArg some e
  · rename_i q
    rw [q] at e
    have a : es.toList.any (·.refKey) = false := by
      rw [List.any_eq_false]
      intro y hy
      obtain ⟨z, t, hkey⟩ := hk y (Array.mem_toList_iff.mp hy)
      simp [DictEntry.refKey, hkey]
    have a' : ¬ es.toList.any (·.refKey) = true := by rw [a]; exact Bool.false_ne_true
    rw [if_neg a']
    exact congrArg some e
theorem ObjM.look {h : Heap} {x dx C : Addr} {mA : Str → Option Value} (I : ObjM h x dx C mA) : ∃ od, PySem.W.InstAt h x (PySem.W.instObj C dx) C (some od) ∧ ∀ name, PySem.W.lookIn name od = some (mA name) :=
  let ⟨od, ho, hl⟩ := lookIn_ns I.ns
  ⟨od, ⟨I.obj, rfl, rfl, ho⟩, hl⟩
section
variable {prog : Program} {w : World} {A : Around} {E : Value → Shared → Prop} {s : Shared} {K : PySem.W.Frag} {x dx C f : Addr} {mA : Str → Option Value} {name : Str} {v : Value}
end
section
variable {P : Program} {w : World} {H H' : Hp} {h h' : Heap} {a C dx : Addr} {fs fs' : List (Str × V)}
theorem ins_get (hok : HOk P w H h) (e : H a = some (.ins C dx fs)) : ∃ mA, ObjM h a dx C mA ∧ (∀ f, RelO (fs.lookup f) (mA f)) ∧ PySem.Within mA (fs.map (·.1)) ∧ fs.length ≤ 1000 ∧ H dx = some (.own a) := by
  obtain ⟨d, z, ne, ob, mA, n, r, q⟩ := (show ObjOk P w H h a (.ins C dx fs) from hok a _ e)
  exact ⟨mA, ⟨ob, n, ne⟩, r, q, z, d⟩
end
structure Cls (K : PySem.W.Frag) (C : Addr) : Prop where
  pg : PySem.W.plainGet K C Str.empty = true
  hd : PySem.W.hasDictIn K C = true
  po : PySem.W.plainOver K C = true
  sa : PySem.W.findIn K (.ref C) "__setattr__" = some (some (.builtin "object.__setattr__"))
theorem Cls.get {K : PySem.W.Frag} {C : Addr} (c : Cls K C) (f : Str) : PySem.W.plainGet K C f = true := c.pg
section
variable {X : Cx} {pins : List (Addr × Obj)} {σ : St} {H : Hp} {s : Shared} {a C dx : Addr} {fs : List (Str × V)} {f : Str} {v : V} {A : Around} {E : Value → Shared → Prop}
end
section
variable {X : Cx} {o e value : Expr} {f : Str} {pos pos' tpos : Pos} {ta tv : TE}
end
section
variable {X : Cx} {pins : List (Addr × Obj)} {σ : St} {H : Hp} {s : Shared} {A : Around} {E : Value → Shared → Prop} {Q : Value → Shared → Prop} {c : Value} {b : Bool}
inductive TyOf (K : PySem.W.Frag) (H : Hp) : V → Value → Prop where
  | non : TyOf K H .non (.type "NoneType")
  | bl (x : Bool) : TyOf K H (.bl x) (.type "bool")
  | int (i : Int) : TyOf K H (.int i) (.type "int")
  | str (x : Str) : TyOf K H (.str x) (.type "str")
  | flt (x : UInt64) : TyOf K H (.flt x) (.type "float")
  | lst {a : Addr} {xs : List V} (e : H a = some (.lst xs)) : TyOf K H (.ref a) (.type "list")
  | frz {a : Addr} {o : Obj} {xs : List V} (e : H a = some (.frz o (.lst xs))) : TyOf K H (.ref a) (.type "list")
  | tup {a : Addr} {xs : List V} (e : H a = some (.tup xs)) : TyOf K H (.ref a) (.type "tuple")
  | dK {a : Addr} {kvs : List (Key × V)} (e : H a = some (.dK kvs)) : TyOf K H (.ref a) (.type "dict")
  | dT {a : Addr} {kvs : List (List Key × V)} (e : H a = some (.dT kvs)) : TyOf K H (.ref a) (.type "dict")
  | ins {a C dx : Addr} {fs : List (Str × V)} (e : H a = some (.ins C dx fs)) (cl : Cls K C) (ha : PySem.W.findIn K (.ref C) "__class__" = some (some (.builtin "object.__class__")))
      (hn : PySem.W.specialIn K (.builtin "object.__class__") "__get__" = some (some (.builtin "getset_descriptor.__get__"))) (htk : PySem.W.takesIn K (.builtin "object.__class__") = some true)
      (hm : PySem.W.mroIn K C (.type "object") = some true) : TyOf K H (.ref a) (.ref C)
theorem isinst_ok {x : V} {u t : Value} (I : Inv X pins σ H s) (rx : RelV x u) (ty : TyOf X.K H x t) (e : PySem.W.kitOne X.K t c = some b) (h : ∀ tk, Q (.bool b) { s with toks := tk }) :
    wpAny (model X.prog X.w) A (call (.builtin "isinstance") [u, c]) Q E s := by
  cases ty with
  | non => cases (show u = Value.none from rx); exact PySem.W.kia_one PySem.W.kitx_none I.kIn True.intro e (fun z => nomatch z) h
  | bl y => cases (show u = Value.bool y from rx); exact PySem.W.kia_one PySem.W.kitx_bool I.kIn True.intro e (fun z => nomatch z) h
  | int i => obtain ⟨t, q⟩ := (show ∃ t, u = Value.int i t from rx); cases q; exact PySem.W.kia_one PySem.W.kitx_int I.kIn True.intro e (fun z => nomatch z) h
  | str y => obtain ⟨t, q⟩ := (show ∃ t, u = Value.str y t from rx); cases q; exact PySem.W.kia_one PySem.W.kitx_str I.kIn True.intro e (fun z => nomatch z) h
  | flt y => obtain ⟨t, q⟩ := (show ∃ t, u = Value.float y t from rx); cases q; exact PySem.W.kia_one PySem.W.kitx_float I.kIn True.intro e (fun z => nomatch z) h
  | @lst a xs ea =>
    cases (show u = Value.ref a from rx)
    obtain ⟨_, _, n, _, h1⟩ := (show ObjOk X.prog X.w H s.heap a (.lst xs) from I.hok a _ ea)
    exact PySem.W.kia_one PySem.W.kitx_list I.kIn ⟨_, h1, rfl⟩ e (fun z => nomatch z) h
  | @frz a ob xs ea =>
    cases (show u = Value.ref a from rx)
    obtain ⟨_, _, _, n, _, h1⟩ := (show ObjOk X.prog X.w H s.heap a (.frz ob (.lst xs)) from I.hok a _ ea)
    exact PySem.W.kia_one PySem.W.kitx_list I.kIn ⟨_, h1, rfl⟩ e (fun z => nomatch z) h
  | @tup a xs ea =>
    cases (show u = Value.ref a from rx)
    obtain ⟨_, _, _, p⟩ := (show ObjOk X.prog X.w H s.heap a (.tup xs) from I.hok a _ ea)
    obtain ⟨o, h1, h2, _⟩ := p
    exact PySem.W.kia_one PySem.W.kitx_tuple I.kIn ⟨o, h1, h2⟩ e (fun z => nomatch z) h
  | @dK a kvs ea =>
    cases (show u = Value.ref a from rx)
    obtain ⟨_, _, vs, _, p⟩ := (show ObjOk X.prog X.w H s.heap a (.dK kvs) from I.hok a _ ea)
    obtain ⟨o, es, ep, h1, h2, _⟩ := p
    exact PySem.W.kia_one PySem.W.kitx_dict I.kIn ⟨o, h1, h2.1⟩ e (fun z => nomatch z) h
  | @dT a kvs ea =>
    cases (show u = Value.ref a from rx)
    obtain ⟨_, _, xs, _, o, es, ep, h1, h2, _⟩ := (show ObjOk X.prog X.w H s.heap a (.dT kvs) from I.hok a _ ea)
    exact PySem.W.kia_one PySem.W.kitx_dict I.kIn ⟨o, h1, h2.1⟩ e (fun z => nomatch z) h
  | @ins a C dx fs ea cl ha hn htk hm =>
    cases (show u = Value.ref a from rx)
    obtain ⟨mA, O, _⟩ := ins_get I.hok ea
    obtain ⟨od, J, _⟩ := O.look
    exact PySem.W.kia_one (PySem.W.kitx_own (cl.get _) cl.hd ha hn htk hm) I.kIn J e (fun z => nomatch z) h
end
end L2
namespace L2
open PySem PySem.Spec PyProof.Rows
structure Room (k : Nat) (A : Around) : Prop where
  hd : A.handled = none
  dp : A.depth + 3 * k + 5 < recursionLimit
  un : A.units + 16 * k + 200 < cLine
theorem Room.mono {j k : Nat} {A : Around} (r : Room k A) (h : j ≤ k) : Room j A := ⟨r.hd, by have := r.dp; omega, by have := r.un; omega⟩
theorem Room.deeper {k : Nat} {A : Around} (r : Room (k + 1) A) (env : Env) : Room k (A.deeper env) :=
  ⟨r.hd, by have := r.dp; show A.depth + 1 + 3 * k + 5 < _; omega, by have := r.un; show A.units + 3 + 16 * k + 200 < _; omega⟩
theorem Room.in1 {k : Nat} {A : Around} (r : Room (k + 1) A) : Room k A.in1 :=
  ⟨r.hd, by have := r.dp; show A.depth + 3 * k + 5 < _; omega, by have := r.un; show A.units + 1 + 16 * k + 200 < _; omega⟩
theorem Room.depth {k : Nat} {A : Around} (r : Room k A) : A.depth < recursionLimit := by have := r.dp; omega
theorem Room.units {k : Nat} {A : Around} (r : Room k A) : A.units + 64 < cLine := by have := r.un; omega
def tNil : TA := fun _ H Q => Q [] H
def tCons (ta : TE) (tr : TA) : TA := fun σ H Q => ta σ H fun x H1 => tr σ H1 fun xs H2 => Q (x :: xs) H2
section
variable {X : Cx} {e : Expr} {es : List Expr} {te : TE} {t : TA} {pos : Pos}
theorem pa_nil : PA X [] tNil := fun _ _ _ _ H Q I h => Calls.spliced_nil ⟨[], H, I, .nil, h⟩
theorem pa_cons (ha : PE X e te) (hr : PA X es t) (hs : starEach (e :: es) X.env = (false, eval e X.env) :: starEach es X.env := by rfl) : PA X (e :: es) (tCons te t) := by
  intro pos pins s σ H Q I h
  rw [hs]
  show wpAny _ _ (spliced ((false, eval e X.env) :: backTo pos (starEach es X.env))) _ _ s
  refine Calls.spliced_cons (thn (ha pins s σ H _ I h) fun u s1 ⟨x, H1, I1, r1, q1⟩ => ?_)
  exact thn (hr pos pins s1 σ H1 _ I1 q1) fun us s2 ⟨xs, H2, I2, r2, q2⟩ => ⟨x :: xs, H2, I2, .cons r1 r2, q2⟩
def tLst (t : TA) : TE := fun σ H Q => t σ H fun xs H1 => xs.length ≤ sizeLine ∧ ∀ p, H1 p = none → Q (.ref p) (upd H1 p (.lst xs))
theorem pe_lst (h : PA X es t) : PE X (.List es pos) (tLst t) := by
  intro pins s σ H Q I hq
  refine wpAny_List_spliced (thn (h pos pins s σ H _ I hq) fun us s1 ⟨xs, H1, I1, r, z, q⟩ => ⟨by rw [← r.length]; exact z, ?_⟩)
  have hf : H1 s1.heap.objs.size = none := I1.hok.fresh (Nat.le_refl _)
  refine ⟨.ref s1.heap.objs.size, upd H1 s1.heap.objs.size (.lst xs), I1.laid (t' := s1.toks) (fun b u e => Heap.get?_push_of_some _ e) (Nat.le_refl _) ?_, rfl, q _ hf⟩
  exact ⟨z, us, 0, r, Heap.get?_push_size _ rfl⟩
end
abbrev Sp := List V → Hp → VK → XK → Prop
abbrev CXT := List Env → Hp → Shared → XK → Value → Shared → Prop
structure Env0 (P : Program) (w : World) (K : PySem.W.Frag) (mg : Str → Option Value) (base : Heap) (A : Around) (outer : List Env) (s : Shared) (H : Hp) : Prop where
  frames : A.frames = some outer
  mod : Mod K mg base
  bs : ∀ b o, base.get? b = some o → s.heap.get? b = some o ∧ H b = none
  bsz : base.objs.size ≤ s.heap.objs.size
  funs : s.heap.FunFrames base outer
  frf : ∀ b ∈ frs outer, H b = none
  hok : HOk P w H s.heap
  bare : AllBare s.gens
def CE (outer : List Env) (P : Program) (w : World) (H : Hp) (s : Shared) (Q : VK) (u : Value) (s' : Shared) : Prop :=
  ∃ v H', s'.os = s.os ∧ AllBare s'.gens ∧ Un (frs outer) [] H H' s.heap s'.heap ∧ HOk P w H' s'.heap ∧ RelV v u ∧ Q v H'
def CR (CX : CXT) (outer : List Env) (P : Program) (w : World) (H : Hp) (s : Shared) (Q : VK) (E : XK) (r : Result) (s' : Shared) : Prop :=
  match r with
  | .ok (.ret u) => CE outer P w H s Q u s'
  | .ok _ => False
  | .error e => CX outer H s E e s'
structure FnOk (P : Program) (w : World) (K : PySem.W.Frag) (mg : Str → Option Value) (base : Heap) (CX : CXT) (k : Nat) (f : Addr) (fd : FuncData) (ps : List Str) (sp : Sp) : Prop where
  len : ∀ vs H Q E, sp vs H Q E → vs.length = ps.length
  run : ∀ (A : Around) (outer : List Env) (s : Shared) (H : Hp) (args : Args) (us : List Value) (vs : List V) (Q : VK) (E : XK), Room k A → Env0 P w K mg base A outer s H → BindsTo s fd args (ps.zip us) → Vals vs us → sp vs H Q E →
    codeAny (model P w) A (.call (.ref f) args) (CR CX outer P w H s Q E) s
theorem FnOk.mono {P : Program} {w : World} {K : PySem.W.Frag} {mg : Str → Option Value} {base : Heap} {CX : CXT} {j k : Nat} {f : Addr} {fd : FuncData} {ps : List Str} {sp : Sp} (F : FnOk P w K mg base CX j f fd ps sp) (h : j ≤ k) :
    FnOk P w K mg base CX k f fd ps sp := ⟨F.len, fun A outer s H args us vs Q E hr => F.run A outer s H args us vs Q E (hr.mono h)⟩
theorem FnOk.imp {P : Program} {w : World} {K : PySem.W.Frag} {mg : Str → Option Value} {base : Heap} {CX : CXT} {k : Nat} {f : Addr} {fd : FuncData} {ps : List Str} {sp sp' : Sp} (F : FnOk P w K mg base CX k f fd ps sp)
    (h : ∀ vs H Q E, sp' vs H Q E → sp vs H Q E) : FnOk P w K mg base CX k f fd ps sp' :=
  ⟨fun vs H Q E q => F.len vs H Q E (h _ _ _ _ q), fun A outer s H args us vs Q E hr he hb hv hs => F.run A outer s H args us vs Q E hr he hb hv (h _ _ _ _ hs)⟩
theorem Env0.in1 {P : Program} {w : World} {K : PySem.W.Frag} {mg : Str → Option Value} {base : Heap} {A : Around} {outer : List Env} {s : Shared} {H : Hp} (e : Env0 P w K mg base A outer s H) :
    Env0 P w K mg base A.in1 outer s H := ⟨e.frames, e.mod, e.bs, e.bsz, e.funs, e.frf, e.hok, e.bare⟩
section
variable {X : Cx} {pins : List (Addr × Obj)} {σ : St} {H : Hp} {s s' : Shared}
theorem Inv.env0 (I : Inv X pins σ H s) : Env0 X.prog X.w X.K X.mg X.base X.A X.stack s H :=
  ⟨I.ok.frames, I.ok.mod, I.bs, Nat.le_trans I.ok.bsz I.sz, I.stack, I.stkFree, I.hok, I.bare⟩
theorem Inv.after {Q : VK} {u : Value} (I : Inv X pins σ H s) (h : CE X.stack X.prog X.w H s Q u s') : EP X pins σ Q u s' := by
  obtain ⟨v, H', os, bare, un, hok, r, q⟩ := h
  obtain ⟨hh, g, d, t, os'⟩ := s'
  obtain rfl : os' = s.os := os
  exact ⟨v, H', I.call (h' := hh) (g' := g) (d' := d) (t' := t) (ch := []) un hok bare (fun b z => absurd z (by simp)), r, q⟩
end
def tCall (sp : Sp) (dvs : List V) (E : XK) (t : TA) : TE := fun σ H Q => t σ H fun vs H1 => sp (vs ++ dvs) H1 Q E
def Binds (K : PySem.W.Frag) (fd : FuncData) (ps : List Str) (ds : List Value) : Prop :=
  ∀ (s : Shared) (us : List Value), K.In s.heap → (us ++ ds).length = ps.length → BindsTo s fd ⟨us, []⟩ (ps.zip (us ++ ds))
theorem Binds.all {K : PySem.W.Frag} {fd : FuncData} {ps : List Str} (h : ∀ us : List Value, us.length = ps.length → bindArgs fd ⟨us, []⟩ = pure (ps.zip us)) : Binds K fd ps [] := fun s us _ hl => by
  rw [List.append_nil] at hl ⊢
  exact .of_eq (h us hl)
def Passes (CX : CXT) (X : Cx) (E : XK) : Prop := ∀ (pins : List (Addr × Obj)) (σ : St) (H : Hp) (s : Shared) (e : Value) (s' : Shared), Inv X pins σ H s → CX X.stack H s E e s' → X.xe e s'
section
variable {X : Cx} {CX : CXT} {k : Nat} {f C : Addr} {fd : FuncData} {ps : List Str} {sp : Sp} {dvs : List V} {ds : List Value} {E : XK} {x m : Str} {p pos apos : Pos} {e o : Expr} {es : List Expr} {ta : TE} {t : TA}
theorem run_fn {pins : List (Addr × Obj)} {σ : St} {H : Hp} {s : Shared} {Q : VK} {us : List Value} {vs : List V} (F : FnOk X.prog X.w X.K X.mg X.base CX k f fd ps sp) (hr : Room k X.A) (hb : Binds X.K fd ps ds) (hd : Vals dvs ds) (hx : Passes CX X E)
    (I : Inv X pins σ H s) (r : Vals vs us) (h : sp (vs ++ dvs) H Q E) : wpAny (model X.prog X.w) X.A (call (.ref f) us) (EP X pins σ Q) X.xe s := by
  have r2 : Vals (vs ++ dvs) (us ++ ds) := r.append hd
  have hl : (us ++ ds).length = ps.length := by rw [← r2.length]; exact F.len _ _ _ _ h
  refine wpAny_call (codeAny_mono (F.run X.A X.stack s H ⟨us, []⟩ (us ++ ds) (vs ++ dvs) Q E hr I.env0 (hb s us I.kIn hl) r2 h) fun r s' hq => ?_)
  cases r with
  | error e => exact hx pins σ H s e s' I hq
  | ok fl =>
    cases fl with
    | ret u => exact I.after hq
    | next => exact False.elim hq
    | brk => exact False.elim hq
    | cont => exact False.elim hq
theorem pe_call (F : FnOk X.prog X.w X.K X.mg X.base CX k f fd ps sp) (hr : Room k X.A) (hg : Gl X x) (hm : X.mg x = some (.ref f)) (hk : PySem.W.keepIn X.K (.ref f) = true) (hb : Binds X.K fd ps ds) (hd : Vals dvs ds) (hx : Passes CX X E)
    (ha : PA X (e :: es) t) (hdb : (x == ("__debug__" : Str)) = false := by decide) (he : starEach (e :: es) X.env = (false, eval e X.env) :: starEach es X.env := by rfl) (hpl : (backTo pos (starEach es X.env)).any (·.1) = false := by rfl) :
    PE X (.Call (.Name x p) (e :: es) [] pos) (tCall sp dvs E t) := by
  intro pins s σ H Q I h
  refine wpAny_Call_Name_kw (ld_glob I hg hm ?_ hdb)
  refine PySem.W.callWith_K (h₀ := X.base) I.ok.mod.kin hk (thn (ha pos pins s σ H _ I h) fun us s1 ⟨vs, H1, I1, r, q⟩ => ⟨I1.kIn, ?_⟩) he hpl
  exact run_fn F hr hb hd hx I1 r q
end
section
variable {X : Cx} {CX : CXT} {k : Nat} {f C : Addr} {fd : FuncData} {ps ks : List Str} {sp : Sp} {E : XK} {x m : Str} {p pos apos kpos : Pos} {e o : Expr} {es : List Expr} {kws : List Keyword} {te ta : TE} {t tk : TA} {nm : Option Str}
variable {g : List Value → List Value → List Value} {gV : List V → List V → List V}
end
structure FnScope (N P : List Str) (sc : Scope) : Prop where
  kind : sc.kind = .function
  co : sc.isCoroutine = false
  gen : sc.isGenerator = false
  nd : N.Nodup
  pre : N.take P.length = P
  par : ∀ x ∈ P, sc.names.lookup x = some .local ∨ sc.names.lookup x = some .cell
  nofree : ∀ y ∈ sc.names, y.2 ≠ .free
theorem bindL_out {kindOf : Str → Option NameKind} {x : Str} : ∀ {binds : List (Str × Value)} {m : Str → Option Value}, (∀ v, (x, v) ∉ binds) → bindL kindOf binds m x = m x
  | [], _, _ => rfl
  | (n, v) :: r, m, h => by
    unfold bindL
    rw [bindL_out fun w hw => h w (List.mem_cons_of_mem _ hw)]
    split
    · have : x ≠ n := by rintro rfl; exact h v List.mem_cons_self
      simp [this]
    · rfl
theorem bindC_out {kindOf : Str → Option NameKind} {x : Str} : ∀ {binds : List (Str × Value)} {m : Str → Option Value}, (∀ v, (x, v) ∉ binds) → bindC kindOf binds m x = m x
  | [], _, _ => rfl
  | (n, v) :: r, m, h => by
    unfold bindC
    rw [bindC_out fun w hw => h w (List.mem_cons_of_mem _ hw)]
    split
    · rfl
    · have : x ≠ n := by rintro rfl; exact h v List.mem_cons_self
      simp [this]
theorem bindL_get {kindOf : Str → Option NameKind} {x : Str} {v : Value} : ∀ {P : List Str} {vs : List Value} {i : Nat} {m : Str → Option Value}, P.Nodup → P[i]? = some x → vs[i]? = some v → kindOf x = some .local →
    bindL kindOf (P.zip vs) m x = some v
  | [], _, _, _, _, h, _, _ => by simp at h
  | _ :: _, [], _, _, _, _, h, _ => by simp at h
  | p :: P, w :: vs, 0, m, nd, h1, h2, hk => by
    simp at h1 h2; subst h1; subst h2
    show bindL kindOf ((p, w) :: P.zip vs) m p = _
    unfold bindL
    rw [bindL_out fun v hv => (List.nodup_cons.mp nd).1 (List.of_mem_zip hv).1, if_pos hk]
    simp
  | p :: P, w :: vs, i + 1, m, nd, h1, h2, hk => by
    show bindL kindOf ((p, w) :: P.zip vs) m x = _
    unfold bindL
    exact bindL_get (i := i) (List.nodup_cons.mp nd).2 (by simpa using h1) (by simpa using h2) hk
theorem bindC_get {kindOf : Str → Option NameKind} {x : Str} {v : Value} : ∀ {P : List Str} {vs : List Value} {i : Nat} {m : Str → Option Value}, P.Nodup → P[i]? = some x → vs[i]? = some v → kindOf x ≠ some .local →
    bindC kindOf (P.zip vs) m x = some v
  | [], _, _, _, _, h, _, _ => by simp at h
  | _ :: _, [], _, _, _, _, h, _ => by simp at h
  | p :: P, w :: vs, 0, m, nd, h1, h2, hk => by
    simp at h1 h2; subst h1; subst h2
    show bindC kindOf ((p, w) :: P.zip vs) m p = _
    unfold bindC
    rw [bindC_out fun v hv => (List.nodup_cons.mp nd).1 (List.of_mem_zip hv).1, if_neg hk]
    simp
  | p :: P, w :: vs, i + 1, m, nd, h1, h2, hk => by
    show bindC kindOf ((p, w) :: P.zip vs) m x = _
    unfold bindC
    exact bindC_get (i := i) (List.nodup_cons.mp nd).2 (by simpa using h1) (by simpa using h2) hk
def start (N : List Str) (vs : List V) : St := vs.map some ++ List.replicate (N.length - vs.length) none
def cxOf (CX : CXT) (P : Program) (w : World) (K : PySem.W.Frag) (mg : Str → Option Value) (base : Heap) (N : List Str) (qual : Str) (scope : Scope) (f : Addr) (cd : Value) (A : Around) (outer : List Env) (s : Shared) (H : Hp) (E : XK) : Cx where
  prog := P
  w := w
  K := K
  mg := mg
  base := base
  A := A.deeper (envOfC qual scope s.heap.objs.size f cd)
  N := N
  s₀ := s
  H₀ := H
  env := envOfC qual scope s.heap.objs.size f cd
  outer := outer
  stack := envOfC qual scope s.heap.objs.size f cd :: outer
  ex := []
  calm := true
  fn := fun _ => true
  pn := []
  xe := fun e s' => wpAny (model P w) (A.deeper (envOfC qual scope s.heap.objs.size f cd)) (leaving (envOfC qual scope s.heap.objs.size f cd) e) (fun _ s'' => CX outer H s E e s'') (fun e' s'' => CX outer H s E e' s'') s'
theorem cell_has {sc : Scope} {n : Nat} {x : Str} (h : sc.names.lookup x = some .cell) : ∃ c, (cellsFrom n sc.names []).lookup x = some c := by
  have q := PySem.W.cellsFrom_some sc.names n [] (.inl h)
  exact Option.isSome_iff_exists.mp q
theorem inv_start {CX : CXT} {P : Program} {w : World} {K : PySem.W.Frag} {mg : Str → Option Value} {base : Heap} {N ps : List Str} {qual : Str} {scope : Scope} {f : Addr} {cd : Value} {A : Around} {outer : List Env} {s s1 : Shared} {H : Hp} {E : XK} {us : List Value} {vs : List V}
    (S : FnScope N ps scope) (hd : A.handled = none) (e0 : Env0 P w K mg base A outer s H) (hl : vs.length = ps.length) (r : Vals vs us)
    (x : InCallC s s.heap.objs.size (bindL (envOfC qual scope s.heap.objs.size f cd).kindOf (ps.zip us) fun _ => none) (cellsFrom (s.heap.objs.size + 1) scope.names []) (bindC (envOfC qual scope s.heap.objs.size f cd).kindOf (ps.zip us) fun _ => none) s1) :
    Inv (cxOf CX P w K mg base N qual scope f cd A outer s H E) [] (start N vs) H s1 := by
  have hpl : ps.length ≤ N.length := by have := congrArg List.length S.pre; rw [List.length_take] at this; omega
  obtain ⟨h1, tk, rfl, hk⟩ := x.done
  have noA : ∀ b : Addr, b ∉ (cxOf CX P w K mg base N qual scope f cd A outer s H E).ex := fun b z => absurd (show b ∈ ([] : List Addr) from z) (by simp)
  refine ⟨⟨e0.mod, S.kind, rfl, rfl, Nat.le_refl _, fun y z c h1 h2 => ?_, fun y hy => ?_, fun y c _ h => ?_, fun _ => hd, Around.frames_deeper e0.frames, .inr ⟨rfl, rfl⟩, fun b z => absurd z (noA b), e0.bs, e0.bsz, fun b _ _ => noA b, fun b z => absurd z (noA b), e0.funs, e0.frf⟩,
    rfl, e0.bare, Un.kept hk, ⟨_, x.toInCall.ns, fun i y v h1 h2 h3 => ?_⟩, fun y c h => ⟨_, x.cell y c h⟩, e0.hok.fresh (Nat.le_refl _), fun y c h => ?_, fun p hp => absurd (show p ∈ ([] : List (Addr × Obj)) from hp) (by simp), e0.hok.kept hk, ?_⟩
  · exact name_of_addr x.apart (PySem.mem_of_lookup h1) (PySem.mem_of_lookup h2)
  · have hy : scope.names.lookup y = some .cell ∨ scope.names.lookup y = some .free := hy
    rcases hy with hy | hy
    · exact cell_has hy
    · exact absurd rfl (S.nofree _ (PySem.mem_of_lookup hy))
  · exact Nat.le_of_lt (x.above y c (PySem.mem_of_lookup h))
  · have hi : i < vs.length := by
      unfold start at h2
      by_cases hi : i < vs.length
      · exact hi
      · rw [List.getElem?_append_right (by simpa using hi)] at h2
        rw [List.getElem?_replicate] at h2
        split at h2 <;> cases h2
    have ha : vs[i]? = some v := by
      unfold start at h2
      rw [List.getElem?_append_left (by simpa using hi), List.getElem?_map] at h2
      cases e : vs[i]? with
      | none => rw [e] at h2; cases h2
      | some a => rw [e] at h2; cases h2; rfl
    obtain ⟨u, hu, rv⟩ := r.get ha
    have hp : ps[i]? = some y := by
      rw [← S.pre, List.getElem?_take_of_lt (by omega)]; exact h1
    have ndP : ps.Nodup := by rw [← S.pre]; exact S.nd.sublist (List.take_sublist _ _)
    refine ⟨u, rv, ?_⟩
    rcases S.par y (List.mem_of_getElem? hp) with k | k
    · exact .inl ⟨k, bindL_get ndP hp hu k⟩
    · obtain ⟨c, e⟩ := cell_has (n := s.heap.objs.size + 1) k
      refine .inr ⟨.inl k, c, e, ?_⟩
      have q := x.cell y c e
      rw [bindC_get ndP hp hu (by show scope.names.lookup y ≠ _; rw [k]; decide)] at q
      exact q
  · exact e0.hok.fresh (Nat.le_of_lt (x.above y c (PySem.mem_of_lookup h)))
  · unfold start
    show _ = N.length
    rw [List.length_append, List.length_map, List.length_replicate]
    omega
theorem fn_of {CX : CXT} {P : Program} {w : World} {K : PySem.W.Frag} {mg : Str → Option Value} {base : Heap} {k : Nat} {f : Addr} {name qual : Str} {params : Arguments} {body : List Stmt} {scope : Scope} {dV kV doc pm cdv ct oc : Value} {an od : Option Addr}
    {osl : Array (Option Value)} {N ps : List Str} {sp : Sp} (lk : K.lookup f = some ⟨oc, od, .func (PySem.W.fnOf name qual params body scope dV kV doc pm an cdv ct), osl⟩) (hcd : PySem.W.codeIn K cdv qual = true) (S : FnScope N ps scope)
    (len : ∀ vs H Q E, sp vs H Q E → vs.length = ps.length)
    (hbody : ∀ (A : Around) (outer : List Env) (s : Shared) (H : Hp) (vs : List V) (Q : VK) (E : XK), Room k (A.deeper (envOfC qual scope s.heap.objs.size f cdv)) → sp vs H Q E →
      ∃ t, PSs (cxOf CX P w K mg base N qual scope f cdv A outer s H E) body t ∧ t { nx := fun _ H' => Q .non H', rt := Q } (start N vs) H) :
    FnOk P w K mg base CX (k + 1) f (PySem.W.fnOf name qual params body scope dV kV doc pm an cdv ct) ps sp := by
  refine ⟨len, fun A outer s H args us vs Q E hr e0 hb r hsp => ?_⟩
  have hl := len _ _ _ _ hsp
  have KX : K.In s.heap := e0.mod.kin.keeps fun b o e => (e0.bs b o e).1
  have lim : s.heap.NoLimit := e0.mod.nolimit.keeps fun b o e => (e0.bs b o e).1
  have hkind : ∀ y ∈ ps.zip us, scope.names.lookup y.1 = some .local ∨ (scope.names.lookup y.1 = some .cell ∧ ((cellsFrom (s.heap.objs.size + 1) scope.names []).lookup y.1).isSome = true) := fun ⟨n, v⟩ hy => by
    rcases S.par n (List.of_mem_zip hy).1 with q | q
    · exact .inl q
    · exact .inr ⟨q, PySem.W.cellsFrom_some _ _ _ (.inl q)⟩
  refine codeAny_call_function hr.depth (KX _ _ lk) rfl S.co S.gen rfl (PySem.W.codeRec_of KX hcd) (hb _ _ _ _ ?_)
  refine wpAny_newFunctionEnv_cells S.kind hkind fun env he s1 x => ?_
  subst he
  refine ⟨lim.keeps x.toInCall.keep, codeAny_func ?_⟩
  obtain ⟨t, ht, hq⟩ := hbody A outer s H vs Q E (hr.deeper _) hsp
  have I : Inv (cxOf CX P w K mg base N qual scope f cdv A outer s H E) [] (start N vs) H s1 := inv_start S hr.hd e0 hl r x
  refine wpAny_mono (ht [] s1 (start N vs) H _ I hq) (fun fl s' hs => ?_) fun e s' hs => hs
  have fin : ∀ {σ' : St} {H' : Hp} {v : V} {u : Value}, Inv (cxOf CX P w K mg base N qual scope f cdv A outer s H E) [] σ' H' s' → RelV v u → Q v H' → CE outer P w H s Q u s' :=
    fun {σ' H' v u} J rv q => ⟨v, H', J.os, J.bare, J.base, J.hok, rv, q⟩
  cases fl with
  | ret u =>
    obtain ⟨v, σ', H', J, rv, q⟩ := hs
    exact fin J rv q
  | next =>
    obtain ⟨σ', H', J, q⟩ := hs
    exact fin (v := V.non) (u := Value.none) J rfl q
  | brk =>
    obtain ⟨_, _, _, q⟩ := hs
    exact False.elim q
  | cont =>
    obtain ⟨_, _, _, q⟩ := hs
    exact False.elim q
end L2
namespace L2
open PySem PySem.Spec PyProof.Rows
section
variable {X : Cx} {x : Str} {p pos : Pos} {e : Expr} {es : List Expr} {t : TA} {id T : String} {r : List V → Hp → VK → Prop}
def tCB (r : List V → Hp → VK → Prop) (t : TA) : TE := fun σ H Q => t σ H fun vs H1 => r vs H1 Q
theorem pe_callB (hc : CallR X (.builtin id) r) (hg : Gl X x) (hm : X.mg x = none) (hv : bootBuiltins x = some (.builtin id)) (ha : PA X (e :: es) t) (hn : x ≠ "__name__" := by decide) (hdb : (x == ("__debug__" : Str)) = false := by decide)
    (he : starEach (e :: es) X.env = (false, eval e X.env) :: starEach es X.env := by rfl) (hpl : (backTo pos (starEach es X.env)).any (·.1) = false := by rfl) : PE X (.Call (.Name x p) (e :: es) [] pos) (tCB r t) := by
  intro pins s σ H Q I h
  refine wpAny_Call_Name_kw (ld_blt I hg hm hv ?_ hn hdb)
  exact PyProof.Rows.callWith_builtin1 (thn (ha pos pins s σ H _ I h) fun us s1 ⟨vs, H1, I1, r1, q1⟩ => hc pins s1 σ H1 vs us Q I1 r1 q1) he hpl
theorem pe_callTy (hc : CallR X (.type T) r) (hg : Gl X x) (hm : X.mg x = none) (hv : bootBuiltins x = some (.type T)) (ha : PA X (e :: es) t) (hn : x ≠ "__name__" := by decide) (hdb : (x == ("__debug__" : Str)) = false := by decide)
    (he : starEach (e :: es) X.env = (false, eval e X.env) :: starEach es X.env := by rfl) (hpl : (backTo pos (starEach es X.env)).any (·.1) = false := by rfl) : PE X (.Call (.Name x p) (e :: es) [] pos) (tCB r t) := by
  intro pins s σ H Q I h
  refine wpAny_Call_Name_kw (ld_blt I hg hm hv ?_ hn hdb)
  exact PyProof.Rows.callWith_type1 (thn (ha pos pins s σ H _ I h) fun us s1 ⟨vs, H1, I1, r1, q1⟩ => hc pins s1 σ H1 vs us Q I1 r1 q1) he hpl
end
end L2
namespace HT
open PySem PyProof.Rows
def lexLt : List Int → List Int → Bool
  | [], [] => false
  | [], _ :: _ => true
  | _ :: _, [] => false
  | x :: xs, y :: ys => if x = y then lexLt xs ys else decide (x < y)
theorem lexLt_cons (x y : Int) (xs ys : List Int) : lexLt (x :: xs) (y :: ys) = if x = y then lexLt xs ys else decide (x < y) := rfl
theorem lexLt_nil_nil : lexLt [] [] = false := rfl
theorem lexLt_nil_cons (y : Int) (ys : List Int) : lexLt [] (y :: ys) = true := rfl
theorem lexLt_cons_nil (x : Int) (xs : List Int) : lexLt (x :: xs) [] = false := rfl
theorem eqAt_int (A : Around) (s : Shared) (a : Int) (t : Tok) (c : Int) (u : Tok) : ∃ e, SeqAt.EqAt A s (.int a t) (.int c u) e ∧ (e = true ↔ a = c) :=
  ⟨(a == c), SeqAt.EqAt.int_int a t c u, by simp⟩
section
open PySem.SeqAt
open PySem.AutoSeq1 (wpAny_loadPart')
open PySem.MeetsSeq PySem.MeetsSeq2 PySem.MeetsSeq3
end
section
variable {prog : Program} {w : World} {A : Around} {E : Value → Shared → Prop} {s : Shared}
theorem cat_tup {t b : Addr} {vs ws : List Value} {Q : Value → Shared → Prop} (ht : IsTup s.heap t vs.toArray) (hb : IsTup s.heap b ws.toArray) (hv : vs ≠ [])
    (h1 : ws = [] → Q (.ref t) s) (h2 : ws ≠ [] → Q (.ref s.heap.objs.size) { s with heap := s.heap.push { cls := .type "tuple", data := .seq (vs ++ ws).toArray } })
    (hsz : vs.length + ws.length ≤ sizeLine) : wpAny (model prog w) A (binaryOp .Add (.ref t) (.ref b)) Q E s := by
  obtain ⟨⟨cls, dd, data, sl⟩, ho, hc, n, hd⟩ := id ht
  obtain ⟨⟨cls2, dd2, data2, sl2⟩, ho2, hc2, n2, hd2⟩ := id hb
  simp only at hc hd hc2 hd2
  subst hc hd hc2 hd2
  have e : vs.toArray ++ ws.toArray = (vs ++ ws).toArray := by simp
  by_cases hw : ws = []
  · exact concat_meets ⟨_, ho, rfl⟩ ⟨_, ho2, rfl⟩ noFill_tuple_add seq_tuple_add PySem.F.slot_tuple_add PySem.F.entry_tuple_add (PySem.F.args_tuple_add_2 _ _)
      (tuple_addW1 t b vs.toArray ws.toArray n n2 dd dd2 sl sl2 (by simpa using hv) (by simp [hw])) ⟨ho, ho2, h1 hw⟩
  · refine concat_meets ⟨_, ho, rfl⟩ ⟨_, ho2, rfl⟩ noFill_tuple_add seq_tuple_add PySem.F.slot_tuple_add PySem.F.entry_tuple_add (PySem.F.args_tuple_add_2 _ _)
      (tuple_addW2 t b vs.toArray ws.toArray n n2 dd dd2 sl sl2 (by simpa using hv) (by simpa using hw) (by rw [List.size_toArray, List.size_toArray]; exact hsz)) ⟨ho, ho2, ?_⟩
    rw [e]
    exact h2 hw
def sIx (n d : Nat) : Option Int → Nat
  | none => d
  | some v => if v < 0 then (v + (n : Int)).toNat else min v.toNat n
theorem sIx_le (n d : Nat) (hd : d ≤ n) (o : Option Int) : sIx n d o ≤ n := by
  cases o with
  | none => exact hd
  | some v =>
    show (if v < 0 then (v + (n : Int)).toNat else min v.toNat n) ≤ n
    by_cases hv : v < 0
    · rw [if_pos hv]; omega
    · rw [if_neg hv]; exact Nat.min_le_right _ _
theorem clip_eq (v : Int) (n d : Nat) : (if v < 0 then max (v + (n : Int)) 0 else min v (n : Int)) = ((sIx n d (some v) : Nat) : Int) := by
  show (if v < 0 then max (v + (n : Int)) 0 else min v (n : Int)) = (((if v < 0 then (v + (n : Int)).toNat else min v.toNat n) : Nat) : Int)
  by_cases hv : v < 0
  · simp only [if_pos hv]; omega
  · simp only [if_neg hv]; omega
theorem adjust_gen (lo hi : Option Int) (n : Nat) : Builtin.Slice.sliceAdjust lo hi 1 (n : Int) = (((sIx n 0 lo : Nat) : Int), ((sIx n n hi : Nat) : Int)) := by
  have h1 : ¬ ((1 : Int) < 0) := by omega
  unfold Builtin.Slice.sliceAdjust
  simp only [h1, if_false]
  refine Prod.ext ?_ ?_
  · cases lo with
    | none => rfl
    | some v => exact clip_eq v n 0
  · cases hi with
    | none => rfl
    | some v => exact clip_eq v n n
theorem places_gen (i j : Nat) : Builtin.Slice.slicePlaces (i : Int) (j : Int) 1 = j - i := by
  unfold Builtin.Slice.slicePlaces
  have h1 : (1 : Int) > 0 := by omega
  simp only [h1, if_true, Int.ediv_one]
  split <;> omega
theorem slicePart_ {v : Value} {o : Option Int} {Q : Option Int → Shared → Prop} (p : IsPart v o) (h : Q o s) : wpAny (model prog w) A (Builtin.Slice.slicePartIndex v) Q E s := by
  cases p with
  | none => exact slicePart_none h
  | int i t => exact slicePart_int h
theorem sliceApplied_gen {sl : Addr} {vl vu : Value} {lo hi : Option Int} {n : Nat} {Q : Int × Int × Nat → Shared → Prop} (hs : s.heap.IsSliceOf sl vl vu .none) (pl : IsPart vl lo) (pu : IsPart vu hi)
    (h : Q (((sIx n 0 lo : Nat) : Int), 1, sIx n n hi - sIx n 0 lo) s) : wpAny (model prog w) A (Builtin.Slice.sliceApplied (.ref sl) (pure (n : Int))) Q E s := by
  obtain ⟨os, hos, hcs, hds⟩ := id hs
  unfold Builtin.Slice.sliceApplied Builtin.Slice.sliceFields
  refine wpAny_bind (wpAny_bind (wpAny_field hos hds (x := vl) rfl (wpAny_bind (wpAny_field hos hds (x := vu) rfl (wpAny_bind (wpAny_field hos hds (x := .none) rfl (wpAny_pure ?_)))))))
  refine wpAny_bind (slicePart_none ?_)
  show wpAny _ _ (if ((1 : Int) == 0) = true then _ else _) _ _ s
  rw [if_neg (by decide)]
  refine wpAny_bind (slicePart_ pl (wpAny_bind (slicePart_ pu (wpAny_bind (wpAny_pure ?_)))))
  show wpAny _ _ (match Builtin.Slice.sliceAdjust lo hi 1 (n : Int) with | (lo, hi) => pure (lo, (1 : Int), Builtin.Slice.slicePlaces lo hi 1)) _ _ s
  rw [adjust_gen lo hi n]
  show wpAny _ _ (pure (((sIx n 0 lo : Nat) : Int), (1 : Int), Builtin.Slice.slicePlaces ((sIx n 0 lo : Nat) : Int) ((sIx n n hi : Nat) : Int) 1)) _ _ s
  rw [places_gen]
  exact wpAny_pure h
theorem pick_gen (xs : Array Value) (i k : Nat) : ((List.range k).filterMap fun (m : Nat) => xs[((i : Int) + (m : Int) * 1).toNat]?).toArray = ((xs.toList.drop i).take k).toArray := by
  have e : (fun (m : Nat) => xs[((i : Int) + (m : Int) * 1).toNat]?) = fun m => xs[i + m]? := by
    funext m
    have : ((i : Int) + (m : Int) * 1).toNat = i + m := by omega
    rw [this]
  rw [e]
  have := pick_run xs i k
  rw [List.filterMap_map] at this
  have e2 : ((fun x => xs[x]?) ∘ fun x => i + x) = fun m => xs[i + m]? := rfl
  rw [e2] at this
  rw [this]
theorem getItem_tuple_cut {t sl : Addr} {items : Array Value} {vl vu : Value} {lo hi : Option Int} {Q : Value → Shared → Prop} (ht : IsTup s.heap t items) (hs : s.heap.IsSliceOf sl vl vu .none) (pl : IsPart vl lo) (pu : IsPart vu hi)
    (hw : ¬ (sIx items.size 0 lo = 0 ∧ sIx items.size items.size hi = items.size))
    (h : Q (.ref s.heap.objs.size) { s with heap := s.heap.push { cls := .type "tuple", data := .seq ((items.toList.drop (sIx items.size 0 lo)).take (sIx items.size items.size hi - sIx items.size 0 lo)).toArray } })
    (hsz : items.size ≤ sizeLine) : wpAny (model prog w) A (getItem (.ref t) (.ref sl)) Q E s := by
  have htake : sizeOk (.seq ((items.toList.drop (sIx items.size 0 lo)).take (sIx items.size items.size hi - sIx items.size 0 lo)).toArray) := by
    show ((items.toList.drop (sIx items.size 0 lo)).take (sIx items.size items.size hi - sIx items.size 0 lo)).toArray.size ≤ sizeLine
    rw [List.size_toArray, List.length_take, List.length_drop, Array.length_toList]
    omega
  have hj : sIx items.size items.size hi ≤ items.size := sIx_le _ _ (Nat.le_refl _) hi
  obtain ⟨os, hos, hcs, hds⟩ := id hs
  have hTs : s.TypeIs (.ref sl) "slice" := ⟨os, hos, hcs⟩
  unfold getItem
  try with_reducible refine wpAny_holding ?_
  first | refine wpAny_bind (wpAny_pure ?_) | skip
  refine wpAny_bind (wpAny_sequenceKey ht.typeIs (by decide) ?_)
  refine wpAny_bind (wpAny_callSpecial?_slot (name := Str.ofString "__getitem__") ht.typeIs PyProof.Rows.slot_tuple_getitem
    (wpAny_call_entry PyProof.Rows.slot_tuple_getitem ht.typeIs entry_tuple_getitem ?_ (args_tuple_getitem _ _)))
  show wpAny _ _ (Builtin.Tuple.tupleItemsOf (.ref t) >>= _) _ _ s
  refine wpAny_bind (tupleItemsOf_ ht ?_)
  refine wpAny_bind (wpAny_typeOf hTs ?_)
  rw [if_pos (by decide)]
  refine wpAny_bind (sliceApplied_gen hs pl pu ?_)
  have hno : ¬ ((((sIx items.size 0 lo : Nat) : Int) == 0 && (1 : Int) == 1 && (sIx items.size items.size hi - sIx items.size 0 lo) == items.size) = true) := by
    intro q
    rw [Bool.and_eq_true, Bool.and_eq_true] at q
    have q1 : ((sIx items.size 0 lo : Nat) : Int) = 0 := eq_of_beq q.1.1
    have q2 : sIx items.size items.size hi - sIx items.size 0 lo = items.size := eq_of_beq q.2
    exact hw ⟨by omega, by omega⟩
  show wpAny _ _ (if (((sIx items.size 0 lo : Nat) : Int) == 0 && (1 : Int) == 1 && (sIx items.size items.size hi - sIx items.size 0 lo) == items.size) = true then _ else _) _ _ s
  rw [if_neg hno, pick_gen]
  first
    | exact wpAny_bind (m := Builtin.Tuple.tupleExact _) (wpAny_newObj_type (wpAny_pure ⟨_, rfl, wpAny_pure h⟩) htake)
    | exact wpAny_bind (m := Builtin.Tuple.tupleExact _) (wpAny_newObj_type (wpAny_bind (wpAny_pure (wpAny_pure ⟨_, rfl, wpAny_pure h⟩))) htake)
    | exact wpAny_bind (wpAny_bind (m := Builtin.Tuple.tupleExact _) (wpAny_newObj_type (wpAny_pure (wpAny_pure ⟨_, rfl, wpAny_pure h⟩)) htake))
    | exact wpAny_bind (wpAny_bind (m := Builtin.Tuple.tupleExact _) (wpAny_newObj_type (wpAny_pure ⟨_, rfl, wpAny_pure h⟩) htake))
end
end HT
namespace L2
open PySem PySem.Spec PyProof.Rows
abbrev TO := St → Hp → (Option Int → Hp → Prop) → Prop
def PO (X : Cx) (e : Option Expr) (t : TO) : Prop :=
  ∀ (pins : List (Addr × Obj)) (s : Shared) (σ : St) (H : Hp) (Q : Option Int → Hp → Prop), Inv X pins σ H s → t σ H Q →
    wpAny (model X.prog X.w) X.A (evalPart e X.env) (fun u s' => ∃ o H', Inv X pins σ H' s' ∧ IsPart u o ∧ Q o H') X.xe s
def tNoPart : TO := fun _ H Q => Q none H
def tPart (t : TE) : TO := fun σ H Q => t σ H fun x H1 => ∃ i, x = .int i ∧ Q (some i) H1
theorem intsAre_of {ns : List Int} : ∀ {us : List Value}, Vals (ns.map V.int) us → IntsAre us ns := by
  induction ns with
  | nil => intro us r; rw [List.map_nil] at r; cases r; exact .nil
  | cons n ns ih =>
    intro us r
    rw [List.map_cons] at r
    cases r with
    | cons r1 r2 =>
      obtain ⟨t, e⟩ := r1
      subst e
      exact .cons n t (ih r2)
section
variable {X : Cx} {e : Expr} {te : TE} {lo hi : Option Expr} {tl th : TO} {pos p2 : Pos}
theorem po_none : PO X none tNoPart := by
  intro pins s σ H Q I h
  rw [evalPart_none]
  exact wpAny_pure ⟨none, H, I, .none, h⟩
theorem po_some (h : PE X e te) : PO X (some e) (tPart te) := by
  intro pins s σ H Q I hw
  rw [evalPart_some]
  refine thn (h pins s σ H _ I hw) fun u s1 ⟨x, H1, I1, r1, q1⟩ => ?_
  obtain ⟨i, rfl, q⟩ := q1
  obtain ⟨t, rfl⟩ := r1
  exact ⟨some i, H1, I1, .int i t, q⟩
def SlR (X : Cx) (r : V → Option Int → Option Int → Hp → VK → Prop) : Prop :=
  ∀ (pins : List (Addr × Obj)) (s : Shared) (σ : St) (H : Hp) (x : V) (v vl vu : Value) (lo hi : Option Int) (sl : Addr) (Q : VK), Inv X pins σ H s → RelV x v → s.heap.IsSliceOf sl vl vu .none → IsPart vl lo → IsPart vu hi → r x lo hi H Q →
    ∃ T id, typeLookup (.type T) "__getitem__" = pure (some (.builtin id)) ∧ s.TypeIs v T ∧ wpAny (model X.prog X.w) X.A (getItem v (.ref sl)) (EP X pins σ Q) X.xe s
theorem SlR.or {r r' : V → Option Int → Option Int → Hp → VK → Prop} (h : SlR X r) (h' : SlR X r') : SlR X (fun x lo hi H Q => r x lo hi H Q ∨ r' x lo hi H Q) := by
  intro pins s σ H x v vl vu lo hi sl Q I rx hs pl pu q
  rcases q with q | q
  · exact h pins s σ H x v vl vu lo hi sl Q I rx hs pl pu q
  · exact h' pins s σ H x v vl vu lo hi sl Q I rx hs pl pu q
def tSl (r : V → Option Int → Option Int → Hp → VK → Prop) (te : TE) (tl th : TO) : TE := fun σ H Q => te σ H fun x H1 => tl σ H1 fun l H2 => th σ H2 fun u H3 => r x l u H3 Q
theorem pe_slice {r : V → Option Int → Option Int → Hp → VK → Prop} (hr : SlR X r) (he : PE X e te) (hl : PO X lo tl) (hu : PO X hi th) : PE X (.Subscript e (.Slice lo hi none p2) pos) (tSl r te tl th) := by
  intro pins s σ H Q I h
  refine Subscript_ (thn (he pins s σ H _ I h) fun v s1 ⟨x, H1, I1, r1, q1⟩ => ?_)
  refine wpAny_Slice (thn (hl pins s1 σ H1 _ I1 q1) fun vl s2 ⟨l, H2, I2, pl, q2⟩ => thn (hu pins s2 σ H2 _ I2 q2) fun vu s3 ⟨u, H3, I3, pu, q3⟩ => ?_)
  rw [evalPart_none]
  refine wpAny_pure ?_
  have I4 : Inv X pins σ H3 { s3 with heap := s3.heap.push { cls := .type "slice", data := .fields #[vl, vu, .none] } } := I3.kept (t' := s3.toks) fun b ob q => Heap.get?_push_of_some _ q
  obtain ⟨T, id, hT, ht, hg⟩ := hr pins { s3 with heap := s3.heap.push { cls := .type "slice", data := .fields #[vl, vu, .none] } } σ H3 x v vl vu l u s3.heap.objs.size Q I4 r1 (Heap.IsSliceOf.new ..) pl pu q3
  show wpAny (model X.prog X.w) X.A (subscriptTail e (.Slice lo hi none p2) v (.ref s3.heap.objs.size)) (EP X pins σ Q) X.xe { s3 with heap := s3.heap.push { cls := .type "slice", data := .fields #[vl, vu, .none] } }
  exact tail_any (ops := [.ref s3.heap.objs.size, v]) ht hT hg (by with_unfolding_all rfl)
def cutV (xs : List V) (lo hi : Option Int) : List V := (xs.drop (HT.sIx xs.length 0 lo)).take (HT.sIx xs.length xs.length hi - HT.sIx xs.length 0 lo)
theorem cutV_length (xs : List V) (lo hi : Option Int) : (cutV xs lo hi).length ≤ xs.length := by
  unfold cutV
  rw [List.length_take, List.length_drop]
  omega
def rSlT (K : PySem.W.Frag) : V → Option Int → Option Int → Hp → VK → Prop := fun x lo hi H Q => ∃ a xs, x = .ref a ∧ SqT K H a xs ∧
  ¬ (HT.sIx xs.length 0 lo = 0 ∧ HT.sIx xs.length xs.length hi = xs.length) ∧ ∀ p, H p = none → Q (.ref p) (upd H p (.tup (cutV xs lo hi)))
theorem sl_tup : SlR X (rSlT X.K) := by
  intro pins s σ H x v vl vu lo hi sl Q I rx hs pl pu h
  obtain ⟨a, xs, rfl, hx, hw, q⟩ := h
  cases rx
  obtain ⟨its, r, ht, hz⟩ := I.tuple hx
  have hlen : its.toArray.size = xs.length := by rw [List.size_toArray]; exact r.length.symm
  refine ⟨"tuple", _, PyProof.Rows.slot_tuple_getitem.lookup, ht.typeIs, ?_⟩
  refine HT.getItem_tuple_cut ht hs pl pu (by rw [hlen]; exact hw) ?_ (by rw [hlen]; exact hz)
  rw [hlen]
  refine ⟨.ref s.heap.objs.size, _, I.laid (t' := s.toks) (o := .tup (cutV xs lo hi)) (fun b ob q => Heap.get?_push_of_some _ q) (Nat.le_refl _) ?_, rfl, q _ (I.hok.fresh (Nat.le_refl _))⟩
  exact ⟨Nat.le_trans (cutV_length xs lo hi) hz, _, (r.drop (HT.sIx xs.length 0 lo)).take (HT.sIx xs.length xs.length hi - HT.sIx xs.length 0 lo), IsTup.new _ _⟩
def rCatT (K : PySem.W.Frag) : R2 := fun x y H Q => ∃ a b xs ys, x = .ref a ∧ y = .ref b ∧ SqT K H a xs ∧ SqT K H b ys ∧ xs ≠ [] ∧ xs.length + ys.length ≤ sizeLine ∧
  (ys = [] → Q (.ref a) H) ∧ (ys ≠ [] → ∀ p, H p = none → Q (.ref p) (upd H p (.tup (xs ++ ys))))
theorem Vals.nil_iff {xs : List V} {us : List Value} (r : Vals xs us) : us = [] ↔ xs = [] := by
  cases r with
  | nil => simp
  | cons _ _ => simp
theorem op_catT : OpR X (binaryOp .Add) (rCatT X.K) := by
  intro pins s σ H x y v u Q I rx ry h
  obtain ⟨a, b, xs, ys, rfl, rfl, ha, hb, hx, hz, q1, q2⟩ := h
  cases rx
  cases ry
  obtain ⟨its, r1, p1, _⟩ := I.tuple ha
  obtain ⟨its2, r2, p2, _⟩ := I.tuple hb
  refine HT.cat_tup p1 p2 (fun z => hx (r1.nil_iff.mp z)) (fun z => ⟨.ref a, H, I, rfl, q1 (r2.nil_iff.mp z)⟩) (fun z => ?_) (by rw [← r1.length, ← r2.length]; exact hz)
  refine ⟨.ref s.heap.objs.size, _, I.laid (t' := s.toks) (o := .tup (xs ++ ys)) (fun b ob q => Heap.get?_push_of_some _ q) (Nat.le_refl _) ?_, rfl, q2 (fun w => z (r2.nil_iff.mpr w)) _ (I.hok.fresh (Nat.le_refl _))⟩
  exact ⟨by rw [List.length_append]; exact hz, _, r1.append r2, IsTup.new _ _⟩
end
end L2
namespace L2
open PySem PySem.Spec PyProof.Rows
def ixN (n : Nat) (i : Int) : Option Nat := if 0 ≤ i then (if i < n then some i.toNat else none) else if -(n : Int) ≤ i then some (i + n).toNat else none
def atI {α : Type} (xs : List α) (i : Int) : Option α := (ixN xs.length i).bind fun j => xs[j]?
theorem ixN_seq {n : Nat} {i : Int} {j : Nat} (h : ixN n i = some j) : seqIndex? i n = some j ∧ j < n ∧ -(n : Int) ≤ i ∧ i < n := by
  unfold ixN at h
  by_cases h0 : 0 ≤ i
  · rw [if_pos h0] at h
    by_cases h1 : i < n
    · rw [if_pos h1] at h
      have e : i.toNat = j := Option.some.inj h
      exact ⟨by rw [seqIndex_of h0 h1, e], by omega, by omega, h1⟩
    · rw [if_neg h1] at h; cases h
  · rw [if_neg h0] at h
    by_cases h1 : -(n : Int) ≤ i
    · rw [if_pos h1] at h
      have e : (i + n).toNat = j := Option.some.inj h
      exact ⟨by rw [seqIndex_neg (by omega) h1, e], by omega, h1, by omega⟩
    · rw [if_neg h1] at h; cases h
theorem atI_get {α : Type} {xs : List α} {i : Int} {v : α} (h : atI xs i = some v) : ∃ j, seqIndex? i xs.length = some j ∧ xs[j]? = some v ∧ j < xs.length ∧ -(xs.length : Int) ≤ i ∧ i < xs.length := by
  unfold atI at h
  cases e : ixN xs.length i with
  | none => rw [e] at h; cases h
  | some j =>
    rw [e] at h
    obtain ⟨h1, h2, h3, h4⟩ := ixN_seq e
    exact ⟨j, h1, h, h2, h3, h4⟩
theorem atI_nat {α : Type} {xs : List α} {j : Nat} {v : α} (h : xs[j]? = some v) : atI xs (j : Int) = some v := by
  have hj : j < xs.length := (List.getElem?_eq_some_iff.mp h).1
  have e : ixN xs.length (j : Int) = some j := by
    unfold ixN
    rw [if_pos (by omega), if_pos (by omega)]; simp
  unfold atI; rw [e]; exact h
def PlainIx (b : Expr) : Prop := ∀ o i, subscripted b false o i = operate [o, i] (getItem o i)
def IxR (X : Cx) (r : R2) : Prop :=
  ∀ (value slice : Expr) (pins : List (Addr × Obj)) (s : Shared) (σ : St) (H : Hp) (x y : V) (v u : Value) (Q : VK), Inv X pins σ H s → RelV x v → RelV y u → r x y H Q →
    subscripted slice false v u = operate [v, u] (getItem v u) → wpAny (model X.prog X.w) X.A (subscriptTail value slice v u) (EP X pins σ Q) X.xe s
def MtR (X : Cx) (id : String) (r : V → List V → Hp → VK → Prop) : Prop :=
  ∀ (pins : List (Addr × Obj)) (s : Shared) (σ : St) (H : Hp) (x : V) (xs : List V) (v : Value) (us : List Value) (Q : VK), Inv X pins σ H s → RelV x v → Vals xs us → r x xs H Q →
    wpAny (model X.prog X.w) X.A (call (.builtin id) (v :: us)) (EP X pins σ Q) X.xe s
section
variable {X : Cx} {a b : Expr} {ta tb : TE} {pos : Pos}
theorem IxR.or {r r' : R2} (h : IxR X r) (h' : IxR X r') : IxR X (fun x y H Q => r x y H Q ∨ r' x y H Q) := by
  intro value slice pins s σ H x y v u Q I rx ry q hs
  rcases q with q | q
  · exact h value slice pins s σ H x y v u Q I rx ry q hs
  · exact h' value slice pins s σ H x y v u Q I rx ry q hs
theorem MtR.or {id : String} {r r' : V → List V → Hp → VK → Prop} (h : MtR X id r) (h' : MtR X id r') : MtR X id (fun x xs H Q => r x xs H Q ∨ r' x xs H Q) := by
  intro pins s σ H x xs v us Q I rx rs q
  rcases q with q | q
  · exact h pins s σ H x xs v us Q I rx rs q
  · exact h' pins s σ H x xs v us Q I rx rs q
theorem pe_ix {r : R2} (hr : IxR X r) (ha : PE X a ta) (hb : PE X b tb) (hs : PlainIx b) : PE X (.Subscript a b pos) (tOp r ta tb) := by
  intro pins s σ H Q I h
  exact Subscript_ (binT ha hb I h fun v u s2 x y H2 I2 rx ry q => hr a b pins s2 σ H2 x y v u Q I2 rx ry q (hs _ _))
def rIxL (K : PySem.W.Frag) : R2 := fun x y H Q => ∃ p xs i v, x = .ref p ∧ y = .int i ∧ SqL K H p xs ∧ atI xs i = some v ∧ Q v H
def rIxT (K : PySem.W.Frag) : R2 := fun x y H Q => ∃ p xs i v, x = .ref p ∧ y = .int i ∧ SqT K H p xs ∧ atI xs i = some v ∧ Q v H
theorem ix_list : IxR X (rIxL X.K) := by
  intro value slice pins s σ H x y v u Q I rx ry h hs
  obtain ⟨p, xs, i, z, rfl, rfl, hq, he, q⟩ := h
  cases rx
  obtain ⟨t, rfl⟩ := ry
  obtain ⟨its, r, pl, hz⟩ := I.list hq
  obtain ⟨j, h1, h2, h3, h4, h5⟩ := atI_get he
  obtain ⟨w, ew, rw'⟩ := r.get h2
  have hl := r.length
  have hn := line63
  have fin : EP X pins σ Q w s := ⟨z, H, I, rw', q⟩
  by_cases h0 : 0 ≤ i
  · have hj : i.toNat = j := by
      rw [seqIndex_of h0 h5] at h1
      exact Option.some.inj h1
    exact item_listR pl.isList h0 (by omega) (by rw [hj]; simpa using ew) fin hs
  · have hj : (i + (its.toArray.size : Int)).toNat = j := by
      rw [seqIndex_neg (by omega) h4] at h1
      rw [List.size_toArray, ← hl]
      exact Option.some.inj h1
    exact subscriptTail_builtinR (x := w) pl.isList.typeIs slot_list_getitem.lookup
      (wpAny_getItem_list_neg (Q := fun r s' => r = w ∧ EP X pins σ Q r s') pl.isList (by omega) (by rw [List.size_toArray] <;> omega) (by omega) (by rw [hj]; simpa using ew) ⟨rfl, fin⟩) hs
theorem ix_tup : IxR X (rIxT X.K) := by
  intro value slice pins s σ H x y v u Q I rx ry h hs
  obtain ⟨p, xs, i, z, rfl, rfl, hq, he, q⟩ := h
  cases rx
  obtain ⟨t, rfl⟩ := ry
  obtain ⟨its, r, pl, hz⟩ := I.tuple hq
  obtain ⟨j, h1, h2, h3, h4, h5⟩ := atI_get he
  obtain ⟨w, ew, rw'⟩ := r.get h2
  have hl := r.length
  have hn := line63
  have fin : EP X pins σ Q w s := ⟨z, H, I, rw', q⟩
  exact subscriptTail_builtinR (x := w) pl.typeIs slot_tuple_getitem.lookup
    (getItem_tuple (j := j) (Q := fun r s' => r = w ∧ EP X pins σ Q r s') pl (by omega) (by omega) (by rw [List.size_toArray, ← hl]; exact h1) (by simpa using ew) ⟨rfl, fin⟩) hs
theorem mapSeq_set (its : List Value) (n j : Nat) (u : Value) : Obj.mapSeq (·.setIfInBounds j u) { cls := .type "list", data := .seq its.toArray n } = { cls := .type "list", data := .seq (its.set j u).toArray n } := by
  simp [Obj.mapSeq]
theorem Inv.lst {pins : List (Addr × Obj)} {σ : St} {H : Hp} {s : Shared} {p : Addr} {xs : List V} (I : Inv X pins σ H s) (h : H p = some (.lst xs)) :
    ∃ (its : List Value) (n : Nat), Vals xs its ∧ s.heap.get? p = some { cls := .type "list", data := .seq its.toArray n } ∧ xs.length ≤ sizeLine := by
  obtain ⟨z, its, n, r, e⟩ := I.hok p _ h
  exact ⟨its, n, r, e, z⟩
theorem Inv.lstUpd {pins : List (Addr × Obj)} {σ : St} {H : Hp} {s : Shared} {p : Addr} {xs ys : List V} {its its' : List Value} {n n' : Nat} {f : Obj → Obj} (I : Inv X pins σ H s) (h : H p = some (.lst xs))
    (ho : s.heap.get? p = some { cls := .type "list", data := .seq its.toArray n }) (hf : f { cls := .type "list", data := .seq its.toArray n } = { cls := .type "list", data := .seq its'.toArray n' }) (r : Vals ys its') (hz : ys.length ≤ sizeLine) (t : Nat) :
    Inv X pins σ (upd H p (.lst ys)) { s with heap := s.heap.update p f, toks := t } := by
  have e : (s.heap.update p f).get? p = some { cls := .type "list", data := .seq its'.toArray n' } := by
    rw [Heap.get?_update_self f ho (by rw [hf] <;> rfl), hf]
  refine I.write (x := p) (e := p) (by rw [h]; trivial) (.inl rfl) (fun b u hb q => (Heap.get?_update_other _ _ (Ne.symm hb)).trans q) ⟨_, e⟩ ?_
  exact ⟨hz, its', n', r, e⟩
def rSetL : V → V → V → Hp → (Hp → Prop) → Prop := fun o i v H Q => ∃ p xs k j, o = .ref p ∧ i = .int k ∧ H p = some (.lst xs) ∧ ixN xs.length k = some j ∧ Q (upd H p (.lst (xs.set j v)))
theorem set_list : PSet X rSetL := by
  intro pins s σ H o i v ov iv u Q I ro ri rv h
  obtain ⟨p, xs, k, j, rfl, rfl, hp, hj, q⟩ := h
  cases ro
  obtain ⟨t, rfl⟩ := ri
  obtain ⟨its, n, r, ho, hz⟩ := I.lst hp
  obtain ⟨h1, h2, h3, h4⟩ := ixN_seq hj
  have hl := r.length
  have hn := line63
  have I' : Inv X pins σ (upd H p (.lst (xs.set j v))) { s with heap := s.heap.update p (Obj.mapSeq (·.setIfInBounds j u)) } :=
    I.lstUpd hp ho (mapSeq_set its n j u) (r.set rv j) (by rw [List.length_set]; exact hz) s.toks
  by_cases h0 : 0 ≤ k
  · have hk : k.toNat = j := by
      rw [seqIndex_of h0 h4] at h1
      exact Option.some.inj h1
    exact PySem.W.ki_setAt ho h0 (by omega) (by rw [List.size_toArray, ← hl]; exact h4) (by rw [hk]; exact ⟨_, I', q⟩)
  · have hk : (k + (its.toArray.size : Int)).toNat = j := by
      rw [seqIndex_neg (by omega) h3] at h1
      rw [List.size_toArray, ← hl]
      exact Option.some.inj h1
    exact PySem.W.ki_setBack ho (by omega) (by rw [List.size_toArray, ← hl]; exact h3) (by omega) (by rw [hk]; exact ⟨_, I', q⟩)
theorem slice_bounds (lo hi : Option Int) (n : Nat) : (sliceBounds lo hi none n).1 = ((HT.sIx n 0 lo : Nat) : Int) ∧ (sliceBounds lo hi none n).2.1 = ((HT.sIx n n hi : Nat) : Int) ∧ (sliceBounds lo hi none n).2.2 = 1 := by
  refine ⟨?_, ?_, rfl⟩
  · cases lo with
    | none => simp [sliceBounds, HT.sIx]
    | some i =>
      simp only [sliceBounds, HT.sIx, Option.getD_none, show (1 : Int) > 0 by decide, if_true]
      by_cases h : i < 0
      · simp only [h, if_true] <;> omega
      · simp only [h, if_false] <;> omega
  · cases hi with
    | none => simp [sliceBounds, HT.sIx]
    | some i =>
      simp only [sliceBounds, HT.sIx, Option.getD_none, show (1 : Int) > 0 by decide, if_true]
      by_cases h : i < 0
      · simp only [h, if_true] <;> omega
      · simp only [h, if_false] <;> omega
theorem slicePick_cut (its : List Value) (lo hi : Option Int) : slicePick its.toArray lo hi none = ((its.drop (HT.sIx its.length 0 lo)).take (HT.sIx its.length its.length hi - HT.sIx its.length 0 lo)).toArray := by
  obtain ⟨h1, h2, h3⟩ := slice_bounds lo hi its.toArray.size
  unfold slicePick
  rw [h1, h2, h3]
  simp only [sliceRange_one, pick_run, List.size_toArray] <;> rfl
def rSlL (K : PySem.W.Frag) : V → Option Int → Option Int → Hp → VK → Prop := fun x lo hi H Q => ∃ a xs, x = .ref a ∧ SqL K H a xs ∧ ∀ p, H p = none → Q (.ref p) (upd H p (.lst (cutV xs lo hi)))
theorem sl_list : SlR X (rSlL X.K) := by
  intro pins s σ H x v vl vu lo hi sl Q I rx hs pl pu h
  obtain ⟨a, xs, rfl, hx, q⟩ := h
  cases rx
  obtain ⟨its, r, ht, hz⟩ := I.list hx
  have hlen := r.length
  refine ⟨"list", _, slot_list_getitem.lookup, ht.isList.typeIs, ?_⟩
  refine wpAny_getItem_list_slice ht.isList hs pl pu .none (by simp) ?_ (by rw [List.size_toArray] <;> omega)
  rw [slicePick_cut, ← hlen]
  refine ⟨.ref s.heap.objs.size, _, I.laid (t' := s.toks) (o := .lst (cutV xs lo hi)) (fun b ob q => Heap.get?_push_of_some _ q) (Nat.le_refl _) ?_, rfl, q _ (I.hok.fresh (Nat.le_refl _))⟩
  exact ⟨Nat.le_trans (cutV_length xs lo hi) hz, _, 0, (r.drop (HT.sIx xs.length 0 lo)).take (HT.sIx xs.length xs.length hi - HT.sIx xs.length 0 lo), Heap.get?_push_size _ rfl⟩
def flatV : V → Bool
  | .non => true
  | .bl _ => true
  | .int _ => true
  | .str _ => true
  | _ => false
def eqV : V → V → Bool
  | .non, .non => true
  | .bl a, .bl b => a == b
  | .bl a, .int b => (if a then 1 else 0) == b
  | .int a, .bl b => a == (if b then 1 else 0)
  | .int a, .int b => a == b
  | .str a, .str b => a == b
  | _, _ => false
theorem eqAt_V {A : Around} {s : Shared} {y x : V} {u v : Value} (ry : RelV y u) (rx : RelV x v) (fy : flatV y = true) (fx : flatV x = true) : SeqAt.EqAt A s u v (eqV y x) := by
  cases y with
  | non =>
    cases ry
    cases x with
    | non => cases rx; exact SeqAt.EqAt.same _
    | bl b => cases rx; exact SeqAt.EqAt.none_bool b
    | int b => obtain ⟨t, rfl⟩ := rx; exact SeqAt.EqAt.none_int b t
    | str b => obtain ⟨t, rfl⟩ := rx; exact SeqAt.EqAt.none_str b t
    | _ => exact absurd (show false = true from fx) Bool.false_ne_true
  | bl a =>
    cases ry
    cases x with
    | non => cases rx; exact SeqAt.EqAt.bool_none a
    | bl b => cases rx; exact SeqAt.EqAt.bool_bool a b
    | int b => obtain ⟨t, rfl⟩ := rx; exact SeqAt.EqAt.bool_int a b t
    | str b => obtain ⟨t, rfl⟩ := rx; exact SeqAt.EqAt.bool_str a b t
    | _ => exact absurd (show false = true from fx) Bool.false_ne_true
  | int a =>
    obtain ⟨t', rfl⟩ := ry
    cases x with
    | non => cases rx; exact SeqAt.EqAt.int_none a t'
    | bl b => cases rx; exact SeqAt.EqAt.int_bool a t' b
    | int b => obtain ⟨t, rfl⟩ := rx; exact SeqAt.EqAt.int_int a t' b t
    | str b => obtain ⟨t, rfl⟩ := rx; exact SeqAt.EqAt.int_str a t' b t
    | _ => exact absurd (show false = true from fx) Bool.false_ne_true
  | str a =>
    obtain ⟨t', rfl⟩ := ry
    cases x with
    | non => cases rx; exact SeqAt.EqAt.str_none a t'
    | bl b => cases rx; exact SeqAt.EqAt.str_bool a t' b
    | int b => obtain ⟨t, rfl⟩ := rx; exact SeqAt.EqAt.str_int a t' b t
    | str b => obtain ⟨t, rfl⟩ := rx; exact SeqAt.EqAt.str_str a t' b t
    | _ => exact absurd (show false = true from fx) Bool.false_ne_true
  | _ => exact absurd (show false = true from fy) Bool.false_ne_true
def eqU (x : V) (u : Value) : Bool := match u with
  | .none => eqV .non x
  | .bool b => eqV (.bl b) x
  | .int i _ => eqV (.int i) x
  | .str z _ => eqV (.str z) x
  | _ => false
theorem eqU_of {x y : V} {u : Value} (r : RelV y u) (f : flatV y = true) : eqU x u = eqV y x := by
  cases y with
  | non => cases r; rfl
  | bl b => cases r; rfl
  | int i => obtain ⟨t, rfl⟩ := r; rfl
  | str z => obtain ⟨t, rfl⟩ := r; rfl
  | _ => exact absurd (show false = true from f) Bool.false_ne_true
theorem any_eqU {x : V} : ∀ {xs : List V} {us : List Value}, Vals xs us → xs.all flatV = true → us.any (eqU x) = xs.any fun y => eqV y x
  | _, _, .nil, _ => rfl
  | y :: xs, u :: us, .cons r t, f => by
    rw [List.all_cons, Bool.and_eq_true] at f
    rw [List.any_cons, List.any_cons, eqU_of r f.1, any_eqU t f.2]
theorem mem_eqAt {A : Around} {s : Shared} {x : V} {v : Value} (rx : RelV x v) (fx : flatV x = true) : ∀ {xs : List V} {us : List Value}, Vals xs us → xs.all flatV = true → ∀ u ∈ us, SeqAt.EqAt A s u v (eqU x u)
  | _, _, .nil, _ => fun u hu => by cases hu
  | y :: xs, u :: us, .cons r t, f => fun u' hu => by
    rw [List.all_cons, Bool.and_eq_true] at f
    rcases List.mem_cons.mp hu with rfl | hu
    · rw [eqU_of r f.1]; exact eqAt_V r rx f.1 fx
    · exact mem_eqAt rx fx t f.2 u' hu
def inV (x : V) (xs : List V) : Bool := xs.any fun y => eqV y x
def rIn (K : PySem.W.Frag) (neg : Bool) : R2 := fun x y H Q => ∃ p xs, y = .ref p ∧ (SqL K H p xs ∨ SqT K H p xs) ∧ flatV x = true ∧ xs.all flatV = true ∧ Q (.bl (if neg then !inV x xs else inV x xs)) H
theorem op_notIn_seq : OpR X (compareOp .NotIn) (rIn X.K true) := by
  intro pins s σ H x y v u Q I rx ry h
  obtain ⟨p, xs, rfl, hq, fx, fs, q⟩ := h
  cases ry
  rcases hq with hq | hq
  · obtain ⟨its, r, pl, hz⟩ := I.list hq
    refine SeqAt.notIn_listAt (eqU x) pl.isList (fun w hw => mem_eqAt rx fx r fs w (by simpa using hw)) ⟨.bl _, H, I, rfl, ?_⟩
    rw [show its.toArray.any (eqU x) = its.any (eqU x) by simp, any_eqU r fs]
    exact q
  · obtain ⟨its, r, pl, hz⟩ := I.tuple hq
    refine SeqAt.notIn_tupleAt (eqU x) pl (fun w hw => mem_eqAt rx fx r fs w (by simpa using hw)) ⟨.bl _, H, I, rfl, ?_⟩
    rw [show its.toArray.any (eqU x) = its.any (eqU x) by simp, any_eqU r fs]
    exact q
theorem call_len_seq : CallR X (.builtin "len") (fun xs H Q => ∃ p ys, xs = [.ref p] ∧ (SqL X.K H p ys ∨ SqT X.K H p ys) ∧ Q (.int ys.length) H) := by
  intro pins s σ H xs us Q I r h
  obtain ⟨p, ys, rfl, hq, q⟩ := h
  obtain ⟨u, rfl, rx⟩ := vals1 r
  cases rx
  have hn := line63
  rcases hq with hq | hq
  · obtain ⟨its, r', pl, hz⟩ := I.list hq
    have hlen := r'.length
    exact Calls.call_len_list pl.isList (by simp only [List.size_toArray] <;> omega) ⟨.int ys.length, H, I.tok _, ⟨s.toks + 1, by rw [List.size_toArray, hlen]⟩, q⟩
  · obtain ⟨its, r', pl, hz⟩ := I.tuple hq
    have hlen := r'.length
    exact len_tuple pl (by simp only [List.size_toArray] <;> omega) ⟨.int ys.length, H, I.tok _, ⟨s.toks + 1, by rw [List.size_toArray, hlen]⟩, q⟩
theorem CallR.or {f : Value} {r r' : List V → Hp → VK → Prop} (h : CallR X f r) (h' : CallR X f r') : CallR X f (fun xs H Q => r xs H Q ∨ r' xs H Q) := by
  intro pins s σ H xs us Q I rs q
  rcases q with q | q
  · exact h pins s σ H xs us Q I rs q
  · exact h' pins s σ H xs us Q I rs q
theorem call_list_of : CallR X (.type "list") (fun xs H Q => ∃ p ys, xs = [.ref p] ∧ (SqL X.K H p ys ∨ SqT X.K H p ys) ∧ ∀ l, H l = none → Q (.ref l) (upd H l (.lst ys))) := by
  intro pins s σ H xs us Q I r h
  obtain ⟨p, ys, rfl, hq, q⟩ := h
  obtain ⟨u, rfl, rx⟩ := vals1 r
  cases rx
  have fin : ∀ (its : List Value), Vals ys its → ys.length ≤ sizeLine → ∀ (h' : Heap) (c' : Nat), (∀ b o', s.heap.get? b = some o' → h'.get? b = some o') →
      h'.get? s.heap.objs.size = some { cls := .type "list", dict := none, data := .seq its.toArray c', slots := #[] } → EP X pins σ Q (.ref s.heap.objs.size) { s with heap := h' } := fun its r' hz h' c' kp e =>
    ⟨.ref s.heap.objs.size, _, I.laid (t' := s.toks) kp (Nat.le_refl _) (show ObjOk X.prog X.w _ h' _ (.lst ys) from ⟨hz, its, c', r', e⟩), rfl, q _ (I.hok.fresh (Nat.le_refl _))⟩
  rcases hq with hq | hq
  · obtain ⟨its, r', pl, hz⟩ := I.list hq
    have hlen := r'.length
    obtain ⟨o, ho, hc, n, hd⟩ := pl.isList
    exact call_list_seq p (.inl rfl) ho hc hd (fun h' c' kp e => fin its r' hz h' c' kp e) (by simp only [List.size_toArray] <;> omega)
  · obtain ⟨its, r', pl, hz⟩ := I.tuple hq
    have hlen := r'.length
    obtain ⟨o, ho, hc, n, hd⟩ := pl
    exact call_list_seq p (.inr rfl) ho hc hd (fun h' c' kp e => fin its r' hz h' c' kp e) (by simp only [List.size_toArray] <;> omega)
theorem call_tuple_of : CallR X (.type "tuple") (fun xs H Q => ∃ p ys, xs = [.ref p] ∧ ((SqL X.K H p ys ∧ ∀ l, H l = none → Q (.ref l) (upd H l (.tup ys))) ∨ (SqT X.K H p ys ∧ Q (.ref p) H))) := by
  intro pins s σ H xs us Q I r h
  obtain ⟨p, ys, rfl, h⟩ := h
  obtain ⟨u, rfl, rx⟩ := vals1 r
  cases rx
  rcases h with ⟨hq, q⟩ | ⟨hq, q⟩
  · obtain ⟨its, r', pl, hz⟩ := I.list hq
    have hlen := r'.length
    refine call_tuple_list pl.isList (fun h' kp => ?_) (by simp only [List.size_toArray] <;> omega)
    have I1 : Inv X pins σ H { s with heap := h' } := I.kept (t' := s.toks) kp
    have I2 : Inv X pins σ (upd H h'.objs.size (.tup ys)) { s with heap := h'.push { cls := .type "tuple", data := .seq its.toArray } } :=
      I1.laid (t' := s.toks) (fun b o e => Heap.get?_push_of_some _ e) (Nat.le_refl _) (show ObjOk X.prog X.w _ _ _ (.tup ys) from ⟨hz, its, r', IsTup.new _ _⟩)
    exact ⟨.ref h'.objs.size, _, I2, rfl, q _ (I1.hok.fresh (Nat.le_refl _))⟩
  · obtain ⟨its, r', pl, hz⟩ := I.tuple hq
    exact call_tuple_same pl ⟨.ref p, H, I, rfl, q⟩
def tyV (K : PySem.W.Frag) (T : String) (x : V) (H : Hp) : Prop := match x with
  | .str _ => T = "str"
  | .int _ => T = "int"
  | .ref p => (T = "list" ∧ ∃ xs, SqL K H p xs) ∨ (T = "tuple" ∧ ∃ o, K.lookup p = some o ∧ o.cls = .type "tuple" ∧ o.dict = none) ∨
      (T = "dict" ∧ ((∃ kvs, H p = some (.dK kvs)) ∨ ∃ kvs, H p = some (.dT kvs))) ∨ (T = "set" ∧ ∃ S n, H p = some (.set S n))
  | _ => False
theorem tyV_is {pins : List (Addr × Obj)} {σ : St} {H : Hp} {s : Shared} {T : String} {x : V} {v : Value} (I : Inv X pins σ H s) (r : RelV x v) (ty : tyV X.K T x H) :
    s.TypeIs v T ∧ ∀ a, v = .ref a → ∃ ob, s.heap.get? a = some ob ∧ ob.dict = none := by
  cases x with
  | str z =>
    obtain ⟨t, rfl⟩ := r
    cases (show T = "str" from ty)
    exact ⟨typeIs_str s z t, fun _ e => nomatch e⟩
  | int i =>
    obtain ⟨t, rfl⟩ := r
    cases (show T = "int" from ty)
    exact ⟨typeIs_int s i t, fun _ e => nomatch e⟩
  | ref p =>
    cases r
    rcases ty with ⟨rfl, xs, hq⟩ | ⟨rfl, o, hk, hc, hd⟩ | ⟨rfl, hk⟩ | ⟨rfl, S, n, hk⟩
    · obtain ⟨its, _, pl, _⟩ := I.list hq
      refine ⟨pl.isList.typeIs, fun a e => ?_⟩
      cases e
      obtain ⟨o, n, e, c, hd, _⟩ := pl
      exact ⟨o, e, hd⟩
    · refine ⟨⟨o, I.kIn p o hk, hc⟩, fun a e => ?_⟩
      cases e
      exact ⟨o, I.kIn _ o hk, hd⟩
    · have z : ∃ o, s.heap.get? p = some o ∧ o.ExactDict := by
        rcases hk with ⟨kvs, hk⟩ | ⟨kvs, hk⟩
        · obtain ⟨_, _, _, _, o, _, _, e, ex, _⟩ := I.hok p _ hk
          exact ⟨o, e, ex⟩
        · obtain ⟨_, _, _, _, o, _, _, e, ex, _⟩ := I.hok p _ hk
          exact ⟨o, e, ex⟩
      obtain ⟨o, e, ex⟩ := z
      refine ⟨⟨o, e, ex.1⟩, fun a e2 => ?_⟩
      cases e2
      exact ⟨o, e, ex.2.1⟩
    · obtain ⟨o, _, _, _, e, ex, _⟩ := I.hok p _ hk
      refine ⟨⟨o, e, ex.1⟩, fun a e2 => ?_⟩
      cases e2
      exact ⟨o, e, ex.2.1⟩
  | _ => exact False.elim ty
def tBM (K : PySem.W.Frag) (T : String) (r : V → List V → Hp → VK → Prop) (to : TE) (t : TA) : TE := fun σ H Q => to σ H fun x H1 => tyV K T x H1 ∧ t σ H1 fun xs H2 => r x xs H2 Q
variable {o e : Expr} {es : List Expr} {to : TE} {t : TA} {name : Str} {apos cpos : Pos} {T id : String} {r : V → List V → Hp → VK → Prop}
theorem pe_bm (pa : PlainAttrs T) (slot : Slot T name id) (hty : typeOf (.builtin id) = pure (.type "method_descriptor")) (hm : MtR X id r) (ho : PE X o to) (ha : PA X (e :: es) t)
    (hbase : attributeBase o name X.env (eval o X.env) = eval o X.env := by rfl)
    (hfew : ((backTo cpos (starEach (e :: es) X.env)).all (fun x => !x.1) && (backToKw cpos (keywordEach [] X.env)).all (fun x => x.1.isSome)
      && decide ((e :: es).length + ([] : List Keyword).length + (if ([] : List Keyword).isEmpty then 0 else 1) < 30)) = true := by rfl)
    (hline : (apos.endLine == cpos.line) = true := by rfl) (hs : starEach (e :: es) X.env = (false, eval e X.env) :: starEach es X.env := by rfl) (hplain : (backTo cpos (starEach es X.env)).any (·.1) = false := by rfl) :
    PE X (.Call (.Attribute o name apos) (e :: es) [] cpos) (tBM X.K T r to t) := by
  intro pins s σ H Q I h
  refine wpAny_Call_method_late hbase hfew hline rfl (thn (ho pins s σ H _ I h) fun v s1 ⟨x, H1, I1, r1, ty, q1⟩ => ?_)
  obtain ⟨h1, h2⟩ := tyV_is I1 r1 ty
  refine ⟨T, id, pa, slot, hty, h1, h2, ?_⟩
  have hA := ha cpos pins s1 σ H1 _ I1 q1
  rw [hs] at hA ⊢
  refine Calls.callWith_builtin (by show (false || (backTo cpos (starEach es X.env)).any (·.1)) = false; rw [hplain] <;> rfl) (Calls.evalArgs_plain ?_)
  exact thn hA fun us s2 ⟨vs, H2, I2, r2, q2⟩ => hm pins s2 σ H2 x vs v us Q I2 r1 r2 q2
end
end L2
namespace L2
open PySem PySem.Spec PyProof.Rows
def MtM (X : Cx) (id : String) (r : V → List V → Hp → VK → Prop) : Prop :=
  ∀ (pins : List (Addr × Obj)) (s : Shared) (σ : St) (H : Hp) (x : V) (xs : List V) (v : Value) (us : List Value) (Q : VK), Inv X pins σ H s → RelV x v → Vals xs us → r x xs H Q →
    wpAny (model X.prog X.w) X.A (call (.builtin id) (v :: us)) (EP X pins σ Q) X.xe s
theorem Vals.one : ∀ {x : V} {us : List Value}, Vals [x] us → ∃ u, us = [u] ∧ RelV x u
  | _, _, .cons r .nil => ⟨_, rfl, r⟩
theorem Vals.zero : ∀ {us : List Value}, Vals [] us → us = []
  | _, .nil => rfl
theorem Vals.eraseIdx : ∀ {xs : List V} {us : List Value} (i : Nat), Vals xs us → Vals (xs.eraseIdx i) (us.eraseIdx i)
  | _, _, _, .nil => .nil
  | _, _, 0, .cons _ t => t
  | _, _, i + 1, .cons r t => .cons r (Vals.eraseIdx i t)
theorem Vals.rep {xs : List V} {us : List Value} (h : Vals xs us) : ∀ k : Nat, Vals (List.replicate k xs).flatten (List.replicate k us).flatten
  | 0 => .nil
  | k + 1 => by
    rw [List.replicate_succ, List.replicate_succ, List.flatten_cons, List.flatten_cons]
    exact Vals.append h (Vals.rep h k)
theorem len_erase {α : Type} : ∀ (l : List α) (i : Nat), (l.eraseIdx i).length ≤ l.length
  | [], _ => Nat.le_refl _
  | _ :: _, 0 => Nat.le_succ _
  | _ :: r, i + 1 => Nat.succ_le_succ (len_erase r i)
theorem foldl_rep (its : List Value) : ∀ (k : Nat) (acc : List Value),
    List.foldl (fun x1 x2 => x1 ++ x2) acc.toArray (List.replicate k its.toArray) = (acc ++ (List.replicate k its).flatten).toArray
  | 0, acc => by simp
  | k + 1, acc => by
    have e : acc.toArray ++ its.toArray = (acc ++ its).toArray := by simp
    have e2 : (acc ++ its) ++ (List.replicate k its).flatten = acc ++ (List.replicate (k + 1) its).flatten := by
      rw [List.replicate_succ, List.flatten_cons, List.append_assoc]
    rw [← e2, ← foldl_rep its k (acc ++ its), ← e, List.replicate_succ, List.foldl_cons]
section
variable {X : Cx} {pins : List (Addr × Obj)} {σ : St} {H : Hp} {s : Shared} {l b : Addr} {xs ys zs : List V}
theorem Inv.lset {its its' : List Value} {n : Nat} {f : Array Value → Array Value} {t' : Nat} (I : Inv X pins σ H s) (hH : H l = some (.lst xs))
    (e : s.heap.get? l = some { cls := .type "list", data := .seq its.toArray n }) (hf : f its.toArray = its'.toArray) (hv : Vals ys its') (hz : ys.length ≤ sizeLine) :
    Inv X pins σ (upd H l (.lst ys)) { s with heap := s.heap.update l (Obj.mapSeq f), toks := t' } := by
  have q := PySem.IsL.update e f
  rw [hf] at q
  refine I.write (x := l) (e := l) (by rw [hH]; exact trivial) (.inl rfl) (fun b' u hb hu => (Heap.get?_update_other s.heap (Obj.mapSeq f) (Ne.symm hb)).trans hu) ⟨_, q⟩ ?_
  exact ⟨hz, its', _, hv, q⟩
theorem Inv.lnew {its : List Value} {t' : Nat} (I : Inv X pins σ H s) (hv : Vals ys its) (hz : ys.length ≤ sizeLine) :
    Inv X pins σ (upd H s.heap.objs.size (.lst ys)) { s with heap := s.heap.push { cls := .type "list", data := .seq its.toArray }, toks := t' } :=
  I.laid (fun _ _ q => Heap.get?_push_of_some _ q) (Nat.le_refl _) ⟨hz, its, 0, hv, Heap.get?_push_size _ rfl⟩
theorem Inv.fresh (I : Inv X pins σ H s) : H s.heap.objs.size = none := I.hok.fresh (Nat.le_refl _)
theorem Inv.lstM (I : Inv X pins σ H s) (hH : H l = some (.lst xs)) : xs.length ≤ sizeLine ∧ ∃ (its : List Value) (n : Nat), Vals xs its ∧ xs.length = its.length ∧ s.heap.get? l = some { cls := .type "list", data := .seq its.toArray n } := by
  obtain ⟨z, its, n, r, e⟩ := I.hok l _ hH
  exact ⟨z, its, n, r, r.length, e⟩
theorem notLongL {n : Nat} (h : n ≤ sizeLine) : Builtin.List.listTooLong n = false := by
  unfold Builtin.List.listTooLong
  exact decide_eq_false (by omega)
end
section
variable {X : Cx}
def rAppend : V → List V → Hp → VK → Prop := fun x vs H Q => ∃ l xs y, x = .ref l ∧ vs = [y] ∧ H l = some (.lst xs) ∧ xs.length < sizeLine ∧ Q .non (upd H l (.lst (xs ++ [y])))
theorem mt_append : MtM X "list.append" rAppend := by
  intro pins s σ H x vs v us Q I rx rv h
  obtain ⟨l, xs, y, rfl, rfl, hH, hz, q⟩ := h
  cases rx
  obtain ⟨u, rfl, ru⟩ := rv.one
  obtain ⟨z, its, n, r, hl, e⟩ := I.lstM hH
  refine call_meets F.slot_list_append ⟨_, e, rfl⟩ F.entry_list_append (F.args_list_append_2 _ _) (PySem.list_append l its.toArray n u (by rw [List.size_toArray]; omega)) ⟨e, ?_⟩
  refine ⟨.non, _, I.lset (its' := its ++ [u]) hH e (by simp) (r.append (.cons ru .nil)) ?_, rfl, q⟩
  rw [List.length_append, List.length_singleton]
  omega
def rExtend : V → List V → Hp → VK → Prop := fun x vs H Q => ∃ l b xs zs, x = .ref l ∧ vs = [.ref b] ∧ H l = some (.lst xs) ∧ H b = some (.lst zs) ∧ xs.length + zs.length ≤ sizeLine ∧ Q .non (upd H l (.lst (xs ++ zs)))
theorem mt_extend : MtM X "list.extend" rExtend := by
  intro pins s σ H x vs v us Q I rx rv h
  obtain ⟨l, b, xs, zs, rfl, rfl, hH, hB, hz, q⟩ := h
  cases rx
  obtain ⟨u, rfl, ru⟩ := rv.one
  cases ru
  obtain ⟨z, its, n, r, hl, e⟩ := I.lstM hH
  obtain ⟨z2, its2, n2, r2, hl2, e2⟩ := I.lstM hB
  have hsz : its.toArray.size + its2.toArray.size ≤ sizeLine := by rw [List.size_toArray, List.size_toArray]; omega
  have hlong : ¬ (!its.toArray.isEmpty && Builtin.List.listTooLong (its.toArray.size + its2.toArray.size)) = true := by
    rw [notLongL hsz, Bool.and_false]
    exact Bool.false_ne_true
  refine call_meets F.slot_list_extend ⟨_, e, rfl⟩ F.entry_list_extend (F.args_list_extend_2 _ _)
    (AutoSeq1.list_extend_list_list_0 l its.toArray n b its2.toArray n2 hlong (by rw [List.size_toArray]; omega) (by omega)) ⟨e, e2, ?_⟩
  refine ⟨.non, _, I.lset (its' := its ++ its2) hH e (by simp) (r.append r2) ?_, rfl, q⟩
  rw [List.length_append]
  omega
def rPopAt : V → List V → Hp → VK → Prop := fun x vs H Q => ∃ l xs i k y, x = .ref l ∧ vs = [.int i] ∧ H l = some (.lst xs) ∧ -(2 ^ 63) ≤ i ∧ i < 2 ^ 63 ∧ seqIndex? i xs.length = some k ∧ xs[k]? = some y ∧ Q y (upd H l (.lst (xs.eraseIdx k)))
theorem mt_popAt : MtM X "list.pop" rPopAt := by
  intro pins s σ H x vs v us Q I rx rv h
  obtain ⟨l, xs, i, k, y, rfl, rfl, hH, h1, h2, hk, hy, q⟩ := h
  cases rx
  obtain ⟨u, rfl, ru⟩ := rv.one
  obtain ⟨t, rfl⟩ := ru
  obtain ⟨z, its, n, r, hl, e⟩ := I.lstM hH
  obtain ⟨w, hw, rw'⟩ := r.get hy
  refine call_meets F.slot_list_pop ⟨_, e, rfl⟩ F.entry_list_pop (F.args_list_pop_2 _ _)
    (MeetsSeq.list_pop_at l its.toArray n i t k w (fitsIndex_both h1 h2) (by rw [List.size_toArray, ← hl]; exact hk) (by rw [← Array.getElem?_toList]; exact hw) (by rw [List.size_toArray]; omega)) ⟨e, ?_⟩
  refine ⟨y, _, I.lset (its' := its.eraseIdx k) hH e ?_ (r.eraseIdx k) ?_, rw', q⟩
  · show its.toArray.eraseIdxIfInBounds k = (its.eraseIdx k).toArray
    rw [List.eraseIdxIfInBounds_toArray]
  · have := len_erase xs k
    omega
def rCat : R2 := fun x y H Q => ∃ l b xs zs, x = .ref l ∧ y = .ref b ∧ H l = some (.lst xs) ∧ H b = some (.lst zs) ∧ xs.length + zs.length ≤ sizeLine ∧ ∀ p, H p = none → Q (.ref p) (upd H p (.lst (xs ++ zs)))
theorem op_cat : OpR X (binaryOp .Add) rCat := by
  intro pins s σ H x y v u Q I rx ry h
  obtain ⟨l, b, xs, zs, rfl, rfl, hH, hB, hz, q⟩ := h
  cases rx
  cases ry
  obtain ⟨z, its, n, r, hl, e⟩ := I.lstM hH
  obtain ⟨z2, its2, n2, r2, hl2, e2⟩ := I.lstM hB
  refine PySem.P.add_list e e2 ?_ (by rw [List.size_toArray, List.size_toArray]; omega)
  have ea : its.toArray ++ its2.toArray = (its ++ its2).toArray := by simp
  rw [ea]
  exact ⟨.ref _, _, I.lnew (t' := s.toks) (r.append r2) (by rw [List.length_append]; omega), rfl, q _ I.fresh⟩
def rRep : R2 := fun x y H Q => ∃ l k xs, x = .ref l ∧ y = .int k ∧ H l = some (.lst xs) ∧ -(2 ^ 63) ≤ k ∧ k < 2 ^ 63 ∧ xs.length * k.toNat ≤ sizeLine ∧
  ∀ p, H p = none → Q (.ref p) (upd H p (.lst (List.replicate k.toNat xs).flatten))
theorem len_rep {α : Type} (xs : List α) (k : Nat) : (List.replicate k xs).flatten.length = k * xs.length := by
  induction k with
  | zero => simp
  | succ k ih => rw [List.replicate_succ, List.flatten_cons, List.length_append, ih, Nat.succ_mul, Nat.add_comm]
theorem op_rep : OpR X (binaryOp .Mult) rRep := by
  intro pins s σ H x y v u Q I rx ry h
  obtain ⟨l, k, xs, rfl, rfl, hH, h1, h2, hz, q⟩ := h
  cases rx
  obtain ⟨t, rfl⟩ := ry
  obtain ⟨z, its, n, r, hl, e⟩ := I.lstM hH
  have hlen : its.toArray.size * k.toNat ≤ sizeLine := by rw [List.size_toArray, ← hl]; exact hz
  have hcap : ¬ its.toArray.size * k.toNat > (2 ^ 63 - 1) / 8 := by
    have : (sizeLine : Nat) ≤ (2 ^ 63 - 1) / 8 := by decide
    omega
  have hfit : ¬ (!Builtin.List.listFitsIndex k) = true := by
    rw [fitsIndex_both h1 h2]
    exact Bool.false_ne_true
  have hlong : ¬ Builtin.List.listTooLong (its.toArray.size * k.toNat) = true := by
    rw [notLongL hlen]
    exact Bool.false_ne_true
  have hnew : List.foldl (fun x1 x2 => x1 ++ x2) #[] (List.replicate (if its.toArray.isEmpty = true then 0 else k.toNat) its.toArray) = (List.replicate k.toNat its).flatten.toArray := by
    have f0 : ∀ m : Nat, List.foldl (fun x1 x2 => x1 ++ x2) #[] (List.replicate m its.toArray) = (List.replicate m its).flatten.toArray := fun m => by
      have := foldl_rep its m []
      rw [List.nil_append] at this
      exact this
    rw [f0]
    cases its with
    | nil => simp
    | cons a r' => rw [if_neg (by simp)]
  refine wpAny_binaryOp_repeat_ref (T := "list") (U := "int") (by decide) ⟨_, e, rfl⟩ (fun s' => typeIs_int s' k t) noFill_list_mul F.fills_int_mul F.slot_int_rmul repeat_list F.slot_int_index.lookup
    (call_meets F.slot_int_rmul (typeIs_int s k t) F.entry_int_rmul (F.args_int_rmul_2 _ _) (int___rmul___int_list k t l its.toArray n)
      ⟨e, rfl, ⟨_, e, rfl⟩, call_meets F.slot_list_mul ⟨_, e, rfl⟩ F.entry_list_mul (F.args_list_mul_2 _ _) (AutoListH.list___mul___list_int_3 l its.toArray n k t hfit hcap hlong) ⟨e, ?_⟩⟩)
  rw [hnew]
  exact ⟨.ref _, _, I.lnew (t' := s.toks) (r.rep k.toNat) (by rw [len_rep, Nat.mul_comm]; exact hz), rfl, q _ I.fresh⟩
end
section
variable {prog : Program} {w : World} {A : Around} {E : Value → Shared → Prop} {s : Shared}
end
section
variable {X : Cx}
end
end L2
namespace Att
open PySem PySem.W PySem.Calls PyProof.Rows
theorem ints_of_wellAll {P : Params} {h : Heap} : ∀ (ns : List Int) (vs : List Value), WellAll P h vs (ns.map WData.int) → IntsAre vs ns := by
  intro ns
  induction ns with
  | nil =>
    intro vs w
    rw [List.map_nil] at w
    cases w
    exact .nil
  | cons n ns ih =>
    intro vs w
    rw [List.map_cons] at w
    cases w with
    | cons a b =>
      cases a
      exact .cons _ _ (ih _ b)
theorem script_of {l : OpenLaw} {n : Nat} (hn : l.most = some n) {P : Params} {h : Heap} {args : List WData} {vals : List Value}
    (hpre : l.row.toRowW.claim.pre args = true) (hwl : WellAll P h vals args) :
    ∃ a vs ns, vals = [Value.ref a] ∧ args = [WData.list (ns.map WData.int)] ∧ h.get? a = some { cls := .type "list", data := .seq vs.toArray } ∧ IntsAre vs ns ∧ ns.length ≤ n := by
  have hsh : WShape.hasAll [] args [.list .int] = true := (pre_splitW hpre).1
  have hc : l.pre.holds [] { args := args } = true := (pre_splitW hpre).2
  obtain ⟨d, r, rfl, h1, h2⟩ := hasAllW_cons hsh
  obtain rfl := hasAllW_nil h2
  obtain ⟨xs, rfl, h3⟩ := hasW_list h1
  obtain ⟨ns, rfl⟩ := items_int h3
  have hlen : ns.length ≤ n := by
    unfold OpenLaw.pre at hc
    have h4 : (WTm.not (.lt (.lit (.int (n : Int))) (.len (.arg 0)))).holds [] { args := [.list (ns.map .int)] } = true := by
      have h4 := (holds_andW hc).1
      rw [hn] at h4
      exact h4
    have h5 := condW_of h4 (w_not (w_lt w_lit (w_len_list (w_arg rfl))))
    rw [List.length_map] at h5
    refine Nat.le_of_not_lt fun q => ?_
    have q' : (n : Int) < ((ns.length : Nat) : Int) := by omega
    first
      | (rw [decide_eq_true q'] at h5; exact absurd h5 (by decide))
      | (simp at h5; omega)
  cases hwl with
  | cons w1 w2 =>
    cases w2
    cases w1 with
    | list ho hall => exact ⟨_, _, ns, rfl, rfl, ho, ints_of_wellAll ns _ hall, hlen⟩
theorem post_true (l : OpenLaw) (args : List WData) : l.row.toRowW.claim.post args (.bool true) args = true :=
  postW_of (r := l.row.toRowW) (X := (true == true))
    (show WShape.has [] (.bool true) .bool = true by first | rfl | decide | simp [WShape.has, WShape.arms, WShape.armsAll])
    (show (WTm.eq .res (.lit (.bool true))).value [] { args := args, res := some (.bool true), after := args } = some (.bool (true == true)) from w_eq_bool (w_res rfl) w_lit) rfl
theorem attach_call {l : OpenLaw} {n : Nat} {q : Program} {loose : List Str} {XP : (Str → Option Value) → Heap → Prop} {YP : World → Heap → Prop} {d : DefRec}
    (hn : l.most = some n) (hdf : d.params.defaults = [])
    (call : ∀ (w : World) (s₀ s₁ : Shared) (mg mb : Str → Option Value) (fa : Addr) (o : Obj) (pm cd doc : Value) (a : Addr) (vs : List Value) (ns : List Int),
      Ground q loose [] XP w s₀ mg mb s₁.heap → YP w s₁.heap →
      s₁.heap.get? fa = some o → o.data = .func (docDef d.name d.params d.body d.scope pm cd doc) → s₁.heap.CodeRec cd d.name → mg d.name = some (.ref fa) →
      s₁.heap.get? a = some { cls := .type "list", data := .seq vs.toArray } → IntsAre vs ns → ns.length ≤ n → s₁.gens = #[] →
      codeAny (model l.prog w) callerA (.call (.ref fa) ⟨[.ref a], []⟩) (fun r s' => r = .ok (.ret (.bool true)) ∧ OldK s₁.heap s'.heap ∧ s'.os = s₁.os ∧ AllBare s'.gens) s₁) :
    WalkO q loose XP YP l.row.toRowW d [] (fun f vs => PySem.call f vs) := by
  intro w s₀ s₁ mg mb G Y fa o pm cd doc dV kV ho hd hcd hD hmg hg args vals as hpre hlay hrd hwl hlo
  obtain rfl : dV = .none := Dflts.none hD hdf
  obtain rfl : kV = .none := Dflts.noKw hD
  obtain ⟨a, vs, ns, rfl, rfl, hobj, hints, hlen⟩ := script_of hn hpre hwl
  refine enter_call (codeAny_mono (call w s₀ s₁ mg mb fa o pm cd doc a vs ns G Y ho (fd_plain hd) hcd hmg hobj hints hlen hg) fun r s' hq => ?_)
  obtain ⟨rfl, h2, h3, h4⟩ := hq
  exact ⟨.inl ⟨.bool true, .bool true, [], rfl, fun _ => rfl, .bool true, post_true l _, fun _ => ⟨List.Pairwise.nil, fun _ hm => (nomatch hm)⟩⟩, h2, h3, h4⟩
section
variable {prog : Program} {w : World} {A : Around} {E : Value → Shared → Prop} {s : Shared} {K : Frag}
end
end Att
namespace L2
open PySem PySem.Spec PyProof.Rows
theorem vals_ints : ∀ {vs : List Value} {ns : List Int}, IntsAre vs ns → Vals (ns.map V.int) vs
  | _, _, .nil => .nil
  | _, _, .cons n t h => .cons ⟨t, rfl⟩ (vals_ints h)
def Only (H : Hp) : Prop := ∀ b, H b = none ∨ ∃ o xs, H b = some (.frz o (.lst xs))
theorem law_call {P : Program} {w : World} {K : PySem.W.Frag} {mg mb : Str → Option Value} {CX : CXT} {k : Nat} {fa a : Addr} {fd : FuncData} {x : Str} {sp : Sp} {s₁ : Shared} {vs : List Value} {ns : List Int}
    (KX : K.In s₁.heap) (hns : s₁.heap.Ns mainGlobals mg) (hb : s₁.heap.Ns builtinsNs mb) (hbb : ∀ x : Str, x ≠ "__name__" → mb x = bootBuiltins x) (hlim : s₁.heap.NoLimit) (hg : s₁.gens = #[])
    (ha : s₁.heap.get? a = some { cls := .type "list", data := .seq vs.toArray }) (hi : IntsAre vs ns) (hl : ns.length ≤ sizeLine) (hr : Room k callerA)
    (F : ∀ base : Heap, K.In base → base.Ns mainGlobals mg → FnOk P w K mg base CX k fa fd [x] sp) (hbind : ∀ (s : Shared) (u : Value), BindsTo s fd ⟨[u], []⟩ [(x, u)])
    (hsp : ∀ H : Hp, Only H → SqL K H a (ns.map V.int) → sp [.ref a] H (fun v _ => v = .bl true) fun _ _ _ => False)
    (hCX : ∀ H e s', CX [] H s₁ (fun _ _ _ => False) e s' → False) :
    codeAny (model P w) callerA (.call (.ref fa) ⟨[.ref a], []⟩) (fun r s' => r = .ok (.ret (.bool true)) ∧ OldK s₁.heap s'.heap ∧ s'.os = s₁.os ∧ AllBare s'.gens) s₁ := by
  have rv := vals_ints hi
  have lenV := hi.length
  have core : ∀ H : Hp, Only H → SqL K H a (ns.map V.int) → HOk P w H s₁.heap → (∀ b, H b ≠ none → b = a) → (H a ≠ none → K.lookup a = none) →
      codeAny (model P w) callerA (.call (.ref fa) ⟨[.ref a], []⟩) (fun r s' => r = .ok (.ret (.bool true)) ∧ OldK s₁.heap s'.heap ∧ s'.os = s₁.os ∧ AllBare s'.gens) s₁ := by
    intro H hO hS hok hA hK
    have base_of : ∀ {b : Addr} {o : Obj}, s₁.heap.get? b = some o → H b = none → (hidT s₁.heap H).get? b = some o := fun e n => hidT_get e n
    have noA : ∀ {b : Addr} {o : Obj} {es : Array DictEntry} {ep : Nat}, s₁.heap.get? b = some o → o.data = .dict es ep → H b = none := fun {b o es ep} e d => by
      cases q : H b with
      | none => rfl
      | some u =>
        have e' : b = a := hA b (by rw [q]; simp)
        subst e'
        rw [ha] at e; cases e
        have d' : Data.seq vs.toArray _ = Data.dict es ep := d
        cases d'
    have nsK : ∀ {b : Addr} {m : Str → Option Value}, s₁.heap.Ns b m → (hidT s₁.heap H).Ns b m := fun {b m} ⟨o, es, ep, e, d, r⟩ => ⟨o, es, ep, base_of e (noA e d), d, r⟩
    have hKb : K.In (hidT s₁.heap H) := fun b o e => base_of (KX b o e) (by
      cases q : H b with
      | none => rfl
      | some u =>
        have e' : b = a := hA b (by rw [q]; simp)
        subst e'
        rw [hK (by rw [q]; simp)] at e; cases e)
    have hM : Mod K mg (hidT s₁.heap H) := ⟨hKb, nsK hns, ⟨mb, nsK hb, hbb⟩, let ⟨mc, h1, h2⟩ := hlim; ⟨mc, nsK h1, h2⟩⟩
    have e0 : Env0 P w K mg (hidT s₁.heap H) callerA [] s₁ H := ⟨rfl, hM, fun b o e => of_hidT e, Nat.le_of_eq (hidT_size _ _), trivial, fun b hb => absurd (show b ∈ ([] : List Addr) from hb) (by simp), hok, .of_eq hg⟩
    refine codeAny_mono ((F _ hKb (nsK hns)).run callerA [] s₁ H ⟨[.ref a], []⟩ [.ref a] [.ref a] _ _ hr e0 (hbind s₁ (.ref a)) (.cons rfl .nil) (hsp H hO hS)) fun r s' h => ?_
    cases r with
    | error e => exact (hCX H e s' h).elim
    | ok fl =>
      cases fl with
      | next => exact False.elim h
      | brk => exact False.elim h
      | cont => exact False.elim h
      | ret u =>
        obtain ⟨v, H', os, bare, un, hok', r', q⟩ := h
        have q' : v = .bl true := q
        subst q'
        obtain rfl : u = Value.bool true := r'
        refine ⟨rfl, OldK.of_keep fun b o e => ?_, os, bare⟩
        cases q : H b with
        | none => exact un.keep b o e q (by intro z; exact absurd (show b ∈ ([] : List Addr) from z) (by simp)) (by simp)
        | some u =>
          rcases hO b with z | ⟨ob, xs, z⟩
          · rw [q] at z; cases z
          · have z2 := un.frzs b ob _ z
            obtain ⟨e1, _⟩ := hok b _ z
            obtain ⟨e2, _⟩ := hok' b _ z2
            rw [e] at e1; cases e1
            exact e2
  cases hk : K.lookup a with
  | some o =>
    have e := KX a o hk
    rw [ha] at e
    cases e
    refine core (fun _ => none) (fun _ => .inl rfl) (.inr ⟨_, vs.toArray, _, hk, rfl, rfl, rfl, by rw [List.size_toArray, lenV]; exact hl, by simpa using rv⟩) (fun b u z => by have z' : (none : Option HO) = some u := z; cases z') (fun b z => absurd rfl z) fun z => absurd rfl z
  | none =>
    refine core (fun b => if b = a then some (.frz { cls := .type "list", data := .seq vs.toArray } (.lst (ns.map V.int))) else none) (fun b => ?_) (.inl (.inr ⟨{ cls := .type "list", data := .seq vs.toArray }, if_pos rfl⟩)) (fun b u z => ?_) (fun b z => ?_) fun _ => hk
    · by_cases hb : b = a
      · exact .inr ⟨_, _, if_pos hb⟩
      · exact .inl (if_neg hb)
    · by_cases hb : b = a
      · have z' := (if_pos hb).symm.trans z
        cases z'
        subst hb
        exact ⟨ha, by rw [List.length_map]; exact hl, vs, _, rv, ha⟩
      · have z' := (if_neg hb).symm.trans z
        cases z'
    · by_cases hb : b = a
      · exact hb
      · exact absurd (if_neg hb) z
end L2
namespace L2
open PySem PySem.Spec PyProof.Rows
theorem walk_of {l : PySem.W.OpenLaw} {n k : Nat} {q : Program} {loose : List Str} {XP : (Str → Option Value) → Heap → Prop} {YP : World → Heap → Prop} {d : DefRec} {K : Params → PySem.W.Frag} {CX : World → CXT} {sp : World → Sp} {x : Str}
    (hn : l.most = some n) (hn2 : n ≤ sizeLine) (hdf : d.params.defaults = []) (hr : Room k callerA)
    (hY : ∀ (w : World) (h : Heap), YP w h → (K w.params).In h)
    (F : ∀ (w : World) (mg : Str → Option Value) (fa : Addr) (h : Heap), (K w.params).In h → h.Ns mainGlobals mg → mg d.name = some (.ref fa) →
      ∃ fd : FuncData, (∀ (s : Shared) (u : Value), BindsTo s fd ⟨[u], []⟩ [(x, u)]) ∧
        ∀ base : Heap, (K w.params).In base → base.Ns mainGlobals mg → FnOk l.prog w (K w.params) mg base (CX w) k fa fd [x] (sp w))
    (hsp : ∀ (w : World) (H : Hp) (a : Addr) (ns : List Int), ns.length ≤ n → Only H → SqL (K w.params) H a (ns.map V.int) → sp w [.ref a] H (fun v _ => v = .bl true) fun _ _ _ => False)
    (hCX : ∀ (w : World) (H : Hp) (s : Shared) (e : Value) (s' : Shared), CX w [] H s (fun _ _ _ => False) e s' → False) :
    PySem.W.WalkO q loose XP YP l.row.toRowW d [] (fun f vs => PySem.call f vs) := by
  refine Att.attach_call hn hdf fun w s₀ s₁ mg mb fa o pm cd doc a vs ns G Y ho hd hcd hmg hobj hints hlen hg => ?_
  have KX := hY w _ Y
  obtain ⟨fd, hb, hF⟩ := F w mg fa _ KX G.T.g hmg
  exact law_call KX G.T.g G.T.b G.T.builtins G.T.nolimit hg hobj hints (Nat.le_trans hlen hn2) hr hF hb (fun H hO hS => hsp w H a ns hlen hO hS) fun H e s' => hCX w H s₁ e s'
end L2
namespace L2
open PySem PySem.Spec PyProof.Rows
def defArgs (s : Stmt) : Arguments := match s with
  | .FunctionDef _ a _ _ _ _ _ _ _ _ => a
  | _ => { posonlyargs := [], args := [], vararg := none, kwonlyargs := [], kw_defaults := [], kwarg := none, defaults := [] }
def defBody (s : Stmt) : List Stmt := match s with
  | .FunctionDef _ _ b _ _ _ _ _ _ _ => b
  | _ => []
def defScope (s : Stmt) : Scope := match s with
  | .FunctionDef _ _ _ _ _ _ sc _ _ _ => sc
  | _ => { kind := .function, names := [], isGenerator := false, isCoroutine := false }
abbrev CX0 : CXT := fun _ _ _ _ _ _ => False
abbrev E0 : XK := fun _ _ _ => False
theorem pass0 {X : Cx} : Passes CX0 X E0 := fun _ _ _ _ _ _ _ h => h.elim
structure Fun (K : PySem.W.Frag) (x qual : Str) (st : Stmt) (f : Addr) (fd : FuncData) : Prop where
  ex : ∃ (oc : Value) (od : Option Addr) (kV doc pm : Value) (an : Option Addr) (cdv ct : Value) (osl : Array (Option Value)),
    fd = PySem.W.fnOf x qual (defArgs st) (defBody st) (defScope st) .none kV doc pm an cdv ct ∧ K.lookup f = some ⟨oc, od, .func fd, osl⟩ ∧ PySem.W.codeIn K cdv qual = true
  kp : PySem.W.keepIn K (.ref f) = true
section
variable {P : Program} {w : World} {K : PySem.W.Frag} {mg : Str → Option Value} {base : Heap}
theorem Fun.ok {x qual : Str} {st : Stmt} {f : Addr} {fd : FuncData} {N ps : List Str} {k : Nat} {sp : Sp} (F : Fun K x qual st f fd) (S : FnScope N ps (defScope st)) (len : ∀ vs H Q E, sp vs H Q E → vs.length = ps.length)
    (hbody : ∀ (cdv : Value) (A : Around) (outer : List Env) (s : Shared) (H : Hp) (vs : List V) (Q : VK) (E : XK), Room k (A.deeper (envOfC qual (defScope st) s.heap.objs.size f cdv)) → sp vs H Q E →
      ∃ t, PSs (cxOf CX0 P w K mg base N qual (defScope st) f cdv A outer s H E).nox (defBody st) t ∧ t { nx := fun _ H' => Q .non H', rt := Q } (start N vs) H) : FnOk P w K mg base CX0 (k + 1) f fd ps sp := by
  obtain ⟨oc, od, kV, doc, pm, an, cdv, ct, osl, rfl, lk, hcd⟩ := F.ex
  refine fn_of lk hcd S len fun A outer s H vs Q E hr hsp => ?_
  obtain ⟨t, h, q⟩ := hbody cdv A outer s H vs Q E hr hsp
  exact ⟨t, h.nox, q⟩
theorem Fun.binds {x qual : Str} {st : Stmt} {f : Addr} {fd : FuncData} {ps : List Str} (F : Fun K x qual st f fd)
    (h : ∀ (kV doc pm : Value) (an : Option Addr) (cdv ct : Value) (us : List Value), us.length = ps.length → bindArgs (PySem.W.fnOf x qual (defArgs st) (defBody st) (defScope st) .none kV doc pm an cdv ct) ⟨us, []⟩ = pure (ps.zip us)) : Binds K fd ps [] := by
  obtain ⟨oc, od, kV, doc, pm, an, cdv, ct, osl, rfl, lk, hcd⟩ := F.ex
  exact .all (h kV doc pm an cdv ct)
theorem fun_mk {x qual : Str} {st : Stmt} {f : Addr} {oc : Value} {od an : Option Addr} {osl : Array (Option Value)} {kV doc pm cdv ct : Value} (l : K.lookup f = some ⟨oc, od, .func (PySem.W.fnOf x qual (defArgs st) (defBody st) (defScope st) .none kV doc pm an cdv ct), osl⟩)
    (c : PySem.W.codeIn K cdv qual = true) (k : PySem.W.keepIn K (.ref f) = true) : Fun K x qual st f (PySem.W.fnOf x qual (defArgs st) (defBody st) (defScope st) .none kV doc pm an cdv ct) := ⟨⟨oc, od, kV, doc, pm, an, cdv, ct, osl, rfl, l, c⟩, k⟩
end
section
variable {X : Cx}
theorem pv (i : Nat) {x : Str} {pos : Pos} (hN : X.N[i]? = some x := by rfl) (hv : Vis X.env.scope x := by first | exact Or.inl rfl | exact Or.inr (Or.inl rfl) | exact Or.inr (Or.inr rfl)) (hd : (x == ("__debug__" : Str)) = false := by decide)
    (hcd : (x == ("__classdict__" : Str)) = false := by decide) : PE X (.Name x pos) (tVar i) := pe_var hN hv hd hcd
end
theorem iteF {A B : Prop} (h : B) : if false = true then A else B := by
  rw [if_neg Bool.false_ne_true]
  exact h
theorem iteT {A B : Prop} (h : A) : if true = true then A else B := by
  rw [if_pos rfl]
  exact h
theorem ite2 {c A B : Prop} [Decidable c] (h1 : c → A) (h2 : ¬ c → B) : if c then A else B := by
  by_cases h : c
  · rw [if_pos h]
    exact h1 h
  · rw [if_neg h]
    exact h2 h
theorem iteNS {c A B : Prop} [Decidable c] (hc : c) (h : B) : if (!decide c) = true then A else B := by
  rw [decide_eq_true hc]
  exact iteF h
def Same (H H' : Hp) : Prop := ∀ b o, H b = some o → H' b = some o
theorem Same.refl (H : Hp) : Same H H := fun _ _ h => h
theorem Same.trans {H H1 H2 : Hp} (a : Same H H1) (b : Same H1 H2) : Same H H2 := fun c o h => b c o (a c o h)
theorem Same.free {H H' : Hp} (e : Same H H') {l : Addr} (h : H' l = Option.none) : H l = Option.none := by
  cases q : H l with
  | none => rfl
  | some o =>
    rw [e l o q] at h
    cases h
theorem Same.seq {K : PySem.W.Frag} {H H' : Hp} {a : Addr} {xs : List V} (e : Same H H') (h : SqL K H a xs) : SqL K H' a xs := by
  rcases h with (h | ⟨o, h⟩) | h
  · exact .inl (.inl (e _ _ h))
  · exact .inl (.inr ⟨o, e _ _ h⟩)
  · exact .inr h
end L2
set_option Elab.async false
set_option linter.all false
set_option maxRecDepth 100000
set_option maxHeartbeats 4000000
namespace L2
open PySem PySem.Spec PyProof.Rows
def blk (X : Cx) (M : List Str) (scope : Scope) (cl : List (Str × Addr)) (ex : List Addr) (s3 : Shared) (H3 : Hp) (C : Addr) : Cx where
  prog := X.prog
  w := X.w
  K := X.K
  mg := X.mg
  base := X.base
  A := X.A
  N := M
  s₀ := s3
  H₀ := H3
  env := compEnvC scope cl C X.env
  outer := X.stack
  stack := X.stack
  ex := ex
  fn := fun _ => false
  calm := X.calm
  pn := []
  xe := fun _ _ => False
def clOf (env : Env) : List (Str × NameKind) → List (Str × Addr) → List (Str × Addr)
  | [], acc => acc
  | (n, k) :: r, acc => clOf env r (if k = .free then (n, (env.cells.lookup n).getD 0) :: acc else acc)
theorem clos_go {env : Env} : ∀ (l : List (Str × NameKind)) (acc : List (Str × Addr)), (∀ x ∈ l, x.2 = .free → ∃ c, env.cells.lookup x.1 = some c) →
    (forIn (m := Sem) l acc fun x cs => (if (x.2 == NameKind.free) = true then do let a ← cellOf env x.1; pure (ForInStep.yield ((x.1, a) :: cs)) else pure (ForInStep.yield cs))) = pure (clOf env l acc)
  | [], acc, _ => rfl
  | (n, k) :: r, acc, h => by
    rw [List.forIn_cons]
    by_cases hk : k = .free
    · subst hk
      obtain ⟨c, hc⟩ := h (n, .free) List.mem_cons_self rfl
      have e1 : cellOf env n = pure c := by unfold cellOf; rw [hc]
      have e2 : clOf env ((n, .free) :: r) acc = clOf env r ((n, c) :: acc) := by
        show clOf env r (if NameKind.free = .free then (n, (env.cells.lookup n).getD 0) :: acc else acc) = _
        rw [if_pos rfl, hc]; rfl
      rw [e2]
      show ((if (NameKind.free == NameKind.free) = true then do let a ← cellOf env n; pure (ForInStep.yield ((n, a) :: acc)) else pure (ForInStep.yield acc)) >>= _) = _
      rw [if_pos (show (NameKind.free == NameKind.free) = true by decide), e1]
      exact clos_go r _ fun x hx => h x (List.mem_cons_of_mem _ hx)
    · have hb : (k == NameKind.free) = false := by simpa using hk
      have e2 : clOf env ((n, k) :: r) acc = clOf env r acc := by
        show clOf env r (if k = .free then (n, (env.cells.lookup n).getD 0) :: acc else acc) = _
        rw [if_neg hk]
      rw [e2]
      show ((if (k == NameKind.free) = true then _ else pure (ForInStep.yield acc)) >>= _) = _
      rw [hb, if_neg Bool.false_ne_true]
      exact clos_go r _ fun x hx => h x (List.mem_cons_of_mem _ hx)
theorem clos_eq {scope : Scope} {env : Env} (h : ∀ x ∈ scope.names, x.2 = .free → ∃ c, env.cells.lookup x.1 = some c) : closureFor scope env = pure (clOf env scope.names []) := by
  have e := clos_go (env := env) scope.names [] h
  unfold closureFor
  show (forIn scope.names [] _ >>= _) = _
  have e' : (forIn (m := Sem) scope.names ([] : List (Str × Addr)) fun x cs => match x with | (name, kind) => (if (kind == NameKind.free) = true then do let a ← cellOf env name; pure (ForInStep.yield ((name, a) :: cs)) else pure (ForInStep.yield cs))) = pure (clOf env scope.names []) := e
  first
    | (rw [e']; rfl)
    | (refine Eq.trans (congrArg (fun t => t >>= _) e') ?_; rfl)
theorem clOf_ok {env : Env} : ∀ (l : List (Str × NameKind)) (acc : List (Str × Addr)), (∀ x ∈ l, x.2 = .free → ∃ c, env.cells.lookup x.1 = some c) → (∀ x c, acc.lookup x = some c → env.cells.lookup x = some c) →
    (∀ x c, (clOf env l acc).lookup x = some c → env.cells.lookup x = some c) ∧ (∀ x c, acc.lookup x = some c → (clOf env l acc).lookup x = some c) ∧ ∀ x, (x, NameKind.free) ∈ l → ∃ c, (clOf env l acc).lookup x = some c
  | [], acc, _, ha => ⟨ha, fun _ _ h => h, fun _ h => nomatch h⟩
  | (n, k) :: r, acc, h, ha => by
    have hr : ∀ x ∈ r, x.2 = .free → ∃ c, env.cells.lookup x.1 = some c := fun x hx => h x (List.mem_cons_of_mem _ hx)
    by_cases hk : k = .free
    · subst hk
      obtain ⟨c, hc⟩ := h (n, .free) List.mem_cons_self rfl
      have e2 : clOf env ((n, .free) :: r) acc = clOf env r ((n, c) :: acc) := by
        show clOf env r (if NameKind.free = .free then (n, (env.cells.lookup n).getD 0) :: acc else acc) = _
        rw [if_pos rfl, hc]; rfl
      rw [e2]
      have ha' : ∀ x c', ((n, c) :: acc).lookup x = some c' → env.cells.lookup x = some c' := fun x c' q => by
        rw [List.lookup_cons] at q
        cases hx : x == n with
        | true =>
          rw [hx] at q
          have z : c = c' := Option.some.inj q
          have y : x = n := by simpa using hx
          rw [y, ← z]; exact hc
        | false => rw [hx] at q; exact ha x c' q
      obtain ⟨i1, i2, i3⟩ := clOf_ok r ((n, c) :: acc) hr ha'
      refine ⟨i1, fun x c' q => ?_, fun x hx => ?_⟩
      · refine i2 x c' ?_
        rw [List.lookup_cons]
        cases hx : x == n with
        | true =>
          have y : x = n := by simpa using hx
          have := ha x c' q
          rw [y, hc] at this
          exact this
        | false => exact q
      · rcases List.mem_cons.mp hx with z | z
        · cases z
          exact ⟨c, i2 n c (by rw [List.lookup_cons, beq_self_eq_true])⟩
        · exact i3 x z
    · have e2 : clOf env ((n, k) :: r) acc = clOf env r acc := by
        show clOf env r (if k = .free then (n, (env.cells.lookup n).getD 0) :: acc else acc) = _
        rw [if_neg hk]
      rw [e2]
      obtain ⟨i1, i2, i3⟩ := clOf_ok r acc hr ha
      refine ⟨i1, i2, fun x hx => ?_⟩
      rcases List.mem_cons.mp hx with z | z
      · cases z; exact absurd rfl hk
      · exact i3 x z
theorem lookup_mem {l : List (Str × NameKind)} {x : Str} {k : NameKind} (h : l.lookup x = some k) : (x, k) ∈ l := by
  induction l with
  | nil => cases h
  | cons p r ih =>
    obtain ⟨n, q⟩ := p
    rw [List.lookup_cons] at h
    cases hx : x == n with
    | true =>
      rw [hx] at h
      have y : x = n := by simpa using hx
      have z : q = k := Option.some.inj h
      subst y z; exact List.mem_cons_self
    | false => rw [hx] at h; exact List.mem_cons_of_mem _ (ih h)
theorem relabel_lookup {env : Env} : ∀ {names : List (Str × NameKind)} {x : Str} {k : NameKind}, (names.map fun (n, k) => if (k == NameKind.free && env.scope.kind == .function && env.kindOf n == some .cell) then (n, NameKind.cell) else (n, k)).lookup x = some k →
    names.lookup x = some k ∨ (k = .cell ∧ names.lookup x = some .free)
  | [], x, k, h => by cases h
  | (n, q) :: r, x, k, h => by
    have ih := @relabel_lookup env r x k
    rw [List.map_cons] at h
    have h' : List.lookup x ((if (q == NameKind.free && env.scope.kind == .function && env.kindOf n == some .cell) = true then (n, NameKind.cell) else (n, q)) :: _) = some k := h
    cases hx : x == n with
    | true =>
      by_cases hc : (q == NameKind.free && env.scope.kind == .function && env.kindOf n == some .cell) = true
      · rw [if_pos hc, List.lookup_cons, hx] at h'
        have z : NameKind.cell = k := Option.some.inj h'
        have y : q = .free := by simp at hc; exact hc.1.1
        refine .inr ⟨z.symm, ?_⟩
        rw [List.lookup_cons, hx, y]
      · rw [if_neg hc, List.lookup_cons, hx] at h'
        refine .inl ?_
        rw [List.lookup_cons, hx]; exact h'
    | false =>
      have h2 : List.lookup x (r.map fun (n, k) => if (k == NameKind.free && env.scope.kind == .function && env.kindOf n == some .cell) then (n, NameKind.cell) else (n, k)) = some k := by
        by_cases hc : (q == NameKind.free && env.scope.kind == .function && env.kindOf n == some .cell) = true
        · rw [if_pos hc, List.lookup_cons, hx] at h'; exact h'
        · rw [if_neg hc, List.lookup_cons, hx] at h'; exact h'
      rw [List.lookup_cons, hx]
      exact ih h2
theorem relabel_free {env : Env} : ∀ {names : List (Str × NameKind)} {x : Str}, names.lookup x = some .free → (names.map fun (n, k) => if (k == NameKind.free && env.scope.kind == .function && env.kindOf n == some .cell) then (n, NameKind.cell) else (n, k)).lookup x = some .cell ∨
      (names.map fun (n, k) => if (k == NameKind.free && env.scope.kind == .function && env.kindOf n == some .cell) then (n, NameKind.cell) else (n, k)).lookup x = some .free
  | [], x, h => by cases h
  | (n, q) :: r, x, h => by
    have ih := @relabel_free env r x
    rw [List.map_cons]
    show List.lookup x ((if (q == NameKind.free && env.scope.kind == .function && env.kindOf n == some .cell) = true then (n, NameKind.cell) else (n, q)) :: _) = some .cell ∨ List.lookup x ((if (q == NameKind.free && env.scope.kind == .function && env.kindOf n == some .cell) = true then (n, NameKind.cell) else (n, q)) :: _) = some .free
    cases hx : x == n with
    | true =>
      rw [List.lookup_cons, hx] at h
      have z : q = NameKind.free := Option.some.inj h
      subst z
      by_cases hc : (NameKind.free == NameKind.free && env.scope.kind == .function && env.kindOf n == some .cell) = true
      · rw [if_pos hc, List.lookup_cons, hx]; exact .inl rfl
      · rw [if_neg hc, List.lookup_cons, hx]; exact .inr rfl
    | false =>
      rw [List.lookup_cons, hx] at h
      by_cases hc : (q == NameKind.free && env.scope.kind == .function && env.kindOf n == some .cell) = true
      · rw [if_pos hc, List.lookup_cons, hx]; exact ih h
      · rw [if_neg hc, List.lookup_cons, hx]; exact ih h
def capOk (N : List Str) (sc : Scope) (M : List Str) (scope : Scope) (cap : List (Option Nat)) : Bool :=
  cap.length == M.length && (M.zip cap).all (fun (x, o) => match o with
    | none => scope.names.lookup x == some .local
    | some j => N[j]? == some x && (scope.names.lookup x == some .free && (sc.names.lookup x == some .cell || sc.names.lookup x == some .free))) &&
  (scope.kind == .function && scope.names.all fun y => y.2 != .cell && ((y.2 != .free || (sc.names.lookup y.1 == some .cell || sc.names.lookup y.1 == some .free)) && (y.2 != .local || scope.names.lookup y.1 == some .local)))
def capS (cap : List (Option Nat)) (σ : St) : St := cap.map fun o => match o with
  | none => none
  | some j => (σ[j]?).getD none
structure CapOk (N : List Str) (sc : Scope) (M : List Str) (scope : Scope) (cap : List (Option Nat)) : Prop where
  len : cap.length = M.length
  own : ∀ (i j : Nat) (x : Str), M[i]? = some x → cap[i]? = some (some j) → N[j]? = some x ∧ scope.names.lookup x = some .free ∧ (sc.names.lookup x = some .cell ∨ sc.names.lookup x = some .free)
  kind : scope.kind = .function
  cell : ∀ y ∈ scope.names, y.2 ≠ .cell
  free : ∀ y ∈ scope.names, y.2 = .free → sc.names.lookup y.1 = some .cell ∨ sc.names.lookup y.1 = some .free
  loc : ∀ y ∈ scope.names, y.2 = .local → scope.names.lookup y.1 = some .local
theorem CapOk.of {N : List Str} {sc : Scope} {M : List Str} {scope : Scope} {cap : List (Option Nat)} (h : capOk N sc M scope cap = true) : CapOk N sc M scope cap := by
  unfold capOk at h
  simp only [Bool.and_eq_true, List.all_eq_true, beq_iff_eq] at h
  obtain ⟨⟨h1, h2⟩, h3, h4⟩ := h
  refine ⟨h1, fun i j x e1 e2 => ?_, h3, fun y hy z => ?_, fun y hy z => ?_, fun y hy z => ?_⟩
  · have hm : (x, some j) ∈ M.zip cap := by
      have : (M.zip cap)[i]? = some (x, some j) := by rw [List.getElem?_zip_eq_some]; exact ⟨e1, e2⟩
      exact List.mem_of_getElem? this
    have := h2 _ hm
    simp only [Bool.and_eq_true, beq_iff_eq, Bool.or_eq_true] at this
    exact this
  · have := (h4 y hy).1
    simp [z] at this
  · have := (h4 y hy).2.1
    simpa [z] using this
  · have := (h4 y hy).2.2
    simpa [z] using this
section
variable {X : Cx} {pins : List (Addr × Obj)} {σ : St} {H H3 : Hp} {s3 : Shared} {M : List Str} {scope : Scope} {cap : List (Option Nat)} {fp : List Addr} {h4 : Heap} {t4 : Nat}
theorem Cx.Ok.cells (ok : X.Ok) {N : List Str} (c : CapOk N X.env.scope M scope cap) : ∀ y ∈ scope.names, y.2 = .free → ∃ d, X.env.cells.lookup y.1 = some d := fun y hy z => ok.has y.1 (c.free y hy z)
theorem blk_start (I : Inv X pins σ H3 s3) (c : CapOk X.N X.env.scope M scope cap) (hf : ∀ b ∈ fp, FpOk X pins H3 b) (hb : ∀ b ∈ fp, b < s3.heap.objs.size)
    (hn : h4.Ns s3.heap.objs.size fun _ => none) (hk : ∀ b o, s3.heap.get? b = some o → h4.get? b = some o) :
    Inv (blk X M scope (clOf X.env scope.names []) fp s3 H3 s3.heap.objs.size) [] (capS cap σ) H3 { s3 with heap := h4, toks := t4 } := by
  obtain ⟨c1, c2, c3⟩ := clOf_ok scope.names [] (I.ok.cells c) (fun x d q => by cases q)
  refine ⟨⟨I.ok.mod, c.kind, I.ok.glob, I.ok.blt, Nat.le_refl _, fun x y d e1 e2 => I.ok.inj x y d (c1 x d e1) (c1 y d e2), fun x hx => ?_, (fun x d z => nomatch z), I.ok.hd, I.ok.frames, .inl rfl, fun b hb' => ?_, I.bs,
    Nat.le_trans I.ok.bsz I.sz, fun b o e z => ?_, fun b hb' z => ?_, I.stack, I.stkFree⟩, rfl, I.bare, Un.kept hk, ⟨_, hn, fun i x v e1 e2 e3 => ?_⟩, fun x d e => ?_, I.hok.fresh (Nat.le_refl _), fun x d e => I.freeC x d (c1 x d e), fun p hp => (nomatch hp), I.hok.kept hk, ?_⟩
  · have hx' : (relabel scope X.env).names.lookup x = some .cell ∨ (relabel scope X.env).names.lookup x = some .free := hx
    rcases hx' with q | q
    · rcases relabel_lookup q with z | ⟨_, z⟩
      · exact absurd rfl (c.cell _ (lookup_mem z))
      · exact c3 x (lookup_mem z)
    · rcases relabel_lookup q with z | ⟨z, _⟩
      · exact c3 x (lookup_mem z)
      · cases z
  · obtain ⟨f0, f1, f2, f3, f4, f5⟩ := hf b hb'
    exact ⟨Nat.ne_of_lt (hb b hb'), fun x d e => f4 x d (c1 x d e)⟩
  · obtain ⟨f0, f1, f2, f3, f4, f5⟩ := hf b z
    rcases f3 with q | q
    · exact I.ok.noex b o e q
    · exact absurd (Nat.lt_of_lt_of_le (Heap.lt_size e) (Nat.le_trans I.ok.bsz q)) (Nat.lt_irrefl _)
  · obtain ⟨f0, f1, f2, f3, f4, f5⟩ := hf b hb'
    rcases List.mem_cons.mp (I.stkSub b z) with q | q
    · exact f1 q
    · exact f2 q
  · have e2' : (cap.map fun o => match o with | none => none | some j => (σ[j]?).getD none)[i]? = some (some v) := e2
    rw [List.getElem?_map] at e2'
    cases q : cap[i]? with
    | none => rw [q] at e2'; cases e2'
    | some o =>
      rw [q] at e2'
      cases o with
      | none => cases e2'
      | some j =>
        have e4 : (σ[j]?).getD none = some v := Option.some.inj e2'
        have e5 : σ[j]? = some (some v) := by
          cases r : σ[j]? with
          | none => rw [r] at e4; cases e4
          | some o => rw [r] at e4; exact congrArg some e4
        obtain ⟨n1, n2, n3⟩ := c.own i j x e1 q
        obtain ⟨m, hm, hl⟩ := I.loc
        obtain ⟨u, ru, lk⟩ := hl j x v n1 e5 (n3.elim (fun z => .inr (.inl z)) fun z => .inr (.inr z))
        refine ⟨u, ru, .inr ?_⟩
        rcases lk with ⟨k1, _⟩ | ⟨_, d, k2, k3⟩
        · have k1' : X.env.scope.names.lookup x = some .local := k1
          rcases n3 with z | z <;> (rw [z] at k1'; cases k1')
        · obtain ⟨d', hd'⟩ := c3 x (lookup_mem n2)
          have ed : d' = d := by
            have := c1 x d' hd'
            rw [k2] at this
            exact (Option.some.inj this).symm
          subst ed
          exact ⟨(relabel_free n2 : (relabel scope X.env).names.lookup x = some .cell ∨ (relabel scope X.env).names.lookup x = some .free), d', hd', k3.keeps hk⟩
  · obtain ⟨v, q⟩ := I.cell x d (c1 x d e)
    exact ⟨v, q.keeps hk⟩
  · show (cap.map _).length = M.length
    rw [List.length_map]; exact c.len
theorem blk_end {σ' : St} {s' : Shared} {h' : Heap} (I : Inv X pins σ H3 s3) (hf : ∀ b ∈ fp, FpOk X pins H3 b) (J : Inv (blk X M scope (clOf X.env scope.names []) fp s3 H3 s3.heap.objs.size) [] σ' H s') (hs : Heap.SameBut s3.heap.objs.size s'.heap h') :
    Inv X pins σ H { s' with heap := h' } := by
  have u : Un (frs X.stack) fp H3 H s3.heap s'.heap := J.base
  have ne : ∀ b o, s3.heap.get? b = some o → b ≠ s3.heap.objs.size := fun b o e => Nat.ne_of_lt (Heap.lt_size e)
  have hC : H s3.heap.objs.size = none := J.free
  refine I.call' (ch := fp) (s' := { s' with heap := h' }) J.os ⟨fun b o e n hb hx => (hs.2 b (ne b o e)).trans (u.keep b o e n hb hx), fun b o e n hb hx => ?_, u.free, fun b o e hx => ?_, u.tups, u.frzs, u.tbls⟩ (fun b o e => ?_) J.bare fun b hb => ?_
  · obtain ⟨sl, q⟩ := u.slot b o e n hb hx
    exact ⟨sl, (hs.2 b (ne b o e)).trans q⟩
  · obtain ⟨o', q⟩ := u.there b o e hx
    exact ⟨o', (hs.2 b (ne b o e)).trans q⟩
  · refine (J.hok b o e).stay (fun c v hc q => (hs.2 c ?_).trans q) (fun _ q => q) fun _ _ q => q
    rintro rfl
    rcases hc with z | z
    · rw [← z, hC] at e; cases e
    · rw [hC] at z; cases z
  · obtain ⟨f0, f1, f2, f3, f4, f5⟩ := hf b hb
    exact ⟨f3, f1, f4, f5⟩
end
end L2
set_option Elab.async false
set_option linter.all false
set_option maxRecDepth 100000
set_option maxHeartbeats 4000000
namespace L2
open PySem PySem.Spec PyProof.Rows
def Wk : St → St → Prop
  | [], [] => True
  | none :: a, _ :: b => Wk a b
  | some v :: a, some u :: b => v = u ∧ Wk a b
  | _, _ => False
theorem Wk.len : ∀ {a b : St}, Wk a b → a.length = b.length
  | [], [], _ => rfl
  | none :: a, _ :: b, h => congrArg (· + 1) (Wk.len (a := a) (b := b) h)
  | some v :: a, some u :: b, h => congrArg (· + 1) (Wk.len (a := a) (b := b) h.2)
  | [], _ :: _, h => h.elim
  | some _ :: _, [], h => h.elim
  | none :: _, [], h => h.elim
  | some _ :: _, none :: _, h => h.elim
theorem Wk.get : ∀ {a b : St}, Wk a b → ∀ (i : Nat) v, a[i]? = some (some v) → b[i]? = some (some v)
  | [], [], _, i, v, h => by simp at h
  | none :: a, x :: b, h, 0, v, e => by simp at e
  | none :: a, x :: b, h, i + 1, v, e => by
    simp only [List.getElem?_cons_succ] at e ⊢
    exact Wk.get (a := a) (b := b) h i v e
  | some q :: a, some u :: b, h, 0, v, e => by
    simp only [List.getElem?_cons_zero] at e ⊢
    rw [← h.1]; exact e
  | some q :: a, some u :: b, h, i + 1, v, e => by
    simp only [List.getElem?_cons_succ] at e ⊢
    exact Wk.get (a := a) (b := b) h.2 i v e
  | [], _ :: _, h, _, _, _ => h.elim
  | some _ :: _, [], h, _, _, _ => h.elim
  | none :: _, [], h, _, _, _ => h.elim
  | some _ :: _, none :: _, h, _, _, _ => h.elim
theorem Inv.wk {X : Cx} {pins : List (Addr × Obj)} {σ σ' : St} {H : Hp} {s : Shared} (I : Inv X pins σ H s) (h : Wk σ' σ) : Inv X pins σ' H s := I.weak h.len h.get
def tLoop (J : It) (body : V → Hp → (Hp → Prop) → Prop) (Qn : Hp → Prop) (H : Hp) : Prop :=
  ∃ W : Nat → Nat → Hp → Prop, (∃ m, W 0 m H) ∧ ∀ i m H2, W i m H2 → (J.stop i H2 ∧ Qn H2) ∨ (J.go i H2 ∧ ∀ x H3, J.yld i H2 x H3 → body x H3 fun H6 => ∃ m', m' < m ∧ W (i + 1) m' H6)
abbrev Act := (Shared → Prop) → Shared → Prop
def BodyOk (Y : Cx) (σ : St) (act : Act) (b : Hp → (Hp → Prop) → Prop) : Prop :=
  ∀ (pins : List (Addr × Obj)) (s : Shared) (H : Hp) (k : Hp → Prop) (Q : Shared → Prop), Inv Y pins σ H s → b H k → (∀ s' H', Inv Y pins σ H' s' → k H' → Q s') → act Q s
theorem comp_loop {Y : Cx} {σ : St} {tg : Expr} {elt : Expr} {gens : List Comprehension} {scope : Scope} {cpos : Pos} {d : Nat} {it D : Addr} {fp : List Addr} {tn : Nat → Heap → Prop} {J : It} {pins : List (Addr × Obj)} {s : Shared} {H : Hp} {body : V → Hp → (Hp → Prop) → Prop} {Qn : Hp → Prop} {R : Result → Shared → Prop} {act : Value → Act}
    (hc : Y.calm = true) (T : Turn Y.prog Y.w Y.K tg J fp it tn) (st : tn 0 s.heap) (hf : ∀ b ∈ fp, FpOk Y pins H b)
    (hturn : ∀ (Q : PySem.Fin → Shared → Prop) (E : Value → Shared → Prop) (s : Shared), wpAny (model Y.prog Y.w) Y.A (pyNext (.ref it)) (fun r s1 => match r with
      | none => Q (.done .next) s1
      | some v => wpAny (model Y.prog Y.w) Y.A (letOwnedTupleGo tg (.ref it) v) (fun _ s2 => act v (fun s3 => Q (.again (.compLoop (.ListComp elt gens scope cpos) d (.ref it) (.ref D) Y.env)) s3) s2) E s1) E s →
      wpAny (model Y.prog Y.w) Y.A (compTurn (.ListComp elt gens scope cpos) d (.ref it) (.ref D) Y.env) Q E s)
    (hact : ∀ (x : V) (u : Value), RelV x u → BodyOk Y σ (act u) (body x))
    (I : Inv Y pins σ H s) (h : tLoop J body Qn H) (hR : ∀ s' H', Inv Y pins σ H' s' → Qn H' → R (.ok .next) s') :
    codeAny (model Y.prog Y.w) Y.A (.compLoop (.ListComp elt gens scope cpos) d (.ref it) (.ref D) Y.env) R s := by
  obtain ⟨W, ⟨m0, w0⟩, turn⟩ := h
  have stat : ∀ {H' : Hp}, (∀ b ∈ fp, H' b = none) → ∀ b ∈ fp, FpOk Y pins H' b := fun hn b hb => ⟨hn b hb, (hf b hb).2⟩
  refine codeAny_loop rfl (fun n s' => ∃ i H', Inv Y pins σ H' s' ∧ tn i s'.heap ∧ (∀ b ∈ fp, H' b = none) ∧ W i n H') (fun n s3 hI => ?_) m0 ⟨0, H, I, st, fun b hb => (hf b hb).1, w0⟩
  show wpAny _ Y.A ((compTurn (.ListComp elt gens scope cpos) d (.ref it) (.ref D) Y.env).onRaise (fun x => do noteFrame x Y.env; theTreesLotGoes x)) _ _ s3
  refine wpAny_noted (hturn _ _ _ ?_)
  obtain ⟨i, H3, I3, st3, fr3, w3⟩ := hI
  rcases turn i n H3 w3 with ⟨stop, qn⟩ | ⟨go, step⟩
  · refine thn (T.done Y rfl rfl rfl hc i pins s3 σ H3 _ I3 (stat fr3) st3 stop) fun r s4 ⟨hr, I4⟩ => ?_
    subst hr
    exact hR s4 H3 I4 qn
  · refine thn (T.item Y rfl rfl rfl hc i pins s3 σ H3 _ I3 (stat fr3) st3 go) fun r s4 ⟨u, hr, h4⟩ => ?_
    subst hr
    refine thn h4 fun _ s5 ⟨x, H5, I5, r5, y5, st5, fr5⟩ => ?_
    have I5' := I5.pinned (stat fr5) (T.obj _ _ st5)
    refine hact x u r5 _ s5 H5 _ _ I5' (step x H5 y5) fun s7 H7 I7 ⟨m', hm, w7⟩ => ?_
    refine ⟨rfl, m', hm, i + 1, H7, I7.unpinned, T.keep _ _ _ st5 fun b hb o e => (I7.pin (b, o) (List.mem_append_right _ (List.mem_append_right _ (mem_pinsAt hb e)))).1, fun b hb => ?_, w7⟩
    obtain ⟨o, e, dd⟩ := T.obj _ _ st5 b hb
    exact (I7.pin (b, o) (List.mem_append_right _ (List.mem_append_right _ (mem_pinsAt hb e)))).2.1
abbrev testsOf (ifs : List Expr) (env : Env) : Sem Bool := forIn ifs true fun c r => if r = true then do let ok ← isTrue c env (eval c env); pure (ForInStep.yield ok) else pure (ForInStep.yield r)
def PTs (Y : Cx) (ifs : List Expr) (t : TT) : Prop :=
  ∀ (pins : List (Addr × Obj)) (s : Shared) (σ : St) (H : Hp) (Q : Bool → Hp → Prop), Inv Y pins σ H s → t σ H Q → wpAny (model Y.prog Y.w) Y.A (testsOf ifs Y.env) (TP Y pins σ Q) Y.xe s
def tNoTest : TT := fun _ H Q => Q true H
theorem pts_nil {Y : Cx} : PTs Y [] tNoTest := fun pins s σ H Q I h => wpAny_tests_nil ⟨H, I, h⟩
theorem pts_one {Y : Cx} {c : Expr} {t : TT} (h : PT Y c t) : PTs Y [c] t := fun pins s σ H Q I q => wpAny_tests_one (h pins s σ H Q I q)
def actOf (Y : Cx) (tg : Expr) (ifs : List Expr) (inner : Act) : Value → Act := fun u Q s =>
  wpAny (model Y.prog Y.w) Y.A (assign tg Y.env u) (fun _ s4 => wpAny (model Y.prog Y.w) Y.A (testsOf ifs Y.env) (fun ok s5 => if ok = true then inner Q s5 else Q s5) (fun _ _ => False) s4) (fun _ _ => False) s
def bOf (σ : St) (g : TG) (tc : TT) (inner : St → Hp → (Hp → Prop) → Prop) : V → Hp → (Hp → Prop) → Prop := fun x H k => g x σ H fun σ4 H4 => Wk σ σ4 ∧ tc σ4 H4 fun b H5 =>
  if b = true then inner σ4 H5 k else k H5
theorem body_of {Y : Cx} {σ : St} {tg : Expr} {ifs : List Expr} {g : TG} {tc : TT} {inner : Act} {ri : St → Hp → (Hp → Prop) → Prop} (hx : Y.xe = fun _ _ => False) (hg : PG Y tg g) (ht : PTs Y ifs tc) (he : ∀ σ4, BodyOk Y σ4 inner (ri σ4)) (x : V) (u : Value) (r : RelV x u) :
    BodyOk Y σ (actOf Y tg ifs inner u) (bOf σ g tc ri x) := by
  intro pins s H k Q I h hQ
  have hx' : ∀ (v : Value) (s' : Shared), Y.xe v s' → False := fun v s' z => by rw [hx] at z; exact z
  refine wpAny_mono (hg pins s σ H x u _ I r h) (fun _ s4 ⟨σ4, H4, I4, wk, q4⟩ => ?_) hx'
  refine wpAny_mono (ht pins s4 σ4 H4 _ I4 q4) (fun b s5 ⟨H5, I5, q5⟩ => ?_) hx'
  cases b with
  | false =>
    rw [if_neg Bool.false_ne_true] at q5
    rw [if_neg Bool.false_ne_true]
    exact hQ s5 H5 (I5.wk wk) q5
  | true =>
    rw [if_pos rfl] at q5
    rw [if_pos rfl]
    exact he σ4 pins s5 H5 k Q I5 q5 fun s' H' I' k' => hQ s' H' (I'.wk wk) k'
def actElt (Y : Cx) (elt : Expr) (D : Addr) : Act := fun Q s => wpAny (model Y.prog Y.w) Y.A (eval elt Y.env) (fun v s6 => wpAny (model Y.prog Y.w) Y.A (call (.builtin "list.append") [.ref D, v]) (fun _ s7 => Q s7) (fun _ _ => False) s6) (fun _ _ => False) s
def bElt (p : Addr) (te : TE) : St → Hp → (Hp → Prop) → Prop := fun σ H k => te σ H fun v H6 => ∃ ys, H6 p = some (.lst ys) ∧ ys.length < sizeLine ∧ k (upd H6 p (.lst (ys ++ [v])))
theorem body_elt {Y : Cx} {σ : St} {elt : Expr} {te : TE} {D : Addr} (hx : Y.xe = fun _ _ => False) (he : PE Y elt te) : BodyOk Y σ (actElt Y elt D) (bElt D te σ) := by
  intro pins s H k Q I h hQ
  have hx' : ∀ (v : Value) (s' : Shared), Y.xe v s' → False := fun v s' z => by rw [hx] at z; exact z
  refine wpAny_mono (he pins s σ H _ I h) (fun v s6 ⟨y, H6, I6, r6, ys, e, hz, q⟩ => ?_) hx'
  exact wpAny_mono (mt_append (X := Y) pins s6 σ H6 (.ref D) [y] (.ref D) [v] (fun _ H' => k H') I6 rfl (.cons r6 .nil) ⟨D, ys, y, rfl, rfl, e, hz, q⟩) (fun _ s7 ⟨_, H7, I7, _, q7⟩ => hQ s7 H7 I7 q7) hx'
theorem turn_one {Y : Cx} {elt tg iter : Expr} {ifs : List Expr} {scope : Scope} {cpos : Pos} {it D : Addr} (Q : PySem.Fin → Shared → Prop) (E : Value → Shared → Prop) (s : Shared)
    (h : wpAny (model Y.prog Y.w) Y.A (pyNext (.ref it)) (fun r s1 => match r with
      | none => Q (.done .next) s1
      | some v => wpAny (model Y.prog Y.w) Y.A (letOwnedTupleGo tg (.ref it) v) (fun _ s2 => actOf Y tg ifs (actElt Y elt D) v (fun s3 => Q (.again (.compLoop (.ListComp elt [⟨tg, iter, ifs, 0⟩] scope cpos) 0 (.ref it) (.ref D) Y.env)) s3) s2) E s1) E s) :
    wpAny (model Y.prog Y.w) Y.A (compTurn (.ListComp elt [⟨tg, iter, ifs, 0⟩] scope cpos) 0 (.ref it) (.ref D) Y.env) Q E s := by
  rw [compTurn_list]
  refine wpAny_bind (wpAny_standAt (wpAny_bind (thn h fun r s1 h1 => ?_)))
  cases r with
  | none => exact wpAny_pure h1
  | some v =>
    refine wpAny_bind (thn h1 fun _ s2 h2 => ?_)
    refine wpAny_bind (wpAny_mono h2 (fun _ s4 h4 => wpAny_bind (wpAny_mono h4 (fun ok s5 h5 => ?_) fun _ _ f => f.elim)) fun _ _ f => f.elim)
    cases ok with
    | false => exact wpAny_pure h5
    | true => exact wpAny_bind (wpAny_bind (wpAny_mono h5 (fun x s6 h6 => wpAny_bind (wpAny_mono h6 (fun _ s7 h7 => wpAny_pure (wpAny_pure h7)) fun _ _ f => f.elim)) fun _ _ f => f.elim))
def tComp (cap : List (Option Nat)) (wi : TI) (g : TG) (tc : TT) (te : TE) : TE := fun σ H Q => wi σ H fun J H1 => ∀ p, H1 p = none → tLoop J (bOf (capS cap σ) g tc (bElt p te)) (Q (.ref p)) (upd H1 p (.lst []))
theorem FpOk.upd {X : Cx} {pins : List (Addr × Obj)} {H : Hp} {b a : Addr} {o : HO} (h : FpOk X pins H b) (hne : b ≠ a) : FpOk X pins (upd H a o) b := ⟨by rw [upd_ne hne]; exact h.1, h.2⟩
theorem pe_lcomp {X : Cx} {M : List Str} {cap : List (Option Nat)} {elt tg iter : Expr} {ifs : List Expr} {scope : Scope} {pos : Pos} {wi : TI} {g : TG} {tc : TT} {te : TE} (hc : X.calm = true) (ok : capOk X.N X.env.scope M scope cap = true)
    (hi : PI X tg iter wi) (hb : ∀ cl ex s3 H3 C, PG (blk X M scope cl ex s3 H3 C) tg g ∧ PTs (blk X M scope cl ex s3 H3 C) ifs tc ∧ PE (blk X M scope cl ex s3 H3 C) elt te)
    (hs : ∀ x, foldedSetIterable iter X.env x = pure x := by intro _; rfl) : PE X (.ListComp elt [⟨tg, iter, ifs, 0⟩] scope pos) (tComp cap wi g tc te) := by
  intro pins s σ H Q I h
  have c := CapOk.of ok
  rw [eval_ListComp]
  refine wpAny_comprehension_free (use := none) rfl hs (clos_eq (I.ok.cells c)) c.kind c.loc ?_
  refine thn (hi pins s σ H _ I h) fun v s1 h1 => thn h1 fun itv s2 h2 => ?_
  obtain ⟨it, fp, tn, J, H2, e, I2, T, st2, f2, hW⟩ := h2
  subst e
  refine wpAny_newObj_type (wpAny_newFunctionEnv c.cell (by intro y hy; simp at hy) (fun h₁ hns₁ hsb₁ => ?_) c.kind)
  have I3 : Inv X pins σ (upd H2 s2.heap.objs.size (.lst [])) { s2 with heap := s2.heap.push { cls := .type "list", data := .seq ([] : List Value).toArray } } := I2.lnew (t' := s2.toks) (ys := []) .nil (Nat.zero_le _)
  have lt2 : ∀ b ∈ fp, b < s2.heap.objs.size := fun b hb => by obtain ⟨o, e, _⟩ := T.obj _ _ st2 b hb; exact Heap.lt_size e
  have f3 : ∀ b ∈ fp, FpOk X pins (upd H2 s2.heap.objs.size (.lst [])) b := fun b hb => (f2 b hb).upd (Nat.ne_of_lt (lt2 b hb))
  generalize hs3 : ({ s2 with heap := s2.heap.push { cls := .type "list", data := .seq ([] : List Value).toArray } } : Shared) = s3 at I3
  have e3 : s3.heap = s2.heap.push { cls := .type "list", data := .seq ([] : List Value).toArray } := by rw [← hs3]
  have z3 : s3.heap.objs.size = s2.heap.objs.size + 1 := by rw [e3, Heap.size_push]
  have hk : ∀ b o, s3.heap.get? b = some o → h₁.get? b = some o := fun b o e => hsb₁.extBut b o (by
    have := Heap.lt_size e
    rw [e3] at this
    exact Nat.ne_of_lt this) (Heap.get?_push_of_some _ (e3 ▸ e))
  have hn₁ : h₁.Ns s3.heap.objs.size fun _ => none := by rw [e3]; exact hns₁
  have B := blk_start (t4 := s3.toks + ([] : List (Str × Value)).length) (fp := fp) I3 c f3 (fun b hb => by rw [z3]; exact Nat.lt_succ_of_lt (lt2 b hb)) hn₁ hk
  have st4 : tn 0 h₁ := T.keep _ _ _ st2 fun b hb o e => hk b o (by rw [e3]; exact Heap.get?_push_of_some _ e)
  have fp4 : ∀ b ∈ fp, FpOk (blk X M scope (clOf X.env scope.names []) fp s3 (upd H2 s2.heap.objs.size (.lst [])) s3.heap.objs.size) [] (upd H2 s2.heap.objs.size (.lst [])) b := fun b hb => by
    refine ⟨(f3 b hb).1, (B.ok.exf b hb).1, B.ok.exfs b hb, .inl hb, (B.ok.exf b hb).2, fun p hp => (nomatch hp)⟩
  obtain ⟨hg, ht, he⟩ := hb (clOf X.env scope.names []) fp s3 (upd H2 s2.heap.objs.size (.lst [])) s3.heap.objs.size
  have loop : codeAny (model X.prog X.w) X.A (.compLoop (.ListComp elt [⟨tg, iter, ifs, 0⟩] scope pos) 0 (.ref it) (.ref s2.heap.objs.size) (compEnvC scope (clOf X.env scope.names []) s3.heap.objs.size X.env))
      (compPost (model X.prog X.w) X.A X.xe none (EP X pins σ Q) (.ref s2.heap.objs.size) s3.heap.objs.size) { s3 with heap := h₁, toks := s3.toks + ([] : List (Str × Value)).length } := by
    refine comp_loop (Y := blk X M scope (clOf X.env scope.names []) fp s3 (upd H2 s2.heap.objs.size (.lst [])) s3.heap.objs.size) (gens := [⟨tg, iter, ifs, 0⟩]) (d := 0) hc T st4 fp4
      (fun Q E s h => turn_one Q E s h) (fun x u r => body_of rfl hg ht (fun σ4 => body_elt rfl he) x u r) B (hW _ (I2.hok.fresh (Nat.le_refl _))) fun s' H' I' q => ?_
    obtain ⟨m, hn, _⟩ := I'.loc
    exact ⟨m, hn, fun h' hs' => ⟨.ref s2.heap.objs.size, H', blk_end I3 f3 I' hs', rfl, q⟩⟩
  exact codeAny_compStart_list loop (T.self _ 0 _ _ _ st4 loop)
end L2
set_option Elab.async false
set_option linter.all false
set_option maxRecDepth 100000
set_option maxHeartbeats 4000000
namespace L2
open PySem PySem.Spec PyProof.Rows
section
variable {X : Cx}
theorem call_isinst : CallR X (.builtin "isinstance") (fun xs H Q => ∃ x t T b, xs = [x, .ty T] ∧ TyOf X.K H x t ∧ PySem.W.kitOne X.K t (.type T) = some b ∧ Q (.bl b) H) := by
  intro pins s σ H xs us Q I r h
  obtain ⟨x, t, T, b, rfl, ty, e, q⟩ := h
  obtain ⟨u, v, rfl, ru, rv⟩ := vals2 r
  cases (show v = Value.type T from rv)
  exact isinst_ok I ru ty e fun tk => ⟨.bl b, H, I.tok tk, rfl, q⟩
theorem bools_of {bs : List Bool} : ∀ {us : List Value}, Vals (bs.map V.bl) us → LSm.BoolsAre us bs := by
  induction bs with
  | nil => intro us r; cases r; exact .nil
  | cons b bs ih =>
    intro us r
    cases r with
    | cons r t =>
      cases (show _ = Value.bool b from r)
      exact .cons b (ih t)
theorem call_all : CallR X (.builtin "all") (fun xs H Q => ∃ (p : Addr) (bs : List Bool), xs = [.ref p] ∧ SqL X.K H p (bs.map V.bl) ∧ X.calm = true ∧ Q (.bl (bs.all id)) H) := by
  intro pins s σ H xs us Q I r h
  obtain ⟨p, bs, rfl, hp, hc, q⟩ := h
  obtain ⟨u, rfl, ru⟩ := vals1 r
  cases ru
  obtain ⟨its, rv, pl, hz⟩ := I.list hp
  have hl := pl.isList
  have hb := bools_of rv
  have hlt : p < s.heap.objs.size := by obtain ⟨_, e, _⟩ := hl; exact Heap.lt_size e
  refine call_all_walk (wpAny_pyIter_list hl ?_)
  refine ⟨s.heap.objs.size, [s.heap.objs.size, p], [s.heap.objs.size], its.toArray.size, _, _, fun i => (bs[i]?).getD true, rfl, Walks.list (A := X.A.in1) (I.ok.hd hc) _ p (Nat.ne_of_lt hlt) its.toArray,
    ⟨⟨_, Heap.get?_push_size _ rfl, rfl, rfl⟩, hl.push _⟩, fun i v s' Q' E' hP hQ => ?_, fun h' tk hk => ?_⟩
  · obtain ⟨b, e, rfl⟩ := hb.get i v (by simpa using hP)
    simp only [e, Option.getD_some] at hQ
    exact wpAny_truthy_bool hQ
  · have e : ((List.range its.toArray.size).all fun i => (bs[i]?).getD true) = bs.all id := by
      rw [List.size_toArray, hb.length]; exact LSm.range_all bs
    rw [e]
    exact ⟨.bl _, H, I.kept (LSm.kept_iter hk), rfl, q⟩
def rSlA : V → Option Int → Option Int → Hp → VK → Prop := fun x lo hi H Q => ∃ a xs, x = .ref a ∧ H a = some (.tup xs) ∧ ∀ p H', Same H H' → H' p = some (.tup (cutV xs lo hi)) → Q (.ref p) H'
theorem same_upd {H : Hp} {p : Addr} {o : HO} (h : H p = none) : Same H (upd H p o) := fun b u e => by rw [upd_ne (ne_of_none e h)]; exact e
theorem getItem_tuple_whole {prog : Program} {w : World} {A : Around} {E : Value → Shared → Prop} {s : Shared} {t sl : Addr} {items : Array Value} {vl vu : Value} {lo hi : Option Int} {Q : Value → Shared → Prop} (ht : IsTup s.heap t items) (hs : s.heap.IsSliceOf sl vl vu .none) (pl : IsPart vl lo) (pu : IsPart vu hi)
    (h1 : HT.sIx items.size 0 lo = 0) (h2 : HT.sIx items.size items.size hi = items.size) (h : Q (.ref t) s) : wpAny (model prog w) A (getItem (.ref t) (.ref sl)) Q E s := by
  obtain ⟨os, hos, hcs, hds⟩ := id hs
  have hTs : s.TypeIs (.ref sl) "slice" := ⟨os, hos, hcs⟩
  unfold getItem
  try with_reducible refine wpAny_holding ?_
  first | refine wpAny_bind (wpAny_pure ?_) | skip
  refine wpAny_bind (wpAny_sequenceKey ht.typeIs (by decide) ?_)
  refine wpAny_bind (wpAny_callSpecial?_slot (name := Str.ofString "__getitem__") ht.typeIs PyProof.Rows.slot_tuple_getitem
    (wpAny_call_entry PyProof.Rows.slot_tuple_getitem ht.typeIs entry_tuple_getitem ?_ (args_tuple_getitem _ _)))
  show wpAny _ _ (Builtin.Tuple.tupleItemsOf (.ref t) >>= _) _ _ s
  refine wpAny_bind (tupleItemsOf_ ht ?_)
  refine wpAny_bind (wpAny_typeOf hTs ?_)
  rw [if_pos (by decide)]
  refine wpAny_bind (HT.sliceApplied_gen hs pl pu ?_)
  show wpAny _ _ (if (((HT.sIx items.size 0 lo : Nat) : Int) == 0 && (1 : Int) == 1 && (HT.sIx items.size items.size hi - HT.sIx items.size 0 lo) == items.size) = true then _ else _) _ _ s
  rw [if_pos (by rw [h1, h2]; simp)]
  refine wpAny_bind (m := Builtin.Tuple.tupleIsExact _) (wpAny_bind (wpAny_typeOf ht.typeIs (wpAny_pure ?_)))
  rw [if_pos (by decide)]
  exact wpAny_bind (wpAny_rule (wpAny_pure ⟨_, rfl, wpAny_pure h⟩))
theorem sl_any : SlR X rSlA := by
  intro pins s σ H x v vl vu lo hi sl Q I rx hs pl pu h
  obtain ⟨a, xs, rfl, hx, q⟩ := h
  by_cases hw : HT.sIx xs.length 0 lo = 0 ∧ HT.sIx xs.length xs.length hi = xs.length
  · cases rx
    obtain ⟨its, r, ht, hz⟩ := I.tuple (SqT.of hx)
    have hlen : its.toArray.size = xs.length := by rw [List.size_toArray]; exact r.length.symm
    refine ⟨"tuple", _, PyProof.Rows.slot_tuple_getitem.lookup, ht.typeIs, ?_⟩
    refine getItem_tuple_whole ht hs pl pu (by rw [hlen]; exact hw.1) (by rw [hlen]; exact hw.2) ?_
    refine ⟨.ref a, H, I, rfl, q a H (Same.refl H) ?_⟩
    have e : cutV xs lo hi = xs := by
      unfold cutV
      rw [hw.1, hw.2]; simp
    rw [e]; exact hx
  · exact sl_tup pins s σ H (.ref a) v vl vu lo hi sl Q I rx hs pl pu ⟨a, xs, rfl, SqT.of hx, hw, fun p hp => q p _ (same_upd hp) upd_same⟩
def rCatA : R2 := fun x y H Q => ∃ a b xs ys, x = .ref a ∧ y = .ref b ∧ H a = some (.tup xs) ∧ H b = some (.tup ys) ∧ xs.length + ys.length ≤ sizeLine ∧ ∀ p H', Same H H' → H' p = some (.tup (xs ++ ys)) → Q (.ref p) H'
theorem op_catA : OpR X (binaryOp .Add) rCatA := by
  intro pins s σ H x y v u Q I rx ry h
  obtain ⟨a, b, xs, ys, rfl, rfl, ha, hb, hz, q⟩ := h
  by_cases hx : xs = []
  · subst hx
    cases rx
    cases ry
    obtain ⟨its, r1, p1, _⟩ := I.tuple (SqT.of ha)
    obtain ⟨its2, r2, p2, _⟩ := I.tuple (SqT.of hb)
    cases r1
    obtain ⟨⟨cls, dd, data, sl⟩, ho, hc, n, hd⟩ := id p1
    obtain ⟨⟨cls2, dd2, data2, sl2⟩, ho2, hc2, n2, hd2⟩ := id p2
    simp only at hc hd hc2 hd2
    subst hc hd hc2 hd2
    exact concat_meets ⟨_, ho, rfl⟩ ⟨_, ho2, rfl⟩ noFill_tuple_add seq_tuple_add PySem.F.slot_tuple_add PySem.F.entry_tuple_add (PySem.F.args_tuple_add_2 _ _)
      (tuple_addW0 a b #[] its2.toArray n n2 dd dd2 sl sl2 rfl) ⟨ho, ho2, ⟨.ref b, H, I, rfl, q b H (Same.refl H) hb⟩⟩
  · exact op_catT pins s σ H _ _ v u Q I rx ry ⟨a, b, xs, ys, rfl, rfl, SqT.of ha, SqT.of hb, hx, hz, fun e => q a H (Same.refl H) (by rw [e, List.append_nil]; exact ha), fun _ p hp => q p _ (same_upd hp) upd_same⟩
def tDNew : TE := fun _ H Q => ∀ p, H p = none → Q (.ref p) (upd H p (.dK []))
theorem pe_dnew {pos : Pos} : PE X (.Dict [] [] pos) tDNew := fun pins s σ H Q I h => by
  refine wpAny_Dict_empty ⟨.ref s.heap.objs.size, _, I.laid (a := s.heap.objs.size) (o := .dK []) (t' := s.toks) (fun _ _ q => Heap.get?_push_of_some _ q) (Nat.le_refl _) ?_, rfl, h _ (I.hok.fresh (Nat.le_refl _))⟩
  have hb : sysModules < s.heap.objs.size := Nat.lt_trans (by decide) (I.mod.glob.keeps I.bk).lt
  exact ⟨Nat.zero_le _, beq_eq_false_iff_ne.mpr (Ne.symm (Nat.ne_of_lt hb)), [], .nil, Heap.DictOf.new s.heap⟩
end
end L2
set_option Elab.async false
set_option linter.all false
set_option maxRecDepth 100000
set_option maxHeartbeats 4000000
namespace Rz
open PySem PyProof.Rows
open Sem (wp)
section
variable {prog : Program} {w : World} {A : Around} {E : Value → Shared → Prop} {s : Shared}
theorem nxt_item {it t : Addr} {i : Nat} {items : Array Value} {x : Value} {Q : Value → Shared → Prop} (hit : s.heap.IsTupleIter it t i) (ht : s.heap.IsTuple t items) (hx : items[i]? = some x)
    (hQ : ∀ h', h'.IsTupleIter it t (i + 1) → Heap.SameBut it s.heap h' → Q x { s with heap := h' }) : wpAny (model prog w) A (Builtin.SmallTypes.nextOf (.ref it)) Q E s := by
  obtain ⟨o, ho, hc, hd⟩ := id hit
  obtain ⟨ol, hol, _, nl, hdl⟩ := ht
  unfold Builtin.SmallTypes.nextOf
  refine wpAny_bind (wpAny_callSpecial?_slot (name := Str.ofString "__next__") hit.typeIs F.slot_tuple_iterator_next
    (wpAny_call_entry F.slot_tuple_iterator_next hit.typeIs F.entry_tuple_iterator_next ?_ (F.args_tuple_iterator_next_1 _)))
  show wpAny _ _ (field (.ref it) 0 >>= _) _ _ s
  refine wpAny_bind (wpAny_field ho hd (x := .ref t) rfl ?_)
  show wpAny _ _ (if (Value.ref t == Value.none) = true then _ else _) _ _ s
  rw [if_neg (show ¬ ((Value.ref t == Value.none) = true) from Bool.false_ne_true)]
  show wpAny _ _ (field (.ref it) 1 >>= _) _ _ s
  refine wpAny_bind (wpAny_field ho hd (x := .int i 0) rfl ?_)
  show wpAny _ _ (seqItems? (.ref t) >>= _) _ _ s
  refine wpAny_bind (wpAny_seqItems hol hdl ?_)
  simp only [Int.toNat_natCast, hx]
  refine wpAny_bind (wpAny_setField ho hd (by simp) (wpAny_pure ⟨x, rfl, wpAny_pure (hQ _ ?_ (Heap.SameBut.update ..))⟩))
  exact ⟨_, Heap.get?_update_self _ ho (Obj.isFreed_of_fields (Obj.data_mapFields hd _)), (Obj.cls_mapFields ..).trans hc, by
    rw [Obj.data_mapFields hd]; simp [rawInt]⟩
theorem nxt_end {it t : Addr} {i : Nat} {items : Array Value} {Q : Value → Shared → Prop} (hh : A.handled = none) (hit : s.heap.IsTupleIter it t i) (ht : s.heap.IsTuple t items) (hx : items[i]? = none)
    (hE : ∀ h' e, Heap.ExtBut it s.heap h' → (∃ o, h'.get? e = some o ∧ o.cls = .type "StopIteration") → E (.ref e) { s with heap := h' }) : wpAny (model prog w) A (Builtin.SmallTypes.nextOf (.ref it)) Q E s := by
  obtain ⟨o, ho, hc, hd⟩ := id hit
  obtain ⟨ol, hol, _, nl, hdl⟩ := ht
  unfold Builtin.SmallTypes.nextOf
  refine wpAny_bind (wpAny_callSpecial?_slot (name := Str.ofString "__next__") hit.typeIs F.slot_tuple_iterator_next
    (wpAny_call_entry F.slot_tuple_iterator_next hit.typeIs F.entry_tuple_iterator_next ?_ (F.args_tuple_iterator_next_1 _)))
  show wpAny _ _ (field (.ref it) 0 >>= _) _ _ s
  refine wpAny_bind (wpAny_field ho hd (x := .ref t) rfl ?_)
  show wpAny _ _ (if (Value.ref t == Value.none) = true then _ else _) _ _ s
  rw [if_neg (show ¬ ((Value.ref t == Value.none) = true) from Bool.false_ne_true)]
  show wpAny _ _ (field (.ref it) 1 >>= _) _ _ s
  refine wpAny_bind (wpAny_field ho hd (x := .int i 0) rfl ?_)
  show wpAny _ _ (seqItems? (.ref t) >>= _) _ _ s
  refine wpAny_bind (wpAny_seqItems hol hdl ?_)
  simp only [Int.toNat_natCast, hx]
  refine wpAny_bind (wpAny_rule (wpAny_bind (wpAny_setField ho hd (by simp) ?_)))
  show wpAny _ _ (newExc (.type "StopIteration") [] >>= _) _ _ _
  refine wpAny_bind ?_
  simp only [newExc, newTuple]
  refine wpAny_bind (wpAny_newObj_type ?_ (by size_fits))
  refine wpAny_bind (m := firstArgMember _ _) (wpAny_of_eq (a := Value.none) (by first | rfl | (simp only [firstArgMember]; rfl)) ?_)
  refine wpAny_newObj_type ?_ (by size_fits)
  simp only [raiseNew]
  refine wpAny_bind (wpAny_handled ?_)
  first | rw [show A.in1.handled = none from hh] | rw [hh]
  refine wpAny_bind (wpAny_pure (wpAny_throw ?_))
  exact hE _ _ (((Heap.SameBut.update ..).extBut.push _).push _) ⟨_, Heap.get?_push_size _ rfl, rfl⟩
end
section
variable {prog : Program} {w : World} {A : Around} {E : Value → Shared → Prop} {s : Shared}
end
end Rz
set_option Elab.async false
set_option linter.all false
set_option maxRecDepth 100000
set_option maxHeartbeats 4000000
namespace L2
open PySem PySem.Spec PyProof.Rows
section
variable {X : Cx} {pins : List (Addr × Obj)} {σ : St} {H : Hp} {s : Shared} {h' : Heap}
theorem Inv.turnedNew {t' : Nat} {ch : List Addr} {a : Addr} {o : HO} (I : Inv X pins σ H s) (hch : ∀ b ∈ ch, FpOk X pins H b) (k : ∀ b u, b ∉ ch → s.heap.get? b = some u → h'.get? b = some u) (hp : s.heap.objs.size ≤ a)
    (new : ObjOk X.prog X.w (upd H a o) h' a o) : Inv X pins σ (upd H a o) { s with heap := h', toks := t' } := by
  have hn : H a = none := I.hok.fresh hp
  have nch : ∀ b u, H b = some u → b ∉ ch := fun b u e z => by rw [(hch b z).1] at e; cases e
  refine I.step (g' := s.gens) (d' := s.drawn) (ch := ch) (fun b hb => ?_) (fun b u _ _ hc e _ => k b u hc e) (fun b u _ _ hc e _ => ⟨u.slots, k b u hc e⟩) (fun b u hc e n => ?_) (fun b u hc e => ⟨u, k b u hc e⟩)
    (fun b xs e => by rw [upd_ne (ne_of_none e hn)]; exact e) (fun b u v e => by rw [upd_ne (ne_of_none e hn)]; exact e) (fun b ps e => ⟨#[], by rw [upd_ne (ne_of_none e hn), e]; simp⟩) (fun m hm => ?_) (fun b u e => ?_) I.bare
  · obtain ⟨f0, f1, f2, f3, f4, f5⟩ := hch b hb
    exact ⟨f3, f1, f4, f5⟩
  · rw [upd_ne (Nat.ne_of_lt (Nat.lt_of_lt_of_le (Heap.lt_size e) hp))]; exact n
  · obtain ⟨u, es, ep, ho, r⟩ := hm
    exact ⟨u, es, ep, k _ u (fun z => (hch _ z).2.1 rfl) ho, r⟩
  · by_cases hb : b = a
    · subst hb; rw [upd_same] at e; cases e; exact new
    · rw [upd_ne hb] at e
      refine (I.hok b u e).stay (fun c v hc q => k c v ?_ q) (fun c q => by rw [upd_ne (ne_of_none q hn)]; exact q) fun c xs q => by rw [upd_ne (ne_of_none q hn)]; exact q
      rcases hc with z | z
      · rw [z]; exact nch b u e
      · exact nch c _ z
theorem Inv.turnedAll {t' : Nat} {ch : List Addr} (I : Inv X pins σ H s) (hch : ∀ b ∈ ch, FpOk X pins H b) (k : ∀ b u, b ∉ ch → s.heap.get? b = some u → h'.get? b = some u) : Inv X pins σ H { s with heap := h', toks := t' } := by
  have nch : ∀ b u, H b = some u → b ∉ ch := fun b u e z => by rw [(hch b z).1] at e; cases e
  refine I.step (g' := s.gens) (d' := s.drawn) (ch := ch) (fun b hb => ?_) (fun b u _ _ hc e _ => k b u hc e) (fun b u _ _ hc e _ => ⟨u.slots, k b u hc e⟩) (fun b u hc e n => n) (fun b u hc e => ⟨u, k b u hc e⟩)
    (fun b xs e => e) (fun b u v e => e) (fun b ps e => ⟨#[], by rw [e]; simp⟩) (fun m hm => ?_) (fun b u e => ?_) I.bare
  · obtain ⟨f0, f1, f2, f3, f4, f5⟩ := hch b hb
    exact ⟨f3, f1, f4, f5⟩
  · obtain ⟨u, es, ep, ho, r⟩ := hm
    exact ⟨u, es, ep, k _ u (fun z => (hch _ z).2.1 rfl) ho, r⟩
  · refine (I.hok b u e).stay (fun c v hc q => k c v ?_ q) (fun c q => q) fun c xs q => q
    rcases hc with z | z
    · rw [z]; exact nch b u e
    · exact nch c _ z
end
section
variable {X : Cx}
end
end L2
set_option Elab.async false
set_option linter.all false
set_option maxRecDepth 100000
set_option maxHeartbeats 4000000
namespace Rk
open PySem PySem.Spec PyProof.Rows L2
def tupO : Option HO → Option (List V)
  | some (.tup xs) => some xs
  | _ => none
def tupOf (H : Hp) : V → Option (List V)
  | .ref a => tupO (H a)
  | _ => none
theorem tupOf_at (H : Hp) (a : Addr) : tupOf H (.ref a) = tupO (H a) := rfl
def isT (H : Hp) (x : V) : Bool := (tupOf H x).isSome
def isI : V → Bool
  | .int _ => true
  | _ => false
def isB : V → Bool
  | .bl _ => true
  | _ => false
def Kn (p : Addr) (H : Hp) : V → Prop
  | .non => True
  | .bl _ => True
  | .int _ => True
  | .str _ => True
  | .ref a => a ≠ p ∧ ((∃ xs, H a = some (.tup xs)) ∨ (∃ xs, H a = some (.lst xs)) ∨ ∃ kvs, H a = some (.dK kvs))
  | _ => False
def KnD (p : Addr) : Nat → Hp → V → Prop
  | 0, H, x => Kn p H x
  | n + 1, H, x => Kn p H x ∧ ∀ xs, tupOf H x = some xs → ∀ y ∈ xs, KnD p n H y
def KX (p : Addr) (H H' : Hp) : Prop := ∀ b o, b ≠ p → H b = some o → H' b = some o
theorem KX.refl (p : Addr) (H : Hp) : KX p H H := fun _ _ _ e => e
theorem KX.trans {p : Addr} {H H1 H2 : Hp} (a : KX p H H1) (b : KX p H1 H2) : KX p H H2 := fun c o h e => b c o h (a c o h e)
theorem KX.of {p : Addr} {H H' : Hp} (h : Same H H') : KX p H H' := fun b o _ e => h b o e
theorem KX.upd {p : Addr} {H : Hp} {o : HO} : KX p H (upd H p o) := fun b u n e => by rw [upd_ne n]; exact e
theorem KX.new {p q : Addr} {H : Hp} {o : HO} (h : H q = none) : KX p H (L2.upd H q o) := KX.of (same_upd h)
theorem Kn.keep {p : Addr} {H H' : Hp} (k : KX p H H') : ∀ {x : V}, Kn p H x → Kn p H' x
  | .non, h => h
  | .bl _, h => h
  | .int _, h => h
  | .str _, h => h
  | .ref a, ⟨n, h⟩ => ⟨n, by
    rcases h with ⟨xs, e⟩ | ⟨xs, e⟩ | ⟨xs, e⟩
    · exact .inl ⟨xs, k a _ n e⟩
    · exact .inr (.inl ⟨xs, k a _ n e⟩)
    · exact .inr (.inr ⟨xs, k a _ n e⟩)⟩
  | .byt _, h => h.elim
  | .flt _, h => h.elim
  | .ty _, h => h.elim
theorem tupOf_keep {p : Addr} {H H' : Hp} (k : KX p H H') : ∀ {x : V}, Kn p H x → tupOf H' x = tupOf H x
  | .non, h => rfl
  | .bl _, h => rfl
  | .int _, h => rfl
  | .str _, h => rfl
  | .ref a, ⟨n, h⟩ => by
    rcases h with ⟨xs, e⟩ | ⟨xs, e⟩ | ⟨xs, e⟩ <;> rw [tupOf_at, tupOf_at, e, k a _ n e]
  | .byt _, h => h.elim
  | .flt _, h => h.elim
  | .ty _, h => h.elim
theorem KnD.kn {p : Addr} {H : Hp} {x : V} : ∀ {n : Nat}, KnD p n H x → Kn p H x
  | 0, h => h
  | _ + 1, h => h.1
theorem KnD.keep {p : Addr} {H H' : Hp} (k : KX p H H') : ∀ {n : Nat} {x : V}, KnD p n H x → KnD p n H' x
  | 0, x, h => Kn.keep k h
  | n + 1, x, h => ⟨Kn.keep k h.1, fun xs e y hy => KnD.keep k (h.2 xs (by rw [← tupOf_keep k h.1]; exact e) y hy)⟩
theorem KnD.low {p : Addr} {H : Hp} : ∀ {n : Nat} {x : V}, KnD p (n + 1) H x → KnD p n H x
  | 0, x, h => h.1
  | n + 1, x, h => ⟨h.1, fun xs e y hy => KnD.low (h.2 xs e y hy)⟩
theorem KnD.tup {p : Addr} {H : Hp} {n : Nat} {a : Addr} {xs : List V} (hp : a ≠ p) (e : H a = some (.tup xs)) (h : ∀ y ∈ xs, KnD p n H y) : KnD p (n + 1) H (.ref a) :=
  ⟨⟨hp, .inl ⟨xs, e⟩⟩, fun ys z y hy => h y (by
    have z' : some xs = some ys := by rw [← z, tupOf_at, e]; rfl
    cases z'; exact hy)⟩
theorem KnD.int {p : Addr} {H : Hp} (i : Int) : ∀ (n : Nat), KnD p n H (.int i)
  | 0 => trivial
  | n + 1 => ⟨trivial, fun _ e => nomatch e⟩
theorem KnD.bl {p : Addr} {H : Hp} (i : Bool) : ∀ (n : Nat), KnD p n H (.bl i)
  | 0 => trivial
  | n + 1 => ⟨trivial, fun _ e => nomatch e⟩
theorem KnD.str {p : Addr} {H : Hp} (i : Str) : ∀ (n : Nat), KnD p n H (.str i)
  | 0 => trivial
  | n + 1 => ⟨trivial, fun _ e => nomatch e⟩
theorem KnD.non {p : Addr} {H : Hp} : ∀ (n : Nat), KnD p n H .non
  | 0 => trivial
  | n + 1 => ⟨trivial, fun _ e => nomatch e⟩
theorem KnD.lst {p : Addr} {H : Hp} {a : Addr} {xs : List V} (hp : a ≠ p) (e : H a = some (.lst xs)) : ∀ (n : Nat), KnD p n H (.ref a)
  | 0 => ⟨hp, .inr (.inl ⟨xs, e⟩)⟩
  | n + 1 => ⟨⟨hp, .inr (.inl ⟨xs, e⟩)⟩, fun ys z => by rw [tupOf_at, e] at z; cases z⟩
theorem KnD.dct {p : Addr} {H : Hp} {a : Addr} {kvs : List (Key × V)} (hp : a ≠ p) (e : H a = some (.dK kvs)) : ∀ (n : Nat), KnD p n H (.ref a)
  | 0 => ⟨hp, .inr (.inr ⟨kvs, e⟩)⟩
  | n + 1 => ⟨⟨hp, .inr (.inr ⟨kvs, e⟩)⟩, fun ys z => by rw [tupOf_at, e] at z; cases z⟩
theorem tupOf_ref {H : Hp} {a : Addr} {xs : List V} (e : H a = some (.tup xs)) : tupOf H (.ref a) = some xs := by rw [tupOf_at, e]; rfl
theorem tupOf_get {H : Hp} : ∀ {x : V} {xs : List V}, tupOf H x = some xs → ∃ a, x = .ref a ∧ H a = some (.tup xs)
  | .ref a, xs, e => by
    rw [tupOf_at] at e
    cases h : H a with
    | none => rw [h] at e; cases e
    | some o =>
      rw [h] at e
      cases o with
      | tup ys => cases e; exact ⟨a, rfl, h⟩
      | _ => cases e
theorem inst_tuple {K : PySem.W.Frag} {p : Addr} {H : Hp} : ∀ {x : V}, Kn p H x → ∃ t, TyOf K H x t ∧ PySem.W.kitOne K t (.type "tuple") = some (isT H x)
  | .non, h => ⟨_, .non, rfl⟩
  | .bl _, h => ⟨_, .bl _, rfl⟩
  | .int _, h => ⟨_, .int _, rfl⟩
  | .str _, h => ⟨_, .str _, rfl⟩
  | .ref a, ⟨_, h⟩ => by
    rcases h with ⟨xs, e⟩ | ⟨xs, e⟩ | ⟨xs, e⟩
    · exact ⟨_, .tup e, by unfold isT; rw [tupOf_at, e]; rfl⟩
    · exact ⟨_, .lst e, by unfold isT; rw [tupOf_at, e]; rfl⟩
    · exact ⟨_, .dK e, by unfold isT; rw [tupOf_at, e]; rfl⟩
  | .byt _, h => h.elim
  | .flt _, h => h.elim
  | .ty _, h => h.elim
theorem inst_int {K : PySem.W.Frag} {p : Addr} {H : Hp} : ∀ {x : V}, Kn p H x → ∃ t, TyOf K H x t ∧ PySem.W.kitOne K t (.type "int") = some (isI x || isB x)
  | .non, h => ⟨_, .non, rfl⟩
  | .bl _, h => ⟨_, .bl _, rfl⟩
  | .int _, h => ⟨_, .int _, rfl⟩
  | .str _, h => ⟨_, .str _, rfl⟩
  | .ref a, ⟨_, h⟩ => by
    rcases h with ⟨xs, e⟩ | ⟨xs, e⟩ | ⟨xs, e⟩
    · exact ⟨_, .tup e, rfl⟩
    · exact ⟨_, .lst e, rfl⟩
    · exact ⟨_, .dK e, rfl⟩
  | .byt _, h => h.elim
  | .flt _, h => h.elim
  | .ty _, h => h.elim
theorem inst_bool {K : PySem.W.Frag} {p : Addr} {H : Hp} : ∀ {x : V}, Kn p H x → ∃ t, TyOf K H x t ∧ PySem.W.kitOne K t (.type "bool") = some (isB x)
  | .non, h => ⟨_, .non, rfl⟩
  | .bl _, h => ⟨_, .bl _, rfl⟩
  | .int _, h => ⟨_, .int _, rfl⟩
  | .str _, h => ⟨_, .str _, rfl⟩
  | .ref a, ⟨_, h⟩ => by
    rcases h with ⟨xs, e⟩ | ⟨xs, e⟩ | ⟨xs, e⟩
    · exact ⟨_, .tup e, rfl⟩
    · exact ⟨_, .lst e, rfl⟩
    · exact ⟨_, .dK e, rfl⟩
  | .byt _, h => h.elim
  | .flt _, h => h.elim
  | .ty _, h => h.elim
def within (x : V) (a b : Int) : Bool := match x with
  | .int i => decide (a ≤ i) && decide (i ≤ b)
  | _ => false
def intV : V → Int
  | .int i => i
  | _ => 0
def IntsT (H : Hp) (x : V) (ns : List Int) : Prop := ∃ a, x = .ref a ∧ H a = some (.tup (ns.map V.int))
theorem IntsT.keep {H H' : Hp} (s : Same H H') {x : V} {ns : List Int} (h : IntsT H x ns) : IntsT H' x ns := by
  obtain ⟨a, e, q⟩ := h
  exact ⟨a, e, s a _ q⟩
end Rk
set_option Elab.async false
set_option linter.all false
namespace Rk
open PySem PySem.Spec PyProof.Rows L2
theorem bt_isinstance : bootBuiltins "isinstance" = some (.builtin "isinstance") := by decide +kernel
theorem bt_int : bootBuiltins "int" = some (.type "int") := by decide +kernel
theorem bt_bool : bootBuiltins "bool" = some (.type "bool") := by decide +kernel
theorem bt_tuple : bootBuiltins "tuple" = some (.type "tuple") := by decide +kernel
theorem bt_list : bootBuiltins "list" = some (.type "list") := by decide +kernel
theorem bt_all : bootBuiltins "all" = some (.builtin "all") := by decide +kernel
theorem bt_len : bootBuiltins "len" = some (.builtin "len") := by decide +kernel
theorem bt_max : bootBuiltins "max" = some (.builtin "max") := by decide +kernel
theorem bt_min : bootBuiltins "min" = some (.builtin "min") := by decide +kernel
end Rk
set_option Elab.async false
set_option linter.all false
set_option maxRecDepth 100000
set_option maxHeartbeats 4000000
namespace L2
open PySem PySem.Spec PyProof.Rows
theorem loop_by {J : It} {body : V → Hp → (Hp → Prop) → Prop} {Qn : Hp → Prop} {H : Hp} (n : Nat) (Pv : Nat → Hp → Prop) (h0 : Pv 0 H)
    (hs : ∀ i H2, i < n → Pv i H2 → J.go i H2 ∧ ∀ x H3, J.yld i H2 x H3 → ∀ k : Hp → Prop, (∀ H6, Pv (i + 1) H6 → k H6) → body x H3 k) (hd : ∀ H2, Pv n H2 → J.stop n H2 ∧ Qn H2) : tLoop J body Qn H := by
  refine ⟨fun i m H => m = n - i ∧ i ≤ n ∧ Pv i H, ⟨n, by simp, Nat.zero_le _, h0⟩, ?_⟩
  rintro i m H2 ⟨rfl, hi, p⟩
  by_cases hlt : i < n
  · obtain ⟨go, st⟩ := hs i H2 hlt p
    exact .inr ⟨go, fun x H3 y => st x H3 y _ fun H6 p6 => ⟨n - (i + 1), by omega, rfl, hlt, p6⟩⟩
  · have e : i = n := by omega
    subst e
    exact .inl (hd H2 p)
theorem comp_bools {J : It} {σ : St} {g : TG} {te : TE} {p : Addr} {H1 : Hp} {Qn : Hp → Prop} (n : Nat) (hn : n < sizeLine) (F : Nat → Bool) (hp : H1 p = none)
    (hs : ∀ i H2, i < n → Same H1 H2 → J.go i H2 ∧ ∀ x H3, J.yld i H2 x H3 → ∀ k : VK, (∀ H6, Same H2 H6 → k (.bl (F i)) H6) → g x σ H3 fun σ4 H4 => Wk σ σ4 ∧ te σ4 H4 k)
    (hst : ∀ H2, Same H1 H2 → J.stop n H2) (hq : ∀ H2, Same H1 H2 → H2 p = some (.lst (((List.range n).map F).map V.bl)) → Qn H2) :
    tLoop J (bOf σ g tNoTest (bElt p te)) Qn (upd H1 p (.lst [])) := by
  refine loop_by n (fun i H2 => Same H1 H2 ∧ H2 p = some (.lst (((List.range i).map F).map V.bl))) ⟨same_upd hp, upd_same⟩ (fun i H2 hi ⟨s2, e2⟩ => ?_) fun H2 ⟨s2, e2⟩ => ⟨hst H2 s2, hq H2 s2 e2⟩
  obtain ⟨go, st⟩ := hs i H2 hi s2
  refine ⟨go, fun x H3 y k hk => ?_⟩
  refine st x H3 y (fun v H6 => ∃ ys, H6 p = some (.lst ys) ∧ ys.length < sizeLine ∧ k (upd H6 p (.lst (ys ++ [v])))) fun H6 s6 => ?_
  have e6 := s6 p _ e2
  refine ⟨_, e6, ?_, hk _ ⟨fun b o e => ?_, ?_⟩⟩
  · rw [List.length_map, List.length_map, List.length_range]; omega
  · have hb : b ≠ p := ne_of_none e hp
    rw [upd_ne hb]; exact s6 b o (s2 b o e)
  · rw [upd_same, List.range_succ, List.map_append, List.map_append]; rfl
end L2
namespace Rk
open PySem PySem.Spec PyProof.Rows L2
theorem within_int (i a b : Int) : within (.int i) a b = (decide (a ≤ i) && decide (i ≤ b)) := rfl
theorem range_getD {α : Type} (L : List α) (d : α) : (List.range L.length).map (fun i => L.getD i d) = L := by
  refine List.ext_getElem? fun i => ?_
  rw [List.getElem?_map]
  by_cases hi : i < L.length
  · rw [List.getElem?_range hi]
    show some (L.getD i d) = L[i]?
    rw [List.getD_eq_getElem?_getD, List.getElem?_eq_getElem hi]; rfl
  · have h1 : (List.range L.length)[i]? = none := List.getElem?_eq_none (by rw [List.length_range]; omega)
    have h2 : L[i]? = none := List.getElem?_eq_none (by omega)
    rw [h1, h2]; rfl
end Rk
set_option Elab.async false
set_option linter.all false
set_option maxRecDepth 100000
set_option maxHeartbeats 4000000
namespace Rk
open PySem PySem.Spec PyProof.Rows L2
theorem withS {H : Hp} {l : Addr} {o : HO} {Q : Hp → Prop} (h : H l = none) (k : ∀ H', Same H H' → H' l = some o → Q H') : Q (upd H l o) := k _ (same_upd h) upd_same
def spCellAt (K : PySem.W.Frag) : Sp := fun vs H Q _ => ∃ a ns k, vs = [.ref a, .int k] ∧ SqL K H a ((ns : List Int).map V.int) ∧ ns.length < 2 ^ 20 ∧ 0 ≤ k ∧ ∀ c, Q (.int c) H
def spPot : Sp := fun vs H Q _ => ∃ c, vs = [.int c] ∧ ∀ p n, H p = none → Q (.ref p) (upd H p (.lst [.int n]))
def spTake : Sp := fun vs H Q _ => ∃ p n f, vs = [.ref p, .int f] ∧ H p = some (.lst [.int n]) ∧ 0 < f ∧ f < 1073741824 ∧ ∀ r m, 0 ≤ r → r < f → Q (.int r) (upd H p (.lst [.int m]))
def Cs (p : Addr) (H : Hp) : List V → List (Int × Int) → Prop := Paired fun x ij => ∃ d, d ≠ p ∧ x = .ref d ∧ H d = some (.tup [.int ij.1, .int ij.2])
theorem Cs.keep {p : Addr} {H H' : Hp} (k : ∀ d xs, d ≠ p → H d = some (.tup xs) → H' d = some (.tup xs)) : ∀ {ps : List V} {L : List (Int × Int)}, Cs p H ps L → Cs p H' ps L := fun h => Paired.mapP h fun x ij ⟨d, n, e, q⟩ => ⟨d, n, e, k d _ n q⟩
theorem Cs.kx {p : Addr} {H H' : Hp} (k : KX p H H') {ps : List V} {L : List (Int × Int)} (h : Cs p H ps L) : Cs p H' ps L := h.keep fun d xs n e => k d _ n e
theorem Cs.upd {p cl : Addr} {H : Hp} {xs : List V} {o : HO} (e : H cl = some (.lst xs)) {ps : List V} {L : List (Int × Int)} (h : Cs p H ps L) : Cs p (L2.upd H cl o) ps L := h.keep fun d ys n q => by
  rw [upd_ne]
  · exact q
  · intro z; rw [z, e] at q; cases q
theorem Cs.len {p : Addr} {H : Hp} {ps : List V} {L : List (Int × Int)} (h : Cs p H ps L) : ps.length = L.length := Paired.length h
theorem Cs.snoc {p : Addr} {H : Hp} {ps : List V} {L : List (Int × Int)} {x : V} {ij : Int × Int} (h : Cs p H ps L) (q : ∃ d, d ≠ p ∧ x = .ref d ∧ H d = some (.tup [.int ij.1, .int ij.2])) : Cs p H (ps ++ [x]) (L ++ [ij]) := Paired.snoc h q
theorem Cs.mem {p : Addr} {H : Hp} : ∀ {ps : List V} {L : List (Int × Int)}, Cs p H ps L → ∀ x ∈ ps, ∃ ij ∈ L, ∃ d, d ≠ p ∧ x = .ref d ∧ H d = some (.tup [.int ij.1, .int ij.2])
  | _, _, .nil, x, h => nomatch h
  | _, _, .cons r t, x, h => by
    rcases List.mem_cons.mp h with e | e
    · subst e; exact ⟨_, List.mem_cons_self, r⟩
    · obtain ⟨ij, m, q⟩ := Cs.mem t x e; exact ⟨ij, List.mem_cons_of_mem _ m, q⟩
def Before (a b : Int × Int) : Prop := a.1 < b.1 ∨ (a.1 = b.1 ∧ a.2 < b.2)
structure Good (h w : Int) (L : List (Int × Int)) : Prop where
  asc : L.Pairwise Before
  ins : ∀ x ∈ L, 0 ≤ x.1 ∧ x.1 < h ∧ 0 ≤ x.2 ∧ x.2 < w
  len : L.length ≤ 36
structure BoardAt (p : Addr) (H : Hp) (q : Addr) (h w : Int) (L : List (Int × Int)) : Prop where
  ne : q ≠ p
  it : ∃ c ps, c ≠ p ∧ H q = some (.tup [.int h, .int w, .ref c]) ∧ H c = some (.tup ps) ∧ Cs p H ps L
  h1 : 1 ≤ h
  h6 : h ≤ 6
  w1 : 1 ≤ w
  w6 : w ≤ 6
  good : Good h w L
theorem BoardAt.kx {p : Addr} {H H' : Hp} {q : Addr} {h w : Int} {L : List (Int × Int)} (B : BoardAt p H q h w L) (k : KX p H H') : BoardAt p H' q h w L := by
  obtain ⟨ne, ⟨c, ps, nc, e1, e2, cs⟩, h1, h6, w1, w6, g⟩ := B
  exact ⟨ne, ⟨c, ps, nc, k q _ ne e1, k c _ nc e2, cs.kx k⟩, h1, h6, w1, w6, g⟩
theorem emod_lt' (x : Int) {m : Int} (h : 0 < m) : 0 ≤ x % m ∧ x % m < m := ⟨Int.emod_nonneg _ (by omega), Int.emod_lt_of_pos _ h⟩
end Rk
set_option Elab.async false
set_option linter.all false
set_option maxRecDepth 100000
set_option maxHeartbeats 4000000
namespace Rk
open PySem PySem.Spec PyProof.Rows L2
def notStar : Expr → Bool
  | .Starred _ _ => false
  | _ => true
theorem star_of {e : Expr} {es : List Expr} {env : Env} (h : notStar e = true) : starEach (e :: es) env = (false, eval e env) :: starEach es env := by
  cases e <;> first | rfl | cases h
section
variable {X : Cx}
theorem pa_c {e : Expr} {es : List Expr} {te : TE} {t : TA} (ha : PE X e te) (hr : PA X es t) (hs : notStar e = true := by rfl) : PA X (e :: es) (tCons te t) := pa_cons ha hr (star_of hs)
end
theorem KnD.mono {p : Addr} {H : Hp} {x : V} {n m : Nat} (h : m ≤ n) (k : KnD p n H x) : KnD p m H x := by
  induction n with
  | zero => have : m = 0 := by omega
            subst this; exact k
  | succ n ih =>
    by_cases e : m = n + 1
    · subst e; exact k
    · exact ih (by omega) k.low
def Sm (H : Hp) (x : V) : Prop := ∀ ps, tupOf H x = some ps → ps.length < sizeLine
def Part (p : Addr) (H : Hp) (x : V) : Prop := KnD p 2 H x ∧ Sm H x
def Thing (p : Addr) (H : Hp) (x : V) : Prop := KnD p 3 H x ∧ Sm H x ∧ ∀ xs, tupOf H x = some xs → ∀ y ∈ xs, Sm H y
theorem Sm.keep {p : Addr} {H H' : Hp} (k : KX p H H') {x : V} (n : Kn p H x) (h : Sm H x) : Sm H' x := fun ps e => h ps (by rw [← tupOf_keep k n]; exact e)
theorem Part.keep {p : Addr} {H H' : Hp} (k : KX p H H') {x : V} (h : Part p H x) : Part p H' x := ⟨h.1.keep k, h.2.keep k h.1.kn⟩
theorem Thing.keep {p : Addr} {H H' : Hp} (k : KX p H H') {x : V} (h : Thing p H x) : Thing p H' x :=
  ⟨h.1.keep k, h.2.1.keep k h.1.kn, fun xs e y hy => by
    have e' : tupOf H x = some xs := by rw [← tupOf_keep k h.1.kn]; exact e
    exact Sm.keep k (h.1.2 xs e' y hy).kn (h.2.2 xs e' y hy)⟩
theorem Thing.int {p : Addr} {H : Hp} (i : Int) : Thing p H (.int i) := ⟨KnD.int i 3, (fun _ e => nomatch e), (fun _ e => nomatch e)⟩
theorem Thing.bl {p : Addr} {H : Hp} (i : Bool) : Thing p H (.bl i) := ⟨KnD.bl i 3, (fun _ e => nomatch e), (fun _ e => nomatch e)⟩
theorem Thing.str {p : Addr} {H : Hp} (i : Str) : Thing p H (.str i) := ⟨KnD.str i 3, (fun _ e => nomatch e), (fun _ e => nomatch e)⟩
theorem Thing.non {p : Addr} {H : Hp} : Thing p H .non := ⟨KnD.non 3, (fun _ e => nomatch e), (fun _ e => nomatch e)⟩
theorem no_tup {H : Hp} {a : Addr} {o : HO} (e : H a = some o) (h : tupO (some o) = none) {xs : List V} (z : tupOf H (.ref a) = some xs) : False := by
  rw [tupOf_at, e, h] at z; cases z
theorem Thing.lst {p : Addr} {H : Hp} {a : Addr} {xs : List V} (hp : a ≠ p) (e : H a = some (.lst xs)) : Thing p H (.ref a) := ⟨KnD.lst hp e 3, (fun _ z => (no_tup e rfl z).elim), (fun _ z => (no_tup e rfl z).elim)⟩
theorem Thing.dct {p : Addr} {H : Hp} {a : Addr} {xs : List (Key × V)} (hp : a ≠ p) (e : H a = some (.dK xs)) : Thing p H (.ref a) := ⟨KnD.dct hp e 3, (fun _ z => (no_tup e rfl z).elim), (fun _ z => (no_tup e rfl z).elim)⟩
theorem tup_eq {H : Hp} {a : Addr} {xs ys : List V} (e : H a = some (.tup xs)) (z : tupOf H (.ref a) = some ys) : ys = xs := by
  rw [tupOf_ref e] at z; cases z; rfl
theorem Thing.tup {p : Addr} {H : Hp} {a : Addr} {xs : List V} (hp : a ≠ p) (e : H a = some (.tup xs)) (hl : xs.length < sizeLine) (h : ∀ y ∈ xs, Part p H y) : Thing p H (.ref a) :=
  ⟨KnD.tup hp e fun y hy => (h y hy).1, (fun ps z => by rw [tup_eq e z]; exact hl), fun ys z y hy => by rw [tup_eq e z] at hy; exact (h y hy).2⟩
theorem Part.tup {p : Addr} {H : Hp} {a : Addr} {xs : List V} (hp : a ≠ p) (e : H a = some (.tup xs)) (hl : xs.length < sizeLine) (h : ∀ y ∈ xs, KnD p 1 H y) : Part p H (.ref a) :=
  ⟨KnD.tup hp e h, fun ps z => by rw [tup_eq e z]; exact hl⟩
theorem Thing.part {p : Addr} {H : Hp} {x : V} (h : Thing p H x) : Part p H x := ⟨h.1.low, h.2.1⟩
theorem fm_nil {P : V → Prop} : ∀ y ∈ ([] : List V), P y := fun _ h => nomatch h
theorem fm_cons {P : V → Prop} {a : V} {l : List V} (h : P a) (k : ∀ y ∈ l, P y) : ∀ y ∈ a :: l, P y := fun y hy => by
  rcases List.mem_cons.mp hy with e | e
  · subst e; exact h
  · exact k y e
theorem atI_mem {xs : List V} {i : Int} (h0 : 0 ≤ i) (h1 : i < xs.length) : ∃ x, x ∈ xs ∧ atI xs i = some x := by
  obtain ⟨j, rfl⟩ := Int.eq_ofNat_of_zero_le h0
  have hj : j < xs.length := by omega
  exact ⟨xs[j], List.getElem_mem hj, atI_nat (List.getElem?_eq_getElem hj)⟩
theorem Cs.kn {p : Addr} {H : Hp} {ps : List V} {L : List (Int × Int)} (h : Cs p H ps L) : ∀ x ∈ ps, KnD p 1 H x := fun x hx => by
  obtain ⟨ij, _, d, n, rfl, e⟩ := h.mem x hx
  exact KnD.tup n e (fm_cons (KnD.int _ 0) (fm_cons (KnD.int _ 0) fm_nil))
theorem Cs.part {p : Addr} {H : Hp} {c : Addr} {ps : List V} {L : List (Int × Int)} (n : c ≠ p) (e : H c = some (.tup ps)) (hl : ps.length < sizeLine) (h : Cs p H ps L) : Part p H (.ref c) := Part.tup n e hl h.kn
theorem nd_of {H : Hp} {p q : Addr} {o : HO} (e : H p = some o) (h : H q = none) : q ≠ p := fun z => by rw [z, e] at h; cases h
theorem lt_line {n : Nat} (h : n ≤ 1000) : n < sizeLine := Nat.lt_of_le_of_lt h (by decide)
end Rk
set_option Elab.async false
set_option linter.all false
set_option maxRecDepth 100000
set_option maxHeartbeats 4000000
namespace Rk
open PySem PySem.Spec PyProof.Rows L2
def Fine (p : Addr) : Nat → Hp → V → Prop
  | 0, H, x => Kn p H x ∧ Sm H x
  | n + 1, H, x => Kn p H x ∧ Sm H x ∧ ∀ xs, tupOf H x = some xs → ∀ y ∈ xs, Fine p n H y
theorem Fine.kn {p : Addr} {H : Hp} {x : V} : ∀ {n : Nat}, Fine p n H x → Kn p H x
  | 0, h => h.1
  | _ + 1, h => h.1
theorem Fine.knd {p : Addr} {H : Hp} : ∀ {n : Nat} {x : V}, Fine p n H x → KnD p n H x
  | 0, _, h => h.1
  | _ + 1, _, h => ⟨h.1, fun xs e y hy => (h.2.2 xs e y hy).knd⟩
theorem Fine.keep {p : Addr} {H H' : Hp} (k : KX p H H') : ∀ {n : Nat} {x : V}, Fine p n H x → Fine p n H' x
  | 0, x, h => ⟨h.1.keep k, h.2.keep k h.1⟩
  | n + 1, x, h => ⟨h.1.keep k, h.2.1.keep k h.1, fun xs e y hy => (h.2.2 xs (by rw [← tupOf_keep k h.1]; exact e) y hy).keep k⟩
theorem Fine.thing {p : Addr} {H : Hp} {x : V} (h : ∀ n, Fine p n H x) : Thing p H x := ⟨(h 3).knd, (h 0).2, fun xs e y hy => ((h 1).2.2 xs e y hy).2⟩
theorem fine_plain {p : Addr} {H : Hp} {x : V} (k : Kn p H x) (t : tupOf H x = none) : ∀ n, Fine p n H x
  | 0 => ⟨k, fun ps e => by rw [t] at e; cases e⟩
  | _ + 1 => ⟨k, (fun ps e => by rw [t] at e; cases e), fun ps e => by rw [t] at e; cases e⟩
theorem fine_tup {p a : Addr} {H : Hp} {xs : List V} (hp : a ≠ p) (e : H a = some (.tup xs)) (hl : xs.length < sizeLine) (h : ∀ y ∈ xs, ∀ n, Fine p n H y) : ∀ n, Fine p n H (.ref a)
  | 0 => ⟨⟨hp, .inl ⟨xs, e⟩⟩, fun ps z => by rw [tup_eq e z]; exact hl⟩
  | n + 1 => ⟨⟨hp, .inl ⟨xs, e⟩⟩, (fun ps z => by rw [tup_eq e z]; exact hl), fun ys z y hy => h y (by rw [tup_eq e z] at hy; exact hy) n⟩
theorem fine_lst {p a : Addr} {H : Hp} {xs : List V} (hp : a ≠ p) (e : H a = some (.lst xs)) : ∀ n, Fine p n H (.ref a) := fine_plain ⟨hp, .inr (.inl ⟨xs, e⟩)⟩ (by rw [tupOf_at, e]; rfl)
theorem fine_dct {p a : Addr} {H : Hp} {xs : List (Key × V)} (hp : a ≠ p) (e : H a = some (.dK xs)) : ∀ n, Fine p n H (.ref a) := fine_plain ⟨hp, .inr (.inr ⟨xs, e⟩)⟩ (by rw [tupOf_at, e]; rfl)
section
variable {X : Cx}
theorem pa_mono {e : List Expr} {t t' : TA} (h : PA X e t) (k : ∀ σ H Q, t' σ H Q → t σ H Q) : PA X e t' := fun pos pins s σ H Q I q => h pos pins s σ H Q I (k σ H Q q)
end
end Rk
set_option Elab.async false
set_option linter.all false
set_option maxRecDepth 100000
set_option maxHeartbeats 4000000
namespace Rk
open PySem PySem.Spec PyProof.Rows L2
def spTakeW : Sp := fun vs H Q _ => ∃ p n f, vs = [.ref p, .int f] ∧ H p = some (.lst [.int n]) ∧ 0 < f ∧ f < 1073741824 ∧ ∀ r H' m, KX p H H' → H' p = some (.lst [.int m]) → 0 ≤ r → r < f → Q (.int r) H'
theorem take_weak {vs : List V} {H : Hp} {Q : VK} {E : XK} (h : spTakeW vs H Q E) : spTake vs H Q E := by
  obtain ⟨p, n, f, rfl, hp, h0, h1, k⟩ := h
  exact ⟨p, n, f, rfl, hp, h0, h1, fun r m r0 r1 => k r _ m KX.upd upd_same r0 r1⟩
def tTupW (t : TA) : TE := fun σ H Q => t σ H fun xs H1 => xs.length ≤ 1000 ∧ ∀ a H2, Same H1 H2 → H1 a = none → H2 a = some (.tup xs) → Q (.ref a) H2
def tLstW (t : TA) : TE := fun σ H Q => t σ H fun xs H1 => xs.length ≤ 1000 ∧ ∀ a H2, Same H1 H2 → H1 a = none → H2 a = some (.lst xs) → Q (.ref a) H2
section
variable {X : Cx}
theorem pe_tupW {es : List Expr} {t : TA} {x1} {pos : Pos} (h : PA X es t) : PE X (.Tuple es x1 pos) (tTupW t) := by
  intro pins s σ H Q I hq
  refine wpAny_Tuple_spliced (thn (h pos pins s σ H _ I hq) fun us s1 ⟨xs, H1, I1, r, z, q⟩ => ⟨by rw [← r.length]; exact Nat.le_of_lt (lt_line z), ?_⟩)
  have hf : H1 s1.heap.objs.size = none := I1.hok.fresh (Nat.le_refl _)
  refine ⟨.ref s1.heap.objs.size, upd H1 s1.heap.objs.size (.tup xs), I1.laid (t' := s1.toks) (fun b u e => Heap.get?_push_of_some _ e) (Nat.le_refl _) ?_, rfl, q _ _ (same_upd hf) hf upd_same⟩
  exact ⟨Nat.le_of_lt (lt_line z), us, r, ⟨_, Heap.get?_push_size _ rfl, rfl, _, rfl⟩⟩
theorem pe_lstW {es : List Expr} {t : TA} {pos : Pos} (h : PA X es t) : PE X (.List es pos) (tLstW t) := by
  intro pins s σ H Q I hq
  refine wpAny_List_spliced (thn (h pos pins s σ H _ I hq) fun us s1 ⟨xs, H1, I1, r, z, q⟩ => ⟨by rw [← r.length]; exact Nat.le_of_lt (lt_line z), ?_⟩)
  have hf : H1 s1.heap.objs.size = none := I1.hok.fresh (Nat.le_refl _)
  refine ⟨.ref s1.heap.objs.size, upd H1 s1.heap.objs.size (.lst xs), I1.laid (t' := s1.toks) (fun b u e => Heap.get?_push_of_some _ e) (Nat.le_refl _) ?_, rfl, q _ _ (same_upd hf) hf upd_same⟩
  exact ⟨Nat.le_of_lt (lt_line z), us, 0, r, Heap.get?_push_size _ rfl⟩
def rCatW : R2 := fun x y H Q => ∃ l b xs zs, x = .ref l ∧ y = .ref b ∧ H l = some (.lst xs) ∧ H b = some (.lst zs) ∧ xs.length + zs.length ≤ 1000 ∧ ∀ a H2, Same H H2 → H a = none → H2 a = some (.lst (xs ++ zs)) → Q (.ref a) H2
theorem op_catW : OpR X (binaryOp .Add) rCatW := fun pins s σ H x y v u Q I rx ry ⟨l, b, xs, zs, e1, e2, h1, h2, hl, k⟩ =>
  op_cat pins s σ H x y v u Q I rx ry ⟨l, b, xs, zs, e1, e2, h1, h2, Nat.le_of_lt (lt_line hl), fun a ha => k a _ (same_upd ha) ha upd_same⟩
end
def FineA (p : Addr) (H : Hp) (x : V) : Prop := ∀ n, Fine p n H x
theorem FineA.keep {p : Addr} {H H' : Hp} {x : V} (h : FineA p H x) (k : KX p H H') : FineA p H' x := fun n => (h n).keep k
theorem FineA.int {p : Addr} {H : Hp} (i : Int) : FineA p H (.int i) := fine_plain trivial rfl
theorem FineA.bl {p : Addr} {H : Hp} (i : Bool) : FineA p H (.bl i) := fine_plain trivial rfl
theorem FineA.tup {p a : Addr} {H : Hp} {xs : List V} (hp : a ≠ p) (e : H a = some (.tup xs)) (hl : xs.length ≤ 1000) (h : ∀ y ∈ xs, FineA p H y) : FineA p H (.ref a) := fine_tup hp e (lt_line hl) h
theorem FineA.lst {p a : Addr} {H : Hp} {xs : List V} (hp : a ≠ p) (e : H a = some (.lst xs)) : FineA p H (.ref a) := fine_lst hp e
theorem FineA.thing {p : Addr} {H : Hp} {x : V} (h : FineA p H x) : Thing p H x := Fine.thing h
theorem FineA.part {p : Addr} {H : Hp} {x : V} (h : FineA p H x) : Part p H x := (Fine.thing h).part
end Rk
set_option Elab.async false
set_option linter.all false
set_option maxRecDepth 100000
set_option maxHeartbeats 4000000
namespace Rx
open PySem PySem.Spec PySem.Calls PyProof.Rows L2 PySem.W Builtin Builtin.ObjectAttr Builtin.Getset_descriptor
def ExAt (a C : Addr) (h : Heap) : Prop := ∃ o vs, h.get? a = some o ∧ o.cls = .ref C ∧ o.data = .fields vs
theorem ExAt.ty {M : Model} {h : Heap} {a C : Addr} (x : ExAt a C h) : Looks M h (typeOf (.ref a)) (.ref C) := by
  obtain ⟨o, vs, e, c, _⟩ := x
  exact c ▸ (Looks.ld e).andThen .now
structure ExC (K : PySem.W.Frag) (C : Addr) : Prop where
  ga : findIn K (.ref C) "__getattribute__" = some (some (.builtin "BaseException.__getattribute__"))
  hk : findIn K (.ref C) "__getattr__" = some none
  bas : mroIn K C (.type "BaseException") = some true
  cls : (clsIn K C).isSome = true
  att : findIn K (.ref C) "__class__" = some (some (.builtin "object.__class__"))
  spc : specialIn K (.builtin "object.__class__") "__get__" = some (some (.builtin "getset_descriptor.__get__"))
  tks : takesIn K (.builtin "object.__class__") = some true
  mro : mroIn K C (.type "object") = some true
section
variable {prog : Program} {w : World} {A : Around} {E : Value → Shared → Prop} {s : Shared} {K : PySem.W.Frag} {a C : Addr}
theorem ex_find {M : Model} {h : Heap} (X : K.In h) (c : ExC K C) : Looks M h (find (.ref a) (.ref C) "__class__") (.bind (.builtin "getset_descriptor.__get__") (.builtin "object.__class__")) := by
  have l1 := looks_findIn (M := M) X c.att
  have l2 := looks_specialIn (M := M) X c.spc
  have l3 := looks_takesIn (M := M) X c.tks
  have l4 : Looks M h (dataDescriptor? (some (.builtin "object.__class__")) (some (.builtin "getset_descriptor.__get__"))) (some (.builtin "getset_descriptor.__get__", .builtin "object.__class__")) := l3.andThen .now
  exact l1.andThen (l2.andThen (l4.andThen (Looks.tag .now)))
theorem ex_get {R : Result → Shared → Prop} {tp : Value} (X : K.In s.heap) (I : ExAt a C s.heap) (c : ExC K C) (h : R (.ok (.ret (.ref C))) s) :
    codeAny (model prog w) A (.call (.builtin "getset_descriptor.__get__") ⟨[.builtin "object.__class__", .ref a, tp], []⟩) R s := by
  obtain ⟨h0, g0, d0, t0, o0⟩ := s
  have la := I.ty (M := model prog w)
  have lb := looks_mroIn (M := model prog w) X c.mro
  refine codeAny_call_builtin KF.slot_gs.plain KF.entry_gs (KF.slot_gs.check _ _ _ _ _ _ _ _ KF.type_class (KF.args_gs _ _ _) ?_)
  unfold Builtin.«getset_descriptor.__get__»
  unfold descrGet
  rw [dga_obj]
  refine wpAny_bind (wpAny_pure ?_)
  unfold descrGetter
  unfold descrCheckInstance
  unfold descrNameAndClass
  unfold isInstance
  simp only [KF.owner_class]
  repeat lk
  refine ⟨Code.quiet_builtin _ (by decide +kernel), codeAny_builtin KF.entry_class ?_⟩
  unfold Builtin.«object.__class__»
  unfold shownTypeOf
  repeat lk
  exact h
theorem ex_check {M : Model} {nameV : Value} {Q : Unit → Shared → Prop} (X : K.In s.heap) (I : ExAt a C s.heap) (c : ExC K C) (hq : Q () s) : wpAny M A (checkBuiltinCall "BaseException.__getattribute__" ⟨[.ref a, nameV], []⟩) Q E s := by
  have hk : builtinKind "BaseException.__getattribute__" = some .slot := by decide +kernel
  have hsplit : splitId "BaseException.__getattribute__" = some ("BaseException", "__getattribute__") := by decide +kernel
  have ha := F.args_bexc_ga (.ref a) nameV
  have la := I.ty (M := M)
  have lb := looks_mroIn (M := M) X c.bas
  have li : Looks M s.heap (isInstance (.ref a) (.type "BaseException")) true := la.andThen lb
  simp only [checkBuiltinCall, hk, hsplit]
  refine wpAny_bind (li.at ?_)
  repeat (first | exact hq | wp_step)
theorem ex_class {Q : Option Value → Shared → Prop} (X : K.In s.heap) (I : ExAt a C s.heap) (c : ExC K C) (h : Q (some (.ref C)) { s with toks := s.toks + 1 }) : wpAny (model prog w) A (getAttr? (.ref a) "__class__") Q E s := by
  obtain ⟨h0, g0, d0, t0, o0⟩ := s
  have la := I.ty (M := model prog w)
  have lb := looks_findIn (M := model prog w) X c.ga
  have lc := looks_findIn (M := model prog w) X c.hk
  have ld := ex_find (M := model prog w) (a := a) X c
  have f3 := F.excAttr_ValueError.ga.bind (.ref a)
  have hx2 : (onTheHeap (Value.ref C) && Value.builtin "BaseException.__getattribute__" == Value.builtin "object.__getattribute__") = false := by
    have e : (Value.builtin "BaseException.__getattribute__" == Value.builtin "object.__getattribute__") = false := by decide +kernel
    rw [e]; rfl
  unfold getAttr?
  unfold getAttrBy?
  unfold getAttrBy
  refine wpAny_bind (wpAny_mkText (wpAny_bind (wpAny_attempt (wpAny_holding (wpAny_bind (la.at (wpAny_bind (lb.at ?_))))))))
  simp only [hx2, Bool.false_eq_true, if_false]
  unfold getAttrByItsOwn
  refine wpAny_bind (m := hookBefore (.ref C)) ?_
  show wpAny _ _ (typeLookup (.ref C) "__getattr__") _ _ _
  refine lc.at ?_
  refine wpAny_bind (wpAny_attempt (wpAny_holding ?_))
  show wpAny _ _ (boundAndCalled _ _ _) _ _ _
  unfold boundAndCalled
  rw [f3]
  refine wpAny_bind (wpAny_pure ?_)
  refine wpAny_call (codeAny_call_builtin F.excAttr_ValueError.ga.plain F.entry_bexc_ga (ex_check X I c ?_))
  unfold Builtin.«object.__getattribute__»
  refine wpAny_bind (wpAny_pure (wpAny_bind (wpAny_pure (wpAny_bind (la.at (wpAny_bind (ld.at ?_)))))))
  show wpAny _ _ (bindTo (.builtin "getset_descriptor.__get__") (.builtin "object.__class__") (.ref a) (.ref C)) _ _ _
  unfold bindTo
  refine wpAny_bind (wpAny_holding (wpAny_call (ex_get (s := ⟨h0, g0, d0, t0 + 1, o0⟩) X I c ?_)))
  exact wpAny_pure (handed_on rfl (wpAny_pure h))
theorem kitx_ex (c : ExC K C) : KitX K (.ref a) (.ref C) (ExAt a C) where
  ty := fun _ _ _ I => I.ty
  it := fun _ _ X _ => by
    have q := c.cls
    unfold clsIn at q
    split at q
    · rename_i ho
      intro A' Q' E' s' k z
      unfold isType loadHead
      exact wpAny_bind (wpAny_loadPart (k _ _ (X _ _ ho)) (wpAny_pure z))
    · cases q
  ne := fun h tp dd its n sl X htp => by
    have q := c.cls
    refine Bool.eq_false_iff.mpr fun z => ?_
    cases Value.ref.inj (beq_iff_eq.mp z)
    unfold clsIn at q
    split at q
    · rename_i ho
      cases (X _ _ ho).symm.trans htp
    · cases q
  ca := fun X I k => ex_class X I c k
end
end Rx
set_option Elab.async false
set_option linter.all false
set_option maxRecDepth 100000
set_option maxHeartbeats 4000000
namespace Rx
open PySem PySem.Spec PySem.Calls PyProof.Rows L2
abbrev mroV : List Value := [.type "ValueError", .type "Exception", .type "BaseException", .type "object"]
def Raises (h : Heap) (C : Addr) : Prop := ∃ bm N nm q bs hdct sn sub ab col dd k0 k1 k2 k3 k5 mN,
  h.get? C = some (excClassObj nm q C N bs bm hdct sn sub ab col dd k0 k1 k2 k3 k5 "ValueError.__new__") ∧ h.Ns N mN ∧ mN "__init__" = none ∧ OwnTail h mroV bm
theorem raises_of {K : PySem.W.Frag} {h : Heap} {C : Addr} (X : K.In h) (q : PySem.W.excIn K C mroV "ValueError.__new__" = true) : Raises h C := by
  unfold PySem.W.excIn at q
  split at q
  next dd cd sl ho =>
    split at q
    next C' bm k0 k1 k2 k3 n k5 hm hs =>
      obtain ⟨q, e6⟩ := Bool.and_eq_true_iff.mp q
      obtain ⟨q, e5⟩ := Bool.and_eq_true_iff.mp q
      obtain ⟨q, e4⟩ := Bool.and_eq_true_iff.mp q
      obtain ⟨q, e3⟩ := Bool.and_eq_true_iff.mp q
      obtain ⟨e1, e2⟩ := Bool.and_eq_true_iff.mp q
      cases beq_iff_eq.mp e1
      cases beq_iff_eq.mp e2
      rcases cd with ⟨c1, c2, c3, c4, c5, c6, c7, c8, c9, ca, cb⟩
      rcases sl with ⟨sl⟩
      have e7 : cb = false := by
        cases cb with
        | false => rfl
        | true => cases e3
      have hm : c3 = .ref C :: bm := hm
      have hs : sl = [k0, k1, k2, k3, some (.builtin "ValueError.__new__"), k5] := hs
      subst hm hs e7
      have hn : h.Ns c4 (h.nsMap c4) := .of_isNs (PySem.W.isNs_of_in X e5)
      exact ⟨_, _, _, _, _, _, _, _, _, _, _, _, _, _, _, _, _, X _ _ ho, hn, PySem.W.nsMap_none_of_in X e5 (beq_iff_eq.mp e6), PySem.W.tail_of_in X e4⟩
    next => cases q
  next => cases q
theorem obj_there {P : Program} {w : World} {H : Hp} {h : Heap} {a : Addr} {o : HO} (x : ObjOk P w H h a o) : ∃ u, h.get? a = some u := by
  cases o with
  | lst xs => obtain ⟨_, _, _, _, e⟩ := x; exact ⟨_, e⟩
  | tup xs => obtain ⟨_, _, _, p⟩ := x; obtain ⟨_, e, _⟩ := p; exact ⟨_, e⟩
  | dK kvs => obtain ⟨_, _, _, _, o, _, _, e, _⟩ := x; exact ⟨_, e⟩
  | dT kvs => obtain ⟨_, _, _, _, o, _, _, e, _⟩ := x; exact ⟨_, e⟩
  | set S n => obtain ⟨o, _, _, _, e, _⟩ := x; exact ⟨_, e⟩
  | ins C dx fs => obtain ⟨_, _, _, e, _⟩ := x; exact ⟨_, e⟩
  | own y => exact x
  | xd fs => obtain ⟨_, ⟨_, _, _, e, _⟩, _⟩ := x; exact ⟨_, e⟩
  | rng lo hi => obtain ⟨_, _, _, e⟩ := x; exact ⟨_, e⟩
  | frz ob u => exact ⟨_, x.1⟩
  | tbl ps => exact ⟨_, x⟩
  | met f y => exact ⟨_, x⟩
  | ext φ => exact x.2.1
def Fly (P : Program) (w : World) (outer : List Env) (H : Hp) (s : Shared) (C : Addr) (H' : Hp) (e : Value) (s' : Shared) : Prop :=
  ∃ (a t : Addr) (B : Heap), e = .ref a ∧ s'.os = s.os ∧ AllBare s'.gens ∧ Heap.FlyingW B outer a (.ref C) (.ref t) s'.heap ∧ s.heap.get? a = none ∧ H' a = none ∧
    ∀ h2 : Heap, B.StaysIn h2 → s'.heap.UpToSlots h2 → Un (frs outer) [] H H' s.heap h2 ∧ HOk P w H' h2
def CXE (P : Program) (w : World) : CXT := fun outer H s E e s' => ∃ C H', Fly P w outer H s C H' e s' ∧ E (.ref C) none H'
def tRaise (E : XK) (C : Addr) (te : TE) : TS := fun _ σ H => te σ H fun _ H1 => E (.ref C) none H1
section
variable {X : Cx} {E : XK} {C : Addr} {x : Str} {e0 : Expr} {te : TE} {np cpos pos : Pos}
theorem fly_of {pins : List (Addr × Obj)} {σ : L2.St} {H : Hp} {s : Shared} {h1 : Heap} {a : Addr} {vs : List Value} {M : Model} {EE : Value → Shared → Prop} (I : Inv X pins σ H s) (hstk : X.stack = X.env :: X.outer) (hfr : X.env.frame = some X.env.locals) (hex : X.ex = [])
    (hx : Heap.MadeExcOf s.heap h1 a (.ref C) vs) :
    wpAny M X.A (leaving X.env (.ref a)) (fun _ s2 => Fly X.prog X.w X.outer X.H₀ X.s₀ C H (.ref a) s2) EE { s with heap := h1 } := by
  have fr : X.A.frames = some (X.env :: X.outer) := by rw [← hstk]; exact I.ok.frames
  have ff : s.heap.FunFrames X.base (X.env :: X.outer) := by rw [← hstk]; exact I.stack
  have hin : ∀ env ∈ X.env :: X.outer, ∀ b, env.frame = some b → b ∈ frs (X.env :: X.outer) := fun env he b hb => List.mem_filterMap.mpr ⟨env, he, hb⟩
  refine wpAny_leaves_madeW (base := PySem.W.hideAll s.heap (frs (X.env :: X.outer))) (h := s.heap) (L := X.env.locals) fr hfr (fun b o q => PySem.W.of_hideAll _ q) (PySem.W.funFrames_hide ff hin) hx fun h' t x1 x2 x3 x4 => ?_
  have nex : ∀ b : Addr, b ∉ X.ex := fun b => by rw [hex]; simp
  have free0 : X.s₀.heap.get? a = none := by
    cases q : X.s₀.heap.get? a with
    | none => rfl
    | some o =>
      obtain ⟨o', e⟩ := I.base.there a o q (nex a)
      rw [hx.new] at e; cases e
  have freeH : H a = none := by
    cases q : H a with
    | none => rfl
    | some o =>
      obtain ⟨u, e⟩ := obj_there (I.hok a o q)
      rw [hx.new] at e; cases e
  have stf : ∀ b ∈ frs (X.env :: X.outer), H b = none := fun b hb => I.stkFree b (by rw [hstk]; exact hb)
  refine ⟨a, t, _, rfl, I.os, I.bare, x1, free0, freeH, fun h2 st up => ?_⟩
  have up2 : s.heap.UpToSlots h2 := ((Heap.UpToSlots.of_keeps hx.keeps).trans x4).trans up
  have kp : ∀ b o, s.heap.get? b = some o → b ∉ frs (X.env :: X.outer) → h2.get? b = some o := fun b o e n => st b o (PySem.W.hideAll_get _ e n)
  have own : ∀ b o, X.s₀.heap.get? b = some o → b ≠ X.env.locals := fun b o e z => by
    have h1 := Heap.lt_size e
    have h2 := I.ok.above
    rw [z] at h1
    exact absurd (Nat.lt_of_lt_of_le h1 h2) (Nat.lt_irrefl _)
  have nfr : ∀ b o, X.s₀.heap.get? b = some o → b ∉ frs X.outer → b ∉ frs (X.env :: X.outer) := fun b o e n hb => by
    unfold frs at hb n
    rw [List.filterMap_cons, hfr] at hb
    rcases List.mem_cons.mp hb with z | z
    · exact own b o e z
    · exact n z
  have hdat : ∀ b ∈ frs X.outer, ∀ o, s.heap.get? b = some o → ∀ vs, o.data ≠ .fields vs := fun b hb o e => by
    obtain ⟨_, o', ho', hd⟩ := I.funs.mem hb
    rw [e] at ho'; cases ho'
    exact hd
  refine ⟨⟨fun b o e n hb _ => kp b o (I.base.keep b o e n hb (nex b)) (nfr b o e hb), fun b o e n hb _ => ?_, fun b o e n _ => I.base.free b o e n (nex b), fun b o e _ => ?_, I.base.tups, I.base.frzs, I.base.tbls⟩, fun b o e => ?_⟩
  · obtain ⟨sl, e1⟩ := I.base.slot b o e n hb (nex b)
    obtain ⟨sl2, e2⟩ := up2 b _ e1 (hdat b hb _ e1)
    exact ⟨sl2, e2⟩
  · obtain ⟨o', e1⟩ := I.base.there b o e (nex b)
    by_cases hb : b ∈ frs X.outer
    · obtain ⟨sl2, e2⟩ := up2 b _ e1 (hdat b hb _ e1)
      exact ⟨_, e2⟩
    · exact ⟨o', kp b o' e1 (nfr b o e hb)⟩
  · refine (I.hok b o e).stay (fun c u hc q => kp c u q fun hm => ?_) (fun _ q => q) fun _ _ q => q
    have z := stf c hm
    rcases hc with r | r
    · rw [r, e] at z; cases z
    · rw [r] at z; cases z
theorem ps_raise (hxe : ∀ e s1, wpAny (model X.prog X.w) X.A (leaving X.env e) (fun _ s2 => CXE X.prog X.w X.outer X.H₀ X.s₀ E e s2) (fun e' s2 => CXE X.prog X.w X.outer X.H₀ X.s₀ E e' s2) s1 → X.xe e s1)
    (hstk : X.stack = X.env :: X.outer) (hfr : X.env.frame = some X.env.locals) (hex : X.ex = []) (hc : X.calm = true) (hg : Gl X x) (hm : X.mg x = some (.ref C)) (q : PySem.W.excIn X.K C mroV "ValueError.__new__" = true)
    (ha : PE X e0 te) (he : starEach [e0] X.env = [(false, eval e0 X.env)] := by rfl) (hd : (x == ("__debug__" : Str)) = false := by decide) :
    PS X (.Raise (some (.Call (.Name x np) [e0] [] cpos)) none pos) (tRaise E C te) := by
  intro pins s σ H D I h
  obtain ⟨bm, N, nm, qn, bs, hdct, sn, sub, ab, col, dd, k0, k1, k2, k3, k5, mN, hC, hN, hni, T⟩ := raises_of I.ok.mod.kin q
  refine wpAny_Raise_call_subT (k5 := k5) (k3 := k3) (k2 := k2) (k1 := k1) (k0 := k0) (dd := dd) (col := col) (ab := ab) (sub := sub) (sn := sn) (hdct := hdct) (bs := bs) (N := N) (q := qn) (nm := nm) (C := C) PySem.F.excBase_ValueError (T.hasType PySem.F.excBase_ValueError.hasBase) (I.ok.hd hc) (by rw [he]; rfl) hni (ld_glob I hg hm ?_ hd)
  refine ⟨rfl, ?_⟩
  rw [he]
  refine Calls.evalArgs_plain (Calls.spliced_cons (thn (ha pins s σ H _ I h) fun u s1 ⟨v, H1, I1, r1, q1⟩ => Calls.spliced_nil ⟨rfl, by show 1 ≤ sizeLine; decide, I1.bk _ _ hC, hN.keeps I1.bk, T.keeps I1.bk, fun h' e hx => ?_⟩))
  exact hxe _ _ (thn (fly_of I1 hstk hfr hex hx) fun _ s2 z => ⟨C, H1, z, q1⟩)
end
end Rx
set_option Elab.async false
set_option linter.all false
set_option maxRecDepth 100000
set_option maxHeartbeats 4000000
namespace Rx
open PySem PySem.Spec PySem.Calls PyProof.Rows L2
def exO (a C : Addr) : HO := .ext (ExAt a C)
structure ByC (K : PySem.W.Frag) (C R : Addr) : Prop where
  ty : PySem.W.typeIn K (.ref R) = some (.type "type")
  cls : (PySem.W.clsIn K R).isSome = true
  base : PySem.W.mroIn K R (.type "BaseException") = some true
  sub : PySem.W.mroIn K C (.ref R) = some true
theorem ref_isType {K : PySem.W.Frag} {M : Model} {h : Heap} {R : Addr} (X : K.In h) (c : (PySem.W.clsIn K R).isSome = true) : PySem.W.Looks M h (isType (.ref R)) true := by
  unfold PySem.W.clsIn at c
  split at c
  · rename_i ho
    intro A' Q' E' s' k z
    unfold isType loadHead
    exact wpAny_bind (wpAny_loadPart (k _ _ (X _ _ ho)) (wpAny_pure z))
  · cases c
theorem matches_by {M : Model} {A : Around} {E : Value → Shared → Prop} {K : PySem.W.Frag} {a C R : Addr} {s : Shared} {Q : Bool → Shared → Prop} (X : K.In s.heap) (I : ExAt a C s.heap) (c : ByC K C R) (h : Q true s) :
    wpAny M A (excMatches (.ref a) (.ref R)) Q E s := by
  obtain ⟨h0, g0, d0, t0, o0⟩ := s
  have l1 := PySem.W.looks_typeIn (M := M) X c.ty
  have l2 := ref_isType (M := M) X c.cls
  have l3 := PySem.W.looks_mroIn (M := M) X c.base
  have l4 := PySem.W.looks_mroIn (M := M) X c.sub
  have l5 := I.ty (M := M)
  have l6 : PySem.W.Looks M h0 (isSubtype (.type "type") (.type "tuple")) false := PySem.W.Looks.of_pure tc_notTuple
  unfold excMatches isExcClass isInstance
  repeat (first | lk | exact h)
end Rx
set_option Elab.async false
set_option linter.all false
set_option maxRecDepth 100000
set_option maxHeartbeats 4000000
namespace Rx
open PySem PySem.Spec PySem.Calls PyProof.Rows L2
abbrev mkd (X : Cx) (e : Value) : Cx := { X with A := X.A.mark (some e), calm := false, xe := fun _ _ => False }
section
variable {X : Cx} {pins : List (Addr × Obj)} {σ : L2.St} {H : Hp} {s : Shared}
theorem inv_mkd (I : Inv X pins σ H s) (e : Value) : Inv (mkd X e) pins σ H s :=
  ⟨⟨I.ok.mod, I.ok.kind, I.ok.glob, I.ok.blt, I.ok.above, I.ok.inj, I.ok.has, I.ok.cab, (fun h => nomatch h), I.ok.frames, I.ok.stk, I.ok.exf, I.ok.bs, I.ok.bsz, I.ok.noex, I.ok.exfs, I.ok.funs, I.ok.frf⟩, I.os, I.bare, I.base, I.loc, I.cell, I.free, I.freeC, I.pin, I.hok, I.len⟩
theorem inv_unmk {e : Value} (ok : X.Ok) (I : Inv (mkd X e) pins σ H s) : Inv X pins σ H s := ⟨ok, I.os, I.bare, I.base, I.loc, I.cell, I.free, I.freeC, I.pin, I.hok, I.len⟩
theorem inv_track {a C : Addr} (I : Inv X pins σ H s) (hf : H a = none) (h0 : X.s₀.heap.get? a = none) (hp : ∀ p ∈ X.pn ++ pins, p.1 ≠ a) (x : ExAt a C s.heap) : Inv X pins σ (upd H a (exO a C)) s := by
  obtain ⟨o, vs, ho, hcl, hd⟩ := id x
  have ne : ∀ b u, H b = some u → b ≠ a := fun b u e z => by rw [z, hf] at e; cases e
  refine ⟨I.ok, I.os, I.bare, ⟨I.base.keep, I.base.slot, fun b u e n hx => ?_, I.base.there, fun b xs e => ?_, fun b u xs e => ?_, fun b ps e => ?_⟩, I.loc, I.cell, ?_, fun y c e => ?_, fun p hp' => ?_, fun b u e => ?_, I.len⟩
  · rw [upd_ne (fun z => by rw [z, h0] at e; cases e)]; exact I.base.free b u e n hx
  · have q := I.base.tups b xs e
    rw [upd_ne (ne b _ q)]; exact q
  · have q := I.base.frzs b u xs e
    rw [upd_ne (ne b _ q)]; exact q
  · obtain ⟨m, q⟩ := I.base.tbls b ps e
    exact ⟨m, by rw [upd_ne (ne b _ q)]; exact q⟩
  · obtain ⟨m, ⟨oL, es, ep, hoL, hdL, _⟩, _⟩ := I.loc
    rw [upd_ne (fun z => by rw [z, ho] at hoL; cases hoL; rw [hd] at hdL; cases hdL)]
    exact I.free
  · obtain ⟨v, oc, hoc, hdc⟩ := I.cell y c e
    rw [upd_ne (fun z => by rw [z, ho] at hoc; cases hoc; rw [hd] at hdc; cases hdc)]
    exact I.freeC y c e
  · obtain ⟨e, n, r⟩ := I.pin p hp'
    exact ⟨e, by rw [upd_ne (hp p hp')]; exact n, r⟩
  · by_cases hb : b = a
    · subst hb
      rw [upd_same] at e
      cases e
      exact ⟨x, ⟨o, ho⟩, fun h1 h2 y k => by
        obtain ⟨o', vs', e', c', d'⟩ := y
        exact ⟨o', vs', k _ e', c', d'⟩⟩
    · rw [upd_ne hb] at e
      exact (I.hok b u e).stay (fun _ _ _ q => q) (fun c q => by rw [upd_ne (ne c _ q)]; exact q) fun c xs q => by rw [upd_ne (ne c _ q)]; exact q
theorem inv_gone {i : Nat} {n : Str} {m : Str → Option Value} {v : Option Value} {h' : Heap} {tk : Nat} (I : Inv X pins σ H s) (hN : X.N.Nodup) (hi : X.N[i]? = some n)
    (hm : ∀ (j : Nat) (x : Str) (u : V), X.N[j]? = some x → σ[j]? = some (some u) → Vis X.env.scope x → ∃ y, RelV u y ∧ Look X.env s.heap m x y)
    (hn : h'.Ns X.env.locals (fun x => if x = n then v else m x)) (hs : Heap.SameBut X.env.locals s.heap h') : Inv X pins (σ.set i none) H { s with heap := h', toks := tk } := by
  have neL : ∀ b o, X.s₀.heap.get? b = some o → b ≠ X.env.locals := fun b o e => Nat.ne_of_lt (Nat.lt_of_lt_of_le (Heap.lt_size e) I.ok.above)
  have cne := I.cne
  refine ⟨I.ok, I.os, I.bare, ⟨fun b o e z hb hx => (hs.2 b (neL b o e)).trans (I.base.keep b o e z hb hx), fun b o e z hb hx => ?_, I.base.free, fun b o e hx => ?_, I.base.tups, I.base.frzs, I.base.tbls⟩, ⟨_, hn, fun j y u e1 e2 e3 => ?_⟩, fun y c e => ?_, I.free, I.freeC, fun p hp => ?_, fun b o e => ?_, ?_⟩
  · obtain ⟨sl, e1⟩ := I.base.slot b o e z hb hx
    exact ⟨sl, (hs.2 b (neL b o e)).trans e1⟩
  · obtain ⟨o', e1⟩ := I.base.there b o e hx
    exact ⟨o', (hs.2 b (neL b o e)).trans e1⟩
  · by_cases hj : j = i
    · subst hj
      rw [List.getElem?_set] at e2
      split at e2
      · split at e2 <;> cases e2
      · exact absurd rfl ‹¬ _›
    · rw [List.getElem?_set_ne (Ne.symm hj)] at e2
      obtain ⟨u', r', q⟩ := hm j y u e1 e2 e3
      refine ⟨u', r', ?_⟩
      rcases q with ⟨k, e⟩ | ⟨k, c, e, z⟩
      · have : y ≠ n := fun e => hj (nodup_ix hN e1 (e ▸ hi))
        exact .inl ⟨k, by simp [this, e]⟩
      · exact .inr ⟨k, c, e, z.sameBut hs (cne y c e)⟩
  · obtain ⟨w', z⟩ := I.cell y c e
    exact ⟨w', z.sameBut hs (cne y c e)⟩
  · obtain ⟨e, z, ne, nf, d⟩ := I.pin p hp
    exact ⟨(hs.2 p.1 ne).trans e, z, ne, nf, d⟩
  · refine (I.hok b o e).stay (fun c u hc q => (hs.2 c ?_).trans q) (fun _ q => q) fun _ _ q => q
    rintro rfl
    have z := I.free
    rcases hc with r | r
    · rw [r, e] at z; cases z
    · rw [r] at z; cases z
  · rw [List.length_set]; exact I.len
end
def XP (X : Cx) (pins : List (Addr × Obj)) (Ex : L2.St → Addr → Hp → Prop) (e : Value) (s1 : Shared) : Prop :=
  ∃ (σ : L2.St) (C : Addr) (H' : Hp) (a t : Addr) (B : Heap), e = .ref a ∧ Heap.FlyingW B X.stack a (.ref C) (.ref t) s1.heap ∧ H' a = none ∧ X.s₀.heap.get? a = none ∧ (∀ p ∈ X.pn ++ pins, p.1 ≠ a) ∧
    (∀ (h2 : Heap) (tk : Nat), B.StaysIn h2 → s1.heap.UpToSlots h2 → Inv X pins σ H' { s1 with heap := h2, toks := tk }) ∧ Ex σ C H'
abbrev TX := L2.St → Hp → VK → (Addr → Hp → Prop) → Prop
def PEX (X : Cx) (e : Expr) (t : TX) : Prop := ∀ (pins : List (Addr × Obj)) (s : Shared) (σ : L2.St) (H : Hp) (Q : VK) (Ex : Addr → Hp → Prop), Inv X pins σ H s → t σ H Q Ex →
  wpAny (model X.prog X.w) X.A (eval e X.env) (EP X pins σ Q) (XP X pins fun σ1 C H1 => σ1 = σ ∧ Ex C H1) s
def tCallX (sp : Sp) (t : TA) : TX := fun σ H Q Ex => t σ H fun vs H1 => sp vs H1 Q fun cv _ H2 => ∃ C, cv = .ref C ∧ Ex C H2
section
variable {X : Cx} {k : Nat} {f : Addr} {fd : FuncData} {ps : List Str} {sp : Sp} {x : Str} {p pos : Pos} {e : Expr} {es : List Expr} {t : TA}
theorem pex_call (F : FnOk X.prog X.w X.K X.mg X.base (CXE X.prog X.w) k f fd ps sp) (hr : Room k X.A) (hg : Gl X x) (hm : X.mg x = some (.ref f)) (hk : PySem.W.keepIn X.K (.ref f) = true) (hb : Binds X.K fd ps []) (hex : X.ex = [])
    (ha : PA X.nox (e :: es) t) (hdb : (x == ("__debug__" : Str)) = false := by decide) (he : starEach (e :: es) X.env = (false, eval e X.env) :: starEach es X.env := by rfl) (hpl : (backTo pos (starEach es X.env)).any (·.1) = false := by rfl) :
    PEX X (.Call (.Name x p) (e :: es) [] pos) (tCallX sp t) := by
  intro pins s σ H Q Ex I h
  refine wpAny_Call_Name_kw (ld_glob I hg hm ?_ hdb)
  refine PySem.W.callWith_K (h₀ := X.base) I.ok.mod.kin hk (wpAny_mono (ha pos pins s σ H _ (I.wish _) h) (fun us s1 ⟨vs, H1, J1, r, q⟩ => ?_) fun _ _ z => False.elim z) he hpl
  have I1 : Inv X pins σ H1 s1 := J1.unwish
  refine ⟨I1.kIn, ?_⟩
  have hl : us.length = ps.length := by rw [← r.length]; exact F.len _ _ _ _ q
  have hbb : BindsTo s1 fd ⟨us, []⟩ (ps.zip us) := by
    have z := hb s1 us I1.kIn (by rw [List.append_nil]; exact hl)
    rw [List.append_nil] at z
    exact z
  refine wpAny_call (codeAny_mono (F.run X.A X.stack s1 H1 ⟨us, []⟩ us vs Q _ hr I1.env0 hbb r q) fun r s2 hq => ?_)
  cases r with
  | error e =>
    obtain ⟨C0, H2, ⟨a, t', B, rfl, os, bare, fl, fa, fH, land⟩, C, eC, ex⟩ := hq
    cases eC
    refine ⟨σ, C0, H2, a, t', B, rfl, fl, fH, ?_, fun p hp z => ?_, fun h2 tk st up => ?_, rfl, ex⟩
    · cases z : X.s₀.heap.get? a with
      | none => rfl
      | some o =>
        obtain ⟨o', e'⟩ := I1.base.there a o z (by rw [hex]; simp)
        rw [fa] at e'; cases e'
    · have e' := (I1.pin p hp).1
      rw [z, fa] at e'; cases e'
    · obtain ⟨un, hok⟩ := land h2 st up
      exact I1.call' (s' := { s2 with heap := h2, toks := tk }) (ch := []) os un hok bare (fun b z => absurd z (by simp))
  | ok fl =>
    cases fl with
    | ret u => exact I1.after hq
    | next => exact False.elim hq
    | brk => exact False.elim hq
    | cont => exact False.elim hq
end
section
variable {X : Cx} {R : Addr} {i : Nat} {n r : Str} {call hx : Expr} {tc : TX} {th : TE} {rp np hp hpos pos : Pos}
end
end Rx
set_option Elab.async false
set_option linter.all false
set_option maxRecDepth 100000
set_option maxHeartbeats 4000000
namespace Rx
open PySem PySem.Spec PySem.Calls PyProof.Rows L2
structure RoomM (k : Nat) (A : Around) : Prop where
  dp : A.depth + 3 * k + 5 < recursionLimit
  un : A.units + 16 * k + 200 < cLine
theorem Room.m {k : Nat} {A : Around} (r : Room k A) (e : Value) : RoomM k (A.mark (some e)) := ⟨r.dp, r.un⟩
theorem RoomM.mono {j k : Nat} {A : Around} (r : RoomM k A) (h : j ≤ k) : RoomM j A := ⟨by have := r.dp; omega, by have := r.un; omega⟩
structure FnM (P : Program) (w : World) (K : PySem.W.Frag) (mg : Str → Option Value) (base : Heap) (k : Nat) (f : Addr) (fd : FuncData) (ps : List Str) (sp : Sp) : Prop where
  len : ∀ vs H Q E, sp vs H Q E → vs.length = ps.length
  run : ∀ (A : Around) (outer : List Env) (s : Shared) (H : Hp) (args : Args) (us : List Value) (vs : List V) (Q : VK) (E : XK), RoomM k A → Env0 P w K mg base A outer s H → BindsTo s fd args (ps.zip us) → Vals vs us → sp vs H Q E →
    codeAny (model P w) A (.call (.ref f) args) (CR CX0 outer P w H s Q E) s
def cxM (P : Program) (w : World) (K : PySem.W.Frag) (mg : Str → Option Value) (base : Heap) (N : List Str) (qual : Str) (scope : Scope) (f : Addr) (cd : Value) (A : Around) (outer : List Env) (s : Shared) (H : Hp) (E : XK) : Cx :=
  { cxOf CX0 P w K mg base N qual scope f cd A outer s H E with calm := false, xe := fun _ _ => False }
section
variable {P : Program} {w : World} {K : PySem.W.Frag} {mg : Str → Option Value} {base : Heap}
theorem inv_startM {N ps : List Str} {qual : Str} {scope : Scope} {f : Addr} {cd : Value} {A : Around} {outer : List Env} {s s1 : Shared} {H : Hp} {E : XK} {us : List Value} {vs : List V}
    (S : FnScope N ps scope) (e0 : Env0 P w K mg base A outer s H) (hl : vs.length = ps.length) (r : Vals vs us)
    (x : InCallC s s.heap.objs.size (bindL (envOfC qual scope s.heap.objs.size f cd).kindOf (ps.zip us) fun _ => none) (cellsFrom (s.heap.objs.size + 1) scope.names []) (bindC (envOfC qual scope s.heap.objs.size f cd).kindOf (ps.zip us) fun _ => none) s1) :
    L2.Inv (cxM P w K mg base N qual scope f cd A outer s H E) [] (start N vs) H s1 := by
  have e1 : Env0 P w K mg base { A with handled := none } outer s H := ⟨e0.frames, e0.mod, e0.bs, e0.bsz, e0.funs, e0.frf, e0.hok, e0.bare⟩
  have I := inv_start (CX := CX0) (E := E) (A := { A with handled := none }) S rfl e1 hl r x
  exact ⟨⟨I.ok.mod, I.ok.kind, I.ok.glob, I.ok.blt, I.ok.above, I.ok.inj, I.ok.has, I.ok.cab, (fun h => nomatch h), I.ok.frames, I.ok.stk, I.ok.exf, I.ok.bs, I.ok.bsz, I.ok.noex, I.ok.exfs, I.ok.funs, I.ok.frf⟩, I.os, I.bare, I.base, I.loc, I.cell, I.free, I.freeC, I.pin, I.hok, I.len⟩
theorem okM {x qual : Str} {st : Stmt} {f : Addr} {fd : FuncData} {N ps : List Str} {k : Nat} {sp : Sp} (F : Fun K x qual st f fd) (S : FnScope N ps (defScope st)) (len : ∀ vs H Q E, sp vs H Q E → vs.length = ps.length)
    (hbody : ∀ (cdv : Value) (A : Around) (outer : List Env) (s : Shared) (H : Hp) (vs : List V) (Q : VK) (E : XK), RoomM k (A.deeper (envOfC qual (defScope st) s.heap.objs.size f cdv)) → sp vs H Q E →
      ∃ t, PSs (cxM P w K mg base N qual (defScope st) f cdv A outer s H E) (defBody st) t ∧ t { nx := fun _ H' => Q .non H', rt := Q } (start N vs) H) : FnM P w K mg base (k + 1) f fd ps sp := by
  obtain ⟨oc, od, kV, doc, pm, an, cdv, ct, osl, rfl, lk, hcd⟩ := F.ex
  refine ⟨len, fun A outer s H args us vs Q E hr e0 hb r hsp => ?_⟩
  have hl := len _ _ _ _ hsp
  have KX : K.In s.heap := e0.mod.kin.keeps fun b o e => (e0.bs b o e).1
  have lim : s.heap.NoLimit := e0.mod.nolimit.keeps fun b o e => (e0.bs b o e).1
  have hkind : ∀ y ∈ ps.zip us, (defScope st).names.lookup y.1 = some .local ∨ ((defScope st).names.lookup y.1 = some .cell ∧ ((cellsFrom (s.heap.objs.size + 1) (defScope st).names []).lookup y.1).isSome = true) := fun ⟨n, v⟩ hy => by
    rcases S.par n (List.of_mem_zip hy).1 with q | q
    · exact .inl q
    · exact .inr ⟨q, PySem.W.cellsFrom_some _ _ _ (.inl q)⟩
  have hdp : A.depth < recursionLimit := by have := hr.dp; omega
  refine codeAny_call_function hdp (KX _ _ lk) rfl S.co S.gen rfl (PySem.W.codeRec_of KX hcd) (hb _ _ _ _ ?_)
  refine wpAny_newFunctionEnv_cells S.kind hkind fun env he s1 x => ?_
  subst he
  refine ⟨lim.keeps x.toInCall.keep, codeAny_func ?_⟩
  have hr2 : RoomM k (A.deeper (envOfC qual (defScope st) s.heap.objs.size f cdv)) := ⟨by have := hr.dp; show A.depth + 1 + 3 * k + 5 < _; omega, by have := hr.un; show A.units + 3 + 16 * k + 200 < _; omega⟩
  obtain ⟨t, ht, hq⟩ := hbody cdv A outer s H vs Q E hr2 hsp
  have I := inv_startM (E := E) S e0 hl r x
  refine wpAny_mono (ht [] s1 (start N vs) H _ I hq) (fun fl s' hs => ?_) fun e s' hs => False.elim hs
  have fin : ∀ {σ' : L2.St} {H' : Hp} {v : V} {u : Value}, L2.Inv (cxM P w K mg base N qual (defScope st) f cdv A outer s H E) [] σ' H' s' → RelV v u → Q v H' → CE outer P w H s Q u s' :=
    fun {σ' H' v u} J rv q => ⟨v, H', J.os, J.bare, J.base, J.hok, rv, q⟩
  cases fl with
  | ret u =>
    obtain ⟨v, σ', H', J, rv, q⟩ := hs
    exact fin J rv q
  | next =>
    obtain ⟨σ', H', J, q⟩ := hs
    exact fin (v := V.non) (u := Value.none) J rfl q
  | brk =>
    obtain ⟨_, _, _, q⟩ := hs
    exact False.elim q
  | cont =>
    obtain ⟨_, _, _, q⟩ := hs
    exact False.elim q
end
section
variable {X : Cx} {k : Nat} {f : Addr} {fd : FuncData} {ps : List Str} {sp : Sp} {x : Str} {p pos : Pos} {e : Expr} {es : List Expr} {t : TA}
theorem pe_callM (F : FnM X.prog X.w X.K X.mg X.base k f fd ps sp) (hr : RoomM k X.A) (hg : Gl X x) (hm : X.mg x = some (.ref f)) (hk : PySem.W.keepIn X.K (.ref f) = true) (hb : Binds X.K fd ps [])
    (ha : PA X (e :: es) t) (hdb : (x == ("__debug__" : Str)) = false := by decide) (he : starEach (e :: es) X.env = (false, eval e X.env) :: starEach es X.env := by rfl) (hpl : (backTo pos (starEach es X.env)).any (·.1) = false := by rfl) :
    PE X (.Call (.Name x p) (e :: es) [] pos) (fun σ H Q => t σ H fun vs H1 => sp vs H1 Q E0) := by
  intro pins s σ H Q I h
  refine wpAny_Call_Name_kw (ld_glob I hg hm ?_ hdb)
  refine PySem.W.callWith_K (h₀ := X.base) I.ok.mod.kin hk (thn (ha pos pins s σ H _ I h) fun us s1 ⟨vs, H1, I1, r, q⟩ => ⟨I1.kIn, ?_⟩) he hpl
  have hl : us.length = ps.length := by rw [← r.length]; exact F.len _ _ _ _ q
  have hbb : BindsTo s1 fd ⟨us, []⟩ (ps.zip us) := by
    have z := hb s1 us I1.kIn (by rw [List.append_nil]; exact hl)
    rw [List.append_nil] at z
    exact z
  refine wpAny_call (codeAny_mono (F.run X.A X.stack s1 H1 ⟨us, []⟩ us vs Q _ hr I1.env0 hbb r q) fun r s2 hq => ?_)
  cases r with
  | error e => exact False.elim hq
  | ok fl =>
    cases fl with
    | ret u => exact I1.after hq
    | next => exact False.elim hq
    | brk => exact False.elim hq
    | cont => exact False.elim hq
end
section
variable {X : Cx}
theorem call_isEx : CallR X (.builtin "isinstance") (fun xs H Q => ∃ a C y c b, xs = [.ref a, y] ∧ H a = some (exO a C) ∧ ExC X.K C ∧ (∀ u, RelV y u → u = c) ∧ PySem.W.kitOne X.K (.ref C) c = some b ∧ Q (.bl b) H) := by
  intro pins s σ H xs us Q I r h
  obtain ⟨a, C, y, c, b, rfl, ha, hc, hy, e, q⟩ := h
  obtain ⟨u, v, rfl, ru, rv⟩ := vals2 r
  cases (show u = Value.ref a from ru)
  cases hy v rv
  exact PySem.W.kia_one (kitx_ex hc) I.kIn (I.hok a _ ha).1 e (fun z => nomatch z) fun tk => ⟨.bl b, H, I.tok tk, rfl, q⟩
theorem bools_eq {bs : List Bool} {us : List Value} (r : Vals (bs.map V.bl) us) : us = bs.map Value.bool := by
  induction bs generalizing us with
  | nil => cases r; rfl
  | cons b bs ih =>
    cases r with
    | cons r t =>
      cases (show _ = Value.bool b from r)
      rw [ih t]
      rfl
def isTrueV : Value → Bool
  | .bool b => b
  | _ => false
theorem count_true (bs : List Bool) : (bs.map Value.bool).countP isTrueV = bs.countP id := by
  rw [List.countP_map]
  exact List.countP_congr fun b _ => Iff.rfl
def rCountT : V → List V → Hp → VK → Prop := fun x vs H Q => ∃ (l : Addr) (bs : List Bool), x = .ref l ∧ vs = [.bl true] ∧ H l = some (.lst (bs.map V.bl)) ∧ Q (.int (bs.countP id : Nat)) H
theorem mt_count : MtR X "list.count" rCountT := by
  intro pins s σ H x vs v us Q I rx rv h
  obtain ⟨l, bs, rfl, rfl, hH, q⟩ := h
  cases rx
  obtain ⟨u, rfl, ru⟩ := rv.one
  cases (show u = Value.bool true from ru)
  obtain ⟨z, its, n, r, hl, e⟩ := I.lstM hH
  have hi := bools_eq r
  subst hi
  refine call_meets F.slot_list_count ⟨_, e, rfl⟩ F.entry_list_count (F.args_list_count_2 _ _) (SeqAt.list_countAt l (bs.map Value.bool).toArray n none #[] (.bool true) isTrueV) ⟨e, fun y hy => ?_, ?_⟩
  · obtain ⟨b, _, rfl⟩ := List.mem_map.mp (List.mem_toArray.mp hy)
    have := SeqAt.EqAt.bool_bool (A := X.A.in1) (s := s) b true
    rw [show (b == true) = b by cases b <;> rfl] at this
    exact this
  · have e2 : ((bs.map Value.bool).toArray.toList.countP isTrueV : Nat) = bs.countP id := count_true bs
    rw [e2]
    exact ⟨.int (bs.countP id : Nat), H, I.tok _, ⟨_, rfl⟩, q⟩
def rIndexT : V → List V → Hp → VK → Prop := fun x vs H Q => ∃ (l : Addr) (bs : List Bool) (j : Nat), x = .ref l ∧ vs = [.bl true] ∧ H l = some (.lst (bs.map V.bl)) ∧ bs[j]? = some true ∧ (∀ m, m < j → bs[m]? = some false) ∧ Q (.int (j : Nat)) H
theorem mt_index : MtR X "list.index" rIndexT := by
  intro pins s σ H x vs v us Q I rx rv h
  obtain ⟨l, bs, j, rfl, rfl, hH, hj, hm, q⟩ := h
  cases rx
  obtain ⟨u, rfl, ru⟩ := rv.one
  cases (show u = Value.bool true from ru)
  obtain ⟨z, its, n, r, hl, e⟩ := I.lstM hH
  have hi := bools_eq r
  subst hi
  have hlt := (List.getElem?_eq_some_iff.mp hj).1
  have hsz : (bs.map Value.bool).toArray.size = bs.length := by simp
  rw [List.length_map] at z
  have hbig : bs.length < 2 ^ 60 := Nat.lt_of_le_of_lt z (by decide)
  refine call_meets F.slot_list_index ⟨_, e, rfl⟩ F.entry_list_index (F.args_list_index_2 _ _) (SeqAt.list_indexAt l (bs.map Value.bool).toArray n none #[] (.bool true) isTrueV j (by rw [hsz]; exact hlt) (by omega) ?_ ?_) ⟨e, fun y hy => ?_, ?_⟩
  · have := (List.getElem?_eq_some_iff.mp hj).2
    simp [isTrueV, this]
  · intro m hm1 hm2
    have := (List.getElem?_eq_some_iff.mp (hm m hm2)).2
    simp [isTrueV, this]
  · obtain ⟨b, _, rfl⟩ := List.mem_map.mp (List.mem_toArray.mp hy)
    have := SeqAt.EqAt.bool_bool (A := X.A.in1) (s := s) b true
    rw [show (b == true) = b by cases b <;> rfl] at this
    exact this
  · exact ⟨.int (j : Nat), H, I.tok _, ⟨_, rfl⟩, q⟩
end
end Rx
set_option Elab.async false
set_option linter.all false
set_option maxRecDepth 100000
set_option maxHeartbeats 4000000
namespace Rd
open PySem PySem.Spec PyProof.Rows L2
mutual
inductive Dat (H : Hp) : V → PyData → Prop
  | non : Dat H .non .none
  | bl (b : Bool) : Dat H (.bl b) (.bool b)
  | int (i : Int) : Dat H (.int i) (.int i)
  | str (x : Str) : PyData.canLay0 (.str x) = true → Dat H (.str x) (.str x)
  | tup {a : Addr} {xs : List V} {ds : List PyData} : H a = some (.tup xs) → Dats H xs ds → Dat H (.ref a) (.tuple ds)
  | lst {a : Addr} {xs : List V} {ds : List PyData} : H a = some (.lst xs) → Dats H xs ds → Dat H (.ref a) (.list ds)
inductive Dats (H : Hp) : List V → List PyData → Prop
  | nil : Dats H [] []
  | cons {x : V} {xs : List V} {d : PyData} {ds : List PyData} : Dat H x d → Dats H xs ds → Dats H (x :: xs) (d :: ds)
end
mutual
theorem dat_reads {P : Program} {w : World} {H : Hp} {h : Heap} (ok : HOk P w H h) : ∀ (d : PyData) (x : V) (v : Value), Dat H x d → RelV x v → (∃ as, Reads h v d as) ∧ d.canLay0 = true
  | .none, _, v, .non, r => by cases r; exact ⟨⟨_, .none⟩, rfl⟩
  | .bool b, _, v, .bl _, r => by cases r; exact ⟨⟨_, .bool b⟩, rfl⟩
  | .int i, _, v, .int _, r => by obtain ⟨t, rfl⟩ := r; exact ⟨⟨_, .int i t⟩, rfl⟩
  | .str z, _, v, .str _ c, r => by obtain ⟨t, rfl⟩ := r; exact ⟨⟨_, .str z t⟩, c⟩
  | .tuple ds, _, v, .tup (a := a) (xs := xs) e q, r => by
    cases r
    obtain ⟨_, its, rv, o, ho, hc, n, hd⟩ := ok a _ e
    obtain ⟨⟨as, ra⟩, cl⟩ := dats_reads ok ds xs its q rv
    exact ⟨⟨as, .tuple ho hc hd ra⟩, cl⟩
  | .list ds, _, v, .lst (a := a) (xs := xs) e q, r => by
    cases r
    obtain ⟨_, its, n, rv, ho⟩ := ok a _ e
    obtain ⟨⟨as, ra⟩, cl⟩ := dats_reads ok ds xs its q rv
    exact ⟨⟨a :: as, .list ho rfl rfl ra⟩, cl⟩
  | .dict _, _, _, q, _ => nomatch q
theorem dats_reads {P : Program} {w : World} {H : Hp} {h : Heap} (ok : HOk P w H h) : ∀ (ds : List PyData) (xs : List V) (vs : List Value), Dats H xs ds → Vals xs vs → (∃ as, ReadsAll h vs ds as) ∧ PyData.canLayAll0 ds = true
  | [], _, vs, .nil, r => by cases r; exact ⟨⟨_, .nil⟩, rfl⟩
  | d :: ds, _, vs, .cons (x := x) (xs := xs) q qs, r => by
    cases r with
    | cons r rs =>
      obtain ⟨⟨a1, r1⟩, c1⟩ := dat_reads ok d x _ q r
      obtain ⟨⟨a2, r2⟩, c2⟩ := dats_reads ok ds xs _ qs rs
      exact ⟨⟨_, .cons r1 r2⟩, by simp [PyData.canLayAll0, c1, c2]⟩
end
mutual
theorem dat_same {H H' : Hp} (s : Same H H') : ∀ (d : PyData) (x : V), Dat H x d → Dat H' x d
  | .none, _, .non => .non
  | .bool _, _, .bl _ => .bl _
  | .int _, _, .int _ => .int _
  | .str _, _, .str _ c => .str _ c
  | .tuple ds, _, .tup (xs := xs) e q => .tup (s _ _ e) (dats_same s ds xs q)
  | .list ds, _, .lst (xs := xs) e q => .lst (s _ _ e) (dats_same s ds xs q)
  | .dict _, _, q => nomatch q
theorem dats_same {H H' : Hp} (s : Same H H') : ∀ (ds : List PyData) (xs : List V), Dats H xs ds → Dats H' xs ds
  | [], _, .nil => .nil
  | d :: ds, _, .cons (x := x) (xs := xs) q qs => .cons (dat_same s d x q) (dats_same s ds xs qs)
end
theorem Dat.same {H H' : Hp} {x : V} {d : PyData} (q : Dat H x d) (s : Same H H') : Dat H' x d := dat_same s d x q
theorem Dats.same {H H' : Hp} {xs : List V} {ds : List PyData} (q : Dats H xs ds) (s : Same H H') : Dats H' xs ds := dats_same s ds xs q
theorem Dats.length {H : Hp} : ∀ {xs : List V} {ds : List PyData}, Dats H xs ds → xs.length = ds.length
  | _, _, .nil => rfl
  | _, _, .cons _ q => by rw [List.length_cons, List.length_cons, q.length]
theorem Dats.get {H : Hp} : ∀ {xs : List V} {ds : List PyData}, Dats H xs ds → ∀ (i : Nat) (x : V), xs[i]? = some x → ∃ d, ds[i]? = some d ∧ Dat H x d
  | _, _, .nil, i, x, e => by simp at e
  | _, _, .cons q qs, 0, x, e => by simp at e; subst e; exact ⟨_, rfl, q⟩
  | _, _, .cons q qs, i + 1, x, e => qs.get i x (by simpa using e)
theorem Dats.app {H : Hp} : ∀ {xs ys : List V} {ds es : List PyData}, Dats H xs ds → Dats H ys es → Dats H (xs ++ ys) (ds ++ es)
  | _, _, _, _, .nil, q => q
  | _, _, _, _, .cons a b, q => .cons a (b.app q)
section
variable {X : Cx}
def rEqD (X : Cx) : R2 := fun x y H Q => ∃ dx dy, Dat H x dx ∧ Dat H y dy ∧ X.A.units + min dx.depth dy.depth < cLine ∧ Q (.bl (PyData.eqv dx dy)) H
theorem op_eqD : OpR X (compareOp .Eq) (rEqD X) := by
  intro pins s σ H x y v u Q I rx ry h
  obtain ⟨dx, dy, qx, qy, hu, q⟩ := h
  obtain ⟨⟨as, ra⟩, ca⟩ := dat_reads I.hok dx x v qx rx
  obtain ⟨⟨bs, rb⟩, cb⟩ := dat_reads I.hok dy y u qy ry
  exact SeqAt.compareEq_reads ra rb ca cb hu ⟨.bl _, H, I, rfl, q⟩
open Classical in
noncomputable def eqH (h : Heap) (d : PyData) (y : Value) : Bool := decide (∃ e as, Reads h y e as ∧ e.canLay0 = true ∧ PyData.eqv e d = true)
open Classical in
theorem eqH_t {h : Heap} {d : PyData} {y : Value} (q : ∃ e as, Reads h y e as ∧ e.canLay0 = true ∧ PyData.eqv e d = true) : eqH h d y = true := by
  unfold eqH
  exact decide_eq_true q
open Classical in
theorem eqH_f {h : Heap} {d : PyData} {y : Value} (q : ¬ ∃ e as, Reads h y e as ∧ e.canLay0 = true ∧ PyData.eqv e d = true) : eqH h d y = false := by
  unfold eqH
  exact decide_eq_false q
theorem eqH_of {h : Heap} {d e : PyData} {y : Value} {as : List Addr} (r : Reads h y e as) (c : e.canLay0 = true) : eqH h d y = PyData.eqv e d := by
  cases q : PyData.eqv e d with
  | true => exact eqH_t ⟨e, as, r, c, q⟩
  | false =>
    refine eqH_f fun ⟨e', as', r', c', q'⟩ => ?_
    rw [← SeqAt.Reads.unique e e' y as as' c r r', q] at q'
    cases q'
theorem any_eqH {h : Heap} {d : PyData} : ∀ {vs : List Value} {ds : List PyData} {as : List Addr}, ReadsAll h vs ds as → PyData.canLayAll0 ds = true → vs.any (eqH h d) = ds.any fun e => PyData.eqv e d
  | _, _, _, .nil, _ => rfl
  | _, _, _, .cons r rs, c => by
    simp only [PyData.canLayAll0, Bool.and_eq_true] at c
    rw [List.any_cons, List.any_cons, eqH_of r c.1, any_eqH rs c.2]
theorem mem_eqH {A : Around} {s : Shared} {d : PyData} {v : Value} {bs : List Addr} (rv : Reads s.heap v d bs) (cv : d.canLay0 = true) : ∀ {vs : List Value} {ds : List PyData} {as : List Addr}, ReadsAll s.heap vs ds as → PyData.canLayAll0 ds = true → A.units + d.depth < cLine →
    ∀ u ∈ vs, SeqAt.EqAt A s u v (eqH s.heap d u)
  | _, _, _, .nil, _, _ => fun u hu => nomatch hu
  | _, _, _, .cons (d := e) r rs, c, hu => fun u hm => by
    simp only [PyData.canLayAll0, Bool.and_eq_true] at c
    rcases List.mem_cons.mp hm with z | z
    · subst z
      rw [eqH_of r c.1]
      exact SeqAt.eqAt_reads e d A s _ v _ bs r rv c.1 cv (Nat.lt_of_le_of_lt (Nat.add_le_add_left (Nat.min_le_right _ _) _) hu)
    · exact mem_eqH rv cv rs c.2 hu u z
def rInD (X : Cx) (neg : Bool) : R2 := fun x y H Q => ∃ c ps ds d, y = .ref c ∧ H c = some (.tup ps) ∧ Dats H ps ds ∧ Dat H x d ∧ X.A.in1.units + d.depth < cLine ∧ Q (.bl (if neg then !(ds.any fun e => PyData.eqv e d) else ds.any fun e => PyData.eqv e d)) H
theorem op_inD : OpR X (compareOp .In) (rInD X false) := by
  intro pins s σ H x y v u Q I rx ry h
  obtain ⟨c, ps, ds, d, rfl, hc, qs, qx, hu, q⟩ := h
  cases ry
  obtain ⟨⟨as, ra⟩, ca⟩ := dat_reads I.hok d x v qx rx
  obtain ⟨_, its, rv, tp⟩ := I.hok c _ hc
  obtain ⟨⟨bs, rb⟩, cb⟩ := dats_reads I.hok ds ps its qs rv
  refine SeqAt.in_tupleAt (eqH s.heap d) tp (fun w hw => mem_eqH ra ca rb cb hu w (List.mem_toArray.mp hw)) ⟨.bl _, H, I, rfl, ?_⟩
  rw [show its.toArray.any (eqH s.heap d) = its.any (eqH s.heap d) by simp, any_eqH rb cb]
  exact q
end
end Rd
set_option Elab.async false
set_option linter.all false
set_option maxRecDepth 100000
set_option maxHeartbeats 4000000
namespace Rd
open PySem PySem.Spec PyProof.Rows L2
section
variable {X : Cx}
end
end Rd
set_option Elab.async false
set_option linter.all false
set_option maxRecDepth 100000
set_option maxHeartbeats 4000000
namespace L2
open PySem PySem.Spec PyProof.Rows
def Ite (l : Addr) : It :=
  ⟨fun i H => ∃ xs x, H l = some (.lst xs) ∧ xs[i]? = some x,
   fun i H v H' => ∃ p x, H p = none ∧ (∀ xs, H l = some (.lst xs) → xs[i]? = some x) ∧ v = .ref p ∧ H' = upd H p (.tup [.int (i : Nat), x]),
   fun i H => ∃ xs, H l = some (.lst xs) ∧ xs.length ≤ i⟩
theorem turn_enum {P : Program} {w : World} {K : PySem.W.Frag} {elts : List Expr} {x1} {tpos : Pos} {e it l : Addr} (hne : e ≠ it) :
    Turn P w K (.Tuple elts x1 tpos) (Ite l) [e, it] e (fun i h => (∃ old, IsEnum h e it (i : Nat) old) ∧ h.IsListIter it l i) where
  mem := by simp
  obj := fun i h st b hb => by
    obtain ⟨⟨old, a1⟩, ⟨o2, a2, _, d2⟩⟩ := st
    simp only [List.mem_cons, List.not_mem_nil, or_false] at hb
    rcases hb with rfl | rfl
    · exact ⟨_, a1, fun v q => nomatch q⟩
    · exact ⟨_, a2, fun v q => by rw [d2] at q; cases q⟩
  keep := fun i h h' st k => by
    obtain ⟨⟨old, a1⟩, ⟨o2, a2, c2⟩⟩ := st
    exact ⟨⟨old, k e (by simp) _ a1⟩, o2, k it (by simp) _ a2, c2⟩
  item := by
    intro X hP hw hK hc i pins s σ H E I hf st hg
    subst hP hw hK
    obtain ⟨xs, x, h1, hx⟩ := hg
    obtain ⟨⟨old, a1⟩, a2⟩ := st
    obtain ⟨its, r1, p1, _⟩ := I.list (SqL.of h1)
    obtain ⟨u, hu, ru⟩ := r1.get hx
    refine wpAny_pyNext_enum_item a1 a2 p1.isList (x := u) (by simpa using hu) hne fun h' o' l' tp sz kp => ?_
    have fr : H s.heap.objs.size = none := I.hok.fresh (Nat.le_refl _)
    have n1 : e ≠ s.heap.objs.size := Nat.ne_of_lt (Heap.lt_size a1)
    have n2 : it ≠ s.heap.objs.size := by
      obtain ⟨o2, a2, _⟩ := a2
      exact Nat.ne_of_lt (Heap.lt_size a2)
    refine ⟨_, rfl, wpAny_letOwnedTupleGo_enum o' fun h2 e2 s2 => ?_⟩
    have I1 : Inv X pins σ (upd H s.heap.objs.size (.tup [.int (i : Nat), x])) { s with heap := h2, toks := s.toks + 1 } := by
      refine I.turnedNew (ch := [e, it]) hf (fun b v hb q => ?_) (Nat.le_refl _) ⟨by show 2 ≤ sizeLine; decide, [.int (i : Nat) s.toks, u], .cons ⟨_, rfl⟩ (.cons ru .nil), ?_⟩
      · simp only [List.mem_cons, List.not_mem_nil, or_false, not_or] at hb
        exact s2.extBut _ _ hb.1 (kp b v hb.1 hb.2 q)
      · exact ⟨_, s2.extBut _ _ n1.symm tp, rfl, 0, rfl⟩
    refine ⟨.ref s.heap.objs.size, _, I1, rfl, ⟨_, x, fr, fun xs' q => ?_, rfl, rfl⟩, ⟨⟨u, e2⟩, ?_⟩, fun b hb => ?_⟩
    · rw [h1] at q; cases q; exact hx
    · exact l'.extBut s2.extBut hne.symm
    · simp only [List.mem_cons, List.not_mem_nil, or_false] at hb
      rcases hb with rfl | rfl
      · rw [upd_ne n1]; exact (hf _ (by simp)).1
      · rw [upd_ne n2]; exact (hf _ (by simp)).1
  done := by
    intro X hP hw hK hc i pins s σ H E I hf st hg
    subst hP hw hK
    obtain ⟨xs, h1, he⟩ := hg
    obtain ⟨⟨old, a1⟩, a2⟩ := st
    obtain ⟨its, r1, p1, _⟩ := I.list (SqL.of h1)
    have l1 := r1.length
    refine wpAny_pyNext_enum_end (I.ok.hd hc) a1 a2 p1.isList (by simp; omega) fun h' kp => ⟨rfl, I.turnedAll (t' := s.toks) (ch := [e, it]) hf fun b v hb q => ?_⟩
    simp only [List.mem_cons, List.not_mem_nil, or_false, not_or] at hb
    exact kp b v hb.2 q
  self := fun _ _ _ _ _ st h => by
    obtain ⟨⟨old, a1⟩, _⟩ := st
    exact wpAny_pyIter_enum a1 h
def iEnum (ta : TA) : TI := fun σ H R => ta σ H fun vs H1 => ∃ l xs, vs = [.ref l] ∧ H1 l = some (.lst xs) ∧ R (Ite l) H1
theorem boot_enum : bootBuiltins "enumerate" = some (.type "enumerate") := by decide +kernel
section
variable {X : Cx}
theorem pi_enum {a : Expr} {elts : List Expr} {x1} {tpos : Pos} {ta : TA} {p pos : Pos} (hg : Gl X "enumerate") (hm : X.mg "enumerate" = none) (ha : PA X [a] ta) (hs : starEach [a] X.env = [(false, eval a X.env)] := by rfl) :
    PI X (.Tuple elts x1 tpos) (.Call (.Name "enumerate" p) [a] [] pos) (iEnum ta) := by
  intro pins s σ H R I h
  refine Call_ (ld_blt I hg hm boot_enum (PyProof.Rows.callWith_type1 (thn (ha pos pins s σ H _ I h) fun us s1 ⟨vs, H1, I1, r1, q1⟩ => ?_) hs rfl))
  obtain ⟨l, xs, e, h1, q⟩ := q1
  subst e
  obtain ⟨u, rfl, ru⟩ := vals1 r1
  cases (show u = Value.ref l from ru)
  obtain ⟨its, w1, p1, _⟩ := I1.list (SqL.of h1)
  refine call_enumerate_list p1.isList fun h' e1 i1 sz kp => ?_
  refine wpAny_pyIter_enum (s := { s1 with heap := h' }) e1 ?_
  refine ⟨s1.heap.objs.size + 1, _, _, _, H1, rfl, I1.kept (t' := s1.toks) kp, turn_enum (by show ¬ (s1.heap.objs.size + 1 = s1.heap.objs.size); omega), ⟨⟨_, e1⟩, i1⟩, fun b hb => ?_, q⟩
  have hb' : s1.heap.objs.size ≤ b := by
    simp only [List.mem_cons, List.not_mem_nil, or_false] at hb
    rcases hb with rfl | rfl <;> omega
  exact I1.fpOk hb' (I1.hok.fresh hb')
end
end L2
set_option Elab.async false
set_option linter.all false
set_option maxRecDepth 100000
set_option maxHeartbeats 4000000
namespace L2
open PySem PySem.Spec PyProof.Rows
section
variable {prog : Program} {w : World} {A : Around} {R : Result → Shared → Prop} {s : Shared}
theorem start_second {elt tg iter : Expr} {ifs : List Expr} {g0 : Comprehension} {scope : Scope} {pos : Pos} {it acc : Value} {env : Env}
    (h0 : codeAny (model prog w) A (.compLoop (.ListComp elt [g0, ⟨tg, iter, ifs, 0⟩] scope pos) 1 it acc env) R s)
    (h : wpAny (model prog w) A (pyIter it) (fun it' s' => codeAny (model prog w) A (.compLoop (.ListComp elt [g0, ⟨tg, iter, ifs, 0⟩] scope pos) 1 it' acc env) R s') (notedBy (model prog w) A env fun x s' => R (.error x) s') s) :
    codeAny (model prog w) A (.compStart (.ListComp elt [g0, ⟨tg, iter, ifs, 0⟩] scope pos) 1 it acc env) R s := by
  refine codeAny_of_tree ?_
  show wpAny _ _ ((compStart (.ListComp elt [g0, ⟨tg, iter, ifs, 0⟩] scope pos) 1 it acc env).onRaise (fun x => do noteFrame x env; standAt theWindowsPlace)) _ _ s
  refine wpAny_notedAt ?_
  unfold compStart
  show wpAny _ _ (ask >>= _) _ _ s
  refine wpAny_bind (wpAny_askSetting (wpAny_ite ?_))
  split
  · first
      | exact wpAny_bind (wpAny_pure (wpAny_pure ⟨rfl, h0⟩))
      | exact wpAny_pure ⟨rfl, h0⟩
  · first
      | exact wpAny_bind (wpAny_rule (wpAny_bind (wpAny_standAt (wpAny_bind (wpAny_mono h (fun it' s' h' => wpAny_pure ⟨rfl, h'⟩) fun _ _ x => x)))))
      | exact wpAny_bind (wpAny_rule (wpAny_bind (wpAny_standAt (wpAny_bind (wpAny_mono h (fun it' s' h' => wpAny_pure (wpAny_pure ⟨rfl, h'⟩)) fun _ _ x => x)))))
end
theorem turn_last {Y : Cx} {elt tg iter : Expr} {ifs : List Expr} {g0 : Comprehension} {scope : Scope} {cpos : Pos} {it D : Addr} (Q : PySem.Fin → Shared → Prop) (E : Value → Shared → Prop) (s : Shared)
    (h : wpAny (model Y.prog Y.w) Y.A (pyNext (.ref it)) (fun r s1 => match r with
      | none => Q (.done .next) s1
      | some v => wpAny (model Y.prog Y.w) Y.A (letOwnedTupleGo tg (.ref it) v) (fun _ s2 => actOf Y tg ifs (actElt Y elt D) v (fun s3 => Q (.again (.compLoop (.ListComp elt [g0, ⟨tg, iter, ifs, 0⟩] scope cpos) 1 (.ref it) (.ref D) Y.env)) s3) s2) E s1) E s) :
    wpAny (model Y.prog Y.w) Y.A (compTurn (.ListComp elt [g0, ⟨tg, iter, ifs, 0⟩] scope cpos) 1 (.ref it) (.ref D) Y.env) Q E s := by
  have e : compTurn (.ListComp elt [g0, ⟨tg, iter, ifs, 0⟩] scope cpos) 1 (.ref it) (.ref D) Y.env = (do
      standAt iter.pos
      match ← pyNext (.ref it) with
      | none => pure (.done .next)
      | some v =>
        letOwnedTupleGo tg (.ref it) v
        assign tg Y.env v
        let mut ok := true
        for c in ifs do
          if ok then ok ← isTrue c Y.env (eval c Y.env)
        if ok then
          (do let _ ← call (.builtin "list.append") [.ref D, ← eval elt Y.env])
        again (.compLoop (.ListComp elt [g0, ⟨tg, iter, ifs, 0⟩] scope cpos) 1 (.ref it) (.ref D) Y.env)) := by rfl
  rw [e]
  refine wpAny_bind (wpAny_standAt (wpAny_bind (thn h fun r s1 h1 => ?_)))
  cases r with
  | none => exact wpAny_pure h1
  | some v =>
    refine wpAny_bind (thn h1 fun _ s2 h2 => ?_)
    refine wpAny_bind (wpAny_mono h2 (fun _ s4 h4 => wpAny_bind (wpAny_mono h4 (fun ok s5 h5 => ?_) fun _ _ f => f.elim)) fun _ _ f => f.elim)
    cases ok with
    | false => exact wpAny_pure h5
    | true => exact wpAny_bind (wpAny_bind (wpAny_mono h5 (fun x s6 h6 => wpAny_bind (wpAny_mono h6 (fun _ s7 h7 => wpAny_pure (wpAny_pure h7)) fun _ _ f => f.elim)) fun _ _ f => f.elim))
def actNest (Y : Cx) (e : Expr) (iter : Expr) (D : Addr) : Act := fun Q s => wpAny (model Y.prog Y.w) Y.A (eval iter Y.env) (fun x s1 => wpAny (model Y.prog Y.w) Y.A (pyIter x)
  (fun itv s2 => codeAny (model Y.prog Y.w) Y.A (.compStart e 1 itv (.ref D) Y.env) (fun r s3 => match r with | .ok _ => Q s3 | .error _ => False) s2) (fun _ _ => False) s1) (fun _ _ => False) s
def bNest (wi : TI) (g : TG) (tc : TT) (p : Addr) (te : TE) : St → Hp → (Hp → Prop) → Prop := fun σ H k => wi σ H fun J H1 => tLoop J (bOf σ g tc (bElt p te)) k H1
theorem body_nest {Y : Cx} {σ : St} {elt tg iter : Expr} {ifs : List Expr} {g0 : Comprehension} {scope : Scope} {cpos : Pos} {D : Addr} {wi : TI} {g : TG} {tc : TT} {te : TE} (hx : Y.xe = fun _ _ => False) (hc : Y.calm = true)
    (hi : PI Y tg iter wi) (hg : PG Y tg g) (ht : PTs Y ifs tc) (he : PE Y elt te) : BodyOk Y σ (actNest Y (.ListComp elt [g0, ⟨tg, iter, ifs, 0⟩] scope cpos) iter D) (bNest wi g tc D te σ) := by
  intro pins s H k Q I h hQ
  have hx' : ∀ (v : Value) (s' : Shared), Y.xe v s' → False := fun v s' z => by rw [hx] at z; exact z
  refine wpAny_mono (hi pins s σ H _ I h) (fun v s1 h1 => wpAny_mono h1 (fun itv s2 h2 => ?_) hx') hx'
  obtain ⟨it, fp, tn, J, H2, e, I2, T, st2, f2, hW⟩ := h2
  subst e
  have loop : codeAny (model Y.prog Y.w) Y.A (.compLoop (.ListComp elt [g0, ⟨tg, iter, ifs, 0⟩] scope cpos) 1 (.ref it) (.ref D) Y.env) (fun r s3 => match r with | .ok _ => Q s3 | .error _ => False) s2 :=
    comp_loop (Y := Y) (gens := [g0, ⟨tg, iter, ifs, 0⟩]) (d := 1) hc T st2 f2 (fun Q E s h => turn_last Q E s h) (fun x u r => body_of hx hg ht (fun σ4 => body_elt hx he) x u r) I2 hW fun s' H' I' q => hQ s' H' I' q
  exact start_second loop (T.self _ 0 _ _ _ st2 loop)
theorem turn_first {Y : Cx} {elt tg iter tg2 iter2 : Expr} {ifs ifs2 : List Expr} {scope : Scope} {cpos : Pos} {it D : Addr} (hs : ∀ x, foldedSetIterable iter2 Y.env x = pure x) (Q : PySem.Fin → Shared → Prop) (E : Value → Shared → Prop) (s : Shared)
    (h : wpAny (model Y.prog Y.w) Y.A (pyNext (.ref it)) (fun r s1 => match r with
      | none => Q (.done .next) s1
      | some v => wpAny (model Y.prog Y.w) Y.A (letOwnedTupleGo tg (.ref it) v) (fun _ s2 => actOf Y tg ifs (actNest Y (.ListComp elt [⟨tg, iter, ifs, 0⟩, ⟨tg2, iter2, ifs2, 0⟩] scope cpos) iter2 D) v (fun s3 => Q (.again (.compLoop (.ListComp elt [⟨tg, iter, ifs, 0⟩, ⟨tg2, iter2, ifs2, 0⟩] scope cpos) 0 (.ref it) (.ref D) Y.env)) s3) s2) E s1) E s) :
    wpAny (model Y.prog Y.w) Y.A (compTurn (.ListComp elt [⟨tg, iter, ifs, 0⟩, ⟨tg2, iter2, ifs2, 0⟩] scope cpos) 0 (.ref it) (.ref D) Y.env) Q E s := by
  have e : compTurn (.ListComp elt [⟨tg, iter, ifs, 0⟩, ⟨tg2, iter2, ifs2, 0⟩] scope cpos) 0 (.ref it) (.ref D) Y.env = (do
      standAt iter.pos
      match ← pyNext (.ref it) with
      | none => pure (.done .next)
      | some v =>
        letOwnedTupleGo tg (.ref it) v
        assign tg Y.env v
        let mut ok := true
        for c in ifs do
          if ok then ok ← isTrue c Y.env (eval c Y.env)
        if ok then
          let x ← eval iter2 Y.env
          standAt iter2.pos
          let x ← foldedSetIterable iter2 Y.env x
          let _ ← runOwn (.compStart (.ListComp elt [⟨tg, iter, ifs, 0⟩, ⟨tg2, iter2, ifs2, 0⟩] scope cpos) 1 (← holding [x] (pyIter x)) (.ref D) Y.env) Y.env
        again (.compLoop (.ListComp elt [⟨tg, iter, ifs, 0⟩, ⟨tg2, iter2, ifs2, 0⟩] scope cpos) 0 (.ref it) (.ref D) Y.env)) := by rfl
  rw [e]
  refine wpAny_bind (wpAny_standAt (wpAny_bind (thn h fun r s1 h1 => ?_)))
  cases r with
  | none => exact wpAny_pure h1
  | some v =>
    refine wpAny_bind (thn h1 fun _ s2 h2 => ?_)
    refine wpAny_bind (wpAny_mono h2 (fun _ s4 h4 => wpAny_bind (wpAny_mono h4 (fun ok s5 h5 => ?_) fun _ _ f => f.elim)) fun _ _ f => f.elim)
    cases ok with
    | false => exact wpAny_pure h5
    | true =>
      refine wpAny_bind (wpAny_mono h5 (fun x s6 h6 => wpAny_bind (wpAny_standAt ?_)) fun _ _ f => f.elim)
      rw [hs x]
      refine wpAny_bind (wpAny_pure (wpAny_bind (wpAny_holding (wpAny_mono h6 (fun itv s7 h7 => ?_) fun _ _ f => f.elim))))
      refine wpAny_bind (wpAny_runOwn (h := none) (codeAny_mono h7 fun r s8 h8 => ?_))
      cases r with
      | error z => exact h8.elim
      | ok fl => exact wpAny_pure h8
def tComp2 (cap : List (Option Nat)) (wi : TI) (g : TG) (tc : TT) (wi2 : TI) (g2 : TG) (tc2 : TT) (te : TE) : TE := fun σ H Q => wi σ H fun J H1 => ∀ p, H1 p = none → tLoop J (bOf (capS cap σ) g tc (bNest wi2 g2 tc2 p te)) (Q (.ref p)) (upd H1 p (.lst []))
end L2
set_option Elab.async false
set_option linter.all false
set_option maxRecDepth 100000
set_option maxHeartbeats 4000000
namespace L2
open PySem PySem.Spec PyProof.Rows
theorem comp_fil {J : It} {σ : St} {g : TG} {tc : TT} {te : TE} {p : Addr} {H1 : Hp} {Qn : Hp → Prop} (n : Nat) (hn : n < sizeLine) (F : Nat → Option V) (hp : H1 p = none)
    (hs : ∀ i H2, i < n → Same H1 H2 → J.go i H2 ∧ ∀ x H3, J.yld i H2 x H3 → ∀ (kn : Hp → Prop) (kv : VK), (F i = none → ∀ H6, Same H2 H6 → kn H6) → (∀ v, F i = some v → ∀ H6, Same H2 H6 → kv v H6) →
      g x σ H3 fun σ4 H4 => Wk σ σ4 ∧ tc σ4 H4 fun b H5 => if b = true then te σ4 H5 kv else kn H5)
    (hst : ∀ H2, Same H1 H2 → J.stop n H2) (hq : ∀ H2, Same H1 H2 → H2 p = some (.lst ((List.range n).filterMap F)) → Qn H2) :
    tLoop J (bOf σ g tc (bElt p te)) Qn (upd H1 p (.lst [])) := by
  refine loop_by n (fun i H2 => Same H1 H2 ∧ H2 p = some (.lst ((List.range i).filterMap F))) ⟨same_upd hp, upd_same⟩ (fun i H2 hi ⟨s2, e2⟩ => ?_) fun H2 ⟨s2, e2⟩ => ⟨hst H2 s2, hq H2 s2 e2⟩
  obtain ⟨go, st⟩ := hs i H2 hi s2
  refine ⟨go, fun x H3 y k hk => ?_⟩
  have er : (List.range (i + 1)).filterMap F = (List.range i).filterMap F ++ (F i).toList := by
    rw [List.range_succ, List.filterMap_append]
    cases e : F i <;> simp [e]
  refine st x H3 y k (fun v H6 => ∃ ys, H6 p = some (.lst ys) ∧ ys.length < sizeLine ∧ k (upd H6 p (.lst (ys ++ [v])))) (fun e H6 s6 => ?_) fun v e H6 s6 => ?_
  · refine hk _ ⟨s2.trans s6, ?_⟩
    rw [er, e]
    simpa using s6 p _ e2
  · have e6 := s6 p _ e2
    refine ⟨_, e6, ?_, hk _ ⟨fun b o q => ?_, ?_⟩⟩
    · have : ((List.range i).filterMap F).length ≤ i := by
        have := List.length_filterMap_le F (List.range i)
        rwa [List.length_range] at this
      omega
    · rw [upd_ne (ne_of_none q hp)]; exact s6 b o (s2 b o q)
    · rw [upd_same, er, e]; rfl
end L2
namespace Rk
open PySem PySem.Spec PyProof.Rows L2 Rd
def othersI (k : Nat) (rs : List Int) : List Int := (List.range k).filterMap fun (i : Nat) => if (i : Int) ∈ rs then none else some (i : Int)
theorem flat_ints (rs : List Int) : (rs.map V.int).all flatV = true := by
  rw [List.all_eq_true]
  intro x hx
  obtain ⟨i, _, rfl⟩ := List.mem_map.mp hx
  rfl
theorem eqV_int (a b : Int) : eqV (.int a) (.int b) = decide (a = b) := by
  unfold eqV
  first | rfl | simp [Bool.beq_eq_decide_eq] | (rw [Bool.beq_eq_decide_eq])
theorem in_ints (i : Int) (rs : List Int) : inV (.int i) (rs.map V.int) = decide (i ∈ rs) := by
  unfold inV
  rw [List.any_map]
  induction rs with
  | nil => simp
  | cons r rs ih =>
    rw [List.any_cons, ih]
    show (eqV (.int r) (.int i) || _) = _
    rw [eqV_int]
    by_cases h : r = i
    · simp [h]
    · have h' : ¬ i = r := fun z => h z.symm
      simp [h, h']
def pairD (ij : Int × Int) : PyData := .tuple [.int ij.1, .int ij.2]
theorem Cs.dats {p : Addr} {H : Hp} : ∀ {ps : List V} {L : List (Int × Int)}, Cs p H ps L → Dats H ps (L.map pairD)
  | _, _, .nil => .nil
  | _, _, .cons ⟨d, _, e, h⟩ t => by
    subst e
    exact .cons (.tup h (.cons (.int _) (.cons (.int _) .nil))) (Cs.dats t)
theorem eqv_pair (a b : Int × Int) : PyData.eqv (pairD a) (pairD b) = decide (a = b) := by
  have e : PyData.eqv (pairD a) (pairD b) = ((a.1 == b.1) && ((a.2 == b.2) && true)) := by
    unfold pairD
    simp [PyData.eqv, PyData.eqvAll]
  rw [e]
  obtain ⟨a1, a2⟩ := a
  obtain ⟨b1, b2⟩ := b
  by_cases h1 : a1 = b1 <;> by_cases h2 : a2 = b2 <;> simp [h1, h2]
theorem any_pair (L : List (Int × Int)) (b : Int × Int) : ((L.map pairD).any fun e => PyData.eqv e (pairD b)) = decide (b ∈ L) := by
  rw [List.any_map]
  induction L with
  | nil => simp
  | cons a L ih =>
    rw [List.any_cons, ih]
    show (PyData.eqv (pairD a) (pairD b) || _) = _
    rw [eqv_pair]
    by_cases h : a = b
    · simp [h]
    · have h' : ¬ b = a := fun z => h z.symm
      simp [h, h']
theorem depth_pair (b : Int × Int) : PyData.depth (pairD b) = 1 := by
  unfold pairD
  simp [PyData.depth, PyData.depthAll]
end Rk
set_option Elab.async false
set_option linter.all false
set_option maxRecDepth 100000
set_option maxHeartbeats 4000000
namespace Rr
open PySem PyProof.Rows
section
variable {prog : Program} {w : World} {A : Around} {E : Value → Shared → Prop} {s : Shared}
end
end Rr
namespace L2
open PySem PySem.Spec PyProof.Rows
def tRange (ta : TA) : TE := fun σ H Q => ta σ H fun vs H1 => ∃ j, vs = [.int j] ∧ ∀ r H2, Same H1 H2 → H1 r = none → H2 r = some (.rng 0 j) → Q (.ref r) H2
section
variable {X : Cx}
theorem pe_range {a : Expr} {ta : TA} {p pos : Pos} (hg : Gl X "range") (hm : X.mg "range" = none) (ha : PA X [a] ta) (hs : starEach [a] X.env = [(false, eval a X.env)] := by rfl) : PE X (.Call (.Name "range" p) [a] [] pos) (tRange ta) := by
  intro pins s σ H Q I h
  refine wpAny_Call_Name_kw (ld_blt I hg hm boot_range ?_)
  refine PyProof.Rows.callWith_type1 (thn (ha pos pins s σ H _ I h) fun us s1 ⟨vs, H1, I1, r1, q1⟩ => ?_) hs rfl
  obtain ⟨j, e, q⟩ := q1
  subst e
  obtain ⟨u, rfl, ru⟩ := vals1 r1
  obtain ⟨t, rfl⟩ := ru
  refine call_range_1 ?_
  have hf : H1 s1.heap.objs.size = none := I1.hok.fresh (Nat.le_refl _)
  refine ⟨.ref s1.heap.objs.size, upd H1 s1.heap.objs.size (.rng 0 j), I1.laid (t' := s1.toks + 1 + 1) (fun b u e => Heap.get?_push_of_some _ e) (Nat.le_refl _) ⟨_, _, _, Heap.get?_push_size _ rfl⟩, rfl, q _ _ (same_upd hf) hf upd_same⟩
theorem items_ints {acc : Array Value} {n : Nat} (h : ItemsOf (fun i v => ∃ t, v = Value.int ((0 : Int) + i * 1) t) acc n) : Vals ((List.range n).map fun i => V.int (i : Nat)) acc.toList := by
  obtain ⟨hs, hi⟩ := h
  have key : ∀ (m : Nat) (l : List Value) (o : Nat), l.length = m → (∀ i v, l[i]? = some v → ∃ t, v = Value.int ((0 : Int) + ((o + i : Nat) : Int) * 1) t) → Vals ((List.range' o m).map fun i => V.int (i : Nat)) l := by
    intro m
    induction m with
    | zero => intro l o hl _; cases l with
      | nil => exact .nil
      | cons a b => cases hl
    | succ m ih =>
      intro l o hl hv
      cases l with
      | nil => cases hl
      | cons a b =>
        rw [List.range'_succ, List.map_cons]
        refine .cons ?_ (ih b (o + 1) (by simpa using hl) fun i v e => ?_)
        · obtain ⟨t, rfl⟩ := hv 0 a rfl
          exact ⟨t, by simp⟩
        · obtain ⟨t, rfl⟩ := hv (i + 1) v (by simpa using e)
          exact ⟨t, by congr 3; omega⟩
  rw [List.range_eq_range']
  refine key n acc.toList 0 (by simpa using hs) fun i v e => ?_
  have := hi i v (by simpa using e)
  simpa using this
end
end L2
set_option Elab.async false
set_option linter.all false
set_option maxRecDepth 100000
set_option maxHeartbeats 4000000
namespace Rs
open PySem PySem.W PyProof.Rows
def sp {α : Type} (n : Nat) (c : Nat → Nat → Bool) : KasT α → (α → Prop) → Prop
  | .ret a, Q => Q a
  | .ask i j f, Q => i < n ∧ j < n ∧ sp n c (f (c i j)) Q
theorem sp_mono {α : Type} {n : Nat} {c : Nat → Nat → Bool} {Q Q' : α → Prop} (h : ∀ a, Q a → Q' a) : ∀ {t : KasT α}, sp n c t Q → sp n c t Q'
  | .ret a, q => h a q
  | .ask i j f, q => ⟨q.1, q.2.1, sp_mono h (t := f (c i j)) q.2.2⟩
theorem sp_bind {α β : Type} {n : Nat} {c : Nat → Nat → Bool} {f : α → KasT β} {Q : β → Prop} : ∀ {t : KasT α}, sp n c t (fun a => sp n c (f a) Q) → sp n c (t.bind f) Q
  | .ret a, q => q
  | .ask i j g, q => ⟨q.1, q.2.1, sp_bind (t := g (c i j)) q.2.2⟩
theorem wp_of_sp {α : Type} {n : Nat} {c : Nat → Nat → Bool} {cmp : Nat → Nat → (Bool → Shared → Prop) → Shared → Prop} {s : Shared} {Q : α → Shared → Prop} (hc : ∀ i j (C : Bool → Shared → Prop), i < n → j < n → C (c i j) s → cmp i j C s) :
    ∀ {t : KasT α}, sp n c t (fun a => Q a s) → t.kasWp cmp Q s
  | .ret a, q => q
  | .ask i j f, q => hc i j _ q.1 q.2.1 (wp_of_sp hc (t := f (c i j)) q.2.2)
section
variable {n : Nat} {K : Nat → Int}
abbrev cK (K : Nat → Int) (i j : Nat) : Bool := decide (K i < K j)
structure Good (n : Nat) (p : Array Nat) : Prop where
  perm : p.toList.Perm (List.range n)
theorem Good.size {p : Array Nat} (g : Good n p) : p.size = n := by
  have := g.perm.length_eq
  rw [List.length_range, Array.length_toList] at this
  exact this
def at_ (p : Array Nat) (i : Nat) : Nat := p.getD i 0
theorem at_get {p : Array Nat} {i : Nat} (h : i < p.size) : p[i]? = some (at_ p i) := by
  unfold at_
  rw [Array.getD_eq_getD_getElem?, Array.getElem?_eq_getElem h]
  rfl
theorem at_of {p q : Array Nat} {i j : Nat} (h : p[i]? = q[j]?) : at_ p i = at_ q j := by
  unfold at_
  rw [Array.getD_eq_getD_getElem?, Array.getD_eq_getD_getElem?, h]
theorem Good.lt {p : Array Nat} (g : Good n p) (h0 : 0 < n) (i : Nat) : at_ p i < n := by
  by_cases h : i < p.size
  · have e := at_get h
    have m : at_ p i ∈ p.toList := by
      have := Array.mem_of_getElem? e
      exact Array.mem_toList_iff.mpr this
    exact List.mem_range.mp (g.perm.mem_iff.mp m)
  · unfold at_
    rw [Array.getD_eq_getD_getElem?, Array.getElem?_eq_none (by omega)]
    exact h0
theorem Good.inj {p : Array Nat} (g : Good n p) {i j : Nat} (hi : i < n) (hj : j < n) (e : at_ p i = at_ p j) : i = j := by
  have nd : p.toList.Nodup := g.perm.nodup_iff.mpr List.nodup_range
  have hs := g.size
  have hi' : i < p.toList.length := by rw [Array.length_toList]; omega
  have hj' : j < p.toList.length := by rw [Array.length_toList]; omega
  have ei : p.toList[i] = at_ p i := by
    have := at_get (p := p) (i := i) (by omega)
    rw [Array.getElem?_eq_getElem (by omega)] at this
    rw [Array.getElem_toList]
    exact Option.some.inj this
  have ej : p.toList[j] = at_ p j := by
    have := at_get (p := p) (i := j) (by omega)
    rw [Array.getElem?_eq_getElem (by omega)] at this
    rw [Array.getElem_toList]
    exact Option.some.inj this
  have pw := List.pairwise_iff_getElem.mp nd
  rcases Nat.lt_trichotomy i j with h | h | h
  · exact absurd (ei.trans (e.trans ej.symm)) (pw i j hi' hj' h)
  · exact h
  · exact absurd (ej.trans (e.symm.trans ei.symm)) (pw j i hj' hi' h)
def kk (K : Nat → Int) (p : Array Nat) (i : Nat) : Int := K (at_ p i)
def Adj (K : Nat → Int) (p : Array Nat) (m : Nat) : Prop := ∀ i, i + 1 < m → kk K p i ≤ kk K p (i + 1)
def Dsc (K : Nat → Int) (p : Array Nat) (m : Nat) : Prop := ∀ i, i + 1 < m → kk K p (i + 1) < kk K p i
theorem Adj.le {p : Array Nat} {m : Nat} (h : Adj K p m) {i : Nat} : ∀ {j : Nat}, i ≤ j → j < m → kk K p i ≤ kk K p j
  | 0, hij, _ => by cases Nat.le_zero.mp hij; exact Int.le_refl _
  | j + 1, hij, hj => by
    by_cases e : i = j + 1
    · rw [e]; exact Int.le_refl _
    · exact Int.le_trans (h.le (i := i) (j := j) (by omega) (by omega)) (h j hj)
theorem rev_good {p : Array Nat} (g : Good n p) (i j : Nat) : Good n (kas_rev p i j) := ⟨(Array.perm_iff_toList_perm.mp (mirror_perm p i j _)).trans g.perm⟩
theorem rev_at {p : Array Nat} {m k : Nat} (hm : m ≤ p.size) (hk : k < m) : at_ (kas_rev p 0 m) k = at_ p (m - 1 - k) := by
  refine at_of ?_
  have := getElem?_mirror_all (xs := p) (i := 0) (j := m) hm k
  rw [if_pos ⟨Nat.zero_le _, hk⟩, Nat.zero_add] at this
  exact this
theorem rev_adj {p : Array Nat} {m : Nat} (hm : m ≤ p.size) (d : Dsc K p m) : Adj K (kas_rev p 0 m) m := by
  intro i hi
  unfold kk
  rw [rev_at hm (by omega), rev_at hm hi]
  have := d (m - 1 - (i + 1)) (by omega)
  have e : m - 1 - (i + 1) + 1 = m - 1 - i := by omega
  rw [e] at this
  exact Int.le_of_lt this
theorem sp_asc {p : Array Nat} (g : Good n p) (h0 : 0 < n) : ∀ (f a : Nat), 1 ≤ a → Adj K p a →
    sp n (cK K) (kas_asc p f a) (fun m => a ≤ m ∧ m ≤ a + f ∧ Adj K p m ∧ (m = a + f ∨ kk K p m < kk K p (m - 1)))
  | 0, a, _, h => ⟨Nat.le_refl _, Nat.le_refl _, h, .inl rfl⟩
  | f + 1, a, ha, h => by
    refine ⟨g.lt h0 a, g.lt h0 (a - 1), ?_⟩
    show sp n (cK K) (if decide (kk K p a < kk K p (a - 1)) = true then .ret a else kas_asc p f (a + 1)) _
    by_cases e : kk K p a < kk K p (a - 1)
    · rw [decide_eq_true e, if_pos rfl]
      exact ⟨Nat.le_refl _, Nat.le_add_right _ _, h, .inr e⟩
    · rw [decide_eq_false e, if_neg (by simp)]
      refine sp_mono ?_ (sp_asc g h0 f (a + 1) (by omega) ?_)
      · rintro m ⟨h1, h2, h3, h4⟩
        exact ⟨by omega, by omega, h3, h4.imp (fun q => by omega) id⟩
      · intro i hi
        by_cases q : i + 1 < a
        · exact h i q
        · have e1 : i = a - 1 := by omega
          have e2 : i + 1 = a := by omega
          rw [e2, e1]
          exact Int.not_lt.mp e
theorem kk_ne (inj : ∀ i j, i < n → j < n → K i = K j → i = j) {p : Array Nat} (g : Good n p) {i j : Nat} (hi : i < n) (hj : j < n) (h : i ≠ j) : kk K p i ≠ kk K p j :=
  fun e => h (g.inj hi hj (inj _ _ (g.lt (by omega) i) (g.lt (by omega) j) e))
theorem sp_desc (inj : ∀ i j, i < n → j < n → K i = K j → i = j) {p : Array Nat} (g : Good n p) (h0 : 0 < n) : ∀ (f a : Nat), 1 ≤ a → a + f ≤ n → Dsc K p a →
    sp n (cK K) (kas_desc f p a 0) (fun r => r.1 = p ∧ r.2.2 = 0 ∧ a ≤ r.2.1 ∧ r.2.1 ≤ a + f ∧ Dsc K p r.2.1)
  | 0, a, _, _, h => ⟨rfl, rfl, Nat.le_refl _, Nat.le_refl _, h⟩
  | f + 1, a, ha, haf, h => by
    refine ⟨g.lt h0 a, g.lt h0 (a - 1), ?_⟩
    show sp n (cK K) (if decide (kk K p a < kk K p (a - 1)) = true then (if 0 > 0 then kas_desc f (kas_rev p (a - (0 + 1)) a) (a + 1) 0 else kas_desc f p (a + 1) 0) else _) _
    by_cases e : kk K p a < kk K p (a - 1)
    · rw [decide_eq_true e, if_pos rfl, if_neg (by omega)]
      refine sp_mono ?_ (sp_desc inj g h0 f (a + 1) (by omega) (by omega) ?_)
      · rintro r ⟨h1, h2, h3, h4, h5⟩
        exact ⟨h1, h2, by omega, by omega, h5⟩
      · intro i hi
        by_cases q : i + 1 < a
        · exact h i q
        · have e1 : i = a - 1 := by omega
          have e2 : i + 1 = a := by omega
          rw [e2, e1]
          exact e
    · rw [decide_eq_false e, if_neg (by simp)]
      refine ⟨g.lt h0 (a - 1), g.lt h0 a, ?_⟩
      show sp n (cK K) (if decide (kk K p (a - 1) < kk K p a) = true then .ret (p, a, 0) else _) _
      have ne := kk_ne (K := K) inj g (i := a - 1) (j := a) (by omega) (by omega) (by omega)
      rw [decide_eq_true (by omega), if_pos rfl]
      exact ⟨rfl, rfl, Nat.le_refl _, Nat.le_add_right _ _, h⟩
def Run (K : Nat → Int) (n : Nat) (r : Nat × Array Nat) : Prop := Good n r.2 ∧ 1 ≤ r.1 ∧ r.1 ≤ n ∧ Adj K r.2 r.1
theorem sp_tail3 {p : Array Nat} (g : Good n p) {m : Nat} (h1 : 1 ≤ m) (hm : m ≤ n) (d : Dsc K p m) : sp n (cK K) (kas_tail3 m n p) (Run K n) := by
  refine sp_bind ?_
  have hs := g.size
  have g' := rev_good g 0 m
  refine sp_mono ?_ (sp_asc g' (by omega) (n - m) m h1 (rev_adj (by omega) d))
  rintro k ⟨a, b, c, _⟩
  exact ⟨g', by omega, by omega, c⟩
theorem sp_descPart (inj : ∀ i j, i < n → j < n → K i = K j → i = j) {p : Array Nat} (g : Good n p) {m : Nat} (hm : m + 1 ≤ n) (d : Dsc K p (m + 1)) : sp n (cK K) (kas_descPart m n p) (Run K n) := by
  refine sp_bind ?_
  refine sp_mono ?_ (sp_desc inj g (by omega) (n - (m + 1)) (m + 1) (by omega) (by omega) d)
  rintro ⟨p', k, q⟩ ⟨e1, e2, h3, h4, h5⟩
  have e1 : p' = p := e1
  have e2 : q = 0 := e2
  subst e1 e2
  show sp n (cK K) (if 0 > 0 then _ else kas_tail3 k n p') _
  rw [if_neg (by omega)]
  have h3 : m + 1 ≤ k := h3
  have h4 : k ≤ m + 1 + (n - (m + 1)) := h4
  exact sp_tail3 g (by omega) (by omega) h5
theorem sp_count (inj : ∀ i j, i < n → j < n → K i = K j → i = j) {p : Array Nat} (g : Good n p) (h0 : 0 < n) : sp n (cK K) (kas_count n p) (Run K n) := by
  refine sp_bind ?_
  refine sp_mono ?_ (sp_asc g h0 (n - 1) 1 (Nat.le_refl _) (fun i hi => by omega))
  rintro m ⟨h1, h2, h3, h4⟩
  show sp n (cK K) (if (m == n) = true then .ret (m, p) else if m > 1 then _ else kas_descPart m n p) _
  by_cases e : m = n
  · rw [if_pos (beq_iff_eq.mpr e)]
    exact ⟨g, h1, by omega, h3⟩
  · rw [if_neg (fun q => e (beq_iff_eq.mp q))]
    by_cases e2 : m > 1
    · rw [if_pos e2]
      refine ⟨g.lt h0 0, g.lt h0 (m - 1), ?_⟩
      show sp n (cK K) (if decide (kk K p 0 < kk K p (m - 1)) = true then .ret (m, p) else _) _
      have le := h3.le (i := 0) (j := m - 1) (by omega) (by omega)
      have ne := kk_ne (K := K) inj g (i := 0) (j := m - 1) (by omega) (by omega) (by omega)
      rw [decide_eq_true (by omega), if_pos rfl]
      exact ⟨g, h1, by omega, h3⟩
    · rw [if_neg e2]
      have em : m = 1 := by omega
      subst em
      refine sp_descPart inj g (by omega) fun i hi => ?_
      have ei : i = 0 := by omega
      subst ei
      rcases h4 with q | q
      · omega
      · exact q
theorem sp_place {p : Array Nat} (g : Good n p) (h0 : 0 < n) {k : Nat} (A : Adj K p k) : ∀ (f l r : Nat), l ≤ r → r ≤ k → r - l ≤ f → (∀ i, i < l → kk K p i ≤ kk K p k) → (∀ i, r ≤ i → i < k → kk K p k < kk K p i) →
    sp n (cK K) (kas_place p k f l r) (fun m => m ≤ k ∧ (∀ i, i < m → kk K p i ≤ kk K p k) ∧ ∀ i, m ≤ i → i < k → kk K p k < kk K p i)
  | 0, l, r, h1, h2, h3, a, b => ⟨by omega, a, fun i hi hk => b i (by omega) hk⟩
  | f + 1, l, r, h1, h2, h3, a, b => by
    show sp n (cK K) (if l ≥ r then .ret l else _) _
    by_cases e : l ≥ r
    · rw [if_pos e]
      exact ⟨by omega, a, fun i hi hk => b i (by omega) hk⟩
    · rw [if_neg e]
      refine ⟨g.lt h0 k, g.lt h0 ((l + r) / 2), ?_⟩
      show sp n (cK K) (if decide (kk K p k < kk K p ((l + r) / 2)) = true then kas_place p k f l ((l + r) / 2) else kas_place p k f ((l + r) / 2 + 1) r) _
      by_cases q : kk K p k < kk K p ((l + r) / 2)
      · rw [decide_eq_true q, if_pos rfl]
        refine sp_place g h0 A f l ((l + r) / 2) (by omega) (by omega) (by omega) a fun i hi hk => ?_
        exact Int.lt_of_lt_of_le q (A.le hi hk)
      · rw [decide_eq_false q, if_neg (by simp)]
        refine sp_place g h0 A f ((l + r) / 2 + 1) r (by omega) h2 (by omega) (fun i hi => ?_) b
        exact Int.le_trans (A.le (i := i) (j := (l + r) / 2) (by omega) (by omega)) (Int.not_lt.mp q)
theorem sp_bin (h0 : 0 < n) : ∀ (f k : Nat) {p : Array Nat}, Good n p → k + f ≤ n → Adj K p k → sp n (cK K) (kas_bin f p k) (fun p' => Good n p' ∧ Adj K p' (k + f))
  | 0, k, p, g, _, A => ⟨g, A⟩
  | f + 1, k, p, g, hk, A => by
    refine sp_bind ?_
    refine sp_mono ?_ (sp_place g h0 A k 0 k (Nat.zero_le _) (Nat.le_refl _) (by omega) (fun i hi => by omega) (fun i hi hk => by omega))
    rintro l ⟨hl, lo, hi⟩
    have hs := g.size
    have bb : ∀ j, at_ (bubble p k (k - l)) j = if j = l then at_ p k else if l < j ∧ j ≤ k then at_ p (j - 1) else at_ p j := by
      intro j
      have := getElem?_bubble (xs := p) (src := k) (by omega) (k - l) (by omega) j
      have e : k - (k - l) = l := by omega
      rw [e] at this
      split
      · rename_i q; rw [if_pos q] at this; exact at_of this
      · rename_i q
        rw [if_neg q] at this
        split
        · rename_i q2; rw [if_pos q2] at this; exact at_of this
        · rename_i q2; rw [if_neg q2] at this; exact at_of this
    refine sp_mono ?_ (sp_bin h0 f (k + 1) (p := bubble p k (k - l)) ⟨(Array.perm_iff_toList_perm.mp (bubble_perm p k (k - l))).trans g.perm⟩ (by omega) ?_)
    · rintro p' ⟨a, b⟩
      exact ⟨a, by rw [show k + (f + 1) = k + 1 + f by omega]; exact b⟩
    · intro i hik
      unfold kk
      rw [bb, bb]
      by_cases c1 : i + 1 < l
      · rw [if_neg (by omega), if_neg (by omega), if_neg (by omega), if_neg (by omega)]
        exact A i (by omega)
      · by_cases c2 : i + 1 = l
        · rw [if_neg (by omega), if_neg (by omega), if_pos c2]
          exact lo i (by omega)
        · by_cases c3 : i = l
          · rw [if_pos c3, if_neg (by omega), if_pos ⟨by omega, by omega⟩]
            exact Int.le_of_lt (hi (i + 1 - 1) (by omega) (by omega))
          · rw [if_neg c3, if_pos ⟨by omega, by omega⟩, if_neg (by omega), if_pos ⟨by omega, by omega⟩]
            have := A (i - 1) (by omega)
            rw [show i - 1 + 1 = i + 1 - 1 by omega] at this
            exact this
theorem sp_sort (inj : ∀ i j, i < n → j < n → K i = K j → i = j) (h0 : 0 < n) : sp n (cK K) (kas_sort n) (fun p => Good n p ∧ Adj K p n) := by
  have g : Good n (List.toArray (List.range n)) := ⟨List.Perm.refl _⟩
  refine sp_bind ?_
  refine sp_mono ?_ (sp_count inj g h0)
  rintro ⟨m, p⟩ ⟨g', h1, h2, A⟩
  show sp n (cK K) (if m < n then kas_bin (n - max m 1) p (max m 1) else .ret p) _
  have e : max m 1 = m := by have : 1 ≤ m := h1; omega
  rw [e]
  by_cases q : m < n
  · rw [if_pos q]
    refine sp_mono ?_ (sp_bin h0 (n - m) m g' (by omega) A)
    rintro p' ⟨a, b⟩
    exact ⟨a, by rw [show m + (n - m) = n by omega] at b; exact b⟩
  · rw [if_neg q]
    have h2 : m ≤ n := h2
    have e2 : m = n := by omega
    subst e2
    exact ⟨g', A⟩
end
end Rs
set_option Elab.async false
set_option linter.all false
set_option maxRecDepth 100000
set_option maxHeartbeats 4000000
namespace Rs
open PySem PySem.W PySem.Calls PyProof.Rows
section
variable {prog : Program} {w : World} {A : Around} {E : Value → Shared → Prop} {s : Shared}
def Kept (a : Addr) (h h' : Heap) : Prop := ∀ b x, b ≠ a → h.get? b = some x → h'.get? b = some x
theorem upd_kept {h : Heap} {a : Addr} (f : Obj → Obj) : Kept a h (h.update a f) := fun b x hb e => (Heap.get?_update_ne _ _ _ _ hb).trans e
theorem push_kept {h : Heap} {a : Addr} (o : Obj) : Kept a h (h.push o) := fun b x _ e => Heap.get?_push_of_some _ e
theorem Kept.trans {a : Addr} {h h1 h2 : Heap} (k : Kept a h h1) (k' : Kept a h1 h2) : Kept a h h2 := fun b x hb e => k' b x hb (k b x hb e)
theorem range_map (vs : List Value) : (List.range vs.length).map (fun i => vs.getD i Value.none) = vs := by
  apply List.ext_getElem?
  intro i
  rw [List.getElem?_map]
  by_cases h : i < vs.length
  · rw [List.getElem?_range h, List.getElem?_eq_getElem h]
    show some (vs.getD i Value.none) = _
    rw [List.getD_eq_getElem?_getD, List.getElem?_eq_getElem h]
    rfl
  · rw [List.getElem?_eq_none (by simpa using h), List.getElem?_eq_none (by omega)]
    rfl
theorem list_sort_keys {a : Addr} {vs : List Value} {n : Nat} {P : PySem.Fin → Shared → Prop} (ho : s.heap.get? a = some (seqObj "list" vs.toArray n)) (h64 : vs.length < 64) (K : Nat → Int) (κ : SortKind)
    (inj : ∀ i j, i < vs.length → j < vs.length → K i = K j → i = j)
    (hkind : 2 ≤ vs.length → ∀ h' : Heap, Kept a s.heap h' → ∀ (Q' : SortKind → Shared → Prop) (E' : Value → Shared → Prop), Q' κ { s with heap := h' } → wpAny (model prog w) A (keyKind' vs.toArray) Q' E' { s with heap := h' })
    (hcmp : ∀ h' : Heap, Kept a s.heap h' → ∀ (i j : Nat) (C : Bool → Shared → Prop), i < vs.length → j < vs.length → C (decide (K i < K j)) { s with heap := h' } → wpAny (model prog w) A (keyLt' κ (vs.getD i Value.none) (vs.getD j Value.none)) C (fun _ _ => False) { s with heap := h' })
    (h : ∀ p : Array Nat, Good vs.length p → Adj K p vs.length → ∀ (h' : Heap) (e : Nat), Kept a s.heap h' → h'.get? a = some (seqObj "list" (List.toArray (p.toList.map fun i => vs.getD i Value.none)) e) → P (.done (.ret .none)) { s with heap := h' }) :
    wpAny (model prog w) A (Builtin.«list.sort» ⟨[.ref a], []⟩) P E s := by
  have ha : a < s.heap.objs.size := Heap.lt_size ho
  obtain ⟨e1, ho1⟩ : ∃ e1, (s.heap.update a (Obj.mapSeq fun _ => (#[] : Array Value))).get? a = some (seqObj "list" #[] e1) := ⟨_, get?_update_seq ho fun _ => #[]⟩
  have K3 : Kept a s.heap (((s.heap.update a (Obj.mapSeq fun _ => (#[] : Array Value))).push (seqObj "tuple" vs.toArray 0)).push (seqObj "list" #[] 0)) := (upd_kept _).trans ((push_kept _).trans (push_kept _))
  have ho6 : (((s.heap.update a (Obj.mapSeq fun _ => (#[] : Array Value))).push (seqObj "tuple" vs.toArray 0)).push (seqObj "list" #[] 0)).get? a = some (seqObj "list" #[] e1) := Heap.get?_push_of_some _ (Heap.get?_push_of_some _ ho1)
  rw [list_sort_plain]
  refine wpAny_bind (listItems_at ho rfl ?_)
  refine wpAny_bind (listUpdate_at ho rfl ?_ (by rw [List.size_toArray, sizeLine_eq]; omega) (Nat.zero_le _))
  refine wpAny_bind (seqEpoch_at ho1 rfl ?_)
  refine wpAny_bind (wpAny_newTuple ?_ (by show vs.length ≤ _; rw [sizeLine_eq]; omega))
  refine wpAny_bind (wpAny_newList ?_ (Nat.zero_le _))
  refine wpAny_holding ?_
  show wpAny (model prog w) A _ P E { s with heap := ((s.heap.update a (Obj.mapSeq fun _ => (#[] : Array Value))).push (seqObj "tuple" vs.toArray 0)).push (seqObj "list" #[] 0) }
  dsimp only
  generalize (((s.heap.update a (Obj.mapSeq fun _ => (#[] : Array Value))).push (seqObj "tuple" vs.toArray 0)).push (seqObj "list" #[] 0)) = h3 at K3 ho6 ⊢
  have fin : ∀ p : Array Nat, Good vs.length p → Adj K p vs.length → ∀ st' : SortSt, (arrOf st').map (·.2) = List.toArray (p.toList.map fun i => vs.getD i Value.none) → failedOf st' = none →
      ∃ e2, (h3.update a (Obj.mapSeq fun _ => List.toArray (p.toList.map fun i => vs.getD i Value.none))).get? a = some (seqObj "list" (List.toArray (p.toList.map fun i => vs.getD i Value.none)) e2) := fun p _ _ _ _ _ => ⟨_, get?_update_seq ho6 fun _ => _⟩
  by_cases h2 : vs.toArray.size < 2
  · rw [if_pos h2, if_pos h2]
    refine wpAny_bind (wpAny_pure ?_)
    rw [StateT.run_pure]
    refine wpAny_bind (wpAny_pure ?_)
    dsimp only
    have gg : Good vs.length (List.toArray (List.range vs.length)) := ⟨List.Perm.refl _⟩
    have aa : Adj K (List.toArray (List.range vs.length)) vs.length := fun i hi => by rw [List.size_toArray] at h2; omega
    have out : (arrOf (SortSt.mk' general' (vs.toArray.zip vs.toArray) #[] 7 none)).map (·.2) = List.toArray ((List.toArray (List.range vs.length)).toList.map fun i => vs.getD i Value.none) := by
      show (vs.toArray.zip vs.toArray).map (·.2) = _
      rw [List.toList_toArray, range_map]
      apply Array.toList_inj.mp
      rw [Array.toList_map, Array.toList_zip]
      show (vs.zip vs).map (·.2) = vs
      exact List.map_snd_zip (Nat.le_refl _)
    obtain ⟨e2, he2⟩ := fin _ gg aa _ out rfl
    rw [out]
    refine wpAny_bind (seqEpoch_at ho6 rfl ?_)
    refine wpAny_bind (listUpdate_at ho6 rfl ?_ (Nat.zero_le _) (by rw [List.size_toArray, List.length_map, List.toList_toArray, List.length_range, sizeLine_eq]; omega))
    simp only [bne_self_eq_false, Bool.false_eq_true, if_false]
    exact wpAny_pure (h _ gg aa _ e2 (K3.trans (upd_kept _)) he2)
  · rw [if_neg h2, if_neg h2]
    have h2' : 2 ≤ vs.length := by rw [List.size_toArray] at h2; omega
    refine wpAny_bind (hkind h2' h3 K3 _ _ ?_)
    refine wpAny_bind (wpAny_mono (kat_run (Q := fun st' s' => ∃ p : Array Nat, Good vs.length p ∧ Adj K p vs.length ∧ arrOf st' = p.map (kas_item (vs.toArray.zip vs.toArray)) ∧ failedOf st' = none ∧ s' = { s with heap := h3 })
      (G := fun p s' => Good vs.length p ∧ Adj K p vs.length ∧ s' = { s with heap := h3 }) rfl h2' h64 (fun p' st' s' a1 a2 a3 a4 => ⟨p', a4.1, a4.2.1, a2, a3, a4.2.2⟩)
      (wp_of_sp (c := cK K) (fun i j C hi hj hC => hcmp h3 K3 i j C hi hj hC) (sp_mono (fun p q => ⟨q.1, q.2, rfl⟩) (sp_sort inj (by omega))))) ?_ fun _ _ e => e)
    rintro ⟨⟨⟩, st'⟩ s' ⟨p, gg, aa, har, hf, rfl⟩
    dsimp only
    have out := kat_snds (ks := vs) rfl har
    obtain ⟨e2, he2⟩ := fin p gg aa st' out hf
    rw [out]
    refine wpAny_bind (seqEpoch_at ho6 rfl ?_)
    refine wpAny_bind (listUpdate_at ho6 rfl ?_ (Nat.zero_le _) (by rw [List.size_toArray, List.length_map, Array.length_toList, gg.size, sizeLine_eq]; omega))
    rw [hf]
    simp only [bne_self_eq_false, Bool.false_eq_true, if_false]
    exact wpAny_pure (h p gg aa _ e2 (K3.trans (upd_kept _)) he2)
theorem sorted_shell {Q : Value → Shared → Prop} {l : Addr} {T : String} {o : Obj} {vs : List Value} {n : Nat} (hT : T = "list" ∨ T = "tuple") (ho : s.heap.get? l = some o) (hc : o.cls = .type T) (hd : o.data = .seq vs.toArray n) (h64 : vs.length < 64)
    (h : ∀ h' : Heap, (∀ b x, s.heap.get? b = some x → h'.get? b = some x) → ∀ (P : PySem.Fin → Shared → Prop) (E' : Value → Shared → Prop), (∀ s2, Q (.ref h'.objs.size) s2 → P (.done (.ret .none)) s2) →
      wpAny (model prog w) A.in1.in1 (Builtin.«list.sort» ⟨[.ref h'.objs.size], []⟩) P E' { s with heap := h'.push (seqObj "list" vs.toArray 0) }) :
    wpAny (model prog w) A (call (.builtin "sorted") [.ref l]) Q E s := by
  refine Calls.call_function_entry kind_sorted plain_sorted entry_sorted (args_sorted1 _) ?_
  unfold Builtin.«sorted»
  refine wpAny_bind (m := checkCount "sorted" 1 1 _) (wpAny_pure ?_)
  refine wpAny_bind (wpAny_collect_seq (items := vs.toArray) l hT ho hc hd (fun h' kp => ?_) (by rw [List.size_toArray, sizeLine_eq]; omega))
  refine wpAny_bind (wpAny_newList ?_ (by rw [List.toList_toArray, sizeLine_eq]; omega))
  have hoL : (h'.push (seqObj "list" vs.toArray 0)).get? h'.objs.size = some (seqObj "list" vs.toArray 0) := Heap.get?_push_size _ rfl
  show wpAny _ _ _ _ _ { s with heap := h'.push (seqObj "list" vs.toArray 0) }
  refine wpAny_bind (wpAny_holding (wpAny_call_entry slot_list_sort ⟨_, hoL, rfl⟩ entry_list_sort ?body (args_list_sort _)))
  exact h h' kp _ _ fun s2 hq => ⟨_, rfl, wpAny_pure ⟨_, rfl, hq⟩⟩
end
end Rs
set_option Elab.async false
set_option linter.all false
set_option maxRecDepth 100000
set_option maxHeartbeats 4000000
namespace Rs
open PySem PySem.W PySem.Calls PyProof.Rows
structure PairV (h : Heap) (v : Value) (ij : Int × Int) : Prop where
  it : ∃ (a : Addr) (o : Obj) (n : Nat) (t u : Tok), v = .ref a ∧ h.get? a = some o ∧ o.cls = .type "tuple" ∧ o.data = .seq #[.int ij.1 t, .int ij.2 u] n
theorem PairV.keep {h h' : Heap} {v : Value} {ij : Int × Int} (q : PairV h v ij) (k : ∀ b x, h.get? b = some x → h'.get? b = some x) : PairV h' v ij := by
  obtain ⟨a, o, n, t, u, e, g, c, d⟩ := q.it
  exact ⟨a, o, n, t, u, e, k _ _ g, c, d⟩
inductive PairsV (h : Heap) : List Value → List (Int × Int) → Prop
  | nil : PairsV h [] []
  | cons {v : Value} {vs : List Value} {ij : Int × Int} {L : List (Int × Int)} : PairV h v ij → PairsV h vs L → PairsV h (v :: vs) (ij :: L)
theorem PairsV.keep {h h' : Heap} (k : ∀ b x, h.get? b = some x → h'.get? b = some x) : ∀ {vs : List Value} {L : List (Int × Int)}, PairsV h vs L → PairsV h' vs L
  | _, _, .nil => .nil
  | _, _, .cons q r => .cons (q.keep k) (r.keep k)
theorem PairsV.len {h : Heap} : ∀ {vs : List Value} {L : List (Int × Int)}, PairsV h vs L → vs.length = L.length
  | _, _, .nil => rfl
  | _, _, .cons _ r => by rw [List.length_cons, List.length_cons, r.len]
section
variable {prog : Program} {w : World} {A : Around} {E : Value → Shared → Prop} {s : Shared}
end
end Rs
namespace L2
open PySem PySem.Spec PyProof.Rows _root_.Rd _root_.Rk _root_.Rs
theorem boot_sorted : bootBuiltins "sorted" = some (.builtin "sorted") := by decide +kernel
section
variable {X : Cx}
theorem ints_are : ∀ {ns : List Int} {vs : List Value}, Vals (ns.map V.int) vs → IntsAre vs ns
  | [], _, .nil => .nil
  | i :: ns, _, .cons ⟨t, e⟩ r => by subst e; exact .cons _ _ (ints_are r)
theorem are_ints : ∀ {ns : List Int} {vs : List Value}, IntsAre vs ns → Vals (ns.map V.int) vs
  | _, _, .nil => .nil
  | _, _, .cons n t r => .cons ⟨t, rfl⟩ (are_ints r)
def rSortI (K : PySem.W.Frag) : List V → Hp → VK → Prop := fun xs H Q => ∃ l ns, xs = [.ref l] ∧ SqT K H l ((ns : List Int).map V.int) ∧ ns.length < 64 ∧
  ∀ t ms H2, Same H H2 → H t = none → H2 t = some (.lst ((ms : List Int).map V.int)) → ms.Perm ns → ms.Pairwise (· ≤ ·) → Q (.ref t) H2
theorem call_sortI : CallR X (.builtin "sorted") (rSortI X.K) := by
  intro pins s σ H xs us Q I r h
  obtain ⟨l, ns, rfl, hl, h64, q⟩ := h
  obtain ⟨u, rfl, ru⟩ := vals1 r
  cases ru
  obtain ⟨its, rv, tp, hz⟩ := I.tuple hl
  obtain ⟨o, ho, hc, n, hd⟩ := tp
  have li := rv.length
  rw [List.length_map] at li
  refine sorted_shell (.inr rfl) ho hc hd (by omega) fun h' kp P E' hP => ?_
  have hn : (h'.push (seqObj "list" its.toArray 0)).get? h'.objs.size = some (seqObj "list" its.toArray 0) := Heap.get?_push_size _ rfl
  refine list_sort_tree (s := { s with heap := h'.push (seqObj "list" its.toArray 0) }) hn (ints_are rv) (by omega) fun out ns' ia pm pw => hP _ ?_
  have I1 : Inv X pins σ H { s with heap := h' } := I.kept (t' := s.toks) kp
  have hf : H h'.objs.size = none := I1.hok.fresh (Nat.le_refl _)
  obtain ⟨e, he⟩ : ∃ e, (sortedHeap (h'.push (seqObj "list" its.toArray 0)) h'.objs.size its out).get? h'.objs.size = some (seqObj "list" out e) := sortedHeap_at hn
  have rv' := are_ints ia
  have lp := pm.length_eq
  have I2 : Inv X pins σ (upd H h'.objs.size (.lst (ns'.map V.int))) { s with heap := sortedHeap (h'.push (seqObj "list" its.toArray 0)) h'.objs.size its out } :=
    I1.laid (t' := s.toks) (fun b x e' => (sortedHeap_old (Nat.ne_of_lt (Heap.lt_size e')) (Nat.lt_of_lt_of_le (Heap.lt_size e') (by rw [size_push']; exact Nat.le_succ _))).trans (Heap.get?_push_of_some _ e')) (Nat.le_refl _) (show ObjOk X.prog X.w _ _ _ (.lst _) from ⟨by rw [List.length_map]; exact Nat.le_of_lt (Rk.lt_line (by omega)), out.toList, e, rv', by rw [he]⟩)
  exact ⟨.ref h'.objs.size, _, I2, rfl, q _ ns' _ (same_upd hf) hf upd_same pm pw⟩
end
end L2
set_option Elab.async false
set_option linter.all false
set_option maxRecDepth 100000
set_option maxHeartbeats 4000000
namespace Re
open PySem PyProof.Rows
open AutoSeq1 (wpAny_loadPart')
theorem drawsT {prog : Program} {w : World} {A : Around} {it t : Addr} {items : Array Value} (hh : A.handled = none) (hti : t ≠ it) :
    Draws prog w A it [it, t] items.size (fun i x => items[i]? = some x) (fun i h => h.IsTupleIter it t i ∧ h.IsTuple t items) where
  live := fun i h st => by
    obtain ⟨⟨o, ho, _⟩, _⟩ := st
    exact ⟨o, ho⟩
  frame := fun i h h' st k => by
    obtain ⟨⟨o, ho, c⟩, ⟨o2, h2, c2⟩⟩ := st
    exact ⟨⟨o, k it (by simp) _ ho, c⟩, ⟨o2, k t (by simp) _ h2, c2⟩⟩
  item := fun i s Q E hi st hQ => by
    refine Rz.nxt_item st.1 st.2 (x := items[i]) (by simp [hi]) fun h' hit' hs' => ?_
    refine hQ _ h' s.toks (by simp [hi]) ⟨hit', ?_⟩ hs'
    obtain ⟨o2, h2, c2⟩ := st.2
    exact ⟨o2, (hs'.2 t hti).trans h2, c2⟩
  done := fun s Q E st hE => Rz.nxt_end hh st.1 st.2 (by simp) hE
theorem meets_newT (l : Addr) (items : Array Value) (n : Nat) (dct : Option Addr) (sl : Array (Option Value)) :
    Meets (Builtin.«enumerate.__new__» ⟨[.type "enumerate", .ref l], []⟩) (fun _ R s => s.heap.get? l = some { cls := .type "tuple", dict := dct, data := .seq items n, slots := sl } ∧
      R (.ok (.ret (.ref (s.heap.push { cls := .type "tuple_iterator", data := .fields #[.ref l, .int 0 0] }).objs.size)))
        { s with heap := (s.heap.push { cls := .type "tuple_iterator", data := .fields #[.ref l, .int 0 0] }).push { cls := .type "enumerate", data := .fields #[.none, .bool false, .ref s.heap.objs.size, rawInt 0, .none, .none] } }) :=
  .of_wp fun prog w A R s h => by
    obtain ⟨hp, g, d, tk, os⟩ := s
    obtain ⟨hl, h⟩ := h
    have hsub := sub_enumerate
    have hL : Heap.IsTuple (Shared.heap ⟨hp, g, d, tk, os⟩) l items := ⟨_, hl, rfl, n, rfl⟩
    wp_walk using wpAny_loadPart' hl
    refine wpAny_stack_any fun st => wpAny_pure ?_
    split
    · rename_i c _ _ _ _ _
      cases (c == Value.type "enumerate")
      · wp_walk using wpAny_loadPart' hl, wpAny_pyIter_tuple hL
        exact ⟨_, rfl, h⟩
      · wp_walk using wpAny_loadPart' hl, wpAny_pyIter_tuple hL
        exact ⟨_, rfl, h⟩
    · wp_walk using wpAny_loadPart' hl, wpAny_pyIter_tuple hL
      exact ⟨_, rfl, h⟩
theorem call_enumT {prog : Program} {w : World} {A : Around} {E : Value → Shared → Prop} {s : Shared} {l : Addr} {items : Array Value} {Q : Value → Shared → Prop} (hL : s.heap.IsTuple l items)
    (h : ∀ h', IsEnum h' (s.heap.objs.size + 1) s.heap.objs.size 0 .none → h'.IsTupleIter s.heap.objs.size l 0 → (∀ b o, s.heap.get? b = some o → h'.get? b = some o) → Q (.ref (s.heap.objs.size + 1)) { s with heap := h' }) :
    wpAny (model prog w) A (call (.type "enumerate") [.ref l]) Q E s := by
  obtain ⟨⟨c, dct, dt, sl⟩, hl, hc, n, hd⟩ := hL
  replace hc : c = .type "tuple" := hc
  replace hd : dt = .seq items n := hd
  subst hc hd
  refine callType_new F.called_enumerate (by decide) (F.typeCall_enumerate_1 _) (F.newCall_enumerate_1 _) (fun obj => F.args_object_init_2 obj _) F.entry_enumerate_new (meets_newT l items n dct sl) ⟨hl, ?_⟩
  have hz : (s.heap.push { cls := .type "tuple_iterator", data := .fields #[.ref l, .int 0 0] }).objs.size = s.heap.objs.size + 1 := Heap.size_push ..
  show _ ∧ _
  rw [hz]
  have he := Heap.get?_push_size (s.heap.push { cls := .type "tuple_iterator", data := .fields #[.ref l, .int 0 0] }) (o := { cls := .type "enumerate", data := .fields #[.none, .bool false, .ref s.heap.objs.size, rawInt 0, .none, .none] }) rfl
  rw [hz] at he
  exact ⟨⟨_, he, rfl⟩, h _ he ⟨_, Heap.get?_push_of_some _ (Heap.get?_push_size _ rfl), rfl, rfl⟩ fun b o x => Heap.get?_push_of_some _ (Heap.get?_push_of_some _ x)⟩
end Re
namespace L2
open PySem PySem.Spec PyProof.Rows
def Iet (l : Addr) : It :=
  ⟨fun i H => ∃ xs x, H l = some (.tup xs) ∧ xs[i]? = some x,
   fun i H v H' => ∃ p x, H p = none ∧ (∀ xs, H l = some (.tup xs) → xs[i]? = some x) ∧ v = .ref p ∧ H' = upd H p (.tup [.int (i : Nat), x]),
   fun i H => ∃ xs, H l = some (.tup xs) ∧ xs.length = i⟩
theorem turn_enumT {P : Program} {w : World} {K : PySem.W.Frag} {elts : List Expr} {x1} {tpos : Pos} {e it l : Addr} (hne : e ≠ it) :
    Turn P w K (.Tuple elts x1 tpos) (Iet l) [e, it] e (fun i h => (∃ old, IsEnum h e it (i : Nat) old) ∧ h.IsTupleIter it l i) where
  mem := by simp
  obj := fun i h st b hb => by
    obtain ⟨⟨old, a1⟩, ⟨o2, a2, _, d2⟩⟩ := st
    simp only [List.mem_cons, List.not_mem_nil, or_false] at hb
    rcases hb with rfl | rfl
    · exact ⟨_, a1, fun v q => nomatch q⟩
    · exact ⟨_, a2, fun v q => by rw [d2] at q; cases q⟩
  keep := fun i h h' st k => by
    obtain ⟨⟨old, a1⟩, ⟨o2, a2, c2⟩⟩ := st
    exact ⟨⟨old, k e (by simp) _ a1⟩, o2, k it (by simp) _ a2, c2⟩
  item := by
    intro X hP hw hK hc i pins s σ H E I hf st hg
    subst hP hw hK
    obtain ⟨xs, x, h1, hx⟩ := hg
    obtain ⟨⟨old, a1⟩, a2⟩ := st
    obtain ⟨its, r1, p1, _⟩ := I.tuple (SqT.of h1)
    obtain ⟨u, hu, ru⟩ := r1.get hx
    have nel : e ≠ l := fun z => by have q := (hf e (by simp)).1; rw [z, h1] at q; cases q
    have nil : l ≠ it := fun z => by have q := (hf it (by simp)).1; rw [← z, h1] at q; cases q
    have hi : i < its.toArray.size := by
      have := (List.getElem?_eq_some_iff.mp hu).1
      simpa using this
    refine wpAny_pyNext_enum_itemD (Re.drawsT (A := X.A.in1) (t := l) (I.ok.hd hc) nil) a1 ⟨a2, p1⟩ hi hne (by simp [hne, nel]) fun y h' tk hy o' l' tp sz kp => ?_
    have ey : y = u := by
      have e1 : its.toArray[i]? = some u := by simpa using hu
      rw [e1] at hy
      exact (Option.some.inj hy).symm
    subst ey
    obtain ⟨l', tq⟩ := l'
    have fr : H s.heap.objs.size = none := I.hok.fresh (Nat.le_refl _)
    have n1 : e ≠ s.heap.objs.size := Nat.ne_of_lt (Heap.lt_size a1)
    have n2 : it ≠ s.heap.objs.size := by
      obtain ⟨o2, a2, _⟩ := a2
      exact Nat.ne_of_lt (Heap.lt_size a2)
    refine ⟨_, rfl, wpAny_letOwnedTupleGo_enum o' fun h2 e2 s2 => ?_⟩
    have I1 : Inv X pins σ (upd H s.heap.objs.size (.tup [.int (i : Nat), x])) { s with heap := h2, toks := tk + 1 } := by
      refine I.turnedNew (ch := [e, it]) hf (fun b v hb q => ?_) (Nat.le_refl _) ⟨by show 2 ≤ sizeLine; decide, [.int (i : Nat) tk, y], .cons ⟨_, rfl⟩ (.cons ru .nil), ?_⟩
      · simp only [List.mem_cons, List.not_mem_nil, or_false, not_or] at hb
        exact s2.extBut _ _ hb.1 (kp b v hb.1 hb.2 q)
      · exact ⟨_, s2.extBut _ _ n1.symm tp, rfl, 0, rfl⟩
    refine ⟨.ref s.heap.objs.size, _, I1, rfl, ⟨_, x, fr, fun xs' q => ?_, rfl, rfl⟩, ⟨⟨y, e2⟩, ?_⟩, fun b hb => ?_⟩
    · rw [h1] at q; cases q; exact hx
    · exact l'.extBut s2.extBut hne.symm
    · simp only [List.mem_cons, List.not_mem_nil, or_false] at hb
      rcases hb with rfl | rfl
      · rw [upd_ne n1]; exact (hf _ (by simp)).1
      · rw [upd_ne n2]; exact (hf _ (by simp)).1
  done := by
    intro X hP hw hK hc i pins s σ H E I hf st hg
    subst hP hw hK
    obtain ⟨xs, h1, he⟩ := hg
    obtain ⟨⟨old, a1⟩, a2⟩ := st
    obtain ⟨its, r1, p1, _⟩ := I.tuple (SqT.of h1)
    have l1 := r1.length
    have nel : e ≠ l := fun z => by have q := (hf e (by simp)).1; rw [z, h1] at q; cases q
    have nil : l ≠ it := fun z => by have q := (hf it (by simp)).1; rw [← z, h1] at q; cases q
    have e0 : its.toArray.size = i := by rw [List.size_toArray]; omega
    have D := Re.drawsT (prog := X.prog) (w := X.w) (A := X.A.in1) (t := l) (items := its.toArray) (I.ok.hd hc) nil
    rw [e0] at D
    refine wpAny_pyNext_enum_endD D a1 ⟨a2, p1⟩ fun h' kp => ⟨rfl, I.turnedAll (t' := s.toks) (ch := [e, it]) hf fun b v hb q => ?_⟩
    simp only [List.mem_cons, List.not_mem_nil, or_false, not_or] at hb
    exact kp b v hb.2 q
  self := fun _ _ _ _ _ st h => by
    obtain ⟨⟨old, a1⟩, _⟩ := st
    exact wpAny_pyIter_enum a1 h
def iEnumT (ta : TA) : TI := fun σ H R => ta σ H fun vs H1 => ∃ l xs, vs = [.ref l] ∧ H1 l = some (.tup xs) ∧ R (Iet l) H1
section
variable {X : Cx}
theorem pi_enumT {a : Expr} {elts : List Expr} {x1} {tpos : Pos} {ta : TA} {p pos : Pos} (hg : Gl X "enumerate") (hm : X.mg "enumerate" = none) (ha : PA X [a] ta) (hs : starEach [a] X.env = [(false, eval a X.env)] := by rfl) :
    PI X (.Tuple elts x1 tpos) (.Call (.Name "enumerate" p) [a] [] pos) (iEnumT ta) := by
  intro pins s σ H R I h
  refine Call_ (ld_blt I hg hm boot_enum (PyProof.Rows.callWith_type1 (thn (ha pos pins s σ H _ I h) fun us s1 ⟨vs, H1, I1, r1, q1⟩ => ?_) hs rfl))
  obtain ⟨l, xs, e, h1, q⟩ := q1
  subst e
  obtain ⟨u, rfl, ru⟩ := vals1 r1
  cases (show u = Value.ref l from ru)
  obtain ⟨its, w1, p1, _⟩ := I1.tuple (SqT.of h1)
  refine Re.call_enumT p1 fun h' e1 i1 kp => ?_
  refine wpAny_pyIter_enum (s := { s1 with heap := h' }) e1 ?_
  refine ⟨s1.heap.objs.size + 1, _, _, _, H1, rfl, I1.kept (t' := s1.toks) kp, turn_enumT (by show ¬ (s1.heap.objs.size + 1 = s1.heap.objs.size); omega), ⟨⟨_, e1⟩, i1⟩, fun b hb => ?_, q⟩
  have hb' : s1.heap.objs.size ≤ b := by
    simp only [List.mem_cons, List.not_mem_nil, or_false] at hb
    rcases hb with rfl | rfl <;> omega
  exact I1.fpOk hb' (I1.hok.fresh hb')
def rLstRng : List V → Hp → VK → Prop := fun xs H Q => ∃ r j, xs = [.ref r] ∧ H r = some (.rng 0 j) ∧ -1000 ≤ j ∧ j ≤ 1000 ∧ ∀ t H2, Same H H2 → H t = none → H2 t = some (.lst ((List.range j.toNat).map fun i => V.int (i : Nat))) → Q (.ref t) H2
theorem call_lstRng (hc : X.calm = true) : CallR X (.type "list") rLstRng := by
  intro pins s σ H xs us Q I r h
  obtain ⟨a, j, rfl, ha, h1, h2, q⟩ := h
  obtain ⟨u, rfl, ru⟩ := vals1 r
  cases (show u = Value.ref a from ru)
  obtain ⟨t1, t2, t3, e⟩ := I.hok a _ ha
  have hn : Builtin.Range.rangeSize 0 j 1 = ((j.toNat : Nat) : Int) := by rw [rangeSize_one]; split <;> omega
  refine call_list_range (n := j.toNat) (I.ok.hd hc) (show IsRange s.heap a 0 j 1 t1 t2 t3 from e) (small_one (by omega) (by omega) (by omega) (by omega)) hn (Nat.le_trans (show j.toNat ≤ 1000 by omega) (by decide)) fun h' tk acc c' kp hS hacc => ?_
  have hz : acc.size = j.toNat := hacc.1
  have rv := items_ints hacc
  have hf : H s.heap.objs.size = none := I.hok.fresh (Nat.le_refl _)
  refine ⟨.ref s.heap.objs.size, upd H s.heap.objs.size (.lst ((List.range j.toNat).map fun i => V.int (i : Nat))), I.laid (t' := tk) kp (Nat.le_refl _) ⟨?_, acc.toList, c', rv, by rw [hS]⟩, rfl, q _ _ (same_upd hf) hf upd_same⟩
  rw [List.length_map, List.length_range]
  exact Nat.le_of_lt (Rk.lt_line (by omega))
end
end L2
set_option Elab.async false
set_option linter.all false
set_option maxRecDepth 100000
set_option maxHeartbeats 4000000
namespace Rk
open PySem PySem.Spec PyProof.Rows L2
theorem perm_of_sub {α : Type} [DecidableEq α] : ∀ {L ns : List α}, L.Nodup → (∀ x ∈ L, x ∈ ns) → ns.length = L.length → ns.Perm L
  | [], ns, _, _, hl => by
    have : ns = [] := List.eq_nil_of_length_eq_zero hl
    subst this
    exact .nil
  | a :: L, ns, nd, h, hl => by
    have ha := h a (.head _)
    refine (List.perm_cons_erase ha).trans (.cons a (perm_of_sub (List.nodup_cons.mp nd).2 (fun x hx => ?_) ?_))
    · have ne : x ≠ a := fun z => (List.nodup_cons.mp nd).1 (z ▸ hx)
      exact (List.mem_erase_of_ne ne).mpr (h x (.tail _ hx))
    · rw [List.length_erase_of_mem ha, hl]
      rfl
theorem eq_sorted {α : Type} {r : α → α → Prop} (as : ∀ a b, r a b → r b a → a = b) : ∀ {l m : List α}, l.Perm m → l.Pairwise r → m.Pairwise r → l = m
  | [], m, p, _, _ => by
    have := p.length_eq
    exact (List.eq_nil_of_length_eq_zero this.symm).symm
  | a :: l, [], p, _, _ => by
    have := p.length_eq
    cases this
  | a :: l, b :: m, p, h1, h2 => by
    have e : a = b := by
      rcases List.mem_cons.mp (p.mem_iff.mp (List.mem_cons_self (a := a) (l := l))) with q | q
      · exact q
      · rcases List.mem_cons.mp (p.mem_iff.mpr (List.mem_cons_self (a := b) (l := m))) with z | z
        · exact z.symm
        · exact as a b (List.rel_of_pairwise_cons h1 z) (List.rel_of_pairwise_cons h2 q)
    subst e
    rw [eq_sorted as p.cons_inv h1.of_cons h2.of_cons]
def rangeI (m : Nat) : List Int := (List.range m).map fun (i : Nat) => (i : Int)
theorem rangeI_nodup (m : Nat) : (rangeI m).Nodup := by
  unfold rangeI
  refine List.pairwise_map.mpr (List.Pairwise.imp (R := fun (a b : Nat) => a ≠ b) (fun {a b} h (z : (a : Int) = (b : Int)) => h (by omega)) List.nodup_range)
theorem rangeI_le (m : Nat) : (rangeI m).Pairwise (· ≤ ·) := by
  unfold rangeI
  refine List.pairwise_map.mpr (List.Pairwise.imp (R := fun a b => a < b) (fun h => by omega) List.pairwise_lt_range)
theorem rangeI_len (m : Nat) : (rangeI m).length = m := by
  unfold rangeI
  rw [List.length_map, List.length_range]
theorem mem_rangeI {m : Nat} {i : Int} : i ∈ rangeI m ↔ 0 ≤ i ∧ i < m := by
  unfold rangeI
  rw [List.mem_map]
  constructor
  · rintro ⟨k, hk, rfl⟩
    have := List.mem_range.mp hk
    omega
  · rintro ⟨h0, h1⟩
    exact ⟨i.toNat, List.mem_range.mpr (by omega), by omega⟩
def ordI (m : Nat) (ns : List Int) : Bool := (List.range m).all fun (k : Nat) => decide ((k : Int) ∈ ns)
theorem ordI_iff {m : Nat} {ns : List Int} : ordI m ns = true ↔ ∀ i ∈ rangeI m, i ∈ ns := by
  unfold ordI
  rw [List.all_eq_true]
  constructor
  · intro h i hi
    have := mem_rangeI.mp hi
    have q := of_decide_eq_true (h i.toNat (List.mem_range.mpr (by omega)))
    rwa [show ((i.toNat : Nat) : Int) = i by omega] at q
  · intro h k hk
    exact decide_eq_true (h k (mem_rangeI.mpr ⟨by omega, by have := List.mem_range.mp hk; omega⟩))
theorem ord_perm {m : Nat} {ns : List Int} (hl : ns.length = m) (h : ordI m ns = true) : ns.Perm (rangeI m) := perm_of_sub (rangeI_nodup m) (ordI_iff.mp h) (by rw [rangeI_len, hl])
theorem ord_sorted {m : Nat} {ns ms : List Int} (hl : ns.length = m) (p : ms.Perm ns) (pw : ms.Pairwise (· ≤ ·)) : decide (ms = rangeI m) = ordI m ns := by
  cases h : ordI m ns with
  | true => exact decide_eq_true (eq_sorted (fun a b (h1 : a ≤ b) (h2 : b ≤ a) => Int.le_antisymm h1 h2) (p.trans (ord_perm hl h)) pw (rangeI_le m))
  | false =>
    refine decide_eq_false fun e => ?_
    have : ordI m ns = true := ordI_iff.mpr fun i hi => p.mem_iff.mp (by rw [e]; exact hi)
    rw [h] at this
    cases this
end Rk
set_option Elab.async false
set_option linter.all false
set_option maxRecDepth 100000
set_option maxHeartbeats 4000000
namespace L2
open PySem PySem.Spec PyProof.Rows
section
variable {X : Cx} {pins : List (Addr × Obj)} {σ : St} {H : Hp}
theorem store_then_end {M : List Str} {scope : Scope} {fp : List Addr} {σ' : St} {H3 : Hp} {s3 s' : Shared} {D : Addr} {i : Nat} {y : Str} {py : Pos} {Mo : Model} {A : Around} {E : Value → Shared → Prop} {Q : Value → Shared → Prop}
    (I3 : Inv X pins σ H3 s3) (f3 : ∀ b ∈ fp, FpOk X pins H3 b) (J : Inv (blk X M scope (clOf X.env scope.names []) fp s3 H3 s3.heap.objs.size) [] σ' H s')
    (hN : X.N.Nodup) (hi : X.N[i]? = some y) (hl : X.env.scope.names.lookup y = some .local) (hq : ∀ s2, Inv X pins (σ.set i (some (.ref D))) H s2 → Q .none s2) :
    wpAny Mo A (assign (.Name y py) X.env (.ref D)) (fun _ s2 => ∃ m, s2.heap.Ns s3.heap.objs.size m ∧ ∀ h', Heap.SameBut s3.heap.objs.size s2.heap h' → Q .none { s2 with heap := h' }) E s' := by
  have J0 : Inv X pins σ H s' := blk_end I3 f3 J (Heap.SameBut.refl ..)
  obtain ⟨m, hn, _⟩ := J.loc
  have hC : H s3.heap.objs.size = none := J.free
  have lt : X.env.locals < s3.heap.objs.size := I3.lt
  refine wpAny_assign_Name (store_ok2 J0 hN hi (Or.inl hl) (show RelV (.ref D) (.ref D) from rfl) (fun s2 J2 ⟨a, sb, ha⟩ => ?_) (.inr hl))
  have ea : a = X.env.locals ∨ X.env.cells.lookup y = some a := ha
  have na : s3.heap.objs.size ≠ a := by
    rcases ea with z | z
    · rw [z]; exact Nat.ne_of_gt lt
    · obtain ⟨v, o, ho, _⟩ := I3.cell y a z
      exact Nat.ne_of_gt (Heap.lt_size ho)
  refine ⟨m, hn.sameBut sb na, fun h' hs => hq _ ?_⟩
  refine J2.turned (t' := s2.toks) (it := s3.heap.objs.size) (fun b o hb e => hs.extBut b o hb e) hC (Nat.ne_of_gt lt) (.inr I3.sz) (fun x c e z => ?_) fun p hp z => ?_
  · obtain ⟨v, o, ho, _⟩ := I3.cell x c e
    exact absurd (z ▸ Heap.lt_size ho) (Nat.lt_irrefl _)
  · have e := (I3.pin p hp).1
    exact absurd (z ▸ Heap.lt_size e) (Nat.lt_irrefl _)
end
theorem ps_lcomp {X : Cx} {M : List Str} {cap : List (Option Nat)} {elt tg iter : Expr} {ifs : List Expr} {scope : Scope} {pos : Pos} {wi : TI} {g : TG} {tc : TT} {te : TE} {i : Nat} {y : Str} {py spos : Pos} (hN : X.N.Nodup) (hiy : X.N[i]? = some y) (hly : X.env.scope.names.lookup y = some .local) (hc : X.calm = true) (ok : capOk X.N X.env.scope M scope cap = true)
    (hi : PI X tg iter wi) (hb : ∀ cl ex s3 H3 C, PG (blk X M scope cl ex s3 H3 C) tg g ∧ PTs (blk X M scope cl ex s3 H3 C) ifs tc ∧ PE (blk X M scope cl ex s3 H3 C) elt te)
    (hs : ∀ x, foldedSetIterable iter X.env x = pure x := by intro _; rfl)  (hsw : swapsWith (.ListComp elt [⟨tg, iter, ifs, 0⟩] scope pos) (some (.Name y py)) spos.line X.env = pure true := by rfl) : PS X (.Assign [.Name y py] (.ListComp elt [⟨tg, iter, ifs, 0⟩] scope pos) spos) (tAsg (tComp cap wi g tc te) (gName i)) := by
  intro pins s σ H D I h
  have c := CapOk.of ok
  rw [exec_Assign_Name_used _ _ _ _ hsw]
  refine wpAny_bind (wpAny_standAt (wpAny_bind ?_))
  show wpAny _ X.A (do let _ ← comprehension (.ListComp elt [⟨tg, iter, ifs, 0⟩] scope pos) scope X.env _ (newList []) false (eval iter X.env) (some (assign (.Name y py) X.env))) _ _ s
  refine wpAny_bind (wpAny_mono (wpAny_comprehension_free (use := some (assign (.Name y py) X.env)) (Q := fun _ s' => SP X pins D .next s') rfl hs (clos_eq (I.ok.cells c)) c.kind c.loc ?_) (fun _ s' hq => wpAny_pure (wpAny_pure hq)) fun _ _ e => e)
  refine thn (hi pins s σ H _ I h) fun v s1 h1 => thn h1 fun itv s2 h2 => ?_
  obtain ⟨it, fp, tn, J, H2, e, I2, T, st2, f2, hW⟩ := h2
  subst e
  refine wpAny_newObj_type (wpAny_newFunctionEnv c.cell (by intro y hy; simp at hy) (fun h₁ hns₁ hsb₁ => ?_) c.kind)
  have I3 : Inv X pins σ (upd H2 s2.heap.objs.size (.lst [])) { s2 with heap := s2.heap.push { cls := .type "list", data := .seq ([] : List Value).toArray } } := I2.lnew (t' := s2.toks) (ys := []) .nil (Nat.zero_le _)
  have lt2 : ∀ b ∈ fp, b < s2.heap.objs.size := fun b hb => by obtain ⟨o, e, _⟩ := T.obj _ _ st2 b hb; exact Heap.lt_size e
  have f3 : ∀ b ∈ fp, FpOk X pins (upd H2 s2.heap.objs.size (.lst [])) b := fun b hb => (f2 b hb).upd (Nat.ne_of_lt (lt2 b hb))
  generalize hs3 : ({ s2 with heap := s2.heap.push { cls := .type "list", data := .seq ([] : List Value).toArray } } : Shared) = s3 at I3
  have e3 : s3.heap = s2.heap.push { cls := .type "list", data := .seq ([] : List Value).toArray } := by rw [← hs3]
  have z3 : s3.heap.objs.size = s2.heap.objs.size + 1 := by rw [e3, Heap.size_push]
  have hk : ∀ b o, s3.heap.get? b = some o → h₁.get? b = some o := fun b o e => hsb₁.extBut b o (by
    have := Heap.lt_size e
    rw [e3] at this
    exact Nat.ne_of_lt this) (Heap.get?_push_of_some _ (e3 ▸ e))
  have hn₁ : h₁.Ns s3.heap.objs.size fun _ => none := by rw [e3]; exact hns₁
  have B := blk_start (t4 := s3.toks + ([] : List (Str × Value)).length) (fp := fp) I3 c f3 (fun b hb => by rw [z3]; exact Nat.lt_succ_of_lt (lt2 b hb)) hn₁ hk
  have st4 : tn 0 h₁ := T.keep _ _ _ st2 fun b hb o e => hk b o (by rw [e3]; exact Heap.get?_push_of_some _ e)
  have fp4 : ∀ b ∈ fp, FpOk (blk X M scope (clOf X.env scope.names []) fp s3 (upd H2 s2.heap.objs.size (.lst [])) s3.heap.objs.size) [] (upd H2 s2.heap.objs.size (.lst [])) b := fun b hb => by
    refine ⟨(f3 b hb).1, (B.ok.exf b hb).1, B.ok.exfs b hb, .inl hb, (B.ok.exf b hb).2, fun p hp => (nomatch hp)⟩
  obtain ⟨hg, ht, he⟩ := hb (clOf X.env scope.names []) fp s3 (upd H2 s2.heap.objs.size (.lst [])) s3.heap.objs.size
  have loop : codeAny (model X.prog X.w) X.A (.compLoop (.ListComp elt [⟨tg, iter, ifs, 0⟩] scope pos) 0 (.ref it) (.ref s2.heap.objs.size) (compEnvC scope (clOf X.env scope.names []) s3.heap.objs.size X.env))
      (compPost (model X.prog X.w) X.A X.xe (some (assign (.Name y py) X.env)) (fun _ s' => SP X pins D .next s') (.ref s2.heap.objs.size) s3.heap.objs.size) { s3 with heap := h₁, toks := s3.toks + ([] : List (Str × Value)).length } := by
    refine comp_loop (Y := blk X M scope (clOf X.env scope.names []) fp s3 (upd H2 s2.heap.objs.size (.lst [])) s3.heap.objs.size) (gens := [⟨tg, iter, ifs, 0⟩]) (d := 0) hc T st4 fp4
      (fun Q E s h => turn_one Q E s h) (fun x u r => body_of rfl hg ht (fun σ4 => body_elt rfl he) x u r) B (hW _ (I2.hok.fresh (Nat.le_refl _))) fun s' H' I' q => ?_
    exact store_then_end (Q := fun _ s' => SP X pins D .next s') I3 f3 I' hN hiy hly fun s2' J2 => ⟨_, H', J2, q⟩
  exact codeAny_compStart_list loop (T.self _ 0 _ _ _ st4 loop)
theorem ps_lcomp2 {X : Cx} {M : List Str} {cap : List (Option Nat)} {elt tg iter tg2 iter2 : Expr} {ifs ifs2 : List Expr} {scope : Scope} {pos : Pos} {wi wi2 : TI} {g g2 : TG} {tc tc2 : TT} {te : TE} {i : Nat} {y : Str} {py spos : Pos} (hN : X.N.Nodup) (hiy : X.N[i]? = some y) (hly : X.env.scope.names.lookup y = some .local) (hc : X.calm = true) (ok : capOk X.N X.env.scope M scope cap = true)
    (hi : PI X tg iter wi) (hb : ∀ cl ex s3 H3 C, PG (blk X M scope cl ex s3 H3 C) tg g ∧ PTs (blk X M scope cl ex s3 H3 C) ifs tc ∧ PI (blk X M scope cl ex s3 H3 C) tg2 iter2 wi2 ∧ PG (blk X M scope cl ex s3 H3 C) tg2 g2 ∧ PTs (blk X M scope cl ex s3 H3 C) ifs2 tc2 ∧ PE (blk X M scope cl ex s3 H3 C) elt te)
    (hs : ∀ x, foldedSetIterable iter X.env x = pure x := by intro _; rfl) (hs2 : ∀ env x, foldedSetIterable iter2 env x = pure x := by intro _ _; rfl)  (hsw : swapsWith (.ListComp elt [⟨tg, iter, ifs, 0⟩, ⟨tg2, iter2, ifs2, 0⟩] scope pos) (some (.Name y py)) spos.line X.env = pure true := by rfl) : PS X (.Assign [.Name y py] (.ListComp elt [⟨tg, iter, ifs, 0⟩, ⟨tg2, iter2, ifs2, 0⟩] scope pos) spos) (tAsg (tComp2 cap wi g tc wi2 g2 tc2 te) (gName i)) := by
  intro pins s σ H D I h
  have c := CapOk.of ok
  rw [exec_Assign_Name_used _ _ _ _ hsw]
  refine wpAny_bind (wpAny_standAt (wpAny_bind ?_))
  show wpAny _ X.A (do let _ ← comprehension (.ListComp elt [⟨tg, iter, ifs, 0⟩, ⟨tg2, iter2, ifs2, 0⟩] scope pos) scope X.env _ (newList []) false (eval iter X.env) (some (assign (.Name y py) X.env))) _ _ s
  refine wpAny_bind (wpAny_mono (wpAny_comprehension_free (use := some (assign (.Name y py) X.env)) (Q := fun _ s' => SP X pins D .next s') rfl hs (clos_eq (I.ok.cells c)) c.kind c.loc ?_) (fun _ s' hq => wpAny_pure (wpAny_pure hq)) fun _ _ e => e)
  refine thn (hi pins s σ H _ I h) fun v s1 h1 => thn h1 fun itv s2 h2 => ?_
  obtain ⟨it, fp, tn, J, H2, e, I2, T, st2, f2, hW⟩ := h2
  subst e
  refine wpAny_newObj_type (wpAny_newFunctionEnv c.cell (by intro y hy; simp at hy) (fun h₁ hns₁ hsb₁ => ?_) c.kind)
  have I3 : Inv X pins σ (upd H2 s2.heap.objs.size (.lst [])) { s2 with heap := s2.heap.push { cls := .type "list", data := .seq ([] : List Value).toArray } } := I2.lnew (t' := s2.toks) (ys := []) .nil (Nat.zero_le _)
  have lt2 : ∀ b ∈ fp, b < s2.heap.objs.size := fun b hb => by obtain ⟨o, e, _⟩ := T.obj _ _ st2 b hb; exact Heap.lt_size e
  have f3 : ∀ b ∈ fp, FpOk X pins (upd H2 s2.heap.objs.size (.lst [])) b := fun b hb => (f2 b hb).upd (Nat.ne_of_lt (lt2 b hb))
  generalize hs3 : ({ s2 with heap := s2.heap.push { cls := .type "list", data := .seq ([] : List Value).toArray } } : Shared) = s3 at I3
  have e3 : s3.heap = s2.heap.push { cls := .type "list", data := .seq ([] : List Value).toArray } := by rw [← hs3]
  have z3 : s3.heap.objs.size = s2.heap.objs.size + 1 := by rw [e3, Heap.size_push]
  have hk : ∀ b o, s3.heap.get? b = some o → h₁.get? b = some o := fun b o e => hsb₁.extBut b o (by
    have := Heap.lt_size e
    rw [e3] at this
    exact Nat.ne_of_lt this) (Heap.get?_push_of_some _ (e3 ▸ e))
  have hn₁ : h₁.Ns s3.heap.objs.size fun _ => none := by rw [e3]; exact hns₁
  have B := blk_start (t4 := s3.toks + ([] : List (Str × Value)).length) (fp := fp) I3 c f3 (fun b hb => by rw [z3]; exact Nat.lt_succ_of_lt (lt2 b hb)) hn₁ hk
  have st4 : tn 0 h₁ := T.keep _ _ _ st2 fun b hb o e => hk b o (by rw [e3]; exact Heap.get?_push_of_some _ e)
  have fp4 : ∀ b ∈ fp, FpOk (blk X M scope (clOf X.env scope.names []) fp s3 (upd H2 s2.heap.objs.size (.lst [])) s3.heap.objs.size) [] (upd H2 s2.heap.objs.size (.lst [])) b := fun b hb => by
    refine ⟨(f3 b hb).1, (B.ok.exf b hb).1, B.ok.exfs b hb, .inl hb, (B.ok.exf b hb).2, fun p hp => (nomatch hp)⟩
  obtain ⟨hg, ht, hi2, hg2, ht2, he⟩ := hb (clOf X.env scope.names []) fp s3 (upd H2 s2.heap.objs.size (.lst [])) s3.heap.objs.size
  have loop : codeAny (model X.prog X.w) X.A (.compLoop (.ListComp elt [⟨tg, iter, ifs, 0⟩, ⟨tg2, iter2, ifs2, 0⟩] scope pos) 0 (.ref it) (.ref s2.heap.objs.size) (compEnvC scope (clOf X.env scope.names []) s3.heap.objs.size X.env))
      (compPost (model X.prog X.w) X.A X.xe (some (assign (.Name y py) X.env)) (fun _ s' => SP X pins D .next s') (.ref s2.heap.objs.size) s3.heap.objs.size) { s3 with heap := h₁, toks := s3.toks + ([] : List (Str × Value)).length } := by
    refine comp_loop (Y := blk X M scope (clOf X.env scope.names []) fp s3 (upd H2 s2.heap.objs.size (.lst [])) s3.heap.objs.size) (gens := [⟨tg, iter, ifs, 0⟩, ⟨tg2, iter2, ifs2, 0⟩]) (d := 0) hc T st4 fp4
      (fun Q E s h => turn_first (hs2 _) Q E s h) (fun x u r => body_of rfl hg ht (fun σ4 => body_nest rfl hc hi2 hg2 ht2 he) x u r) B (hW _ (I2.hok.fresh (Nat.le_refl _))) fun s' H' I' q => ?_
    exact store_then_end (Q := fun _ s' => SP X pins D .next s') I3 f3 I' hN hiy hly fun s2' J2 => ⟨_, H', J2, q⟩
  exact codeAny_compStart_list loop (T.self _ 0 _ _ _ st4 loop)
end L2
set_option Elab.async false
set_option linter.all false
set_option maxRecDepth 100000
set_option maxHeartbeats 4000000
namespace Rk
open PySem PySem.Spec PyProof.Rows L2 _root_.Rd
theorem Cs.get {p : Addr} {H : Hp} : ∀ {ps : List V} {L : List (Int × Int)}, Cs p H ps L → ∀ (i : Nat) (x : V), ps[i]? = some x → ∃ ij, L[i]? = some ij ∧ ∃ d, d ≠ p ∧ x = .ref d ∧ H d = some (.tup [.int ij.1, .int ij.2])
  | _, _, .nil, i, x, e => by simp at e
  | _, _, .cons r t, 0, x, e => by simp at e; subst e; exact ⟨_, rfl, r⟩
  | _, _, .cons r t, i + 1, x, e => by
    obtain ⟨ij, h1, h2⟩ := Cs.get t i x (by simpa using e)
    exact ⟨ij, by simpa using h1, h2⟩
section
variable {X : Cx}
def rNeD (X : Cx) : R2 := fun x y H Q => ∃ dx dy, Dat H x dx ∧ Dat H y dy ∧ X.A.units + min dx.depth dy.depth < cLine ∧ Q (.bl (!PyData.eqv dx dy)) H
theorem op_neD : OpR X (compareOp .NotEq) (rNeD X) := by
  intro pins s σ H x y v u Q I rx ry h
  obtain ⟨dx, dy, qx, qy, hu, q⟩ := h
  obtain ⟨⟨as, ra⟩, ca⟩ := dat_reads I.hok dx x v qx rx
  obtain ⟨⟨bs, rb⟩, cb⟩ := dat_reads I.hok dy y u qy ry
  exact SeqAt.compareNe_reads ra rb ca cb hu ⟨.bl _, H, I, rfl, q⟩
end
end Rk
set_option Elab.async false
set_option linter.all false
set_option maxRecDepth 100000
set_option maxHeartbeats 4000000
namespace Rk
open PySem PySem.Spec PyProof.Rows L2 _root_.Rd
theorem ne_lt {H : Hp} {a p : Addr} {xs ys : List V} (h : H a = some (.tup xs)) (k : H p = some (.lst ys)) : a ≠ p := fun z => by rw [z, k] at h; cases h
theorem cut_le {xs : List V} {lo hi : Option Int} {n : Nat} (h : xs.length ≤ n) : (cutV xs lo hi).length ≤ n := Nat.le_trans (cutV_length xs lo hi) h
theorem Cs.app {p : Addr} {H : Hp} : ∀ {ps qs : List V} {L M : List (Int × Int)}, Cs p H ps L → Cs p H qs M → Cs p H (ps ++ qs) (L ++ M)
  | _, _, _, _, .nil, h => h
  | _, _, _, _, .cons r t, h => .cons r (Cs.app t h)
theorem filterMap_filter {α : Type} (M : List α) (d : α) (P : α → Bool) : (List.range M.length).filterMap (fun i => if P (M.getD i d) = true then some (M.getD i d) else none) = M.filter P := by
  conv => rhs; rw [← range_getD M d]
  rw [List.filter_map, ← List.filterMap_eq_filter, List.map_filterMap]
  refine congrArg (fun g => List.filterMap g (List.range M.length)) (funext fun i => ?_)
  show _ = Option.map _ (Option.guard _ i)
  unfold Option.guard
  by_cases q : P (M.getD i d) = true
  · rw [if_pos q, if_pos (by simpa using q)]; rfl
  · rw [if_neg q, if_neg (by simpa using q)]; rfl
end Rk
set_option Elab.async false
set_option linter.all false
set_option maxRecDepth 100000
set_option maxHeartbeats 4000000
namespace Rk
open PySem PySem.Spec PyProof.Rows L2
theorem bt_ve : bootBuiltins "ValueError" = some (.type "ValueError") := by decide +kernel
def strsOf : List Expr → Option (List Str)
  | [] => some []
  | .Constant (.str x) _ _ :: es => (strsOf es).map (x :: ·)
  | _ :: _ => none
theorem pa_strs {X : Cx} : ∀ {es : List Expr} {ws : List Str}, strsOf es = some ws → PA X es (fun _ H Q => Q (ws.map V.str) H)
  | [], ws, h => by cases h; exact pa_nil
  | e :: es, ws, h => by
    unfold strsOf at h
    split at h
    · rename_i e2; cases e2
    · rename_i e2
      cases e2
      obtain ⟨vs, hv, rfl⟩ := Option.map_eq_some_iff.mp h
      exact pa_mono (pa_c pe_str (pa_strs hv)) fun σ H Q q => q
    · cases h
def isxOf (x : Str) : List Expr → Option (List Str)
  | [] => some []
  | .Call (.Name f _) [.Name y _, .Name n _] [] _ :: es => if f = "isinstance" ∧ y = x then (isxOf x es).map (n :: ·) else none
  | _ :: _ => none
def tIsx (K : PySem.W.Frag) (cs : List Addr) : TA := fun σ H Q => ∃ (a C : Addr) (bs : List Bool), σ[0]? = some (some (.ref a)) ∧ H a = some (Rx.exO a C) ∧ Rx.ExC K C ∧ Paired (fun c b => PySem.W.kitOne K (.ref C) (.ref c) = some b) cs bs ∧ Q (bs.map V.bl) H
theorem pa_isx {X : Cx} {x : Str} (hN : X.N[0]? = some x) (hv : Vis X.env.scope x) (hd : (x == ("__debug__" : Str)) = false) (hcd : (x == ("__classdict__" : Str)) = false) (hg : Gl X "isinstance") (hm : X.mg "isinstance" = none) :
    ∀ {es : List Expr} {ns : List Str} {cs : List Addr}, isxOf x es = some ns → (ns.all fun n => (X.env.kindOf n == some .globalImplicit) && !(n == ("__debug__" : Str))) = true → Paired (fun n c => X.mg n = some (.ref c)) ns cs → PA X es (tIsx X.K cs)
  | [], ns, cs, h, _, p => by
    cases h
    cases p
    exact pa_mono pa_nil fun σ H Q ⟨a, C, bs, _, _, _, pb, q⟩ => by cases pb; exact q
  | e :: es, ns, cs, h, g, p => by
    unfold isxOf at h
    split at h
    · rename_i e2; cases e2
    · rename_i f pf y py n pn pc es' e2
      cases e2
      split at h
      · rename_i hc
        obtain ⟨rfl, rfl⟩ := hc
        obtain ⟨ns', hns, rfl⟩ := Option.map_eq_some_iff.mp h
        cases p with
        | @cons _ c _ cs' p1 p2 =>
        rw [List.all_cons, Bool.and_eq_true, Bool.and_eq_true] at g
        have g1 : Gl X n := beq_iff_eq.mp g.1.1
        have g2 : (n == ("__debug__" : Str)) = false := by
          have := g.1.2
          cases q : (n == ("__debug__" : Str)) with
          | false => rfl
          | true => rw [q] at this; cases this
        have one : PE X (.Call (.Name "isinstance" pf) [.Name y py, .Name n pn] [] pc) _ := pe_callB Rx.call_isEx hg hm bt_isinstance (pa_c (pe_var hN hv hd hcd) (pa_c (pe_glob (v := .ref c) g1 p1 rfl g2) pa_nil rfl) rfl)
        refine pa_mono (pa_c one (pa_isx hN hv hd hcd hg hm hns g.2 p2) rfl) fun σ H Q ⟨a, C, bs, h0, ha, hc, pb, q⟩ => ?_
        cases pb with
        | @cons _ b _ bs' q1 q2 => exact ⟨_, h0, a, C, .ref c, .ref c, b, rfl, ha, hc, (fun u r => r), q1, a, C, bs', h0, ha, hc, q2, q⟩
      · cases h
    · cases h
theorem paired_cons {α β : Type} {F : α → β → Prop} {a : α} {l : List α} {bs : List β} (h : Paired F (a :: l) bs) : ∃ b bs', bs = b :: bs' ∧ F a b ∧ Paired F l bs' := by
  cases h with
  | cons r t => exact ⟨_, _, rfl, r, t⟩
theorem paired_nil {α β : Type} {F : α → β → Prop} {bs : List β} (h : Paired F [] bs) : bs = [] := by
  cases h
  rfl
end Rk
set_option Elab.async false
set_option linter.all false
set_option maxRecDepth 100000
set_option maxHeartbeats 4000000
namespace Rx
open PySem PySem.Spec PySem.Calls PyProof.Rows L2
section
variable {X : Cx} {E : XK}
theorem passE (hxe : ∀ e s1, wpAny (model X.prog X.w) X.A (leaving X.env e) (fun _ s2 => CXE X.prog X.w X.outer X.H₀ X.s₀ E e s2) (fun e' s2 => CXE X.prog X.w X.outer X.H₀ X.s₀ E e' s2) s1 → X.xe e s1)
    (hstk : X.stack = X.env :: X.outer) (hfr : X.env.frame = some X.env.locals) (hex : X.ex = []) : Passes (CXE X.prog X.w) X E := by
  intro pins σ H s e s' I h
  obtain ⟨C, H', ⟨a, t, B, rfl, os, bare, fl, fa, fH, land⟩, q⟩ := h
  refine hxe _ _ ?_
  have fl2 := fl
  rw [hstk] at fl2
  have fr : X.A.frames = some (X.env :: X.outer) := by rw [← hstk]; exact I.ok.frames
  refine wpAny_leaves_onW fr hfr fl2 fun h' fl' up => ⟨C, H', ⟨a, t, B, rfl, os.trans I.os, bare, fl', ?_, fH, fun h2 st up2 => ?_⟩, q⟩
  · cases z : X.s₀.heap.get? a with
    | none => rfl
    | some o =>
      obtain ⟨o', e'⟩ := I.base.there a o z (by rw [hex]; simp)
      rw [fa] at e'; cases e'
  · obtain ⟨un, hok⟩ := land h2 st (up.trans up2)
    have J := I.call' (s' := { s' with heap := h2 }) (ch := []) os un hok bare (fun b z => absurd z (by simp))
    have hb := J.base
    rw [hex] at hb
    exact ⟨hb, hok⟩
end
def MayF (X : Cx) (f : Addr) (sp : Sp) : Prop := ∃ k fd ps, FnOk X.prog X.w X.K X.mg X.base (CXE X.prog X.w) k f fd ps sp ∧ Room k X.A ∧ PySem.W.keepIn X.K (.ref f) = true ∧ Binds X.K fd ps []
def tCallFX (M : Addr → Sp → Prop) (tf : TE) (t : TA) : TX := fun σ H Q Ex => tf σ H fun v H0 => ∃ f sp, v = .ref f ∧ M f sp ∧ t σ H0 fun vs H1 => sp vs H1 Q fun cv _ H2 => ∃ C, cv = .ref C ∧ Ex C H2
section
variable {X : Cx} {tf : TE} {fe : Expr} {pos : Pos} {e : Expr} {es : List Expr} {t : TA} {M : Addr → Sp → Prop}
theorem pex_callF (hM : ∀ f sp, M f sp → MayF X f sp) (hf : PE X.nox fe tf) (hex : X.ex = [])
    (ha : PA X.nox (e :: es) t) (hfe : eval (.Call fe (e :: es) [] pos) X.env = (do callWith pos (← eval fe X.env) [] (backTo pos (starEach (e :: es) X.env)) (backToKw pos (keywordEach [] X.env))) := by rfl)
    (he : starEach (e :: es) X.env = (false, eval e X.env) :: starEach es X.env := by rfl) (hpl : (backTo pos (starEach es X.env)).any (·.1) = false := by rfl) :
    PEX X (.Call fe (e :: es) [] pos) (tCallFX M tf t) := by
  intro pins s σ H Q Ex I h
  rw [hfe]
  refine wpAny_bind (wpAny_mono (hf pins s σ H _ (I.wish _) h) (fun v s0 ⟨x, H0, J0, r0, q0⟩ => ?_) fun _ _ z => False.elim z)
  obtain ⟨f, sp, rfl, mf, q0⟩ := q0
  obtain ⟨k, fd, ps, F, hr, hk, hb⟩ := hM f sp mf
  cases (show v = Value.ref f from r0)
  have I0 : Inv X pins σ H0 s0 := J0.unwish
  refine PySem.W.callWith_K (h₀ := X.base) I.ok.mod.kin hk (wpAny_mono (ha pos pins s0 σ H0 _ (I0.wish _) q0) (fun us s1 ⟨vs, H1, J1, r, q⟩ => ?_) fun _ _ z => False.elim z) he hpl
  have I1 : Inv X pins σ H1 s1 := J1.unwish
  refine ⟨I1.kIn, ?_⟩
  have hl : us.length = ps.length := by rw [← r.length]; exact F.len _ _ _ _ q
  have hbb : BindsTo s1 fd ⟨us, []⟩ (ps.zip us) := by
    have z := hb s1 us I1.kIn (by rw [List.append_nil]; exact hl)
    rw [List.append_nil] at z
    exact z
  refine wpAny_call (codeAny_mono (F.run X.A X.stack s1 H1 ⟨us, []⟩ us vs Q _ hr I1.env0 hbb r q) fun r s2 hq => ?_)
  cases r with
  | error e =>
    obtain ⟨C0, H2, ⟨a, t', B, rfl, os, bare, fl, fa, fH, land⟩, C, eC, ex⟩ := hq
    cases eC
    refine ⟨σ, C0, H2, a, t', B, rfl, fl, fH, ?_, fun p hp z => ?_, fun h2 tk st up => ?_, rfl, ex⟩
    · cases z : X.s₀.heap.get? a with
      | none => rfl
      | some o =>
        obtain ⟨o', e'⟩ := I1.base.there a o z (by rw [hex]; simp)
        rw [fa] at e'; cases e'
    · have e' := (I1.pin p hp).1
      rw [z, fa] at e'; cases e'
    · obtain ⟨un, hok⟩ := land h2 st up
      exact I1.call' (s' := { s2 with heap := h2, toks := tk }) (ch := []) os un hok bare (fun b z => absurd z (by simp))
  | ok fl =>
    cases fl with
    | ret u => exact I1.after hq
    | next => exact False.elim hq
    | brk => exact False.elim hq
    | cont => exact False.elim hq
end
end Rx
set_option Elab.async false
set_option linter.all false
set_option maxRecDepth 100000
set_option maxHeartbeats 4000000
namespace Rk
open PySem PySem.Spec PyProof.Rows L2 _root_.Rd
structure GlbA (mg : Str → Option Value) : Prop where
  isinstance : mg "isinstance" = none
  int : mg "int" = none
  bool : mg "bool" = none
  str : mg "str" = none
  tuple : mg "tuple" = none
  list : mg "list" = none
  all : mg "all" = none
  len : mg "len" = none
  zip : mg "zip" = none
  enumerate : mg "enumerate" = none
  range : mg "range" = none
  max : mg "max" = none
  min : mg "min" = none
  sorted : mg "sorted" = none
  sum : mg "sum" = none
  set : mg "set" = none
  any : mg "any" = none
  reversed : mg "reversed" = none
  divmod : mg "divmod" = none
def rInU (u : Nat) (neg : Bool) : R2 := fun x y H Q => ∃ c ps ds d, y = .ref c ∧ H c = some (.tup ps) ∧ Dats H ps ds ∧ Dat H x d ∧ u + d.depth < cLine ∧ Q (.bl (if neg then !(ds.any fun e => PyData.eqv e d) else ds.any fun e => PyData.eqv e d)) H
theorem op_inU {X : Cx} : OpR X (compareOp .In) (rInU X.A.in1.units false) := op_inD
theorem getD_ints {rs : List Int} {i : Nat} {x : V} (h : (rs.map V.int)[i]? = some x) : x = .int (rs.getD i 0) := by
  rw [List.getElem?_map] at h
  rw [List.getD_eq_getElem?_getD]
  cases e : rs[i]? with
  | none => rw [e] at h; cases h
  | some a => rw [e] at h; cases h; rfl
end Rk
namespace Rx
open PySem PySem.Spec PySem.Calls PyProof.Rows L2
section
variable {P : Program} {w : World} {K : PySem.W.Frag} {mg : Str → Option Value} {base : Heap}
theorem okE {x qual : Str} {st : Stmt} {f : Addr} {fd : FuncData} {N ps : List Str} {k : Nat} {sp : Sp} (F : Fun K x qual st f fd) (S : FnScope N ps (defScope st)) (len : ∀ vs H Q E, sp vs H Q E → vs.length = ps.length)
    (hbody : ∀ (cdv : Value) (A : Around) (outer : List Env) (s : Shared) (H : Hp) (vs : List V) (Q : VK) (E : XK), Room k (A.deeper (envOfC qual (defScope st) s.heap.objs.size f cdv)) → sp vs H Q E →
      ∃ t, PSs (cxOf (CXE P w) P w K mg base N qual (defScope st) f cdv A outer s H E) (defBody st) t ∧ t { nx := fun _ H' => Q .non H', rt := Q } (start N vs) H) : FnOk P w K mg base (CXE P w) (k + 1) f fd ps sp := by
  obtain ⟨oc, od, kV, doc, pm, an, cdv, ct, osl, rfl, lk, hcd⟩ := F.ex
  exact fn_of lk hcd S len fun A outer s H vs Q E hr hsp => hbody cdv A outer s H vs Q E hr hsp
end
end Rx
set_option Elab.async false
set_option linter.all false
set_option maxRecDepth 100000
set_option maxHeartbeats 4000000
namespace Rk
open PySem PySem.Spec PyProof.Rows L2 _root_.Rd
def FinV (is js : List Nat) (p : Addr) (σ : L2.St) (H : Hp) : Prop := (∃ o, H p = some o) ∧ (∀ i ∈ is, ∃ v, σ[i]? = some (some v) ∧ FineA p H v) ∧ ∀ j ∈ js, ∃ k, σ[j]? = some (some (.int k))
theorem FinV.same {is js : List Nat} {p : Addr} {σ : L2.St} {H H' : Hp} (h : FinV is js p σ H) (s : Same H H') : FinV is js p σ H' := by
  obtain ⟨⟨o, ho⟩, h1, h2⟩ := h
  refine ⟨⟨o, s _ _ ho⟩, fun i hi => ?_, h2⟩
  obtain ⟨v, e, f⟩ := h1 i hi
  exact ⟨v, e, f.keep (KX.of s)⟩
section
variable {X : Cx} {is js : List Nat}
end
end Rk
set_option Elab.async false
set_option linter.all false
set_option maxRecDepth 100000
set_option maxHeartbeats 4000000
namespace L2
open PySem PySem.Spec PyProof.Rows
section
variable {prog : Program} {w : World} {A : Around} {E : Value → Shared → Prop} {s : Shared}
end
section
variable {X : Cx}
end
end L2
set_option Elab.async false
set_option linter.all false
set_option maxRecDepth 100000
set_option maxHeartbeats 4000000
namespace L2
open PySem PySem.Spec PyProof.Rows
def rLenK (K : PySem.W.Frag) : List V → Hp → VK → Prop := fun xs H Q => ∃ p ys, xs = [.ref p] ∧ (SqL K H p ys ∨ SqT K H p ys) ∧ Q (.int ys.length) H
theorem bt_sum : bootBuiltins "sum" = some (.builtin "sum") := by decide +kernel
theorem bt_divmod : bootBuiltins "divmod" = some (.builtin "divmod") := by decide +kernel
def rSumI (K : PySem.W.Frag) : List V → Hp → VK → Prop := fun xs H Q => ∃ (p : Addr) (ns : List Int), xs = [.ref p] ∧ SqL K H p (ns.map V.int) ∧ Q (.int ns.sum) H
def CMulB (i j : Int) : Prop := ∃ k : Nat, k ≤ 1000000 ∧ i.natAbs < 2 ^ k ∧ j.natAbs < 2 ^ k
theorem bits_le {i : Int} {k : Nat} (h : i.natAbs < 2 ^ k) : Builtin.Int.intBits i ≤ k := by
  unfold Builtin.Int.intBits
  split
  · exact Nat.zero_le _
  · rename_i z
    have hz : i.natAbs ≠ 0 := by
      intro q
      apply z
      have : i = 0 := by omega
      subst this
      rfl
    have := (Nat.log2_lt hz).mpr h
    omega
theorem CMulB.ok {i j : Int} (h : CMulB i j) : IntMulOk i j := by
  obtain ⟨k, hk, h1, h2⟩ := h
  have a := bits_le h1
  have b := bits_le h2
  unfold IntMulOk
  have c : Builtin.Int.intTooBig (Builtin.Int.intBits i + Builtin.Int.intBits j : Nat) = false := by
    unfold Builtin.Int.intTooBig
    rw [decide_eq_false]
    have : bitsLine = 134217728 := by decide +kernel
    rw [this]
    omega
  intro z
  rw [Bool.and_eq_true] at z
  have z2 := z.2
  have e : ((Builtin.Int.intBits i + Builtin.Int.intBits j : Nat) : Int) = (Builtin.Int.intBits i : Int) + (Builtin.Int.intBits j : Int) := by omega
  rw [e] at c
  rw [c] at z2
  cases z2
section
variable {X : Cx}
theorem get_list : PGet X (rIxL X.K) := by
  intro pins s σ H o i ov iv Q I ro ri h
  obtain ⟨p, xs, k, z, rfl, rfl, hq, he, q⟩ := h
  cases ro
  obtain ⟨t, rfl⟩ := ri
  obtain ⟨its, r, pl, hz⟩ := I.list hq
  obtain ⟨j, h1, h2, h3, h4, h5⟩ := atI_get he
  obtain ⟨w, ew, rw'⟩ := r.get h2
  have hl := r.length
  have hn := line63
  have fin : EP X pins σ Q w s := ⟨z, H, I, rw', q⟩
  by_cases h0 : 0 ≤ k
  · have hj : k.toNat = j := by
      rw [seqIndex_of h0 h5] at h1
      exact Option.some.inj h1
    exact wpAny_getItem_list pl.isList h0 (by omega) (by rw [hj]; simpa using ew) fin
  · have hj : (k + (its.toArray.size : Int)).toNat = j := by
      rw [seqIndex_neg (by omega) h4] at h1
      rw [List.size_toArray, ← hl]
      exact Option.some.inj h1
    exact wpAny_getItem_list_neg pl.isList (by omega) (by rw [List.size_toArray] <;> omega) (by omega) (by rw [hj]; simpa using ew) fin
theorem call_sumI (hc : X.calm = true) : CallR X (.builtin "sum") (rSumI X.K) := by
  intro pins s σ H xs us Q I r h
  obtain ⟨p, ns, rfl, hp, q⟩ := h
  obtain ⟨u, rfl, ru⟩ := vals1 r
  cases ru
  obtain ⟨its, rv, pl, hz⟩ := I.list hp
  have hi : IntsAre its ns := intsAre_of rv
  obtain ⟨ys, hx⟩ := hi.allInts.items
  have hl' : s.heap.IsList p (intItems ys) := hx ▸ pl.isList
  refine sum_intListG (I.ok.hd hc) hl' fun h' tk t' hk => ?_
  have e1 : ns = ys.toList.map (·.1) := by
    rw [← nums_intItems, ← hx]
    exact (show numsOf its.toArray.toList = ns from hi.numsOf).symm
  have e2 : preSum (numAt ys) ys.size = ns.sum := by
    rw [preSum_eq, List.take_of_length_le (by simp), e1]
  rw [e2]
  exact ⟨.int _, H, I.kept hk, ⟨_, rfl⟩, q⟩
end
end L2
namespace Rk
open PySem PySem.Spec PyProof.Rows L2 _root_.Rd
def rNeU (u : Nat) : R2 := fun x y H Q => ∃ dx dy, Dat H x dx ∧ Dat H y dy ∧ u + min dx.depth dy.depth < cLine ∧ Q (.bl (!PyData.eqv dx dy)) H
theorem op_neU {X : Cx} : OpR X (compareOp .NotEq) (rNeU X.A.units) := op_neD
def rEqU (u : Nat) : R2 := fun x y H Q => ∃ dx dy, Dat H x dx ∧ Dat H y dy ∧ u + min dx.depth dy.depth < cLine ∧ Q (.bl (PyData.eqv dx dy)) H
theorem op_eqU {X : Cx} : OpR X (compareOp .Eq) (rEqU X.A.units) := op_eqD
end Rk
set_option Elab.async false
set_option linter.all false
set_option maxRecDepth 100000
set_option maxHeartbeats 4000000
namespace Rk
open PySem PySem.Spec PyProof.Rows L2 _root_.Rd
mutual
def noL : PyData → Bool
  | .tuple ds => noLs ds
  | .list _ => false
  | .dict _ => false
  | _ => true
def noLs : List PyData → Bool
  | [] => true
  | d :: ds => noL d && noLs ds
end
theorem noLs_all : ∀ {ds : List PyData}, (∀ d ∈ ds, noL d = true) → noLs ds = true
  | [], _ => rfl
  | d :: ds, h => by
    show (noL d && noLs ds) = true
    rw [h d (by simp), noLs_all fun e he => h e (by simp [he])]
    rfl
mutual
theorem dat_updL {H : Hp} {pl : Addr} {ys : List V} {o : HO} (e : H pl = some (.lst ys)) : ∀ (d : PyData) (x : V), noL d = true → Dat H x d → Dat (upd H pl o) x d
  | .none, _, _, .non => .non
  | .bool b, _, _, .bl _ => .bl b
  | .int i, _, _, .int _ => .int i
  | .str z, _, _, .str _ c => .str z c
  | .tuple ds, _, n, .tup (a := a) (xs := xs) ea q => .tup (by rw [upd_ne (fun z => by rw [z, e] at ea; cases ea)]; exact ea) (dats_updL e ds xs n q)
  | .list ds, _, n, _ => by cases n
theorem dats_updL {H : Hp} {pl : Addr} {ys : List V} {o : HO} (e : H pl = some (.lst ys)) : ∀ (ds : List PyData) (xs : List V), noLs ds = true → Dats H xs ds → Dats (upd H pl o) xs ds
  | [], _, _, .nil => .nil
  | d :: ds, _, n, .cons q r => by
    have n' := Bool.and_eq_true_iff.mp (show (noL d && noLs ds) = true from n)
    exact .cons (dat_updL e d _ n'.1 q) (dats_updL e ds _ n'.2 r)
end
theorem dats_snoc {H : Hp} {xs : List V} {ds : List PyData} {x : V} {d : PyData} (h : Dats H xs ds) (q : Dat H x d) : Dats H (xs ++ [x]) (ds ++ [d]) := h.app (.cons q .nil)
theorem noLs_app {ds es : List PyData} (h1 : noLs ds = true) (h2 : noLs es = true) : noLs (ds ++ es) = true := by
  induction ds with
  | nil => exact h2
  | cons d ds ih =>
    have n' := Bool.and_eq_true_iff.mp (show (noL d && noLs ds) = true from h1)
    show (noL d && noLs (ds ++ es)) = true
    rw [n'.1, ih n'.2]
    rfl
theorem filterMap_noL {α : Type} {F : α → Option PyData} {l : List α} (h : ∀ i ∈ l, ∀ d, F i = some d → noL d = true) : noLs (l.filterMap F) = true := by
  refine noLs_all fun d hd => ?_
  obtain ⟨i, hi, e⟩ := List.mem_filterMap.mp hd
  exact h i hi d e
theorem comp_dat {J : It} {σ : L2.St} {g : TG} {tc : TT} {te : TE} {pl : Addr} {H1 : Hp} {Qn : Hp → Prop} (n : Nat) (hn : n < sizeLine) (F : Nat → Option PyData) (hF : ∀ i, i < n → ∀ d, F i = some d → noL d = true) (hp : H1 pl = none)
    (hs : ∀ i H2, i < n → Same H1 H2 → (∃ ys, H2 pl = some (.lst ys)) → J.go i H2 ∧ ∀ x H3, J.yld i H2 x H3 → ∀ (kn : Hp → Prop) (kv : VK), (F i = none → ∀ H6, Same H2 H6 → kn H6) →
      (∀ d v H6, F i = some d → Same H2 H6 → Dat H6 v d → kv v H6) →
      g x σ H3 fun σ4 H4 => Wk σ σ4 ∧ tc σ4 H4 fun b H5 => if b = true then te σ4 H5 kv else kn H5)
    (hst : ∀ H2, Same H1 H2 → J.stop n H2) (hq : ∀ H2 ys, Same H1 H2 → H2 pl = some (.lst ys) → Dats H2 ys ((List.range n).filterMap F) → Qn H2) :
    tLoop J (bOf σ g tc (bElt pl te)) Qn (upd H1 pl (.lst [])) := by
  refine loop_by n (fun i H2 => i ≤ n ∧ Same H1 H2 ∧ ∃ ys, H2 pl = some (.lst ys) ∧ Dats H2 ys ((List.range i).filterMap F)) ⟨Nat.zero_le _, same_upd hp, [], upd_same, .nil⟩ (fun i H2 hi ⟨_, s2, ys, e2, c2⟩ => ?_) fun H2 ⟨_, s2, ys, e2, c2⟩ => ⟨hst H2 s2, hq H2 ys s2 e2 c2⟩
  obtain ⟨go, st⟩ := hs i H2 hi s2 ⟨ys, e2⟩
  refine ⟨go, fun x H3 y k hk => ?_⟩
  have er : (List.range (i + 1)).filterMap F = (List.range i).filterMap F ++ (F i).toList := by
    rw [List.range_succ, List.filterMap_append]
    cases e : F i <;> simp [e]
  refine st x H3 y k (fun v H6 => ∃ ys, H6 pl = some (.lst ys) ∧ ys.length < sizeLine ∧ k (upd H6 pl (.lst (ys ++ [v])))) (fun e H6 s6 => ?_) fun d v H6 e s6 dv => ?_
  · refine hk _ ⟨hi, s2.trans s6, ys, s6 _ _ e2, ?_⟩
    rw [er, e]
    simpa using c2.same s6
  · have e6 := s6 _ _ e2
    refine ⟨_, e6, ?_, hk _ ⟨hi, fun b o q => ?_, ys ++ [v], upd_same, ?_⟩⟩
    · have l1 := c2.length
      have : ((List.range i).filterMap F).length ≤ i := by
        have := List.length_filterMap_le F (List.range i)
        rwa [List.length_range] at this
      omega
    · rw [upd_ne (ne_of_none q hp)]; exact s6 b o (s2 b o q)
    · rw [er, e]
      exact dats_snoc (dats_updL e6 _ _ (filterMap_noL fun j hj => hF j (by have := List.mem_range.mp hj; omega)) (c2.same s6)) (dat_updL e6 _ _ (hF i hi d e) dv)
def rowsD (F : Nat → Nat → Option PyData) (m : Nat → Nat) (i : Nat) : List PyData := (List.range i).flatMap fun k => (List.range (m k)).filterMap (F k)
theorem rowsD_succ (F : Nat → Nat → Option PyData) (m : Nat → Nat) (i : Nat) : rowsD F m (i + 1) = rowsD F m i ++ (List.range (m i)).filterMap (F i) := by
  unfold rowsD
  rw [List.range_succ, List.flatMap_append]
  simp
theorem rowsD_noL {F : Nat → Nat → Option PyData} {m : Nat → Nat} {n i : Nat} (hF : ∀ i, i < n → ∀ j, j < m i → ∀ d, F i j = some d → noL d = true) (hi : i ≤ n) : noLs (rowsD F m i) = true := by
  refine noLs_all fun d hd => ?_
  obtain ⟨k, hk, e⟩ := List.mem_flatMap.mp hd
  obtain ⟨j, hj, e2⟩ := List.mem_filterMap.mp e
  exact hF k (by have := List.mem_range.mp hk; omega) j (List.mem_range.mp hj) d e2
def InnerD (H1 H5 : Hp) (pl : Addr) (m : Nat) (Fi : Nat → Option PyData) (g2 : TG) (tc2 : TT) (te : TE) (σ4 : L2.St) (J2 : It) : Prop :=
  (∀ j H6, j < m → Same H1 H6 → KX pl H5 H6 → (∃ zs, H6 pl = some (.lst zs)) → J2.go j H6 ∧ ∀ y H7, J2.yld j H6 y H7 → ∀ (kn : Hp → Prop) (kv : VK), (Fi j = none → ∀ H8, Same H6 H8 → kn H8) →
    (∀ d v H8, Fi j = some d → Same H6 H8 → Dat H8 v d → kv v H8) → g2 y σ4 H7 fun σ6 H9 => Wk σ4 σ6 ∧ tc2 σ6 H9 fun b H10 => if b = true then te σ6 H10 kv else kn H10) ∧
  ∀ H6, Same H1 H6 → KX pl H5 H6 → J2.stop m H6
theorem comp2_dat {J : It} {σ : L2.St} {g : TG} {wi2 : TI} {g2 : TG} {tc2 : TT} {te : TE} {pl : Addr} {H1 : Hp} {Qn : Hp → Prop} (n : Nat) (m : Nat → Nat) (F : Nat → Nat → Option PyData) (hF : ∀ i, i < n → ∀ j, j < m i → ∀ d, F i j = some d → noL d = true)
    (hlen : ∀ i, i < n → (rowsD F m i).length + m i < sizeLine) (hp : H1 pl = none)
    (hs : ∀ i H2, i < n → Same H1 H2 → (∃ ys, H2 pl = some (.lst ys)) → J.go i H2 ∧ ∀ x H3, J.yld i H2 x H3 → ∀ (k2 : L2.St → It → Hp → Prop) (kk : Hp → Prop), (∀ σ4 J2 H5, Same H2 H5 → InnerD H1 H5 pl (m i) (F i) g2 tc2 te σ4 J2 → k2 σ4 J2 H5) →
      g x σ H3 fun σ4 H4 => Wk σ σ4 ∧ if true = true then wi2 σ4 H4 (fun J2 H5 => k2 σ4 J2 H5) else kk H4)
    (hst : ∀ H2, Same H1 H2 → J.stop n H2) (hq : ∀ H2 ys, Same H1 H2 → H2 pl = some (.lst ys) → Dats H2 ys (rowsD F m n) → Qn H2) :
    tLoop J (bOf σ g tNoTest (bNest wi2 g2 tc2 pl te)) Qn (upd H1 pl (.lst [])) := by
  refine loop_by n (fun i H2 => Same H1 H2 ∧ ∃ ys, H2 pl = some (.lst ys) ∧ Dats H2 ys (rowsD F m i)) ⟨same_upd hp, [], upd_same, .nil⟩ (fun i H2 hi ⟨s2, ys, e2, c2⟩ => ?_) fun H2 ⟨s2, ys, e2, c2⟩ => ⟨hst H2 s2, hq H2 ys s2 e2 c2⟩
  obtain ⟨go, st⟩ := hs i H2 hi s2 ⟨ys, e2⟩
  refine ⟨go, fun x H3 y k hk => ?_⟩
  refine st x H3 y (fun σ4 J2 H5 => tLoop J2 (bOf σ4 g2 tc2 (bElt pl te)) k H5) k fun σ4 J2 H5 s5 ⟨inn, fin⟩ => ?_
  have e5 := s5 _ _ e2
  refine loop_by (m i) (fun j H6 => j ≤ m i ∧ KX pl H5 H6 ∧ ∃ zs, H6 pl = some (.lst zs) ∧ Dats H6 zs (rowsD F m i ++ (List.range j).filterMap (F i))) ⟨Nat.zero_le _, KX.refl _ _, ys, e5, by simpa using c2.same s5⟩ (fun j H6 hj ⟨_, s6, zs, e6, c6⟩ => ?_)
    fun H6 ⟨_, s6, zs, e6, c6⟩ => ?_
  · have S6 : Same H1 H6 := fun b o q => s6 b o (ne_of_none q hp) (s5 b o (s2 b o q))
    obtain ⟨go2, st2⟩ := inn j H6 hj S6 s6 ⟨zs, e6⟩
    refine ⟨go2, fun y2 H7 yl2 k7 hk7 => ?_⟩
    have er : (List.range (j + 1)).filterMap (F i) = (List.range j).filterMap (F i) ++ (F i j).toList := by
      rw [List.range_succ, List.filterMap_append]
      cases e : F i j <;> simp [e]
    refine st2 y2 H7 yl2 k7 (fun v H8 => ∃ ys, H8 pl = some (.lst ys) ∧ ys.length < sizeLine ∧ k7 (upd H8 pl (.lst (ys ++ [v])))) (fun e H8 s8 => ?_) fun d v H8 e s8 dv => ?_
    · refine hk7 _ ⟨hj, s6.trans (KX.of s8), zs, s8 _ _ e6, ?_⟩
      rw [er, e]
      simpa using c6.same s8
    · have e8 := s8 _ _ e6
      refine ⟨_, e8, ?_, hk7 _ ⟨hj, (s6.trans (KX.of s8)).trans KX.upd, zs ++ [v], upd_same, ?_⟩⟩
      · have l1 := c6.length
        rw [List.length_append] at l1
        have l3 := List.length_filterMap_le (F i) (List.range j)
        rw [List.length_range] at l3
        have l4 := hlen i hi
        omega
      · rw [er, e, ← List.append_assoc]
        refine dats_snoc (dats_updL e8 _ _ (noLs_app (rowsD_noL hF (Nat.le_of_lt hi)) (filterMap_noL fun j' hj' => hF i hi j' (by have := List.mem_range.mp hj'; omega))) (c6.same s8)) (dat_updL e8 _ _ (hF i hi j hj d e) dv)
  · have S6 : Same H1 H6 := fun b o q => s6 b o (ne_of_none q hp) (s5 b o (s2 b o q))
    exact ⟨fin H6 S6 s6, hk H6 ⟨S6, zs, e6, by rw [rowsD_succ]; exact c6⟩⟩
theorem ps_nox {X : Cx} {st : Stmt} {t : TS} (h : PS X.nox st t) : PS X st t := fun pins s σ H D I hw =>
  wpAny_mono (h pins s σ H D (I.wish _) hw) (fun _ _ q => SP.unwish q) fun _ _ x => x.elim
theorem no_test {σ : L2.St} {H : Hp} {A B : Hp → Prop} (h : A H) : tNoTest σ H fun b H5 => if b = true then A H5 else B H5 := by
  show (if true = true then A H else B H)
  exact iteT h
def intsD (ns : List Int) : PyData := .tuple (ns.map PyData.int)
theorem dats_ints {H : Hp} : ∀ (ns : List Int), Dats H (ns.map V.int) (ns.map PyData.int)
  | [] => .nil
  | n :: ns => .cons (.int n) (dats_ints ns)
theorem ints_dats {H : Hp} : ∀ {ns : List Int} {xs : List V}, Dats H xs (ns.map PyData.int) → xs = ns.map V.int
  | [], _, .nil => rfl
  | n :: ns, _, .cons (.int _) r => by rw [ints_dats r]; rfl
theorem dat_intsD {H : Hp} {v : V} {ns : List Int} (h : Dat H v (intsD ns)) : ∃ t, v = .ref t ∧ H t = some (.tup (ns.map V.int)) := by
  unfold intsD at h
  cases h with
  | @tup a xs _ e q => exact ⟨a, rfl, by rw [e, ints_dats q]⟩
theorem intsD_dat {H : Hp} {t : Addr} {ns : List Int} (e : H t = some (.tup (ns.map V.int))) : Dat H (.ref t) (intsD ns) := .tup e (dats_ints ns)
theorem noLs_ints : ∀ ns : List Int, noLs (ns.map PyData.int) = true
  | [] => rfl
  | n :: ns => by show (true && noLs (ns.map PyData.int)) = true; rw [noLs_ints ns]; rfl
theorem noL_intsD (ns : List Int) : noL (intsD ns) = true := noLs_ints ns
theorem noL_pair (x : Int × Int) : noL (pairD x) = true := rfl
end Rk
set_option Elab.async false
set_option linter.all false
set_option maxRecDepth 100000
set_option maxHeartbeats 4000000
namespace Rx
open PySem PySem.Spec PySem.Calls PyProof.Rows L2
end Rx
namespace Rk
open PySem PySem.Spec PyProof.Rows L2 _root_.Rd
def ordsI (m : Nat) : Nat → List (List Int)
  | 0 => [[]]
  | k + 1 => (ordsI m k).flatMap fun o => (othersI m o).map fun x => o ++ [x]
def hitI (L : List (Int × Int)) (o : List Int) : List (Int × Int) := (List.range o.length).filterMap fun (i : Nat) => if ((i : Int), o.getD i 0) ∈ L then some ((i : Int), o.getD i 0) else none
theorem hitI_len (L : List (Int × Int)) (o : List Int) : (hitI L o).length ≤ o.length := by
  unfold hitI
  have := List.length_filterMap_le (fun (i : Nat) => if ((i : Int), o.getD i 0) ∈ L then some ((i : Int), o.getD i 0) else none) (List.range o.length)
  rwa [List.length_range] at this
theorem othersI_len' (k : Nat) (rs : List Int) : (othersI k rs).length ≤ k := by
  unfold othersI
  have := List.length_filterMap_le (fun (i : Nat) => if (i : Int) ∈ rs then none else some (i : Int)) (List.range k)
  rwa [List.length_range] at this
theorem range_flat {α β : Type} (L : List α) (d : α) (f : α → List β) : (List.range L.length).flatMap (fun k => f (L.getD k d)) = L.flatMap f := by
  conv => rhs; rw [← range_getD L d]
  rw [List.flatMap_map]
theorem range_some {α β : Type} (L : List α) (d : α) (f : α → β) : (List.range L.length).filterMap (fun k => some (f (L.getD k d))) = L.map f := by
  rw [List.filterMap_eq_map']
  conv => rhs; rw [← range_getD L d]
  rw [List.map_map]
  rfl
theorem rowsD_len {F : Nat → Nat → Option PyData} {m : Nat → Nat} {B : Nat} (h : ∀ k, m k ≤ B) : ∀ i, (rowsD F m i).length ≤ i * B
  | 0 => by simp [rowsD]
  | i + 1 => by
    rw [rowsD_succ, List.length_append, Nat.succ_mul]
    have h1 := rowsD_len h i (F := F)
    have h2 := List.length_filterMap_le (F i) (List.range (m i))
    rw [List.length_range] at h2
    have := h i
    omega
theorem ordsI_mem {m : Nat} : ∀ {k : Nat} {o : List Int}, o ∈ ordsI m k → o.length = k
  | 0, o, h => by simp [ordsI] at h; rw [h]; rfl
  | k + 1, o, h => by
    unfold ordsI at h
    obtain ⟨o', h1, h2⟩ := List.mem_flatMap.mp h
    obtain ⟨x, _, rfl⟩ := List.mem_map.mp h2
    rw [List.length_append, ordsI_mem h1]
    rfl
theorem ordsI_len (m : Nat) : ∀ k, (ordsI m k).length ≤ m ^ k
  | 0 => Nat.le_refl _
  | k + 1 => by
    have key : ∀ l : List (List Int), (l.flatMap fun o => (othersI m o).map fun x => o ++ [x]).length ≤ l.length * m := fun l => by
      induction l with
      | nil => simp
      | cons o l ih =>
        rw [List.flatMap_cons, List.length_append, List.length_map, List.length_cons, Nat.succ_mul]
        have := othersI_len' m o
        omega
    show ((ordsI m k).flatMap fun o => (othersI m o).map fun x => o ++ [x]).length ≤ m ^ (k + 1)
    have h1 := key (ordsI m k)
    have h2 := Nat.mul_le_mul_right m (ordsI_len m k)
    rw [Nat.pow_succ]
    omega
theorem pow6 {m k : Nat} (hm : m ≤ 6) (hk : k ≤ 6) : m ^ k ≤ 46656 := by
  have h1 : m ^ k ≤ 6 ^ k := Nat.pow_le_pow_left hm k
  have h2 : 6 ^ k ≤ 6 ^ 6 := Nat.pow_le_pow_right (by decide) hk
  exact Nat.le_trans h1 (Nat.le_trans h2 (by decide))
theorem ordsI_small {m k : Nat} (hm : m ≤ 6) (hk : k ≤ 6) : (ordsI m k).length ≤ 46656 := Nat.le_trans (ordsI_len m k) (pow6 hm hk)
theorem line_ge {n : Nat} (h : n ≤ 1000000) : n < sizeLine := Nat.lt_of_le_of_lt h (by decide)
def cntI (n : Nat) (ks : List Nat) : List Int := ks.foldl (fun a k => a.set k (a.getD k 0 + 1)) (List.replicate n 0)
theorem cntI_snoc (n : Nat) (ks : List Nat) (k : Nat) : cntI n (ks ++ [k]) = (cntI n ks).set k ((cntI n ks).getD k 0 + 1) := by
  unfold cntI
  rw [List.foldl_append]
  rfl
theorem cntI_len (n : Nat) (ks : List Nat) : (cntI n ks).length = n := by
  unfold cntI
  suffices h : ∀ (ks : List Nat) (a : List Int), (ks.foldl (fun a k => a.set k (a.getD k 0 + 1)) a).length = a.length by
    rw [h, List.length_replicate]
  intro ks
  induction ks with
  | nil => intro a; rfl
  | cons k ks ih => intro a; rw [List.foldl_cons, ih, List.length_set]
def hitCnt (L : List (Int × Int)) (m : Nat) (os : List (List Int)) : List Int := cntI (m + 1) (os.map fun o => (hitI L o).length)
theorem ints_set (ns : List Int) (k : Nat) (i : Int) : (ns.map V.int).set k (.int i) = (ns.set k i).map V.int := by rw [List.map_set]
theorem take_getD {α : Type} {L : List α} {i : Nat} (d : α) (h : i < L.length) : L.take (i + 1) = L.take i ++ [L.getD i d] := by
  rw [List.take_succ, List.getD_eq_getElem?_getD, List.getElem?_eq_getElem h]
  rfl
theorem ints_ix {ns : List Int} {k : Nat} (h : k < ns.length) : atI (ns.map V.int) (k : Nat) = some (.int (ns.getD k 0)) := by
  refine atI_nat ?_
  rw [List.getElem?_map, List.getD_eq_getElem?_getD, List.getElem?_eq_getElem h]
  rfl
theorem ixN_nat {n k : Nat} (h : k < n) : ixN n (k : Nat) = some k := by
  unfold ixN
  rw [if_pos (by omega), if_pos (by omega)]
  simp
theorem ints_list {H : Hp} {l : Addr} {ns : List Int} (e : H l = some (.lst (ns.map V.int))) : Dat H (.ref l) (.list (ns.map PyData.int)) := .lst e (dats_ints ns)
theorem perm_ordI {m : Nat} {o : List Int} (h : o.Perm (rangeI m)) : o.length = m ∧ ordI m o = true := by
  refine ⟨by rw [h.length_eq, rangeI_len], ordI_iff.mpr fun i hi => h.symm.subset hi⟩
end Rk
set_option Elab.async false
set_option linter.all false
set_option maxRecDepth 100000
set_option maxHeartbeats 4000000
namespace HT
open PySem PyProof.Rows
theorem rcGt_int (A : Around) (s : Shared) (a : Int) (t : Tok) (c : Int) (u : Tok) (prog : Program) (w : World) (E : Value → Shared → Prop) (Q : Value → Shared → Prop) (h : Q (.bool (decide (c < a))) s) :
    wpAny (model prog w) A (richCompare .Gt (.int a t) (.int c u)) Q E s :=
  (PyProof.Rows.gt_int h : wpAny (model prog w) A (compareOp .Gt (.int a t) (.int c u)) Q E s)
section
open PySem.SeqAt
open PySem.AutoSeq1 (wpAny_loadPart')
open PySem.MeetsSeq PySem.MeetsSeq2 PySem.MeetsSeq3
theorem tuple_gt_ints (l b : Addr) (items items2 : Array Value) (n n2 : Nat) (dd dd2 : Option Addr) (sl sl2 : Array (Option Value)) (ns ms : List Int) (hi : IntsAre items.toList ns) (hj : IntsAre items2.toList ms) :
    Meets (Builtin.«tuple.__gt__» ⟨[.ref l, .ref b], []⟩)
      (fun _ R s => s.heap.get? l = some { cls := .type "tuple", dict := dd, data := .seq items n, slots := sl } ∧ s.heap.get? b = some { cls := .type "tuple", dict := dd2, data := .seq items2 n2, slots := sl2 } ∧
        R (.ok (.ret (.bool (lexLt ms ns)))) s) :=
  .of_wp fun prog w A R s h => by
    obtain ⟨hp, g, d, tk, os⟩ := s; obtain ⟨hl, hb, h⟩ := h
    have f2 := AutoSeq1.sub_tuple_tuple
    have z1 : items.size = ns.length := by rw [← hi.length]; simp
    have z2 : items2.size = ms.length := by rw [← hj.length]; simp
    wp_walk using wpAny_loadPart' hl, wpAny_loadPart' hb, wpAny_forIn_list _ (fun rest b s' => b.1 = none ∧ s' = ⟨hp, g, d, tk, os⟩ ∧ ∃ (vs ws : List Value) (ns' ms' : List Int), rest = vs.zip ws ∧
      IntsAre vs ns' ∧ IntsAre ws ms' ∧ ns'.length + items2.size = ms'.length + items.size ∧ R (.ok (.ret (.bool (lexLt ms' ns')))) ⟨hp, g, d, tk, os⟩) _
    case turn =>
      rintro ⟨y, x⟩ rest b s' ⟨hb', rfl, vs, ws, ns', ms', hz, hvi, hwi, hlen, hR⟩
      cases hvi with
      | nil => rw [List.zip_nil_left] at hz; cases hz
      | cons a t hvi' =>
        cases hwi with
        | nil => rw [List.zip_nil_right] at hz; cases hz
        | cons c u hwi' =>
          rw [List.zip_cons_cons] at hz
          injection hz with hyx hrest
          injection hyx with hy hx
          subst hy hx
          rw [lexLt_cons] at hR
          simp only [List.length_cons] at hlen
          obtain ⟨e, he, hiff⟩ := eqAt_int A.in1 ⟨hp, g, d, tk, os⟩ a t c u
          refine wpAny_bind (he prog w _ _ ?_)
          cases e with
          | true =>
            rw [if_pos (hiff.mp rfl).symm] at hR
            wp_walk
            exact ⟨rfl, rfl, _, _, _, _, hrest, hvi', hwi', by omega, hR⟩
          | false =>
            rw [if_neg (fun q => absurd (hiff.mpr q.symm) Bool.false_ne_true)] at hR
            have hri := rcGt_int A.in1 ⟨hp, g, d, tk, os⟩ a t c u prog w
            wp_walk using hri
            exact ⟨_, rfl, by simpa using hR⟩
    case fin =>
      rintro ⟨b1, b2⟩ s' ⟨hb', rfl, vs, ws, ns', ms', hz, hvi, hwi, hlen, hR⟩
      simp only at hb'
      subst hb'
      have hv : lexLt ms' ns' = decide (items2.size < items.size) := by
        cases hvi with
        | nil =>
          cases hwi with
          | nil =>
            simp only [List.length_nil] at hlen
            rw [lexLt_nil_nil]
            exact (decide_eq_false (by omega)).symm
          | cons c u hw =>
            simp only [List.length_nil, List.length_cons] at hlen
            rw [lexLt_cons_nil]
            exact (decide_eq_false (by omega)).symm
        | cons a t hv =>
          cases hwi with
          | nil =>
            simp only [List.length_nil, List.length_cons] at hlen
            rw [lexLt_nil_cons]
            exact (decide_eq_true (by omega)).symm
          | cons c u hw =>
            rw [List.zip_cons_cons] at hz
            cases hz
      rw [hv] at hR
      wp_walk
      exact ⟨_, rfl, by simpa [Builtin.Tuple.tupleCompareSizes] using hR⟩
    case h =>
      exact ⟨rfl, rfl, items.toList, items2.toList, ns, ms, rfl, hi, hj, by omega, h⟩
end
section
variable {prog : Program} {w : World} {A : Around} {E : Value → Shared → Prop} {s : Shared}
theorem gt_tupInts {l b : Addr} {items items2 : Array Value} {ns ms : List Int} {Q : Value → Shared → Prop} (hl : IsTup s.heap l items) (hb : IsTup s.heap b items2) (hi : IntsAre items.toList ns) (hj : IntsAre items2.toList ms)
    (hu : A.units < cLine) (h : Q (.bool (lexLt ms ns)) s) : wpAny (model prog w) A (compareOp .Gt (.ref l) (.ref b)) Q E s := by
  obtain ⟨⟨cls, dd, data, sl⟩, ho, hc, n, hd⟩ := id hl
  obtain ⟨⟨cls2, dd2, data2, sl2⟩, ho2, hc2, n2, hd2⟩ := id hb
  simp only at hc hd hc2 hd2
  subst hc hd hc2 hd2
  exact richCompare_meets_room (op := .Gt) ⟨_, ho, rfl⟩ ⟨_, ho2, rfl⟩ PySem.F.slot_tuple_gt PySem.F.entry_tuple_gt (PySem.F.args_tuple_gt_2 _ _) (tuple_gt_ints l b items items2 n n2 dd dd2 sl sl2 ns ms hi hj)
    ⟨ho, ho2, show Value.bool (lexLt ms ns) ≠ Value.notImplemented ∧ Q (.bool (lexLt ms ns)) s from ⟨(fun x => nomatch x), h⟩⟩ hu
end
end HT
namespace L2
open PySem PySem.Spec PyProof.Rows
def rGtT (u : Nat) (K : PySem.W.Frag) : R2 := fun x y H Q => ∃ a b ns ms, x = .ref a ∧ y = .ref b ∧ SqT K H a (ns.map V.int) ∧ SqT K H b (ms.map V.int) ∧ u < cLine ∧ Q (.bl (HT.lexLt ms ns)) H
theorem op_gtT {X : Cx} : OpR X (compareOp .Gt) (rGtT X.A.units X.K) := by
  intro pins s σ H x y v u Q I rx ry h
  obtain ⟨a, b, ns, ms, rfl, rfl, h1, h2, hu, q⟩ := h
  cases rx
  cases ry
  obtain ⟨i1, r1, p1, _⟩ := I.tuple h1
  obtain ⟨i2, r2, p2, _⟩ := I.tuple h2
  exact HT.gt_tupInts p1 p2 (intsAre_of r1) (intsAre_of r2) hu ⟨.bl (HT.lexLt ms ns), H, I, rfl, q⟩
end L2
set_option Elab.async false
set_option linter.all false
set_option maxRecDepth 100000
set_option maxHeartbeats 4000000
namespace L2
open PySem PySem.Spec PyProof.Rows
def rSlLW (K : PySem.W.Frag) : V → Option Int → Option Int → Hp → VK → Prop := fun x lo hi H Q => ∃ a xs, x = .ref a ∧ SqL K H a xs ∧ ∀ p H', Same H H' → H p = none → H' p = some (.lst (cutV xs lo hi)) → Q (.ref p) H'
theorem sl_listW {X : Cx} : SlR X (rSlLW X.K) := by
  intro pins s σ H x v vl vu lo hi sl Q I rx hs pl pu h
  obtain ⟨a, xs, e, hx, q⟩ := h
  exact sl_list pins s σ H x v vl vu lo hi sl Q I rx hs pl pu ⟨a, xs, e, hx, fun p hp => q p _ (same_upd hp) hp upd_same⟩
end L2
namespace Rk
open PySem PySem.Spec PyProof.Rows L2 _root_.Rd
def optD : Option (List Int) → PyData
  | none => .none
  | some o => intsD o
def hitsK (L : List (Int × Int)) (many : Int) (o : List Int) : Bool := decide (((hitI L o).length : Int) = many)
theorem find_take {α : Type} {p : α → Bool} {l : List α} {i : Nat} (d : α) (h : i < l.length) (n : (l.take i).find? p = none) (t : p (l.getD i d) = true) : l.find? p = some (l.getD i d) := by
  have e : l = l.take i ++ (l.getD i d :: l.drop (i + 1)) := by
    have h1 : l.drop i = l.getD i d :: l.drop (i + 1) := by
      rw [List.drop_eq_getElem_cons h, List.getD_eq_getElem?_getD, List.getElem?_eq_getElem h]
      rfl
    rw [← h1, List.take_append_drop]
  conv => lhs; rw [e]
  rw [List.find?_append, n, List.find?_cons, t]
  rfl
theorem range_filter {α β : Type} (l : List α) (d : α) (P : α → Bool) (f : α → β) : (List.range l.length).filterMap (fun i => if P (l.getD i d) = true then some (f (l.getD i d)) else none) = (l.filter P).map f := by
  have h := filterMap_filter l d P
  rw [← h, List.map_filterMap]
  refine congrArg (fun g => List.filterMap g (List.range l.length)) (funext fun i => ?_)
  by_cases hm : P (l.getD i d) = true
  · rw [if_pos hm, if_pos hm]; rfl
  · rw [if_neg hm, if_neg hm]; rfl
theorem item_ord {H : Hp} {ys : List V} {os : List (List Int)} {i : Nat} {x : V} (h : Dats H ys (os.map intsD)) (e : ys[i]? = some x) : i < os.length ∧ ∃ t, x = .ref t ∧ H t = some (.tup ((os.getD i []).map V.int)) := by
  obtain ⟨d, hd, qd⟩ := h.get i x e
  have hi : i < os.length := by
    have := (List.getElem?_eq_some_iff.mp hd).1
    rwa [List.length_map] at this
  refine ⟨hi, ?_⟩
  have ed : d = intsD (os.getD i []) := by
    rw [List.getElem?_map, List.getElem?_eq_getElem hi] at hd
    cases hd
    rw [List.getD_eq_getElem?_getD, List.getElem?_eq_getElem hi]
    rfl
  subst ed
  exact dat_intsD qd
theorem getD_mem' {α : Type} {l : List α} {i : Nat} (d : α) (h : i < l.length) : l.getD i d ∈ l := by
  rw [List.getD_eq_getElem?_getD, List.getElem?_eq_getElem h]
  exact List.getElem_mem h
end Rk
set_option Elab.async false
set_option linter.all false
set_option maxRecDepth 100000
set_option maxHeartbeats 4000000
namespace L2
open PySem PySem.Spec PyProof.Rows
section
variable {X : Cx}
def rLstOfW (K : PySem.W.Frag) : List V → Hp → VK → Prop := fun xs H Q => ∃ p ys, xs = [.ref p] ∧ (SqL K H p ys ∨ SqT K H p ys) ∧ ∀ l H', Same H H' → H l = none → H' l = some (.lst ys) → Q (.ref l) H'
theorem call_list_ofW : CallR X (.type "list") (rLstOfW X.K) := by
  intro pins s σ H xs us Q I r h
  obtain ⟨p, ys, e, h1, h2⟩ := h
  exact call_list_of pins s σ H xs us Q I r ⟨p, ys, e, h1, fun l hl => h2 l _ (same_upd hl) hl upd_same⟩
def rRepW : R2 := fun x y H Q => ∃ l k xs, x = .ref l ∧ y = .int k ∧ H l = some (.lst xs) ∧ -(2 ^ 63) ≤ k ∧ k < 2 ^ 63 ∧ xs.length * k.toNat ≤ 1000000 ∧ ∀ p H', Same H H' → H p = none → H' p = some (.lst (List.replicate k.toNat xs).flatten) → Q (.ref p) H'
theorem op_repW : OpR X (binaryOp .Mult) rRepW := by
  intro pins s σ H x y v u Q I rx ry h
  obtain ⟨l, k, xs, e1, e2, h1, h2, h3, h4, q⟩ := h
  exact op_rep pins s σ H x y v u Q I rx ry ⟨l, k, xs, e1, e2, h1, h2, h3, Nat.le_trans h4 (by decide), fun p hp => q p _ (same_upd hp) hp upd_same⟩
end
end L2
namespace Rk
open PySem PySem.Spec PyProof.Rows L2 _root_.Rd
end Rk
set_option Elab.async false
set_option linter.all false
set_option maxRecDepth 100000
set_option maxHeartbeats 4000000
namespace Rx
open PySem PySem.Spec PySem.Calls PyProof.Rows L2
abbrev TSX := L2.Ends → L2.St → Hp → (Addr → Hp → Prop) → Prop
def PSX (X : Cx) (st : Stmt) (t : TSX) : Prop := ∀ (pins : List (Addr × Obj)) (s : Shared) (σ : L2.St) (H : Hp) (D : L2.Ends) (Ex : Addr → Hp → Prop), Inv X pins σ H s → t D σ H Ex →
  wpAny (model X.prog X.w) X.A (exec st X.env) (SP X pins D) (XP X pins fun σ1 C H1 => σ1 = σ ∧ Ex C H1) s
def PSXs (X : Cx) (sts : List Stmt) (t : TSX) : Prop := ∀ (pins : List (Addr × Obj)) (s : Shared) (σ : L2.St) (H : Hp) (D : L2.Ends) (Ex : Addr → Hp → Prop), Inv X pins σ H s → t D σ H Ex →
  wpAny (model X.prog X.w) X.A (execs sts X.env) (SP X pins D) (XP X pins fun σ1 C H1 => σ1 = σ ∧ Ex C H1) s
section
variable {X : Cx} {e : Expr} {st : Stmt} {pos : Pos} {te : TX} {t u : TSX} {tc : TT} {c : Expr} {a b : List Stmt}
theorem psx_expr (he : PEX X e te) (hs : swapsWith e none pos.line X.env = pure false := by rfl) : PSX X (.Expr e pos) (fun D σ H Ex => te σ H (fun _ H1 => D.nx σ H1) Ex) := by
  intro pins s σ H D Ex I h
  exact wpAny_Expr_any (thn (he pins s σ H _ _ I h) fun v s1 ⟨x, H1, I1, r1, q1⟩ => ⟨σ, H1, I1, q1⟩) I.quiet hs
theorem psx_if (hc : PT X.nox c tc) (ha : PSXs X a t) (hb : PSXs X b u) : PSX X (.If c a b pos) (fun D σ H Ex => tc σ H fun d H1 => if d = true then t D σ H1 Ex else u D σ H1 Ex) := by
  intro pins s σ H D Ex I h
  refine wpAny_If (wpAny_mono (hc pins s σ H _ (I.wish _) h) (fun d s1 ⟨H1, J1, q1⟩ => ?_) fun _ _ z => False.elim z)
  have I1 : Inv X pins σ H1 s1 := J1.unwish
  cases d with
  | true => exact ha pins s1 σ H1 D Ex I1 q1
  | false => exact hb pins s1 σ H1 D Ex I1 q1
theorem psxs_one (h1 : PSX X st t) : PSXs X [st] t := by
  intro pins s σ H D Ex I h
  refine wpAny_execs_cons (thn (h1 pins s σ H D Ex I h) fun f s1 q => ?_)
  cases f with
  | next => exact wpAny_execs_nil q
  | ret v => exact q
  | brk => exact q
  | cont => exact q
end
def tTryS (K : PySem.W.Frag) (R : Addr) (i : Nat) (tb : TSX) (th : TE) : TS := fun D σ H => tb D σ H fun C H1 => ByC K C R ∧ ∀ a, H1 a = none → th (σ.set i (some (.ref a))) (upd H1 a (exO a C)) D.rt
section
variable {X : Cx} {R : Addr} {i : Nat} {n r : Str} {body : List Stmt} {hx : Expr} {tb : TSX} {th : TE} {np hp hpos pos : Pos}
theorem ps_tryS (hstk : X.stack = X.env :: X.outer) (hfr : X.env.frame = some X.env.locals) (hc : PSXs X body tb) (hN : X.N.Nodup) (hi : X.N[i]? = some n) (hl : X.env.scope.names.lookup n = some .local)
    (hg : Gl X r) (hm : X.mg r = some (.ref R)) (hh : ∀ e, PE (mkd X e) hx th) (hd : (r == ("__debug__" : Str)) = false := by decide) :
    PS X (.Try body [.ExceptHandler (some (.Name r np)) (some n) [.Return (some hx) hp] hpos] [] [] pos) (tTryS X.K R i tb th) := by
  intro pins s σ H D I h
  refine wpAny_Try_except (wpAny_mono (hc pins s σ H D _ I h) (fun f s1 q => ?_) fun e s1 z => ?_)
  · cases f with
    | next => exact wpAny_execs_nil q
    | ret v => exact q
    | brk => exact q
    | cont => exact q
  obtain ⟨σ1, C, H1, a, t, B, rfl, fl, fH, f0, fp, land, eσ, bc, q⟩ := z
  subst eσ
  rw [hstk] at fl
  have fr : X.A.frames = some (X.env :: X.outer) := by rw [← hstk]; exact I.ok.frames
  refine wpAny_looks_onW fr hfr fl fun h4 held4 up4 => ?_
  refine wpAny_landsW held4 fun h5 fl5 up5 => ?_
  have I5 : L2.Inv X pins σ1 H1 { s1 with heap := h5 } := land h5 s1.toks fl5.1 (up4.trans up5)
  have x5 : ExAt a C h5 := by
    obtain ⟨oe, vs, e1, e2, e3, _⟩ := fl5.first
    exact ⟨oe, vs, e1, e2, e3⟩
  refine wpAny_handleBy_cons (codeAny_handlers_test (ld_glob (X := mkd X (.ref a)) (inv_mkd I5 _) hg hm ?_ hd)) (by intro q; cases q)
  refine matches_by (s := { s1 with heap := h5 }) I5.kIn x5 bc ?_
  refine codeAny_handlers_suite_as ?_
  refine lands_againW fl5 fun h6 fl6 up6 => ?_
  have I6 : L2.Inv X pins σ1 H1 { s1 with heap := h6 } := land h6 s1.toks fl6.1 ((up4.trans up5).trans up6)
  have x6 : ExAt a C h6 := by
    obtain ⟨oe, vs, e1, e2, e3, _⟩ := fl6.first
    exact ⟨oe, vs, e1, e2, e3⟩
  have I7 := inv_track I6 fH f0 fp x6
  refine store_ok I7 hN hi (Or.inl hl) (show RelV (.ref a) (.ref a) from rfl) (fun s8 I8 => ?_) (.inr hl)
  refine wpAny_execs_cons (wpAny_Return_some (wpAny_mono (hh (.ref a) pins s8 _ _ _ (inv_mkd I8 _) (q a fH)) (fun v s9 ⟨x, H9, I9, r9, q9⟩ => ?_) fun _ _ z => z.elim))
  have J9 : L2.Inv X pins _ H9 s9 := inv_unmk I.ok I9
  obtain ⟨m, hn, hmm⟩ := id J9.loc
  refine wpAny_nameGoes_keeps hl hn (by rw [I.ok.kind]; rfl) fun h' v' hn' hs' => ?_
  exact ⟨x, _, H9, inv_gone J9 hN hi hmm hn' hs', r9, q9⟩
end
end Rx
set_option Elab.async false
set_option linter.all false
set_option maxRecDepth 100000
set_option maxHeartbeats 4000000
namespace Rk
open PySem PySem.Spec PyProof.Rows L2 _root_.Rd
def words10 : List Str := ["order", "size", "many", "number", "stand", "square", "counts", "hits", "stairs", "alike"]
def wordsK2 : List Str := words10 ++ List.replicate 9 ("no" : Str)
def spKind2 (K : PySem.W.Frag) (cs : List Addr) : Sp := fun vs H Q _ => ∃ (a C : Addr) (bs : List Bool) (j : Nat) (wd : Str), vs = [.ref a] ∧ H a = some (Rx.exO a C) ∧ Rx.ExC K C ∧ Paired (fun c b => PySem.W.kitOne K (.ref C) (.ref c) = some b) cs bs ∧ PySem.W.kitOne K (.ref C) (.type "ValueError") = some true ∧
  bs.countP id = 1 ∧ bs[j]? = some true ∧ (∀ m, m < j → bs[m]? = some false) ∧ wordsK2[j]? = some wd ∧ ∀ H', Same H H' → Q (.str wd) H'
structure KOk2 (K : PySem.W.Frag) (cs : List Addr) (R C : Addr) (wd : Str) : Prop where
  by_ : Rx.ByC K C R
  ex : ∃ (bs : List Bool) (j : Nat), Rx.ExC K C ∧ Paired (fun c b => PySem.W.kitOne K (.ref C) (.ref c) = some b) cs bs ∧ PySem.W.kitOne K (.ref C) (.type "ValueError") = some true ∧ bs.countP id = 1 ∧ bs[j]? = some true ∧ (∀ m, m < j → bs[m]? = some false) ∧ wordsK2[j]? = some wd
theorem handled2 {K : PySem.W.Frag} {cs : List Addr} {R C : Addr} {wd : Str} (o : KOk2 K cs R C wd) {H1 : Hp} {Q : VK} {σ : L2.St} {i : Nat} (hi : i < σ.length) (k : ∀ H', Same H1 H' → Q (.str wd) H') :
    Rx.ByC K C R ∧ ∀ a, H1 a = none → (tCons (tVar i) tNil) (σ.set i (some (.ref a))) (upd H1 a (Rx.exO a C)) fun vs H2 => spKind2 K cs vs H2 Q E0 := by
  refine ⟨o.by_, fun a ha => ?_⟩
  obtain ⟨bs, j, hx, pb, eV, hc, hj, hm, hw⟩ := o.ex
  exact ⟨_, List.getElem?_set_self hi, a, C, bs, j, wd, rfl, upd_same, hx, pb, eV, hc, hj, hm, hw, fun H2 s2 => k H2 ((same_upd ha).trans s2)⟩
end Rk
set_option Elab.async false
set_option linter.all false
set_option maxRecDepth 100000
set_option maxHeartbeats 4000000
namespace Rk
open PySem PySem.Spec PyProof.Rows L2 _root_.Rd
def top (i : Nat) : Stmt := PySem.Challenge.pw_rooklands_k44_no_square_no_order.main.body.getD i (.Pass ⟨0, 0, 0, 0⟩)
abbrev sWhole : Stmt := top 22
abbrev sWithin : Stmt := top 23
abbrev sOrders : Stmt := top 24
abbrev sSets : Stmt := top 25
abbrev sOrder : Stmt := top 27
abbrev sAll : Stmt := top 28
abbrev sOthers : Stmt := top 29
abbrev sHitsOf : Stmt := top 33
abbrev sHitCounts : Stmt := top 34
abbrev sFirst : Stmt := top 35
abbrev sNext : Stmt := top 36
abbrev sRefSq : Stmt := top 37
abbrev sRefOrd : Stmt := top 38
abbrev sRefNum : Stmt := top 39
abbrev sCellsHit : Stmt := top 40
abbrev sFirstOf : Stmt := top 41
abbrev sHitsBy : Stmt := top 42
abbrev sHitsAt : Stmt := top 43
abbrev sCountsBy : Stmt := top 44
abbrev sIsNum : Stmt := top 45
abbrev lCellAt : Stmt := top 47
abbrev lPot : Stmt := top 48
abbrev lTake : Stmt := top 49
abbrev lBoard : Stmt := top 50
abbrev lOrder : Stmt := top 51
abbrev lKind : Stmt := top 52
abbrev lTold : Stmt := top 53
abbrev lNoOrder : Stmt := top 54
abbrev lNoList : Stmt := top 55
abbrev sLaw : Stmt := top 56
def spWhole : Sp := fun vs H Q _ => ∃ p x, vs = [x] ∧ Kn p H x ∧ Q (.bl (isI x)) H
section
variable {P : Program} {w : World} {K : PySem.W.Frag} {mg : Str → Option Value} {base : Heap}
theorem scCellAt : FnScope ["_law_script", "_law_k"] ["_law_script", "_law_k"] (defScope lCellAt) := ⟨rfl, rfl, rfl, by decide +kernel, rfl, by decide +kernel, by decide +kernel⟩
theorem ok_cellAt {f : Addr} {fd : FuncData} (F : Fun K "_law_cell_at" "_law_cell_at" lCellAt f fd) (T : GlbA mg) : FnOk P w K mg base CX0 1 f fd ["_law_script", "_law_k"] (spCellAt K) := by
  refine F.ok scCellAt (fun vs H Q E h => ?_) (fun cdv A outer s H vs Q E hr h => ?_)
  · obtain ⟨a, ns, k, rfl, _⟩ := h
    rfl
  · obtain ⟨a, ns, n, rfl, hs, hl, h0, k⟩ := h
    refine ⟨_, pss_cons (ps_if (pt_cmpR op_lt (pv 1) (pe_callB call_len_seq (by rfl) T.len bt_len (pa_cons (pv 0) pa_nil)) (nomark _)) (pss_one (ps_ret (pe_ix ix_list (pv 0) (pv 1) (fun _ _ => rfl)))) pss_nil) (pss_one (ps_ret pe_int)), ?_⟩
    refine ⟨_, rfl, _, rfl, a, _, rfl, .inl hs, _, _, rfl, rfl, _, rfl, ?_⟩
    refine ite2 (fun hlt => ?_) (fun _ => k 0)
    have hlt' : n < (ns.map V.int).length := of_decide_eq_true hlt
    rw [List.length_map] at hlt'
    obtain ⟨j, rfl⟩ := Int.eq_ofNat_of_zero_le h0
    have hj : j < ns.length := by omega
    refine ⟨_, rfl, _, rfl, a, _, _, .int ns[j], rfl, rfl, hs, atI_nat ?_, k _⟩
    rw [List.getElem?_map, List.getElem?_eq_getElem hj]; rfl
theorem scPot : FnScope ["_law_cell", "_law_number", "_law_j", "_law_more"] ["_law_cell"] (defScope lPot) := ⟨rfl, rfl, rfl, by decide +kernel, rfl, by decide +kernel, by decide +kernel⟩
theorem ok_pot {f : Addr} {fd : FuncData} (F : Fun K "_law_pot" "_law_pot" lPot f fd) (T : GlbA mg) : FnOk P w K mg base CX0 1 f fd ["_law_cell"] spPot := by
  refine F.ok scPot (fun vs H Q E h => ?_) (fun cdv A outer s H vs Q E hr h => ?_)
  · obtain ⟨c, rfl, _⟩ := h
    rfl
  · obtain ⟨c, rfl, k⟩ := h
    refine ⟨_, pss_cons (ps_if (pt_cmpR op_ge (pv 0) (pe_op op_pow pe_int pe_int) (nomark _)) (pss_one (ps_ret (pe_lst (pa_cons (pe_op op_sub (pv 0) (pe_op op_pow pe_int pe_int)) pa_nil)))) pss_nil)
      (pss_cons (ps_set (i := 1) scPot.nd rfl (Or.inl rfl) pe_int)
      (pss_cons (ps_for PassesOwn.never rfl (pi_range1 (by rfl) T.range (pa_cons pe_int pa_nil)) (pg_name (i := 2) scPot.nd rfl (Or.inl rfl))
        (pss_cons (ps_set (i := 3) scPot.nd rfl (Or.inl rfl) (pe_op op_mod (pe_op op_mul (pe_op op_add (pe_op op_add (pe_op op_mod (pv 0) pe_int) (pe_op op_mul pe_int (pv 2))) pe_int) pe_int) pe_int))
        (pss_cons (ps_set (i := 3) scPot.nd rfl (Or.inl rfl) (pe_op op_mod (pe_op op_add (pe_op op_add (pe_op op_mul (pv 3) (pv 3)) (pe_op op_mul pe_int (pv 2))) pe_int) pe_int))
        (pss_one (ps_set (i := 1) scPot.nd rfl (Or.inl rfl) (pe_op op_add (pe_op op_mul (pv 1) pe_int) (pv 3)))))))
      (pss_one (ps_ret (pe_lst (pa_cons (pv 1) pa_nil)))))), ?_⟩
    refine ⟨_, rfl, _, _, rfl, rfl, ⟨by decide, by decide, by decide⟩, _, _, rfl, rfl, _, rfl, ?_⟩
    refine ite2 (fun _ => ?_) (fun _ => ?_)
    · exact ⟨_, rfl, _, _, rfl, rfl, ⟨by decide, by decide, by decide⟩, _, _, rfl, rfl, by show 1 ≤ sizeLine; decide, fun p hp => k p _ hp⟩
    · refine ⟨64, rfl, by decide, by decide, for_range (n := 64) (fun i σ H2 => ∃ n v u, σ = [some (.int c), some (.int n), v, u] ∧ H2 = H) ⟨0, none, none, rfl, rfl⟩ ?_ ?_⟩
      · rintro i σ H2 hi ⟨n, v, u, rfl, rfl⟩
        have b1 := emod_lt' ((c % 2147483629 + 7919 * (0 + (i : Int)) + 1) * 48271) (m := 2147483647) (by decide)
        refine ⟨_, rfl, _, _, rfl, rfl, by show (0 : Int) < 2147483629; decide, _, rfl, _, _, rfl, rfl, .inl ⟨by decide, by decide⟩, _, _, rfl, rfl, _, _, rfl, rfl, _, _, rfl, rfl, .inr ⟨by decide, by decide⟩, _, _, rfl, rfl, by show (0 : Int) < 2147483647; decide, ?_⟩
        refine ⟨_, rfl, _, rfl, _, _, rfl, rfl, .inl ⟨by omega, by omega⟩, _, rfl, _, _, rfl, rfl, .inl ⟨by decide, by decide⟩, _, _, rfl, rfl, _, _, rfl, rfl, _, _, rfl, rfl, by show (0 : Int) < 2147483587; decide, ?_⟩
        exact ⟨_, rfl, _, _, rfl, rfl, .inr ⟨by decide, by decide⟩, _, rfl, _, _, rfl, rfl, _, _, _, rfl, rfl⟩
      · rintro σ H2 ⟨n, v, u, rfl, rfl⟩
        exact ⟨_, rfl, by show 1 ≤ sizeLine; decide, fun p hp => k p _ hp⟩
theorem scTake : FnScope ["_law_pot_here", "_law_far", "_law_found"] ["_law_pot_here", "_law_far"] (defScope lTake) := ⟨rfl, rfl, rfl, by decide +kernel, rfl, by decide +kernel, by decide +kernel⟩
theorem ok_take {f : Addr} {fd : FuncData} (F : Fun K "_law_take" "_law_take" lTake f fd) (T : GlbA mg) : FnOk P w K mg base CX0 1 f fd ["_law_pot_here", "_law_far"] spTake := by
  refine F.ok scTake (fun vs H Q E h => ?_) (fun cdv A outer s H vs Q E hr h => ?_)
  · obtain ⟨p, n, m, rfl, _⟩ := h
    rfl
  · obtain ⟨p, n, m, rfl, hp, h0, h1, k⟩ := h
    refine ⟨_, pss_cons (ps_set (i := 2) scTake.nd rfl (Or.inl rfl) (pe_op op_mod (pe_ix ix_list (pv 0) pe_int (fun _ _ => rfl)) (pv 1)))
      (pss_cons (ps_asg (pe_op op_fdiv (pe_ix ix_list (pv 0) pe_int (fun _ _ => rfl)) (pv 1)) (pg_sub (pv 0) pe_int set_list))
      (pss_one (ps_ret (pv 2)))), ?_⟩
    have b := emod_lt' n h0
    exact ⟨_, rfl, p, _, _, _, rfl, rfl, SqL.of hp, rfl, _, rfl, _, _, rfl, rfl, h0, _, rfl, p, _, _, _, rfl, rfl, SqL.of hp, rfl, _, rfl, _, _, rfl, rfl, ⟨h0, h1⟩, _, rfl, p, _, _, _, rfl, rfl, hp, rfl, _, rfl, k _ _ b.1 b.2⟩
end
end Rk
set_option Elab.async false
set_option linter.all false
set_option maxRecDepth 100000
set_option maxHeartbeats 4000000
namespace Rk
open PySem PySem.Spec PyProof.Rows L2 _root_.Rd
def spWithin : Sp := fun vs H Q _ => ∃ p x a b, vs = [x, .int a, .int b] ∧ Kn p H x ∧ Q (.bl (within x a b)) H
def ordV (H : Hp) (m : Nat) (x : V) : Bool := match tupOf H x with
  | some ps => decide (ps.length = m) && (ps.all isI && ordI m (ps.map intV))
  | none => false
def spIsOrd : Sp := fun vs H Q _ => ∃ (p : Addr) (m : Nat) (x : V), vs = [.int (m : Nat), x] ∧ KnD p 1 H x ∧ Sm H x ∧ m ≤ 6 ∧ ∀ H', Same H H' → Q (.bl (ordV H m x)) H'
theorem ints_is {ps : List V} (h : ps.all isI = true) : (ps.map intV).map V.int = ps := by
  rw [List.map_map]
  conv => rhs; rw [← List.map_id ps]
  refine List.map_congr_left fun y hy => ?_
  have := List.all_eq_true.mp h y hy
  cases y with
  | int i => rfl
  | _ => cases this
theorem all_within {m : Nat} {ps : List V} (h : ps.all (fun y => within y 0 ((m : Int) - 1)) = true) : ps.all isI = true := by
  rw [List.all_eq_true] at h ⊢
  intro y hy
  have := h y hy
  cases y with
  | int i => rfl
  | _ => cases this
theorem ord_within {m : Nat} {ps : List V} (hl : ps.length = m) (hi : ps.all isI = true) (h : ordI m (ps.map intV) = true) : ps.all (fun y => within y 0 ((m : Int) - 1)) = true := by
  have p := ord_perm (m := m) (ns := ps.map intV) (by rw [List.length_map]; exact hl) h
  rw [List.all_eq_true] at hi ⊢
  intro y hy
  have := hi y hy
  cases y with
  | int i =>
    have q := mem_rangeI.mp (p.mem_iff.mp (List.mem_map.mpr ⟨_, hy, rfl⟩))
    have q : 0 ≤ i ∧ i < m := q
    show (decide (0 ≤ i) && decide (i ≤ (m : Int) - 1)) = true
    rw [decide_eq_true q.1, decide_eq_true (by omega)]
    rfl
  | _ => cases this
theorem depth_ints0 : ∀ ns : List Int, PyData.depthAll (ns.map PyData.int) = 0
  | [] => by simp [PyData.depthAll]
  | n :: ns => by
    rw [List.map_cons]
    simp [PyData.depthAll, PyData.depth, depth_ints0 ns]
theorem depth_ints (ns : List Int) : PyData.depth (.list (ns.map PyData.int)) ≤ 1 := by
  simp [PyData.depth, depth_ints0 ns]
theorem eqv_all : ∀ (as bs : List Int), PyData.eqvAll (as.map PyData.int) (bs.map PyData.int) = decide (as = bs)
  | [], [] => by simp [PyData.eqvAll]
  | [], b :: bs => by simp [PyData.eqvAll]
  | a :: as, [] => by simp [PyData.eqvAll]
  | a :: as, b :: bs => by
    rw [List.map_cons, List.map_cons]
    have e : PyData.eqvAll (PyData.int a :: as.map PyData.int) (PyData.int b :: bs.map PyData.int) = (PyData.eqv (.int a) (.int b) && PyData.eqvAll (as.map PyData.int) (bs.map PyData.int)) := by simp [PyData.eqvAll]
    rw [e, eqv_all as bs]
    by_cases h : a = b
    · subst h
      simp [PyData.eqv]
    · simp [PyData.eqv, h]
theorem eqv_ints (as bs : List Int) : PyData.eqv (.list (as.map PyData.int)) (.list (bs.map PyData.int)) = decide (as = bs) := by
  rw [← eqv_all]
  simp [PyData.eqv]
theorem range_ints (m : Nat) : (List.range ((m : Nat) : Int).toNat).map (fun i => V.int (i : Nat)) = (rangeI m).map V.int := by
  unfold rangeI
  rw [List.map_map, Int.toNat_natCast]
  rfl
theorem nd_pm : (["part", "many"] : List Str).Nodup := by decide +kernel
def numT (H : Hp) (x : V) : List Int := ((tupOf H x).getD []).map intV
theorem ordV_kx {p : Addr} {H H' : Hp} (k : KX p H H') {m : Nat} {x : V} (n : Kn p H x) : ordV H' m x = ordV H m x := by
  unfold ordV
  rw [tupOf_keep k n]
theorem ord_parts {H : Hp} {m : Nat} {x : V} (e : ordV H m x = true) : ∃ a, x = .ref a ∧ H a = some (.tup ((numT H x).map V.int)) ∧ (numT H x).length = m := by
  unfold ordV at e
  cases ht : tupOf H x with
  | none => rw [ht] at e; cases e
  | some ps =>
    rw [ht] at e
    obtain ⟨a, rfl, ha⟩ := tupOf_get ht
    have e1 := Bool.and_eq_true_iff.mp e
    have e2 := Bool.and_eq_true_iff.mp e1.2
    have en : numT H (.ref a) = ps.map intV := by unfold numT; rw [ht]; rfl
    refine ⟨a, rfl, ?_, ?_⟩
    · rw [en, ints_is e2.1]; exact ha
    · rw [en, List.length_map]; exact of_decide_eq_true e1.1
def spOthers : Sp := fun vs H Q _ => ∃ (k : Nat) (t : Addr) (rs : List Int), vs = [.int (k : Nat), .ref t] ∧ H t = some (.tup (rs.map V.int)) ∧ k ≤ 6 ∧ ∀ l H', Same H H' → H l = none → H' l = some (.lst ((othersI k rs).map V.int)) → Q (.ref l) H'
theorem nd_nn : (["number", "numbers"] : List Str).Nodup := by decide +kernel
def spAll : Sp := fun vs H Q _ => ∃ (m : Nat), vs = [.int (m : Nat)] ∧ m ≤ 6 ∧ ∀ l H' ys, Same H H' → H l = none → H' l = some (.lst ys) → Dats H' ys ((ordsI m m).map intsD) → Q (.ref l) H'
def spCellsHit : Sp := fun vs H Q _ => ∃ (p q : Addr) (h w : Int) (L : List (Int × Int)) (t : Addr) (o : List Int), vs = [.ref q, .ref t] ∧ BoardAt p H q h w L ∧ H t = some (.tup (o.map V.int)) ∧ o.length ≤ 6 ∧ ∀ v H', Same H H' → Dat H' v (.tuple ((hitI L o).map pairD)) → Q v H'
def spRefSq (CS : Addr) : Sp := fun vs H Q E => ∃ p q h w L, vs = [.ref q] ∧ BoardAt p H q h w L ∧ (h ≠ w → E (.ref CS) none H) ∧ (h = w → Q .non H)
def spRefOrd (CO : Addr) : Sp := fun vs H Q E => ∃ p q h w L x, vs = [.ref q, x] ∧ BoardAt p H q h w L ∧ KnD p 1 H x ∧ Sm H x ∧ (ordV H h.toNat x = false → ∀ H', Same H H' → E (.ref CO) none H') ∧ (ordV H h.toNat x = true → ∀ H', Same H H' → Q .non H')
section
variable {P : Program} {w : World} {K : PySem.W.Frag} {mg : Str → Option Value} {base : Heap}
theorem scWhole : FnScope ["thing"] ["thing"] (defScope sWhole) := ⟨rfl, rfl, rfl, by decide +kernel, rfl, by decide +kernel, by decide +kernel⟩
theorem ok_whole {f : Addr} {fd : FuncData} (F : Fun K "is_whole" "is_whole" sWhole f fd) (T : GlbA mg) : FnOk P w K mg base CX0 1 f fd ["thing"] spWhole := by
  refine F.ok scWhole (fun vs H Q E h => ?_) (fun cdv A outer s H vs Q E hr h => ?_)
  · obtain ⟨p, x, rfl, _⟩ := h
    rfl
  · obtain ⟨p, x, rfl, kn, k⟩ := h
    refine ⟨_, pss_one (ps_ret (pe_and (pe_callB call_isinst (by rfl) T.isinstance bt_isinstance (pa_cons (pv 0) (pa_cons (pe_bltn (v := .ty "int") (by rfl) T.int bt_int rfl) pa_nil)))
      (pe_one (pe_not (pe_callB call_isinst (by rfl) T.isinstance bt_isinstance (pa_cons (pv 0) (pa_cons (pe_bltn (v := .ty "bool") (by rfl) T.bool bt_bool rfl) pa_nil))))))), ?_⟩
    obtain ⟨t, ty, e⟩ := inst_int (K := K) kn
    obtain ⟨t2, ty2, e2⟩ := inst_bool (K := K) kn
    refine ⟨_, rfl, _, t, _, _, rfl, ty, e, _, rfl, ?_⟩
    cases x with
    | int i => exact iteT ⟨_, rfl, _, t2, _, _, rfl, ty2, e2, _, rfl, k⟩
    | bl i => exact iteT ⟨_, rfl, _, t2, _, _, rfl, ty2, e2, _, rfl, k⟩
    | _ => exact iteF k
theorem scWithin : FnScope ["thing", "least", "most"] ["thing", "least", "most"] (defScope sWithin) := ⟨rfl, rfl, rfl, by decide +kernel, rfl, by decide +kernel, by decide +kernel⟩
theorem ok_within {f f1 : Addr} {fd fd1 : FuncData} (F : Fun K "is_whole_within" "is_whole_within" sWithin f fd) (T : GlbA mg) (m1 : mg "is_whole" = some (.ref f1)) (F1 : Fun K "is_whole" "is_whole" sWhole f1 fd1) (b1 : Binds K fd1 ["thing"] []) (k1 : PySem.W.keepIn K (.ref f1) = true) :
    FnOk P w K mg base CX0 2 f fd ["thing", "least", "most"] spWithin := by
  have G1 : FnOk P w K mg base CX0 1 f1 fd1 ["thing"] spWhole := ok_whole F1 T
  refine F.ok scWithin (fun vs H Q E h => ?_) (fun cdv A outer s H vs Q E hr h => ?_)
  · obtain ⟨p, x, a, b, rfl, _⟩ := h
    rfl
  · obtain ⟨p, x, a, b, rfl, kn, k⟩ := h
    refine ⟨_, pss_one (ps_ret (pe_and (pe_call G1 (hr.mono (by decide)) (by rfl) m1 k1 b1 .nil pass0 (pa_cons (pv 0) pa_nil)) (pe_one (pe_chain op_le op_le (pv 1) (pv 0) (pv 2))))), ?_⟩
    refine ⟨_, rfl, p, x, rfl, kn, _, rfl, ?_⟩
    cases x with
    | int i =>
      refine iteT ⟨_, rfl, _, rfl, _, _, rfl, rfl, _, rfl, ?_⟩
      cases hd : decide (a ≤ i) with
      | true =>
        refine iteT ⟨_, rfl, _, _, rfl, rfl, ?_⟩
        have e : within (.int i) a b = decide (i ≤ b) := by rw [within_int, hd, Bool.true_and]
        rw [e] at k; exact k
      | false =>
        refine iteF ?_
        have e : within (.int i) a b = false := by rw [within_int, hd, Bool.false_and]
        rw [e] at k; exact k
    | _ => exact iteF k
theorem scOrder : FnScope ["many", "thing"] ["many", "thing"] (defScope sOrder) := ⟨rfl, rfl, rfl, by decide +kernel, rfl, by decide +kernel, by decide +kernel⟩
theorem ok_isOrder {f f1 : Addr} {fd fd1 : FuncData} (F : Fun K "is_order" "is_order" sOrder f fd) (T : GlbA mg) (m1 : mg "is_whole_within" = some (.ref f1)) (G1 : FnOk P w K mg base CX0 2 f1 fd1 ["thing", "least", "most"] spWithin) (b1 : Binds K fd1 ["thing", "least", "most"] []) (k1 : PySem.W.keepIn K (.ref f1) = true) :
    FnOk P w K mg base CX0 3 f fd ["many", "thing"] spIsOrd := by
  refine F.ok scOrder (fun vs H Q E h => ?_) (fun cdv A outer s H vs Q E hr h => ?_)
  · obtain ⟨p, m, x, rfl, _⟩ := h
    rfl
  · obtain ⟨p, m, x, rfl, kn, hl, hm6, k⟩ := h
    refine ⟨_, pss_cons (ps_if (PW.pt (pw_or (pt_not (pt_val (pe_callB call_isinst (by rfl) T.isinstance bt_isinstance (pa_cons (pv 1) (pa_cons (pe_bltn (v := .ty "tuple") (by rfl) T.tuple bt_tuple rfl) pa_nil)))))
        (pw_or1 (pt_cmpR op_ne (pe_callB call_len_seq (by rfl) T.len bt_len (pa_cons (pv 1) pa_nil)) (pv 0) (nomark _))))) (pss_one (ps_ret pe_bl)) pss_nil)
      (pss_cons (ps_if (pt_not (pt_val (pe_callB call_all (by rfl) T.all bt_all (pa_cons (pe_lcomp (M := ["part", "many"]) (cap := [none, some 0]) (g := gName 0) (tc := tNoTest) (te := tCall spWithin [] E0 (tCons (tVar 0) (tCons (tC (.int 0)) (tCons (tOp (rI0 fun i j => .int (i - j)) (tVar 1) (tC (.int 1))) tNil)))) rfl (by rfl)
        (pi_tup (pv 1)) (fun cl ex s3 H3 C => ⟨pg_name (i := 0) nd_pm rfl (Or.inl rfl) (Or.inr rfl), pts_nil, pe_call G1 (hr.mono (by decide)) (by rfl) m1 k1 b1 .nil pass0 (pa_cons (pv 0) (pa_cons pe_int (pa_cons (pe_op op_sub (pv 1) pe_int) pa_nil)))⟩)) pa_nil)))) (pss_one (ps_ret pe_bl)) pss_nil)
      (pss_one (ps_ret (pe_cmpR op_eqD (pe_callB call_sortI (by rfl) T.sorted L2.boot_sorted (pa_cons (pv 1) pa_nil)) (pe_callTy (call_lstRng rfl) (by rfl) T.list bt_list (pa_cons (pe_range (by rfl) T.range (pa_cons (pv 0) pa_nil)) pa_nil)) (nomark _))))), ?_⟩
    obtain ⟨t, ty, e⟩ := inst_tuple (K := K) kn.kn
    refine ⟨_, rfl, _, t, _, _, rfl, ty, e, _, rfl, ?_⟩
    cases ht : tupOf H x with
    | none =>
      have e1 : isT H x = false := by unfold isT; rw [ht]; rfl
      have e2 : ordV H m x = false := by unfold ordV; rw [ht]
      rw [e1]
      rw [e2] at k
      exact iteT (iteT (k H (Same.refl H)))
    | some ps =>
      have e1 : isT H x = true := by unfold isT; rw [ht]; rfl
      rw [e1]
      obtain ⟨a, rfl, ha⟩ := tupOf_get ht
      have hln := hl ps ht
      have e2 : ordV H m (.ref a) = (decide (ps.length = m) && (ps.all isI && ordI m (ps.map intV))) := by unfold ordV; rw [ht]
      rw [e2] at k
      refine iteF ?_
      refine ⟨_, rfl, a, ps, rfl, .inr (SqT.of ha), _, rfl, rfl, _, rfl, ?_⟩
      by_cases hlm : ps.length = m
      · rw [decide_eq_true hlm, Bool.true_and] at k
        refine iteNS (by rw [hlm]) ?_
        refine ⟨_, rfl, a, rfl, ⟨ps, SqT.of ha⟩, fun q hq => ?_⟩
        have hL : (ps.map (fun y => within y 0 ((m : Int) - 1))).length = ps.length := List.length_map _
        refine comp_bools (ps.map (fun y => within y 0 ((m : Int) - 1))).length (by rw [hL]; exact hln) (fun i => (ps.map (fun y => within y 0 ((m : Int) - 1))).getD i false) hq (fun i H2 hi2 s2 => ?_) (fun H2 s2 => ?_) fun H2 s2 e2 => ?_
        · rw [hL] at hi2
          refine ⟨⟨ps, ps[i], SqT.of (s2 a _ ha), List.getElem?_eq_getElem hi2⟩, fun v H3 ⟨eH, ev⟩ kk hk => ?_⟩
          subst eH
          have ev' := ev ps (SqT.of (s2 a _ ha))
          have knv : Kn p H v := kn.2 ps ht v (List.mem_of_getElem? ev')
          have eF : (ps.map (fun y => within y 0 ((m : Int) - 1))).getD i false = within v 0 ((m : Int) - 1) := by rw [List.getD_eq_getElem?_getD, List.getElem?_map, ev']; rfl
          rw [eF] at hk
          exact ⟨⟨rfl, trivial⟩, _, rfl, _, rfl, _, _, rfl, rfl, p, v, 0, (m : Int) - 1, rfl, knv.keep (KX.of s2), hk _ (Same.refl _)⟩
        · exact ⟨ps, SqT.of (s2 a _ ha), by rw [hL]; exact Nat.le_refl _⟩
        · refine ⟨q, _, rfl, SqL.of e2, rfl, _, rfl, ?_⟩
          rw [range_getD]
          have e3 : (ps.map (fun y => within y 0 ((m : Int) - 1))).all id = ps.all (fun y => within y 0 ((m : Int) - 1)) := by rw [List.all_map]; rfl
          rw [e3]
          cases hall : ps.all (fun y => within y 0 ((m : Int) - 1)) with
          | false =>
            have e4 : (ps.all isI && ordI m (ps.map intV)) = false := by
              cases h1 : ps.all isI with
              | false => rfl
              | true =>
                cases h2 : ordI m (ps.map intV) with
                | false => rfl
                | true => rw [ord_within hlm h1 h2] at hall; cases hall
            rw [e4] at k
            exact iteT (k H2 s2)
          | true =>
            have hI := all_within hall
            rw [hI, Bool.true_and] at k
            have hi := ints_is hI
            refine iteF ⟨_, rfl, a, ps.map intV, rfl, SqT.of (by rw [hi]; exact s2 a _ ha), by rw [List.length_map]; omega, fun t3 ms H3 s3 n3 e3 pm pw => ?_⟩
            refine ⟨_, rfl, (m : Int), rfl, fun r H4 s4 n4 e4 => ⟨r, (m : Int), rfl, e4, by omega, by omega, fun t5 H5 s5 n5 e5 => ?_⟩⟩
            rw [range_ints] at e5
            refine ⟨.list (ms.map PyData.int), .list ((rangeI m).map PyData.int), .lst (s5 _ _ (s4 _ _ e3)) (dats_ints ms), .lst e5 (dats_ints _), ?_, ?_⟩
            · have := hr.units
              have d1 := depth_ints ms
              have d2 := depth_ints (rangeI m)
              show (A.deeper (envOfC "is_order" (defScope sOrder) s.heap.objs.size f cdv)).units + min _ _ < cLine
              omega
            · rw [eqv_ints, ord_sorted (by rw [List.length_map]; exact hlm) pm pw]
              exact k H5 (((s2.trans s3).trans s4).trans s5)
      · rw [decide_eq_false hlm, Bool.false_and] at k
        have e5 : decide (V.int (ps.length : Nat) = V.int (m : Nat)) = false := decide_eq_false fun z => hlm (by injection z with z; omega)
        rw [e5]
        exact iteT (k H (Same.refl H))
theorem scOthers : FnScope ["many", "numbers"] ["many", "numbers"] (defScope sOthers) := ⟨rfl, rfl, rfl, by decide +kernel, rfl, by decide +kernel, by decide +kernel⟩
theorem ok_others {f : Addr} {fd : FuncData} (F : Fun K "others" "others" sOthers f fd) (T : GlbA mg) : FnOk P w K mg base CX0 1 f fd ["many", "numbers"] spOthers := by
  refine F.ok scOthers (fun vs H Q E h => ?_) (fun cdv A outer s H vs Q E hr h => ?_)
  · obtain ⟨k, t, rs, rfl, _⟩ := h
    rfl
  · obtain ⟨n, t, rs, rfl, ht, hn, k⟩ := h
    refine ⟨_, pss_one (ps_ret (pe_lcomp (M := ["number", "numbers"]) (cap := [none, some 1]) (g := gName 0) (tc := tTest (tOp (rIn K true) (tVar 0) (tVar 1))) (te := tVar 0) rfl (by rfl)
      (pi_range1 (by rfl) T.range (pa_cons (pv 0) pa_nil))
      (fun cl ex s3 H3 C => ⟨pg_name (i := 0) nd_nn rfl (Or.inl rfl) (Or.inr rfl), pts_one (pt_cmpR op_notIn_seq (pv 0) (pv 1) (by rfl)), pv 0⟩))), ?_⟩
    refine ⟨_, rfl, _, rfl, by omega, by omega, fun p hp => ?_⟩
    refine comp_fil n (lt_line (by omega)) (fun i => if (i : Int) ∈ rs then none else some (.int (i : Nat))) hp (fun i H2 hi s2 => ?_) (fun H2 s2 => ?_) fun H2 s2 e2 => ?_
    · refine ⟨?_, fun x H3 ⟨eH, ev⟩ kn kv h1 h2 => ?_⟩
      · show i < _
        omega
      subst eH ev
      refine ⟨⟨rfl, trivial⟩, _, rfl, _, rfl, t, _, rfl, .inr (SqT.of (s2 _ _ ht)), rfl, flat_ints rs, _, rfl, ?_⟩
      rw [Int.zero_add, in_ints]
      by_cases h : (i : Int) ∈ rs
      · rw [decide_eq_true h]
        rw [if_pos h] at h1
        exact iteF (h1 rfl _ (Same.refl _))
      · rw [decide_eq_false h]
        rw [if_neg h] at h2
        exact iteT ⟨_, rfl, h2 _ rfl _ (Same.refl _)⟩
    · show _ ≤ _
      omega
    · refine k p H2 s2 hp ?_
      rw [e2]
      unfold othersI
      rw [List.map_filterMap]
      refine congrArg (fun g => some (HO.lst (List.filterMap g (List.range n)))) (funext fun i => ?_)
      by_cases h : (i : Int) ∈ rs
      · rw [if_pos h, if_pos h]; rfl
      · rw [if_neg h, if_neg h]; rfl
theorem nd_allOrders1 : (["order", "number", "many"] : List Str).Nodup := by decide +kernel
theorem sc_allOrders : FnScope ["many", "orders", "step"] ["many"] (defScope sAll) := ⟨rfl, rfl, rfl, by decide +kernel, rfl, by decide +kernel, by decide +kernel⟩
theorem ok_allOrders {f f1  : Addr} {fd fd1 : FuncData} (F : Fun K "all_orders" "all_orders" sAll f fd) (T : GlbA mg)
    (m1 : mg "others" = some (.ref f1)) (G1 : FnOk P w K mg base CX0 1 f1 fd1 ["many", "numbers"] spOthers) (b1 : Binds K fd1 ["many", "numbers"] []) (k1 : PySem.W.keepIn K (.ref f1) = true) :
    FnOk P w K mg base CX0 2 f fd ["many"] spAll := by
  refine F.ok sc_allOrders (fun vs H Q E h => ?_) (fun cdv A outer s H vs Q E hr h => ?_)
  · obtain ⟨m, rfl, _⟩ := h
    rfl
  · obtain ⟨m, rfl, hm6, k⟩ := h
    have un := hr.units
    refine ⟨_, pss_cons (ps_set (i := 1) sc_allOrders.nd rfl (by first | exact Or.inl rfl | exact Or.inr rfl) (pe_lstW (pa_c (pe_tupW pa_nil) pa_nil)))
      (pss_cons (ps_for PassesOwn.never rfl (pi_range1 (by rfl) T.range (pa_cons (pv 0) pa_nil)) (pg_name (i := 2) sc_allOrders.nd rfl (by first | exact Or.inl rfl | exact Or.inr rfl))
        (pss_one (ps_lcomp2 (i := 1) (M := ["order", "number", "many"]) (cap := [none, none, some 0]) (g := (gName 0)) (tc := tNoTest) (wi2 := (iList K (tCall spOthers [] E0 (tCons (tVar 2) (tCons (tVar 0) tNil))))) (g2 := (gName 1)) (tc2 := tNoTest) (te := (tOp rCatA (tVar 0) (tTupW (tCons (tVar 1) tNil)))) sc_allOrders.nd rfl rfl rfl (by rfl) (pi_list (pv 1)) (fun cl ex s3 H3 C => ⟨(pg_name (i := 0) nd_allOrders1 rfl (Or.inl rfl) (Or.inr rfl)), pts_nil, (pi_list (pe_call G1 (hr.mono (by decide)) (by rfl) m1 k1 b1 .nil pass0 (pa_cons (pv 2) (pa_cons (pv 0) pa_nil)))), (pg_name (i := 1) nd_allOrders1 rfl (Or.inl rfl) (Or.inr rfl)), pts_nil, (pe_op op_catA (pv 0) (pe_tupW (pa_c (pv 1) pa_nil)))⟩))))
      (pss_one (ps_ret (pv 1)))), ?_⟩
    refine ⟨Nat.zero_le _, fun t0 H1 s1 n1 e1 => ⟨by show 1 ≤ 1000; decide, fun l0 H2 s2 n2 e2 => ?_⟩⟩
    refine ⟨_, rfl, _, rfl, by omega, by omega, for_range (n := m) (fun i σ H3 => ∃ l v ys, σ = [some (.int (m : Nat)), some (.ref l), v] ∧ Same H H3 ∧ H l = none ∧ H3 l = some (.lst ys) ∧ Dats H3 ys ((ordsI m i).map intsD))
      ⟨l0, none, _, rfl, s1.trans s2, s1.free n2, e2, .cons (intsD_dat (ns := []) (s2 _ _ e1)) .nil⟩ ?_ ?_⟩
    · rintro i σ H3 hi ⟨l, v, ys, rfl, s3, nl, e3, d3⟩
      refine ⟨_, rfl, l, rfl, ⟨ys, SqL.of e3⟩, fun pl hpl => ?_⟩
      have hlen : ys.length = (ordsI m i).length := by have := d3.length; rwa [List.length_map] at this
      have hsm := ordsI_small hm6 (show i ≤ 6 by omega)
      refine comp2_dat (ordsI m i).length (fun k => (othersI m ((ordsI m i).getD k [])).length) (fun k j => some (intsD ((ordsI m i).getD k [] ++ [(othersI m ((ordsI m i).getD k [])).getD j 0]))) (fun _ _ _ _ d e => by cases e; exact noL_intsD _) (fun k hk => ?_) hpl (fun k H4 hk s4 ⟨zs0, ez0⟩ => ?_) (fun H4 s4 => ⟨ys, SqL.of (s4 _ _ e3), by omega⟩) fun H4 zs s4 e4 d4 => ?_
      · have h1 := rowsD_len (F := fun k j => some (intsD ((ordsI m i).getD k [] ++ [(othersI m ((ordsI m i).getD k [])).getD j 0]))) (m := fun k => (othersI m ((ordsI m i).getD k [])).length) (B := 6) (fun k => Nat.le_trans (othersI_len' _ _) hm6) k
        have h2 := othersI_len' m ((ordsI m i).getD k [])
        exact line_ge (by omega)
      · have hk' : k < ys.length := by omega
        refine ⟨⟨ys, ys[k], SqL.of (s4 _ _ e3), List.getElem?_eq_getElem hk'⟩, fun x H5 ⟨eH, ev⟩ k2 kk hkk => ?_⟩
        subst eH
        have ex := ev ys (SqL.of (s4 _ _ e3))
        obtain ⟨d, hd, qd⟩ := d3.get k x ex
        have ed : d = intsD ((ordsI m i).getD k []) := by
          rw [List.getElem?_map, List.getElem?_eq_getElem hk] at hd
          cases hd
          rw [List.getD_eq_getElem?_getD, List.getElem?_eq_getElem hk]
          rfl
        subst ed
        obtain ⟨t, rfl, et⟩ := dat_intsD qd
        have olen : ((ordsI m i).getD k []).length ≤ 6 := by
          rw [List.getD_eq_getElem?_getD, List.getElem?_eq_getElem hk]
          have := ordsI_mem (List.getElem_mem hk)
          show (ordsI m i)[k].length ≤ 6
          omega
        generalize (ordsI m i).getD k [] = o at *
        have et4 := s4 _ _ et
        refine ⟨⟨rfl, trivial⟩, iteT ⟨_, rfl, _, rfl, m, t, o, rfl, s4 _ _ et, hm6, fun l2 H6 s6 n6 e6 => ⟨l2, rfl, ⟨_, SqL.of e6⟩, hkk _ _ _ s6 ⟨fun j H7 hj s7 x7 ⟨ws, ew⟩ => ?_, fun H7 s7 x7 => ?_⟩⟩⟩⟩
        · have n2 : l2 ≠ pl := nd_of ez0 n6
          have e67 := x7 _ _ n2 e6
          have hj' : ((othersI m o).map V.int)[j]? = some (.int ((othersI m o).getD j 0)) := by
            rw [List.getElem?_map, List.getD_eq_getElem?_getD, List.getElem?_eq_getElem hj]
            rfl
          refine ⟨⟨_, _, SqL.of e67, hj'⟩, fun y H8 ⟨eH8, ev8⟩ kn kv h1 h2 => ?_⟩
          subst eH8
          have ey := ev8 _ (SqL.of e67)
          rw [hj'] at ey
          cases ey
          refine ⟨⟨rfl, rfl, trivial⟩, no_test ?_⟩
          refine ⟨_, rfl, _, rfl, by show 1 ≤ 1000; decide, fun t2 H9 s9 n9 e9 => ⟨t, t2, _, _, rfl, rfl, s9 _ _ (s7 _ _ et), e9, ?_, fun t3 H10 s10 e10 => ?_⟩⟩
          · rw [List.length_map]
            exact Nat.le_of_lt (line_ge (by have := olen; show o.length + 1 ≤ _; omega))
          · refine h2 _ _ H10 rfl (s9.trans s10) (intsD_dat ?_)
            rw [e10, List.map_append]
            rfl
        · have n2 : l2 ≠ pl := nd_of ez0 n6
          exact ⟨_, SqL.of (x7 _ _ n2 e6), by rw [List.length_map]; omega⟩
      · refine ⟨pl, _, zs, rfl, s3.trans s4, s3.free hpl, e4, ?_⟩
        have e : rowsD (fun k j => some (intsD ((ordsI m i).getD k [] ++ [(othersI m ((ordsI m i).getD k [])).getD j 0]))) (fun k => (othersI m ((ordsI m i).getD k [])).length) (ordsI m i).length = (ordsI m (i + 1)).map intsD := by
          unfold rowsD
          have h1 : ∀ o : List Int, (List.range (othersI m o).length).filterMap (fun j => some (intsD (o ++ [(othersI m o).getD j 0]))) = ((othersI m o).map fun x => o ++ [x]).map intsD := fun o => by
            rw [range_some (othersI m o) 0 (fun x => intsD (o ++ [x])), List.map_map]
            rfl
          have h2 := range_flat (ordsI m i) [] (fun o => ((othersI m o).map fun x => o ++ [x]).map intsD)
          simp only [h1]
          rw [h2]
          show _ = ((ordsI m i).flatMap fun o => (othersI m o).map fun x => o ++ [x]).map intsD
          rw [List.map_flatMap]
        rw [e] at d4
        exact d4
    · rintro σ H3 ⟨l, v, ys, rfl, s3, nl, e3, d3⟩
      exact ⟨_, rfl, k l H3 ys s3 nl e3 d3⟩
theorem nd_cellsHit1 : (["row", "column", "board"] : List Str).Nodup := by decide +kernel
theorem sc_cellsHit : FnScope ["board", "order"] ["board", "order"] (defScope sCellsHit) := ⟨rfl, rfl, rfl, by decide +kernel, rfl, by decide +kernel, by decide +kernel⟩
theorem ok_cellsHit {f   : Addr} {fd  : FuncData} (F : Fun K "cells_hit" "cells_hit" sCellsHit f fd) (T : GlbA mg) :
    FnOk P w K mg base CX0 1 f fd ["board", "order"] spCellsHit := by
  refine F.ok sc_cellsHit (fun vs H Q E h => ?_) (fun cdv A outer s H vs Q E hr h => ?_)
  · obtain ⟨p, q, h, w', L, t, o, rfl, _⟩ := h
    rfl
  · obtain ⟨p, q, h, w', L, t, o, rfl, B, ht, ho6, k⟩ := h
    have un := hr.units
    refine ⟨_, pss_one (ps_ret (pe_callTy call_tuple_of (by rfl) T.tuple bt_tuple (pa_cons (pe_lcomp (M := ["row", "column", "board"]) (cap := [none, none, some 0]) (g := (gTup K 2 (gCons (gName 0) (gCons (gName 1) gNil)))) (tc := (tTest (tOp (rInU (A.deeper (envOfC "cells_hit" (defScope sCellsHit) s.heap.objs.size f cdv)).in1.units false) (tTupW (tCons (tVar 0) (tCons (tVar 1) tNil))) (tOp (rIxT K) (tVar 2) (tC (.int 2)))))) (te := (tTupW (tCons (tVar 0) (tCons (tVar 1) tNil)))) rfl (by rfl) (pi_enumT (by rfl) T.enumerate (pa_cons (pv 1) pa_nil)) (fun cl ex s3 H3 C => ⟨(pg_tup rfl (pgs_cons (pg_name (i := 0) nd_cellsHit1 rfl (Or.inl rfl) (Or.inr rfl)) (pgs_cons (pg_name (i := 1) nd_cellsHit1 rfl (Or.inl rfl) (Or.inr rfl)) pgs_nil))), (pts_one (pt_cmpR op_inU (pe_tupW (pa_c (pv 0) (pa_c (pv 1) pa_nil))) (pe_ix ix_tup (pv 2) pe_int (fun _ _ => rfl)) (by rfl))), (pe_tupW (pa_c (pv 0) (pa_c (pv 1) pa_nil)))⟩)) pa_nil))), ?_⟩
    obtain ⟨c, ps, nc, e1, e2, cs⟩ := B.it
    refine ⟨_, rfl, t, _, rfl, ht, fun pl hpl => ?_⟩
    refine comp_dat o.length (line_ge (by omega)) (fun i => if ((i : Int), o.getD i 0) ∈ L then some (pairD ((i : Int), o.getD i 0)) else none) (fun i _ d e => ?_) hpl (fun i H2 hi s2 _ => ?_) (fun H2 s2 => ⟨_, s2 _ _ ht, List.length_map _⟩) fun H2 ys s2 ey dy => ?_
    · split at e
      · cases e; exact noL_pair _
      · cases e
    · have hi' : (o.map V.int)[i]? = some (.int (o.getD i 0)) := by
        rw [List.getElem?_map, List.getD_eq_getElem?_getD, List.getElem?_eq_getElem hi]
        rfl
      refine ⟨⟨_, _, s2 _ _ ht, hi'⟩, fun x H3 ⟨a, x', ha, hx, ev, eH⟩ kn kv h1 h2 => ?_⟩
      have ex := hx _ (s2 _ _ ht)
      rw [hi'] at ex
      cases ex
      subst ev eH
      refine ⟨a, [.int (i : Nat), .int (o.getD i 0)], rfl, SqT.of upd_same, rfl, .int (i : Nat), [.int (o.getD i 0)], rfl, .int (o.getD i 0), [], rfl, rfl, ⟨⟨rfl, trivial⟩, ?_⟩⟩
      have s3 := same_upd (o := .tup [.int (i : Nat), .int (o.getD i 0)]) ha
      refine ⟨_, rfl, _, rfl, by show 2 ≤ 1000; decide, fun t4 H4 s4 n4 e4 => ?_⟩
      have S4 := s2.trans (s3.trans s4)
      refine ⟨_, rfl, q, _, 2, .ref c, rfl, rfl, SqT.of (S4 _ _ e1), rfl, c, ps, L.map pairD, pairD ((i : Int), o.getD i 0), rfl, S4 _ _ e2, cs.dats.same S4, .tup e4 (.cons (.int _) (.cons (.int _) .nil)), by rw [depth_pair]; show (A.deeper (envOfC "cells_hit" (defScope sCellsHit) s.heap.objs.size f cdv)).units + 1 + 1 < cLine; omega, _, rfl, ?_⟩
      rw [any_pair]
      by_cases hm : ((i : Int), o.getD i 0) ∈ L
      · rw [decide_eq_true hm]
        refine iteT ⟨_, rfl, _, rfl, by show 2 ≤ 1000; decide, fun t5 H5 s5 n5 e5 => ?_⟩
        exact h2 _ _ H5 (if_pos hm) ((s3.trans s4).trans s5) (.tup e5 (.cons (.int _) (.cons (.int _) .nil)))
      · rw [decide_eq_false hm]
        exact iteF (h1 (if_neg hm) H4 (s3.trans s4))
    · refine ⟨pl, ys, rfl, .inl ⟨SqL.of ey, fun l nl => withS nl fun H3 s3 e3 => ?_⟩⟩
      refine k (.ref l) H3 (s2.trans s3) (.tup e3 ?_)
      have e : (List.range o.length).filterMap (fun (i : Nat) => if ((i : Int), o.getD i 0) ∈ L then some (pairD ((i : Int), o.getD i 0)) else none) = (hitI L o).map pairD := by
        unfold hitI
        rw [List.map_filterMap]
        refine congrArg (fun g => List.filterMap g (List.range o.length)) (funext fun i => ?_)
        by_cases hm : ((i : Int), o.getD i 0) ∈ L
        · rw [if_pos hm, if_pos hm]; rfl
        · rw [if_neg hm, if_neg hm]; rfl
      rw [← e]
      exact dy.same s3
theorem sc_refSq : FnScope ["board"] ["board"] (defScope sRefSq) := ⟨rfl, rfl, rfl, by decide +kernel, rfl, by decide +kernel, by decide +kernel⟩
theorem ok_refSq {f  CS : Addr} {fd  : FuncData} (F : Fun K "refuse_not_square" "refuse_not_square" sRefSq f fd)
    (mCS : mg "NotSquare" = some (.ref CS)) (qCS : PySem.W.excIn K CS Rx.mroV "ValueError.__new__" = true) :
    FnOk P w K mg base (Rx.CXE P w) 1 f fd ["board"] (spRefSq CS) := by
  refine Rx.okE F sc_refSq (fun vs H Q E h => ?_) (fun cdv A outer s H vs Q E hr h => ?_)
  · obtain ⟨p, q, h, w', L, rfl, _⟩ := h
    rfl
  · obtain ⟨p, q, h, w', L, rfl, B, x1, x2⟩ := h
    have un := hr.units
    refine ⟨_, pss_one (ps_if (pt_cmpR op_ne (pe_ix ix_tup (pv 0) pe_int (fun _ _ => rfl)) (pe_ix ix_tup (pv 0) pe_int (fun _ _ => rfl)) (nomark _)) (pss_one (Rx.ps_raise (C := CS) (E := E) (fun _ _ h => h) rfl rfl rfl rfl (by rfl) mCS qCS pe_str)) pss_nil), ?_⟩
    obtain ⟨c, ps, nc, e1, e2, cs⟩ := B.it
    refine ⟨_, rfl, q, _, 0, .int h, rfl, rfl, SqT.of e1, rfl, _, rfl, q, _, 1, .int w', rfl, rfl, SqT.of e1, rfl, rfl, _, rfl, ?_⟩
    by_cases z : h = w'
    · subst z
      exact iteNS rfl (x2 rfl)
    · rw [decide_eq_false (fun y => z (V.int.inj y))]
      exact iteT (x1 z)
theorem sc_refOrd : FnScope ["board", "order"] ["board", "order"] (defScope sRefOrd) := ⟨rfl, rfl, rfl, by decide +kernel, rfl, by decide +kernel, by decide +kernel⟩
theorem ok_refOrd {f f1 CO : Addr} {fd fd1 : FuncData} (F : Fun K "refuse_no_order" "refuse_no_order" sRefOrd f fd)
    (m1 : mg "is_order" = some (.ref f1)) (G1 : FnOk P w K mg base CX0 3 f1 fd1 ["many", "thing"] spIsOrd) (b1 : Binds K fd1 ["many", "thing"] []) (k1 : PySem.W.keepIn K (.ref f1) = true)
    (mCO : mg "NoOrder" = some (.ref CO)) (qCO : PySem.W.excIn K CO Rx.mroV "ValueError.__new__" = true) :
    FnOk P w K mg base (Rx.CXE P w) 4 f fd ["board", "order"] (spRefOrd CO) := by
  refine Rx.okE F sc_refOrd (fun vs H Q E h => ?_) (fun cdv A outer s H vs Q E hr h => ?_)
  · obtain ⟨p, q, h, w', L, x, rfl, _⟩ := h
    rfl
  · obtain ⟨p, q, h, w', L, x, rfl, B, kx, sx, x1, x2⟩ := h
    have un := hr.units
    refine ⟨_, pss_one (ps_if (pt_not (pt_val (pe_call G1 (hr.mono (by decide)) (by rfl) m1 k1 b1 .nil pass0 (pa_cons (pe_ix ix_tup (pv 0) pe_int (fun _ _ => rfl)) (pa_cons (pv 1) pa_nil))))) (pss_one (Rx.ps_raise (C := CO) (E := E) (fun _ _ h => h) rfl rfl rfl rfl (by rfl) mCO qCO pe_str)) pss_nil), ?_⟩
    obtain ⟨c, ps, nc, e1, e2, cs⟩ := B.it
    have hb1 := B.h1
    have hb6 := B.h6
    have hh : h = ((h.toNat : Nat) : Int) := by omega
    refine ⟨_, rfl, q, _, 0, .int h, rfl, rfl, SqT.of e1, rfl, _, rfl, p, h.toNat, x, by rw [← hh]; rfl, kx, sx, by omega, fun H1 s1 => ⟨_, rfl, ?_⟩⟩
    cases hx : ordV H h.toNat x with
    | false => exact iteT (x1 hx H1 s1)
    | true => exact iteF (x2 hx H1 s1)
end
end Rk
set_option Elab.async false
set_option linter.all false
set_option maxRecDepth 100000
set_option maxHeartbeats 4000000
namespace Rk
open PySem PySem.Spec PyProof.Rows L2 _root_.Rd
def sumN : Nat → (Nat → Int) → Int
  | 0, _ => 0
  | n + 1, f => sumN n f + f n
theorem sumN_congr {n : Nat} {f g : Nat → Int} (h : ∀ i, i < n → f i = g i) : sumN n f = sumN n g := by
  induction n with
  | zero => rfl
  | succ n ih => rw [sumN, sumN, ih fun i hi => h i (by omega), h n (by omega)]
theorem sumN_list (n : Nat) (f : Nat → Int) : ((List.range n).map f).sum = sumN n f := by
  induction n with
  | zero => rfl
  | succ n ih => rw [List.range_succ, List.map_append, List.sum_append, ih, sumN]; simp
theorem sumN_zero {n : Nat} {f : Nat → Int} (h : ∀ i, i < n → f i = 0) : sumN n f = 0 := by
  induction n with
  | zero => rfl
  | succ n ih => rw [sumN, ih fun i hi => h i (by omega), h n (by omega)]; rfl
theorem sumN_from {n a : Nat} {f : Nat → Int} (ha : a ≤ n) (h : ∀ i, i < a → f i = 0) : sumN n f = sumN (n - a) fun j => f (a + j) := by
  induction n with
  | zero => have : a = 0 := by omega
            subst this; rfl
  | succ n ih =>
    by_cases z : a = n + 1
    · subst z
      rw [Nat.sub_self, sumN_zero fun i hi => h i hi]
      rfl
    · rw [sumN, ih (by omega), show n + 1 - a = (n - a) + 1 by omega, sumN, show a + (n - a) = n by omega]
def fctI : Nat → Int
  | 0 => 1
  | n + 1 => fctI n * ((n : Int) + 1)
def setI (m : Nat) : Nat → Int
  | 0 => 1
  | i + 1 => setI m i * ((m : Int) - (i : Int)) / ((i : Int) + 1)
def sgnI : Nat → Int
  | 0 => 1
  | j + 1 => - sgnI j
def cof (m s : Nat) : Int := if m ≤ s then sgnI (s - m) * setI s m else 0
theorem fct_all : ∀ n : Fin 13, 0 < fctI n.val ∧ fctI n.val ≤ 479001600 := by decide +kernel
theorem set_all : ∀ m : Fin 14, ∀ k : Fin 14, 0 ≤ setI m.val k.val ∧ setI m.val k.val ≤ 1716 ∧ (m.val < k.val → setI m.val k.val = 0) := by decide +kernel
theorem fct_ok {n : Nat} (h : n ≤ 12) : 0 < fctI n ∧ fctI n ≤ 479001600 := fct_all ⟨n, by omega⟩
theorem set_ok {m k : Nat} (hm : m ≤ 13) (hk : k ≤ 13) : 0 ≤ setI m k ∧ setI m k ≤ 1716 ∧ (m < k → setI m k = 0) := set_all ⟨m, by omega⟩ ⟨k, by omega⟩
theorem sgn_ok : ∀ j, sgnI j = 1 ∨ sgnI j = -1
  | 0 => .inl rfl
  | j + 1 => by
    rw [sgnI]
    rcases sgn_ok j with h | h <;> rw [h]
    · exact .inr rfl
    · exact .inl rfl
def thrI (c : List Int) : List Int := (List.range c.length).map fun s => c.getD s 0 * fctI (c.length - 1 - s)
def hatI (t : List Int) (m : Nat) : Int := sumN t.length fun s => cof m s * t.getD s 0
def hitsI (c : List Int) : List Int := (List.range c.length).map fun m => hatI (thrI c) m
def totI (h : List Int) (i : Nat) : Int := sumN h.length fun m => setI m i * h.getD m 0
def cbyI (h : List Int) : Option (List Int) := if ((List.range h.length).all fun i => decide (totI h i % fctI (h.length - 1 - i) = 0)) = true then some ((List.range h.length).map fun i => totI h i / fctI (h.length - 1 - i)) else none
theorem hat_from {t : List Int} {m : Nat} (hm : m ≤ t.length) : hatI t m = sumN (t.length - m) fun j => sgnI j * setI (m + j) m * t.getD (m + j) 0 := by
  unfold hatI
  rw [sumN_from hm fun i hi => by unfold cof; rw [if_neg (by omega), Int.zero_mul]]
  refine sumN_congr fun j _ => ?_
  unfold cof
  rw [if_pos (by omega), show m + j - m = j by omega]
end Rk
namespace L2
open PySem PySem.Spec PyProof.Rows
section
variable {X : Cx}
theorem ip_of {op : Operator} {r : R2} (h : OpR X (inplaceOp op) r) : PIp X op r := fun pins s σ H x y v u Q I rx ry q => h pins s σ H x y v u Q I rx ry q
def rMinI (K : PySem.W.Frag) : List V → Hp → VK → Prop := fun xs H Q => ∃ (p : Addr) (ns : List Int), xs = [.ref p] ∧ SqL K H p (ns.map V.int) ∧ 0 < ns.length ∧ ∀ m, m ∈ ns → Q (.int m) H
def rDivmodW : List V → Hp → VK → Prop := fun xs H Q => ∃ i j, xs = [.int i, .int j] ∧ CDiv i j ∧ ∀ p H', Same H H' → H p = none → H' p = some (.tup [.int (i / j), .int (i % j)]) → Q (.ref p) H'
theorem call_divmodW : CallR X (.builtin "divmod") rDivmodW := by
  intro pins s σ H xs us Q I r h
  obtain ⟨i, j, e, hc, q⟩ := h
  exact call_divmod pins s σ H xs us Q I r ⟨i, j, e, hc, fun p hp => q p _ (same_upd hp) hp upd_same⟩
end
end L2
set_option Elab.async false
set_option linter.all false
set_option maxRecDepth 100000
set_option maxHeartbeats 4000000
namespace L2
open PySem PySem.Spec PyProof.Rows
section
variable {X : Cx}
theorem call_minI (hc : X.calm = true) : CallR X (.builtin "min") (rMinI X.K) := by
  intro pins s σ H xs us Q I r h
  obtain ⟨p, ns, rfl, hp, hn, q⟩ := h
  obtain ⟨u, rfl, ru⟩ := vals1 r
  cases ru
  obtain ⟨its, rv, pl, hz⟩ := I.list hp
  have hi : IntsAre its ns := intsAre_of rv
  obtain ⟨ys, hx⟩ := hi.allInts.items
  have hl' : s.heap.IsList p (intItems ys) := hx ▸ pl.isList
  have hsz : ys.size = ns.length := by
    have h1 : its.toArray.size = (intItems ys).size := by rw [hx]
    rw [List.size_toArray, hi.length] at h1
    simp [intItems] at h1
    omega
  refine min_intList (I.ok.hd hc) hl' (by omega) fun v h' tk hv hk => ?_
  rw [← hx] at hv
  rw [List.getElem?_toArray] at hv
  obtain ⟨x, hx2, rx⟩ : ∃ x, (ns.map V.int)[argBest (fun i j => decide (numAt ys i < numAt ys j)) (ys.size - 1)]? = some x ∧ RelV x v := by
    have hlen := rv.length
    have hlt := (List.getElem?_eq_some_iff.mp hv).1
    cases e : (ns.map V.int)[argBest (fun i j => decide (numAt ys i < numAt ys j)) (ys.size - 1)]? with
    | none =>
      have := List.getElem?_eq_none_iff.mp e
      omega
    | some x =>
      obtain ⟨w, hw, rw'⟩ := rv.get e
      rw [hw] at hv
      cases hv
      exact ⟨x, rfl, rw'⟩
  obtain ⟨m, hm, rfl⟩ := List.mem_map.mp (List.mem_of_getElem? hx2)
  exact ⟨.int m, H, I.kept hk, rx, q m hm⟩
end
end L2
namespace Rk
open PySem PySem.Spec PyProof.Rows L2 _root_.Rd
def optL : Option (List Int) → PyData
  | none => .none
  | some l => .list (l.map PyData.int)
end Rk
set_option Elab.async false
set_option linter.all false
set_option maxRecDepth 100000
set_option maxHeartbeats 4000000
namespace L2
open PySem PySem.Spec PyProof.Rows
theorem FnOk.or {P : Program} {w : World} {K : PySem.W.Frag} {mg : Str → Option Value} {base : Heap} {CX : CXT} {k : Nat} {f : Addr} {fd : FuncData} {ps : List Str} {sp sp' : Sp} (F : FnOk P w K mg base CX k f fd ps sp) (G : FnOk P w K mg base CX k f fd ps sp') :
    FnOk P w K mg base CX k f fd ps (fun vs H Q E => sp vs H Q E ∨ sp' vs H Q E) :=
  ⟨fun vs H Q E q => q.elim (F.len vs H Q E) (G.len vs H Q E), fun A outer s H args us vs Q E hr he hb hv hs => hs.elim (fun z => F.run A outer s H args us vs Q E hr he hb hv z) fun z => G.run A outer s H args us vs Q E hr he hb hv z⟩
theorem FnOk.ex {P : Program} {w : World} {K : PySem.W.Frag} {mg : Str → Option Value} {base : Heap} {CX : CXT} {k : Nat} {f : Addr} {fd : FuncData} {ps : List Str} {sp : Sp} (F : FnOk P w K mg base CX0 k f fd ps sp) :
    FnOk P w K mg base CX k f fd ps sp :=
  ⟨F.len, fun A outer s H args us vs Q E hr he hb hv hs => codeAny_mono (F.run A outer s H args us vs Q E hr he hb hv hs) fun r s' z => by
    cases r with
    | error e => exact False.elim z
    | ok fl => cases fl <;> exact z⟩
section
variable {X : Cx}
def rMinM (K : PySem.W.Frag) : List V → Hp → VK → Prop := fun xs H Q => ∃ (p : Addr) (ns : List Int), xs = [.ref p] ∧ SqL K H p (ns.map V.int) ∧ 0 < ns.length ∧ ∀ m, m ∈ ns → (∀ y ∈ ns, m ≤ y) → Q (.int m) H
theorem call_minM (hc : X.calm = true) : CallR X (.builtin "min") (rMinM X.K) := by
  intro pins s σ H xs us Q I r h
  obtain ⟨p, ns, rfl, hp, hn, q⟩ := h
  obtain ⟨u, rfl, ru⟩ := vals1 r
  cases ru
  obtain ⟨its, rv, pl, hz⟩ := I.list hp
  have hi : IntsAre its ns := intsAre_of rv
  obtain ⟨ys, hx⟩ := hi.allInts.items
  have hl' : s.heap.IsList p (intItems ys) := hx ▸ pl.isList
  have hsz : ys.size = ns.length := by
    have h1 : its.toArray.size = (intItems ys).size := by rw [hx]
    rw [List.size_toArray, hi.length] at h1
    simp [intItems] at h1
    omega
  have num : ∀ j m, ns[j]? = some m → numAt ys j = m := fun j m e => by
    obtain ⟨w, hw, rw'⟩ := rv.get (i := j) (x := V.int m) (by rw [List.getElem?_map, e]; rfl)
    have h2 : (intItems ys)[j]? = some w := by rw [← hx, List.getElem?_toArray]; exact hw
    unfold intItems at h2
    rw [Array.getElem?_map] at h2
    obtain ⟨y, hy, ey⟩ := Option.map_eq_some_iff.mp h2
    unfold numAt
    rw [hy]
    subst ey
    obtain ⟨t, et⟩ := rw'
    cases et
    rfl
  refine min_intList (I.ok.hd hc) hl' (by omega) fun v h' tk hv hk => ?_
  rw [← hx] at hv
  rw [List.getElem?_toArray] at hv
  have ab := argBest_lt (numAt ys) (ys.size - 1)
  generalize argBest (fun i j => decide (numAt ys i < numAt ys j)) (ys.size - 1) = b at *
  obtain ⟨x, hx2, rx⟩ : ∃ x, (ns.map V.int)[b]? = some x ∧ RelV x v := by
    have hlen := rv.length
    have hlt := (List.getElem?_eq_some_iff.mp hv).1
    cases e : (ns.map V.int)[b]? with
    | none =>
      have := List.getElem?_eq_none_iff.mp e
      omega
    | some x =>
      obtain ⟨w, hw, rw'⟩ := rv.get e
      rw [hw] at hv
      cases hv
      exact ⟨x, rfl, rw'⟩
  rw [List.getElem?_map] at hx2
  obtain ⟨m, hm, rfl⟩ := Option.map_eq_some_iff.mp hx2
  refine ⟨.int m, H, I.kept hk, rx, q m (List.mem_of_getElem? hm) fun y hy => ?_⟩
  obtain ⟨j, hj⟩ := List.mem_iff_getElem?.mp hy
  have hjl := (List.getElem?_eq_some_iff.mp hj).1
  have := ab.2 j (by omega)
  rw [num b m hm, num j y hj] at this
  exact this
end
end L2
namespace Rk
open PySem PySem.Spec PyProof.Rows L2 _root_.Rd
def isLV (H : Hp) : V → Bool
  | .ref a => match H a with
    | some (.lst _) => true
    | _ => false
  | _ => false
theorem isLV_at (H : Hp) (a : Addr) : isLV H (.ref a) = (match H a with | some (.lst _) => true | _ => false) := rfl
theorem inst_list {K : PySem.W.Frag} {p : Addr} {H : Hp} : ∀ {x : V}, Kn p H x → ∃ t, TyOf K H x t ∧ PySem.W.kitOne K t (.type "list") = some (isLV H x)
  | .non, h => ⟨_, .non, rfl⟩
  | .bl _, h => ⟨_, .bl _, rfl⟩
  | .int _, h => ⟨_, .int _, rfl⟩
  | .str _, h => ⟨_, .str _, rfl⟩
  | .ref a, ⟨_, h⟩ => by
    rcases h with ⟨xs, e⟩ | ⟨xs, e⟩ | ⟨xs, e⟩
    · exact ⟨_, .tup e, by rw [isLV_at, e]; rfl⟩
    · exact ⟨_, .lst e, by rw [isLV_at, e]; rfl⟩
    · exact ⟨_, .dK e, by rw [isLV_at, e]; rfl⟩
  | .byt _, h => h.elim
  | .flt _, h => h.elim
  | .ty _, h => h.elim
def NotNum (p : Addr) (H : Hp) (x : V) : Prop := isLV H x = false ∨ ∃ l xs, x = .ref l ∧ H l = some (.lst xs) ∧ xs.length ≤ 20 ∧ (¬ (2 ≤ xs.length ∧ xs.length ≤ 13) ∨ (∀ y ∈ xs, Kn p H y) ∧ xs.all isI = false)
def spIsNumF : Sp := fun vs H Q _ => ∃ p x, vs = [x] ∧ Kn p H x ∧ NotNum p H x ∧ ∀ H', Same H H' → Q (.bl false) H'
theorem NotNum.keep {p : Addr} {H H' : Hp} {x : V} (k : Kn p H x) (s : Same H H') (h : NotNum p H x) : NotNum p H' x := by
  rcases h with z | ⟨l, xs, rfl, e, hl, z⟩
  · refine .inl ?_
    cases x with
    | ref a =>
      obtain ⟨_, ⟨xs, e⟩ | ⟨xs, e⟩ | ⟨xs, e⟩⟩ := k
      · rw [isLV_at, s _ _ e]
      · rw [isLV_at, e] at z; cases z
      · rw [isLV_at, s _ _ e]
    | _ => exact z
  · refine .inr ⟨l, xs, rfl, s _ _ e, hl, ?_⟩
    rcases z with z | ⟨z1, z2⟩
    · exact .inl z
    · exact .inr ⟨fun y hy => (z1 y hy).keep (KX.of s), z2⟩
end Rk
set_option Elab.async false
set_option linter.all false
set_option maxRecDepth 100000
set_option maxHeartbeats 4000000
namespace Rk
open PySem PySem.Spec PyProof.Rows L2 _root_.Rd
def spOrdersP : Sp := fun vs H Q _ => ∃ m : Nat, vs = [.int (m : Nat)] ∧ m ≤ 12 ∧ Q (.int (fctI m)) H
def spSetsP : Sp := fun vs H Q _ => ∃ m k : Nat, vs = [.int (m : Nat), .int (k : Nat)] ∧ m ≤ 12 ∧ k ≤ 12 ∧ Q (.int (setI m k)) H
def spHat : Sp := fun vs H Q _ => ∃ (l : Addr) (t : List Int) (m : Nat), vs = [.ref l, .int (m : Nat)] ∧ H l = some (.lst (t.map V.int)) ∧ t.length ≤ 13 ∧ m < t.length ∧ Q (.int (hatI t m)) H
def spIsNum : Sp := fun vs H Q _ => ∃ (l : Addr) (ns : List Int), vs = [.ref l] ∧ H l = some (.lst (ns.map V.int)) ∧ 2 ≤ ns.length ∧ ns.length ≤ 13 ∧ ∀ H', Same H H' → Q (.bl true) H'
def spHitsBy : Sp := fun vs H Q _ => ∃ (l : Addr) (c : List Int), vs = [.ref l] ∧ H l = some (.lst (c.map V.int)) ∧ 2 ≤ c.length ∧ c.length ≤ 13 ∧ c.getD 0 0 = 1 ∧ (∀ x ∈ c, 0 ≤ x) ∧ ∀ l' H', Same H H' → H l' = none → H' l' = some (.lst ((hitsI c).map V.int)) → Q (.ref l') H'
def spCountsBy : Sp := fun vs H Q _ => ∃ (l : Addr) (h : List Int), vs = [.ref l] ∧ H l = some (.lst (h.map V.int)) ∧ 2 ≤ h.length ∧ h.length ≤ 13 ∧ ∀ v H', Same H H' → Dat H' v (optL (cbyI h)) → Q v H'
def spIsNum2 : Sp := fun vs H Q E => spIsNum vs H Q E ∨ spIsNumF vs H Q E
def spHitsByB (CC : Addr) : Sp := fun vs H Q E => ∃ p x, vs = [x] ∧ Kn p H x ∧ (NotNum p H x ∨ ∃ l c, x = .ref l ∧ H l = some (.lst ((c : List Int).map V.int)) ∧ 2 ≤ c.length ∧ c.length ≤ 13 ∧ (c.getD 0 0 ≠ 1 ∨ ∃ y ∈ c, y < 0)) ∧ ∀ H', Same H H' → E (.ref CC) none H'
def spCountsByB (CH : Addr) : Sp := fun vs H Q E => ∃ p x, vs = [x] ∧ Kn p H x ∧ NotNum p H x ∧ ∀ H', Same H H' → E (.ref CH) none H'
section
variable {P : Program} {w : World} {K : PySem.W.Frag} {mg : Str → Option Value} {base : Heap}
theorem sc_ordersP : FnScope ["many", "told", "number"] ["many"] (defScope sOrders) := ⟨rfl, rfl, rfl, by decide +kernel, rfl, by decide +kernel, by decide +kernel⟩
theorem ok_ordersP {f   : Addr} {fd  : FuncData} (F : Fun K "how_many_orders" "how_many_orders" sOrders f fd) (T : GlbA mg) :
    FnOk P w K mg base CX0 1 f fd ["many"] spOrdersP := by
  refine F.ok sc_ordersP (fun vs H Q E h => ?_) (fun cdv A outer s H vs Q E hr h => ?_)
  · obtain ⟨m, rfl, _⟩ := h
    rfl
  · obtain ⟨m, rfl, hm, k⟩ := h
    have un := hr.units
    refine ⟨_, pss_cons (ps_set (i := 1) sc_ordersP.nd rfl (by first | exact Or.inl rfl | exact Or.inr rfl) pe_int)
      (pss_cons (ps_for PassesOwn.never rfl (pi_range1 (by rfl) T.range (pa_cons (pv 0) pa_nil)) (pg_name (i := 2) sc_ordersP.nd rfl (by first | exact Or.inl rfl | exact Or.inr rfl))
        (pss_one (ps_aug (i := 1) sc_ordersP.nd rfl (by first | exact Or.inl rfl | exact Or.inr rfl) (pe_op op_add (pv 2) pe_int) (ip_of iop_mul))))
      (pss_one (ps_ret (pv 1)))), ?_⟩
    refine ⟨_, rfl, _, rfl, by omega, by omega, for_range (n := m) (fun i σ H2 => ∃ v, σ = [some (.int (m : Nat)), some (.int (fctI i)), v] ∧ H2 = H) ⟨none, rfl, rfl⟩ ?_ ?_⟩
    · rintro i σ H2 hi ⟨v, rfl, rfl⟩
      have := fct_ok (show i ≤ 12 by omega)
      refine ⟨_, rfl, _, rfl, _, _, rfl, rfl, _, _, rfl, rfl, .inl ⟨by omega, by omega⟩, some (.int (0 + (i : Int))), ?_, rfl⟩
      show ([some (V.int (m : Nat)), some (V.int (fctI i * (0 + (i : Int) + 1))), some (V.int (0 + (i : Int)))] : List (Option V)) = _
      rw [show (0 : Int) + (i : Int) + 1 = (i : Int) + 1 by omega]
      rfl
    · rintro σ H2 ⟨v, rfl, rfl⟩
      exact ⟨_, rfl, k⟩
theorem sc_setsP : FnScope ["many", "size", "told", "number"] ["many", "size"] (defScope sSets) := ⟨rfl, rfl, rfl, by decide +kernel, rfl, by decide +kernel, by decide +kernel⟩
theorem ok_setsP {f   : Addr} {fd  : FuncData} (F : Fun K "how_many_sets" "how_many_sets" sSets f fd) (T : GlbA mg) :
    FnOk P w K mg base CX0 1 f fd ["many", "size"] spSetsP := by
  refine F.ok sc_setsP (fun vs H Q E h => ?_) (fun cdv A outer s H vs Q E hr h => ?_)
  · obtain ⟨m, n, rfl, _⟩ := h
    rfl
  · obtain ⟨m, n, rfl, hm, hn, k⟩ := h
    have un := hr.units
    refine ⟨_, pss_cons (ps_set (i := 2) sc_setsP.nd rfl (by first | exact Or.inl rfl | exact Or.inr rfl) pe_int)
      (pss_cons (ps_for PassesOwn.never rfl (pi_range1 (by rfl) T.range (pa_cons (pv 1) pa_nil)) (pg_name (i := 3) sc_setsP.nd rfl (by first | exact Or.inl rfl | exact Or.inr rfl))
        (pss_one (ps_set (i := 2) sc_setsP.nd rfl (by first | exact Or.inl rfl | exact Or.inr rfl) (pe_op op_fdiv (pe_op op_mul (pv 2) (pe_op op_sub (pv 0) (pv 3))) (pe_op op_add (pv 3) pe_int)))))
      (pss_one (ps_ret (pv 2)))), ?_⟩
    refine ⟨_, rfl, _, rfl, by omega, by omega, for_range (n := n) (fun i σ H2 => ∃ v, σ = [some (.int (m : Nat)), some (.int (n : Nat)), some (.int (setI m i)), v] ∧ H2 = H) ⟨none, rfl, rfl⟩ ?_ ?_⟩
    · rintro i σ H2 hi ⟨v, rfl, rfl⟩
      have := set_ok (m := m) (k := i) (by omega) (by omega)
      refine ⟨_, rfl, _, rfl, _, rfl, _, _, rfl, rfl, _, _, rfl, rfl, .inl ⟨by omega, by omega⟩, _, rfl, _, _, rfl, rfl, _, _, rfl, rfl, ⟨by omega, by omega⟩, some (.int (0 + (i : Int))), ?_, rfl⟩
      show ([some (V.int (m : Nat)), some (V.int (n : Nat)), some (V.int (setI m i * ((m : Int) - (0 + (i : Int))) / (0 + (i : Int) + 1))), some (V.int (0 + (i : Int)))] : List (Option V)) = _
      rw [show (0 : Int) + (i : Int) = (i : Int) by omega]
      rfl
    · rintro σ H2 ⟨v, rfl, rfl⟩
      exact ⟨_, rfl, k⟩
theorem sc_hat : FnScope ["through", "many", "told", "sign", "size"] ["through", "many"] (defScope sHitsAt) := ⟨rfl, rfl, rfl, by decide +kernel, rfl, by decide +kernel, by decide +kernel⟩
theorem ok_hat {f f1  : Addr} {fd fd1 : FuncData} (F : Fun K "hits_at" "hits_at" sHitsAt f fd) (T : GlbA mg)
    (m1 : mg "how_many_sets" = some (.ref f1)) (G1 : FnOk P w K mg base CX0 1 f1 fd1 ["many", "size"] spSetsP) (b1 : Binds K fd1 ["many", "size"] []) (k1 : PySem.W.keepIn K (.ref f1) = true) :
    FnOk P w K mg base CX0 2 f fd ["through", "many"] spHat := by
  refine F.ok sc_hat (fun vs H Q E h => ?_) (fun cdv A outer s H vs Q E hr h => ?_)
  · obtain ⟨l, t, m, rfl, _⟩ := h
    rfl
  · obtain ⟨l, t, m, rfl, el, h13, hm, k⟩ := h
    have un := hr.units
    refine ⟨_, pss_cons (ps_set (i := 2) sc_hat.nd rfl (by first | exact Or.inl rfl | exact Or.inr rfl) pe_int)
      (pss_cons (ps_set (i := 3) sc_hat.nd rfl (by first | exact Or.inl rfl | exact Or.inr rfl) pe_int)
      (pss_cons (ps_for PassesOwn.never rfl (pi_range2 (by rfl) T.range (pa_cons (pv 1) (pa_cons (pe_callB call_len_seq (by rfl) T.len bt_len (pa_cons (pv 0) pa_nil)) pa_nil))) (pg_name (i := 4) sc_hat.nd rfl (by first | exact Or.inl rfl | exact Or.inr rfl))
        (pss_cons (ps_aug (i := 2) sc_hat.nd rfl (by first | exact Or.inl rfl | exact Or.inr rfl) (pe_op op_mul (pe_op op_mul (pv 3) (pe_call G1 (hr.mono (by decide)) (by rfl) m1 k1 b1 .nil pass0 (pa_cons (pv 4) (pa_cons (pv 1) pa_nil)))) (pe_ix ix_list (pv 0) (pv 4) (fun _ _ => rfl))) ip_add)
      (pss_one (ps_set (i := 3) sc_hat.nd rfl (by first | exact Or.inl rfl | exact Or.inr rfl) (pe_un un_neg (pv 3))))))
      (pss_one (ps_ret (pv 2))))), ?_⟩
    refine ⟨_, rfl, _, rfl, l, _, rfl, .inl (SqL.of el), _, _, rfl, ⟨by omega, by omega, by rw [List.length_map]; omega, by rw [List.length_map]; omega⟩, ?_⟩
    have hN : (((t.map V.int).length : Int) - (m : Int)).toNat = t.length - m := by rw [List.length_map]; omega
    rw [hN]
    refine for_range (n := t.length - m) (fun i σ H2 => ∃ v, σ = [some (.ref l), some (.int (m : Nat)), some (.int (sumN i fun j => sgnI j * setI (m + j) m * t.getD (m + j) 0)), some (.int (sgnI i)), v] ∧ H2 = H) ⟨none, rfl, rfl⟩ ?_ ?_
    · rintro i σ H2 hi ⟨v, rfl, rfl⟩
      have hs := set_ok (m := m + i) (k := m) (by omega) (by omega)
      have ix : (m : Int) + (i : Int) = ((m + i : Nat) : Int) := by omega
      have sb : -(2 ^ 64) < sgnI i * setI (m + i) m ∧ sgnI i * setI (m + i) m < 2 ^ 64 := by rcases sgn_ok i with z | z <;> rw [z] <;> omega
      refine ⟨_, rfl, _, rfl, _, rfl, _, rfl, m + i, m, by rw [ix]; rfl, by omega, by omega, _, _, rfl, rfl, .inl (by rcases sgn_ok i with z | z <;> rw [z] <;> decide), _, rfl, _, rfl, l, _, _, .int (t.getD (m + i) 0), rfl, rfl, SqL.of el, by rw [ix]; exact ints_ix (by omega), _, _, rfl, rfl, .inl sb, _, _, rfl, rfl, ?_⟩
      exact ⟨_, rfl, _, rfl, _, rfl, rfl⟩
    · rintro σ H2 ⟨v, rfl, rfl⟩
      rw [hat_from (Nat.le_of_lt hm)] at k
      exact ⟨_, rfl, k⟩
theorem nd_isNum1 : (["part"] : List Str).Nodup := by decide +kernel
theorem sc_isNum : FnScope ["thing"] ["thing"] (defScope sIsNum) := ⟨rfl, rfl, rfl, by decide +kernel, rfl, by decide +kernel, by decide +kernel⟩
theorem ok_isNum {f f1  : Addr} {fd fd1 : FuncData} (hA : ∃ t, mg "LEAST_NUMBERS" = some (.int 2 t)) (hB : ∃ t, mg "MOST_NUMBERS" = some (.int 13 t)) (F : Fun K "is_numbers" "is_numbers" sIsNum f fd) (T : GlbA mg)
    (m1 : mg "is_whole" = some (.ref f1)) (G1 : FnOk P w K mg base CX0 1 f1 fd1 ["thing"] spWhole) (b1 : Binds K fd1 ["thing"] []) (k1 : PySem.W.keepIn K (.ref f1) = true) :
    FnOk P w K mg base CX0 2 f fd ["thing"] spIsNum := by
  refine F.ok sc_isNum (fun vs H Q E h => ?_) (fun cdv A outer s H vs Q E hr h => ?_)
  · obtain ⟨l, ns, rfl, _⟩ := h
    rfl
  · obtain ⟨l, ns, rfl, el, h2, h13, k⟩ := h
    have un := hr.units
    obtain ⟨tA, mA⟩ := hA
    obtain ⟨tB, mB⟩ := hB
    refine ⟨_, pss_cons (ps_if (PW.pt (pw_or (pt_not (pt_val (pe_callB call_isinst (by rfl) T.isinstance bt_isinstance (pa_cons (pv 0) (pa_cons (pe_bltn (v := .ty "list") (by rfl) T.list bt_list rfl) pa_nil))))) (pw_or1 (pt_not (pt_chain op_le op_le (pe_glob (v := .int 2) (by rfl) mA ⟨_, rfl⟩) (pe_callB call_len_seq (by rfl) T.len bt_len (pa_cons (pv 0) pa_nil)) (pe_glob (v := .int 13) (by rfl) mB ⟨_, rfl⟩)))))) (pss_one (ps_ret pe_bl)) pss_nil)
      (pss_one (ps_ret (pe_callB call_all (by rfl) T.all bt_all (pa_cons (pe_lcomp (M := ["part"]) (cap := [none]) (g := (gName 0)) (tc := tNoTest) (te := (tCall spWhole [] E0 (tCons (tVar 0) tNil))) rfl (by rfl) (pi_list (pv 0)) (fun cl ex s3 H3 C => ⟨(pg_name (i := 0) nd_isNum1 rfl (Or.inl rfl) (Or.inr rfl)), pts_nil, (pe_call G1 (hr.mono (by decide)) (by rfl) m1 k1 b1 .nil pass0 (pa_cons (pv 0) pa_nil))⟩)) pa_nil)))), ?_⟩
    have ty : TyOf K H (.ref l) (.type "list") := .lst el
    refine ⟨_, rfl, _, .type "list", _, _, rfl, ty, rfl, _, rfl, iteF ?_⟩
    refine ⟨_, rfl, l, _, rfl, .inl (SqL.of el), _, _, rfl, rfl, _, rfl, ?_⟩
    rw [decide_eq_true (by rw [List.length_map]; omega)]
    refine iteT ⟨_, _, rfl, rfl, _, rfl, ?_⟩
    rw [decide_eq_true (by rw [List.length_map]; omega)]
    refine iteF ⟨_, rfl, l, rfl, ⟨_, SqL.of el⟩, fun pl hpl => ?_⟩
    refine comp_bools ns.length (line_ge (by omega)) (fun _ => true) hpl (fun i H2 hi s2 => ?_) (fun H2 s2 => ⟨_, SqL.of (s2 _ _ el), by rw [List.length_map]; omega⟩) fun H2 s2 e2 => ?_
    · refine ⟨⟨_, _, SqL.of (s2 _ _ el), by rw [List.getElem?_map, List.getElem?_eq_getElem hi]; rfl⟩, fun x H3 ⟨eH, ev⟩ kk hk => ?_⟩
      subst eH
      have ex := getD_ints (ev _ (SqL.of (s2 _ _ el)))
      subst ex
      exact ⟨trivial, _, rfl, 0, _, rfl, trivial, hk _ (Same.refl _)⟩
    · refine ⟨pl, _, rfl, SqL.of e2, rfl, ?_⟩
      have e3 : ((List.range ns.length).map fun _ => true).all id = true := by
        rw [List.all_eq_true]
        intro z hz
        obtain ⟨_, _, rfl⟩ := List.mem_map.mp hz
        rfl
      rw [e3]
      exact k H2 s2
theorem nd_hitsBy1 : (["size", "count", "high"] : List Str).Nodup := by decide +kernel
theorem nd_hitsBy2 : (["many", "through"] : List Str).Nodup := by decide +kernel
theorem sc_hitsBy : FnScope ["counts", "high", "through"] ["counts"] (defScope sHitsBy) := ⟨rfl, rfl, rfl, by decide +kernel, rfl, by decide +kernel, by decide +kernel⟩
theorem ok_hitsBy {f f1 f2 f3  : Addr} {fd fd1 fd2 fd3 : FuncData} (F : Fun K "hits_by" "hits_by" sHitsBy f fd) (T : GlbA mg)
    (m1 : mg "is_numbers" = some (.ref f1)) (G1 : FnOk P w K mg base CX0 2 f1 fd1 ["thing"] spIsNum) (b1 : Binds K fd1 ["thing"] []) (k1 : PySem.W.keepIn K (.ref f1) = true)
    (m2 : mg "how_many_orders" = some (.ref f2)) (G2 : FnOk P w K mg base CX0 1 f2 fd2 ["many"] spOrdersP) (b2 : Binds K fd2 ["many"] []) (k2 : PySem.W.keepIn K (.ref f2) = true)
    (m3 : mg "hits_at" = some (.ref f3)) (G3 : FnOk P w K mg base CX0 2 f3 fd3 ["through", "many"] spHat) (b3 : Binds K fd3 ["through", "many"] []) (k3 : PySem.W.keepIn K (.ref f3) = true) :
    FnOk P w K mg base CX0 3 f fd ["counts"] spHitsBy := by
  refine F.ok sc_hitsBy (fun vs H Q E h => ?_) (fun cdv A outer s H vs Q E hr h => ?_)
  · obtain ⟨l, c, rfl, _⟩ := h
    rfl
  · obtain ⟨l, c, rfl, el, h2, h13, h1, h0, k⟩ := h
    have un := hr.units
    refine ⟨_, pss_cons (ps_if (PW.pt (pw_or (pt_not (pt_val (pe_call G1 (hr.mono (by decide)) (by rfl) m1 k1 b1 .nil pass0 (pa_cons (pv 0) pa_nil)))) (pw_or (pt_cmpR op_ne (pe_ix ix_list (pv 0) pe_int (fun _ _ => rfl)) pe_int (nomark _)) (pw_or1 (pt_cmpR op_lt (pe_callB (call_minI rfl) (by rfl) T.min bt_min (pa_cons (pv 0) pa_nil)) pe_int (nomark _)))))) pss_never pss_nil)
      (pss_cons (ps_set (i := 1) sc_hitsBy.nd rfl (by first | exact Or.inl rfl | exact Or.inr rfl) (pe_op op_sub (pe_callB call_len_seq (by rfl) T.len bt_len (pa_cons (pv 0) pa_nil)) pe_int))
      (pss_cons (ps_set (i := 2) sc_hitsBy.nd rfl (by first | exact Or.inl rfl | exact Or.inr rfl) (pe_lcomp (M := ["size", "count", "high"]) (cap := [none, none, some 1]) (g := (gTup K 2 (gCons (gName 0) (gCons (gName 1) gNil)))) (tc := tNoTest) (te := (tOp (rI CMul fun i j => .int (i * j)) (tVar 1) (tCall spOrdersP [] E0 (tCons (tOp (rI0 fun i j => .int (i - j)) (tVar 2) (tVar 0)) tNil)))) rfl (by rfl) (pi_enum (by rfl) T.enumerate (pa_cons (pv 0) pa_nil)) (fun cl ex s3 H3 C => ⟨(pg_tup rfl (pgs_cons (pg_name (i := 0) nd_hitsBy1 rfl (Or.inl rfl) (Or.inr rfl)) (pgs_cons (pg_name (i := 1) nd_hitsBy1 rfl (Or.inl rfl) (Or.inr rfl)) pgs_nil))), pts_nil, (pe_op op_mul (pv 1) (pe_call G2 (hr.mono (by decide)) (by rfl) m2 k2 b2 .nil pass0 (pa_cons (pe_op op_sub (pv 2) (pv 0)) pa_nil)))⟩)))
      (pss_one (ps_ret (pe_lcomp (M := ["many", "through"]) (cap := [none, some 2]) (g := (gName 0)) (tc := tNoTest) (te := (tCall spHat [] E0 (tCons (tVar 1) (tCons (tVar 0) tNil)))) rfl (by rfl) (pi_range1 (by rfl) T.range (pa_cons (pe_op op_add (pv 1) pe_int) pa_nil)) (fun cl ex s3 H3 C => ⟨(pg_name (i := 0) nd_hitsBy2 rfl (Or.inl rfl) (Or.inr rfl)), pts_nil, (pe_call G3 (hr.mono (by decide)) (by rfl) m3 k3 b3 .nil pass0 (pa_cons (pv 1) (pa_cons (pv 0) pa_nil)))⟩)))))), ?_⟩
    have lc : (c.map V.int).length = c.length := List.length_map _
    have c0 : atI (c.map V.int) 0 = some (.int 1) := by
      have := ints_ix (ns := c) (k := 0) (by omega)
      rw [h1] at this
      exact this
    refine ⟨_, rfl, l, c, rfl, el, h2, h13, fun H1 s1 => ⟨_, rfl, iteF ?_⟩⟩
    have el1 := s1 _ _ el
    refine ⟨_, rfl, l, _, _, _, rfl, rfl, SqL.of el1, c0, rfl, _, rfl, iteNS rfl ?_⟩
    refine ⟨_, rfl, l, c, rfl, SqL.of el1, by omega, fun mn hmn => ⟨_, _, rfl, rfl, _, rfl, ?_⟩⟩
    rw [decide_eq_false (by have := h0 mn hmn; omega)]
    refine iteF ⟨_, rfl, l, _, rfl, .inl (SqL.of el1), _, _, rfl, rfl, ?_⟩
    refine ⟨_, rfl, l, _, rfl, el1, fun pl hpl => ?_⟩
    refine comp_dat c.length (line_ge (by omega)) (fun s => some (PyData.int (c.getD s 0 * fctI (c.length - 1 - s)))) (fun s _ d e => by cases e; rfl) hpl (fun i H2 hi s2 _ => ?_) (fun H2 s2 => ⟨_, s2 _ _ el1, Nat.le_of_eq lc⟩) fun H2 ys s2 ey dy => ?_
    · have hi' : (c.map V.int)[i]? = some (.int (c.getD i 0)) := by
        rw [List.getElem?_map, List.getD_eq_getElem?_getD, List.getElem?_eq_getElem hi]
        rfl
      refine ⟨⟨_, _, s2 _ _ el1, hi'⟩, fun x H3 ⟨a, x', ha, hx, ev, eH⟩ kn kv k1' k2' => ?_⟩
      have ex := hx _ (s2 _ _ el1)
      rw [hi'] at ex
      cases ex
      subst ev eH
      have s3 := same_upd (o := .tup [.int (i : Nat), .int (c.getD i 0)]) ha
      refine ⟨a, [.int (i : Nat), .int (c.getD i 0)], rfl, SqT.of upd_same, rfl, _, _, rfl, _, _, rfl, rfl, ⟨⟨rfl, trivial⟩, no_test ?_⟩⟩
      have ix : ((c.map V.int).length : Int) - 1 - (i : Int) = ((c.length - 1 - i : Nat) : Int) := by rw [lc]; omega
      have fb := fct_ok (show c.length - 1 - i ≤ 12 by omega)
      refine ⟨_, rfl, _, rfl, _, rfl, _, _, rfl, rfl, c.length - 1 - i, congrArg (fun z => [V.int z]) ix, by omega, _, _, rfl, rfl, .inr ⟨by omega, by omega⟩, ?_⟩
      exact k2' _ _ _ rfl s3 (.int _)
    · have e : (List.range c.length).filterMap (fun s => some (PyData.int (c.getD s 0 * fctI (c.length - 1 - s)))) = (thrI c).map PyData.int := by
        unfold thrI
        rw [List.filterMap_eq_map', List.map_map]
        rfl
      rw [e] at dy
      have ey' := ints_dats dy
      subst ey'
      have lt : (thrI c).length = c.length := by unfold thrI; rw [List.length_map, List.length_range]
      refine ⟨_, rfl, _, _, rfl, rfl, _, rfl, by rw [lc]; omega, by rw [lc]; omega, fun pl2 hpl2 => ?_⟩
      refine comp_dat c.length (line_ge (by omega)) (fun m => some (PyData.int (hatI (thrI c) m))) (fun s _ d e => by cases e; rfl) hpl2 (fun i H3 hi s3 _ => ?_) (fun H3 s3 => ?_) fun H3 zs s3 ez dz => ?_
      · refine ⟨by show i < _; rw [lc]; omega, fun x H4 ⟨eH, ev⟩ kn kv k1' k2' => ?_⟩
        subst eH ev
        refine ⟨⟨rfl, trivial⟩, no_test ?_⟩
        refine ⟨_, rfl, _, rfl, pl, thrI c, i, by rw [Int.zero_add]; rfl, s3 _ _ ey, by omega, by omega, ?_⟩
        exact k2' _ _ _ rfl (Same.refl _) (.int _)
      · show _ ≤ _
        rw [lc]; omega
      · have e : (List.range c.length).filterMap (fun m => some (PyData.int (hatI (thrI c) m))) = (hitsI c).map PyData.int := by
          unfold hitsI
          rw [List.filterMap_eq_map', List.map_map]
          rfl
        rw [e] at dz
        have ez' := ints_dats dz
        subst ez'
        exact k pl2 H3 (s1.trans (s2.trans s3)) ((s1.trans s2).free hpl2) ez
theorem nd_countsBy1 : (["many", "number", "size"] : List Str).Nodup := by decide +kernel
theorem sc_countsBy : FnScope ["hits", "high", "told", "size", "through", "count", "over"] ["hits"] (defScope sCountsBy) := ⟨rfl, rfl, rfl, by decide +kernel, rfl, by decide +kernel, by decide +kernel⟩
theorem ok_countsBy {f f1 f2 f3  : Addr} {fd fd1 fd2 fd3 : FuncData} (F : Fun K "counts_by" "counts_by" sCountsBy f fd) (T : GlbA mg)
    (m1 : mg "is_numbers" = some (.ref f1)) (G1 : FnOk P w K mg base CX0 2 f1 fd1 ["thing"] spIsNum) (b1 : Binds K fd1 ["thing"] []) (k1 : PySem.W.keepIn K (.ref f1) = true)
    (m2 : mg "how_many_sets" = some (.ref f2)) (G2 : FnOk P w K mg base CX0 1 f2 fd2 ["many", "size"] spSetsP) (b2 : Binds K fd2 ["many", "size"] []) (k2 : PySem.W.keepIn K (.ref f2) = true)
    (m3 : mg "how_many_orders" = some (.ref f3)) (G3 : FnOk P w K mg base CX0 1 f3 fd3 ["many"] spOrdersP) (b3 : Binds K fd3 ["many"] []) (k3 : PySem.W.keepIn K (.ref f3) = true) :
    FnOk P w K mg base CX0 3 f fd ["hits"] spCountsBy := by
  refine F.ok sc_countsBy (fun vs H Q E h => ?_) (fun cdv A outer s H vs Q E hr h => ?_)
  · obtain ⟨l, h, rfl, _⟩ := h
    rfl
  · obtain ⟨l, h, rfl, el, h2, h13, k⟩ := h
    have un := hr.units
    refine ⟨_, pss_cons (ps_if (pt_not (pt_val (pe_call G1 (hr.mono (by decide)) (by rfl) m1 k1 b1 .nil pass0 (pa_cons (pv 0) pa_nil)))) pss_never pss_nil)
      (pss_cons (ps_set (i := 1) sc_countsBy.nd rfl (by first | exact Or.inl rfl | exact Or.inr rfl) (pe_op op_sub (pe_callB call_len_seq (by rfl) T.len bt_len (pa_cons (pv 0) pa_nil)) pe_int))
      (pss_cons (ps_set (i := 2) sc_countsBy.nd rfl (by first | exact Or.inl rfl | exact Or.inr rfl) (pe_lstW pa_nil))
      (pss_cons (ps_for PassesOwn.never rfl (pi_range1 (by rfl) T.range (pa_cons (pe_op op_add (pv 1) pe_int) pa_nil)) (pg_name (i := 3) sc_countsBy.nd rfl (by first | exact Or.inl rfl | exact Or.inr rfl))
        (pss_cons (ps_set (i := 4) sc_countsBy.nd rfl (by first | exact Or.inl rfl | exact Or.inr rfl) (pe_callB (call_sumI rfl) (by rfl) T.sum bt_sum (pa_cons (pe_lcomp (M := ["many", "number", "size"]) (cap := [none, none, some 3]) (g := (gTup K 2 (gCons (gName 0) (gCons (gName 1) gNil)))) (tc := tNoTest) (te := (tOp (rI CMul fun i j => .int (i * j)) (tCall spSetsP [] E0 (tCons (tVar 0) (tCons (tVar 2) tNil))) (tVar 1))) rfl (by rfl) (pi_enum (by rfl) T.enumerate (pa_cons (pv 0) pa_nil)) (fun cl ex s3 H3 C => ⟨(pg_tup rfl (pgs_cons (pg_name (i := 0) nd_countsBy1 rfl (Or.inl rfl) (Or.inr rfl)) (pgs_cons (pg_name (i := 1) nd_countsBy1 rfl (Or.inl rfl) (Or.inr rfl)) pgs_nil))), pts_nil, (pe_op op_mul (pe_call G2 (hr.mono (by decide)) (by rfl) m2 k2 b2 .nil pass0 (pa_cons (pv 0) (pa_cons (pv 2) pa_nil))) (pv 1))⟩)) pa_nil)))
      (pss_cons (ps_asg (pe_callB call_divmodW (by rfl) T.divmod bt_divmod (pa_cons (pv 4) (pa_cons (pe_call G3 (hr.mono (by decide)) (by rfl) m3 k3 b3 .nil pass0 (pa_cons (pe_op op_sub (pv 1) (pv 3)) pa_nil)) pa_nil))) (pg_tup rfl (pgs_cons (pg_name (i := 5) sc_countsBy.nd rfl (by first | exact Or.inl rfl | exact Or.inr rfl)) (pgs_cons (pg_name (i := 6) sc_countsBy.nd rfl (by first | exact Or.inl rfl | exact Or.inr rfl)) pgs_nil))))
      (pss_cons (ps_if (pt_cmpR op_ne (pv 6) pe_int (nomark _)) (pss_one (ps_ret pe_non)) pss_nil)
      (pss_one (ps_expr (pe_bm PySem.F.plainAttrs_list PySem.F.slot_list_append PySem.F.type_list_append mt_append (pv 2) (pa_cons (pv 5) pa_nil))))))))
      (pss_one (ps_ret (pv 2)))))), ?_⟩
    have lc : (h.map V.int).length = h.length := List.length_map _
    refine ⟨_, rfl, l, h, rfl, el, h2, h13, fun H1 s1 => ⟨_, rfl, iteF ?_⟩⟩
    have el1 := s1 _ _ el
    refine ⟨_, rfl, l, _, rfl, .inl (SqL.of el1), _, _, rfl, rfl, ?_⟩
    refine ⟨Nat.zero_le _, fun lt H2 s2 n2 e2 => ?_⟩
    have S2 := s1.trans s2
    have nt0 : H lt = none := s1.free n2
    refine ⟨_, rfl, _, _, rfl, rfl, _, rfl, by rw [lc]; omega, by rw [lc]; omega, ?_⟩
    have hN : (((h.map V.int).length : Int) - 1 + 1).toNat = h.length := by rw [lc]; omega
    rw [hN]
    refine for_range (n := h.length) (fun i σ H3 => ∃ v3 v4 v5 v6, σ = [some (.ref l), some (.int (((h.map V.int).length : Int) - 1)), some (.ref lt), v3, v4, v5, v6] ∧ Same H H3 ∧ (∀ j, j < i → totI h j % fctI (h.length - 1 - j) = 0) ∧ H3 lt = some (.lst (((List.range i).map fun j => totI h j / fctI (h.length - 1 - j)).map V.int)))
      ⟨none, none, none, none, rfl, S2, (fun j hj => by omega), e2⟩ ?_ ?_
    · rintro i σ H3 hi ⟨v3, v4, v5, v6, rfl, s3, all3, e3⟩
      have el3 := s3 _ _ el
      refine ⟨_, rfl, l, _, rfl, el3, fun pl hpl => ?_⟩
      refine comp_dat h.length (line_ge (by omega)) (fun m => some (PyData.int (setI m i * h.getD m 0))) (fun s _ d e => by cases e; rfl) hpl (fun j H4 hj s4 _ => ?_) (fun H4 s4 => ⟨_, s4 _ _ el3, Nat.le_of_eq lc⟩) fun H4 ys s4 ey dy => ?_
      · have hj' : (h.map V.int)[j]? = some (.int (h.getD j 0)) := by
          rw [List.getElem?_map, List.getD_eq_getElem?_getD, List.getElem?_eq_getElem hj]
          rfl
        refine ⟨⟨_, _, s4 _ _ el3, hj'⟩, fun x H5 ⟨a, x', ha, hx, ev, eH⟩ kn kv k1' k2' => ?_⟩
        have ex := hx _ (s4 _ _ el3)
        rw [hj'] at ex
        cases ex
        subst ev eH
        have s5 := same_upd (o := .tup [.int (j : Nat), .int (h.getD j 0)]) ha
        refine ⟨a, [.int (j : Nat), .int (h.getD j 0)], rfl, SqT.of upd_same, rfl, _, _, rfl, _, _, rfl, rfl, ⟨⟨rfl, trivial⟩, no_test ?_⟩⟩
        have sb := set_ok (m := j) (k := i) (by omega) (by omega)
        refine ⟨_, rfl, _, rfl, j, i, by rw [Int.zero_add]; rfl, by omega, by omega, _, rfl, _, _, rfl, rfl, .inl ⟨by omega, by omega⟩, ?_⟩
        exact k2' _ _ _ rfl s5 (.int _)
      · have e : (List.range h.length).filterMap (fun m => some (PyData.int (setI m i * h.getD m 0))) = ((List.range h.length).map fun m => setI m i * h.getD m 0).map PyData.int := by
          rw [List.filterMap_eq_map', List.map_map]
          rfl
        rw [e] at dy
        have ey' := ints_dats dy
        subst ey'
        refine ⟨pl, _, rfl, SqL.of ey, ?_⟩
        have et : ((List.range h.length).map fun m => setI m i * h.getD m 0).sum = totI h i := by rw [sumN_list]; rfl
        rw [et]
        have ix : ((h.map V.int).length : Int) - 1 - (0 + (i : Int)) = ((h.length - 1 - i : Nat) : Int) := by rw [lc]; omega
        have fb := fct_ok (show h.length - 1 - i ≤ 12 by omega)
        refine ⟨_, rfl, _, rfl, _, rfl, _, _, rfl, rfl, h.length - 1 - i, congrArg (fun z => [V.int z]) ix, by omega, _, _, rfl, ⟨by omega, by omega⟩, fun t6 H6 s6 n6 e6 => ?_⟩
        refine ⟨t6, _, rfl, SqT.of e6, rfl, _, _, rfl, _, _, rfl, rfl, ?_⟩
        have S6 := s3.trans (s4.trans s6)
        refine ⟨_, rfl, rfl, _, rfl, ?_⟩
        by_cases z : totI h i % fctI (h.length - 1 - i) = 0
        · rw [z]
          refine iteNS rfl ?_
          have e3' := (s4.trans s6) _ _ e3
          refine ⟨_, rfl, .inl ⟨rfl, _, SqL.of e3'⟩, _, rfl, lt, _, _, rfl, rfl, e3', ?_, ?_⟩
          · rw [List.length_map, List.length_map, List.length_range]; exact line_ge (by omega)
          · refine ⟨_, _, _, _, rfl, fun b o eb => ?_, fun j hj => ?_, ?_⟩
            · rw [upd_ne (ne_of_none eb nt0)]; exact S6 b o eb
            · by_cases y : j = i
              · rw [y]; exact z
              · exact all3 j (by omega)
            · rw [upd_same, List.range_succ, List.map_append, List.map_append]
              rfl
        · rw [decide_eq_false (fun y => z (V.int.inj y))]
          refine iteT (k .non H6 S6 ?_)
          have : cbyI h = none := by
            unfold cbyI
            rw [if_neg]
            intro hall
            have := List.all_eq_true.mp hall i (List.mem_range.mpr hi)
            exact z (of_decide_eq_true this)
          rw [this]
          exact .non
    · rintro σ H3 ⟨v3, v4, v5, v6, rfl, s3, all3, e3⟩
      refine ⟨_, rfl, k _ H3 s3 ?_⟩
      have : cbyI h = some ((List.range h.length).map fun i => totI h i / fctI (h.length - 1 - i)) := by
        unfold cbyI
        rw [if_pos]
        rw [List.all_eq_true]
        intro i hi
        exact decide_eq_true (all3 i (List.mem_range.mp hi))
      rw [this]
      exact ints_list e3
theorem nd_isNumF1 : (["part"] : List Str).Nodup := by decide +kernel
theorem sc_isNumF : FnScope ["thing"] ["thing"] (defScope sIsNum) := ⟨rfl, rfl, rfl, by decide +kernel, rfl, by decide +kernel, by decide +kernel⟩
theorem ok_isNumF {f f1  : Addr} {fd fd1 : FuncData} (hA : ∃ t, mg "LEAST_NUMBERS" = some (.int 2 t)) (hB : ∃ t, mg "MOST_NUMBERS" = some (.int 13 t)) (F : Fun K "is_numbers" "is_numbers" sIsNum f fd) (T : GlbA mg)
    (m1 : mg "is_whole" = some (.ref f1)) (G1 : FnOk P w K mg base CX0 1 f1 fd1 ["thing"] spWhole) (b1 : Binds K fd1 ["thing"] []) (k1 : PySem.W.keepIn K (.ref f1) = true) :
    FnOk P w K mg base CX0 2 f fd ["thing"] spIsNumF := by
  refine F.ok sc_isNumF (fun vs H Q E h => ?_) (fun cdv A outer s H vs Q E hr h => ?_)
  · obtain ⟨p, x, rfl, _⟩ := h
    rfl
  · obtain ⟨p, x, rfl, kn, nn, k⟩ := h
    have un := hr.units
    obtain ⟨tA, mA⟩ := hA
    obtain ⟨tB, mB⟩ := hB
    refine ⟨_, pss_cons (ps_if (PW.pt (pw_or (pt_not (pt_val (pe_callB call_isinst (by rfl) T.isinstance bt_isinstance (pa_cons (pv 0) (pa_cons (pe_bltn (v := .ty "list") (by rfl) T.list bt_list rfl) pa_nil))))) (pw_or1 (pt_not (pt_chain op_le op_le (pe_glob (v := .int 2) (by rfl) mA ⟨_, rfl⟩) (pe_callB call_len_seq (by rfl) T.len bt_len (pa_cons (pv 0) pa_nil)) (pe_glob (v := .int 13) (by rfl) mB ⟨_, rfl⟩)))))) (pss_one (ps_ret pe_bl)) pss_nil)
      (pss_one (ps_ret (pe_callB call_all (by rfl) T.all bt_all (pa_cons (pe_lcomp (M := ["part"]) (cap := [none]) (g := (gName 0)) (tc := tNoTest) (te := (tCall spWhole [] E0 (tCons (tVar 0) tNil))) rfl (by rfl) (pi_list (pv 0)) (fun cl ex s3 H3 C => ⟨(pg_name (i := 0) nd_isNumF1 rfl (Or.inl rfl) (Or.inr rfl)), pts_nil, (pe_call G1 (hr.mono (by decide)) (by rfl) m1 k1 b1 .nil pass0 (pa_cons (pv 0) pa_nil))⟩)) pa_nil)))), ?_⟩
    obtain ⟨t, ty, et⟩ := inst_list (K := K) kn
    refine ⟨_, rfl, _, t, _, _, rfl, ty, et, _, rfl, ?_⟩
    cases hl : isLV H x with
    | false => exact iteT (k H (Same.refl H))
    | true =>
      rcases nn with z | ⟨l, xs, rfl, el, h20, z⟩
      · rw [hl] at z; cases z
      refine iteF ⟨_, rfl, l, _, rfl, .inl (SqL.of el), _, _, rfl, rfl, _, rfl, ?_⟩
      by_cases z1 : 2 ≤ xs.length
      rotate_left
      · rw [decide_eq_false (by omega)]
        exact iteF ⟨_, rfl, iteT (k H (Same.refl H))⟩
      rw [decide_eq_true (by omega)]
      refine iteT ⟨_, _, rfl, rfl, _, rfl, ?_⟩
      by_cases z2 : xs.length ≤ 13
      rotate_left
      · rw [decide_eq_false (by omega)]
        exact iteT (k H (Same.refl H))
      rw [decide_eq_true (by omega)]
      rcases z with z | ⟨ks, na⟩
      · exact absurd ⟨z1, z2⟩ z
      refine iteF ⟨_, rfl, l, rfl, ⟨_, SqL.of el⟩, fun pl hpl => ?_⟩
      refine comp_bools xs.length (line_ge (by omega)) (fun i => isI (xs.getD i .non)) hpl (fun i H2 hi s2 => ?_) (fun H2 s2 => ⟨_, SqL.of (s2 _ _ el), Nat.le_refl _⟩) fun H2 s2 e2 => ?_
      · refine ⟨⟨_, _, SqL.of (s2 _ _ el), List.getElem?_eq_getElem hi⟩, fun y H3 ⟨eH, ev⟩ kk hk => ?_⟩
        subst eH
        have ey := ev _ (SqL.of (s2 _ _ el))
        have eg : xs.getD i .non = y := by rw [List.getD_eq_getElem?_getD, ey]; rfl
        rw [eg] at hk
        exact ⟨trivial, _, rfl, p, y, rfl, (ks y (List.mem_of_getElem? ey)).keep (KX.of s2), hk _ (Same.refl _)⟩
      · refine ⟨pl, _, rfl, SqL.of e2, rfl, ?_⟩
        have e3 : ((List.range xs.length).map fun i => isI (xs.getD i .non)).all id = xs.all isI := by
          rw [List.all_map]
          show ((List.range xs.length).all fun i => isI (xs.getD i .non)) = _
          rw [Bool.eq_iff_iff, List.all_eq_true, List.all_eq_true]
          constructor
          · intro h y hy
            obtain ⟨j, hj⟩ := List.mem_iff_getElem?.mp hy
            have := h j (List.mem_range.mpr (List.getElem?_eq_some_iff.mp hj).1)
            rwa [List.getD_eq_getElem?_getD, hj] at this
          · intro h j hj
            have hj' := List.mem_range.mp hj
            rw [List.getD_eq_getElem?_getD, List.getElem?_eq_getElem hj']
            exact h _ (List.getElem_mem hj')
        rw [e3, na]
        exact k H2 s2
theorem sc_hitsByB : FnScope ["counts", "high", "through"] ["counts"] (defScope sHitsBy) := ⟨rfl, rfl, rfl, by decide +kernel, rfl, by decide +kernel, by decide +kernel⟩
theorem ok_hitsByB {f f1 CC : Addr} {fd fd1 : FuncData} (F : Fun K "hits_by" "hits_by" sHitsBy f fd) (T : GlbA mg)
    (m1 : mg "is_numbers" = some (.ref f1)) (G1 : FnOk P w K mg base CX0 2 f1 fd1 ["thing"] spIsNum2) (b1 : Binds K fd1 ["thing"] []) (k1 : PySem.W.keepIn K (.ref f1) = true)
    (mCC : mg "NoCounts" = some (.ref CC)) (qCC : PySem.W.excIn K CC Rx.mroV "ValueError.__new__" = true) :
    FnOk P w K mg base (Rx.CXE P w) 3 f fd ["counts"] (spHitsByB CC) := by
  refine Rx.okE F sc_hitsByB (fun vs H Q E h => ?_) (fun cdv A outer s H vs Q E hr h => ?_)
  · obtain ⟨p, x, rfl, _⟩ := h
    rfl
  · obtain ⟨p, x, rfl, kn, bad, k⟩ := h
    have un := hr.units
    refine ⟨_, pss_cons (ps_if (PW.pt (pw_or (pt_not (pt_val (pe_call G1 (hr.mono (by decide)) (by rfl) m1 k1 b1 .nil pass0 (pa_cons (pv 0) pa_nil)))) (pw_or (pt_cmpR op_ne (pe_ix ix_list (pv 0) pe_int (fun _ _ => rfl)) pe_int (nomark _)) (pw_or1 (pt_cmpR op_lt (pe_callB (call_minM rfl) (by rfl) T.min bt_min (pa_cons (pv 0) pa_nil)) pe_int (nomark _)))))) (pss_one (Rx.ps_raise (C := CC) (E := E) (fun _ _ h => h) rfl rfl rfl rfl (by rfl) mCC qCC pe_str)) pss_nil) pss_never, ?_⟩
    rcases bad with nn | ⟨l, c, rfl, el, c2, c13, bc⟩
    · exact ⟨_, rfl, .inr ⟨p, x, rfl, kn, nn, fun H1 s1 => ⟨_, rfl, iteT (k H1 s1)⟩⟩⟩
    · refine ⟨_, rfl, .inl ⟨l, c, rfl, el, c2, c13, fun H1 s1 => ⟨_, rfl, iteF ?_⟩⟩⟩
      have el1 := s1 _ _ el
      refine ⟨_, rfl, l, _, _, .int (c.getD 0 0), rfl, rfl, SqL.of el1, ints_ix (k := 0) (by omega), rfl, _, rfl, ?_⟩
      by_cases z : c.getD 0 0 = 1
      · rw [z]
        refine iteNS rfl ⟨_, rfl, l, c, rfl, SqL.of el1, by omega, fun mn hmn le => ⟨_, _, rfl, rfl, _, rfl, ?_⟩⟩
        obtain ⟨y, hy, y0⟩ := bc.resolve_left (fun q => q z)
        have := le y hy
        rw [decide_eq_true (by omega)]
        exact iteT (k H1 s1)
      · rw [decide_eq_false (fun y => z (V.int.inj y))]
        exact iteT (iteT (k H1 s1))
theorem sc_countsByB : FnScope ["hits", "high", "told", "size", "through", "count", "over"] ["hits"] (defScope sCountsBy) := ⟨rfl, rfl, rfl, by decide +kernel, rfl, by decide +kernel, by decide +kernel⟩
theorem ok_countsByB {f f1 CH : Addr} {fd fd1 : FuncData} (F : Fun K "counts_by" "counts_by" sCountsBy f fd) (T : GlbA mg)
    (m1 : mg "is_numbers" = some (.ref f1)) (G1 : FnOk P w K mg base CX0 2 f1 fd1 ["thing"] spIsNum2) (b1 : Binds K fd1 ["thing"] []) (k1 : PySem.W.keepIn K (.ref f1) = true)
    (mCH : mg "NoHits" = some (.ref CH)) (qCH : PySem.W.excIn K CH Rx.mroV "ValueError.__new__" = true) :
    FnOk P w K mg base (Rx.CXE P w) 3 f fd ["hits"] (spCountsByB CH) := by
  refine Rx.okE F sc_countsByB (fun vs H Q E h => ?_) (fun cdv A outer s H vs Q E hr h => ?_)
  · obtain ⟨p, x, rfl, _⟩ := h
    rfl
  · obtain ⟨p, x, rfl, kn, nn, k⟩ := h
    have un := hr.units
    refine ⟨_, pss_cons (ps_if (pt_not (pt_val (pe_call G1 (hr.mono (by decide)) (by rfl) m1 k1 b1 .nil pass0 (pa_cons (pv 0) pa_nil)))) (pss_one (Rx.ps_raise (C := CH) (E := E) (fun _ _ h => h) rfl rfl rfl rfl (by rfl) mCH qCH pe_str)) pss_nil) pss_never, ?_⟩
    exact ⟨_, rfl, .inr ⟨p, x, rfl, kn, nn, fun H1 s1 => ⟨_, rfl, iteT (k H1 s1)⟩⟩⟩
end
end Rk
set_option Elab.async false
set_option linter.all false
set_option maxRecDepth 100000
set_option maxHeartbeats 4000000
namespace Rk
open PySem PySem.Spec PyProof.Rows L2 _root_.Rd
def spRefNum (CN : Addr) : Sp := fun vs H Q E => ∃ p q h w L x, vs = [.ref q, x] ∧ BoardAt p H q h w L ∧ Kn p H x ∧ (within x 0 h = false → E (.ref CN) none H) ∧ (within x 0 h = true → Q .non H)
def spFirstOf : Sp := fun vs H Q _ => ∃ (p q : Addr) (h w : Int) (L : List (Int × Int)) (l : Addr) (ys : List V) (os : List (List Int)) (many : Int), vs = [.ref q, .ref l, .int many] ∧ BoardAt p H q h w L ∧ H l = some (.lst ys) ∧ Dats H ys (os.map intsD) ∧ (∀ o ∈ os, o.length ≤ 6) ∧ ∀ v H', Same H H' → Dat H' v (optD (os.find? (hitsK L many))) → Q v H'
def spFirst (CS CN : Addr) : Sp := fun vs H Q E => ∃ p q h w L x, vs = [.ref q, x] ∧ BoardAt p H q h w L ∧ Kn p H x ∧ (h ≠ w → E (.ref CS) none H) ∧ (h = w → within x 0 h = false → E (.ref CN) none H) ∧
  (h = w → within x 0 h = true → ∀ v H', Same H H' → Dat H' v (optD ((ordsI h.toNat h.toNat).find? (hitsK L (intV x)))) → Q v H')
def spNext (CS CO CN : Addr) : Sp := fun vs H Q E => ∃ p q h w L y x, vs = [.ref q, y, x] ∧ BoardAt p H q h w L ∧ KnD p 1 H y ∧ Sm H y ∧ Kn p H x ∧ (h ≠ w → E (.ref CS) none H) ∧ (h = w → ordV H h.toNat y = false → ∀ H', Same H H' → E (.ref CO) none H') ∧
  (h = w → ordV H h.toNat y = true → within x 0 h = false → ∀ H', Same H H' → E (.ref CN) none H') ∧
  (h = w → ordV H h.toNat y = true → within x 0 h = true → ∀ v H', Same H H' → Dat H' v (optD (((ordsI h.toNat h.toNat).filter fun o => HT.lexLt (numT H y) o).find? (hitsK L (intV x)))) → Q v H')
theorem within_intV {x : V} {a b : Int} (h : within x a b = true) : x = .int (intV x) := by
  cases x with
  | int i => rfl
  | _ => cases h
section
variable {P : Program} {w : World} {K : PySem.W.Frag} {mg : Str → Option Value} {base : Heap}
theorem sc_refNum : FnScope ["board", "many"] ["board", "many"] (defScope sRefNum) := ⟨rfl, rfl, rfl, by decide +kernel, rfl, by decide +kernel, by decide +kernel⟩
theorem ok_refNum {f f1 CN : Addr} {fd fd1 : FuncData} (F : Fun K "refuse_no_number" "refuse_no_number" sRefNum f fd)
    (m1 : mg "is_whole_within" = some (.ref f1)) (G1 : FnOk P w K mg base CX0 2 f1 fd1 ["thing", "least", "most"] spWithin) (b1 : Binds K fd1 ["thing", "least", "most"] []) (k1 : PySem.W.keepIn K (.ref f1) = true)
    (mCN : mg "NoNumber" = some (.ref CN)) (qCN : PySem.W.excIn K CN Rx.mroV "ValueError.__new__" = true) :
    FnOk P w K mg base (Rx.CXE P w) 3 f fd ["board", "many"] (spRefNum CN) := by
  refine Rx.okE F sc_refNum (fun vs H Q E h => ?_) (fun cdv A outer s H vs Q E hr h => ?_)
  · obtain ⟨p, q, h, w', L, x, rfl, _⟩ := h
    rfl
  · obtain ⟨p, q, h, w', L, x, rfl, B, kn, x1, x2⟩ := h
    have un := hr.units
    refine ⟨_, pss_one (ps_if (pt_not (pt_val (pe_call G1 (hr.mono (by decide)) (by rfl) m1 k1 b1 .nil pass0 (pa_cons (pv 1) (pa_cons pe_int (pa_cons (pe_ix ix_tup (pv 0) pe_int (fun _ _ => rfl)) pa_nil)))))) (pss_one (Rx.ps_raise (C := CN) (E := E) (fun _ _ h => h) rfl rfl rfl rfl (by rfl) mCN qCN pe_str)) pss_nil), ?_⟩
    obtain ⟨c, ps, nc, e1, e2, cs⟩ := B.it
    refine ⟨_, rfl, _, rfl, q, _, 0, .int h, rfl, rfl, SqT.of e1, rfl, p, x, 0, h, rfl, kn, _, rfl, ?_⟩
    cases hx : within x 0 h with
    | false => exact iteT (x1 hx)
    | true => exact iteF (x2 hx)
theorem sc_firstOf : FnScope ["board", "orders", "many", "order"] ["board", "orders", "many"] (defScope sFirstOf) := ⟨rfl, rfl, rfl, by decide +kernel, rfl, by decide +kernel, by decide +kernel⟩
theorem ok_firstOf {f f1  : Addr} {fd fd1 : FuncData} (F : Fun K "first_of" "first_of" sFirstOf f fd) (T : GlbA mg)
    (m1 : mg "cells_hit" = some (.ref f1)) (G1 : FnOk P w K mg base CX0 1 f1 fd1 ["board", "order"] spCellsHit) (b1 : Binds K fd1 ["board", "order"] []) (k1 : PySem.W.keepIn K (.ref f1) = true) :
    FnOk P w K mg base CX0 2 f fd ["board", "orders", "many"] spFirstOf := by
  refine F.ok sc_firstOf (fun vs H Q E h => ?_) (fun cdv A outer s H vs Q E hr h => ?_)
  · obtain ⟨p, q, h, w', L, l, ys, os, many, rfl, _⟩ := h
    rfl
  · obtain ⟨p, q, h, w', L, l, ys, os, many, rfl, B, el, dy, o6, k⟩ := h
    have un := hr.units
    refine ⟨_, pss_cons (ps_for PassesOwn.never rfl (pi_list (pv 1)) (pg_name (i := 3) sc_firstOf.nd rfl (by first | exact Or.inl rfl | exact Or.inr rfl))
        (pss_one (ps_if (pt_cmpR op_eq (pe_callB call_len_seq (by rfl) T.len bt_len (pa_cons (pe_call G1 (hr.mono (by decide)) (by rfl) m1 k1 b1 .nil pass0 (pa_cons (pv 0) (pa_cons (pv 3) pa_nil))) pa_nil)) (pv 2) (nomark _)) (pss_one (ps_ret (pv 3))) pss_nil)))
      (pss_one (ps_ret pe_non)), ?_⟩
    have hlen : ys.length = os.length := by have := dy.length; rwa [List.length_map] at this
    refine ⟨_, rfl, l, rfl, ⟨ys, SqL.of el⟩, for_list (K := K) (a := l) (xs := ys) (fun i σ H2 => ∃ v, σ = [some (.ref q), some (.ref l), some (.int many), v] ∧ Same H H2 ∧ (os.take i).find? (hitsK L many) = none) ⟨none, rfl, Same.refl H, rfl⟩
      (fun _ _ _ _ ⟨_, _, s2, _⟩ => SqL.of (s2 _ _ el)) ?_ ?_⟩
    · rintro i x σ H2 hi ⟨v, rfl, s2, nf⟩
      obtain ⟨hi', t, rfl, et⟩ := item_ord dy hi
      have tk := take_getD [] hi'
      have ol := o6 _ (getD_mem' [] hi')
      have fd := find_take (p := hitsK L many) [] hi' nf
      generalize os.getD i [] = o at *
      refine ⟨_, rfl, _, rfl, p, q, h, w', L, t, o, rfl, B.kx (KX.of s2), s2 _ _ et, ol, fun v3 H3 s3 d3 => ?_⟩
      obtain ⟨t3, zs, rfl, e3, q3⟩ : ∃ t3 zs, v3 = .ref t3 ∧ H3 t3 = some (.tup zs) ∧ Dats H3 zs ((hitI L o).map pairD) := by
        cases d3 with
        | @tup a xs _ ea qa => exact ⟨a, xs, rfl, ea, qa⟩
      have lz : zs.length = (hitI L o).length := by have := q3.length; rwa [List.length_map] at this
      refine ⟨t3, zs, rfl, .inr (SqT.of e3), _, rfl, rfl, _, rfl, ?_⟩
      have eh : decide (V.int (zs.length : Nat) = V.int many) = hitsK L many o := by
        unfold hitsK
        rw [lz]
        by_cases z : ((hitI L o).length : Int) = many
        · rw [decide_eq_true z, z, decide_eq_true rfl]
        · rw [decide_eq_false z, decide_eq_false fun y => z (V.int.inj y)]
      rw [eh]
      cases hh : hitsK L many o with
      | true =>
        refine iteT ⟨_, rfl, k _ H3 (s2.trans s3) ?_⟩
        rw [fd hh]
        exact intsD_dat (s3 _ _ (s2 _ _ et))
      | false =>
        refine iteF ⟨_, rfl, s2.trans s3, ?_⟩
        rw [tk, List.find?_append, nf, List.find?_cons, hh]
        rfl
    · rintro σ H2 ⟨v, rfl, s2, nf⟩
      rw [hlen, List.take_length] at nf
      refine k .non H2 s2 ?_
      rw [nf]
      exact .non
theorem sc_first : FnScope ["board", "many"] ["board", "many"] (defScope sFirst) := ⟨rfl, rfl, rfl, by decide +kernel, rfl, by decide +kernel, by decide +kernel⟩
theorem ok_first {f f1 f2 f3 f4  : Addr} {fd fd1 fd2 fd3 fd4 : FuncData} {CS CN : Addr} (F : Fun K "first_hitting" "first_hitting" sFirst f fd)
    (m1 : mg "refuse_not_square" = some (.ref f1)) (G1 : FnOk P w K mg base (Rx.CXE P w) 1 f1 fd1 ["board"] (spRefSq CS)) (b1 : Binds K fd1 ["board"] []) (k1 : PySem.W.keepIn K (.ref f1) = true)
    (m2 : mg "refuse_no_number" = some (.ref f2)) (G2 : FnOk P w K mg base (Rx.CXE P w) 3 f2 fd2 ["board", "many"] (spRefNum CN)) (b2 : Binds K fd2 ["board", "many"] []) (k2 : PySem.W.keepIn K (.ref f2) = true)
    (m3 : mg "first_of" = some (.ref f3)) (G3 : FnOk P w K mg base CX0 2 f3 fd3 ["board", "orders", "many"] spFirstOf) (b3 : Binds K fd3 ["board", "orders", "many"] []) (k3 : PySem.W.keepIn K (.ref f3) = true)
    (m4 : mg "all_orders" = some (.ref f4)) (G4 : FnOk P w K mg base CX0 2 f4 fd4 ["many"] spAll) (b4 : Binds K fd4 ["many"] []) (k4 : PySem.W.keepIn K (.ref f4) = true) :
    FnOk P w K mg base (Rx.CXE P w) 4 f fd ["board", "many"] (spFirst CS CN) := by
  refine Rx.okE F sc_first (fun vs H Q E h => ?_) (fun cdv A outer s H vs Q E hr h => ?_)
  · obtain ⟨p, q, h, w', L, x, rfl, _⟩ := h
    rfl
  · obtain ⟨p, q, h, w', L, x, rfl, B, kn, x1, x2, x3⟩ := h
    have un := hr.units
    refine ⟨_, pss_cons (ps_expr (pe_call G1 (hr.mono (by decide)) (by rfl) m1 k1 b1 .nil (Rx.passE (E := E) (fun _ _ h => h) rfl rfl rfl) (pa_cons (pv 0) pa_nil)))
      (pss_cons (ps_expr (pe_call G2 (hr.mono (by decide)) (by rfl) m2 k2 b2 .nil (Rx.passE (E := E) (fun _ _ h => h) rfl rfl rfl) (pa_cons (pv 0) (pa_cons (pv 1) pa_nil))))
      (pss_one (ps_ret (pe_call G3 (hr.mono (by decide)) (by rfl) m3 k3 b3 .nil pass0 (pa_cons (pv 0) (pa_cons (pe_call G4 (hr.mono (by decide)) (by rfl) m4 k4 b4 .nil pass0 (pa_cons (pe_ix ix_tup (pv 0) pe_int (fun _ _ => rfl)) pa_nil)) (pa_cons (pv 1) pa_nil))))))), ?_⟩
    have hb1 := B.h1
    have hb6 := B.h6
    have hh : h = ((h.toNat : Nat) : Int) := by omega
    obtain ⟨c, ps, nc, e1, e2, cs⟩ := B.it
    refine ⟨_, rfl, p, q, h, w', L, rfl, B, x1, fun hz => ?_⟩
    refine ⟨_, rfl, _, rfl, p, q, h, w', L, x, rfl, B, kn, fun ho => x2 hz ho, fun ho => ?_⟩
    have hx := within_intV ho
    rw [hx]
    refine ⟨_, rfl, _, rfl, q, _, 0, .int h, rfl, rfl, SqT.of e1, rfl, h.toNat, by rw [← hh]; rfl, by omega, fun lo H3 ys s3 n3 e3 d3 => ?_⟩
    refine ⟨_, rfl, p, q, h, w', L, lo, ys, ordsI h.toNat h.toNat, intV x, rfl, B.kx (KX.of s3), e3, d3, (fun o ho => by rw [ordsI_mem ho]; omega), fun v H4 s4 d4 => x3 hz ho v H4 (s3.trans s4) d4⟩
theorem nd_next1 : (["other", "order"] : List Str).Nodup := by decide +kernel
theorem sc_next : FnScope ["board", "order", "many"] ["board", "order", "many"] (defScope sNext) := ⟨rfl, rfl, rfl, by decide +kernel, rfl, by decide +kernel, by decide +kernel⟩
theorem ok_next {f f1 f2 f3 f4 f5  : Addr} {fd fd1 fd2 fd3 fd4 fd5 : FuncData} {CS CO CN : Addr} (F : Fun K "next_hitting" "next_hitting" sNext f fd)
    (m1 : mg "refuse_not_square" = some (.ref f1)) (G1 : FnOk P w K mg base (Rx.CXE P w) 1 f1 fd1 ["board"] (spRefSq CS)) (b1 : Binds K fd1 ["board"] []) (k1 : PySem.W.keepIn K (.ref f1) = true)
    (m2 : mg "refuse_no_order" = some (.ref f2)) (G2 : FnOk P w K mg base (Rx.CXE P w) 4 f2 fd2 ["board", "order"] (spRefOrd CO)) (b2 : Binds K fd2 ["board", "order"] []) (k2 : PySem.W.keepIn K (.ref f2) = true)
    (m3 : mg "refuse_no_number" = some (.ref f3)) (G3 : FnOk P w K mg base (Rx.CXE P w) 3 f3 fd3 ["board", "many"] (spRefNum CN)) (b3 : Binds K fd3 ["board", "many"] []) (k3 : PySem.W.keepIn K (.ref f3) = true)
    (m4 : mg "first_of" = some (.ref f4)) (G4 : FnOk P w K mg base CX0 2 f4 fd4 ["board", "orders", "many"] spFirstOf) (b4 : Binds K fd4 ["board", "orders", "many"] []) (k4 : PySem.W.keepIn K (.ref f4) = true)
    (m5 : mg "all_orders" = some (.ref f5)) (G5 : FnOk P w K mg base CX0 2 f5 fd5 ["many"] spAll) (b5 : Binds K fd5 ["many"] []) (k5 : PySem.W.keepIn K (.ref f5) = true) :
    FnOk P w K mg base (Rx.CXE P w) 5 f fd ["board", "order", "many"] (spNext CS CO CN) := by
  refine Rx.okE F sc_next (fun vs H Q E h => ?_) (fun cdv A outer s H vs Q E hr h => ?_)
  · obtain ⟨p, q, h, w', L, y, x, rfl, _⟩ := h
    rfl
  · obtain ⟨p, q, h, w', L, y, x, rfl, B, ky, sy, kn, x1, x2, x3, x4⟩ := h
    have un := hr.units
    refine ⟨_, pss_cons (ps_expr (pe_call G1 (hr.mono (by decide)) (by rfl) m1 k1 b1 .nil (Rx.passE (E := E) (fun _ _ h => h) rfl rfl rfl) (pa_cons (pv 0) pa_nil)))
      (pss_cons (ps_expr (pe_call G2 (hr.mono (by decide)) (by rfl) m2 k2 b2 .nil (Rx.passE (E := E) (fun _ _ h => h) rfl rfl rfl) (pa_cons (pv 0) (pa_cons (pv 1) pa_nil))))
      (pss_cons (ps_expr (pe_call G3 (hr.mono (by decide)) (by rfl) m3 k3 b3 .nil (Rx.passE (E := E) (fun _ _ h => h) rfl rfl rfl) (pa_cons (pv 0) (pa_cons (pv 2) pa_nil))))
      (pss_one (ps_ret (pe_call G4 (hr.mono (by decide)) (by rfl) m4 k4 b4 .nil pass0 (pa_cons (pv 0) (pa_cons (pe_lcomp (M := ["other", "order"]) (cap := [none, some 1]) (g := (gName 0)) (tc := (tTest (tOp (rGtT (A.deeper (envOfC "next_hitting" (defScope sNext) s.heap.objs.size f cdv)).units K) (tVar 0) (tVar 1)))) (te := (tVar 0)) rfl (by rfl) (pi_list (pe_call G5 (hr.mono (by decide)) (by rfl) m5 k5 b5 .nil pass0 (pa_cons (pe_ix ix_tup (pv 0) pe_int (fun _ _ => rfl)) pa_nil))) (fun cl ex s3 H3 C => ⟨(pg_name (i := 0) nd_next1 rfl (Or.inl rfl) (Or.inr rfl)), (pts_one (pt_cmpR op_gtT (pv 0) (pv 1) (nomark _))), (pv 0)⟩)) (pa_cons (pv 2) pa_nil)))))))), ?_⟩
    have hb1 := B.h1
    have hb6 := B.h6
    have hh : h = ((h.toNat : Nat) : Int) := by omega
    obtain ⟨c, ps, nc, e1, e2, cs⟩ := B.it
    refine ⟨_, rfl, p, q, h, w', L, rfl, B, x1, fun hz => ?_⟩
    refine ⟨_, rfl, _, rfl, p, q, h, w', L, y, rfl, B, ky, sy, fun ho => x2 hz ho, fun ho H1 s1 => ?_⟩
    refine ⟨_, rfl, _, rfl, p, q, h, w', L, x, rfl, B.kx (KX.of s1), kn.keep (KX.of s1), fun hn => x3 hz ho hn H1 s1, fun hn => ?_⟩
    have hx := within_intV hn
    obtain ⟨ya, rfl, hya, hyl⟩ := ord_parts ho
    rw [hx]
    generalize hyo : numT H (.ref ya) = yo at *
    refine ⟨_, rfl, _, rfl, q, _, 0, .int h, rfl, rfl, SqT.of (s1 _ _ e1), rfl, h.toNat, by rw [← hh]; rfl, by omega, fun lo H3 ys s3 n3 e3 d3 => ?_⟩
    have S3 := s1.trans s3
    have hlen : ys.length = (ordsI h.toNat h.toNat).length := by have := d3.length; rwa [List.length_map] at this
    have hsm := ordsI_small (show h.toNat ≤ 6 by omega) (show h.toNat ≤ 6 by omega)
    refine ⟨lo, rfl, ⟨ys, SqL.of e3⟩, fun pl hpl => ?_⟩
    refine comp_dat (ordsI h.toNat h.toNat).length (line_ge (by omega)) (fun i => if HT.lexLt yo ((ordsI h.toNat h.toNat).getD i []) = true then some (intsD ((ordsI h.toNat h.toNat).getD i [])) else none) (fun i _ d e => ?_) hpl (fun i H4 hi s4 _ => ?_) (fun H4 s4 => ⟨ys, SqL.of (s4 _ _ e3), by omega⟩) fun H4 zs s4 e4 d4 => ?_
    · split at e
      · cases e; exact noL_intsD _
      · cases e
    · have hi' : i < ys.length := by omega
      refine ⟨⟨ys, ys[i], SqL.of (s4 _ _ e3), List.getElem?_eq_getElem hi'⟩, fun z H5 ⟨eH, ev⟩ kn' kv h1 h2 => ?_⟩
      subst eH
      obtain ⟨_, t, rfl, et⟩ := item_ord d3 (ev ys (SqL.of (s4 _ _ e3)))
      generalize (ordsI h.toNat h.toNat).getD i [] = o at *
      refine ⟨⟨rfl, trivial⟩, _, rfl, _, rfl, t, ya, o, yo, rfl, rfl, SqT.of (s4 _ _ et), SqT.of (s4 _ _ (S3 _ _ hya)), by show (A.deeper (envOfC "next_hitting" (defScope sNext) s.heap.objs.size f cdv)).units < cLine; omega, _, rfl, ?_⟩
      cases hl : HT.lexLt yo o with
      | true =>
        rw [hl] at h2
        exact iteT ⟨_, rfl, h2 _ _ _ rfl (Same.refl _) (intsD_dat (s4 _ _ et))⟩
      | false =>
        rw [hl] at h1
        exact iteF (h1 rfl _ (Same.refl _))
    · rw [range_filter (ordsI h.toNat h.toNat) [] (fun o => HT.lexLt yo o) intsD] at d4
      refine ⟨_, rfl, p, q, h, w', L, pl, zs, _, intV x, rfl, B.kx (KX.of (S3.trans s4)), e4, d4, (fun o ho => by rw [ordsI_mem (List.mem_filter.mp ho).1]; omega), fun v H6 s6 d6 => x4 hz ho hn v H6 ((S3.trans s4).trans s6) d6⟩
end
end Rk
set_option Elab.async false
set_option linter.all false
set_option maxRecDepth 100000
set_option maxHeartbeats 4000000
namespace Rk
open PySem PySem.Spec PyProof.Rows L2 _root_.Rd
def spHitsOf (CS CO : Addr) : Sp := fun vs H Q E => ∃ p q h w L x, vs = [.ref q, x] ∧ BoardAt p H q h w L ∧ KnD p 1 H x ∧ Sm H x ∧ (h ≠ w → E (.ref CS) none H) ∧ (h = w → ordV H h.toNat x = false → ∀ H', Same H H' → E (.ref CO) none H') ∧
  (h = w → ordV H h.toNat x = true → ∀ v H', Same H H' → Dat H' v (.tuple ((hitI L (numT H x)).map pairD)) → Q v H')
def spHitCounts (CS : Addr) : Sp := fun vs H Q E => ∃ p q h w L, vs = [.ref q] ∧ BoardAt p H q h w L ∧ (h ≠ w → E (.ref CS) none H) ∧ (h = w → ∀ l H', Same H H' → H l = none → H' l = some (.lst ((hitCnt L h.toNat (ordsI h.toNat h.toNat)).map V.int)) → Q (.ref l) H')
section
variable {P : Program} {w : World} {K : PySem.W.Frag} {mg : Str → Option Value} {base : Heap}
theorem sc_hitsOf : FnScope ["board", "order"] ["board", "order"] (defScope sHitsOf) := ⟨rfl, rfl, rfl, by decide +kernel, rfl, by decide +kernel, by decide +kernel⟩
theorem ok_hitsOf {f f1 f2 f3  : Addr} {fd fd1 fd2 fd3 : FuncData} {CS CO : Addr} (F : Fun K "hits_of" "hits_of" sHitsOf f fd)
    (m1 : mg "refuse_not_square" = some (.ref f1)) (G1 : FnOk P w K mg base (Rx.CXE P w) 1 f1 fd1 ["board"] (spRefSq CS)) (b1 : Binds K fd1 ["board"] []) (k1 : PySem.W.keepIn K (.ref f1) = true)
    (m2 : mg "refuse_no_order" = some (.ref f2)) (G2 : FnOk P w K mg base (Rx.CXE P w) 4 f2 fd2 ["board", "order"] (spRefOrd CO)) (b2 : Binds K fd2 ["board", "order"] []) (k2 : PySem.W.keepIn K (.ref f2) = true)
    (m3 : mg "cells_hit" = some (.ref f3)) (G3 : FnOk P w K mg base CX0 1 f3 fd3 ["board", "order"] spCellsHit) (b3 : Binds K fd3 ["board", "order"] []) (k3 : PySem.W.keepIn K (.ref f3) = true) :
    FnOk P w K mg base (Rx.CXE P w) 5 f fd ["board", "order"] (spHitsOf CS CO) := by
  refine Rx.okE F sc_hitsOf (fun vs H Q E h => ?_) (fun cdv A outer s H vs Q E hr h => ?_)
  · obtain ⟨p, q, h, w', L, x, rfl, _⟩ := h
    rfl
  · obtain ⟨p, q, h, w', L, x, rfl, B, kx, sx, x1, x2, x3⟩ := h
    have un := hr.units
    refine ⟨_, pss_cons (ps_expr (pe_call G1 (hr.mono (by decide)) (by rfl) m1 k1 b1 .nil (Rx.passE (E := E) (fun _ _ h => h) rfl rfl rfl) (pa_cons (pv 0) pa_nil)))
      (pss_cons (ps_expr (pe_call G2 (hr.mono (by decide)) (by rfl) m2 k2 b2 .nil (Rx.passE (E := E) (fun _ _ h => h) rfl rfl rfl) (pa_cons (pv 0) (pa_cons (pv 1) pa_nil))))
      (pss_one (ps_ret (pe_call G3 (hr.mono (by decide)) (by rfl) m3 k3 b3 .nil pass0 (pa_cons (pv 0) (pa_cons (pv 1) pa_nil)))))), ?_⟩
    have hb1 := B.h1
    have hb6 := B.h6
    refine ⟨_, rfl, p, q, h, w', L, rfl, B, x1, fun hz => ?_⟩
    refine ⟨_, rfl, _, rfl, p, q, h, w', L, x, rfl, B, kx, sx, fun ho => x2 hz ho, fun ho H1 s1 => ?_⟩
    obtain ⟨a, rfl, ha, hl⟩ := ord_parts ho
    exact ⟨_, rfl, _, rfl, p, q, h, w', L, a, numT H (.ref a), rfl, B.kx (KX.of s1), s1 _ _ ha, by omega, fun v H2 s2 d => x3 hz ho v H2 (s1.trans s2) d⟩
theorem sc_hitCounts : FnScope ["board", "told", "order"] ["board"] (defScope sHitCounts) := ⟨rfl, rfl, rfl, by decide +kernel, rfl, by decide +kernel, by decide +kernel⟩
theorem ok_hitCounts {f f1 f2 f3  : Addr} {fd fd1 fd2 fd3 : FuncData} {CS : Addr} (F : Fun K "hit_counts" "hit_counts" sHitCounts f fd) (T : GlbA mg)
    (m1 : mg "refuse_not_square" = some (.ref f1)) (G1 : FnOk P w K mg base (Rx.CXE P w) 1 f1 fd1 ["board"] (spRefSq CS)) (b1 : Binds K fd1 ["board"] []) (k1 : PySem.W.keepIn K (.ref f1) = true)
    (m2 : mg "all_orders" = some (.ref f2)) (G2 : FnOk P w K mg base CX0 2 f2 fd2 ["many"] spAll) (b2 : Binds K fd2 ["many"] []) (k2 : PySem.W.keepIn K (.ref f2) = true)
    (m3 : mg "cells_hit" = some (.ref f3)) (G3 : FnOk P w K mg base CX0 1 f3 fd3 ["board", "order"] spCellsHit) (b3 : Binds K fd3 ["board", "order"] []) (k3 : PySem.W.keepIn K (.ref f3) = true) :
    FnOk P w K mg base (Rx.CXE P w) 3 f fd ["board"] (spHitCounts CS) := by
  refine Rx.okE F sc_hitCounts (fun vs H Q E h => ?_) (fun cdv A outer s H vs Q E hr h => ?_)
  · obtain ⟨p, q, h, w', L, rfl, _⟩ := h
    rfl
  · obtain ⟨p, q, h, w', L, rfl, B, x1, x2⟩ := h
    have un := hr.units
    refine ⟨_, pss_cons (ps_expr (pe_call G1 (hr.mono (by decide)) (by rfl) m1 k1 b1 .nil (Rx.passE (E := E) (fun _ _ h => h) rfl rfl rfl) (pa_cons (pv 0) pa_nil)))
      (pss_cons (ps_set (i := 1) sc_hitCounts.nd rfl (by first | exact Or.inl rfl | exact Or.inr rfl) (pe_op op_rep (pe_lstW (pa_c pe_int pa_nil)) (pe_op op_add (pe_ix ix_tup (pv 0) pe_int (fun _ _ => rfl)) pe_int)))
      (pss_cons (ps_nox (ps_for PassesOwn.never rfl (pi_list (pe_call G2 (hr.mono (by decide)) (by rfl) m2 k2 b2 .nil pass0 (pa_cons (pe_ix ix_tup (pv 0) pe_int (fun _ _ => rfl)) pa_nil))) (pg_name (i := 2) sc_hitCounts.nd rfl (by first | exact Or.inl rfl | exact Or.inr rfl))
        (pss_one (ps_augS (pv 1) (pe_callB call_len_seq (by rfl) T.len bt_len (pa_cons (pe_call G3 (hr.mono (by decide)) (by rfl) m3 k3 b3 .nil pass0 (pa_cons (pv 0) (pa_cons (pv 2) pa_nil))) pa_nil)) get_list pe_int ip_add set_list))))
      (pss_one (ps_ret (pv 1))))), ?_⟩
    have hb1 := B.h1
    have hb6 := B.h6
    have hh : h = ((h.toNat : Nat) : Int) := by omega
    obtain ⟨c, ps, nc, e1, e2, cs⟩ := B.it
    refine ⟨_, rfl, p, q, h, w', L, rfl, B, x1, fun hz => ?_⟩
    refine ⟨by show 1 ≤ 1000; decide, fun l0 H1 s1 n1 l1 => ?_⟩
    refine ⟨_, rfl, q, _, 0, .int h, rfl, rfl, SqT.of (s1 _ _ e1), rfl, _, _, rfl, rfl, l0, _, _, rfl, rfl, l1, by omega, by omega, ?_, fun lt nlt => withS nlt fun H2 s2 e2' => ?_⟩
    · show 1 * (h + 1).toNat ≤ sizeLine
      exact Nat.le_of_lt (line_ge (by omega))
    have S2 := s1.trans s2
    refine ⟨_, rfl, q, _, 0, .int h, rfl, rfl, SqT.of (S2 _ _ e1), rfl, h.toNat, by rw [← hh]; rfl, by omega, fun lo H3 ys s3 n3 e3 d3 => ?_⟩
    have S3 := S2.trans s3
    have nlt0 : H lt = none := s1.free nlt
    have ct3 : H3 lt = some (.lst ((hitCnt L h.toNat []).map V.int)) := by
      rw [s3 _ _ e2']
      show some (HO.lst (List.replicate (h + 1).toNat [V.int 0]).flatten) = some (HO.lst ((List.replicate (h.toNat + 1) (0 : Int)).map V.int))
      rw [show (h + 1).toNat = h.toNat + 1 by omega, List.map_replicate]
      congr 2
      have : ∀ n : Nat, (List.replicate n [V.int 0]).flatten = List.replicate n (V.int 0) := fun n => by
        induction n with
        | zero => rfl
        | succ n ih => rw [List.replicate_succ, List.flatten_cons, ih, List.replicate_succ]; rfl
      exact this _
    have nlo : lo ≠ lt := nd_of e2' n3
    have hlen : ys.length = (ordsI h.toNat h.toNat).length := by have := d3.length; rwa [List.length_map] at this
    refine ⟨lo, rfl, ⟨ys, SqL.of e3⟩, for_list (K := K) (a := lo) (xs := ys) (fun i σ H4 => ∃ v, σ = [some (.ref q), some (.ref lt), v] ∧ KX lt H3 H4 ∧ H4 lt = some (.lst ((hitCnt L h.toNat ((ordsI h.toNat h.toNat).take i)).map V.int))) ⟨none, rfl, KX.refl _ _, ct3⟩
      (fun _ _ _ _ ⟨_, _, x4, _⟩ => SqL.of (x4 _ _ nlo e3)) ?_ ?_⟩
    · rintro i x σ H4 hi ⟨v, rfl, x4, ct4⟩
      have hi' : i < (ordsI h.toNat h.toNat).length := by
        have := (List.getElem?_eq_some_iff.mp hi).1
        omega
      obtain ⟨d, hd, qd⟩ := d3.get i x hi
      have ed : d = intsD ((ordsI h.toNat h.toNat).getD i []) := by
        rw [List.getElem?_map, List.getElem?_eq_getElem hi'] at hd
        cases hd
        rw [List.getD_eq_getElem?_getD, List.getElem?_eq_getElem hi']
        rfl
      subst ed
      have olen : ((ordsI h.toNat h.toNat).getD i []).length = h.toNat := by
        rw [List.getD_eq_getElem?_getD, List.getElem?_eq_getElem hi']
        exact ordsI_mem (List.getElem_mem hi')
      obtain ⟨t, rfl, et⟩ := dat_intsD qd
      have tk := take_getD [] hi'
      generalize (ordsI h.toNat h.toNat).getD i [] = o at *
      have nt : t ≠ lt := fun z => by rw [z, s3 _ _ e2'] at et; cases et
      have S4 : Same H H4 := fun b ob eb => x4 b ob (ne_of_none eb nlt0) (S3 b ob eb)
      refine ⟨_, rfl, _, rfl, _, rfl, p, q, h, w', L, t, o, rfl, B.kx (KX.of S4), x4 _ _ nt et, by omega, fun v5 H5 s5 d5 => ?_⟩
      obtain ⟨t5, zs, rfl, e5, q5⟩ : ∃ t5 zs, v5 = .ref t5 ∧ H5 t5 = some (.tup zs) ∧ Dats H5 zs ((hitI L o).map pairD) := by
        cases d5 with
        | @tup a xs _ ea qa => exact ⟨a, xs, rfl, ea, qa⟩
      have lz : zs.length = (hitI L o).length := by have := q5.length; rwa [List.length_map] at this
      have hk : (hitI L o).length < (hitCnt L h.toNat ((ordsI h.toNat h.toNat).take i)).length := by
        unfold hitCnt
        rw [cntI_len]
        have := hitI_len L o
        omega
      have ct5 := s5 _ _ ct4
      refine ⟨t5, zs, rfl, .inr (SqT.of e5), lt, _, _, .int ((hitCnt L h.toNat ((ordsI h.toNat h.toNat).take i)).getD (hitI L o).length 0), rfl, rfl, SqL.of ct5, ?_, _, _, rfl, rfl, lt, _, _, (hitI L o).length, rfl, rfl, ct5, ?_, ?_⟩
      · rw [lz]; exact ints_ix hk
      · rw [lz, List.length_map]; exact ixN_nat hk
      · refine ⟨_, rfl, (x4.trans (KX.of s5)).trans KX.upd, ?_⟩
        rw [upd_same, ints_set, tk]
        unfold hitCnt
        rw [List.map_append, List.map_singleton, cntI_snoc]
    · rintro σ H4 ⟨v, rfl, x4, ct4⟩
      have S4 : Same H H4 := fun b ob eb => x4 b ob (ne_of_none eb nlt0) (S3 b ob eb)
      refine ⟨_, rfl, x2 hz lt H4 S4 nlt0 ?_⟩
      rw [ct4, hlen, List.take_length]
end
end Rk
set_option Elab.async false
set_option linter.all false
set_option maxRecDepth 100000
set_option maxHeartbeats 4000000
namespace Rk
open PySem PySem.Spec PyProof.Rows L2 _root_.Rd
section
variable {P : Program} {w : World} {K : PySem.W.Frag} {mg : Str → Option Value} {base : Heap}
theorem scKind : FnScope ["_law_e", "_law_some", "_law_words"] ["_law_e"] (defScope lKind) := ⟨rfl, rfl, rfl, by decide +kernel, rfl, by decide +kernel, by decide +kernel⟩
theorem ok_kind {f c1 c2 c3 c4 c5 c6 c7 c8 c9 c10 c11 c12 c13 c14 c15 c16 c17 c18 c19 : Addr} {fd : FuncData} (F : Fun K "_law_kind_of" "_law_kind_of" lKind f fd) (T : GlbA mg) (mV : mg "ValueError" = none)
    (m1 : mg "NoOrder" = some (.ref c1)) (m2 : mg "NoSize" = some (.ref c2)) (m3 : mg "TooMany" = some (.ref c3)) (m4 : mg "NoNumber" = some (.ref c4)) (m5 : mg "NoStand" = some (.ref c5)) (m6 : mg "NotSquare" = some (.ref c6)) (m7 : mg "NoCounts" = some (.ref c7)) (m8 : mg "NoHits" = some (.ref c8)) (m9 : mg "NoStairs" = some (.ref c9)) (m10 : mg "NotAlike" = some (.ref c10)) (m11 : mg "NoText" = some (.ref c11)) (m12 : mg "NoLines" = some (.ref c12)) (m13 : mg "TooFew" = some (.ref c13)) (m14 : mg "NoCell" = some (.ref c14)) (m15 : mg "NoParting" = some (.ref c15)) (m16 : mg "NoPlace" = some (.ref c16)) (m17 : mg "Double" = some (.ref c17)) (m18 : mg "NoDeed" = some (.ref c18)) (m19 : mg "NoRow" = some (.ref c19)) :
    Rx.FnM P w K mg base 1 f fd ["_law_e"] (spKind2 K [c1, c2, c3, c4, c5, c6, c7, c8, c9, c10, c11, c12, c13, c14, c15, c16, c17, c18, c19]) := by
  refine Rx.okM F scKind (fun vs H Q E h => ?_) (fun cdv A outer s H vs Q E hr h => ?_)
  · obtain ⟨a, C, bs, j, wd, rfl, _⟩ := h
    rfl
  · obtain ⟨a, C, bs, j, wd, rfl, ha, hc, pb, eV, hcnt, hj, hm, hw, k⟩ := h
    refine' ⟨_, pss_cons (ps_set (i := 1) scKind.nd rfl (Or.inl rfl) (pe_lstW (pa_isx (x := "_law_e") (ns := ["NoOrder", "NoSize", "TooMany", "NoNumber"]) (cs := [c1, c2, c3, c4]) rfl (Or.inl rfl) (by decide) (by decide) (by rfl) T.isinstance (by decide +kernel) (by rfl) (.cons m1 (.cons m2 (.cons m3 (.cons m4 .nil))))))) ?p1, ?rd⟩
    case p1 =>
      show PSs _ _ _
      refine' pss_cons (ps_set (i := 1) scKind.nd rfl (Or.inl rfl) (pe_op op_catW (pv 1) (pe_lstW (pa_isx (x := "_law_e") (ns := ["NoStand", "NotSquare", "NoCounts", "NoHits"]) (cs := [c5, c6, c7, c8]) rfl (Or.inl rfl) (by decide) (by decide) (by rfl) T.isinstance (by decide +kernel) (by rfl) (.cons m5 (.cons m6 (.cons m7 (.cons m8 .nil)))))))) ?_
      show PSs _ _ _
      refine' pss_cons (ps_set (i := 1) scKind.nd rfl (Or.inl rfl) (pe_op op_catW (pv 1) (pe_lstW (pa_isx (x := "_law_e") (ns := ["NoStairs", "NotAlike", "NoText", "NoLines"]) (cs := [c9, c10, c11, c12]) rfl (Or.inl rfl) (by decide) (by decide) (by rfl) T.isinstance (by decide +kernel) (by rfl) (.cons m9 (.cons m10 (.cons m11 (.cons m12 .nil)))))))) ?_
      show PSs _ _ _
      refine' pss_cons (ps_set (i := 1) scKind.nd rfl (Or.inl rfl) (pe_op op_catW (pv 1) (pe_lstW (pa_isx (x := "_law_e") (ns := ["TooFew", "NoCell", "NoParting", "NoPlace"]) (cs := [c13, c14, c15, c16]) rfl (Or.inl rfl) (by decide) (by decide) (by rfl) T.isinstance (by decide +kernel) (by rfl) (.cons m13 (.cons m14 (.cons m15 (.cons m16 .nil)))))))) ?_
      show PSs _ _ _
      refine' pss_cons (ps_set (i := 1) scKind.nd rfl (Or.inl rfl) (pe_op op_catW (pv 1) (pe_lstW (pa_isx (x := "_law_e") (ns := ["Double", "NoDeed", "NoRow"]) (cs := [c17, c18, c19]) rfl (Or.inl rfl) (by decide) (by decide) (by rfl) T.isinstance (by decide +kernel) (by rfl) (.cons m17 (.cons m18 (.cons m19 .nil))))))) ?_
      show PSs _ _ _
      refine' pss_cons (ps_if (pw_or (pt_cmpR op_ne (pe_bm PySem.F.plainAttrs_list PySem.F.slot_list_count PySem.F.type_list_count Rx.mt_count (pv 1) (pa_cons pe_bl pa_nil)) pe_int (nomark _)) (pw_or1 (pt_not (pt_val (pe_callB Rx.call_isEx (by rfl) T.isinstance bt_isinstance (pa_cons (pv 0) (pa_cons (pe_bltn (v := .ty "ValueError") (by rfl) mV bt_ve rfl) pa_nil))))))).pt (pss_one (ps_ret pe_str)) pss_nil) ?_
      show PSs _ _ _
      refine' pss_cons ?a1 ?_
      case a1 =>
        refine' ps_set (i := 2) (hs := ?hh) (hf := ?hf) ?hN ?hi ?hx ?he
        case hN => exact scKind.nd
        case hi => exact rfl
        case hx => exact Or.inl rfl
        case hf => exact Or.inl rfl
        case hh => kernel_rfl
        case he =>
          refine' pe_lstW ?ww
          case ww => exact pa_strs (ws := words10) (by kernel_rfl)
      show PSs _ _ _
      exact pss_one (ps_ret (pe_ix ix_list (pe_op op_catW (pv 2) (pe_op op_repW (pe_lstW (pa_c pe_str pa_nil)) pe_int)) (pe_bm PySem.F.plainAttrs_list PySem.F.slot_list_index PySem.F.type_list_index Rx.mt_index (pv 1) (pa_cons pe_bl pa_nil)) (fun _ _ => rfl)))
    obtain ⟨b1, bs1, rfl, q1, pb1⟩ := paired_cons pb
    obtain ⟨b2, bs2, rfl, q2, pb2⟩ := paired_cons pb1
    obtain ⟨b3, bs3, rfl, q3, pb3⟩ := paired_cons pb2
    obtain ⟨b4, bs4, rfl, q4, pb4⟩ := paired_cons pb3
    obtain ⟨b5, bs5, rfl, q5, pb5⟩ := paired_cons pb4
    obtain ⟨b6, bs6, rfl, q6, pb6⟩ := paired_cons pb5
    obtain ⟨b7, bs7, rfl, q7, pb7⟩ := paired_cons pb6
    obtain ⟨b8, bs8, rfl, q8, pb8⟩ := paired_cons pb7
    obtain ⟨b9, bs9, rfl, q9, pb9⟩ := paired_cons pb8
    obtain ⟨b10, bs10, rfl, q10, pb10⟩ := paired_cons pb9
    obtain ⟨b11, bs11, rfl, q11, pb11⟩ := paired_cons pb10
    obtain ⟨b12, bs12, rfl, q12, pb12⟩ := paired_cons pb11
    obtain ⟨b13, bs13, rfl, q13, pb13⟩ := paired_cons pb12
    obtain ⟨b14, bs14, rfl, q14, pb14⟩ := paired_cons pb13
    obtain ⟨b15, bs15, rfl, q15, pb15⟩ := paired_cons pb14
    obtain ⟨b16, bs16, rfl, q16, pb16⟩ := paired_cons pb15
    obtain ⟨b17, bs17, rfl, q17, pb17⟩ := paired_cons pb16
    obtain ⟨b18, bs18, rfl, q18, pb18⟩ := paired_cons pb17
    obtain ⟨b19, bs19, rfl, q19, pb19⟩ := paired_cons pb18
    cases paired_nil pb19
    refine ⟨a, C, [b1, b2, b3, b4], rfl, ha, hc, (.cons q1 (.cons q2 (.cons q3 (.cons q4 .nil)))), by show 4 ≤ 1000; decide, fun l1 H1 s1 n1 e_1 => ?_⟩
    have h1 := s1 _ _ ha
    refine ⟨_, rfl, a, C, [b5, b6, b7, b8], rfl, h1, hc, (.cons q5 (.cons q6 (.cons q7 (.cons q8 .nil)))), by show 4 ≤ 1000; decide, fun l2 H2 s2 n2 e_2 => ⟨l1, l2, _, _, rfl, rfl, s2 _ _ e_1, e_2, by show 8 ≤ 1000; decide, fun l3 H3 s3 n3 e_3 => ?_⟩⟩
    have h3 := s3 _ _ (s2 _ _ h1)
    refine ⟨_, rfl, a, C, [b9, b10, b11, b12], rfl, h3, hc, (.cons q9 (.cons q10 (.cons q11 (.cons q12 .nil)))), by show 4 ≤ 1000; decide, fun l4 H4 s4 n4 e_4 => ⟨l3, l4, _, _, rfl, rfl, s4 _ _ e_3, e_4, by show 12 ≤ 1000; decide, fun l5 H5 s5 n5 e_5 => ?_⟩⟩
    have h5 := s5 _ _ (s4 _ _ h3)
    refine ⟨_, rfl, a, C, [b13, b14, b15, b16], rfl, h5, hc, (.cons q13 (.cons q14 (.cons q15 (.cons q16 .nil)))), by show 4 ≤ 1000; decide, fun l6 H6 s6 n6 e_6 => ⟨l5, l6, _, _, rfl, rfl, s6 _ _ e_5, e_6, by show 16 ≤ 1000; decide, fun l7 H7 s7 n7 e_7 => ?_⟩⟩
    have h7 := s7 _ _ (s6 _ _ h5)
    refine ⟨_, rfl, a, C, [b17, b18, b19], rfl, h7, hc, (.cons q17 (.cons q18 (.cons q19 .nil))), by show 3 ≤ 1000; decide, fun l8 H8 s8 n8 e_8 => ⟨l7, l8, _, _, rfl, rfl, s8 _ _ e_7, e_8, by show 19 ≤ 1000; decide, fun l9 H9 s9 n9 e_9 => ?_⟩⟩
    have h9 := s9 _ _ (s8 _ _ h7)
    have S := ((((((((s1.trans s2).trans s3).trans s4).trans s5).trans s6).trans s7).trans s8).trans s9)
    have EL : H9 l9 = some (.lst (([b1, b2, b3, b4, b5, b6, b7, b8, b9, b10, b11, b12, b13, b14, b15, b16, b17, b18, b19] : List Bool).map V.bl)) := e_9
    refine ⟨_, rfl, .inl ⟨rfl, _, SqL.of EL⟩, l9, _, rfl, rfl, EL, rfl, _, rfl, ?_⟩
    rw [hcnt]
    refine iteNS rfl ?_
    refine ⟨_, rfl, a, C, .ty "ValueError", .type "ValueError", true, rfl, h9, hc, (fun u r => r), eV, _, rfl, ?_⟩
    refine ⟨by show 10 ≤ 1000; decide, fun l10 H10 s10 n10 e_10 => ?_⟩
    refine ⟨_, rfl, by show 1 ≤ 1000; decide, fun l11 H11 s11 n11 e_11 => ⟨l11, _, _, rfl, rfl, e_11, by decide, by decide, by decide, fun l12 H12 s12 n12 e_12 => ⟨l10, l12, _, _, rfl, rfl, s12 _ _ (s11 _ _ e_10), e_12, by show 10 + _ ≤ 1000; decide, fun l13 H13 s13 n13 e_13 => ?_⟩⟩⟩
    have EL2 := s13 _ _ (s12 _ _ (s11 _ _ (s10 _ _ EL)))
    refine ⟨_, rfl, .inl ⟨rfl, _, SqL.of EL2⟩, l9, _, j, rfl, rfl, EL2, hj, hm, ?_⟩
    have EW : H13 l13 = some (.lst (wordsK2.map V.str)) := e_13
    exact ⟨l13, _, _, .str wd, rfl, rfl, SqL.of EW, atI_nat (by rw [List.getElem?_map, hw]; rfl), k H13 ((((S.trans s10).trans s11).trans s12).trans s13)⟩
end
end Rk
set_option Elab.async false
set_option linter.all false
set_option maxRecDepth 100000
set_option maxHeartbeats 4000000
namespace Rk
open PySem PySem.Spec PyProof.Rows L2 _root_.Rd
def wd44 (way : Int) (sq ord num : Bool) : Str :=
  if sq = false then "square" else if way = 0 then (if ord = true then "told" else "order") else if way = 1 then (if ord = true then (if num = true then "told" else "number") else "order") else if way = 2 then (if num = true then "told" else "number") else "told"
def BadC (p : Addr) (H : Hp) (x : V) : Prop := NotNum p H x ∨ ∃ l c, x = .ref l ∧ H l = some (.lst ((c : List Int).map V.int)) ∧ 2 ≤ c.length ∧ c.length ≤ 13 ∧ (c.getD 0 0 ≠ 1 ∨ ∃ y ∈ c, y < 0)
theorem BadC.keep {p : Addr} {H H' : Hp} {x : V} (k : Kn p H x) (s : Same H H') (h : BadC p H x) : BadC p H' x := by
  rcases h with z | ⟨l, c, e, el, r⟩
  · exact .inl (z.keep k s)
  · exact .inr ⟨l, c, e, s _ _ el, r⟩
def spH2 (CC : Addr) : Sp := fun vs H Q E => spHitsBy vs H Q E ∨ spHitsByB CC vs H Q E
def spC2 (CH : Addr) : Sp := fun vs H Q E => spCountsBy vs H Q E ∨ spCountsByB CH vs H Q E
def spTold44 : Sp := fun vs H Q _ =>
  (∃ p q h w L x y way, vs = [.int way, .ref q, x, y] ∧ 0 ≤ way ∧ way ≤ 3 ∧ BoardAt p H q h w L ∧ KnD p 1 H x ∧ Sm H x ∧ Kn p H y ∧ ∀ H', Same H H' → Q (.str (wd44 way (decide (h = w)) (ordV H h.toNat x) (within y 0 h))) H') ∨
  (∃ p x y z, vs = [.int 4, x, y, z] ∧ Kn p H x ∧ BadC p H x ∧ ∀ H', Same H H' → Q (.str "counts") H') ∨
  (∃ l c y z, vs = [.int 4, .ref l, y, z] ∧ H l = some (.lst ((c : List Int).map V.int)) ∧ 2 ≤ c.length ∧ c.length ≤ 13 ∧ c.getD 0 0 = 1 ∧ (∀ x ∈ c, 0 ≤ x) ∧ ∀ H', Same H H' → Q (.str "told") H') ∨
  (∃ p x y z, vs = [.int 5, x, y, z] ∧ Kn p H x ∧ NotNum p H x ∧ ∀ H', Same H H' → Q (.str "hits") H') ∨
  (∃ l c y z, vs = [.int 5, .ref l, y, z] ∧ H l = some (.lst ((c : List Int).map V.int)) ∧ 2 ≤ c.length ∧ c.length ≤ 13 ∧ ∀ H', Same H H' → Q (.str "told") H')
section
variable {P : Program} {w : World} {K : PySem.W.Frag} {mg : Str → Option Value} {base : Heap}
theorem sc_told : FnScope ["_law_way", "_law_board_here", "_law_order_here", "_law_many", "_law_e"] ["_law_way", "_law_board_here", "_law_order_here", "_law_many"] (defScope lTold) := ⟨rfl, rfl, rfl, by decide +kernel, rfl, by decide +kernel, by decide +kernel⟩
theorem ok_told {f f1 f2 f3 f4 f5 f6 f7 CS CO CN CC CH R : Addr} {cs : List Addr} {fd fd1 fd2 fd3 fd4 fd5 fd6 fd7 : FuncData} (F : Fun K "_law_told" "_law_told" lTold f fd)
    (m1 : mg "hits_of" = some (.ref f1)) (G1 : FnOk P w K mg base (Rx.CXE P w) 5 f1 fd1 ["board", "order"] (spHitsOf CS CO)) (b1 : Binds K fd1 ["board", "order"] []) (k1 : PySem.W.keepIn K (.ref f1) = true)
    (m2 : mg "next_hitting" = some (.ref f2)) (G2 : FnOk P w K mg base (Rx.CXE P w) 5 f2 fd2 ["board", "order", "many"] (spNext CS CO CN)) (b2 : Binds K fd2 ["board", "order", "many"] []) (k2 : PySem.W.keepIn K (.ref f2) = true)
    (m3 : mg "first_hitting" = some (.ref f3)) (G3 : FnOk P w K mg base (Rx.CXE P w) 4 f3 fd3 ["board", "many"] (spFirst CS CN)) (b3 : Binds K fd3 ["board", "many"] []) (k3 : PySem.W.keepIn K (.ref f3) = true)
    (m4 : mg "hit_counts" = some (.ref f4)) (G4 : FnOk P w K mg base (Rx.CXE P w) 3 f4 fd4 ["board"] (spHitCounts CS)) (b4 : Binds K fd4 ["board"] []) (k4 : PySem.W.keepIn K (.ref f4) = true)
    (m5 : mg "hits_by" = some (.ref f5)) (G5 : FnOk P w K mg base (Rx.CXE P w) 3 f5 fd5 ["counts"] (spH2 CC)) (b5 : Binds K fd5 ["counts"] []) (k5 : PySem.W.keepIn K (.ref f5) = true)
    (m6 : mg "counts_by" = some (.ref f6)) (G6 : FnOk P w K mg base (Rx.CXE P w) 3 f6 fd6 ["hits"] (spC2 CH)) (b6 : Binds K fd6 ["hits"] []) (k6 : PySem.W.keepIn K (.ref f6) = true)
    (m7 : mg "_law_kind_of" = some (.ref f7)) (G7 : Rx.FnM P w K mg base 1 f7 fd7 ["_law_e"] (spKind2 K cs)) (b7 : Binds K fd7 ["_law_e"] []) (k7 : PySem.W.keepIn K (.ref f7) = true)
    (mR : mg "RookError" = some (.ref R)) (oS : KOk2 K cs R CS "square") (oO : KOk2 K cs R CO "order") (oN : KOk2 K cs R CN "number") (oC : KOk2 K cs R CC "counts") (oH : KOk2 K cs R CH "hits") :
    FnOk P w K mg base CX0 6 f fd ["_law_way", "_law_board_here", "_law_order_here", "_law_many"] spTold44 := by
  refine F.ok sc_told (fun vs H Q E h => ?_) (fun cdv A outer s H vs Q E hr h => ?_)
  · rcases h with ⟨p, q, h, w', L, x, y, way, rfl, _⟩ | ⟨p, x, y, z, rfl, _⟩ | ⟨l, c, y, z, rfl, _⟩ | ⟨p, x, y, z, rfl, _⟩ | ⟨l, c, y, z, rfl, _⟩ <;> rfl
  · have hr1 : Room 1 _ := hr.mono (by decide)
    refine ⟨_, pss_cons (Rx.ps_tryS (i := 4) rfl rfl (Rx.psxs_one (Rx.psx_if (pt_cmpR op_eq (pv 0) pe_int (nomark _)) (Rx.psxs_one (Rx.psx_expr (Rx.pex_call G1 (hr.mono (by decide)) (by rfl) m1 k1 b1 rfl (pa_cons (pv 1) (pa_cons (pv 2) pa_nil)))))
        (Rx.psxs_one (Rx.psx_if (pt_cmpR op_eq (pv 0) pe_int (nomark _)) (Rx.psxs_one (Rx.psx_expr (Rx.pex_call G2 (hr.mono (by decide)) (by rfl) m2 k2 b2 rfl (pa_cons (pv 1) (pa_cons (pv 2) (pa_cons (pv 3) pa_nil))))))
        (Rx.psxs_one (Rx.psx_if (pt_cmpR op_eq (pv 0) pe_int (nomark _)) (Rx.psxs_one (Rx.psx_expr (Rx.pex_call G3 (hr.mono (by decide)) (by rfl) m3 k3 b3 rfl (pa_cons (pv 1) (pa_cons (pv 3) pa_nil)))))
        (Rx.psxs_one (Rx.psx_if (pt_cmpR op_eq (pv 0) pe_int (nomark _)) (Rx.psxs_one (Rx.psx_expr (Rx.pex_call G4 (hr.mono (by decide)) (by rfl) m4 k4 b4 rfl (pa_cons (pv 1) pa_nil))))
        (Rx.psxs_one (Rx.psx_expr (Rx.pex_callF (M := fun f sp => (f = f5 ∧ sp = spH2 CC) ∨ (f = f6 ∧ sp = spC2 CH)) (fun g sp hM => ?_) (pe_ix ix_list (pe_lstW (pa_c (pe_glob (v := .ref f5) (by rfl) m5 rfl) (pa_c (pe_glob (v := .ref f6) (by rfl) m6 rfl) pa_nil))) (pe_op op_sub (pv 0) pe_int) (fun _ _ => rfl)) rfl (pa_cons (pv 1) pa_nil))))))))))))
      sc_told.nd rfl rfl (by rfl) mR (fun e => Rx.pe_callM G7 (Rx.Room.m hr1 e) (by rfl) m7 k7 b7 (pa_cons (pv 4) pa_nil)))
      (pss_one (ps_ret pe_str)), ?_⟩
    · rcases hM with ⟨rfl, rfl⟩ | ⟨rfl, rfl⟩
      · exact ⟨_, _, _, G5, hr.mono (by decide), k5, b5⟩
      · exact ⟨_, _, _, G6, hr.mono (by decide), k6, b6⟩
    have h4 : (4 : Nat) < 5 := by decide
    rcases h with ⟨p, q, h, w', L, x, y, way, rfl, w0, w3, B, kx, sx, ky, k⟩ | ⟨p, x, y, z, rfl, kn, bad, k⟩ | ⟨l, c, y, z, rfl, el, c2, c13, c1, cp, k⟩ | ⟨p, x, y, z, rfl, kn, bad, k⟩ | ⟨l, c, y, z, rfl, el, c2, c13, k⟩
    · have hw4 : way = 0 ∨ way = 1 ∨ way = 2 ∨ way = 3 := by omega
      rcases hw4 with rfl | rfl | rfl | rfl
      · refine ⟨_, rfl, rfl, _, rfl, iteT ?_⟩
        refine ⟨_, rfl, _, rfl, p, q, h, w', L, x, rfl, B, kx, sx, fun hz => ⟨CS, rfl, handled2 oS h4 fun H2 s2 => ?_⟩, fun hz ho H1 s1 => ⟨CO, rfl, handled2 oO h4 fun H2 s2 => ?_⟩, fun hz ho v H1 s1 _ => ?_⟩
        · have := k H2 s2
          rw [decide_eq_false hz] at this
          exact this
        · have := k H2 (s1.trans s2)
          rw [decide_eq_true hz, ho] at this
          exact this
        · have := k H1 s1
          rw [decide_eq_true hz, ho] at this
          exact this
      · refine ⟨_, rfl, rfl, _, rfl, iteF ⟨_, rfl, rfl, _, rfl, iteT ?_⟩⟩
        refine ⟨_, rfl, _, rfl, _, rfl, p, q, h, w', L, x, y, rfl, B, kx, sx, ky, fun hz => ⟨CS, rfl, handled2 oS h4 fun H2 s2 => ?_⟩, fun hz ho H1 s1 => ⟨CO, rfl, handled2 oO h4 fun H2 s2 => ?_⟩, fun hz ho hn H1 s1 => ⟨CN, rfl, handled2 oN h4 fun H2 s2 => ?_⟩, fun hz ho hn v H1 s1 _ => ?_⟩
        · have := k H2 s2
          rw [decide_eq_false hz] at this
          exact this
        · have := k H2 (s1.trans s2)
          rw [decide_eq_true hz, ho] at this
          exact this
        · have := k H2 (s1.trans s2)
          rw [decide_eq_true hz, ho, hn] at this
          exact this
        · have := k H1 s1
          rw [decide_eq_true hz, ho, hn] at this
          exact this
      · refine ⟨_, rfl, rfl, _, rfl, iteF ⟨_, rfl, rfl, _, rfl, iteF ⟨_, rfl, rfl, _, rfl, iteT ?_⟩⟩⟩
        refine ⟨_, rfl, _, rfl, p, q, h, w', L, y, rfl, B, ky, fun hz => ⟨CS, rfl, handled2 oS h4 fun H2 s2 => ?_⟩, fun hz hn => ⟨CN, rfl, handled2 oN h4 fun H2 s2 => ?_⟩, fun hz hn v H1 s1 _ => ?_⟩
        · have := k H2 s2
          rw [decide_eq_false hz] at this
          exact this
        · have := k H2 s2
          rw [decide_eq_true hz, hn] at this
          exact this
        · have := k H1 s1
          rw [decide_eq_true hz, hn] at this
          exact this
      · refine ⟨_, rfl, rfl, _, rfl, iteF ⟨_, rfl, rfl, _, rfl, iteF ⟨_, rfl, rfl, _, rfl, iteF ⟨_, rfl, rfl, _, rfl, iteT ?_⟩⟩⟩⟩
        refine ⟨_, rfl, p, q, h, w', L, rfl, B, fun hz => ⟨CS, rfl, handled2 oS h4 fun H2 s2 => ?_⟩, fun hz l H1 s1 _ _ => ?_⟩
        · have := k H2 s2
          rw [decide_eq_false hz] at this
          exact this
        · have := k H1 s1
          rw [decide_eq_true hz] at this
          exact this
    · refine ⟨_, rfl, rfl, _, rfl, iteF ⟨_, rfl, rfl, _, rfl, iteF ⟨_, rfl, rfl, _, rfl, iteF ⟨_, rfl, rfl, _, rfl, iteF ?_⟩⟩⟩⟩
      refine ⟨by show 2 ≤ 1000; decide, fun ll H1 s1 n1 e1 => ⟨_, rfl, _, _, rfl, rfl, ll, _, _, .ref f5, rfl, rfl, SqL.of e1, rfl, f5, spH2 CC, rfl, .inl ⟨rfl, rfl⟩, _, rfl, .inr ⟨p, x, rfl, kn.keep (KX.of s1), bad.keep kn s1, fun H2 s2 => ⟨CC, rfl, handled2 oC h4 fun H3 s3 => k H3 (s1.trans (s2.trans s3))⟩⟩⟩⟩
    · refine ⟨_, rfl, rfl, _, rfl, iteF ⟨_, rfl, rfl, _, rfl, iteF ⟨_, rfl, rfl, _, rfl, iteF ⟨_, rfl, rfl, _, rfl, iteF ?_⟩⟩⟩⟩
      refine ⟨by show 2 ≤ 1000; decide, fun ll H1 s1 n1 e1 => ⟨_, rfl, _, _, rfl, rfl, ll, _, _, .ref f5, rfl, rfl, SqL.of e1, rfl, f5, spH2 CC, rfl, .inl ⟨rfl, rfl⟩, _, rfl, .inl ⟨l, c, rfl, s1 _ _ el, c2, c13, c1, cp, fun l' H2 s2 _ _ => k H2 (s1.trans s2)⟩⟩⟩
    · refine ⟨_, rfl, rfl, _, rfl, iteF ⟨_, rfl, rfl, _, rfl, iteF ⟨_, rfl, rfl, _, rfl, iteF ⟨_, rfl, rfl, _, rfl, iteF ?_⟩⟩⟩⟩
      refine ⟨by show 2 ≤ 1000; decide, fun ll H1 s1 n1 e1 => ⟨_, rfl, _, _, rfl, rfl, ll, _, _, .ref f6, rfl, rfl, SqL.of e1, rfl, f6, spC2 CH, rfl, .inr ⟨rfl, rfl⟩, _, rfl, .inr ⟨p, x, rfl, kn.keep (KX.of s1), bad.keep kn s1, fun H2 s2 => ⟨CH, rfl, handled2 oH h4 fun H3 s3 => k H3 (s1.trans (s2.trans s3))⟩⟩⟩⟩
    · refine ⟨_, rfl, rfl, _, rfl, iteF ⟨_, rfl, rfl, _, rfl, iteF ⟨_, rfl, rfl, _, rfl, iteF ⟨_, rfl, rfl, _, rfl, iteF ?_⟩⟩⟩⟩
      refine ⟨by show 2 ≤ 1000; decide, fun ll H1 s1 n1 e1 => ⟨_, rfl, _, _, rfl, rfl, ll, _, _, .ref f6, rfl, rfl, SqL.of e1, rfl, f6, spC2 CH, rfl, .inr ⟨rfl, rfl⟩, _, rfl, .inl ⟨l, c, rfl, s1 _ _ el, c2, c13, fun v H2 s2 _ => k H2 (s1.trans s2)⟩⟩⟩
end
end Rk
set_option Elab.async false
set_option linter.all false
set_option maxRecDepth 100000
set_option maxHeartbeats 4000000
namespace Rk
open PySem PySem.Spec PyProof.Rows L2 _root_.Rd
def spNoOrd : Sp := fun vs H Q _ => ∃ p n t o m, vs = [.ref p, .ref t] ∧ H p = some (.lst [.int n]) ∧ t ≠ p ∧ H t = some (.tup ((o : List Int).map V.int)) ∧ o.length = m ∧ 1 ≤ m ∧ m ≤ 6 ∧ ∀ x H' n', KX p H H' → H' p = some (.lst [.int n']) → KnD p 1 H' x → Sm H' x → ordV H' m x = false → Q x H'
def OddO (m : Nat) (z : V) : Prop := isI z = false ∨ intV z < 0 ∨ (m : Int) ≤ intV z
theorem ord_odd {H : Hp} {a : Addr} {m : Nat} {ps : List V} {y : V} (e : H a = some (.tup ps)) (hy : y ∈ ps) (ho : OddO m y) : ordV H m (.ref a) = false := by
  unfold ordV
  rw [tupOf_at, e]
  show (decide (ps.length = m) && (ps.all isI && ordI m (ps.map intV))) = false
  by_cases hl : ps.length = m
  rotate_left
  · rw [decide_eq_false hl]; rfl
  rw [decide_eq_true hl]
  show (ps.all isI && ordI m (ps.map intV)) = false
  cases hi : ps.all isI with
  | false => rfl
  | true =>
    show ordI m (ps.map intV) = false
    cases ho' : ordI m (ps.map intV) with
    | false => rfl
    | true =>
      have pm := ord_perm (by rw [List.length_map]; exact hl) ho'
      have my := pm.mem_iff.mp (List.mem_map.mpr ⟨y, hy, rfl⟩)
      unfold rangeI at my
      obtain ⟨j, hj, ej⟩ := List.mem_map.mp my
      have := List.mem_range.mp hj
      rcases ho with z | z | z
      · rw [List.all_eq_true.mp hi y hy] at z; cases z
      · omega
      · omega
theorem ord_len {H : Hp} {a : Addr} {m : Nat} {ps : List V} (e : H a = some (.tup ps)) (hl : ps.length ≠ m) : ordV H m (.ref a) = false := by
  unfold ordV
  rw [tupOf_at, e]
  show (decide (ps.length = m) && _) = false
  rw [decide_eq_false hl]; rfl
theorem ord_no {H : Hp} {m : Nat} {x : V} (e : tupOf H x = none) : ordV H m x = false := by
  unfold ordV
  rw [e]
theorem cut_rest (xs : List V) (h : 0 < xs.length) : (cutV xs (some 1) none).length < xs.length := by
  unfold cutV
  rw [List.length_take, List.length_drop]
  have : 1 ≤ HT.sIx xs.length 0 (some 1) := by
    show 1 ≤ (if (1 : Int) < 0 then ((1 : Int) + (xs.length : Int)).toNat else min (1 : Int).toNat xs.length)
    rw [if_neg (by decide)]
    exact Nat.le_min.mpr ⟨by decide, h⟩
  omega
theorem cut_mem {xs : List V} {lo hi : Option Int} {y : V} (h : y ∈ cutV xs lo hi) : y ∈ xs := List.mem_of_mem_drop (List.mem_of_mem_take h)
def NoO (p : Addr) (H : Hp) (m : Nat) (x : V) : Prop := FineA p H x ∧ ordV H m x = false
theorem NoO.keep {p : Addr} {H H' : Hp} {m : Nat} {x : V} (h : NoO p H m x) (k : KX p H H') : NoO p H' m x := ⟨h.1.keep k, by rw [ordV_kx k h.1.thing.1.kn]; exact h.2⟩
theorem fine_ints {p : Addr} {H : Hp} {o : List Int} : ∀ y ∈ o.map V.int, FineA p H y := fun y hy => by
  obtain ⟨i, _, rfl⟩ := List.mem_map.mp hy
  exact FineA.int i
section
variable {P : Program} {w : World} {K : PySem.W.Frag} {mg : Str → Option Value} {base : Heap}
theorem sc_noOrd : FnScope ["_law_pot_here", "_law_order_here", "_law_spot", "_law_odds", "_law_some"] ["_law_pot_here", "_law_order_here"] (defScope lNoOrder) := ⟨rfl, rfl, rfl, by decide +kernel, rfl, by decide +kernel, by decide +kernel⟩
theorem ok_noOrd {f f1  : Addr} {fd fd1 : FuncData} (F : Fun K "_law_no_order" "_law_no_order" lNoOrder f fd) (T : GlbA mg)
    (m1 : mg "_law_take" = some (.ref f1)) (G1 : FnOk P w K mg base CX0 1 f1 fd1 ["_law_pot_here", "_law_far"] spTakeW) (b1 : Binds K fd1 ["_law_pot_here", "_law_far"] []) (k1 : PySem.W.keepIn K (.ref f1) = true) :
    FnOk P w K mg base CX0 2 f fd ["_law_pot_here", "_law_order_here"] spNoOrd := by
  refine F.ok sc_noOrd (fun vs H Q E h => ?_) (fun cdv A outer s H vs Q E hr h => ?_)
  · obtain ⟨p, n, t, o, m, rfl, _⟩ := h
    rfl
  · obtain ⟨p, n, t, o, m, rfl, ep, nt, et, lo, hm1, hm6, k⟩ := h
    have un := hr.units
    refine ⟨_, pss_cons (ps_set (i := 2) sc_noOrd.nd rfl (by first | exact Or.inl rfl | exact Or.inr rfl) (pe_call G1 (hr.mono (by decide)) (by rfl) m1 k1 b1 .nil pass0 (pa_cons (pv 0) (pa_cons (pe_callB call_len_seq (by rfl) T.len bt_len (pa_cons (pv 1) pa_nil)) pa_nil))))
      (pss_cons (ps_set (i := 3) sc_noOrd.nd rfl (by first | exact Or.inl rfl | exact Or.inr rfl) (pe_lstW (pa_c (pe_callB call_len_seq (by rfl) T.len bt_len (pa_cons (pv 1) pa_nil)) (pa_c (pe_un un_neg pe_int) (pa_c pe_bl (pa_c pe_non (pa_c pe_str (pa_c (pe_tupW (pa_c pe_int pa_nil)) pa_nil))))))))
      (pss_cons (ps_set (i := 4) sc_noOrd.nd rfl (by first | exact Or.inl rfl | exact Or.inr rfl) (pe_lstW (pa_c (pe_op op_catA (pe_op op_catA (pe_slice sl_any (pv 1) po_none (po_some (pv 2))) (pe_tupW (pa_c (pe_ix ix_list (pv 3) (pe_call G1 (hr.mono (by decide)) (by rfl) m1 k1 b1 .nil pass0 (pa_cons (pv 0) (pa_cons pe_int pa_nil))) (fun _ _ => rfl)) pa_nil))) (pe_slice sl_any (pv 1) (po_some (pe_op op_add (pv 2) pe_int)) po_none)) (pa_c (pe_slice sl_any (pv 1) (po_some pe_int) po_none) (pa_c (pe_op op_catA (pv 1) (pe_tupW (pa_c pe_int pa_nil))) (pa_c (pe_callTy call_list_ofW (by rfl) T.list bt_list (pa_cons (pv 1) pa_nil)) (pa_c pe_non pa_nil)))))))
      (pss_one (ps_ret (pe_ix ix_list (pe_op op_catW (pv 4) (pe_lstW (pa_c pe_int (pa_c pe_str (pa_c pe_dnew (pa_c (pe_tupW (pa_c (pv 1) pa_nil)) pa_nil)))))) (pe_call G1 (hr.mono (by decide)) (by rfl) m1 k1 b1 .nil pass0 (pa_cons (pv 0) (pa_cons pe_int pa_nil))) (fun _ _ => rfl)))))), ?_⟩
    have lo' : (o.map V.int).length = m := by rw [List.length_map, lo]
    refine ⟨_, rfl, _, rfl, t, _, rfl, .inr (SqT.of et), p, n, _, rfl, ep, by rw [lo']; omega, by rw [lo']; omega, fun r1 H1 n1 x1 p1 r10 r11 => ?_⟩
    have et1 := x1 _ _ nt et
    refine ⟨_, rfl, t, _, rfl, .inr (SqT.of et1), _, rfl, by show 1 ≤ 1000; decide, fun tz H2 s2 n2 e2 => ⟨by show 6 ≤ 1000; decide, fun lod H3 s3 n3 e3 => ?_⟩⟩
    have S3 := s2.trans s3
    have p3 := S3 _ _ p1
    have et3 := S3 _ _ et1
    have nlod : lod ≠ p := nd_of (s2 _ _ p1) n3
    have ntz : tz ≠ p := nd_of p1 n2
    have ALL : ∀ z ∈ [V.int ((o.map V.int).length : Int), .int (-1), .bl true, .non, .str "0", .ref tz], FineA p H3 z ∧ OddO m z :=
      fm_cons ⟨FineA.int _, .inr (.inr (by show (m : Int) ≤ ((o.map V.int).length : Int); omega))⟩ (fm_cons ⟨FineA.int _, .inr (.inl (by decide))⟩ (fm_cons ⟨FineA.bl _, .inl rfl⟩ (fm_cons ⟨fine_plain trivial rfl, .inl rfl⟩ (fm_cons ⟨fine_plain trivial rfl, .inl rfl⟩ (fm_cons ⟨FineA.tup ntz (s3 _ _ e2) (by show 1 ≤ 1000; decide) (fm_cons (FineA.int 0) fm_nil), .inl rfl⟩ fm_nil)))))
    refine ⟨_, rfl, _, rfl, _, rfl, t, _, rfl, et3, fun q1 H4 s4 e4 => ?_⟩
    refine ⟨_, rfl, _, rfl, p, n1, 6, rfl, s4 _ _ p3, by decide, by decide, fun r5 H5 n5 x5 p5 r50 r51 => ?_⟩
    obtain ⟨od, mod, hod⟩ := atI_mem (xs := [V.int ((o.map V.int).length : Int), .int (-1), .bl true, .non, .str "0", .ref tz]) r50 r51
    obtain ⟨fod, ood⟩ := ALL od mod
    have nq1 : q1 ≠ p := ne_lt e4 (s4 _ _ p3)
    refine ⟨lod, _, _, od, rfl, rfl, SqL.of (x5 _ _ nlod (s4 _ _ e3)), hod, by show 1 ≤ 1000; decide, fun q2 H6 s6 n6 e6 => ?_⟩
    have et6 := s6 _ _ (x5 _ _ nt (s4 _ _ et3))
    have l1 : (cutV (o.map V.int) none (some r1)).length ≤ 6 := cut_le (by omega)
    have l2 : (cutV (o.map V.int) (some (r1 + 1)) none).length ≤ 6 := cut_le (by omega)
    refine ⟨q1, q2, _, _, rfl, rfl, s6 _ _ (x5 _ _ nq1 e4), e6, Nat.le_of_lt (line_ge (by show _ + 1 ≤ _; omega)), fun q3 H7 s7 e7 => ?_⟩
    refine ⟨_, rfl, _, rfl, _, _, rfl, rfl, _, rfl, t, _, rfl, s7 _ _ et6, fun q4 H8 s8 e8 => ?_⟩
    refine ⟨q3, q4, _, _, rfl, rfl, s8 _ _ e7, e8, Nat.le_of_lt (line_ge (by rw [List.length_append]; show _ + 1 + _ ≤ _; omega)), fun q5 H9 s9 e9 => ?_⟩
    have S9 : Same H5 H9 := s6.trans (s7.trans (s8.trans s9))
    have p9 := S9 _ _ p5
    have et9 := s9 _ _ (s8 _ _ (s7 _ _ et6))
    refine ⟨_, rfl, _, rfl, t, _, rfl, et9, fun q6 H10 s10 e10 => ?_⟩
    refine ⟨_, rfl, by show 1 ≤ 1000; decide, fun q7 H11 s11 n11 e11 => ⟨t, q7, _, _, rfl, rfl, s11 _ _ (s10 _ _ et9), e11, Nat.le_of_lt (line_ge (by rw [lo']; show _ + 1 ≤ _; omega)), fun q8 H12 s12 e12 => ?_⟩⟩
    have et12 := s12 _ _ (s11 _ _ (s10 _ _ et9))
    refine ⟨_, rfl, t, _, rfl, .inr (SqT.of et12), fun l13 H13 s13 n13 e13 => ?_⟩
    refine ⟨by show 5 ≤ 1000; decide, fun ls H14 s14 n14 e14 => ?_⟩
    have p12 := s12 _ _ (s11 _ _ (s10 _ _ p9))
    have p13 := s13 _ _ p12
    have p14 := s14 _ _ p13
    have nls : ls ≠ p := nd_of p13 n14
    have et14 := s14 _ _ (s13 _ _ et12)
    have K514 : KX p H3 H9 := (KX.of s4).trans (x5.trans (KX.of S9))
    have N1 : NoO p H9 m (.ref q5) := by
      refine ⟨FineA.tup (ne_lt e9 p9) e9 (by simp only [List.length_append]; show _ + 1 + _ ≤ _; omega) fun y hy => ?_, ord_odd e9 (List.mem_append_left _ (List.mem_append_right _ (List.mem_singleton.mpr rfl))) ood⟩
      rcases List.mem_append.mp hy with z | z
      · rcases List.mem_append.mp z with z | z
        · exact fine_ints y (cut_mem z)
        · rw [List.mem_singleton.mp z]; exact fod.keep K514
      · exact fine_ints y (cut_mem z)
    have N2 : NoO p H10 m (.ref q6) := ⟨FineA.tup (ne_lt e10 (s10 _ _ p9)) e10 (Nat.le_trans (cutV_length _ _ _) (by omega)) fun y hy => fine_ints y (cut_mem hy), ord_len e10 (by have := cut_rest (o.map V.int) (by omega); omega)⟩
    have N3 : NoO p H12 m (.ref q8) := by
      refine ⟨FineA.tup (ne_lt e12 p12) e12 (by rw [List.length_append, lo']; show _ + 1 ≤ _; omega) fun y hy => ?_, ord_len e12 (by rw [List.length_append, lo']; show _ + 1 ≠ _; omega)⟩
      rcases List.mem_append.mp hy with z | z
      · exact fine_ints y z
      · rw [List.mem_singleton.mp z]; exact FineA.int 0
    have N4 : NoO p H13 m (.ref l13) := ⟨FineA.lst (nd_of p12 n13) e13, ord_no (by rw [tupOf_at, e13]; rfl)⟩
    have S1214 := s13.trans s14
    refine ⟨_, rfl, fun pd hd => ?_⟩
    have s15 : Same H14 (upd H14 pd (.dK [])) := same_upd hd
    have e15 : (upd H14 pd (.dK [])) pd = some (.dK []) := upd_same
    generalize upd H14 pd (.dK []) = H15 at s15 e15 ⊢
    refine ⟨_, rfl, by show 1 ≤ 1000; decide, fun q16 H16 s16 n16 e16 => ⟨by show 4 ≤ 1000; decide, fun lr H17 s17 n17 e17 => ?_⟩⟩
    have S1417 := s15.trans (s16.trans s17)
    have p15 := s15 _ _ p14
    have p17 := S1417 _ _ p14
    have npd : pd ≠ p := nd_of p14 hd
    have N8 : NoO p H17 m (.ref pd) := ⟨fine_dct npd (s17 _ _ (s16 _ _ e15)), ord_no (by rw [tupOf_at, s17 _ _ (s16 _ _ e15)]; rfl)⟩
    have N9 : NoO p H17 m (.ref q16) := by
      have e16' := s17 _ _ e16
      refine ⟨FineA.tup (nd_of p15 n16) e16' (by show 1 ≤ 1000; decide) (fm_cons (FineA.tup nt (S1417 _ _ et14) (by omega) fun y hy => fine_ints y hy) fm_nil), ord_odd e16' (List.mem_singleton.mpr rfl) (.inl rfl)⟩
    refine ⟨ls, lr, _, _, rfl, rfl, S1417 _ _ e14, e17, by show 9 ≤ 1000; decide, fun la H18 s18 n18 e18 => ?_⟩
    have nla : la ≠ p := nd_of p17 n18
    have A9 : ∀ z ∈ [V.ref q5, .ref q6, .ref q8, .ref l13, .non, .int 5, .str "", .ref pd, .ref q16], NoO p H18 m z :=
      fm_cons (N1.keep (KX.of (s10.trans (s11.trans (s12.trans (S1214.trans (S1417.trans s18))))))) (fm_cons (N2.keep (KX.of (s11.trans (s12.trans (S1214.trans (S1417.trans s18)))))) (fm_cons (N3.keep (KX.of (S1214.trans (S1417.trans s18)))) (fm_cons (N4.keep (KX.of (s14.trans (S1417.trans s18)))) (fm_cons ⟨fine_plain trivial rfl, ord_no rfl⟩ (fm_cons ⟨FineA.int 5, ord_no rfl⟩ (fm_cons ⟨fine_plain trivial rfl, ord_no rfl⟩ (fm_cons (N8.keep (KX.of s18)) (fm_cons (N9.keep (KX.of s18)) fm_nil))))))))
    refine ⟨_, rfl, p, n5, 9, rfl, s18 _ _ p17, by decide, by decide, fun r19 H19 n19 x19 p19 r190 r191 => ?_⟩
    obtain ⟨z, mz, hz⟩ := atI_mem (xs := [V.ref q5, .ref q6, .ref q8, .ref l13, .non, .int 5, .str "", .ref pd, .ref q16]) r190 r191
    refine ⟨la, _, _, z, rfl, rfl, SqL.of (x19 _ _ nla e18), hz, ?_⟩
    have NZ := (A9 z mz).keep x19
    refine k z H19 n19 ?_ p19 (NZ.1.thing.1.mono (by decide)) NZ.1.thing.2.1 NZ.2
    exact x1.trans ((KX.of S3).trans (K514.trans ((KX.of (s10.trans (s11.trans (s12.trans (S1214.trans (S1417.trans s18)))))).trans x19)))
end
end Rk
set_option Elab.async false
set_option linter.all false
set_option maxRecDepth 100000
set_option maxHeartbeats 4000000
namespace Rk
open PySem PySem.Spec PyProof.Rows L2 _root_.Rd
def spNoList : Sp := fun vs H Q _ => ∃ p n first, vs = [.ref p, .bl first] ∧ H p = some (.lst [.int n]) ∧ ∀ x H' n', KX p H H' → H' p = some (.lst [.int n']) → Kn p H' x → (first = true → BadC p H' x) → (first = false → NotNum p H' x) → Q x H'
theorem NotNum.kx {p : Addr} {H H' : Hp} {x : V} (k : Kn p H x) (s : KX p H H') (h : NotNum p H x) : NotNum p H' x := by
  rcases h with z | ⟨l, xs, rfl, e, hl, z⟩
  · refine .inl ?_
    cases x with
    | ref a =>
      obtain ⟨na, ⟨xs, e⟩ | ⟨xs, e⟩ | ⟨xs, e⟩⟩ := k
      · rw [isLV_at, s _ _ na e]
      · rw [isLV_at, e] at z; cases z
      · rw [isLV_at, s _ _ na e]
    | _ => exact z
  · refine .inr ⟨l, xs, rfl, s _ _ k.1 e, hl, ?_⟩
    rcases z with z | ⟨z1, z2⟩
    · exact .inl z
    · exact .inr ⟨fun y hy => (z1 y hy).keep s, z2⟩
theorem BadC.kx {p : Addr} {H H' : Hp} {x : V} (k : Kn p H x) (s : KX p H H') (h : BadC p H x) : BadC p H' x := by
  rcases h with z | ⟨l, c, rfl, el, r⟩
  · exact .inl (z.kx k s)
  · exact .inr ⟨l, c, rfl, s _ _ k.1 el, r⟩
def KN (p : Addr) (H : Hp) (x : V) : Prop := Kn p H x ∧ NotNum p H x
def KB (p : Addr) (H : Hp) (x : V) : Prop := Kn p H x ∧ BadC p H x
theorem KN.kx {p : Addr} {H H' : Hp} {x : V} (h : KN p H x) (s : KX p H H') : KN p H' x := ⟨h.1.keep s, h.2.kx h.1 s⟩
theorem KB.kx {p : Addr} {H H' : Hp} {x : V} (h : KB p H x) (s : KX p H H') : KB p H' x := ⟨h.1.keep s, h.2.kx h.1 s⟩
theorem KN.kb {p : Addr} {H : Hp} {x : V} (h : KN p H x) : KB p H x := ⟨h.1, .inl h.2⟩
theorem kn_lst {p l : Addr} {H : Hp} {xs : List V} (n : l ≠ p) (e : H l = some (.lst xs)) : Kn p H (.ref l) := ⟨n, .inr (.inl ⟨xs, e⟩)⟩
theorem row_cut {r : Int} (h0 : 0 ≤ r) (h1 : r < 3) : ∃ c : List Int, cutV ([1, 0, 2].map V.int) none (some (r + 1)) ++ [V.int (-1)] = c.map V.int ∧ 2 ≤ c.length ∧ c.length ≤ 13 ∧ ∃ y ∈ c, y < 0 := by
  have : r = 0 ∨ r = 1 ∨ r = 2 := by omega
  rcases this with rfl | rfl | rfl
  · exact ⟨[1, -1], rfl, by decide, by decide, -1, by decide, by decide⟩
  · exact ⟨[1, 0, -1], rfl, by decide, by decide, -1, by decide, by decide⟩
  · exact ⟨[1, 0, 2, -1], rfl, by decide, by decide, -1, by decide, by decide⟩
section
variable {P : Program} {w : World} {K : PySem.W.Frag} {mg : Str → Option Value} {base : Heap}
theorem sc_noList : FnScope ["_law_pot_here", "_law_first", "_law_row", "_law_spot", "_law_odd", "_law_some"] ["_law_pot_here", "_law_first"] (defScope lNoList) := ⟨rfl, rfl, rfl, by decide +kernel, rfl, by decide +kernel, by decide +kernel⟩
theorem ok_noList {f f1  : Addr} {fd fd1 : FuncData} (F : Fun K "_law_no_list" "_law_no_list" lNoList f fd) (T : GlbA mg)
    (m1 : mg "_law_take" = some (.ref f1)) (G1 : FnOk P w K mg base CX0 1 f1 fd1 ["_law_pot_here", "_law_far"] spTakeW) (b1 : Binds K fd1 ["_law_pot_here", "_law_far"] []) (k1 : PySem.W.keepIn K (.ref f1) = true) :
    FnOk P w K mg base CX0 2 f fd ["_law_pot_here", "_law_first"] spNoList := by
  refine F.ok sc_noList (fun vs H Q E h => ?_) (fun cdv A outer s H vs Q E hr h => ?_)
  · obtain ⟨p, n, first, rfl, _⟩ := h
    rfl
  · obtain ⟨p, n, first, rfl, ep, k⟩ := h
    have un := hr.units
    refine ⟨_, pss_cons (ps_set (i := 2) sc_noList.nd rfl (by first | exact Or.inl rfl | exact Or.inr rfl) (pe_lstW (pa_c pe_int (pa_c pe_int (pa_c pe_int pa_nil)))))
      (pss_cons (ps_set (i := 3) sc_noList.nd rfl (by first | exact Or.inl rfl | exact Or.inr rfl) (pe_call G1 (hr.mono (by decide)) (by rfl) m1 k1 b1 .nil pass0 (pa_cons (pv 0) (pa_cons pe_int pa_nil))))
      (pss_cons (ps_set (i := 4) sc_noList.nd rfl (by first | exact Or.inl rfl | exact Or.inr rfl) (pe_ix ix_list (pe_lstW (pa_c pe_bl (pa_c pe_non (pa_c pe_str (pa_c (pe_tupW (pa_c pe_int pa_nil)) (pa_c (pe_lstW (pa_c pe_int pa_nil)) pa_nil)))))) (pe_call G1 (hr.mono (by decide)) (by rfl) m1 k1 b1 .nil pass0 (pa_cons (pv 0) (pa_cons pe_int pa_nil))) (fun _ _ => rfl)))
      (pss_cons (ps_set (i := 5) sc_noList.nd rfl (by first | exact Or.inl rfl | exact Or.inr rfl) (pe_lstW (pa_c (pe_op op_catW (pe_op op_catW (pe_slice sl_listW (pv 2) po_none (po_some (pv 3))) (pe_lstW (pa_c (pv 4) pa_nil))) (pe_slice sl_listW (pv 2) (po_some (pe_op op_add (pv 3) pe_int)) po_none)) (pa_c (pe_lstW (pa_c pe_int pa_nil)) (pa_c (pe_lstW pa_nil) (pa_c (pe_op op_repW (pe_lstW (pa_c pe_int pa_nil)) pe_int) (pa_c (pe_tupW (pa_c pe_int (pa_c pe_int pa_nil))) (pa_c pe_non (pa_c pe_int (pa_c pe_str (pa_c pe_dnew pa_nil)))))))))))
      (pss_cons (ps_if (pt_truth (pv 1) (fun _ => rfl)) (pss_one (ps_set (i := 5) sc_noList.nd rfl (by first | exact Or.inl rfl | exact Or.inr rfl) (pe_op op_catW (pv 5) (pe_lstW (pa_c (pe_lstW (pa_c pe_int (pa_c pe_int pa_nil))) (pa_c (pe_lstW (pa_c pe_int (pa_c pe_int pa_nil))) (pa_c (pe_op op_catW (pe_slice sl_listW (pv 2) po_none (po_some (pe_op op_add (pv 3) pe_int))) (pe_lstW (pa_c (pe_un un_neg pe_int) pa_nil))) pa_nil))))))) pss_nil)
      (pss_one (ps_ret (pe_ix ix_list (pv 5) (pe_call G1 (hr.mono (by decide)) (by rfl) m1 k1 b1 .nil pass0 (pa_cons (pv 0) (pa_cons (pe_callB call_len_seq (by rfl) T.len bt_len (pa_cons (pv 5) pa_nil)) pa_nil))) (fun _ _ => rfl)))))))), ?_⟩
    have RW : ([V.int 1, .int 0, .int 2] : List V) = ([1, 0, 2] : List Int).map V.int := rfl
    refine ⟨by show 3 ≤ 1000; decide, fun lr H1 s1 n1 e1 => ?_⟩
    have nlr : lr ≠ p := nd_of ep n1
    refine ⟨_, rfl, p, n, 3, rfl, s1 _ _ ep, by decide, by decide, fun r2 H2 n2 x2 p2 r20 r21 => ?_⟩
    have er2 := x2 _ _ nlr e1
    refine ⟨by show 1 ≤ 1000; decide, fun tz H3 s3 n3 e3 => ⟨by show 1 ≤ 1000; decide, fun lz H4 s4 n4 e4 => ⟨by show 5 ≤ 1000; decide, fun lo5 H5 s5 n5 e5 => ?_⟩⟩⟩
    have S5 := s3.trans (s4.trans s5)
    have p5 := S5 _ _ p2
    have ntz : tz ≠ p := nd_of p2 n3
    have nlz : lz ≠ p := nd_of (s3 _ _ p2) n4
    have nlo5 : lo5 ≠ p := nd_of (s4 _ _ (s3 _ _ p2)) n5
    have ALL : ∀ z ∈ [V.bl true, .non, .str "1", .ref tz, .ref lz], Kn p H5 z ∧ isI z = false :=
      fm_cons ⟨trivial, rfl⟩ (fm_cons ⟨trivial, rfl⟩ (fm_cons ⟨trivial, rfl⟩ (fm_cons ⟨⟨ntz, .inl ⟨_, s5 _ _ (s4 _ _ e3)⟩⟩, rfl⟩ (fm_cons ⟨kn_lst nlz (s5 _ _ e4), rfl⟩ fm_nil))))
    refine ⟨_, rfl, p, n2, 5, rfl, p5, by decide, by decide, fun r6 H6 n6 x6 p6 r60 r61 => ?_⟩
    obtain ⟨od, mod, hod⟩ := atI_mem (xs := [V.bl true, .non, .str "1", .ref tz, .ref lz]) r60 r61
    obtain ⟨kod, iod⟩ := ALL od mod
    refine ⟨lo5, _, _, od, rfl, rfl, SqL.of (x6 _ _ nlo5 e5), hod, ?_⟩
    have er6 := x6 _ _ nlr (S5 _ _ er2)
    refine ⟨_, rfl, _, rfl, _, rfl, lr, _, rfl, SqL.of er6, fun q1 H7 s7 n7 e7 => ?_⟩
    refine ⟨_, rfl, by show 1 ≤ 1000; decide, fun q2 H8 s8 n8 e8 => ?_⟩
    have l1 : (cutV [V.int 1, .int 0, .int 2] none (some r2)).length ≤ 3 := cutV_length _ _ _
    have l2 : (cutV [V.int 1, .int 0, .int 2] (some (r2 + 1)) none).length ≤ 3 := cutV_length _ _ _
    refine ⟨q1, q2, _, _, rfl, rfl, s8 _ _ e7, e8, by show _ + 1 ≤ _; omega, fun q3 H9 s9 n9 e9 => ?_⟩
    refine ⟨_, rfl, _, rfl, _, _, rfl, rfl, _, rfl, lr, _, rfl, SqL.of (s9 _ _ (s8 _ _ (s7 _ _ er6))), fun q4 H10 s10 n10 e10 => ?_⟩
    refine ⟨q3, q4, _, _, rfl, rfl, s10 _ _ e9, e10, by rw [List.length_append]; show _ + 1 + _ ≤ _; omega, fun q5 H11 s11 n11 e11 => ?_⟩
    have S611 := s7.trans (s8.trans (s9.trans (s10.trans s11)))
    have p10 := s10 _ _ (s9 _ _ (s8 _ _ (s7 _ _ p6)))
    have p11 := s11 _ _ p10
    have N1 : KN p H11 (.ref q5) := by
      refine ⟨kn_lst (nd_of p10 n11) e11, .inr ⟨q5, _, rfl, e11, by simp only [List.length_append]; show _ + 1 + _ ≤ _; omega, .inr ⟨fun y hy => ?_, ?_⟩⟩⟩
      · have ki : ∀ y ∈ [V.int 1, .int 0, .int 2], Kn p H11 y := fm_cons trivial (fm_cons trivial (fm_cons trivial fm_nil))
        rcases List.mem_append.mp hy with z | z
        · rcases List.mem_append.mp z with z | z
          · exact ki y (cut_mem z)
          · rw [List.mem_singleton.mp z]; exact kod.keep (x6.trans (KX.of S611))
        · exact ki y (cut_mem z)
      · cases ha : (cutV [V.int 1, .int 0, .int 2] none (some r2) ++ [od] ++ cutV [V.int 1, .int 0, .int 2] (some (r2 + 1)) none).all isI with
        | false => rfl
        | true =>
          have := List.all_eq_true.mp ha od (List.mem_append_left _ (List.mem_append_right _ (List.mem_singleton.mpr rfl)))
          rw [iod] at this; cases this
    refine ⟨by show 1 ≤ 1000; decide, fun q6 H12 s12 n12 e12 => ⟨Nat.zero_le _, fun q7 H13 s13 n13 e13 => ⟨by show 1 ≤ 1000; decide, fun q8 H14 s14 n14 e14 => ⟨q8, _, _, rfl, rfl, e14, by decide, by decide, by decide, fun q9 H15 s15 n15 e15 => ⟨by show 2 ≤ 1000; decide, fun q10 H16 s16 n16 e16 => fun pd hd => ?_⟩⟩⟩⟩⟩
    have p12 := s12 _ _ p11
    have p13 := s13 _ _ p12
    have p14 := s14 _ _ p13
    have p15 := s15 _ _ p14
    have p16 := s16 _ _ p15
    have npd : pd ≠ p := nd_of p16 hd
    have s17 : Same H16 (upd H16 pd (.dK [])) := same_upd hd
    have e17 : (upd H16 pd (.dK [])) pd = some (.dK []) := upd_same
    generalize upd H16 pd (.dK []) = H17 at s17 e17 ⊢
    have p17 := s17 _ _ p16
    refine ⟨by show 9 ≤ 1000; decide, fun ls H18 s18 n18 e18 => ?_⟩
    have p18 := s18 _ _ p17
    have nls : ls ≠ p := nd_of p17 n18
    have T1 := s16.trans (s17.trans s18)
    have N2 : KN p H12 (.ref q6) := ⟨kn_lst (nd_of p11 n12) e12, .inr ⟨q6, _, rfl, e12, by decide, .inl (by decide)⟩⟩
    have N3 : KN p H13 (.ref q7) := ⟨kn_lst (nd_of p12 n13) e13, .inr ⟨q7, _, rfl, e13, by decide, .inl (by decide)⟩⟩
    have N4 : KN p H15 (.ref q9) := ⟨kn_lst (nd_of p14 n15) e15, .inr ⟨q9, _, rfl, e15, by decide, .inl (by decide)⟩⟩
    have N5 : KN p H16 (.ref q10) := ⟨⟨nd_of p15 n16, .inl ⟨_, e16⟩⟩, .inl (by rw [isLV_at, e16])⟩
    have N9 : KN p H17 (.ref pd) := ⟨⟨npd, .inr (.inr ⟨_, e17⟩)⟩, .inl (by rw [isLV_at, e17])⟩
    have A9 : ∀ z ∈ [V.ref q5, .ref q6, .ref q7, .ref q9, .ref q10, .non, .int 7, .str "12", .ref pd], KN p H18 z :=
      fm_cons (N1.kx (KX.of (s12.trans (s13.trans (s14.trans (s15.trans T1)))))) (fm_cons (N2.kx (KX.of (s13.trans (s14.trans (s15.trans T1))))) (fm_cons (N3.kx (KX.of (s14.trans (s15.trans T1)))) (fm_cons (N4.kx (KX.of T1)) (fm_cons (N5.kx (KX.of (s17.trans s18))) (fm_cons ⟨trivial, .inl rfl⟩ (fm_cons ⟨trivial, .inl rfl⟩ (fm_cons ⟨trivial, .inl rfl⟩ (fm_cons (N9.kx (KX.of s18)) fm_nil))))))))
    have S1118 : Same H11 H18 := s12.trans (s13.trans (s14.trans (s15.trans T1)))
    have K18 : KX p H H18 := (KX.of s1).trans (x2.trans ((KX.of S5).trans (x6.trans (KX.of (S611.trans S1118)))))
    refine ⟨_, rfl, first, rfl, ?_⟩
    cases first with
    | false =>
      refine iteF ?_
      refine ⟨_, rfl, _, rfl, _, rfl, ls, _, rfl, .inl (SqL.of e18), p, n6, 9, rfl, p18, by decide, by decide, fun r19 H19 n19 x19 p19 r190 r191 => ?_⟩
      obtain ⟨z, mz, hz⟩ := atI_mem (xs := [V.ref q5, .ref q6, .ref q7, .ref q9, .ref q10, .non, .int 7, .str "12", .ref pd]) r190 r191
      refine ⟨ls, _, _, z, rfl, rfl, SqL.of (x19 _ _ nls e18), hz, ?_⟩
      have NZ := (A9 z mz).kx x19
      exact k z H19 n19 (K18.trans x19) p19 NZ.1 (fun h => nomatch h) fun _ => NZ.2
    | true =>
      refine iteT ?_
      have er18 := S1118 _ _ (S611 _ _ er6)
      refine ⟨_, rfl, by show 2 ≤ 1000; decide, fun g1 G1' t1 m1' f1' => ⟨by show 2 ≤ 1000; decide, fun g2 G2 t2 m2 f2' => ⟨_, rfl, _, rfl, _, _, rfl, rfl, _, rfl, lr, _, rfl, SqL.of (t2 _ _ (t1 _ _ er18)), fun g3 G3 t3 m3 f3' => ?_⟩⟩⟩
      refine ⟨_, rfl, by show 1 ≤ 1000; decide, fun g4 G4 t4 m4 f4' => ?_⟩
      have l3 : (cutV [V.int 1, .int 0, .int 2] none (some (r2 + 1))).length ≤ 3 := cutV_length _ _ _
      refine ⟨g3, g4, _, _, rfl, rfl, t4 _ _ f3', f4', by show _ + 1 ≤ _; omega, fun g5 G5 t5 m5 f5' => ⟨by show 3 ≤ 1000; decide, fun g6 G6 t6 m6 f6' => ?_⟩⟩
      have T5 := t2.trans (t3.trans (t4.trans (t5.trans t6)))
      have P1 := t1 _ _ p18
      have P2 := t2 _ _ P1
      have P4 := t4 _ _ (t3 _ _ P2)
      have P5 := t5 _ _ P4
      have P6 := t6 _ _ P5
      refine ⟨ls, g6, _, _, rfl, rfl, T5 _ _ (t1 _ _ e18), f6', by show 9 + 3 ≤ 1000; decide, fun la G7 t7 m7 f7' => ?_⟩
      have nla : la ≠ p := nd_of P6 m7
      have P7 := t7 _ _ P6
      have ng1 : g1 ≠ p := nd_of p18 m1'
      have ng2 : g2 ≠ p := nd_of P1 m2
      have ng5 : g5 ≠ p := nd_of P4 m5
      obtain ⟨c5, ec5, c52, c513, c5n⟩ := row_cut r20 r21
      have B1 : KB p G7 (.ref g1) := ⟨kn_lst ng1 (t7 _ _ (T5 _ _ f1')), .inr ⟨g1, [0, 1], rfl, t7 _ _ (T5 _ _ f1'), by decide, by decide, .inl (by decide)⟩⟩
      have B2 : KB p G7 (.ref g2) := by
        have e := t7 _ _ (t6 _ _ (t5 _ _ (t4 _ _ (t3 _ _ f2'))))
        exact ⟨kn_lst ng2 e, .inr ⟨g2, [2, 1], rfl, e, by decide, by decide, .inl (by decide)⟩⟩
      have B3 : KB p G7 (.ref g5) := by
        have e := t7 _ _ (t6 _ _ f5')
        refine ⟨kn_lst ng5 e, .inr ⟨g5, c5, rfl, ?_, c52, c513, .inr c5n⟩⟩
        rw [← ec5]
        exact e
      have S187 : Same H18 G7 := t1.trans (T5.trans t7)
      have A12 : ∀ z ∈ [V.ref q5, .ref q6, .ref q7, .ref q9, .ref q10, .non, .int 7, .str "12", .ref pd, .ref g1, .ref g2, .ref g5], KB p G7 z := fun z hz => by
        rcases List.mem_append.mp (show z ∈ [V.ref q5, .ref q6, .ref q7, .ref q9, .ref q10, .non, .int 7, .str "12", .ref pd] ++ [.ref g1, .ref g2, .ref g5] from hz) with y | y
        · exact ((A9 z y).kx (KX.of S187)).kb
        · exact fm_cons B1 (fm_cons B2 (fm_cons B3 fm_nil)) z y
      refine ⟨_, rfl, _, rfl, _, rfl, la, _, rfl, .inl (SqL.of f7'), p, n6, 12, rfl, P7, by decide, by decide, fun r19 H19 n19 x19 p19 r190 r191 => ?_⟩
      obtain ⟨z, mz, hz⟩ := atI_mem (xs := [V.ref q5, .ref q6, .ref q7, .ref q9, .ref q10, .non, .int 7, .str "12", .ref pd, .ref g1, .ref g2, .ref g5]) r190 r191
      refine ⟨la, _, _, z, rfl, rfl, SqL.of (x19 _ _ nla f7'), hz, ?_⟩
      have NZ := (A12 z mz).kx x19
      exact k z H19 n19 (K18.trans ((KX.of S187).trans x19)) p19 NZ.1 (fun _ => NZ.2) fun h => nomatch h
end
end Rk
set_option Elab.async false
set_option linter.all false
set_option maxRecDepth 100000
set_option maxHeartbeats 4000000
namespace Rk
open PySem PySem.Spec PyProof.Rows L2 _root_.Rd
def spBoard2 : Sp := fun vs H Q _ => ∃ p n h w, vs = [.ref p, .int h, .int w] ∧ H p = some (.lst [.int n]) ∧ 1 ≤ h ∧ h ≤ 6 ∧ 1 ≤ w ∧ w ≤ 6 ∧ ∀ H' q L n', KX p H H' → H' p = some (.lst [.int n']) → BoardAt p H' q h w L → Q (.ref q) H'
def spOrder2 : Sp := fun vs H Q _ => ∃ p n m, vs = [.ref p, .int m] ∧ H p = some (.lst [.int n]) ∧ 1 ≤ m ∧ m ≤ 6 ∧ ∀ t (o : List Int) H' n', KX p H H' → H' p = some (.lst [.int n']) → t ≠ p → H' t = some (.tup (o.map V.int)) → o.Perm (rangeI m.toNat) → Q (.ref t) H'
theorem erase_map {α β : Type} (f : α → β) : ∀ (xs : List α) (k : Nat), (xs.map f).eraseIdx k = (xs.eraseIdx k).map f
  | [], k => by cases k <;> rfl
  | x :: xs, 0 => rfl
  | x :: xs, k + 1 => by
    show f x :: (xs.map f).eraseIdx k = f x :: (xs.eraseIdx k).map f
    rw [erase_map f xs k]
theorem erase_perm {α : Type} : ∀ (xs : List α) (k : Nat) (d : α), k < xs.length → (xs.getD k d :: xs.eraseIdx k).Perm xs
  | [], k, d, h => absurd h (Nat.not_lt_zero _)
  | x :: xs, 0, d, h => List.Perm.refl _
  | x :: xs, k + 1, d, h => by
    have ih := erase_perm xs k d (by simpa using h)
    show (xs.getD k d :: x :: xs.eraseIdx k).Perm (x :: xs)
    exact (List.Perm.swap _ _ _).trans (ih.cons x)
section
variable {P : Program} {w : World} {K : PySem.W.Frag} {mg : Str → Option Value} {base : Heap}
theorem nd_board21 : (["_law_column", "_law_pot_here", "_law_row", "_law_thick"] : List Str).Nodup := by decide +kernel
theorem sc_board2 : FnScope ["_law_pot_here", "_law_high", "_law_wide", "_law_thick", "_law_cells", "_law_row"] ["_law_pot_here", "_law_high", "_law_wide"] (defScope lBoard) := ⟨rfl, rfl, rfl, by decide +kernel, rfl, by decide +kernel, by decide +kernel⟩
theorem ok_board2 {f f1  : Addr} {fd fd1 : FuncData} (F : Fun K "_law_board" "_law_board" lBoard f fd) (T : GlbA mg)
    (m1 : mg "_law_take" = some (.ref f1)) (G1 : FnOk P w K mg base CX0 1 f1 fd1 ["_law_pot_here", "_law_far"] spTakeW) (b1 : Binds K fd1 ["_law_pot_here", "_law_far"] []) (k1 : PySem.W.keepIn K (.ref f1) = true) :
    FnOk P w K mg base CX0 2 f fd ["_law_pot_here", "_law_high", "_law_wide"] spBoard2 := by
  refine F.ok sc_board2 (fun vs H Q E h => ?_) (fun cdv A outer s H vs Q E hr h => ?_)
  · obtain ⟨p, n, h, w', rfl, _⟩ := h
    rfl
  · obtain ⟨p, n, h, w', rfl, hp, h1, h6, w1, w6, k⟩ := h
    have un := hr.units
    refine ⟨_, pss_cons (ps_set (i := 3) sc_board2.nd rfl (by first | exact Or.inl rfl | exact Or.inr rfl) (pe_call G1 (hr.mono (by decide)) (by rfl) m1 k1 b1 .nil pass0 (pa_cons (pv 0) (pa_cons pe_int pa_nil))))
      (pss_cons (ps_set (i := 4) sc_board2.nd rfl (by first | exact Or.inl rfl | exact Or.inr rfl) (pe_lstW pa_nil))
      (pss_cons (ps_for PassesOwn.never rfl (pi_range1 (by rfl) T.range (pa_cons (pv 1) pa_nil)) (pg_name (i := 5) sc_board2.nd rfl (by first | exact Or.inl rfl | exact Or.inr rfl))
        (pss_one (ps_expr (pe_bm PySem.F.plainAttrs_list PySem.F.slot_list_extend PySem.F.type_list_extend mt_extend (pv 4) (pa_cons (pe_lcomp (M := ["_law_column", "_law_pot_here", "_law_row", "_law_thick"]) (cap := [none, some 0, some 5, some 3]) (g := (gName 0)) (tc := (tTest (tOp (rI0 fun i j => .bl (decide (i < j))) (tCall spTakeW [] E0 (tCons (tVar 1) (tCons (tC (.int 6)) tNil))) (tVar 3)))) (te := (tTupW (tCons (tVar 2) (tCons (tVar 0) tNil)))) rfl (by rfl) (pi_range1 (by rfl) T.range (pa_cons (pv 2) pa_nil)) (fun cl ex s3 H3 C => ⟨(pg_name (i := 0) nd_board21 rfl (Or.inl rfl) (Or.inr rfl)), (pts_one (pt_cmpR op_lt (pe_call G1 (hr.mono (by decide)) (by rfl) m1 k1 b1 .nil pass0 (pa_cons (pv 1) (pa_cons pe_int pa_nil))) (pv 3) (nomark _))), (pe_tupW (pa_c (pv 2) (pa_c (pv 0) pa_nil)))⟩)) pa_nil)))))
      (pss_one (ps_ret (pe_tupW (pa_c (pv 1) (pa_c (pv 2) (pa_c (pe_callTy call_tuple_of (by rfl) T.tuple bt_tuple (pa_cons (pv 4) pa_nil)) pa_nil)))))))), ?_⟩
    refine ⟨_, rfl, p, n, 7, rfl, hp, by decide, by decide, fun th H1 n1 k1' p1 _ _ => ?_⟩
    refine ⟨Nat.zero_le _, fun cl H2 s2 n2 e2 => ?_⟩
    have ncp : cl ≠ p := nd_of p1 n2
    have nH : H cl = none := by
      cases z : H cl with
      | none => rfl
      | some o => rw [k1' cl o ncp z] at n2; cases n2
    refine ⟨_, rfl, _, rfl, by omega, by omega, for_range (n := h.toNat) (fun i σ H3 => ∃ n' ys L v, σ = [some (.ref p), some (.int h), some (.int w'), some (.int th), some (.ref cl), v] ∧
      H3 p = some (.lst [.int n']) ∧ H3 cl = some (.lst ys) ∧ Cs p H3 ys L ∧ L.Pairwise Before ∧ (∀ x ∈ L, 0 ≤ x.1 ∧ x.1 < (i : Int) ∧ 0 ≤ x.2 ∧ x.2 < w') ∧ L.length ≤ i * 6 ∧ KX p H H3)
      ⟨n1, [], [], none, rfl, s2 _ _ p1, e2, .nil, .nil, (fun x hx => nomatch hx), Nat.zero_le _, k1'.trans (KX.of s2)⟩ ?_ ?_⟩
    · rintro i σ H3 hi ⟨n', ys, L, v, rfl, p3, c3, cs, asc, ins, len, kx⟩
      refine ⟨_, rfl, .inl ⟨rfl, _, SqL.of c3⟩, _, rfl, _, rfl, by omega, by omega, fun pl hpl => ?_⟩
      have npl : pl ≠ p := nd_of p3 hpl
      have nplc : pl ≠ cl := nd_of c3 hpl
      refine loop_by w'.toNat (fun j H4 => ∃ n'' zs M, H4 p = some (.lst [.int n'']) ∧ H4 pl = some (.lst zs) ∧ Cs p H4 zs M ∧ M.Pairwise Before ∧ (∀ x ∈ M, x.1 = (i : Int) ∧ 0 ≤ x.2 ∧ x.2 < (j : Int)) ∧ M.length ≤ j ∧ KX p H3 H4)
        ⟨n', [], [], same_upd hpl _ _ p3, upd_same, .nil, .nil, (fun x hx => nomatch hx), Nat.zero_le _, KX.of (same_upd hpl)⟩ (fun j H4 hj ⟨n'', zs, M, p4, l4, cM, aM, iM, lM, x4⟩ => ?_) fun H4 ⟨n'', zs, M, p4, l4, cM, aM, iM, lM, x4⟩ => ⟨by show _ ≤ _; omega, ?_⟩
      · refine ⟨by show j < _; omega, fun x H5 ⟨eH, ev⟩ kk hk => ?_⟩
        subst eH ev
        refine ⟨⟨rfl, rfl, rfl, trivial⟩, _, rfl, p, n'', 6, rfl, p4, by decide, by decide, fun r H6 n6 x6 p6 _ _ => ⟨_, rfl, _, _, rfl, rfl, _, rfl, ?_⟩⟩
        have l6 := x6 _ _ npl l4
        have c6 := cM.kx x6
        refine ite2 (fun _ => ?_) (fun _ => hk _ ⟨n6, zs, M, p6, l6, c6, aM, (fun x hx => ⟨(iM x hx).1, (iM x hx).2.1, by have := (iM x hx).2.2; omega⟩), by omega, x4.trans x6⟩)
        refine ⟨_, rfl, _, rfl, by show 2 ≤ 1000; decide, fun t7 H7 s7 n7 e7 => ⟨zs, s7 _ _ l6, ?_, ?_⟩⟩
        · have := cM.len
          exact line_ge (by omega)
        · have nt : t7 ≠ p := nd_of p6 n7
          have ntl : t7 ≠ pl := nd_of l6 n7
          refine hk _ ⟨n6, zs ++ [.ref t7], M ++ [((i : Int), (j : Int))], ?_, upd_same, ?_, ?_, ?_, ?_, ?_⟩
          · rw [upd_ne npl.symm]; exact s7 _ _ p6
          · refine (Cs.upd (s7 _ _ l6) (c6.kx (KX.of s7))).snoc ⟨t7, nt, rfl, ?_⟩
            rw [upd_ne ntl, e7]
            simp
          · refine List.pairwise_append.mpr ⟨aM, List.pairwise_singleton _ _, fun a ha b hb => ?_⟩
            rw [List.mem_singleton.mp hb]
            have := iM a ha
            exact .inr ⟨this.1, this.2.2⟩
          · intro x hx
            rcases List.mem_append.mp hx with q | q
            · exact ⟨(iM x q).1, (iM x q).2.1, by have := (iM x q).2.2; omega⟩
            · rw [List.mem_singleton.mp q]
              exact ⟨rfl, by show (0 : Int) ≤ j; omega, by show (j : Int) < (j + 1 : Nat); omega⟩
          · rw [List.length_append, List.length_singleton]; omega
          · intro b o nb eb
            rw [upd_ne (ne_of_none eb hpl)]
            exact s7 _ _ (x6 b o nb (x4 b o nb eb))
      · have c4 := x4 _ _ ncp c3
        refine ⟨cl, pl, ys, zs, rfl, rfl, c4, l4, ?_, ?_⟩
        · have := cs.len
          have := cM.len
          exact Nat.le_of_lt (line_ge (by have : i * 6 ≤ 36 := Nat.mul_le_mul_right 6 (show i ≤ 6 by omega); omega))
        · refine ⟨n'', ys ++ zs, L ++ M, _, rfl, ?_, upd_same, ?_, ?_, ?_, ?_, ?_⟩
          · rw [upd_ne ncp.symm]; exact p4
          · exact Cs.app (Cs.upd c4 (cs.kx x4)) (Cs.upd c4 cM)
          · refine List.pairwise_append.mpr ⟨asc, aM, fun a ha b hb => ?_⟩
            have h1 := ins a ha
            have h2 := iM b hb
            exact .inl (by omega)
          · intro x hx
            rcases List.mem_append.mp hx with q | q
            · have := ins x q; exact ⟨this.1, by omega, this.2.2⟩
            · have := iM x q
              exact ⟨by omega, by omega, this.2.1, by omega⟩
          · rw [List.length_append, Nat.succ_mul]; omega
          · intro b o nb eb
            have nbc : b ≠ cl := ne_of_none eb nH
            rw [upd_ne nbc]
            exact x4 b o nb (kx b o nb eb)
    · rintro σ H3 ⟨n', ys, L, v, rfl, p3, c3, cs, asc, ins, len, kx⟩
      refine ⟨_, rfl, _, rfl, _, rfl, cl, ys, rfl, .inl ⟨SqL.of c3, fun c hc => ⟨by show 3 ≤ 1000; decide, fun q H5 s5 n5 e5 => ?_⟩⟩⟩
      have s4 := same_upd (o := .tup ys) hc
      have nc : c ≠ p := nd_of p3 hc
      have nq : q ≠ p := nd_of (s4 _ _ p3) n5
      refine k H5 q L n' (kx.trans (KX.of (s4.trans s5))) (s5 _ _ (s4 _ _ p3)) ⟨nq, ⟨c, ys, nc, e5, s5 _ _ upd_same, cs.kx (KX.of (s4.trans s5))⟩, h1, h6, w1, w6, ⟨asc, fun x hx => ?_, ?_⟩⟩
      · have := ins x hx; exact ⟨this.1, by omega, this.2.2⟩
      · have : h.toNat * 6 ≤ 36 := Nat.mul_le_mul_right 6 (show h.toNat ≤ 6 by omega)
        omega
theorem nd_order21 : (["_law_turn", "_law_left", "_law_pot_here"] : List Str).Nodup := by decide +kernel
theorem sc_order2 : FnScope ["_law_pot_here", "_law_many", "_law_left"] ["_law_pot_here", "_law_many"] (defScope lOrder) := ⟨rfl, rfl, rfl, by decide +kernel, rfl, by decide +kernel, by decide +kernel⟩
theorem ok_order2 {f f1  : Addr} {fd fd1 : FuncData} (F : Fun K "_law_order" "_law_order" lOrder f fd) (T : GlbA mg)
    (m1 : mg "_law_take" = some (.ref f1)) (G1 : FnOk P w K mg base CX0 1 f1 fd1 ["_law_pot_here", "_law_far"] spTakeW) (b1 : Binds K fd1 ["_law_pot_here", "_law_far"] []) (k1 : PySem.W.keepIn K (.ref f1) = true) :
    FnOk P w K mg base CX0 2 f fd ["_law_pot_here", "_law_many"] spOrder2 := by
  refine F.ok sc_order2 (fun vs H Q E h => ?_) (fun cdv A outer s H vs Q E hr h => ?_)
  · obtain ⟨p, n, m, rfl, _⟩ := h
    rfl
  · obtain ⟨p, n, m, rfl, hp, hm1, hm6, k⟩ := h
    have un := hr.units
    refine ⟨_, pss_cons (ps_set (i := 2) sc_order2.nd rfl (by first | exact Or.inl rfl | exact Or.inr rfl) (pe_callTy (call_lstRng rfl) (by rfl) T.list bt_list (pa_cons (pe_range (by rfl) T.range (pa_cons (pv 1) pa_nil)) pa_nil)))
      (pss_one (ps_ret (pe_callTy call_tuple_of (by rfl) T.tuple bt_tuple (pa_cons (pe_lcomp (M := ["_law_turn", "_law_left", "_law_pot_here"]) (cap := [none, some 2, some 0]) (g := (gName 0)) (tc := tNoTest) (te := (tBM K "list" rPopAt (tVar 1) (tCons (tCall spTakeW [] E0 (tCons (tVar 2) (tCons (tCB (rLenK K) (tCons (tVar 1) tNil)) tNil))) tNil))) rfl (by rfl) (pi_range1 (by rfl) T.range (pa_cons (pv 1) pa_nil)) (fun cl ex s3 H3 C => ⟨(pg_name (i := 0) nd_order21 rfl (Or.inl rfl) (Or.inr rfl)), pts_nil, (pe_bm PySem.F.plainAttrs_list PySem.F.slot_list_pop PySem.F.type_list_pop mt_popAt (pv 1) (pa_cons (pe_call G1 (hr.mono (by decide)) (by rfl) m1 k1 b1 .nil pass0 (pa_cons (pv 2) (pa_cons (pe_callB call_len_seq (by rfl) T.len bt_len (pa_cons (pv 1) pa_nil)) pa_nil))) pa_nil))⟩)) pa_nil)))), ?_⟩
    refine ⟨_, rfl, m, rfl, fun r H1 s1 n1 e1 => ⟨r, m, rfl, e1, by omega, by omega, fun l H2 s2 n2 e2 => ?_⟩⟩
    have p2 := s2 _ _ (s1 _ _ hp)
    have nlp : l ≠ p := nd_of (s1 _ _ hp) n2
    have el : H2 l = some (.lst ((rangeI m.toNat).map V.int)) := by
      rw [e2]
      unfold rangeI
      rw [List.map_map]
      rfl
    have nHl : H l = none := s1.free n2
    refine ⟨_, rfl, m, rfl, by omega, by omega, fun pl hpl => ?_⟩
    have npl : pl ≠ p := nd_of p2 hpl
    have npll : pl ≠ l := nd_of el hpl
    refine loop_by m.toNat (fun j H4 => ∃ (n'' : Int) (fs ls : List Int), H4 p = some (.lst [.int n'']) ∧ H4 pl = some (.lst (fs.map V.int)) ∧ H4 l = some (.lst (ls.map V.int)) ∧ (fs ++ ls).Perm (rangeI m.toNat) ∧ fs.length = j ∧ KX p H H4)
      ⟨n, [], rangeI m.toNat, same_upd hpl _ _ p2, upd_same, same_upd hpl _ _ el, List.Perm.refl _, rfl, KX.of ((s1.trans s2).trans (same_upd hpl))⟩ (fun j H4 hj ⟨n'', fs, ls, p4, f4, l4, pm, lf, x4⟩ => ?_) fun H4 ⟨n'', fs, ls, p4, f4, l4, pm, lf, x4⟩ => ⟨by show _ ≤ _; omega, ?_⟩
    · have hlen := pm.length_eq
      rw [List.length_append, rangeI_len] at hlen
      refine ⟨by show j < _; omega, fun x H5 ⟨eH, ev⟩ kk hk => ?_⟩
      subst eH ev
      refine ⟨⟨rfl, rfl, trivial⟩, no_test ?_⟩
      refine ⟨_, rfl, .inl ⟨rfl, _, SqL.of l4⟩, _, rfl, _, rfl, l, _, rfl, .inl (SqL.of l4), p, n'', _, rfl, p4, by rw [List.length_map]; omega, by rw [List.length_map]; omega, fun r H6 n6 x6 p6 r0 r1 => ?_⟩
      rw [List.length_map] at r1
      obtain ⟨k', rfl⟩ := Int.eq_ofNat_of_zero_le r0
      have hk' : k' < ls.length := by omega
      have l6 := x6 _ _ nlp l4
      have f6 := x6 _ _ npl f4
      refine ⟨l, ls.map V.int, _, k', .int (ls.getD k' 0), rfl, rfl, l6, by omega, by omega, ?_, ?_, ?_⟩
      · rw [List.length_map]
        exact seqIndex_of (by omega) (by omega)
      · rw [List.getElem?_map, List.getD_eq_getElem?_getD, List.getElem?_eq_getElem hk']
        rfl
      · refine ⟨fs.map V.int, ?_, ?_, ?_⟩
        · rw [upd_ne npll]; exact f6
        · rw [List.length_map]; exact line_ge (by omega)
        · refine hk _ ⟨n6, fs ++ [ls.getD k' 0], ls.eraseIdx k', ?_, ?_, ?_, ?_, ?_, ?_⟩
          · rw [upd_ne npl.symm, upd_ne nlp.symm]; exact p6
          · rw [upd_same, List.map_append]; rfl
          · rw [upd_ne npll.symm, upd_same, erase_map]
          · rw [List.append_assoc]
            exact ((erase_perm ls k' 0 hk').append_left fs).trans pm
          · rw [List.length_append, lf]; rfl
          · intro b o nb eb
            rw [upd_ne (ne_of_none eb ((s1.trans s2).free hpl)), upd_ne (ne_of_none eb nHl)]
            exact x6 b o nb (x4 b o nb eb)
    · have hlen := pm.length_eq
      rw [List.length_append, rangeI_len] at hlen
      have els : ls = [] := List.length_eq_zero_iff.mp (by omega)
      rw [els, List.append_nil] at pm
      refine ⟨pl, _, rfl, .inl ⟨SqL.of f4, fun t ht => ?_⟩⟩
      have s5 := same_upd (o := .tup (fs.map V.int)) ht
      exact k t fs _ n'' (x4.trans (KX.of s5)) (s5 _ _ p4) (nd_of p4 ht) upd_same pm
end
end Rk
set_option Elab.async false
set_option linter.all false
set_option maxRecDepth 100000
set_option maxHeartbeats 4000000
namespace Rk
open PySem PySem.Spec PyProof.Rows L2 _root_.Rd
def spLaw (K : PySem.W.Frag) : Sp := fun vs H Q _ => ∃ (a : Addr) (ns : List Int), vs = [.ref a] ∧ SqL K H a (ns.map V.int) ∧ ns.length ≤ 63 ∧ ∀ H', Q (.bl true) H'
theorem law_turns (L : Int) (h0 : 0 ≤ L) (h1 : L ≤ 63) : 0 ≤ (if (if 6 < L then 6 else L) > 1 then (if 6 < L then 6 else L) else 1 : Int) ∧ (if (if 6 < L then 6 else L) > 1 then (if 6 < L then 6 else L) else 1 : Int) ≤ 63 := by
  split <;> split <;> omega
theorem wd_dat {H : Hp} (way : Int) (sq ord num : Bool) : Dat H (.str (wd44 way sq ord num)) (.str (wd44 way sq ord num)) := by
  unfold wd44
  repeat' split
  all_goals exact .str _ (by decide +kernel)
theorem dep1 {ds : List PyData} (h : PyData.depthAll ds = 0) (d : PyData) : min (PyData.depth d) (PyData.depth (.list ds)) ≤ 1 := by
  refine Nat.le_trans (Nat.min_le_right _ _) ?_
  simp [PyData.depth, h]
theorem ones_eq (k : Nat) : ([V.int 1] ++ (List.replicate k [V.int 0]).flatten) = (((1 : Int) :: List.replicate k 0).map V.int) := by
  have : (List.replicate k [V.int 0]).flatten = (List.replicate k (0 : Int)).map V.int := by
    induction k with
    | zero => rfl
    | succ k ih => rw [List.replicate_succ, List.flatten_cons, ih, List.replicate_succ, List.map_cons]; rfl
  rw [this]
  rfl
section
variable {P : Program} {w : World} {K : PySem.W.Frag} {mg : Str → Option Value} {base : Heap}
theorem nd_law1 : (["_law_way", "_law_bad", "_law_long", "_law_none"] : List Str).Nodup := by decide +kernel
theorem nd_law2 : (["_law_way", "_law_bad", "_law_board_here", "_law_none"] : List Str).Nodup := by decide +kernel
theorem nd_law3 : (["_law_way", "_law_board_here", "_law_good", "_law_none"] : List Str).Nodup := by decide +kernel
theorem nd_law4 : (["_law_way", "_law_board_here", "_law_good", "_law_high"] : List Str).Nodup := by decide +kernel
theorem nd_law5 : (["_law_way", "_law_many"] : List Str).Nodup := by decide +kernel
theorem sc_law : FnScope ["_law_script", "_law_at", "_law_pot_here", "_law_high", "_law_wide", "_law_long", "_law_board_here", "_law_bad", "_law_none", "_law_good", "_law_some"] ["_law_script"] (defScope sLaw) := ⟨rfl, rfl, rfl, by decide +kernel, rfl, by decide +kernel, by decide +kernel⟩
theorem ok_law {f f1 f2 f3 f4 f5 f6 f7 f8  : Addr} {fd fd1 fd2 fd3 fd4 fd5 fd6 fd7 fd8 : FuncData} (F : Fun K "law" "law" sLaw f fd) (T : GlbA mg)
    (m1 : mg "_law_cell_at" = some (.ref f1)) (G1 : FnOk P w K mg base CX0 1 f1 fd1 ["_law_script", "_law_k"] (spCellAt K)) (b1 : Binds K fd1 ["_law_script", "_law_k"] []) (k1 : PySem.W.keepIn K (.ref f1) = true)
    (m2 : mg "_law_pot" = some (.ref f2)) (G2 : FnOk P w K mg base CX0 1 f2 fd2 ["_law_cell"] spPot) (b2 : Binds K fd2 ["_law_cell"] []) (k2 : PySem.W.keepIn K (.ref f2) = true)
    (m3 : mg "_law_take" = some (.ref f3)) (G3 : FnOk P w K mg base CX0 1 f3 fd3 ["_law_pot_here", "_law_far"] spTakeW) (b3 : Binds K fd3 ["_law_pot_here", "_law_far"] []) (k3 : PySem.W.keepIn K (.ref f3) = true)
    (m4 : mg "_law_board" = some (.ref f4)) (G4 : FnOk P w K mg base CX0 2 f4 fd4 ["_law_pot_here", "_law_high", "_law_wide"] spBoard2) (b4 : Binds K fd4 ["_law_pot_here", "_law_high", "_law_wide"] []) (k4 : PySem.W.keepIn K (.ref f4) = true)
    (m5 : mg "_law_order" = some (.ref f5)) (G5 : FnOk P w K mg base CX0 2 f5 fd5 ["_law_pot_here", "_law_many"] spOrder2) (b5 : Binds K fd5 ["_law_pot_here", "_law_many"] []) (k5 : PySem.W.keepIn K (.ref f5) = true)
    (m6 : mg "_law_no_order" = some (.ref f6)) (G6 : FnOk P w K mg base CX0 2 f6 fd6 ["_law_pot_here", "_law_order_here"] spNoOrd) (b6 : Binds K fd6 ["_law_pot_here", "_law_order_here"] []) (k6 : PySem.W.keepIn K (.ref f6) = true)
    (m7 : mg "_law_told" = some (.ref f7)) (G7 : FnOk P w K mg base CX0 6 f7 fd7 ["_law_way", "_law_board_here", "_law_order_here", "_law_many"] spTold44) (b7 : Binds K fd7 ["_law_way", "_law_board_here", "_law_order_here", "_law_many"] []) (k7 : PySem.W.keepIn K (.ref f7) = true)
    (m8 : mg "_law_no_list" = some (.ref f8)) (G8 : FnOk P w K mg base CX0 2 f8 fd8 ["_law_pot_here", "_law_first"] spNoList) (b8 : Binds K fd8 ["_law_pot_here", "_law_first"] []) (k8 : PySem.W.keepIn K (.ref f8) = true) :
    FnOk P w K mg base CX0 7 f fd ["_law_script"] (spLaw K) := by
  refine F.ok sc_law (fun vs H Q E h => ?_) (fun cdv A outer s H vs Q E hr h => ?_)
  · obtain ⟨a, ns, rfl, _⟩ := h
    rfl
  · obtain ⟨a, ns, rfl, hS, hlen63, k⟩ := h
    have un := hr.units
    refine' ⟨_, pss_cons (ps_for PassesOwn.never rfl (pi_range1 (by rfl) T.range (pa_cons (pe_callB (call_max2 rfl) (by rfl) T.max bt_max (pa_cons pe_int (pa_cons (pe_callB (call_min2 rfl) (by rfl) T.min bt_min (pa_cons (pe_callB call_len_seq (by rfl) T.len bt_len (pa_cons (pv 0) pa_nil)) (pa_cons pe_int pa_nil))) pa_nil))) pa_nil)) (pg_name (i := 1) sc_law.nd rfl (by first | exact Or.inl rfl | exact Or.inr rfl))
        (pss_cons (ps_set (i := 2) sc_law.nd rfl (by first | exact Or.inl rfl | exact Or.inr rfl) (pe_call G2 (hr.mono (by decide)) (by rfl) m2 k2 b2 .nil pass0 (pa_cons (pe_call G1 (hr.mono (by decide)) (by rfl) m1 k1 b1 .nil pass0 (pa_cons (pv 0) (pa_cons (pv 1) pa_nil))) pa_nil)))
      (pss_cons (ps_set (i := 3) sc_law.nd rfl (by first | exact Or.inl rfl | exact Or.inr rfl) (pe_op op_add pe_int (pe_call G3 (hr.mono (by decide)) (by rfl) m3 k3 b3 .nil pass0 (pa_cons (pv 2) (pa_cons pe_int pa_nil)))))
      (pss_cons (ps_set (i := 4) sc_law.nd rfl (by first | exact Or.inl rfl | exact Or.inr rfl) (pe_op op_add pe_int (pe_op op_mod (pe_op op_add (pv 3) (pe_call G3 (hr.mono (by decide)) (by rfl) m3 k3 b3 .nil pass0 (pa_cons (pv 2) (pa_cons pe_int pa_nil)))) pe_int)))
      (pss_cons (ps_set (i := 5) sc_law.nd rfl (by first | exact Or.inl rfl | exact Or.inr rfl) (pe_call G4 (hr.mono (by decide)) (by rfl) m4 k4 b4 .nil pass0 (pa_cons (pv 2) (pa_cons (pv 3) (pa_cons (pv 4) pa_nil)))))
      (pss_cons (ps_set (i := 6) sc_law.nd rfl (by first | exact Or.inl rfl | exact Or.inr rfl) (pe_call G4 (hr.mono (by decide)) (by rfl) m4 k4 b4 .nil pass0 (pa_cons (pv 2) (pa_cons (pv 3) (pa_cons (pv 3) pa_nil)))))
      (pss_cons (ps_set (i := 7) sc_law.nd rfl (by first | exact Or.inl rfl | exact Or.inr rfl) (pe_call G6 (hr.mono (by decide)) (by rfl) m6 k6 b6 .nil pass0 (pa_cons (pv 2) (pa_cons (pe_call G5 (hr.mono (by decide)) (by rfl) m5 k5 b5 .nil pass0 (pa_cons (pv 2) (pa_cons (pv 3) pa_nil))) pa_nil))))
      (pss_cons (ps_set (i := 8) sc_law.nd rfl (by first | exact Or.inl rfl | exact Or.inr rfl) (pe_ix ix_list (pe_lstW (pa_c (pe_op op_add (pv 3) pe_int) (pa_c (pe_un un_neg pe_int) (pa_c pe_bl (pa_c pe_non (pa_c pe_str (pa_c (pe_tupW (pa_c pe_int pa_nil)) (pa_c (pe_op op_pow pe_int pe_int) pa_nil)))))))) (pe_call G3 (hr.mono (by decide)) (by rfl) m3 k3 b3 .nil pass0 (pa_cons (pv 2) (pa_cons pe_int pa_nil))) (fun _ _ => rfl)))
      (pss_cons (ps_if (pt_cmpR op_neU (pe_lcomp (M := ["_law_way", "_law_bad", "_law_long", "_law_none"]) (cap := [none, some 7, some 5, some 8]) (g := (gName 0)) (tc := tNoTest) (te := (tCall spTold44 [] E0 (tCons (tVar 0) (tCons (tVar 2) (tCons (tVar 1) (tCons (tVar 3) tNil)))))) rfl (by rfl) (pi_range1 (by rfl) T.range (pa_cons pe_int pa_nil)) (fun cl ex s3 H3 C => ⟨(pg_name (i := 0) nd_law1 rfl (Or.inl rfl) (Or.inr rfl)), pts_nil, (pe_call G7 (hr.mono (by decide)) (by rfl) m7 k7 b7 .nil pass0 (pa_cons (pv 0) (pa_cons (pv 2) (pa_cons (pv 1) (pa_cons (pv 3) pa_nil)))))⟩)) (pe_op op_repW (pe_lstW (pa_c pe_str pa_nil)) pe_int) (nomark _)) (pss_one (ps_ret pe_bl)) pss_nil)
      (pss_cons (ps_if (pt_cmpR op_neU (pe_lcomp (M := ["_law_way", "_law_bad", "_law_board_here", "_law_none"]) (cap := [none, some 7, some 6, some 8]) (g := (gName 0)) (tc := tNoTest) (te := (tCall spTold44 [] E0 (tCons (tVar 0) (tCons (tVar 2) (tCons (tVar 1) (tCons (tVar 3) tNil)))))) rfl (by rfl) (pi_range1 (by rfl) T.range (pa_cons pe_int pa_nil)) (fun cl ex s3 H3 C => ⟨(pg_name (i := 0) nd_law2 rfl (Or.inl rfl) (Or.inr rfl)), pts_nil, (pe_call G7 (hr.mono (by decide)) (by rfl) m7 k7 b7 .nil pass0 (pa_cons (pv 0) (pa_cons (pv 2) (pa_cons (pv 1) (pa_cons (pv 3) pa_nil)))))⟩)) (pe_op op_repW (pe_lstW (pa_c pe_str pa_nil)) pe_int) (nomark _)) (pss_one (ps_ret pe_bl)) pss_nil)
      (pss_cons (ps_set (i := 9) sc_law.nd rfl (by first | exact Or.inl rfl | exact Or.inr rfl) (pe_call G5 (hr.mono (by decide)) (by rfl) m5 k5 b5 .nil pass0 (pa_cons (pv 2) (pa_cons (pv 3) pa_nil))))
      (pss_cons (ps_if (pt_cmpR op_neU (pe_lcomp (M := ["_law_way", "_law_board_here", "_law_good", "_law_none"]) (cap := [none, some 6, some 9, some 8]) (g := (gName 0)) (tc := tNoTest) (te := (tCall spTold44 [] E0 (tCons (tVar 0) (tCons (tVar 1) (tCons (tVar 2) (tCons (tVar 3) tNil)))))) rfl (by rfl) (pi_range1 (by rfl) T.range (pa_cons pe_int pa_nil)) (fun cl ex s3 H3 C => ⟨(pg_name (i := 0) nd_law3 rfl (Or.inl rfl) (Or.inr rfl)), pts_nil, (pe_call G7 (hr.mono (by decide)) (by rfl) m7 k7 b7 .nil pass0 (pa_cons (pv 0) (pa_cons (pv 1) (pa_cons (pv 2) (pa_cons (pv 3) pa_nil)))))⟩)) (pe_lstW (pa_c pe_str (pa_c pe_str (pa_c pe_str (pa_c pe_str pa_nil))))) (nomark _)) (pss_one (ps_ret pe_bl)) pss_nil)
      (pss_cons (ps_if (pt_cmpR op_neU (pe_lcomp (M := ["_law_way", "_law_board_here", "_law_good", "_law_high"]) (cap := [none, some 6, some 9, some 3]) (g := (gName 0)) (tc := tNoTest) (te := (tCall spTold44 [] E0 (tCons (tVar 0) (tCons (tVar 1) (tCons (tVar 2) (tCons (tVar 3) tNil)))))) rfl (by rfl) (pi_range1 (by rfl) T.range (pa_cons pe_int pa_nil)) (fun cl ex s3 H3 C => ⟨(pg_name (i := 0) nd_law4 rfl (Or.inl rfl) (Or.inr rfl)), pts_nil, (pe_call G7 (hr.mono (by decide)) (by rfl) m7 k7 b7 .nil pass0 (pa_cons (pv 0) (pa_cons (pv 1) (pa_cons (pv 2) (pa_cons (pv 3) pa_nil)))))⟩)) (pe_op op_repW (pe_lstW (pa_c pe_str pa_nil)) pe_int) (nomark _)) (pss_one (ps_ret pe_bl)) pss_nil)
      (pss_cons (ps_if (pt_cmpR op_neU (pe_call G7 (hr.mono (by decide)) (by rfl) m7 k7 b7 .nil pass0 (pa_cons pe_int (pa_cons (pe_call G8 (hr.mono (by decide)) (by rfl) m8 k8 b8 .nil pass0 (pa_cons (pv 2) (pa_cons pe_bl pa_nil))) (pa_cons pe_non (pa_cons pe_non pa_nil))))) pe_str (nomark _)) (pss_one (ps_ret pe_bl)) pss_nil)
      (pss_one (ps_if (pt_cmpR op_neU (pe_call G7 (hr.mono (by decide)) (by rfl) m7 k7 b7 .nil pass0 (pa_cons pe_int (pa_cons (pe_call G8 (hr.mono (by decide)) (by rfl) m8 k8 b8 .nil pass0 (pa_cons (pv 2) (pa_cons pe_bl pa_nil))) (pa_cons pe_non (pa_cons pe_non pa_nil))))) pe_str (nomark _)) (pss_one (ps_ret pe_bl)) pss_nil)))))))))))))))) ?p1, ?rd⟩
    case p1 =>
      show PSs _ _ _
      refine' pss_cons ?a ?b
      case a =>
        show PS _ (.Assign [.Name _ _] (.ListComp _ [⟨_, _, _, _⟩] _ _) _) _
        refine' ps_lcomp (i := 10) (M := ["_law_way", "_law_many"]) (cap := [none, none]) (g := (gTup K 2 (gCons (gName 0) (gCons (gName 1) gNil)))) (tc := tNoTest) (te := (tCall spTold44 [] E0 (tCons (tVar 0) (tCons (tOp rCatW (tLstW (tCons (tC (.int 1)) tNil)) (tOp rRepW (tLstW (tCons (tC (.int 0)) tNil)) (tVar 1))) (tCons (tC .non) (tCons (tC .non) tNil)))))) ?nd ?h1 ?h2 ?hc ?ck ?pi ?bd (hs := ?hs) (hsw := ?hsw)
        case nd => exact sc_law.nd
        case h1 => rfl
        case h2 => rfl
        case hc => rfl
        case ck => rfl
        case hs => intro _; rfl
        case hsw => rfl
        case bd =>
          intro cl ex s3 H3 C
          refine' ⟨(pg_tup rfl (pgs_cons (pg_name (i := 0) nd_law5 rfl (Or.inl rfl) (Or.inr rfl)) (pgs_cons (pg_name (i := 1) nd_law5 rfl (Or.inl rfl) (Or.inr rfl)) pgs_nil))), pts_nil, ?cl⟩
          refine' pe_call G7 (hr.mono (by decide)) (by rfl) m7 k7 b7 .nil pass0 ?ar
          exact (pa_cons (pv 0) (pa_cons (pe_op op_catW (pe_lstW (pa_c pe_int pa_nil)) (pe_op op_repW (pe_lstW (pa_c pe_int pa_nil)) (pv 1))) (pa_cons pe_non (pa_cons pe_non pa_nil))))
        case pi =>
          refine' pi_list (pe_lstW ?d)
          case d =>
            refine' pa_c (pe_tupW (pa_c pe_int (pa_c pe_int pa_nil))) ?r0
            case r0 =>
              refine' pa_c (pe_tupW (pa_c pe_int (pa_c pe_int pa_nil))) ?r1
              case r1 =>
                refine' pa_c (pe_tupW (pa_c pe_int (pa_c pe_int pa_nil))) ?r2
                case r2 =>
                  refine' pa_c (pe_tupW (pa_c pe_int (pa_c pe_int pa_nil))) ?r3
                  case r3 =>
                    exact pa_nil
      case b => exact pss_one (ps_ret (pe_cmpR op_eqU (pv 10) (pe_op op_repW (pe_lstW (pa_c pe_str pa_nil)) pe_int) (nomark _)))
    refine ⟨_, rfl, a, _, rfl, .inl hS, _, _, rfl, _, _, rfl, ?_⟩
    have hL0 : (0 : Int) ≤ (((ns.map V.int).length : Nat) : Int) := Int.natCast_nonneg _
    have hL1 : (((ns.map V.int).length : Nat) : Int) ≤ 63 := by rw [List.length_map]; omega
    have hj := law_turns _ hL0 hL1
    refine ⟨_, rfl, Int.le_trans (by decide) hj.1, Int.lt_of_le_of_lt hj.2 (by decide), for_range (n := Int.toNat _) (fun i σ H2 => ∃ v1 v2 v3 v4 v5 v6 v7 v8 v9 v10, σ = [some (.ref a), v1, v2, v3, v4, v5, v6, v7, v8, v9, v10] ∧ Same H H2) ⟨none, none, none, none, none, none, none, none, none, none, rfl, Same.refl H⟩ ?_ ?_⟩
    · rintro i σ H2 hi ⟨v1, v2, v3, v4, v5, v6, v7, v8, v9, v10, rfl, s2⟩
      refine ⟨_, rfl, _, rfl, a, ns, _, rfl, s2.seq hS, by omega, by omega, fun cc => ⟨cc, rfl, fun p n hp => ?_⟩⟩
      have s3 : Same H2 (upd H2 p (.lst [.int n])) := same_upd hp
      have e3 : (upd H2 p (.lst [.int n])) p = some (.lst [.int n]) := upd_same
      generalize upd H2 p (.lst [.int n]) = H3 at s3 e3 ⊢
      refine ⟨_, rfl, p, n, 6, rfl, e3, by decide, by decide, fun r4 H4 n4 x4 p4 r40 r41 => ⟨_, _, rfl, rfl, ?_⟩⟩
      refine ⟨_, rfl, _, rfl, p, n4, 5, rfl, p4, by decide, by decide, fun r5 H5 n5 x5 p5 r50 r51 => ⟨_, _, rfl, rfl, _, _, rfl, rfl, (show (0 : Int) < 6 by decide), _, _, rfl, rfl, ?_⟩⟩
      refine ⟨_, rfl, _, rfl, _, rfl, p, n5, 1 + r4, (1 + (1 + r4 + r5) % 6), rfl, p5, by omega, by omega, by omega, by omega, fun H6 q1 La n6 x6 p6 B1 => ?_⟩
      refine ⟨_, rfl, _, rfl, _, rfl, p, n6, 1 + r4, 1 + r4, rfl, p6, by omega, by omega, by omega, by omega, fun H7 q2 Lb n7 x7 p7 B2 => ?_⟩
      refine ⟨_, rfl, _, rfl, _, rfl, p, n7, 1 + r4, rfl, p7, by omega, by omega, fun t8 o8 H8 n8 x8 p8 nt8 et8 pm8 => ?_⟩
      refine ⟨p, n8, t8, o8, (1 + r4).toNat, rfl, p8, nt8, et8, (perm_ordI pm8).1, by omega, by omega, fun bad H9 n9 x9 p9 kb sb ob => ?_⟩
      refine ⟨_, rfl, _, _, rfl, rfl, _, rfl, by show 1 ≤ 1000; decide, fun tz H10 s10 n10 e10 => ⟨_, _, rfl, rfl, ⟨by decide, by decide, by decide⟩, by show 7 ≤ 1000; decide, fun l11 H11 s11 n11 e11 => ?_⟩⟩
      have S11 := s10.trans s11
      have p11 := S11 _ _ p9
      have nl11 : l11 ≠ p := nd_of (s10 _ _ p9) n11
      have big : (10 : Int) < 10 ^ 39 := by decide
      have ALL : ∀ z ∈ [V.int (1 + r4 + 1), .int (-1), .bl true, .non, .str "0", .ref tz, .int (10 ^ (39 : Int).toNat)], Kn p H11 z ∧ within z 0 (1 + r4) = false :=
        fm_cons ⟨trivial, by show (decide (0 ≤ 1 + r4 + 1) && decide (1 + r4 + 1 ≤ 1 + r4)) = false; rw [decide_eq_false (show ¬ (1 + r4 + 1 ≤ 1 + r4) by omega), Bool.and_false]⟩ (fm_cons ⟨trivial, rfl⟩ (fm_cons ⟨trivial, rfl⟩ (fm_cons ⟨trivial, rfl⟩ (fm_cons ⟨trivial, rfl⟩ (fm_cons ⟨⟨nd_of p9 n10, .inl ⟨_, s11 _ _ e10⟩⟩, rfl⟩ (fm_cons ⟨trivial, by show (decide ((0 : Int) ≤ 10 ^ 39) && decide ((10 : Int) ^ 39 ≤ 1 + r4)) = false; rw [decide_eq_false (show ¬ ((10 : Int) ^ 39 ≤ 1 + r4) by omega), Bool.and_false]⟩ fm_nil))))))
      refine ⟨_, rfl, p, n9, 7, rfl, p11, by decide, by decide, fun r12 H12 n12 x12 p12 r120 r121 => ?_⟩
      obtain ⟨nn, mn, hnn⟩ := atI_mem (xs := [V.int (1 + r4 + 1), .int (-1), .bl true, .non, .str "0", .ref tz, .int (10 ^ (39 : Int).toNat)]) r120 r121
      obtain ⟨kn0, wn0⟩ := ALL nn mn
      refine ⟨l11, _, _, nn, rfl, rfl, SqL.of (x12 _ _ nl11 e11), hnn, ?_⟩
      have kn12 : Kn p H12 nn := Kn.keep x12 kn0
      have K912 : KX p H9 H12 := (KX.of S11).trans x12
      have kb12 : KnD p 1 H12 bad := KnD.keep K912 kb
      have sb12 : Sm H12 bad := Sm.keep K912 (KnD.kn kb) sb
      have ob12 : ordV H12 (1 + r4).toNat bad = false := by rw [ordV_kx K912 (KnD.kn kb)]; exact ob
      have B1' := (((B1.kx x7).kx x8).kx x9).kx K912
      have B2' := ((B2.kx x8).kx x9).kx K912
      have hsq1 : decide ((1 + r4 : Int) = (1 + (1 + r4 + r5) % 6)) = false := decide_eq_false (by omega)
      have hsq2 : decide ((1 + r4 : Int) = 1 + r4) = true := decide_eq_true rfl
      refine ⟨4, rfl, by decide, by decide, fun plA hplA => ?_⟩
      refine comp_dat 4 (line_ge (by omega)) (fun j => some (PyData.str (wd44 (0 + (j : Int)) false false false))) (fun j _ d e => by cases e; rfl) hplA (fun j G hj sg _ => ?_) (fun G sg => by show _ ≤ _; decide) fun GA ysA sgA egA dgA => ?_
      · refine ⟨by show j < _; exact hj, fun z G2 ⟨eH, ev⟩ kn' kv h1 h2 => ?_⟩
        subst eH ev
        refine ⟨⟨rfl, rfl, rfl, trivial⟩, no_test ⟨_, rfl, _, rfl, _, rfl, _, rfl, .inl ⟨p, q1, 1 + r4, (1 + (1 + r4 + r5) % 6), La, bad, nn, 0 + (j : Int), rfl, by omega, by omega, (B1').kx (KX.of sg), KnD.keep (KX.of sg) kb12, Sm.keep (KX.of sg) (KnD.kn kb12) sb12, Kn.keep (KX.of sg) kn12, fun G3 s3 => ?_⟩⟩⟩
        rw [hsq1, ordV_kx (KX.of sg) (KnD.kn kb12), ob12, wn0]
        exact h2 _ _ _ rfl s3 (wd_dat _ _ _ _)
      have dxA : (List.range 4).filterMap (fun (j : Nat) => some (PyData.str (wd44 (0 + (j : Int)) false false false))) = [.str "square", .str "square", .str "square", .str "square"] := rfl
      rw [dxA] at dgA
      refine ⟨by show 1 ≤ 1000; decide, fun laA GaA saA naA eaA => ⟨laA, _, _, rfl, rfl, eaA, by decide, by decide, by decide, fun lbA GbA sbA nbA ebA => ⟨_, _, .lst ((saA.trans sbA) _ _ egA) ((dgA.same saA).same sbA), .lst ebA (.cons (.str "square" (by decide +kernel)) (.cons (.str "square" (by decide +kernel)) (.cons (.str "square" (by decide +kernel)) (.cons (.str "square" (by decide +kernel)) .nil)))), ?_, _, rfl, ?_⟩⟩⟩
      · have := dep1 (ds := [.str "square", .str "square", .str "square", .str "square"]) (by simp [PyData.depthAll, PyData.depth]) (.list [.str "square", .str "square", .str "square", .str "square"])
        show (A.deeper (envOfC "law" (defScope sLaw) s.heap.objs.size f cdv)).units + _ < cLine
        omega
      rw [SeqAt.eqv_refl (.list [.str "square", .str "square", .str "square", .str "square"]) (by decide +kernel)]
      refine iteF ?_
      have SA : Same H12 GbA := sgA.trans (saA.trans sbA)
      have KA : KX p H12 GbA := KX.of SA
      have obA : ordV GbA (1 + r4).toNat bad = false := by rw [ordV_kx KA (KnD.kn kb12)]; exact ob12
      refine ⟨2, rfl, by decide, by decide, fun plB hplB => ?_⟩
      refine comp_dat 2 (line_ge (by omega)) (fun j => some (PyData.str (wd44 (0 + (j : Int)) true false false))) (fun j _ d e => by cases e; rfl) hplB (fun j G hj sg _ => ?_) (fun G sg => by show _ ≤ _; decide) fun GB ysB sgB egB dgB => ?_
      · refine ⟨by show j < _; exact hj, fun z G2 ⟨eH, ev⟩ kn' kv h1 h2 => ?_⟩
        subst eH ev
        refine ⟨⟨rfl, rfl, rfl, trivial⟩, no_test ⟨_, rfl, _, rfl, _, rfl, _, rfl, .inl ⟨p, q2, 1 + r4, (1 + r4), Lb, bad, nn, 0 + (j : Int), rfl, by omega, by omega, (B2'.kx KA).kx (KX.of sg), KnD.keep (KX.of sg) (KnD.keep KA kb12), Sm.keep (KX.of sg) (KnD.kn (KnD.keep KA kb12)) (Sm.keep KA (KnD.kn kb12) sb12), Kn.keep (KX.of sg) (Kn.keep KA kn12), fun G3 s3 => ?_⟩⟩⟩
        rw [hsq2, ordV_kx (KX.of sg) (KnD.kn (KnD.keep KA kb12)), obA, wn0]
        exact h2 _ _ _ rfl s3 (wd_dat _ _ _ _)
      have dxB : (List.range 2).filterMap (fun (j : Nat) => some (PyData.str (wd44 (0 + (j : Int)) true false false))) = [.str "order", .str "order"] := rfl
      rw [dxB] at dgB
      refine ⟨by show 1 ≤ 1000; decide, fun laB GaB saB naB eaB => ⟨laB, _, _, rfl, rfl, eaB, by decide, by decide, by decide, fun lbB GbB sbB nbB ebB => ⟨_, _, .lst ((saB.trans sbB) _ _ egB) ((dgB.same saB).same sbB), .lst ebB (.cons (.str "order" (by decide +kernel)) (.cons (.str "order" (by decide +kernel)) .nil)), ?_, _, rfl, ?_⟩⟩⟩
      · have := dep1 (ds := [.str "order", .str "order"]) (by simp [PyData.depthAll, PyData.depth]) (.list [.str "order", .str "order"])
        show (A.deeper (envOfC "law" (defScope sLaw) s.heap.objs.size f cdv)).units + _ < cLine
        omega
      rw [SeqAt.eqv_refl (.list [.str "order", .str "order"]) (by decide +kernel)]
      refine iteF ?_
      have SB : Same GbA GbB := sgB.trans (saB.trans sbB)
      have SAB := SA.trans SB
      have pB := SAB _ _ p12
      refine ⟨_, rfl, _, rfl, p, n12, 1 + r4, rfl, pB, by omega, by omega, fun t13 o13 H13 n13 x13 p13 nt13 et13 pm13 => ?_⟩
      have K1213 : KX p H12 H13 := (KX.of SAB).trans x13
      have kn13 : Kn p H13 nn := Kn.keep K1213 kn12
      have B3 := B2'.kx K1213
      have po := perm_ordI pm13
      have kg : KnD p 1 H13 (.ref t13) := KnD.tup nt13 et13 fun y hy => by
        obtain ⟨i, _, rfl⟩ := List.mem_map.mp hy
        exact KnD.int i 0
      have sg' : Sm H13 (.ref t13) := fun ps e => by
        rw [tupOf_at, et13] at e
        cases e
        rw [List.length_map, po.1]
        exact line_ge (by omega)
      have og : ordV H13 (1 + r4).toNat (.ref t13) = true := by
        unfold ordV
        rw [tupOf_at, et13]
        show (decide ((o13.map V.int).length = (1 + r4).toNat) && ((o13.map V.int).all isI && ordI (1 + r4).toNat ((o13.map V.int).map intV))) = true
        have e1 : (o13.map V.int).map intV = o13 := by
          rw [List.map_map]
          conv => rhs; rw [← List.map_id o13]
          rfl
        have e2 : (o13.map V.int).all isI = true := by
          rw [List.all_eq_true]
          intro y hy
          obtain ⟨i, _, rfl⟩ := List.mem_map.mp hy
          rfl
        rw [e1, e2, po.2, List.length_map, decide_eq_true po.1]
        rfl
      refine ⟨4, rfl, by decide, by decide, fun plC hplC => ?_⟩
      refine comp_dat 4 (line_ge (by omega)) (fun j => some (PyData.str (wd44 (0 + (j : Int)) true true false))) (fun j _ d e => by cases e; rfl) hplC (fun j G hj sg _ => ?_) (fun G sg => by show _ ≤ _; decide) fun GC ysC sgC egC dgC => ?_
      · refine ⟨by show j < _; exact hj, fun z G2 ⟨eH, ev⟩ kn' kv h1 h2 => ?_⟩
        subst eH ev
        refine ⟨⟨rfl, rfl, rfl, trivial⟩, no_test ⟨_, rfl, _, rfl, _, rfl, _, rfl, .inl ⟨p, q2, 1 + r4, (1 + r4), Lb, (.ref t13), nn, 0 + (j : Int), rfl, by omega, by omega, (B3).kx (KX.of sg), KnD.keep (KX.of sg) kg, Sm.keep (KX.of sg) (KnD.kn kg) sg', Kn.keep (KX.of sg) kn13, fun G3 s3 => ?_⟩⟩⟩
        rw [hsq2, ordV_kx (KX.of sg) (KnD.kn kg), og, wn0]
        exact h2 _ _ _ rfl s3 (wd_dat _ _ _ _)
      have dxC : (List.range 4).filterMap (fun (j : Nat) => some (PyData.str (wd44 (0 + (j : Int)) true true false))) = [.str "told", .str "number", .str "number", .str "told"] := rfl
      rw [dxC] at dgC
      refine ⟨by show 4 ≤ 1000; decide, fun lbC GbC sbC nbC ebC => ⟨_, _, .lst (sbC _ _ egC) (dgC.same sbC), .lst ebC (.cons (.str "told" (by decide +kernel)) (.cons (.str "number" (by decide +kernel)) (.cons (.str "number" (by decide +kernel)) (.cons (.str "told" (by decide +kernel)) .nil)))), ?_, _, rfl, ?_⟩⟩
      · have := dep1 (ds := [.str "told", .str "number", .str "number", .str "told"]) (by simp [PyData.depthAll, PyData.depth]) (.list [.str "told", .str "number", .str "number", .str "told"])
        show (A.deeper (envOfC "law" (defScope sLaw) s.heap.objs.size f cdv)).units + _ < cLine
        omega
      rw [SeqAt.eqv_refl (.list [.str "told", .str "number", .str "number", .str "told"]) (by decide +kernel)]
      refine iteF ?_
      have SC : Same H13 GbC := sgC.trans sbC
      have KC : KX p H13 GbC := KX.of SC
      have ogC : ordV GbC (1 + r4).toNat (.ref t13) = true := by rw [ordV_kx KC (KnD.kn kg)]; exact og
      have whi : within (.int (1 + r4)) 0 (1 + r4) = true := by
        show (decide (0 ≤ 1 + r4) && decide (1 + r4 ≤ 1 + r4)) = true
        rw [decide_eq_true (by omega), decide_eq_true (by omega)]
        rfl
      refine ⟨4, rfl, by decide, by decide, fun plD hplD => ?_⟩
      refine comp_dat 4 (line_ge (by omega)) (fun j => some (PyData.str (wd44 (0 + (j : Int)) true true true))) (fun j _ d e => by cases e; rfl) hplD (fun j G hj sg _ => ?_) (fun G sg => by show _ ≤ _; decide) fun GD ysD sgD egD dgD => ?_
      · refine ⟨by show j < _; exact hj, fun z G2 ⟨eH, ev⟩ kn' kv h1 h2 => ?_⟩
        subst eH ev
        refine ⟨⟨rfl, rfl, rfl, trivial⟩, no_test ⟨_, rfl, _, rfl, _, rfl, _, rfl, .inl ⟨p, q2, 1 + r4, (1 + r4), Lb, (.ref t13), (.int (1 + r4)), 0 + (j : Int), rfl, by omega, by omega, (B3.kx KC).kx (KX.of sg), KnD.keep (KX.of sg) (KnD.keep KC kg), Sm.keep (KX.of sg) (KnD.kn (KnD.keep KC kg)) (Sm.keep KC (KnD.kn kg) sg'), trivial, fun G3 s3 => ?_⟩⟩⟩
        rw [hsq2, ordV_kx (KX.of sg) (KnD.kn (KnD.keep KC kg)), ogC, whi]
        exact h2 _ _ _ rfl s3 (wd_dat _ _ _ _)
      have dxD : (List.range 4).filterMap (fun (j : Nat) => some (PyData.str (wd44 (0 + (j : Int)) true true true))) = [.str "told", .str "told", .str "told", .str "told"] := rfl
      rw [dxD] at dgD
      refine ⟨by show 1 ≤ 1000; decide, fun laD GaD saD naD eaD => ⟨laD, _, _, rfl, rfl, eaD, by decide, by decide, by decide, fun lbD GbD sbD nbD ebD => ⟨_, _, .lst ((saD.trans sbD) _ _ egD) ((dgD.same saD).same sbD), .lst ebD (.cons (.str "told" (by decide +kernel)) (.cons (.str "told" (by decide +kernel)) (.cons (.str "told" (by decide +kernel)) (.cons (.str "told" (by decide +kernel)) .nil)))), ?_, _, rfl, ?_⟩⟩⟩
      · have := dep1 (ds := [.str "told", .str "told", .str "told", .str "told"]) (by simp [PyData.depthAll, PyData.depth]) (.list [.str "told", .str "told", .str "told", .str "told"])
        show (A.deeper (envOfC "law" (defScope sLaw) s.heap.objs.size f cdv)).units + _ < cLine
        omega
      rw [SeqAt.eqv_refl (.list [.str "told", .str "told", .str "told", .str "told"]) (by decide +kernel)]
      refine iteF ?_
      have SD : Same GbC GbD := sgD.trans (saD.trans sbD)
      have SCD := SC.trans SD
      have pD := SCD _ _ p13
      refine ⟨_, rfl, p, n13, true, rfl, pD, fun x14 H14 n14 y14 p14 k14 bd14 _ => ?_⟩
      refine .inr (.inl ⟨p, x14, .non, .non, rfl, k14, bd14 rfl, fun H15 s15 => ⟨_, _, .str "counts" (by decide +kernel), .str "counts" (by decide +kernel), ?_, _, rfl, ?_⟩⟩)
      · rw [Nat.min_self]
        have : PyData.depth (.str "counts") = 0 := by simp [PyData.depth]
        show (A.deeper (envOfC "law" (defScope sLaw) s.heap.objs.size f cdv)).units + _ < cLine
        omega
      rw [SeqAt.eqv_refl (.str "counts") (by decide +kernel)]
      refine iteF ?_
      have p15 := s15 _ _ p14
      refine ⟨_, rfl, p, n14, false, rfl, p15, fun x16 H16 n16 y16 p16 k16 _ nb16 => ?_⟩
      refine .inr (.inr (.inr (.inl ⟨p, x16, .non, .non, rfl, k16, nb16 rfl, fun H17 s17 => ⟨_, _, .str "hits" (by decide +kernel), .str "hits" (by decide +kernel), ?_, _, rfl, ?_⟩⟩)))
      · rw [Nat.min_self]
        have : PyData.depth (.str "hits") = 0 := by simp [PyData.depth]
        show (A.deeper (envOfC "law" (defScope sLaw) s.heap.objs.size f cdv)).units + _ < cLine
        omega
      rw [SeqAt.eqv_refl (.str "hits") (by decide +kernel)]
      refine iteF ⟨_, _, _, _, _, _, _, _, _, _, rfl, s2.trans fun b ob eb' => ?_⟩
      have nb : b ≠ p := ne_of_none eb' hp
      have g9 := x9 b ob nb (x8 b ob nb (x7 b ob nb (x6 b ob nb (x5 b ob nb (x4 b ob nb (s3 b ob eb'))))))
      exact s17 _ _ (y16 b ob nb (s15 _ _ (y14 b ob nb (SCD _ _ (x13 b ob nb (SAB _ _ (K912 b ob nb g9)))))))
    · rintro σ H2 ⟨v1, v2, v3, v4, v5, v6, v7, v8, v9, v10, rfl, s2⟩
      refine ⟨by show 2 ≤ 1000; decide, fun t1 J1 u1 w1 f1' => ⟨by show 2 ≤ 1000; decide, fun t2 J2 u2 w2 f2' => ⟨by show 2 ≤ 1000; decide, fun t3 J3 u3 w3 f3' => ⟨by show 2 ≤ 1000; decide, fun t4 J4 u4 w4 f4' => ⟨by show 4 ≤ 1000; decide, fun lf J5 u5 w5 f5' => ⟨lf, rfl, ⟨_, SqL.of f5'⟩, fun pl hpl => ?_⟩⟩⟩⟩⟩⟩
      have F4 := u5 _ _ f4'
      have F3 := u5 _ _ (u4 _ _ f3')
      have F2 := u5 _ _ (u4 _ _ (u3 _ _ f2'))
      have F1 := u5 _ _ (u4 _ _ (u3 _ _ (u2 _ _ f1')))
      have A4 : ∀ j, j < 4 → ∃ (t : Addr) (way : Int) (kk : Nat), [V.ref t1, .ref t2, .ref t3, .ref t4][j]? = some (.ref t) ∧ J5 t = some (.tup [.int way, .int (kk : Nat)]) ∧ (way = 4 ∨ way = 5) ∧ 1 ≤ kk ∧ kk ≤ 12 := by
        intro j hj
        have : j = 0 ∨ j = 1 ∨ j = 2 ∨ j = 3 := by omega
        rcases this with rfl | rfl | rfl | rfl
        · exact ⟨t1, 4, 1, rfl, F1, .inl rfl, by decide, by decide⟩
        · exact ⟨t2, 4, 12, rfl, F2, .inl rfl, by decide, by decide⟩
        · exact ⟨t3, 5, 1, rfl, F3, .inr rfl, by decide, by decide⟩
        · exact ⟨t4, 5, 12, rfl, F4, .inr rfl, by decide, by decide⟩
      refine comp_dat 4 (line_ge (by omega)) (fun _ => some (PyData.str "told")) (fun j _ d e => by cases e; rfl) hpl (fun j G hj sg _ => ?_) (fun G sg => ⟨_, SqL.of (sg _ _ f5'), Nat.le_refl _⟩) fun G ys sg eg dg => ?_
      · obtain ⟨t, way, kk, hx, et, hway, kk1, kk12⟩ := A4 j hj
        refine ⟨⟨_, _, SqL.of (sg _ _ f5'), hx⟩, fun z G2 ⟨eH, ev⟩ kn' kv h1 h2 => ?_⟩
        subst eH
        have ez := ev _ (SqL.of (sg _ _ f5'))
        rw [hx] at ez
        cases ez
        refine ⟨t, _, rfl, SqT.of (sg _ _ et), rfl, _, _, rfl, _, _, rfl, rfl, ⟨trivial, no_test ⟨_, rfl, by show 1 ≤ 1000; decide, fun a1 M1 y1 z1 g1 => ⟨by show 1 ≤ 1000; decide, fun a2 M2 y2 z2 g2 => ⟨_, rfl, a2, _, _, rfl, rfl, g2, by omega, by omega, by show 1 * _ ≤ _; omega, fun a3 M3 y3 z3 g3 => ⟨a1, a3, _, _, rfl, rfl, y3 _ _ (y2 _ _ g1), g3, ?_, fun a4 M4 y4 z4 g4 => ?_⟩⟩⟩⟩⟩⟩
        · have e := congrArg List.length (ones_eq kk)
          rw [List.length_append, List.length_map, show ((1 : Int) :: List.replicate kk 0).length = kk + 1 by rw [List.length_cons, List.length_replicate]] at e
          rw [Int.toNat_natCast, e]
          omega
        rw [Int.toNat_natCast, ones_eq] at g4
        have lz : ((1 : Int) :: List.replicate kk 0).length = kk + 1 := by rw [List.length_cons, List.length_replicate]
        have S4 := y1.trans (y2.trans (y3.trans y4))
        rcases hway with rfl | rfl
        · refine .inr (.inr (.inl ⟨a4, 1 :: List.replicate kk 0, .non, .non, rfl, g4, by omega, by omega, rfl, fun x hx' => ?_, fun M5 y5 => h2 _ _ _ rfl (S4.trans y5) (.str "told" (by decide +kernel))⟩))
          rcases List.mem_cons.mp hx' with rfl | q
          · decide
          · rw [(List.mem_replicate.mp q).2]; decide
        · exact .inr (.inr (.inr (.inr ⟨a4, 1 :: List.replicate kk 0, .non, .non, rfl, g4, by omega, by omega, fun M5 y5 => h2 _ _ _ rfl (S4.trans y5) (.str "told" (by decide +kernel))⟩)))
      · have dx : (List.range 4).filterMap (fun _ => some (PyData.str "told")) = [.str "told", .str "told", .str "told", .str "told"] := rfl
        rw [dx] at dg
        refine ⟨_, rfl, by show 1 ≤ 1000; decide, fun la Ga sa na ea => ⟨la, _, _, rfl, rfl, ea, by decide, by decide, by decide, fun lb Gb sb nb eb => ⟨_, _, .lst ((sa.trans sb) _ _ eg) ((dg.same sa).same sb), .lst eb (.cons (.str "told" (by decide +kernel)) (.cons (.str "told" (by decide +kernel)) (.cons (.str "told" (by decide +kernel)) (.cons (.str "told" (by decide +kernel)) .nil)))), ?_, ?_⟩⟩⟩
        · have := dep1 (ds := [.str "told", .str "told", .str "told", .str "told"]) (by simp [PyData.depthAll, PyData.depth]) (.list [.str "told", .str "told", .str "told", .str "told"])
          show (A.deeper (envOfC "law" (defScope sLaw) s.heap.objs.size f cdv)).units + _ < cLine
          omega
        rw [SeqAt.eqv_refl (.list [.str "told", .str "told", .str "told", .str "told"]) (by decide +kernel)]
        exact k Gb
end
end Rk
set_option Elab.async false
set_option linter.all false
set_option maxRecDepth 100000
set_option maxHeartbeats 4000000
def PySem.W.Fast.tw9113506638203672928 : Nat := 0
def PySem.W.Fast.tw15654288265228115252 : Nat := 0
def PySem.W.Fast.tw9317951648446791593 : Nat := 0
def PySem.W.Fast.tw10541580374098703321 : Nat := 0
def PySem.W.Fast.tw7262518399354249849 : Nat := 0
def PySem.W.Fast.tw14471966305373223248 : Nat := 0
def PySem.W.Fast.tw10020031187787611027 : Nat := 0
def PySem.W.Fast.tw11463184509515784917 : Nat := 0
def PySem.W.Fast.tw2579223079366407723 : Nat := 0
def PySem.W.Fast.tw5649087884088648497 : Nat := 0
def PySem.W.Fast.tw12980604261310962844 : Nat := 0
def PySem.W.Fast.tw14513988253276952209 : Nat := 0
def PySem.W.Fast.tw9932526482903700627 : Nat := 0
def PySem.W.Fast.tw9716821527447828806 : Nat := 0
def PySem.W.Fast.tw17205980434502790340 : Nat := 0
def PySem.W.Fast.tw14915352351137799854 : Nat := 0
def PySem.W.Fast.tw9350969503501447975 : Nat := 0
def PySem.W.Fast.tw606927368508339166 : Nat := 0
def PySem.W.Fast.tw8185759379249210410 : Nat := 0
def PySem.W.Fast.tw16475689594140631162 : Nat := 0
def PySem.W.Fast.tw447657332981108152 : Nat := 0
def PySem.W.Fast.tw224702715466576812 : Nat := 0
def PySem.W.Fast.tw5074329881979519183 : Nat := 0
namespace Rk
open PySem PySem.Spec PyProof.Rows L2
theorem all_mk {l : PySem.W.OpenLaw} {w : World} {K : PySem.W.Frag} {h : Heap} {mg : Str → Option Value} {fa f1 f2 f3 f4 f5 f6 f7 f8 f9 f10 f11 f12 f13 f14 f15 f16 f17 f18 f19 f20 f21 f22 f23 f24 f25 f26 f27 f28 f29 f30 : Addr} (X : K.In h) (G : h.Ns mainGlobals mg) (hfa : mg "law" = some (.ref fa))
    {od1 an1 od2 an2 od3 an3 od4 an4 od5 an5 od6 an6 od7 an7 od8 an8 od9 an9 od10 an10 od11 an11 od12 an12 od13 an13 od14 an14 od15 an15 od16 an16 od17 an17 od18 an18 od19 an19 od20 an20 od21 an21 od22 an22 od23 an23 od24 an24 od25 an25 od26 an26 od27 an27 od28 an28 od29 an29 od30 an30 : Option Addr} {sl1 sl2 sl3 sl4 sl5 sl6 sl7 sl8 sl9 sl10 sl11 sl12 sl13 sl14 sl15 sl16 sl17 sl18 sl19 sl20 sl21 sl22 sl23 sl24 sl25 sl26 sl27 sl28 sl29 sl30 : Array (Option Value)} {oc1 kV1 dc1 pm1 cd1 ct1 oc2 kV2 dc2 pm2 cd2 ct2 oc3 kV3 dc3 pm3 cd3 ct3 oc4 kV4 dc4 pm4 cd4 ct4 oc5 kV5 dc5 pm5 cd5 ct5 oc6 kV6 dc6 pm6 cd6 ct6 oc7 kV7 dc7 pm7 cd7 ct7 oc8 kV8 dc8 pm8 cd8 ct8 oc9 kV9 dc9 pm9 cd9 ct9 oc10 kV10 dc10 pm10 cd10 ct10 oc11 kV11 dc11 pm11 cd11 ct11 oc12 kV12 dc12 pm12 cd12 ct12 oc13 kV13 dc13 pm13 cd13 ct13 oc14 kV14 dc14 pm14 cd14 ct14 oc15 kV15 dc15 pm15 cd15 ct15 oc16 kV16 dc16 pm16 cd16 ct16 oc17 kV17 dc17 pm17 cd17 ct17 oc18 kV18 dc18 pm18 cd18 ct18 oc19 kV19 dc19 pm19 cd19 ct19 oc20 kV20 dc20 pm20 cd20 ct20 oc21 kV21 dc21 pm21 cd21 ct21 oc22 kV22 dc22 pm22 cd22 ct22 oc23 kV23 dc23 pm23 cd23 ct23 oc24 kV24 dc24 pm24 cd24 ct24 oc25 kV25 dc25 pm25 cd25 ct25 oc26 kV26 dc26 pm26 cd26 ct26 oc27 kV27 dc27 pm27 cd27 ct27 oc28 kV28 dc28 pm28 cd28 ct28 oc29 kV29 dc29 pm29 cd29 ct29 oc30 kV30 dc30 pm30 cd30 ct30 : Value}
    (a1 : PySem.W.nsIn K mainGlobals "is_whole" = some (some (.ref f1))) (l1 : K.lookup f1 = some ⟨oc1, od1, .func (PySem.W.fnOf "is_whole" "is_whole" (defArgs sWhole) (defBody sWhole) (defScope sWhole) .none kV1 dc1 pm1 an1 cd1 ct1), sl1⟩) (c1 : PySem.W.codeIn K cd1 "is_whole" = true) (k1 : PySem.W.keepIn K (.ref f1) = true)
    (a2 : PySem.W.nsIn K mainGlobals "is_whole_within" = some (some (.ref f2))) (l2 : K.lookup f2 = some ⟨oc2, od2, .func (PySem.W.fnOf "is_whole_within" "is_whole_within" (defArgs sWithin) (defBody sWithin) (defScope sWithin) .none kV2 dc2 pm2 an2 cd2 ct2), sl2⟩) (c2 : PySem.W.codeIn K cd2 "is_whole_within" = true) (k2 : PySem.W.keepIn K (.ref f2) = true)
    (a3 : PySem.W.nsIn K mainGlobals "how_many_orders" = some (some (.ref f3))) (l3 : K.lookup f3 = some ⟨oc3, od3, .func (PySem.W.fnOf "how_many_orders" "how_many_orders" (defArgs sOrders) (defBody sOrders) (defScope sOrders) .none kV3 dc3 pm3 an3 cd3 ct3), sl3⟩) (c3 : PySem.W.codeIn K cd3 "how_many_orders" = true) (k3 : PySem.W.keepIn K (.ref f3) = true)
    (a4 : PySem.W.nsIn K mainGlobals "how_many_sets" = some (some (.ref f4))) (l4 : K.lookup f4 = some ⟨oc4, od4, .func (PySem.W.fnOf "how_many_sets" "how_many_sets" (defArgs sSets) (defBody sSets) (defScope sSets) .none kV4 dc4 pm4 an4 cd4 ct4), sl4⟩) (c4 : PySem.W.codeIn K cd4 "how_many_sets" = true) (k4 : PySem.W.keepIn K (.ref f4) = true)
    (a5 : PySem.W.nsIn K mainGlobals "is_order" = some (some (.ref f5))) (l5 : K.lookup f5 = some ⟨oc5, od5, .func (PySem.W.fnOf "is_order" "is_order" (defArgs sOrder) (defBody sOrder) (defScope sOrder) .none kV5 dc5 pm5 an5 cd5 ct5), sl5⟩) (c5 : PySem.W.codeIn K cd5 "is_order" = true) (k5 : PySem.W.keepIn K (.ref f5) = true)
    (a6 : PySem.W.nsIn K mainGlobals "all_orders" = some (some (.ref f6))) (l6 : K.lookup f6 = some ⟨oc6, od6, .func (PySem.W.fnOf "all_orders" "all_orders" (defArgs sAll) (defBody sAll) (defScope sAll) .none kV6 dc6 pm6 an6 cd6 ct6), sl6⟩) (c6 : PySem.W.codeIn K cd6 "all_orders" = true) (k6 : PySem.W.keepIn K (.ref f6) = true)
    (a7 : PySem.W.nsIn K mainGlobals "others" = some (some (.ref f7))) (l7 : K.lookup f7 = some ⟨oc7, od7, .func (PySem.W.fnOf "others" "others" (defArgs sOthers) (defBody sOthers) (defScope sOthers) .none kV7 dc7 pm7 an7 cd7 ct7), sl7⟩) (c7 : PySem.W.codeIn K cd7 "others" = true) (k7 : PySem.W.keepIn K (.ref f7) = true)
    (a8 : PySem.W.nsIn K mainGlobals "hits_of" = some (some (.ref f8))) (l8 : K.lookup f8 = some ⟨oc8, od8, .func (PySem.W.fnOf "hits_of" "hits_of" (defArgs sHitsOf) (defBody sHitsOf) (defScope sHitsOf) .none kV8 dc8 pm8 an8 cd8 ct8), sl8⟩) (c8 : PySem.W.codeIn K cd8 "hits_of" = true) (k8 : PySem.W.keepIn K (.ref f8) = true)
    (a9 : PySem.W.nsIn K mainGlobals "hit_counts" = some (some (.ref f9))) (l9 : K.lookup f9 = some ⟨oc9, od9, .func (PySem.W.fnOf "hit_counts" "hit_counts" (defArgs sHitCounts) (defBody sHitCounts) (defScope sHitCounts) .none kV9 dc9 pm9 an9 cd9 ct9), sl9⟩) (c9 : PySem.W.codeIn K cd9 "hit_counts" = true) (k9 : PySem.W.keepIn K (.ref f9) = true)
    (a10 : PySem.W.nsIn K mainGlobals "first_hitting" = some (some (.ref f10))) (l10 : K.lookup f10 = some ⟨oc10, od10, .func (PySem.W.fnOf "first_hitting" "first_hitting" (defArgs sFirst) (defBody sFirst) (defScope sFirst) .none kV10 dc10 pm10 an10 cd10 ct10), sl10⟩) (c10 : PySem.W.codeIn K cd10 "first_hitting" = true) (k10 : PySem.W.keepIn K (.ref f10) = true)
    (a11 : PySem.W.nsIn K mainGlobals "next_hitting" = some (some (.ref f11))) (l11 : K.lookup f11 = some ⟨oc11, od11, .func (PySem.W.fnOf "next_hitting" "next_hitting" (defArgs sNext) (defBody sNext) (defScope sNext) .none kV11 dc11 pm11 an11 cd11 ct11), sl11⟩) (c11 : PySem.W.codeIn K cd11 "next_hitting" = true) (k11 : PySem.W.keepIn K (.ref f11) = true)
    (a12 : PySem.W.nsIn K mainGlobals "refuse_not_square" = some (some (.ref f12))) (l12 : K.lookup f12 = some ⟨oc12, od12, .func (PySem.W.fnOf "refuse_not_square" "refuse_not_square" (defArgs sRefSq) (defBody sRefSq) (defScope sRefSq) .none kV12 dc12 pm12 an12 cd12 ct12), sl12⟩) (c12 : PySem.W.codeIn K cd12 "refuse_not_square" = true) (k12 : PySem.W.keepIn K (.ref f12) = true)
    (a13 : PySem.W.nsIn K mainGlobals "refuse_no_order" = some (some (.ref f13))) (l13 : K.lookup f13 = some ⟨oc13, od13, .func (PySem.W.fnOf "refuse_no_order" "refuse_no_order" (defArgs sRefOrd) (defBody sRefOrd) (defScope sRefOrd) .none kV13 dc13 pm13 an13 cd13 ct13), sl13⟩) (c13 : PySem.W.codeIn K cd13 "refuse_no_order" = true) (k13 : PySem.W.keepIn K (.ref f13) = true)
    (a14 : PySem.W.nsIn K mainGlobals "refuse_no_number" = some (some (.ref f14))) (l14 : K.lookup f14 = some ⟨oc14, od14, .func (PySem.W.fnOf "refuse_no_number" "refuse_no_number" (defArgs sRefNum) (defBody sRefNum) (defScope sRefNum) .none kV14 dc14 pm14 an14 cd14 ct14), sl14⟩) (c14 : PySem.W.codeIn K cd14 "refuse_no_number" = true) (k14 : PySem.W.keepIn K (.ref f14) = true)
    (a15 : PySem.W.nsIn K mainGlobals "cells_hit" = some (some (.ref f15))) (l15 : K.lookup f15 = some ⟨oc15, od15, .func (PySem.W.fnOf "cells_hit" "cells_hit" (defArgs sCellsHit) (defBody sCellsHit) (defScope sCellsHit) .none kV15 dc15 pm15 an15 cd15 ct15), sl15⟩) (c15 : PySem.W.codeIn K cd15 "cells_hit" = true) (k15 : PySem.W.keepIn K (.ref f15) = true)
    (a16 : PySem.W.nsIn K mainGlobals "first_of" = some (some (.ref f16))) (l16 : K.lookup f16 = some ⟨oc16, od16, .func (PySem.W.fnOf "first_of" "first_of" (defArgs sFirstOf) (defBody sFirstOf) (defScope sFirstOf) .none kV16 dc16 pm16 an16 cd16 ct16), sl16⟩) (c16 : PySem.W.codeIn K cd16 "first_of" = true) (k16 : PySem.W.keepIn K (.ref f16) = true)
    (a17 : PySem.W.nsIn K mainGlobals "hits_by" = some (some (.ref f17))) (l17 : K.lookup f17 = some ⟨oc17, od17, .func (PySem.W.fnOf "hits_by" "hits_by" (defArgs sHitsBy) (defBody sHitsBy) (defScope sHitsBy) .none kV17 dc17 pm17 an17 cd17 ct17), sl17⟩) (c17 : PySem.W.codeIn K cd17 "hits_by" = true) (k17 : PySem.W.keepIn K (.ref f17) = true)
    (a18 : PySem.W.nsIn K mainGlobals "hits_at" = some (some (.ref f18))) (l18 : K.lookup f18 = some ⟨oc18, od18, .func (PySem.W.fnOf "hits_at" "hits_at" (defArgs sHitsAt) (defBody sHitsAt) (defScope sHitsAt) .none kV18 dc18 pm18 an18 cd18 ct18), sl18⟩) (c18 : PySem.W.codeIn K cd18 "hits_at" = true) (k18 : PySem.W.keepIn K (.ref f18) = true)
    (a19 : PySem.W.nsIn K mainGlobals "counts_by" = some (some (.ref f19))) (l19 : K.lookup f19 = some ⟨oc19, od19, .func (PySem.W.fnOf "counts_by" "counts_by" (defArgs sCountsBy) (defBody sCountsBy) (defScope sCountsBy) .none kV19 dc19 pm19 an19 cd19 ct19), sl19⟩) (c19 : PySem.W.codeIn K cd19 "counts_by" = true) (k19 : PySem.W.keepIn K (.ref f19) = true)
    (a20 : PySem.W.nsIn K mainGlobals "is_numbers" = some (some (.ref f20))) (l20 : K.lookup f20 = some ⟨oc20, od20, .func (PySem.W.fnOf "is_numbers" "is_numbers" (defArgs sIsNum) (defBody sIsNum) (defScope sIsNum) .none kV20 dc20 pm20 an20 cd20 ct20), sl20⟩) (c20 : PySem.W.codeIn K cd20 "is_numbers" = true) (k20 : PySem.W.keepIn K (.ref f20) = true)
    (a21 : PySem.W.nsIn K mainGlobals "_law_cell_at" = some (some (.ref f21))) (l21 : K.lookup f21 = some ⟨oc21, od21, .func (PySem.W.fnOf "_law_cell_at" "_law_cell_at" (defArgs lCellAt) (defBody lCellAt) (defScope lCellAt) .none kV21 dc21 pm21 an21 cd21 ct21), sl21⟩) (c21 : PySem.W.codeIn K cd21 "_law_cell_at" = true) (k21 : PySem.W.keepIn K (.ref f21) = true)
    (a22 : PySem.W.nsIn K mainGlobals "_law_pot" = some (some (.ref f22))) (l22 : K.lookup f22 = some ⟨oc22, od22, .func (PySem.W.fnOf "_law_pot" "_law_pot" (defArgs lPot) (defBody lPot) (defScope lPot) .none kV22 dc22 pm22 an22 cd22 ct22), sl22⟩) (c22 : PySem.W.codeIn K cd22 "_law_pot" = true) (k22 : PySem.W.keepIn K (.ref f22) = true)
    (a23 : PySem.W.nsIn K mainGlobals "_law_take" = some (some (.ref f23))) (l23 : K.lookup f23 = some ⟨oc23, od23, .func (PySem.W.fnOf "_law_take" "_law_take" (defArgs lTake) (defBody lTake) (defScope lTake) .none kV23 dc23 pm23 an23 cd23 ct23), sl23⟩) (c23 : PySem.W.codeIn K cd23 "_law_take" = true) (k23 : PySem.W.keepIn K (.ref f23) = true)
    (a24 : PySem.W.nsIn K mainGlobals "_law_board" = some (some (.ref f24))) (l24 : K.lookup f24 = some ⟨oc24, od24, .func (PySem.W.fnOf "_law_board" "_law_board" (defArgs lBoard) (defBody lBoard) (defScope lBoard) .none kV24 dc24 pm24 an24 cd24 ct24), sl24⟩) (c24 : PySem.W.codeIn K cd24 "_law_board" = true) (k24 : PySem.W.keepIn K (.ref f24) = true)
    (a25 : PySem.W.nsIn K mainGlobals "_law_order" = some (some (.ref f25))) (l25 : K.lookup f25 = some ⟨oc25, od25, .func (PySem.W.fnOf "_law_order" "_law_order" (defArgs lOrder) (defBody lOrder) (defScope lOrder) .none kV25 dc25 pm25 an25 cd25 ct25), sl25⟩) (c25 : PySem.W.codeIn K cd25 "_law_order" = true) (k25 : PySem.W.keepIn K (.ref f25) = true)
    (a26 : PySem.W.nsIn K mainGlobals "_law_kind_of" = some (some (.ref f26))) (l26 : K.lookup f26 = some ⟨oc26, od26, .func (PySem.W.fnOf "_law_kind_of" "_law_kind_of" (defArgs lKind) (defBody lKind) (defScope lKind) .none kV26 dc26 pm26 an26 cd26 ct26), sl26⟩) (c26 : PySem.W.codeIn K cd26 "_law_kind_of" = true) (k26 : PySem.W.keepIn K (.ref f26) = true)
    (a27 : PySem.W.nsIn K mainGlobals "_law_told" = some (some (.ref f27))) (l27 : K.lookup f27 = some ⟨oc27, od27, .func (PySem.W.fnOf "_law_told" "_law_told" (defArgs lTold) (defBody lTold) (defScope lTold) .none kV27 dc27 pm27 an27 cd27 ct27), sl27⟩) (c27 : PySem.W.codeIn K cd27 "_law_told" = true) (k27 : PySem.W.keepIn K (.ref f27) = true)
    (a28 : PySem.W.nsIn K mainGlobals "_law_no_order" = some (some (.ref f28))) (l28 : K.lookup f28 = some ⟨oc28, od28, .func (PySem.W.fnOf "_law_no_order" "_law_no_order" (defArgs lNoOrder) (defBody lNoOrder) (defScope lNoOrder) .none kV28 dc28 pm28 an28 cd28 ct28), sl28⟩) (c28 : PySem.W.codeIn K cd28 "_law_no_order" = true) (k28 : PySem.W.keepIn K (.ref f28) = true)
    (a29 : PySem.W.nsIn K mainGlobals "_law_no_list" = some (some (.ref f29))) (l29 : K.lookup f29 = some ⟨oc29, od29, .func (PySem.W.fnOf "_law_no_list" "_law_no_list" (defArgs lNoList) (defBody lNoList) (defScope lNoList) .none kV29 dc29 pm29 an29 cd29 ct29), sl29⟩) (c29 : PySem.W.codeIn K cd29 "_law_no_list" = true) (k29 : PySem.W.keepIn K (.ref f29) = true)
    (a30 : PySem.W.nsIn K mainGlobals "law" = some (some (.ref f30))) (l30 : K.lookup f30 = some ⟨oc30, od30, .func (PySem.W.fnOf "law" "law" (defArgs sLaw) (defBody sLaw) (defScope sLaw) .none kV30 dc30 pm30 an30 cd30 ct30), sl30⟩) (c30 : PySem.W.codeIn K cd30 "law" = true) (k30 : PySem.W.keepIn K (.ref f30) = true)
    (z1 : PySem.W.nsIn K mainGlobals "isinstance" = some none)
    (z2 : PySem.W.nsIn K mainGlobals "int" = some none)
    (z3 : PySem.W.nsIn K mainGlobals "bool" = some none)
    (z4 : PySem.W.nsIn K mainGlobals "str" = some none)
    (z5 : PySem.W.nsIn K mainGlobals "tuple" = some none)
    (z6 : PySem.W.nsIn K mainGlobals "list" = some none)
    (z7 : PySem.W.nsIn K mainGlobals "all" = some none)
    (z8 : PySem.W.nsIn K mainGlobals "len" = some none)
    (z9 : PySem.W.nsIn K mainGlobals "zip" = some none)
    (z10 : PySem.W.nsIn K mainGlobals "enumerate" = some none)
    (z11 : PySem.W.nsIn K mainGlobals "range" = some none)
    (z12 : PySem.W.nsIn K mainGlobals "max" = some none)
    (z13 : PySem.W.nsIn K mainGlobals "min" = some none)
    (z14 : PySem.W.nsIn K mainGlobals "sorted" = some none)
    (z15 : PySem.W.nsIn K mainGlobals "sum" = some none)
    (z16 : PySem.W.nsIn K mainGlobals "set" = some none)
    (z17 : PySem.W.nsIn K mainGlobals "any" = some none)
    (z18 : PySem.W.nsIn K mainGlobals "reversed" = some none)
    (z19 : PySem.W.nsIn K mainGlobals "divmod" = some none)
    (z20 : PySem.W.nsIn K mainGlobals "ValueError" = some none)
    {tA : _} (aA : PySem.W.nsIn K mainGlobals "LEAST_NUMBERS" = some (some (.int 2 tA)))
    {tB : _} (aB : PySem.W.nsIn K mainGlobals "MOST_NUMBERS" = some (some (.int 13 tB)))
    {cc1 : Addr} (e1 : PySem.W.nsIn K mainGlobals "NoOrder" = some (some (.ref cc1)))
    {cc2 : Addr} (e2 : PySem.W.nsIn K mainGlobals "NoSize" = some (some (.ref cc2)))
    {cc3 : Addr} (e3 : PySem.W.nsIn K mainGlobals "TooMany" = some (some (.ref cc3)))
    {cc4 : Addr} (e4 : PySem.W.nsIn K mainGlobals "NoNumber" = some (some (.ref cc4)))
    {cc5 : Addr} (e5 : PySem.W.nsIn K mainGlobals "NoStand" = some (some (.ref cc5)))
    {cc6 : Addr} (e6 : PySem.W.nsIn K mainGlobals "NotSquare" = some (some (.ref cc6)))
    {cc7 : Addr} (e7 : PySem.W.nsIn K mainGlobals "NoCounts" = some (some (.ref cc7)))
    {cc8 : Addr} (e8 : PySem.W.nsIn K mainGlobals "NoHits" = some (some (.ref cc8)))
    {cc9 : Addr} (e9 : PySem.W.nsIn K mainGlobals "NoStairs" = some (some (.ref cc9)))
    {cc10 : Addr} (e10 : PySem.W.nsIn K mainGlobals "NotAlike" = some (some (.ref cc10)))
    {cc11 : Addr} (e11 : PySem.W.nsIn K mainGlobals "NoText" = some (some (.ref cc11)))
    {cc12 : Addr} (e12 : PySem.W.nsIn K mainGlobals "NoLines" = some (some (.ref cc12)))
    {cc13 : Addr} (e13 : PySem.W.nsIn K mainGlobals "TooFew" = some (some (.ref cc13)))
    {cc14 : Addr} (e14 : PySem.W.nsIn K mainGlobals "NoCell" = some (some (.ref cc14)))
    {cc15 : Addr} (e15 : PySem.W.nsIn K mainGlobals "NoParting" = some (some (.ref cc15)))
    {cc16 : Addr} (e16 : PySem.W.nsIn K mainGlobals "NoPlace" = some (some (.ref cc16)))
    {cc17 : Addr} (e17 : PySem.W.nsIn K mainGlobals "Double" = some (some (.ref cc17)))
    {cc18 : Addr} (e18 : PySem.W.nsIn K mainGlobals "NoDeed" = some (some (.ref cc18)))
    {cc19 : Addr} (e19 : PySem.W.nsIn K mainGlobals "NoRow" = some (some (.ref cc19)))
    {cR : Addr} (eR : PySem.W.nsIn K mainGlobals "RookError" = some (some (.ref cR)))
    (r1 : PySem.W.typeIn K (.ref cR) = some (.type "type"))
    {dR : _} (r2 : PySem.W.clsIn K cR = some dR)
    (r3 : PySem.W.mroIn K cR (.type "BaseException") = some true)
    (u1 : PySem.W.specialIn K (.builtin "object.__class__") "__get__" = some (some (.builtin "getset_descriptor.__get__")))
    (u2 : PySem.W.takesIn K (.builtin "object.__class__") = some true)
    (q1x : PySem.W.excIn K cc1 Rx.mroV "ValueError.__new__" = true)
    (q1r : PySem.W.mroIn K cc1 (.ref cR) = some true)
    (q1g : PySem.W.findIn K (.ref cc1) "__getattribute__" = some (some (.builtin "BaseException.__getattribute__")))
    (q1h : PySem.W.findIn K (.ref cc1) "__getattr__" = some none)
    (q1b : PySem.W.mroIn K cc1 (.type "BaseException") = some true)
    {dq1 : _} (q1c : PySem.W.clsIn K cc1 = some dq1)
    (q1a : PySem.W.findIn K (.ref cc1) "__class__" = some (some (.builtin "object.__class__")))
    (q1o : PySem.W.mroIn K cc1 (.type "object") = some true)
    (q1v : PySem.W.kitOne K (.ref cc1) (.type "ValueError") = some true)
    (q1k1 : PySem.W.kitOne K (.ref cc1) (.ref cc1) = some true)
    (q1k2 : PySem.W.kitOne K (.ref cc1) (.ref cc2) = some false)
    (q1k3 : PySem.W.kitOne K (.ref cc1) (.ref cc3) = some false)
    (q1k4 : PySem.W.kitOne K (.ref cc1) (.ref cc4) = some false)
    (q1k5 : PySem.W.kitOne K (.ref cc1) (.ref cc5) = some false)
    (q1k6 : PySem.W.kitOne K (.ref cc1) (.ref cc6) = some false)
    (q1k7 : PySem.W.kitOne K (.ref cc1) (.ref cc7) = some false)
    (q1k8 : PySem.W.kitOne K (.ref cc1) (.ref cc8) = some false)
    (q1k9 : PySem.W.kitOne K (.ref cc1) (.ref cc9) = some false)
    (q1k10 : PySem.W.kitOne K (.ref cc1) (.ref cc10) = some false)
    (q1k11 : PySem.W.kitOne K (.ref cc1) (.ref cc11) = some false)
    (q1k12 : PySem.W.kitOne K (.ref cc1) (.ref cc12) = some false)
    (q1k13 : PySem.W.kitOne K (.ref cc1) (.ref cc13) = some false)
    (q1k14 : PySem.W.kitOne K (.ref cc1) (.ref cc14) = some false)
    (q1k15 : PySem.W.kitOne K (.ref cc1) (.ref cc15) = some false)
    (q1k16 : PySem.W.kitOne K (.ref cc1) (.ref cc16) = some false)
    (q1k17 : PySem.W.kitOne K (.ref cc1) (.ref cc17) = some false)
    (q1k18 : PySem.W.kitOne K (.ref cc1) (.ref cc18) = some false)
    (q1k19 : PySem.W.kitOne K (.ref cc1) (.ref cc19) = some false)
    (q4x : PySem.W.excIn K cc4 Rx.mroV "ValueError.__new__" = true)
    (q4r : PySem.W.mroIn K cc4 (.ref cR) = some true)
    (q4g : PySem.W.findIn K (.ref cc4) "__getattribute__" = some (some (.builtin "BaseException.__getattribute__")))
    (q4h : PySem.W.findIn K (.ref cc4) "__getattr__" = some none)
    (q4b : PySem.W.mroIn K cc4 (.type "BaseException") = some true)
    {dq4 : _} (q4c : PySem.W.clsIn K cc4 = some dq4)
    (q4a : PySem.W.findIn K (.ref cc4) "__class__" = some (some (.builtin "object.__class__")))
    (q4o : PySem.W.mroIn K cc4 (.type "object") = some true)
    (q4v : PySem.W.kitOne K (.ref cc4) (.type "ValueError") = some true)
    (q4k1 : PySem.W.kitOne K (.ref cc4) (.ref cc1) = some false)
    (q4k2 : PySem.W.kitOne K (.ref cc4) (.ref cc2) = some false)
    (q4k3 : PySem.W.kitOne K (.ref cc4) (.ref cc3) = some false)
    (q4k4 : PySem.W.kitOne K (.ref cc4) (.ref cc4) = some true)
    (q4k5 : PySem.W.kitOne K (.ref cc4) (.ref cc5) = some false)
    (q4k6 : PySem.W.kitOne K (.ref cc4) (.ref cc6) = some false)
    (q4k7 : PySem.W.kitOne K (.ref cc4) (.ref cc7) = some false)
    (q4k8 : PySem.W.kitOne K (.ref cc4) (.ref cc8) = some false)
    (q4k9 : PySem.W.kitOne K (.ref cc4) (.ref cc9) = some false)
    (q4k10 : PySem.W.kitOne K (.ref cc4) (.ref cc10) = some false)
    (q4k11 : PySem.W.kitOne K (.ref cc4) (.ref cc11) = some false)
    (q4k12 : PySem.W.kitOne K (.ref cc4) (.ref cc12) = some false)
    (q4k13 : PySem.W.kitOne K (.ref cc4) (.ref cc13) = some false)
    (q4k14 : PySem.W.kitOne K (.ref cc4) (.ref cc14) = some false)
    (q4k15 : PySem.W.kitOne K (.ref cc4) (.ref cc15) = some false)
    (q4k16 : PySem.W.kitOne K (.ref cc4) (.ref cc16) = some false)
    (q4k17 : PySem.W.kitOne K (.ref cc4) (.ref cc17) = some false)
    (q4k18 : PySem.W.kitOne K (.ref cc4) (.ref cc18) = some false)
    (q4k19 : PySem.W.kitOne K (.ref cc4) (.ref cc19) = some false)
    (q6x : PySem.W.excIn K cc6 Rx.mroV "ValueError.__new__" = true)
    (q6r : PySem.W.mroIn K cc6 (.ref cR) = some true)
    (q6g : PySem.W.findIn K (.ref cc6) "__getattribute__" = some (some (.builtin "BaseException.__getattribute__")))
    (q6h : PySem.W.findIn K (.ref cc6) "__getattr__" = some none)
    (q6b : PySem.W.mroIn K cc6 (.type "BaseException") = some true)
    {dq6 : _} (q6c : PySem.W.clsIn K cc6 = some dq6)
    (q6a : PySem.W.findIn K (.ref cc6) "__class__" = some (some (.builtin "object.__class__")))
    (q6o : PySem.W.mroIn K cc6 (.type "object") = some true)
    (q6v : PySem.W.kitOne K (.ref cc6) (.type "ValueError") = some true)
    (q6k1 : PySem.W.kitOne K (.ref cc6) (.ref cc1) = some false)
    (q6k2 : PySem.W.kitOne K (.ref cc6) (.ref cc2) = some false)
    (q6k3 : PySem.W.kitOne K (.ref cc6) (.ref cc3) = some false)
    (q6k4 : PySem.W.kitOne K (.ref cc6) (.ref cc4) = some false)
    (q6k5 : PySem.W.kitOne K (.ref cc6) (.ref cc5) = some false)
    (q6k6 : PySem.W.kitOne K (.ref cc6) (.ref cc6) = some true)
    (q6k7 : PySem.W.kitOne K (.ref cc6) (.ref cc7) = some false)
    (q6k8 : PySem.W.kitOne K (.ref cc6) (.ref cc8) = some false)
    (q6k9 : PySem.W.kitOne K (.ref cc6) (.ref cc9) = some false)
    (q6k10 : PySem.W.kitOne K (.ref cc6) (.ref cc10) = some false)
    (q6k11 : PySem.W.kitOne K (.ref cc6) (.ref cc11) = some false)
    (q6k12 : PySem.W.kitOne K (.ref cc6) (.ref cc12) = some false)
    (q6k13 : PySem.W.kitOne K (.ref cc6) (.ref cc13) = some false)
    (q6k14 : PySem.W.kitOne K (.ref cc6) (.ref cc14) = some false)
    (q6k15 : PySem.W.kitOne K (.ref cc6) (.ref cc15) = some false)
    (q6k16 : PySem.W.kitOne K (.ref cc6) (.ref cc16) = some false)
    (q6k17 : PySem.W.kitOne K (.ref cc6) (.ref cc17) = some false)
    (q6k18 : PySem.W.kitOne K (.ref cc6) (.ref cc18) = some false)
    (q6k19 : PySem.W.kitOne K (.ref cc6) (.ref cc19) = some false)
    (q7x : PySem.W.excIn K cc7 Rx.mroV "ValueError.__new__" = true)
    (q7r : PySem.W.mroIn K cc7 (.ref cR) = some true)
    (q7g : PySem.W.findIn K (.ref cc7) "__getattribute__" = some (some (.builtin "BaseException.__getattribute__")))
    (q7h : PySem.W.findIn K (.ref cc7) "__getattr__" = some none)
    (q7b : PySem.W.mroIn K cc7 (.type "BaseException") = some true)
    {dq7 : _} (q7c : PySem.W.clsIn K cc7 = some dq7)
    (q7a : PySem.W.findIn K (.ref cc7) "__class__" = some (some (.builtin "object.__class__")))
    (q7o : PySem.W.mroIn K cc7 (.type "object") = some true)
    (q7v : PySem.W.kitOne K (.ref cc7) (.type "ValueError") = some true)
    (q7k1 : PySem.W.kitOne K (.ref cc7) (.ref cc1) = some false)
    (q7k2 : PySem.W.kitOne K (.ref cc7) (.ref cc2) = some false)
    (q7k3 : PySem.W.kitOne K (.ref cc7) (.ref cc3) = some false)
    (q7k4 : PySem.W.kitOne K (.ref cc7) (.ref cc4) = some false)
    (q7k5 : PySem.W.kitOne K (.ref cc7) (.ref cc5) = some false)
    (q7k6 : PySem.W.kitOne K (.ref cc7) (.ref cc6) = some false)
    (q7k7 : PySem.W.kitOne K (.ref cc7) (.ref cc7) = some true)
    (q7k8 : PySem.W.kitOne K (.ref cc7) (.ref cc8) = some false)
    (q7k9 : PySem.W.kitOne K (.ref cc7) (.ref cc9) = some false)
    (q7k10 : PySem.W.kitOne K (.ref cc7) (.ref cc10) = some false)
    (q7k11 : PySem.W.kitOne K (.ref cc7) (.ref cc11) = some false)
    (q7k12 : PySem.W.kitOne K (.ref cc7) (.ref cc12) = some false)
    (q7k13 : PySem.W.kitOne K (.ref cc7) (.ref cc13) = some false)
    (q7k14 : PySem.W.kitOne K (.ref cc7) (.ref cc14) = some false)
    (q7k15 : PySem.W.kitOne K (.ref cc7) (.ref cc15) = some false)
    (q7k16 : PySem.W.kitOne K (.ref cc7) (.ref cc16) = some false)
    (q7k17 : PySem.W.kitOne K (.ref cc7) (.ref cc17) = some false)
    (q7k18 : PySem.W.kitOne K (.ref cc7) (.ref cc18) = some false)
    (q7k19 : PySem.W.kitOne K (.ref cc7) (.ref cc19) = some false)
    (q8x : PySem.W.excIn K cc8 Rx.mroV "ValueError.__new__" = true)
    (q8r : PySem.W.mroIn K cc8 (.ref cR) = some true)
    (q8g : PySem.W.findIn K (.ref cc8) "__getattribute__" = some (some (.builtin "BaseException.__getattribute__")))
    (q8h : PySem.W.findIn K (.ref cc8) "__getattr__" = some none)
    (q8b : PySem.W.mroIn K cc8 (.type "BaseException") = some true)
    {dq8 : _} (q8c : PySem.W.clsIn K cc8 = some dq8)
    (q8a : PySem.W.findIn K (.ref cc8) "__class__" = some (some (.builtin "object.__class__")))
    (q8o : PySem.W.mroIn K cc8 (.type "object") = some true)
    (q8v : PySem.W.kitOne K (.ref cc8) (.type "ValueError") = some true)
    (q8k1 : PySem.W.kitOne K (.ref cc8) (.ref cc1) = some false)
    (q8k2 : PySem.W.kitOne K (.ref cc8) (.ref cc2) = some false)
    (q8k3 : PySem.W.kitOne K (.ref cc8) (.ref cc3) = some false)
    (q8k4 : PySem.W.kitOne K (.ref cc8) (.ref cc4) = some false)
    (q8k5 : PySem.W.kitOne K (.ref cc8) (.ref cc5) = some false)
    (q8k6 : PySem.W.kitOne K (.ref cc8) (.ref cc6) = some false)
    (q8k7 : PySem.W.kitOne K (.ref cc8) (.ref cc7) = some false)
    (q8k8 : PySem.W.kitOne K (.ref cc8) (.ref cc8) = some true)
    (q8k9 : PySem.W.kitOne K (.ref cc8) (.ref cc9) = some false)
    (q8k10 : PySem.W.kitOne K (.ref cc8) (.ref cc10) = some false)
    (q8k11 : PySem.W.kitOne K (.ref cc8) (.ref cc11) = some false)
    (q8k12 : PySem.W.kitOne K (.ref cc8) (.ref cc12) = some false)
    (q8k13 : PySem.W.kitOne K (.ref cc8) (.ref cc13) = some false)
    (q8k14 : PySem.W.kitOne K (.ref cc8) (.ref cc14) = some false)
    (q8k15 : PySem.W.kitOne K (.ref cc8) (.ref cc15) = some false)
    (q8k16 : PySem.W.kitOne K (.ref cc8) (.ref cc16) = some false)
    (q8k17 : PySem.W.kitOne K (.ref cc8) (.ref cc17) = some false)
    (q8k18 : PySem.W.kitOne K (.ref cc8) (.ref cc18) = some false)
    (q8k19 : PySem.W.kitOne K (.ref cc8) (.ref cc19) = some false)
    :
    ∃ fd : FuncData, (∀ (s : Shared) (v : Value), BindsTo s fd ⟨[v], []⟩ [("_law_script", v)]) ∧ ∀ base : Heap, K.In base → base.Ns mainGlobals mg → FnOk l.prog w K mg base CX0 7 fa fd ["_law_script"] (spLaw K) := by
  have e := hfa.symm.trans (PySem.W.mg_of X G a30)
  cases e
  have T := (⟨(PySem.W.mg_none_of X G z1), (PySem.W.mg_none_of X G z2), (PySem.W.mg_none_of X G z3), (PySem.W.mg_none_of X G z4), (PySem.W.mg_none_of X G z5), (PySem.W.mg_none_of X G z6), (PySem.W.mg_none_of X G z7), (PySem.W.mg_none_of X G z8), (PySem.W.mg_none_of X G z9), (PySem.W.mg_none_of X G z10), (PySem.W.mg_none_of X G z11), (PySem.W.mg_none_of X G z12), (PySem.W.mg_none_of X G z13), (PySem.W.mg_none_of X G z14), (PySem.W.mg_none_of X G z15), (PySem.W.mg_none_of X G z16), (PySem.W.mg_none_of X G z17), (PySem.W.mg_none_of X G z18), (PySem.W.mg_none_of X G z19)⟩ : GlbA mg)
  have F1 := fun_mk (st := sWhole) l1 c1 k1
  have b1 := F1.binds (ps := ["thing"]) fun _ _ _ _ _ _ us hl => match us, hl with | [_], _ => rfl
  have m1 := PySem.W.mg_of X G a1
  have F2 := fun_mk (st := sWithin) l2 c2 k2
  have b2 := F2.binds (ps := ["thing", "least", "most"]) fun _ _ _ _ _ _ us hl => match us, hl with | [_, _, _], _ => rfl
  have m2 := PySem.W.mg_of X G a2
  have F3 := fun_mk (st := sOrders) l3 c3 k3
  have b3 := F3.binds (ps := ["many"]) fun _ _ _ _ _ _ us hl => match us, hl with | [_], _ => rfl
  have m3 := PySem.W.mg_of X G a3
  have F4 := fun_mk (st := sSets) l4 c4 k4
  have b4 := F4.binds (ps := ["many", "size"]) fun _ _ _ _ _ _ us hl => match us, hl with | [_, _], _ => rfl
  have m4 := PySem.W.mg_of X G a4
  have F5 := fun_mk (st := sOrder) l5 c5 k5
  have b5 := F5.binds (ps := ["many", "thing"]) fun _ _ _ _ _ _ us hl => match us, hl with | [_, _], _ => rfl
  have m5 := PySem.W.mg_of X G a5
  have F6 := fun_mk (st := sAll) l6 c6 k6
  have b6 := F6.binds (ps := ["many"]) fun _ _ _ _ _ _ us hl => match us, hl with | [_], _ => rfl
  have m6 := PySem.W.mg_of X G a6
  have F7 := fun_mk (st := sOthers) l7 c7 k7
  have b7 := F7.binds (ps := ["many", "numbers"]) fun _ _ _ _ _ _ us hl => match us, hl with | [_, _], _ => rfl
  have m7 := PySem.W.mg_of X G a7
  have F8 := fun_mk (st := sHitsOf) l8 c8 k8
  have b8 := F8.binds (ps := ["board", "order"]) fun _ _ _ _ _ _ us hl => match us, hl with | [_, _], _ => rfl
  have m8 := PySem.W.mg_of X G a8
  have F9 := fun_mk (st := sHitCounts) l9 c9 k9
  have b9 := F9.binds (ps := ["board"]) fun _ _ _ _ _ _ us hl => match us, hl with | [_], _ => rfl
  have m9 := PySem.W.mg_of X G a9
  have F10 := fun_mk (st := sFirst) l10 c10 k10
  have b10 := F10.binds (ps := ["board", "many"]) fun _ _ _ _ _ _ us hl => match us, hl with | [_, _], _ => rfl
  have m10 := PySem.W.mg_of X G a10
  have F11 := fun_mk (st := sNext) l11 c11 k11
  have b11 := F11.binds (ps := ["board", "order", "many"]) fun _ _ _ _ _ _ us hl => match us, hl with | [_, _, _], _ => rfl
  have m11 := PySem.W.mg_of X G a11
  have F12 := fun_mk (st := sRefSq) l12 c12 k12
  have b12 := F12.binds (ps := ["board"]) fun _ _ _ _ _ _ us hl => match us, hl with | [_], _ => rfl
  have m12 := PySem.W.mg_of X G a12
  have F13 := fun_mk (st := sRefOrd) l13 c13 k13
  have b13 := F13.binds (ps := ["board", "order"]) fun _ _ _ _ _ _ us hl => match us, hl with | [_, _], _ => rfl
  have m13 := PySem.W.mg_of X G a13
  have F14 := fun_mk (st := sRefNum) l14 c14 k14
  have b14 := F14.binds (ps := ["board", "many"]) fun _ _ _ _ _ _ us hl => match us, hl with | [_, _], _ => rfl
  have m14 := PySem.W.mg_of X G a14
  have F15 := fun_mk (st := sCellsHit) l15 c15 k15
  have b15 := F15.binds (ps := ["board", "order"]) fun _ _ _ _ _ _ us hl => match us, hl with | [_, _], _ => rfl
  have m15 := PySem.W.mg_of X G a15
  have F16 := fun_mk (st := sFirstOf) l16 c16 k16
  have b16 := F16.binds (ps := ["board", "orders", "many"]) fun _ _ _ _ _ _ us hl => match us, hl with | [_, _, _], _ => rfl
  have m16 := PySem.W.mg_of X G a16
  have F17 := fun_mk (st := sHitsBy) l17 c17 k17
  have b17 := F17.binds (ps := ["counts"]) fun _ _ _ _ _ _ us hl => match us, hl with | [_], _ => rfl
  have m17 := PySem.W.mg_of X G a17
  have F18 := fun_mk (st := sHitsAt) l18 c18 k18
  have b18 := F18.binds (ps := ["through", "many"]) fun _ _ _ _ _ _ us hl => match us, hl with | [_, _], _ => rfl
  have m18 := PySem.W.mg_of X G a18
  have F19 := fun_mk (st := sCountsBy) l19 c19 k19
  have b19 := F19.binds (ps := ["hits"]) fun _ _ _ _ _ _ us hl => match us, hl with | [_], _ => rfl
  have m19 := PySem.W.mg_of X G a19
  have F20 := fun_mk (st := sIsNum) l20 c20 k20
  have b20 := F20.binds (ps := ["thing"]) fun _ _ _ _ _ _ us hl => match us, hl with | [_], _ => rfl
  have m20 := PySem.W.mg_of X G a20
  have F21 := fun_mk (st := lCellAt) l21 c21 k21
  have b21 := F21.binds (ps := ["_law_script", "_law_k"]) fun _ _ _ _ _ _ us hl => match us, hl with | [_, _], _ => rfl
  have m21 := PySem.W.mg_of X G a21
  have F22 := fun_mk (st := lPot) l22 c22 k22
  have b22 := F22.binds (ps := ["_law_cell"]) fun _ _ _ _ _ _ us hl => match us, hl with | [_], _ => rfl
  have m22 := PySem.W.mg_of X G a22
  have F23 := fun_mk (st := lTake) l23 c23 k23
  have b23 := F23.binds (ps := ["_law_pot_here", "_law_far"]) fun _ _ _ _ _ _ us hl => match us, hl with | [_, _], _ => rfl
  have m23 := PySem.W.mg_of X G a23
  have F24 := fun_mk (st := lBoard) l24 c24 k24
  have b24 := F24.binds (ps := ["_law_pot_here", "_law_high", "_law_wide"]) fun _ _ _ _ _ _ us hl => match us, hl with | [_, _, _], _ => rfl
  have m24 := PySem.W.mg_of X G a24
  have F25 := fun_mk (st := lOrder) l25 c25 k25
  have b25 := F25.binds (ps := ["_law_pot_here", "_law_many"]) fun _ _ _ _ _ _ us hl => match us, hl with | [_, _], _ => rfl
  have m25 := PySem.W.mg_of X G a25
  have F26 := fun_mk (st := lKind) l26 c26 k26
  have b26 := F26.binds (ps := ["_law_e"]) fun _ _ _ _ _ _ us hl => match us, hl with | [_], _ => rfl
  have m26 := PySem.W.mg_of X G a26
  have F27 := fun_mk (st := lTold) l27 c27 k27
  have b27 := F27.binds (ps := ["_law_way", "_law_board_here", "_law_order_here", "_law_many"]) fun _ _ _ _ _ _ us hl => match us, hl with | [_, _, _, _], _ => rfl
  have m27 := PySem.W.mg_of X G a27
  have F28 := fun_mk (st := lNoOrder) l28 c28 k28
  have b28 := F28.binds (ps := ["_law_pot_here", "_law_order_here"]) fun _ _ _ _ _ _ us hl => match us, hl with | [_, _], _ => rfl
  have m28 := PySem.W.mg_of X G a28
  have F29 := fun_mk (st := lNoList) l29 c29 k29
  have b29 := F29.binds (ps := ["_law_pot_here", "_law_first"]) fun _ _ _ _ _ _ us hl => match us, hl with | [_, _], _ => rfl
  have m29 := PySem.W.mg_of X G a29
  have F30 := fun_mk (st := sLaw) l30 c30 k30
  refine ⟨PySem.W.fnOf "law" "law" (defArgs sLaw) (defBody sLaw) (defScope sLaw) .none kV30 dc30 pm30 an30 cd30 ct30, fun s v => .of_eq rfl, fun base _ _ => ?_⟩
  have G1 : FnOk l.prog w K mg base CX0 1 f1 _ ["thing"] spWhole := ok_whole F1 T 
  have G2 : FnOk l.prog w K mg base CX0 2 f2 _ ["thing", "least", "most"] spWithin := ok_within F2 T m1 F1 b1 k1
  have G5 : FnOk l.prog w K mg base CX0 3 f5 _ ["many", "thing"] spIsOrd := ok_isOrder F5 T m2 G2 b2 k2
  have G7 : FnOk l.prog w K mg base CX0 1 f7 _ ["many", "numbers"] spOthers := ok_others F7 T 
  have G6 : FnOk l.prog w K mg base CX0 2 f6 _ ["many"] spAll := ok_allOrders F6 T m7 G7 b7 k7
  have G15 : FnOk l.prog w K mg base CX0 1 f15 _ ["board", "order"] spCellsHit := ok_cellsHit F15 T 
  have G12 : FnOk l.prog w K mg base (Rx.CXE l.prog w) 1 f12 _ ["board"] (spRefSq cc6) := ok_refSq F12   (PySem.W.mg_of X G e6) q6x
  have G13 : FnOk l.prog w K mg base (Rx.CXE l.prog w) 4 f13 _ ["board", "order"] (spRefOrd cc1) := ok_refOrd F13  m5 G5 b5 k5 (PySem.W.mg_of X G e1) q1x
  have G14 : FnOk l.prog w K mg base (Rx.CXE l.prog w) 3 f14 _ ["board", "many"] (spRefNum cc4) := ok_refNum F14  m2 G2 b2 k2 (PySem.W.mg_of X G e4) q4x
  have G8 : FnOk l.prog w K mg base (Rx.CXE l.prog w) 5 f8 _ ["board", "order"] (spHitsOf cc6 cc1) := ok_hitsOf F8  m12 G12 b12 k12 m13 G13 b13 k13 m15 G15 b15 k15
  have G9 : FnOk l.prog w K mg base (Rx.CXE l.prog w) 3 f9 _ ["board"] (spHitCounts cc6) := ok_hitCounts F9 T m12 G12 b12 k12 m6 G6 b6 k6 m15 G15 b15 k15
  have G16 : FnOk l.prog w K mg base CX0 2 f16 _ ["board", "orders", "many"] spFirstOf := ok_firstOf F16 T m15 G15 b15 k15
  have G10 : FnOk l.prog w K mg base (Rx.CXE l.prog w) 4 f10 _ ["board", "many"] (spFirst cc6 cc4) := ok_first F10  m12 G12 b12 k12 m14 G14 b14 k14 m16 G16 b16 k16 m6 G6 b6 k6
  have G11 : FnOk l.prog w K mg base (Rx.CXE l.prog w) 5 f11 _ ["board", "order", "many"] (spNext cc6 cc1 cc4) := ok_next F11  m12 G12 b12 k12 m13 G13 b13 k13 m14 G14 b14 k14 m16 G16 b16 k16 m6 G6 b6 k6
  have G3 : FnOk l.prog w K mg base CX0 1 f3 _ ["many"] spOrdersP := ok_ordersP F3 T 
  have G4 : FnOk l.prog w K mg base CX0 1 f4 _ ["many", "size"] spSetsP := ok_setsP F4 T 
  have G18 : FnOk l.prog w K mg base CX0 2 f18 _ ["through", "many"] spHat := ok_hat F18 T m4 G4 b4 k4
  have G20 : FnOk l.prog w K mg base CX0 2 f20 _ ["thing"] spIsNum2 := (ok_isNum ⟨_, PySem.W.mg_of X G aA⟩ ⟨_, PySem.W.mg_of X G aB⟩ F20 T m1 G1 b1 k1).or (ok_isNumF ⟨_, PySem.W.mg_of X G aA⟩ ⟨_, PySem.W.mg_of X G aB⟩ F20 T m1 G1 b1 k1)
  have G17 : FnOk l.prog w K mg base (Rx.CXE l.prog w) 3 f17 _ ["counts"] (spH2 cc7) := ((ok_hitsBy F17 T m20 (ok_isNum ⟨_, PySem.W.mg_of X G aA⟩ ⟨_, PySem.W.mg_of X G aB⟩ F20 T m1 G1 b1 k1) b20 k20 m3 G3 b3 k3 m18 G18 b18 k18).ex).or (ok_hitsByB F17 T m20 G20 b20 k20 (PySem.W.mg_of X G e7) q7x)
  have G19 : FnOk l.prog w K mg base (Rx.CXE l.prog w) 3 f19 _ ["hits"] (spC2 cc8) := ((ok_countsBy F19 T m20 (ok_isNum ⟨_, PySem.W.mg_of X G aA⟩ ⟨_, PySem.W.mg_of X G aB⟩ F20 T m1 G1 b1 k1) b20 k20 m4 G4 b4 k4 m3 G3 b3 k3).ex).or (ok_countsByB F19 T m20 G20 b20 k20 (PySem.W.mg_of X G e8) q8x)
  have G21 : FnOk l.prog w K mg base CX0 1 f21 _ ["_law_script", "_law_k"] (spCellAt K) := ok_cellAt F21 T 
  have G22 : FnOk l.prog w K mg base CX0 1 f22 _ ["_law_cell"] spPot := ok_pot F22 T 
  have G23 : FnOk l.prog w K mg base CX0 1 f23 _ ["_law_pot_here", "_law_far"] spTakeW := (ok_take F23 T).imp fun _ _ _ _ h => take_weak h
  have G24 : FnOk l.prog w K mg base CX0 2 f24 _ ["_law_pot_here", "_law_high", "_law_wide"] spBoard2 := ok_board2 F24 T m23 G23 b23 k23
  have G25 : FnOk l.prog w K mg base CX0 2 f25 _ ["_law_pot_here", "_law_many"] spOrder2 := ok_order2 F25 T m23 G23 b23 k23
  have G26 : Rx.FnM l.prog w K mg base 1 f26 _ ["_law_e"] (spKind2 K [cc1, cc2, cc3, cc4, cc5, cc6, cc7, cc8, cc9, cc10, cc11, cc12, cc13, cc14, cc15, cc16, cc17, cc18, cc19]) := ok_kind F26 T (PySem.W.mg_none_of X G z20) (PySem.W.mg_of X G e1) (PySem.W.mg_of X G e2) (PySem.W.mg_of X G e3) (PySem.W.mg_of X G e4) (PySem.W.mg_of X G e5) (PySem.W.mg_of X G e6) (PySem.W.mg_of X G e7) (PySem.W.mg_of X G e8) (PySem.W.mg_of X G e9) (PySem.W.mg_of X G e10) (PySem.W.mg_of X G e11) (PySem.W.mg_of X G e12) (PySem.W.mg_of X G e13) (PySem.W.mg_of X G e14) (PySem.W.mg_of X G e15) (PySem.W.mg_of X G e16) (PySem.W.mg_of X G e17) (PySem.W.mg_of X G e18) (PySem.W.mg_of X G e19)
  have G27 : FnOk l.prog w K mg base CX0 6 f27 _ ["_law_way", "_law_board_here", "_law_order_here", "_law_many"] spTold44 := ok_told F27  m8 G8 b8 k8 m11 G11 b11 k11 m10 G10 b10 k10 m9 G9 b9 k9 m17 G17 b17 k17 m19 G19 b19 k19 m26 G26 b26 k26 (PySem.W.mg_of X G eR) (⟨⟨r1, (by rw [r2]; rfl), r3, q6r⟩, [false, false, false, false, false, true, false, false, false, false, false, false, false, false, false, false, false, false, false], 5, ⟨q6g, q6h, q6b, (by rw [q6c]; rfl), q6a, u1, u2, q6o⟩, (.cons q6k1 (.cons q6k2 (.cons q6k3 (.cons q6k4 (.cons q6k5 (.cons q6k6 (.cons q6k7 (.cons q6k8 (.cons q6k9 (.cons q6k10 (.cons q6k11 (.cons q6k12 (.cons q6k13 (.cons q6k14 (.cons q6k15 (.cons q6k16 (.cons q6k17 (.cons q6k18 (.cons q6k19 .nil))))))))))))))))))), q6v, rfl, rfl, (by decide), rfl⟩   : KOk2 K [cc1, cc2, cc3, cc4, cc5, cc6, cc7, cc8, cc9, cc10, cc11, cc12, cc13, cc14, cc15, cc16, cc17, cc18, cc19] cR cc6 "square") (⟨⟨r1, (by rw [r2]; rfl), r3, q1r⟩, [true, false, false, false, false, false, false, false, false, false, false, false, false, false, false, false, false, false, false], 0, ⟨q1g, q1h, q1b, (by rw [q1c]; rfl), q1a, u1, u2, q1o⟩, (.cons q1k1 (.cons q1k2 (.cons q1k3 (.cons q1k4 (.cons q1k5 (.cons q1k6 (.cons q1k7 (.cons q1k8 (.cons q1k9 (.cons q1k10 (.cons q1k11 (.cons q1k12 (.cons q1k13 (.cons q1k14 (.cons q1k15 (.cons q1k16 (.cons q1k17 (.cons q1k18 (.cons q1k19 .nil))))))))))))))))))), q1v, rfl, rfl, (by decide), rfl⟩   : KOk2 K [cc1, cc2, cc3, cc4, cc5, cc6, cc7, cc8, cc9, cc10, cc11, cc12, cc13, cc14, cc15, cc16, cc17, cc18, cc19] cR cc1 "order") (⟨⟨r1, (by rw [r2]; rfl), r3, q4r⟩, [false, false, false, true, false, false, false, false, false, false, false, false, false, false, false, false, false, false, false], 3, ⟨q4g, q4h, q4b, (by rw [q4c]; rfl), q4a, u1, u2, q4o⟩, (.cons q4k1 (.cons q4k2 (.cons q4k3 (.cons q4k4 (.cons q4k5 (.cons q4k6 (.cons q4k7 (.cons q4k8 (.cons q4k9 (.cons q4k10 (.cons q4k11 (.cons q4k12 (.cons q4k13 (.cons q4k14 (.cons q4k15 (.cons q4k16 (.cons q4k17 (.cons q4k18 (.cons q4k19 .nil))))))))))))))))))), q4v, rfl, rfl, (by decide), rfl⟩   : KOk2 K [cc1, cc2, cc3, cc4, cc5, cc6, cc7, cc8, cc9, cc10, cc11, cc12, cc13, cc14, cc15, cc16, cc17, cc18, cc19] cR cc4 "number") (⟨⟨r1, (by rw [r2]; rfl), r3, q7r⟩, [false, false, false, false, false, false, true, false, false, false, false, false, false, false, false, false, false, false, false], 6, ⟨q7g, q7h, q7b, (by rw [q7c]; rfl), q7a, u1, u2, q7o⟩, (.cons q7k1 (.cons q7k2 (.cons q7k3 (.cons q7k4 (.cons q7k5 (.cons q7k6 (.cons q7k7 (.cons q7k8 (.cons q7k9 (.cons q7k10 (.cons q7k11 (.cons q7k12 (.cons q7k13 (.cons q7k14 (.cons q7k15 (.cons q7k16 (.cons q7k17 (.cons q7k18 (.cons q7k19 .nil))))))))))))))))))), q7v, rfl, rfl, (by decide), rfl⟩   : KOk2 K [cc1, cc2, cc3, cc4, cc5, cc6, cc7, cc8, cc9, cc10, cc11, cc12, cc13, cc14, cc15, cc16, cc17, cc18, cc19] cR cc7 "counts") (⟨⟨r1, (by rw [r2]; rfl), r3, q8r⟩, [false, false, false, false, false, false, false, true, false, false, false, false, false, false, false, false, false, false, false], 7, ⟨q8g, q8h, q8b, (by rw [q8c]; rfl), q8a, u1, u2, q8o⟩, (.cons q8k1 (.cons q8k2 (.cons q8k3 (.cons q8k4 (.cons q8k5 (.cons q8k6 (.cons q8k7 (.cons q8k8 (.cons q8k9 (.cons q8k10 (.cons q8k11 (.cons q8k12 (.cons q8k13 (.cons q8k14 (.cons q8k15 (.cons q8k16 (.cons q8k17 (.cons q8k18 (.cons q8k19 .nil))))))))))))))))))), q8v, rfl, rfl, (by decide), rfl⟩   : KOk2 K [cc1, cc2, cc3, cc4, cc5, cc6, cc7, cc8, cc9, cc10, cc11, cc12, cc13, cc14, cc15, cc16, cc17, cc18, cc19] cR cc8 "hits")
  have G28 : FnOk l.prog w K mg base CX0 2 f28 _ ["_law_pot_here", "_law_order_here"] spNoOrd := ok_noOrd F28 T m23 G23 b23 k23
  have G29 : FnOk l.prog w K mg base CX0 2 f29 _ ["_law_pot_here", "_law_first"] spNoList := ok_noList F29 T m23 G23 b23 k23
  exact ok_law F30 T m21 G21 b21 k21 m22 G22 b22 k22 m23 G23 b23 k23 m24 G24 b24 k24 m25 G25 b25 k25 m28 G28 b28 k28 m27 G27 b27 k27 m29 G29 b29 k29
theorem walk {l : PySem.W.OpenLaw} {q : Program} {loose : List Str} {XP : (Str → Option Value) → Heap → Prop} {YP : World → Heap → Prop} {d : DefRec} {K : Params → PySem.W.Frag} (hn : l.most = some 63) (hdf : d.params.defaults = [])
    (hY : ∀ (w : World) (h : Heap), YP w h → (K w.params).In h)
    (F : ∀ (w : World) (mg : Str → Option Value) (fa : Addr) (h : Heap), (K w.params).In h → h.Ns mainGlobals mg → mg d.name = some (.ref fa) →
      ∃ fd : FuncData, (∀ (s : Shared) (u : Value), BindsTo s fd ⟨[u], []⟩ [("_law_script", u)]) ∧ ∀ base : Heap, (K w.params).In base → base.Ns mainGlobals mg → FnOk l.prog w (K w.params) mg base CX0 7 fa fd ["_law_script"] (spLaw (K w.params))) :
    PySem.W.WalkO q loose XP YP l.row.toRowW d [] (fun f vs => PySem.call f vs) :=
  L2.walk_of (n := 63) (k := 7) (x := "_law_script") (CX := fun _ => CX0) (sp := fun w => (spLaw (K w.params))) hn (by decide) hdf ⟨rfl, by decide, by decide⟩ hY F (fun _ _ a ns hl _ hS => ⟨a, ns, rfl, hS, hl, fun _ => rfl⟩) fun _ _ _ _ _ z => z
end Rk
open PySem PySem.W PyProof.Rows
set_option maxRecDepth 100000 in
set_option maxHeartbeats 0 in
theorem PySem.Challenge.cw_rooklands_k44_no_square_no_order_holds : PySem.Challenge.rw_rooklands_k44_no_square_no_order.Holds := by
  w_on; o_law; k_head; (case hw => w_witness2)
  k_fill
  refine Rk.walk (l := PySem.Challenge.rw_rooklands_k44_no_square_no_order) rfl rfl (fun w h Y => PySem.W.kIn_of Y) ?F
  case F =>
    intro w mg fa h KX G hmg
    refine' Rk.all_mk KX G hmg ?a1 ?l1 ?c1 ?k1 ?a2 ?l2 ?c2 ?k2 ?a3 ?l3 ?c3 ?k3 ?a4 ?l4 ?c4 ?k4 ?a5 ?l5 ?c5 ?k5 ?a6 ?l6 ?c6 ?k6 ?a7 ?l7 ?c7 ?k7 ?a8 ?l8 ?c8 ?k8 ?a9 ?l9 ?c9 ?k9 ?a10 ?l10 ?c10 ?k10 ?a11 ?l11 ?c11 ?k11 ?a12 ?l12 ?c12 ?k12 ?a13 ?l13 ?c13 ?k13 ?a14 ?l14 ?c14 ?k14 ?a15 ?l15 ?c15 ?k15 ?a16 ?l16 ?c16 ?k16 ?a17 ?l17 ?c17 ?k17 ?a18 ?l18 ?c18 ?k18 ?a19 ?l19 ?c19 ?k19 ?a20 ?l20 ?c20 ?k20 ?a21 ?l21 ?c21 ?k21 ?a22 ?l22 ?c22 ?k22 ?a23 ?l23 ?c23 ?k23 ?a24 ?l24 ?c24 ?k24 ?a25 ?l25 ?c25 ?k25 ?a26 ?l26 ?c26 ?k26 ?a27 ?l27 ?c27 ?k27 ?a28 ?l28 ?c28 ?k28 ?a29 ?l29 ?c29 ?k29 ?a30 ?l30 ?c30 ?k30 ?z1 ?z2 ?z3 ?z4 ?z5 ?z6 ?z7 ?z8 ?z9 ?z10 ?z11 ?z12 ?z13 ?z14 ?z15 ?z16 ?z17 ?z18 ?z19 ?z20 ?aA ?aB ?e1 ?e2 ?e3 ?e4 ?e5 ?e6 ?e7 ?e8 ?e9 ?e10 ?e11 ?e12 ?e13 ?e14 ?e15 ?e16 ?e17 ?e18 ?e19 ?eR ?r1 ?r2 ?r3 ?u1 ?u2 ?q1x ?q1r ?q1g ?q1h ?q1b ?q1c ?q1a ?q1o ?q1v ?q1k1 ?q1k2 ?q1k3 ?q1k4 ?q1k5 ?q1k6 ?q1k7 ?q1k8 ?q1k9 ?q1k10 ?q1k11 ?q1k12 ?q1k13 ?q1k14 ?q1k15 ?q1k16 ?q1k17 ?q1k18 ?q1k19 ?q4x ?q4r ?q4g ?q4h ?q4b ?q4c ?q4a ?q4o ?q4v ?q4k1 ?q4k2 ?q4k3 ?q4k4 ?q4k5 ?q4k6 ?q4k7 ?q4k8 ?q4k9 ?q4k10 ?q4k11 ?q4k12 ?q4k13 ?q4k14 ?q4k15 ?q4k16 ?q4k17 ?q4k18 ?q4k19 ?q6x ?q6r ?q6g ?q6h ?q6b ?q6c ?q6a ?q6o ?q6v ?q6k1 ?q6k2 ?q6k3 ?q6k4 ?q6k5 ?q6k6 ?q6k7 ?q6k8 ?q6k9 ?q6k10 ?q6k11 ?q6k12 ?q6k13 ?q6k14 ?q6k15 ?q6k16 ?q6k17 ?q6k18 ?q6k19 ?q7x ?q7r ?q7g ?q7h ?q7b ?q7c ?q7a ?q7o ?q7v ?q7k1 ?q7k2 ?q7k3 ?q7k4 ?q7k5 ?q7k6 ?q7k7 ?q7k8 ?q7k9 ?q7k10 ?q7k11 ?q7k12 ?q7k13 ?q7k14 ?q7k15 ?q7k16 ?q7k17 ?q7k18 ?q7k19 ?q8x ?q8r ?q8g ?q8h ?q8b ?q8c ?q8a ?q8o ?q8v ?q8k1 ?q8k2 ?q8k3 ?q8k4 ?q8k5 ?q8k6 ?q8k7 ?q8k8 ?q8k9 ?q8k10 ?q8k11 ?q8k12 ?q8k13 ?q8k14 ?q8k15 ?q8k16 ?q8k17 ?q8k18 ?q8k19
    (case a1 => k_is)
    (case l1 => k_is)
    (case c1 => k_is)
    (case k1 => k_is)
    (case a2 => k_is)
    (case l2 => k_is)
    (case c2 => k_is)
    (case k2 => k_is)
    (case a3 => k_is)
    (case l3 => k_is)
    (case c3 => k_is)
    (case k3 => k_is)
    (case a4 => k_is)
    (case l4 => k_is)
    (case c4 => k_is)
    (case k4 => k_is)
    (case a5 => k_is)
    (case l5 => k_is)
    (case c5 => k_is)
    (case k5 => k_is)
    (case a6 => k_is)
    (case l6 => k_is)
    (case c6 => k_is)
    (case k6 => k_is)
    (case a7 => k_is)
    (case l7 => k_is)
    (case c7 => k_is)
    (case k7 => k_is)
    (case a8 => k_is)
    (case l8 => k_is)
    (case c8 => k_is)
    (case k8 => k_is)
    (case a9 => k_is)
    (case l9 => k_is)
    (case c9 => k_is)
    (case k9 => k_is)
    (case a10 => k_is)
    (case l10 => k_is)
    (case c10 => k_is)
    (case k10 => k_is)
    (case a11 => k_is)
    (case l11 => k_is)
    (case c11 => k_is)
    (case k11 => k_is)
    (case a12 => k_is)
    (case l12 => k_is)
    (case c12 => k_is)
    (case k12 => k_is)
    (case a13 => k_is)
    (case l13 => k_is)
    (case c13 => k_is)
    (case k13 => k_is)
    (case a14 => k_is)
    (case l14 => k_is)
    (case c14 => k_is)
    (case k14 => k_is)
    (case a15 => k_is)
    (case l15 => k_is)
    (case c15 => k_is)
    (case k15 => k_is)
    (case a16 => k_is)
    (case l16 => k_is)
    (case c16 => k_is)
    (case k16 => k_is)
    (case a17 => k_is)
    (case l17 => k_is)
    (case c17 => k_is)
    (case k17 => k_is)
    (case a18 => k_is)
    (case l18 => k_is)
    (case c18 => k_is)
    (case k18 => k_is)
    (case a19 => k_is)
    (case l19 => k_is)
    (case c19 => k_is)
    (case k19 => k_is)
    (case a20 => k_is)
    (case l20 => k_is)
    (case c20 => k_is)
    (case k20 => k_is)
    (case a21 => k_is)
    (case l21 => k_is)
    (case c21 => k_is)
    (case k21 => k_is)
    (case a22 => k_is)
    (case l22 => k_is)
    (case c22 => k_is)
    (case k22 => k_is)
    (case a23 => k_is)
    (case l23 => k_is)
    (case c23 => k_is)
    (case k23 => k_is)
    (case a24 => k_is)
    (case l24 => k_is)
    (case c24 => k_is)
    (case k24 => k_is)
    (case a25 => k_is)
    (case l25 => k_is)
    (case c25 => k_is)
    (case k25 => k_is)
    (case a26 => k_is)
    (case l26 => k_is)
    (case c26 => k_is)
    (case k26 => k_is)
    (case a27 => k_is)
    (case l27 => k_is)
    (case c27 => k_is)
    (case k27 => k_is)
    (case a28 => k_is)
    (case l28 => k_is)
    (case c28 => k_is)
    (case k28 => k_is)
    (case a29 => k_is)
    (case l29 => k_is)
    (case c29 => k_is)
    (case k29 => k_is)
    (case a30 => k_is)
    (case l30 => k_is)
    (case c30 => k_is)
    (case k30 => k_is)
    (case z1 => k_is)
    (case z2 => k_is)
    (case z3 => k_is)
    (case z4 => k_is)
    (case z5 => k_is)
    (case z6 => k_is)
    (case z7 => k_is)
    (case z8 => k_is)
    (case z9 => k_is)
    (case z10 => k_is)
    (case z11 => k_is)
    (case z12 => k_is)
    (case z13 => k_is)
    (case z14 => k_is)
    (case z15 => k_is)
    (case z16 => k_is)
    (case z17 => k_is)
    (case z18 => k_is)
    (case z19 => k_is)
    (case z20 => k_is)
    (case aA => k_is)
    (case aB => k_is)
    (case e1 => k_is)
    (case e2 => k_is)
    (case e3 => k_is)
    (case e4 => k_is)
    (case e5 => k_is)
    (case e6 => k_is)
    (case e7 => k_is)
    (case e8 => k_is)
    (case e9 => k_is)
    (case e10 => k_is)
    (case e11 => k_is)
    (case e12 => k_is)
    (case e13 => k_is)
    (case e14 => k_is)
    (case e15 => k_is)
    (case e16 => k_is)
    (case e17 => k_is)
    (case e18 => k_is)
    (case e19 => k_is)
    (case eR => k_is)
    (case r1 => k_is)
    (case r2 => k_is)
    (case r3 => k_is)
    (case u1 => k_is)
    (case u2 => k_is)
    (case q1x => k_exc)
    (case q1r => k_is)
    (case q1g => k_is)
    (case q1h => k_is)
    (case q1b => k_is)
    (case q1c => k_is)
    (case q1a => k_is)
    (case q1o => k_is)
    (case q1v => kit_is)
    (case q1k1 => kit_is)
    (case q1k2 => kit_is)
    (case q1k3 => kit_is)
    (case q1k4 => kit_is)
    (case q1k5 => kit_is)
    (case q1k6 => kit_is)
    (case q1k7 => kit_is)
    (case q1k8 => kit_is)
    (case q1k9 => kit_is)
    (case q1k10 => kit_is)
    (case q1k11 => kit_is)
    (case q1k12 => kit_is)
    (case q1k13 => kit_is)
    (case q1k14 => kit_is)
    (case q1k15 => kit_is)
    (case q1k16 => kit_is)
    (case q1k17 => kit_is)
    (case q1k18 => kit_is)
    (case q1k19 => kit_is)
    (case q4x => k_exc)
    (case q4r => k_is)
    (case q4g => k_is)
    (case q4h => k_is)
    (case q4b => k_is)
    (case q4c => k_is)
    (case q4a => k_is)
    (case q4o => k_is)
    (case q4v => kit_is)
    (case q4k1 => kit_is)
    (case q4k2 => kit_is)
    (case q4k3 => kit_is)
    (case q4k4 => kit_is)
    (case q4k5 => kit_is)
    (case q4k6 => kit_is)
    (case q4k7 => kit_is)
    (case q4k8 => kit_is)
    (case q4k9 => kit_is)
    (case q4k10 => kit_is)
    (case q4k11 => kit_is)
    (case q4k12 => kit_is)
    (case q4k13 => kit_is)
    (case q4k14 => kit_is)
    (case q4k15 => kit_is)
    (case q4k16 => kit_is)
    (case q4k17 => kit_is)
    (case q4k18 => kit_is)
    (case q4k19 => kit_is)
    (case q6x => k_exc)
    (case q6r => k_is)
    (case q6g => k_is)
    (case q6h => k_is)
    (case q6b => k_is)
    (case q6c => k_is)
    (case q6a => k_is)
    (case q6o => k_is)
    (case q6v => kit_is)
    (case q6k1 => kit_is)
    (case q6k2 => kit_is)
    (case q6k3 => kit_is)
    (case q6k4 => kit_is)
    (case q6k5 => kit_is)
    (case q6k6 => kit_is)
    (case q6k7 => kit_is)
    (case q6k8 => kit_is)
    (case q6k9 => kit_is)
    (case q6k10 => kit_is)
    (case q6k11 => kit_is)
    (case q6k12 => kit_is)
    (case q6k13 => kit_is)
    (case q6k14 => kit_is)
    (case q6k15 => kit_is)
    (case q6k16 => kit_is)
    (case q6k17 => kit_is)
    (case q6k18 => kit_is)
    (case q6k19 => kit_is)
    (case q7x => k_exc)
    (case q7r => k_is)
    (case q7g => k_is)
    (case q7h => k_is)
    (case q7b => k_is)
    (case q7c => k_is)
    (case q7a => k_is)
    (case q7o => k_is)
    (case q7v => kit_is)
    (case q7k1 => kit_is)
    (case q7k2 => kit_is)
    (case q7k3 => kit_is)
    (case q7k4 => kit_is)
    (case q7k5 => kit_is)
    (case q7k6 => kit_is)
    (case q7k7 => kit_is)
    (case q7k8 => kit_is)
    (case q7k9 => kit_is)
    (case q7k10 => kit_is)
    (case q7k11 => kit_is)
    (case q7k12 => kit_is)
    (case q7k13 => kit_is)
    (case q7k14 => kit_is)
    (case q7k15 => kit_is)
    (case q7k16 => kit_is)
    (case q7k17 => kit_is)
    (case q7k18 => kit_is)
    (case q7k19 => kit_is)
    (case q8x => k_exc)
    (case q8r => k_is)
    (case q8g => k_is)
    (case q8h => k_is)
    (case q8b => k_is)
    (case q8c => k_is)
    (case q8a => k_is)
    (case q8o => k_is)
    (case q8v => kit_is)
    (case q8k1 => kit_is)
    (case q8k2 => kit_is)
    (case q8k3 => kit_is)
    (case q8k4 => kit_is)
    (case q8k5 => kit_is)
    (case q8k6 => kit_is)
    (case q8k7 => kit_is)
    (case q8k8 => kit_is)
    (case q8k9 => kit_is)
    (case q8k10 => kit_is)
    (case q8k11 => kit_is)
    (case q8k12 => kit_is)
    (case q8k13 => kit_is)
    (case q8k14 => kit_is)
    (case q8k15 => kit_is)
    (case q8k16 => kit_is)
    (case q8k17 => kit_is)
    (case q8k18 => kit_is)
    (case q8k19 => kit_is)
