import PyProof.Rows.All
import Wide.All
import OpenK.AllK
import Wide.FinOn
import Lean
import PyProof.EqAt
import PyProof.EqKinds
import PyProof.TupleCall
import PySem.Challenge.RW_keepwhole_k03_what_they_take
section
set_option Elab.async false
set_option linter.all false
set_option maxRecDepth 100000
/-! THE HAND LAYER, for ints, bools, texts, own classes, LISTS and tuples (index, slices, in, append, pop ..), calls, loops. Paste it whole ahead of your own text; what your proof does not reach may be deleted. -/
namespace L2
open PySem PySem.Spec PyProof.Rows

/-- a key: an int or a str -/
abbrev Key := Sum Int Str
def keyIs : Key → Value → Bool
  | .inl k, v => Value.isInt k v
  | .inr x, v => Value.isStrOf x v
def keyH (w : World) : Key → Int
  | .inl k => hashInt k
  | .inr x => hashStr w x
theorem keyIs_shape : ∀ {k : Key} {v : Value}, keyIs k v = true → (∃ i t, k = Sum.inl i ∧ v = Value.int i t) ∨ (∃ x t, k = Sum.inr x ∧ v = Value.str x t)
  | .inl i, v, h => by
    obtain ⟨t, e⟩ := Value.isInt_shape (k := i) (v := v) h
    exact .inl ⟨i, t, rfl, e⟩
  | .inr x, v, h => by
    obtain ⟨t, e⟩ := Value.isStrOf_shape (x := x) (v := v) h
    exact .inr ⟨x, t, rfl, e⟩
theorem key_ll (a b : Int) : decide ((Sum.inl a : Key) = Sum.inl b) = (a == b) := by
  by_cases e : a = b
  · subst e; simp
  · have h : ¬ (Sum.inl a : Key) = Sum.inl b := fun q => e (Sum.inl.inj q)
    rw [decide_eq_false h]
    exact (beq_eq_false_iff_ne.mpr e).symm
theorem key_rr (a b : Str) : decide ((Sum.inr a : Key) = Sum.inr b) = decide (a = b) := by
  by_cases e : a = b
  · subst e; simp
  · have h : ¬ (Sum.inr a : Key) = Sum.inr b := fun q => e (Sum.inr.inj q)
    rw [decide_eq_false h, decide_eq_false e]
theorem key_lr (a : Int) (b : Str) : decide ((Sum.inl a : Key) = Sum.inr b) = false := decide_eq_false (fun q => nomatch q)
theorem key_rl (a : Str) (b : Int) : decide ((Sum.inr a : Key) = Sum.inl b) = false := decide_eq_false (fun q => nomatch q)

def mixKind (prog : Program) (w : World) : PySem.KeyKind prog w Key where
  is := keyIs
  hash := keyH w
  inj := fun v a b ha hb => by
    rcases keyIs_shape ha with ⟨i, t, rfl, rfl⟩ | ⟨x, t, rfl, rfl⟩
    · rcases keyIs_shape hb with ⟨j, u, rfl, e⟩ | ⟨y, u, rfl, e⟩
      · injection e with e1 _; rw [e1]
      · exact nomatch e
    · rcases keyIs_shape hb with ⟨j, u, rfl, e⟩ | ⟨y, u, rfl, e⟩
      · exact nomatch e
      · injection e with e1 _; rw [e1]
  byValue := fun k v h => by
    rcases keyIs_shape h with ⟨i, t, rfl, rfl⟩ | ⟨x, t, rfl, rfl⟩ <;> rfl
  pyHash := fun hv h => by
    rcases keyIs_shape hv with ⟨i, t, rfl, rfl⟩ | ⟨x, t, rfl, rfl⟩
    · exact wpAny_pyHash_int h
    · exact wpAny_pyHash_str h
  eqBool := fun hu hv h => by
    rcases keyIs_shape hu with ⟨i, t, rfl, rfl⟩ | ⟨x, t, rfl, rfl⟩
    · rcases keyIs_shape hv with ⟨j, u, rfl, rfl⟩ | ⟨y, u, rfl, rfl⟩
      · rw [key_ll] at h; exact wpAny_eqBool_int h
      · rw [key_lr] at h; exact SeqAt.EqAt.int_str i t y u _ _ _ _ h
    · rcases keyIs_shape hv with ⟨j, u, rfl, rfl⟩ | ⟨y, u, rfl, rfl⟩
      · rw [key_rl] at h; exact SeqAt.EqAt.str_int x t j u _ _ _ _ h
      · rw [key_rr] at h; exact wpAny_eqBool_str h
  «strs» := fun k x t v h => by
    rcases keyIs_shape h with ⟨i, u, rfl, e⟩ | ⟨y, u, rfl, e⟩
    · exact nomatch e
    · injection e with e1 _
      subst e1
      cases v <;> rfl

end L2

namespace L2
open PySem PySem.Spec PyProof.Rows

/-- a value, without the heap -/
inductive V where
  | non | bl (b : Bool) | int (i : Int) | str (x : Str) | byt (b : Array UInt8) | flt (b : UInt64) | ref (a : Addr) | ty (n : String)
  deriving DecidableEq

def RelV : V → Value → Prop
  | .non, u => u = Value.none
  | .bl b, u => u = Value.bool b
  | .int i, u => ∃ t, u = Value.int i t
  | .str x, u => ∃ t, u = Value.str x t
  | .byt b, u => ∃ t, u = Value.bytes b t
  | .flt b, u => ∃ t, u = Value.float b t
  | .ref a, u => u = Value.ref a
  | .ty n, u => u = Value.type n

abbrev Vals : List V → List Value → Prop := Paired RelV
theorem Vals.length {xs : List V} {us : List Value} (r : Vals xs us) : xs.length = us.length := Paired.length r
theorem Vals.get : ∀ {xs : List V} {us : List Value} {i : Nat} {x : V}, Vals xs us → xs[i]? = some x → ∃ u, us[i]? = some u ∧ RelV x u
  | _, _, _, _, .nil, e => by simp at e
  | _, _, 0, _, .cons r _, e => by simp at e; subst e; exact ⟨_, rfl, r⟩
  | _, _, i + 1, x, .cons _ t, e => by
    obtain ⟨u, h1, h2⟩ := Vals.get (i := i) (x := x) t (by simpa using e)
    exact ⟨u, by simpa using h1, h2⟩
theorem Vals.set {x : V} {u : Value} (r : RelV x u) : ∀ {xs : List V} {us : List Value} (i : Nat), Vals xs us → Vals (xs.set i x) (us.set i u)
  | _, _, _, .nil => .nil
  | _, _, 0, .cons _ t => .cons r t
  | _, _, i + 1, .cons q t => .cons q (Vals.set r i t)
theorem Vals.append : ∀ {xs ys : List V} {us ws : List Value}, Vals xs us → Vals ys ws → Vals (xs ++ ys) (us ++ ws)
  | _, _, _, _, .nil, s => s
  | _, _, _, _, .cons r t, s => .cons r (Vals.append t s)

def RelO : Option V → Option Value → Prop
  | some v, some u => RelV v u
  | none, none => True
  | _, _ => False
def KV {κ : Type} : List (κ × V) → List (κ × Value) → Prop := Paired fun (p : κ × V) (q : κ × Value) => p.1 = q.1 ∧ RelV p.2 q.2

/-- a key of a dict (00_mix): an int or a text -/
def kV : Key → V
  | .inl i => .int i
  | .inr x => .str x

/-- what stands at a tracked address -/
inductive HO where
  /-- a list -/
  | lst (xs : List V)
  /-- a tuple (never changes) -/
  | tup (xs : List V)
  /-- a dict whose keys are ints and texts; one whose keys are tuples of ints and texts (the empty one is both) -/
  | dK (kvs : List (Key × V)) | dT (kvs : List (List Key × V))
  /-- a set of ints: its members, its size -/
  | set (S : Int → Bool) (n : Nat)
  /-- an instance of the class at C, its dict at dx, its attributes -/
  | ins (C dx : Addr) (fs : List (Str × V))
  /-- the dict of the instance at x -/
  | own (x : Addr)
  /-- the dict of an exception -/
  | xd (fs : List (Str × V))
  /-- a bound method, f of x -/
  | met (f x : Addr)
  /-- a range object lo, lo + 1, .. below hi -/
  | rng (lo hi : Int)
  /-- a thing that is known to the object (the script; a dict while a loop walks it): read, never written while it is so -/
  | frz (o : Obj) (u : HO)
  /-- a code object's table -/
  | tbl (ps : Array Value)
  /-- any other thing, by what is true of its one object (a def of one's own: SetO a S n := HO.ext fun h => ..) -/
  | ext (φ : Heap → Prop)

abbrev Hp := Addr → Option HO
def upd (H : Hp) (a : Addr) (o : HO) : Hp := fun b => if b = a then some o else H b
theorem upd_same {H : Hp} {a : Addr} {o : HO} : upd H a o a = some o := by unfold upd; rw [if_pos rfl]
theorem upd_ne {H : Hp} {a b : Addr} {o : HO} (h : b ≠ a) : upd H a o b = H b := by unfold upd; rw [if_neg h]
/-- two objects of different content stand apart -/
theorem ne_of {H : Hp} {a b : Addr} {o u : HO} (h : H a = some o) (h' : H b = some u) (d : o ≠ u) : a ≠ b := by
  intro e; subst e; rw [h] at h'; exact d (Option.some.inj h')
theorem ne_of_none {H : Hp} {a b : Addr} {o : HO} (h : H a = some o) (h' : H b = none) : a ≠ b := by
  intro e; subst e; rw [h] at h'; cases h'

section
variable (P : Program) (w : World)
def ObjOk (H : Hp) (h : Heap) (a : Addr) : HO → Prop
  | .lst xs => xs.length ≤ sizeLine ∧ ∃ (its : List Value) (n : Nat), Vals xs its ∧ h.get? a = some { cls := .type "list", data := .seq its.toArray n }
  | .tup xs => xs.length ≤ sizeLine ∧ ∃ its : List Value, Vals xs its ∧ IsTup h a its.toArray
  | .dK kvs => kvs.length ≤ sizeLine ∧ (a == sysModules) = false ∧ ∃ vs, KV kvs vs ∧ h.DictOf (mixKind P w) a vs
  | .dT kvs => kvs.length ≤ sizeLine ∧ (a == sysModules) = false ∧ ∃ xs : List (List Key × Addr × Value),
      Paired (fun (p : List Key × V) (q : List Key × Addr × Value) => p.1 = q.1 ∧ H q.2.1 = some (.tup (p.1.map kV)) ∧ RelV p.2 q.2.2) kvs xs ∧
      ∃ o es ep, h.get? a = some o ∧ o.ExactDict ∧ o.data = .dict es ep ∧ es.toList = xs.map (entryOfKey (tupleKind (mixKind P w))) ∧ (xs.map (·.1)).Nodup
  | .set S n => h.SetOf (intKind P w) a S n
  | .ins C dx fs => H dx = some (.own a) ∧ fs.length ≤ 1000 ∧ dx ≠ a ∧ h.get? a = some (PySem.W.instObj C dx) ∧
      ∃ mA, h.Ns1 dx mA ∧ (∀ f, RelO (fs.lookup f) (mA f)) ∧ PySem.Within mA (fs.map (·.1))
  | .own _ => ∃ o, h.get? a = some o
  | .xd fs => ∃ mA, h.Ns1 a mA ∧ ∀ f, RelO (fs.lookup f) (mA f)
  | .rng lo hi => ∃ t u v, h.get? a = some { cls := .type "range", data := .fields #[.int lo t, .int hi u, .int 1 v] }
  | .frz o u => h.get? a = some o ∧ ObjOk H h a u
  | .tbl ps => h.get? a = some { cls := .none, data := .fields ps }
  | .met f x => h.get? a = some (PySem.W.methodObj (.ref f) (.ref x))
  | .ext φ => φ h ∧ (∃ o, h.get? a = some o) ∧ ∀ h1 h2 : Heap, φ h1 → (∀ o, h1.get? a = some o → h2.get? a = some o) → φ h2
/-- the abstract heap is held -/
def HOk (H : Hp) (h : Heap) : Prop := ∀ a o, H a = some o → ObjOk P w H h a o
end

section
variable {P : Program} {w : World} {H H' : Hp} {h h' : Heap} {a : Addr} {o : HO}
theorem ObjOk.lt (x : ObjOk P w H h a o) : a < h.objs.size := by
  cases o with
  | lst xs => obtain ⟨_, _, _, _, e⟩ := x; exact Heap.lt_size e
  | tup xs => obtain ⟨_, _, _, p⟩ := x; exact p.lt
  | dK kvs => obtain ⟨_, _, _, _, o, _, _, e, _⟩ := x; exact Heap.lt_size e
  | dT kvs => obtain ⟨_, _, _, _, o, _, _, e, _⟩ := x; exact Heap.lt_size e
  | set S n => obtain ⟨o, _, _, _, e, _⟩ := x; exact Heap.lt_size e
  | ins C dx fs => obtain ⟨_, _, _, e, _⟩ := x; exact Heap.lt_size e
  | own y => obtain ⟨_, e⟩ := x; exact Heap.lt_size e
  | xd fs => obtain ⟨_, ⟨_, _, _, e, _⟩, _⟩ := x; exact Heap.lt_size e
  | rng lo hi => obtain ⟨_, _, _, e⟩ := x; exact Heap.lt_size e
  | frz ob u => obtain ⟨e, _⟩ := x; exact Heap.lt_size e
  | tbl ps => exact Heap.lt_size (show h.get? a = some _ from x)
  | met f y => exact Heap.lt_size (show h.get? a = some _ from x)
  | ext φ => obtain ⟨_, ⟨_, e⟩, _⟩ := x; exact Heap.lt_size e
theorem Paired.mapP {α β : Type} {F G : α → β → Prop} : ∀ {l₁ : List α} {l₂ : List β}, Paired F l₁ l₂ → (∀ a b, F a b → G a b) → Paired G l₁ l₂
  | _, _, .nil, _ => .nil
  | _, _, .cons r t, f => .cons (f _ _ r) (Paired.mapP t f)
/-- what an object's description leans on: its own object, its own dict, the tuples -/
theorem ObjOk.stay (x : ObjOk P w H h a o) (k : ∀ b u, (b = a ∨ H b = some (.own a)) → h.get? b = some u → h'.get? b = some u)
    (ho : ∀ b, H b = some (.own a) → H' b = some (.own a)) (ht : ∀ b xs, H b = some (.tup xs) → H' b = some (.tup xs)) : ObjOk P w H' h' a o := by
  induction o with
  | lst xs => obtain ⟨z, its, n, r, e⟩ := x; exact ⟨z, its, n, r, k _ _ (.inl rfl) e⟩
  | tup xs => obtain ⟨z, its, r, ob, e, c⟩ := x; exact ⟨z, its, r, ob, k _ _ (.inl rfl) e, c⟩
  | dK kvs => obtain ⟨z, y, vs, r, ob, es, ep, e, c⟩ := x; exact ⟨z, y, vs, r, ob, es, ep, k _ _ (.inl rfl) e, c⟩
  | dT kvs =>
    obtain ⟨z, y, xs, r, ob, es, ep, e, c⟩ := x
    exact ⟨z, y, xs, Paired.mapP r fun p q z => ⟨z.1, ht _ _ z.2.1, z.2.2⟩, ob, es, ep, k _ _ (.inl rfl) e, c⟩
  | set S n => obtain ⟨ob, es, ep, t, e, c⟩ := x; exact ⟨ob, es, ep, t, k _ _ (.inl rfl) e, c⟩
  | ins C dx fs =>
    obtain ⟨d, z, ne, e, mA, ⟨od, es, ep, e2, c⟩, r⟩ := x
    exact ⟨ho _ d, z, ne, k _ _ (.inl rfl) e, mA, ⟨od, es, ep, k _ _ (.inr d) e2, c⟩, r⟩
  | own y => obtain ⟨ob, e⟩ := x; exact ⟨ob, k _ _ (.inl rfl) e⟩
  | xd fs => obtain ⟨mA, ⟨od, es, ep, e, c⟩, r⟩ := x; exact ⟨mA, ⟨od, es, ep, k _ _ (.inl rfl) e, c⟩, r⟩
  | rng lo hi => obtain ⟨t, u, v, e⟩ := x; exact ⟨t, u, v, k _ _ (.inl rfl) e⟩
  | frz ob u ih => obtain ⟨e, q⟩ := x; exact ⟨k _ _ (.inl rfl) e, ih q⟩
  | tbl ps =>
    have e : h.get? a = some { cls := .none, data := .fields ps } := x
    show h'.get? a = some { cls := .none, data := .fields ps }
    exact k a _ (.inl rfl) e
  | met f y =>
    have e : h.get? a = some (PySem.W.methodObj (.ref f) (.ref y)) := x
    show h'.get? a = some (PySem.W.methodObj (.ref f) (.ref y))
    exact k a _ (.inl rfl) e
  | ext φ => obtain ⟨p, ⟨o, e⟩, st⟩ := x; exact ⟨st _ _ p fun o q => k _ _ (.inl rfl) q, ⟨o, k _ _ (.inl rfl) e⟩, st⟩
theorem HOk.lt (x : HOk P w H h) (e : H a = some o) : a < h.objs.size := (x a o e).lt
theorem HOk.fresh (x : HOk P w H h) (e : h.objs.size ≤ a) : H a = none := by
  cases q : H a with
  | none => rfl
  | some u => exact absurd (Nat.lt_of_lt_of_le (x.lt q) e) (Nat.lt_irrefl _)
/-- every object of the heap is kept -/
theorem HOk.kept (x : HOk P w H h) (k : ∀ b u, h.get? b = some u → h'.get? b = some u) : HOk P w H h' := fun a o e =>
  (x a o e).stay (fun b u _ q => k b u q) (fun _ q => q) fun _ _ q => q
/-- a new object is laid and tracked -/
theorem HOk.laid (x : HOk P w H h) (k : ∀ b u, h.get? b = some u → h'.get? b = some u) (hp : h.objs.size ≤ a) (new : ObjOk P w (upd H a o) h' a o) : HOk P w (upd H a o) h' := fun b u e => by
  have hn := x.fresh hp
  by_cases hb : b = a
  · subst hb; rw [upd_same] at e; cases e; exact new
  · rw [upd_ne hb] at e
    exact (x b u e).stay (fun c v _ q => k c v q) (fun c q => by rw [upd_ne (ne_of_none q hn)]; exact q) fun c xs q => by rw [upd_ne (ne_of_none q hn)]; exact q
end

/-- what may be read as u: it is u, or a known u -/
def Rd (H : Hp) (a : Addr) (u : HO) : Prop := H a = some u ∨ ∃ o, H a = some (.frz o u)
theorem Rd.ok {P : Program} {w : World} {H : Hp} {h : Heap} {a : Addr} {u : HO} (r : Rd H a u) (x : HOk P w H h) : ObjOk P w H h a u := by
  rcases r with r | ⟨o, r⟩
  · exact x a u r
  · obtain ⟨_, q⟩ := x a _ r
    exact q
/-- what may be written -/
def Mut : Option HO → Prop
  | some (.lst _) => True
  | some (.dK _) => True
  | some (.dT _) => True
  | some (.set _ _) => True
  | some (.ins _ _ _) => True
  | some (.ext _) => True
  | _ => False
section
variable {P : Program} {w : World} {H : Hp} {h h' : Heap} {x e : Addr} {o' : HO}
/-- the object at e is changed: x itself, or the dict of the instance x -/
theorem HOk.write (ok : HOk P w H h) (mu : Mut (H x)) (he : e = x ∨ H e = some (.own x)) (k : ∀ b u, b ≠ e → h.get? b = some u → h'.get? b = some u) (heo : ∃ u, h'.get? e = some u)
    (new : ObjOk P w (upd H x o') h' x o') : HOk P w (upd H x o') h' := fun b u q => by
  have nown : ∀ c y, H c = some (.own y) → c ≠ x := fun c y r z => by subst z; rw [r] at mu; exact mu
  have ntup : ∀ c xs, H c = some (.tup xs) → c ≠ x := fun c xs r z => by subst z; rw [r] at mu; exact mu
  by_cases hb : b = x
  · subst hb; rw [upd_same] at q; cases q; exact new
  · rw [upd_ne hb] at q
    by_cases hbe : b = e
    · have q' : H b = some (.own x) := by
        rcases he with z | z
        · exact absurd (hbe.trans z) hb
        · rw [hbe]; exact z
      rw [q] at q'; cases q'
      obtain ⟨v, hv⟩ := heo
      exact ⟨v, by rw [hbe]; exact hv⟩
    · refine (ok b u q).stay (fun c v hc r => k c v ?_ r) (fun c r => by rw [upd_ne (nown c b r)]; exact r) fun c xs r => by rw [upd_ne (ntup c xs r)]; exact r
      rcases hc with rfl | hc
      · exact hbe
      · rintro rfl
        rcases he with z | z
        · exact nown c b hc z
        · rw [hc] at z; cases z; exact hb rfl
end

/-! ### kept unless tracked; of the frames at fs (the callers') the slots may change (an exception that passes writes there); of the records at ex (iterators) nothing is said -/
structure Un (fs ex : List Addr) (H H' : Hp) (h h' : Heap) : Prop where
  keep : ∀ b o, h.get? b = some o → H b = none → b ∉ fs → b ∉ ex → h'.get? b = some o
  slot : ∀ b o, h.get? b = some o → H b = none → b ∈ fs → b ∉ ex → ∃ sl, h'.get? b = some { o with slots := sl }
  free : ∀ b o, h.get? b = some o → H b = none → b ∉ ex → H' b = none
  there : ∀ b o, h.get? b = some o → b ∉ ex → ∃ o', h'.get? b = some o'
  tups : ∀ b xs, H b = some (.tup xs) → H' b = some (.tup xs)
  frzs : ∀ b o u, H b = some (.frz o u) → H' b = some (.frz o u)
  tbls : ∀ b ps, H b = some (.tbl ps) → ∃ more, H' b = some (.tbl (ps ++ more))
section
variable {fs fs' ex ex' : List Addr} {H H1 H2 : Hp} {h h1 h2 h' : Heap} {a x e : Addr} {o : HO}
theorem Un.any (u : Un fs ex H H1 h h1) {b : Addr} {ob : Obj} (q : h.get? b = some ob) (n : H b = none) (hx : b ∉ ex) : ∃ sl, h1.get? b = some { ob with slots := sl } := by
  by_cases hb : b ∈ fs
  · exact u.slot b ob q n hb hx
  · exact ⟨ob.slots, u.keep b ob q n hb hx⟩
theorem Un.kept (k : ∀ b u, h.get? b = some u → h'.get? b = some u) : Un fs ex H H h h' :=
  ⟨fun b ob q _ _ _ => k b ob q, fun b ob q _ _ _ => ⟨ob.slots, k b ob q⟩, fun _ _ _ n _ => n, fun b ob q _ => ⟨ob, k b ob q⟩, fun _ _ q => q, fun _ _ _ q => q, fun _ ps q => ⟨#[], by rw [q]; simp⟩⟩
theorem Un.refl : Un fs ex H H h h := Un.kept fun _ _ q => q
theorem Un.laid (k : ∀ b u, h.get? b = some u → h'.get? b = some u) (hp : h.objs.size ≤ a) (hn : H a = none) : Un fs ex H (upd H a o) h h' where
  keep := fun b u q _ _ _ => k b u q
  slot := fun b u q _ _ _ => ⟨u.slots, k b u q⟩
  free := fun b u q n _ => by rw [upd_ne (Nat.ne_of_lt (Nat.lt_of_lt_of_le (Heap.lt_size q) hp))]; exact n
  there := fun b u q _ => ⟨u, k b u q⟩
  tups := fun b xs q => by rw [upd_ne (ne_of_none q hn)]; exact q
  frzs := fun b u xs q => by rw [upd_ne (ne_of_none q hn)]; exact q
  tbls := fun b ps q => ⟨#[], by rw [upd_ne (ne_of_none q hn), q]; simp⟩
theorem Un.write (mu : Mut (H x)) (he : e = x ∨ H e = some (.own x)) (k : ∀ b u, b ≠ e → h.get? b = some u → h'.get? b = some u) (heo : ∃ u, h'.get? e = some u) : Un fs ex H (upd H x o) h h' := by
  have hx : ∀ b, H b = none → b ≠ x := fun b n z => by subst z; rw [n] at mu; exact mu
  have hb : ∀ b, H b = none → b ≠ e := fun b n z => by
    subst z
    rcases he with r | r
    · exact hx b n r
    · rw [n] at r; cases r
  have hm : ∀ b u, H b = some u → ¬ Mut (some u) → b ≠ x := fun b u q nm z => by subst z; rw [q] at mu; exact nm mu
  refine ⟨fun b u q n _ _ => k b u (hb b n) q, fun b u q n _ _ => ⟨u.slots, k b u (hb b n) q⟩, fun b u q n _ => by rw [upd_ne (hx b n)]; exact n, fun b u q _ => ?_,
    fun b xs q => by rw [upd_ne (hm b _ q fun z => z)]; exact q, fun b u xs q => by rw [upd_ne (hm b _ q fun z => z)]; exact q, fun b ps q => ⟨#[], by rw [upd_ne (hm b _ q fun z => z), q]; simp⟩⟩
  by_cases hbe : b = e
  · subst hbe; exact heo
  · exact ⟨u, k b u hbe q⟩
end

/-! ### the heap without what is tracked -/
def trk (h : Heap) (H : Hp) : List Addr := (List.range h.objs.size).filter fun a => (H a).isSome
def hidT (h : Heap) (H : Hp) : Heap := PySem.W.hideAll h (trk h H)
theorem hidT_size (h : Heap) (H : Hp) : (hidT h H).objs.size = h.objs.size := PySem.W.hideAll_size _ _
theorem hidT_get {h : Heap} {H : Hp} {b : Addr} {o : Obj} (e : h.get? b = some o) (n : H b = none) : (hidT h H).get? b = some o :=
  PySem.W.hideAll_get _ e fun hm => by
    have q : (H b).isSome = true := (List.mem_filter.mp hm).2
    rw [n] at q; simp at q
theorem of_hidT {h : Heap} {H : Hp} {b : Addr} {o : Obj} (e : (hidT h H).get? b = some o) : h.get? b = some o ∧ H b = none := by
  have e' : h.get? b = some o := PySem.W.of_hideAll (trk h H) e
  refine ⟨e', ?_⟩
  cases q : H b with
  | none => rfl
  | some x =>
    have hm : b ∈ trk h H := List.mem_filter.mpr ⟨List.mem_range.mpr (Heap.lt_size e'), by simp [q]⟩
    have z : (hidT h H).get? b = none := PySem.W.hideAll_none (trk h H) hm
    rw [z] at e; cases e

/-! ### OpenK's ledger, filled with every new object but one -/
end L2

namespace L2
open PySem PySem.Spec PyProof.Rows

/-- the module's facts, over the base: the heap at the law's entry without what is tracked there -/
structure Mod (K : PySem.W.Frag) (mg : Str → Option Value) (base : Heap) : Prop where
  kin : K.In base
  glob : base.Ns mainGlobals mg
  blt : ∃ mb, base.Ns builtinsNs mb ∧ ∀ x : Str, x ≠ "__name__" → mb x = bootBuiltins x
  nolimit : base.NoLimit

/-- the context: a def's body (or a comprehension's block) running. base: fixed through the whole law; s₀, H₀: the entry; outer: the frames whose slots others may change (a def's callers); stack: all frames that run;
   ex: iterators that were made ahead of the entry and are walked here (a comprehension's); fn: the names whose cells were made at the entry (a def: all; a comprehension's block: its own); calm: not within an except suite; pn: pins that every state bears; xe: what is wanted of an exception that leaves the code -/
structure Cx where
  prog : Program
  w : World
  K : PySem.W.Frag
  mg : Str → Option Value
  base : Heap
  A : Around
  N : List Str
  s₀ : Shared
  H₀ : Hp
  env : Env
  outer : List Env
  stack : List Env
  ex : List Addr
  fn : Str → Bool
  calm : Bool
  pn : List (Addr × Obj)
  xe : Value → Shared → Prop
/-- the callers' frames -/
def frs (l : List Env) : List Addr := l.filterMap (·.frame)
abbrev Cx.fs (X : Cx) : List Addr := frs X.outer

def Vis (sc : Scope) (x : Str) : Prop := sc.names.lookup x = some .local ∨ sc.names.lookup x = some .cell ∨ sc.names.lookup x = some .free
def Loc (sc : Scope) (x : Str) : Prop := sc.names.lookup x = some .local ∨ sc.names.lookup x = some .cell
def Look (env : Env) (h : Heap) (m : Str → Option Value) (x : Str) (u : Value) : Prop :=
  (env.kindOf x = some .local ∧ m x = some u) ∨ ((env.kindOf x = some .cell ∨ env.kindOf x = some .free) ∧ ∃ c, env.cells.lookup x = some c ∧ h.IsCell c (some u))

structure Cx.Ok (X : Cx) : Prop where
  mod : Mod X.K X.mg X.base
  kind : X.env.scope.kind = .function
  glob : X.env.globals = mainGlobals
  blt : X.env.builtins = builtinsNs
  above : X.s₀.heap.objs.size ≤ X.env.locals
  inj : ∀ x y c, X.env.cells.lookup x = some c → X.env.cells.lookup y = some c → x = y
  has : ∀ x, (X.env.kindOf x = some .cell ∨ X.env.kindOf x = some .free) → ∃ c, X.env.cells.lookup x = some c
  cab : ∀ x c, X.fn x = true → X.env.cells.lookup x = some c → X.s₀.heap.objs.size ≤ c
  hd : X.calm = true → X.A.handled = none
  frames : X.A.frames = some X.stack
  stk : X.stack = X.outer ∨ (X.stack = X.env :: X.outer ∧ X.env.frame = some X.env.locals)
  exf : ∀ b ∈ X.ex, b ≠ X.env.locals ∧ ∀ x c, X.env.cells.lookup x = some c → c ≠ b
  bs : ∀ b o, X.base.get? b = some o → X.s₀.heap.get? b = some o ∧ X.H₀ b = none
  bsz : X.base.objs.size ≤ X.s₀.heap.objs.size
  noex : ∀ b o, X.base.get? b = some o → b ∉ X.ex
  exfs : ∀ b ∈ X.ex, b ∉ X.fs
  funs : X.s₀.heap.FunFrames X.base X.outer
  frf : ∀ b ∈ X.fs, X.H₀ b = none

structure Inv (X : Cx) (pins : List (Addr × Obj)) (σ : List (Option V)) (H : Hp) (s : Shared) : Prop where
  ok : X.Ok
  os : s.os = X.s₀.os
  bare : AllBare s.gens
  base : Un X.fs X.ex X.H₀ H X.s₀.heap s.heap
  loc : ∃ m, s.heap.Ns X.env.locals m ∧ ∀ (i : Nat) (x : Str) (v : V), X.N[i]? = some x → σ[i]? = some (some v) → Vis X.env.scope x → ∃ u, RelV v u ∧ Look X.env s.heap m x u
  cell : ∀ x c, X.env.cells.lookup x = some c → ∃ v, s.heap.IsCell c v
  free : H X.env.locals = none
  freeC : ∀ x c, X.env.cells.lookup x = some c → H c = none
  pin : ∀ p ∈ X.pn ++ pins, s.heap.get? p.1 = some p.2 ∧ H p.1 = none ∧ p.1 ≠ X.env.locals ∧ p.1 ∉ X.fs ∧ ∀ v, p.2.data ≠ .cell v
  hok : HOk X.prog X.w H s.heap
  len : σ.length = X.N.length

section
variable {X : Cx} {pins : List (Addr × Obj)} {σ : List (Option V)} {H H' : Hp} {s : Shared} {h' : Heap}

theorem Cx.Ok.nofr (ok : X.Ok) {b : Addr} {o : Obj} (e : X.base.get? b = some o) : b ∉ X.fs := fun hb => by
  have := (ok.funs.mem hb).1
  rw [e] at this; cases this
theorem Inv.bs (I : Inv X pins σ H s) : ∀ b o, X.base.get? b = some o → s.heap.get? b = some o ∧ H b = none := fun b o e =>
  ⟨I.base.keep b o (I.ok.bs b o e).1 (I.ok.bs b o e).2 (I.ok.nofr e) (I.ok.noex b o e), I.base.free b o (I.ok.bs b o e).1 (I.ok.bs b o e).2 (I.ok.noex b o e)⟩
theorem Inv.bk (I : Inv X pins σ H s) : ∀ b o, X.base.get? b = some o → s.heap.get? b = some o := fun b o e => (I.bs b o e).1
theorem Inv.mod (I : Inv X pins σ H s) : Mod X.K X.mg X.base := I.ok.mod
theorem Inv.kIn (I : Inv X pins σ H s) : X.K.In s.heap := I.ok.mod.kin.keeps I.bk
theorem Inv.lt (I : Inv X pins σ H s) : X.env.locals < s.heap.objs.size := let ⟨_, hn, _⟩ := I.loc; hn.lt
theorem Inv.sz (I : Inv X pins σ H s) : X.s₀.heap.objs.size ≤ s.heap.objs.size := Nat.le_trans I.ok.above (Nat.le_of_lt I.lt)
theorem Inv.nofs (I : Inv X pins σ H s) {a : Addr} (h : s.heap.objs.size ≤ a) : a ∉ X.fs := fun hb => by
  obtain ⟨_, o, ho, _⟩ := I.ok.funs.mem hb
  exact absurd (Nat.lt_of_lt_of_le (Heap.lt_size ho) (Nat.le_trans I.sz h)) (Nat.lt_irrefl _)
theorem Inv.cne (I : Inv X pins σ H s) : ∀ x c, X.env.cells.lookup x = some c → c ≠ X.env.locals := fun x c e z => by
  obtain ⟨v, o, ho, hd⟩ := I.cell x c e
  obtain ⟨m, ⟨o', es, ep, ho', hd', _⟩, _⟩ := I.loc
  rw [z, ho'] at ho; cases ho; rw [hd'] at hd; cases hd
theorem Inv.funs (I : Inv X pins σ H s) : s.heap.FunFrames X.base X.outer := by
  have all : ∀ (l : List Env), (∀ b ∈ frs l, b ∈ X.fs) → X.s₀.heap.FunFrames X.base l → s.heap.FunFrames X.base l := by
    intro l
    induction l with
    | nil => intro _ _; trivial
    | cons env r ih =>
      intro hs hl
      obtain ⟨hk, ⟨L, o, hf, hn, ho, hd⟩, hr⟩ := hl
      have hL : L ∈ X.fs := hs L (by unfold frs; rw [List.filterMap_cons, hf]; exact List.mem_cons_self)
      obtain ⟨sl, e⟩ := I.base.slot L o ho (I.ok.frf L hL) hL fun z => I.ok.exfs L z hL
      exact ⟨hk, ⟨L, _, hf, hn, e, hd⟩, ih (fun b hb => hs b (by unfold frs; rw [List.filterMap_cons, hf]; exact List.mem_cons_of_mem _ hb)) hr⟩
  exact all X.outer (fun _ hb => hb) I.ok.funs

/-- the frames that run, for a call -/
theorem Inv.stack (I : Inv X pins σ H s) : s.heap.FunFrames X.base X.stack := by
  rcases I.ok.stk with e | ⟨e, hf⟩
  · rw [e]; exact I.funs
  · rw [e]
    obtain ⟨m, hn, _⟩ := I.loc
    refine .cons (by rw [I.ok.kind]; decide) hf hn ?_ I.funs
    exact Heap.get?_none_of_le (Nat.le_trans I.ok.bsz I.ok.above)
theorem Inv.stkSub (I : Inv X pins σ H s) : ∀ b ∈ frs X.stack, b ∈ X.env.locals :: X.fs := fun b hb => by
  rcases I.ok.stk with e | ⟨e, hf⟩
  · rw [e] at hb; exact List.mem_cons_of_mem _ hb
  · rw [e] at hb
    unfold frs at hb
    rw [List.filterMap_cons, hf] at hb
    exact hb
theorem Inv.stkFree (I : Inv X pins σ H s) : ∀ b ∈ frs X.stack, H b = none := fun b hb => by
  rcases List.mem_cons.mp (I.stkSub b hb) with e | hb
  · rw [e]; exact I.free
  · obtain ⟨_, o, ho, _⟩ := I.ok.funs.mem hb
    exact I.base.free b o ho (I.ok.frf b hb) fun z => I.ok.exfs b z hb

/-- THE STEP: the untracked objects but the frame and the records at ch are kept (the callers' frames up to slots), the frame's map is kept, the new abstract heap is held -/
theorem Inv.step {g' : Array GenState} {t' : Nat} {d' : Drawn} {ch : List Addr} (I : Inv X pins σ H s)
    (hch : ∀ b ∈ ch, (b ∈ X.ex ∨ X.s₀.heap.objs.size ≤ b) ∧ b ≠ X.env.locals ∧ (∀ x c, X.env.cells.lookup x = some c → c ≠ b) ∧ ∀ p ∈ X.pn ++ pins, p.1 ≠ b)
    (keep : ∀ b o, b ≠ X.env.locals → b ∉ X.fs → b ∉ ch → s.heap.get? b = some o → H b = none → h'.get? b = some o)
    (slot : ∀ b o, b ≠ X.env.locals → b ∈ X.fs → b ∉ ch → s.heap.get? b = some o → H b = none → ∃ sl, h'.get? b = some { o with slots := sl }) (free : ∀ b o, b ∉ ch → s.heap.get? b = some o → H b = none → H' b = none)
    (there : ∀ b o, b ∉ ch → s.heap.get? b = some o → ∃ o', h'.get? b = some o')
    (tups : ∀ b xs, H b = some (.tup xs) → H' b = some (.tup xs)) (frzs : ∀ b o u, H b = some (.frz o u) → H' b = some (.frz o u)) (tbls : ∀ b ps, H b = some (.tbl ps) → ∃ more, H' b = some (.tbl (ps ++ more)))
    (ns : ∀ m, s.heap.Ns X.env.locals m → h'.Ns X.env.locals m) (hok : HOk X.prog X.w H' h') (hg : AllBare g') :
    Inv X pins σ H' { s with heap := h', gens := g', drawn := d', toks := t' } := by
  have neL : ∀ b o, X.s₀.heap.get? b = some o → b ≠ X.env.locals := fun b o e => Nat.ne_of_lt (Nat.lt_of_lt_of_le (Heap.lt_size e) I.ok.above)
  have neC : ∀ b o, X.s₀.heap.get? b = some o → b ∉ X.ex → b ∉ ch := fun b o e hx hb => by
    rcases (hch b hb).1 with z | z
    · exact hx z
    · exact absurd (Nat.lt_of_lt_of_le (Heap.lt_size e) z) (Nat.lt_irrefl _)
  have cellK : ∀ x c, X.env.cells.lookup x = some c → ∀ v, s.heap.IsCell c v → h'.IsCell c v := fun x c e v ⟨o, ho, hd⟩ => by
    have nch : c ∉ ch := fun z => (hch c z).2.2.1 x c e rfl
    by_cases hc : c ∈ X.fs
    · obtain ⟨sl, q⟩ := slot c o (I.cne x c e) hc nch ho (I.freeC x c e)
      exact ⟨_, q, hd⟩
    · exact ⟨o, keep c o (I.cne x c e) hc nch ho (I.freeC x c e), hd⟩
  refine ⟨I.ok, I.os, hg, ⟨fun b o e n hb hx => ?_, fun b o e n hb hx => ?_, fun b o e n hx => ?_, fun b o e hx => ?_, fun b xs e => tups b xs (I.base.tups b xs e), fun b o xs e => frzs b o xs (I.base.frzs b o xs e), fun b ps e => ?_⟩, ?_, fun x c e => ?_, ?_, fun x c e => ?_, fun p hp => ?_, hok, I.len⟩
  · exact keep b o (neL b o e) hb (neC b o e hx) (I.base.keep b o e n hb hx) (I.base.free b o e n hx)
  · obtain ⟨sl, e1⟩ := I.base.slot b o e n hb hx
    obtain ⟨sl', e2⟩ := slot b _ (neL b o e) hb (neC b o e hx) e1 (I.base.free b o e n hx)
    exact ⟨sl', e2⟩
  · obtain ⟨o', e1⟩ := I.base.there b o e hx
    exact free b o' (neC b o e hx) e1 (I.base.free b o e n hx)
  · obtain ⟨o', e1⟩ := I.base.there b o e hx
    exact there b o' (neC b o e hx) e1
  · obtain ⟨m1, e1⟩ := I.base.tbls b ps e
    obtain ⟨m2, e2⟩ := tbls b _ e1
    exact ⟨m1 ++ m2, by rw [e2, Array.append_assoc]⟩
  · obtain ⟨m, hn, hl⟩ := I.loc
    refine ⟨m, ns m hn, fun i x v e1 e2 e3 => ?_⟩
    obtain ⟨u, r, l⟩ := hl i x v e1 e2 e3
    refine ⟨u, r, ?_⟩
    rcases l with l | ⟨k, c, e, z⟩
    · exact .inl l
    · exact .inr ⟨k, c, e, cellK x c e _ z⟩
  · obtain ⟨v, z⟩ := I.cell x c e
    exact ⟨v, cellK x c e v z⟩
  · obtain ⟨m, ⟨o, _, _, ho, _⟩, _⟩ := I.loc
    exact free _ o (fun z => (hch _ z).2.1 rfl) ho I.free
  · obtain ⟨v, o, ho, hd⟩ := I.cell x c e
    exact free c o (fun z => (hch c z).2.2.1 x c e rfl) ho (I.freeC x c e)
  · obtain ⟨e, n, ne, nf, d⟩ := I.pin p hp
    have nch : p.1 ∉ ch := fun z => (hch p.1 z).2.2.2 p hp rfl
    exact ⟨keep p.1 p.2 ne nf nch e n, free p.1 p.2 nch e n, ne, nf, d⟩
/-- .. where the frame's own object is kept too -/
theorem Inv.un {t' : Nat} (I : Inv X pins σ H s) (u : Un X.fs [] H H' s.heap h') (hok : HOk X.prog X.w H' h') : Inv X pins σ H' { s with heap := h', toks := t' } := by
  obtain ⟨m, ⟨o, es, ep, ho, r⟩, _⟩ := id I.loc
  obtain ⟨sl, hL⟩ := u.any ho I.free (by simp)
  exact I.step (g' := s.gens) (d' := s.drawn) (ch := []) (fun _ z => nomatch z) (fun b o _ hb _ e n => u.keep b o e n hb (by simp)) (fun b o _ hb _ e n => u.slot b o e n hb (by simp)) (fun b o _ e n => u.free b o e n (by simp)) (fun b o _ e => u.there b o e (by simp)) u.tups u.frzs u.tbls (fun m' hm => by
    obtain ⟨o', es', ep', ho', r'⟩ := hm
    rw [ho] at ho'; cases ho'
    exact ⟨_, es', ep', hL, r'⟩) hok I.bare
/-- behind a call (or a comprehension's block): the slots of this frame may have changed too, the records at ch may have turned -/
theorem Inv.call {g' : Array GenState} {t' : Nat} {d' : Drawn} {ch : List Addr} (I : Inv X pins σ H s) (u : Un (frs X.stack) ch H H' s.heap h') (hok : HOk X.prog X.w H' h') (hg : AllBare g')
    (hch : ∀ b ∈ ch, (b ∈ X.ex ∨ X.s₀.heap.objs.size ≤ b) ∧ b ≠ X.env.locals ∧ (∀ x c, X.env.cells.lookup x = some c → c ≠ b) ∧ ∀ p ∈ X.pn ++ pins, p.1 ≠ b) :
    Inv X pins σ H' { s with heap := h', gens := g', drawn := d', toks := t' } := by
  obtain ⟨m, ⟨o, es, ep, ho, r⟩, _⟩ := id I.loc
  obtain ⟨sl, hL⟩ := u.any ho I.free fun z => (hch _ z).2.1 rfl
  exact I.step (ch := ch) hch (fun b o hL hb hc e n => u.keep b o e n (fun z => (List.mem_cons.mp (I.stkSub b z)).elim hL hb) hc) (fun b o _ _ hc e n => u.any e n hc) (fun b o hc e n => u.free b o e n hc) (fun b o hc e => u.there b o e hc) u.tups u.frzs u.tbls (fun m' hm => by
    obtain ⟨o', es', ep', ho', r'⟩ := hm
    rw [ho] at ho'; cases ho'
    exact ⟨_, es', ep', hL, r'⟩) hok hg
/-- an untracked record of ours (an iterator) has turned -/
theorem Inv.turned {t' : Nat} {it : Addr} (I : Inv X pins σ H s) (k : ∀ b o, b ≠ it → s.heap.get? b = some o → h'.get? b = some o) (hn : H it = none) (hL : it ≠ X.env.locals)
    (h1 : it ∈ X.ex ∨ X.s₀.heap.objs.size ≤ it) (h2 : ∀ x c, X.env.cells.lookup x = some c → c ≠ it) (h3 : ∀ p ∈ X.pn ++ pins, p.1 ≠ it) : Inv X pins σ H { s with heap := h', toks := t' } := by
  have nit : ∀ b u, H b = some u → b ≠ it := fun b u e z => by rw [z, hn] at e; cases e
  refine I.step (g' := s.gens) (d' := s.drawn) (ch := [it]) (fun b hb => ?_) (fun b o _ _ hc e _ => k b o (fun z => hc (by simp [z])) e) (fun b o _ _ hc e _ => ⟨o.slots, k b o (fun z => hc (by simp [z])) e⟩) (fun _ _ _ _ n => n)
    (fun b o hc e => ⟨o, k b o (fun z => hc (by simp [z])) e⟩) (fun _ _ e => e) (fun _ _ _ e => e) (fun b ps e => ⟨#[], by rw [e]; simp⟩) (fun m hm => ?_) (fun b u e => ?_) I.bare
  · have e : b = it := by simpa using hb
    subst e
    exact ⟨h1, hL, h2, h3⟩
  · obtain ⟨o, es, ep, ho, r⟩ := hm
    exact ⟨o, es, ep, k _ o (Ne.symm hL) ho, r⟩
  · refine (I.hok b u e).stay (fun c v hc q => k c v ?_ q) (fun _ q => q) fun _ _ q => q
    rcases hc with z | z
    · rw [z]; exact nit b u e
    · exact nit c _ z
theorem Inv.tok (I : Inv X pins σ H s) (t : Nat) : Inv X pins σ H { s with toks := t } := I.un (h' := s.heap) (t' := t) Un.refl I.hok
/-- all objects kept -/
theorem Inv.kept {t' : Nat} (I : Inv X pins σ H s) (k : ∀ b u, s.heap.get? b = some u → h'.get? b = some u) : Inv X pins σ H { s with heap := h', toks := t' } := I.un (Un.kept k) (I.hok.kept k)
/-- a new object laid and tracked -/
theorem Inv.laid {a : Addr} {o : HO} {t' : Nat} (I : Inv X pins σ H s) (k : ∀ b u, s.heap.get? b = some u → h'.get? b = some u) (hp : s.heap.objs.size ≤ a) (new : ObjOk X.prog X.w (upd H a o) h' a o) :
    Inv X pins σ (upd H a o) { s with heap := h', toks := t' } := I.un (Un.laid k hp (I.hok.fresh hp)) (I.hok.laid k hp new)
/-- an object written -/
theorem Inv.write {x e : Addr} {o : HO} {t' : Nat} (I : Inv X pins σ H s) (mu : Mut (H x)) (he : e = x ∨ H e = some (.own x)) (k : ∀ b u, b ≠ e → s.heap.get? b = some u → h'.get? b = some u) (heo : ∃ u, h'.get? e = some u)
    (new : ObjOk X.prog X.w (upd H x o) h' x o) : Inv X pins σ (upd H x o) { s with heap := h', toks := t' } := I.un (Un.write mu he k heo) (I.hok.write mu he k heo new)
/-- forgetting slots, pins -/
theorem Inv.weak {σ' : List (Option V)} (I : Inv X pins σ H s) (hl : σ'.length = σ.length) (w : ∀ (i : Nat) v, σ'[i]? = some (some v) → σ[i]? = some (some v)) : Inv X pins σ' H s :=
  ⟨I.ok, I.os, I.bare, I.base, let ⟨m, hn, hl'⟩ := I.loc; ⟨m, hn, fun i x v e1 e2 e3 => hl' i x v e1 (w i v e2) e3⟩, I.cell, I.free, I.freeC, I.pin, I.hok, hl.trans I.len⟩
theorem Inv.pins_of {pins' : List (Addr × Obj)} (I : Inv X pins σ H s) (h : ∀ p ∈ pins', s.heap.get? p.1 = some p.2 ∧ H p.1 = none ∧ p.1 ≠ X.env.locals ∧ p.1 ∉ X.fs ∧ ∀ v, p.2.data ≠ .cell v) : Inv X pins' σ H s :=
  ⟨I.ok, I.os, I.bare, I.base, I.loc, I.cell, I.free, I.freeC, fun p hp => (List.mem_append.mp hp).elim (fun z => I.pin p (List.mem_append_left _ z)) (h p), I.hok, I.len⟩

theorem nodup_ix {N : List Str} (hN : N.Nodup) {i j : Nat} {x : Str} (a : N[i]? = some x) (b : N[j]? = some x) : i = j := by
  obtain ⟨h1, e1⟩ := List.getElem?_eq_some_iff.mp a
  obtain ⟨h2, e2⟩ := List.getElem?_eq_some_iff.mp b
  exact (List.getElem_inj hN).mp (e1.trans e2.symm)

/-- a name is stored; what changed -/
theorem store_ok2 {M : Model} {A : Around} {E : Value → Shared → Prop} {i : Nat} {x : Str} {v : V} {u : Value} {Q : Unit → Shared → Prop} (I : Inv X pins σ H s) (hN : X.N.Nodup) (hi : X.N[i]? = some x) (hx : Loc X.env.scope x) (r : RelV v u)
    (h : ∀ s', Inv X pins (σ.set i (some v)) H s' → (∃ a, Heap.SameBut a s.heap s'.heap ∧ (a = X.env.locals ∨ X.env.cells.lookup x = some a)) → Q () s') (hf : X.fn x = true ∨ X.env.scope.names.lookup x = some .local := by first | exact .inl rfl | exact .inr rfl | assumption) : wpAny M A (storeName X.env x u) Q E s := by
  obtain ⟨m, hn, hl⟩ := id I.loc
  have hcls : (X.env.scope.kind == .class || (X.env.scope.kind == .module && X.env.locals != X.env.globals)) = false := by rw [I.ok.kind]; rfl
  have hiσ : i < σ.length := by rw [I.len]; exact (List.getElem?_eq_some_iff.mp hi).1
  have cne := I.cne
  have tracked : ∀ {a : Addr} {h' : Heap}, (∃ o, s.heap.get? a = some o ∧ H a = none) → Heap.SameBut a s.heap h' → HOk X.prog X.w H h' := fun {a h'} ha hs b ob e => by
    obtain ⟨_, _, hfree⟩ := ha
    refine (I.hok b ob e).stay (fun c w' hc q => (hs.2 c ?_).trans q) (fun _ q => q) fun _ _ q => q
    rintro rfl
    rcases hc with rfl | hc
    · rw [hfree] at e; cases e
    · rw [hfree] at hc; cases hc
  rcases hx with hk | hk
  · refine wpAny_storeName_local hk hn (fun h' hn' hs => ?_) hcls
    obtain ⟨oL, _, _, hoL, _⟩ := id hn
    refine h _ ⟨I.ok, I.os, I.bare, ⟨fun b o e n hb hx => ?_, fun b o e n hb hx => ?_, I.base.free, fun b o e hx => ?_, I.base.tups, I.base.frzs, I.base.tbls⟩, ⟨_, hn', fun j y v' e1 e2 e3 => ?_⟩, fun y c e => ?_, I.free, I.freeC, fun p hp => ?_, tracked ⟨oL, hoL, I.free⟩ hs, by simpa using I.len⟩ ⟨_, hs, .inl rfl⟩
    · exact (hs.2 b (Nat.ne_of_lt (Nat.lt_of_lt_of_le (Heap.lt_size e) I.ok.above))).trans (I.base.keep b o e n hb hx)
    · obtain ⟨sl, e1⟩ := I.base.slot b o e n hb hx
      exact ⟨sl, (hs.2 b (Nat.ne_of_lt (Nat.lt_of_lt_of_le (Heap.lt_size e) I.ok.above))).trans e1⟩
    · obtain ⟨o', e1⟩ := I.base.there b o e hx
      exact ⟨o', (hs.2 b (Nat.ne_of_lt (Nat.lt_of_lt_of_le (Heap.lt_size e) I.ok.above))).trans e1⟩
    · by_cases hj : j = i
      · subst hj
        rw [hi] at e1; cases e1
        rw [List.getElem?_set_self hiσ] at e2
        cases e2
        exact ⟨u, r, .inl ⟨hk, by simp⟩⟩
      · rw [List.getElem?_set_ne (Ne.symm hj)] at e2
        obtain ⟨u', r', q⟩ := hl j y v' e1 e2 e3
        refine ⟨u', r', ?_⟩
        rcases q with ⟨k, e⟩ | ⟨k, c, e, z⟩
        · refine .inl ⟨k, ?_⟩
          have : y ≠ x := fun e => hj (nodup_ix hN e1 (e ▸ hi))
          simp [this, e]
        · exact .inr ⟨k, c, e, z.sameBut hs (cne y c e)⟩
    · obtain ⟨w', z⟩ := I.cell y c e
      exact ⟨w', z.sameBut hs (cne y c e)⟩
    · obtain ⟨e, n, ne, nf, d⟩ := I.pin p hp
      exact ⟨(hs.2 p.1 ne).trans e, n, ne, nf, d⟩
  · have hfn : X.fn x = true := by
      rcases hf with z | z
      · exact z
      · rw [z] at hk; cases hk
    obtain ⟨c, hc⟩ := I.ok.has x (.inl hk)
    obtain ⟨w', z⟩ := I.cell x c hc
    refine wpAny_storeName_cell I.ok.kind hk hc z (fun h' hc' hs => ?_)
    obtain ⟨oc, hoc, hocd⟩ := id z
    refine h { s with heap := h' } ⟨I.ok, I.os, I.bare, ⟨fun b o e n hb hx => ?_, fun b o e n hb hx => ?_, I.base.free, fun b o e hx => ?_, I.base.tups, I.base.frzs, I.base.tbls⟩, ⟨m, hn.sameBut hs (Ne.symm (cne x c hc)), fun j y v' e1 e2 e3 => ?_⟩, fun y c' e => ?_, I.free, I.freeC, fun p hp => ?_, tracked ⟨oc, hoc, I.freeC x c hc⟩ hs, by simpa using I.len⟩ ⟨c, hs, .inr hc⟩
    · exact (hs.2 b (Nat.ne_of_lt (Nat.lt_of_lt_of_le (Heap.lt_size e) (I.ok.cab x c hfn hc)))).trans (I.base.keep b o e n hb hx)
    · obtain ⟨sl, e1⟩ := I.base.slot b o e n hb hx
      exact ⟨sl, (hs.2 b (Nat.ne_of_lt (Nat.lt_of_lt_of_le (Heap.lt_size e) (I.ok.cab x c hfn hc)))).trans e1⟩
    · obtain ⟨o', e1⟩ := I.base.there b o e hx
      exact ⟨o', (hs.2 b (Nat.ne_of_lt (Nat.lt_of_lt_of_le (Heap.lt_size e) (I.ok.cab x c hfn hc)))).trans e1⟩
    · by_cases hj : j = i
      · subst hj
        rw [hi] at e1; cases e1
        rw [List.getElem?_set_self hiσ] at e2
        cases e2
        exact ⟨u, r, .inr ⟨.inl hk, c, hc, hc'⟩⟩
      · rw [List.getElem?_set_ne (Ne.symm hj)] at e2
        obtain ⟨u', r', q⟩ := hl j y v' e1 e2 e3
        refine ⟨u', r', ?_⟩
        rcases q with q | ⟨k, c', e, z'⟩
        · exact .inl q
        · refine .inr ⟨k, c', e, z'.sameBut hs ?_⟩
          rintro rfl
          exact hj (nodup_ix hN e1 (I.ok.inj _ _ _ e hc ▸ hi))
    · by_cases hcc : c' = c
      · subst hcc; exact ⟨_, hc'⟩
      · obtain ⟨w2, z2⟩ := I.cell y c' e
        exact ⟨w2, z2.sameBut hs hcc⟩
    · obtain ⟨e, n, ne, nf, d⟩ := I.pin p hp
      refine ⟨(hs.2 p.1 ?_).trans e, n, ne, nf, d⟩
      intro q
      rw [q, hoc] at e
      have q' : oc = p.2 := Option.some.inj e
      exact d w' (by rw [← q']; exact hocd)
theorem store_ok {M : Model} {A : Around} {E : Value → Shared → Prop} {i : Nat} {x : Str} {v : V} {u : Value} {Q : Unit → Shared → Prop} (I : Inv X pins σ H s) (hN : X.N.Nodup) (hi : X.N[i]? = some x) (hx : Loc X.env.scope x) (r : RelV v u)
    (h : ∀ s', Inv X pins (σ.set i (some v)) H s' → Q () s') (hf : X.fn x = true ∨ X.env.scope.names.lookup x = some .local := by first | exact .inl rfl | exact .inr rfl | assumption) : wpAny M A (storeName X.env x u) Q E s :=
  store_ok2 I hN hi hx r (fun s' I' _ => h s' I') hf
/-- behind a call or a block, the state as it is -/
theorem Inv.call' {s' : Shared} {ch : List Addr} (I : Inv X pins σ H s) (ho : s'.os = s.os) (u : Un (frs X.stack) ch H H' s.heap s'.heap) (hok : HOk X.prog X.w H' s'.heap) (hg : AllBare s'.gens)
    (hch : ∀ b ∈ ch, (b ∈ X.ex ∨ X.s₀.heap.objs.size ≤ b) ∧ b ≠ X.env.locals ∧ (∀ x c, X.env.cells.lookup x = some c → c ≠ b) ∧ ∀ p ∈ X.pn ++ pins, p.1 ≠ b) : Inv X pins σ H' s' := by
  obtain ⟨h', g', d', t', o'⟩ := s'
  have e : o' = s.os := ho
  subst e
  exact I.call (g' := g') (t' := t') (d' := d') u hok hg hch
end

/-! ### the judgements -/
/-- an exception: its class, its own dict's address (where it has one), the abstract heap behind it -/
abbrev XK := Value → Option Addr → Hp → Prop
abbrev St := List (Option V)
abbrev VK := V → Hp → Prop
/-- an expression's reading; a test's; an argument list's -/
abbrev TE := St → Hp → VK → Prop
abbrev TT := St → Hp → (Bool → Hp → Prop) → Prop
abbrev TA := St → Hp → (List V → Hp → Prop) → Prop
/-- what is wanted behind a statement -/
structure Ends where
  nx : St → Hp → Prop
  rt : VK
  bk : St → Hp → Prop := fun _ _ => False
  ct : St → Hp → Prop := fun _ _ => False
abbrev TS := Ends → St → Hp → Prop

def EP (X : Cx) (pins : List (Addr × Obj)) (σ : St) (Q : VK) (u : Value) (s' : Shared) : Prop := ∃ v H', Inv X pins σ H' s' ∧ RelV v u ∧ Q v H'
def TP (X : Cx) (pins : List (Addr × Obj)) (σ : St) (Q : Bool → Hp → Prop) (b : Bool) (s' : Shared) : Prop := ∃ H', Inv X pins σ H' s' ∧ Q b H'
def AP (X : Cx) (pins : List (Addr × Obj)) (σ : St) (Q : List V → Hp → Prop) (us : List Value) (s' : Shared) : Prop := ∃ vs H', Inv X pins σ H' s' ∧ Vals vs us ∧ Q vs H'
def SP (X : Cx) (pins : List (Addr × Obj)) (D : Ends) (f : Flow) (s' : Shared) : Prop :=
  match f with
  | .next => ∃ σ' H', Inv X pins σ' H' s' ∧ D.nx σ' H'
  | .brk => ∃ σ' H', Inv X pins σ' H' s' ∧ D.bk σ' H'
  | .cont => ∃ σ' H', Inv X pins σ' H' s' ∧ D.ct σ' H'
  | .ret u => ∃ v σ' H', Inv X pins σ' H' s' ∧ RelV v u ∧ D.rt v H'

def PE (X : Cx) (e : Expr) (t : TE) : Prop :=
  ∀ (pins : List (Addr × Obj)) (s : Shared) (σ : St) (H : Hp) (Q : VK), Inv X pins σ H s → t σ H Q → wpAny (model X.prog X.w) X.A (eval e X.env) (EP X pins σ Q) X.xe s
def PT (X : Cx) (e : Expr) (t : TT) : Prop :=
  ∀ (pins : List (Addr × Obj)) (s : Shared) (σ : St) (H : Hp) (Q : Bool → Hp → Prop), Inv X pins σ H s → t σ H Q → wpAny (model X.prog X.w) X.A (isTrue e X.env (eval e X.env)) (TP X pins σ Q) X.xe s
/-- a test whatever its 'whole' is (and, or) -/
def PW (X : Cx) (e : Expr) (t : TT) : Prop :=
  ∀ (whole : Sem Value) (pins : List (Addr × Obj)) (s : Shared) (σ : St) (H : Hp) (Q : Bool → Hp → Prop), Inv X pins σ H s → t σ H Q → wpAny (model X.prog X.w) X.A (isTrue e X.env whole) (TP X pins σ Q) X.xe s
theorem PW.pt {X : Cx} {e : Expr} {t : TT} (h : PW X e t) : PT X e t := h _
/-- an argument list (no star), from the left -/
def PA (X : Cx) (es : List Expr) (t : TA) : Prop :=
  ∀ (pos : Pos) (pins : List (Addr × Obj)) (s : Shared) (σ : St) (H : Hp) (Q : List V → Hp → Prop), Inv X pins σ H s → t σ H Q → wpAny (model X.prog X.w) X.A (spliced (backTo pos (starEach es X.env))) (AP X pins σ Q) X.xe s
def PS (X : Cx) (st : Stmt) (t : TS) : Prop :=
  ∀ (pins : List (Addr × Obj)) (s : Shared) (σ : St) (H : Hp) (D : Ends), Inv X pins σ H s → t D σ H → wpAny (model X.prog X.w) X.A (exec st X.env) (SP X pins D) X.xe s
def PSs (X : Cx) (st : List Stmt) (t : TS) : Prop :=
  ∀ (pins : List (Addr × Obj)) (s : Shared) (σ : St) (H : Hp) (D : Ends), Inv X pins σ H s → t D σ H → wpAny (model X.prog X.w) X.A (execs st X.env) (SP X pins D) X.xe s
/-- weaken the end -/
theorem thn {α : Type} {t : Sem α} {Q Q' : α → Shared → Prop} {M : Model} {A : Around} {E : Value → Shared → Prop} {s : Shared} (h : wpAny M A t Q E s) (hQ : ∀ a s, Q a s → Q' a s) : wpAny M A t Q' E s := wpAny_mono h hQ fun _ _ x => x
end L2

namespace L2
open PySem PySem.Spec PyProof.Rows
section
variable {X : Cx}


/-! ### names and constants -/
def tVar (i : Nat) : TE := fun σ H Q => ∃ v, σ[i]? = some (some v) ∧ Q v H
def tC (v : V) : TE := fun _ H Q => Q v H
theorem pe_var {i : Nat} {x : Str} {pos : Pos} (hN : X.N[i]? = some x) (hv : Vis X.env.scope x) (hd : (x == ("__debug__" : Str)) = false := by decide) (hcd : (x == ("__classdict__" : Str)) = false := by decide) : PE X (.Name x pos) (tVar i) := by
  intro pins s σ H Q I h
  obtain ⟨v, e, h⟩ := h
  obtain ⟨m, hn, hl⟩ := I.loc
  obtain ⟨u, r, l⟩ := hl i x v hN e hv
  have fin : EP X pins σ Q u s := ⟨v, H, I, r, h⟩
  rcases l with ⟨hk, hm⟩ | ⟨hk, c, hc, hcell⟩
  · exact wpAny_Name (wpAny_loadName_local I.ok.kind hk hn hm fin) hd
  · rcases hk with hk | hk
    · exact wpAny_Name (wpAny_loadName_cell I.ok.kind hk hc hcell fin) hd
    · exact wpAny_Name (wpAny_loadName_free I.ok.kind hk hc hcell fin hcd) hd
theorem pe_int {i j pos} : PE X (.Constant (.int i) j pos) (tC (.int i)) := fun _ _ _ H _ I h => wpAny_Constant_int ⟨.int i, H, I.tok _, ⟨_, rfl⟩, h⟩
theorem pe_bl {b j pos} : PE X (.Constant (.bool b) j pos) (tC (.bl b)) := fun _ _ _ H _ I h => Constant_bool ⟨.bl b, H, I, rfl, h⟩
theorem pe_non {j pos} : PE X (.Constant .none j pos) (tC .non) := fun _ _ _ H _ I h => Constant_none ⟨.non, H, I, rfl, h⟩
theorem pe_str {x j pos} : PE X (.Constant (.str x) j pos) (tC (.str x)) := fun _ _ _ H _ I h => Calls.Constant_str ⟨.str x, H, I.tok _, ⟨_, rfl⟩, h⟩

/-- a global name of the def -/
def Gl (X : Cx) (x : Str) : Prop := X.env.kindOf x = some .globalImplicit
theorem ld_glob {E : Value → Shared → Prop} {pins : List (Addr × Obj)} {s : Shared} {σ : St} {H : Hp} {x : Str} {u : Value} {pos : Pos} {Q : Value → Shared → Prop} (I : Inv X pins σ H s) (hg : Gl X x) (hm : X.mg x = some u) (h : Q u s)
    (hd : (x == ("__debug__" : Str)) = false := by decide) : wpAny (model X.prog X.w) X.A (eval (.Name x pos) X.env) Q E s :=
  Calls.Name_function_global I.ok.kind hg (Calls.loadGlobal_global (by rw [I.ok.glob]; exact I.mod.glob.keeps I.bk) hm h) hd
theorem ld_blt {E : Value → Shared → Prop} {pins : List (Addr × Obj)} {s : Shared} {σ : St} {H : Hp} {x : Str} {u : Value} {pos : Pos} {Q : Value → Shared → Prop} (I : Inv X pins σ H s) (hg : Gl X x) (hm : X.mg x = none) (hv : bootBuiltins x = some u) (h : Q u s)
    (hn : x ≠ "__name__" := by decide) (hd : (x == ("__debug__" : Str)) = false := by decide) : wpAny (model X.prog X.w) X.A (eval (.Name x pos) X.env) Q E s := by
  obtain ⟨mb, h1, h2⟩ := I.mod.blt
  exact Calls.Name_function_global I.ok.kind hg (Calls.loadGlobal_builtin (by rw [I.ok.glob]; exact I.mod.glob.keeps I.bk) hm (by rw [I.ok.blt]; exact h1.keeps I.bk) ((h2 x hn).trans hv) h) hd
theorem pe_bltn {x : Str} {v : V} {u : Value} {pos : Pos} (hg : Gl X x) (hm : X.mg x = none) (hv : bootBuiltins x = some u) (r : RelV v u) (hn : x ≠ "__name__" := by decide) (hd : (x == ("__debug__" : Str)) = false := by decide) : PE X (.Name x pos) (tC v) :=
  fun _ _ _ H _ I h => ld_blt I hg hm hv ⟨v, H, I, r, h⟩ hn hd

/-! ### arithmetic -/
variable {a b : Expr} {ta tb : TE} {pos : Pos}

/-! ### comparisons -/
def PC (X : Cx) (op : CmpOp) (a b : Expr) (t : TE) : Prop :=
  ∀ (pins : List (Addr × Obj)) (s : Shared) (σ : St) (H : Hp) (Q : VK), Inv X pins σ H s → t σ H Q →
    wpAny (model X.prog X.w) X.A (eval a X.env) (fun v s₁ => wpAny (model X.prog X.w) X.A (eval b X.env) (fun u s₂ => wpAny (model X.prog X.w) X.A (compareOp op v u) (EP X pins σ Q) X.xe s₂) X.xe s₁) X.xe s
theorem nobehind (b : Expr) {op : CmpOp} (h : op ≠ .In) (h2 : op ≠ .NotIn) : behindInMarks op b = false := by
  have e1 : (op == CmpOp.In) = false := by cases op <;> first | rfl | exact absurd rfl h
  have e2 : (op == CmpOp.NotIn) = false := by cases op <;> first | rfl | exact absurd rfl h2
  cases b <;> simp [behindInMarks, e1, e2]
/-- is None -/
def tIsN (ta : TE) : TE := fun σ H Q => ta σ H fun x H1 => Q (.bl (decide (x = .non))) H1
def tNotN (ta : TE) : TE := fun σ H Q => ta σ H fun x H1 => Q (.bl (!decide (x = .non))) H1
theorem RelV.none_iff {x : V} {v : Value} (r : RelV x v) : (v == Value.none) = decide (x = .non) := by
  cases x with
  | non => cases r; rfl
  | bl _ => cases r; rfl
  | int _ => obtain ⟨t, rfl⟩ := r; rfl
  | str _ => obtain ⟨t, rfl⟩ := r; rfl
  | byt _ => obtain ⟨t, rfl⟩ := r; rfl
  | flt _ => obtain ⟨t, rfl⟩ := r; rfl
  | ref _ => cases r; rfl
  | ty _ => cases r; rfl
theorem pc_isN {j pos'} (ha : PE X a ta) : PC X .Is a (.Constant .none j pos') (tIsN ta) := by
  intro pins s σ H Q I h
  refine thn (ha pins s σ H _ I h) fun v s1 ⟨x, H1, I1, r1, q1⟩ => ?_
  exact Constant_none (is_none_gen ⟨.bl _, H1, I1, by rw [r1.none_iff]; rfl, q1⟩)
theorem pc_notN {j pos'} (ha : PE X a ta) : PC X .IsNot a (.Constant .none j pos') (tNotN ta) := by
  intro pins s σ H Q I h
  refine thn (ha pins s σ H _ I h) fun v s1 ⟨x, H1, I1, r1, q1⟩ => ?_
  exact Constant_none (isnot_none_gen ⟨.bl _, H1, I1, by rw [r1.none_iff]; rfl, q1⟩)
/-- a comparison as a value, as a test -/
def tB (t : TE) : TT := fun σ H Q => t σ H fun x H1 => ∃ c, x = .bl c ∧ Q c H1
theorem pe_cmp {op : CmpOp} {t : TE} (h : PC X op a b t) (h1 : behindInMarks op b = false := by first | exact nobehind _ (by decide) (by decide) | rfl) : PE X (.Compare a [op] [b] pos) t := fun pins s σ H Q I hw => wpAny_Compare1 (h pins s σ H Q I hw) h1
theorem pt_cmp {op : CmpOp} {t : TE} (h : PC X op a b t) (h1 : behindInMarks op b = false := by first | exact nobehind _ (by decide) (by decide) | rfl) : PT X (.Compare a [op] [b] pos) (tB t) := by
  intro pins s σ H Q I hw
  refine wpAny_isTrue_Compare1 (thn (h pins s σ H _ I hw) fun v s1 h1 => thn h1 fun u s2 h2 => thn h2 fun c s3 ⟨x, H1, I1, r1, q1⟩ => ?_) h1
  obtain ⟨d, rfl, q⟩ := q1
  cases r1
  exact wpAny_truthy_bool ⟨H1, I1, q⟩

/-! ### and, or, not -/
variable {tA tB' : TT} {rest : List Expr}
def tAnd (t u : TT) : TT := fun σ H Q => t σ H fun c H1 => if c = true then u σ H1 Q else Q false H1
def tOr (t u : TT) : TT := fun σ H Q => t σ H fun c H1 => if c = true then Q true H1 else u σ H1 Q
def tNot (t : TT) : TT := fun σ H Q => t σ H fun c H1 => Q (!c) H1
theorem pw_and1 (ha : PT X a tA) : PW X (.BoolOp .And [a] pos) tA := by
  intro wh pins s σ H Q I h
  refine isTrue_and (thn (ha pins s σ H Q I h) fun c s1 e => ?_)
  cases c with
  | true => exact isTrue_and_nil e
  | false => exact e
theorem pw_or1 (ha : PT X a tA) : PW X (.BoolOp .Or [a] pos) tA := by
  intro wh pins s σ H Q I h
  refine isTrue_or (thn (ha pins s σ H Q I h) fun c s1 e => ?_)
  cases c with
  | false => exact isTrue_or_nil e
  | true => exact e
theorem pw_and (ha : PT X a tA) (hb : PW X (.BoolOp .And (b :: rest) pos) tB') : PW X (.BoolOp .And (a :: b :: rest) pos) (tAnd tA tB') := by
  intro wh pins s σ H Q I h
  refine isTrue_and (thn (ha pins s σ H _ I h) fun c s1 ⟨H1, I1, q1⟩ => ?_)
  cases c with
  | true => exact hb wh pins s1 σ H1 Q I1 q1
  | false => exact ⟨H1, I1, q1⟩
theorem pw_or (ha : PT X a tA) (hb : PW X (.BoolOp .Or (b :: rest) pos) tB') : PW X (.BoolOp .Or (a :: b :: rest) pos) (tOr tA tB') := by
  intro wh pins s σ H Q I h
  refine isTrue_or (thn (ha pins s σ H _ I h) fun c s1 ⟨H1, I1, q1⟩ => ?_)
  cases c with
  | true => exact ⟨H1, I1, q1⟩
  | false => exact hb wh pins s1 σ H1 Q I1 q1
theorem pt_not (ha : PT X a tA) : PT X (.UnaryOp .Not a pos) (tNot tA) := by
  intro pins s σ H Q I h
  exact isTrue_not (ha pins s σ H (fun c H1 => Q (!c) H1) I h)
/-- .. as values (bools) -/
def tAndV (ta tb : TE) : TE := fun σ H Q => ta σ H fun x H1 => ∃ c, x = .bl c ∧ if c = true then tb σ H1 Q else Q (.bl false) H1
def tOrV (ta tb : TE) : TE := fun σ H Q => ta σ H fun x H1 => ∃ c, x = .bl c ∧ if c = true then Q (.bl true) H1 else tb σ H1 Q
def tNotV (ta : TE) : TE := fun σ H Q => ta σ H fun x H1 => ∃ c, x = .bl c ∧ Q (.bl (!c)) H1
theorem pe_one {op} {t : TE} (h : PE X a t) : PE X (.BoolOp op [a] pos) t := fun pins s σ H Q I hw => BoolOp_one (h pins s σ H Q I hw)
theorem pe_and (ha : PE X a ta) (hb : PE X (.BoolOp .And (b :: rest) pos) tb) : PE X (.BoolOp .And (a :: b :: rest) pos) (tAndV ta tb) := by
  intro pins s σ H Q I h
  refine BoolOp_and (thn (ha pins s σ H _ I h) fun v s1 ⟨x, H1, I1, r1, q1⟩ => ?_)
  obtain ⟨c, rfl, q1⟩ := q1
  cases r1
  refine wpAny_truthy_bool ?_
  cases c with
  | true => exact hb pins s1 σ H1 Q I1 q1
  | false => exact ⟨.bl false, H1, I1, rfl, q1⟩
theorem pe_or (ha : PE X a ta) (hb : PE X (.BoolOp .Or (b :: rest) pos) tb) : PE X (.BoolOp .Or (a :: b :: rest) pos) (tOrV ta tb) := by
  intro pins s σ H Q I h
  refine BoolOp_or (thn (ha pins s σ H _ I h) fun v s1 ⟨x, H1, I1, r1, q1⟩ => ?_)
  obtain ⟨c, rfl, q1⟩ := q1
  cases r1
  refine wpAny_truthy_bool ?_
  cases c with
  | false => exact hb pins s1 σ H1 Q I1 q1
  | true => exact ⟨.bl true, H1, I1, rfl, q1⟩
theorem pe_not (ha : PE X a ta) : PE X (.UnaryOp .Not a pos) (tNotV ta) := by
  intro pins s σ H Q I h
  refine UnaryOp_ (thn (ha pins s σ H _ I h) fun v s1 ⟨x, H1, I1, r1, q1⟩ => ?_)
  obtain ⟨c, rfl, q1⟩ := q1
  cases r1
  exact not_of (wpAny_truthy_bool ⟨.bl (!c), H1, I1, rfl, q1⟩)
/-- a if t else b -/
def tIf (t : TT) (ta tb : TE) : TE := fun σ H Q => t σ H fun c H1 => if c = true then ta σ H1 Q else tb σ H1 Q
theorem pe_ifExp {c : Expr} (hc : PT X c tA) (ha : PE X a ta) (hb : PE X b tb) : PE X (.IfExp c a b pos) (tIf tA ta tb) := by
  intro pins s σ H Q I h
  refine wpAny_IfExp (thn (hc pins s σ H _ I h) fun d s1 ⟨H1, I1, q1⟩ => ?_)
  cases d with
  | true => exact ha pins s1 σ H1 Q I1 q1
  | false => exact hb pins s1 σ H1 Q I1 q1
end
end L2

namespace L2
open PySem PySem.Spec PyProof.Rows

/-! ### a list, a tuple that is read: tracked, frozen, or an object of the module -/
def SqL (K : PySem.W.Frag) (H : Hp) (a : Addr) (xs : List V) : Prop :=
  Rd H a (.lst xs) ∨
    ∃ (o : Obj) (its : Array Value) (n : Nat), K.lookup a = some o ∧ o.cls = .type "list" ∧ o.dict = none ∧ o.data = .seq its n ∧ its.size ≤ sizeLine ∧ Vals xs its.toList
def SqT (K : PySem.W.Frag) (H : Hp) (a : Addr) (xs : List V) : Prop :=
  Rd H a (.tup xs) ∨
    ∃ (o : Obj) (its : Array Value) (n : Nat), K.lookup a = some o ∧ o.cls = .type "tuple" ∧ o.data = .seq its n ∧ its.size ≤ sizeLine ∧ Vals xs its.toList
def absV : Value → Option V
  | .none => some .non
  | .bool b => some (.bl b)
  | .int i _ => some (.int i)
  | .str x _ => some (.str x)
  | .bytes b _ => some (.byt b)
  | .float b _ => some (.flt b)
  | .ref a => some (.ref a)
  | .type n => some (.ty n)
  | _ => none
theorem RelV.abs {x : V} {u : Value} (r : RelV x u) : absV u = some x := by
  cases x with
  | non => cases r; rfl
  | bl _ => cases r; rfl
  | int _ => obtain ⟨t, rfl⟩ := r; rfl
  | str _ => obtain ⟨t, rfl⟩ := r; rfl
  | byt _ => obtain ⟨t, rfl⟩ := r; rfl
  | flt _ => obtain ⟨t, rfl⟩ := r; rfl
  | ref _ => cases r; rfl
  | ty _ => cases r; rfl
theorem RelV.inj {x y : V} {u : Value} (r : RelV x u) (q : RelV y u) : x = y := Option.some.inj (r.abs.symm.trans q.abs)
theorem Vals.inj : ∀ {xs ys : List V} {us : List Value}, Vals xs us → Vals ys us → xs = ys
  | _, _, _, .nil, .nil => rfl
  | _, _, _, .cons r t, .cons r' t' => by rw [r.inj r', Vals.inj t t']
section
variable {X : Cx} {pins : List (Addr × Obj)} {σ : St} {H : Hp} {s : Shared} {a : Addr} {xs ys : List V}
theorem SqL.of {K : PySem.W.Frag} (h : H a = some (.lst xs)) : SqL K H a xs := .inl (.inl h)
theorem SqT.of {K : PySem.W.Frag} (h : H a = some (.tup xs)) : SqT K H a xs := .inl (.inl h)
theorem Inv.list (I : Inv X pins σ H s) (h : SqL X.K H a xs) : ∃ its : List Value, Vals xs its ∧ PlainL s.heap a its.toArray ∧ xs.length ≤ sizeLine := by
  rcases h with h | ⟨o, its, n, hk, hc, hd, hs, hz, r⟩
  · obtain ⟨z, its, n, r, e⟩ := h.ok I.hok
    exact ⟨its, r, ⟨_, n, e, rfl, rfl, rfl⟩, z⟩
  · refine ⟨its.toList, r, ⟨o, n, I.kIn a o hk, hc, hd, by simpa using hs⟩, ?_⟩
    have e := r.length
    simp only [Array.length_toList] at e
    omega
theorem Inv.tuple (I : Inv X pins σ H s) (h : SqT X.K H a xs) : ∃ its : List Value, Vals xs its ∧ IsTup s.heap a its.toArray ∧ xs.length ≤ sizeLine := by
  rcases h with h | ⟨o, its, n, hk, hc, hs, hz, r⟩
  · obtain ⟨z, its, r, p⟩ := h.ok I.hok
    exact ⟨its, r, p, z⟩
  · refine ⟨its.toList, r, ⟨o, I.kIn a o hk, hc, n, by simpa using hs⟩, ?_⟩
    have e := r.length
    simp only [Array.length_toList] at e
    omega
theorem Inv.list_inj (I : Inv X pins σ H s) (h : SqL X.K H a xs) (h' : SqL X.K H a ys) : xs = ys := by
  obtain ⟨its, r, ⟨o, n, e, _, _, d⟩, _⟩ := I.list h
  obtain ⟨its', r', ⟨o', n', e', _, _, d'⟩, _⟩ := I.list h'
  rw [e] at e'; cases e'
  rw [d] at d'
  injection d' with d1 _
  have : its = its' := by simpa using congrArg Array.toList d1
  subst this
  exact r.inj r'
theorem Inv.tuple_inj (I : Inv X pins σ H s) (h : SqT X.K H a xs) (h' : SqT X.K H a ys) : xs = ys := by
  obtain ⟨its, r, ⟨o, e, _, n, d⟩, _⟩ := I.tuple h
  obtain ⟨its', r', ⟨o', e', _, n', d'⟩, _⟩ := I.tuple h'
  rw [e] at e'; cases e'
  rw [d] at d'
  injection d' with d1 _
  have : its = its' := by simpa using congrArg Array.toList d1
  subst this
  exact r.inj r'
end

/-! ### another wish about exceptions -/
abbrev Cx.wish (X : Cx) (E : Value → Shared → Prop) : Cx := { X with xe := E }
/-- no exception leaves -/
abbrev Cx.nox (X : Cx) : Cx := X.wish fun _ _ => False
theorem Cx.Ok.wish {X : Cx} (ok : X.Ok) (E : Value → Shared → Prop) : (X.wish E).Ok :=
  ⟨ok.mod, ok.kind, ok.glob, ok.blt, ok.above, ok.inj, ok.has, ok.cab, ok.hd, ok.frames, ok.stk, ok.exf, ok.bs, ok.bsz, ok.noex, ok.exfs, ok.funs, ok.frf⟩
theorem Cx.Ok.unwish {X : Cx} {E : Value → Shared → Prop} (ok : (X.wish E).Ok) : X.Ok :=
  ⟨ok.mod, ok.kind, ok.glob, ok.blt, ok.above, ok.inj, ok.has, ok.cab, ok.hd, ok.frames, ok.stk, ok.exf, ok.bs, ok.bsz, ok.noex, ok.exfs, ok.funs, ok.frf⟩
section
variable {X : Cx} {pins : List (Addr × Obj)} {σ : St} {H : Hp} {s : Shared} {E : Value → Shared → Prop}
theorem Inv.wish (I : Inv X pins σ H s) (E : Value → Shared → Prop) : Inv (X.wish E) pins σ H s := ⟨I.ok.wish E, I.os, I.bare, I.base, I.loc, I.cell, I.free, I.freeC, I.pin, I.hok, I.len⟩
theorem Inv.unwish (I : Inv (X.wish E) pins σ H s) : Inv X pins σ H s := ⟨I.ok.unwish, I.os, I.bare, I.base, I.loc, I.cell, I.free, I.freeC, I.pin, I.hok, I.len⟩
theorem SP.unwish {D : Ends} {f : Flow} {s' : Shared} (h : SP (X.wish E) pins D f s') : SP X pins D f s' := by
  cases f with
  | next => obtain ⟨σ', H', I, q⟩ := h; exact ⟨σ', H', I.unwish, q⟩
  | brk => obtain ⟨σ', H', I, q⟩ := h; exact ⟨σ', H', I.unwish, q⟩
  | cont => obtain ⟨σ', H', I, q⟩ := h; exact ⟨σ', H', I.unwish, q⟩
  | ret u => obtain ⟨v, σ', H', I, r, q⟩ := h; exact ⟨v, σ', H', I.unwish, r, q⟩
theorem PSs.nox {st : List Stmt} {t : TS} (h : PSs X.nox st t) : PSs X st t := fun pins s σ H D I hw =>
  wpAny_mono (h pins s σ H D (I.wish _) hw) (fun _ _ q => q.unwish) fun _ _ z => False.elim z
end

/-! ### blocks and small statements -/
section
variable {X : Cx} {st : Stmt} {rest : List Stmt} {t u : TS} {e : Expr} {te : TE} {pos : Pos}
def tNext : TS := fun D σ H => D.nx σ H
def tSeq (t u : TS) : TS := fun D σ H => t { D with nx := u D } σ H
theorem pss_nil : PSs X [] tNext := fun _ _ σ H _ I h => wpAny_execs_nil ⟨σ, H, I, h⟩
theorem pss_cons (h1 : PS X st t) (h2 : PSs X rest u) : PSs X (st :: rest) (tSeq t u) := by
  intro pins s σ H D I h
  refine wpAny_execs_cons (thn (h1 pins s σ H { D with nx := u D } I h) fun f s1 q => ?_)
  cases f with
  | next =>
    obtain ⟨σ', H', I', q⟩ := q
    exact h2 pins s1 σ' H' D I' q
  | ret v => exact q
  | brk => exact q
  | cont => exact q
def tBreak : TS := fun D σ H => D.bk σ H
def tCont : TS := fun D σ H => D.ct σ H
theorem ps_pass : PS X (.Pass pos) tNext := fun _ _ σ H _ I h => wpAny_Pass ⟨σ, H, I, h⟩
theorem ps_break : PS X (.Break pos) tBreak := fun _ _ σ H _ I h => wpAny_Break ⟨σ, H, I, h⟩
theorem ps_continue : PS X (.Continue pos) tCont := fun _ _ σ H _ I h => wpAny_Continue ⟨σ, H, I, h⟩
/-- in a def's body nothing is shown -/
theorem Inv.quiet {pins : List (Addr × Obj)} {σ : St} {H : Hp} {s : Shared} (I : Inv X pins σ H s) : interactive X.env = false := by simp [interactive, I.ok.kind]
/-- an expression whose value is dropped -/
def tDrop (te : TE) : TS := fun D σ H => te σ H fun _ H1 => D.nx σ H1
theorem ps_expr (he : PE X e te) (hs : swapsWith e none pos.line X.env = pure false := by rfl) : PS X (.Expr e pos) (tDrop te) := by
  intro pins s σ H D I h
  exact wpAny_Expr_any (thn (he pins s σ H _ I h) fun v s1 ⟨x, H1, I1, r1, q1⟩ => ⟨σ, H1, I1, q1⟩) I.quiet hs
def tRet (te : TE) : TS := fun D σ H => te σ H D.rt
theorem ps_ret (he : PE X e te) : PS X (.Return (some e) pos) (tRet te) := by
  intro pins s σ H D I h
  exact wpAny_Return_some (thn (he pins s σ H _ I h) fun v s1 ⟨x, H1, I1, r1, q1⟩ => ⟨x, σ, H1, I1, r1, q1⟩)
def tRetN : TS := fun D _ H => D.rt .non H
theorem ps_retN : PS X (.Return none pos) tRetN := fun _ _ σ H _ I h => wpAny_Return_none ⟨.non, σ, H, I, rfl, h⟩
def tIfS (c : TT) (t u : TS) : TS := fun D σ H => c σ H fun b H1 => if b = true then t D σ H1 else u D σ H1
theorem ps_if {c : Expr} {a b : List Stmt} {tc : TT} (hc : PT X c tc) (ha : PSs X a t) (hb : PSs X b u) : PS X (.If c a b pos) (tIfS tc t u) := by
  intro pins s σ H D I h
  refine wpAny_If (thn (hc pins s σ H _ I h) fun d s1 ⟨H1, I1, q1⟩ => ?_)
  cases d with
  | true => exact ha pins s1 σ H1 D I1 q1
  | false => exact hb pins s1 σ H1 D I1 q1
end

/-! ### targets -/
abbrev TG := V → St → Hp → (St → Hp → Prop) → Prop
abbrev TGs := List V → St → Hp → (St → Hp → Prop) → Prop
def PG (X : Cx) (target : Expr) (t : TG) : Prop :=
  ∀ (pins : List (Addr × Obj)) (s : Shared) (σ : St) (H : Hp) (v : V) (u : Value) (Q : St → Hp → Prop), Inv X pins σ H s → RelV v u → t v σ H Q →
    wpAny (model X.prog X.w) X.A (assign target X.env u) (fun _ s' => ∃ σ' H', Inv X pins σ' H' s' ∧ Q σ' H') X.xe s
/-- several targets, one after another -/
def PGs (X : Cx) (ts : List Expr) (t : TGs) : Prop :=
  ∀ (pins : List (Addr × Obj)) (s : Shared) (σ : St) (H : Hp) (vs : List V) (us : List Value) (Q : St → Hp → Prop), Inv X pins σ H s → Vals vs us → t vs σ H Q →
    wpAny (model X.prog X.w) X.A (assignInOrder ((assignEach ts X.env).map (·.2)) us) (fun _ s' => ∃ σ' H', Inv X pins σ' H' s' ∧ Q σ' H') X.xe s
/-- o[i] = v, by values -/
abbrev TSet := V → V → V → Hp → (Hp → Prop) → Prop
def PSet (X : Cx) (t : TSet) : Prop :=
  ∀ (pins : List (Addr × Obj)) (s : Shared) (σ : St) (H : Hp) (o i v : V) (ov iv u : Value) (Q : Hp → Prop), Inv X pins σ H s → RelV o ov → RelV i iv → RelV v u → t o i v H Q →
    wpAny (model X.prog X.w) X.A (setItem ov iv u) (fun _ s' => ∃ H', Inv X pins σ H' s' ∧ Q H') X.xe s
section
variable {X : Cx} {pos : Pos}
def gName (i : Nat) : TG := fun v σ H Q => Q (σ.set i (some v)) H
theorem pg_name {i : Nat} {x : Str} (hN : X.N.Nodup) (hi : X.N[i]? = some x) (hx : Loc X.env.scope x) (hf : X.fn x = true ∨ X.env.scope.names.lookup x = some .local := by first | exact .inl rfl | exact .inr rfl | assumption) : PG X (.Name x pos) (gName i) := by
  intro pins s σ H v u Q I r h
  exact wpAny_assign_Name (store_ok I hN hi hx r (fun s' I' => ⟨_, H, I', h⟩) hf)
def gNil : TGs := fun vs σ H Q => vs = [] ∧ Q σ H
def gCons (t : TG) (u : TGs) : TGs := fun vs σ H Q => ∃ v r, vs = v :: r ∧ t v σ H fun σ' H' => u r σ' H' Q
theorem pgs_nil : PGs X [] gNil := by
  intro pins s σ H vs us Q I r h
  obtain ⟨e, h⟩ := h
  subst e
  cases r
  exact assignInOrder_nil ⟨σ, H, I, h⟩
theorem pgs_cons {e : Expr} {es : List Expr} {t : TG} {u : TGs} (h1 : PG X e t) (h2 : PGs X es u)
    (hs : (assignEach (e :: es) X.env).map (·.2) = assign e X.env :: (assignEach es X.env).map (·.2) := by rfl) : PGs X (e :: es) (gCons t u) := by
  intro pins s σ H vs us Q I r h
  obtain ⟨v, vr, e1, h⟩ := h
  subst e1
  cases r with
  | cons r rr =>
    rw [hs]
    refine assignInOrder_cons (thn (h1 pins s σ H _ _ _ I r h) fun _ s1 ⟨σ1, H1, I1, q1⟩ => ?_)
    exact h2 pins s1 σ1 H1 _ _ Q I1 rr q1
/-- (a, b, ..) = a tuple of that length -/
def gTup (K : PySem.W.Frag) (n : Nat) (t : TGs) : TG := fun v σ H Q => ∃ a xs, v = .ref a ∧ SqT K H a xs ∧ xs.length = n ∧ t xs σ H Q
theorem pg_tup {es : List Expr} {k : Nat} {t : TGs} {n : Nat} (hc : X.calm = true) (h : PGs X es t)
    (hn : (assignEach es X.env).length = n := by rfl) (hst : (assignEach es X.env).findIdx? (·.1) = none := by rfl) : PG X (.Tuple es k pos) (gTup X.K n t) := by
  intro pins s σ H v u Q I r hw
  obtain ⟨a, xs, e1, hq, hl, hw⟩ := hw
  subst e1
  cases r
  obtain ⟨its, rv, ht, hz⟩ := I.tuple hq
  refine assign_Tuple_tuple (I.ok.hd hc) ht (by simp [hn, ← hl, rv.length]) hst fun h' hx => ?_
  have I1 : Inv X pins σ H { s with heap := h' } := I.kept (t' := s.toks) fun b o e => hx b o (Nat.ne_of_lt (Heap.lt_size e)) e
  exact h pins _ σ H xs _ Q I1 (by simpa using rv) hw
/-- o[i] = .. -/
def gSub (to ti : TE) (t : TSet) : TG := fun v σ H Q => to σ H fun o H1 => ti σ H1 fun i H2 => t o i v H2 fun H3 => Q σ H3
theorem pg_sub {o i : Expr} {to ti : TE} {t : TSet} (ho : PE X o to) (hi : PE X i ti) (hs : PSet X t)
    (ha : ∀ v, assign (.Subscript o i pos) X.env v = (do
      let ov ← holding [v] (eval o X.env)
      let iv ← holding [v, ov] (eval i X.env)
      standAt pos
      holding [v, ov, iv] (setItem ov iv v)
      release [v, ov, iv] []) := by intro _; rfl) : PG X (.Subscript o i pos) (gSub to ti t) := by
  intro pins s σ H v u Q I r h
  rw [ha]
  refine wpAny_bind (wpAny_holding (thn (ho pins s σ H _ I h) fun ov s1 ⟨x, H1, I1, r1, q1⟩ => ?_))
  refine wpAny_bind (wpAny_holding (thn (hi pins s1 σ H1 _ I1 q1) fun iv s2 ⟨y, H2, I2, r2, q2⟩ => ?_))
  refine wpAny_bind (wpAny_standAt (wpAny_bind (wpAny_holding (thn (hs pins s2 σ H2 x y v ov iv u _ I2 r1 r2 r q2) fun _ s3 ⟨H3, I3, q3⟩ => ?_))))
  exact wpAny_release ⟨σ, H3, I3, q3⟩
/-- target = value -/
def tAsg (te : TE) (g : TG) : TS := fun D σ H => te σ H fun x H1 => g x σ H1 D.nx
theorem ps_asg {tg e : Expr} {te : TE} {g : TG} (he : PE X e te) (hg : PG X tg g) (hs : swapsWithSole [tg] e pos.line X.env = pure false := by rfl) (hw : swappedStores [tg] e X.env = pure none := by rfl)
    (h1 : (assignEach [tg] X.env).map (·.2) = [assign tg X.env] := by rfl) : PS X (.Assign [tg] e pos) (tAsg te g) := by
  intro pins s σ H D I h
  refine wpAny_Assign_stores (thn (he pins s σ H _ I h) fun v s1 ⟨x, H1, I1, r1, q1⟩ => ?_) hs hw
  rw [h1]
  exact thn (hg pins s1 σ H1 x v _ I1 r1 q1) fun _ s2 q => q
/-- name = value -/
theorem ps_set {i : Nat} {x : Str} {e : Expr} {te : TE} {pos' : Pos} (hN : X.N.Nodup) (hi : X.N[i]? = some x) (hx : Loc X.env.scope x) (he : PE X e te) (hs : swapsWith e (some (.Name x pos')) pos.line X.env = pure false := by rfl) (hf : X.fn x = true ∨ X.env.scope.names.lookup x = some .local := by first | exact .inl rfl | exact .inr rfl | assumption) :
    PS X (.Assign [.Name x pos'] e pos) (tAsg te (gName i)) := by
  intro pins s σ H D I h
  refine wpAny_Assign_Name (thn (he pins s σ H _ I h) fun v s1 ⟨y, H1, I1, r1, q1⟩ => ?_) hs
  exact store_ok I1 hN hi hx r1 (fun s2 I2 => ⟨_, H1, I2, q1⟩) hf
end

/-! ### while -/
section
variable {X : Cx} {pos : Pos}
/-- the invariant W with its measure -/
def tWhile (c : TT) (tb : TS) : TS := fun D σ H => ∃ W : Nat → St → Hp → Prop, (∃ m, W m σ H) ∧ ∀ m σ H, W m σ H →
  c σ H fun b H1 => if b = true then ∃ N : St → Hp → Prop, (∀ σ' H', N σ' H' → ∃ m', m' < m ∧ W m' σ' H') ∧ tb { D with nx := N, ct := N, bk := D.nx } σ H1 else D.nx σ H1
theorem ps_while {c : Expr} {body : List Stmt} {tc : TT} {tb : TS} (hp : PassesOwn (model X.prog X.w) X.A X.env X.xe) (hc : PT X c tc) (hb : PSs X body tb) : PS X (.While c body [] pos) (tWhile tc tb) := by
  intro pins s σ H D I h
  obtain ⟨W, ⟨m0, w0⟩, turn⟩ := h
  refine wpAny_While (codeAny_whileLoop (fun n s' => ∃ σ' H', Inv X pins σ' H' s' ∧ W n σ' H') ?_ m0 ⟨σ, H, I, w0⟩)
  rintro n s1 ⟨σ1, H1, I1, w1⟩
  refine wpAny_passesOwn hp (thn (hc pins s1 σ1 H1 _ I1 (turn n σ1 H1 w1)) fun b s2 ⟨H2, I2, q2⟩ => ?_)
  cases b with
  | true =>
    obtain ⟨N, hN, q2⟩ := q2
    rw [if_pos rfl]
    refine wpAny_passesOwn hp (thn (hb pins s2 σ1 H2 _ I2 q2) fun f s3 q3 => ?_)
    cases f with
    | next =>
      obtain ⟨σ3, H3, I3, n3⟩ := q3
      obtain ⟨m', hm, w3⟩ := hN σ3 H3 n3
      exact ⟨m', hm, σ3, H3, I3, w3⟩
    | cont =>
      obtain ⟨σ3, H3, I3, n3⟩ := q3
      obtain ⟨m', hm, w3⟩ := hN σ3 H3 n3
      exact ⟨m', hm, σ3, H3, I3, w3⟩
    | brk => exact q3
    | ret v => exact q3
  | false =>
    rw [if_neg Bool.false_ne_true]
    exact wpAny_execs_nil ⟨σ1, H2, I2, q2⟩
end

/-! ### what a loop or a comprehension walks -/
/-- at turn i: it yields x (the heap may grow), or it stops -/
structure It where
  go : Nat → Hp → Prop
  yld : Nat → Hp → V → Hp → Prop
  stop : Nat → Hp → Prop
/-- the iterator's own objects may turn: they are not the frame's, not pinned, younger than the entry (or a comprehension's own) -/
def FpOk (X : Cx) (pins : List (Addr × Obj)) (H : Hp) (b : Addr) : Prop :=
  H b = none ∧ b ≠ X.env.locals ∧ b ∉ X.fs ∧ (b ∈ X.ex ∨ X.s₀.heap.objs.size ≤ b) ∧ (∀ x c, X.env.cells.lookup x = some c → c ≠ b) ∧ ∀ p ∈ X.pn ++ pins, p.1 ≠ b
theorem Inv.fpOk {X : Cx} {pins : List (Addr × Obj)} {σ : St} {H H' : Hp} {s : Shared} {b : Addr} (I : Inv X pins σ H s) (hb : s.heap.objs.size ≤ b) (hn : H' b = none) : FpOk X pins H' b := by
  refine ⟨hn, Nat.ne_of_gt (Nat.lt_of_lt_of_le I.lt hb), I.nofs hb, .inr (Nat.le_trans I.sz hb), fun x c e z => ?_, fun p hp z => ?_⟩
  · obtain ⟨v, q⟩ := I.cell x c e
    exact absurd (Nat.lt_of_lt_of_le q.lt (by rw [z]; exact hb)) (Nat.lt_irrefl _)
  · exact absurd (Nat.lt_of_lt_of_le (Heap.lt_size (I.pin p hp).1) (by rw [z]; exact hb)) (Nat.lt_irrefl _)
structure Turn (P : Program) (w : World) (K : PySem.W.Frag) (tg : Expr) (J : It) (fp : List Addr) (it : Addr) (tn : Nat → Heap → Prop) : Prop where
  mem : it ∈ fp
  obj : ∀ i h, tn i h → ∀ b ∈ fp, ∃ o, h.get? b = some o ∧ ∀ v, o.data ≠ .cell v
  keep : ∀ i h h', tn i h → (∀ b ∈ fp, ∀ o, h.get? b = some o → h'.get? b = some o) → tn i h'
  item : ∀ (X : Cx), X.prog = P → X.w = w → X.K = K → X.calm = true → ∀ (i : Nat) (pins : List (Addr × Obj)) (s : Shared) (σ : St) (H : Hp) (E : Value → Shared → Prop), Inv X pins σ H s → (∀ b ∈ fp, FpOk X pins H b) → tn i s.heap → J.go i H →
    wpAny (model P w) X.A (pyNext (.ref it)) (fun r s1 => ∃ u, r = some u ∧
      wpAny (model P w) X.A (letOwnedTupleGo tg (.ref it) u) (fun _ s2 => ∃ x H', Inv X pins σ H' s2 ∧ RelV x u ∧ J.yld i H x H' ∧ tn (i + 1) s2.heap ∧ ∀ b ∈ fp, H' b = none) E s1) E s
  done : ∀ (X : Cx), X.prog = P → X.w = w → X.K = K → X.calm = true → ∀ (i : Nat) (pins : List (Addr × Obj)) (s : Shared) (σ : St) (H : Hp) (E : Value → Shared → Prop), Inv X pins σ H s → (∀ b ∈ fp, FpOk X pins H b) → tn i s.heap → J.stop i H →
    wpAny (model P w) X.A (pyNext (.ref it)) (fun r s1 => r = none ∧ Inv X pins σ H s1) E s
  self : ∀ (A : Around) (i : Nat) (s : Shared) (Q : Value → Shared → Prop) (E : Value → Shared → Prop), tn i s.heap → Q (.ref it) s → wpAny (model P w) A (pyIter (.ref it)) Q E s
abbrev TI := St → Hp → (It → Hp → Prop) → Prop
/-- an iterator has come -/
def PIE (X : Cx) (pins : List (Addr × Obj)) (σ : St) (tg : Expr) (R : It → Hp → Prop) (itv : Value) (s2 : Shared) : Prop :=
  ∃ (it : Addr) (fp : List Addr) (tn : Nat → Heap → Prop) (J : It) (H' : Hp), itv = .ref it ∧ Inv X pins σ H' s2 ∧ Turn X.prog X.w X.K tg J fp it tn ∧ tn 0 s2.heap ∧ (∀ b ∈ fp, FpOk X pins H' b) ∧ R J H'
def PI (X : Cx) (tg iter : Expr) (wi : TI) : Prop :=
  ∀ (pins : List (Addr × Obj)) (s : Shared) (σ : St) (H : Hp) (R : It → Hp → Prop), Inv X pins σ H s → wi σ H R →
    wpAny (model X.prog X.w) X.A (eval iter X.env) (fun v s1 => wpAny (model X.prog X.w) X.A (pyIter v) (PIE X pins σ tg R) X.xe s1) X.xe s

/-- the step ahead of the store is nothing for an iterator that keeps no tuple -/
theorem go_of {M : Model} {A : Around} {E : Value → Shared → Prop} {s : Shared} {tg : Expr} {it : Addr} {u : Value} {o : Obj} {n : String} {vs : Array Value} {Q : Unit → Shared → Prop} (ho : s.heap.get? it = some o) (hc : o.cls = .type n) (hd : o.data = .fields vs)
    (hn : ["enumerate", "zip", "dict_itemiterator", "dict_reverseitemiterator", "odict_iterator", "itertools.zip_longest", "itertools.pairwise"].contains n = false) (hQ : Q () s) : wpAny M A (letOwnedTupleGo tg (.ref it) u) Q E s := by
  unfold letOwnedTupleGo
  cases tg <;> first
    | exact wpAny_pure hQ
    | (cases u <;> first
        | exact wpAny_pure hQ
        | (refine wpAny_bind (wpAny_load ho ?_)
           rw [hc, hd]
           show wpAny M A (if (["enumerate", "zip", "dict_itemiterator", "dict_reverseitemiterator", "odict_iterator", "itertools.zip_longest", "itertools.pairwise"].contains n && vs[0]? == some (rawInt _)) = true then _ else _) Q E s
           rw [if_neg (by intro h; rw [hn, Bool.false_and] at h; cases h)]
           exact wpAny_pure hQ))

/-- the list at a, as it stands at each turn (a loop may append to it) -/
def Itl (K : PySem.W.Frag) (a : Addr) : It :=
  ⟨fun i H => ∃ xs x, SqL K H a xs ∧ xs[i]? = some x, fun i H x H' => H' = H ∧ ∀ xs, SqL K H a xs → xs[i]? = some x, fun i H => ∃ xs, SqL K H a xs ∧ xs.length ≤ i⟩
def Itt (K : PySem.W.Frag) (a : Addr) : It :=
  ⟨fun i H => ∃ xs x, SqT K H a xs ∧ xs[i]? = some x, fun i H x H' => H' = H ∧ ∀ xs, SqT K H a xs → xs[i]? = some x, fun i H => ∃ xs, SqT K H a xs ∧ xs.length ≤ i⟩
/-- lo, lo + 1, .. (n of them) -/
def Itr (lo : Int) (n : Nat) : It := ⟨fun i _ => i < n, fun i H x H' => H' = H ∧ x = .int (lo + i), fun i _ => n ≤ i⟩
theorem turn_list {P : Program} {w : World} {K : PySem.W.Frag} {tg : Expr} (a it : Addr) : Turn P w K tg (Itl K a) [it] it (fun i h => h.IsListIter it a i) where
  mem := by simp
  obj := fun i h st b hb => by
    have e : b = it := by simpa using hb
    subst e
    obtain ⟨o, e, c, d⟩ := st
    exact ⟨o, e, fun v z => by rw [d] at z; cases z⟩
  keep := fun i h h' st k => st.at fun o e => k it (by simp) o e
  item := by
    intro X hP hw hK hc i pins s σ H E I hf st hg
    subst hP hw hK
    obtain ⟨xs, x, hq, hx⟩ := hg
    obtain ⟨its, rv, p, hz⟩ := I.list hq
    obtain ⟨u, hu, ru⟩ := rv.get hx
    obtain ⟨f0, f1, f2, f3, f4, f5⟩ := hf it (by simp)
    refine wpAny_pyNext_list_item st p.isList (x := u) (by simpa using hu) fun h' st' sb => ?_
    have I1 : Inv X pins σ H { s with heap := h' } := I.turned (t' := s.toks) (fun b o hb e => (sb.2 b hb).trans e) f0 f1 f3 f4 f5
    obtain ⟨o, e, c, d⟩ := id st'
    exact ⟨u, rfl, go_of (s := { s with heap := h' }) e c d (by decide) ⟨x, H, I1, ru, ⟨rfl, fun ys hy => by rw [I.list_inj hy hq]; exact hx⟩, st', fun b hb => (hf b hb).1⟩⟩
  done := by
    intro X hP hw hK hc i pins s σ H E I hf st hg
    subst hP hw hK
    obtain ⟨xs, hq, hx⟩ := hg
    obtain ⟨its, rv, p, hz⟩ := I.list hq
    obtain ⟨f0, f1, f2, f3, f4, f5⟩ := hf it (by simp)
    have hl := rv.length
    exact wpAny_pyNext_list_end (I.ok.hd hc) st p.isList (by simp; omega) fun h' eb => ⟨rfl, I.turned (t' := s.toks) (fun b o hb e => eb b o hb e) f0 f1 f3 f4 f5⟩
  self := fun _ _ _ _ _ st h => wpAny_pyIter_listiter st h
theorem turn_tuple {P : Program} {w : World} {K : PySem.W.Frag} {tg : Expr} (a it : Addr) : Turn P w K tg (Itt K a) [it] it (fun i h => h.IsTupleIter it a i) where
  mem := by simp
  obj := fun i h st b hb => by
    have e : b = it := by simpa using hb
    subst e
    obtain ⟨o, e, c, d⟩ := st
    exact ⟨o, e, fun v z => by rw [d] at z; cases z⟩
  keep := fun i h h' st k => st.at fun o e => k it (by simp) o e
  item := by
    intro X hP hw hK hc i pins s σ H E I hf st hg
    subst hP hw hK
    obtain ⟨xs, x, hq, hx⟩ := hg
    obtain ⟨its, rv, p, hz⟩ := I.tuple hq
    obtain ⟨u, hu, ru⟩ := rv.get hx
    obtain ⟨f0, f1, f2, f3, f4, f5⟩ := hf it (by simp)
    refine wpAny_pyNext_tuple_item st (show s.heap.IsTuple a its.toArray from p) (x := u) (by simpa using hu) fun h' st' sb => ?_
    have I1 : Inv X pins σ H { s with heap := h' } := I.turned (t' := s.toks) (fun b o hb e => (sb.2 b hb).trans e) f0 f1 f3 f4 f5
    obtain ⟨o, e, c, d⟩ := id st'
    exact ⟨u, rfl, go_of (s := { s with heap := h' }) e c d (by decide) ⟨x, H, I1, ru, ⟨rfl, fun ys hy => by rw [I.tuple_inj hy hq]; exact hx⟩, st', fun b hb => (hf b hb).1⟩⟩
  done := by
    intro X hP hw hK hc i pins s σ H E I hf st hg
    subst hP hw hK
    obtain ⟨xs, hq, hx⟩ := hg
    obtain ⟨its, rv, p, hz⟩ := I.tuple hq
    obtain ⟨f0, f1, f2, f3, f4, f5⟩ := hf it (by simp)
    have hl := rv.length
    exact wpAny_pyNext_tuple_end (I.ok.hd hc) st (show s.heap.IsTuple a its.toArray from p) (by simp; omega) fun h' eb => ⟨rfl, I.turned (t' := s.toks) (fun b o hb e => eb b o hb e) f0 f1 f3 f4 f5⟩
  self := fun _ _ _ _ _ st h => wpAny_pyIter_tupleiter st h
theorem turn_range {P : Program} {w : World} {K : PySem.W.Frag} {tg : Expr} (it : Addr) (lo : Int) (n : Nat) : Turn P w K tg (Itr lo n) [it] it (fun i h => IsRangeIter h it (lo + (i : Nat) * 1) ((n : Int) - (i : Nat)) 1) where
  mem := by simp
  obj := fun i h st b hb => by
    have e : b = it := by simpa using hb
    subst e
    exact ⟨_, st, fun v z => by
      have z' : Data.fields _ = Data.cell v := z
      cases z'⟩
  keep := fun i h h' st k => k it (by simp) _ st
  item := by
    intro X hP hw hK hc i pins s σ H E I hf st hg
    subst hP hw hK
    obtain ⟨f0, f1, f2, f3, f4, f5⟩ := hf it (by simp)
    have W := Walks.range (prog := X.prog) (w := X.w) (I.ok.hd hc) it lo 1 n
    refine W.item i s _ _ hg st fun v h' tk hv st' kk => ?_
    obtain ⟨t, rfl⟩ := hv
    have I1 : Inv X pins σ H { s with heap := h', toks := tk } := I.turned (fun b o hb e => kk b o (by simpa using hb) e) f0 f1 f3 f4 f5
    refine ⟨_, rfl, go_of (s := { s with heap := h', toks := tk }) (n := "range_iterator") st' rfl rfl (by decide) ⟨.int (lo + i), H, I1, ⟨t, ?_⟩, ⟨rfl, rfl⟩, st', fun b hb => (hf b hb).1⟩⟩
    rw [Int.mul_one]
  done := by
    intro X hP hw hK hc i pins s σ H E I hf st hg
    subst hP hw hK
    obtain ⟨f0, f1, f2, f3, f4, f5⟩ := hf it (by simp)
    exact wpAny_pyNext_range_end (I.ok.hd hc) st (by have : n ≤ i := hg; omega) fun h' eb => ⟨rfl, I.turned (t' := s.toks) (fun b o hb e => eb b o hb e) f0 f1 f3 f4 f5⟩
  self := fun _ _ _ _ _ st h => wpAny_pyIter_rangeiter st h
end L2

namespace L2
open PySem PySem.Spec PyProof.Rows
section
variable {X : Cx} {tg : Expr}
/-- a range object just made, walked -/
theorem range_it {pins : List (Addr × Obj)} {σ : St} {H : Hp} {s : Shared} {R : It → Hp → Prop} {E : Value → Shared → Prop} {lo hi : Int} {t u v : Tok} {tk : Nat} (I : Inv X pins σ H s) (h1 : -(2 ^ 62) ≤ lo) (h2 : lo < 2 ^ 62) (h3 : -(2 ^ 62) ≤ hi) (h4 : hi < 2 ^ 62)
    (q : R (Itr lo (hi - lo).toNat) H) : wpAny (model X.prog X.w) X.A (pyIter (.ref s.heap.objs.size)) (PIE X pins σ tg R) E { s with heap := s.heap.push { cls := .type "range", data := .fields #[.int lo t, .int hi u, .int 1 v] }, toks := tk } := by
  refine wpAny_pyIter_range (IsRange.new ..) (small_one h1 h2 h3 h4) ?_
  have I1 : Inv X pins σ H { s with heap := s.heap.push { cls := .type "range", data := .fields #[.int lo t, .int hi u, .int 1 v] }, toks := tk } := I.kept fun b o e => Heap.get?_push_of_some _ e
  refine ⟨(s.heap.push { cls := .type "range", data := .fields #[.int lo t, .int hi u, .int 1 v] }).objs.size, [(s.heap.push { cls := .type "range", data := .fields #[.int lo t, .int hi u, .int 1 v] }).objs.size], _, _, H, rfl,
    I1.kept (t' := tk) fun b o e => Heap.get?_push_of_some _ e, turn_range _ lo (hi - lo).toNat, ?_, fun b hb => ?_, q⟩
  · have e1 : lo + ((0 : Nat) : Int) * 1 = lo := by simp
    have e2 : (((hi - lo).toNat : Nat) : Int) - ((0 : Nat) : Int) = Builtin.Range.rangeSize lo hi 1 := by rw [rangeSize_one]; split <;> omega
    show IsRangeIter _ _ (lo + ((0 : Nat) : Int) * 1) ((((hi - lo).toNat : Nat) : Int) - ((0 : Nat) : Int)) 1
    rw [e1, e2]
    exact Heap.get?_push_size _ rfl
  · have e : b = (s.heap.push { cls := .type "range", data := .fields #[.int lo t, .int hi u, .int 1 v] }).objs.size := by simpa using hb
    subst e
    exact I1.fpOk (Nat.le_refl _) (I1.hok.fresh (Nat.le_refl _))
def iRng1 (ta : TA) : TI := fun σ H R => ta σ H fun vs H1 => ∃ j : Int, vs = [.int j] ∧ -(2 ^ 62) ≤ j ∧ j < 2 ^ 62 ∧ R (Itr 0 j.toNat) H1
theorem pi_range1 {a : Expr} {ta : TA} {p pos : Pos} (hg : Gl X "range") (hm : X.mg "range" = none) (ha : PA X [a] ta) (hs : starEach [a] X.env = [(false, eval a X.env)] := by rfl) : PI X tg (.Call (.Name "range" p) [a] [] pos) (iRng1 ta) := by
  intro pins s σ H R I h
  refine Call_ (ld_blt I hg hm boot_range (PyProof.Rows.callWith_type1 (thn (ha pos pins s σ H _ I h) fun us s1 ⟨vs, H1, I1, r1, q1⟩ => ?_) hs rfl))
  obtain ⟨j, e, q1, q2, q⟩ := q1
  subst e
  cases r1 with
  | cons r rr =>
    cases rr
    obtain ⟨t, rfl⟩ := r
    exact call_range_1 (range_it I1 (by omega) (by omega) q1 q2 (by simpa using q))

/-! ### for -/
/-- W: the invariant by the turn and a measure; N: what the body is to reach -/
def tFor (wi : TI) (g : TG) (tb : TS) : TS := fun D σ H => wi σ H fun J H1 => ∃ W : Nat → Nat → St → Hp → Prop, (∃ m, W 0 m σ H1) ∧ ∀ i m σ H, W i m σ H →
  (J.stop i H ∧ D.nx σ H) ∨ (J.go i H ∧ ∃ N : St → Hp → Prop, (∀ σ' H', N σ' H' → ∃ m', m' < m ∧ W (i + 1) m' σ' H') ∧ ∀ x H', J.yld i H x H' → g x σ H' fun σ2 H2 => tb { D with nx := N, ct := N, bk := D.nx } σ2 H2)
/-- the records at fp as they stand -/
def pinsAt (fp : List Addr) (h : Heap) : List (Addr × Obj) := fp.filterMap fun b => (h.get? b).map fun o => (b, o)
theorem mem_pinsAt {fp : List Addr} {h : Heap} {b : Addr} {o : Obj} (hb : b ∈ fp) (e : h.get? b = some o) : (b, o) ∈ pinsAt fp h := List.mem_filterMap.mpr ⟨b, hb, by rw [e]; rfl⟩
theorem of_pinsAt {fp : List Addr} {h : Heap} {p : Addr × Obj} (hp : p ∈ pinsAt fp h) : p.1 ∈ fp ∧ h.get? p.1 = some p.2 := by
  obtain ⟨b, hb, e⟩ := List.mem_filterMap.mp hp
  cases q : h.get? b with
  | none => rw [q] at e; cases e
  | some o =>
    rw [q] at e
    have e' : (b, o) = p := Option.some.inj e
    subst e'
    exact ⟨hb, q⟩
theorem Inv.pinned {pins : List (Addr × Obj)} {σ : St} {H : Hp} {s : Shared} {fp : List Addr} (I : Inv X pins σ H s) (hf : ∀ b ∈ fp, FpOk X pins H b) (ho : ∀ b ∈ fp, ∃ o, s.heap.get? b = some o ∧ ∀ v, o.data ≠ .cell v) : Inv X (pins ++ pinsAt fp s.heap) σ H s :=
  I.pins_of fun p hp => (List.mem_append.mp hp).elim (fun z => I.pin p (List.mem_append_right _ z)) fun z => by
    obtain ⟨hb, e⟩ := of_pinsAt z
    obtain ⟨f0, f1, f2, _⟩ := hf p.1 hb
    obtain ⟨o, e', d⟩ := ho p.1 hb
    rw [e] at e'; cases e'
    exact ⟨e, f0, f1, f2, d⟩
theorem Inv.unpinned {pins pl : List (Addr × Obj)} {σ : St} {H : Hp} {s : Shared} (I : Inv X (pins ++ pl) σ H s) : Inv X pins σ H s := I.pins_of fun p hp => I.pin p (List.mem_append_right _ (List.mem_append_left _ hp))
theorem ps_for {iter : Expr} {body : List Stmt} {wi : TI} {g : TG} {tb : TS} {pos : Pos} (hp : PassesOwn (model X.prog X.w) X.A X.env X.xe) (hc : X.calm = true) (hi : PI X tg iter wi) (hg : PG X tg g) (hb : PSs X body tb)
    (hs : ∀ x, foldedSetIterable iter X.env x = pure x := by intro _; rfl) : PS X (.For tg iter body [] pos) (tFor wi g tb) := by
  intro pins s σ H D I h
  refine wpAny_For (thn (hi pins s σ H _ I h) fun v s1 h1 => thn h1 fun itv s2 h2 => ?_) hs
  obtain ⟨it, fp, tn, J, H2, e, I2, T, st2, f2, W, ⟨m0, w0⟩, turn⟩ := h2
  subst e
  -- what stays true of the iterator's objects through the loop
  have stat : ∀ {H' : Hp}, (∀ b ∈ fp, H' b = none) → ∀ b ∈ fp, FpOk X pins H' b := fun hn b hb => ⟨hn b hb, (f2 b hb).2⟩
  refine codeAny_forLoop_any (fun n s' => ∃ i σ' H', Inv X pins σ' H' s' ∧ tn i s'.heap ∧ (∀ b ∈ fp, H' b = none) ∧ W i n σ' H') ?_ m0 ⟨0, σ, H2, I2, st2, fun b hb => (f2 b hb).1, w0⟩
  rintro n s3 ⟨i, σ3, H3, I3, st3, fr3, w3⟩
  rcases turn i n σ3 H3 w3 with ⟨stop, qn⟩ | ⟨go, N, hN, step⟩
  · refine wpAny_passesOwn hp (thn (T.done X rfl rfl rfl hc i pins s3 σ3 H3 X.xe I3 (stat fr3) st3 stop) fun r s4 ⟨hr, I4⟩ => ?_)
    subst hr
    exact wpAny_execs_nil ⟨σ3, H3, I4, qn⟩
  · refine wpAny_passesOwn hp (thn (T.item X rfl rfl rfl hc i pins s3 σ3 H3 X.xe I3 (stat fr3) st3 go) fun r s4 ⟨u, hr, h4⟩ => ?_)
    subst hr
    refine wpAny_passesOwn hp (thn h4 fun _ s5 ⟨x, H5, I5, r5, y5, st5, fr5⟩ => ?_)
    have I5' := I5.pinned (stat fr5) (T.obj _ _ st5)
    refine wpAny_passesOwn hp (thn (hg _ s5 σ3 H5 x u _ I5' r5 (step x H5 y5)) fun _ s6 ⟨σ6, H6, I6, q6⟩ => ?_)
    refine wpAny_passesOwn hp (thn (hb _ s6 σ6 H6 _ I6 q6) fun f s7 q7 => ?_)
    have again : ∀ {σ7 : St} {H7 : Hp}, Inv X (pins ++ pinsAt fp s5.heap) σ7 H7 s7 → N σ7 H7 → ∃ m, m < n ∧ ∃ i σ' H', Inv X pins σ' H' s7 ∧ tn i s7.heap ∧ (∀ b ∈ fp, H' b = none) ∧ W i m σ' H' := fun {σ7 H7} I7 n7 => by
      obtain ⟨m', hm, w7⟩ := hN σ7 H7 n7
      refine ⟨m', hm, i + 1, σ7, H7, I7.unpinned, T.keep _ _ _ st5 fun b hb o e => (I7.pin (b, o) (List.mem_append_right _ (List.mem_append_right _ (mem_pinsAt hb e)))).1, fun b hb => ?_, w7⟩
      obtain ⟨o, e, d⟩ := T.obj _ _ st5 b hb
      exact (I7.pin (b, o) (List.mem_append_right _ (List.mem_append_right _ (mem_pinsAt hb e)))).2.1
    cases f with
    | next => obtain ⟨σ7, H7, I7, n7⟩ := q7; exact again I7 n7
    | cont => obtain ⟨σ7, H7, I7, n7⟩ := q7; exact again I7 n7
    | brk => obtain ⟨σ7, H7, I7, q7⟩ := q7; exact ⟨σ7, H7, I7.unpinned, q7⟩
    | ret v => obtain ⟨x7, σ7, H7, I7, r7, q7⟩ := q7; exact ⟨x7, σ7, H7, I7.unpinned, r7, q7⟩
end

/-! ### the forms one uses -/
end L2

namespace L2
open PySem PySem.Spec PyProof.Rows

abbrev R2 := V → V → Hp → VK → Prop
/-- a two-place operation on values: f is binaryOp op, inplaceOp op or compareOp op -/
def OpR (X : Cx) (f : Value → Value → Sem Value) (r : R2) : Prop :=
  ∀ (pins : List (Addr × Obj)) (s : Shared) (σ : St) (H : Hp) (x y : V) (v u : Value) (Q : VK), Inv X pins σ H s → RelV x v → RelV y u → r x y H Q →
    wpAny (model X.prog X.w) X.A (f v u) (EP X pins σ Q) X.xe s
/-- a one-place operation -/
def UnR (X : Cx) (f : Value → Sem Value) (r : V → Hp → VK → Prop) : Prop :=
  ∀ (pins : List (Addr × Obj)) (s : Shared) (σ : St) (H : Hp) (x : V) (v : Value) (Q : VK), Inv X pins σ H s → RelV x v → r x H Q →
    wpAny (model X.prog X.w) X.A (f v) (EP X pins σ Q) X.xe s
/-- a call of a value that is known (a builtin, a type) with values -/
def CallR (X : Cx) (f : Value) (r : List V → Hp → VK → Prop) : Prop :=
  ∀ (pins : List (Addr × Obj)) (s : Shared) (σ : St) (H : Hp) (xs : List V) (us : List Value) (Q : VK), Inv X pins σ H s → Vals xs us → r xs H Q →
    wpAny (model X.prog X.w) X.A (call f us) (EP X pins σ Q) X.xe s
/-- a value's truth -/
def TruR (X : Cx) (r : V → Hp → (Bool → Hp → Prop) → Prop) : Prop :=
  ∀ (pins : List (Addr × Obj)) (s : Shared) (σ : St) (H : Hp) (x : V) (v : Value) (Q : Bool → Hp → Prop), Inv X pins σ H s → RelV x v → r x H Q →
    wpAny (model X.prog X.w) X.A (truthy v) (TP X pins σ Q) X.xe s

def tOp (r : R2) (ta tb : TE) : TE := fun σ H Q => ta σ H fun x H1 => tb σ H1 fun y H2 => r x y H2 Q
def tUn (r : V → Hp → VK → Prop) (ta : TE) : TE := fun σ H Q => ta σ H fun x H1 => r x H1 Q
/-- ints in, under C, and a value out -/
def rI (C : Int → Int → Prop) (g : Int → Int → V) : R2 := fun x y H Q => ∃ i j, x = .int i ∧ y = .int j ∧ C i j ∧ Q (g i j) H
def rI0 (g : Int → Int → V) : R2 := fun x y H Q => ∃ i j, x = .int i ∧ y = .int j ∧ Q (g i j) H
def rU (g : Int → V) : V → Hp → VK → Prop := fun x H Q => ∃ i, x = .int i ∧ Q (g i) H

section
variable {X : Cx} {a b c : Expr} {ta tb tc : TE} {pos : Pos}

theorem binT (ha : PE X a ta) (hb : PE X b tb) {pins : List (Addr × Obj)} {s : Shared} {σ : St} {H : Hp} {R : V → V → Hp → Prop} (I : Inv X pins σ H s)
    (h : ta σ H fun x H1 => tb σ H1 fun y H2 => R x y H2) {Q : Value → Shared → Prop} {f : Value → Value → Sem Value}
    (hf : ∀ v u s2 x y H2, Inv X pins σ H2 s2 → RelV x v → RelV y u → R x y H2 → wpAny (model X.prog X.w) X.A (f v u) Q X.xe s2) :
    wpAny (model X.prog X.w) X.A (eval a X.env) (fun v s₁ => wpAny (model X.prog X.w) X.A (eval b X.env) (fun u s₂ => wpAny (model X.prog X.w) X.A (f v u) Q X.xe s₂) X.xe s₁) X.xe s := by
  refine thn (ha pins s σ H _ I h) fun v s1 ⟨x, H1, I1, r1, q1⟩ => ?_
  refine thn (hb pins s1 σ H1 _ I1 q1) fun u s2 ⟨y, H2, I2, r2, q2⟩ => ?_
  exact hf v u s2 x y H2 I2 r1 r2 q2

theorem pe_op {op : Operator} {r : R2} (ho : OpR X (binaryOp op) r) (ha : PE X a ta) (hb : PE X b tb) : PE X (.BinOp a op b pos) (tOp r ta tb) := by
  intro pins s σ H Q I h
  exact wpAny_BinOp (binT ha hb I h fun v u s2 x y H2 I2 rx ry q => ho pins s2 σ H2 x y v u Q I2 rx ry q)
theorem pe_un {op : UnaryOp} {r : V → Hp → VK → Prop} (ho : UnR X (unaryOp op) r) (ha : PE X a ta) : PE X (.UnaryOp op a pos) (tUn r ta) := by
  intro pins s σ H Q I h
  exact UnaryOp_ (thn (ha pins s σ H _ I h) fun v s1 ⟨x, H1, I1, r1, q1⟩ => ho pins s1 σ H1 x v Q I1 r1 q1)

/-! ### ints -/
theorem opI {f : Value → Value → Sem Value} {C : Int → Int → Prop} {g : Int → Int → Int}
    (rule : ∀ (i j : Int) (t u : Tok) (s : Shared) (Q : Value → Shared → Prop) (E : Value → Shared → Prop), C i j → Q (.int (g i j) s.toks) { s with toks := s.toks + 1 } → wpAny (model X.prog X.w) X.A (f (.int i t) (.int j u)) Q E s) :
    OpR X f (rI C fun i j => .int (g i j)) := by
  intro pins s σ H x y v u Q I rx ry h
  obtain ⟨i, j, rfl, rfl, hc, q⟩ := h
  obtain ⟨t, rfl⟩ := rx
  obtain ⟨t', rfl⟩ := ry
  exact rule i j t t' s _ _ hc ⟨.int (g i j), H, I.tok _, ⟨_, rfl⟩, q⟩
theorem opI0 {f : Value → Value → Sem Value} {g : Int → Int → Int}
    (rule : ∀ (i j : Int) (t u : Tok) (s : Shared) (Q : Value → Shared → Prop) (E : Value → Shared → Prop), Q (.int (g i j) s.toks) { s with toks := s.toks + 1 } → wpAny (model X.prog X.w) X.A (f (.int i t) (.int j u)) Q E s) :
    OpR X f (rI0 fun i j => .int (g i j)) := by
  intro pins s σ H x y v u Q I rx ry h
  obtain ⟨i, j, rfl, rfl, q⟩ := h
  obtain ⟨t, rfl⟩ := rx
  obtain ⟨t', rfl⟩ := ry
  exact rule i j t t' s _ _ ⟨.int (g i j), H, I.tok _, ⟨_, rfl⟩, q⟩
theorem opB0 {f : Value → Value → Sem Value} {g : Int → Int → Bool}
    (rule : ∀ (i j : Int) (t u : Tok) (s : Shared) (Q : Value → Shared → Prop) (E : Value → Shared → Prop), Q (.bool (g i j)) s → wpAny (model X.prog X.w) X.A (f (.int i t) (.int j u)) Q E s) :
    OpR X f (rI0 fun i j => .bl (g i j)) := by
  intro pins s σ H x y v u Q I rx ry h
  obtain ⟨i, j, rfl, rfl, q⟩ := h
  obtain ⟨t, rfl⟩ := rx
  obtain ⟨t', rfl⟩ := ry
  exact rule i j t t' s _ _ ⟨.bl (g i j), H, I, rfl, q⟩

def CDiv (i j : Int) : Prop := 0 < j ∧ j < 1073741824
def CPow (i j : Int) : Prop := 0 ≤ j ∧ j ≤ 1000000 ∧ i.natAbs < 2 ^ 64
def CMul (i j : Int) : Prop := (-(2 ^ 64) < i ∧ i < 2 ^ 64) ∨ (-(2 ^ 64) < j ∧ j < 2 ^ 64)
theorem CMul.ok {i j : Int} (h : CMul i j) : IntMulOk i j := by
  rcases h with ⟨h1, h2⟩ | ⟨h1, h2⟩
  · exact .of_left (intBits_le_64 h1 h2)
  · exact .of_right (intBits_le_64 h1 h2)

theorem op_add : OpR X (binaryOp .Add) (rI0 fun i j => .int (i + j)) := opI0 fun _ _ _ _ _ _ _ q => add_int q
theorem op_sub : OpR X (binaryOp .Sub) (rI0 fun i j => .int (i - j)) := opI0 fun _ _ _ _ _ _ _ q => sub_int q
theorem op_mul : OpR X (binaryOp .Mult) (rI CMul fun i j => .int (i * j)) := opI fun _ _ _ _ _ _ _ hc q => mul_int q hc.ok
/-- // by a positive divisor -/
theorem op_fdiv : OpR X (binaryOp .FloorDiv) (rI CDiv fun i j => .int (i / j)) := opI fun i j _ _ _ _ _ hc q => by
  have h1 : (0 : Int) < j := hc.1
  have h2 : j < 1073741824 := hc.2
  exact floordiv_int (by omega) (by rw [Int.fdiv_eq_ediv_of_nonneg i (by omega)]; exact q) (.inl (PyProof.noPylong_small (by omega)))
/-- % by a positive divisor of any size -/
theorem op_mod : OpR X (binaryOp .Mod) (rI (fun _ j => 0 < j) fun i j => .int (i % j)) := opI fun i j _ _ _ _ _ hc q => by
  have h1 : (0 : Int) < j := hc
  exact mod_int' (by omega) (by rw [Int.fmod_eq_emod_of_nonneg i (by omega)]; exact q)
theorem op_pow : OpR X (binaryOp .Pow) (rI CPow fun i j => .int (i ^ j.toNat)) := opI fun _ _ _ _ _ _ _ hc q => pow_int_small hc.1 hc.2.1 hc.2.2 q


theorem unI {f : Value → Sem Value} {g : Int → Int}
    (rule : ∀ (i : Int) (t : Tok) (s : Shared) (Q : Value → Shared → Prop) (E : Value → Shared → Prop), Q (.int (g i) s.toks) { s with toks := s.toks + 1 } → wpAny (model X.prog X.w) X.A (f (.int i t)) Q E s) :
    UnR X f (rU fun i => .int (g i)) := by
  intro pins s σ H x v Q I rx h
  obtain ⟨i, rfl, q⟩ := h
  obtain ⟨t, rfl⟩ := rx
  exact rule i t s _ _ ⟨.int (g i), H, I.tok _, ⟨_, rfl⟩, q⟩
theorem un_neg : UnR X (unaryOp .USub) (rU fun i => .int (-i)) := unI fun _ _ _ _ _ q => neg_int q

/-! ### bools among ints: n += (a < b) -/
end

/-! ### comparisons -/
/-- the scalars that == tells apart as data does -/
def scal : V → V → Bool
  | .non, .non => true | .non, .int _ => true | .int _, .non => true | .non, .bl _ => true | .bl _, .non => true | .non, .str _ => true | .str _, .non => true
  | .int _, .int _ => true | .bl _, .bl _ => true | .str _, .str _ => true | .byt _, .byt _ => true
  | .int _, .str _ => true | .str _, .int _ => true | .bl _, .str _ => true | .str _, .bl _ => true
  | _, _ => false
def rEq : R2 := fun x y H Q => scal x y = true ∧ Q (.bl (decide (x = y))) H
def rNe : R2 := fun x y H Q => scal x y = true ∧ Q (.bl (!decide (x = y))) H

theorem dec_int {i j : Int} : decide (V.int i = V.int j) = (i == j) := by
  rw [Bool.eq_iff_iff]
  simp
theorem dec_bl {i j : Bool} : decide (V.bl i = V.bl j) = (i == j) := by
  rw [Bool.eq_iff_iff]
  simp
theorem dec_str {i j : Str} : decide (V.str i = V.str j) = (i == j) := by
  rw [Bool.eq_iff_iff]
  simp
theorem dec_byt {i j : Array UInt8} : decide (V.byt i = V.byt j) = (i.toList == j.toList) := by
  rw [Bool.eq_iff_iff]
  cases i
  cases j
  simp

section
variable {X : Cx} {a b c : Expr} {ta tb tc : TE} {pos : Pos}
theorem fin_bl {pins : List (Addr × Obj)} {σ : St} {H : Hp} {s : Shared} {Q : VK} {k k' : Bool} (I : Inv X pins σ H s) (q : Q (.bl k) H) (e : k = k') : EP X pins σ Q (.bool k') s := by
  subst e
  exact ⟨.bl k, H, I, rfl, q⟩
theorem op_eq : OpR X (compareOp .Eq) rEq := by
  intro pins s σ H x y v u Q I rx ry h
  obtain ⟨hs, q⟩ := h
  cases x with
  | non =>
    cases rx
    cases y with
    | non => cases ry; exact PySem.EqNone.eq_none_none (fin_bl I q (by simp))
    | bl j => cases ry; exact PySem.EqNone.eq_none_bool (fin_bl I q (by simp))
    | int j => obtain ⟨t', rfl⟩ := ry; exact PySem.EqNone.eq_none_int (fin_bl I q (by simp))
    | str j => obtain ⟨t', rfl⟩ := ry; exact PySem.EqNone.eq_none_str (fin_bl I q (by simp))
    | _ => exact absurd (show false = true from hs) Bool.false_ne_true
  | bl i =>
    cases rx
    cases y with
    | non => cases ry; exact PySem.EqNone.eq_bool_none (fin_bl I q (by simp))
    | bl j => cases ry; exact eq_bool (fin_bl I q dec_bl)
    | str j => obtain ⟨t', rfl⟩ := ry; exact PySem.EqMixed.eq_bool_str (fin_bl I q (by simp))
    | _ => exact absurd (show false = true from hs) Bool.false_ne_true
  | int i =>
    obtain ⟨t, rfl⟩ := rx
    cases y with
    | non => cases ry; exact PySem.EqNone.eq_int_none (fin_bl I q (by simp))
    | int j => obtain ⟨t', rfl⟩ := ry; exact eq_int (fin_bl I q dec_int)
    | str j => obtain ⟨t', rfl⟩ := ry; exact PySem.EqMixed.eq_int_str (fin_bl I q (by simp))
    | _ => exact absurd (show false = true from hs) Bool.false_ne_true
  | str i =>
    obtain ⟨t, rfl⟩ := rx
    cases y with
    | non => cases ry; exact PySem.EqNone.eq_str_none (fin_bl I q (by simp))
    | bl j => cases ry; exact PySem.EqMixed.eq_str_bool (fin_bl I q (by simp))
    | int j => obtain ⟨t', rfl⟩ := ry; exact PySem.EqMixed.eq_str_int (fin_bl I q (by simp))
    | str j => obtain ⟨t', rfl⟩ := ry; exact eq_str (fin_bl I q dec_str)
    | _ => exact absurd (show false = true from hs) Bool.false_ne_true
  | byt i =>
    obtain ⟨t, rfl⟩ := rx
    cases y with
    | byt j => obtain ⟨t', rfl⟩ := ry; exact PySem.W.eq_bytes (fin_bl I q dec_byt)
    | _ => exact absurd (show false = true from hs) Bool.false_ne_true
  | _ => cases y <;> exact absurd (show false = true from hs) Bool.false_ne_true
theorem op_ne : OpR X (compareOp .NotEq) rNe := by
  intro pins s σ H x y v u Q I rx ry h
  obtain ⟨hs, q⟩ := h
  cases x with
  | non =>
    cases rx
    cases y with
    | non => cases ry; exact PySem.EqNone.ne_none_none (fin_bl I q (by simp))
    | bl j => cases ry; exact PySem.EqNone.ne_none_bool (fin_bl I q (by simp))
    | int j => obtain ⟨t', rfl⟩ := ry; exact PySem.EqNone.ne_none_int (fin_bl I q (by simp))
    | str j => obtain ⟨t', rfl⟩ := ry; exact PySem.EqNone.ne_none_str (fin_bl I q (by simp))
    | _ => exact absurd (show false = true from hs) Bool.false_ne_true
  | bl i =>
    cases rx
    cases y with
    | non => cases ry; exact PySem.EqNone.ne_bool_none (fin_bl I q (by simp))
    | bl j => cases ry; exact ne_bool (fin_bl I q (congrArg not dec_bl))
    | str j => obtain ⟨t', rfl⟩ := ry; exact PySem.EqMixed.ne_bool_str (fin_bl I q (by simp))
    | _ => exact absurd (show false = true from hs) Bool.false_ne_true
  | int i =>
    obtain ⟨t, rfl⟩ := rx
    cases y with
    | non => cases ry; exact PySem.EqNone.ne_int_none (fin_bl I q (by simp))
    | int j => obtain ⟨t', rfl⟩ := ry; exact ne_int (fin_bl I q (congrArg not dec_int))
    | str j => obtain ⟨t', rfl⟩ := ry; exact PySem.EqMixed.ne_int_str (fin_bl I q (by simp))
    | _ => exact absurd (show false = true from hs) Bool.false_ne_true
  | str i =>
    obtain ⟨t, rfl⟩ := rx
    cases y with
    | non => cases ry; exact PySem.EqNone.ne_str_none (fin_bl I q (by simp))
    | bl j => cases ry; exact PySem.EqMixed.ne_str_bool (fin_bl I q (by simp))
    | int j => obtain ⟨t', rfl⟩ := ry; exact PySem.EqMixed.ne_str_int (fin_bl I q (by simp))
    | str j => obtain ⟨t', rfl⟩ := ry; exact ne_str (fin_bl I q (congrArg not dec_str))
    | _ => exact absurd (show false = true from hs) Bool.false_ne_true
  | byt i =>
    obtain ⟨t, rfl⟩ := rx
    cases y with
    | byt j => obtain ⟨t', rfl⟩ := ry; exact PySem.W.ne_bytes (fin_bl I q (congrArg not dec_byt))
    | _ => exact absurd (show false = true from hs) Bool.false_ne_true
  | _ => cases y <;> exact absurd (show false = true from hs) Bool.false_ne_true

theorem op_lt : OpR X (compareOp .Lt) (rI0 fun i j => .bl (decide (i < j))) := opB0 fun _ _ _ _ _ _ _ q => lt_int q
theorem op_le : OpR X (compareOp .LtE) (rI0 fun i j => .bl (decide (i ≤ j))) := opB0 fun _ _ _ _ _ _ _ q => le_int q
theorem op_gt : OpR X (compareOp .Gt) (rI0 fun i j => .bl (decide (j < i))) := opB0 fun _ _ _ _ _ _ _ q => gt_int q
theorem op_ge : OpR X (compareOp .GtE) (rI0 fun i j => .bl (decide (j ≤ i))) := opB0 fun _ _ _ _ _ _ _ q => ge_int q




/-- a comparison as a value; hm: nomark b, or (for in, not in) by with_unfolding_all rfl -/
theorem pe_cmpR {op : CmpOp} {r : R2} (ho : OpR X (compareOp op) r) (ha : PE X a ta) (hb : PE X b tb) (hm : behindInMarks op b = false) : PE X (.Compare a [op] [b] pos) (tOp r ta tb) := by
  intro pins s σ H Q I h
  exact wpAny_Compare1 (binT ha hb I h fun v u s2 x y H2 I2 rx ry q => ho pins s2 σ H2 x y v u Q I2 rx ry q) hm
/-- a reading of a value as a test -/
def tTest (t : TE) : TT := fun σ H Q => t σ H fun x H' => ∃ k, x = .bl k ∧ Q k H'
theorem pt_cmpR {op : CmpOp} {r : R2} (ho : OpR X (compareOp op) r) (ha : PE X a ta) (hb : PE X b tb) (hm : behindInMarks op b = false) : PT X (.Compare a [op] [b] pos) (tTest (tOp r ta tb)) := by
  intro pins s σ H Q I h
  refine wpAny_isTrue_Compare1 (thn (ha pins s σ H _ I h) fun v s1 ⟨x, H1, I1, r1, q1⟩ => thn (hb pins s1 σ H1 _ I1 q1) fun u s2 ⟨y, H2, I2, r2, q2⟩ =>
    thn (ho pins s2 σ H2 x y v u _ I2 r1 r2 q2) fun c s3 ⟨z, H3, I3, r3, k, e, q3⟩ => ?_) hm
  subst e
  cases r3
  exact wpAny_truthy_bool ⟨H3, I3, q3⟩

/-! ### truth -/
/-- a value's truth by the abstract heap -/
def TruV (K : PySem.W.Frag) (x : V) (H : Hp) (k : Bool) : Prop :=
  match x with
  | .non => k = false
  | .bl b => k = b
  | .int i => k = (i != 0)
  | .str y => y.length ≤ sizeLine ∧ k = ((y.length : Int) != 0)
  | .byt y => y.size ≤ sizeLine ∧ k = ((y.size : Int) != 0)
  | .ref p => (∃ xs, SqL K H p xs ∧ k = !xs.isEmpty) ∨ (∃ xs, SqT K H p xs ∧ k = !xs.isEmpty) ∨ ∃ kvs, H p = some (.dK kvs) ∧ k = !kvs.isEmpty
  | _ => False
theorem isEmpty_kv {κ : Type} {kvs : List (κ × V)} {vs : List (κ × Value)} (r : KV kvs vs) : (!vs.isEmpty) = !kvs.isEmpty := by
  cases r <;> rfl
theorem isEmpty_of {xs : List V} {its : List Value} (r : Vals xs its) : (!its.toArray.isEmpty) = !xs.isEmpty := by
  cases r <;> simp
theorem line63 : (sizeLine : Nat) < 2 ^ 63 := by rw [sizeLine_eq]; decide
theorem tru_ok : TruR X (fun x H Q => ∃ k, TruV X.K x H k ∧ Q k H) := by
  intro pins s σ H x v Q I rx h
  obtain ⟨k, e, q⟩ := h
  have hl := line63
  have hs : sizeLine = 16777216 := sizeLine_eq
  cases x with
  | non =>
    cases rx
    have e' : k = false := e
    subst e'
    exact truthy_none ⟨H, I, q⟩
  | bl b =>
    cases rx
    have e' : k = b := e
    subst e'
    exact wpAny_truthy_bool ⟨H, I, q⟩
  | int i =>
    obtain ⟨t, rfl⟩ := rx
    have e' : k = (i != 0) := e
    subst e'
    exact PySem.P.truthy_int ⟨H, I, q⟩
  | str y =>
    obtain ⟨t, rfl⟩ := rx
    obtain ⟨hy, e'⟩ : y.length ≤ sizeLine ∧ k = ((y.length : Int) != 0) := e
    subst e'
    exact PySem.P.truthy_str (by omega) ⟨H, I.tok _, q⟩
  | byt y =>
    obtain ⟨t, rfl⟩ := rx
    obtain ⟨hy, e'⟩ : y.size ≤ sizeLine ∧ k = ((y.size : Int) != 0) := e
    subst e'
    exact PySem.W.truthy_bytes (by omega) ⟨H, I.tok _, q⟩
  | ref p =>
    cases rx
    have e' : (∃ xs, SqL X.K H p xs ∧ k = !xs.isEmpty) ∨ (∃ xs, SqT X.K H p xs ∧ k = !xs.isEmpty) ∨ ∃ kvs, H p = some (.dK kvs) ∧ k = !kvs.isEmpty := e
    rcases e' with ⟨xs, hx, e'⟩ | ⟨xs, hx, e'⟩ | ⟨kvs, hx, e'⟩
    · subst e'
      obtain ⟨its, r, pl, hz⟩ := I.list hx
      have hlen := r.length
      exact wpAny_truthy_list pl.isList (by simp only [List.size_toArray]; omega) ⟨H, I.tok _, by rw [isEmpty_of r]; exact q⟩
    · subst e'
      obtain ⟨its, r, pl, hz⟩ := I.tuple hx
      have hlen := r.length
      exact truthy_tuple pl (by simp only [List.size_toArray]; omega) ⟨H, I.tok _, by rw [isEmpty_of r]; exact q⟩
    · subst e'
      obtain ⟨hz, hS, vs, r, m⟩ : kvs.length ≤ sizeLine ∧ (p == sysModules) = false ∧ ∃ vs, KV kvs vs ∧ s.heap.DictOf (mixKind X.prog X.w) p vs := I.hok p _ hx
      have hlen : kvs.length = vs.length := Paired.length r
      exact wpAny_truthy_dict hS m (by omega) ⟨H, I.tok _, by rw [isEmpty_kv r]; exact q⟩
  | _ => exact (show False from e).elim
/-- any expression whose test is its value's truth (a name, a call, a subscript, a field ..: he by fun _ => rfl) -/
theorem pt_truth (ha : PE X a ta) (he : ∀ whole, isTrue a X.env whole = (do let v ← whole; standAt a.pos; holding [v] (truthy v))) :
    PT X a (fun σ H Q => ta σ H fun x H' => ∃ k, TruV X.K x H' k ∧ Q k H') := by
  intro pins s σ H Q I h
  exact isTrue_plain (thn (ha pins s σ H _ I h) fun v s1 ⟨x, H1, I1, r1, q1⟩ => tru_ok pins s1 σ H1 x v Q I1 r1 q1) (he _)

/-! ### strs and bytes -/


/-! ### scalar builtins, by CallR -/
theorem vals1 {x : V} {us : List Value} (r : Vals [x] us) : ∃ u, us = [u] ∧ RelV x u := by
  cases r with
  | cons r1 r2 => cases r2; exact ⟨_, rfl, r1⟩
theorem vals2 {x y : V} {us : List Value} (r : Vals [x, y] us) : ∃ u w', us = [u, w'] ∧ RelV x u ∧ RelV y w' := by
  cases r with
  | cons r1 r2 =>
    cases r2 with
    | cons r3 r4 => cases r4; exact ⟨_, _, rfl, r1, r3⟩
theorem call_abs : CallR X (.builtin "abs") (fun xs H Q => ∃ i, xs = [.int i] ∧ Q (.int (if i < 0 then -i else i)) H) := by
  intro pins s σ H xs us Q I r h
  obtain ⟨i, rfl, q⟩ := h
  obtain ⟨u, rfl, t, rfl⟩ := vals1 r
  exact call_abs_int fun u tk => ⟨.int (if i < 0 then -i else i), H, I.tok _, ⟨_, rfl⟩, q⟩
theorem call_max2 (hc : X.calm = true) : CallR X (.builtin "max") (fun xs H Q => ∃ i j, xs = [.int i, .int j] ∧ Q (.int (if j > i then j else i)) H) := by
  intro pins s σ H xs us Q I r h
  obtain ⟨i, j, rfl, q⟩ := h
  obtain ⟨u, w', rfl, ⟨t, rfl⟩, ⟨t', rfl⟩⟩ := vals2 r
  refine max_two_ints (I.ok.hd hc) fun h' tk k => ⟨_, H, I.kept k, ?_, q⟩
  by_cases hj : j > i
  · rw [if_pos hj, if_pos hj]; exact ⟨_, rfl⟩
  · rw [if_neg hj, if_neg hj]; exact ⟨_, rfl⟩
theorem call_min2 (hc : X.calm = true) : CallR X (.builtin "min") (fun xs H Q => ∃ i j, xs = [.int i, .int j] ∧ Q (.int (if j < i then j else i)) H) := by
  intro pins s σ H xs us Q I r h
  obtain ⟨i, j, rfl, q⟩ := h
  obtain ⟨u, w', rfl, ⟨t, rfl⟩, ⟨t', rfl⟩⟩ := vals2 r
  refine min_two_ints (I.ok.hd hc) fun h' tk k => ⟨_, H, I.kept k, ?_, q⟩
  by_cases hj : j < i
  · rw [if_pos hj, if_pos hj]; exact ⟨_, rfl⟩
  · rw [if_neg hj, if_neg hj]; exact ⟨_, rfl⟩
theorem call_int1 : CallR X (.type "int") (fun xs H Q => (∃ i, xs = [.int i] ∧ Q (.int i) H) ∨ ∃ k, xs = [.bl k] ∧ Q (.int (if k then 1 else 0)) H) := by
  intro pins s σ H xs us Q I r h
  rcases h with ⟨i, rfl, q⟩ | ⟨k, rfl, q⟩
  · obtain ⟨u, rfl, t, rfl⟩ := vals1 r
    exact call_int_int ⟨.int i, H, I, ⟨_, rfl⟩, q⟩
  · obtain ⟨u, rfl, r1⟩ := vals1 r
    cases r1
    exact call_int_bool ⟨.int (if k then 1 else 0), H, I.tok _, ⟨_, rfl⟩, q⟩
end
end L2

namespace L2
open PySem PySem.Spec PyProof.Rows

/-! ### an instance, its attributes a map -/
structure ObjM (h : Heap) (x dx C : Addr) (mA : Str → Option Value) : Prop where
  obj : h.get? x = some (PySem.W.instObj C dx)
  ns : h.Ns1 dx mA
  ne : dx ≠ x

theorem lookIn_ns {h : Heap} {dx : Addr} {mA : Str → Option Value} (n : h.Ns1 dx mA) : ∃ od, h.get? dx = some od ∧ ∀ name, PySem.W.lookIn name od = some (mA name) := by
  obtain ⟨o, es, ep, ho, hd, hk, _, hm⟩ := n
  refine ⟨o, ho, fun name => ?_⟩
  have e := hm name
  unfold nsFind findBy at e
  rw [← Array.find?_toList] at e
  unfold PySem.W.lookIn
  rw [hd]
  dsimp only
  split
  · rename_i y q
    rw [q] at e
    exact congrArg some e
  · rename_i q
    rw [q] at e
    have a : es.toList.any (·.refKey) = false := by
      rw [List.any_eq_false]
      intro y hy
      obtain ⟨z, t, hkey⟩ := hk y (Array.mem_toList_iff.mp hy)
      simp [DictEntry.refKey, hkey]
    have a' : ¬ es.toList.any (·.refKey) = true := by rw [a]; exact Bool.false_ne_true
    rw [if_neg a']
    exact congrArg some e

theorem ObjM.look {h : Heap} {x dx C : Addr} {mA : Str → Option Value} (I : ObjM h x dx C mA) : ∃ od, PySem.W.InstAt h x (PySem.W.instObj C dx) C (some od) ∧ ∀ name, PySem.W.lookIn name od = some (mA name) :=
  let ⟨od, ho, hl⟩ := lookIn_ns I.ns
  ⟨od, ⟨I.obj, rfl, rfl, ho⟩, hl⟩

section
variable {prog : Program} {w : World} {A : Around} {E : Value → Shared → Prop} {s : Shared} {K : PySem.W.Frag} {x dx C f : Addr} {mA : Str → Option Value} {name : Str} {v : Value}





end

/-! ### the attributes as a list of pairs -/


section
variable {P : Program} {w : World} {H H' : Hp} {h h' : Heap} {a C dx : Addr} {fs fs' : List (Str × V)}
theorem ins_get (hok : HOk P w H h) (e : H a = some (.ins C dx fs)) : ∃ mA, ObjM h a dx C mA ∧ (∀ f, RelO (fs.lookup f) (mA f)) ∧ PySem.Within mA (fs.map (·.1)) ∧ fs.length ≤ 1000 ∧ H dx = some (.own a) := by
  obtain ⟨d, z, ne, ob, mA, n, r, q⟩ := (show ObjOk P w H h a (.ins C dx fs) from hok a _ e)
  exact ⟨mA, ⟨ob, n, ne⟩, r, q, z, d⟩
end

/-! ### what of the text a class must have -/
structure Cls (K : PySem.W.Frag) (C : Addr) : Prop where
  pg : PySem.W.plainGet K C Str.empty = true
  hd : PySem.W.hasDictIn K C = true
  po : PySem.W.plainOver K C = true
  sa : PySem.W.findIn K (.ref C) "__setattr__" = some (some (.builtin "object.__setattr__"))
theorem Cls.get {K : PySem.W.Frag} {C : Addr} (c : Cls K C) (f : Str) : PySem.W.plainGet K C f = true := c.pg

section
variable {X : Cx} {pins : List (Addr × Obj)} {σ : St} {H : Hp} {s : Shared} {a C dx : Addr} {fs : List (Str × V)} {f : Str} {v : V} {A : Around} {E : Value → Shared → Prop}






end

/-! ### readings and rules -/

section
variable {X : Cx} {o e value : Expr} {f : Str} {pos pos' tpos : Pos} {ta tv : TE}

end

/-! ### isinstance -/
section
variable {X : Cx} {pins : List (Addr × Obj)} {σ : St} {H : Hp} {s : Shared} {A : Around} {E : Value → Shared → Prop} {Q : Value → Shared → Prop} {c : Value} {b : Bool}
/-- the type of a value, as the fragment's deciders take it; for an instance its class -/
inductive TyOf (K : PySem.W.Frag) (H : Hp) : V → Value → Prop where
  | non : TyOf K H .non (.type "NoneType")
  | bl (x : Bool) : TyOf K H (.bl x) (.type "bool")
  | int (i : Int) : TyOf K H (.int i) (.type "int")
  | str (x : Str) : TyOf K H (.str x) (.type "str")
  | flt (x : UInt64) : TyOf K H (.flt x) (.type "float")
  | lst {a : Addr} {xs : List V} (e : H a = some (.lst xs)) : TyOf K H (.ref a) (.type "list")
  | frz {a : Addr} {o : Obj} {xs : List V} (e : H a = some (.frz o (.lst xs))) : TyOf K H (.ref a) (.type "list")
  | tup {a : Addr} {xs : List V} (e : H a = some (.tup xs)) : TyOf K H (.ref a) (.type "tuple")
  | dK {a : Addr} {kvs : List (Key × V)} (e : H a = some (.dK kvs)) : TyOf K H (.ref a) (.type "dict")
  | dT {a : Addr} {kvs : List (List Key × V)} (e : H a = some (.dT kvs)) : TyOf K H (.ref a) (.type "dict")
  | ins {a C dx : Addr} {fs : List (Str × V)} (e : H a = some (.ins C dx fs)) (cl : Cls K C) (ha : PySem.W.findIn K (.ref C) "__class__" = some (some (.builtin "object.__class__")))
      (hn : PySem.W.specialIn K (.builtin "object.__class__") "__get__" = some (some (.builtin "getset_descriptor.__get__"))) (htk : PySem.W.takesIn K (.builtin "object.__class__") = some true)
      (hm : PySem.W.mroIn K C (.type "object") = some true) : TyOf K H (.ref a) (.ref C)
/-- isinstance(x, c) for one class c, a built-in or an own one: kitOne's answer -/
theorem isinst_ok {x : V} {u t : Value} (I : Inv X pins σ H s) (rx : RelV x u) (ty : TyOf X.K H x t) (e : PySem.W.kitOne X.K t c = some b) (h : ∀ tk, Q (.bool b) { s with toks := tk }) :
    wpAny (model X.prog X.w) A (call (.builtin "isinstance") [u, c]) Q E s := by
  cases ty with
  | non => cases (show u = Value.none from rx); exact PySem.W.kia_one PySem.W.kitx_none I.kIn True.intro e (fun z => nomatch z) h
  | bl y => cases (show u = Value.bool y from rx); exact PySem.W.kia_one PySem.W.kitx_bool I.kIn True.intro e (fun z => nomatch z) h
  | int i => obtain ⟨t, q⟩ := (show ∃ t, u = Value.int i t from rx); cases q; exact PySem.W.kia_one PySem.W.kitx_int I.kIn True.intro e (fun z => nomatch z) h
  | str y => obtain ⟨t, q⟩ := (show ∃ t, u = Value.str y t from rx); cases q; exact PySem.W.kia_one PySem.W.kitx_str I.kIn True.intro e (fun z => nomatch z) h
  | flt y => obtain ⟨t, q⟩ := (show ∃ t, u = Value.float y t from rx); cases q; exact PySem.W.kia_one PySem.W.kitx_float I.kIn True.intro e (fun z => nomatch z) h
  | @lst a xs ea =>
    cases (show u = Value.ref a from rx)
    obtain ⟨_, _, n, _, h1⟩ := (show ObjOk X.prog X.w H s.heap a (.lst xs) from I.hok a _ ea)
    exact PySem.W.kia_one PySem.W.kitx_list I.kIn ⟨_, h1, rfl⟩ e (fun z => nomatch z) h
  | @frz a ob xs ea =>
    cases (show u = Value.ref a from rx)
    obtain ⟨_, _, _, n, _, h1⟩ := (show ObjOk X.prog X.w H s.heap a (.frz ob (.lst xs)) from I.hok a _ ea)
    exact PySem.W.kia_one PySem.W.kitx_list I.kIn ⟨_, h1, rfl⟩ e (fun z => nomatch z) h
  | @tup a xs ea =>
    cases (show u = Value.ref a from rx)
    obtain ⟨_, _, _, p⟩ := (show ObjOk X.prog X.w H s.heap a (.tup xs) from I.hok a _ ea)
    obtain ⟨o, h1, h2, _⟩ := p
    exact PySem.W.kia_one PySem.W.kitx_tuple I.kIn ⟨o, h1, h2⟩ e (fun z => nomatch z) h
  | @dK a kvs ea =>
    cases (show u = Value.ref a from rx)
    obtain ⟨_, _, vs, _, p⟩ := (show ObjOk X.prog X.w H s.heap a (.dK kvs) from I.hok a _ ea)
    obtain ⟨o, es, ep, h1, h2, _⟩ := p
    exact PySem.W.kia_one PySem.W.kitx_dict I.kIn ⟨o, h1, h2.1⟩ e (fun z => nomatch z) h
  | @dT a kvs ea =>
    cases (show u = Value.ref a from rx)
    obtain ⟨_, _, xs, _, o, es, ep, h1, h2, _⟩ := (show ObjOk X.prog X.w H s.heap a (.dT kvs) from I.hok a _ ea)
    exact PySem.W.kia_one PySem.W.kitx_dict I.kIn ⟨o, h1, h2.1⟩ e (fun z => nomatch z) h
  | @ins a C dx fs ea cl ha hn htk hm =>
    cases (show u = Value.ref a from rx)
    obtain ⟨mA, O, _⟩ := ins_get I.hok ea
    obtain ⟨od, J, _⟩ := O.look
    exact PySem.W.kia_one (PySem.W.kitx_own (cl.get _) cl.hd ha hn htk hm) I.kIn J e (fun z => nomatch z) h
end
end L2

namespace L2
open PySem PySem.Spec PyProof.Rows

/-! ### room -/
structure Room (k : Nat) (A : Around) : Prop where
  hd : A.handled = none
  dp : A.depth + 3 * k + 5 < recursionLimit
  un : A.units + 16 * k + 200 < cLine
theorem Room.deeper {k : Nat} {A : Around} (r : Room (k + 1) A) (env : Env) : Room k (A.deeper env) :=
  ⟨r.hd, by have := r.dp; show A.depth + 1 + 3 * k + 5 < _; omega, by have := r.un; show A.units + 3 + 16 * k + 200 < _; omega⟩
theorem Room.depth {k : Nat} {A : Around} (r : Room k A) : A.depth < recursionLimit := by have := r.dp; omega

/-! ### argument lists and displays -/
def tNil : TA := fun _ H Q => Q [] H
def tCons (ta : TE) (tr : TA) : TA := fun σ H Q => ta σ H fun x H1 => tr σ H1 fun xs H2 => Q (x :: xs) H2
section
variable {X : Cx} {e : Expr} {es : List Expr} {te : TE} {t : TA} {pos : Pos}
theorem pa_nil : PA X [] tNil := fun _ _ _ _ H Q I h => Calls.spliced_nil ⟨[], H, I, .nil, h⟩
theorem pa_cons (ha : PE X e te) (hr : PA X es t) (hs : starEach (e :: es) X.env = (false, eval e X.env) :: starEach es X.env := by rfl) : PA X (e :: es) (tCons te t) := by
  intro pos pins s σ H Q I h
  rw [hs]
  show wpAny _ _ (spliced ((false, eval e X.env) :: backTo pos (starEach es X.env))) _ _ s
  refine Calls.spliced_cons (thn (ha pins s σ H _ I h) fun u s1 ⟨x, H1, I1, r1, q1⟩ => ?_)
  exact thn (hr pos pins s1 σ H1 _ I1 q1) fun us s2 ⟨xs, H2, I2, r2, q2⟩ => ⟨x :: xs, H2, I2, .cons r1 r2, q2⟩

/-- a tuple, a list of written items -/
def tTup (t : TA) : TE := fun σ H Q => t σ H fun xs H1 => xs.length ≤ sizeLine ∧ ∀ p, H1 p = none → Q (.ref p) (upd H1 p (.tup xs))
def tLst (t : TA) : TE := fun σ H Q => t σ H fun xs H1 => xs.length ≤ sizeLine ∧ ∀ p, H1 p = none → Q (.ref p) (upd H1 p (.lst xs))
theorem pe_tup {x1} (h : PA X es t) : PE X (.Tuple es x1 pos) (tTup t) := by
  intro pins s σ H Q I hq
  refine wpAny_Tuple_spliced (thn (h pos pins s σ H _ I hq) fun us s1 ⟨xs, H1, I1, r, z, q⟩ => ⟨by rw [← r.length]; exact z, ?_⟩)
  have hf : H1 s1.heap.objs.size = none := I1.hok.fresh (Nat.le_refl _)
  refine ⟨.ref s1.heap.objs.size, upd H1 s1.heap.objs.size (.tup xs), I1.laid (t' := s1.toks) (fun b u e => Heap.get?_push_of_some _ e) (Nat.le_refl _) ?_, rfl, q _ hf⟩
  exact ⟨z, us, r, ⟨_, Heap.get?_push_size _ rfl, rfl, _, rfl⟩⟩
theorem pe_lst (h : PA X es t) : PE X (.List es pos) (tLst t) := by
  intro pins s σ H Q I hq
  refine wpAny_List_spliced (thn (h pos pins s σ H _ I hq) fun us s1 ⟨xs, H1, I1, r, z, q⟩ => ⟨by rw [← r.length]; exact z, ?_⟩)
  have hf : H1 s1.heap.objs.size = none := I1.hok.fresh (Nat.le_refl _)
  refine ⟨.ref s1.heap.objs.size, upd H1 s1.heap.objs.size (.lst xs), I1.laid (t' := s1.toks) (fun b u e => Heap.get?_push_of_some _ e) (Nat.le_refl _) ?_, rfl, q _ hf⟩
  exact ⟨z, us, 0, r, Heap.get?_push_size _ rfl⟩
end

/-! ### what a def promises -/
/-- a def's promise: the bound arguments in the parameters' order, the heap, the wanted end, the wanted exception -/
abbrev Sp := List V → Hp → VK → XK → Prop
/-- how an exception lies behind a call (file 08 gives it): the callers' frames, abstract heap and state ahead of the call, the wish, the exception, the state -/
abbrev CXT := List Env → Hp → Shared → XK → Value → Shared → Prop

/-- the state at a call -/
structure Env0 (P : Program) (w : World) (K : PySem.W.Frag) (mg : Str → Option Value) (base : Heap) (A : Around) (outer : List Env) (s : Shared) (H : Hp) : Prop where
  frames : A.frames = some outer
  mod : Mod K mg base
  bs : ∀ b o, base.get? b = some o → s.heap.get? b = some o ∧ H b = none
  bsz : base.objs.size ≤ s.heap.objs.size
  funs : s.heap.FunFrames base outer
  frf : ∀ b ∈ frs outer, H b = none
  hok : HOk P w H s.heap
  bare : AllBare s.gens
/-- a call's end -/
def CE (outer : List Env) (P : Program) (w : World) (H : Hp) (s : Shared) (Q : VK) (u : Value) (s' : Shared) : Prop :=
  ∃ v H', s'.os = s.os ∧ AllBare s'.gens ∧ Un (frs outer) [] H H' s.heap s'.heap ∧ HOk P w H' s'.heap ∧ RelV v u ∧ Q v H'
def CR (CX : CXT) (outer : List Env) (P : Program) (w : World) (H : Hp) (s : Shared) (Q : VK) (E : XK) (r : Result) (s' : Shared) : Prop :=
  match r with
  | .ok (.ret u) => CE outer P w H s Q u s'
  | .ok _ => False
  | .error e => CX outer H s E e s'
structure FnOk (P : Program) (w : World) (K : PySem.W.Frag) (mg : Str → Option Value) (base : Heap) (CX : CXT) (k : Nat) (f : Addr) (fd : FuncData) (ps : List Str) (sp : Sp) : Prop where
  len : ∀ vs H Q E, sp vs H Q E → vs.length = ps.length
  run : ∀ (A : Around) (outer : List Env) (s : Shared) (H : Hp) (args : Args) (us : List Value) (vs : List V) (Q : VK) (E : XK), Room k A → Env0 P w K mg base A outer s H → BindsTo s fd args (ps.zip us) → Vals vs us → sp vs H Q E →
    codeAny (model P w) A (.call (.ref f) args) (CR CX outer P w H s Q E) s


section
variable {X : Cx} {pins : List (Addr × Obj)} {σ : St} {H : Hp} {s s' : Shared}
/-- from a body: what a callee wants -/
theorem Inv.env0 (I : Inv X pins σ H s) : Env0 X.prog X.w X.K X.mg X.base X.A X.stack s H :=
  ⟨I.ok.frames, I.ok.mod, I.bs, Nat.le_trans I.ok.bsz I.sz, I.stack, I.stkFree, I.hok, I.bare⟩
/-- behind a call -/
theorem Inv.after {Q : VK} {u : Value} (I : Inv X pins σ H s) (h : CE X.stack X.prog X.w H s Q u s') : EP X pins σ Q u s' := by
  obtain ⟨v, H', os, bare, un, hok, r, q⟩ := h
  obtain ⟨hh, g, d, t, os'⟩ := s'
  obtain rfl : os' = s.os := os
  exact ⟨v, H', I.call (h' := hh) (g' := g) (d' := d) (t' := t) (ch := []) un hok bare (fun b z => absurd z (by simp)), r, q⟩
end

/-! ### calls -/
/-- f(..): the written arguments, then the defaults dvs; E: what is wanted of an exception -/
def tCall (sp : Sp) (dvs : List V) (E : XK) (t : TA) : TE := fun σ H Q => t σ H fun vs H1 => sp (vs ++ dvs) H1 Q E

/-- how the parameters are bound: us the positional arguments, kw the keywords' values by name, ds the defaults that fill up -/
def Binds (K : PySem.W.Frag) (fd : FuncData) (ps : List Str) (ds : List Value) : Prop :=
  ∀ (s : Shared) (us : List Value), K.In s.heap → (us ++ ds).length = ps.length → BindsTo s fd ⟨us, []⟩ (ps.zip (us ++ ds))
/-- every parameter is given -/
theorem Binds.all {K : PySem.W.Frag} {fd : FuncData} {ps : List Str} (h : ∀ us : List Value, us.length = ps.length → bindArgs fd ⟨us, []⟩ = pure (ps.zip us)) : Binds K fd ps [] := fun s us _ hl => by
  rw [List.append_nil] at hl ⊢
  exact .of_eq (h us hl)

/-- an exception of a callee reaches what this body wants of exceptions -/
def Passes (CX : CXT) (X : Cx) (E : XK) : Prop := ∀ (pins : List (Addr × Obj)) (σ : St) (H : Hp) (s : Shared) (e : Value) (s' : Shared), Inv X pins σ H s → CX X.stack H s E e s' → X.xe e s'

section
variable {X : Cx} {CX : CXT} {k : Nat} {f C : Addr} {fd : FuncData} {ps : List Str} {sp : Sp} {dvs : List V} {ds : List Value} {E : XK} {x m : Str} {p pos apos : Pos} {e o : Expr} {es : List Expr} {ta : TE} {t : TA}

/-- the callee runs -/
theorem run_fn {pins : List (Addr × Obj)} {σ : St} {H : Hp} {s : Shared} {Q : VK} {us : List Value} {vs : List V} (F : FnOk X.prog X.w X.K X.mg X.base CX k f fd ps sp) (hr : Room k X.A) (hb : Binds X.K fd ps ds) (hd : Vals dvs ds) (hx : Passes CX X E)
    (I : Inv X pins σ H s) (r : Vals vs us) (h : sp (vs ++ dvs) H Q E) : wpAny (model X.prog X.w) X.A (call (.ref f) us) (EP X pins σ Q) X.xe s := by
  have r2 : Vals (vs ++ dvs) (us ++ ds) := r.append hd
  have hl : (us ++ ds).length = ps.length := by rw [← r2.length]; exact F.len _ _ _ _ h
  refine wpAny_call (codeAny_mono (F.run X.A X.stack s H ⟨us, []⟩ (us ++ ds) (vs ++ dvs) Q E hr I.env0 (hb s us I.kIn hl) r2 h) fun r s' hq => ?_)
  cases r with
  | error e => exact hx pins σ H s e s' I hq
  | ok fl =>
    cases fl with
    | ret u => exact I.after hq
    | next => exact False.elim hq
    | brk => exact False.elim hq
    | cont => exact False.elim hq

theorem pe_call (F : FnOk X.prog X.w X.K X.mg X.base CX k f fd ps sp) (hr : Room k X.A) (hg : Gl X x) (hm : X.mg x = some (.ref f)) (hk : PySem.W.keepIn X.K (.ref f) = true) (hb : Binds X.K fd ps ds) (hd : Vals dvs ds) (hx : Passes CX X E)
    (ha : PA X (e :: es) t) (hdb : (x == ("__debug__" : Str)) = false := by decide) (he : starEach (e :: es) X.env = (false, eval e X.env) :: starEach es X.env := by rfl) (hpl : (backTo pos (starEach es X.env)).any (·.1) = false := by rfl) :
    PE X (.Call (.Name x p) (e :: es) [] pos) (tCall sp dvs E t) := by
  intro pins s σ H Q I h
  refine wpAny_Call_Name_kw (ld_glob I hg hm ?_ hdb)
  refine PySem.W.callWith_K (h₀ := X.base) I.ok.mod.kin hk (thn (ha pos pins s σ H _ I h) fun us s1 ⟨vs, H1, I1, r, q⟩ => ⟨I1.kIn, ?_⟩) he hpl
  exact run_fn F hr hb hd hx I1 r q



end

/-! ### keywords -/
section
variable {X : Cx} {CX : CXT} {k : Nat} {f C : Addr} {fd : FuncData} {ps ks : List Str} {sp : Sp} {E : XK} {x m : Str} {p pos apos kpos : Pos} {e o : Expr} {es : List Expr} {kws : List Keyword} {te ta : TE} {t tk : TA} {nm : Option Str}

variable {g : List Value → List Value → List Value} {gV : List V → List V → List V}
end

/-! ### a def's body keeps its promise -/
/-- names: the parameters first -/
structure FnScope (N P : List Str) (sc : Scope) : Prop where
  kind : sc.kind = .function
  co : sc.isCoroutine = false
  gen : sc.isGenerator = false
  nd : N.Nodup
  pre : N.take P.length = P
  par : ∀ x ∈ P, sc.names.lookup x = some .local ∨ sc.names.lookup x = some .cell
  nofree : ∀ y ∈ sc.names, y.2 ≠ .free

theorem bindL_out {kindOf : Str → Option NameKind} {x : Str} : ∀ {binds : List (Str × Value)} {m : Str → Option Value}, (∀ v, (x, v) ∉ binds) → bindL kindOf binds m x = m x
  | [], _, _ => rfl
  | (n, v) :: r, m, h => by
    unfold bindL
    rw [bindL_out fun w hw => h w (List.mem_cons_of_mem _ hw)]
    split
    · have : x ≠ n := by rintro rfl; exact h v List.mem_cons_self
      simp [this]
    · rfl
theorem bindC_out {kindOf : Str → Option NameKind} {x : Str} : ∀ {binds : List (Str × Value)} {m : Str → Option Value}, (∀ v, (x, v) ∉ binds) → bindC kindOf binds m x = m x
  | [], _, _ => rfl
  | (n, v) :: r, m, h => by
    unfold bindC
    rw [bindC_out fun w hw => h w (List.mem_cons_of_mem _ hw)]
    split
    · rfl
    · have : x ≠ n := by rintro rfl; exact h v List.mem_cons_self
      simp [this]
theorem bindL_get {kindOf : Str → Option NameKind} {x : Str} {v : Value} : ∀ {P : List Str} {vs : List Value} {i : Nat} {m : Str → Option Value}, P.Nodup → P[i]? = some x → vs[i]? = some v → kindOf x = some .local →
    bindL kindOf (P.zip vs) m x = some v
  | [], _, _, _, _, h, _, _ => by simp at h
  | _ :: _, [], _, _, _, _, h, _ => by simp at h
  | p :: P, w :: vs, 0, m, nd, h1, h2, hk => by
    simp at h1 h2; subst h1; subst h2
    show bindL kindOf ((p, w) :: P.zip vs) m p = _
    unfold bindL
    rw [bindL_out fun v hv => (List.nodup_cons.mp nd).1 (List.of_mem_zip hv).1, if_pos hk]
    simp
  | p :: P, w :: vs, i + 1, m, nd, h1, h2, hk => by
    show bindL kindOf ((p, w) :: P.zip vs) m x = _
    unfold bindL
    exact bindL_get (i := i) (List.nodup_cons.mp nd).2 (by simpa using h1) (by simpa using h2) hk
theorem bindC_get {kindOf : Str → Option NameKind} {x : Str} {v : Value} : ∀ {P : List Str} {vs : List Value} {i : Nat} {m : Str → Option Value}, P.Nodup → P[i]? = some x → vs[i]? = some v → kindOf x ≠ some .local →
    bindC kindOf (P.zip vs) m x = some v
  | [], _, _, _, _, h, _, _ => by simp at h
  | _ :: _, [], _, _, _, _, h, _ => by simp at h
  | p :: P, w :: vs, 0, m, nd, h1, h2, hk => by
    simp at h1 h2; subst h1; subst h2
    show bindC kindOf ((p, w) :: P.zip vs) m p = _
    unfold bindC
    rw [bindC_out fun v hv => (List.nodup_cons.mp nd).1 (List.of_mem_zip hv).1, if_neg hk]
    simp
  | p :: P, w :: vs, i + 1, m, nd, h1, h2, hk => by
    show bindC kindOf ((p, w) :: P.zip vs) m x = _
    unfold bindC
    exact bindC_get (i := i) (List.nodup_cons.mp nd).2 (by simpa using h1) (by simpa using h2) hk

/-- the names' values at the entry -/
def start (N : List Str) (vs : List V) : St := vs.map some ++ List.replicate (N.length - vs.length) none

/-- the context of a def's body, at its entry; an exception leaves the frame, then lies as CX says -/
def cxOf (CX : CXT) (P : Program) (w : World) (K : PySem.W.Frag) (mg : Str → Option Value) (base : Heap) (N : List Str) (qual : Str) (scope : Scope) (f : Addr) (cd : Value) (A : Around) (outer : List Env) (s : Shared) (H : Hp) (E : XK) : Cx where
  prog := P
  w := w
  K := K
  mg := mg
  base := base
  A := A.deeper (envOfC qual scope s.heap.objs.size f cd)
  N := N
  s₀ := s
  H₀ := H
  env := envOfC qual scope s.heap.objs.size f cd
  outer := outer
  stack := envOfC qual scope s.heap.objs.size f cd :: outer
  ex := []
  calm := true
  fn := fun _ => true
  pn := []
  xe := fun e s' => wpAny (model P w) (A.deeper (envOfC qual scope s.heap.objs.size f cd)) (leaving (envOfC qual scope s.heap.objs.size f cd) e) (fun _ s'' => CX outer H s E e s'') (fun e' s'' => CX outer H s E e' s'') s'

theorem cell_has {sc : Scope} {n : Nat} {x : Str} (h : sc.names.lookup x = some .cell) : ∃ c, (cellsFrom n sc.names []).lookup x = some c := by
  have q := PySem.W.cellsFrom_some sc.names n [] (.inl h)
  exact Option.isSome_iff_exists.mp q

theorem inv_start {CX : CXT} {P : Program} {w : World} {K : PySem.W.Frag} {mg : Str → Option Value} {base : Heap} {N ps : List Str} {qual : Str} {scope : Scope} {f : Addr} {cd : Value} {A : Around} {outer : List Env} {s s1 : Shared} {H : Hp} {E : XK} {us : List Value} {vs : List V}
    (S : FnScope N ps scope) (hd : A.handled = none) (e0 : Env0 P w K mg base A outer s H) (hl : vs.length = ps.length) (r : Vals vs us)
    (x : InCallC s s.heap.objs.size (bindL (envOfC qual scope s.heap.objs.size f cd).kindOf (ps.zip us) fun _ => none) (cellsFrom (s.heap.objs.size + 1) scope.names []) (bindC (envOfC qual scope s.heap.objs.size f cd).kindOf (ps.zip us) fun _ => none) s1) :
    Inv (cxOf CX P w K mg base N qual scope f cd A outer s H E) [] (start N vs) H s1 := by
  have hpl : ps.length ≤ N.length := by have := congrArg List.length S.pre; rw [List.length_take] at this; omega
  obtain ⟨h1, tk, rfl, hk⟩ := x.done
  have noA : ∀ b : Addr, b ∉ (cxOf CX P w K mg base N qual scope f cd A outer s H E).ex := fun b z => absurd (show b ∈ ([] : List Addr) from z) (by simp)
  refine ⟨⟨e0.mod, S.kind, rfl, rfl, Nat.le_refl _, fun y z c h1 h2 => ?_, fun y hy => ?_, fun y c _ h => ?_, fun _ => hd, Around.frames_deeper e0.frames, .inr ⟨rfl, rfl⟩, fun b z => absurd z (noA b), e0.bs, e0.bsz, fun b _ _ => noA b, fun b z => absurd z (noA b), e0.funs, e0.frf⟩,
    rfl, e0.bare, Un.kept hk, ⟨_, x.toInCall.ns, fun i y v h1 h2 h3 => ?_⟩, fun y c h => ⟨_, x.cell y c h⟩, e0.hok.fresh (Nat.le_refl _), fun y c h => ?_, fun p hp => absurd (show p ∈ ([] : List (Addr × Obj)) from hp) (by simp), e0.hok.kept hk, ?_⟩
  · exact name_of_addr x.apart (PySem.mem_of_lookup h1) (PySem.mem_of_lookup h2)
  · have hy : scope.names.lookup y = some .cell ∨ scope.names.lookup y = some .free := hy
    rcases hy with hy | hy
    · exact cell_has hy
    · exact absurd rfl (S.nofree _ (PySem.mem_of_lookup hy))
  · exact Nat.le_of_lt (x.above y c (PySem.mem_of_lookup h))
  · have hi : i < vs.length := by
      unfold start at h2
      by_cases hi : i < vs.length
      · exact hi
      · rw [List.getElem?_append_right (by simpa using hi)] at h2
        rw [List.getElem?_replicate] at h2
        split at h2 <;> cases h2
    have ha : vs[i]? = some v := by
      unfold start at h2
      rw [List.getElem?_append_left (by simpa using hi), List.getElem?_map] at h2
      cases e : vs[i]? with
      | none => rw [e] at h2; cases h2
      | some a => rw [e] at h2; cases h2; rfl
    obtain ⟨u, hu, rv⟩ := r.get ha
    have hp : ps[i]? = some y := by
      rw [← S.pre, List.getElem?_take_of_lt (by omega)]; exact h1
    have ndP : ps.Nodup := by rw [← S.pre]; exact S.nd.sublist (List.take_sublist _ _)
    refine ⟨u, rv, ?_⟩
    rcases S.par y (List.mem_of_getElem? hp) with k | k
    · exact .inl ⟨k, bindL_get ndP hp hu k⟩
    · obtain ⟨c, e⟩ := cell_has (n := s.heap.objs.size + 1) k
      refine .inr ⟨.inl k, c, e, ?_⟩
      have q := x.cell y c e
      rw [bindC_get ndP hp hu (by show scope.names.lookup y ≠ _; rw [k]; decide)] at q
      exact q
  · exact e0.hok.fresh (Nat.le_of_lt (x.above y c (PySem.mem_of_lookup h)))
  · unfold start
    show _ = N.length
    rw [List.length_append, List.length_map, List.length_replicate]
    omega

/-- THE RULE: a def (or a method) of the text, by its body. The body's reading t is chosen for each entry; it is run at the parameters' values -/
theorem fn_of {CX : CXT} {P : Program} {w : World} {K : PySem.W.Frag} {mg : Str → Option Value} {base : Heap} {k : Nat} {f : Addr} {name qual : Str} {params : Arguments} {body : List Stmt} {scope : Scope} {dV kV doc pm cdv ct oc : Value} {an od : Option Addr}
    {osl : Array (Option Value)} {N ps : List Str} {sp : Sp} (lk : K.lookup f = some ⟨oc, od, .func (PySem.W.fnOf name qual params body scope dV kV doc pm an cdv ct), osl⟩) (hcd : PySem.W.codeIn K cdv qual = true) (S : FnScope N ps scope)
    (len : ∀ vs H Q E, sp vs H Q E → vs.length = ps.length)
    (hbody : ∀ (A : Around) (outer : List Env) (s : Shared) (H : Hp) (vs : List V) (Q : VK) (E : XK), Room k (A.deeper (envOfC qual scope s.heap.objs.size f cdv)) → sp vs H Q E →
      ∃ t, PSs (cxOf CX P w K mg base N qual scope f cdv A outer s H E) body t ∧ t { nx := fun _ H' => Q .non H', rt := Q } (start N vs) H) :
    FnOk P w K mg base CX (k + 1) f (PySem.W.fnOf name qual params body scope dV kV doc pm an cdv ct) ps sp := by
  refine ⟨len, fun A outer s H args us vs Q E hr e0 hb r hsp => ?_⟩
  have hl := len _ _ _ _ hsp
  have KX : K.In s.heap := e0.mod.kin.keeps fun b o e => (e0.bs b o e).1
  have lim : s.heap.NoLimit := e0.mod.nolimit.keeps fun b o e => (e0.bs b o e).1
  have hkind : ∀ y ∈ ps.zip us, scope.names.lookup y.1 = some .local ∨ (scope.names.lookup y.1 = some .cell ∧ ((cellsFrom (s.heap.objs.size + 1) scope.names []).lookup y.1).isSome = true) := fun ⟨n, v⟩ hy => by
    rcases S.par n (List.of_mem_zip hy).1 with q | q
    · exact .inl q
    · exact .inr ⟨q, PySem.W.cellsFrom_some _ _ _ (.inl q)⟩
  refine codeAny_call_function hr.depth (KX _ _ lk) rfl S.co S.gen rfl (PySem.W.codeRec_of KX hcd) (hb _ _ _ _ ?_)
  refine wpAny_newFunctionEnv_cells S.kind hkind fun env he s1 x => ?_
  subst he
  refine ⟨lim.keeps x.toInCall.keep, codeAny_func ?_⟩
  obtain ⟨t, ht, hq⟩ := hbody A outer s H vs Q E (hr.deeper _) hsp
  have I : Inv (cxOf CX P w K mg base N qual scope f cdv A outer s H E) [] (start N vs) H s1 := inv_start S hr.hd e0 hl r x
  refine wpAny_mono (ht [] s1 (start N vs) H _ I hq) (fun fl s' hs => ?_) fun e s' hs => hs
  have fin : ∀ {σ' : St} {H' : Hp} {v : V} {u : Value}, Inv (cxOf CX P w K mg base N qual scope f cdv A outer s H E) [] σ' H' s' → RelV v u → Q v H' → CE outer P w H s Q u s' :=
    fun {σ' H' v u} J rv q => ⟨v, H', J.os, J.bare, J.base, J.hok, rv, q⟩
  cases fl with
  | ret u =>
    obtain ⟨v, σ', H', J, rv, q⟩ := hs
    exact fin J rv q
  | next =>
    obtain ⟨σ', H', J, q⟩ := hs
    exact fin (v := V.non) (u := Value.none) J rfl q
  | brk =>
    obtain ⟨_, _, _, q⟩ := hs
    exact False.elim q
  | cont =>
    obtain ⟨_, _, _, q⟩ := hs
    exact False.elim q
end L2

namespace L2
open PySem PySem.Spec PyProof.Rows
section
variable {X : Cx} {x : Str} {p pos : Pos} {e : Expr} {es : List Expr} {t : TA} {id T : String} {r : List V → Hp → VK → Prop}

def tCB (r : List V → Hp → VK → Prop) (t : TA) : TE := fun σ H Q => t σ H fun vs H1 => r vs H1 Q
/-- f(e, ..), f a built-in function -/
theorem pe_callB (hc : CallR X (.builtin id) r) (hg : Gl X x) (hm : X.mg x = none) (hv : bootBuiltins x = some (.builtin id)) (ha : PA X (e :: es) t) (hn : x ≠ "__name__" := by decide) (hdb : (x == ("__debug__" : Str)) = false := by decide)
    (he : starEach (e :: es) X.env = (false, eval e X.env) :: starEach es X.env := by rfl) (hpl : (backTo pos (starEach es X.env)).any (·.1) = false := by rfl) : PE X (.Call (.Name x p) (e :: es) [] pos) (tCB r t) := by
  intro pins s σ H Q I h
  refine wpAny_Call_Name_kw (ld_blt I hg hm hv ?_ hn hdb)
  exact PyProof.Rows.callWith_builtin1 (thn (ha pos pins s σ H _ I h) fun us s1 ⟨vs, H1, I1, r1, q1⟩ => hc pins s1 σ H1 vs us Q I1 r1 q1) he hpl
/-- T(e, ..), T a built-in type -/
theorem pe_callTy (hc : CallR X (.type T) r) (hg : Gl X x) (hm : X.mg x = none) (hv : bootBuiltins x = some (.type T)) (ha : PA X (e :: es) t) (hn : x ≠ "__name__" := by decide) (hdb : (x == ("__debug__" : Str)) = false := by decide)
    (he : starEach (e :: es) X.env = (false, eval e X.env) :: starEach es X.env := by rfl) (hpl : (backTo pos (starEach es X.env)).any (·.1) = false := by rfl) : PE X (.Call (.Name x p) (e :: es) [] pos) (tCB r t) := by
  intro pins s σ H Q I h
  refine wpAny_Call_Name_kw (ld_blt I hg hm hv ?_ hn hdb)
  exact PyProof.Rows.callWith_type1 (thn (ha pos pins s σ H _ I h) fun us s1 ⟨vs, H1, I1, r1, q1⟩ => hc pins s1 σ H1 vs us Q I1 r1 q1) he hpl
end
end L2

namespace HT
open PySem PyProof.Rows



section
open PySem.SeqAt
open PySem.AutoSeq1 (wpAny_loadPart')
open PySem.MeetsSeq PySem.MeetsSeq2 PySem.MeetsSeq3

end

section
variable {prog : Program} {w : World} {A : Around} {E : Value → Shared → Prop} {s : Shared}


/-- t + u, t not empty -/
theorem cat_tup {t b : Addr} {vs ws : List Value} {Q : Value → Shared → Prop} (ht : IsTup s.heap t vs.toArray) (hb : IsTup s.heap b ws.toArray) (hv : vs ≠ [])
    (h1 : ws = [] → Q (.ref t) s) (h2 : ws ≠ [] → Q (.ref s.heap.objs.size) { s with heap := s.heap.push { cls := .type "tuple", data := .seq (vs ++ ws).toArray } })
    (hsz : vs.length + ws.length ≤ sizeLine) : wpAny (model prog w) A (binaryOp .Add (.ref t) (.ref b)) Q E s := by
  obtain ⟨⟨cls, dd, data, sl⟩, ho, hc, n, hd⟩ := id ht
  obtain ⟨⟨cls2, dd2, data2, sl2⟩, ho2, hc2, n2, hd2⟩ := id hb
  simp only at hc hd hc2 hd2
  subst hc hd hc2 hd2
  have e : vs.toArray ++ ws.toArray = (vs ++ ws).toArray := by simp
  by_cases hw : ws = []
  · exact concat_meets ⟨_, ho, rfl⟩ ⟨_, ho2, rfl⟩ noFill_tuple_add seq_tuple_add PySem.F.slot_tuple_add PySem.F.entry_tuple_add (PySem.F.args_tuple_add_2 _ _)
      (tuple_addW1 t b vs.toArray ws.toArray n n2 dd dd2 sl sl2 (by simpa using hv) (by simp [hw])) ⟨ho, ho2, h1 hw⟩
  · refine concat_meets ⟨_, ho, rfl⟩ ⟨_, ho2, rfl⟩ noFill_tuple_add seq_tuple_add PySem.F.slot_tuple_add PySem.F.entry_tuple_add (PySem.F.args_tuple_add_2 _ _)
      (tuple_addW2 t b vs.toArray ws.toArray n n2 dd dd2 sl sl2 (by simpa using hv) (by simpa using hw) (by rw [List.size_toArray, List.size_toArray]; exact hsz)) ⟨ho, ho2, ?_⟩
    rw [e]
    exact h2 hw

/-! ### t[a:b], not the whole -/

end
end HT

namespace L2
open PySem PySem.Spec PyProof.Rows

/-! ### the parts of a slice -/


section
variable {X : Cx} {e : Expr} {te : TE} {lo hi : Option Expr} {tl th : TO} {pos p2 : Pos}




/-! ### t < u, t + u -/
/-- t + u, t not empty: u empty gives t itself -/
def rCatT (K : PySem.W.Frag) : R2 := fun x y H Q => ∃ a b xs ys, x = .ref a ∧ y = .ref b ∧ SqT K H a xs ∧ SqT K H b ys ∧ xs ≠ [] ∧ xs.length + ys.length ≤ sizeLine ∧
  (ys = [] → Q (.ref a) H) ∧ (ys ≠ [] → ∀ p, H p = none → Q (.ref p) (upd H p (.tup (xs ++ ys))))
theorem Vals.nil_iff {xs : List V} {us : List Value} (r : Vals xs us) : us = [] ↔ xs = [] := by
  cases r with
  | nil => simp
  | cons _ _ => simp
theorem op_catT : OpR X (binaryOp .Add) (rCatT X.K) := by
  intro pins s σ H x y v u Q I rx ry h
  obtain ⟨a, b, xs, ys, rfl, rfl, ha, hb, hx, hz, q1, q2⟩ := h
  cases rx
  cases ry
  obtain ⟨its, r1, p1, _⟩ := I.tuple ha
  obtain ⟨its2, r2, p2, _⟩ := I.tuple hb
  refine HT.cat_tup p1 p2 (fun z => hx (r1.nil_iff.mp z)) (fun z => ⟨.ref a, H, I, rfl, q1 (r2.nil_iff.mp z)⟩) (fun z => ?_) (by rw [← r1.length, ← r2.length]; exact hz)
  refine ⟨.ref s.heap.objs.size, _, I.laid (t' := s.toks) (o := .tup (xs ++ ys)) (fun b ob q => Heap.get?_push_of_some _ q) (Nat.le_refl _) ?_, rfl, q2 (fun w => z (r2.nil_iff.mpr w)) _ (I.hok.fresh (Nat.le_refl _))⟩
  exact ⟨by rw [List.length_append]; exact hz, _, r1.append r2, IsTup.new _ _⟩
end
end L2

namespace L2
open PySem PySem.Spec PyProof.Rows

/-! ### places -/
/-- the place that an index of any sign means -/
def ixN (n : Nat) (i : Int) : Option Nat := if 0 ≤ i then (if i < n then some i.toNat else none) else if -(n : Int) ≤ i then some (i + n).toNat else none
def atI {α : Type} (xs : List α) (i : Int) : Option α := (ixN xs.length i).bind fun j => xs[j]?
theorem ixN_seq {n : Nat} {i : Int} {j : Nat} (h : ixN n i = some j) : seqIndex? i n = some j ∧ j < n ∧ -(n : Int) ≤ i ∧ i < n := by
  unfold ixN at h
  by_cases h0 : 0 ≤ i
  · rw [if_pos h0] at h
    by_cases h1 : i < n
    · rw [if_pos h1] at h
      have e : i.toNat = j := Option.some.inj h
      exact ⟨by rw [seqIndex_of h0 h1, e], by omega, by omega, h1⟩
    · rw [if_neg h1] at h; cases h
  · rw [if_neg h0] at h
    by_cases h1 : -(n : Int) ≤ i
    · rw [if_pos h1] at h
      have e : (i + n).toNat = j := Option.some.inj h
      exact ⟨by rw [seqIndex_neg (by omega) h1, e], by omega, h1, by omega⟩
    · rw [if_neg h1] at h; cases h
theorem atI_get {α : Type} {xs : List α} {i : Int} {v : α} (h : atI xs i = some v) : ∃ j, seqIndex? i xs.length = some j ∧ xs[j]? = some v ∧ j < xs.length ∧ -(xs.length : Int) ≤ i ∧ i < xs.length := by
  unfold atI at h
  cases e : ixN xs.length i with
  | none => rw [e] at h; cases h
  | some j =>
    rw [e] at h
    obtain ⟨h1, h2, h3, h4⟩ := ixN_seq e
    exact ⟨j, h1, h, h2, h3, h4⟩

/-! ### what may be subscripted -/
/-- what stands as an index of a plain subscript -/
def PlainIx (b : Expr) : Prop := ∀ o i, subscripted b false o i = operate [o, i] (getItem o i)
/-- a subscript by values -/
def IxR (X : Cx) (r : R2) : Prop :=
  ∀ (value slice : Expr) (pins : List (Addr × Obj)) (s : Shared) (σ : St) (H : Hp) (x y : V) (v u : Value) (Q : VK), Inv X pins σ H s → RelV x v → RelV y u → r x y H Q →
    subscripted slice false v u = operate [v, u] (getItem v u) → wpAny (model X.prog X.w) X.A (subscriptTail value slice v u) (EP X pins σ Q) X.xe s
/-- a call of a builtin's method by values: the receiver, the arguments -/
def MtR (X : Cx) (id : String) (r : V → List V → Hp → VK → Prop) : Prop :=
  ∀ (pins : List (Addr × Obj)) (s : Shared) (σ : St) (H : Hp) (x : V) (xs : List V) (v : Value) (us : List Value) (Q : VK), Inv X pins σ H s → RelV x v → Vals xs us → r x xs H Q →
    wpAny (model X.prog X.w) X.A (call (.builtin id) (v :: us)) (EP X pins σ Q) X.xe s
section
variable {X : Cx} {a b : Expr} {ta tb : TE} {pos : Pos}
/-- a[b] -/
theorem pe_ix {r : R2} (hr : IxR X r) (ha : PE X a ta) (hb : PE X b tb) (hs : PlainIx b) : PE X (.Subscript a b pos) (tOp r ta tb) := by
  intro pins s σ H Q I h
  exact Subscript_ (binT ha hb I h fun v u s2 x y H2 I2 rx ry q => hr a b pins s2 σ H2 x y v u Q I2 rx ry q (hs _ _))

def rIxL (K : PySem.W.Frag) : R2 := fun x y H Q => ∃ p xs i v, x = .ref p ∧ y = .int i ∧ SqL K H p xs ∧ atI xs i = some v ∧ Q v H
def rIxT (K : PySem.W.Frag) : R2 := fun x y H Q => ∃ p xs i v, x = .ref p ∧ y = .int i ∧ SqT K H p xs ∧ atI xs i = some v ∧ Q v H
theorem ix_list : IxR X (rIxL X.K) := by
  intro value slice pins s σ H x y v u Q I rx ry h hs
  obtain ⟨p, xs, i, z, rfl, rfl, hq, he, q⟩ := h
  cases rx
  obtain ⟨t, rfl⟩ := ry
  obtain ⟨its, r, pl, hz⟩ := I.list hq
  obtain ⟨j, h1, h2, h3, h4, h5⟩ := atI_get he
  obtain ⟨w, ew, rw'⟩ := r.get h2
  have hl := r.length
  have hn := line63
  have fin : EP X pins σ Q w s := ⟨z, H, I, rw', q⟩
  by_cases h0 : 0 ≤ i
  · have hj : i.toNat = j := by
      rw [seqIndex_of h0 h5] at h1
      exact Option.some.inj h1
    exact item_listR pl.isList h0 (by omega) (by rw [hj]; simpa using ew) fin hs
  · have hj : (i + (its.toArray.size : Int)).toNat = j := by
      rw [seqIndex_neg (by omega) h4] at h1
      rw [List.size_toArray, ← hl]
      exact Option.some.inj h1
    exact subscriptTail_builtinR (x := w) pl.isList.typeIs slot_list_getitem.lookup
      (wpAny_getItem_list_neg (Q := fun r s' => r = w ∧ EP X pins σ Q r s') pl.isList (by omega) (by rw [List.size_toArray] <;> omega) (by omega) (by rw [hj]; simpa using ew) ⟨rfl, fin⟩) hs
theorem ix_tup : IxR X (rIxT X.K) := by
  intro value slice pins s σ H x y v u Q I rx ry h hs
  obtain ⟨p, xs, i, z, rfl, rfl, hq, he, q⟩ := h
  cases rx
  obtain ⟨t, rfl⟩ := ry
  obtain ⟨its, r, pl, hz⟩ := I.tuple hq
  obtain ⟨j, h1, h2, h3, h4, h5⟩ := atI_get he
  obtain ⟨w, ew, rw'⟩ := r.get h2
  have hl := r.length
  have hn := line63
  have fin : EP X pins σ Q w s := ⟨z, H, I, rw', q⟩
  exact subscriptTail_builtinR (x := w) pl.typeIs slot_tuple_getitem.lookup
    (getItem_tuple (j := j) (Q := fun r s' => r = w ∧ EP X pins σ Q r s') pl (by omega) (by omega) (by rw [List.size_toArray, ← hl]; exact h1) (by simpa using ew) ⟨rfl, fin⟩) hs

/-! ### xs[i] = v, any sign -/
/-- the list's object behind a store -/
theorem mapSeq_set (its : List Value) (n j : Nat) (u : Value) : Obj.mapSeq (·.setIfInBounds j u) { cls := .type "list", data := .seq its.toArray n } = { cls := .type "list", data := .seq (its.set j u).toArray n } := by
  simp [Obj.mapSeq]
theorem Inv.lst {pins : List (Addr × Obj)} {σ : St} {H : Hp} {s : Shared} {p : Addr} {xs : List V} (I : Inv X pins σ H s) (h : H p = some (.lst xs)) :
    ∃ (its : List Value) (n : Nat), Vals xs its ∧ s.heap.get? p = some { cls := .type "list", data := .seq its.toArray n } ∧ xs.length ≤ sizeLine := by
  obtain ⟨z, its, n, r, e⟩ := I.hok p _ h
  exact ⟨its, n, r, e, z⟩
/-- the list at p is written by an update of its object -/
theorem Inv.lstUpd {pins : List (Addr × Obj)} {σ : St} {H : Hp} {s : Shared} {p : Addr} {xs ys : List V} {its its' : List Value} {n n' : Nat} {f : Obj → Obj} (I : Inv X pins σ H s) (h : H p = some (.lst xs))
    (ho : s.heap.get? p = some { cls := .type "list", data := .seq its.toArray n }) (hf : f { cls := .type "list", data := .seq its.toArray n } = { cls := .type "list", data := .seq its'.toArray n' }) (r : Vals ys its') (hz : ys.length ≤ sizeLine) (t : Nat) :
    Inv X pins σ (upd H p (.lst ys)) { s with heap := s.heap.update p f, toks := t } := by
  have e : (s.heap.update p f).get? p = some { cls := .type "list", data := .seq its'.toArray n' } := by
    rw [Heap.get?_update_self f ho (by rw [hf] <;> rfl), hf]
  refine I.write (x := p) (e := p) (by rw [h]; trivial) (.inl rfl) (fun b u hb q => (Heap.get?_update_other _ _ (Ne.symm hb)).trans q) ⟨_, e⟩ ?_
  exact ⟨hz, its', n', r, e⟩
def rSetL : V → V → V → Hp → (Hp → Prop) → Prop := fun o i v H Q => ∃ p xs k j, o = .ref p ∧ i = .int k ∧ H p = some (.lst xs) ∧ ixN xs.length k = some j ∧ Q (upd H p (.lst (xs.set j v)))
theorem set_list : PSet X rSetL := by
  intro pins s σ H o i v ov iv u Q I ro ri rv h
  obtain ⟨p, xs, k, j, rfl, rfl, hp, hj, q⟩ := h
  cases ro
  obtain ⟨t, rfl⟩ := ri
  obtain ⟨its, n, r, ho, hz⟩ := I.lst hp
  obtain ⟨h1, h2, h3, h4⟩ := ixN_seq hj
  have hl := r.length
  have hn := line63
  have I' : Inv X pins σ (upd H p (.lst (xs.set j v))) { s with heap := s.heap.update p (Obj.mapSeq (·.setIfInBounds j u)) } :=
    I.lstUpd hp ho (mapSeq_set its n j u) (r.set rv j) (by rw [List.length_set]; exact hz) s.toks
  by_cases h0 : 0 ≤ k
  · have hk : k.toNat = j := by
      rw [seqIndex_of h0 h4] at h1
      exact Option.some.inj h1
    exact PySem.W.ki_setAt ho h0 (by omega) (by rw [List.size_toArray, ← hl]; exact h4) (by rw [hk]; exact ⟨_, I', q⟩)
  · have hk : (k + (its.toArray.size : Int)).toNat = j := by
      rw [seqIndex_neg (by omega) h3] at h1
      rw [List.size_toArray, ← hl]
      exact Option.some.inj h1
    exact PySem.W.ki_setBack ho (by omega) (by rw [List.size_toArray, ← hl]; exact h3) (by omega) (by rw [hk]; exact ⟨_, I', q⟩)

/-! ### slices -/

/-! ### in, not in: flat items -/

/-! ### len, list(x), tuple(x) of any list or tuple that is read -/
theorem call_len_seq : CallR X (.builtin "len") (fun xs H Q => ∃ p ys, xs = [.ref p] ∧ (SqL X.K H p ys ∨ SqT X.K H p ys) ∧ Q (.int ys.length) H) := by
  intro pins s σ H xs us Q I r h
  obtain ⟨p, ys, rfl, hq, q⟩ := h
  obtain ⟨u, rfl, rx⟩ := vals1 r
  cases rx
  have hn := line63
  rcases hq with hq | hq
  · obtain ⟨its, r', pl, hz⟩ := I.list hq
    have hlen := r'.length
    exact Calls.call_len_list pl.isList (by simp only [List.size_toArray] <;> omega) ⟨.int ys.length, H, I.tok _, ⟨s.toks + 1, by rw [List.size_toArray, hlen]⟩, q⟩
  · obtain ⟨its, r', pl, hz⟩ := I.tuple hq
    have hlen := r'.length
    exact len_tuple pl (by simp only [List.size_toArray] <;> omega) ⟨.int ys.length, H, I.tok _, ⟨s.toks + 1, by rw [List.size_toArray, hlen]⟩, q⟩
theorem call_list_of : CallR X (.type "list") (fun xs H Q => ∃ p ys, xs = [.ref p] ∧ (SqL X.K H p ys ∨ SqT X.K H p ys) ∧ ∀ l, H l = none → Q (.ref l) (upd H l (.lst ys))) := by
  intro pins s σ H xs us Q I r h
  obtain ⟨p, ys, rfl, hq, q⟩ := h
  obtain ⟨u, rfl, rx⟩ := vals1 r
  cases rx
  have fin : ∀ (its : List Value), Vals ys its → ys.length ≤ sizeLine → ∀ (h' : Heap) (c' : Nat), (∀ b o', s.heap.get? b = some o' → h'.get? b = some o') →
      h'.get? s.heap.objs.size = some { cls := .type "list", dict := none, data := .seq its.toArray c', slots := #[] } → EP X pins σ Q (.ref s.heap.objs.size) { s with heap := h' } := fun its r' hz h' c' kp e =>
    ⟨.ref s.heap.objs.size, _, I.laid (t' := s.toks) kp (Nat.le_refl _) (show ObjOk X.prog X.w _ h' _ (.lst ys) from ⟨hz, its, c', r', e⟩), rfl, q _ (I.hok.fresh (Nat.le_refl _))⟩
  rcases hq with hq | hq
  · obtain ⟨its, r', pl, hz⟩ := I.list hq
    have hlen := r'.length
    obtain ⟨o, ho, hc, n, hd⟩ := pl.isList
    exact call_list_seq p (.inl rfl) ho hc hd (fun h' c' kp e => fin its r' hz h' c' kp e) (by simp only [List.size_toArray] <;> omega)
  · obtain ⟨its, r', pl, hz⟩ := I.tuple hq
    have hlen := r'.length
    obtain ⟨o, ho, hc, n, hd⟩ := pl
    exact call_list_seq p (.inr rfl) ho hc hd (fun h' c' kp e => fin its r' hz h' c' kp e) (by simp only [List.size_toArray] <;> omega)
theorem call_tuple_of : CallR X (.type "tuple") (fun xs H Q => ∃ p ys, xs = [.ref p] ∧ ((SqL X.K H p ys ∧ ∀ l, H l = none → Q (.ref l) (upd H l (.tup ys))) ∨ (SqT X.K H p ys ∧ Q (.ref p) H))) := by
  intro pins s σ H xs us Q I r h
  obtain ⟨p, ys, rfl, h⟩ := h
  obtain ⟨u, rfl, rx⟩ := vals1 r
  cases rx
  rcases h with ⟨hq, q⟩ | ⟨hq, q⟩
  · obtain ⟨its, r', pl, hz⟩ := I.list hq
    have hlen := r'.length
    refine call_tuple_list pl.isList (fun h' kp => ?_) (by simp only [List.size_toArray] <;> omega)
    have I1 : Inv X pins σ H { s with heap := h' } := I.kept (t' := s.toks) kp
    have I2 : Inv X pins σ (upd H h'.objs.size (.tup ys)) { s with heap := h'.push { cls := .type "tuple", data := .seq its.toArray } } :=
      I1.laid (t' := s.toks) (fun b o e => Heap.get?_push_of_some _ e) (Nat.le_refl _) (show ObjOk X.prog X.w _ _ _ (.tup ys) from ⟨hz, its, r', IsTup.new _ _⟩)
    exact ⟨.ref h'.objs.size, _, I2, rfl, q _ (I1.hok.fresh (Nat.le_refl _))⟩
  · obtain ⟨its, r', pl, hz⟩ := I.tuple hq
    exact call_tuple_same pl ⟨.ref p, H, I, rfl, q⟩

/-! ### the call of a builtin's method: o.m(..) -/
/-- the value is of that builtin type -/
def tyV (K : PySem.W.Frag) (T : String) (x : V) (H : Hp) : Prop := match x with
  | .str _ => T = "str"
  | .int _ => T = "int"
  | .ref p => (T = "list" ∧ ∃ xs, SqL K H p xs) ∨ (T = "tuple" ∧ ∃ o, K.lookup p = some o ∧ o.cls = .type "tuple" ∧ o.dict = none) ∨
      (T = "dict" ∧ ((∃ kvs, H p = some (.dK kvs)) ∨ ∃ kvs, H p = some (.dT kvs))) ∨ (T = "set" ∧ ∃ S n, H p = some (.set S n))
  | _ => False
theorem tyV_is {pins : List (Addr × Obj)} {σ : St} {H : Hp} {s : Shared} {T : String} {x : V} {v : Value} (I : Inv X pins σ H s) (r : RelV x v) (ty : tyV X.K T x H) :
    s.TypeIs v T ∧ ∀ a, v = .ref a → ∃ ob, s.heap.get? a = some ob ∧ ob.dict = none := by
  cases x with
  | str z =>
    obtain ⟨t, rfl⟩ := r
    cases (show T = "str" from ty)
    exact ⟨typeIs_str s z t, fun _ e => nomatch e⟩
  | int i =>
    obtain ⟨t, rfl⟩ := r
    cases (show T = "int" from ty)
    exact ⟨typeIs_int s i t, fun _ e => nomatch e⟩
  | ref p =>
    cases r
    rcases ty with ⟨rfl, xs, hq⟩ | ⟨rfl, o, hk, hc, hd⟩ | ⟨rfl, hk⟩ | ⟨rfl, S, n, hk⟩
    · obtain ⟨its, _, pl, _⟩ := I.list hq
      refine ⟨pl.isList.typeIs, fun a e => ?_⟩
      cases e
      obtain ⟨o, n, e, c, hd, _⟩ := pl
      exact ⟨o, e, hd⟩
    · refine ⟨⟨o, I.kIn p o hk, hc⟩, fun a e => ?_⟩
      cases e
      exact ⟨o, I.kIn _ o hk, hd⟩
    · have z : ∃ o, s.heap.get? p = some o ∧ o.ExactDict := by
        rcases hk with ⟨kvs, hk⟩ | ⟨kvs, hk⟩
        · obtain ⟨_, _, _, _, o, _, _, e, ex, _⟩ := I.hok p _ hk
          exact ⟨o, e, ex⟩
        · obtain ⟨_, _, _, _, o, _, _, e, ex, _⟩ := I.hok p _ hk
          exact ⟨o, e, ex⟩
      obtain ⟨o, e, ex⟩ := z
      refine ⟨⟨o, e, ex.1⟩, fun a e2 => ?_⟩
      cases e2
      exact ⟨o, e, ex.2.1⟩
    · obtain ⟨o, _, _, _, e, ex, _⟩ := I.hok p _ hk
      refine ⟨⟨o, e, ex.1⟩, fun a e2 => ?_⟩
      cases e2
      exact ⟨o, e, ex.2.1⟩
  | _ => exact False.elim ty
def tBM (K : PySem.W.Frag) (T : String) (r : V → List V → Hp → VK → Prop) (to : TE) (t : TA) : TE := fun σ H Q => to σ H fun x H1 => tyV K T x H1 ∧ t σ H1 fun xs H2 => r x xs H2 Q
variable {o e : Expr} {es : List Expr} {to : TE} {t : TA} {name : Str} {apos cpos : Pos} {T id : String} {r : V → List V → Hp → VK → Prop}
theorem pe_bm (pa : PlainAttrs T) (slot : Slot T name id) (hty : typeOf (.builtin id) = pure (.type "method_descriptor")) (hm : MtR X id r) (ho : PE X o to) (ha : PA X (e :: es) t)
    (hbase : attributeBase o name X.env (eval o X.env) = eval o X.env := by rfl)
    (hfew : ((backTo cpos (starEach (e :: es) X.env)).all (fun x => !x.1) && (backToKw cpos (keywordEach [] X.env)).all (fun x => x.1.isSome)
      && decide ((e :: es).length + ([] : List Keyword).length + (if ([] : List Keyword).isEmpty then 0 else 1) < 30)) = true := by rfl)
    (hline : (apos.endLine == cpos.line) = true := by rfl) (hs : starEach (e :: es) X.env = (false, eval e X.env) :: starEach es X.env := by rfl) (hplain : (backTo cpos (starEach es X.env)).any (·.1) = false := by rfl) :
    PE X (.Call (.Attribute o name apos) (e :: es) [] cpos) (tBM X.K T r to t) := by
  intro pins s σ H Q I h
  refine wpAny_Call_method_late hbase hfew hline rfl (thn (ho pins s σ H _ I h) fun v s1 ⟨x, H1, I1, r1, ty, q1⟩ => ?_)
  obtain ⟨h1, h2⟩ := tyV_is I1 r1 ty
  refine ⟨T, id, pa, slot, hty, h1, h2, ?_⟩
  have hA := ha cpos pins s1 σ H1 _ I1 q1
  rw [hs] at hA ⊢
  refine Calls.callWith_builtin (by show (false || (backTo cpos (starEach es X.env)).any (·.1)) = false; rw [hplain] <;> rfl) (Calls.evalArgs_plain ?_)
  exact thn hA fun us s2 ⟨vs, H2, I2, r2, q2⟩ => hm pins s2 σ H2 x vs v us Q I2 r1 r2 q2
/- xs.append(e), list.index on a module's tuple .. are MtR facts of 06m -/
end
end L2

namespace L2
open PySem PySem.Spec PyProof.Rows

def MtM (X : Cx) (id : String) (r : V → List V → Hp → VK → Prop) : Prop :=
  ∀ (pins : List (Addr × Obj)) (s : Shared) (σ : St) (H : Hp) (x : V) (xs : List V) (v : Value) (us : List Value) (Q : VK), Inv X pins σ H s → RelV x v → Vals xs us → r x xs H Q →
    wpAny (model X.prog X.w) X.A (call (.builtin id) (v :: us)) (EP X pins σ Q) X.xe s

/-! ### lists of values -/
theorem Vals.one : ∀ {x : V} {us : List Value}, Vals [x] us → ∃ u, us = [u] ∧ RelV x u
  | _, _, .cons r .nil => ⟨_, rfl, r⟩

section
variable {X : Cx} {pins : List (Addr × Obj)} {σ : St} {H : Hp} {s : Shared} {l b : Addr} {xs ys zs : List V}

/-! ### the two steps: a tracked list is rewritten, a new list is laid -/
theorem Inv.lset {its its' : List Value} {n : Nat} {f : Array Value → Array Value} {t' : Nat} (I : Inv X pins σ H s) (hH : H l = some (.lst xs))
    (e : s.heap.get? l = some { cls := .type "list", data := .seq its.toArray n }) (hf : f its.toArray = its'.toArray) (hv : Vals ys its') (hz : ys.length ≤ sizeLine) :
    Inv X pins σ (upd H l (.lst ys)) { s with heap := s.heap.update l (Obj.mapSeq f), toks := t' } := by
  have q := PySem.IsL.update e f
  rw [hf] at q
  refine I.write (x := l) (e := l) (by rw [hH]; exact trivial) (.inl rfl) (fun b' u hb hu => (Heap.get?_update_other s.heap (Obj.mapSeq f) (Ne.symm hb)).trans hu) ⟨_, q⟩ ?_
  exact ⟨hz, its', _, hv, q⟩
theorem Inv.lnew {its : List Value} {t' : Nat} (I : Inv X pins σ H s) (hv : Vals ys its) (hz : ys.length ≤ sizeLine) :
    Inv X pins σ (upd H s.heap.objs.size (.lst ys)) { s with heap := s.heap.push { cls := .type "list", data := .seq its.toArray }, toks := t' } :=
  I.laid (fun _ _ q => Heap.get?_push_of_some _ q) (Nat.le_refl _) ⟨hz, its, 0, hv, Heap.get?_push_size _ rfl⟩
theorem Inv.fresh (I : Inv X pins σ H s) : H s.heap.objs.size = none := I.hok.fresh (Nat.le_refl _)
theorem Inv.lstM (I : Inv X pins σ H s) (hH : H l = some (.lst xs)) : xs.length ≤ sizeLine ∧ ∃ (its : List Value) (n : Nat), Vals xs its ∧ xs.length = its.length ∧ s.heap.get? l = some { cls := .type "list", data := .seq its.toArray n } := by
  obtain ⟨z, its, n, r, e⟩ := I.hok l _ hH
  exact ⟨z, its, n, r, r.length, e⟩

end

section
variable {X : Cx}

/-! ### methods -/
def rAppend : V → List V → Hp → VK → Prop := fun x vs H Q => ∃ l xs y, x = .ref l ∧ vs = [y] ∧ H l = some (.lst xs) ∧ xs.length < sizeLine ∧ Q .non (upd H l (.lst (xs ++ [y])))
theorem mt_append : MtM X "list.append" rAppend := by
  intro pins s σ H x vs v us Q I rx rv h
  obtain ⟨l, xs, y, rfl, rfl, hH, hz, q⟩ := h
  cases rx
  obtain ⟨u, rfl, ru⟩ := rv.one
  obtain ⟨z, its, n, r, hl, e⟩ := I.lstM hH
  refine call_meets F.slot_list_append ⟨_, e, rfl⟩ F.entry_list_append (F.args_list_append_2 _ _) (PySem.list_append l its.toArray n u (by rw [List.size_toArray]; omega)) ⟨e, ?_⟩
  refine ⟨.non, _, I.lset (its' := its ++ [u]) hH e (by simp) (r.append (.cons ru .nil)) ?_, rfl, q⟩
  rw [List.length_append, List.length_singleton]
  omega






/-! ### list + list, list += list, list * int -/
def rCat : R2 := fun x y H Q => ∃ l b xs zs, x = .ref l ∧ y = .ref b ∧ H l = some (.lst xs) ∧ H b = some (.lst zs) ∧ xs.length + zs.length ≤ sizeLine ∧ ∀ p, H p = none → Q (.ref p) (upd H p (.lst (xs ++ zs)))
theorem op_cat : OpR X (binaryOp .Add) rCat := by
  intro pins s σ H x y v u Q I rx ry h
  obtain ⟨l, b, xs, zs, rfl, rfl, hH, hB, hz, q⟩ := h
  cases rx
  cases ry
  obtain ⟨z, its, n, r, hl, e⟩ := I.lstM hH
  obtain ⟨z2, its2, n2, r2, hl2, e2⟩ := I.lstM hB
  refine PySem.P.add_list e e2 ?_ (by rw [List.size_toArray, List.size_toArray]; omega)
  have ea : its.toArray ++ its2.toArray = (its ++ its2).toArray := by simp
  rw [ea]
  exact ⟨.ref _, _, I.lnew (t' := s.toks) (r.append r2) (by rw [List.length_append]; omega), rfl, q _ I.fresh⟩

/-! ### del xs[i] -/
end

/-! ### xs[a:b] = ys -/
section
variable {prog : Program} {w : World} {A : Around} {E : Value → Shared → Prop} {s : Shared}
set_option maxRecDepth 100000 in
end

section
variable {X : Cx}
end
end L2

namespace Att
open PySem PySem.W PySem.Calls PyProof.Rows

/-! ### the script -/
theorem ints_of_wellAll {P : Params} {h : Heap} : ∀ (ns : List Int) (vs : List Value), WellAll P h vs (ns.map WData.int) → IntsAre vs ns := by
  intro ns
  induction ns with
  | nil =>
    intro vs w
    rw [List.map_nil] at w
    cases w
    exact .nil
  | cons n ns ih =>
    intro vs w
    rw [List.map_cons] at w
    cases w with
    | cons a b =>
      cases a
      exact .cons _ _ (ih _ b)

theorem script_of {l : OpenLaw} {n : Nat} (hn : l.most = some n) {P : Params} {h : Heap} {args : List WData} {vals : List Value}
    (hpre : l.row.toRowW.claim.pre args = true) (hwl : WellAll P h vals args) :
    ∃ a vs ns, vals = [Value.ref a] ∧ args = [WData.list (ns.map WData.int)] ∧ h.get? a = some { cls := .type "list", data := .seq vs.toArray } ∧ IntsAre vs ns ∧ ns.length ≤ n := by
  have hsh : WShape.hasAll [] args [.list .int] = true := (pre_splitW hpre).1
  have hc : l.pre.holds [] { args := args } = true := (pre_splitW hpre).2
  obtain ⟨d, r, rfl, h1, h2⟩ := hasAllW_cons hsh
  obtain rfl := hasAllW_nil h2
  obtain ⟨xs, rfl, h3⟩ := hasW_list h1
  obtain ⟨ns, rfl⟩ := items_int h3
  have hlen : ns.length ≤ n := by
    unfold OpenLaw.pre at hc
    have h4 : (WTm.not (.lt (.lit (.int (n : Int))) (.len (.arg 0)))).holds [] { args := [.list (ns.map .int)] } = true := by
      have h4 := (holds_andW hc).1
      rw [hn] at h4
      exact h4
    have h5 := condW_of h4 (w_not (w_lt w_lit (w_len_list (w_arg rfl))))
    rw [List.length_map] at h5
    refine Nat.le_of_not_lt fun q => ?_
    have q' : (n : Int) < ((ns.length : Nat) : Int) := by omega
    first
      | (rw [decide_eq_true q'] at h5; exact absurd h5 (by decide))
      | (simp at h5; omega)
  cases hwl with
  | cons w1 w2 =>
    cases w2
    cases w1 with
    | list ho hall => exact ⟨_, _, ns, rfl, rfl, ho, ints_of_wellAll ns _ hall, hlen⟩

theorem post_true (l : OpenLaw) (args : List WData) : l.row.toRowW.claim.post args (.bool true) args = true :=
  postW_of (r := l.row.toRowW) (X := (true == true))
    (show WShape.has [] (.bool true) .bool = true by first | rfl | decide | simp [WShape.has, WShape.arms, WShape.armsAll])
    (show (WTm.eq .res (.lit (.bool true))).value [] { args := args, res := some (.bool true), after := args } = some (.bool (true == true)) from w_eq_bool (w_res rfl) w_lit) rfl

/-! ### the attachment: holds_open's last premise (the goal 'hc' behind k_head) from a wpAny of the law's body -/

/-- the same from a codeAny of the CALL (for a layer whose function contracts speak of calls) -/
theorem attach_call {l : OpenLaw} {n : Nat} {q : Program} {loose : List Str} {XP : (Str → Option Value) → Heap → Prop} {YP : World → Heap → Prop} {d : DefRec}
    (hn : l.most = some n) (hdf : d.params.defaults = [])
    (call : ∀ (w : World) (s₀ s₁ : Shared) (mg mb : Str → Option Value) (fa : Addr) (o : Obj) (pm cd doc : Value) (a : Addr) (vs : List Value) (ns : List Int),
      Ground q loose [] XP w s₀ mg mb s₁.heap → YP w s₁.heap →
      s₁.heap.get? fa = some o → o.data = .func (docDef d.name d.params d.body d.scope pm cd doc) → s₁.heap.CodeRec cd d.name → mg d.name = some (.ref fa) →
      s₁.heap.get? a = some { cls := .type "list", data := .seq vs.toArray } → IntsAre vs ns → ns.length ≤ n → s₁.gens = #[] →
      codeAny (model l.prog w) callerA (.call (.ref fa) ⟨[.ref a], []⟩) (fun r s' => r = .ok (.ret (.bool true)) ∧ OldK s₁.heap s'.heap ∧ s'.os = s₁.os ∧ AllBare s'.gens) s₁) :
    WalkO q loose XP YP l.row.toRowW d [] (fun f vs => PySem.call f vs) := by
  intro w s₀ s₁ mg mb G Y fa o pm cd doc dV kV ho hd hcd hD hmg hg args vals as hpre hlay hrd hwl hlo
  obtain rfl : dV = .none := Dflts.none hD hdf
  obtain rfl : kV = .none := Dflts.noKw hD
  obtain ⟨a, vs, ns, rfl, rfl, hobj, hints, hlen⟩ := script_of hn hpre hwl
  refine enter_call (codeAny_mono (call w s₀ s₁ mg mb fa o pm cd doc a vs ns G Y ho (fd_plain hd) hcd hmg hobj hints hlen hg) fun r s' hq => ?_)
  obtain ⟨rfl, h2, h3, h4⟩ := hq
  exact ⟨.inl ⟨.bool true, .bool true, [], rfl, fun _ => rfl, .bool true, post_true l _, fun _ => ⟨List.Pairwise.nil, fun _ hm => (nomatch hm)⟩⟩, h2, h3, h4⟩


/-! ### rules over ANY heap (no ledger) from facts about the written part K: the library's own take a ledger (News) for what they write -/
section
variable {prog : Program} {w : World} {A : Around} {E : Value → Shared → Prop} {s : Shared} {K : Frag}





/-! the whole heap as the ledger: makes every rule that writes through a ledger a rule over any heap -/

end
end Att

namespace L2
open PySem PySem.Spec PyProof.Rows

theorem vals_ints : ∀ {vs : List Value} {ns : List Int}, IntsAre vs ns → Vals (ns.map V.int) vs
  | _, _, .nil => .nil
  | _, _, .cons n t h => .cons ⟨t, rfl⟩ (vals_ints h)

/-- nothing is tracked but the script, known to the object (or it is an object of the module) -/
def Only (H : Hp) : Prop := ∀ b, H b = none ∨ ∃ o xs, H b = some (.frz o (.lst xs))

/-- THE HEAD: the law's promise, at the heap behind the top. F, the promise of the law's def, may use that base is part of the heap (so K.In base, base.Ns mainGlobals mg stand in Mod) -/
theorem law_call {P : Program} {w : World} {K : PySem.W.Frag} {mg mb : Str → Option Value} {CX : CXT} {k : Nat} {fa a : Addr} {fd : FuncData} {x : Str} {sp : Sp} {s₁ : Shared} {vs : List Value} {ns : List Int}
    (KX : K.In s₁.heap) (hns : s₁.heap.Ns mainGlobals mg) (hb : s₁.heap.Ns builtinsNs mb) (hbb : ∀ x : Str, x ≠ "__name__" → mb x = bootBuiltins x) (hlim : s₁.heap.NoLimit) (hg : s₁.gens = #[])
    (ha : s₁.heap.get? a = some { cls := .type "list", data := .seq vs.toArray }) (hi : IntsAre vs ns) (hl : ns.length ≤ sizeLine) (hr : Room k callerA)
    (F : ∀ base : Heap, K.In base → base.Ns mainGlobals mg → FnOk P w K mg base CX k fa fd [x] sp) (hbind : ∀ (s : Shared) (u : Value), BindsTo s fd ⟨[u], []⟩ [(x, u)])
    (hsp : ∀ H : Hp, Only H → SqL K H a (ns.map V.int) → sp [.ref a] H (fun v _ => v = .bl true) fun _ _ _ => False)
    (hCX : ∀ H e s', CX [] H s₁ (fun _ _ _ => False) e s' → False) :
    codeAny (model P w) callerA (.call (.ref fa) ⟨[.ref a], []⟩) (fun r s' => r = .ok (.ret (.bool true)) ∧ OldK s₁.heap s'.heap ∧ s'.os = s₁.os ∧ AllBare s'.gens) s₁ := by
  have rv := vals_ints hi
  have lenV := hi.length
  -- from an abstract heap in which nothing but the script may be tracked
  have core : ∀ H : Hp, Only H → SqL K H a (ns.map V.int) → HOk P w H s₁.heap → (∀ b, H b ≠ none → b = a) → (H a ≠ none → K.lookup a = none) →
      codeAny (model P w) callerA (.call (.ref fa) ⟨[.ref a], []⟩) (fun r s' => r = .ok (.ret (.bool true)) ∧ OldK s₁.heap s'.heap ∧ s'.os = s₁.os ∧ AllBare s'.gens) s₁ := by
    intro H hO hS hok hA hK
    have base_of : ∀ {b : Addr} {o : Obj}, s₁.heap.get? b = some o → H b = none → (hidT s₁.heap H).get? b = some o := fun e n => hidT_get e n
    have noA : ∀ {b : Addr} {o : Obj} {es : Array DictEntry} {ep : Nat}, s₁.heap.get? b = some o → o.data = .dict es ep → H b = none := fun {b o es ep} e d => by
      cases q : H b with
      | none => rfl
      | some u =>
        have e' : b = a := hA b (by rw [q]; simp)
        subst e'
        rw [ha] at e; cases e
        have d' : Data.seq vs.toArray _ = Data.dict es ep := d
        cases d'
    have nsK : ∀ {b : Addr} {m : Str → Option Value}, s₁.heap.Ns b m → (hidT s₁.heap H).Ns b m := fun {b m} ⟨o, es, ep, e, d, r⟩ => ⟨o, es, ep, base_of e (noA e d), d, r⟩
    have hKb : K.In (hidT s₁.heap H) := fun b o e => base_of (KX b o e) (by
      cases q : H b with
      | none => rfl
      | some u =>
        have e' : b = a := hA b (by rw [q]; simp)
        subst e'
        rw [hK (by rw [q]; simp)] at e; cases e)
    have hM : Mod K mg (hidT s₁.heap H) := ⟨hKb, nsK hns, ⟨mb, nsK hb, hbb⟩, let ⟨mc, h1, h2⟩ := hlim; ⟨mc, nsK h1, h2⟩⟩
    have e0 : Env0 P w K mg (hidT s₁.heap H) callerA [] s₁ H := ⟨rfl, hM, fun b o e => of_hidT e, Nat.le_of_eq (hidT_size _ _), trivial, fun b hb => absurd (show b ∈ ([] : List Addr) from hb) (by simp), hok, .of_eq hg⟩
    refine codeAny_mono ((F _ hKb (nsK hns)).run callerA [] s₁ H ⟨[.ref a], []⟩ [.ref a] [.ref a] _ _ hr e0 (hbind s₁ (.ref a)) (.cons rfl .nil) (hsp H hO hS)) fun r s' h => ?_
    cases r with
    | error e => exact (hCX H e s' h).elim
    | ok fl =>
      cases fl with
      | next => exact False.elim h
      | brk => exact False.elim h
      | cont => exact False.elim h
      | ret u =>
        obtain ⟨v, H', os, bare, un, hok', r', q⟩ := h
        have q' : v = .bl true := q
        subst q'
        obtain rfl : u = Value.bool true := r'
        refine ⟨rfl, OldK.of_keep fun b o e => ?_, os, bare⟩
        cases q : H b with
        | none => exact un.keep b o e q (by intro z; exact absurd (show b ∈ ([] : List Addr) from z) (by simp)) (by simp)
        | some u =>
          rcases hO b with z | ⟨ob, xs, z⟩
          · rw [q] at z; cases z
          · have z2 := un.frzs b ob _ z
            obtain ⟨e1, _⟩ := hok b _ z
            obtain ⟨e2, _⟩ := hok' b _ z2
            rw [e] at e1; cases e1
            exact e2
  cases hk : K.lookup a with
  | some o =>
    -- the script is one of the module's own objects
    have e := KX a o hk
    rw [ha] at e
    cases e
    refine core (fun _ => none) (fun _ => .inl rfl) (.inr ⟨_, vs.toArray, _, hk, rfl, rfl, rfl, by rw [List.size_toArray, lenV]; exact hl, by simpa using rv⟩) (fun b u z => by have z' : (none : Option HO) = some u := z; cases z') (fun b z => absurd rfl z) fun z => absurd rfl z
  | none =>
    refine core (fun b => if b = a then some (.frz { cls := .type "list", data := .seq vs.toArray } (.lst (ns.map V.int))) else none) (fun b => ?_) (.inl (.inr ⟨{ cls := .type "list", data := .seq vs.toArray }, if_pos rfl⟩)) (fun b u z => ?_) (fun b z => ?_) fun _ => hk
    · by_cases hb : b = a
      · exact .inr ⟨_, _, if_pos hb⟩
      · exact .inl (if_neg hb)
    · by_cases hb : b = a
      · have z' := (if_pos hb).symm.trans z
        cases z'
        subst hb
        exact ⟨ha, by rw [List.length_map]; exact hl, vs, _, rv, ha⟩
      · have z' := (if_neg hb).symm.trans z
        cases z'
    · by_cases hb : b = a
      · exact hb
      · exact absurd (if_neg hb) z
end L2

namespace L2
open PySem PySem.Spec PyProof.Rows


/-- the goal that k_head leaves (case hc), from the law's promise. F gives the function object fd (K's own) once, then the promise over every base -/
theorem walk_of {l : PySem.W.OpenLaw} {n k : Nat} {q : Program} {loose : List Str} {XP : (Str → Option Value) → Heap → Prop} {YP : World → Heap → Prop} {d : DefRec} {K : Params → PySem.W.Frag} {CX : World → CXT} {sp : World → Sp} {x : Str}
    (hn : l.most = some n) (hn2 : n ≤ sizeLine) (hdf : d.params.defaults = []) (hr : Room k callerA)
    (hY : ∀ (w : World) (h : Heap), YP w h → (K w.params).In h)
    (F : ∀ (w : World) (mg : Str → Option Value) (fa : Addr) (h : Heap), (K w.params).In h → h.Ns mainGlobals mg → mg d.name = some (.ref fa) →
      ∃ fd : FuncData, (∀ (s : Shared) (u : Value), BindsTo s fd ⟨[u], []⟩ [(x, u)]) ∧
        ∀ base : Heap, (K w.params).In base → base.Ns mainGlobals mg → FnOk l.prog w (K w.params) mg base (CX w) k fa fd [x] (sp w))
    (hsp : ∀ (w : World) (H : Hp) (a : Addr) (ns : List Int), ns.length ≤ n → Only H → SqL (K w.params) H a (ns.map V.int) → sp w [.ref a] H (fun v _ => v = .bl true) fun _ _ _ => False)
    (hCX : ∀ (w : World) (H : Hp) (s : Shared) (e : Value) (s' : Shared), CX w [] H s (fun _ _ _ => False) e s' → False) :
    PySem.W.WalkO q loose XP YP l.row.toRowW d [] (fun f vs => PySem.call f vs) := by
  refine Att.attach_call hn hdf fun w s₀ s₁ mg mb fa o pm cd doc a vs ns G Y ho hd hcd hmg hobj hints hlen hg => ?_
  have KX := hY w _ Y
  obtain ⟨fd, hb, hF⟩ := F w mg fa _ KX G.T.g hmg
  exact law_call KX G.T.g G.T.b G.T.builtins G.T.nolimit hg hobj hints (Nat.le_trans hlen hn2) hr hF hb (fun H hO hS => hsp w H a ns hlen hO hS) fun H e s' => hCX w H s₁ e s'
end L2

/- THE LAST THEOREM (shape; LID, My.* are yours):
   My.Adr: a structure of the addresses that your layer names (classes, functions); My.Txt K t: a structure (Prop) of the equations over K;
   My.txt_mk : {K} {implicit addresses ..} (e1 : nsIn K mainGlobals "law" = some (some (.ref f))) (e2 : K.lookup f = some ⟨oc, od, .func (fnOf "law" "law" params body scope dV kV doc pm an cdv ct), sl⟩) (e3 : codeIn K cdv "law" = true) .. : ∃ t, My.Txt K t

set_option maxRecDepth 100000 in
set_option maxHeartbeats 0 in
theorem PySem.Challenge.cw_LID_holds : PySem.Challenge.rw_LID.Holds := by
  w_on; o_law; k_head; (case hw => w_witness2)
  k_fill
  refine L2.walk_of (l := PySem.Challenge.rw_LID) (n := 63) (k := 40) (x := "script") (CX := fun w => ..) (sp := fun _ => My.sp_law) rfl (by decide) rfl ⟨rfl, by decide, by decide⟩ (fun w h Y => PySem.W.kIn_of Y) ?F ?S ?C
  case F =>
    intro w mg fa h KX G hmg
    have T : ∃ t, My.Txt (L2.KOf KX) t := by
      dsimp only [L2.KOf]                          -- K must stand as «<heap const> w.params» for k_is
      refine' My.txt_mk ?e1 ?e2 ?e3 ..
      (case e1 => PySem.W.k_is)                    -- in the order: a name -> its address -> its object -> its parts
      (case e2 => PySem.W.k_is)
      ..
    obtain ⟨t, T⟩ := T
    have e0 := hmg.symm.trans (PySem.W.mg_of KX G T.law)
    cases e0                                       -- fa is the law's own address
    exact ⟨_, fun s u => .of_eq rfl, fun base kb nb => My.law_fn T kb nb⟩     -- if «.of_eq rfl» comes too early: refine' ⟨_, ?b, fun base kb nb => My.law_fn T kb nb⟩; exact fun s u => .of_eq rfl
  case S => exact fun w H a ns hl hO hS => ..
  case C => exact ..
(the tactic k_is has no namespace: write k_is) -/

/-! SHORT WORDS over the layer: a def of the text, its body, what a loop and a test want. -/
namespace L2
open PySem PySem.Spec PyProof.Rows

/-! ### the text by places -/
def defArgs (s : Stmt) : Arguments := match s with
  | .FunctionDef _ a _ _ _ _ _ _ _ _ => a
  | _ => { posonlyargs := [], args := [], vararg := none, kwonlyargs := [], kw_defaults := [], kwarg := none, defaults := [] }
def defBody (s : Stmt) : List Stmt := match s with
  | .FunctionDef _ _ b _ _ _ _ _ _ _ => b
  | _ => []
def defScope (s : Stmt) : Scope := match s with
  | .FunctionDef _ _ _ _ _ _ sc _ _ _ => sc
  | _ => { kind := .function, names := [], isGenerator := false, isCoroutine := false }

/-! ### no exception leaves a def -/
abbrev CX0 : CXT := fun _ _ _ _ _ _ => False
abbrev E0 : XK := fun _ _ _ => False
theorem pass0 {X : Cx} : Passes CX0 X E0 := fun _ _ _ _ _ _ _ h => h.elim

/-! ### a def (or method) of the text as it stands behind the top -/
structure Fun (K : PySem.W.Frag) (x qual : Str) (st : Stmt) (f : Addr) (fd : FuncData) : Prop where
  ex : ∃ (oc : Value) (od : Option Addr) (kV doc pm : Value) (an : Option Addr) (cdv ct : Value) (osl : Array (Option Value)),
    fd = PySem.W.fnOf x qual (defArgs st) (defBody st) (defScope st) .none kV doc pm an cdv ct ∧ K.lookup f = some ⟨oc, od, .func fd, osl⟩ ∧ PySem.W.codeIn K cdv qual = true
  kp : PySem.W.keepIn K (.ref f) = true
section
variable {P : Program} {w : World} {K : PySem.W.Frag} {mg : Str → Option Value} {base : Heap}
/-- THE RULE for a def: its body as a term of rules, and the reading of that term -/
theorem Fun.ok {x qual : Str} {st : Stmt} {f : Addr} {fd : FuncData} {N ps : List Str} {k : Nat} {sp : Sp} (F : Fun K x qual st f fd) (S : FnScope N ps (defScope st)) (len : ∀ vs H Q E, sp vs H Q E → vs.length = ps.length)
    (hbody : ∀ (cdv : Value) (A : Around) (outer : List Env) (s : Shared) (H : Hp) (vs : List V) (Q : VK) (E : XK), Room k (A.deeper (envOfC qual (defScope st) s.heap.objs.size f cdv)) → sp vs H Q E →
      ∃ t, PSs (cxOf CX0 P w K mg base N qual (defScope st) f cdv A outer s H E).nox (defBody st) t ∧ t { nx := fun _ H' => Q .non H', rt := Q } (start N vs) H) : FnOk P w K mg base CX0 (k + 1) f fd ps sp := by
  obtain ⟨oc, od, kV, doc, pm, an, cdv, ct, osl, rfl, lk, hcd⟩ := F.ex
  refine fn_of lk hcd S len fun A outer s H vs Q E hr hsp => ?_
  obtain ⟨t, h, q⟩ := hbody cdv A outer s H vs Q E hr hsp
  exact ⟨t, h.nox, q⟩
/-- how its arguments bind (no defaults): h is «fun _ _ _ _ _ _ us hl => match us, hl with | [_, _], _ => rfl», one _ a parameter -/
theorem Fun.binds {x qual : Str} {st : Stmt} {f : Addr} {fd : FuncData} {ps : List Str} (F : Fun K x qual st f fd)
    (h : ∀ (kV doc pm : Value) (an : Option Addr) (cdv ct : Value) (us : List Value), us.length = ps.length → bindArgs (PySem.W.fnOf x qual (defArgs st) (defBody st) (defScope st) .none kV doc pm an cdv ct) ⟨us, []⟩ = pure (ps.zip us)) : Binds K fd ps [] := by
  obtain ⟨oc, od, kV, doc, pm, an, cdv, ct, osl, rfl, lk, hcd⟩ := F.ex
  exact .all (h kV doc pm an cdv ct)
theorem fun_mk {x qual : Str} {st : Stmt} {f : Addr} {oc : Value} {od an : Option Addr} {osl : Array (Option Value)} {kV doc pm cdv ct : Value} (l : K.lookup f = some ⟨oc, od, .func (PySem.W.fnOf x qual (defArgs st) (defBody st) (defScope st) .none kV doc pm an cdv ct), osl⟩)
    (c : PySem.W.codeIn K cdv qual = true) (k : PySem.W.keepIn K (.ref f) = true) : Fun K x qual st f (PySem.W.fnOf x qual (defArgs st) (defBody st) (defScope st) .none kV doc pm an cdv ct) := ⟨⟨oc, od, kV, doc, pm, an, cdv, ct, osl, rfl, l, c⟩, k⟩
end

/-! ### expressions in short: the name that stands in the i-th slot -/
section
variable {X : Cx}
end

/-! ### tests -/

/-! ### heaps -/

end L2
end
section
set_option Elab.async false
set_option linter.all false
set_option maxRecDepth 100000
set_option maxHeartbeats 4000000
namespace L2
open PySem PySem.Spec PyProof.Rows

/-- the cells that a comprehension takes along -/
def clGo (cells : List (Str × Addr)) : List (Str × NameKind) → List (Str × Addr) → List (Str × Addr)
  | [], acc => acc
  | (n, k) :: r, acc => if (k == NameKind.free) = true then clGo cells r ((n, (cells.lookup n).getD 0) :: acc) else clGo cells r acc
theorem clGo_run {env : Env} : ∀ (names : List (Str × NameKind)) (acc : List (Str × Addr)), (∀ p ∈ names, p.2 = .free → ∃ c, env.cells.lookup p.1 = some c) →
    (forIn names acc fun (x : Str × NameKind) (cs : List (Str × Addr)) => if (x.2 == NameKind.free) = true then cellOf env x.1 >>= fun c => pure (ForInStep.yield ((x.1, c) :: cs)) else pure (ForInStep.yield cs) : Sem (List (Str × Addr))) = pure (clGo env.cells names acc)
  | [], acc, _ => rfl
  | (n, k) :: r, acc, h => by
    have ih := clGo_run (env := env) r
    rw [List.forIn_cons]
    unfold clGo
    by_cases hk : (k == NameKind.free) = true
    · obtain ⟨c, hc⟩ := h (n, k) List.mem_cons_self (by simpa using hk)
      have hcell : cellOf env n = pure c := by
        have hc' : env.cells.lookup n = some c := hc
        unfold cellOf; rw [hc']
      have hc' : env.cells.lookup n = some c := hc
      simp only [hk, if_true, hcell, hc', Option.getD_some, pure_bind]
      exact ih _ fun p hp => h p (List.mem_cons_of_mem _ hp)
    · simp only [hk, if_false, pure_bind, Bool.false_eq_true]
      exact ih _ fun p hp => h p (List.mem_cons_of_mem _ hp)
theorem closure_is {scope : Scope} {env : Env} (h : ∀ p ∈ scope.names, p.2 = .free → ∃ c, env.cells.lookup p.1 = some c) : closureFor scope env = pure (clGo env.cells scope.names []) := by
  have q := clGo_run (env := env) scope.names [] h
  unfold closureFor
  first
    | exact (by rw [q]; rfl)
    | (simp only [bind_pure]; exact q)
theorem clGo_lookup {cells : List (Str × Addr)} {x : Str} {c : Addr} : ∀ (names : List (Str × NameKind)) (acc : List (Str × Addr)), (∀ p ∈ names, p.2 = .free → ∃ c, cells.lookup p.1 = some c) → (∀ y d, acc.lookup y = some d → cells.lookup y = some d) →
    (clGo cells names acc).lookup x = some c → cells.lookup x = some c
  | [], acc, _, ha, h => ha x c h
  | (n, k) :: r, acc, hn, ha, h => by
    unfold clGo at h
    split at h
    · rename_i hk
      refine clGo_lookup r _ (fun p hp => hn p (List.mem_cons_of_mem _ hp)) (fun y d hy => ?_) h
      rw [List.lookup_cons] at hy
      obtain ⟨c', hc'⟩ := hn (n, k) List.mem_cons_self (by simpa using hk)
      have hc'' : cells.lookup n = some c' := hc'
      split at hy
      · rename_i hyn
        have e : y = n := by simpa using hyn
        subst e
        rw [hc''] at hy ⊢
        exact hy
      · exact ha y d hy
    · exact clGo_lookup r _ (fun p hp => hn p (List.mem_cons_of_mem _ hp)) ha h
theorem clGo_has {cells : List (Str × Addr)} {x : Str} : ∀ (names : List (Str × NameKind)) (acc : List (Str × Addr)), ((x, NameKind.free) ∈ names ∨ ∃ c, acc.lookup x = some c) → ∃ c, (clGo cells names acc).lookup x = some c
  | [], acc, h => by
    rcases h with h | h
    · simp at h
    · exact h
  | (n, k) :: r, acc, h => by
    unfold clGo
    split
    · refine clGo_has r _ ?_
      by_cases hx : x = n
      · subst hx
        exact .inr ⟨(cells.lookup x).getD 0, by rw [List.lookup_cons]; simp⟩
      · rcases h with h | ⟨c, h⟩
        · rcases List.mem_cons.mp h with h | h
          · cases h; exact absurd rfl hx
          · exact .inl h
        · refine .inr ⟨c, ?_⟩
          rw [List.lookup_cons]
          have : (x == n) = false := by simpa using hx
          rw [this]
          exact h
    · rename_i hk
      refine clGo_has r _ ?_
      rcases h with h | h
      · rcases List.mem_cons.mp h with h | h
        · cases h; simp at hk
        · exact .inl h
      · exact .inr h
theorem relabel_back {env : Env} {x : Str} : ∀ {names : List (Str × NameKind)}, (∀ p ∈ names, p.2 ≠ .cell) →
    ((names.map fun (n, k) => if (k == NameKind.free && env.scope.kind == .function && env.kindOf n == some .cell) then (n, NameKind.cell) else (n, k)).lookup x = some .cell ∨
     (names.map fun (n, k) => if (k == NameKind.free && env.scope.kind == .function && env.kindOf n == some .cell) then (n, NameKind.cell) else (n, k)).lookup x = some .free) → (x, NameKind.free) ∈ names
  | [], _, h => by rcases h with h | h <;> simp at h
  | (n, k) :: r, hc, h => by
    have ih := @relabel_back env x r fun p hp => hc p (List.mem_cons_of_mem _ hp)
    rw [List.map_cons] at h
    by_cases hk : (k == NameKind.free && env.scope.kind == .function && env.kindOf n == some .cell) = true
    · simp only [hk, if_true] at h
      cases hx : x == n with
      | true =>
        have e : x = n := by simpa using hx
        have : k = .free := by simp only [Bool.and_eq_true] at hk; simpa using hk.1.1
        rw [e, this]; exact List.mem_cons_self
      | false =>
        simp only [List.lookup_cons, hx] at h
        exact List.mem_cons_of_mem _ (ih h)
    · simp only [hk, if_false, Bool.false_eq_true] at h
      cases hx : x == n with
      | true =>
        have e : x = n := by simpa using hx
        simp only [List.lookup_cons, hx] at h
        rcases h with h | h
        · exact absurd (Option.some.inj h) (hc (n, k) List.mem_cons_self)
        · rw [e, ← Option.some.inj h]; exact List.mem_cons_self
      | false =>
        simp only [List.lookup_cons, hx] at h
        exact List.mem_cons_of_mem _ (ih h)

/-- the context of a comprehension's block -/
def cxC (X : Cx) (scope : Scope) (own : List Str) (fp : List Addr) (C : Addr) (s : Shared) (H : Hp) : Cx :=
  { X with N := X.N ++ own, s₀ := s, H₀ := H, env := compEnvC scope (clGo X.env.cells scope.names []) C X.env, outer := X.stack, stack := X.stack, ex := fp, fn := fun _ => false, pn := [], xe := fun _ _ => False }
/-- what a comprehension's scope keeps to -/
structure CScope (X : Cx) (scope : Scope) (own : List Str) : Prop where
  kind : scope.kind = .function
  nocell : ∀ p ∈ scope.names, p.2 ≠ .cell
  names : ∀ p ∈ scope.names, p.2 = .local → scope.names.lookup p.1 = some .local
  free : ∀ p ∈ scope.names, p.2 = .free → X.env.kindOf p.1 = some .cell ∨ X.env.kindOf p.1 = some .free
  apart : ∀ x ∈ X.N, scope.names.lookup x ≠ some .local
section
variable {X : Cx}
theorem relabel_local {env : Env} {x : Str} : ∀ {names : List (Str × NameKind)},
    (names.map fun (n, k) => if (k == NameKind.free && env.scope.kind == .function && env.kindOf n == some .cell) then (n, NameKind.cell) else (n, k)).lookup x = some .local → names.lookup x = some .local
  | [], h => by simp at h
  | (n, k) :: r, h => by
    have ih := @relabel_local env x r
    rw [List.map_cons] at h
    rw [List.lookup_cons]
    by_cases hk : (k == NameKind.free && env.scope.kind == .function && env.kindOf n == some .cell) = true
    · simp only [hk, if_true] at h
      cases hx : x == n with
      | true => simp [List.lookup_cons, hx] at h
      | false =>
        simp only [List.lookup_cons, hx] at h
        exact ih h
    · simp only [hk, if_false, Bool.false_eq_true] at h
      cases hx : x == n with
      | true => simpa [List.lookup_cons, hx] using h
      | false =>
        simp only [List.lookup_cons, hx] at h
        exact ih h
/-- the block's start -/
theorem inv_comp {scope : Scope} {own : List Str} {fp : List Addr} {pins : List (Addr × Obj)} {σ : St} {H : Hp} {s : Shared} {h4 : Heap} {t4 : Nat} (I : Inv X pins σ H s) (SC : CScope X scope own) (hc : X.calm = true)
    (hf : ∀ b ∈ fp, FpOk X pins H b) (hfo : ∀ b ∈ fp, ∃ o, s.heap.get? b = some o)
    (hns : h4.Ns s.heap.objs.size (fun _ => none)) (hk : ∀ b o, s.heap.get? b = some o → h4.get? b = some o) :
    Inv (cxC X scope own fp s.heap.objs.size s H) [] (σ ++ List.replicate own.length none) H { s with heap := h4, toks := t4 } := by
  have fr : ∀ p ∈ scope.names, p.2 = .free → ∃ c, X.env.cells.lookup p.1 = some c := fun p hp hq => I.ok.has p.1 (SC.free p hp hq)
  have cl : ∀ {x : Str} {c : Addr}, (clGo X.env.cells scope.names []).lookup x = some c → X.env.cells.lookup x = some c := fun h => clGo_lookup scope.names [] fr (fun y d hy => by simp at hy) h
  have clt : ∀ {x : Str} {c : Addr}, X.env.cells.lookup x = some c → c < s.heap.objs.size := fun h => by obtain ⟨v, q⟩ := I.cell _ _ h; exact q.lt
  refine ⟨⟨I.ok.mod, SC.kind, I.ok.glob, I.ok.blt, Nat.le_refl _, fun x y c h1 h2 => I.ok.inj x y c (cl h1) (cl h2), fun x hx => ?_, fun x c h => absurd h (by simp [cxC]), fun _ => I.ok.hd hc, I.ok.frames, .inl rfl, fun b hb => ?_,
      fun b o e => I.bs b o e, Nat.le_trans I.ok.bsz I.sz, fun b o e hb => ?_, fun b hb hz => ?_, I.stack, I.stkFree⟩,
    rfl, I.bare, Un.kept hk, ⟨_, hns, fun i x v e1 e2 e3 => ?_⟩, fun x c h => ?_, I.fresh, fun x c h => I.freeC x c (cl h), fun p hp => absurd (show p ∈ ([] : List (Addr × Obj)) from hp) (by simp), I.hok.kept hk, ?_⟩
  · have hx : (relabel scope X.env).names.lookup x = some .cell ∨ (relabel scope X.env).names.lookup x = some .free := hx
    exact clGo_has scope.names [] (.inl (relabel_back SC.nocell hx))
  · have hb : b ∈ fp := hb
    obtain ⟨o, ho⟩ := hfo b hb
    exact ⟨Nat.ne_of_lt (Heap.lt_size ho), fun x c h => (hf b hb).2.2.2.2.1 x c (cl h)⟩
  · have hb : b ∈ fp := hb
    have e : X.base.get? b = some o := e
    rcases (hf b hb).2.2.2.1 with z | z
    · exact I.ok.noex b o e z
    · exact absurd (Nat.lt_of_lt_of_le (Heap.lt_size e) (Nat.le_trans I.ok.bsz z)) (Nat.lt_irrefl _)
  · have hb : b ∈ fp := hb
    have hz : b ∈ frs X.stack := hz
    rcases List.mem_cons.mp (I.stkSub b hz) with z | z
    · exact (hf b hb).2.1 z
    · exact (hf b hb).2.2.1 z
  · have e1 : (X.N ++ own)[i]? = some x := e1
    have e3 : Vis (relabel scope X.env) x := e3
    have hi : i < σ.length := by
      by_cases hi : i < σ.length
      · exact hi
      · rw [List.getElem?_append_right (by omega), List.getElem?_replicate] at e2
        split at e2 <;> cases e2
    rw [List.getElem?_append_left hi] at e2
    rw [List.getElem?_append_left (by rw [← I.len]; exact hi)] at e1
    have hnl : (relabel scope X.env).names.lookup x ≠ some .local := fun z => SC.apart x (List.mem_of_getElem? e1) (relabel_local z)
    have hv : (relabel scope X.env).names.lookup x = some .cell ∨ (relabel scope X.env).names.lookup x = some .free := by
      rcases e3 with z | z | z
      · exact absurd z hnl
      · exact .inl z
      · exact .inr z
    have hm := relabel_back SC.nocell hv
    have hkx := SC.free (x, .free) hm rfl
    obtain ⟨m, hn, hl⟩ := I.loc
    have hkx' : X.env.scope.names.lookup x = some .cell ∨ X.env.scope.names.lookup x = some .free := hkx
    obtain ⟨u, r, l⟩ := hl i x v e1 e2 (hkx'.elim (fun z => .inr (.inl z)) fun z => .inr (.inr z))
    refine ⟨u, r, .inr ⟨hv, ?_⟩⟩
    obtain ⟨c, hcl⟩ := clGo_has (cells := X.env.cells) scope.names [] (.inl hm)
    refine ⟨c, hcl, ?_⟩
    rcases l with ⟨z, _⟩ | ⟨z, c', hc', q⟩
    · rcases hkx with y | y <;> (rw [z] at y; cases y)
    · have := cl hcl
      rw [hc'] at this; cases this
      obtain ⟨o, ho, hd⟩ := q
      exact ⟨o, hk _ _ ho, hd⟩
  · obtain ⟨v, o, ho, hd⟩ := I.cell x c (cl h)
    exact ⟨v, o, hk _ _ ho, hd⟩
  · show (σ ++ List.replicate own.length none).length = (X.N ++ own).length
    rw [List.length_append, List.length_append, List.length_replicate, I.len]
end
/-- the tests of a comprehension, from the left -/
def testsOf (ifs : List Expr) (env : Env) : Sem Bool :=
  forIn ifs true fun c r => if r = true then do let ok ← isTrue c env (eval c env); pure (ForInStep.yield ok) else pure (ForInStep.yield r)
def PTs (X : Cx) (ifs : List Expr) (t : TT) : Prop :=
  ∀ (pins : List (Addr × Obj)) (s : Shared) (σ : St) (H : Hp) (Q : Bool → Hp → Prop), Inv X pins σ H s → t σ H Q → wpAny (model X.prog X.w) X.A (testsOf ifs X.env) (TP X pins σ Q) X.xe s
theorem tests_false {M : Model} {A : Around} {E : Value → Shared → Prop} {env : Env} {Q : Bool → Shared → Prop} {s : Shared} (h : Q false s) : ∀ ifs : List Expr,
    wpAny M A (forIn ifs false fun c r => if r = true then do let ok ← isTrue c env (eval c env); pure (ForInStep.yield ok) else pure (ForInStep.yield r)) Q E s
  | [] => wpAny_pure h
  | c :: r => by
    rw [List.forIn_cons]
    simp only [Bool.false_eq_true, if_false]
    exact wpAny_bind (wpAny_pure (tests_false h r))
section
variable {X : Cx}
def tTrue : TT := fun _ H Q => Q true H
theorem pts_nil : PTs X [] tTrue := fun _ _ _ H _ I h => wpAny_pure ⟨H, I, h⟩
theorem pts_cons {c : Expr} {r : List Expr} {t u : TT} (h1 : PT X c t) (h2 : PTs X r u) : PTs X (c :: r) (fun σ H Q => t σ H fun b H1 => if b = true then u σ H1 Q else Q false H1) := by
  intro pins s σ H Q I h
  unfold testsOf
  rw [List.forIn_cons]
  simp only [if_true]
  refine wpAny_bind (wpAny_bind (thn (h1 pins s σ H _ I h) fun b s1 ⟨H1, I1, q1⟩ => wpAny_pure ?_))
  cases b with
  | true =>
    rw [if_pos rfl] at q1
    exact h2 pins s1 σ H1 Q I1 q1
  | false =>
    rw [if_neg Bool.false_ne_true] at q1
    exact tests_false ⟨H1, I1, q1⟩ r
end
section
variable {prog : Program} {w : World} {A : Around} {R : Result → Shared → Prop} {s : Shared}
/-- the turns of a list comprehension of one clause -/
theorem comp_turns {elt target iter : Expr} {ifs : List Expr} {scope : Scope} {pos : Pos} {it acc : Value} {env : Env} (I : Nat → Shared → Prop)
    (turn : ∀ n s, I n s → wpAny (model prog w) A (pyNext it) (fun r s1 => match r with
      | none => R (.ok .next) s1
      | some v => wpAny (model prog w) A (letOwnedTupleGo target it v) (fun _ s2 => wpAny (model prog w) A (assign target env v) (fun _ s3 => wpAny (model prog w) A (testsOf ifs env) (fun ok s4 =>
          if ok = true then wpAny (model prog w) A (eval elt env) (fun x s5 => wpAny (model prog w) A (call (.builtin "list.append") [acc, x]) (fun _ s6 => ∃ m, m < n ∧ I m s6) (fun _ _ => False) s5) (fun _ _ => False) s4
          else ∃ m, m < n ∧ I m s4) (fun _ _ => False) s3) (fun _ _ => False) s2) (fun _ _ => False) s1) (fun _ _ => False) s)
    (n : Nat) (h : I n s) : codeAny (model prog w) A (.compLoop (.ListComp elt [⟨target, iter, ifs, 0⟩] scope pos) 0 it acc env) R s := by
  refine codeAny_loop rfl I (fun n s hI => ?_) n h
  show wpAny _ A ((compTurn (.ListComp elt [⟨target, iter, ifs, 0⟩] scope pos) 0 it acc env).onRaise (fun x => do noteFrame x env; theTreesLotGoes x)) _ _ s
  refine wpAny_noted ?_
  rw [compTurn_list]
  have no : ∀ (e : Value) (s' : Shared), (fun (_ : Value) (_ : Shared) => False) e s' → notedBy (model prog w) A env (fun e s' => R (.error e) s') e s' := fun _ _ z => z.elim
  refine wpAny_bind (wpAny_standAt (wpAny_bind (wpAny_mono (turn n s hI) (fun r s1 h1 => ?_) no)))
  cases r with
  | none => exact wpAny_pure h1
  | some v =>
    refine wpAny_bind (wpAny_mono h1 (fun _ s2 h2 => wpAny_bind (wpAny_mono h2 (fun _ s3 h3 => wpAny_bind (wpAny_mono h3 (fun ok s4 h4 => ?_) no)) no)) no)
    cases ok with
    | true =>
      rw [if_pos rfl] at h4
      simp only [if_true]
      exact wpAny_bind (wpAny_bind (wpAny_mono h4 (fun x s5 h5 => wpAny_bind (wpAny_mono h5 (fun _ s6 h6 => wpAny_pure (wpAny_pure ⟨rfl, h6⟩)) no)) no))
    | false =>
      rw [if_neg Bool.false_ne_true] at h4
      simp only [Bool.false_eq_true, if_false]
      first
        | exact wpAny_pure ⟨rfl, h4⟩
        | exact wpAny_bind (wpAny_pure (wpAny_pure ⟨rfl, h4⟩))
end

/-- the elder slots stand as they stood -/
def Wk (σ σ2 : St) : Prop := σ2.length = σ.length ∧ ∀ (j : Nat) (v : V), σ[j]? = some (some v) → σ2[j]? = some (some v)
/-- what a comprehension comes to: W: the invariant by the turn, a measure and the heap -/
def tComp (wi : TI) (g : TG) (tt : TT) (te : TE) (own : Nat) : TE := fun σ H Q => wi σ H fun J H1 => ∀ acc, H1 acc = none → ∃ W : Nat → Nat → Hp → Prop, (∃ m, W 0 m (upd H1 acc (.lst []))) ∧ ∀ i m H, W i m H →
  (J.stop i H ∧ Q (.ref acc) H) ∨ (J.go i H ∧ ∀ x H', J.yld i H x H' → g x (σ ++ List.replicate own none) H' fun σ2 H2 => Wk (σ ++ List.replicate own none) σ2 ∧ tt σ2 H2 fun b H3 =>
    if b = true then te σ2 H3 fun v H4 => ∃ ys, H4 acc = some (.lst ys) ∧ ys.length < sizeLine ∧ ∃ m', m' < m ∧ W (i + 1) m' (upd H4 acc (.lst (ys ++ [v]))) else ∃ m', m' < m ∧ W (i + 1) m' H3)
section
variable {X : Cx} {elt tg iter : Expr} {ifs : List Expr} {scope : Scope} {own : List Str} {pos : Pos} {wi : TI} {g : TG} {tt : TT} {te : TE}
/-- the block, for a use of the list or none -/
theorem comp_run {pins : List (Addr × Obj)} {σ : St} {H2 : Hp} {s2 : Shared} {Q : VK} {it : Addr} {fp : List Addr} {tn : Nat → Heap → Prop} {J : It} {RR : Value → Addr → Result → Shared → Prop}
    (hc : X.calm = true) (SC : CScope X scope own)
    (hblock : ∀ C s H, PG (cxC X scope own fp C s H) tg g ∧ PTs (cxC X scope own fp C s H) ifs tt ∧ PE (cxC X scope own fp C s H) elt te)
    (I2 : Inv X pins σ H2 s2) (T : Turn X.prog X.w X.K tg J fp it tn) (st2 : tn 0 s2.heap) (f2 : ∀ b ∈ fp, FpOk X pins H2 b)
    (h : ∀ acc, H2 acc = none → ∃ W : Nat → Nat → Hp → Prop, (∃ m, W 0 m (upd H2 acc (.lst []))) ∧ ∀ i m H, W i m H →
      (J.stop i H ∧ Q (.ref acc) H) ∨ (J.go i H ∧ ∀ x H', J.yld i H x H' → g x (σ ++ List.replicate own.length none) H' fun σ2 H2 => Wk (σ ++ List.replicate own.length none) σ2 ∧ tt σ2 H2 fun b H3 =>
        if b = true then te σ2 H3 fun v H4 => ∃ ys, H4 acc = some (.lst ys) ∧ ys.length < sizeLine ∧ ∃ m', m' < m ∧ W (i + 1) m' (upd H4 acc (.lst (ys ++ [v]))) else ∃ m', m' < m ∧ W (i + 1) m' H3))
    (hRR : ∀ acc C H' m s', Inv X pins σ H' s' → s'.heap.Ns C m → C ≠ X.env.locals → (∀ x c, X.env.cells.lookup x = some c → c ≠ C) → s2.heap.objs.size ≤ C → H' C = none → Q (.ref acc) H' → RR (.ref acc) C (.ok .next) s') {E : Value → Shared → Prop} :
    wpAny (model X.prog X.w) X.A (newList []) (fun acc s3 => wpAny (model X.prog X.w) X.A (newFunctionEnv scope X.env.globals (clGo X.env.cells scope.names []) [] X.env.qual none .none (some X.env)) (fun cenv s4 =>
      codeAny (model X.prog X.w) X.A (.compStart (.ListComp elt [⟨tg, iter, ifs, 0⟩] scope pos) 0 (.ref it) acc { cenv with scope := relabel scope X.env }) (RR acc cenv.locals) s4) E s3) E s2 := by
  have hacc := I2.fresh
  have I3 : Inv X pins σ (upd H2 s2.heap.objs.size (.lst [])) { s2 with heap := s2.heap.push { cls := .type "list", data := .seq ([] : List Value).toArray }, toks := s2.toks } := I2.lnew .nil (Nat.zero_le _)
  refine wpAny_newObj_type ?_
  obtain ⟨W, ⟨m0, w0⟩, turn⟩ := h _ hacc
  generalize hs3 : ({ s2 with heap := s2.heap.push { cls := .type "list", data := .seq ([] : List Value).toArray }, toks := s2.toks } : Shared) = s3 at I3
  have keep23 : ∀ b o, s2.heap.get? b = some o → s3.heap.get? b = some o := fun b o e => by rw [← hs3]; exact Heap.get?_push_of_some _ e
  have hf3 : ∀ b ∈ fp, FpOk X pins (upd H2 s2.heap.objs.size (.lst [])) b := fun b hb => by
    obtain ⟨o, ho, _⟩ := T.obj _ _ st2 b hb
    exact ⟨by rw [upd_ne (Nat.ne_of_lt (Heap.lt_size ho))]; exact (f2 b hb).1, (f2 b hb).2⟩
  have st3 : tn 0 s3.heap := T.keep _ _ _ st2 fun b hb o e => keep23 b o e
  refine wpAny_newFunctionEnv SC.nocell (by intro y hy; simp at hy) (fun h4 hns hsb => ?_) SC.kind
  have hns' : h4.Ns s3.heap.objs.size (fun _ => none) := by simpa using hns
  have keep34 : ∀ b o, s3.heap.get? b = some o → h4.get? b = some o := fun b o e => hsb.extBut b o (Nat.ne_of_lt (Heap.lt_size e)) (Heap.get?_push_of_some _ e)
  have I4 := inv_comp (t4 := s3.toks + ([] : List (Str × Value)).length) I3 SC hc hf3 (fun b hb => by obtain ⟨o, ho, _⟩ := T.obj _ _ st3 b hb; exact ⟨o, ho⟩) hns' keep34
  have st4 : tn 0 h4 := T.keep _ _ _ st3 fun b hb o e => keep34 b o e
  obtain ⟨hg, ht, he⟩ := hblock s3.heap.objs.size s3 (upd H2 s2.heap.objs.size (.lst []))
  have e5 : (cxC X scope own fp s3.heap.objs.size s3 (upd H2 s2.heap.objs.size (.lst []))).env = compEnvC scope (clGo X.env.cells scope.names []) s3.heap.objs.size X.env := rfl
  generalize hY : cxC X scope own fp s3.heap.objs.size s3 (upd H2 s2.heap.objs.size (.lst [])) = Y at hg ht he I4 e5
  have fpY : ∀ {H' : Hp}, (∀ b ∈ fp, H' b = none) → ∀ b ∈ fp, FpOk Y [] H' b := fun hn b hb => by
    obtain ⟨o, ho, _⟩ := T.obj _ _ st3 b hb
    refine ⟨hn b hb, ?_, ?_, ?_, ?_, ?_⟩
    · rw [← hY]; exact Nat.ne_of_lt (Heap.lt_size ho)
    · have := I4.ok.exfs b (by rw [← hY]; exact hb)
      exact this
    · exact .inl (by rw [← hY]; exact hb)
    · exact fun x c h => (I4.ok.exf b (by rw [← hY]; exact hb)).2 x c h
    · intro p hp; rw [← hY] at hp; exact absurd (show p ∈ ([] : List (Addr × Obj)) from hp) (by simp)
  have hYp : Y.prog = X.prog ∧ Y.w = X.w ∧ Y.K = X.K ∧ Y.calm = true ∧ Y.A = X.A ∧ Y.xe = (fun _ _ => False) ∧ Y.s₀ = s3 ∧ Y.H₀ = upd H2 s2.heap.objs.size (.lst []) ∧ Y.outer = X.stack ∧ Y.ex = fp := by rw [← hY]; exact ⟨rfl, rfl, rfl, hc, rfl, rfl, rfl, rfl, rfl, rfl⟩
  obtain ⟨y1, y2, y3, y4, y5, y6, y7, y8, y9, y10⟩ := hYp
  have loop : ∀ s5 : Shared, s5 = { s3 with heap := h4, toks := s3.toks + ([] : List (Str × Value)).length } →
      codeAny (model X.prog X.w) X.A (.compLoop (.ListComp elt [⟨tg, iter, ifs, 0⟩] scope pos) 0 (.ref it) (.ref s2.heap.objs.size) Y.env) (RR (.ref s2.heap.objs.size) s3.heap.objs.size) s5 := by
    rintro s5 rfl
    refine comp_turns (fun n s' => ∃ i H', Inv Y [] (σ ++ List.replicate own.length none) H' s' ∧ tn i s'.heap ∧ (∀ b ∈ fp, H' b = none) ∧ W i n H') ?_ m0 ⟨0, _, I4, st4, fun b hb => (hf3 b hb).1, w0⟩
    rintro n s6 ⟨i, H6, I6, st6, fr6, w6⟩
    rcases turn i n H6 w6 with ⟨stop, q⟩ | ⟨go, step⟩
    · have d := T.done Y y1 y2 y3 y4 i [] s6 _ H6 (fun _ _ => False) I6 (fpY fr6) st6 stop
      rw [y5] at d
      refine thn d fun r s7 ⟨hr, I7⟩ => ?_
      subst hr
      obtain ⟨m, hn, _⟩ := I7.loc
      have hL : Y.env.locals = s3.heap.objs.size := by rw [e5]; rfl
      rw [hL] at hn
      have b7 := I7.base
      rw [y7, y8, y10] at b7
      have b7' : Un (frs X.stack) fp (upd H2 s2.heap.objs.size (.lst [])) H6 s3.heap s7.heap := by
        have z : Y.fs = frs X.stack := by show frs Y.outer = _; rw [y9]
        rw [z] at b7
        exact b7
      have hok7 := I7.hok
      rw [y1, y2] at hok7
      have os7 := I7.os
      rw [y7] at os7
      have I8 : Inv X pins σ H6 s7 := I3.call' os7 b7' hok7 I7.bare fun b hb => ⟨(hf3 b hb).2.2.2.1, (hf3 b hb).2.1, (hf3 b hb).2.2.2.2.1, (hf3 b hb).2.2.2.2.2⟩
      have hfree := I7.free
      rw [hL] at hfree
      refine hRR _ _ H6 m s7 I8 hn (Nat.ne_of_gt I3.lt) (fun x c h z => ?_) ?_ hfree q
      · obtain ⟨v, y⟩ := I3.cell x c h
        exact absurd y.lt (by rw [z]; exact Nat.lt_irrefl _)
      · rw [← hs3, Heap.size_push]; exact Nat.le_succ _
    · have d := T.item Y y1 y2 y3 y4 i [] s6 _ H6 (fun _ _ => False) I6 (fpY fr6) st6 go
      rw [y5] at d
      refine thn d fun r s7 ⟨u, hr, h7⟩ => ?_
      subst hr
      refine thn h7 fun _ s8 ⟨x, H8, I8, r8, y8', st8, fr8⟩ => ?_
      have I8' := I8.pinned (fpY fr8) (T.obj _ _ st8)
      have pinK : ∀ {σ' : St} {H' : Hp} {s' : Shared}, Inv Y ([] ++ pinsAt fp s8.heap) σ' H' s' → tn (i + 1) s'.heap ∧ ∀ b ∈ fp, H' b = none := fun {σ' H' s'} I' =>
        ⟨T.keep _ _ _ st8 fun b hb o e => (I'.pin (b, o) (List.mem_append_right _ (List.mem_append_right _ (mem_pinsAt hb e)))).1, fun b hb => by
          obtain ⟨o, e, _⟩ := T.obj _ _ st8 b hb
          exact (I'.pin (b, o) (List.mem_append_right _ (List.mem_append_right _ (mem_pinsAt hb e)))).2.1⟩
      have dg := hg _ s8 _ H8 x u _ I8' r8 (step x H8 y8')
      rw [y1, y2, y5, y6] at dg
      refine thn dg fun _ s9 ⟨σ9, H9, I9, wk, q9⟩ => ?_
      have dt := ht _ s9 σ9 H9 _ I9 q9
      rw [y1, y2, y5, y6] at dt
      refine thn dt fun ok s10 ⟨H10, I10, q10⟩ => ?_
      cases ok with
      | true =>
        rw [if_pos rfl] at q10 ⊢
        have de := he _ s10 σ9 H10 _ I10 q10
        rw [y1, y2, y5, y6] at de
        refine thn de fun y s11 ⟨v11, H11, I11, r11, ys, hys, hz, m', hm, w11⟩ => ?_
        have da := mt_append (X := Y) _ s11 σ9 H11 (.ref s2.heap.objs.size) [v11] (.ref s2.heap.objs.size) [y] (fun _ H' => H' = upd H11 s2.heap.objs.size (.lst (ys ++ [v11]))) I11 rfl (.cons r11 .nil) ⟨_, ys, v11, rfl, rfl, hys, hz, rfl⟩
        rw [y1, y2, y5, y6] at da
        refine thn da fun _ s12 ⟨v12, H12, I12, r12, e12⟩ => ?_
        subst e12
        obtain ⟨t12, f12⟩ := pinK I12
        exact ⟨m', hm, i + 1, _, (I12.unpinned).weak wk.1.symm wk.2, t12, f12, w11⟩
      | false =>
        rw [if_neg Bool.false_ne_true] at q10 ⊢
        obtain ⟨m', hm, w10⟩ := q10
        obtain ⟨t10, f10⟩ := pinK I10
        exact ⟨m', hm, i + 1, _, (I10.unpinned).weak wk.1.symm wk.2, t10, f10, w10⟩
  rw [e5] at loop
  exact codeAny_compStart_list (loop _ rfl) (T.self _ 0 _ _ _ st4 (loop _ rfl))

/-- a list comprehension of one clause -/
theorem pe_comp (hc : X.calm = true) (SC : CScope X scope own) (hi : PI X.nox tg iter wi)
    (hblock : ∀ fp C s H, PG (cxC X scope own fp C s H) tg g ∧ PTs (cxC X scope own fp C s H) ifs tt ∧ PE (cxC X scope own fp C s H) elt te)
    (hs : ∀ x, foldedSetIterable iter X.env x = pure x := by intro _; rfl) :
    PE X.nox (.ListComp elt [⟨tg, iter, ifs, 0⟩] scope pos) (tComp wi g tt te own.length) := by
  intro pins s σ H Q I h
  have fr : ∀ p ∈ scope.names, p.2 = .free → ∃ c, X.env.cells.lookup p.1 = some c := fun p hp hq => I.ok.has p.1 (SC.free p hp hq)
  rw [eval_ListComp]
  refine wpAny_comprehension_free (use := none) rfl hs (closure_is fr) SC.kind SC.names (thn (hi pins s σ H _ I h) fun v s1 h1 => thn h1 fun itv s2 h2 => ?_)
  obtain ⟨it, fp, tn, J, H2, e, I2, T, st2, f2, h2⟩ := h2
  subst e
  refine comp_run (X := X.nox) (own := own) (RR := fun acc C => compPost (model X.prog X.w) X.A (fun _ _ => False) none (EP X.nox pins σ Q) acc C) hc ⟨SC.kind, SC.nocell, SC.names, SC.free, SC.apart⟩ (fun C s H => hblock fp C s H) I2 T st2 f2 h2 ?_
  intro acc C H' m s' I' hn hL hcl hC hH q
  obtain ⟨f0, f1, f2', f3, f4, f5⟩ := I2.fpOk hC hH
  refine ⟨m, hn, fun h' hsb => ⟨.ref acc, H', ?_, rfl, q⟩⟩
  exact I'.turned (t' := s'.toks) (fun b o hb e => (hsb.2 b hb).trans e) f0 f1 f3 f4 f5
end
end L2
end
section
set_option Elab.async false
set_option linter.all false
set_option maxRecDepth 100000
set_option maxHeartbeats 4000000
namespace L2
open PySem PySem.Spec PyProof.Rows
section
variable {X : Cx} {pins : List (Addr × Obj)} {σ : St} {H : Hp} {s : Shared} {h' : Heap}
/-- the records at ch have turned, a new object is laid and tracked -/
theorem Inv.turnedNew {t' : Nat} {ch : List Addr} {p : Addr} {o : HO} (I : Inv X pins σ H s) (hp : s.heap.objs.size ≤ p) (k : ∀ b ob, b ∉ ch → s.heap.get? b = some ob → h'.get? b = some ob) (hf : ∀ b ∈ ch, FpOk X pins H b)
    (new : ObjOk X.prog X.w (upd H p o) h' p o) : Inv X pins σ (upd H p o) { s with heap := h', toks := t' } := by
  have hn : H p = none := I.hok.fresh hp
  have nit : ∀ b u, H b = some u → b ∉ ch := fun b u e z => by rw [(hf b z).1] at e; cases e
  have nep : ∀ {b ob}, s.heap.get? b = some ob → b ≠ p := fun e => Nat.ne_of_lt (Nat.lt_of_lt_of_le (Heap.lt_size e) hp)
  refine I.step (g' := s.gens) (d' := s.drawn) (ch := ch) (fun b hb => ⟨(hf b hb).2.2.2.1, (hf b hb).2.1, (hf b hb).2.2.2.2.1, (hf b hb).2.2.2.2.2⟩) (fun b ob _ _ hc e _ => k b ob hc e) (fun b ob _ _ hc e _ => ⟨ob.slots, k b ob hc e⟩)
    (fun b ob hc e n => by rw [upd_ne (nep e)]; exact n) (fun b ob hc e => ⟨ob, k b ob hc e⟩) (fun b xs e => by rw [upd_ne (ne_of_none e hn)]; exact e) (fun b u xs e => by rw [upd_ne (ne_of_none e hn)]; exact e)
    (fun b ps e => ⟨#[], by rw [upd_ne (ne_of_none e hn), e]; simp⟩) (fun m hm => ?_) (fun b u e => ?_) I.bare
  · obtain ⟨ob, es, ep, ho, r⟩ := hm
    exact ⟨ob, es, ep, k _ ob (fun z => (hf _ z).2.1 rfl) ho, r⟩
  · by_cases hb : b = p
    · subst hb; rw [upd_same] at e; cases e; exact new
    · rw [upd_ne hb] at e
      refine (I.hok b u e).stay (fun c v hc q => k c v ?_ q) (fun c q => by rw [upd_ne (ne_of_none q hn)]; exact q) fun c xs q => by rw [upd_ne (ne_of_none q hn)]; exact q
      rcases hc with z | z
      · rw [z]; exact nit b u e
      · exact nit c _ z
/-- the records at ch have turned -/
theorem Inv.turnedL {t' : Nat} {ch : List Addr} (I : Inv X pins σ H s) (k : ∀ b ob, b ∉ ch → s.heap.get? b = some ob → h'.get? b = some ob) (hf : ∀ b ∈ ch, FpOk X pins H b) : Inv X pins σ H { s with heap := h', toks := t' } := by
  have nit : ∀ b u, H b = some u → b ∉ ch := fun b u e z => by rw [(hf b z).1] at e; cases e
  refine I.step (g' := s.gens) (d' := s.drawn) (ch := ch) (fun b hb => ⟨(hf b hb).2.2.2.1, (hf b hb).2.1, (hf b hb).2.2.2.2.1, (hf b hb).2.2.2.2.2⟩) (fun b ob _ _ hc e _ => k b ob hc e) (fun b ob _ _ hc e _ => ⟨ob.slots, k b ob hc e⟩)
    (fun _ _ _ _ n => n) (fun b ob hc e => ⟨ob, k b ob hc e⟩) (fun _ _ e => e) (fun _ _ _ e => e) (fun b ps e => ⟨#[], by rw [e]; simp⟩) (fun m hm => ?_) (fun b u e => ?_) I.bare
  · obtain ⟨ob, es, ep, ho, r⟩ := hm
    exact ⟨ob, es, ep, k _ ob (fun z => (hf _ z).2.1 rfl) ho, r⟩
  · refine (I.hok b u e).stay (fun c v hc q => k c v ?_ q) (fun _ q => q) fun _ _ q => q
    rcases hc with z | z
    · rw [z]; exact nit b u e
    · exact nit c _ z
end
/-- pairs of two lists, as they stand at each turn -/
def Itz (K : PySem.W.Frag) (a b : Addr) : It :=
  ⟨fun i H => ∃ xs ys x y, SqL K H a xs ∧ SqL K H b ys ∧ xs[i]? = some x ∧ ys[i]? = some y,
   fun i H v H' => ∃ p, H p = none ∧ v = .ref p ∧ ∀ xs ys x y, SqL K H a xs → SqL K H b ys → xs[i]? = some x → ys[i]? = some y → H' = upd H p (.tup [x, y]),
   fun i H => ∃ xs ys, SqL K H a xs ∧ SqL K H b ys ∧ (xs.length ≤ i ∨ ys.length ≤ i)⟩
theorem turn_zip {P : Program} {w : World} {K : PySem.W.Frag} {elts : List Expr} {k : Nat} {pos : Pos} {a b z TI TO i1 i2 : Addr} (D : ZipApart z TI TO i1 i2 a b) (hTz : TI ≠ TO) :
    Turn P w K (.Tuple elts k pos) (Itz K a b) [z, TO, i1, i2, TI] z
      (fun i h => IsZip h z TI TO .none ∧ IsPair h TI (.ref i1) (.ref i2) ∧ (∃ c d, IsPair h TO c d) ∧ h.IsListIter i1 a i ∧ h.IsListIter i2 b i) where
  mem := by simp
  obj := fun i h st c hc => by
    obtain ⟨hz, hTI, ⟨x, y, hTO⟩, ⟨o1, e1, c1, d1⟩, ⟨o2, e2, c2, d2⟩⟩ := st
    simp only [List.mem_cons, List.not_mem_nil, or_false] at hc
    rcases hc with rfl | rfl | rfl | rfl | rfl
    · exact ⟨_, hz, fun v z => by cases z⟩
    · exact ⟨_, hTO, fun v z => by cases z⟩
    · exact ⟨_, e1, fun v z => by rw [d1] at z; cases z⟩
    · exact ⟨_, e2, fun v z => by rw [d2] at z; cases z⟩
    · exact ⟨_, hTI, fun v z => by cases z⟩
  keep := fun i h h' st kk => by
    obtain ⟨hz, hTI, ⟨x, y, hTO⟩, h1, h2⟩ := st
    exact ⟨kk z (by simp) _ hz, kk TI (by simp) _ hTI, ⟨x, y, kk TO (by simp) _ hTO⟩, h1.at fun o e => kk i1 (by simp) o e, h2.at fun o e => kk i2 (by simp) o e⟩
  item := by
    intro X hP hw hK hc i pins s σ H E I hf st hg
    subst hP hw hK
    obtain ⟨xs, ys, x, y, hq1, hq2, hx, hy⟩ := hg
    obtain ⟨hz, hTI, ⟨u0, v0, hTO⟩, h1, h2⟩ := st
    obtain ⟨its, rv, p, hzl⟩ := I.list hq1
    obtain ⟨jts, rw', p', hzl'⟩ := I.list hq2
    obtain ⟨u, hu, ru⟩ := rv.get hx
    obtain ⟨u', hu', ru'⟩ := rw'.get hy
    refine wpAny_pyNext_zip_item D hz hTI hTO h1 h2 p.isList p'.isList (x := u) (y := u') (by simpa using hu) (by simpa using hu') fun h' a1 a2 a3 a4 a5 a6 hk => ?_
    refine ⟨_, rfl, wpAny_letOwnedTupleGo_zip a1 fun h'' z'' hs'' => ?_⟩
    have szn : z ≠ s.heap.objs.size := Nat.ne_of_lt (Heap.lt_size hz)
    have hT'' : IsPair h'' s.heap.objs.size u u' := hs''.extBut _ _ (Ne.symm szn) a5
    have I1 : Inv X pins σ (upd H s.heap.objs.size (.tup [x, y])) { s with heap := h'' } := I.turnedNew (t' := s.toks) (ch := [z, TO, i1, i2]) (Nat.le_refl _)
      (fun c ob hc e => by
        simp only [List.mem_cons, List.not_mem_nil, or_false, not_or] at hc
        exact hs''.extBut _ _ hc.1 (hk c ob hc.1 hc.2.1 hc.2.2.1 hc.2.2.2 e))
      (fun c hc => hf c (by simp only [List.mem_cons, List.not_mem_nil, or_false] at hc ⊢; rcases hc with z | z | z | z <;> simp [z]))
      ⟨by show 2 ≤ sizeLine; decide, [u, u'], .cons ru (.cons ru' .nil), ⟨_, hT'', rfl, _, rfl⟩⟩
    refine ⟨.ref s.heap.objs.size, _, I1, rfl, ⟨_, I.fresh, rfl, fun xs' ys' x' y' q1 q2 hx' hy' => ?_⟩, ?_, fun c hc => ?_⟩
    · have e1 := I.list_inj q1 hq1
      have e2 := I.list_inj q2 hq2
      subst e1 e2
      rw [hx] at hx'; rw [hy] at hy'
      cases hx'; cases hy'; rfl
    · refine ⟨z'', hs''.extBut _ _ D.TIz (hk _ _ D.TIz hTz D.TIi1 D.TIi2 hTI), ⟨_, _, hs''.extBut _ _ D.TOz a2⟩, a3.extBut hs''.extBut D.i1z, a4.extBut hs''.extBut D.i2z⟩
    · have : c ≠ s.heap.objs.size := by
        have hlt : ∃ o, s.heap.get? c = some o := by
          simp only [List.mem_cons, List.not_mem_nil, or_false] at hc
          rcases hc with rfl | rfl | rfl | rfl | rfl
          · exact ⟨_, hz⟩
          · exact ⟨_, hTO⟩
          · obtain ⟨o, e, _⟩ := h1; exact ⟨o, e⟩
          · obtain ⟨o, e, _⟩ := h2; exact ⟨o, e⟩
          · exact ⟨_, hTI⟩
        obtain ⟨o, e⟩ := hlt
        exact Nat.ne_of_lt (Heap.lt_size e)
      rw [upd_ne this]
      exact (hf c hc).1
  done := by
    intro X hP hw hK hc i pins s σ H E I hf st hg
    subst hP hw hK
    obtain ⟨xs, ys, hq1, hq2, hx⟩ := hg
    obtain ⟨hz, hTI, ⟨u0, v0, hTO⟩, h1, h2⟩ := st
    obtain ⟨its, rv, p, hzl⟩ := I.list hq1
    obtain ⟨jts, rw', p', hzl'⟩ := I.list hq2
    have l1 := rv.length
    have l2 := rw'.length
    refine wpAny_pyNext_zip_end (I.ok.hd hc) D hz hTI hTO h1 h2 p.isList p'.isList (hx.elim (fun q => .inl (by simp; omega)) fun q => .inr (by simp; omega)) fun h' hk => ⟨rfl, ?_⟩
    exact I.turnedL (t' := s.toks) (ch := [z, TO, i1, i2]) (fun c ob hc e => by
        simp only [List.mem_cons, List.not_mem_nil, or_false, not_or] at hc
        exact hk c ob hc.1 hc.2.1 hc.2.2.1 hc.2.2.2 e)
      (fun c hc => hf c (by simp only [List.mem_cons, List.not_mem_nil, or_false] at hc ⊢; rcases hc with z | z | z | z <;> simp [z]))
  self := fun _ _ _ _ _ st h => wpAny_pyIter_zip st.1 h
section
variable {X : Cx}
def iZip (K : PySem.W.Frag) (ta : TA) : TI := fun σ H R => ta σ H fun vs H1 => ∃ a b, vs = [.ref a, .ref b] ∧ (∃ xs, SqL K H1 a xs) ∧ (∃ ys, SqL K H1 b ys) ∧ R (Itz K a b) H1
theorem pi_zip {elts : List Expr} {k : Nat} {tp : Pos} {e1 e2 : Expr} {ta : TA} {p pos : Pos} (hg : Gl X "zip") (hm : X.mg "zip" = none) (ha : PA X [e1, e2] ta)
    (hs : starEach [e1, e2] X.env = [(false, eval e1 X.env), (false, eval e2 X.env)]) (hs2 : starEach [e2] X.env = [(false, eval e2 X.env)]) :
    PI X (.Tuple elts k tp) (.Call (.Name "zip" p) [e1, e2] [] pos) (iZip X.K ta) := by
  intro pins s σ H R I h
  refine wpAny_Call_Name_kw (ld_blt I hg hm PyProof.Rows.boot_zip ?_ (by decide) (by decide))
  refine PyProof.Rows.callWith_type1 (thn (ha pos pins s σ H _ I h) fun us s1 ⟨vs, H1, I1, r1, q1⟩ => ?_) (by rw [hs, hs2]) (by rw [hs2]; rfl)
  obtain ⟨a, b, e, ⟨xs, hq1⟩, ⟨ys, hq2⟩, q⟩ := q1
  subst e
  cases r1 with
  | cons ra r1 =>
    cases r1 with
    | cons rb r1 =>
      cases r1
      cases ra
      cases rb
      obtain ⟨its, rv, p1, hz1⟩ := I1.list hq1
      obtain ⟨jts, rw', p2, hz2⟩ := I1.list hq2
      have a1 : a < s1.heap.objs.size := by obtain ⟨_, e, _⟩ := p1.isList; exact Heap.lt_size e
      have a2 : b < s1.heap.objs.size := by obtain ⟨_, e, _⟩ := p2.isList; exact Heap.lt_size e
      refine call_zip_2 p1.isList p2.isList fun h' hz hTI hTO hi1 hi2 _ hk => ?_
      refine wpAny_pyIter_zip (f0 := .none) hz ?_
      have I2 : Inv X pins σ H1 { s1 with heap := h' } := I1.kept (t' := s1.toks) fun c o e => hk c o e
      refine ⟨_, _, _, Itz X.K a b, H1, rfl, I2, turn_zip (zipApart_new a1 a2) (zipApart_new a1 a2).TITO, ⟨hz, hTI, ⟨_, _, hTO⟩, hi1, hi2⟩, fun c hc => ?_, q⟩
      have hge : s1.heap.objs.size ≤ c := by
        simp only [List.mem_cons, List.not_mem_nil, or_false] at hc
        rcases hc with rfl | rfl | rfl | rfl | rfl <;> first | exact Nat.le_refl _ | exact Nat.le_add_right _ _
      exact I1.fpOk hge (I1.hok.fresh hge)
end
end L2
end
section
/-! A small language of its own, and what it does: values, a store of lists, expressions, statements, defs. -/
namespace Kw
inductive PV where
  | non | bl (b : Bool) | int (i : Int) | str (x : String) | tup (xs : List PV) | ref (l : Nat)
  /-- the script: a list of upto that is never written -/
  | scr (ns : List Int)
  deriving Inhabited
mutual
def PV.beq : PV → PV → Bool
  | .non, .non => true
  | .bl a, .bl b => a == b
  | .int a, .int b => a == b
  | .str a, .str b => a == b
  | .tup a, .tup b => PV.beqs a b
  | .ref a, .ref b => a == b
  | .scr a, .scr b => a == b
  | _, _ => false
def PV.beqs : List PV → List PV → Bool
  | [], [] => true
  | a :: r, b :: q => PV.beq a b && PV.beqs r q
  | _, _ => false
end
mutual
theorem PV.beq_eq : ∀ {a b : PV}, PV.beq a b = true → a = b
  | .non, b, h => by cases b <;> simp_all [PV.beq]
  | .bl _, b, h => by cases b <;> simp_all [PV.beq]
  | .int _, b, h => by cases b <;> simp_all [PV.beq]
  | .str _, b, h => by cases b <;> simp_all [PV.beq]
  | .ref _, b, h => by cases b <;> simp_all [PV.beq]
  | .scr _, b, h => by cases b <;> simp_all [PV.beq]
  | .tup xs, b, h => by
    cases b <;> simp [PV.beq] at h
    rw [PV.beqs_eq h]
theorem PV.beqs_eq : ∀ {a b : List PV}, PV.beqs a b = true → a = b
  | [], b, h => by cases b <;> simp_all [PV.beqs]
  | x :: r, b, h => by
    cases b with
    | nil => simp [PV.beqs] at h
    | cons y q =>
      simp [PV.beqs] at h
      rw [PV.beq_eq h.1, PV.beqs_eq h.2]
end
mutual
theorem PV.beq_rfl : ∀ a : PV, PV.beq a a = true
  | .non => rfl
  | .bl _ => by simp [PV.beq]
  | .int _ => by simp [PV.beq]
  | .str _ => by simp [PV.beq]
  | .ref _ => by simp [PV.beq]
  | .scr _ => by simp [PV.beq]
  | .tup xs => by simp [PV.beq, PV.beqs_rfl xs]
theorem PV.beqs_rfl : ∀ a : List PV, PV.beqs a a = true
  | [] => rfl
  | x :: r => by simp [PV.beqs, PV.beq_rfl x, PV.beqs_rfl r]
end
instance : DecidableEq PV := fun a b =>
  if h : PV.beq a b = true then .isTrue (PV.beq_eq h) else .isFalse (fun e => h (e ▸ PV.beq_rfl a))

/-- what stands in the store -/
inductive PO where
  | lst (xs : List PV)
  deriving DecidableEq, Inhabited
abbrev Sto := List PO
abbrev Loc := List (Option PV)
def big : Nat := 100000

inductive BOp where | add | sub | mul | fdiv | mod | pow
  deriving DecidableEq, Inhabited
inductive COp where | eq | ne | lt | le | gt | ge | isin | notin
  deriving DecidableEq, Inhabited
/-- where a value goes: a slot; several slots by unpacking -/
inductive Tg where | nm (i : Nat) | tp (is : List Nat)
  deriving DecidableEq, Inhabited
inductive BF where | len | abs | int | sum | all | any | min | max | tuple | list
  deriving DecidableEq, Inhabited
inductive Ty where | int | bool | str | list | tuple
  deriving DecidableEq, Inhabited
inductive MF where | append | extend
  deriving DecidableEq, Inhabited

inductive E where
  | var (i : Nat) | int (i : Int) | bl (b : Bool) | non | str (x : String)
  | bin (op : BOp) (a b : E) | cmp (op : COp) (a b : E)
  /-- a is c, for c a written None, True, False; k: is not -/
  | is (k : Bool) (a c : E)
  | chain (o p : COp) (a b c : E)
  | and (a b : E) | or (a b : E) | not (a : E) | neg (a : E) | ite (c a b : E)
  | tup (es : E) | lst (es : E) | nil | cons (e es : E)
  | ix (a i : E) | sl (a lo hi : E) | none
  | call (f : Nat) (args : E)
  | blt (f : BF) (args : E)
  | isi (a : E) (ts : List Ty)
  | meth (f : MF) (o a : E)
  /-- [elt for tg in it if ifs]; n: how many slots ahead of its own; m: how many of its own -/
  | comp (elt : E) (tg : Tg) (n m : Nat) (it ifs : E)
  /-- what is walked: range(a), range(a, b), zip(a, b), enumerate(a), reversed(range(a)), reversed(a) -/
  | rng (a : E) | rng2 (a b : E) | zip (a b : E) | enum (a : E) | revr (a : E) | rev (a : E)
  deriving Inhabited
inductive S where
  | nil | cons (s r : S)
  | asg (tg : Tg) (e : E) | setix (o i e : E) | aug (i : Nat) (op : BOp) (e : E)
  | ret (e : E) | retN | expr (e : E) | pass | ife (c : E) (a b : S) | whl (c : E) (b : S) | for_ (tg : Tg) (it : E) (b : S) | brk | cont
  deriving Inhabited

abbrev R (α : Type) := Option (α × Sto)
def listOf (st : Sto) : PV → Option (List PV)
  | .ref l => match st[l]? with
    | some (.lst xs) => some xs
    | none => none
  | .scr ns => some (ns.map .int)
  | _ => none
def seqOf (st : Sto) : PV → Option (List PV)
  | .tup xs => some xs
  | v => listOf st v
def truthy (st : Sto) : PV → Option Bool
  | .non => some false
  | .bl b => some b
  | .int i => some (i != 0)
  | .str _ => none
  | .tup xs => some (!xs.isEmpty)
  | v => (listOf st v).map fun xs => !xs.isEmpty
def b2i : Bool → Int | true => 1 | false => 0
/-- == of plain values -/
def eqv (st : Sto) : PV → PV → Option Bool
  | .non, .non => some true
  | .bl a, .bl b => some (a == b)
  | .int a, .int b => some (a == b)
  | .str a, .str b => some (a == b)
  | .non, .bl _ => some false | .non, .int _ => some false | .non, .str _ => some false
  | .bl _, .non => some false | .bl _, .str _ => some false
  | .int _, .non => some false | .int _, .str _ => some false
  | .str _, .non => some false | .str _, .int _ => some false | .str _, .bl _ => some false
  | _, _ => none
def small (i : Int) : Bool := decide (-(2 ^ 64) < i ∧ i < 2 ^ 64)
def alloc (st : Sto) (xs : List PV) : R PV := if xs.length ≤ big then some (.ref st.length, st ++ [.lst xs]) else none
def binop : BOp → PV → PV → Sto → R PV
  | .add, .int i, .int j, st => some (.int (i + j), st)
  | .add, .tup xs, .tup ys, st => if xs ≠ [] ∧ xs.length + ys.length ≤ big then some (.tup (xs ++ ys), st) else none
  | .add, .ref a, .ref b, st => match st[a]?, st[b]? with
    | some (.lst xs), some (.lst ys) => alloc st (xs ++ ys)
    | _, _ => none
  | .sub, .int i, .int j, st => some (.int (i - j), st)
  | .mul, .int i, .int j, st => if small i || small j then some (.int (i * j), st) else none
  | .fdiv, .int i, .int j, st => if 0 < j ∧ j < 1073741824 then some (.int (i / j), st) else none
  | .mod, .int i, .int j, st => if 0 < j then some (.int (i % j), st) else none
  | .pow, .int i, .int j, st => if 0 ≤ j ∧ j ≤ 1000 ∧ small i then some (.int (i ^ j.toNat), st) else none
  | _, _, _, _ => none
def cmpop : COp → PV → PV → Sto → Option Bool
  | .eq, a, b, st => eqv st a b
  | .ne, a, b, st => (eqv st a b).map (!·)
  | .lt, .int i, .int j, _ => some (decide (i < j))
  | .le, .int i, .int j, _ => some (decide (i ≤ j))
  | .gt, .int i, .int j, _ => some (decide (j < i))
  | .ge, .int i, .int j, _ => some (decide (j ≤ i))
  | _, _, _, _ => none
def ixN (n : Nat) (i : Int) : Option Nat := if 0 ≤ i then (if i < n then some i.toNat else none) else if -(n : Int) ≤ i then some (i + n).toNat else none
def atI (xs : List PV) (i : Int) : Option PV := (ixN xs.length i).bind fun j => xs[j]?
/-- a cut's end -/
def sIx (n d : Nat) : Option Int → Nat
  | none => d
  | some v => if v < 0 then (v + n).toNat else min v.toNat n
def cut (xs : List PV) (lo hi : Option Int) : List PV := (xs.drop (sIx xs.length 0 lo)).take (sIx xs.length xs.length hi - sIx xs.length 0 lo)
def slice (st : Sto) (v : PV) (lo hi : Option Int) : R PV := match v with
  | .tup xs => if sIx xs.length 0 lo = 0 ∧ sIx xs.length xs.length hi = xs.length then none else some (.tup (cut xs lo hi), st)
  | .ref l => match st[l]? with
    | some (.lst xs) => some (.ref st.length, st ++ [.lst (cut xs lo hi)])
    | _ => none
  | _ => none
def small40 (i : Int) : Bool := decide (-(2 ^ 40) ≤ i ∧ i ≤ 2 ^ 40)
def intsOf : List PV → Option (List Int)
  | [] => some []
  | .int i :: r => (intsOf r).map (i :: ·)
  | _ => none
def sumI (xs : List PV) : Option Int := (intsOf xs).bind fun ns => if ns.length ≤ big ∧ ns.all small40 then some ns.sum else none
def bools : List PV → Option (List Bool)
  | [] => some []
  | .bl b :: r => (bools r).map (b :: ·)
  | _ => none
def bfun : BF → List PV → Sto → R PV
  | .len, [v], st => (seqOf st v).bind fun xs => some (.int xs.length, st)
  | .abs, [.int i], st => some (.int (if i < 0 then -i else i), st)
  | .int, [.int i], st => some (.int i, st)
  | .int, [.bl b], st => some (.int (if b then 1 else 0), st)
  | .sum, [v], st => (listOf st v).bind fun xs => (sumI xs).bind fun n => some (.int n, st)
  | .all, [v], st => (listOf st v).bind fun xs => (bools xs).bind fun bs => some (.bl (bs.all id), st)
  | .any, [v], st => (listOf st v).bind fun xs => (bools xs).bind fun bs => some (.bl (bs.any id), st)
  | .min, [.int i, .int j], st => some (.int (if j < i then j else i), st)
  | .max, [.int i, .int j], st => some (.int (if j > i then j else i), st)
  | .tuple, [v], st => (seqOf st v).bind fun xs => some (.tup xs, st)
  | .list, [v], st => (seqOf st v).bind fun xs => some (.ref st.length, st ++ [.lst xs])
  | _, _, _ => none
def isTy (st : Sto) : PV → Ty → Option Bool
  | .non, _ => some false
  | .bl _, t => some (t == .int || t == .bool)
  | .int _, t => some (t == .int)
  | .str _, t => some (t == .str)
  | .tup _, t => some (t == .tuple)
  | .ref l, t => match st[l]? with
    | some (.lst _) => some (t == .list)
    | none => none
  | .scr _, _ => none
def isTys (st : Sto) (v : PV) : List Ty → Option Bool
  | [] => some false
  | t :: r => (isTy st v t).bind fun a => (isTys st v r).bind fun b => some (a || b)
def mfun : MF → PV → PV → Sto → R PV
  | .append, .ref l, v, st => match st[l]? with
    | some (.lst xs) => if xs.length < big then some (.non, st.set l (.lst (xs ++ [v]))) else none
    | _ => none
  | .extend, .ref l, v, st => match st[l]?, listOf st v with
    | some (.lst xs), some ys => if xs.length + ys.length ≤ big ∧ v ≠ .ref l then some (.non, st.set l (.lst (xs ++ ys))) else none
    | _, _ => none
  | _, _, _, _ => none
def setAll : Loc → List Nat → List PV → Option Loc
  | L, [], [] => some L
  | L, i :: is, v :: vs => setAll (L.set i (some v)) is vs
  | _, _, _ => none
def asgT (tg : Tg) (v : PV) (L : Loc) (st : Sto) : Option Loc := match tg with
  | .nm i => some (L.set i (some v))
  | .tp is => match v with
    | .tup xs => setAll L is xs
    | _ => none
/-- the lists that are walked stand as they stood -/
abbrev Gd := List (Nat × List PV)
def okG (st : Sto) (gs : Gd) : Bool := gs.all fun p => decide (listOf st (.ref p.1) = some p.2)
def gdOf : PV → List PV → Gd
  | .ref l, xs => [(l, xs)]
  | _, _ => []
def upto (lo : Int) : Nat → List PV
  | 0 => []
  | n + 1 => .int lo :: upto (lo + 1) n
def small62 (i : Int) : Bool := decide (-(2 ^ 62) ≤ i ∧ i < 2 ^ 62)

section
variable (call : Nat → List PV → Sto → R PV)
/-- a comprehension's turns -/
def compItems (tg : Tg) (gs : Gd) (tst : Loc → Sto → R Bool) (el : Loc → Sto → R PV) (L : Loc) : List PV → Sto → R (List PV)
  | [], st => if okG st gs then some ([], st) else none
  | x :: xs, st => if okG st gs then
      (asgT tg x L st).bind fun L1 => (tst L1 st).bind fun (b, st1) =>
        if b then (el L1 st1).bind fun (v, st2) => (compItems tg gs tst el L xs st2).bind fun (vs, st3) => some (v :: vs, st3)
        else compItems tg gs tst el L xs st1
    else none
mutual
def ev : E → Loc → Sto → R PV
  | .var i, L, st => match L[i]? with
    | some (some v) => some (v, st)
    | _ => none
  | .int i, _, st => some (.int i, st)
  | .bl b, _, st => some (.bl b, st)
  | .non, _, st => some (.non, st)
  | .str x, _, st => some (.str x, st)
  | .bin op a b, L, st => (ev a L st).bind fun (x, st1) => (ev b L st1).bind fun (y, st2) => binop op x y st2
  | .cmp op a b, L, st => (ev a L st).bind fun (x, st1) => (ev b L st1).bind fun (y, st2) => (cmpop op x y st2).bind fun r => some (.bl r, st2)
  | .is k a c, L, st => (ev a L st).bind fun (x, st1) => match c with
    | .non => some (.bl (k != decide (x = .non)), st1)
    | .bl b => some (.bl (k != decide (x = .bl b)), st1)
    | _ => none
  | .chain o p a b c, L, st => (ev a L st).bind fun (x, st1) => (ev b L st1).bind fun (y, st2) => (cmpop o x y st2).bind fun r =>
      if r then (ev c L st2).bind fun (z, st3) => (cmpop p y z st3).bind fun q => some (.bl q, st3) else some (.bl false, st2)
  | .and a b, L, st => (ev a L st).bind fun (x, st1) => match x with
    | .bl r => if r then ev b L st1 else some (.bl false, st1)
    | _ => none
  | .or a b, L, st => (ev a L st).bind fun (x, st1) => match x with
    | .bl r => if r then some (.bl true, st1) else ev b L st1
    | _ => none
  | .not a, L, st => (ev a L st).bind fun (x, st1) => match x with
    | .bl b => some (.bl (!b), st1)
    | _ => none
  | .neg a, L, st => (ev a L st).bind fun (x, st1) => match x with
    | .int i => some (.int (-i), st1)
    | _ => none
  | .ite c a b, L, st => (evT c L st).bind fun (r, st1) => if r then ev a L st1 else ev b L st1
  | .tup es, L, st => (evs es L st).bind fun (xs, st1) => if xs.length ≤ big then some (.tup xs, st1) else none
  | .lst es, L, st => (evs es L st).bind fun (xs, st1) => alloc st1 xs
  | .ix a i, L, st => (ev a L st).bind fun (x, st1) => (ev i L st1).bind fun (y, st2) => match y with
    | .int j => (seqOf st2 x).bind fun xs => (atI xs j).bind fun v => some (v, st2)
    | _ => none
  | .sl a lo hi, L, st => (ev a L st).bind fun (x, st1) => (evO lo L st1).bind fun (l, st2) => (evO hi L st2).bind fun (h, st3) => slice st3 x l h
  | .call f args, L, st => (evs args L st).bind fun (xs, st1) => call f xs st1
  | .blt f args, L, st => (evs args L st).bind fun (xs, st1) => bfun f xs st1
  | .isi a ts, L, st => (ev a L st).bind fun (x, st1) => (isTys st1 x ts).bind fun r => some (.bl r, st1)
  | .meth f o a, L, st => (ev o L st).bind fun (x, st1) => (ev a L st1).bind fun (y, st2) => mfun f x y st2
  | .comp el tg n m it ifs, L, st => (evI it L st).bind fun (xs, gs, st1) => if L.length = n then
      (compItems tg gs (fun L1 s1 => evTs ifs L1 s1) (fun L1 s1 => ev el L1 s1) (L ++ List.replicate m none) xs st1).bind fun (ys, st2) => alloc st2 ys
    else none
  | _, _, _ => none
def evT : E → Loc → Sto → R Bool
  | .not a, L, st => (evT a L st).bind fun (b, st1) => some (!b, st1)
  | .and a b, L, st => (evT a L st).bind fun (r, st1) => if r then evT b L st1 else some (false, st1)
  | .or a b, L, st => (evT a L st).bind fun (r, st1) => if r then some (true, st1) else evT b L st1
  | .ite c a b, L, st => (evT c L st).bind fun (r, st1) => if r then evT a L st1 else evT b L st1
  | e, L, st => (ev e L st).bind fun (x, st1) => (truthy st1 x).bind fun r => some (r, st1)
/-- all tests, from the left, as long as they are so -/
def evTs : E → Loc → Sto → R Bool
  | .nil, _, st => some (true, st)
  | .cons e es, L, st => (evT e L st).bind fun (b, st1) => if b then evTs es L st1 else some (false, st1)
  | _, _, _ => none
def evs : E → Loc → Sto → R (List PV)
  | .nil, _, st => some ([], st)
  | .cons e es, L, st => (ev e L st).bind fun (x, st1) => (evs es L st1).bind fun (xs, st2) => some (x :: xs, st2)
  | _, _, _ => none
def evO : E → Loc → Sto → R (Option Int)
  | .none, _, st => some (none, st)
  | e, L, st => (ev e L st).bind fun (x, st1) => match x with
    | .int i => some (some i, st1)
    | _ => none
/-- what a loop walks: the items, the lists that must stand -/
def evI : E → Loc → Sto → Option (List PV × Gd × Sto)
  | .rng a, L, st => (ev a L st).bind fun (x, st1) => match x with
    | .int j => if small62 j then some (upto 0 j.toNat, [], st1) else none
    | _ => none
  | .rng2 a b, L, st => (ev a L st).bind fun (x, st1) => (ev b L st1).bind fun (y, st2) => match x, y with
    | .int i, .int j => if small62 i && small62 j then some (upto i (j - i).toNat, [], st2) else none
    | _, _ => none
  | .zip a b, L, st => (ev a L st).bind fun (x, st1) => (ev b L st1).bind fun (y, st2) => (listOf st2 x).bind fun xs => (listOf st2 y).bind fun ys => some (xs.zipWith (fun p q => .tup [p, q]) ys, gdOf x xs ++ gdOf y ys, st2)
  | .enum a, L, st => (ev a L st).bind fun (x, st1) => match seqOf st1 x with
    | some xs => some ((upto 0 xs.length).zipWith (fun p q => .tup [p, q]) xs, gdOf x xs, st1)
    | none => none
  | .revr a, L, st => (ev a L st).bind fun (x, st1) => match x with
    | .int j => if small62 j then some ((upto 0 j.toNat).reverse, [], st1) else none
    | _ => none
  | .rev a, L, st => (ev a L st).bind fun (x, st1) => match seqOf st1 x with
    | some xs => some (xs.reverse, gdOf x xs, st1)
    | none => none
  | e, L, st => (ev e L st).bind fun (x, st1) => (seqOf st1 x).bind fun xs => some (xs, gdOf x xs, st1)
end

inductive Fl where | next | ret (v : PV) | brk | cont
abbrev RS := Option (Fl × Loc × Sto)
def forItems (tg : Tg) (gs : Gd) (body : Loc → Sto → RS) : List PV → Loc → Sto → RS
  | [], L, st => if okG st gs then some (.next, L, st) else none
  | x :: xs, L, st => if okG st gs then
      (asgT tg x L st).bind fun L1 => (body L1 st).bind fun (f, L2, st2) => match f with
        | .next => forItems tg gs body xs L2 st2
        | .cont => forItems tg gs body xs L2 st2
        | .brk => some (.next, L2, st2)
        | .ret v => some (.ret v, L2, st2)
    else none
def whileN (tst : Loc → Sto → R Bool) (body : Loc → Sto → RS) : Nat → Loc → Sto → RS
  | 0, _, _ => none
  | n + 1, L, st => (tst L st).bind fun (b, st1) => if b then
      (body L st1).bind fun (f, L2, st2) => match f with
        | .next => whileN tst body n L2 st2
        | .cont => whileN tst body n L2 st2
        | .brk => some (.next, L2, st2)
        | .ret v => some (.ret v, L2, st2)
    else some (.next, L, st1)
def ex : S → Loc → Sto → RS
  | .nil, L, st => some (.next, L, st)
  | .cons s r, L, st => (ex s L st).bind fun (f, L1, st1) => match f with
    | .next => ex r L1 st1
    | g => some (g, L1, st1)
  | .asg tg e, L, st => (ev call e L st).bind fun (x, st1) => (asgT tg x L st1).map fun L1 => (.next, L1, st1)
  | .setix o i e, L, st => (ev call e L st).bind fun (x, st1) => (ev call o L st1).bind fun (a, st2) => (ev call i L st2).bind fun (j, st3) => match a, j with
    | .ref l, .int k => match st3[l]? with
      | some (.lst xs) => (ixN xs.length k).map fun n => (.next, L, st3.set l (.lst (xs.set n x)))
      | _ => none
    | _, _ => none
  | .aug i op e, L, st => match L[i]? with
    | some (some (.int a)) => (ev call e L st).bind fun (x, st1) => match op, x with
      | .add, .int b => some (.next, L.set i (some (.int (a + b))), st1)
      | .sub, .int b => some (.next, L.set i (some (.int (a - b))), st1)
      | _, _ => none
    | _ => none
  | .ret e, L, st => (ev call e L st).map fun (x, st1) => (.ret x, L, st1)
  | .retN, L, st => some (.ret .non, L, st)
  | .expr e, L, st => (ev call e L st).map fun (_, st1) => (.next, L, st1)
  | .pass, L, st => some (.next, L, st)
  | .ife c a b, L, st => (evT call c L st).bind fun (r, st1) => if r then ex a L st1 else ex b L st1
  | .whl c b, L, st => whileN (fun L1 s1 => evT call c L1 s1) (fun L1 s1 => ex b L1 s1) big L st
  | .for_ tg it b, L, st => (evI call it L st).bind fun (xs, gs, st1) => forItems tg gs (fun L1 s1 => ex b L1 s1) xs L st1
  | .brk, L, st => some (.brk, L, st)
  | .cont, L, st => some (.cont, L, st)
end
structure FDef where
  np : Nat
  ns : Nat
  body : S
def callD (tab : List FDef) : Nat → Nat → List PV → Sto → R PV
  | 0, _, _, _ => none
  | d + 1, f, args, st => match tab[f]? with
    | none => none
    | some fd => if args.length = fd.np then
        (ex (callD tab d) fd.body (args.map some ++ List.replicate (fd.ns - fd.np) none) st).bind fun (fl, _, st1) => match fl with
          | .ret v => some (v, st1)
          | .next => some (.non, st1)
          | _ => none
      else none
end Kw
end
section
set_option Elab.async false
set_option linter.all false
set_option maxRecDepth 100000
set_option maxHeartbeats 4000000
namespace Kw
open PySem PySem.Spec PyProof.Rows L2
/-! ### how the small values stand in the heap -/
def ScrAt (K : PySem.W.Frag) (H : Hp) (a : Addr) (ns : List Int) : Prop := SqL K H a (ns.map V.int) ∧ ((∃ o, H a = some (.frz o (.lst (ns.map V.int)))) ∨ SqL K (fun _ => none) a (ns.map V.int))
mutual
def RP (K : PySem.W.Frag) (μ : List Addr) (H : Hp) : PV → V → Prop
  | .non, v => v = .non
  | .bl b, v => v = .bl b
  | .int i, v => v = .int i
  | .str x, v => v = .str (Str.ofString x)
  | .tup ps, v => ∃ a xs, v = .ref a ∧ H a = some (.tup xs) ∧ RPs K μ H ps xs
  | .ref l, v => ∃ a, v = .ref a ∧ μ[l]? = some a
  | .scr ns, v => ∃ a, v = .ref a ∧ ScrAt K H a ns
def RPs (K : PySem.W.Frag) (μ : List Addr) (H : Hp) : List PV → List V → Prop
  | [], vs => vs = []
  | p :: ps, vs => ∃ v r, vs = v :: r ∧ RP K μ H p v ∧ RPs K μ H ps r
end
/-- the new heap keeps what stood: all that the store does not name; the tuples; the script -/
structure Ext (μ : List Addr) (H : Hp) (μ' : List Addr) (H' : Hp) : Prop where
  pre : ∃ more, μ' = μ ++ more
  keep : ∀ a o, a ∉ μ → H a = some o → H' a = some o
  tup : ∀ a xs, H a = some (.tup xs) → H' a = some (.tup xs)
  frz : ∀ a o u, H a = some (.frz o u) → H' a = some (.frz o u)
  new : ∀ a, a ∈ μ' → a ∈ μ ∨ H a = none
/-- what values lean on -/
structure Ext0 (μ : List Addr) (H : Hp) (μ' : List Addr) (H' : Hp) : Prop where
  pre : ∃ more, μ' = μ ++ more
  tup : ∀ a xs, H a = some (.tup xs) → H' a = some (.tup xs)
  frz : ∀ a o u, H a = some (.frz o u) → H' a = some (.frz o u)
theorem Ext.to0 {μ μ' : List Addr} {H H' : Hp} (x : Ext μ H μ' H') : Ext0 μ H μ' H' := ⟨x.pre, x.tup, x.frz⟩
theorem Ext.refl (μ : List Addr) (H : Hp) : Ext μ H μ H := ⟨⟨[], by simp⟩, fun _ _ _ h => h, fun _ _ h => h, fun _ _ _ h => h, fun _ h => .inl h⟩
theorem Ext.trans {μ μ1 μ2 : List Addr} {H H1 H2 : Hp} (a : Ext μ H μ1 H1) (b : Ext μ1 H1 μ2 H2) : Ext μ H μ2 H2 := by
  obtain ⟨m1, e1⟩ := a.pre
  obtain ⟨m2, e2⟩ := b.pre
  refine ⟨⟨m1 ++ m2, by rw [e2, e1, List.append_assoc]⟩, fun c o hc h => b.keep c o (fun z => ?_) (a.keep c o hc h), fun c xs h => b.tup c xs (a.tup c xs h), fun c o u h => b.frz c o u (a.frz c o u h), fun c h => ?_⟩
  · rcases a.new c z with y | y
    · exact hc y
    · rw [y] at h; cases h
  · rcases b.new c h with y | y
    · exact a.new c y
    · by_cases hc : c ∈ μ
      · exact .inl hc
      · right
        cases q : H c with
        | none => rfl
        | some o => rw [a.keep c o hc q] at y; cases y
theorem ScrAt.mono0 {K : PySem.W.Frag} {μ μ' : List Addr} {H H' : Hp} {a : Addr} {ns : List Int} (x : Ext0 μ H μ' H') (h : ScrAt K H a ns) : ScrAt K H' a ns := by
  obtain ⟨_, h⟩ := h
  rcases h with ⟨o, h⟩ | h
  · have q := x.frz a o _ h
    exact ⟨.inl (.inr ⟨o, q⟩), .inl ⟨o, q⟩⟩
  · refine ⟨?_, .inr h⟩
    rcases h with (h | ⟨o, h⟩) | h
    · cases h
    · cases h
    · exact .inr h
mutual
theorem RP.mono0 {K : PySem.W.Frag} {μ μ' : List Addr} {H H' : Hp} (x : Ext0 μ H μ' H') : ∀ {p : PV} {v : V}, RP K μ H p v → RP K μ' H' p v
  | .non, v, h => h
  | .bl b, v, h => h
  | .int i, v, h => h
  | .str _, v, h => h
  | .tup ps, v, h => by
    obtain ⟨a, xs, e, h1, h2⟩ := h
    exact ⟨a, xs, e, x.tup a xs h1, RPs.mono0 x h2⟩
  | .ref l, v, h => by
    obtain ⟨a, e, h⟩ := h
    obtain ⟨m, em⟩ := x.pre
    refine ⟨a, e, ?_⟩
    rw [em, List.getElem?_append_left (List.getElem?_eq_some_iff.mp h).1]
    exact h
  | .scr ns, v, h => by
    obtain ⟨a, e, h⟩ := h
    exact ⟨a, e, h.mono0 x⟩
theorem RPs.mono0 {K : PySem.W.Frag} {μ μ' : List Addr} {H H' : Hp} (x : Ext0 μ H μ' H') : ∀ {ps : List PV} {vs : List V}, RPs K μ H ps vs → RPs K μ' H' ps vs
  | [], vs, h => h
  | p :: ps, vs, h => by
    obtain ⟨v, r, e, h1, h2⟩ := h
    exact ⟨v, r, e, RP.mono0 x h1, RPs.mono0 x h2⟩
end
theorem RP.mono {K : PySem.W.Frag} {μ μ' : List Addr} {H H' : Hp} (x : Ext μ H μ' H') {p : PV} {v : V} (h : RP K μ H p v) : RP K μ' H' p v := RP.mono0 x.to0 h
theorem RPs.mono {K : PySem.W.Frag} {μ μ' : List Addr} {H H' : Hp} (x : Ext μ H μ' H') {p : List PV} {v : List V} (h : RPs K μ H p v) : RPs K μ' H' p v := RPs.mono0 x.to0 h
section
variable {K : PySem.W.Frag} {μ : List Addr} {H : Hp}
theorem RPs.length : ∀ {ps : List PV} {vs : List V}, RPs K μ H ps vs → ps.length = vs.length
  | [], vs, h => by cases (show vs = [] from h); rfl
  | p :: ps, vs, h => by
    obtain ⟨v, r, e, _, h2⟩ := h
    subst e
    rw [List.length_cons, List.length_cons, RPs.length h2]
theorem RPs.get : ∀ {ps : List PV} {vs : List V} {i : Nat} {p : PV}, RPs K μ H ps vs → ps[i]? = some p → ∃ v, vs[i]? = some v ∧ RP K μ H p v
  | [], vs, i, p, _, e => by simp at e
  | q :: ps, vs, 0, p, h, e => by
    obtain ⟨v, r, e', h1, _⟩ := h
    subst e'
    simp at e; subst e
    exact ⟨v, rfl, h1⟩
  | q :: ps, vs, i + 1, p, h, e => by
    obtain ⟨v, r, e', _, h2⟩ := h
    subst e'
    simpa using RPs.get (i := i) (p := p) h2 (by simpa using e)
theorem RPs.append : ∀ {ps qs : List PV} {vs us : List V}, RPs K μ H ps vs → RPs K μ H qs us → RPs K μ H (ps ++ qs) (vs ++ us)
  | [], qs, vs, us, h, g => by cases (show vs = [] from h); exact g
  | p :: ps, qs, vs, us, h, g => by
    obtain ⟨v, r, e, h1, h2⟩ := h
    subst e
    exact ⟨v, r ++ us, rfl, h1, RPs.append h2 g⟩
theorem RPs.one {p : PV} {v : V} (h : RP K μ H p v) : RPs K μ H [p] [v] := ⟨v, [], rfl, h, rfl⟩
theorem RPs.set : ∀ {ps : List PV} {vs : List V} (n : Nat) {p : PV} {v : V}, RPs K μ H ps vs → RP K μ H p v → RPs K μ H (ps.set n p) (vs.set n v)
  | [], vs, n, p, v, h, _ => by cases (show vs = [] from h); simp [RPs]
  | q :: ps, vs, 0, p, v, h, g => by
    obtain ⟨v', r, e, h1, h2⟩ := h
    subst e
    exact ⟨v, r, rfl, g, h2⟩
  | q :: ps, vs, n + 1, p, v, h, g => by
    obtain ⟨v', r, e, h1, h2⟩ := h
    subst e
    exact ⟨v', r.set n v, rfl, h1, RPs.set n h2 g⟩
theorem RPs.ints : ∀ (ns : List Int), RPs K μ H (ns.map .int) (ns.map V.int)
  | [] => rfl
  | n :: ns => ⟨_, _, rfl, rfl, RPs.ints ns⟩
end
/-- the store in the heap -/
structure RelS (K : PySem.W.Frag) (μ : List Addr) (H : Hp) (st : Sto) : Prop where
  len : μ.length = st.length
  nd : μ.Nodup
  obj : ∀ (l : Nat) (a : Addr) (ps : List PV), μ[l]? = some a → st[l]? = some (.lst ps) → ∃ xs, H a = some (.lst xs) ∧ RPs K μ H ps xs
/-- the slots -/
structure RelL (K : PySem.W.Frag) (μ : List Addr) (H : Hp) (L : Loc) (σ : L2.St) : Prop where
  len : L.length = σ.length
  val : ∀ (i : Nat) (p : PV), L[i]? = some (some p) → ∃ v, σ[i]? = some (some v) ∧ RP K μ H p v
theorem RelL.mono {K : PySem.W.Frag} {μ μ' : List Addr} {H H' : Hp} {L : Loc} {σ : L2.St} (x : Ext μ H μ' H') (h : RelL K μ H L σ) : RelL K μ' H' L σ :=
  ⟨h.len, fun i p e => let ⟨v, e', r⟩ := h.val i p e; ⟨v, e', r.mono x⟩⟩
theorem RelL.set {K : PySem.W.Frag} {μ : List Addr} {H : Hp} {L : Loc} {σ : L2.St} (h : RelL K μ H L σ) (i : Nat) {p : PV} {v : V} (r : RP K μ H p v) : RelL K μ H (L.set i (some p)) (σ.set i (some v)) := by
  refine ⟨by rw [List.length_set, List.length_set, h.len], fun j q e => ?_⟩
  by_cases hj : j = i
  · subst hj
    have hl : j < L.length := by have := (List.getElem?_eq_some_iff.mp e).1; rwa [List.length_set] at this
    rw [List.getElem?_set_self hl] at e
    cases e
    exact ⟨v, by rw [List.getElem?_set_self (by rw [← h.len]; exact hl)], r⟩
  · rw [List.getElem?_set_ne (Ne.symm hj)] at e ⊢
    exact h.val j q e
theorem RelL.more {K : PySem.W.Frag} {μ : List Addr} {H : Hp} {L : Loc} {σ : L2.St} (h : RelL K μ H L σ) (m : Nat) : RelL K μ H (L ++ List.replicate m none) (σ ++ List.replicate m none) := by
  refine ⟨by rw [List.length_append, List.length_append, h.len, List.length_replicate, List.length_replicate], fun i p e => ?_⟩
  by_cases hi : i < L.length
  · rw [List.getElem?_append_left hi] at e
    rw [List.getElem?_append_left (by rw [← h.len]; exact hi)]
    exact h.val i p e
  · rw [List.getElem?_append_right (by omega), List.getElem?_replicate] at e
    split at e <;> cases e
section
variable {K : PySem.W.Frag} {μ : List Addr} {H : Hp} {st : Sto}
theorem RelS.at (h : RelS K μ H st) {l : Nat} {ps : List PV} (e : st[l]? = some (.lst ps)) : ∃ a xs, μ[l]? = some a ∧ H a = some (.lst xs) ∧ RPs K μ H ps xs := by
  have hl : l < μ.length := by rw [h.len]; exact (List.getElem?_eq_some_iff.mp e).1
  obtain ⟨xs, h1, h2⟩ := h.obj l _ ps (List.getElem?_eq_getElem hl) e
  exact ⟨_, xs, List.getElem?_eq_getElem hl, h1, h2⟩
theorem RelS.lst (h : RelS K μ H st) {a : Addr} (ha : a ∈ μ) : ∃ xs, H a = some (.lst xs) := by
  obtain ⟨l, hl, e⟩ := List.mem_iff_getElem.mp ha
  have hl' : l < st.length := by rw [← h.len]; exact hl
  cases e' : st[l] with
  | lst ps =>
    obtain ⟨xs, h1, _⟩ := h.obj l a ps (by rw [List.getElem?_eq_getElem hl, e]) (by rw [List.getElem?_eq_getElem hl', e'])
    exact ⟨xs, h1⟩
theorem RelS.notin (h : RelS K μ H st) {p : Addr} (hp : H p = none) : p ∉ μ := fun z => by
  obtain ⟨xs, e⟩ := h.lst z
  rw [hp] at e; cases e
/-- a thing that is no list of the store is laid at a free place -/
theorem ext_new (h : RelS K μ H st) {p : Addr} (hp : H p = none) (o : HO) : Ext μ H μ (upd H p o) :=
  ⟨⟨[], by simp⟩, fun a o' _ e => by rw [upd_ne (ne_of_none e hp)]; exact e, fun a xs e => by rw [upd_ne (ne_of_none e hp)]; exact e, fun a o' u e => by rw [upd_ne (ne_of_none e hp)]; exact e, fun a h => .inl h⟩
theorem RelS.new (h : RelS K μ H st) {p : Addr} (hp : H p = none) (o : HO) : RelS K μ (upd H p o) st :=
  ⟨h.len, h.nd, fun l a ps e1 e2 => by
    obtain ⟨xs, h1, h2⟩ := h.obj l a ps e1 e2
    exact ⟨xs, by rw [upd_ne (ne_of_none h1 hp)]; exact h1, h2.mono (ext_new h hp o)⟩⟩
/-- a new list of the store -/
theorem ext_alloc (h : RelS K μ H st) {p : Addr} (hp : H p = none) (o : HO) : Ext μ H (μ ++ [p]) (upd H p o) :=
  ⟨⟨[p], rfl⟩, fun a o' _ e => by rw [upd_ne (ne_of_none e hp)]; exact e, fun a xs e => by rw [upd_ne (ne_of_none e hp)]; exact e, fun a o' u e => by rw [upd_ne (ne_of_none e hp)]; exact e, fun a z => by
    rcases List.mem_append.mp z with z | z
    · exact .inl z
    · right; simp at z; subst z; exact hp⟩
theorem RelS.alloc (h : RelS K μ H st) {p : Addr} (hp : H p = none) {ps : List PV} {xs : List V} (r : RPs K μ H ps xs) : RelS K (μ ++ [p]) (upd H p (.lst xs)) (st ++ [.lst ps]) := by
  have x := ext_alloc h hp (.lst xs)
  refine ⟨by rw [List.length_append, List.length_append, h.len]; rfl, ?_, fun l a qs e1 e2 => ?_⟩
  · refine List.nodup_append.mpr ⟨h.nd, by simp, fun a ha b hb => ?_⟩
    simp at hb; subst hb
    rintro rfl
    exact h.notin hp ha
  · by_cases hl : l < st.length
    · rw [List.getElem?_append_left hl] at e2
      rw [List.getElem?_append_left (by rw [h.len]; exact hl)] at e1
      obtain ⟨ys, h1, h2⟩ := h.obj l a qs e1 e2
      exact ⟨ys, by rw [upd_ne (ne_of_none h1 hp)]; exact h1, h2.mono x⟩
    · have hlen : l < (st ++ [PO.lst ps]).length := (List.getElem?_eq_some_iff.mp e2).1
      rw [List.length_append, List.length_singleton] at hlen
      have e : l = st.length := by omega
      subst e
      rw [List.getElem?_append_right (Nat.le_refl _), Nat.sub_self] at e2
      rw [← h.len, List.getElem?_append_right (Nat.le_refl _), Nat.sub_self] at e1
      simp at e1 e2
      subst e1; subst e2
      exact ⟨xs, upd_same, r.mono x⟩
/-- a list of the store is written -/
theorem ext_write (h : RelS K μ H st) {l : Nat} {a : Addr} (ha : μ[l]? = some a) (o : HO) : Ext μ H μ (upd H a o) := by
  have hm : a ∈ μ := List.mem_of_getElem? ha
  obtain ⟨ys, hy⟩ := h.lst hm
  exact ⟨⟨[], by simp⟩, fun b o' hb e => by rw [upd_ne (fun z : b = a => hb (by rw [z]; exact hm))]; exact e, fun b xs e => by rw [upd_ne (ne_of e hy (by intro z; cases z))]; exact e, fun b o' u e => by rw [upd_ne (ne_of e hy (by intro z; cases z))]; exact e, fun b z => .inl z⟩
theorem RelS.write (h : RelS K μ H st) {l : Nat} {a : Addr} (ha : μ[l]? = some a) {ps : List PV} {xs : List V} (r : RPs K μ H ps xs) : RelS K μ (upd H a (.lst xs)) (st.set l (.lst ps)) := by
  have x := ext_write h ha (.lst xs)
  refine ⟨by rw [List.length_set, h.len], h.nd, fun j b qs e1 e2 => ?_⟩
  by_cases hj : j = l
  · subst hj
    rw [ha] at e1; cases e1
    have hl : j < st.length := by have := (List.getElem?_eq_some_iff.mp e2).1; rwa [List.length_set] at this
    rw [List.getElem?_set_self hl] at e2; cases e2
    exact ⟨xs, upd_same, r.mono x⟩
  · rw [List.getElem?_set_ne (Ne.symm hj)] at e2
    obtain ⟨ys, h1, h2⟩ := h.obj j b qs e1 e2
    have hba : b ≠ a := fun z => hj (by
      obtain ⟨q1, q2⟩ := List.getElem?_eq_some_iff.mp e1
      obtain ⟨q3, q4⟩ := List.getElem?_eq_some_iff.mp ha
      exact (List.getElem_inj h.nd).mp (q2.trans (z.trans q4.symm)))
    exact ⟨ys, by rw [upd_ne hba]; exact h1, h2.mono x⟩
/-- a list beside the store is written -/
theorem ext0_side {acc : Addr} {vs : List V} (ha : H acc = some (.lst vs)) (o : HO) : Ext0 μ H μ (upd H acc o) :=
  ⟨⟨[], by simp⟩, fun b xs e => by rw [upd_ne (ne_of e ha (by intro z; cases z))]; exact e, fun b o' u e => by rw [upd_ne (ne_of e ha (by intro z; cases z))]; exact e⟩
theorem RelS.side (h : RelS K μ H st) {acc : Addr} {vs : List V} (ha : H acc = some (.lst vs)) (hn : acc ∉ μ) (o : HO) : RelS K μ (upd H acc o) st :=
  ⟨h.len, h.nd, fun l a ps e1 e2 => by
    obtain ⟨xs, h1, h2⟩ := h.obj l a ps e1 e2
    exact ⟨xs, by rw [upd_ne (fun z : a = acc => hn (by rw [← z]; exact List.mem_of_getElem? e1))]; exact h1, h2.mono0 (ext0_side ha o)⟩⟩
/-- a list beside the store becomes one of it -/
theorem RelS.adopt (h : RelS K μ H st) {acc : Addr} {vs : List V} {ps : List PV} (ha : H acc = some (.lst vs)) (hn : acc ∉ μ) (r : RPs K μ H ps vs) : RelS K (μ ++ [acc]) H (st ++ [.lst ps]) := by
  have x : Ext0 μ H (μ ++ [acc]) H := ⟨⟨[acc], rfl⟩, fun _ _ e => e, fun _ _ _ e => e⟩
  refine ⟨by rw [List.length_append, List.length_append, h.len]; rfl, ?_, fun l a qs e1 e2 => ?_⟩
  · refine List.nodup_append.mpr ⟨h.nd, by simp, fun a hm b hb => ?_⟩
    simp at hb; subst hb
    rintro rfl
    exact hn hm
  · by_cases hl : l < st.length
    · rw [List.getElem?_append_left hl] at e2
      rw [List.getElem?_append_left (by rw [h.len]; exact hl)] at e1
      obtain ⟨ys, h1, h2⟩ := h.obj l a qs e1 e2
      exact ⟨ys, h1, h2.mono0 x⟩
    · have hlen : l < (st ++ [PO.lst ps]).length := (List.getElem?_eq_some_iff.mp e2).1
      rw [List.length_append, List.length_singleton] at hlen
      have e : l = st.length := by omega
      subst e
      rw [List.getElem?_append_right (Nat.le_refl _), Nat.sub_self] at e2
      rw [← h.len, List.getElem?_append_right (Nat.le_refl _), Nat.sub_self] at e1
      simp at e1 e2
      subst e1; subst e2
      exact ⟨vs, ha, r.mono0 x⟩
/-- a list (of the store, the script) as the layer reads it -/
theorem listOf_rel (h : RelS K μ H st) {p : PV} {v : V} {ps : List PV} (r : RP K μ H p v) (e : listOf st p = some ps) : ∃ a xs, v = .ref a ∧ SqL K H a xs ∧ RPs K μ H ps xs := by
  cases p with
  | ref l =>
    obtain ⟨a, rfl, hm⟩ := r
    have e : (match st[l]? with | some (.lst xs) => some xs | none => none) = some ps := e
    cases q : st[l]? with
    | none => rw [q] at e; cases e
    | some o =>
      cases o with
      | lst qs =>
        rw [q] at e; cases e
        obtain ⟨xs, h1, h2⟩ := h.obj l a ps hm q
        exact ⟨a, xs, rfl, SqL.of h1, h2⟩
  | scr ns =>
    obtain ⟨a, rfl, hs, _⟩ := r
    cases e
    exact ⟨a, _, rfl, hs, RPs.ints ns⟩
  | _ => cases e
theorem seqOf_rel (h : RelS K μ H st) {p : PV} {v : V} {ps : List PV} (r : RP K μ H p v) (e : seqOf st p = some ps) : ∃ a xs, v = .ref a ∧ (SqL K H a xs ∨ SqT K H a xs) ∧ RPs K μ H ps xs := by
  cases p with
  | tup qs =>
    obtain ⟨a, xs, rfl, h1, h2⟩ := r
    cases e
    exact ⟨a, xs, rfl, .inr (SqT.of h1), h2⟩
  | ref l => obtain ⟨a, xs, e1, e2, e3⟩ := listOf_rel h r e; exact ⟨a, xs, e1, .inl e2, e3⟩
  | scr ns => obtain ⟨a, xs, e1, e2, e3⟩ := listOf_rel h r e; exact ⟨a, xs, e1, .inl e2, e3⟩
  | _ => cases e
end
/-- a step's end: what the small step tells, as it stands in the heap behind -/
def Kg {α β : Type} (RR : List Addr → Hp → α → β → Prop) (K : PySem.W.Frag) (μ : List Addr) (H : Hp) (res : Option (α × Sto)) (Q : β → Hp → Prop) : Prop :=
  ∃ r st', res = some (r, st') ∧ ∀ v H' μ', Ext μ H μ' H' → RelS K μ' H' st' → RR μ' H' r v → Q v H'
theorem Kg.shift {α β : Type} {RR : List Addr → Hp → α → β → Prop} {K : PySem.W.Frag} {μ μ1 : List Addr} {H H1 : Hp} {res : Option (α × Sto)} {Q : β → Hp → Prop} (x : Ext μ H μ1 H1) (h : Kg RR K μ H res Q) : Kg RR K μ1 H1 res Q :=
  let ⟨r, st', e, q⟩ := h
  ⟨r, st', e, fun v H' μ' y => q v H' μ' (x.trans y)⟩
theorem Kg.split {α β γ : Type} {RR : List Addr → Hp → α → β → Prop} {K : PySem.W.Frag} {μ : List Addr} {H : Hp} {res : Option (γ × Sto)} {f : γ × Sto → Option (α × Sto)} {Q : β → Hp → Prop} (h : Kg RR K μ H (res.bind f) Q) :
    ∃ p st1, res = some (p, st1) ∧ Kg RR K μ H (f (p, st1)) Q := by
  obtain ⟨r, st', e, q⟩ := h
  cases res with
  | none => cases e
  | some x => exact ⟨x.1, x.2, rfl, r, st', e, q⟩
abbrev K1 (K : PySem.W.Frag) := Kg (RP K) K
abbrev KL (K : PySem.W.Frag) := Kg (RPs K) K
abbrev KB (K : PySem.W.Frag) := Kg (fun _ _ (a b : Bool) => a = b) K
theorem K1.done {K : PySem.W.Frag} {μ : List Addr} {H : Hp} {st : Sto} {p : PV} {v : V} {Q : VK} (k : K1 K μ H (some (p, st)) Q) (hs : RelS K μ H st) (r : RP K μ H p v) : Q v H := by
  obtain ⟨r', st', e, q⟩ := k
  cases e
  exact q v H μ (Ext.refl _ _) hs r
section
variable (K : PySem.W.Frag) (call : Nat → List PV → Sto → R PV)
def tE (e : E) : TE := fun σ H Q => ∃ μ L st, RelL K μ H L σ ∧ RelS K μ H st ∧ K1 K μ H (ev call e L st) Q
def tT (e : E) : TT := fun σ H Q => ∃ μ L st, RelL K μ H L σ ∧ RelS K μ H st ∧ KB K μ H (evT call e L st) Q
def tTs (e : E) : TT := fun σ H Q => ∃ μ L st, RelL K μ H L σ ∧ RelS K μ H st ∧ KB K μ H (evTs call e L st) Q
def tA (e : E) : TA := fun σ H Q => ∃ μ L st, RelL K μ H L σ ∧ RelS K μ H st ∧ KL K μ H (evs call e L st) Q
/-- a call by values -/
def spF (f : Nat) : Sp := fun vs H Q _ => ∃ μ st args, RelS K μ H st ∧ RPs K μ H args vs ∧ K1 K μ H (call f args st) Q
end
end Kw
end
section
set_option Elab.async false
set_option linter.all false
set_option maxRecDepth 100000
set_option maxHeartbeats 4000000
namespace Kw
open PySem PySem.Spec PyProof.Rows L2
def bopOf : BOp → Operator | .add => .Add | .sub => .Sub | .mul => .Mult | .fdiv => .FloorDiv | .mod => .Mod | .pow => .Pow
def copOf : COp → CmpOp | .eq => .Eq | .ne => .NotEq | .lt => .Lt | .le => .LtE | .gt => .Gt | .ge => .GtE | .isin => .In | .notin => .NotIn
def r2 (K : PySem.W.Frag) (f : PV → PV → Sto → R PV) : R2 := fun x y H Q => ∃ μ st p q, RelS K μ H st ∧ RP K μ H p x ∧ RP K μ H q y ∧ K1 K μ H (f p q st) Q
def r1 (K : PySem.W.Frag) (f : List PV → Sto → R PV) : List V → Hp → VK → Prop := fun xs H Q => ∃ μ st ps, RelS K μ H st ∧ RPs K μ H ps xs ∧ K1 K μ H (f ps st) Q
theorem big_line : big ≤ sizeLine := by decide
theorem Kg.no {α β : Type} {RR : List Addr → Hp → α → β → Prop} {K : PySem.W.Frag} {μ : List Addr} {H : Hp} {Q : β → Hp → Prop} (k : Kg RR K μ H (none : Option (α × Sto)) Q) : False := by
  obtain ⟨_, _, e, _⟩ := k
  cases e
theorem ofString_inj {x y : String} (h : Str.ofString x = Str.ofString y) : x = y := by
  rw [Str.ofString_eq_toList, Str.ofString_eq_toList] at h
  have h2 : x.toList.map Char.toNat = y.toList.map Char.toNat := by
    injection h with h
    simpa using congrArg Array.toList h
  have inj : ∀ (a b : List Char), a.map Char.toNat = b.map Char.toNat → a = b := by
    intro a
    induction a with
    | nil => intro b hb; cases b <;> simp_all
    | cons c a ih =>
      intro b hb
      cases b with
      | nil => simp at hb
      | cons d b =>
        simp only [List.map_cons, List.cons.injEq] at hb
        rw [ih b hb.2, Char.toNat_inj.mp hb.1]
  exact String.toList_inj.mp (inj _ _ h2)
section
variable {X : Cx}
theorem small_mul {i j : Int} (h : (small i || small j) = true) : CMul i j := by
  simp only [small, Bool.or_eq_true, decide_eq_true_eq] at h
  exact h
theorem op_bin (op : BOp) : OpR X (binaryOp (bopOf op)) (r2 X.K (binop op)) := by
  intro pins s σ H x y v u Q I rx ry h
  obtain ⟨μ, st, p, q, hs, rp, rq, k⟩ := h
  cases p with
  | int i =>
    cases q with
    | int j =>
      obtain rfl : x = .int i := rp
      obtain rfl : y = .int j := rq
      cases op with
      | add => exact op_add pins s σ H _ _ v u Q I rx ry ⟨i, j, rfl, rfl, k.done hs rfl⟩
      | sub => exact op_sub pins s σ H _ _ v u Q I rx ry ⟨i, j, rfl, rfl, k.done hs rfl⟩
      | mul =>
        have k : K1 X.K μ H (if (small i || small j) = true then some (.int (i * j), st) else none) Q := k
        split at k
        · rename_i hc
          exact op_mul pins s σ H _ _ v u Q I rx ry ⟨i, j, rfl, rfl, small_mul hc, k.done hs rfl⟩
        · exact k.no.elim
      | fdiv =>
        have k : K1 X.K μ H (if 0 < j ∧ j < 1073741824 then some (.int (i / j), st) else none) Q := k
        split at k
        · rename_i hc
          exact op_fdiv pins s σ H _ _ v u Q I rx ry ⟨i, j, rfl, rfl, hc, k.done hs rfl⟩
        · exact k.no.elim
      | mod =>
        have k : K1 X.K μ H (if 0 < j then some (.int (i % j), st) else none) Q := k
        split at k
        · rename_i hc
          exact op_mod pins s σ H _ _ v u Q I rx ry ⟨i, j, rfl, rfl, hc, k.done hs rfl⟩
        · exact k.no.elim
      | pow =>
        have k : K1 X.K μ H (if 0 ≤ j ∧ j ≤ 1000 ∧ small i = true then some (.int (i ^ j.toNat), st) else none) Q := k
        split at k
        · rename_i hc
          have hsm : -(2 ^ 64) < i ∧ i < 2 ^ 64 := by simpa [small] using hc.2.2
          exact op_pow pins s σ H _ _ v u Q I rx ry ⟨i, j, rfl, rfl, ⟨hc.1, by omega, by omega⟩, k.done hs rfl⟩
        · exact k.no.elim
    | _ => cases op <;> exact k.no.elim
  | tup as =>
    cases q with
    | tup bs =>
      cases op with
      | add =>
        have k : K1 X.K μ H (if as ≠ [] ∧ as.length + bs.length ≤ big then some (.tup (as ++ bs), st) else none) Q := k
        split at k
        · rename_i hc
          obtain ⟨a, xs, rfl, ha, ra⟩ := rp
          obtain ⟨b, ys, rfl, hb, rb⟩ := rq
          have l1 := ra.length
          have l2 := rb.length
          have hl := big_line
          refine op_catT pins s σ H _ _ v u Q I rx ry ⟨a, b, xs, ys, rfl, rfl, SqT.of ha, SqT.of hb, ?_, by omega, fun z => ?_, fun _ p hp => ?_⟩
          · intro z; subst z; exact hc.1 (List.eq_nil_of_length_eq_zero (by simpa using l1))
          · subst z
            have z2 : bs = [] := List.eq_nil_of_length_eq_zero (by simpa using l2)
            subst z2
            rw [List.append_nil] at k
            exact k.done hs ⟨a, xs, rfl, ha, ra⟩
          · have x' := ext_new hs hp (.tup (xs ++ ys))
            exact K1.done (k.shift x') (hs.new hp _) ⟨p, _, rfl, upd_same, (ra.append rb).mono x'⟩
        · exact k.no.elim
      | _ => exact k.no.elim
    | _ => cases op <;> exact k.no.elim
  | ref a =>
    cases q with
    | ref b =>
      cases op with
      | add =>
        have k : K1 X.K μ H (match st[a]?, st[b]? with
          | some (.lst xs), some (.lst ys) => alloc st (xs ++ ys)
          | _, _ => none) Q := k
        cases ea : st[a]? with
        | none => rw [ea] at k; exact k.no.elim
        | some oa =>
          cases eb : st[b]? with
          | none => rw [ea, eb] at k; cases oa; exact k.no.elim
          | some ob =>
            obtain ⟨as⟩ := oa
            obtain ⟨bs⟩ := ob
            rw [ea, eb] at k
            have k : K1 X.K μ H (if (as ++ bs).length ≤ big then some (.ref st.length, st ++ [.lst (as ++ bs)]) else none) Q := k
            split at k
            · rename_i hc
              obtain ⟨a', xs, m1, h1, ra⟩ := hs.at ea
              obtain ⟨b', ys, m2, h2, rb⟩ := hs.at eb
              obtain ⟨a2, rfl, ma⟩ := rp
              obtain ⟨b2, rfl, mb⟩ := rq
              rw [m1] at ma; cases ma
              rw [m2] at mb; cases mb
              rw [List.length_append] at hc
              have l1 := ra.length
              have l2 := rb.length
              have hl := big_line
              refine op_cat pins s σ H _ _ v u Q I rx ry ⟨a', b', xs, ys, rfl, rfl, h1, h2, by omega, fun p hp => ?_⟩
              have x' := ext_alloc hs hp (.lst (xs ++ ys))
              refine K1.done (k.shift x') (hs.alloc hp (ra.append rb)) ⟨p, rfl, ?_⟩
              rw [← hs.len, List.getElem?_append_right (Nat.le_refl _), Nat.sub_self] <;> rfl
            · exact k.no.elim
      | _ => exact k.no.elim
    | _ => cases op <;> exact k.no.elim
  | _ => cases op <;> cases q <;> exact k.no.elim
/-- a comparison -/
def r2b (K : PySem.W.Frag) (f : PV → PV → Sto → Option Bool) : R2 := r2 K fun p q st => (f p q st).bind fun r => some (.bl r, st)
theorem decEq_str (a b : String) : decide (V.str (Str.ofString a) = V.str (Str.ofString b)) = (a == b) := by
  by_cases h : a = b
  · subst h; simp
  · have : ¬ V.str (Str.ofString a) = V.str (Str.ofString b) := fun z => h (ofString_inj (V.str.inj z))
    rw [decide_eq_false this]
    exact (beq_eq_false_iff_ne.mpr h).symm
theorem eqv_rel {K : PySem.W.Frag} {μ : List Addr} {H : Hp} {st : Sto} {p q : PV} {x y : V} {b : Bool} (rp : RP K μ H p x) (rq : RP K μ H q y) (e : eqv st p q = some b) : scal x y = true ∧ decide (x = y) = b := by
  cases p <;> cases q <;> first
    | (cases e; done)
    | (cases (show x = _ from rp); cases (show y = _ from rq); cases e; first | exact ⟨rfl, dec_bl⟩ | exact ⟨rfl, dec_int⟩ | exact ⟨rfl, decEq_str _ _⟩ | exact ⟨rfl, by simp⟩)
theorem op_cmp (op : COp) : OpR X (compareOp (copOf op)) (r2b X.K (cmpop op)) := by
  intro pins s σ H x y v u Q I rx ry h
  obtain ⟨μ, st, p, q, hs, rp, rq, k⟩ := h
  cases op with
  | eq =>
    have k : K1 X.K μ H ((eqv st p q).bind fun r => some (.bl r, st)) Q := k
    cases e : eqv st p q with
    | none => rw [e] at k; exact k.no.elim
    | some b =>
      rw [e] at k
      obtain ⟨e1, e2⟩ := eqv_rel rp rq e
      exact op_eq pins s σ H _ _ v u Q I rx ry ⟨e1, by rw [e2]; exact K1.done (p := .bl b) k hs rfl⟩
  | ne =>
    have k : K1 X.K μ H (((eqv st p q).map (!·)).bind fun r => some (.bl r, st)) Q := k
    cases e : eqv st p q with
    | none => rw [e] at k; exact k.no.elim
    | some b =>
      rw [e] at k
      obtain ⟨e1, e2⟩ := eqv_rel rp rq e
      exact op_ne pins s σ H _ _ v u Q I rx ry ⟨e1, by rw [e2]; exact K1.done (p := .bl (!b)) k hs rfl⟩
  | lt => cases p <;> cases q <;> first | exact k.no.elim | (rename_i i j; obtain rfl : x = .int i := rp; obtain rfl : y = .int j := rq; exact op_lt pins s σ H _ _ v u Q I rx ry ⟨i, j, rfl, rfl, K1.done (p := .bl _) k hs rfl⟩)
  | le => cases p <;> cases q <;> first | exact k.no.elim | (rename_i i j; obtain rfl : x = .int i := rp; obtain rfl : y = .int j := rq; exact op_le pins s σ H _ _ v u Q I rx ry ⟨i, j, rfl, rfl, K1.done (p := .bl _) k hs rfl⟩)
  | gt => cases p <;> cases q <;> first | exact k.no.elim | (rename_i i j; obtain rfl : x = .int i := rp; obtain rfl : y = .int j := rq; exact op_gt pins s σ H _ _ v u Q I rx ry ⟨i, j, rfl, rfl, K1.done (p := .bl _) k hs rfl⟩)
  | ge => cases p <;> cases q <;> first | exact k.no.elim | (rename_i i j; obtain rfl : x = .int i := rp; obtain rfl : y = .int j := rq; exact op_ge pins s σ H _ _ v u Q I rx ry ⟨i, j, rfl, rfl, K1.done (p := .bl _) k hs rfl⟩)
  | isin => exact k.no.elim
  | notin => exact k.no.elim
theorem atI_rel {K : PySem.W.Frag} {μ : List Addr} {H : Hp} {ps : List PV} {xs : List V} {i : Int} {p : PV} (r : RPs K μ H ps xs) (e : Kw.atI ps i = some p) : ∃ v, L2.atI xs i = some v ∧ RP K μ H p v := by
  have e : (Kw.ixN ps.length i).bind (fun j => ps[j]?) = some p := e
  show ∃ v, (L2.ixN xs.length i).bind (fun j => xs[j]?) = some v ∧ RP K μ H p v
  have hx : L2.ixN xs.length i = Kw.ixN ps.length i := by rw [r.length]; rfl
  rw [hx]
  cases q : Kw.ixN ps.length i with
  | none => rw [q] at e; cases e
  | some j =>
    rw [q] at e
    obtain ⟨v, h1, h2⟩ := r.get (i := j) e
    exact ⟨v, h1, h2⟩
/-- an item -/
def fIx (p q : PV) (st : Sto) : R PV := match q with
  | .int j => (seqOf st p).bind fun xs => (Kw.atI xs j).bind fun v => some (v, st)
  | _ => none
theorem ix_any : IxR X (r2 X.K fIx) := by
  intro value slice pins s σ H x y v u Q I rx ry h hsl
  obtain ⟨μ, st, p, q, hs, rp, rq, k⟩ := h
  cases q with
  | int j =>
    obtain rfl : y = .int j := rq
    have k : K1 X.K μ H ((seqOf st p).bind fun xs => (Kw.atI xs j).bind fun v => some (v, st)) Q := k
    cases e : seqOf st p with
    | none => rw [e] at k; exact k.no.elim
    | some ps =>
      rw [e] at k
      have k : K1 X.K μ H ((Kw.atI ps j).bind fun v => some (v, st)) Q := k
      cases e2 : Kw.atI ps j with
      | none => rw [e2] at k; exact k.no.elim
      | some z =>
        rw [e2] at k
        obtain ⟨a, xs, rfl, hq, r⟩ := seqOf_rel hs rp e
        obtain ⟨w, h1, h2⟩ := atI_rel r e2
        rcases hq with hq | hq
        · exact ix_list value slice pins s σ H _ _ v u Q I rx ry ⟨a, xs, j, w, rfl, rfl, hq, h1, K1.done k hs h2⟩ hsl
        · exact ix_tup value slice pins s σ H _ _ v u Q I rx ry ⟨a, xs, j, w, rfl, rfl, hq, h1, K1.done k hs h2⟩ hsl
  | _ => exact k.no.elim
/-! ### calls of built-in functions -/
theorem RPs.one_of {K : PySem.W.Frag} {μ : List Addr} {H : Hp} {p : PV} {xs : List V} (h : RPs K μ H [p] xs) : ∃ v, xs = [v] ∧ RP K μ H p v := by
  obtain ⟨v, r, e, h1, h2⟩ := h
  cases (show r = [] from h2)
  exact ⟨v, e, h1⟩
theorem RPs.two_of {K : PySem.W.Frag} {μ : List Addr} {H : Hp} {p q : PV} {xs : List V} (h : RPs K μ H [p, q] xs) : ∃ v u, xs = [v, u] ∧ RP K μ H p v ∧ RP K μ H q u := by
  obtain ⟨v, r, e, h1, h2⟩ := h
  obtain ⟨u, e', h3⟩ := RPs.one_of h2
  subst e'
  exact ⟨v, u, e, h1, h3⟩
theorem intsOf_rel {K : PySem.W.Frag} {μ : List Addr} {H : Hp} : ∀ {ps : List PV} {xs : List V} {ns : List Int}, RPs K μ H ps xs → intsOf ps = some ns → xs = ns.map V.int
  | [], xs, ns, r, e => by cases (show xs = [] from r); cases e; rfl
  | p :: ps, xs, ns, r, e => by
    obtain ⟨v, q, rfl, h1, h2⟩ := r
    cases p with
    | int i =>
      have e : (intsOf ps).map (i :: ·) = some ns := e
      cases z : intsOf ps with
      | none => rw [z] at e; cases e
      | some ms =>
        rw [z] at e; cases e
        rw [intsOf_rel h2 z, List.map_cons, show v = .int i from h1]
    | _ => cases e
theorem bools_rel {K : PySem.W.Frag} {μ : List Addr} {H : Hp} : ∀ {ps : List PV} {xs : List V} {bs : List Bool}, RPs K μ H ps xs → bools ps = some bs → xs = bs.map V.bl
  | [], xs, ns, r, e => by cases (show xs = [] from r); cases e; rfl
  | p :: ps, xs, ns, r, e => by
    obtain ⟨v, q, rfl, h1, h2⟩ := r
    cases p with
    | bl i =>
      have e : (bools ps).map (i :: ·) = some ns := e
      cases z : bools ps with
      | none => rw [z] at e; cases e
      | some ms =>
        rw [z] at e; cases e
        rw [bools_rel h2 z, List.map_cons, show v = .bl i from h1]
    | _ => cases e
theorem Vals.mapInt {ns : List Int} : ∀ {us : List Value}, Vals (ns.map V.int) us → ∀ i : Nat, i < ns.length → ∃ t, us[i]? = some (.int (ns.getD i 0) t) := fun {us} r i hi => by
  obtain ⟨u, e, t, rfl⟩ := r.get (i := i) (x := .int (ns.getD i 0)) (by simp [hi])
  exact ⟨t, e⟩
theorem preSum_take (ns : List Int) : ∀ j, j ≤ ns.length → preSum (fun i => ns.getD i 0) j = (ns.take j).sum
  | 0, _ => by simp [preSum]
  | j + 1, h => by
    have hj : j < ns.length := h
    show preSum _ j + ns.getD j 0 = _
    rw [preSum_take ns j (by omega), List.take_succ_eq_append_getElem hj, List.sum_append]
    simp [List.getD, hj]
theorem sum_le (B : Int) (hB : 0 ≤ B) : ∀ ns : List Int, (∀ n ∈ ns, -B ≤ n ∧ n ≤ B) → -(B * ns.length) ≤ ns.sum ∧ ns.sum ≤ B * ns.length
  | [], _ => by simp
  | n :: r, h => by
    have ih := sum_le B hB r fun m hm => h m (List.mem_cons_of_mem _ hm)
    have hn := h n List.mem_cons_self
    rw [List.sum_cons, List.length_cons]
    have e : B * ((r.length + 1 : Nat) : Int) = B * (r.length : Int) + B := by rw [Int.natCast_add, Int.mul_add]; simp
    rw [e]
    omega
theorem call_sum_l (hc : X.calm = true) : CallR X (.builtin "sum") (fun xs H Q => ∃ (a : Addr) (ns : List Int), xs = [.ref a] ∧ SqL X.K H a (ns.map V.int) ∧ ns.length ≤ big ∧ (∀ n ∈ ns, -(2 ^ 40) ≤ n ∧ n ≤ 2 ^ 40) ∧ Q (.int ns.sum) H) := by
  intro pins s σ H xs us Q I r h
  obtain ⟨a, ns, rfl, hq, hz, hb, q⟩ := h
  obtain ⟨u, rfl, rx⟩ := vals1 r
  cases rx
  obtain ⟨its, r', pl, hz'⟩ := I.list hq
  have hlen : ns.length = its.length := by have := r'.length; simpa using this
  have alt : a < s.heap.objs.size := by obtain ⟨_, e, _⟩ := pl.isList; exact Heap.lt_size e
  have hh : X.A.in1.handled = none := I.ok.hd hc
  refine call_sum_walk (wpAny_pyIter_list pl.isList ?_)
  refine ⟨s.heap.objs.size, _, _, _, _, _, fun i => ns.getD i 0, rfl, Walks.list hh s.heap.objs.size a (Nat.ne_of_lt alt) its.toArray, ⟨⟨_, Heap.get?_push_size _ rfl, rfl, rfl⟩, pl.isList.at fun o e => Heap.get?_push_of_some _ e⟩, ?_, ?_, ?_, ?_⟩
  · intro b hb'
    simp at hb'
    rcases hb' with rfl | rfl
    · show _ < (s.heap.push _).objs.size; rw [Heap.size_push]; exact Nat.lt_succ_self _
    · show _ < (s.heap.push _).objs.size; rw [Heap.size_push]; exact Nat.lt_succ_of_lt alt
  · intro i v hv
    have hv : its.toArray[i]? = some v := hv
    have hi : i < ns.length := by rw [hlen]; simpa using (Array.getElem?_eq_some_iff.mp hv).1
    obtain ⟨t, e⟩ := Vals.mapInt r' i hi
    refine ⟨t, ?_⟩
    have e' : its.toArray[i]? = some (.int (ns.getD i 0) t) := by simpa using e
    rw [hv] at e'
    exact Option.some.inj e'
  · intro j hj
    have hj' : j < ns.length := by rw [hlen]; simpa using hj
    have hm : ns.getD j 0 ∈ ns := by simp [List.getD, hj']
    refine ⟨?_, ?_⟩
    · have := hb _ hm
      show -(2 ^ 63) ≤ ns.getD j 0 ∧ ns.getD j 0 < 2 ^ 63
      omega
    · rw [preSum_take ns (j + 1) hj']
      have b2 := sum_le 1099511627776 (by decide) (ns.take (j + 1)) fun n hn => by have := hb n (List.mem_of_mem_take hn); omega
      have l2 : (ns.take (j + 1)).length ≤ 100000 := by rw [List.length_take]; unfold big at hz; omega
      unfold InLong; omega
  · intro h' tk t' hk
    have e : preSum (fun i => ns.getD i 0) its.toArray.size = ns.sum := by
      rw [List.size_toArray, ← hlen, preSum_take ns _ (Nat.le_refl _), List.take_length]
    rw [e]
    refine ⟨.int ns.sum, H, ?_, ⟨t', rfl⟩, q⟩
    exact I.kept (t' := tk) fun b o e => hk b o (by simp; exact Nat.ne_of_lt (Heap.lt_size e)) (Heap.get?_push_of_some _ e)
theorem truth_bl {prog : Program} {w : World} {A : Around} {its : List Value} {bs : List Bool} (r : Vals (bs.map V.bl) its) : TruthOf prog w A (fun i v => its.toArray[i]? = some v) (fun i => bs.getD i false) := by
  intro i v s Q E hv hq
  have hlen : bs.length = its.length := by have := r.length; simpa using this
  have hi : i < bs.length := by rw [hlen]; simpa using (Array.getElem?_eq_some_iff.mp hv).1
  obtain ⟨u, e, ru⟩ := r.get (i := i) (x := .bl (bs.getD i false)) (by simp [hi])
  have e' : its.toArray[i]? = some u := by simpa using e
  rw [hv] at e'
  cases e'
  cases ru
  exact wpAny_pure hq
theorem range_all (bs : List Bool) : (List.range bs.length).all (fun i => bs.getD i false) = bs.all id := by
  rw [Bool.eq_iff_iff]
  simp only [List.all_eq_true, List.mem_range, id]
  constructor
  · intro h b hb
    obtain ⟨i, hi, e⟩ := List.mem_iff_getElem.mp hb
    have := h i hi
    simpa [List.getD, hi, e] using this
  · intro h i hi
    have := h bs[i] (List.getElem_mem hi)
    simpa [List.getD, hi] using this
theorem range_any (bs : List Bool) : (List.range bs.length).any (fun i => bs.getD i false) = bs.any id := by
  rw [Bool.eq_iff_iff]
  simp only [List.any_eq_true, List.mem_range, id]
  constructor
  · rintro ⟨i, hi, e⟩
    exact ⟨bs[i], List.getElem_mem hi, by simpa [List.getD, hi] using e⟩
  · rintro ⟨b, hb, e⟩
    obtain ⟨i, hi, e'⟩ := List.mem_iff_getElem.mp hb
    exact ⟨i, hi, by simpa [List.getD, hi, e'] using e⟩
theorem call_all_l (hc : X.calm = true) : CallR X (.builtin "all") (fun xs H Q => ∃ (a : Addr) (bs : List Bool), xs = [.ref a] ∧ SqL X.K H a (bs.map V.bl) ∧ Q (.bl (bs.all id)) H) := by
  intro pins s σ H xs us Q I r h
  obtain ⟨a, bs, rfl, hq, q⟩ := h
  obtain ⟨u, rfl, rx⟩ := vals1 r
  cases rx
  obtain ⟨its, r', pl, hz'⟩ := I.list hq
  have hlen : bs.length = its.length := by have := r'.length; simpa using this
  have alt : a < s.heap.objs.size := by obtain ⟨_, e, _⟩ := pl.isList; exact Heap.lt_size e
  have hh : X.A.in1.handled = none := I.ok.hd hc
  refine call_all_walk (wpAny_pyIter_list pl.isList ?_)
  refine ⟨s.heap.objs.size, _, _, _, _, _, fun i => bs.getD i false, rfl, Walks.list hh s.heap.objs.size a (Nat.ne_of_lt alt) its.toArray, ⟨⟨_, Heap.get?_push_size _ rfl, rfl, rfl⟩, pl.isList.at fun o e => Heap.get?_push_of_some _ e⟩, truth_bl r', ?_⟩
  intro h' tk hk
  rw [List.size_toArray, ← hlen, range_all]
  exact ⟨.bl _, H, I.kept (t' := tk) fun b o e => hk b o (by simp; exact Nat.ne_of_lt (Heap.lt_size e)) (Heap.get?_push_of_some _ e), rfl, q⟩
theorem call_any_l (hc : X.calm = true) : CallR X (.builtin "any") (fun xs H Q => ∃ (a : Addr) (bs : List Bool), xs = [.ref a] ∧ SqL X.K H a (bs.map V.bl) ∧ Q (.bl (bs.any id)) H) := by
  intro pins s σ H xs us Q I r h
  obtain ⟨a, bs, rfl, hq, q⟩ := h
  obtain ⟨u, rfl, rx⟩ := vals1 r
  cases rx
  obtain ⟨its, r', pl, hz'⟩ := I.list hq
  have hlen : bs.length = its.length := by have := r'.length; simpa using this
  have alt : a < s.heap.objs.size := by obtain ⟨_, e, _⟩ := pl.isList; exact Heap.lt_size e
  have hh : X.A.in1.handled = none := I.ok.hd hc
  refine call_any_walk (wpAny_pyIter_list pl.isList ?_)
  refine ⟨s.heap.objs.size, _, _, _, _, _, fun i => bs.getD i false, rfl, Walks.list hh s.heap.objs.size a (Nat.ne_of_lt alt) its.toArray, ⟨⟨_, Heap.get?_push_size _ rfl, rfl, rfl⟩, pl.isList.at fun o e => Heap.get?_push_of_some _ e⟩, truth_bl r', ?_⟩
  intro h' tk hk
  rw [List.size_toArray, ← hlen, range_any]
  exact ⟨.bl _, H, I.kept (t' := tk) fun b o e => hk b o (by simp; exact Nat.ne_of_lt (Heap.lt_size e)) (Heap.get?_push_of_some _ e), rfl, q⟩
/-- the built-in functions, by name -/
def bfName : BF → String | .len => "len" | .abs => "abs" | .int => "int" | .sum => "sum" | .all => "all" | .any => "any" | .min => "min" | .max => "max" | .tuple => "tuple" | .list => "list"
def bfIsTy : BF → Bool | .int => true | .tuple => true | .list => true | _ => false
def bfVal (f : BF) : Value := if bfIsTy f then .type (bfName f) else .builtin (bfName f)
theorem call_bf (hc : X.calm = true) (f : BF) : CallR X (bfVal f) (r1 X.K (bfun f)) := by
  intro pins s σ H xs us Q I r h
  obtain ⟨μ, st, ps, hs, rp, k⟩ := h
  have one : ∀ {v : PV} {g : List PV → R PV}, ps = [v] → K1 X.K μ H ((seqOf st v).bind g) Q → ∃ qs a ys, K1 X.K μ H (g qs) Q ∧ xs = [.ref a] ∧ ((SqL X.K H a ys ∧ ∀ zs, v ≠ .tup zs) ∨ (SqT X.K H a ys ∧ v = .tup qs)) ∧ RPs X.K μ H qs ys ∧ RP X.K μ H v (.ref a) := fun {v g} e k' => by
    subst e
    obtain ⟨w, rfl, rw'⟩ := RPs.one_of rp
    cases z : seqOf st v with
    | none => rw [z] at k'; exact k'.no.elim
    | some qs =>
      rw [z] at k'
      cases v with
      | tup zs =>
        cases z
        obtain ⟨a, ys, rfl, h1, h2⟩ := id rw'
        exact ⟨_, a, ys, k', rfl, .inr ⟨SqT.of h1, rfl⟩, h2, rw'⟩
      | ref l =>
        obtain ⟨a, ys, rfl, hq, ry⟩ := listOf_rel hs rw' z
        exact ⟨qs, a, ys, k', rfl, .inl ⟨hq, fun zs => by simp⟩, ry, rw'⟩
      | scr l =>
        obtain ⟨a, ys, rfl, hq, ry⟩ := listOf_rel hs rw' z
        exact ⟨qs, a, ys, k', rfl, .inl ⟨hq, fun zs => by simp⟩, ry, rw'⟩
      | _ => cases z
  have oneL : ∀ {v : PV} {g : List PV → R PV}, ps = [v] → K1 X.K μ H ((listOf st v).bind g) Q → ∃ qs a ys, K1 X.K μ H (g qs) Q ∧ xs = [.ref a] ∧ SqL X.K H a ys ∧ RPs X.K μ H qs ys := fun {v g} e k' => by
    subst e
    obtain ⟨w, rfl, rw'⟩ := RPs.one_of rp
    cases z : listOf st v with
    | none => rw [z] at k'; exact k'.no.elim
    | some qs =>
      rw [z] at k'
      obtain ⟨a, ys, rfl, hq, ry⟩ := listOf_rel hs rw' z
      exact ⟨qs, a, ys, k', rfl, hq, ry⟩
  cases f with
  | len =>
    rcases ps with _ | ⟨v, _ | ⟨v2, ps⟩⟩
    · exact k.no.elim
    · obtain ⟨qs, a, ys, k', rfl, hq, ry, _⟩ := one (g := fun xs => some (.int xs.length, st)) rfl k
      refine call_len_seq pins s σ H _ us Q I r ⟨a, ys, rfl, hq.elim (fun z => .inl z.1) fun z => .inr z.1, ?_⟩
      rw [← ry.length]
      exact K1.done (p := .int _) k' hs rfl
    · exact k.no.elim
  | abs =>
    rcases ps with _ | ⟨v, _ | ⟨v2, ps⟩⟩
    · exact k.no.elim
    · cases v with
      | int i =>
        obtain ⟨w, rfl, rw'⟩ := RPs.one_of rp
        obtain rfl : w = .int i := rw'
        exact call_abs pins s σ H _ us Q I r ⟨i, rfl, K1.done (p := .int _) k hs rfl⟩
      | _ => exact k.no.elim
    · cases v <;> exact k.no.elim
  | int =>
    rcases ps with _ | ⟨v, _ | ⟨v2, ps⟩⟩
    · exact k.no.elim
    · cases v with
      | int i =>
        obtain ⟨w, rfl, rw'⟩ := RPs.one_of rp
        obtain rfl : w = .int i := rw'
        exact call_int1 pins s σ H _ us Q I r (.inl ⟨i, rfl, K1.done (p := .int _) k hs rfl⟩)
      | bl b =>
        obtain ⟨w, rfl, rw'⟩ := RPs.one_of rp
        obtain rfl : w = .bl b := rw'
        exact call_int1 pins s σ H _ us Q I r (.inr ⟨b, rfl, K1.done (p := .int _) k hs rfl⟩)
      | _ => exact k.no.elim
    · cases v <;> exact k.no.elim
  | sum =>
    rcases ps with _ | ⟨v, _ | ⟨v2, ps⟩⟩
    · exact k.no.elim
    · obtain ⟨qs, a, ys, k', rfl, hq, ry⟩ := oneL (g := fun xs => (sumI xs).bind fun n => some (.int n, st)) rfl k
      have k' : K1 X.K μ H (((intsOf qs).bind fun ns => if ns.length ≤ big ∧ ns.all small40 = true then some ns.sum else none).bind fun n => some (.int n, st)) Q := k'
      cases e : intsOf qs with
      | none => rw [e] at k'; exact k'.no.elim
      | some ns =>
        rw [e] at k'
        have k' : K1 X.K μ H ((if ns.length ≤ big ∧ ns.all small40 = true then some ns.sum else none).bind fun n => some (.int n, st)) Q := k'
        by_cases hc' : ns.length ≤ big ∧ ns.all small40 = true
        · rw [if_pos hc'] at k'
          have := intsOf_rel ry e
          subst this
          refine call_sum_l hc pins s σ H _ us Q I r ⟨a, ns, rfl, hq, hc'.1, fun n hn => ?_, K1.done (p := .int _) k' hs rfl⟩
          have := List.all_eq_true.mp hc'.2 n hn
          simpa [small40] using this
        · rw [if_neg hc'] at k'; exact k'.no.elim
    · exact k.no.elim
  | all =>
    rcases ps with _ | ⟨v, _ | ⟨v2, ps⟩⟩
    · exact k.no.elim
    · obtain ⟨qs, a, ys, k', rfl, hq, ry⟩ := oneL (g := fun xs => (bools xs).bind fun bs => some (.bl (bs.all id), st)) rfl k
      cases e : bools qs with
      | none => rw [e] at k'; exact k'.no.elim
      | some bs =>
        rw [e] at k'
        have := bools_rel ry e
        subst this
        exact call_all_l hc pins s σ H _ us Q I r ⟨a, bs, rfl, hq, K1.done (p := .bl _) k' hs rfl⟩
    · exact k.no.elim
  | any =>
    rcases ps with _ | ⟨v, _ | ⟨v2, ps⟩⟩
    · exact k.no.elim
    · obtain ⟨qs, a, ys, k', rfl, hq, ry⟩ := oneL (g := fun xs => (bools xs).bind fun bs => some (.bl (bs.any id), st)) rfl k
      cases e : bools qs with
      | none => rw [e] at k'; exact k'.no.elim
      | some bs =>
        rw [e] at k'
        have := bools_rel ry e
        subst this
        exact call_any_l hc pins s σ H _ us Q I r ⟨a, bs, rfl, hq, K1.done (p := .bl _) k' hs rfl⟩
    · exact k.no.elim
  | min =>
    rcases ps with _ | ⟨v, _ | ⟨v2, _ | ⟨v3, ps⟩⟩⟩
    · exact k.no.elim
    · cases v <;> exact k.no.elim
    · cases v <;> cases v2 <;> first
        | exact k.no.elim
        | (rename_i i j
           obtain ⟨w, w', rfl, rw', rw''⟩ := RPs.two_of rp
           obtain rfl : w = .int i := rw'
           obtain rfl : w' = .int j := rw''
           exact call_min2 hc pins s σ H _ us Q I r ⟨i, j, rfl, K1.done (p := .int _) k hs rfl⟩)
    · cases v <;> cases v2 <;> exact k.no.elim
  | max =>
    rcases ps with _ | ⟨v, _ | ⟨v2, _ | ⟨v3, ps⟩⟩⟩
    · exact k.no.elim
    · cases v <;> exact k.no.elim
    · cases v <;> cases v2 <;> first
        | exact k.no.elim
        | (rename_i i j
           obtain ⟨w, w', rfl, rw', rw''⟩ := RPs.two_of rp
           obtain rfl : w = .int i := rw'
           obtain rfl : w' = .int j := rw''
           exact call_max2 hc pins s σ H _ us Q I r ⟨i, j, rfl, K1.done (p := .int _) k hs rfl⟩)
    · cases v <;> cases v2 <;> exact k.no.elim
  | tuple =>
    rcases ps with _ | ⟨v, _ | ⟨v2, ps⟩⟩
    · exact k.no.elim
    · obtain ⟨qs, a, ys, k', rfl, hq, ry, rv⟩ := one (g := fun xs => some (.tup xs, st)) rfl k
      rcases hq with ⟨hq, _⟩ | ⟨hq, rfl⟩
      · refine call_tuple_of pins s σ H _ us Q I r ⟨a, ys, rfl, .inl ⟨hq, fun l hl => ?_⟩⟩
        exact K1.done (Kg.shift (ext_new hs hl _) k') (hs.new hl _) ⟨l, _, rfl, upd_same, ry.mono (ext_new hs hl _)⟩
      · exact call_tuple_of pins s σ H _ us Q I r ⟨a, ys, rfl, .inr ⟨hq, K1.done k' hs rv⟩⟩
    · exact k.no.elim
  | list =>
    rcases ps with _ | ⟨v, _ | ⟨v2, ps⟩⟩
    · exact k.no.elim
    · obtain ⟨qs, a, ys, k', rfl, hq, ry, _⟩ := one (g := fun (xs : List PV) => some (PV.ref st.length, st ++ [PO.lst xs])) rfl k
      refine call_list_of pins s σ H _ us Q I r ⟨a, ys, rfl, hq.elim (fun z => .inl z.1) fun z => .inr z.1, fun l hl => ?_⟩
      refine K1.done (Kg.shift (ext_alloc hs hl _) k') (hs.alloc hl ry) ⟨l, rfl, ?_⟩
      rw [← hs.len, List.getElem?_append_right (Nat.le_refl _), Nat.sub_self] <;> rfl
    · exact k.no.elim
end
end Kw
end
section
set_option Elab.async false
set_option linter.all false
set_option maxRecDepth 100000
set_option maxHeartbeats 4000000
namespace Kw
open PySem PySem.Spec PyProof.Rows L2
section
variable {X : Cx} {call : Nat → List PV → Sto → R PV}
theorem PE.imp {e : Expr} {t u : TE} (h : PE X e t) (f : ∀ σ H Q, u σ H Q → t σ H Q) : PE X e u := fun pins s σ H Q I hu => h pins s σ H Q I (f σ H Q hu)
theorem PT.imp {e : Expr} {t u : TT} (h : PT X e t) (f : ∀ σ H Q, u σ H Q → t σ H Q) : PT X e u := fun pins s σ H Q I hu => h pins s σ H Q I (f σ H Q hu)
theorem PTs.imp {e : List Expr} {t u : TT} (h : PTs X e t) (f : ∀ σ H Q, u σ H Q → t σ H Q) : PTs X e u := fun pins s σ H Q I hu => h pins s σ H Q I (f σ H Q hu)
theorem PW.imp {e : Expr} {t u : TT} (h : PW X e t) (f : ∀ σ H Q, u σ H Q → t σ H Q) : PW X e u := fun w pins s σ H Q I hu => h w pins s σ H Q I (f σ H Q hu)
theorem PA.imp {e : List Expr} {t u : TA} (h : PA X e t) (f : ∀ σ H Q, u σ H Q → t σ H Q) : PA X e u := fun p pins s σ H Q I hu => h p pins s σ H Q I (f σ H Q hu)
theorem PS.imp {e : Stmt} {t u : TS} (h : PS X e t) (f : ∀ D σ H, u D σ H → t D σ H) : PS X e u := fun pins s σ H D I hu => h pins s σ H D I (f D σ H hu)
theorem PSs.imp {e : List Stmt} {t u : TS} (h : PSs X e t) (f : ∀ D σ H, u D σ H → t D σ H) : PSs X e u := fun pins s σ H D I hu => h pins s σ H D I (f D σ H hu)
/-- the way through one more part: its value in the heap behind, the rest shifted -/
theorem go1 {K : PySem.W.Frag} {e : E} {σ : L2.St} {H : Hp} {μ : List Addr} {L : Loc} {st : Sto} {p : PV} {st1 : Sto} {Q : VK} (hl : RelL K μ H L σ) (hs : RelS K μ H st) (e1 : ev call e L st = some (p, st1))
    (q : ∀ v H1 μ1, Ext μ H μ1 H1 → RelL K μ1 H1 L σ → RelS K μ1 H1 st1 → RP K μ1 H1 p v → Q v H1) : tE K call e σ H Q :=
  ⟨μ, L, st, hl, hs, p, st1, e1, fun v H1 μ1 x s1 r => q v H1 μ1 x (hl.mono x) s1 r⟩
theorem goT {K : PySem.W.Frag} {e : E} {σ : L2.St} {H : Hp} {μ : List Addr} {L : Loc} {st : Sto} {p : Bool} {st1 : Sto} {Q : Bool → Hp → Prop} (hl : RelL K μ H L σ) (hs : RelS K μ H st) (e1 : evT call e L st = some (p, st1))
    (q : ∀ H1 μ1, Ext μ H μ1 H1 → RelL K μ1 H1 L σ → RelS K μ1 H1 st1 → Q p H1) : tT K call e σ H Q :=
  ⟨μ, L, st, hl, hs, p, st1, e1, fun v H1 μ1 x s1 r => r ▸ q H1 μ1 x (hl.mono x) s1⟩
theorem goA {K : PySem.W.Frag} {e : E} {σ : L2.St} {H : Hp} {μ : List Addr} {L : Loc} {st : Sto} {p : List PV} {st1 : Sto} {Q : List V → Hp → Prop} (hl : RelL K μ H L σ) (hs : RelS K μ H st) (e1 : evs call e L st = some (p, st1))
    (q : ∀ v H1 μ1, Ext μ H μ1 H1 → RelL K μ1 H1 L σ → RelS K μ1 H1 st1 → RPs K μ1 H1 p v → Q v H1) : tA K call e σ H Q :=
  ⟨μ, L, st, hl, hs, p, st1, e1, fun v H1 μ1 x s1 r => q v H1 μ1 x (hl.mono x) s1 r⟩
theorem snd_var {i : Nat} {x : Str} {pos : Pos} (hN : X.N[i]? = some x) (hv : Vis X.env.scope x) (hd : (x == ("__debug__" : Str)) = false) (hcd : (x == ("__classdict__" : Str)) = false) : PE X (.Name x pos) (tE X.K call (.var i)) := by
  refine PE.imp (pe_var hN hv hd hcd) fun σ H Q ⟨μ, L, st, hl, hs, k⟩ => ?_
  simp only [ev] at k
  split at k
  · rename_i v e
    obtain ⟨w, h1, h2⟩ := hl.val i v e
    exact ⟨w, h1, K1.done k hs h2⟩
  · exact k.no.elim
theorem snd_int {i j pos} : PE X (.Constant (.int i) j pos) (tE X.K call (.int i)) := PE.imp pe_int fun σ H Q ⟨μ, L, st, hl, hs, k⟩ => by simp only [ev] at k; exact K1.done k hs rfl
theorem snd_bl {i j pos} : PE X (.Constant (.bool i) j pos) (tE X.K call (.bl i)) := PE.imp pe_bl fun σ H Q ⟨μ, L, st, hl, hs, k⟩ => by simp only [ev] at k; exact K1.done k hs rfl
theorem snd_non {j pos} : PE X (.Constant .none j pos) (tE X.K call .non) := PE.imp pe_non fun σ H Q ⟨μ, L, st, hl, hs, k⟩ => by simp only [ev] at k; exact K1.done k hs rfl
theorem snd_str {i : String} {j pos} : PE X (.Constant (.str (Str.ofString i)) j pos) (tE X.K call (.str i)) := PE.imp pe_str fun σ H Q ⟨μ, L, st, hl, hs, k⟩ => by simp only [ev] at k; exact K1.done k hs rfl
theorem snd_bin {op : BOp} {a b : E} {l r : Expr} {pos : Pos} (ha : PE X l (tE X.K call a)) (hb : PE X r (tE X.K call b)) : PE X (.BinOp l (bopOf op) r pos) (tE X.K call (.bin op a b)) := by
  refine PE.imp (pe_op (op_bin op) ha hb) fun σ H Q ⟨μ, L, st, hl, hs, k⟩ => ?_
  simp only [ev] at k
  obtain ⟨p, st1, e1, k⟩ := k.split
  refine go1 hl hs e1 fun v H1 μ1 x1 hl s1 r1 => ?_
  obtain ⟨q, st2, e2, k⟩ := (k.shift x1).split
  refine go1 hl s1 e2 fun w H2 μ2 x2 hl s2 r2 => ?_
  exact ⟨μ2, st2, p, q, s2, r1.mono x2, r2, k.shift x2⟩
theorem snd_cmp {op : COp} {a b : E} {l r : Expr} {pos : Pos} (hm : behindInMarks (copOf op) r = false) (ha : PE X l (tE X.K call a)) (hb : PE X r (tE X.K call b)) : PE X (.Compare l [copOf op] [r] pos) (tE X.K call (.cmp op a b)) := by
  refine PE.imp (pe_cmpR (op_cmp op) ha hb hm) fun σ H Q ⟨μ, L, st, hl, hs, k⟩ => ?_
  simp only [ev] at k
  obtain ⟨p, st1, e1, k⟩ := k.split
  refine go1 hl hs e1 fun v H1 μ1 x1 hl s1 r1 => ?_
  obtain ⟨q, st2, e2, k⟩ := (k.shift x1).split
  refine go1 hl s1 e2 fun w H2 μ2 x2 hl s2 r2 => ?_
  exact ⟨μ2, st2, p, q, s2, r1.mono x2, r2, k.shift x2⟩
theorem snd_cmpT {op : COp} {a b : E} {l r : Expr} {pos : Pos} (hm : behindInMarks (copOf op) r = false) (ha : PE X l (tE X.K call a)) (hb : PE X r (tE X.K call b)) : PT X (.Compare l [copOf op] [r] pos) (tT X.K call (.cmp op a b)) := by
  refine PT.imp (pt_cmpR (op_cmp op) ha hb hm) fun σ H Q ⟨μ, L, st, hl, hs, k⟩ => ?_
  have k : KB X.K μ H ((ev call (.cmp op a b) L st).bind fun x => (Kw.truthy x.2 x.1).bind fun r => some (r, x.2)) Q := by simpa only [evT] using k
  simp only [ev] at k
  obtain ⟨z, stz, e0, k⟩ := k.split
  cases e1 : ev call a L st with
  | none => rw [e1] at e0; cases e0
  | some xs =>
    obtain ⟨p, st1⟩ := xs
    rw [e1] at e0
    have e0 : ((ev call b L st1).bind fun x => (cmpop op p x.1 x.2).bind fun r => some (PV.bl r, x.2)) = some (z, stz) := e0
    cases e2 : ev call b L st1 with
    | none => rw [e2] at e0; cases e0
    | some ys =>
      obtain ⟨q, st2⟩ := ys
      rw [e2] at e0
      have e0 : ((cmpop op p q st2).bind fun r => some (PV.bl r, st2)) = some (z, stz) := e0
      cases e3 : cmpop op p q st2 with
      | none => rw [e3] at e0; cases e0
      | some b' =>
        rw [e3] at e0
        cases e0
        refine go1 hl hs e1 fun v H1 μ1 x1 hl s1 r1 => ?_
        refine go1 hl s1 e2 fun w H2 μ2 x2 hl s2 r2 => ?_
        refine ⟨μ2, stz, p, q, s2, r1.mono x2, r2, .bl b', stz, by show ((cmpop op p q stz).bind fun r => some (PV.bl r, stz)) = _; rw [e3]; rfl, fun v H' μ' x' s' r' => ⟨b', r', ?_⟩⟩
        obtain ⟨_, _, e4, k⟩ := k
        cases e4
        exact k b' H' μ' (x1.trans (x2.trans x')) s' rfl
/-- is None, True, False -/
theorem snd_isN {k : Bool} {a : E} {l : Expr} {j pos pos'} (ha : PE X l (tE X.K call a)) : PE X (.Compare l [if k then .IsNot else .Is] [.Constant .none j pos'] pos) (tE X.K call (.is k a .non)) := by
  have rp : ∀ {μ : List Addr} {H : Hp} {p : PV} {v : V}, RP X.K μ H p v → decide (v = .non) = decide (p = .non) := fun {μ H p v} r => by
    cases p <;> first
      | (cases (show v = _ from r); simp)
      | (obtain ⟨a, _, rfl, _⟩ := r; simp)
      | (obtain ⟨a, rfl, _⟩ := r; simp)
  cases k with
  | true =>
    refine PE.imp (pe_cmp (pc_notN ha)) fun σ H Q ⟨μ, L, st, hl, hs, k⟩ => ?_
    simp only [ev] at k
    obtain ⟨p, st1, e1, k⟩ := k.split
    refine go1 hl hs e1 fun v H1 μ1 x1 hl s1 r1 => ?_
    rw [rp r1]
    exact K1.done (p := .bl _) (by simpa using k.shift x1) s1 rfl
  | false =>
    refine PE.imp (pe_cmp (pc_isN ha)) fun σ H Q ⟨μ, L, st, hl, hs, k⟩ => ?_
    simp only [ev] at k
    obtain ⟨p, st1, e1, k⟩ := k.split
    refine go1 hl hs e1 fun v H1 μ1 x1 hl s1 r1 => ?_
    rw [rp r1]
    exact K1.done (p := .bl _) (by simpa using k.shift x1) s1 rfl
/-- a test of a value -/
theorem tru_rel {K : PySem.W.Frag} {μ : List Addr} {H : Hp} {st : Sto} {p : PV} {v : V} {b : Bool} (hs : RelS K μ H st) (r : RP K μ H p v) (e : Kw.truthy st p = some b) : TruV K v H b := by
  cases p with
  | non => cases (show v = _ from r); cases e; exact rfl
  | bl c => cases (show v = _ from r); cases e; exact rfl
  | int c => cases (show v = _ from r); cases e; exact rfl
  | str c => cases e
  | tup ps =>
    obtain ⟨a, xs, rfl, h1, h2⟩ := r
    cases e
    refine .inr (.inl ⟨xs, SqT.of h1, ?_⟩)
    cases ps <;> cases xs <;> first | rfl | (have := h2.length; simp at this)
  | ref l =>
    have e : (listOf st (.ref l)).map (fun xs => !xs.isEmpty) = some b := e
    cases z : listOf st (.ref l) with
    | none => rw [z] at e; cases e
    | some ps =>
      rw [z] at e; cases e
      obtain ⟨a, xs, rfl, h1, h2⟩ := listOf_rel hs r z
      refine .inl ⟨xs, h1, ?_⟩
      cases ps <;> cases xs <;> first | rfl | (have := h2.length; simp at this)
  | scr ns =>
    cases e
    obtain ⟨a, rfl, h1, _⟩ := r
    refine .inl ⟨_, h1, ?_⟩
    cases ns <;> rfl

def plainT : Expr → Bool
  | .UnaryOp .Not _ _ => false
  | .BoolOp .. => false
  | .IfExp .. => false
  | .Compare .. => false
  | _ => true
def plainTE : E → Bool
  | .not _ => false | .and _ _ => false | .or _ _ => false | .ite _ _ _ => false
  | _ => true
theorem plain_isTrue {e : Expr} {env : Env} (h : plainT e = true) : ∀ whole, isTrue e env whole = (do let v ← whole; standAt e.pos; holding [v] (PySem.truthy v)) := by
  intro whole
  cases e <;> first | rfl | (cases h; done) | (rename_i op x pos; cases op <;> first | rfl | (cases h; done))
theorem evT_plain {e : E} (h : plainTE e = true) (L : Loc) (st : Sto) : evT call e L st = (ev call e L st).bind fun x => (Kw.truthy x.2 x.1).bind fun r => some (r, x.2) := by
  cases e <;> first | (cases h; done) | (simp only [evT])
theorem snd_plainT {e : E} {x : Expr} (h1 : plainTE e = true) (h2 : plainT x = true) (h : PE X x (tE X.K call e)) : PT X x (tT X.K call e) := by
  refine PT.imp (pt_truth h (plain_isTrue h2)) fun σ H Q ⟨μ, L, st, hl, hs, k⟩ => ?_
  rw [evT_plain h1] at k
  obtain ⟨p, st1, e1, k⟩ := k.split
  refine go1 hl hs e1 fun v H1 μ1 x1 hl s1 r1 => ?_
  have k := k.shift x1
  cases e : Kw.truthy st1 p with
  | none => rw [e] at k; exact k.no.elim
  | some b =>
    rw [e] at k
    refine ⟨b, tru_rel s1 r1 e, ?_⟩
    obtain ⟨_, _, e', k⟩ := k
    cases e'
    exact k b H1 μ1 (Ext.refl _ _) s1 rfl
/-! tests -/
theorem snd_notT {a : E} {x : Expr} {pos : Pos} (h : PT X x (tT X.K call a)) : PT X (.UnaryOp .Not x pos) (tT X.K call (.not a)) := by
  refine PT.imp (pt_not h) fun σ H Q ⟨μ, L, st, hl, hs, k⟩ => ?_
  simp only [evT] at k
  obtain ⟨p, st1, e1, k⟩ := k.split
  refine goT hl hs e1 fun H1 μ1 x1 hl s1 => ?_
  obtain ⟨_, _, e', k⟩ := k.shift x1
  cases e'
  exact k _ H1 μ1 (Ext.refl _ _) s1 rfl
theorem snd_and1T {a : E} {x : Expr} {op : BoolOp} {pos : Pos} (h : PT X x (tT X.K call a)) : PW X (.BoolOp op [x] pos) (tT X.K call a) := by
  cases op
  · exact pw_and1 h
  · exact pw_or1 h
theorem snd_andT {a b : E} {x y : Expr} {r : List Expr} {pos : Pos} (h : PT X x (tT X.K call a)) (h2 : PW X (.BoolOp .And (y :: r) pos) (tT X.K call b)) : PW X (.BoolOp .And (x :: y :: r) pos) (tT X.K call (.and a b)) := by
  refine PW.imp (pw_and h h2) fun σ H Q ⟨μ, L, st, hl, hs, k⟩ => ?_
  simp only [evT] at k
  obtain ⟨p, st1, e1, k⟩ := k.split
  refine goT hl hs e1 fun H1 μ1 x1 hl s1 => ?_
  have k := k.shift x1
  cases p with
  | true => exact ⟨μ1, L, st1, hl, s1, by simpa using k⟩
  | false =>
    obtain ⟨_, _, e', k⟩ := k
    simp at e'
    obtain ⟨rfl, rfl⟩ := e'
    exact k _ H1 μ1 (Ext.refl _ _) s1 rfl
theorem snd_orT {a b : E} {x y : Expr} {r : List Expr} {pos : Pos} (h : PT X x (tT X.K call a)) (h2 : PW X (.BoolOp .Or (y :: r) pos) (tT X.K call b)) : PW X (.BoolOp .Or (x :: y :: r) pos) (tT X.K call (.or a b)) := by
  refine PW.imp (pw_or h h2) fun σ H Q ⟨μ, L, st, hl, hs, k⟩ => ?_
  simp only [evT] at k
  obtain ⟨p, st1, e1, k⟩ := k.split
  refine goT hl hs e1 fun H1 μ1 x1 hl s1 => ?_
  have k := k.shift x1
  cases p with
  | false => exact ⟨μ1, L, st1, hl, s1, by simpa using k⟩
  | true =>
    obtain ⟨_, _, e', k⟩ := k
    simp at e'
    obtain ⟨rfl, rfl⟩ := e'
    exact k _ H1 μ1 (Ext.refl _ _) s1 rfl
theorem snd_not {a : E} {x : Expr} {pos : Pos} (hx : PE X x (tE X.K call a)) : PE X (.UnaryOp .Not x pos) (tE X.K call (.not a)) := by
  refine PE.imp (pe_not hx) fun σ H Q ⟨μ, L, st, hl, hs, k⟩ => ?_
  simp only [ev] at k
  obtain ⟨p, st1, e1, k⟩ := k.split
  refine go1 hl hs e1 fun v H1 μ1 x1 hl s1 r1 => ?_
  have k := k.shift x1
  cases p with
  | bl b => exact ⟨b, r1, K1.done (p := .bl _) k s1 rfl⟩
  | _ => exact k.no.elim
theorem snd_and {a b : E} {x y : Expr} {r : List Expr} {pos : Pos} (h : PE X x (tE X.K call a)) (h2 : PE X (.BoolOp .And (y :: r) pos) (tE X.K call b)) : PE X (.BoolOp .And (x :: y :: r) pos) (tE X.K call (.and a b)) := by
  refine PE.imp (pe_and h h2) fun σ H Q ⟨μ, L, st, hl, hs, k⟩ => ?_
  simp only [ev] at k
  obtain ⟨p, st1, e1, k⟩ := k.split
  refine go1 hl hs e1 fun v H1 μ1 x1 hl s1 r1 => ?_
  have k := k.shift x1
  cases p with
  | bl c =>
    refine ⟨c, r1, ?_⟩
    cases c with
    | true => exact ⟨μ1, L, st1, hl, s1, by simpa using k⟩
    | false => exact K1.done (p := .bl false) (by simpa using k) s1 rfl
  | _ => exact k.no.elim
theorem snd_or {a b : E} {x y : Expr} {r : List Expr} {pos : Pos} (h : PE X x (tE X.K call a)) (h2 : PE X (.BoolOp .Or (y :: r) pos) (tE X.K call b)) : PE X (.BoolOp .Or (x :: y :: r) pos) (tE X.K call (.or a b)) := by
  refine PE.imp (pe_or h h2) fun σ H Q ⟨μ, L, st, hl, hs, k⟩ => ?_
  simp only [ev] at k
  obtain ⟨p, st1, e1, k⟩ := k.split
  refine go1 hl hs e1 fun v H1 μ1 x1 hl s1 r1 => ?_
  have k := k.shift x1
  cases p with
  | bl c =>
    refine ⟨c, r1, ?_⟩
    cases c with
    | false => exact ⟨μ1, L, st1, hl, s1, by simpa using k⟩
    | true => exact K1.done (p := .bl true) (by simpa using k) s1 rfl
  | _ => exact k.no.elim
theorem snd_ite {c a b : E} {x y z : Expr} {pos : Pos} (hc : PT X x (tT X.K call c)) (ha : PE X y (tE X.K call a)) (hb : PE X z (tE X.K call b)) : PE X (.IfExp x y z pos) (tE X.K call (.ite c a b)) := by
  refine PE.imp (pe_ifExp hc ha hb) fun σ H Q ⟨μ, L, st, hl, hs, k⟩ => ?_
  simp only [ev] at k
  obtain ⟨p, st1, e1, k⟩ := k.split
  refine goT hl hs e1 fun H1 μ1 x1 hl s1 => ?_
  have k := k.shift x1
  cases p with
  | true => exact ⟨μ1, L, st1, hl, s1, by simpa using k⟩
  | false => exact ⟨μ1, L, st1, hl, s1, by simpa using k⟩
/-! lists of arguments -/
theorem snd_nil : PA X [] (tA X.K call .nil) := PA.imp pa_nil fun σ H Q ⟨μ, L, st, hl, hs, k⟩ => by
  simp only [evs] at k
  obtain ⟨_, _, e', k⟩ := k
  cases e'
  exact k [] H μ (Ext.refl _ _) hs rfl
theorem snd_cons {e es : E} {x : Expr} {xs : List Expr} (hs0 : starEach (x :: xs) X.env = (false, eval x X.env) :: starEach xs X.env) (h : PE X x (tE X.K call e)) (h2 : PA X xs (tA X.K call es)) : PA X (x :: xs) (tA X.K call (.cons e es)) := by
  refine PA.imp (pa_cons h h2 hs0) fun σ H Q ⟨μ, L, st, hl, hs, k⟩ => ?_
  simp only [evs] at k
  obtain ⟨p, st1, e1, k⟩ := k.split
  refine go1 hl hs e1 fun v H1 μ1 x1 hl s1 r1 => ?_
  obtain ⟨ps, st2, e2, k⟩ := (k.shift x1).split
  refine goA hl s1 e2 fun vs H2 μ2 x2 hl s2 r2 => ?_
  obtain ⟨_, _, e', k⟩ := k.shift x2
  cases e'
  exact k (v :: vs) H2 μ2 (Ext.refl _ _) s2 ⟨v, vs, rfl, r1.mono x2, r2⟩
theorem snd_tup {es : E} {xs : List Expr} {n : Nat} {pos : Pos} (h : PA X xs (tA X.K call es)) : PE X (.Tuple xs n pos) (tE X.K call (.tup es)) := by
  refine PE.imp (pe_tup h) fun σ H Q ⟨μ, L, st, hl, hs, k⟩ => ?_
  simp only [ev] at k
  obtain ⟨ps, st1, e1, k⟩ := k.split
  refine goA hl hs e1 fun vs H1 μ1 x1 hl s1 r1 => ?_
  have k := k.shift x1
  have hb := big_line
  by_cases hc : ps.length ≤ big
  · have k : K1 X.K μ1 H1 (some (.tup ps, st1)) Q := by simpa [hc] using k
    exact ⟨by rw [← r1.length]; omega, fun p hp => K1.done (k.shift (ext_new s1 hp _)) (s1.new hp _) ⟨p, vs, rfl, upd_same, r1.mono (ext_new s1 hp _)⟩⟩
  · have k : K1 X.K μ1 H1 none Q := by simpa [hc] using k
    exact k.no.elim
theorem snd_lst {es : E} {xs : List Expr} {pos : Pos} (h : PA X xs (tA X.K call es)) : PE X (.List xs pos) (tE X.K call (.lst es)) := by
  refine PE.imp (pe_lst h) fun σ H Q ⟨μ, L, st, hl, hs, k⟩ => ?_
  simp only [ev] at k
  obtain ⟨ps, st1, e1, k⟩ := k.split
  refine goA hl hs e1 fun vs H1 μ1 x1 hl s1 r1 => ?_
  have k := k.shift x1
  have hb := big_line
  by_cases hc : ps.length ≤ big
  · have k : K1 X.K μ1 H1 (some (.ref st1.length, st1 ++ [.lst ps])) Q := by simpa [hc, alloc] using k
    refine ⟨by rw [← r1.length]; omega, fun p hp => K1.done (k.shift (ext_alloc s1 hp _)) (s1.alloc hp r1) ⟨p, rfl, ?_⟩⟩
    rw [← s1.len, List.getElem?_append_right (Nat.le_refl _), Nat.sub_self] <;> rfl
  · have k : K1 X.K μ1 H1 none Q := by simpa [hc, alloc] using k
    exact k.no.elim
theorem snd_ix {a i : E} {x y : Expr} {pos : Pos} (hp : PlainIx y) (ha : PE X x (tE X.K call a)) (hi : PE X y (tE X.K call i)) : PE X (.Subscript x y pos) (tE X.K call (.ix a i)) := by
  refine PE.imp (pe_ix ix_any ha hi hp) fun σ H Q ⟨μ, L, st, hl, hs, k⟩ => ?_
  simp only [ev] at k
  obtain ⟨p, st1, e1, k⟩ := k.split
  refine go1 hl hs e1 fun v H1 μ1 x1 hl s1 r1 => ?_
  obtain ⟨q, st2, e2, k⟩ := (k.shift x1).split
  refine go1 hl s1 e2 fun w H2 μ2 x2 hl s2 r2 => ?_
  refine ⟨μ2, st2, p, q, s2, r1.mono x2, r2, ?_⟩
  have k := k.shift x2
  cases q <;> exact k
theorem snd_neg {a : E} {x : Expr} {pos : Pos} (h : PE X x (tE X.K call a)) : PE X (.UnaryOp .USub x pos) (tE X.K call (.neg a)) := by
  refine PE.imp (pe_un un_neg h) fun σ H Q ⟨μ, L, st, hl, hs, k⟩ => ?_
  simp only [ev] at k
  obtain ⟨p, st1, e1, k⟩ := k.split
  refine go1 hl hs e1 fun v H1 μ1 x1 hl s1 r1 => ?_
  have k := k.shift x1
  cases p with
  | int i => exact ⟨i, r1, K1.done (p := .int _) k s1 rfl⟩
  | _ => exact k.no.elim
/-- f(..), f a def of the text -/
theorem snd_call {CX : CXT} {n : Nat} {f : Nat} {fa : Addr} {fd : FuncData} {ps : List Str} {x : Str} {p pos : Pos} {e : Expr} {es : List Expr} {as : E} (F : FnOk X.prog X.w X.K X.mg X.base CX n fa fd ps (spF X.K call f)) (hr : Room n X.A) (hg : Gl X x) (hm : X.mg x = some (.ref fa))
    (hk : PySem.W.keepIn X.K (.ref fa) = true) (hb : Binds X.K fd ps []) {E' : XK} (hx : Passes CX X E') (ha : PA X (e :: es) (tA X.K call as)) (hdb : (x == ("__debug__" : Str)) = false) (he : starEach (e :: es) X.env = (false, eval e X.env) :: starEach es X.env)
    (hpl : (backTo pos (starEach es X.env)).any (·.1) = false) : PE X (.Call (.Name x p) (e :: es) [] pos) (tE X.K call (.call f as)) := by
  refine PE.imp (pe_call F hr hg hm hk hb .nil hx ha hdb he hpl) fun σ H Q ⟨μ, L, st, hl, hs, k⟩ => ?_
  simp only [ev] at k
  obtain ⟨ps, st1, e1, k⟩ := k.split
  refine goA hl hs e1 fun vs H1 μ1 x1 hl s1 r1 => ?_
  exact ⟨μ1, st1, ps, s1, by simpa using r1, k.shift x1⟩
theorem snd_blt (hc : X.calm = true) {f : BF} {x : Str} {p pos : Pos} {e : Expr} {es : List Expr} {as : E} (hx : x = Str.ofString (bfName f)) (hg : Gl X x) (hm : X.mg x = none) (ha : PA X (e :: es) (tA X.K call as))
    (he : starEach (e :: es) X.env = (false, eval e X.env) :: starEach es X.env) (hpl : (backTo pos (starEach es X.env)).any (·.1) = false) : PE X (.Call (.Name x p) (e :: es) [] pos) (tE X.K call (.blt f as)) := by
  subst hx
  have fin : ∀ σ H Q, tE X.K call (.blt f as) σ H Q → tCB (r1 X.K (bfun f)) (tA X.K call as) σ H Q := fun σ H Q ⟨μ, L, st, hl, hs, k⟩ => by
    simp only [ev] at k
    obtain ⟨ps, st1, e1, k⟩ := k.split
    refine goA hl hs e1 fun vs H1 μ1 x1 hl s1 r1 => ?_
    exact ⟨μ1, st1, ps, s1, r1, k.shift x1⟩
  have c := call_bf hc f
  cases f with
  | len => exact PE.imp (pe_callB c hg hm (by decide +kernel) ha (by decide +kernel) (by decide +kernel) he hpl) fin
  | abs => exact PE.imp (pe_callB c hg hm (by decide +kernel) ha (by decide +kernel) (by decide +kernel) he hpl) fin
  | sum => exact PE.imp (pe_callB c hg hm (by decide +kernel) ha (by decide +kernel) (by decide +kernel) he hpl) fin
  | all => exact PE.imp (pe_callB c hg hm (by decide +kernel) ha (by decide +kernel) (by decide +kernel) he hpl) fin
  | any => exact PE.imp (pe_callB c hg hm (by decide +kernel) ha (by decide +kernel) (by decide +kernel) he hpl) fin
  | min => exact PE.imp (pe_callB c hg hm (by decide +kernel) ha (by decide +kernel) (by decide +kernel) he hpl) fin
  | max => exact PE.imp (pe_callB c hg hm (by decide +kernel) ha (by decide +kernel) (by decide +kernel) he hpl) fin
  | int => exact PE.imp (pe_callTy c hg hm (by decide +kernel) ha (by decide +kernel) (by decide +kernel) he hpl) fin
  | tuple => exact PE.imp (pe_callTy c hg hm (by decide +kernel) ha (by decide +kernel) (by decide +kernel) he hpl) fin
  | list => exact PE.imp (pe_callTy c hg hm (by decide +kernel) ha (by decide +kernel) (by decide +kernel) he hpl) fin

/-! isinstance -/
def tyName : Ty → String | .int => "int" | .bool => "bool" | .str => "str" | .list => "list" | .tuple => "tuple"
theorem tyOf_rel {K : PySem.W.Frag} {μ : List Addr} {H : Hp} {st : Sto} {p : PV} {v : V} {t : Ty} {b : Bool} (hs : RelS K μ H st) (r : RP K μ H p v) (e : isTy st p t = some b) : ∃ T, TyOf K H v (.type T) ∧ PySem.W.kitOne K (.type T) (.type (tyName t)) = some b := by
  cases p with
  | non => cases (show v = _ from r); exact ⟨_, .non, by cases e; cases t <;> rfl⟩
  | bl c => cases (show v = _ from r); exact ⟨_, .bl _, by cases e; cases t <;> rfl⟩
  | int c => cases (show v = _ from r); exact ⟨_, .int _, by cases e; cases t <;> rfl⟩
  | str c => cases (show v = _ from r); exact ⟨_, .str _, by cases e; cases t <;> rfl⟩
  | tup ps =>
    obtain ⟨a, xs, rfl, h1, h2⟩ := r
    exact ⟨_, .tup h1, by cases e; cases t <;> rfl⟩
  | ref l =>
    have e : (match st[l]? with | some (.lst _) => some (t == .list) | none => none) = some b := e
    cases z : st[l]? with
    | none => rw [z] at e; cases e
    | some o =>
      obtain ⟨ps⟩ := o
      rw [z] at e
      obtain ⟨a, xs, m, h1, _⟩ := hs.at z
      obtain ⟨a', rfl, m'⟩ := r
      rw [m] at m'; cases m'
      exact ⟨_, .lst h1, by cases e; cases t <;> rfl⟩
  | scr ns => cases e
theorem snd_isi1 {a : E} {t : Ty} {x : Expr} {fx ty : Str} {p p2 pos : Pos} (hfx : fx = Str.ofString "isinstance") (hty : ty = Str.ofString (tyName t)) (hg : Gl X fx) (hm : X.mg fx = none) (hg2 : Gl X ty) (hm2 : X.mg ty = none) (h : PE X x (tE X.K call a))
    (he : starEach [x, .Name ty p2] X.env = [(false, eval x X.env), (false, eval (.Name ty p2) X.env)]) : PE X (.Call (.Name fx p) [x, .Name ty p2] [] pos) (tE X.K call (.isi a [t])) := by
  subst hfx hty
  have c : CallR X (.builtin "isinstance") (fun xs H Q => ∃ v c b T, xs = [v, .ty c] ∧ TyOf X.K H v (.type T) ∧ PySem.W.kitOne X.K (.type T) (.type c) = some b ∧ Q (.bl b) H) := by
    intro pins s σ H xs us Q I r hh
    obtain ⟨v, c, b, T, rfl, h1, h2, q⟩ := hh
    obtain ⟨u, u', rfl, ru, ru'⟩ := vals2 r
    obtain rfl : u' = .type c := ru'
    exact isinst_ok I ru h1 h2 fun tk => ⟨.bl b, H, I.tok _, rfl, q⟩
  have tt : PE X (.Name (Str.ofString (tyName t)) p2) (tC (.ty (tyName t))) := by
    cases t <;> exact pe_bltn hg2 hm2 (by decide +kernel) rfl (by decide +kernel) (by decide +kernel)
  have hs2 : starEach [Expr.Name (Str.ofString (tyName t)) p2] X.env = (false, eval (.Name (Str.ofString (tyName t)) p2) X.env) :: starEach [] X.env := rfl
  have hs1 : starEach [x, .Name (Str.ofString (tyName t)) p2] X.env = (false, eval x X.env) :: starEach [.Name (Str.ofString (tyName t)) p2] X.env := by rw [he]; rfl
  refine PE.imp (pe_callB c hg hm (by decide +kernel) (pa_cons h (pa_cons tt pa_nil hs2) hs1) (by decide +kernel) (by decide +kernel) hs1 rfl) fun σ H Q ⟨μ, L, st, hl, hs, k⟩ => ?_
  simp only [ev] at k
  obtain ⟨q, st1, e1, k⟩ := k.split
  refine go1 hl hs e1 fun v H1 μ1 x1 hl s1 r1 => ?_
  have k := k.shift x1
  cases e : isTys st1 q [t] with
  | none => rw [e] at k; exact k.no.elim
  | some b =>
    rw [e] at k
    have e : (isTy st1 q t).bind (fun a => some (a || false)) = some b := e
    cases e2 : isTy st1 q t with
    | none => rw [e2] at e; cases e
    | some b' =>
      rw [e2] at e
      have e : some (b' || false) = some b := e
      rw [Bool.or_false] at e
      cases e
      obtain ⟨T, t1, t2⟩ := tyOf_rel s1 r1 e2
      exact ⟨v, _, _, T, rfl, t1, t2, K1.done (p := .bl _) k s1 rfl⟩
theorem snd_isi2 {a : E} {t t' : Ty} {x : Expr} {fx ty ty' : Str} {n : Nat} {p p2 p3 p4 pos : Pos} (hfx : fx = Str.ofString "isinstance") (hty : ty = Str.ofString (tyName t)) (hty' : ty' = Str.ofString (tyName t')) (hg : Gl X fx) (hm : X.mg fx = none) (hg2 : Gl X ty) (hm2 : X.mg ty = none)
    (hg3 : Gl X ty') (hm3 : X.mg ty' = none) (h : PE X x (tE X.K call a)) (he : starEach [x, .Tuple [.Name ty p2, .Name ty' p3] n p4] X.env = [(false, eval x X.env), (false, eval (.Tuple [.Name ty p2, .Name ty' p3] n p4) X.env)]) :
    PE X (.Call (.Name fx p) [x, .Tuple [.Name ty p2, .Name ty' p3] n p4] [] pos) (tE X.K call (.isi a [t, t'])) := by
  subst hfx hty hty'
  have c : CallR X (.builtin "isinstance") (fun xs H Q => ∃ v d c c' b b' T, xs = [v, .ref d] ∧ H d = some (.tup [.ty c, .ty c']) ∧ TyOf X.K H v (.type T) ∧ PySem.W.kitOne X.K (.type T) (.type c) = some b ∧ PySem.W.kitOne X.K (.type T) (.type c') = some b' ∧ Q (.bl (b || b')) H) := by
    intro pins s σ H xs us Q I r hh
    obtain ⟨v, d, c, c', b, b', T, rfl, hd, h1, h2, h3, q⟩ := hh
    obtain ⟨u, u', rfl, ru, ru'⟩ := vals2 r
    obtain rfl : u' = .ref d := ru'
    obtain ⟨_, its, rv, o, ho, hcl, nn, hdt⟩ := (show ObjOk X.prog X.w H s.heap d (.tup [.ty c, .ty c']) from I.hok d _ hd)
    obtain ⟨w1, w2, rfl, rw1, rw2⟩ := vals2 rv
    obtain rfl : w1 = .type c := rw1
    obtain rfl : w2 = .type c' := rw2
    have fin : ∀ tk, EP X pins σ Q (.bool (b || b')) { s with toks := tk } := fun tk => ⟨.bl (b || b'), H, I.tok _, rfl, q⟩
    have hany : PySem.W.kitAny X.K (.type T) [.type c, .type c'] = some (b || b') := by
      show (match PySem.W.kitOne X.K (.type T) (.type c) with | some true => some true | some false => PySem.W.kitAny X.K (.type T) [.type c'] | none => none) = _
      rw [h2]
      cases b with
      | true => rfl
      | false =>
        show (match PySem.W.kitOne X.K (.type T) (.type c') with | some true => some true | some false => PySem.W.kitAny X.K (.type T) [] | none => none) = _
        rw [h3]; cases b' <;> rfl
    obtain ⟨oc, od, odt, osl⟩ := o
    simp only at hcl hdt
    subst hcl hdt
    cases h1 with
    | non => cases (show u = Value.none from ru); exact PySem.W.kia_tup PySem.W.kitx_none I.kIn True.intro ho hany (fun z => nomatch z) fin
    | bl y => cases (show u = Value.bool y from ru); exact PySem.W.kia_tup PySem.W.kitx_bool I.kIn True.intro ho hany (fun z => nomatch z) fin
    | int i => obtain ⟨t, rfl⟩ := (show ∃ t, u = Value.int i t from ru); exact PySem.W.kia_tup PySem.W.kitx_int I.kIn True.intro ho hany (fun z => nomatch z) fin
    | str y => obtain ⟨t, rfl⟩ := (show ∃ t, u = Value.str y t from ru); exact PySem.W.kia_tup PySem.W.kitx_str I.kIn True.intro ho hany (fun z => nomatch z) fin
    | flt y => obtain ⟨t, rfl⟩ := (show ∃ t, u = Value.float y t from ru); exact PySem.W.kia_tup PySem.W.kitx_float I.kIn True.intro ho hany (fun z => nomatch z) fin
    | @lst a xs ea =>
      cases (show u = Value.ref a from ru)
      obtain ⟨_, _, n, _, h1⟩ := (show ObjOk X.prog X.w H s.heap a (.lst xs) from I.hok a _ ea)
      exact PySem.W.kia_tup PySem.W.kitx_list I.kIn ⟨_, h1, rfl⟩ ho hany (fun z => nomatch z) fin
    | @frz a ob xs ea =>
      cases (show u = Value.ref a from ru)
      obtain ⟨_, _, _, n, _, h1⟩ := (show ObjOk X.prog X.w H s.heap a (.frz ob (.lst xs)) from I.hok a _ ea)
      exact PySem.W.kia_tup PySem.W.kitx_list I.kIn ⟨_, h1, rfl⟩ ho hany (fun z => nomatch z) fin
    | @tup a xs ea =>
      cases (show u = Value.ref a from ru)
      obtain ⟨_, _, _, o, h1, h2, _⟩ := (show ObjOk X.prog X.w H s.heap a (.tup xs) from I.hok a _ ea)
      exact PySem.W.kia_tup PySem.W.kitx_tuple I.kIn ⟨o, h1, h2⟩ ho hany (fun z => nomatch z) fin
    | @dK a kvs ea =>
      cases (show u = Value.ref a from ru)
      obtain ⟨_, _, vs, _, o, es, ep, h1, h2, _⟩ := (show ObjOk X.prog X.w H s.heap a (.dK kvs) from I.hok a _ ea)
      exact PySem.W.kia_tup PySem.W.kitx_dict I.kIn ⟨o, h1, h2.1⟩ ho hany (fun z => nomatch z) fin
    | @dT a kvs ea =>
      cases (show u = Value.ref a from ru)
      obtain ⟨_, _, xs, _, o, es, ep, h1, h2, _⟩ := (show ObjOk X.prog X.w H s.heap a (.dT kvs) from I.hok a _ ea)
      exact PySem.W.kia_tup PySem.W.kitx_dict I.kIn ⟨o, h1, h2.1⟩ ho hany (fun z => nomatch z) fin
  have tt : ∀ (t : Ty) (p2 : Pos), Gl X (Str.ofString (tyName t)) → X.mg (Str.ofString (tyName t)) = none → PE X (.Name (Str.ofString (tyName t)) p2) (tC (.ty (tyName t))) := fun t p2 hg2 hm2 => by
    cases t <;> exact pe_bltn hg2 hm2 (by decide +kernel) rfl (by decide +kernel) (by decide +kernel)
  have tup := pe_tup (x1 := n) (pos := p4) (pa_cons (tt t p2 hg2 hm2) (pa_cons (tt t' p3 hg3 hm3) pa_nil rfl) rfl)
  have hs1 : starEach [x, .Tuple [.Name (Str.ofString (tyName t)) p2, .Name (Str.ofString (tyName t')) p3] n p4] X.env = (false, eval x X.env) :: starEach [.Tuple [.Name (Str.ofString (tyName t)) p2, .Name (Str.ofString (tyName t')) p3] n p4] X.env := by rw [he]; rfl
  refine PE.imp (pe_callB c hg hm (by decide +kernel) (pa_cons h (pa_cons tup pa_nil rfl) hs1) (by decide +kernel) (by decide +kernel) hs1 rfl) fun σ H Q ⟨μ, L, st, hl, hs, k⟩ => ?_
  simp only [ev] at k
  obtain ⟨q, st1, e1, k⟩ := k.split
  refine go1 hl hs e1 fun v H1 μ1 x1 hl s1 r1 => ?_
  have k := k.shift x1
  refine ⟨by show 2 ≤ sizeLine; decide, fun d hd => ?_⟩
  have x2 := ext_new s1 hd (.tup [.ty (tyName t), .ty (tyName t')])
  have s2 := s1.new hd (.tup [.ty (tyName t), .ty (tyName t')])
  have r2 := r1.mono x2
  have k := k.shift x2
  cases e : isTys st1 q [t, t'] with
  | none => rw [e] at k; exact k.no.elim
  | some b =>
    rw [e] at k
    have e : (isTy st1 q t).bind (fun a => (isTy st1 q t').bind fun b => some (a || (b || false))) = some b := by
      rw [← e]
      show _ = (isTy st1 q t).bind fun a => ((isTy st1 q t').bind fun b => some (b || false)).bind fun b => some (a || b)
      cases isTy st1 q t <;> cases isTy st1 q t' <;> rfl
    cases e2 : isTy st1 q t with
    | none => rw [e2] at e; cases e
    | some b1 =>
      rw [e2] at e
      have e : ((isTy st1 q t').bind fun b => some (b1 || (b || false))) = some b := e
      cases e3 : isTy st1 q t' with
      | none => rw [e3] at e; cases e
      | some b2 =>
        rw [e3] at e
        have e : some (b1 || (b2 || false)) = some b := e
        rw [Bool.or_false] at e
        cases e
        obtain ⟨T, t1, t2⟩ := tyOf_rel s2 r2 e2
        obtain ⟨T', t3, t4⟩ := tyOf_rel s2 r2 e3
        have hT : T = T' := by cases t1 <;> cases t3 <;> first | rfl | (simp_all)
        subst hT
        exact ⟨v, d, _, _, _, _, T, rfl, upd_same, t1, t2, t4, K1.done (p := .bl _) k s2 rfl⟩
end
end Kw
end
section
set_option Elab.async false
set_option linter.all false
set_option maxRecDepth 100000
set_option maxHeartbeats 4000000
namespace Kw
open PySem PySem.Spec PyProof.Rows L2
/-- how a walk tells the items -/
def ItR (K : PySem.W.Frag) (J : It) (xs : List PV) (gs : Gd) (μ1 : List Addr) (H1 : Hp) : Prop :=
  ∀ (i : Nat) (μ : List Addr) (H : Hp) (st : Sto), Ext μ1 H1 μ H → RelS K μ H st → okG st gs = true →
    (xs[i]? = none → J.stop i H) ∧ ∀ p, xs[i]? = some p → J.go i H ∧ ∀ v H', J.yld i H v H' → Ext μ H μ H' ∧ RelS K μ H' st ∧ RP K μ H' p v
def tI (K : PySem.W.Frag) (call : Nat → List PV → Sto → R PV) (e : E) : TI := fun σ H R => ∃ μ L st xs gs st1, RelL K μ H L σ ∧ RelS K μ H st ∧ evI call e L st = some (xs, gs, st1) ∧
  ∀ J H1 μ1, Ext μ H μ1 H1 → RelS K μ1 H1 st1 → ItR K J xs gs μ1 H1 → R J H1
theorem upto_get : ∀ (n : Nat) (lo : Int) (i : Nat), (upto lo n)[i]? = if i < n then some (.int (lo + i)) else none
  | 0, lo, i => by simp [upto]
  | n + 1, lo, 0 => by simp [upto]
  | n + 1, lo, i + 1 => by
    show (upto (lo + 1) n)[i]? = _
    rw [upto_get n (lo + 1) i]
    have e : lo + 1 + (i : Int) = lo + ((i + 1 : Nat) : Int) := by omega
    rw [e]
    simp
theorem itr_rel {K : PySem.W.Frag} {lo : Int} {n : Nat} {μ1 : List Addr} {H1 : Hp} : ItR K (Itr lo n) (upto lo n) [] μ1 H1 := by
  intro i μ H st x hs _
  rw [upto_get]
  refine ⟨fun e => ?_, fun p e => ?_⟩
  · show n ≤ i
    by_cases h : i < n
    · rw [if_pos h] at e; cases e
    · omega
  · by_cases h : i < n
    · rw [if_pos h] at e
      cases e
      refine ⟨h, fun v H' y => ?_⟩
      obtain ⟨rfl, rfl⟩ := y
      exact ⟨Ext.refl _ _, hs, rfl⟩
    · rw [if_neg h] at e; cases e
theorem okG_list {st : Sto} {l : Nat} {xs : List PV} {gs : Gd} (h : okG st gs = true) (hm : (l, xs) ∈ gs) : listOf st (.ref l) = some xs := by
  have := List.all_eq_true.mp h _ hm
  simpa using this
/-- a list that is walked, later on -/
theorem list_later {K : PySem.W.Frag} {μ1 μ : List Addr} {H1 H : Hp} {st1 st : Sto} {p : PV} {a : Addr} {ps : List PV} {gs : Gd} (r : RP K μ1 H1 p (.ref a)) (e : listOf st1 p = some ps) (hg : ∀ q ∈ gdOf p ps, q ∈ gs) (x : Ext μ1 H1 μ H) (hs : RelS K μ H st) (ok : okG st gs = true) :
    ∃ vs, SqL K H a vs ∧ RPs K μ H ps vs := by
  have r' := r.mono x
  cases p with
  | ref l =>
    have e' := okG_list ok (hg (l, ps) (by simp [gdOf]))
    obtain ⟨a', vs, ea, h1, h2⟩ := listOf_rel hs r' e'
    cases ea
    exact ⟨vs, h1, h2⟩
  | scr ns =>
    cases e
    obtain ⟨a', ea, h1, _⟩ := r'
    cases ea
    exact ⟨_, h1, RPs.ints ns⟩
  | _ => cases e
theorem itl_rel {K : PySem.W.Frag} {μ1 : List Addr} {H1 : Hp} {st1 : Sto} {p : PV} {a : Addr} {ps : List PV} (r : RP K μ1 H1 p (.ref a)) (e : listOf st1 p = some ps) : ItR K (Itl K a) ps (gdOf p ps) μ1 H1 := by
  intro i μ H st x hs ok
  obtain ⟨vs, h1, h2⟩ := list_later r e (fun q h => h) x hs ok
  refine ⟨fun e => ⟨vs, h1, ?_⟩, fun q eq => ?_⟩
  · rw [← h2.length]; exact List.getElem?_eq_none_iff.mp e
  · obtain ⟨v, e1, r1⟩ := h2.get eq
    refine ⟨⟨vs, v, h1, e1⟩, fun w H' y => ?_⟩
    obtain ⟨rfl, y⟩ := y
    have := y vs h1
    rw [e1] at this
    cases this
    exact ⟨Ext.refl _ _, hs, r1⟩
theorem itt_rel {K : PySem.W.Frag} {μ1 : List Addr} {H1 : Hp} {a : Addr} {ps : List PV} (r : RP K μ1 H1 (.tup ps) (.ref a)) : ItR K (Itt K a) ps [] μ1 H1 := by
  intro i μ H st x hs ok
  obtain ⟨a', vs, ea, h1, h2⟩ := r.mono x
  cases ea
  refine ⟨fun e => ⟨vs, SqT.of h1, ?_⟩, fun q eq => ?_⟩
  · rw [← h2.length]; exact List.getElem?_eq_none_iff.mp e
  · obtain ⟨v, e1, r1⟩ := h2.get eq
    refine ⟨⟨vs, v, SqT.of h1, e1⟩, fun w H' y => ?_⟩
    obtain ⟨rfl, y⟩ := y
    have := y vs (SqT.of h1)
    rw [e1] at this
    cases this
    exact ⟨Ext.refl _ _, hs, r1⟩
theorem itz_rel {K : PySem.W.Frag} {μ1 : List Addr} {H1 : Hp} {st1 : Sto} {p q : PV} {a b : Addr} {ps qs : List PV} (r : RP K μ1 H1 p (.ref a)) (e : listOf st1 p = some ps) (r2 : RP K μ1 H1 q (.ref b)) (e2 : listOf st1 q = some qs) :
    ItR K (Itz K a b) (ps.zipWith (fun p q => .tup [p, q]) qs) (gdOf p ps ++ gdOf q qs) μ1 H1 := by
  intro i μ H st x hs ok
  obtain ⟨vs, h1, h2⟩ := list_later r e (fun q h => List.mem_append_left _ h) x hs ok
  obtain ⟨ws, g1, g2⟩ := list_later r2 e2 (fun q h => List.mem_append_right _ h) x hs ok
  rw [List.getElem?_zipWith]
  refine ⟨fun z => ⟨vs, ws, h1, g1, ?_⟩, fun y ey => ?_⟩
  · rw [← h2.length, ← g2.length]
    cases c1 : ps[i]? with
    | none => exact .inl (List.getElem?_eq_none_iff.mp c1)
    | some _ =>
      cases c2 : qs[i]? with
      | none => exact .inr (List.getElem?_eq_none_iff.mp c2)
      | some _ => rw [c1, c2] at z; cases z
  · cases c1 : ps[i]? with
    | none => rw [c1] at ey; cases ey
    | some p1 =>
      cases c2 : qs[i]? with
      | none => rw [c1, c2] at ey; cases ey
      | some q1 =>
        rw [c1, c2] at ey
        cases ey
        obtain ⟨v, f1, f2⟩ := h2.get c1
        obtain ⟨w, f3, f4⟩ := g2.get c2
        refine ⟨⟨vs, ws, v, w, h1, g1, f1, f3⟩, fun z H' ⟨pp, hp, ez, yy⟩ => ?_⟩
        have := yy vs ws v w h1 g1 f1 f3
        subst this ez
        exact ⟨ext_new hs hp _, hs.new hp _, pp, [v, w], rfl, upd_same, _, _, rfl, f2.mono (ext_new hs hp _), _, _, rfl, f4.mono (ext_new hs hp _), rfl⟩
section
variable {X : Cx} {call : Nat → List PV → Sto → R PV}
theorem PI.imp {tg it : Expr} {t u : TI} (h : PI X tg it t) (f : ∀ σ H R, u σ H R → t σ H R) : PI X tg it u := fun pins s σ H R I hu => h pins s σ H R I (f σ H R hu)
theorem snd_rng {tg : Expr} {a : E} {x : Expr} {p pos : Pos} (hg : Gl X "range") (hm : X.mg "range" = none) (h : PE X x (tE X.K call a)) (hs0 : starEach [x] X.env = [(false, eval x X.env)]) : PI X tg (.Call (.Name "range" p) [x] [] pos) (tI X.K call (.rng a)) := by
  refine PI.imp (pi_range1 hg hm (pa_cons h pa_nil (by rw [hs0]; rfl)) hs0) fun σ H R ⟨μ, L, st, xs, gs, st1, hl, hs, e, q⟩ => ?_
  simp only [evI] at e
  cases e1 : ev call a L st with
  | none => rw [e1] at e; cases e
  | some z =>
    obtain ⟨p, st2⟩ := z
    rw [e1] at e
    refine go1 hl hs e1 fun v H1 μ1 x1 hl s1 r1 => ?_
    cases p with
    | int j =>
      have e : (if small62 j = true then some (upto 0 j.toNat, ([] : Gd), st2) else none) = some (xs, gs, st1) := e
      by_cases hc : small62 j = true
      · rw [if_pos hc] at e
        cases e
        have hc : -(2 ^ 62) ≤ j ∧ j < 2 ^ 62 := by simpa [small62] using hc
        exact ⟨j, by rw [show v = .int j from r1], hc.1, hc.2, q _ H1 μ1 x1 s1 itr_rel⟩
      · rw [if_neg hc] at e; cases e
    | _ => cases e
def plainIt : E → Bool
  | .rng _ => false | .rng2 _ _ => false | .zip _ _ => false | .enum _ => false | .revr _ => false | .rev _ => false
  | _ => true
theorem evI_plain {e : E} (h : plainIt e = true) (L : Loc) (st : Sto) : evI call e L st = (ev call e L st).bind fun x => (seqOf x.2 x.1).bind fun xs => some (xs, gdOf x.1 xs, x.2) := by
  cases e <;> first | (cases h; done) | (simp only [evI])
/-- a list or a tuple that is walked -/
theorem pi_seq {tg it : Expr} {te : TE} (h : PE X it te) : PI X tg it (fun σ H R => te σ H fun v H1 => ∃ a, v = .ref a ∧ ((∃ xs, SqL X.K H1 a xs) ∧ R (Itl X.K a) H1 ∨ (∃ xs, SqT X.K H1 a xs) ∧ R (Itt X.K a) H1)) := by
  intro pins s σ H R I hh
  refine thn (h pins s σ H _ I hh) fun v s1 ⟨x, H1, I1, r1, a, e, q⟩ => ?_
  subst e
  have hb : PE X it (fun σ' H' Q => False) := fun _ _ _ _ _ _ z => z.elim
  cases r1
  rcases q with ⟨⟨xs, hq⟩, q⟩ | ⟨⟨xs, hq⟩, q⟩
  · obtain ⟨its, rv, p, hz⟩ := I1.list hq
    refine wpAny_pyIter_list p.isList ?_
    refine ⟨s1.heap.objs.size, [s1.heap.objs.size], _, _, H1, rfl, I1.kept (t' := s1.toks) fun b o e => Heap.get?_push_of_some _ e, turn_list a _, ⟨_, Heap.get?_push_size _ rfl, rfl, rfl⟩, fun b hb => ?_, q⟩
    have e : b = s1.heap.objs.size := by simpa using hb
    subst e
    exact I1.fpOk (Nat.le_refl _) (I1.hok.fresh (Nat.le_refl _))
  · obtain ⟨its, rv, p, hz⟩ := I1.tuple hq
    refine wpAny_pyIter_tuple p ?_
    refine ⟨s1.heap.objs.size, [s1.heap.objs.size], _, _, H1, rfl, I1.kept (t' := s1.toks) fun b o e => Heap.get?_push_of_some _ e, turn_tuple a _, ⟨_, Heap.get?_push_size _ rfl, rfl, rfl⟩, fun b hb => ?_, q⟩
    have e : b = s1.heap.objs.size := by simpa using hb
    subst e
    exact I1.fpOk (Nat.le_refl _) (I1.hok.fresh (Nat.le_refl _))
theorem snd_itv {tg : Expr} {e : E} {x : Expr} (hp : plainIt e = true) (h : PE X x (tE X.K call e)) : PI X tg x (tI X.K call e) := by
  refine PI.imp (pi_seq h) fun σ H R ⟨μ, L, st, xs, gs, st1, hl, hs, ee, q⟩ => ?_
  rw [evI_plain hp] at ee
  cases e1 : ev call e L st with
  | none => rw [e1] at ee; cases ee
  | some z =>
    obtain ⟨p, st2⟩ := z
    rw [e1] at ee
    have ee : ((seqOf st2 p).bind fun xs => some (xs, gdOf p xs, st2)) = some (xs, gs, st1) := ee
    refine go1 hl hs e1 fun v H1 μ1 x1 hl s1 r1 => ?_
    cases c : seqOf st2 p with
    | none => rw [c] at ee; cases ee
    | some ps =>
      rw [c] at ee
      cases ee
      cases p with
      | tup qs =>
        cases c
        obtain ⟨a, vs, rfl, h1, h2⟩ := id r1
        exact ⟨a, rfl, .inr ⟨⟨vs, SqT.of h1⟩, q _ H1 μ1 x1 s1 (itt_rel r1)⟩⟩
      | ref l =>
        obtain ⟨a, vs, rfl, h1, h2⟩ := listOf_rel s1 r1 c
        exact ⟨a, rfl, .inl ⟨⟨vs, h1⟩, q _ H1 μ1 x1 s1 (itl_rel r1 c)⟩⟩
      | scr l =>
        obtain ⟨a, vs, rfl, h1, h2⟩ := listOf_rel s1 r1 c
        exact ⟨a, rfl, .inl ⟨⟨vs, h1⟩, q _ H1 μ1 x1 s1 (itl_rel (st1 := []) r1 c)⟩⟩
      | _ => cases c
theorem snd_zip {elts : List Expr} {k : Nat} {tp : Pos} {a b : E} {x y : Expr} {p pos : Pos} (hg : Gl X "zip") (hm : X.mg "zip" = none) (h : PE X x (tE X.K call a)) (h2 : PE X y (tE X.K call b))
    (hs0 : starEach [x, y] X.env = [(false, eval x X.env), (false, eval y X.env)]) (hs2 : starEach [y] X.env = [(false, eval y X.env)]) : PI X (.Tuple elts k tp) (.Call (.Name "zip" p) [x, y] [] pos) (tI X.K call (.zip a b)) := by
  refine PI.imp (pi_zip hg hm (pa_cons h (pa_cons h2 pa_nil (by rw [hs2]; rfl)) (by rw [hs0, hs2])) hs0 hs2) fun σ H R ⟨μ, L, st, xs, gs, st1, hl, hs, ee, q⟩ => ?_
  simp only [evI] at ee
  cases e1 : ev call a L st with
  | none => rw [e1] at ee; cases ee
  | some z =>
    obtain ⟨p, st2⟩ := z
    rw [e1] at ee
    have ee : ((ev call b L st2).bind fun y => (listOf y.2 p).bind fun xs => (listOf y.2 y.1).bind fun ys => some (xs.zipWith (fun p q => PV.tup [p, q]) ys, gdOf p xs ++ gdOf y.1 ys, y.2)) = some (xs, gs, st1) := ee
    refine go1 hl hs e1 fun v H1 μ1 x1 hl s1 r1 => ?_
    cases e2 : ev call b L st2 with
    | none => rw [e2] at ee; cases ee
    | some z =>
      obtain ⟨q', st3⟩ := z
      rw [e2] at ee
      have ee : ((listOf st3 p).bind fun xs => (listOf st3 q').bind fun ys => some (xs.zipWith (fun p q => PV.tup [p, q]) ys, gdOf p xs ++ gdOf q' ys, st3)) = some (xs, gs, st1) := ee
      refine go1 hl s1 e2 fun w H2 μ2 x2 hl s2 r2 => ?_
      cases c1 : listOf st3 p with
      | none => rw [c1] at ee; cases ee
      | some ps =>
        cases c2 : listOf st3 q' with
        | none => rw [c1] at ee; simp only [Option.bind] at ee; rw [c2] at ee; cases ee
        | some qs =>
          rw [c1] at ee; simp only [Option.bind] at ee; rw [c2] at ee
          cases ee
          have r1 := r1.mono x2
          obtain ⟨a1, vs, rfl, h1, _⟩ := listOf_rel s2 r1 c1
          obtain ⟨b1, ws, rfl, h3, _⟩ := listOf_rel s2 r2 c2
          exact ⟨a1, b1, rfl, ⟨vs, h1⟩, ⟨ws, h3⟩, q _ H2 μ2 (x1.trans x2) s2 (itz_rel r1 c1 r2 c2)⟩
end
end Kw
end
section
set_option Elab.async false
set_option linter.all false
set_option maxRecDepth 100000
set_option maxHeartbeats 4000000
namespace Kw
open PySem PySem.Spec PyProof.Rows L2
/-! ### targets -/
def setAllV : L2.St → List Nat → List V → Option L2.St
  | σ, [], [] => some σ
  | σ, i :: is, v :: vs => setAllV (σ.set i (some v)) is vs
  | _, _, _ => none
def gTs : List Nat → TGs
  | [] => gNil
  | i :: is => gCons (gName i) (gTs is)
def gT (K : PySem.W.Frag) : Tg → TG
  | .nm i => gName i
  | .tp is => gTup K is.length (gTs is)
theorem gTs_of : ∀ {is : List Nat} {vs : List V} {σ σ' : L2.St} {H : Hp} {Q : L2.St → Hp → Prop}, setAllV σ is vs = some σ' → Q σ' H → gTs is vs σ H Q
  | [], [], σ, σ', H, Q, e, q => by cases e; exact ⟨rfl, q⟩
  | i :: is, v :: vs, σ, σ', H, Q, e, q => ⟨v, vs, rfl, gTs_of (σ := σ.set i (some v)) e q⟩
  | [], v :: vs, _, _, _, _, e, _ => by cases e
  | i :: is, [], _, _, _, _, e, _ => by cases e
theorem setAll_rel {K : PySem.W.Frag} {μ : List Addr} {H : Hp} : ∀ {is : List Nat} {ps : List PV} {vs : List V} {L L' : Loc} {σ : L2.St}, RelL K μ H L σ → RPs K μ H ps vs → setAll L is ps = some L' → ∃ σ', setAllV σ is vs = some σ' ∧ RelL K μ H L' σ'
  | [], [], vs, L, L', σ, hl, r, e => by cases (show vs = [] from r); cases e; exact ⟨σ, rfl, hl⟩
  | i :: is, p :: ps, vs, L, L', σ, hl, r, e => by
    obtain ⟨v, q, rfl, h1, h2⟩ := r
    exact setAll_rel (is := is) (ps := ps) (vs := q) (hl.set i h1) h2 e
  | [], p :: ps, _, _, _, _, _, _, e => by cases e
  | i :: is, [], _, _, _, _, _, _, e => by cases e
theorem setAllV_len : ∀ {is : List Nat} {vs : List V} {σ σ' : L2.St}, setAllV σ is vs = some σ' → is.length = vs.length ∧ σ'.length = σ.length
  | [], [], σ, σ', e => by cases e; exact ⟨rfl, rfl⟩
  | i :: is, v :: vs, σ, σ', e => by
    obtain ⟨h1, h2⟩ := setAllV_len (σ := σ.set i (some v)) e
    rw [List.length_set] at h2
    exact ⟨by rw [List.length_cons, List.length_cons, h1], h2⟩
  | [], v :: vs, _, _, e => by cases e
  | i :: is, [], _, _, e => by cases e
theorem setAllV_wk : ∀ {is : List Nat} {vs : List V} {σ σ' : L2.St} (n : Nat), (∀ i ∈ is, n ≤ i) → setAllV σ is vs = some σ' → ∀ j, j < n → σ'[j]? = σ[j]?
  | [], [], σ, σ', n, _, e, j, _ => by cases e; rfl
  | i :: is, v :: vs, σ, σ', n, h, e, j, hj => by
    rw [setAllV_wk (σ := σ.set i (some v)) n (fun k hk => h k (List.mem_cons_of_mem _ hk)) e j hj, List.getElem?_set_ne]
    have := h i List.mem_cons_self
    omega
  | [], v :: vs, _, _, _, _, e, _, _ => by cases e
  | i :: is, [], _, _, _, _, e, _, _ => by cases e
def tgMin (n : Nat) : Tg → Bool
  | .nm i => decide (n ≤ i)
  | .tp is => is.all fun i => decide (n ≤ i)
/-- a value goes to its target -/
theorem gT_rel {K : PySem.W.Frag} {μ : List Addr} {H : Hp} {L L' : Loc} {σ : L2.St} {st : Sto} {tg : Tg} {p : PV} {v : V} (hl : RelL K μ H L σ) (r : RP K μ H p v) (e : asgT tg p L st = some L') :
    ∃ σ', (∀ Q : L2.St → Hp → Prop, Q σ' H → gT K tg v σ H Q) ∧ RelL K μ H L' σ' ∧ σ'.length = σ.length ∧ ∀ n, tgMin n tg = true → ∀ j, j < n → σ'[j]? = σ[j]? := by
  cases tg with
  | nm i =>
    cases e
    refine ⟨σ.set i (some v), fun Q q => q, hl.set i r, List.length_set .., fun n hn j hj => ?_⟩
    have : n ≤ i := by simpa [tgMin] using hn
    exact List.getElem?_set_ne (by omega)
  | tp is =>
    cases p with
    | tup ps =>
      obtain ⟨a, vs, rfl, h1, h2⟩ := r
      have e : setAll L is ps = some L' := e
      obtain ⟨σ', e', hl'⟩ := setAll_rel hl h2 e
      obtain ⟨l1, l2⟩ := setAllV_len e'
      refine ⟨σ', fun Q q => ⟨a, vs, rfl, SqT.of h1, l1.symm, gTs_of e' q⟩, hl', l2, fun n hn j hj => setAllV_wk n (fun i hi => ?_) e' j hj⟩
      have := List.all_eq_true.mp hn i hi
      simpa using this
    | _ => cases e
section
variable {X : Cx} {call : Nat → List PV → Sto → R PV}
/-! ### a comprehension -/
theorem comp_sem {K : PySem.W.Frag} {J : It} {xs0 : List PV} {gs : Gd} {μ0 : List Addr} {H0 : Hp} {st0 : Sto} {σ : L2.St} {L : Loc} {n m : Nat} {tg : Tg} {el ifs : E} {Q : VK} (hl : RelL K μ0 H0 L σ) (hs : RelS K μ0 H0 st0) (hJ : ItR K J xs0 gs μ0 H0) (hn : L.length = n) (htg : tgMin n tg = true)
    (k : K1 K μ0 H0 ((compItems tg gs (fun L1 s1 => evTs call ifs L1 s1) (fun L1 s1 => ev call el L1 s1) (L ++ List.replicate m none) xs0 st0).bind fun z => alloc z.2 z.1) Q) :
    ∀ acc, H0 acc = none → ∃ W : Nat → Nat → Hp → Prop, (∃ m, W 0 m (upd H0 acc (.lst []))) ∧ ∀ i j H, W i j H →
      (J.stop i H ∧ Q (.ref acc) H) ∨ (J.go i H ∧ ∀ x H', J.yld i H x H' → gT K tg x (σ ++ List.replicate m none) H' fun σ2 H2 => Wk (σ ++ List.replicate m none) σ2 ∧ tTs K call ifs σ2 H2 fun b H3 =>
        if b = true then tE K call el σ2 H3 fun v H4 => ∃ ys, H4 acc = some (.lst ys) ∧ ys.length < sizeLine ∧ ∃ m', m' < j ∧ W (i + 1) m' (upd H4 acc (.lst (ys ++ [v]))) else ∃ m', m' < j ∧ W (i + 1) m' H3) := by
  intro acc hacc
  obtain ⟨⟨all, stE⟩, hE, k⟩ : ∃ z, compItems tg gs (fun L1 s1 => evTs call ifs L1 s1) (fun L1 s1 => ev call el L1 s1) (L ++ List.replicate m none) xs0 st0 = some z ∧ K1 K μ0 H0 (alloc z.2 z.1) Q := by
    obtain ⟨p, st1, e1, k⟩ := k.split
    exact ⟨(p, st1), e1, k⟩
  have hbig : all.length ≤ big := by
    by_cases h : all.length ≤ big
    · exact h
    · have k : K1 K μ0 H0 (if all.length ≤ big then some (.ref stE.length, stE ++ [.lst all]) else none) Q := k
      rw [if_neg h] at k; exact k.no.elim
  have k : K1 K μ0 H0 (some (.ref stE.length, stE ++ [.lst all])) Q := by
    have k : K1 K μ0 H0 (if all.length ≤ big then some (.ref stE.length, stE ++ [.lst all]) else none) Q := k
    rwa [if_pos hbig] at k
  have hbl := big_line
  have nacc : ∀ {μ : List Addr} {H : Hp}, Ext μ0 H0 μ H → RelS K μ0 H0 st0 → acc ∉ μ0 := fun _ hs => hs.notin hacc
  let W : Nat → Nat → Hp → Prop := fun i j H => ∃ μ st done rest more vs, j = rest.length ∧ xs0.drop i = rest ∧ Ext μ0 H0 μ H ∧ acc ∉ μ ∧ RelS K μ H st ∧ H acc = some (.lst vs) ∧ RPs K μ H done vs ∧ all = done ++ more ∧
    compItems tg gs (fun L1 s1 => evTs call ifs L1 s1) (fun L1 s1 => ev call el L1 s1) (L ++ List.replicate m none) rest st = some (more, stE)
  have x0 : Ext μ0 H0 μ0 (upd H0 acc (.lst [])) := ext_new hs hacc _
  refine ⟨W, ⟨xs0.length, μ0, st0, [], xs0, all, [], rfl, rfl, x0, hs.notin hacc, hs.new hacc _, upd_same, rfl, rfl, hE⟩, ?_⟩
  rintro i j H ⟨μ, st, done, rest, more, vs, rfl, hd, x, hna, hs', hv, hr, hal, hc⟩
  cases rest with
  | nil =>
    left
    simp only [compItems] at hc
    have ok : okG st gs = true := by
      by_cases h : okG st gs = true
      · exact h
      · rw [if_neg h] at hc; cases hc
    rw [if_pos ok] at hc
    cases hc
    rw [List.append_nil] at hal
    subst hal
    have hi : xs0[i]? = none := List.getElem?_eq_none_iff.mpr (List.drop_eq_nil_iff.mp hd)
    refine ⟨((hJ i μ H _ x hs' ok).1 hi), ?_⟩
    obtain ⟨r', st', e', q⟩ := k
    cases e'
    refine q (.ref acc) H (μ ++ [acc]) ⟨?_, x.keep, x.tup, x.frz, fun a ha => ?_⟩ (hs'.adopt hv hna hr) ⟨acc, rfl, ?_⟩
    · obtain ⟨mm, e⟩ := x.pre
      exact ⟨mm ++ [acc], by rw [e, List.append_assoc]⟩
    · rcases List.mem_append.mp ha with z | z
      · exact x.new a z
      · simp at z; subst z; exact .inr hacc
    · rw [← hs'.len, List.getElem?_append_right (Nat.le_refl _), Nat.sub_self] <;> rfl
  | cons p rest =>
    right
    simp only [compItems] at hc
    have ok : okG st gs = true := by
      by_cases h : okG st gs = true
      · exact h
      · rw [if_neg h] at hc; cases hc
    rw [if_pos ok] at hc
    have hi : xs0[i]? = some p := by
      have := congrArg (·[0]?) hd
      simpa using this
    have hd' : xs0.drop (i + 1) = rest := by
      have := congrArg List.tail hd
      simpa [List.tail_drop] using this
    obtain ⟨go, yl⟩ := (hJ i μ H st x hs' ok).2 p hi
    refine ⟨go, fun v H' y => ?_⟩
    obtain ⟨x1, s1, r1⟩ := yl v H' y
    have hl1 : RelL K μ H' (L ++ List.replicate m none) (σ ++ List.replicate m none) := (hl.mono (x.trans x1)).more m
    cases ea : asgT tg p (L ++ List.replicate m none) st with
    | none => rw [ea] at hc; cases hc
    | some L1 =>
      rw [ea] at hc
      have hc : ((evTs call ifs L1 st).bind fun z => if z.1 = true then (ev call el L1 z.2).bind fun w => (compItems tg gs (fun L1 s1 => evTs call ifs L1 s1) (fun L1 s1 => ev call el L1 s1) (L ++ List.replicate m none) rest w.2).bind fun u => some (w.1 :: u.1, u.2)
          else compItems tg gs (fun L1 s1 => evTs call ifs L1 s1) (fun L1 s1 => ev call el L1 s1) (L ++ List.replicate m none) rest z.2) = some (more, stE) := hc
      obtain ⟨σ', hg, hl2, hlen, hwk⟩ := gT_rel hl1 r1 ea
      refine hg _ ⟨⟨hlen, fun jj vv ej => ?_⟩, ?_⟩
      · have hjj : jj < n := by
          by_cases h : jj < σ.length
          · rw [← hn, hl.len]; exact h
          · rw [List.getElem?_append_right (by omega), List.getElem?_replicate] at ej
            split at ej <;> cases ej
        rw [hwk n htg jj hjj]; exact ej
      · have hna1 : acc ∉ μ := hna
        have hv1 : H' acc = some (.lst vs) := x1.keep acc _ hna hv
        cases et : evTs call ifs L1 st with
        | none => rw [et] at hc; cases hc
        | some z =>
          obtain ⟨b, st2⟩ := z
          rw [et] at hc
          refine ⟨μ, L1, st, hl2, s1, b, st2, et, fun b' H2 μ2 x2 s2 eb => ?_⟩
          subst eb
          have hna2 : acc ∉ μ2 := fun z => by
            rcases x2.new acc z with y | y
            · exact hna y
            · rw [hv1] at y; cases y
          have hv2 : H2 acc = some (.lst vs) := x2.keep acc _ hna hv1
          have hr2 : RPs K μ2 H2 done vs := hr.mono (x1.trans x2)
          have xx2 : Ext μ0 H0 μ2 H2 := x.trans (x1.trans x2)
          cases b with
          | false =>
            have hc : compItems tg gs (fun L1 s1 => evTs call ifs L1 s1) (fun L1 s1 => ev call el L1 s1) (L ++ List.replicate m none) rest st2 = some (more, stE) := by simpa using hc
            rw [if_neg Bool.false_ne_true]
            exact ⟨rest.length, Nat.lt_succ_self _, μ2, st2, done, rest, more, vs, rfl, hd', xx2, hna2, s2, hv2, hr2, hal, hc⟩
          | true =>
            rw [if_pos rfl]
            have hc : ((ev call el L1 st2).bind fun w => (compItems tg gs (fun L1 s1 => evTs call ifs L1 s1) (fun L1 s1 => ev call el L1 s1) (L ++ List.replicate m none) rest w.2).bind fun u => some (w.1 :: u.1, u.2)) = some (more, stE) := by simpa using hc
            cases ev1 : ev call el L1 st2 with
            | none => rw [ev1] at hc; cases hc
            | some w =>
              obtain ⟨q, st3⟩ := w
              rw [ev1] at hc
              have hc : ((compItems tg gs (fun L1 s1 => evTs call ifs L1 s1) (fun L1 s1 => ev call el L1 s1) (L ++ List.replicate m none) rest st3).bind fun u => some (q :: u.1, u.2)) = some (more, stE) := hc
              cases ec : compItems tg gs (fun L1 s1 => evTs call ifs L1 s1) (fun L1 s1 => ev call el L1 s1) (L ++ List.replicate m none) rest st3 with
              | none => rw [ec] at hc; cases hc
              | some u =>
                obtain ⟨more', stE'⟩ := u
                rw [ec] at hc
                cases hc
                refine go1 (hl2.mono x2) s2 ev1 fun v3 H3 μ3 x3 _ s3 r3 => ?_
                have hv3 : H3 acc = some (.lst vs) := x3.keep acc _ hna2 hv2
                have hna3 : acc ∉ μ3 := fun z => by
                  rcases x3.new acc z with y | y
                  · exact hna2 y
                  · rw [hv2] at y; cases y
                have hr3 := hr2.mono x3
                have hlen3 := hr3.length
                have xx3 : Ext μ0 H0 μ3 H3 := xx2.trans x3
                have e0 : Ext0 μ3 H3 μ3 (upd H3 acc (.lst (vs ++ [v3]))) := ext0_side hv3 _
                refine ⟨vs, hv3, ?_, rest.length, Nat.lt_succ_self _, μ3, st3, done ++ [q], rest, more', vs ++ [v3], rfl, hd', ?_, hna3, s3.side hv3 hna3 _, upd_same, (hr3.append (RPs.one r3)).mono0 e0, by rw [hal, List.append_assoc]; rfl, ec⟩
                · rw [hal, List.length_append, List.length_cons] at hbig
                  omega
                · exact ⟨xx3.pre, fun a o ha e => by rw [upd_ne (ne_of_none e hacc)]; exact xx3.keep a o ha e, fun a ys e => by rw [upd_ne (ne_of_none e hacc)]; exact xx3.tup a ys e, fun a o u e => by rw [upd_ne (ne_of_none e hacc)]; exact xx3.frz a o u e, xx3.new⟩
theorem snd_comp {scope : Scope} {own : List Str} {elt tgx it : Expr} {ifx : List Expr} {pos : Pos} {el ite ifs : E} {tg : Tg} (hc : X.calm = true) (SC : CScope X scope own) (htg : tgMin X.N.length tg = true) (hi : PI X.nox tgx it (tI X.K call ite))
    (hblock : ∀ fp C s H, PG (cxC X scope own fp C s H) tgx (gT X.K tg) ∧ PTs (cxC X scope own fp C s H) ifx (tTs X.K call ifs) ∧ PE (cxC X scope own fp C s H) elt (tE X.K call el))
    (hs0 : ∀ x, foldedSetIterable it X.env x = pure x) : PE X.nox (.ListComp elt [⟨tgx, it, ifx, 0⟩] scope pos) (tE X.K call (.comp el tg X.N.length own.length ite ifs)) := by
  have base := pe_comp (pos := pos) hc SC hi hblock hs0
  refine PE.imp base fun σ H Q ⟨μ, L, st, hl, hs, k⟩ => ?_
  simp only [ev] at k
  obtain ⟨r, stF, e, kk⟩ := k
  cases e1 : evI call ite L st with
  | none => rw [e1] at e; cases e
  | some z =>
    obtain ⟨xs, gs, st1⟩ := z
    rw [e1] at e
    refine ⟨μ, L, st, xs, gs, st1, hl, hs, e1, fun J H1 μ1 x1 s1 hJ => ?_⟩
    by_cases hn : L.length = X.N.length
    · have e : ((compItems tg gs (fun L1 s1 => evTs call ifs L1 s1) (fun L1 s1 => ev call el L1 s1) (L ++ List.replicate own.length none) xs st1).bind fun z => alloc z.2 z.1) = some (r, stF) := by simpa [hn] using e
      exact comp_sem (hl.mono x1) s1 hJ hn htg ⟨r, stF, e, fun v H' μ' y => kk v H' μ' (x1.trans y)⟩
    · simp [hn] at e
theorem snd_tsnil : PTs X [] (tTs X.K call .nil) := PTs.imp pts_nil fun σ H Q ⟨μ, L, st, hl, hs, k⟩ => by
  simp only [evTs] at k
  obtain ⟨_, _, e', k⟩ := k
  cases e'
  exact k true H μ (Ext.refl _ _) hs rfl
theorem snd_tscons {e es : E} {x : Expr} {xs : List Expr} (h : PT X x (tT X.K call e)) (h2 : PTs X xs (tTs X.K call es)) : PTs X (x :: xs) (tTs X.K call (.cons e es)) := by
  refine PTs.imp (pts_cons h h2) fun σ H Q ⟨μ, L, st, hl, hs, k⟩ => ?_
  simp only [evTs] at k
  obtain ⟨p, st1, e1, k⟩ := k.split
  refine goT hl hs e1 fun H1 μ1 x1 hl s1 => ?_
  have k := k.shift x1
  cases p with
  | true => exact ⟨μ1, L, st1, hl, s1, by simpa using k⟩
  | false =>
    obtain ⟨_, _, e', k⟩ := k
    simp at e'
    obtain ⟨rfl, rfl⟩ := e'
    exact k _ H1 μ1 (Ext.refl _ _) s1 rfl
end
end Kw
end
section
set_option Elab.async false
set_option linter.all false
set_option maxRecDepth 100000
set_option maxHeartbeats 4000000
namespace Kw
open PySem PySem.Spec PyProof.Rows L2
/-- where a block goes on -/
def endF (K : PySem.W.Frag) (D : Ends) (μ : List Addr) (H : Hp) (σ : L2.St) : Fl → Prop
  | .next => D.nx σ H
  | .brk => D.bk σ H
  | .cont => D.ct σ H
  | .ret p => ∀ v, RP K μ H p v → D.rt v H
def KS (K : PySem.W.Frag) (μ : List Addr) (H : Hp) (res : RS) (D : Ends) : Prop :=
  ∃ f L' st', res = some (f, L', st') ∧ ∀ H' μ' σ', Ext μ H μ' H' → RelS K μ' H' st' → RelL K μ' H' L' σ' → endF K D μ' H' σ' f
theorem KS.shift {K : PySem.W.Frag} {μ μ1 : List Addr} {H H1 : Hp} {res : RS} {D : Ends} (x : Ext μ H μ1 H1) (h : KS K μ H res D) : KS K μ1 H1 res D :=
  let ⟨f, L', st', e, q⟩ := h
  ⟨f, L', st', e, fun H' μ' σ' y => q H' μ' σ' (x.trans y)⟩
theorem KS.no {K : PySem.W.Frag} {μ : List Addr} {H : Hp} {D : Ends} (k : KS K μ H none D) : False := by
  obtain ⟨_, _, _, e, _⟩ := k
  cases e
theorem KS.done {K : PySem.W.Frag} {μ : List Addr} {H : Hp} {D : Ends} {f : Fl} {L : Loc} {st : Sto} {σ : L2.St} (k : KS K μ H (some (f, L, st)) D) (hs : RelS K μ H st) (hl : RelL K μ H L σ) : endF K D μ H σ f := by
  obtain ⟨_, _, _, e, q⟩ := k
  cases e
  exact q H μ σ (Ext.refl _ _) hs hl
theorem KS.split {K : PySem.W.Frag} {μ : List Addr} {H : Hp} {D : Ends} {γ : Type} {res : Option (γ × Sto)} {f : γ × Sto → RS} (k : KS K μ H (res.bind f) D) : ∃ p st1, res = some (p, st1) ∧ KS K μ H (f (p, st1)) D := by
  obtain ⟨a, b, c, e, q⟩ := k
  cases res with
  | none => cases e
  | some x => exact ⟨x.1, x.2, rfl, a, b, c, e, q⟩
def tS (K : PySem.W.Frag) (call : Nat → List PV → Sto → R PV) (s : S) : TS := fun D σ H => ∃ μ L st, RelL K μ H L σ ∧ RelS K μ H st ∧ KS K μ H (ex call s L st) D
section
variable {X : Cx} {call : Nat → List PV → Sto → R PV}
theorem sn_nil : PSs X [] (tS X.K call .nil) := PSs.imp pss_nil fun D σ H ⟨μ, L, st, hl, hs, k⟩ => by simp only [ex] at k; exact KS.done k hs hl
theorem sn_cons {s r : S} {x : Stmt} {xs : List Stmt} (h : PS X x (tS X.K call s)) (h2 : PSs X xs (tS X.K call r)) : PSs X (x :: xs) (tS X.K call (.cons s r)) := by
  refine PSs.imp (pss_cons h h2) fun D σ H ⟨μ, L, st, hl, hs, k⟩ => ?_
  simp only [ex] at k
  obtain ⟨f, L', st', e, q⟩ := k
  cases e1 : ex call s L st with
  | none => rw [e1] at e; cases e
  | some z =>
    obtain ⟨f1, L1, st1⟩ := z
    rw [e1] at e
    refine ⟨μ, L, st, hl, hs, f1, L1, st1, e1, fun H1 μ1 σ1 x1 s1 l1 => ?_⟩
    cases f1 with
    | next =>
      exact ⟨μ1, L1, st1, l1, s1, f, L', st', e, fun H' μ' σ' y => q H' μ' σ' (x1.trans y)⟩
    | brk => cases e; exact q H1 μ1 σ1 x1 s1 l1
    | cont => cases e; exact q H1 μ1 σ1 x1 s1 l1
    | ret v => cases e; exact q H1 μ1 σ1 x1 s1 l1
theorem sn_asg_of {tg : Tg} {e : E} {te : TE} {x : Stmt} (hte : ∀ σ H Q, tE X.K call e σ H Q → te σ H Q) (h : PS X x (tAsg te (gT X.K tg))) : PS X x (tS X.K call (.asg tg e)) := by
  refine PS.imp h fun D σ H ⟨μ, L, st, hl, hs, k⟩ => hte _ _ _ ?_
  simp only [ex] at k
  obtain ⟨p, st1, e1, k⟩ := k.split
  refine go1 hl hs e1 fun v H1 μ1 x1 hl s1 r1 => ?_
  have k := k.shift x1
  cases ea : asgT tg p L st1 with
  | none => rw [ea] at k; exact k.no.elim
  | some L1 =>
    rw [ea] at k
    obtain ⟨σ', hg, hl2, _, _⟩ := gT_rel hl r1 ea
    exact hg _ (KS.done k s1 hl2)
def isComp : Expr → Bool
  | .ListComp .. => true | .SetComp .. => true | .DictComp .. => true
  | _ => false
theorem swaps_no {e : Expr} {t : Option Expr} {n : Nat} {env : Env} (h : isComp e = false) : swapsWith e t n env = pure false := by
  cases e <;> first | rfl | (cases h; done)
theorem sn_set {i : Nat} {e : E} {x : Str} {ex : Expr} {px pos : Pos} (hN : X.N.Nodup) (hi : X.N[i]? = some x) (hx : L2.Loc X.env.scope x) (hf : X.fn x = true ∨ X.env.scope.names.lookup x = some .local) (hc : isComp ex = false) (h : PE X ex (tE X.K call e)) :
    PS X (.Assign [.Name x px] ex pos) (tS X.K call (.asg (.nm i) e)) := sn_asg_of (fun _ _ _ z => z) (ps_set hN hi hx h (swaps_no hc) hf)
theorem sn_setix {o i e : E} {xo xi xe : Expr} {p pos : Pos} (hc : isComp xe = false) (hpi : ∀ v, assign (.Subscript xo xi p) X.env v = (do
      let ov ← holding [v] (eval xo X.env)
      let iv ← holding [v, ov] (eval xi X.env)
      standAt p
      holding [v, ov, iv] (setItem ov iv v)
      release [v, ov, iv] [])) (hw : swappedStores [.Subscript xo xi p] xe X.env = pure none) (hws : swapsWithSole [.Subscript xo xi p] xe pos.line X.env = pure false)
    (ho : PE X xo (tE X.K call o)) (hi : PE X xi (tE X.K call i)) (he : PE X xe (tE X.K call e)) : PS X (.Assign [.Subscript xo xi p] xe pos) (tS X.K call (.setix o i e)) := by
  refine PS.imp (ps_asg he (pg_sub ho hi set_list hpi) hws hw rfl) fun D σ H ⟨μ, L, st, hl, hs, k⟩ => ?_
  simp only [ex] at k
  obtain ⟨p, st1, e1, k⟩ := k.split
  refine go1 hl hs e1 fun v H1 μ1 x1 hl s1 r1 => ?_
  obtain ⟨a, st2, e2, k⟩ := (k.shift x1).split
  refine go1 hl s1 e2 fun w H2 μ2 x2 hl s2 r2 => ?_
  obtain ⟨j, st3, e3, k⟩ := (k.shift x2).split
  refine go1 hl s2 e3 fun u H3 μ3 x3 hl s3 r3 => ?_
  have k := k.shift x3
  cases a with
  | ref l =>
    cases j with
    | int kk =>
      have k : KS X.K μ3 H3 (match st3[l]? with
        | some (.lst xs) => (Kw.ixN xs.length kk).map fun n => (.next, L, st3.set l (.lst (xs.set n p)))
        | _ => none) D := k
      cases es : st3[l]? with
      | none => rw [es] at k; exact k.no.elim
      | some ob =>
        obtain ⟨ps⟩ := ob
        rw [es] at k
        have k : KS X.K μ3 H3 ((Kw.ixN ps.length kk).map fun n => (.next, L, st3.set l (.lst (ps.set n p)))) D := k
        cases en : Kw.ixN ps.length kk with
        | none => rw [en] at k; exact k.no.elim
        | some n =>
          rw [en] at k
          obtain ⟨aa, xs, m, h1, ra⟩ := s3.at es
          obtain ⟨a2, rfl, m2⟩ := r2.mono x3
          rw [m] at m2; cases m2
          obtain rfl : u = .int kk := r3
          have rp := r1.mono (x2.trans x3)
          refine ⟨aa, xs, kk, n, rfl, rfl, h1, by rw [← ra.length]; exact en, ?_⟩
          have x4 := ext_write s3 m (.lst (xs.set n v))
          exact KS.done (k.shift x4) (s3.write m (ra.set n rp)) (hl.mono x4)
    | _ => exact k.no.elim
  | _ => cases j <;> exact k.no.elim
theorem sn_ret {e : E} {x : Expr} {pos : Pos} (h : PE X x (tE X.K call e)) : PS X (.Return (some x) pos) (tS X.K call (.ret e)) := by
  refine PS.imp (ps_ret h) fun D σ H ⟨μ, L, st, hl, hs, k⟩ => ?_
  simp only [ex] at k
  cases e1 : ev call e L st with
  | none => rw [e1] at k; exact k.no.elim
  | some z =>
    obtain ⟨p, st1⟩ := z
    rw [e1] at k
    refine go1 hl hs e1 fun v H1 μ1 x1 hl s1 r1 => ?_
    exact KS.done (k.shift x1) s1 hl v r1
theorem sn_retN {pos : Pos} : PS X (.Return none pos) (tS X.K call .retN) := PS.imp ps_retN fun D σ H ⟨μ, L, st, hl, hs, k⟩ => by simp only [ex] at k; exact KS.done k hs hl .non rfl
theorem sn_expr {e : E} {x : Expr} {pos : Pos} (hc : isComp x = false) (h : PE X x (tE X.K call e)) : PS X (.Expr x pos) (tS X.K call (.expr e)) := by
  refine PS.imp (ps_expr h (swaps_no hc)) fun D σ H ⟨μ, L, st, hl, hs, k⟩ => ?_
  simp only [ex] at k
  cases e1 : ev call e L st with
  | none => rw [e1] at k; exact k.no.elim
  | some z =>
    obtain ⟨p, st1⟩ := z
    rw [e1] at k
    refine go1 hl hs e1 fun v H1 μ1 x1 hl s1 r1 => ?_
    exact KS.done (k.shift x1) s1 hl
theorem sn_pass {pos : Pos} : PS X (.Pass pos) (tS X.K call .pass) := PS.imp ps_pass fun D σ H ⟨μ, L, st, hl, hs, k⟩ => by simp only [ex] at k; exact KS.done k hs hl
theorem sn_brk {pos : Pos} : PS X (.Break pos) (tS X.K call .brk) := PS.imp ps_break fun D σ H ⟨μ, L, st, hl, hs, k⟩ => by simp only [ex] at k; exact KS.done k hs hl
theorem sn_cont {pos : Pos} : PS X (.Continue pos) (tS X.K call .cont) := PS.imp ps_continue fun D σ H ⟨μ, L, st, hl, hs, k⟩ => by simp only [ex] at k; exact KS.done k hs hl
theorem sn_if {c : E} {a b : S} {x : Expr} {xa xb : List Stmt} {pos : Pos} (h : PT X x (tT X.K call c)) (ha : PSs X xa (tS X.K call a)) (hb : PSs X xb (tS X.K call b)) : PS X (.If x xa xb pos) (tS X.K call (.ife c a b)) := by
  refine PS.imp (ps_if h ha hb) fun D σ H ⟨μ, L, st, hl, hs, k⟩ => ?_
  simp only [ex] at k
  obtain ⟨p, st1, e1, k⟩ := k.split
  refine goT hl hs e1 fun H1 μ1 x1 hl s1 => ?_
  have k := k.shift x1
  cases p with
  | true => exact ⟨μ1, L, st1, hl, s1, by simpa using k⟩
  | false => exact ⟨μ1, L, st1, hl, s1, by simpa using k⟩
theorem for_sem {K : PySem.W.Frag} {J : It} {xs0 : List PV} {gs : Gd} {μ0 : List Addr} {H0 : Hp} {st0 : Sto} {σ : L2.St} {L : Loc} {tg : Tg} {b : S} {D : Ends} (hl : RelL K μ0 H0 L σ) (hs : RelS K μ0 H0 st0) (hJ : ItR K J xs0 gs μ0 H0)
    (k : KS K μ0 H0 (forItems tg gs (fun L1 s1 => ex call b L1 s1) xs0 L st0) D) :
    ∃ W : Nat → Nat → L2.St → Hp → Prop, (∃ m, W 0 m σ H0) ∧ ∀ i m σ H, W i m σ H →
      (J.stop i H ∧ D.nx σ H) ∨ (J.go i H ∧ ∃ N : L2.St → Hp → Prop, (∀ σ' H', N σ' H' → ∃ m', m' < m ∧ W (i + 1) m' σ' H') ∧ ∀ x H', J.yld i H x H' → gT K tg x σ H' fun σ2 H2 => tS K call b { D with nx := N, ct := N, bk := D.nx } σ2 H2) := by
  obtain ⟨fE, LE, stE, hE, kE⟩ := k
  refine ⟨fun i m σ H => ∃ μ L st rest, m = rest.length ∧ xs0.drop i = rest ∧ Ext μ0 H0 μ H ∧ RelL K μ H L σ ∧ RelS K μ H st ∧ forItems tg gs (fun L1 s1 => ex call b L1 s1) rest L st = some (fE, LE, stE),
    ⟨xs0.length, μ0, L, st0, xs0, rfl, rfl, Ext.refl _ _, hl, hs, hE⟩, ?_⟩
  rintro i m σ H ⟨μ, L, st, rest, rfl, hd, x, hl, hs, hc⟩
  cases rest with
  | nil =>
    left
    simp only [forItems] at hc
    by_cases ok : okG st gs = true
    · rw [if_pos ok] at hc
      cases hc
      have hi : xs0[i]? = none := List.getElem?_eq_none_iff.mpr (List.drop_eq_nil_iff.mp hd)
      exact ⟨(hJ i μ H _ x hs ok).1 hi, kE H μ σ x hs hl⟩
    · rw [if_neg ok] at hc; cases hc
  | cons p rest =>
    right
    simp only [forItems] at hc
    by_cases ok : okG st gs = true
    · rw [if_pos ok] at hc
      have hi : xs0[i]? = some p := by
        have := congrArg (·[0]?) hd
        simpa using this
      have hd' : xs0.drop (i + 1) = rest := by
        have := congrArg List.tail hd
        simpa [List.tail_drop] using this
      obtain ⟨go, yl⟩ := (hJ i μ H st x hs ok).2 p hi
      cases ea : asgT tg p L st with
      | none => rw [ea] at hc; cases hc
      | some L1 =>
        rw [ea] at hc
        cases eb : ex call b L1 st with
        | none => simp only [Option.bind_some, eb] at hc; cases hc
        | some z =>
          obtain ⟨f2, L2', st2⟩ := z
          simp only [Option.bind_some, eb] at hc
          refine ⟨go, fun σ' H' => (f2 = .next ∨ f2 = .cont) ∧ ∃ μ', Ext μ0 H0 μ' H' ∧ RelL K μ' H' L2' σ' ∧ RelS K μ' H' st2, fun σ' H' ⟨hf, μ', x', l', s'⟩ => ⟨rest.length, Nat.lt_succ_self _, μ', L2', st2, rest, rfl, hd', x', l', s', ?_⟩, fun v H' y => ?_⟩
          · rcases hf with rfl | rfl
            · simpa using hc
            · simpa using hc
          · obtain ⟨x1, s1, r1⟩ := yl v H' y
            have hl1 := hl.mono x1
            obtain ⟨σ2, hg, hl2, _, _⟩ := gT_rel hl1 r1 ea
            refine hg _ ⟨μ, L1, st, hl2, s1, f2, L2', st2, eb, fun H3 μ3 σ3 x3 s3 l3 => ?_⟩
            have xx := x.trans (x1.trans x3)
            cases f2 with
            | next => exact ⟨.inl rfl, μ3, xx, l3, s3⟩
            | cont => exact ⟨.inr rfl, μ3, xx, l3, s3⟩
            | brk =>
              simp at hc
              obtain ⟨rfl, rfl, rfl⟩ := hc
              exact kE H3 μ3 σ3 xx s3 l3
            | ret w =>
              simp at hc
              obtain ⟨rfl, rfl, rfl⟩ := hc
              exact kE H3 μ3 σ3 xx s3 l3
    · rw [if_neg ok] at hc; cases hc
theorem sn_for {tg : Tg} {it : E} {b : S} {tgx itx : Expr} {bx : List Stmt} {pos : Pos} (hc : X.calm = true) (hi : PI X.nox tgx itx (tI X.K call it)) (hg : PG X.nox tgx (gT X.K tg)) (hb : PSs X.nox bx (tS X.K call b)) (hs0 : ∀ x, foldedSetIterable itx X.env x = pure x) :
    PS X.nox (.For tgx itx bx [] pos) (tS X.K call (.for_ tg it b)) := by
  refine PS.imp (ps_for PassesOwn.never hc hi hg hb hs0) fun D σ H ⟨μ, L, st, hl, hs, k⟩ => ?_
  simp only [ex] at k
  obtain ⟨f, L', st', e, q⟩ := k
  cases e1 : evI call it L st with
  | none => rw [e1] at e; cases e
  | some z =>
    obtain ⟨xs, gs, st1⟩ := z
    rw [e1] at e
    refine ⟨μ, L, st, xs, gs, st1, hl, hs, e1, fun J H1 μ1 x1 s1 hJ => ?_⟩
    exact for_sem (hl.mono x1) s1 hJ ⟨f, L', st', e, fun H' μ' σ' y => q H' μ' σ' (x1.trans y)⟩
theorem while_sem {K : PySem.W.Frag} {c : E} {b : S} {D : Ends} {μ0 : List Addr} {H0 : Hp} {st0 : Sto} {L : Loc} {σ : L2.St} (n : Nat) (hl : RelL K μ0 H0 L σ) (hs : RelS K μ0 H0 st0) (k : KS K μ0 H0 (whileN (fun L1 s1 => evT call c L1 s1) (fun L1 s1 => ex call b L1 s1) n L st0) D) :
    tWhile (tT K call c) (tS K call b) D σ H0 := by
  obtain ⟨fE, LE, stE, hE, kE⟩ := k
  refine ⟨fun m σ H => ∃ μ L st, Ext μ0 H0 μ H ∧ RelL K μ H L σ ∧ RelS K μ H st ∧ whileN (fun L1 s1 => evT call c L1 s1) (fun L1 s1 => ex call b L1 s1) m L st = some (fE, LE, stE), ⟨n, μ0, L, st0, Ext.refl _ _, hl, hs, hE⟩, ?_⟩
  rintro m σ H ⟨μ, L, st, x, hl, hs, hc⟩
  cases m with
  | zero => cases hc
  | succ m =>
    simp only [whileN] at hc
    cases e1 : evT call c L st with
    | none => rw [e1] at hc; cases hc
    | some z =>
      obtain ⟨bb, st1⟩ := z
      rw [e1] at hc
      simp only [Option.bind_some] at hc
      refine goT hl hs e1 fun H1 μ1 x1 hl s1 => ?_
      cases bb with
      | false =>
        rw [if_neg Bool.false_ne_true]
        simp at hc
        obtain ⟨rfl, rfl, rfl⟩ := hc
        exact kE H1 μ1 σ (x.trans x1) s1 hl
      | true =>
        rw [if_pos rfl]
        simp only [if_true] at hc
        cases eb : ex call b L st1 with
        | none => rw [eb] at hc; cases hc
        | some z =>
          obtain ⟨f2, L2', st2⟩ := z
          rw [eb] at hc
          simp only [Option.bind_some] at hc
          refine ⟨fun σ' H' => (f2 = .next ∨ f2 = .cont) ∧ ∃ μ', Ext μ0 H0 μ' H' ∧ RelL K μ' H' L2' σ' ∧ RelS K μ' H' st2, fun σ' H' ⟨hf, μ', x', l', s'⟩ => ⟨m, Nat.lt_succ_self _, μ', L2', st2, x', l', s', ?_⟩, ?_⟩
          · rcases hf with rfl | rfl
            · simpa using hc
            · simpa using hc
          · refine ⟨μ1, L, st1, hl, s1, f2, L2', st2, eb, fun H3 μ3 σ3 x3 s3 l3 => ?_⟩
            have xx := x.trans (x1.trans x3)
            cases f2 with
            | next => exact ⟨.inl rfl, μ3, xx, l3, s3⟩
            | cont => exact ⟨.inr rfl, μ3, xx, l3, s3⟩
            | brk =>
              simp at hc
              obtain ⟨rfl, rfl, rfl⟩ := hc
              exact kE H3 μ3 σ3 xx s3 l3
            | ret w =>
              simp at hc
              obtain ⟨rfl, rfl, rfl⟩ := hc
              exact kE H3 μ3 σ3 xx s3 l3
theorem sn_while {c : E} {b : S} {cx : Expr} {bx : List Stmt} {pos : Pos} (hc : PT X.nox cx (tT X.K call c)) (hb : PSs X.nox bx (tS X.K call b)) : PS X.nox (.While cx bx [] pos) (tS X.K call (.whl c b)) := by
  refine PS.imp (ps_while PassesOwn.never hc hb) fun D σ H ⟨μ, L, st, hl, hs, k⟩ => ?_
  simp only [ex] at k
  exact while_sem _ hl hs k
/-- xs.append(e) -/
theorem snd_append {o a : E} {xo xa : Expr} {apos cpos : Pos} (hbase : attributeBase xo "append" X.env (eval xo X.env) = eval xo X.env) (hline : (apos.endLine == cpos.line) = true)
    (hs0 : starEach [xa] X.env = [(false, eval xa X.env)]) (ho : PE X xo (tE X.K call o)) (ha : PE X xa (tE X.K call a)) : PE X (.Call (.Attribute xo "append" apos) [xa] [] cpos) (tE X.K call (.meth .append o a)) := by
  refine PE.imp (pe_bm PySem.F.plainAttrs_list PySem.F.slot_list_append PySem.F.type_list_append mt_append ho (pa_cons ha pa_nil (by rw [hs0]; rfl)) hbase (by rw [hs0]; rfl) hline (by rw [hs0]; rfl) rfl) fun σ H Q ⟨μ, L, st, hl, hs, k⟩ => ?_
  simp only [ev] at k
  obtain ⟨p, st1, e1, k⟩ := k.split
  refine go1 hl hs e1 fun v H1 μ1 x1 hl s1 r1 => ?_
  obtain ⟨q, st2, e2, k⟩ := (k.shift x1).split
  cases p with
  | ref l =>
    obtain ⟨aa, rfl, m1⟩ := id r1
    obtain ⟨xs1, hx1⟩ := s1.lst (List.mem_of_getElem? m1)
    refine ⟨?_, ?_⟩
    · exact .inl ⟨rfl, xs1, SqL.of hx1⟩
    · refine go1 hl s1 e2 fun w H2 μ2 x2 hl s2 r2 => ?_
      have k := k.shift x2
      have k : K1 X.K μ2 H2 (match st2[l]? with
        | some (.lst xs) => if xs.length < big then some (.non, st2.set l (.lst (xs ++ [q]))) else none
        | _ => none) Q := k
      cases es : st2[l]? with
      | none => rw [es] at k; exact k.no.elim
      | some ob =>
        obtain ⟨ps⟩ := ob
        rw [es] at k
        have k : K1 X.K μ2 H2 (if ps.length < big then some (.non, st2.set l (.lst (ps ++ [q]))) else none) Q := k
        by_cases hb : ps.length < big
        · rw [if_pos hb] at k
          obtain ⟨a2, xs, m, h1, ra⟩ := s2.at es
          obtain ⟨a3, ea, m3⟩ := r1.mono x2
          cases ea
          rw [m] at m3; cases m3
          have hbl := big_line
          refine ⟨_, xs, w, rfl, rfl, h1, by rw [← ra.length]; omega, ?_⟩
          have x4 := ext_write s2 m (.lst (xs ++ [w]))
          exact K1.done (k.shift x4) (s2.write m (ra.append (RPs.one r2))) rfl
        · rw [if_neg hb] at k; exact k.no.elim
  | _ => exact k.no.elim
end
end Kw
end
section
set_option Elab.async false
set_option linter.all false
set_option maxRecDepth 100000
set_option maxHeartbeats 4000000
namespace Kw
open PySem PySem.Spec PyProof.Rows L2
structure CC where
  N : List Str
  sc : List (Str × NameKind)
  fns : List Str
  fnAll : Bool
def isStar : Expr → Bool | .Starred .. => true | _ => false
def isSet : Expr → Bool | .Set .. => true | _ => false
def isSlice : Expr → Bool | .Slice .. => true | _ => false
def isTup : Expr → Bool | .Tuple .. => true | _ => false
def isName : Expr → Bool | .Name .. => true | _ => false
def CC.vis (C : CC) (x : Str) : Bool := match C.sc.lookup x with | some .local => true | some .cell => true | some .free => true | _ => false
def CC.gl (C : CC) (x : Str) : Bool := decide (C.sc.lookup x = some .globalImplicit)
def CC.loc (C : CC) (x : Str) : Bool := match C.sc.lookup x with | some .local => true | some .cell => C.fnAll | _ => false
def ownOf : Expr → List Str
  | .Name x _ => [x]
  | .Tuple es _ _ => es.map fun e => match e with | .Name x _ => x | _ => ""
  | _ => []
def relN (outer : List (Str × NameKind)) (names : List (Str × NameKind)) : List (Str × NameKind) :=
  names.map fun (n, k) => if (k == NameKind.free && outer.lookup n == some .cell) then (n, NameKind.cell) else (n, k)
def CC.sub (C : CC) (scope : Scope) (own : List Str) : CC := ⟨C.N ++ own, relN C.sc scope.names, C.fns, false⟩
def CC.scOk (C : CC) (scope : Scope) (own : List Str) : Bool :=
  decide (scope.kind = .function) && scope.names.all (fun p => decide (p.2 ≠ .cell)) && scope.names.all (fun p => decide (p.2 = .local → scope.names.lookup p.1 = some .local)) &&
  scope.names.all (fun p => decide (p.2 = .free → (C.sc.lookup p.1 = some .cell ∨ C.sc.lookup p.1 = some .free))) && C.N.all (fun x => decide (scope.names.lookup x ≠ some .local)) && decide ((C.N ++ own).Nodup)
def chkNs (C : CC) : List Nat → List Expr → Bool
  | [], [] => true
  | i :: is, .Name x _ :: es => decide (C.N[i]? = some x) && C.loc x && chkNs C is es
  | _, _ => false
def chkTg (C : CC) : Tg → Expr → Bool
  | .nm i, .Name x _ => decide (C.N[i]? = some x) && C.loc x
  | .tp is, .Tuple es _ _ => chkNs C is es
  | _, _ => false
def chkV (C : CC) (i : Nat) (x : Str) : Bool := decide (C.N[i]? = some x) && C.vis x && !(x == ("__debug__" : Str)) && !(x == ("__classdict__" : Str))
/-! ### views of a text's parts -/
def vName : Expr → Option (Str × Pos) | .Name x p => some (x, p) | _ => none
def vConst : Expr → Option (Const × Nat × Pos) | .Constant c k p => some (c, k, p) | _ => none
def vBin : Expr → Option (Expr × Operator × Expr × Pos) | .BinOp l o r p => some (l, o, r, p) | _ => none
def vCmp : Expr → Option (Expr × List CmpOp × List Expr × Pos) | .Compare l o r p => some (l, o, r, p) | _ => none
def vBool : Expr → Option (BoolOp × List Expr × Pos) | .BoolOp o xs p => some (o, xs, p) | _ => none
def vUn : Expr → Option (UnaryOp × Expr × Pos) | .UnaryOp o x p => some (o, x, p) | _ => none
def vIf : Expr → Option (Expr × Expr × Expr × Pos) | .IfExp x y z p => some (x, y, z, p) | _ => none
def vTup : Expr → Option (List Expr × Nat × Pos) | .Tuple xs k p => some (xs, k, p) | _ => none
def vLst : Expr → Option (List Expr × Pos) | .List xs p => some (xs, p) | _ => none
def vSub : Expr → Option (Expr × Expr × Pos) | .Subscript x y p => some (x, y, p) | _ => none
def vSlice : Expr → Option (Option Expr × Option Expr × Option Expr × Pos) | .Slice l h k p => some (l, h, k, p) | _ => none
def vCall : Expr → Option (Expr × List Expr × List Keyword × Pos) | .Call f es ks p => some (f, es, ks, p) | _ => none
def vAttr : Expr → Option (Expr × Str × Pos) | .Attribute x m p => some (x, m, p) | _ => none
def vComp : Expr → Option (Expr × List Comprehension × Scope × Pos) | .ListComp e gs s p => some (e, gs, s, p) | _ => none
section
variable {x : Expr}
theorem vName_eq {a b} (h : vName x = some (a, b)) : x = .Name a b := by cases x <;> cases h; rfl
theorem vConst_eq {a b c} (h : vConst x = some (a, b, c)) : x = .Constant a b c := by cases x <;> cases h; rfl
theorem vBin_eq {a b c d} (h : vBin x = some (a, b, c, d)) : x = .BinOp a b c d := by cases x <;> cases h; rfl
theorem vCmp_eq {a b c d} (h : vCmp x = some (a, b, c, d)) : x = .Compare a b c d := by cases x <;> cases h; rfl
theorem vBool_eq {a b c} (h : vBool x = some (a, b, c)) : x = .BoolOp a b c := by cases x <;> cases h; rfl
theorem vUn_eq {a b c} (h : vUn x = some (a, b, c)) : x = .UnaryOp a b c := by cases x <;> cases h; rfl
theorem vIf_eq {a b c d} (h : vIf x = some (a, b, c, d)) : x = .IfExp a b c d := by cases x <;> cases h; rfl
theorem vTup_eq {a b c} (h : vTup x = some (a, b, c)) : x = .Tuple a b c := by cases x <;> cases h; rfl
theorem vLst_eq {a b} (h : vLst x = some (a, b)) : x = .List a b := by cases x <;> cases h; rfl
theorem vSub_eq {a b c} (h : vSub x = some (a, b, c)) : x = .Subscript a b c := by cases x <;> cases h; rfl
theorem vSlice_eq {a b c d} (h : vSlice x = some (a, b, c, d)) : x = .Slice a b c d := by cases x <;> cases h; rfl
theorem vCall_eq {a b c d} (h : vCall x = some (a, b, c, d)) : x = .Call a b c d := by cases x <;> cases h; rfl
theorem vAttr_eq {a b c} (h : vAttr x = some (a, b, c)) : x = .Attribute a b c := by cases x <;> cases h; rfl
theorem vComp_eq {a b c d} (h : vComp x = some (a, b, c, d)) : x = .ListComp a b c d := by cases x <;> cases h; rfl
end
/-- what is behind the first part of a chain of tests -/
def bRest (op : BoolOp) (y : Expr) (r : List Expr) (p : Pos) : Expr := match r with
  | [] => y
  | z :: r => .BoolOp op (y :: z :: r) p
def isKw : E → Expr → Bool
  | .non, x => (match vConst x with | some (.none, _, _) => true | _ => false)
  | _, _ => false
def chkTyN (C : CC) (t : Ty) (x : Expr) : Bool := match vName x with
  | some (y, _) => decide (y = Str.ofString (tyName t)) && C.gl y
  | none => false
def chkTys (C : CC) : List Ty → Expr → Bool
  | [t], x => chkTyN C t x
  | [t, t'], x => (match vTup x with
    | some ([y, z], _, _) => chkTyN C t y && chkTyN C t' z
    | _ => false)
  | _, _ => false
def isIt : E → Bool
  | .rng _ => true | .rng2 _ _ => true | .zip _ _ => true | .enum _ => true | .revr _ => true | .rev _ => true
  | _ => false
def mfName : MF → String | .append => "append" | .extend => "extend"
def fnNm (C : CC) (s : String) (x : Expr) : Bool := match vName x with
  | some (y, _) => decide (y = Str.ofString s) && C.gl y
  | none => false
mutual
def chkE (C : CC) : E → Expr → Bool
  | .var i, x => (match vName x with | some (n, _) => chkV C i n | none => false)
  | .int i, x => (match vConst x with | some (.int j, _, _) => decide (i = j) | _ => false)
  | .bl i, x => (match vConst x with | some (.bool j, _, _) => decide (i = j) | _ => false)
  | .non, x => (match vConst x with | some (.none, _, _) => true | _ => false)
  | .str i, x => (match vConst x with | some (.str j, _, _) => decide (Str.ofString i = j) | _ => false)
  | .bin op a b, x => (match vBin x with | some (l, o, r, _) => decide (bopOf op = o) && (chkE C a l && chkE C b r) | none => false)
  | .cmp op a b, x => (match vCmp x with | some (l, [o], [r], _) => decide (copOf op = o) && (!isSet r && (chkE C a l && chkE C b r)) | _ => false)
  | .is k a c, x => (match vCmp x with | some (l, [o], [r], _) => decide ((if k then .IsNot else .Is) = o) && (isKw c r && chkE C a l) | _ => false)
  | .and a b, x => (match vBool x with | some (o, u :: v :: r, p) => decide (.And = o) && (chkE C a u && chkE C b (bRest .And v r p)) | _ => false)
  | .or a b, x => (match vBool x with | some (o, u :: v :: r, p) => decide (.Or = o) && (chkE C a u && chkE C b (bRest .Or v r p)) | _ => false)
  | .not a, x => (match vUn x with | some (o, y, _) => decide (.Not = o) && chkE C a y | none => false)
  | .neg a, x => (match vUn x with | some (o, y, _) => decide (.USub = o) && chkE C a y | none => false)
  | .ite c a b, x => (match vIf x with | some (u, v, w, _) => chkE C c u && (chkE C a v && chkE C b w) | none => false)
  | .tup es, x => (match vTup x with | some (xs, _, _) => chkL C es xs | none => false)
  | .lst es, x => (match vLst x with | some (xs, _) => chkL C es xs | none => false)
  | .ix a i, x => (match vSub x with | some (u, v, _) => !isSlice v && (chkE C a u && chkE C i v) | none => false)
  | .call f as, x => (match vCall x with | some (fx, e :: es, [], _) => (match vName fx with | some (y, _) => decide (C.fns[f]? = some y) && (C.gl y && (!(y == ("__debug__" : Str)) && chkL C as (e :: es))) | none => false) | _ => false)
  | .blt f as, x => (match vCall x with | some (fx, e :: es, [], _) => fnNm C (bfName f) fx && chkL C as (e :: es) | _ => false)
  | .isi a ts, x => (match vCall x with | some (fx, [e, t], [], _) => fnNm C "isinstance" fx && (chkTys C ts t && (!isStar e && chkE C a e)) | _ => false)
  | .meth f o a, x => (match vCall x with | some (fx, [e], [], q) => (match vAttr fx with | some (y, m, p) => decide (m = Str.ofString (mfName f)) && (decide (f = .append) && (isName y && ((p.endLine == q.line) && (!isStar e && (chkE C o y && chkE C a e))))) | none => false) | _ => false)
  | .comp el tg n m it ifs, x => (match vComp x with | some (elt, [⟨tgx, itx, ifx, asy⟩], scope, _) => decide (asy = 0) && (decide (n = C.N.length) && (decide (m = (ownOf tgx).length) && (C.scOk scope (ownOf tgx) && (tgMin n tg && (chkTg (C.sub scope (ownOf tgx)) tg tgx &&
      ((if isIt it then chkI C it itx tgx else (!isSet itx && chkE C it itx)) && (chkTs (C.sub scope (ownOf tgx)) ifs ifx && chkE (C.sub scope (ownOf tgx)) el elt))))))) | _ => false)
  | _, _ => false
def chkL (C : CC) : E → List Expr → Bool
  | .nil, xs => xs.isEmpty
  | .cons e es, xs => (match xs with | x :: xs => !isStar x && (chkE C e x && chkL C es xs) | [] => false)
  | _, _ => false
def chkTs (C : CC) : E → List Expr → Bool
  | .nil, xs => xs.isEmpty
  | .cons e es, xs => (match xs with | x :: xs => chkE C e x && chkTs C es xs | [] => false)
  | _, _ => false
def chkI (C : CC) : E → Expr → Expr → Bool
  | .rng a, x, _ => (match vCall x with | some (fx, [y], [], _) => fnNm C "range" fx && (!isStar y && chkE C a y) | _ => false)
  | .zip a b, x, t => (match vCall x with | some (fx, [y, z], [], _) => isTup t && (fnNm C "zip" fx && (!isStar y && (!isStar z && (chkE C a y && chkE C b z)))) | _ => false)
  | _, _, _ => false
end
def chkIt (C : CC) (it : E) (x t : Expr) : Bool := if isIt it then chkI C it x t else (!isSet x && chkE C it x)
def chkS (C : CC) : S → Stmt → Bool
  | .asg (.nm i) e, .Assign [t] y _ => (match vName t with | some (x, _) => decide (C.N[i]? = some x) && (C.loc x && (!isComp y && chkE C e y)) | none => false)
  | .setix o i e, .Assign [t] z _ => (match vSub t with | some (x, y, _) => !isComp z && (!isSlice y && (chkE C o x && (chkE C i y && chkE C e z))) | none => false)
  | .ret e, .Return (some x) _ => chkE C e x
  | .retN, .Return none _ => true
  | .expr e, .Expr x _ => !isComp x && chkE C e x
  | .pass, .Pass _ => true
  | .brk, .Break _ => true
  | .cont, .Continue _ => true
  | _, _ => false
def vIfS : Stmt → Option (Expr × List Stmt × List Stmt × Pos) | .If x a b p => some (x, a, b, p) | _ => none
def vWhl : Stmt → Option (Expr × List Stmt × List Stmt × Pos) | .While x a b p => some (x, a, b, p) | _ => none
def vFor : Stmt → Option (Expr × Expr × List Stmt × List Stmt × Pos) | .For t x a b p => some (t, x, a, b, p) | _ => none
theorem vIfS_eq {x : Stmt} {a b c d} (h : vIfS x = some (a, b, c, d)) : x = .If a b c d := by cases x <;> cases h; rfl
theorem vWhl_eq {x : Stmt} {a b c d} (h : vWhl x = some (a, b, c, d)) : x = .While a b c d := by cases x <;> cases h; rfl
theorem vFor_eq {x : Stmt} {a b c d e} (h : vFor x = some (a, b, c, d, e)) : x = .For a b c d e := by cases x <;> cases h; rfl
mutual
/-- one statement -/
def chkS1 (C : CC) : S → Stmt → Bool
  | .ife c a b, x => (match vIfS x with | some (t, xa, xb, _) => chkE C c t && (chkB C a xa && chkB C b xb) | none => false)
  | .whl c b, x => (match vWhl x with | some (t, xb, [], _) => chkE C c t && chkB C b xb | _ => false)
  | .for_ tg it b, x => (match vFor x with | some (t, y, xb, [], _) => chkIt C it y t && (chkTg C tg t && chkB C b xb) | _ => false)
  | .nil, _ => false
  | .cons _ _, _ => false
  | .asg t e, x => chkS C (.asg t e) x
  | .setix o i e, x => chkS C (.setix o i e) x
  | .aug i o e, x => chkS C (.aug i o e) x
  | .ret e, x => chkS C (.ret e) x
  | .retN, x => chkS C .retN x
  | .expr e, x => chkS C (.expr e) x
  | .pass, x => chkS C .pass x
  | .brk, x => chkS C .brk x
  | .cont, x => chkS C .cont x
def chkB (C : CC) : S → List Stmt → Bool
  | .nil, xs => xs.isEmpty
  | .cons s r, xs => (match xs with | x :: xs => chkS1 C s x && chkB C r xs | [] => false)
  | _, _ => false
end
def bltNames : List String := ["len", "abs", "int", "sum", "all", "any", "min", "max", "tuple", "list", "isinstance", "range", "zip", "bool", "str"]
structure Good (X : Cx) (C : CC) (call : Nat → List PV → Sto → R PV) (n : Nat) : Prop where
  N : X.N = C.N
  sc : X.env.scope.names = C.sc
  kind : X.env.scope.kind = .function
  nd : C.N.Nodup
  calm : X.calm = true
  fn : C.fnAll = true → ∀ x, X.fn x = true
  room : Room n X.A
  fns : ∀ (f : Nat) (x : Str), C.fns[f]? = some x → ∃ fa fd ps, X.mg x = some (.ref fa) ∧ PySem.W.keepIn X.K (.ref fa) = true ∧ Binds X.K fd ps [] ∧ FnOk X.prog X.w X.K X.mg X.base CX0 n fa fd ps (spF X.K call f)
  blt : ∀ b ∈ bltNames, X.mg (Str.ofString b) = none
section
variable {X : Cx} {C : CC} {call : Nat → List PV → Sto → R PV} {n : Nat}
theorem star_ok {x : Expr} {xs : List Expr} {env : Env} (h : isStar x = false) : starEach (x :: xs) env = (false, eval x env) :: starEach xs env := by
  cases x <;> first | rfl | (cases h; done)
theorem nof {P : Prop} (h : false = true) : P := Bool.noConfusion h
theorem b2 {a b : Bool} (h : (a && b) = true) : a = true ∧ b = true := by simpa using h
theorem nb {a : Bool} (h : (!a) = true) : a = false := by simpa using h
theorem de {p : Prop} [Decidable p] (h : decide p = true) : p := by simpa using h
theorem star_any : ∀ (xs : List Expr) {as : E} {env : Env} {pos : Pos}, chkL C as xs = true → (backTo pos (starEach xs env)).any (·.1) = false
  | [], _, _, _, _ => rfl
  | x :: xs, as, env, pos, h => by
    cases as with
    | cons e es =>
      have h := b2 h
      rw [star_ok (nb h.1)]
      show (false || (backTo pos (starEach xs env)).any (·.1)) = false
      rw [star_any xs (b2 h.2).2]; rfl
    | _ => exact nof h
theorem plain_ix {y : Expr} (h : isSlice y = false) : PlainIx y := by
  intro o i
  cases y <;> first | rfl | (cases h; done)
theorem set_ok {x : Expr} {env : Env} (h : isSet x = false) : ∀ v, foldedSetIterable x env v = pure v := by
  intro v
  cases x <;> first | rfl | (cases h; done)
theorem marks_ok {x : Expr} {op : CmpOp} (h : isSet x = false) : behindInMarks op x = false := by
  cases x <;> first | rfl | (cases h; done)
theorem Good.vis (G : Good X C call n) {x : Str} (h : C.vis x = true) : Vis X.env.scope x := by
  unfold CC.vis at h
  unfold Vis
  rw [G.sc]
  split at h
  · rename_i e; exact .inl e
  · rename_i e; exact .inr (.inl e)
  · rename_i e; exact .inr (.inr e)
  · cases h
theorem Good.gl (G : Good X C call n) {x : Str} (h : C.gl x = true) : Gl X x := by
  have : C.sc.lookup x = some .globalImplicit := by simpa [CC.gl] using h
  show X.env.scope.names.lookup x = _
  rw [G.sc]; exact this
theorem Good.loc (G : Good X C call n) {x : Str} (h : C.loc x = true) : L2.Loc X.env.scope x ∧ (X.fn x = true ∨ X.env.scope.names.lookup x = some .local) := by
  unfold CC.loc at h
  unfold L2.Loc
  rw [G.sc]
  split at h
  · rename_i e; exact ⟨.inl e, .inr e⟩
  · rename_i e; exact ⟨.inr e, .inl (G.fn h x)⟩
  · cases h
theorem pw_of {op : BoolOp} {vs : List Expr} {p : Pos} {t : TT} (h : PT X (.BoolOp op vs p) t) : PW X (.BoolOp op vs p) t := fun w pins s σ H Q I q => h pins s σ H Q I q
theorem chk_ns (G : Good X C call n) : ∀ {is : List Nat} {es : List Expr}, chkNs C is es = true → PGs X.nox es (gTs is) ∧ (assignEach es X.env).length = is.length ∧ (assignEach es X.env).findIdx? (·.1) = none
  | [], [], _ => ⟨pgs_nil, rfl, rfl⟩
  | i :: is, .Name x p :: es, h => by
    simp only [chkNs, Bool.and_eq_true, decide_eq_true_eq] at h
    obtain ⟨h1, h2, h3⟩ := chk_ns G h.2
    obtain ⟨l1, l2⟩ := G.loc h.1.2
    refine ⟨pgs_cons (pg_name (by show X.N.Nodup; rw [G.N]; exact G.nd) (by show X.N[i]? = _; rw [G.N]; exact h.1.1) l1 l2) h1 rfl, ?_, ?_⟩
    · show (assignEach es X.env).length + 1 = is.length + 1
      rw [h2]
    · show ((false, assign (.Name x p) X.env) :: assignEach es X.env).findIdx? (·.1) = none
      rw [List.findIdx?_cons]
      simp [h3]
  | [], _ :: _, h => by simp [chkNs] at h
  | i :: is, [], h => by simp [chkNs] at h
theorem chk_tg (G : Good X C call n) : ∀ {tg : Tg} {t : Expr}, chkTg C tg t = true → PG X.nox t (gT X.K tg)
  | .nm i, .Name x p, h => by
    simp only [chkTg, Bool.and_eq_true, decide_eq_true_eq] at h
    obtain ⟨l1, l2⟩ := G.loc h.2
    exact pg_name (by show X.N.Nodup; rw [G.N]; exact G.nd) (by show X.N[i]? = _; rw [G.N]; exact h.1) l1 l2
  | .tp is, .Tuple es k p, h => by
    obtain ⟨h1, h2, h3⟩ := chk_ns G (show chkNs C is es = true from h)
    exact pg_tup (X := X.nox) G.calm h1 h2 h3
theorem Good.sub (G : Good X C call n) {scope : Scope} {own : List Str} (h : C.scOk scope own = true) : CScope X scope own ∧ ∀ fp D s H, Good (cxC X scope own fp D s H) (C.sub scope own) call n := by
  simp only [CC.scOk, Bool.and_eq_true, decide_eq_true_eq, List.all_eq_true] at h
  obtain ⟨⟨⟨⟨⟨h1, h2⟩, h3⟩, h4⟩, h5⟩, h6⟩ := h
  refine ⟨⟨h1, fun p hp => by simpa using h2 p hp, fun p hp => by simpa using h3 p hp, fun p hp hk => ?_, fun x hx => ?_⟩, fun fp D s H => ⟨?_, ?_, h1, h6, G.calm, (fun z => Bool.noConfusion z), G.room, G.fns, G.blt⟩⟩
  · have := h4 p hp
    show X.env.scope.names.lookup p.1 = _ ∨ X.env.scope.names.lookup p.1 = _
    rw [G.sc]; exact this hk
  · have := h5 x (by rw [← G.N]; exact hx)
    exact this
  · show X.N ++ own = C.N ++ own
    rw [G.N]
  · show (relabel scope X.env).names = relN C.sc scope.names
    unfold relabel relN
    simp only
    refine List.map_congr_left fun p hp => ?_
    obtain ⟨nm, kd⟩ := p
    show (if (kd == NameKind.free && X.env.scope.kind == .function && X.env.scope.names.lookup nm == some .cell) = true then (nm, NameKind.cell) else (nm, kd)) = _
    rw [G.kind, G.sc]
    simp

theorem snd_isNT {k : Bool} {a : E} {l : Expr} {j pos pos'} (ha : PE X l (tE X.K call a)) : PT X (.Compare l [if k then .IsNot else .Is] [.Constant .none j pos'] pos) (tT X.K call (.is k a .non)) := by
  have rp : ∀ {μ : List Addr} {H : Hp} {p : PV} {v : V}, RP X.K μ H p v → decide (v = .non) = decide (p = .non) := fun {μ H p v} r => by
    cases p <;> first
      | (cases (show v = _ from r); simp)
      | (obtain ⟨a, _, rfl, _⟩ := r; simp)
      | (obtain ⟨a, rfl, _⟩ := r; simp)
  have go : ∀ σ H Q, tT X.K call (.is k a .non) σ H Q → tE X.K call a σ H fun v H1 => Q (k != decide (v = .non)) H1 := fun σ H Q ⟨μ, L, st, hl, hs, kk⟩ => by
    rw [evT_plain rfl] at kk
    simp only [ev] at kk
    obtain ⟨z, stz, e0, kk⟩ := kk.split
    cases e1 : ev call a L st with
    | none => rw [e1] at e0; cases e0
    | some w =>
      obtain ⟨p, st1⟩ := w
      rw [e1] at e0
      simp only [Option.bind_some] at e0
      cases e0
      refine go1 hl hs e1 fun v H1 μ1 x1 hl s1 r1 => ?_
      rw [rp r1]
      obtain ⟨_, _, e2, q⟩ := kk.shift x1
      cases e2
      exact q _ H1 μ1 (Ext.refl _ _) s1 rfl
  cases k with
  | true => exact PT.imp (pt_cmp (pc_notN ha)) fun σ H Q h => (by
      obtain ⟨μ, L, st, hl, hs, r, st', e, q⟩ := go σ H Q h
      exact ⟨μ, L, st, hl, hs, r, st', e, fun v H' μ' x s' r' => ⟨_, rfl, by simpa using q v H' μ' x s' r'⟩⟩)
  | false => exact PT.imp (pt_cmp (pc_isN ha)) fun σ H Q h => (by
      obtain ⟨μ, L, st, hl, hs, r, st', e, q⟩ := go σ H Q h
      exact ⟨μ, L, st, hl, hs, r, st', e, fun v H' μ' x s' r' => ⟨_, rfl, by simpa using q v H' μ' x s' r'⟩⟩)
theorem pt_ite {c a b : Expr} {pos : Pos} {tc ta tb : TT} (hc : PT X c tc) (ha : PT X a ta) (hb : PT X b tb) : PT X (.IfExp c a b pos) (fun σ H Q => tc σ H fun r H1 => if r = true then ta σ H1 Q else tb σ H1 Q) := by
  intro pins s σ H Q I h
  show wpAny _ _ (isTrue c X.env (eval c X.env) >>= fun r => if r = true then isTrue a X.env (eval a X.env) else isTrue b X.env (eval b X.env)) _ _ s
  refine wpAny_bind (thn (hc pins s σ H _ I h) fun r s1 ⟨H1, I1, q1⟩ => ?_)
  cases r with
  | true => exact ha pins s1 σ H1 Q I1 (by simpa using q1)
  | false => exact hb pins s1 σ H1 Q I1 (by simpa using q1)
theorem snd_iteT {c a b : E} {x y z : Expr} {pos : Pos} (hc : PT X x (tT X.K call c)) (ha : PT X y (tT X.K call a)) (hb : PT X z (tT X.K call b)) : PT X (.IfExp x y z pos) (tT X.K call (.ite c a b)) := by
  refine PT.imp (pt_ite hc ha hb) fun σ H Q ⟨μ, L, st, hl, hs, k⟩ => ?_
  simp only [evT] at k
  obtain ⟨p, st1, e1, k⟩ := k.split
  refine goT hl hs e1 fun H1 μ1 x1 hl s1 => ?_
  have k := k.shift x1
  cases p with
  | true => exact ⟨μ1, L, st1, hl, s1, by simpa using k⟩
  | false => exact ⟨μ1, L, st1, hl, s1, by simpa using k⟩
end
end Kw
end
section
set_option Elab.async false
set_option linter.all false
set_option maxRecDepth 100000
set_option maxHeartbeats 4000000
namespace Kw
open PySem PySem.Spec PyProof.Rows L2
/-- a part of a text that is the small one: as a value, as a test -/
def OkE (X : Cx) (C : CC) (call : Nat → List PV → Sto → R PV) (e : E) : Prop := ∀ x, chkE C e x = true → PE X.nox x (tE X.K call e)
def OkT (X : Cx) (C : CC) (call : Nat → List PV → Sto → R PV) (e : E) : Prop := ∀ x, chkE C e x = true → PT X.nox x (tT X.K call e)
def OkL (X : Cx) (C : CC) (call : Nat → List PV → Sto → R PV) (e : E) : Prop := ∀ xs, chkL C e xs = true → PA X.nox xs (tA X.K call e)
def OkTs (X : Cx) (C : CC) (call : Nat → List PV → Sto → R PV) (e : E) : Prop := ∀ xs, chkTs C e xs = true → PTs X.nox xs (tTs X.K call e)
def OkI (X : Cx) (C : CC) (call : Nat → List PV → Sto → R PV) (e : E) : Prop := ∀ x t, chkI C e x t = true → PI X.nox t x (tI X.K call e) ∧ ∀ v, foldedSetIterable x X.env v = pure v
structure Ok (call : Nat → List PV → Sto → R PV) (n : Nat) (a : E) : Prop where
  e : ∀ {X : Cx} {C : CC}, Good X C call n → OkE X C call a
  t : ∀ {X : Cx} {C : CC}, Good X C call n → OkT X C call a
  l : ∀ {X : Cx} {C : CC}, Good X C call n → OkL X C call a
  ts : ∀ {X : Cx} {C : CC}, Good X C call n → OkTs X C call a
  i : ∀ {X : Cx} {C : CC}, Good X C call n → OkI X C call a
section
variable {X : Cx} {C : CC} {call : Nat → List PV → Sto → R PV} {n : Nat}
theorem fn_nm (G : Good X C call n) {s : String} {x : Expr} (h : fnNm C s x = true) : ∃ p, x = .Name (Str.ofString s) p ∧ Gl X (Str.ofString s) := by
  unfold fnNm at h
  split at h
  · rename_i y p e
    have h := b2 h
    have e1 := de h.1
    subst e1
    exact ⟨p, vName_eq e, G.gl h.2⟩
  · cases h
theorem kE_var (G : Good X C call n) {i : Nat} : OkE X C call (.var i) := by
  intro x h
  have h : (match vName x with | some (n, _) => chkV C i n | none => false) = true := h
  split at h
  · rename_i y p e
    rw [vName_eq e]
    have h := b2 h; have h1 := b2 h.1; have h2 := b2 h1.1
    exact snd_var (X := X.nox) (by show X.N[i]? = _; rw [G.N]; exact de h2.1) (G.vis h2.2) (nb h1.2) (nb h.2)
  · cases h
theorem kE_int {i : Int} : OkE X C call (.int i) := by
  intro x h
  have h : (match vConst x with | some (.int j, _, _) => decide (i = j) | _ => false) = true := h
  split at h
  · rename_i j _ _ e
    rw [vConst_eq e, ← de h]; exact snd_int (X := X.nox)
  · cases h
theorem kE_bl {i : Bool} : OkE X C call (.bl i) := by
  intro x h
  have h : (match vConst x with | some (.bool j, _, _) => decide (i = j) | _ => false) = true := h
  split at h
  · rename_i j _ _ e
    rw [vConst_eq e, ← de h]; exact snd_bl (X := X.nox)
  · cases h
theorem kE_non : OkE X C call .non := by
  intro x h
  have h : (match vConst x with | some (.none, _, _) => true | _ => false) = true := h
  split at h
  · rename_i e
    rw [vConst_eq e]; exact snd_non (X := X.nox)
  · cases h
theorem kE_str {i : String} : OkE X C call (.str i) := by
  intro x h
  have h : (match vConst x with | some (.str j, _, _) => decide (Str.ofString i = j) | _ => false) = true := h
  split at h
  · rename_i j _ _ e
    rw [vConst_eq e, ← de h]; exact snd_str (X := X.nox)
  · cases h
theorem kE_bin {op : BOp} {a b : E} (ha : OkE X C call a) (hb : OkE X C call b) : OkE X C call (.bin op a b) := by
  intro x h
  have h : (match vBin x with | some (l, o, r, _) => decide (bopOf op = o) && (chkE C a l && chkE C b r) | none => false) = true := h
  split at h
  · rename_i l o r p e
    rw [vBin_eq e]
    have h := b2 h; have h1 := b2 h.2
    rw [← de h.1]
    exact snd_bin (X := X.nox) (ha l h1.1) (hb r h1.2)
  · cases h
theorem cmp_in {op : COp} {a b : E} {x : Expr} (h : chkE C (.cmp op a b) x = true) : ∃ l r p, x = .Compare l [copOf op] [r] p ∧ isSet r = false ∧ chkE C a l = true ∧ chkE C b r = true := by
  have h : (match vCmp x with | some (l, [o], [r], _) => decide (copOf op = o) && (!isSet r && (chkE C a l && chkE C b r)) | _ => false) = true := h
  split at h
  · rename_i l o r p e
    have h := b2 h; have h1 := b2 h.2; have h2 := b2 h1.2
    exact ⟨l, r, p, by rw [vCmp_eq e, de h.1], nb h1.1, h2.1, h2.2⟩
  · cases h
theorem is_in {k : Bool} {a c : E} {x : Expr} (h : chkE C (.is k a c) x = true) : ∃ l j p' p, c = .non ∧ x = .Compare l [if k then .IsNot else .Is] [.Constant .none j p'] p ∧ chkE C a l = true := by
  have h : (match vCmp x with | some (l, [o], [r], _) => decide ((if k then .IsNot else .Is) = o) && (isKw c r && chkE C a l) | _ => false) = true := h
  split at h
  · rename_i l o r p e
    have h := b2 h; have h1 := b2 h.2
    have hc := h1.1
    cases c with
    | non =>
      have hc : (match vConst r with | some (.none, _, _) => true | _ => false) = true := hc
      split at hc
      · rename_i j p' e2
        exact ⟨l, j, p', p, rfl, by rw [vCmp_eq e, de h.1, vConst_eq e2], h1.2⟩
      · cases hc
    | _ => exact nof hc
  · cases h
theorem and_in {a b : E} {x : Expr} (h : chkE C (.and a b) x = true) : ∃ u v r p, x = .BoolOp .And (u :: v :: r) p ∧ chkE C a u = true ∧ chkE C b (bRest .And v r p) = true := by
  have h : (match vBool x with | some (o, u :: v :: r, p) => decide (.And = o) && (chkE C a u && chkE C b (bRest .And v r p)) | _ => false) = true := h
  split at h
  · rename_i o u v r p e
    have h := b2 h; have h1 := b2 h.2
    exact ⟨u, v, r, p, by rw [vBool_eq e, ← de h.1], h1.1, h1.2⟩
  · cases h
theorem or_in {a b : E} {x : Expr} (h : chkE C (.or a b) x = true) : ∃ u v r p, x = .BoolOp .Or (u :: v :: r) p ∧ chkE C a u = true ∧ chkE C b (bRest .Or v r p) = true := by
  have h : (match vBool x with | some (o, u :: v :: r, p) => decide (.Or = o) && (chkE C a u && chkE C b (bRest .Or v r p)) | _ => false) = true := h
  split at h
  · rename_i o u v r p e
    have h := b2 h; have h1 := b2 h.2
    exact ⟨u, v, r, p, by rw [vBool_eq e, ← de h.1], h1.1, h1.2⟩
  · cases h
theorem un_in {a : E} {o : UnaryOp} {x : Expr} (h : (match vUn x with | some (o', y, _) => decide (o = o') && chkE C a y | none => false) = true) : ∃ y p, x = .UnaryOp o y p ∧ chkE C a y = true := by
  split at h
  · rename_i o' y p e
    have h := b2 h
    exact ⟨y, p, by rw [vUn_eq e, de h.1], h.2⟩
  · cases h
theorem ite_in {c a b : E} {x : Expr} (h : chkE C (.ite c a b) x = true) : ∃ u v w p, x = .IfExp u v w p ∧ chkE C c u = true ∧ chkE C a v = true ∧ chkE C b w = true := by
  have h : (match vIf x with | some (u, v, w, _) => chkE C c u && (chkE C a v && chkE C b w) | none => false) = true := h
  split at h
  · rename_i u v w p e
    have h := b2 h; have h1 := b2 h.2
    exact ⟨u, v, w, p, vIf_eq e, h.1, h1.1, h1.2⟩
  · cases h
theorem kE_and {a b : E} (ha : OkE X C call a) (hb : OkE X C call b) : OkE X C call (.and a b) := by
  intro x h
  obtain ⟨u, v, r, p, rfl, h1, h2⟩ := and_in h
  cases r with
  | nil => exact snd_and (X := X.nox) (ha u h1) (pe_one (hb v h2))
  | cons z r => exact snd_and (X := X.nox) (ha u h1) (hb _ h2)
theorem kE_or {a b : E} (ha : OkE X C call a) (hb : OkE X C call b) : OkE X C call (.or a b) := by
  intro x h
  obtain ⟨u, v, r, p, rfl, h1, h2⟩ := or_in h
  cases r with
  | nil => exact snd_or (X := X.nox) (ha u h1) (pe_one (hb v h2))
  | cons z r => exact snd_or (X := X.nox) (ha u h1) (hb _ h2)
theorem kT_and {a b : E} (ha : OkT X C call a) (hb : OkT X C call b) : OkT X C call (.and a b) := by
  intro x h
  obtain ⟨u, v, r, p, rfl, h1, h2⟩ := and_in h
  cases r with
  | nil => exact (snd_andT (X := X.nox) (ha u h1) (snd_and1T (hb v h2))).pt
  | cons z r => exact (snd_andT (X := X.nox) (ha u h1) (pw_of (hb _ h2))).pt
theorem kT_or {a b : E} (ha : OkT X C call a) (hb : OkT X C call b) : OkT X C call (.or a b) := by
  intro x h
  obtain ⟨u, v, r, p, rfl, h1, h2⟩ := or_in h
  cases r with
  | nil => exact (snd_orT (X := X.nox) (ha u h1) (snd_and1T (hb v h2))).pt
  | cons z r => exact (snd_orT (X := X.nox) (ha u h1) (pw_of (hb _ h2))).pt
theorem kE_cmp {op : COp} {a b : E} (ha : OkE X C call a) (hb : OkE X C call b) : OkE X C call (.cmp op a b) := by
  intro x h
  obtain ⟨l, r, p, rfl, h1, h2, h3⟩ := cmp_in h
  exact snd_cmp (X := X.nox) (marks_ok h1) (ha l h2) (hb r h3)
theorem kT_cmp {op : COp} {a b : E} (ha : OkE X C call a) (hb : OkE X C call b) : OkT X C call (.cmp op a b) := by
  intro x h
  obtain ⟨l, r, p, rfl, h1, h2, h3⟩ := cmp_in h
  exact snd_cmpT (X := X.nox) (marks_ok h1) (ha l h2) (hb r h3)
theorem kE_is {k : Bool} {a c : E} (ha : OkE X C call a) : OkE X C call (.is k a c) := by
  intro x h
  obtain ⟨l, j, p', p, rfl, rfl, h1⟩ := is_in h
  exact snd_isN (X := X.nox) (ha l h1)
theorem kT_is {k : Bool} {a c : E} (ha : OkE X C call a) : OkT X C call (.is k a c) := by
  intro x h
  obtain ⟨l, j, p', p, rfl, rfl, h1⟩ := is_in h
  exact snd_isNT (X := X.nox) (ha l h1)
theorem kE_not {a : E} (ha : OkE X C call a) : OkE X C call (.not a) := by
  intro x h
  obtain ⟨y, p, rfl, h1⟩ := un_in h
  exact snd_not (X := X.nox) (ha y h1)
theorem kT_not {a : E} (ha : OkT X C call a) : OkT X C call (.not a) := by
  intro x h
  obtain ⟨y, p, rfl, h1⟩ := un_in h
  exact snd_notT (X := X.nox) (ha y h1)
theorem kE_neg {a : E} (ha : OkE X C call a) : OkE X C call (.neg a) := by
  intro x h
  obtain ⟨y, p, rfl, h1⟩ := un_in h
  exact snd_neg (X := X.nox) (ha y h1)
theorem kE_ite {c a b : E} (hc : OkT X C call c) (ha : OkE X C call a) (hb : OkE X C call b) : OkE X C call (.ite c a b) := by
  intro x h
  obtain ⟨u, v, w, p, rfl, h1, h2, h3⟩ := ite_in h
  exact snd_ite (X := X.nox) (hc u h1) (ha v h2) (hb w h3)
theorem kT_ite {c a b : E} (hc : OkT X C call c) (ha : OkT X C call a) (hb : OkT X C call b) : OkT X C call (.ite c a b) := by
  intro x h
  obtain ⟨u, v, w, p, rfl, h1, h2, h3⟩ := ite_in h
  exact snd_iteT (X := X.nox) (hc u h1) (ha v h2) (hb w h3)
theorem kE_tup {es : E} (h0 : OkL X C call es) : OkE X C call (.tup es) := by
  intro x h
  have h : (match vTup x with | some (xs, _, _) => chkL C es xs | none => false) = true := h
  split at h
  · rename_i e
    rw [vTup_eq e]; exact snd_tup (X := X.nox) (h0 _ h)
  · cases h
theorem kE_lst {es : E} (h0 : OkL X C call es) : OkE X C call (.lst es) := by
  intro x h
  have h : (match vLst x with | some (xs, _) => chkL C es xs | none => false) = true := h
  split at h
  · rename_i e
    rw [vLst_eq e]; exact snd_lst (X := X.nox) (h0 _ h)
  · cases h
theorem kE_ix {a i : E} (ha : OkE X C call a) (hi : OkE X C call i) : OkE X C call (.ix a i) := by
  intro x h
  have h : (match vSub x with | some (u, v, _) => !isSlice v && (chkE C a u && chkE C i v) | none => false) = true := h
  split at h
  · rename_i u v p e
    rw [vSub_eq e]
    have h := b2 h; have h1 := b2 h.2
    exact snd_ix (X := X.nox) (plain_ix (nb h.1)) (ha u h1.1) (hi v h1.2)
  · cases h
theorem first_star {as : E} {e : Expr} {es : List Expr} (h : chkL C as (e :: es) = true) : isStar e = false ∧ ∀ {env : Env} {p : Pos}, (backTo p (starEach es env)).any (·.1) = false := by
  cases as with
  | cons a as => exact ⟨nb (b2 h).1, star_any es (b2 (b2 h).2).2⟩
  | _ => exact nof h
theorem kE_call (G : Good X C call n) {f : Nat} {as : E} (h0 : OkL X C call as) : OkE X C call (.call f as) := by
  intro x h
  have h : (match vCall x with | some (fx, e :: es, [], _) => (match vName fx with | some (y, _) => decide (C.fns[f]? = some y) && (C.gl y && (!(y == ("__debug__" : Str)) && chkL C as (e :: es))) | none => false) | _ => false) = true := h
  split at h
  · rename_i fx e es p ee
    split at h
    · rename_i y q e2
      have h := b2 h; have h1 := b2 h.2; have h2 := b2 h1.2
      rw [vCall_eq ee, vName_eq e2]
      obtain ⟨fa, fd, ps, m1, m2, m3, m4⟩ := G.fns f y (de h.1)
      obtain ⟨s1, s2⟩ := first_star h2.2
      exact snd_call (X := X.nox) (E' := E0) m4 G.room (G.gl h1.1) m1 m2 m3 pass0 (h0 _ h2.2) (nb h2.1) (star_ok s1) s2
    · cases h
  · cases h
theorem kE_blt (G : Good X C call n) {f : BF} {as : E} (h0 : OkL X C call as) : OkE X C call (.blt f as) := by
  intro x h
  have h : (match vCall x with | some (fx, e :: es, [], _) => fnNm C (bfName f) fx && chkL C as (e :: es) | _ => false) = true := h
  split at h
  · rename_i fx e es p ee
    have h := b2 h
    obtain ⟨q, rfl, gl⟩ := fn_nm G h.1
    rw [vCall_eq ee]
    obtain ⟨s1, s2⟩ := first_star h.2
    exact snd_blt (X := X.nox) G.calm rfl gl (G.blt _ (by cases f <;> decide)) (h0 _ h.2) (star_ok s1) s2
  · cases h
theorem ty_nm (G : Good X C call n) {t : Ty} {x : Expr} (h : chkTyN C t x = true) : ∃ p, x = .Name (Str.ofString (tyName t)) p ∧ Gl X (Str.ofString (tyName t)) ∧ X.mg (Str.ofString (tyName t)) = none := by
  unfold chkTyN at h
  split at h
  · rename_i y p e
    have h := b2 h
    have e1 := de h.1
    subst e1
    exact ⟨p, vName_eq e, G.gl h.2, G.blt _ (by cases t <;> decide)⟩
  · cases h
theorem kE_isi (G : Good X C call n) {a : E} {ts : List Ty} (ha : OkE X C call a) : OkE X C call (.isi a ts) := by
  intro x h
  have h : (match vCall x with | some (fx, [e, t], [], _) => fnNm C "isinstance" fx && (chkTys C ts t && (!isStar e && chkE C a e)) | _ => false) = true := h
  split at h
  · rename_i fx e t p ee
    have h := b2 h; have h1 := b2 h.2; have h2 := b2 h1.2
    obtain ⟨q, rfl, gl⟩ := fn_nm G h.1
    rw [vCall_eq ee]
    have bl := G.blt "isinstance" (by decide)
    have hst := star_ok (xs := [t]) (env := X.env) (nb h2.1)
    rcases ts with _ | ⟨t1, _ | ⟨t2, _ | ⟨t3, ts⟩⟩⟩
    · exact nof h1.1
    · obtain ⟨q2, rfl, g2, m2⟩ := ty_nm G (show chkTyN C t1 t = true from h1.1)
      exact snd_isi1 (X := X.nox) rfl rfl gl bl g2 m2 (ha e h2.2) (by rw [hst]; rfl)
    · have h3 : (match vTup t with | some ([y, z], _, _) => chkTyN C t1 y && chkTyN C t2 z | _ => false) = true := h1.1
      split at h3
      · rename_i y z k p2 e2
        have h3 := b2 h3
        obtain ⟨q2, rfl, g2, m2⟩ := ty_nm G h3.1
        obtain ⟨q3, rfl, g3, m3⟩ := ty_nm G h3.2
        have e3 := vTup_eq e2
        subst e3
        exact snd_isi2 (X := X.nox) rfl rfl rfl gl bl g2 m2 g3 m3 (ha e h2.2) (by rw [hst]; rfl)
      · cases h3
    · exact nof h1.1
  · cases h
theorem base_name {x : Expr} {m : Str} {env : Env} (h : isName x = true) : attributeBase x m env (eval x env) = eval x env := by
  cases x <;> first | rfl | (cases h; done)
theorem kE_meth {f : MF} {o a : E} (ho : OkE X C call o) (ha : OkE X C call a) : OkE X C call (.meth f o a) := by
  intro x h
  have h : (match vCall x with | some (fx, [e], [], q) => (match vAttr fx with | some (y, m, p) => decide (m = Str.ofString (mfName f)) && (decide (f = .append) && (isName y && ((p.endLine == q.line) && (!isStar e && (chkE C o y && chkE C a e))))) | none => false) | _ => false) = true := h
  split at h
  · rename_i fx e q ee
    split at h
    · rename_i y m p e2
      have h := b2 h; have h1 := b2 h.2; have h2 := b2 h1.2; have h3 := b2 h2.2; have h4 := b2 h3.2; have h5 := b2 h4.2
      have em := de h.1
      have ef := de h1.1
      subst em ef
      rw [vCall_eq ee, vAttr_eq e2]
      exact snd_append (X := X.nox) (base_name h2.1) h3.1 (by rw [star_ok (nb h4.1)]; rfl) (ho y h5.1) (ha e h5.2)
    · cases h
  · cases h
theorem ok_it (G : Good X C call n) {it : E} (h0 : Ok call n it) {x t : Expr} (h : (if isIt it = true then chkI C it x t else (!isSet x && chkE C it x)) = true) : PI X.nox t x (tI X.K call it) ∧ ∀ v, foldedSetIterable x X.env v = pure v := by
  split at h
  · exact h0.i G x t h
  · rename_i hi
    have h := b2 h
    have hp : plainIt it = true := by cases it <;> first | rfl | (exact absurd rfl hi)
    exact ⟨snd_itv (X := X.nox) hp (h0.e G x h.2), set_ok (nb h.1)⟩
theorem kE_comp (G : Good X C call n) {el it ifs : E} {tg : Tg} {nn m : Nat} (hi : Ok call n it) (hs : Ok call n ifs) (he : Ok call n el) : OkE X C call (.comp el tg nn m it ifs) := by
  intro x h
  have h : (match vComp x with | some (elt, [⟨tgx, itx, ifx, asy⟩], scope, _) => decide (asy = 0) && (decide (nn = C.N.length) && (decide (m = (ownOf tgx).length) && (C.scOk scope (ownOf tgx) && (tgMin nn tg && (chkTg (C.sub scope (ownOf tgx)) tg tgx &&
      ((if isIt it = true then chkI C it itx tgx else (!isSet itx && chkE C it itx)) && (chkTs (C.sub scope (ownOf tgx)) ifs ifx && chkE (C.sub scope (ownOf tgx)) el elt))))))) | _ => false) = true := h
  split at h
  · rename_i elt tgx itx ifx asy scope p ee
    have h := b2 h; have h1 := b2 h.2; have h2 := b2 h1.2; have h3 := b2 h2.2; have h4 := b2 h3.2; have h5 := b2 h4.2; have h6 := b2 h5.2; have h7 := b2 h6.2
    have e0 := de h.1
    have e1 := de h1.1
    have e2 := de h2.1
    obtain ⟨SC, G2⟩ := G.sub h3.1
    subst e0 e1 e2
    rw [vComp_eq ee]
    have hN : C.N.length = X.N.length := by rw [G.N]
    obtain ⟨i1, i2⟩ := ok_it G hi h6.1
    have := snd_comp (X := X) (own := ownOf tgx) (pos := p) (tg := tg) G.calm SC (by rw [← hN]; exact h4.1) i1
      (fun fp D s H => ⟨chk_tg (G2 fp D s H) h5.1, hs.ts (G2 fp D s H) ifx h7.1, he.e (G2 fp D s H) elt h7.2⟩) i2
    rw [hN]
    exact this
  · cases h
theorem kL_nil : OkL X C call .nil := by
  intro xs h
  cases xs with
  | nil => exact snd_nil (X := X.nox)
  | cons _ _ => exact nof h
theorem kL_cons {e es : E} (he : OkE X C call e) (hs : OkL X C call es) : OkL X C call (.cons e es) := by
  intro xs h
  cases xs with
  | nil => exact nof h
  | cons x xs =>
    have h := b2 h; have h1 := b2 h.2
    exact snd_cons (X := X.nox) (star_ok (nb h.1)) (he x h1.1) (hs xs h1.2)
theorem kTs_nil : OkTs X C call .nil := by
  intro xs h
  cases xs with
  | nil => exact snd_tsnil (X := X.nox)
  | cons _ _ => exact nof h
theorem kTs_cons {e es : E} (he : OkT X C call e) (hs : OkTs X C call es) : OkTs X C call (.cons e es) := by
  intro xs h
  cases xs with
  | nil => exact nof h
  | cons x xs =>
    have h := b2 h
    exact snd_tscons (X := X.nox) (he x h.1) (hs xs h.2)
theorem kI_rng (G : Good X C call n) {a : E} (ha : OkE X C call a) : OkI X C call (.rng a) := by
  intro x t h
  have h : (match vCall x with | some (fx, [y], [], _) => fnNm C "range" fx && (!isStar y && chkE C a y) | _ => false) = true := h
  split at h
  · rename_i fx y p ee
    have h := b2 h; have h1 := b2 h.2
    obtain ⟨q, rfl, gl⟩ := fn_nm G h.1
    rw [vCall_eq ee]
    exact ⟨snd_rng (X := X.nox) gl (G.blt "range" (by decide)) (ha y h1.2) (by rw [star_ok (nb h1.1)]; rfl), fun v => rfl⟩
  · cases h
theorem kI_zip (G : Good X C call n) {a b : E} (ha : OkE X C call a) (hb : OkE X C call b) : OkI X C call (.zip a b) := by
  intro x t h
  have h : (match vCall x with | some (fx, [y, z], [], _) => isTup t && (fnNm C "zip" fx && (!isStar y && (!isStar z && (chkE C a y && chkE C b z)))) | _ => false) = true := h
  split at h
  · rename_i fx y z p ee
    have h := b2 h; have h1 := b2 h.2; have h2 := b2 h1.2; have h3 := b2 h2.2; have h4 := b2 h3.2
    obtain ⟨q, rfl, gl⟩ := fn_nm G h1.1
    rw [vCall_eq ee]
    cases t with
    | Tuple elts tk tp => exact ⟨snd_zip (X := X.nox) gl (G.blt "zip" (by decide)) (ha y h4.1) (hb z h4.2) (by rw [star_ok (nb h2.1), star_ok (nb h3.1)]; rfl) (by rw [star_ok (nb h3.1)]; rfl), fun v => rfl⟩
    | _ => exact nof h.1
  · cases h
/-- a value's test, for those that have no test of their own -/
theorem kT_of {e : E} (h1 : plainTE e = true) (h2 : ∀ x, chkE C e x = true → plainT x = true) (h : OkE X C call e) : OkT X C call e := fun x hx => snd_plainT (X := X.nox) h1 (h2 x hx) (h x hx)
end
section
variable {call : Nat → List PV → Sto → R PV} {n : Nat}
/-- what is a value, and neither a list of parts nor a walk -/
theorem Ok.val {e : E} (hl : ∀ C xs, chkL C e xs = false) (ht : ∀ C xs, chkTs C e xs = false) (hi : ∀ C x t, chkI C e x t = false) (he : ∀ {X : Cx} {C : CC}, Good X C call n → OkE X C call e) (hT : ∀ {X : Cx} {C : CC}, Good X C call n → OkT X C call e) : Ok call n e :=
  ⟨he, hT, fun G xs h => nof ((hl _ xs).symm.trans h), fun G xs h => nof ((ht _ xs).symm.trans h), fun G x t h => nof ((hi _ x t).symm.trans h)⟩
/-- what is no value -/
theorem Ok.none {e : E} (he : ∀ C x, chkE C e x = false) (hl : ∀ {X : Cx} {C : CC}, Good X C call n → OkL X C call e) (ht : ∀ {X : Cx} {C : CC}, Good X C call n → OkTs X C call e) (hi : ∀ {X : Cx} {C : CC}, Good X C call n → OkI X C call e) : Ok call n e :=
  ⟨fun G x h => nof ((he _ x).symm.trans h), fun G x h => nof ((he _ x).symm.trans h), hl, ht, hi⟩
theorem Ok.plain {e : E} (h1 : plainTE e = true) (n1 : ∀ C y p, chkE C e (.UnaryOp .Not y p) = false) (n2 : ∀ C o xs p, chkE C e (.BoolOp o xs p) = false) (n3 : ∀ C x y z p, chkE C e (.IfExp x y z p) = false) (n4 : ∀ C l o r p, chkE C e (.Compare l o r p) = false)
    (hl : ∀ C xs, chkL C e xs = false) (ht : ∀ C xs, chkTs C e xs = false) (hi : ∀ C x t, chkI C e x t = false) (he : ∀ {X : Cx} {C : CC}, Good X C call n → OkE X C call e) : Ok call n e :=
  Ok.val hl ht hi he fun {X C} G => kT_of h1 (fun x hx => by
    cases hp : plainT x with
    | true => rfl
    | false =>
      cases x <;> first
        | (cases hp; done)
        | (exact nof ((n2 ..).symm.trans hx))
        | (exact nof ((n3 ..).symm.trans hx))
        | (exact nof ((n4 ..).symm.trans hx))
        | (rename_i o _ _; cases o <;> first | (cases hp; done) | (exact nof ((n1 ..).symm.trans hx)))) (he G)
theorem ok_all (call : Nat → List PV → Sto → R PV) (n : Nat) : ∀ e : E, Ok call n e := by
  intro e
  induction e with
  | var i => exact .plain rfl (fun _ _ _ => rfl) (fun _ _ _ _ => rfl) (fun _ _ _ _ _ => rfl) (fun _ _ _ _ _ => rfl) (fun _ _ => rfl) (fun _ _ => rfl) (fun _ _ _ => rfl) fun G => kE_var G
  | int i => exact .plain rfl (fun _ _ _ => rfl) (fun _ _ _ _ => rfl) (fun _ _ _ _ _ => rfl) (fun _ _ _ _ _ => rfl) (fun _ _ => rfl) (fun _ _ => rfl) (fun _ _ _ => rfl) fun G => kE_int
  | bl i => exact .plain rfl (fun _ _ _ => rfl) (fun _ _ _ _ => rfl) (fun _ _ _ _ _ => rfl) (fun _ _ _ _ _ => rfl) (fun _ _ => rfl) (fun _ _ => rfl) (fun _ _ _ => rfl) fun G => kE_bl
  | non => exact .plain rfl (fun _ _ _ => rfl) (fun _ _ _ _ => rfl) (fun _ _ _ _ _ => rfl) (fun _ _ _ _ _ => rfl) (fun _ _ => rfl) (fun _ _ => rfl) (fun _ _ _ => rfl) fun G => kE_non
  | str i => exact .plain rfl (fun _ _ _ => rfl) (fun _ _ _ _ => rfl) (fun _ _ _ _ _ => rfl) (fun _ _ _ _ _ => rfl) (fun _ _ => rfl) (fun _ _ => rfl) (fun _ _ _ => rfl) fun G => kE_str
  | bin op a b ha hb => exact .plain rfl (fun _ _ _ => rfl) (fun _ _ _ _ => rfl) (fun _ _ _ _ _ => rfl) (fun _ _ _ _ _ => rfl) (fun _ _ => rfl) (fun _ _ => rfl) (fun _ _ _ => rfl) fun G => kE_bin (ha.e G) (hb.e G)
  | neg a ha => exact .plain rfl (fun _ _ _ => rfl) (fun _ _ _ _ => rfl) (fun _ _ _ _ _ => rfl) (fun _ _ _ _ _ => rfl) (fun _ _ => rfl) (fun _ _ => rfl) (fun _ _ _ => rfl) fun G => kE_neg (ha.e G)
  | tup es h => exact .plain rfl (fun _ _ _ => rfl) (fun _ _ _ _ => rfl) (fun _ _ _ _ _ => rfl) (fun _ _ _ _ _ => rfl) (fun _ _ => rfl) (fun _ _ => rfl) (fun _ _ _ => rfl) fun G => kE_tup (h.l G)
  | lst es h => exact .plain rfl (fun _ _ _ => rfl) (fun _ _ _ _ => rfl) (fun _ _ _ _ _ => rfl) (fun _ _ _ _ _ => rfl) (fun _ _ => rfl) (fun _ _ => rfl) (fun _ _ _ => rfl) fun G => kE_lst (h.l G)
  | ix a i ha hi => exact .plain rfl (fun _ _ _ => rfl) (fun _ _ _ _ => rfl) (fun _ _ _ _ _ => rfl) (fun _ _ _ _ _ => rfl) (fun _ _ => rfl) (fun _ _ => rfl) (fun _ _ _ => rfl) fun G => kE_ix (ha.e G) (hi.e G)
  | call f as h => exact .plain rfl (fun _ _ _ => rfl) (fun _ _ _ _ => rfl) (fun _ _ _ _ _ => rfl) (fun _ _ _ _ _ => rfl) (fun _ _ => rfl) (fun _ _ => rfl) (fun _ _ _ => rfl) fun G => kE_call G (h.l G)
  | blt f as h => exact .plain rfl (fun _ _ _ => rfl) (fun _ _ _ _ => rfl) (fun _ _ _ _ _ => rfl) (fun _ _ _ _ _ => rfl) (fun _ _ => rfl) (fun _ _ => rfl) (fun _ _ _ => rfl) fun G => kE_blt G (h.l G)
  | isi a ts ha => exact .plain rfl (fun _ _ _ => rfl) (fun _ _ _ _ => rfl) (fun _ _ _ _ _ => rfl) (fun _ _ _ _ _ => rfl) (fun _ _ => rfl) (fun _ _ => rfl) (fun _ _ _ => rfl) fun G => kE_isi G (ha.e G)
  | meth f o a ho ha => exact .plain rfl (fun _ _ _ => rfl) (fun _ _ _ _ => rfl) (fun _ _ _ _ _ => rfl) (fun _ _ _ _ _ => rfl) (fun _ _ => rfl) (fun _ _ => rfl) (fun _ _ _ => rfl) fun G => kE_meth (ho.e G) (ha.e G)
  | comp el tg nn m it ifs he hi hs => exact .plain rfl (fun _ _ _ => rfl) (fun _ _ _ _ => rfl) (fun _ _ _ _ _ => rfl) (fun _ _ _ _ _ => rfl) (fun _ _ => rfl) (fun _ _ => rfl) (fun _ _ _ => rfl) fun G => kE_comp G hi hs he
  | cmp op a b ha hb => exact .val (fun _ _ => rfl) (fun _ _ => rfl) (fun _ _ _ => rfl) (fun G => kE_cmp (ha.e G) (hb.e G)) fun G => kT_cmp (ha.e G) (hb.e G)
  | is k a c ha hc => exact .val (fun _ _ => rfl) (fun _ _ => rfl) (fun _ _ _ => rfl) (fun G => kE_is (ha.e G)) fun G => kT_is (ha.e G)
  | and a b ha hb => exact .val (fun _ _ => rfl) (fun _ _ => rfl) (fun _ _ _ => rfl) (fun G => kE_and (ha.e G) (hb.e G)) fun G => kT_and (ha.t G) (hb.t G)
  | or a b ha hb => exact .val (fun _ _ => rfl) (fun _ _ => rfl) (fun _ _ _ => rfl) (fun G => kE_or (ha.e G) (hb.e G)) fun G => kT_or (ha.t G) (hb.t G)
  | not a ha => exact .val (fun _ _ => rfl) (fun _ _ => rfl) (fun _ _ _ => rfl) (fun G => kE_not (ha.e G)) fun G => kT_not (ha.t G)
  | ite c a b hc ha hb => exact .val (fun _ _ => rfl) (fun _ _ => rfl) (fun _ _ _ => rfl) (fun G => kE_ite (hc.t G) (ha.e G) (hb.e G)) fun G => kT_ite (hc.t G) (ha.t G) (hb.t G)
  | nil => exact .none (fun _ _ => rfl) (fun G => kL_nil) (fun G => kTs_nil) fun G x t h => nof h
  | cons e es he hs => exact .none (fun _ _ => rfl) (fun G => kL_cons (he.e G) (hs.l G)) (fun G => kTs_cons (he.t G) (hs.ts G)) fun G x t h => nof h
  | rng a ha => exact .none (fun _ _ => rfl) (fun G xs h => nof h) (fun G xs h => nof h) fun G => kI_rng G (ha.e G)
  | zip a b ha hb => exact .none (fun _ _ => rfl) (fun G xs h => nof h) (fun G xs h => nof h) fun G => kI_zip G (ha.e G) (hb.e G)
  | _ => exact .none (fun _ _ => rfl) (fun G xs h => nof h) (fun G xs h => nof h) fun G x t h => nof h
end
end Kw
end
section
set_option Elab.async false
set_option linter.all false
set_option maxRecDepth 100000
set_option maxHeartbeats 4000000
namespace Kw
open PySem PySem.Spec PyProof.Rows L2
section
variable {X : Cx} {C : CC} {call : Nat → List PV → Sto → R PV} {n : Nat}
theorem setix_ok {xo xi : Expr} {p : Pos} {env : Env} (h : isSlice xi = false) : ∀ v, assign (.Subscript xo xi p) env v = (do
      let ov ← holding [v] (eval xo env)
      let iv ← holding [v, ov] (eval xi env)
      standAt p
      holding [v, ov, iv] (setItem ov iv v)
      release [v, ov, iv] []) := by
  intro v
  cases xi <;> first | rfl | (cases h; done)
def OkS (X : Cx) (C : CC) (call : Nat → List PV → Sto → R PV) (s : S) : Prop := ∀ x, chkS1 C s x = true → PS X.nox x (tS X.K call s)
def OkB (X : Cx) (C : CC) (call : Nat → List PV → Sto → R PV) (s : S) : Prop := ∀ xs, chkB C s xs = true → PSs X.nox xs (tS X.K call s)
theorem kS_asg (G : Good X C call n) {tg : Tg} {e : E} : OkS X C call (.asg tg e) := by
  intro x h
  have h : chkS C (.asg tg e) x = true := h
  cases tg with
  | nm i =>
    cases x with
    | Assign ts y p =>
      rcases ts with _ | ⟨t, _ | ⟨t2, ts⟩⟩
      · exact nof h
      · have h : (match vName t with | some (x, _) => decide (C.N[i]? = some x) && (C.loc x && (!isComp y && chkE C e y)) | none => false) = true := h
        split at h
        · rename_i nm q ee
          have h := b2 h; have h1 := b2 h.2; have h2 := b2 h1.2
          obtain ⟨l1, l2⟩ := G.loc h1.1
          rw [vName_eq ee]
          exact sn_set (X := X.nox) (by show X.N.Nodup; rw [G.N]; exact G.nd) (by show X.N[i]? = _; rw [G.N]; exact de h.1) l1 l2 (nb h2.1) ((ok_all call n e).e G y h2.2)
        · cases h
      · exact nof h
    | _ => exact nof h
  | tp is => cases x <;> exact nof h
theorem kS_setix (G : Good X C call n) {o i e : E} : OkS X C call (.setix o i e) := by
  intro x h
  have h : chkS C (.setix o i e) x = true := h
  cases x with
  | Assign ts z p =>
    rcases ts with _ | ⟨t, _ | ⟨t2, ts⟩⟩
    · exact nof h
    · have h : (match vSub t with | some (x, y, _) => !isComp z && (!isSlice y && (chkE C o x && (chkE C i y && chkE C e z))) | none => false) = true := h
      split at h
      · rename_i x y q ee
        have h := b2 h; have h1 := b2 h.2; have h2 := b2 h1.2; have h3 := b2 h2.2
        rw [vSub_eq ee]
        exact sn_setix (X := X.nox) (nb h.1) (setix_ok (nb h1.1)) rfl (by simp only [swapsWithSole]; exact swaps_no (nb h.1)) ((ok_all call n o).e G x h2.1) ((ok_all call n i).e G y h3.1) ((ok_all call n e).e G z h3.2)
      · cases h
    · exact nof h
  | _ => exact nof h
theorem kS_ret (G : Good X C call n) {e : E} : OkS X C call (.ret e) := by
  intro x h
  have h : chkS C (.ret e) x = true := h
  cases x with
  | Return v p =>
    cases v with
    | none => exact nof h
    | some y => exact sn_ret (X := X.nox) ((ok_all call n e).e G y h)
  | _ => exact nof h
theorem kS_retN : OkS X C call .retN := by
  intro x h
  have h : chkS C .retN x = true := h
  cases x with
  | Return v p =>
    cases v with
    | none => exact sn_retN (X := X.nox)
    | some y => exact nof h
  | _ => exact nof h
theorem kS_expr (G : Good X C call n) {e : E} : OkS X C call (.expr e) := by
  intro x h
  have h : chkS C (.expr e) x = true := h
  cases x with
  | Expr y p =>
    have h := b2 h
    exact sn_expr (X := X.nox) (nb h.1) ((ok_all call n e).e G y h.2)
  | _ => exact nof h
theorem kS_pass : OkS X C call .pass := by
  intro x h
  have h : chkS C .pass x = true := h
  cases x <;> first | exact sn_pass (X := X.nox) | exact nof h
theorem kS_brk : OkS X C call .brk := by
  intro x h
  have h : chkS C .brk x = true := h
  cases x <;> first | exact sn_brk (X := X.nox) | exact nof h
theorem kS_cont : OkS X C call .cont := by
  intro x h
  have h : chkS C .cont x = true := h
  cases x <;> first | exact sn_cont (X := X.nox) | exact nof h
theorem kS_ife (G : Good X C call n) {c : E} {a b : S} (ha : OkB X C call a) (hb : OkB X C call b) : OkS X C call (.ife c a b) := by
  intro x h
  have h : (match vIfS x with | some (t, xa, xb, _) => chkE C c t && (chkB C a xa && chkB C b xb) | none => false) = true := h
  split at h
  · rename_i t xa xb p ee
    have h := b2 h; have h1 := b2 h.2
    rw [vIfS_eq ee]
    exact sn_if (X := X.nox) ((ok_all call n c).t G t h.1) (ha xa h1.1) (hb xb h1.2)
  · cases h
theorem kS_whl (G : Good X C call n) {c : E} {b : S} (hb : OkB X C call b) : OkS X C call (.whl c b) := by
  intro x h
  have h : (match vWhl x with | some (t, xb, [], _) => chkE C c t && chkB C b xb | _ => false) = true := h
  split at h
  · rename_i t xb p ee
    have h := b2 h
    rw [vWhl_eq ee]
    exact sn_while (X := X) ((ok_all call n c).t G t h.1) (hb xb h.2)
  · cases h
theorem kS_for (G : Good X C call n) {tg : Tg} {it : E} {b : S} (hb : OkB X C call b) : OkS X C call (.for_ tg it b) := by
  intro x h
  have h : (match vFor x with | some (t, y, xb, [], _) => chkIt C it y t && (chkTg C tg t && chkB C b xb) | _ => false) = true := h
  split at h
  · rename_i t y xb p ee
    have h := b2 h; have h1 := b2 h.2
    rw [vFor_eq ee]
    obtain ⟨i1, i2⟩ := ok_it G (ok_all call n it) h.1
    exact sn_for (X := X) G.calm i1 (chk_tg G h1.1) (hb xb h1.2) i2
  · cases h
theorem kB_cons {s r : S} (hs : OkS X C call s) (hr : OkB X C call r) : OkB X C call (.cons s r) := by
  intro xs h
  cases xs with
  | nil => exact nof h
  | cons x xs =>
    have h := b2 h
    exact sn_cons (X := X.nox) (hs x h.1) (hr xs h.2)
theorem okS_all (G : Good X C call n) : ∀ s : S, OkS X C call s ∧ OkB X C call s := by
  intro s
  induction s with
  | nil => exact ⟨fun x h => nof h, fun xs h => by cases xs with | nil => exact sn_nil (X := X.nox) | cons _ _ => exact nof h⟩
  | cons s r hs hr => exact ⟨fun x h => nof h, kB_cons hs.1 hr.2⟩
  | asg tg e => exact ⟨kS_asg G, fun xs h => nof h⟩
  | setix o i e => exact ⟨kS_setix G, fun xs h => nof h⟩
  | aug i o e => exact ⟨fun x h => by have h : chkS C (.aug i o e) x = true := h; cases x <;> exact nof h, fun xs h => nof h⟩
  | ret e => exact ⟨kS_ret G, fun xs h => nof h⟩
  | retN => exact ⟨kS_retN, fun xs h => nof h⟩
  | expr e => exact ⟨kS_expr G, fun xs h => nof h⟩
  | pass => exact ⟨kS_pass, fun xs h => nof h⟩
  | brk => exact ⟨kS_brk, fun xs h => nof h⟩
  | cont => exact ⟨kS_cont, fun xs h => nof h⟩
  | ife c a b ha hb => exact ⟨kS_ife G ha.2 hb.2, fun xs h => nof h⟩
  | whl c b hb => exact ⟨kS_whl G hb.2, fun xs h => nof h⟩
  | for_ tg it b hb => exact ⟨kS_for G hb.2, fun xs h => nof h⟩
theorem sndB (G : Good X C call n) (s : S) (xs : List Stmt) (h : chkB C s xs = true) : PSs X.nox xs (tS X.K call s) := (okS_all G s).2 xs h
end
/-! ### the defs of a text, all at once -/
/-- a def as it lies in the text: its name, its statement, its parameters, all its names -/
structure Df where
  name : String
  st : Stmt
  ps : List Str
  N : List Str
def Df.scope (d : Df) : Scope := defScope d.st
def Df.cc (d : Df) (fns : List Str) : CC := ⟨d.N, d.scope.names, fns, true⟩
/-- the def is of the form, and its small body is the one told -/
def Df.ok (fns : List Str) (d : Df) (fd : FDef) : Bool :=
  decide (d.scope.kind = .function) && !d.scope.isCoroutine && !d.scope.isGenerator && decide (d.N.Nodup) && decide (d.N.take d.ps.length = d.ps) && d.ps.all (fun x => decide (d.scope.names.lookup x = some .local ∨ d.scope.names.lookup x = some .cell)) &&
  d.scope.names.all (fun p => decide (p.2 ≠ .free)) && decide (fd.np = d.ps.length) && decide (fd.ns = d.N.length) && chkB (d.cc fns) fd.body (defBody d.st)
theorem Df.sc {fns : List Str} {d : Df} {fd : FDef} (h : Df.ok fns d fd = true) : FnScope d.N d.ps (defScope d.st) ∧ fd.np = d.ps.length ∧ fd.ns = d.N.length ∧ chkB (d.cc fns) fd.body (defBody d.st) = true := by
  have h0 := b2 h; have h1 := b2 h0.1; have h2 := b2 h1.1; have h3 := b2 h2.1; have h4 := b2 h3.1; have h5 := b2 h4.1; have h6 := b2 h5.1; have h7 := b2 h6.1; have h8 := b2 h7.1
  refine ⟨⟨de h8.1, nb h8.2, nb h7.2, de h6.2, de h5.2, fun x hx => ?_, fun y hy => ?_⟩, de h2.2, de h1.2, h0.2⟩
  · exact de (List.all_eq_true.mp h4.2 x hx)
  · exact de (List.all_eq_true.mp h3.2 y hy)
/-- one def, if all defs hold with one call less -/
theorem fn_step {P : Program} {w : World} {K : PySem.W.Frag} {mg : Str → Option Value} {base : Heap} {tab : List FDef} {fns : List Str} {d : Nat} {f : Nat} {fa : Addr} {fdd : FuncData} {df : Df} {fd : FDef} (F : Fun K (Str.ofString df.name) (Str.ofString df.name) df.st fa fdd) (hf : tab[f]? = some fd) (hok : df.ok fns fd = true)
    (fnsOk : ∀ (f : Nat) (x : Str), fns[f]? = some x → ∃ fa fd ps, mg x = some (.ref fa) ∧ PySem.W.keepIn K (.ref fa) = true ∧ Binds K fd ps [] ∧ FnOk P w K mg base CX0 d fa fd ps (spF K (callD tab d) f))
    (blt : ∀ b ∈ bltNames, mg (Str.ofString b) = none) : FnOk P w K mg base CX0 (d + 1) fa fdd df.ps (spF K (callD tab (d + 1)) f) := by
  obtain ⟨S, hnp, hns, hch⟩ := Df.sc hok
  have run : ∀ {args : List PV} {st : Sto}, callD tab (d + 1) f args st = if args.length = fd.np then (ex (callD tab d) fd.body (args.map some ++ List.replicate (fd.ns - fd.np) none) st).bind fun z => match z.1 with
      | .ret v => some (v, z.2.2)
      | .next => some (.non, z.2.2)
      | _ => none else none := fun {args st} => by
    simp only [callD, hf]
    first
      | done
      | (split
         · congr 1
         · rfl)
  refine F.ok S (fun vs H Q E h => ?_) (fun cdv A outer s H vs Q E hr h => ?_)
  · obtain ⟨μ, st, args, hs, r, k⟩ := h
    rw [run] at k
    by_cases hl : args.length = fd.np
    · rw [← r.length, hl, hnp]
    · rw [if_neg hl] at k; exact k.no.elim
  · obtain ⟨μ, st, args, hs, r, k⟩ := h
    rw [run] at k
    by_cases hl : args.length = fd.np
    · rw [if_pos hl] at k
      have G : Good (cxOf CX0 P w K mg base df.N (Str.ofString df.name) (defScope df.st) fa cdv A outer s H E) (df.cc fns) (callD tab d) d :=
        ⟨rfl, rfl, S.kind, S.nd, rfl, fun _ _ => rfl, hr, fnsOk, blt⟩
      refine ⟨_, sndB G fd.body (defBody df.st) hch, μ, args.map some ++ List.replicate (fd.ns - fd.np) none, st, ?_, hs, ?_⟩
      · have hlv := r.length
        refine ⟨?_, fun i p e => ?_⟩
        · unfold L2.start
          rw [List.length_append, List.length_append, List.length_map, List.length_map, List.length_replicate, List.length_replicate, hlv, hns, hnp, ← hlv, hl, hnp]
        · by_cases hi : i < args.length
          · rw [List.getElem?_append_left (by rw [List.length_map]; exact hi), List.getElem?_map] at e
            cases ea : args[i]? with
            | none => rw [ea] at e; cases e
            | some q =>
              rw [ea] at e; cases e
              obtain ⟨v, e1, r1⟩ := r.get ea
              refine ⟨v, ?_, r1⟩
              unfold L2.start
              rw [List.getElem?_append_left (by rw [List.length_map, ← hlv]; exact hi), List.getElem?_map, e1]; rfl
          · rw [List.getElem?_append_right (by rw [List.length_map]; omega), List.getElem?_replicate] at e
            split at e <;> cases e
      · obtain ⟨rr, stE, e, q⟩ := k
        cases ee : ex (callD tab d) fd.body (args.map some ++ List.replicate (fd.ns - fd.np) none) st with
        | none => rw [ee] at e; cases e
        | some z =>
          obtain ⟨fl, L', st'⟩ := z
          rw [ee] at e
          simp only [Option.bind_some] at e
          refine ⟨fl, L', st', rfl, fun H' μ' σ' x s' l' => ?_⟩
          cases fl with
          | next => cases e; exact q .non H' μ' x s' rfl
          | ret v => cases e; exact fun u ru => q u H' μ' x s' ru
          | brk => cases e
          | cont => cases e
    · rw [if_neg hl] at k; exact k.no.elim
/-- all defs, at every depth -/
theorem all_fns {P : Program} {w : World} {K : PySem.W.Frag} {mg : Str → Option Value} {base : Heap} {tab : List FDef} {fns : List Str} (blt : ∀ b ∈ bltNames, mg (Str.ofString b) = none)
    (D : ∀ (f : Nat) (x : Str), fns[f]? = some x → ∃ df fd fa fdd, tab[f]? = some fd ∧ Df.ok fns df fd = true ∧ Fun K (Str.ofString df.name) (Str.ofString df.name) df.st fa fdd ∧ mg x = some (.ref fa) ∧ Binds K fdd df.ps []) :
    ∀ (d f : Nat) (x : Str), fns[f]? = some x → ∃ fa fd ps, mg x = some (.ref fa) ∧ PySem.W.keepIn K (.ref fa) = true ∧ Binds K fd ps [] ∧ FnOk P w K mg base CX0 d fa fd ps (spF K (callD tab d) f)
  | 0, f, x, h => by
    obtain ⟨df, fd, fa, fdd, h1, h2, h3, h4, h5⟩ := D f x h
    have no : ∀ vs H Q E, ¬ spF K (callD tab 0) f vs H Q E := fun vs H Q E ⟨μ, st, args, hs, r, k⟩ => by
      simp only [callD] at k
      exact k.no
    exact ⟨fa, fdd, df.ps, h4, h3.kp, h5, fun vs H Q E z => absurd z (no vs H Q E), fun A outer s H args us vs Q E _ _ _ _ z => absurd z (no vs H Q E)⟩
  | d + 1, f, x, h => by
    obtain ⟨df, fd, fa, fdd, h1, h2, h3, h4, h5⟩ := D f x h
    exact ⟨fa, fdd, df.ps, h4, h3.kp, h5, fn_step h3 h1 h2 (all_fns blt D d) blt⟩
/-- the law's call -/
theorem law_sp {K : PySem.W.Frag} {tab : List FDef} {d f : Nat} {H : Hp} {a : Addr} {ns : List Int} (hO : Only H) (hS : SqL K H a (ns.map V.int)) (h : ∃ st, callD tab d f [.scr ns] [] = some (.bl true, st)) :
    spF K (callD tab d) f [.ref a] H (fun v _ => v = .bl true) fun _ _ _ => False := by
  obtain ⟨st, e⟩ := h
  refine ⟨[], [], [.scr ns], ⟨rfl, List.nodup_nil, fun l a ps e1 e2 => by simp at e1⟩, RPs.one ⟨a, rfl, hS, ?_⟩, .bl true, st, e, fun v H' μ' x s' r => r⟩
  rcases hS with (h | ⟨o, h⟩) | h
  · rcases hO a with z | ⟨o, xs, z⟩
    · rw [z] at h; cases h
    · rw [z] at h; cases h
  · exact .inl ⟨o, h⟩
  · exact .inr (.inr h)
end Kw
end
section
/-! Proofs about the small language: what a run gives, loops, defs. -/
set_option linter.all false
namespace Kw
/-- the run ends, and Q of what it gives -/
def wp {α : Type} (r : Option α) (Q : α → Prop) : Prop := ∃ x, r = some x ∧ Q x
@[simp] theorem wp_some {α : Type} (x : α) (Q : α → Prop) : wp (some x) Q ↔ Q x := by
  simp [wp]
@[simp] theorem wp_none {α : Type} (Q : α → Prop) : wp (none : Option α) Q ↔ False := by
  simp [wp]
theorem wp_bind {α β : Type} (r : Option α) (f : α → Option β) (Q : β → Prop) : wp (r.bind f) Q ↔ wp r (fun x => wp (f x) Q) := by
  cases r <;> simp [wp]
theorem wp_map {α β : Type} (r : Option α) (f : α → β) (Q : β → Prop) : wp (r.map f) Q ↔ wp r (fun x => Q (f x)) := by
  cases r <;> simp [wp]
@[simp] theorem wp_ite {α : Type} (c : Prop) [Decidable c] (a b : Option α) (Q : α → Prop) : wp (if c then a else b) Q ↔ (if c then wp a Q else wp b Q) := by
  split <;> rfl
theorem wp_mono {α : Type} {r : Option α} {Q P : α → Prop} (h : wp r Q) (H : ∀ x, Q x → P x) : wp r P := by
  obtain ⟨x, e, q⟩ := h
  exact ⟨x, e, H x q⟩
theorem wp_of_eq {α : Type} {r : Option α} {x : α} {Q : α → Prop} (h : r = some x) (q : Q x) : wp r Q := ⟨x, h, q⟩
theorem wp_eq {α : Type} {r : Option α} {x : α} (h : wp r (· = x)) : r = some x := by
  obtain ⟨y, h, rfl⟩ := h; exact h
def retOf : Fl × Loc × Sto → R PV
  | (.ret v, _, st) => some (v, st)
  | (.next, _, st) => some (.non, st)
  | _ => none
@[simp] theorem retOf_ret {v : PV} {L : Loc} {st : Sto} : retOf (.ret v, L, st) = some (v, st) := rfl
@[simp] theorem retOf_next {L : Loc} {st : Sto} : retOf (.next, L, st) = some (.non, st) := rfl
theorem callD_at {tb : List FDef} {d f : Nat} {args : List PV} {st : Sto} {fd : FDef} (h : tb[f]? = some fd) (hl : args.length = fd.np) :
    callD tb (d + 1) f args st = (ex (callD tb d) fd.body (args.map some ++ List.replicate (fd.ns - fd.np) none) st).bind retOf := by
  simp only [callD, h, hl, if_true]
  congr 1
  funext z
  obtain ⟨f, L, st⟩ := z
  cases f <;> rfl
theorem wp_callD {tb : List FDef} {d f : Nat} {args : List PV} {st : Sto} {fd : FDef} {Q : PV × Sto → Prop} (h : tb[f]? = some fd) (hl : args.length = fd.np)
    (H : wp (ex (callD tb d) fd.body (args.map some ++ List.replicate (fd.ns - fd.np) none) st) (fun z => wp (retOf z) Q)) : wp (callD tb (d + 1) f args st) Q := by
  rw [callD_at h hl, wp_bind]; exact H
theorem upto_len (n : Nat) : ∀ lo : Int, (upto lo n).length = n := by
  induction n with
  | zero => intro lo; rfl
  | succ n ih => intro lo; simp [upto, ih]

section
variable {call : Nat → List PV → Sto → R PV}
/-- a name's value -/
def lk (L : Loc) (i : Nat) : Option PV := match L[i]? with
  | some (some v) => some v
  | _ => none
@[simp] theorem lk_zero (x : Option PV) (L : Loc) : lk (x :: L) 0 = x := by cases x <;> rfl
@[simp] theorem lk_succ (x : Option PV) (L : Loc) (n : Nat) : lk (x :: L) (n + 1) = lk L n := by simp [lk]
/-- an item's place, from either end -/
theorem atI_nat {xs : List PV} {i : Int} {n : Nat} {v : PV} (h : i = n) (hv : xs[n]? = some v) : atI xs i = some v := by
  subst h
  have := (List.getElem?_eq_some_iff.mp hv).1
  simp only [Kw.atI, ixN, Int.natCast_nonneg, if_true, Int.ofNat_lt, this, Option.bind_some, Int.toNat_natCast, hv]
variable (L : Loc) (st : Sto) (Q : PV × Sto → Prop)
@[simp] theorem w_var (i : Nat) : wp (ev call (.var i) L st) Q ↔ wp (lk L i) (fun v => Q (v, st)) := by
  simp only [ev, lk]; rcases L[i]? with _ | _ | v <;> simp
@[simp] theorem w_int (i : Int) : wp (ev call (.int i) L st) Q ↔ Q (.int i, st) := by simp [ev]
@[simp] theorem w_bl (b : Bool) : wp (ev call (.bl b) L st) Q ↔ Q (.bl b, st) := by simp [ev]
@[simp] theorem w_non : wp (ev call .non L st) Q ↔ Q (.non, st) := by simp [ev]
@[simp] theorem w_str (x : String) : wp (ev call (.str x) L st) Q ↔ Q (.str x, st) := by simp [ev]
@[simp] theorem w_bin (op : BOp) (a b : E) : wp (ev call (.bin op a b) L st) Q ↔ wp (ev call a L st) (fun x => wp (ev call b L x.2) (fun y => wp (binop op x.1 y.1 y.2) Q)) := by
  simp [ev, wp_bind]
@[simp] theorem w_cmp (op : COp) (a b : E) : wp (ev call (.cmp op a b) L st) Q ↔ wp (ev call a L st) (fun x => wp (ev call b L x.2) (fun y => wp (cmpop op x.1 y.1 y.2) (fun r => Q (.bl r, y.2)))) := by
  simp [ev, wp_bind]
@[simp] theorem w_is (k : Bool) (a : E) : wp (ev call (.is k a .non) L st) Q ↔ wp (ev call a L st) (fun x => Q (.bl (k != decide (x.1 = .non)), x.2)) := by
  simp [ev, wp_bind]
@[simp] theorem w_isb (k b : Bool) (a : E) : wp (ev call (.is k a (.bl b)) L st) Q ↔ wp (ev call a L st) (fun x => Q (.bl (k != decide (x.1 = .bl b)), x.2)) := by
  simp [ev, wp_bind]
@[simp] theorem w_chain (o p : COp) (a b c : E) : wp (ev call (.chain o p a b c) L st) Q ↔ wp (ev call a L st) (fun x => wp (ev call b L x.2) (fun y => wp (cmpop o x.1 y.1 y.2) (fun r =>
    if r = true then wp (ev call c L y.2) (fun z => wp (cmpop p y.1 z.1 z.2) (fun q => Q (.bl q, z.2))) else Q (.bl false, y.2)))) := by
  simp [ev, wp_bind]
/-- a truth, where it must be one -/
def isB : PV → Option Bool
  | .bl b => some b
  | _ => none
@[simp] theorem isB_bl (b : Bool) : isB (.bl b) = some b := rfl
@[simp] theorem w_and (a b : E) : wp (ev call (.and a b) L st) Q ↔ wp (ev call a L st) (fun x => wp (isB x.1) (fun r => if r = true then wp (ev call b L x.2) Q else Q (.bl false, x.2))) := by
  simp only [ev, wp_bind]
  apply iff_of_eq; congr 1; funext ⟨x, s⟩; cases x <;> simp [isB]
@[simp] theorem w_or (a b : E) : wp (ev call (.or a b) L st) Q ↔ wp (ev call a L st) (fun x => wp (isB x.1) (fun r => if r = true then Q (.bl true, x.2) else wp (ev call b L x.2) Q)) := by
  simp only [ev, wp_bind]
  apply iff_of_eq; congr 1; funext ⟨x, s⟩; cases x <;> simp [isB]
@[simp] theorem w_not (a : E) : wp (ev call (.not a) L st) Q ↔ wp (ev call a L st) (fun x => wp (isB x.1) (fun r => Q (.bl (!r), x.2))) := by
  simp only [ev, wp_bind]
  apply iff_of_eq; congr 1; funext ⟨x, s⟩; cases x <;> simp [isB]
/-- a number, where it must be one -/
def isI : PV → Option Int
  | .int i => some i
  | _ => none
@[simp] theorem isI_int (i : Int) : isI (.int i) = some i := rfl
@[simp] theorem w_neg (a : E) : wp (ev call (.neg a) L st) Q ↔ wp (ev call a L st) (fun x => wp (isI x.1) (fun i => Q (.int (-i), x.2))) := by
  simp only [ev, wp_bind]
  apply iff_of_eq; congr 1; funext ⟨x, s⟩; cases x <;> simp [isI]
@[simp] theorem w_ite (c a b : E) : wp (ev call (.ite c a b) L st) Q ↔ wp (evT call c L st) (fun r => if r.1 = true then wp (ev call a L r.2) Q else wp (ev call b L r.2) Q) := by
  simp [ev, wp_bind]
@[simp] theorem w_tup (es : E) : wp (ev call (.tup es) L st) Q ↔ wp (evs call es L st) (fun x => x.1.length ≤ big ∧ Q (.tup x.1, x.2)) := by
  simp [ev, wp_bind]
@[simp] theorem w_lst (es : E) : wp (ev call (.lst es) L st) Q ↔ wp (evs call es L st) (fun x => x.1.length ≤ big ∧ Q (.ref x.2.length, x.2 ++ [.lst x.1])) := by
  simp [ev, wp_bind, alloc]
@[simp] theorem w_ix (a i : E) : wp (ev call (.ix a i) L st) Q ↔ wp (ev call a L st) (fun x => wp (ev call i L x.2) (fun y => wp (isI y.1) (fun j => wp (seqOf y.2 x.1) (fun xs => wp (Kw.atI xs j) (fun v => Q (v, y.2)))))) := by
  simp only [ev, wp_bind]
  apply iff_of_eq; congr 1; funext ⟨x, s⟩; congr 1; funext ⟨y, s⟩; cases y <;> simp [isI, wp_bind]
@[simp] theorem w_sl (a lo hi : E) : wp (ev call (.sl a lo hi) L st) Q ↔ wp (ev call a L st) (fun x => wp (evO call lo L x.2) (fun l => wp (evO call hi L l.2) (fun h => wp (slice h.2 x.1 l.1 h.1) Q))) := by
  simp [ev, wp_bind]
@[simp] theorem w_call (f : Nat) (es : E) : wp (ev call (.call f es) L st) Q ↔ wp (evs call es L st) (fun x => wp (call f x.1 x.2) Q) := by
  simp [ev, wp_bind]
@[simp] theorem w_blt (f : BF) (es : E) : wp (ev call (.blt f es) L st) Q ↔ wp (evs call es L st) (fun x => wp (bfun f x.1 x.2) Q) := by
  simp [ev, wp_bind]
@[simp] theorem w_isi (a : E) (ts : List Ty) : wp (ev call (.isi a ts) L st) Q ↔ wp (ev call a L st) (fun x => wp (isTys x.2 x.1 ts) (fun r => Q (.bl r, x.2))) := by
  simp [ev, wp_bind]
@[simp] theorem w_meth (f : MF) (o a : E) : wp (ev call (.meth f o a) L st) Q ↔ wp (ev call o L st) (fun x => wp (ev call a L x.2) (fun y => wp (mfun f x.1 y.1 y.2) Q)) := by
  simp [ev, wp_bind]
/-- what a comprehension reckons at a turn -/
def elOf (call : Nat → List PV → Sto → R PV) (e : E) (L : Loc) (st : Sto) : R PV := ev call e L st
def tsOf (call : Nat → List PV → Sto → R PV) (e : E) (L : Loc) (st : Sto) : R Bool := evTs call e L st
def bdOf (call : Nat → List PV → Sto → R PV) (s : S) (L : Loc) (st : Sto) : RS := ex call s L st
theorem w_el (e : E) : wp (elOf call e L st) Q ↔ wp (ev call e L st) Q := Iff.rfl
theorem w_tsO (e : E) (Q : Bool × Sto → Prop) : wp (tsOf call e L st) Q ↔ wp (evTs call e L st) Q := Iff.rfl
theorem tsOf_nil : tsOf call .nil = fun _ s => some (true, s) := by funext L s; simp [tsOf, evTs]
@[simp] theorem w_comp (el : E) (tg : Tg) (n m : Nat) (it ifs : E) : wp (ev call (.comp el tg n m it ifs) L st) Q ↔
    wp (evI call it L st) (fun x => L.length = n ∧ wp (compItems tg x.2.1 (tsOf call ifs) (elOf call el) (L ++ List.replicate m none) x.1 x.2.2) (fun y => y.1.length ≤ big ∧ Q (.ref y.2.length, y.2 ++ [.lst y.1]))) := by
  simp [ev, wp_bind, alloc]; rfl
-- tests
theorem wT_of (e : E) (Q : Bool × Sto → Prop) (h : ∀ L st, evT call e L st = (ev call e L st).bind fun (x, st1) => (truthy st1 x).bind fun r => some (r, st1)) : wp (evT call e L st) Q ↔ wp (ev call e L st) (fun x => wp (truthy x.2 x.1) (fun r => Q (r, x.2))) := by
  simp [h, wp_bind]
section
variable (Q : Bool × Sto → Prop)
@[simp] theorem wT_not (a : E) : wp (evT call (.not a) L st) Q ↔ wp (evT call a L st) (fun r => Q (!r.1, r.2)) := by simp [evT, wp_bind]
@[simp] theorem wT_and (a b : E) : wp (evT call (.and a b) L st) Q ↔ wp (evT call a L st) (fun r => if r.1 = true then wp (evT call b L r.2) Q else Q (false, r.2)) := by simp [evT, wp_bind]
@[simp] theorem wT_or (a b : E) : wp (evT call (.or a b) L st) Q ↔ wp (evT call a L st) (fun r => if r.1 = true then Q (true, r.2) else wp (evT call b L r.2) Q) := by simp [evT, wp_bind]
@[simp] theorem wT_ite (c a b : E) : wp (evT call (.ite c a b) L st) Q ↔ wp (evT call c L st) (fun r => if r.1 = true then wp (evT call a L r.2) Q else wp (evT call b L r.2) Q) := by simp [evT, wp_bind]
@[simp] theorem wT_var (i : Nat) : wp (evT call (.var i) L st) Q ↔ wp (ev call (.var i) L st) (fun x => wp (truthy x.2 x.1) (fun r => Q (r, x.2))) := wT_of _ _ _ _ fun _ _ => by simp only [evT]
@[simp] theorem wT_bl (i : Bool) : wp (evT call (.bl i) L st) Q ↔ wp (ev call (.bl i) L st) (fun x => wp (truthy x.2 x.1) (fun r => Q (r, x.2))) := wT_of _ _ _ _ fun _ _ => by simp only [evT]
@[simp] theorem wT_cmp (o : COp) (a b : E) : wp (evT call (.cmp o a b) L st) Q ↔ wp (ev call (.cmp o a b) L st) (fun x => wp (truthy x.2 x.1) (fun r => Q (r, x.2))) := wT_of _ _ _ _ fun _ _ => by simp only [evT]
@[simp] theorem wT_chain (o p : COp) (a b c : E) : wp (evT call (.chain o p a b c) L st) Q ↔ wp (ev call (.chain o p a b c) L st) (fun x => wp (truthy x.2 x.1) (fun r => Q (r, x.2))) := wT_of _ _ _ _ fun _ _ => by simp only [evT]
@[simp] theorem wT_is (k : Bool) (a b : E) : wp (evT call (.is k a b) L st) Q ↔ wp (ev call (.is k a b) L st) (fun x => wp (truthy x.2 x.1) (fun r => Q (r, x.2))) := wT_of _ _ _ _ fun _ _ => by simp only [evT]
@[simp] theorem wT_isi (a : E) (ts : List Ty) : wp (evT call (.isi a ts) L st) Q ↔ wp (ev call (.isi a ts) L st) (fun x => wp (truthy x.2 x.1) (fun r => Q (r, x.2))) := wT_of _ _ _ _ fun _ _ => by simp only [evT]
@[simp] theorem wT_call (f : Nat) (es : E) : wp (evT call (.call f es) L st) Q ↔ wp (ev call (.call f es) L st) (fun x => wp (truthy x.2 x.1) (fun r => Q (r, x.2))) := wT_of _ _ _ _ fun _ _ => by simp only [evT]
@[simp] theorem wT_blt (f : BF) (es : E) : wp (evT call (.blt f es) L st) Q ↔ wp (ev call (.blt f es) L st) (fun x => wp (truthy x.2 x.1) (fun r => Q (r, x.2))) := wT_of _ _ _ _ fun _ _ => by simp only [evT]
@[simp] theorem wT_bin (f : BOp) (a b : E) : wp (evT call (.bin f a b) L st) Q ↔ wp (ev call (.bin f a b) L st) (fun x => wp (truthy x.2 x.1) (fun r => Q (r, x.2))) := wT_of _ _ _ _ fun _ _ => by simp only [evT]
@[simp] theorem wT_ix (a b : E) : wp (evT call (.ix a b) L st) Q ↔ wp (ev call (.ix a b) L st) (fun x => wp (truthy x.2 x.1) (fun r => Q (r, x.2))) := wT_of _ _ _ _ fun _ _ => by simp only [evT]
@[simp] theorem wTs_nil : wp (evTs call .nil L st) Q ↔ Q (true, st) := by simp [evTs]
@[simp] theorem wTs_cons (e es : E) : wp (evTs call (.cons e es) L st) Q ↔ wp (evT call e L st) (fun r => if r.1 = true then wp (evTs call es L r.2) Q else Q (false, r.2)) := by simp [evTs, wp_bind]
end
@[simp] theorem ws_nil (Q : List PV × Sto → Prop) : wp (evs call .nil L st) Q ↔ Q ([], st) := by simp [evs]
@[simp] theorem ws_cons (e es : E) (Q : List PV × Sto → Prop) : wp (evs call (.cons e es) L st) Q ↔ wp (ev call e L st) (fun x => wp (evs call es L x.2) (fun xs => Q (x.1 :: xs.1, xs.2))) := by simp [evs, wp_bind]
-- the ends of a cut
section
variable (Q : Option Int × Sto → Prop)
@[simp] theorem wO_none : wp (evO call .none L st) Q ↔ Q (none, st) := by simp [evO]
theorem wO_of (e : E) (h : e ≠ .none) : wp (evO call e L st) Q ↔ wp (ev call e L st) (fun x => wp (isI x.1) (fun i => Q (some i, x.2))) := by
  have : evO call e L st = (ev call e L st).bind fun (x, st1) => match x with
    | .int i => some (some i, st1)
    | _ => none := by cases e <;> first | (exact absurd rfl h) | (simp only [evO]; done) | (simp only [evO]; rfl)
  rw [this, wp_bind]
  apply iff_of_eq; congr 1; funext ⟨x, s⟩; cases x <;> simp [isI]
@[simp] theorem wO_int (i : Int) : wp (evO call (.int i) L st) Q ↔ Q (some i, st) := by rw [wO_of _ _ _ _ (by simp)]; simp
@[simp] theorem wO_var (i : Nat) : wp (evO call (.var i) L st) Q ↔ wp (ev call (.var i) L st) (fun x => wp (isI x.1) (fun i => Q (some i, x.2))) := wO_of _ _ _ _ (by simp)
@[simp] theorem wO_bin (f : BOp) (a b : E) : wp (evO call (.bin f a b) L st) Q ↔ wp (ev call (.bin f a b) L st) (fun x => wp (isI x.1) (fun i => Q (some i, x.2))) := wO_of _ _ _ _ (by simp)
@[simp] theorem wO_ix (a b : E) : wp (evO call (.ix a b) L st) Q ↔ wp (ev call (.ix a b) L st) (fun x => wp (isI x.1) (fun i => Q (some i, x.2))) := wO_of _ _ _ _ (by simp)
@[simp] theorem wO_blt (f : BF) (a : E) : wp (evO call (.blt f a) L st) Q ↔ wp (ev call (.blt f a) L st) (fun x => wp (isI x.1) (fun i => Q (some i, x.2))) := wO_of _ _ _ _ (by simp)
@[simp] theorem wO_call (f : Nat) (a : E) : wp (evO call (.call f a) L st) Q ↔ wp (ev call (.call f a) L st) (fun x => wp (isI x.1) (fun i => Q (some i, x.2))) := wO_of _ _ _ _ (by simp)
end
-- walks
section
variable (Q : List PV × Gd × Sto → Prop)
@[simp] theorem wI_rng (a : E) : wp (evI call (.rng a) L st) Q ↔ wp (ev call a L st) (fun x => wp (isI x.1) (fun j => small62 j = true ∧ Q (upto 0 j.toNat, [], x.2))) := by
  simp only [evI, wp_bind]
  apply iff_of_eq; congr 1; funext ⟨x, s⟩; cases x <;> simp [isI]
@[simp] theorem wI_rng2 (a b : E) : wp (evI call (.rng2 a b) L st) Q ↔ wp (ev call a L st) (fun x => wp (ev call b L x.2) (fun y => wp (isI x.1) (fun i => wp (isI y.1) (fun j => (small62 i && small62 j) = true ∧ Q (upto i (j - i).toNat, [], y.2))))) := by
  simp only [evI, wp_bind]
  apply iff_of_eq; congr 1; funext ⟨x, s⟩; congr 1; funext ⟨y, s⟩; cases x <;> cases y <;> simp [isI]
@[simp] theorem wI_zip (a b : E) : wp (evI call (.zip a b) L st) Q ↔ wp (ev call a L st) (fun x => wp (ev call b L x.2) (fun y => wp (listOf y.2 x.1) (fun xs => wp (listOf y.2 y.1) (fun ys => Q (xs.zipWith (fun p q => .tup [p, q]) ys, gdOf x.1 xs ++ gdOf y.1 ys, y.2))))) := by
  simp [evI, wp_bind]
theorem wI_of (e : E) (h : ∀ L st, evI call e L st = (ev call e L st).bind fun (x, st1) => (seqOf st1 x).bind fun xs => some (xs, gdOf x xs, st1)) : wp (evI call e L st) Q ↔ wp (ev call e L st) (fun x => wp (seqOf x.2 x.1) (fun xs => Q (xs, gdOf x.1 xs, x.2))) := by
  simp [h, wp_bind]
@[simp] theorem wI_var (i : Nat) : wp (evI call (.var i) L st) Q ↔ wp (ev call (.var i) L st) (fun x => wp (seqOf x.2 x.1) (fun xs => Q (xs, gdOf x.1 xs, x.2))) := wI_of _ _ _ _ fun _ _ => by simp only [evI]
@[simp] theorem wI_call (f : Nat) (es : E) : wp (evI call (.call f es) L st) Q ↔ wp (ev call (.call f es) L st) (fun x => wp (seqOf x.2 x.1) (fun xs => Q (xs, gdOf x.1 xs, x.2))) := wI_of _ _ _ _ fun _ _ => by simp only [evI]
@[simp] theorem wI_ix (a b : E) : wp (evI call (.ix a b) L st) Q ↔ wp (ev call (.ix a b) L st) (fun x => wp (seqOf x.2 x.1) (fun xs => Q (xs, gdOf x.1 xs, x.2))) := wI_of _ _ _ _ fun _ _ => by simp only [evI]
@[simp] theorem wI_lst (a : E) : wp (evI call (.lst a) L st) Q ↔ wp (ev call (.lst a) L st) (fun x => wp (seqOf x.2 x.1) (fun xs => Q (xs, gdOf x.1 xs, x.2))) := wI_of _ _ _ _ fun _ _ => by simp only [evI]
@[simp] theorem wI_sl (a b c : E) : wp (evI call (.sl a b c) L st) Q ↔ wp (ev call (.sl a b c) L st) (fun x => wp (seqOf x.2 x.1) (fun xs => Q (xs, gdOf x.1 xs, x.2))) := wI_of _ _ _ _ fun _ _ => by simp only [evI]
end
-- operators
@[simp] theorem b_add (i j : Int) : binop .add (.int i) (.int j) st = some (.int (i + j), st) := rfl
@[simp] theorem b_sub (i j : Int) : binop .sub (.int i) (.int j) st = some (.int (i - j), st) := rfl
@[simp] theorem b_mul (i j : Int) : binop .mul (.int i) (.int j) st = if small i || small j then some (.int (i * j), st) else none := rfl
@[simp] theorem b_fdiv (i j : Int) : binop .fdiv (.int i) (.int j) st = if 0 < j ∧ j < 1073741824 then some (.int (i / j), st) else none := rfl
@[simp] theorem b_mod (i j : Int) : binop .mod (.int i) (.int j) st = if 0 < j then some (.int (i % j), st) else none := rfl
@[simp] theorem b_pow (i j : Int) : binop .pow (.int i) (.int j) st = if 0 ≤ j ∧ j ≤ 1000 ∧ small i then some (.int (i ^ j.toNat), st) else none := rfl
@[simp] theorem b_addt (xs ys : List PV) : binop .add (.tup xs) (.tup ys) st = if xs ≠ [] ∧ xs.length + ys.length ≤ big then some (.tup (xs ++ ys), st) else none := rfl
@[simp] theorem c_eq (a b : PV) : cmpop .eq a b st = eqv st a b := rfl
@[simp] theorem c_ne (a b : PV) : cmpop .ne a b st = (eqv st a b).map (!·) := rfl
@[simp] theorem c_lt (i j : Int) : cmpop .lt (.int i) (.int j) st = some (decide (i < j)) := rfl
@[simp] theorem c_le (i j : Int) : cmpop .le (.int i) (.int j) st = some (decide (i ≤ j)) := rfl
@[simp] theorem c_gt (i j : Int) : cmpop .gt (.int i) (.int j) st = some (decide (j < i)) := rfl
@[simp] theorem c_ge (i j : Int) : cmpop .ge (.int i) (.int j) st = some (decide (j ≤ i)) := rfl
@[simp] theorem e_ii (i j : Int) : eqv st (.int i) (.int j) = some (i == j) := rfl
@[simp] theorem e_ss (i j : String) : eqv st (.str i) (.str j) = some (i == j) := rfl
@[simp] theorem e_bb (i j : Bool) : eqv st (.bl i) (.bl j) = some (i == j) := rfl
@[simp] theorem q_tup (xs : List PV) : seqOf st (.tup xs) = some xs := rfl
@[simp] theorem q_ref (l : Nat) : seqOf st (.ref l) = listOf st (.ref l) := rfl
@[simp] theorem q_scr (ns : List Int) : seqOf st (.scr ns) = some (ns.map .int) := rfl
@[simp] theorem l_scr (ns : List Int) : listOf st (.scr ns) = some (ns.map .int) := rfl
theorem l_ref {st : Sto} {l : Nat} {xs : List PV} (h : st[l]? = some (.lst xs)) : listOf st (.ref l) = some xs := by simp [listOf, h]
@[simp] theorem l_new (xs : List PV) : listOf (st ++ [.lst xs]) (.ref st.length) = some xs := by simp [listOf]
@[simp] theorem t_bl (b : Bool) : truthy st (.bl b) = some b := rfl
@[simp] theorem t_int (b : Int) : truthy st (.int b) = some (b != 0) := rfl
@[simp] theorem t_non : truthy st .non = some false := rfl
@[simp] theorem t_tup (xs : List PV) : truthy st (.tup xs) = some (!xs.isEmpty) := rfl
@[simp] theorem f_len (v : PV) (Q : PV × Sto → Prop) : wp (bfun .len [v] st) Q ↔ wp (seqOf st v) (fun xs => Q (.int xs.length, st)) := by simp [bfun, wp_bind]
@[simp] theorem f_abs (i : Int) : bfun .abs [.int i] st = some (.int (if i < 0 then -i else i), st) := rfl
@[simp] theorem f_int (i : Int) : bfun .int [.int i] st = some (.int i, st) := rfl
@[simp] theorem f_intb (b : Bool) : bfun .int [.bl b] st = some (.int (if b then 1 else 0), st) := rfl
@[simp] theorem f_sum (v : PV) : wp (bfun .sum [v] st) Q ↔ wp (listOf st v) (fun xs => wp (sumI xs) (fun n => Q (.int n, st))) := by simp [bfun, wp_bind]
@[simp] theorem f_all (v : PV) : wp (bfun .all [v] st) Q ↔ wp (listOf st v) (fun xs => wp (bools xs) (fun bs => Q (.bl (bs.all id), st))) := by simp [bfun, wp_bind]
@[simp] theorem f_any (v : PV) : wp (bfun .any [v] st) Q ↔ wp (listOf st v) (fun xs => wp (bools xs) (fun bs => Q (.bl (bs.any id), st))) := by simp [bfun, wp_bind]
@[simp] theorem f_min (i j : Int) : bfun .min [.int i, .int j] st = some (.int (if j < i then j else i), st) := rfl
@[simp] theorem f_max (i j : Int) : bfun .max [.int i, .int j] st = some (.int (if j > i then j else i), st) := rfl
@[simp] theorem f_tuple (v : PV) : wp (bfun .tuple [v] st) Q ↔ wp (seqOf st v) (fun xs => Q (.tup xs, st)) := by simp [bfun, wp_bind]
@[simp] theorem f_list (v : PV) : wp (bfun .list [v] st) Q ↔ wp (seqOf st v) (fun xs => Q (.ref st.length, st ++ [.lst xs])) := by simp [bfun, wp_bind]
@[simp] theorem m_append (l : Nat) (v : PV) : wp (mfun .append (.ref l) v st) Q ↔ wp (listOf st (.ref l)) (fun xs => xs.length < big ∧ Q (.non, st.set l (.lst (xs ++ [v])))) := by
  simp only [mfun, listOf]; rcases st[l]? with _ | ⟨xs⟩ <;> simp
@[simp] theorem y_tup (xs : List PV) (t : Ty) : isTy st (.tup xs) t = some (t == .tuple) := rfl
@[simp] theorem y_int (i : Int) (t : Ty) : isTy st (.int i) t = some (t == .int) := rfl
@[simp] theorem y_bl (b : Bool) (t : Ty) : isTy st (.bl b) t = some (t == .int || t == .bool) := rfl
@[simp] theorem y_str (x : String) (t : Ty) : isTy st (.str x) t = some (t == .str) := rfl
@[simp] theorem y_non (t : Ty) : isTy st .non t = some false := rfl
@[simp] theorem y_ref (l : Nat) (t : Ty) (Q : Bool → Prop) : wp (isTy st (.ref l) t) Q ↔ wp (listOf st (.ref l)) (fun _ => Q (t == .list)) := by
  simp only [isTy, listOf]; rcases st[l]? with _ | ⟨xs⟩ <;> simp
@[simp] theorem ys_nil (v : PV) : isTys st v [] = some false := rfl
@[simp] theorem ys_cons (v : PV) (t : Ty) (r : List Ty) (Q : Bool → Prop) : wp (isTys st v (t :: r)) Q ↔ wp (isTy st v t) (fun a => wp (isTys st v r) (fun b => Q (a || b))) := by simp [isTys, wp_bind]
end
-- statements
section
variable {call : Nat → List PV → Sto → R PV}
/-- what is behind a statement -/
def after (call : Nat → List PV → Sto → R PV) (r : S) (Q : Fl × Loc × Sto → Prop) : Fl × Loc × Sto → Prop
  | (.next, L, st) => wp (ex call r L st) Q
  | z => Q z
variable (L : Loc) (st : Sto) (Q : Fl × Loc × Sto → Prop)
@[simp] theorem after_next (r : S) : after call r Q (.next, L, st) ↔ wp (ex call r L st) Q := Iff.rfl
@[simp] theorem after_ret (r : S) (v : PV) : after call r Q (.ret v, L, st) ↔ Q (.ret v, L, st) := Iff.rfl
@[simp] theorem after_brk (r : S) : after call r Q (.brk, L, st) ↔ Q (.brk, L, st) := Iff.rfl
@[simp] theorem after_cont (r : S) : after call r Q (.cont, L, st) ↔ Q (.cont, L, st) := Iff.rfl
theorem after_nil : after call .nil Q = Q := by
  funext ⟨f, L, st⟩; cases f <;> simp [after, ex]
@[simp] theorem x_nil : wp (ex call .nil L st) Q ↔ Q (.next, L, st) := by simp [ex]
@[simp] theorem x_cons (s r : S) : wp (ex call (.cons s r) L st) Q ↔ wp (ex call s L st) (after call r Q) := by
  simp only [ex, wp_bind]
  apply iff_of_eq; congr 1; funext ⟨f, L, st⟩; cases f <;> simp [after]
@[simp] theorem x_asg (tg : Tg) (e : E) : wp (ex call (.asg tg e) L st) Q ↔ wp (ev call e L st) (fun x => wp (asgT tg x.1 L x.2) (fun L1 => Q (.next, L1, x.2))) := by
  simp [ex, wp_bind, wp_map]
@[simp] theorem x_ret (e : E) : wp (ex call (.ret e) L st) Q ↔ wp (ev call e L st) (fun x => Q (.ret x.1, L, x.2)) := by simp [ex, wp_map]
@[simp] theorem x_retN : wp (ex call .retN L st) Q ↔ Q (.ret .non, L, st) := by simp [ex]
@[simp] theorem x_expr (e : E) : wp (ex call (.expr e) L st) Q ↔ wp (ev call e L st) (fun x => Q (.next, L, x.2)) := by simp [ex, wp_map]
@[simp] theorem x_pass : wp (ex call .pass L st) Q ↔ Q (.next, L, st) := by simp [ex]
@[simp] theorem x_brk : wp (ex call .brk L st) Q ↔ Q (.brk, L, st) := by simp [ex]
@[simp] theorem x_cont : wp (ex call .cont L st) Q ↔ Q (.cont, L, st) := by simp [ex]
@[simp] theorem x_ife (c : E) (a b : S) : wp (ex call (.ife c a b) L st) Q ↔ wp (evT call c L st) (fun r => if r.1 = true then wp (ex call a L r.2) Q else wp (ex call b L r.2) Q) := by simp [ex, wp_bind]
@[simp] theorem x_for (tg : Tg) (it : E) (b : S) : wp (ex call (.for_ tg it b) L st) Q ↔ wp (evI call it L st) (fun x => wp (forItems tg x.2.1 (bdOf call b) x.1 L x.2.2) Q) := by
  simp [ex, wp_bind]; rfl
theorem w_bd (s : S) : wp (bdOf call s L st) Q ↔ wp (ex call s L st) Q := Iff.rfl
theorem x_whl (c : E) (b : S) : wp (ex call (.whl c b) L st) Q ↔ wp (whileN (fun L1 s1 => evT call c L1 s1) (bdOf call b) big L st) Q := by simp [ex]; rfl
/-- where an item is set -/
def setI (v : PV) (st : Sto) (a j : PV) (Q : Sto → Prop) : Prop := match a, j with
  | .ref l, .int k => wp (listOf st (.ref l)) (fun xs => wp (ixN xs.length k) (fun n => Q (st.set l (.lst (xs.set n v)))))
  | _, _ => False
@[simp] theorem setI_ri (v : PV) (l : Nat) (k : Int) (Q : Sto → Prop) : setI v st (.ref l) (.int k) Q ↔ wp (listOf st (.ref l)) (fun xs => wp (ixN xs.length k) (fun n => Q (st.set l (.lst (xs.set n v))))) := Iff.rfl
@[simp] theorem x_setix (o i e : E) : wp (ex call (.setix o i e) L st) Q ↔ wp (ev call e L st) (fun x => wp (ev call o L x.2) (fun a => wp (ev call i L a.2) (fun j => setI x.1 j.2 a.1 j.1 (fun s => Q (.next, L, s))))) := by
  simp only [ex, wp_bind]
  apply iff_of_eq; congr 1; funext ⟨x, s⟩; congr 1; funext ⟨a, s⟩; congr 1; funext ⟨j, s⟩
  cases a <;> cases j <;> simp [setI]
  rename_i l k
  simp only [listOf]; rcases s[l]? with _ | ⟨xs⟩ <;> simp [wp_map]
@[simp] theorem x_aug (i : Nat) (op : BOp) (e : E) : wp (ex call (.aug i op e) L st) Q ↔ wp (lk L i) (fun a => wp (isI a) (fun a => wp (ev call e L st) (fun x => wp (isI x.1) (fun b => match op with
    | .add => Q (.next, L.set i (some (.int (a + b))), x.2)
    | .sub => Q (.next, L.set i (some (.int (a - b))), x.2)
    | _ => False)))) := by
  simp only [ex, lk]
  rcases L[i]? with _ | _ | v
  · simp
  · simp
  · cases v <;> simp [isI, wp_bind]
    apply iff_of_eq; congr 1; funext ⟨x, s⟩
    cases x <;> cases op <;> simp [isI]
@[simp] theorem a_nm (i : Nat) (v : PV) (st : Sto) : asgT (.nm i) v L st = some (L.set i (some v)) := rfl
@[simp] theorem a_tp (is : List Nat) (xs : List PV) (st : Sto) : asgT (.tp is) (.tup xs) L st = setAll L is xs := rfl
@[simp] theorem sa_nil : setAll L [] [] = some L := by simp [setAll]
@[simp] theorem sa_cons (i : Nat) (is : List Nat) (v : PV) (vs : List PV) : setAll L (i :: is) (v :: vs) = setAll (L.set i (some v)) is vs := by simp [setAll]
end

/-- a loop over a range, by an invariant of the count -/
theorem wp_for_upto {tg : Nat} {body : Loc → Sto → RS} {I : Nat → Loc → Sto → Prop} {Q : Fl × Loc × Sto → Prop} (n : Nat) :
    ∀ (i : Nat) (L : Loc) (st : Sto), I i L st →
    (∀ j L st, i ≤ j → j < i + n → I j L st → wp (body (L.set tg (some (.int (j : Int)))) st) (fun z => match z with
      | (.next, L', st') => I (j + 1) L' st'
      | (.cont, L', st') => I (j + 1) L' st'
      | (.brk, L', st') => Q (.next, L', st')
      | (.ret v, L', st') => Q (.ret v, L', st'))) →
    (∀ L st, I (i + n) L st → Q (.next, L, st)) →
    wp (forItems (.nm tg) [] body (upto (i : Int) n) L st) Q := by
  induction n with
  | zero =>
    intro i L st h _ E
    simp only [upto, forItems, okG, List.all_nil, if_true, wp_some]
    exact E L st h
  | succ n ih =>
    intro i L st h B E
    simp only [upto, forItems, okG, List.all_nil, if_true, asgT, Option.bind_some, wp_bind]
    refine wp_mono (B i L st (Nat.le_refl _) (by omega) h) ?_
    rintro ⟨f, L', st'⟩ h'
    have go : I (i + 1) L' st' → wp (forItems (.nm tg) [] body (upto ((i : Int) + 1) n) L' st') Q := by
      intro h'
      have := ih (i + 1) L' st' h' (fun j L st hj hj' => B j L st (by omega) (by omega)) (fun L st h => E L st (by rw [show i + (n + 1) = i + 1 + n by omega]; exact h))
      simpa using this
    cases f with
    | next => exact go h'
    | cont => exact go h'
    | brk => simpa [wp_some] using h'
    | ret v => simpa [wp_some] using h'
/-- a comprehension over a range, without tests -/
theorem wp_comp_upto {tg : Nat} {el : Loc → Sto → R PV} {call : Nat → List PV → Sto → R PV} {L : Loc} {I : Nat → List PV → Sto → Prop} {Q : List PV × Sto → Prop} (n : Nat) :
    ∀ (i : Nat) (acc : List PV) (st : Sto), I i acc st →
    (∀ j acc st, i ≤ j → j < i + n → I j acc st → wp (el (L.set tg (some (.int (j : Int)))) st) (fun z => I (j + 1) (acc ++ [z.1]) z.2)) →
    (∀ ys st, I (i + n) (acc ++ ys) st → Q (ys, st)) →
    wp (compItems (.nm tg) [] (tsOf call .nil) el L (upto (i : Int) n) st) Q := by
  rw [tsOf_nil]
  induction n generalizing Q with
  | zero =>
    intro i acc st h _ E
    simp only [upto, compItems, okG, List.all_nil, if_true, wp_some]
    exact E [] st (by simpa using h)
  | succ n ih =>
    intro i acc st h B E
    simp only [upto, compItems, okG, List.all_nil, if_true, asgT, Option.bind_some, wp_bind]
    refine wp_mono (B i acc st (Nat.le_refl _) (by omega) h) ?_
    rintro ⟨v, st'⟩ h'
    have := ih (Q := fun z => Q (v :: z.1, z.2)) (i + 1) (acc ++ [v]) st' h' (fun j L st hj hj' => B j L st (by omega) (by omega)) (fun ys st h => E (v :: ys) st (by rw [show i + (n + 1) = i + 1 + n by omega]; simpa using h))
    simpa [wp_some] using this
inductive All2 {α β : Type} (P : α → β → Prop) : List α → List β → Prop where
  | nil : All2 P [] []
  | cons {a b r q} : P a b → All2 P r q → All2 P (a :: r) (b :: q)
theorem All2.len {α β : Type} {P : α → β → Prop} {xs : List α} {ys : List β} (h : All2 P xs ys) : xs.length = ys.length := by
  induction h with
  | nil => rfl
  | cons _ _ ih => simp [ih]
theorem okG_of {st st' : Sto} {gs : Gd} (h : okG st gs = true) (H : ∀ p ∈ gs, st'[p.1]? = st[p.1]?) : okG st' gs = true := by
  simp only [okG, List.all_eq_true, decide_eq_true_eq] at h ⊢
  intro p hp
  rw [← h p hp]; simp only [listOf, H p hp]
/-- a comprehension over any items, without tests, that keeps something of the store -/
theorem wp_comp_all {tg : Tg} {gs : Gd} {el : Loc → Sto → R PV} {call : Nat → List PV → Sto → R PV} {L : Loc} {I : Sto → Prop} {P : PV → PV → Prop} {Q : List PV × Sto → Prop} :
    ∀ (xs : List PV) (st : Sto), I st → (∀ s, I s → okG s gs = true) →
    (∀ x ∈ xs, ∀ st, I st → wp (asgT tg x L st) (fun L1 => wp (el L1 st) (fun z => P x z.1 ∧ I z.2))) →
    (∀ ys st, All2 P xs ys → I st → Q (ys, st)) →
    wp (compItems tg gs (tsOf call .nil) el L xs st) Q := by
  rw [tsOf_nil]
  intro xs
  induction xs generalizing Q with
  | nil =>
    intro st h hG _ E
    simp only [compItems, hG _ h, if_true, wp_some]
    exact E [] st .nil h
  | cons x xs ih =>
    intro st h hG B E
    simp only [compItems, hG _ h, if_true, Option.bind_some, wp_bind, wp_some]
    refine wp_mono (B x (List.mem_cons_self ..) st h) ?_
    intro L1 hL
    refine wp_mono hL ?_
    rintro ⟨v, st'⟩ ⟨hp, h'⟩
    have := ih (Q := fun z => Q (v :: z.1, z.2)) st' h' hG (fun x hx => B x (List.mem_cons_of_mem _ hx)) (fun ys st hf h => E (v :: ys) st (.cons hp hf) h)
    simpa [wp_some] using this
/-- a list of the store changes at most; others may come -/
def Fr (l : Nat) (st st' : Sto) : Prop := st.length ≤ st'.length ∧ ∀ i, i < st.length → i ≠ l → st'[i]? = st[i]?
theorem Fr.rfl {l : Nat} {st : Sto} : Fr l st st := ⟨Nat.le_refl _, fun _ _ _ => Eq.refl _⟩
theorem Fr.trans {l : Nat} {a b c : Sto} (h : Fr l a b) (k : Fr l b c) : Fr l a c :=
  ⟨Nat.le_trans h.1 k.1, fun i hi hn => (k.2 i (Nat.lt_of_lt_of_le hi h.1) hn).trans (h.2 i hi hn)⟩
theorem Fr.set {l : Nat} {st : Sto} {o : PO} : Fr l st (st.set l o) := ⟨by simp, fun i _ hn => by rw [List.getElem?_set_ne]; exact fun e => hn e.symm⟩
theorem Fr.app {l : Nat} {st : Sto} {o : List PO} : Fr l st (st ++ o) := ⟨by simp, fun i hi _ => by rw [List.getElem?_append_left hi]⟩
theorem Fr.at {l : Nat} {st st' : Sto} (h : Fr l st st') {i : Nat} {o : PO} (e : st[i]? = some o) (hn : i ≠ l) : st'[i]? = some o :=
  (h.2 i (List.getElem?_eq_some_iff.mp e).1 hn).trans e
end Kw
end
section
namespace Kw
def bd0 : S := .cons (.ret (.bin .add (.int 1) (.blt .len (.cons (.var 0) .nil)))) .nil
def bd1 : S := .cons (.ret (.bin .add (.int 1) (.blt .sum (.cons (.comp (.ite (.cmp .eq (.ix (.var 1) (.int 0)) (.str "keep")) (.int 2) (.bin .add (.int 1) (.blt .len (.cons (.ix (.var 1) (.int 1)) .nil)))) (.nm 1) 1 1 (.var 0) .nil) .nil)))) .nil
def bd2 : S := .cons (.asg (.nm 2) (.bin .mod (.bin .mul (.bin .add (.bin .add (.bin .mod (.var 0) (.int 2147483629)) (.bin .mul (.bin .mul (.var 1) (.var 1)) (.int 7919))) (.int 11)) (.int 48271)) (.int 2147483647))) (.cons (.ret (.bin .mod (.bin .mul (.var 2) (.var 2)) (.int 1999999973))) .nil)
def bd3 : S := .cons (.asg (.nm 2) (.ite (.cmp .lt (.var 1) (.blt .len (.cons (.var 0) .nil))) (.ix (.var 0) (.var 1)) (.int 0))) (.cons (.ret (.lst (.cons (.bin .mul (.blt .abs (.cons (.var 2) .nil)) (.blt .int (.cons (.cmp .ge (.blt .abs (.cons (.var 2) .nil)) (.bin .pow (.int 10) (.int 18))) .nil))) (.cons (.bin .add (.var 2) (.bin .mul (.int 1000003) (.var 1))) (.cons (.int 0) .nil))))) .nil)
def bd4 : S := .cons (.setix (.var 0) (.int 2) (.bin .add (.ix (.var 0) (.int 2)) (.int 1))) (.cons (.ife (.cmp .gt (.ix (.var 0) (.int 0)) (.int 0)) (.cons (.asg (.nm 2) (.bin .mod (.ix (.var 0) (.int 0)) (.var 1))) (.cons (.setix (.var 0) (.int 0) (.bin .fdiv (.ix (.var 0) (.int 0)) (.var 1))) (.cons (.ret (.var 2)) .nil))) .nil) (.cons (.ret (.bin .mod (.bin .fdiv (.call 2 (.cons (.call 2 (.cons (.ix (.var 0) (.int 1)) (.cons (.ix (.var 0) (.int 2)) .nil))) (.cons (.bin .add (.ix (.var 0) (.int 2)) (.int 64)) .nil))) (.int 64)) (.var 1))) .nil))
def bd5 : S := .cons (.ife (.isi (.var 1) [.list, .tuple]) (.cons (.ife (.or (.cmp .ne (.isi (.var 0) [.list]) (.isi (.var 1) [.list])) (.cmp .ne (.isi (.var 0) [.tuple]) (.isi (.var 1) [.tuple]))) (.cons (.ret (.bl false)) .nil) .nil) (.cons (.ret (.and (.cmp .eq (.blt .len (.cons (.var 0) .nil)) (.blt .len (.cons (.var 1) .nil))) (.blt .all (.cons (.comp (.call 5 (.cons (.var 2) (.cons (.var 3) .nil))) (.tp [2, 3]) 2 2 (.zip (.var 0) (.var 1)) .nil) .nil)))) .nil)) .nil) (.cons (.ife (.or (.is false (.var 1) .non) (.isi (.var 1) [.str])) (.cons (.ret (.and (.cmp .eq (.var 0) (.var 1)) (.cmp .eq (.isi (.var 0) [.str]) (.isi (.var 1) [.str])))) .nil) .nil) (.cons (.ife (.isi (.var 1) [.bool]) (.cons (.ret (.and (.isi (.var 0) [.bool]) (.cmp .eq (.var 0) (.var 1)))) .nil) .nil) (.cons (.ret (.and (.isi (.var 0) [.int]) (.and (.not (.isi (.var 0) [.bool])) (.cmp .eq (.var 0) (.var 1))))) .nil)))
def bd6 : S := .cons (.asg (.nm 2) (.ix (.lst (.cons (.int 2) (.cons (.int 3) (.cons (.int 1000) (.cons (.int 5) .nil))))) (.call 4 (.cons (.var 0) (.cons (.int 4) .nil))))) (.cons (.ret (.blt .tuple (.cons (.comp (.call 4 (.cons (.var 0) (.cons (.var 2) .nil))) (.nm 3) 3 1 (.rng (.var 1)) .nil) .nil))) .nil)
def bd7 : S := .cons (.asg (.nm 1) (.ite (.cmp .gt (.call 4 (.cons (.var 0) (.cons (.int 8) .nil))) (.int 0)) (.call 4 (.cons (.var 0) (.cons (.int 9) .nil))) (.bin .add (.int 9) (.call 4 (.cons (.var 0) (.cons (.int 16) .nil)))))) (.cons (.ret (.call 6 (.cons (.var 0) (.cons (.var 1) .nil)))) .nil)
def bd8 : S := .cons (.asg (.nm 2) (.lst .nil)) (.cons (.for_ (.nm 3) (.rng (.call 4 (.cons (.var 0) (.cons (.int 6) .nil)))) (.cons (.ife (.and (.cmp .gt (.blt .len (.cons (.var 1) .nil)) (.int 0)) (.cmp .gt (.call 4 (.cons (.var 0) (.cons (.int 3) .nil))) (.int 0))) (.cons (.asg (.nm 4) (.call 4 (.cons (.var 0) (.cons (.blt .len (.cons (.var 1) .nil)) .nil)))) (.cons (.expr (.meth .append (.var 2) (.tup (.cons (.str "keep") (.cons (.var 4) (.cons (.bin .add (.int 1) (.call 4 (.cons (.var 0) (.cons (.blt .min (.cons (.bin .sub (.blt .len (.cons (.var 1) .nil)) (.var 4)) (.cons (.int 8) .nil))) .nil)))) .nil)))))) .nil)) (.cons (.expr (.meth .append (.var 2) (.tup (.cons (.str "put") (.cons (.call 6 (.cons (.var 0) (.cons (.bin .add (.int 1) (.call 4 (.cons (.var 0) (.cons (.int 3) .nil)))) .nil))) .nil))))) .nil)) .nil)) (.cons (.ret (.blt .tuple (.cons (.var 2) .nil))) .nil))
def bd9 : S := .cons (.ret (.bin .add (.int 1) (.blt .sum (.cons (.comp (.ite (.cmp .eq (.ix (.var 1) (.int 0)) (.str "keep")) (.int 2) (.bin .add (.int 1) (.blt .len (.cons (.ix (.var 1) (.int 1)) .nil)))) (.nm 1) 1 1 (.var 0) .nil) .nil)))) .nil
def bd10 : S := .cons (.for_ (.nm 1) (.rng (.bin .add (.blt .min (.cons (.int 8) (.cons (.blt .len (.cons (.var 0) .nil)) .nil))) (.int 1))) (.cons (.asg (.nm 2) (.call 3 (.cons (.var 0) (.cons (.var 1) .nil)))) (.cons (.for_ (.nm 3) (.rng (.int 5)) (.cons (.asg (.nm 4) (.call 7 (.cons (.var 2) .nil))) (.cons (.asg (.nm 5) (.call 8 (.cons (.var 2) (.cons (.var 4) .nil)))) (.cons (.asg (.nm 6) (.lst (.cons (.bin .add (.int 1) (.blt .len (.cons (.var 4) .nil))) (.cons (.call 9 (.cons (.var 5) .nil)) .nil)))) (.cons (.for_ (.nm 7) (.rng (.int 2)) (.cons (.ife (.not (.call 5 (.cons (.lst (.cons (.call 0 (.cons (.var 4) .nil)) (.cons (.call 1 (.cons (.var 5) .nil)) .nil))) (.cons (.var 6) .nil)))) (.cons (.ret (.bl false)) .nil) .nil) .nil)) .nil))))) .nil))) (.cons (.ret (.call 5 (.cons (.lst (.cons (.call 0 (.cons (.tup .nil) .nil)) (.cons (.call 1 (.cons (.tup .nil) .nil)) (.cons (.call 1 (.cons (.tup (.cons (.tup (.cons (.str "keep") (.cons (.int 0) (.cons (.int 24) .nil)))) .nil)) .nil)) .nil)))) (.cons (.lst (.cons (.int 1) (.cons (.int 1) (.cons (.int 3) .nil)))) .nil)))) .nil)
def tab : List FDef := [⟨1, 1, bd0⟩, ⟨1, 1, bd1⟩, ⟨2, 3, bd2⟩, ⟨2, 3, bd3⟩, ⟨2, 3, bd4⟩, ⟨2, 2, bd5⟩, ⟨2, 3, bd6⟩, ⟨1, 2, bd7⟩, ⟨2, 5, bd8⟩, ⟨1, 1, bd9⟩, ⟨1, 8, bd10⟩]
end Kw
end
section
set_option maxRecDepth 10000
set_option maxHeartbeats 1000000
set_option linter.all false
namespace Kw
def mixV (a k : Int) : Int := ((a % 2147483629 + k * k * 7919 + 11) * 48271 % 2147483647) * ((a % 2147483629 + k * k * 7919 + 11) * 48271 % 2147483647) % 1999999973
theorem small_mod (x : Int) : small (x % 2147483647) = true := by
  have := Int.emod_nonneg x (show (2147483647 : Int) ≠ 0 by decide)
  have := Int.emod_lt_of_pos x (show (0 : Int) < 2147483647 by decide)
  simp only [small, decide_eq_true_eq]; omega
theorem small_of {i : Int} (h : 0 ≤ i) (h' : i < 2 ^ 60) : small i = true := by
  simp only [small, decide_eq_true_eq]; omega
theorem mix_ok (d : Nat) (a k : Int) (st : Sto) (hk : small k = true) : callD tab (d + 1) 2 [.int a, .int k] st = some (.int (mixV a k), st) := by
  have h2 : small 48271 = true := by decide
  have h3 : small 7919 = true := by decide
  refine wp_eq (wp_callD (fd := ⟨2, 3, bd2⟩) rfl rfl ?_)
  simp [bd2, h2, h3, hk, small_mod, mixV]
def pickV (a b c many : Int) : Int := if 0 < a then a % many else mixV (mixV b (c + 1)) (c + 1 + 64) / 64 % many
def pickL (a many : Int) : Int := if 0 < a then a / many else a
theorem pick_ok (d : Nat) (a b c many : Int) (l : Nat) (st : Sto) (hs : st[l]? = some (.lst [.int a, .int b, .int c])) (h1 : 0 < many) (h2 : many < 1073741824) (hc : small (c + 1) = true) (hc' : small (c + 1 + 64) = true) :
    callD tab (d + 2) 4 [.ref l, .int many] st = some (.int (pickV a b c many), st.set l (.lst [.int (pickL a many), .int b, .int (c + 1)])) := by
  have hl : l < st.length := (List.getElem?_eq_some_iff.mp hs).1
  have e1 : ∀ xs, listOf (st.set l (.lst xs)) (.ref l) = some xs := fun xs => l_ref (List.getElem?_set_self hl)
  refine wp_eq (wp_callD (fd := ⟨2, 3, bd4⟩) rfl rfl ?_)
  by_cases ha : 0 < a
  · simp [bd4, l_ref hs, e1, Kw.atI, Kw.ixN, ha, h1, h2, pickV, pickL]
  · simp [bd4, l_ref hs, e1, Kw.atI, Kw.ixN, ha, h1, h2, pickV, pickL, mix_ok, hc, hc']
theorem pick_rg (a b c many : Int) (h : 0 < many) : 0 ≤ pickV a b c many ∧ pickV a b c many < many := by
  unfold pickV
  split
  · exact ⟨Int.emod_nonneg _ (by omega), Int.emod_lt_of_pos _ h⟩
  · exact ⟨Int.emod_nonneg _ (by omega), Int.emod_lt_of_pos _ h⟩
/-- what is left of the draws stands at l, of at most n draws so far -/
def Lf (st : Sto) (l : Nat) (n : Int) : Prop := ∃ a b c, st[l]? = some (.lst [.int a, .int b, .int c]) ∧ 0 ≤ c ∧ c ≤ n
theorem Lf.lt {st : Sto} {l : Nat} {n : Int} (h : Lf st l n) : l < st.length := by
  obtain ⟨a, b, c, h, _⟩ := h
  exact (List.getElem?_eq_some_iff.mp h).1
theorem Lf.mono {st : Sto} {l : Nat} {n m : Int} (h : Lf st l n) (k : n ≤ m) : Lf st l m := by
  obtain ⟨a, b, c, h, h1, h2⟩ := h
  exact ⟨a, b, c, h, h1, by omega⟩
theorem Lf.app {st : Sto} {l : Nat} {n : Int} (h : Lf st l n) (o : List PO) : Lf (st ++ o) l n := by
  have := h.lt
  obtain ⟨a, b, c, h, h1, h2⟩ := h
  exact ⟨a, b, c, by rw [List.getElem?_append_left this]; exact h, h1, h2⟩
theorem Lf.set {st : Sto} {l : Nat} {n : Int} (h : Lf st l n) {k : Nat} {o : PO} (hk : k ≠ l) : Lf (st.set k o) l n := by
  obtain ⟨a, b, c, h, h1, h2⟩ := h
  exact ⟨a, b, c, by rw [List.getElem?_set_ne hk]; exact h, h1, h2⟩
def Pk (l : Nat) (n many : Int) (st : Sto) (z : PV × Sto) : Prop := ∃ v, z.1 = .int v ∧ 0 ≤ v ∧ v < many ∧ Lf z.2 l (n + 1) ∧ Fr l st z.2 ∧ z.2.length = st.length
theorem pick_wp (d : Nat) (many n : Int) (l : Nat) (st : Sto) (hs : Lf st l n) (hn : n < 1000000) (h1 : 0 < many) (h2 : many < 1073741824) :
    wp (callD tab (d + 2) 4 [.ref l, .int many] st) (Pk l n many st) := by
  have hl := hs.lt
  obtain ⟨a, b, c, hs, h3, h4⟩ := hs
  refine wp_of_eq (pick_ok d a b c many l st hs h1 h2 (small_of (by omega) (by omega)) (small_of (by omega) (by omega))) ?_
  have := pick_rg a b c many h1
  exact ⟨_, rfl, this.1, this.2, ⟨_, b, c + 1, List.getElem?_set_self hl, by omega, by omega⟩, .set, by simp⟩
def Cl (l : Nat) (n m : Int) (st : Sto) (z : PV × Sto) : Prop := ∃ xs, z.1 = .tup xs ∧ (xs.length : Int) = m ∧ Lf z.2 l (n + 1 + m) ∧ Fr l st z.2
theorem cells_wp (d : Nat) (m n : Int) (l : Nat) (st : Sto) (hs : Lf st l n) (hn : n + m < 100000) (h0 : 0 ≤ n) (h1 : 0 ≤ m) (h2 : m < 10000) :
    wp (callD tab (d + 3) 6 [.ref l, .int m] st) (Cl l n m st) := by
  refine wp_callD (fd := ⟨2, 3, bd6⟩) rfl rfl ?_
  have hl := hs.lt
  simp [bd6, big]
  refine wp_mono (pick_wp d 4 n l _ (hs.app _) (by omega) (by omega) (by omega)) ?_
  rintro ⟨v, st1⟩ ⟨v, rfl, v0, v1, lf, fr, le⟩
  have e1 : st1[st.length]? = some (.lst [.int 2, .int 3, .int 1000, .int 5]) := fr.at (by simp) (by omega)
  have hw : ∃ w : Int, [PV.int 2, PV.int 3, PV.int 1000, PV.int 5][v.toNat]? = some (.int w) ∧ 0 < w ∧ w < 1073741824 := by
    have : v = 0 ∨ v = 1 ∨ v = 2 ∨ v = 3 := by omega
    rcases this with rfl | rfl | rfl | rfl
    · exact ⟨2, rfl, by decide, by decide⟩
    · exact ⟨3, rfl, by decide, by decide⟩
    · exact ⟨1000, rfl, by decide, by decide⟩
    · exact ⟨5, rfl, by decide, by decide⟩
  obtain ⟨w, ew, w0, w1⟩ := hw
  simp [l_ref e1, atI_nat (show v = v.toNat by omega) ew]
  refine ⟨by simp [small62]; omega, ?_⟩
  refine wp_comp_upto (I := fun j acc s => acc.length = j ∧ Lf s l (n + 1 + j) ∧ Fr l st1 s) m.toNat 0 [] st1 ⟨rfl, by simpa using lf, .rfl⟩ ?_ ?_
  · rintro j acc s - hj ⟨ha, hf, hr⟩
    simp [w_el]
    refine wp_mono (pick_wp (d + 0) w (n + 1 + j) l s hf (by omega) w0 w1) ?_
    rintro ⟨u, s1⟩ ⟨u, rfl, -, -, lf', fr', -⟩
    refine ⟨by simp [ha], ?_, hr.trans fr'⟩
    exact lf'.mono (by omega)
  · rintro ys s ⟨ha, hf, hr⟩
    simp at ha
    refine ⟨by simp [big]; omega, ?_⟩
    simp
    refine ⟨ys, rfl, by omega, ?_, ?_⟩
    · exact (hf.mono (by omega)).app _
    · exact ((Fr.app.trans fr).trans hr).trans .app
def Th (l : Nat) (n : Int) (st : Sto) (z : PV × Sto) : Prop := ∃ xs, z.1 = .tup xs ∧ xs.length ≤ 24 ∧ Lf z.2 l (n + 27) ∧ Fr l st z.2
theorem thing_wp (d : Nat) (n : Int) (l : Nat) (st : Sto) (hs : Lf st l n) (h0 : 0 ≤ n) (hn : n < 10000) :
    wp (callD tab (d + 4) 7 [.ref l] st) (Th l n st) := by
  refine wp_callD (fd := ⟨1, 2, bd7⟩) rfl rfl ?_
  simp [bd7]
  refine wp_mono (pick_wp (d + 1) 8 n l _ hs (by omega) (by omega) (by omega)) ?_
  rintro ⟨v, st1⟩ ⟨v, rfl, v0, v1, lf, fr, le⟩
  simp
  split
  · refine wp_mono (pick_wp (d + 1) 9 (n + 1) l _ lf (by omega) (by omega) (by omega)) ?_
    rintro ⟨u, st2⟩ ⟨u, rfl, u0, u1, lf2, fr2, le2⟩
    simp
    refine wp_mono (cells_wp d u (n + 1 + 1) l _ lf2 (by omega) (by omega) (by omega) (by omega)) ?_
    rintro ⟨w, st3⟩ ⟨xs, rfl, hx, lf3, fr3⟩
    simp
    exact ⟨xs, rfl, by omega, lf3.mono (by omega), (fr.trans fr2).trans fr3⟩
  · refine wp_mono (pick_wp (d + 1) 16 (n + 1) l _ lf (by omega) (by omega) (by omega)) ?_
    rintro ⟨u, st2⟩ ⟨u, rfl, u0, u1, lf2, fr2, le2⟩
    simp
    refine wp_mono (cells_wp d (9 + u) (n + 1 + 1) l _ lf2 (by omega) (by omega) (by omega) (by omega)) ?_
    rintro ⟨w, st3⟩ ⟨xs, rfl, hx, lf3, fr3⟩
    simp
    exact ⟨xs, rfl, by omega, lf3.mono (by omega), (fr.trans fr2).trans fr3⟩
/-- a piece: a keep of any numbers, or a put of any few cells -/
def Pc (v : PV) : Prop := (∃ a b, v = .tup [.str "keep", .int a, .int b]) ∨ ∃ xs, v = .tup [.str "put", .tup xs] ∧ xs.length ≤ 3
def Ch (l : Nat) (n : Int) (st : Sto) (z : PV × Sto) : Prop := ∃ ps, z.1 = .tup ps ∧ ps.length ≤ 5 ∧ (∀ p ∈ ps, Pc p) ∧ Lf z.2 l (n + 31) ∧ Fr l st z.2
def ChI (l : Nat) (n : Int) (st : Sto) (old : List PV) (j : Nat) (L : Loc) (s : Sto) : Prop := ∃ ps x y, L = [some (.ref l), some (.tup old), some (.ref st.length), x, y] ∧ s[st.length]? = some (.lst ps) ∧ ps.length = j ∧ (∀ p ∈ ps, Pc p) ∧ Lf s l (n + 1 + 6 * j) ∧ Fr l st s
theorem change_wp (d : Nat) (n : Int) (l : Nat) (st : Sto) (old : List PV) (ho : old.length ≤ 24) (hs : Lf st l n) (h0 : 0 ≤ n) (hn : n < 10000) :
    wp (callD tab (d + 4) 8 [.ref l, .tup old] st) (Ch l n st) := by
  refine wp_callD (fd := ⟨2, 5, bd8⟩) rfl rfl ?_
  have hl := hs.lt
  simp [bd8, big]
  refine wp_mono (pick_wp (d + 1) 6 n l _ (hs.app _) (by omega) (by omega) (by omega)) ?_
  rintro ⟨v, st1⟩ ⟨v, rfl, v0, v1, lf, fr, le⟩
  have e1 : st1[st.length]? = some (.lst []) := fr.at (by simp) (by omega)
  simp
  refine ⟨by simp [small62]; omega, ?_⟩
  refine wp_for_upto (I := ChI l n st old) v.toNat 0 _ st1 ⟨[], _, _, rfl, e1, rfl, by simp, by simpa using lf, Fr.app.trans fr⟩ ?_ ?_
  · rintro j L s - hj ⟨ps, x, y, rfl, es, hp, hP, hf, hr⟩
    have put : ∀ (x y : Option PV) (m : Int) (s : Sto), s[st.length]? = some (.lst ps) → m ≤ n + 1 + 6 * j + 1 → 0 ≤ m → Lf s l m → Fr l st s →
        wp (callD tab (d + 3) 4 [PV.ref l, PV.int 3] s) fun y_1 =>
      wp (binop BOp.add (PV.int 1) y_1.fst y_1.snd) fun x_1 =>
        wp (callD tab (d + 3) 6 [PV.ref l, x_1.fst] x_1.snd) fun x_2 =>
          2 ≤ big ∧
            wp (listOf x_2.snd (PV.ref (List.length st))) fun xs =>
              xs.length < big ∧ ChI l n st old (j + 1) [some (PV.ref l), some (PV.tup old), some (PV.ref st.length), x, y] (List.set x_2.snd (List.length st) (PO.lst (xs ++ [PV.tup [PV.str "put", x_2.fst]]))) := by
      intro x y m s es hm hm0 hf hr
      refine wp_mono (pick_wp (d + 1) 3 m l _ hf (by omega) (by omega) (by omega)) ?_
      rintro ⟨u, s2⟩ ⟨u, rfl, u0, u1, lf2, fr2, le2⟩
      have e2 := fr2.at es (by omega)
      simp
      refine wp_mono (cells_wp d (1 + u) (m + 1) l _ lf2 (by omega) (by omega) (by omega) (by omega)) ?_
      rintro ⟨w, s3⟩ ⟨xs, rfl, hx, lf3, fr3⟩
      have e3 := fr3.at e2 (by omega)
      simp [l_ref e3, big]
      refine ⟨by omega, ps ++ [_], x, y, rfl, List.getElem?_set_self (List.getElem?_eq_some_iff.mp e3).1, by simp [hp], ?_, ?_, ?_⟩
      · intro p h
        rcases List.mem_append.mp h with h | h
        · exact hP p h
        · simp at h
          exact .inr ⟨xs, h, by omega⟩
      · exact (lf3.mono (by omega)).set (by omega)
      · exact ⟨by rw [List.length_set]; exact ((hr.trans fr2).trans fr3).1, fun i hi hn => by rw [List.getElem?_set_ne (by omega)]; exact ((hr.trans fr2).trans fr3).2 i hi hn⟩
    simp [w_bd]
    split
    · rename_i ho'
      refine wp_mono (pick_wp (d + 1) 3 (n + 1 + 6 * j) l _ hf (by omega) (by omega) (by omega)) ?_
      rintro ⟨u, s1⟩ ⟨u, rfl, u0, u1, lf1, fr1, le1⟩
      have e1 := fr1.at es (by omega)
      simp
      split
      · refine wp_mono (pick_wp (d + 1) old.length (n + 1 + 6 * j + 1) l _ lf1 (by omega) (by omega) (by omega)) ?_
        rintro ⟨a, s2⟩ ⟨a, rfl, a0, a1, lf2, fr2, le2⟩
        have e2 := fr2.at e1 (by omega)
        simp
        refine wp_mono (pick_wp (d + 1) _ (n + 1 + 6 * j + 1 + 1) l _ lf2 (by omega) (by split <;> omega) (by split <;> omega)) ?_
        rintro ⟨b, s3⟩ ⟨b, rfl, b0, b1, lf3, fr3, le3⟩
        have e3 := fr3.at e2 (by omega)
        simp [l_ref e3, big]
        refine ⟨by omega, ps ++ [_], _, _, rfl, List.getElem?_set_self (List.getElem?_eq_some_iff.mp e3).1, by simp [hp], ?_, ?_, ?_⟩
        · intro p h
          rcases List.mem_append.mp h with h | h
          · exact hP p h
          · simp at h
            exact .inl ⟨_, _, h⟩
        · exact (lf3.mono (by omega)).set (by omega)
        · exact ⟨by rw [List.length_set]; exact (((hr.trans fr1).trans fr2).trans fr3).1, fun i hi hn => by rw [List.getElem?_set_ne (by omega)]; exact (((hr.trans fr1).trans fr2).trans fr3).2 i hi hn⟩
      · exact put _ _ _ _ e1 (by omega) (by omega) lf1 (hr.trans fr1)
    · exact put _ _ _ _ es (by omega) (by omega) hf hr
  · rintro L s ⟨ps, x, y, rfl, es, hp, hP, hf, hr⟩
    simp [l_ref es]
    exact ⟨ps, rfl, by omega, hP, hf.mono (by omega), hr⟩
/-- what a piece takes -/
theorem whole_ok (d : Nat) (xs : List PV) (st : Sto) : callD tab (d + 1) 0 [.tup xs] st = some (.int (1 + xs.length), st) := by
  refine wp_eq (wp_callD (fd := ⟨1, 1, bd0⟩) rfl rfl ?_)
  simp [bd0]
theorem sizes_same (d : Nat) (v : PV) (st : Sto) : callD tab (d + 1) 1 [v] st = callD tab (d + 1) 9 [v] st := by
  rw [callD_at (fd := ⟨1, 1, bd1⟩) rfl rfl, callD_at (fd := ⟨1, 1, bd9⟩) rfl rfl]; rfl
theorem All2.map_of {f : PV → PV} {xs ys : List PV} (h : All2 (fun x y => y = f x) xs ys) : ys = xs.map f := by
  induction h with
  | nil => rfl
  | cons p _ ih => simp [p, ih]
theorem intsOf_map {α : Type} (g : α → Int) (xs : List α) : intsOf (xs.map fun x => .int (g x)) = some (xs.map g) := by
  induction xs with
  | nil => rfl
  | cons x xs ih => simp only [List.map_cons, intsOf, ih, Option.map_some]
/-- what a piece takes -/
def szP : PV → Int
  | .tup [.str "keep", _, _] => 2
  | .tup [.str "put", .tup xs] => 1 + xs.length
  | _ => 0
theorem takes_ok (d : Nat) (ps : List PV) (st : Sto) (hl : ps.length ≤ 5) (hP : ∀ p ∈ ps, Pc p) :
    callD tab (d + 1) 9 [.tup ps] st = some (.int (1 + (ps.map szP).sum), st ++ [.lst (ps.map fun p => .int (szP p))]) := by
  refine wp_eq (wp_callD (fd := ⟨1, 1, bd9⟩) rfl rfl ?_)
  simp [bd9]
  refine wp_comp_all (I := fun s => s = st) (P := fun x y => y = .int (szP x)) ps st rfl ?_ ?_ ?_
  · intro s _; simp [okG, gdOf]
  · rintro x hx s rfl
    rcases hP x hx with ⟨a, b, rfl⟩ | ⟨xs, rfl, hxs⟩
    · simp [w_el, Kw.atI, Kw.ixN, szP]
    · simp [w_el, Kw.atI, Kw.ixN, szP]
  · rintro ys s hf rfl
    have hy := hf.map_of
    subst hy
    have hs : (ps.map szP).all small40 = true := by
      simp only [List.all_map, List.all_eq_true]
      intro p h
      rcases hP p h with ⟨a, b, rfl⟩ | ⟨xs, rfl, hxs⟩
      · simp [szP, small40]
      · simp [szP, small40]; omega
    have : sumI (ps.map fun p => .int (szP p)) = some (ps.map szP).sum := by
      simp only [sumI, intsOf_map, Option.bind_some, hs, List.length_map, and_true, big]
      rw [if_pos (by omega)]
    simp [this, big]
    omega
theorem same_int (d : Nat) (i j : Int) (st : Sto) : callD tab (d + 1) 5 [.int i, .int j] st = some (.bl (i == j), st) := by
  refine wp_eq (wp_callD (fd := ⟨2, 2, bd5⟩) rfl rfl ?_)
  simp [bd5]
theorem bools_of {P : PV → PV → Prop} {xs ys : List PV} (h : All2 P xs ys) (hP : ∀ x y, P x y → y = .bl true) : ∃ bs, bools ys = some bs ∧ bs.all id = true := by
  induction h with
  | nil => exact ⟨[], rfl, rfl⟩
  | cons p h ih =>
    obtain ⟨bs, e, ha⟩ := ih
    cases hP _ _ p
    exact ⟨true :: bs, by simp [bools, e], by simp only [List.all_cons, ha, id, Bool.and_self]⟩
theorem same_wp (d : Nat) (p q : Nat) (ns : List Int) (st : Sto) (hp : st[p]? = some (.lst (ns.map .int))) (hq : st[q]? = some (.lst (ns.map .int))) (hl : ns.length ≤ 1000) :
    ∃ ys, callD tab (d + 2) 5 [.ref p, .ref q] st = some (.bl true, st ++ [.lst ys]) := by
  have : wp (callD tab (d + 2) 5 [.ref p, .ref q] st) (fun z => ∃ ys, z = (.bl true, st ++ [.lst ys])) := by
    refine wp_callD (fd := ⟨2, 2, bd5⟩) rfl rfl ?_
    simp [bd5, l_ref hp, l_ref hq]
    refine wp_comp_all (I := fun s => s = st) (P := fun _ y => y = .bl true) _ st rfl ?_ ?_ ?_
    · rintro s rfl; simp [okG, gdOf, l_ref hp, l_ref hq]
    · rintro x hx s rfl
      simp only [List.mem_map] at hx
      obtain ⟨i, -, rfl⟩ := hx
      simp [w_el, same_int]
    · rintro ys s hf rfl
      have hy := hf.len
      simp at hy
      obtain ⟨bs, hb, ha⟩ := bools_of hf (fun _ _ h => h)
      refine ⟨by simp [big]; omega, ?_⟩
      simp [hb] at ha ⊢
      exact ha
  obtain ⟨z, h, ys, rfl⟩ := this
  exact ⟨ys, h⟩
theorem left_wp (d : Nat) (ns : List Int) (k : Nat) (st : Sto) :
    wp (callD tab (d + 1) 3 [.scr ns, .int k] st) (fun z => z.1 = .ref st.length ∧ ∃ o, z.2 = st ++ [o] ∧ Lf z.2 st.length 0) := by
  refine wp_callD (fd := ⟨2, 3, bd3⟩) rfl rfl ?_
  have h1 : small 1000003 = true := by decide
  have h2 : small 0 = true := by decide
  have h3 : small 1 = true := by decide
  have h4 : small 10 = true := by decide
  simp [bd3]
  split
  · rename_i hk
    rw [atI_nat rfl (show (ns.map PV.int)[k]? = some (.int ns[k]) by simp [hk])]
    have h5 : ∀ r : Bool, small (if r = true then 1 else 0) = true := by intro r; cases r <;> decide
    simp [h1, h4, h5, big]
    exact ⟨.inr (by by_cases hh : 1000000000000000000 ≤ (if ns[k] < 0 then -ns[k] else ns[k]) <;> simp only [hh, if_true, if_false] <;> decide), _, _, 0, List.getElem?_concat_length, by omega, by omega⟩
  · simp [h1, h2, h4, big]
    exact ⟨0, _, 0, List.getElem?_concat_length, by omega, by omega⟩
theorem size_0 (d : Nat) (st : Sto) : callD tab (d + 1) 1 [.tup []] st = some (.int 1, st ++ [.lst []]) := by
  refine wp_eq (wp_callD (fd := ⟨1, 1, bd1⟩) rfl rfl ?_)
  simp [bd1, compItems, okG, gdOf, big, sumI, intsOf]
theorem size_1 (d : Nat) (st : Sto) : callD tab (d + 1) 1 [.tup [.tup [.str "keep", .int 0, .int 24]]] st = some (.int 3, st ++ [.lst [.int 2]]) := by
  refine wp_eq (wp_callD (fd := ⟨1, 1, bd1⟩) rfl rfl ?_)
  simp [bd1, compItems, okG, gdOf, big, sumI, intsOf, wp_bind, tsOf_nil, w_el, Kw.atI, Kw.ixN, small40]
theorem law_true (ns : List Int) : ∃ st, callD tab 6 10 [.scr ns] [] = some (.bl true, st) := by
  have : wp (callD tab 6 10 [.scr ns] []) (fun z => z.1 = .bl true) := by
    refine wp_callD (fd := ⟨1, 8, bd10⟩) rfl rfl ?_
    simp [bd10]
    refine ⟨by simp [small62]; split <;> omega, ?_⟩
    refine wp_for_upto (I := fun _ L _ => ∃ a b c d e f g, L = [some (.scr ns), a, b, c, d, e, f, g]) _ 0 _ _ ⟨_, _, _, _, _, _, _, rfl⟩ ?_ ?_
    · rintro k L s - - ⟨a, b, c, d, e, f, g, rfl⟩
      simp [w_bd]
      refine wp_mono (left_wp 4 ns k s) ?_
      rintro ⟨v, s1⟩ ⟨rfl, o, rfl, hf⟩
      simp at hf ⊢
      refine ⟨by decide, ?_⟩
      refine wp_for_upto (I := fun j L t => (∃ c d e f g, L = [some (.scr ns), some (.int k), some (.ref s.length), c, d, e, f, g]) ∧ Lf t s.length (58 * j)) 5 0 _ _ ⟨⟨_, _, _, _, _, rfl⟩, by simpa using hf⟩ ?_ ?_
      · rintro j L t - hj ⟨⟨c, d, e, f, g, rfl⟩, hf⟩
        simp [w_bd]
        refine wp_mono (thing_wp 1 (58 * j) s.length t hf (by omega) (by omega)) ?_
        rintro ⟨v, t1⟩ ⟨old, rfl, hx, lf1, fr1⟩
        simp
        refine wp_mono (change_wp 1 (58 * j + 27) s.length t1 old hx lf1 (by omega) (by omega)) ?_
        rintro ⟨v, t2⟩ ⟨ps, rfl, hp, hP, lf2, fr2⟩
        simp
        simp [takes_ok _ _ _ hp hP, big]
        refine ⟨by decide, ?_⟩
        have e0 : ∀ t', Fr s.length (t2 ++ [PO.lst (ps.map fun p => .int (szP p)), PO.lst [PV.int (1 + ↑old.length), PV.int (1 + (ps.map szP).sum)]]) t' → t'[t2.length + 1]? = some (.lst [PV.int (1 + ↑old.length), PV.int (1 + (ps.map szP).sum)]) := by
          intro t' h
          exact h.at (by simp) (by have := lf2.lt; simp at this; omega)
        refine wp_for_upto (I := fun i L t => (∃ g, L = [some (.scr ns), some (.int k), some (.ref s.length), some (.int j), some (.tup old), some (.tup ps), some (.ref (t2.length + 1)), g]) ∧ Lf t s.length (58 * (j + 1)) ∧ Fr s.length (t2 ++ [PO.lst (ps.map fun p => .int (szP p)), PO.lst [PV.int (1 + ↑old.length), PV.int (1 + (ps.map szP).sum)]]) t) 2 0 _ _ ⟨⟨_, rfl⟩, (lf2.mono (by omega)).app _, .rfl⟩ ?_ ?_
        · rintro i L t' - hi ⟨⟨g, rfl⟩, lf', fr'⟩
          simp [w_bd, whole_ok, sizes_same, takes_ok _ _ _ hp hP, big]
          obtain ⟨ys', h⟩ := same_wp 3 (t'.length + 1) (t2.length + 1) [1 + old.length, 1 + (ps.map szP).sum] (t' ++ [.lst (ps.map fun p => .int (szP p)), PO.lst [PV.int (1 + ↑old.length), PV.int (1 + (ps.map szP).sum)]]) (by simp) (by rw [List.getElem?_append_left (List.getElem?_eq_some_iff.mp (e0 _ fr')).1]; exact e0 _ fr') (by simp)
          simp [h]
          exact ⟨lf'.app _, fr'.trans .app⟩
        · rintro L t' ⟨⟨g, rfl⟩, lf', fr'⟩
          simp
          exact lf'
      · rintro L t ⟨⟨c, d, e, f, g, rfl⟩, hf⟩
        simp
    · rintro L s ⟨a, b, c, d, e, f, g, rfl⟩
      simp [whole_ok, size_0, size_1, big]
      obtain ⟨ys, h⟩ := same_wp 3 (s.length + 2) (s.length + 2 + 1) [1, 1, 3] (s ++ [.lst [], .lst [.int 2], .lst [PV.int 1, PV.int 1, PV.int 3], PO.lst [PV.int 1, PV.int 1, PV.int 3]]) (by simp) (by rw [List.getElem?_append_right (by omega), show s.length + 2 + 1 - s.length = 3 by omega]; rfl) (by simp)
      simp [h]
  obtain ⟨⟨v, st⟩, h, rfl⟩ := this
  exact ⟨st, h⟩
end Kw
end
section
set_option Elab.async false
set_option linter.all false
set_option maxRecDepth 100000
set_option maxHeartbeats 4000000
namespace Kw
open PySem PySem.Spec PyProof.Rows L2
def top (i : Nat) : Stmt := PySem.Challenge.pw_keepwhole_k03_what_they_take.main.body.getD i (.Pass ⟨0, 0, 0, 0⟩)
def d0 : Df := ⟨"whole_size", top 1, ["thing"], ["thing"]⟩
def d1 : Df := ⟨"change_size", top 2, ["change"], ["change"]⟩
def d2 : Df := ⟨"_law_mix", top 4, ["_law_cell", "_law_k"], ["_law_cell", "_law_k", "_law_m"]⟩
def d3 : Df := ⟨"_law_left", top 5, ["_law_script", "_law_k"], ["_law_script", "_law_k", "_law_cell"]⟩
def d4 : Df := ⟨"_law_pick", top 6, ["_law_left_here", "_law_many"], ["_law_left_here", "_law_many", "_law_digit"]⟩
def d5 : Df := ⟨"_law_same", top 7, ["_law_found", "_law_due"], ["_law_found", "_law_due"]⟩
def d6 : Df := ⟨"_law_cells", top 8, ["_law_left_here", "_law_many"], ["_law_left_here", "_law_many", "_law_few"]⟩
def d7 : Df := ⟨"_law_thing", top 9, ["_law_left_here"], ["_law_left_here", "_law_many"]⟩
def d8 : Df := ⟨"_law_a_change", top 10, ["_law_left_here", "_law_old"], ["_law_left_here", "_law_old", "_law_pieces", "_law_turn", "_law_at"]⟩
def d9 : Df := ⟨"_law_takes", top 11, ["_law_change"], ["_law_change"]⟩
def d10 : Df := ⟨"law", top 12, ["_law_script"], ["_law_script", "_law_k", "_law_left_here", "_law_turn", "_law_old", "_law_change", "_law_due", "_law_again"]⟩
def fns : List Str := [Str.ofString "whole_size", Str.ofString "change_size", Str.ofString "_law_mix", Str.ofString "_law_left", Str.ofString "_law_pick", Str.ofString "_law_same", Str.ofString "_law_cells", Str.ofString "_law_thing", Str.ofString "_law_a_change", Str.ofString "_law_takes", Str.ofString "law"]
theorem ok0 : Df.ok fns d0 ⟨1, 1, bd0⟩ = true := by decide +kernel
theorem ok1 : Df.ok fns d1 ⟨1, 1, bd1⟩ = true := by decide +kernel
theorem ok2 : Df.ok fns d2 ⟨2, 3, bd2⟩ = true := by decide +kernel
theorem ok3 : Df.ok fns d3 ⟨2, 3, bd3⟩ = true := by decide +kernel
theorem ok4 : Df.ok fns d4 ⟨2, 3, bd4⟩ = true := by decide +kernel
theorem ok5 : Df.ok fns d5 ⟨2, 2, bd5⟩ = true := by decide +kernel
theorem ok6 : Df.ok fns d6 ⟨2, 3, bd6⟩ = true := by decide +kernel
theorem ok7 : Df.ok fns d7 ⟨1, 2, bd7⟩ = true := by decide +kernel
theorem ok8 : Df.ok fns d8 ⟨2, 5, bd8⟩ = true := by decide +kernel
theorem ok9 : Df.ok fns d9 ⟨1, 1, bd9⟩ = true := by decide +kernel
theorem ok10 : Df.ok fns d10 ⟨1, 8, bd10⟩ = true := by decide +kernel
theorem all_mk {l : PySem.W.OpenLaw} {w : World} {K : PySem.W.Frag} {h : Heap} {mg : Str → Option Value} {fa f0 f1 f2 f3 f4 f5 f6 f7 f8 f9 f10 : Addr} (X : K.In h) (G : h.Ns mainGlobals mg) (hfa : mg (Str.ofString "law") = some (.ref fa))
    {od0 an0 od1 an1 od2 an2 od3 an3 od4 an4 od5 an5 od6 an6 od7 an7 od8 an8 od9 an9 od10 an10 : Option Addr} {sl0 sl1 sl2 sl3 sl4 sl5 sl6 sl7 sl8 sl9 sl10 : Array (Option Value)} {oc0 kV0 dc0 pm0 cd0 ct0 oc1 kV1 dc1 pm1 cd1 ct1 oc2 kV2 dc2 pm2 cd2 ct2 oc3 kV3 dc3 pm3 cd3 ct3 oc4 kV4 dc4 pm4 cd4 ct4 oc5 kV5 dc5 pm5 cd5 ct5 oc6 kV6 dc6 pm6 cd6 ct6 oc7 kV7 dc7 pm7 cd7 ct7 oc8 kV8 dc8 pm8 cd8 ct8 oc9 kV9 dc9 pm9 cd9 ct9 oc10 kV10 dc10 pm10 cd10 ct10 : Value}
    (a0 : PySem.W.nsIn K mainGlobals (Str.ofString "whole_size") = some (some (.ref f0))) (l0 : K.lookup f0 = some ⟨oc0, od0, .func (PySem.W.fnOf (Str.ofString "whole_size") (Str.ofString "whole_size") (defArgs (top 1)) (defBody (top 1)) (defScope (top 1)) .none kV0 dc0 pm0 an0 cd0 ct0), sl0⟩) (c0 : PySem.W.codeIn K cd0 (Str.ofString "whole_size") = true) (k0 : PySem.W.keepIn K (.ref f0) = true)
    (a1 : PySem.W.nsIn K mainGlobals (Str.ofString "change_size") = some (some (.ref f1))) (l1 : K.lookup f1 = some ⟨oc1, od1, .func (PySem.W.fnOf (Str.ofString "change_size") (Str.ofString "change_size") (defArgs (top 2)) (defBody (top 2)) (defScope (top 2)) .none kV1 dc1 pm1 an1 cd1 ct1), sl1⟩) (c1 : PySem.W.codeIn K cd1 (Str.ofString "change_size") = true) (k1 : PySem.W.keepIn K (.ref f1) = true)
    (a2 : PySem.W.nsIn K mainGlobals (Str.ofString "_law_mix") = some (some (.ref f2))) (l2 : K.lookup f2 = some ⟨oc2, od2, .func (PySem.W.fnOf (Str.ofString "_law_mix") (Str.ofString "_law_mix") (defArgs (top 4)) (defBody (top 4)) (defScope (top 4)) .none kV2 dc2 pm2 an2 cd2 ct2), sl2⟩) (c2 : PySem.W.codeIn K cd2 (Str.ofString "_law_mix") = true) (k2 : PySem.W.keepIn K (.ref f2) = true)
    (a3 : PySem.W.nsIn K mainGlobals (Str.ofString "_law_left") = some (some (.ref f3))) (l3 : K.lookup f3 = some ⟨oc3, od3, .func (PySem.W.fnOf (Str.ofString "_law_left") (Str.ofString "_law_left") (defArgs (top 5)) (defBody (top 5)) (defScope (top 5)) .none kV3 dc3 pm3 an3 cd3 ct3), sl3⟩) (c3 : PySem.W.codeIn K cd3 (Str.ofString "_law_left") = true) (k3 : PySem.W.keepIn K (.ref f3) = true)
    (a4 : PySem.W.nsIn K mainGlobals (Str.ofString "_law_pick") = some (some (.ref f4))) (l4 : K.lookup f4 = some ⟨oc4, od4, .func (PySem.W.fnOf (Str.ofString "_law_pick") (Str.ofString "_law_pick") (defArgs (top 6)) (defBody (top 6)) (defScope (top 6)) .none kV4 dc4 pm4 an4 cd4 ct4), sl4⟩) (c4 : PySem.W.codeIn K cd4 (Str.ofString "_law_pick") = true) (k4 : PySem.W.keepIn K (.ref f4) = true)
    (a5 : PySem.W.nsIn K mainGlobals (Str.ofString "_law_same") = some (some (.ref f5))) (l5 : K.lookup f5 = some ⟨oc5, od5, .func (PySem.W.fnOf (Str.ofString "_law_same") (Str.ofString "_law_same") (defArgs (top 7)) (defBody (top 7)) (defScope (top 7)) .none kV5 dc5 pm5 an5 cd5 ct5), sl5⟩) (c5 : PySem.W.codeIn K cd5 (Str.ofString "_law_same") = true) (k5 : PySem.W.keepIn K (.ref f5) = true)
    (a6 : PySem.W.nsIn K mainGlobals (Str.ofString "_law_cells") = some (some (.ref f6))) (l6 : K.lookup f6 = some ⟨oc6, od6, .func (PySem.W.fnOf (Str.ofString "_law_cells") (Str.ofString "_law_cells") (defArgs (top 8)) (defBody (top 8)) (defScope (top 8)) .none kV6 dc6 pm6 an6 cd6 ct6), sl6⟩) (c6 : PySem.W.codeIn K cd6 (Str.ofString "_law_cells") = true) (k6 : PySem.W.keepIn K (.ref f6) = true)
    (a7 : PySem.W.nsIn K mainGlobals (Str.ofString "_law_thing") = some (some (.ref f7))) (l7 : K.lookup f7 = some ⟨oc7, od7, .func (PySem.W.fnOf (Str.ofString "_law_thing") (Str.ofString "_law_thing") (defArgs (top 9)) (defBody (top 9)) (defScope (top 9)) .none kV7 dc7 pm7 an7 cd7 ct7), sl7⟩) (c7 : PySem.W.codeIn K cd7 (Str.ofString "_law_thing") = true) (k7 : PySem.W.keepIn K (.ref f7) = true)
    (a8 : PySem.W.nsIn K mainGlobals (Str.ofString "_law_a_change") = some (some (.ref f8))) (l8 : K.lookup f8 = some ⟨oc8, od8, .func (PySem.W.fnOf (Str.ofString "_law_a_change") (Str.ofString "_law_a_change") (defArgs (top 10)) (defBody (top 10)) (defScope (top 10)) .none kV8 dc8 pm8 an8 cd8 ct8), sl8⟩) (c8 : PySem.W.codeIn K cd8 (Str.ofString "_law_a_change") = true) (k8 : PySem.W.keepIn K (.ref f8) = true)
    (a9 : PySem.W.nsIn K mainGlobals (Str.ofString "_law_takes") = some (some (.ref f9))) (l9 : K.lookup f9 = some ⟨oc9, od9, .func (PySem.W.fnOf (Str.ofString "_law_takes") (Str.ofString "_law_takes") (defArgs (top 11)) (defBody (top 11)) (defScope (top 11)) .none kV9 dc9 pm9 an9 cd9 ct9), sl9⟩) (c9 : PySem.W.codeIn K cd9 (Str.ofString "_law_takes") = true) (k9 : PySem.W.keepIn K (.ref f9) = true)
    (a10 : PySem.W.nsIn K mainGlobals (Str.ofString "law") = some (some (.ref f10))) (l10 : K.lookup f10 = some ⟨oc10, od10, .func (PySem.W.fnOf (Str.ofString "law") (Str.ofString "law") (defArgs (top 12)) (defBody (top 12)) (defScope (top 12)) .none kV10 dc10 pm10 an10 cd10 ct10), sl10⟩) (c10 : PySem.W.codeIn K cd10 (Str.ofString "law") = true) (k10 : PySem.W.keepIn K (.ref f10) = true)
    (z0 : PySem.W.nsIn K mainGlobals (Str.ofString "len") = some none) (z1 : PySem.W.nsIn K mainGlobals (Str.ofString "abs") = some none) (z2 : PySem.W.nsIn K mainGlobals (Str.ofString "int") = some none) (z3 : PySem.W.nsIn K mainGlobals (Str.ofString "sum") = some none) (z4 : PySem.W.nsIn K mainGlobals (Str.ofString "all") = some none) (z5 : PySem.W.nsIn K mainGlobals (Str.ofString "any") = some none) (z6 : PySem.W.nsIn K mainGlobals (Str.ofString "min") = some none) (z7 : PySem.W.nsIn K mainGlobals (Str.ofString "max") = some none) (z8 : PySem.W.nsIn K mainGlobals (Str.ofString "tuple") = some none) (z9 : PySem.W.nsIn K mainGlobals (Str.ofString "list") = some none) (z10 : PySem.W.nsIn K mainGlobals (Str.ofString "isinstance") = some none) (z11 : PySem.W.nsIn K mainGlobals (Str.ofString "range") = some none) (z12 : PySem.W.nsIn K mainGlobals (Str.ofString "zip") = some none) (z13 : PySem.W.nsIn K mainGlobals (Str.ofString "bool") = some none) (z14 : PySem.W.nsIn K mainGlobals (Str.ofString "str") = some none) :
    ∃ fd : FuncData, (∀ (s : Shared) (v : Value), BindsTo s fd ⟨[v], []⟩ [(Str.ofString "_law_script", v)]) ∧ ∀ base : Heap, K.In base → base.Ns mainGlobals mg → FnOk l.prog w K mg base CX0 6 fa fd [Str.ofString "_law_script"] (spF K (callD tab 6) 10) := by
  have e := hfa.symm.trans (PySem.W.mg_of X G a10)
  cases e
  have blt : ∀ b ∈ bltNames, mg (Str.ofString b) = none := by
    intro b hb
    simp only [bltNames, List.mem_cons, List.not_mem_nil, or_false] at hb
    rcases hb with rfl | rfl | rfl | rfl | rfl | rfl | rfl | rfl | rfl | rfl | rfl | rfl | rfl | rfl | rfl
    · exact PySem.W.mg_none_of X G z0
    · exact PySem.W.mg_none_of X G z1
    · exact PySem.W.mg_none_of X G z2
    · exact PySem.W.mg_none_of X G z3
    · exact PySem.W.mg_none_of X G z4
    · exact PySem.W.mg_none_of X G z5
    · exact PySem.W.mg_none_of X G z6
    · exact PySem.W.mg_none_of X G z7
    · exact PySem.W.mg_none_of X G z8
    · exact PySem.W.mg_none_of X G z9
    · exact PySem.W.mg_none_of X G z10
    · exact PySem.W.mg_none_of X G z11
    · exact PySem.W.mg_none_of X G z12
    · exact PySem.W.mg_none_of X G z13
    · exact PySem.W.mg_none_of X G z14
  have F0 := fun_mk (st := top 1) l0 c0 k0
  have bb0 := F0.binds (ps := [Str.ofString "thing"]) fun _ _ _ _ _ _ us hl => match us, hl with | [_], _ => rfl
  have F1 := fun_mk (st := top 2) l1 c1 k1
  have bb1 := F1.binds (ps := [Str.ofString "change"]) fun _ _ _ _ _ _ us hl => match us, hl with | [_], _ => rfl
  have F2 := fun_mk (st := top 4) l2 c2 k2
  have bb2 := F2.binds (ps := [Str.ofString "_law_cell", Str.ofString "_law_k"]) fun _ _ _ _ _ _ us hl => match us, hl with | [_, _], _ => rfl
  have F3 := fun_mk (st := top 5) l3 c3 k3
  have bb3 := F3.binds (ps := [Str.ofString "_law_script", Str.ofString "_law_k"]) fun _ _ _ _ _ _ us hl => match us, hl with | [_, _], _ => rfl
  have F4 := fun_mk (st := top 6) l4 c4 k4
  have bb4 := F4.binds (ps := [Str.ofString "_law_left_here", Str.ofString "_law_many"]) fun _ _ _ _ _ _ us hl => match us, hl with | [_, _], _ => rfl
  have F5 := fun_mk (st := top 7) l5 c5 k5
  have bb5 := F5.binds (ps := [Str.ofString "_law_found", Str.ofString "_law_due"]) fun _ _ _ _ _ _ us hl => match us, hl with | [_, _], _ => rfl
  have F6 := fun_mk (st := top 8) l6 c6 k6
  have bb6 := F6.binds (ps := [Str.ofString "_law_left_here", Str.ofString "_law_many"]) fun _ _ _ _ _ _ us hl => match us, hl with | [_, _], _ => rfl
  have F7 := fun_mk (st := top 9) l7 c7 k7
  have bb7 := F7.binds (ps := [Str.ofString "_law_left_here"]) fun _ _ _ _ _ _ us hl => match us, hl with | [_], _ => rfl
  have F8 := fun_mk (st := top 10) l8 c8 k8
  have bb8 := F8.binds (ps := [Str.ofString "_law_left_here", Str.ofString "_law_old"]) fun _ _ _ _ _ _ us hl => match us, hl with | [_, _], _ => rfl
  have F9 := fun_mk (st := top 11) l9 c9 k9
  have bb9 := F9.binds (ps := [Str.ofString "_law_change"]) fun _ _ _ _ _ _ us hl => match us, hl with | [_], _ => rfl
  have F10 := fun_mk (st := top 12) l10 c10 k10
  have bb10 := F10.binds (ps := [Str.ofString "_law_script"]) fun _ _ _ _ _ _ us hl => match us, hl with | [_], _ => rfl
  have D : ∀ (f : Nat) (x : Str), fns[f]? = some x → ∃ df fd fa fdd, tab[f]? = some fd ∧ Df.ok fns df fd = true ∧ Fun K (Str.ofString df.name) (Str.ofString df.name) df.st fa fdd ∧ mg x = some (.ref fa) ∧ Binds K fdd df.ps [] := by
    intro f x hx
    match f, hx with
    | 0, hx => cases hx; exact ⟨d0, _, _, _, rfl, ok0, F0, PySem.W.mg_of X G a0, bb0⟩
    | 1, hx => cases hx; exact ⟨d1, _, _, _, rfl, ok1, F1, PySem.W.mg_of X G a1, bb1⟩
    | 2, hx => cases hx; exact ⟨d2, _, _, _, rfl, ok2, F2, PySem.W.mg_of X G a2, bb2⟩
    | 3, hx => cases hx; exact ⟨d3, _, _, _, rfl, ok3, F3, PySem.W.mg_of X G a3, bb3⟩
    | 4, hx => cases hx; exact ⟨d4, _, _, _, rfl, ok4, F4, PySem.W.mg_of X G a4, bb4⟩
    | 5, hx => cases hx; exact ⟨d5, _, _, _, rfl, ok5, F5, PySem.W.mg_of X G a5, bb5⟩
    | 6, hx => cases hx; exact ⟨d6, _, _, _, rfl, ok6, F6, PySem.W.mg_of X G a6, bb6⟩
    | 7, hx => cases hx; exact ⟨d7, _, _, _, rfl, ok7, F7, PySem.W.mg_of X G a7, bb7⟩
    | 8, hx => cases hx; exact ⟨d8, _, _, _, rfl, ok8, F8, PySem.W.mg_of X G a8, bb8⟩
    | 9, hx => cases hx; exact ⟨d9, _, _, _, rfl, ok9, F9, PySem.W.mg_of X G a9, bb9⟩
    | 10, hx => cases hx; exact ⟨d10, _, _, _, rfl, ok10, F10, PySem.W.mg_of X G a10, bb10⟩
    | n + 11, hx => simp [fns] at hx
  refine ⟨_, ?b, fun base _ _ => fn_step F10 rfl ok10 (all_fns blt D 5) blt⟩
  exact fun s v => .of_eq rfl
end Kw
end
section
set_option Elab.async false
open PySem PySem.W PyProof.Rows
set_option maxRecDepth 100000 in
set_option maxHeartbeats 0 in
theorem PySem.Challenge.cw_keepwhole_k03_what_they_take_holds : PySem.Challenge.rw_keepwhole_k03_what_they_take.Holds := by
  w_on; o_law; k_head; (case hw => w_witness2)
  k_fill
  refine L2.walk_of (l := PySem.Challenge.rw_keepwhole_k03_what_they_take) (n := 63) (k := 6) (x := Str.ofString "_law_script") (CX := fun _ => L2.CX0) (sp := fun w => Kw.spF _ (Kw.callD Kw.tab 6) 10) rfl (by decide) rfl ⟨rfl, by decide, by decide⟩ (fun w h Y => PySem.W.kIn_of Y) ?F (fun _ _ a ns hl hO hS => Kw.law_sp hO hS (Kw.law_true ns)) (fun _ _ _ _ _ z => z)
  case F =>
    intro w mg fa h KX G hmg
    refine' Kw.all_mk KX G hmg ?a0 ?l0 ?c0 ?k0 ?a1 ?l1 ?c1 ?k1 ?a2 ?l2 ?c2 ?k2 ?a3 ?l3 ?c3 ?k3 ?a4 ?l4 ?c4 ?k4 ?a5 ?l5 ?c5 ?k5 ?a6 ?l6 ?c6 ?k6 ?a7 ?l7 ?c7 ?k7 ?a8 ?l8 ?c8 ?k8 ?a9 ?l9 ?c9 ?k9 ?a10 ?l10 ?c10 ?k10 ?z0 ?z1 ?z2 ?z3 ?z4 ?z5 ?z6 ?z7 ?z8 ?z9 ?z10 ?z11 ?z12 ?z13 ?z14
    (case a0 => k_is)
    (case l0 => k_is)
    (case c0 => k_is)
    (case k0 => k_is)
    (case a1 => k_is)
    (case l1 => k_is)
    (case c1 => k_is)
    (case k1 => k_is)
    (case a2 => k_is)
    (case l2 => k_is)
    (case c2 => k_is)
    (case k2 => k_is)
    (case a3 => k_is)
    (case l3 => k_is)
    (case c3 => k_is)
    (case k3 => k_is)
    (case a4 => k_is)
    (case l4 => k_is)
    (case c4 => k_is)
    (case k4 => k_is)
    (case a5 => k_is)
    (case l5 => k_is)
    (case c5 => k_is)
    (case k5 => k_is)
    (case a6 => k_is)
    (case l6 => k_is)
    (case c6 => k_is)
    (case k6 => k_is)
    (case a7 => k_is)
    (case l7 => k_is)
    (case c7 => k_is)
    (case k7 => k_is)
    (case a8 => k_is)
    (case l8 => k_is)
    (case c8 => k_is)
    (case k8 => k_is)
    (case a9 => k_is)
    (case l9 => k_is)
    (case c9 => k_is)
    (case k9 => k_is)
    (case a10 => k_is)
    (case l10 => k_is)
    (case c10 => k_is)
    (case k10 => k_is)
    (case z0 => k_is)
    (case z1 => k_is)
    (case z2 => k_is)
    (case z3 => k_is)
    (case z4 => k_is)
    (case z5 => k_is)
    (case z6 => k_is)
    (case z7 => k_is)
    (case z8 => k_is)
    (case z9 => k_is)
    (case z10 => k_is)
    (case z11 => k_is)
    (case z12 => k_is)
    (case z13 => k_is)
    (case z14 => k_is)
end
