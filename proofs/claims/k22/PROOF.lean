import PyProof.Rows.All
import Wide.All
import OpenK.AllK
import Wide.FinOn
import Lean
import PyProof.EqAt
import PyProof.EqKinds
import PyProof.TupleCall
import PySem.Challenge.RW_keepwhole_k22_reads_of_like_ways
section
set_option Elab.async false
set_option linter.all false
set_option maxRecDepth 100000
/-! THE HAND LAYER, for ints, bools, texts, own classes, LISTS and tuples (index, slices, in, append, pop ..), calls, loops. Paste it whole ahead of your own text; what your proof does not reach may be deleted. -/
namespace L2
open PySem PySem.Spec PyProof.Rows

/-- a key: an int or a str -/
abbrev Key := Sum Int Str
def keyIs : Key → Value → Bool
  | .inl k, v => Value.isInt k v
  | .inr x, v => Value.isStrOf x v
def keyH (w : World) : Key → Int
  | .inl k => hashInt k
  | .inr x => hashStr w x
theorem keyIs_shape : ∀ {k : Key} {v : Value}, keyIs k v = true → (∃ i t, k = Sum.inl i ∧ v = Value.int i t) ∨ (∃ x t, k = Sum.inr x ∧ v = Value.str x t)
  | .inl i, v, h => by
    obtain ⟨t, e⟩ := Value.isInt_shape (k := i) (v := v) h
    exact .inl ⟨i, t, rfl, e⟩
  | .inr x, v, h => by
    obtain ⟨t, e⟩ := Value.isStrOf_shape (x := x) (v := v) h
    exact .inr ⟨x, t, rfl, e⟩
theorem key_ll (a b : Int) : decide ((Sum.inl a : Key) = Sum.inl b) = (a == b) := by
  by_cases e : a = b
  · subst e; simp
  · have h : ¬ (Sum.inl a : Key) = Sum.inl b := fun q => e (Sum.inl.inj q)
    rw [decide_eq_false h]
    exact (beq_eq_false_iff_ne.mpr e).symm
theorem key_rr (a b : Str) : decide ((Sum.inr a : Key) = Sum.inr b) = decide (a = b) := by
  by_cases e : a = b
  · subst e; simp
  · have h : ¬ (Sum.inr a : Key) = Sum.inr b := fun q => e (Sum.inr.inj q)
    rw [decide_eq_false h, decide_eq_false e]
theorem key_lr (a : Int) (b : Str) : decide ((Sum.inl a : Key) = Sum.inr b) = false := decide_eq_false (fun q => nomatch q)
theorem key_rl (a : Str) (b : Int) : decide ((Sum.inr a : Key) = Sum.inl b) = false := decide_eq_false (fun q => nomatch q)

def mixKind (prog : Program) (w : World) : PySem.KeyKind prog w Key where
  is := keyIs
  hash := keyH w
  inj := fun v a b ha hb => by
    rcases keyIs_shape ha with ⟨i, t, rfl, rfl⟩ | ⟨x, t, rfl, rfl⟩
    · rcases keyIs_shape hb with ⟨j, u, rfl, e⟩ | ⟨y, u, rfl, e⟩
      · injection e with e1 _; rw [e1]
      · exact nomatch e
    · rcases keyIs_shape hb with ⟨j, u, rfl, e⟩ | ⟨y, u, rfl, e⟩
      · exact nomatch e
      · injection e with e1 _; rw [e1]
  byValue := fun k v h => by
    rcases keyIs_shape h with ⟨i, t, rfl, rfl⟩ | ⟨x, t, rfl, rfl⟩ <;> rfl
  pyHash := fun hv h => by
    rcases keyIs_shape hv with ⟨i, t, rfl, rfl⟩ | ⟨x, t, rfl, rfl⟩
    · exact wpAny_pyHash_int h
    · exact wpAny_pyHash_str h
  eqBool := fun hu hv h => by
    rcases keyIs_shape hu with ⟨i, t, rfl, rfl⟩ | ⟨x, t, rfl, rfl⟩
    · rcases keyIs_shape hv with ⟨j, u, rfl, rfl⟩ | ⟨y, u, rfl, rfl⟩
      · rw [key_ll] at h; exact wpAny_eqBool_int h
      · rw [key_lr] at h; exact SeqAt.EqAt.int_str i t y u _ _ _ _ h
    · rcases keyIs_shape hv with ⟨j, u, rfl, rfl⟩ | ⟨y, u, rfl, rfl⟩
      · rw [key_rl] at h; exact SeqAt.EqAt.str_int x t j u _ _ _ _ h
      · rw [key_rr] at h; exact wpAny_eqBool_str h
  «strs» := fun k x t v h => by
    rcases keyIs_shape h with ⟨i, u, rfl, e⟩ | ⟨y, u, rfl, e⟩
    · exact nomatch e
    · injection e with e1 _
      subst e1
      cases v <;> rfl

end L2

namespace L2
open PySem PySem.Spec PyProof.Rows

/-- a value, without the heap -/
inductive V where
  | non | bl (b : Bool) | int (i : Int) | str (x : Str) | byt (b : Array UInt8) | flt (b : UInt64) | ref (a : Addr) | ty (n : String)
  deriving DecidableEq

def RelV : V → Value → Prop
  | .non, u => u = Value.none
  | .bl b, u => u = Value.bool b
  | .int i, u => ∃ t, u = Value.int i t
  | .str x, u => ∃ t, u = Value.str x t
  | .byt b, u => ∃ t, u = Value.bytes b t
  | .flt b, u => ∃ t, u = Value.float b t
  | .ref a, u => u = Value.ref a
  | .ty n, u => u = Value.type n

abbrev Vals : List V → List Value → Prop := Paired RelV
theorem Vals.length {xs : List V} {us : List Value} (r : Vals xs us) : xs.length = us.length := Paired.length r
theorem Vals.get : ∀ {xs : List V} {us : List Value} {i : Nat} {x : V}, Vals xs us → xs[i]? = some x → ∃ u, us[i]? = some u ∧ RelV x u
  | _, _, _, _, .nil, e => by simp at e
  | _, _, 0, _, .cons r _, e => by simp at e; subst e; exact ⟨_, rfl, r⟩
  | _, _, i + 1, x, .cons _ t, e => by
    obtain ⟨u, h1, h2⟩ := Vals.get (i := i) (x := x) t (by simpa using e)
    exact ⟨u, by simpa using h1, h2⟩
theorem Vals.set {x : V} {u : Value} (r : RelV x u) : ∀ {xs : List V} {us : List Value} (i : Nat), Vals xs us → Vals (xs.set i x) (us.set i u)
  | _, _, _, .nil => .nil
  | _, _, 0, .cons _ t => .cons r t
  | _, _, i + 1, .cons q t => .cons q (Vals.set r i t)
theorem Vals.append : ∀ {xs ys : List V} {us ws : List Value}, Vals xs us → Vals ys ws → Vals (xs ++ ys) (us ++ ws)
  | _, _, _, _, .nil, s => s
  | _, _, _, _, .cons r t, s => .cons r (Vals.append t s)
theorem Vals.take : ∀ {xs : List V} {us : List Value} (n : Nat), Vals xs us → Vals (xs.take n) (us.take n)
  | _, _, 0, _ => .nil
  | _, _, _ + 1, .nil => .nil
  | _, _, n + 1, .cons r t => .cons r (Vals.take n t)
theorem Vals.drop : ∀ {xs : List V} {us : List Value} (n : Nat), Vals xs us → Vals (xs.drop n) (us.drop n)
  | _, _, 0, r => r
  | _, _, _ + 1, .nil => .nil
  | _, _, n + 1, .cons _ t => Vals.drop n t

def RelO : Option V → Option Value → Prop
  | some v, some u => RelV v u
  | none, none => True
  | _, _ => False
def KV {κ : Type} : List (κ × V) → List (κ × Value) → Prop := Paired fun (p : κ × V) (q : κ × Value) => p.1 = q.1 ∧ RelV p.2 q.2

/-- a key of a dict (00_mix): an int or a text -/
def kV : Key → V
  | .inl i => .int i
  | .inr x => .str x

/-- what stands at a tracked address -/
inductive HO where
  /-- a list -/
  | lst (xs : List V)
  /-- a tuple (never changes) -/
  | tup (xs : List V)
  /-- a dict whose keys are ints and texts; one whose keys are tuples of ints and texts (the empty one is both) -/
  | dK (kvs : List (Key × V)) | dT (kvs : List (List Key × V))
  /-- a set of ints: its members, its size -/
  | set (S : Int → Bool) (n : Nat)
  /-- an instance of the class at C, its dict at dx, its attributes -/
  | ins (C dx : Addr) (fs : List (Str × V))
  /-- the dict of the instance at x -/
  | own (x : Addr)
  /-- the dict of an exception -/
  | xd (fs : List (Str × V))
  /-- a bound method, f of x -/
  | met (f x : Addr)
  /-- a range object lo, lo + 1, .. below hi -/
  | rng (lo hi : Int)
  /-- a thing that is known to the object (the script; a dict while a loop walks it): read, never written while it is so -/
  | frz (o : Obj) (u : HO)
  /-- a code object's table -/
  | tbl (ps : Array Value)
  /-- any other thing, by what is true of its one object (a def of one's own: SetO a S n := HO.ext fun h => ..) -/
  | ext (φ : Heap → Prop)

abbrev Hp := Addr → Option HO
def upd (H : Hp) (a : Addr) (o : HO) : Hp := fun b => if b = a then some o else H b
theorem upd_same {H : Hp} {a : Addr} {o : HO} : upd H a o a = some o := by unfold upd; rw [if_pos rfl]
theorem upd_ne {H : Hp} {a b : Addr} {o : HO} (h : b ≠ a) : upd H a o b = H b := by unfold upd; rw [if_neg h]
/-- two objects of different content stand apart -/
theorem ne_of {H : Hp} {a b : Addr} {o u : HO} (h : H a = some o) (h' : H b = some u) (d : o ≠ u) : a ≠ b := by
  intro e; subst e; rw [h] at h'; exact d (Option.some.inj h')
theorem ne_of_none {H : Hp} {a b : Addr} {o : HO} (h : H a = some o) (h' : H b = none) : a ≠ b := by
  intro e; subst e; rw [h] at h'; cases h'

section
variable (P : Program) (w : World)
def ObjOk (H : Hp) (h : Heap) (a : Addr) : HO → Prop
  | .lst xs => xs.length ≤ sizeLine ∧ ∃ (its : List Value) (n : Nat), Vals xs its ∧ h.get? a = some { cls := .type "list", data := .seq its.toArray n }
  | .tup xs => xs.length ≤ sizeLine ∧ ∃ its : List Value, Vals xs its ∧ IsTup h a its.toArray
  | .dK kvs => kvs.length ≤ sizeLine ∧ (a == sysModules) = false ∧ ∃ vs, KV kvs vs ∧ h.DictOf (mixKind P w) a vs
  | .dT kvs => kvs.length ≤ sizeLine ∧ (a == sysModules) = false ∧ ∃ xs : List (List Key × Addr × Value),
      Paired (fun (p : List Key × V) (q : List Key × Addr × Value) => p.1 = q.1 ∧ H q.2.1 = some (.tup (p.1.map kV)) ∧ RelV p.2 q.2.2) kvs xs ∧
      ∃ o es ep, h.get? a = some o ∧ o.ExactDict ∧ o.data = .dict es ep ∧ es.toList = xs.map (entryOfKey (tupleKind (mixKind P w))) ∧ (xs.map (·.1)).Nodup
  | .set S n => h.SetOf (intKind P w) a S n
  | .ins C dx fs => H dx = some (.own a) ∧ fs.length ≤ 1000 ∧ dx ≠ a ∧ h.get? a = some (PySem.W.instObj C dx) ∧
      ∃ mA, h.Ns1 dx mA ∧ (∀ f, RelO (fs.lookup f) (mA f)) ∧ PySem.Within mA (fs.map (·.1))
  | .own _ => ∃ o, h.get? a = some o
  | .xd fs => ∃ mA, h.Ns1 a mA ∧ ∀ f, RelO (fs.lookup f) (mA f)
  | .rng lo hi => ∃ t u v, h.get? a = some { cls := .type "range", data := .fields #[.int lo t, .int hi u, .int 1 v] }
  | .frz o u => h.get? a = some o ∧ ObjOk H h a u
  | .tbl ps => h.get? a = some { cls := .none, data := .fields ps }
  | .met f x => h.get? a = some (PySem.W.methodObj (.ref f) (.ref x))
  | .ext φ => φ h ∧ (∃ o, h.get? a = some o) ∧ ∀ h1 h2 : Heap, φ h1 → (∀ o, h1.get? a = some o → h2.get? a = some o) → φ h2
/-- the abstract heap is held -/
def HOk (H : Hp) (h : Heap) : Prop := ∀ a o, H a = some o → ObjOk P w H h a o
end

section
variable {P : Program} {w : World} {H H' : Hp} {h h' : Heap} {a : Addr} {o : HO}
theorem ObjOk.lt (x : ObjOk P w H h a o) : a < h.objs.size := by
  cases o with
  | lst xs => obtain ⟨_, _, _, _, e⟩ := x; exact Heap.lt_size e
  | tup xs => obtain ⟨_, _, _, p⟩ := x; exact p.lt
  | dK kvs => obtain ⟨_, _, _, _, o, _, _, e, _⟩ := x; exact Heap.lt_size e
  | dT kvs => obtain ⟨_, _, _, _, o, _, _, e, _⟩ := x; exact Heap.lt_size e
  | set S n => obtain ⟨o, _, _, _, e, _⟩ := x; exact Heap.lt_size e
  | ins C dx fs => obtain ⟨_, _, _, e, _⟩ := x; exact Heap.lt_size e
  | own y => obtain ⟨_, e⟩ := x; exact Heap.lt_size e
  | xd fs => obtain ⟨_, ⟨_, _, _, e, _⟩, _⟩ := x; exact Heap.lt_size e
  | rng lo hi => obtain ⟨_, _, _, e⟩ := x; exact Heap.lt_size e
  | frz ob u => obtain ⟨e, _⟩ := x; exact Heap.lt_size e
  | tbl ps => exact Heap.lt_size (show h.get? a = some _ from x)
  | met f y => exact Heap.lt_size (show h.get? a = some _ from x)
  | ext φ => obtain ⟨_, ⟨_, e⟩, _⟩ := x; exact Heap.lt_size e
theorem Paired.mapP {α β : Type} {F G : α → β → Prop} : ∀ {l₁ : List α} {l₂ : List β}, Paired F l₁ l₂ → (∀ a b, F a b → G a b) → Paired G l₁ l₂
  | _, _, .nil, _ => .nil
  | _, _, .cons r t, f => .cons (f _ _ r) (Paired.mapP t f)
/-- what an object's description leans on: its own object, its own dict, the tuples -/
theorem ObjOk.stay (x : ObjOk P w H h a o) (k : ∀ b u, (b = a ∨ H b = some (.own a)) → h.get? b = some u → h'.get? b = some u)
    (ho : ∀ b, H b = some (.own a) → H' b = some (.own a)) (ht : ∀ b xs, H b = some (.tup xs) → H' b = some (.tup xs)) : ObjOk P w H' h' a o := by
  induction o with
  | lst xs => obtain ⟨z, its, n, r, e⟩ := x; exact ⟨z, its, n, r, k _ _ (.inl rfl) e⟩
  | tup xs => obtain ⟨z, its, r, ob, e, c⟩ := x; exact ⟨z, its, r, ob, k _ _ (.inl rfl) e, c⟩
  | dK kvs => obtain ⟨z, y, vs, r, ob, es, ep, e, c⟩ := x; exact ⟨z, y, vs, r, ob, es, ep, k _ _ (.inl rfl) e, c⟩
  | dT kvs =>
    obtain ⟨z, y, xs, r, ob, es, ep, e, c⟩ := x
    exact ⟨z, y, xs, Paired.mapP r fun p q z => ⟨z.1, ht _ _ z.2.1, z.2.2⟩, ob, es, ep, k _ _ (.inl rfl) e, c⟩
  | set S n => obtain ⟨ob, es, ep, t, e, c⟩ := x; exact ⟨ob, es, ep, t, k _ _ (.inl rfl) e, c⟩
  | ins C dx fs =>
    obtain ⟨d, z, ne, e, mA, ⟨od, es, ep, e2, c⟩, r⟩ := x
    exact ⟨ho _ d, z, ne, k _ _ (.inl rfl) e, mA, ⟨od, es, ep, k _ _ (.inr d) e2, c⟩, r⟩
  | own y => obtain ⟨ob, e⟩ := x; exact ⟨ob, k _ _ (.inl rfl) e⟩
  | xd fs => obtain ⟨mA, ⟨od, es, ep, e, c⟩, r⟩ := x; exact ⟨mA, ⟨od, es, ep, k _ _ (.inl rfl) e, c⟩, r⟩
  | rng lo hi => obtain ⟨t, u, v, e⟩ := x; exact ⟨t, u, v, k _ _ (.inl rfl) e⟩
  | frz ob u ih => obtain ⟨e, q⟩ := x; exact ⟨k _ _ (.inl rfl) e, ih q⟩
  | tbl ps =>
    have e : h.get? a = some { cls := .none, data := .fields ps } := x
    show h'.get? a = some { cls := .none, data := .fields ps }
    exact k a _ (.inl rfl) e
  | met f y =>
    have e : h.get? a = some (PySem.W.methodObj (.ref f) (.ref y)) := x
    show h'.get? a = some (PySem.W.methodObj (.ref f) (.ref y))
    exact k a _ (.inl rfl) e
  | ext φ => obtain ⟨p, ⟨o, e⟩, st⟩ := x; exact ⟨st _ _ p fun o q => k _ _ (.inl rfl) q, ⟨o, k _ _ (.inl rfl) e⟩, st⟩
theorem HOk.lt (x : HOk P w H h) (e : H a = some o) : a < h.objs.size := (x a o e).lt
theorem HOk.fresh (x : HOk P w H h) (e : h.objs.size ≤ a) : H a = none := by
  cases q : H a with
  | none => rfl
  | some u => exact absurd (Nat.lt_of_lt_of_le (x.lt q) e) (Nat.lt_irrefl _)
/-- every object of the heap is kept -/
theorem HOk.kept (x : HOk P w H h) (k : ∀ b u, h.get? b = some u → h'.get? b = some u) : HOk P w H h' := fun a o e =>
  (x a o e).stay (fun b u _ q => k b u q) (fun _ q => q) fun _ _ q => q
/-- a new object is laid and tracked -/
theorem HOk.laid (x : HOk P w H h) (k : ∀ b u, h.get? b = some u → h'.get? b = some u) (hp : h.objs.size ≤ a) (new : ObjOk P w (upd H a o) h' a o) : HOk P w (upd H a o) h' := fun b u e => by
  have hn := x.fresh hp
  by_cases hb : b = a
  · subst hb; rw [upd_same] at e; cases e; exact new
  · rw [upd_ne hb] at e
    exact (x b u e).stay (fun c v _ q => k c v q) (fun c q => by rw [upd_ne (ne_of_none q hn)]; exact q) fun c xs q => by rw [upd_ne (ne_of_none q hn)]; exact q
end

/-- what may be read as u: it is u, or a known u -/
def Rd (H : Hp) (a : Addr) (u : HO) : Prop := H a = some u ∨ ∃ o, H a = some (.frz o u)
theorem Rd.ok {P : Program} {w : World} {H : Hp} {h : Heap} {a : Addr} {u : HO} (r : Rd H a u) (x : HOk P w H h) : ObjOk P w H h a u := by
  rcases r with r | ⟨o, r⟩
  · exact x a u r
  · obtain ⟨_, q⟩ := x a _ r
    exact q
/-- what may be written -/
def Mut : Option HO → Prop
  | some (.lst _) => True
  | some (.dK _) => True
  | some (.dT _) => True
  | some (.set _ _) => True
  | some (.ins _ _ _) => True
  | some (.ext _) => True
  | _ => False
section
variable {P : Program} {w : World} {H : Hp} {h h' : Heap} {x e : Addr} {o' : HO}
/-- the object at e is changed: x itself, or the dict of the instance x -/
theorem HOk.write (ok : HOk P w H h) (mu : Mut (H x)) (he : e = x ∨ H e = some (.own x)) (k : ∀ b u, b ≠ e → h.get? b = some u → h'.get? b = some u) (heo : ∃ u, h'.get? e = some u)
    (new : ObjOk P w (upd H x o') h' x o') : HOk P w (upd H x o') h' := fun b u q => by
  have nown : ∀ c y, H c = some (.own y) → c ≠ x := fun c y r z => by subst z; rw [r] at mu; exact mu
  have ntup : ∀ c xs, H c = some (.tup xs) → c ≠ x := fun c xs r z => by subst z; rw [r] at mu; exact mu
  by_cases hb : b = x
  · subst hb; rw [upd_same] at q; cases q; exact new
  · rw [upd_ne hb] at q
    by_cases hbe : b = e
    · have q' : H b = some (.own x) := by
        rcases he with z | z
        · exact absurd (hbe.trans z) hb
        · rw [hbe]; exact z
      rw [q] at q'; cases q'
      obtain ⟨v, hv⟩ := heo
      exact ⟨v, by rw [hbe]; exact hv⟩
    · refine (ok b u q).stay (fun c v hc r => k c v ?_ r) (fun c r => by rw [upd_ne (nown c b r)]; exact r) fun c xs r => by rw [upd_ne (ntup c xs r)]; exact r
      rcases hc with rfl | hc
      · exact hbe
      · rintro rfl
        rcases he with z | z
        · exact nown c b hc z
        · rw [hc] at z; cases z; exact hb rfl
end

/-! ### kept unless tracked; of the frames at fs (the callers') the slots may change (an exception that passes writes there); of the records at ex (iterators) nothing is said -/
structure Un (fs ex : List Addr) (H H' : Hp) (h h' : Heap) : Prop where
  keep : ∀ b o, h.get? b = some o → H b = none → b ∉ fs → b ∉ ex → h'.get? b = some o
  slot : ∀ b o, h.get? b = some o → H b = none → b ∈ fs → b ∉ ex → ∃ sl, h'.get? b = some { o with slots := sl }
  free : ∀ b o, h.get? b = some o → H b = none → b ∉ ex → H' b = none
  there : ∀ b o, h.get? b = some o → b ∉ ex → ∃ o', h'.get? b = some o'
  tups : ∀ b xs, H b = some (.tup xs) → H' b = some (.tup xs)
  frzs : ∀ b o u, H b = some (.frz o u) → H' b = some (.frz o u)
  tbls : ∀ b ps, H b = some (.tbl ps) → ∃ more, H' b = some (.tbl (ps ++ more))
section
variable {fs fs' ex ex' : List Addr} {H H1 H2 : Hp} {h h1 h2 h' : Heap} {a x e : Addr} {o : HO}
theorem Un.any (u : Un fs ex H H1 h h1) {b : Addr} {ob : Obj} (q : h.get? b = some ob) (n : H b = none) (hx : b ∉ ex) : ∃ sl, h1.get? b = some { ob with slots := sl } := by
  by_cases hb : b ∈ fs
  · exact u.slot b ob q n hb hx
  · exact ⟨ob.slots, u.keep b ob q n hb hx⟩
theorem Un.kept (k : ∀ b u, h.get? b = some u → h'.get? b = some u) : Un fs ex H H h h' :=
  ⟨fun b ob q _ _ _ => k b ob q, fun b ob q _ _ _ => ⟨ob.slots, k b ob q⟩, fun _ _ _ n _ => n, fun b ob q _ => ⟨ob, k b ob q⟩, fun _ _ q => q, fun _ _ _ q => q, fun _ ps q => ⟨#[], by rw [q]; simp⟩⟩
theorem Un.refl : Un fs ex H H h h := Un.kept fun _ _ q => q
theorem Un.laid (k : ∀ b u, h.get? b = some u → h'.get? b = some u) (hp : h.objs.size ≤ a) (hn : H a = none) : Un fs ex H (upd H a o) h h' where
  keep := fun b u q _ _ _ => k b u q
  slot := fun b u q _ _ _ => ⟨u.slots, k b u q⟩
  free := fun b u q n _ => by rw [upd_ne (Nat.ne_of_lt (Nat.lt_of_lt_of_le (Heap.lt_size q) hp))]; exact n
  there := fun b u q _ => ⟨u, k b u q⟩
  tups := fun b xs q => by rw [upd_ne (ne_of_none q hn)]; exact q
  frzs := fun b u xs q => by rw [upd_ne (ne_of_none q hn)]; exact q
  tbls := fun b ps q => ⟨#[], by rw [upd_ne (ne_of_none q hn), q]; simp⟩
theorem Un.write (mu : Mut (H x)) (he : e = x ∨ H e = some (.own x)) (k : ∀ b u, b ≠ e → h.get? b = some u → h'.get? b = some u) (heo : ∃ u, h'.get? e = some u) : Un fs ex H (upd H x o) h h' := by
  have hx : ∀ b, H b = none → b ≠ x := fun b n z => by subst z; rw [n] at mu; exact mu
  have hb : ∀ b, H b = none → b ≠ e := fun b n z => by
    subst z
    rcases he with r | r
    · exact hx b n r
    · rw [n] at r; cases r
  have hm : ∀ b u, H b = some u → ¬ Mut (some u) → b ≠ x := fun b u q nm z => by subst z; rw [q] at mu; exact nm mu
  refine ⟨fun b u q n _ _ => k b u (hb b n) q, fun b u q n _ _ => ⟨u.slots, k b u (hb b n) q⟩, fun b u q n _ => by rw [upd_ne (hx b n)]; exact n, fun b u q _ => ?_,
    fun b xs q => by rw [upd_ne (hm b _ q fun z => z)]; exact q, fun b u xs q => by rw [upd_ne (hm b _ q fun z => z)]; exact q, fun b ps q => ⟨#[], by rw [upd_ne (hm b _ q fun z => z), q]; simp⟩⟩
  by_cases hbe : b = e
  · subst hbe; exact heo
  · exact ⟨u, k b u hbe q⟩
end

/-! ### the heap without what is tracked -/
def trk (h : Heap) (H : Hp) : List Addr := (List.range h.objs.size).filter fun a => (H a).isSome
def hidT (h : Heap) (H : Hp) : Heap := PySem.W.hideAll h (trk h H)
theorem hidT_size (h : Heap) (H : Hp) : (hidT h H).objs.size = h.objs.size := PySem.W.hideAll_size _ _
theorem hidT_get {h : Heap} {H : Hp} {b : Addr} {o : Obj} (e : h.get? b = some o) (n : H b = none) : (hidT h H).get? b = some o :=
  PySem.W.hideAll_get _ e fun hm => by
    have q : (H b).isSome = true := (List.mem_filter.mp hm).2
    rw [n] at q; simp at q
theorem of_hidT {h : Heap} {H : Hp} {b : Addr} {o : Obj} (e : (hidT h H).get? b = some o) : h.get? b = some o ∧ H b = none := by
  have e' : h.get? b = some o := PySem.W.of_hideAll (trk h H) e
  refine ⟨e', ?_⟩
  cases q : H b with
  | none => rfl
  | some x =>
    have hm : b ∈ trk h H := List.mem_filter.mpr ⟨List.mem_range.mpr (Heap.lt_size e'), by simp [q]⟩
    have z : (hidT h H).get? b = none := PySem.W.hideAll_none (trk h H) hm
    rw [z] at e; cases e

/-! ### OpenK's ledger, filled with every new object but one -/
end L2

namespace L2
open PySem PySem.Spec PyProof.Rows

/-- the module's facts, over the base: the heap at the law's entry without what is tracked there -/
structure Mod (K : PySem.W.Frag) (mg : Str → Option Value) (base : Heap) : Prop where
  kin : K.In base
  glob : base.Ns mainGlobals mg
  blt : ∃ mb, base.Ns builtinsNs mb ∧ ∀ x : Str, x ≠ "__name__" → mb x = bootBuiltins x
  nolimit : base.NoLimit

/-- the context: a def's body (or a comprehension's block) running. base: fixed through the whole law; s₀, H₀: the entry; outer: the frames whose slots others may change (a def's callers); stack: all frames that run;
   ex: iterators that were made ahead of the entry and are walked here (a comprehension's); fn: the names whose cells were made at the entry (a def: all; a comprehension's block: its own); calm: not within an except suite; pn: pins that every state bears; xe: what is wanted of an exception that leaves the code -/
structure Cx where
  prog : Program
  w : World
  K : PySem.W.Frag
  mg : Str → Option Value
  base : Heap
  A : Around
  N : List Str
  s₀ : Shared
  H₀ : Hp
  env : Env
  outer : List Env
  stack : List Env
  ex : List Addr
  fn : Str → Bool
  calm : Bool
  pn : List (Addr × Obj)
  xe : Value → Shared → Prop
/-- the callers' frames -/
def frs (l : List Env) : List Addr := l.filterMap (·.frame)
abbrev Cx.fs (X : Cx) : List Addr := frs X.outer

def Vis (sc : Scope) (x : Str) : Prop := sc.names.lookup x = some .local ∨ sc.names.lookup x = some .cell ∨ sc.names.lookup x = some .free
def Loc (sc : Scope) (x : Str) : Prop := sc.names.lookup x = some .local ∨ sc.names.lookup x = some .cell
def Look (env : Env) (h : Heap) (m : Str → Option Value) (x : Str) (u : Value) : Prop :=
  (env.kindOf x = some .local ∧ m x = some u) ∨ ((env.kindOf x = some .cell ∨ env.kindOf x = some .free) ∧ ∃ c, env.cells.lookup x = some c ∧ h.IsCell c (some u))

structure Cx.Ok (X : Cx) : Prop where
  mod : Mod X.K X.mg X.base
  kind : X.env.scope.kind = .function
  glob : X.env.globals = mainGlobals
  blt : X.env.builtins = builtinsNs
  above : X.s₀.heap.objs.size ≤ X.env.locals
  inj : ∀ x y c, X.env.cells.lookup x = some c → X.env.cells.lookup y = some c → x = y
  has : ∀ x, (X.env.kindOf x = some .cell ∨ X.env.kindOf x = some .free) → ∃ c, X.env.cells.lookup x = some c
  cab : ∀ x c, X.fn x = true → X.env.cells.lookup x = some c → X.s₀.heap.objs.size ≤ c
  hd : X.calm = true → X.A.handled = none
  frames : X.A.frames = some X.stack
  stk : X.stack = X.outer ∨ (X.stack = X.env :: X.outer ∧ X.env.frame = some X.env.locals)
  exf : ∀ b ∈ X.ex, b ≠ X.env.locals ∧ ∀ x c, X.env.cells.lookup x = some c → c ≠ b
  bs : ∀ b o, X.base.get? b = some o → X.s₀.heap.get? b = some o ∧ X.H₀ b = none
  bsz : X.base.objs.size ≤ X.s₀.heap.objs.size
  noex : ∀ b o, X.base.get? b = some o → b ∉ X.ex
  exfs : ∀ b ∈ X.ex, b ∉ X.fs
  funs : X.s₀.heap.FunFrames X.base X.outer
  frf : ∀ b ∈ X.fs, X.H₀ b = none

structure Inv (X : Cx) (pins : List (Addr × Obj)) (σ : List (Option V)) (H : Hp) (s : Shared) : Prop where
  ok : X.Ok
  os : s.os = X.s₀.os
  bare : AllBare s.gens
  base : Un X.fs X.ex X.H₀ H X.s₀.heap s.heap
  loc : ∃ m, s.heap.Ns X.env.locals m ∧ ∀ (i : Nat) (x : Str) (v : V), X.N[i]? = some x → σ[i]? = some (some v) → Vis X.env.scope x → ∃ u, RelV v u ∧ Look X.env s.heap m x u
  cell : ∀ x c, X.env.cells.lookup x = some c → ∃ v, s.heap.IsCell c v
  free : H X.env.locals = none
  freeC : ∀ x c, X.env.cells.lookup x = some c → H c = none
  pin : ∀ p ∈ X.pn ++ pins, s.heap.get? p.1 = some p.2 ∧ H p.1 = none ∧ p.1 ≠ X.env.locals ∧ p.1 ∉ X.fs ∧ ∀ v, p.2.data ≠ .cell v
  hok : HOk X.prog X.w H s.heap
  len : σ.length = X.N.length

section
variable {X : Cx} {pins : List (Addr × Obj)} {σ : List (Option V)} {H H' : Hp} {s : Shared} {h' : Heap}

theorem Cx.Ok.nofr (ok : X.Ok) {b : Addr} {o : Obj} (e : X.base.get? b = some o) : b ∉ X.fs := fun hb => by
  have := (ok.funs.mem hb).1
  rw [e] at this; cases this
theorem Inv.bs (I : Inv X pins σ H s) : ∀ b o, X.base.get? b = some o → s.heap.get? b = some o ∧ H b = none := fun b o e =>
  ⟨I.base.keep b o (I.ok.bs b o e).1 (I.ok.bs b o e).2 (I.ok.nofr e) (I.ok.noex b o e), I.base.free b o (I.ok.bs b o e).1 (I.ok.bs b o e).2 (I.ok.noex b o e)⟩
theorem Inv.bk (I : Inv X pins σ H s) : ∀ b o, X.base.get? b = some o → s.heap.get? b = some o := fun b o e => (I.bs b o e).1
theorem Inv.mod (I : Inv X pins σ H s) : Mod X.K X.mg X.base := I.ok.mod
theorem Inv.kIn (I : Inv X pins σ H s) : X.K.In s.heap := I.ok.mod.kin.keeps I.bk
theorem Inv.lt (I : Inv X pins σ H s) : X.env.locals < s.heap.objs.size := let ⟨_, hn, _⟩ := I.loc; hn.lt
theorem Inv.sz (I : Inv X pins σ H s) : X.s₀.heap.objs.size ≤ s.heap.objs.size := Nat.le_trans I.ok.above (Nat.le_of_lt I.lt)
theorem Inv.nofs (I : Inv X pins σ H s) {a : Addr} (h : s.heap.objs.size ≤ a) : a ∉ X.fs := fun hb => by
  obtain ⟨_, o, ho, _⟩ := I.ok.funs.mem hb
  exact absurd (Nat.lt_of_lt_of_le (Heap.lt_size ho) (Nat.le_trans I.sz h)) (Nat.lt_irrefl _)
theorem Inv.cne (I : Inv X pins σ H s) : ∀ x c, X.env.cells.lookup x = some c → c ≠ X.env.locals := fun x c e z => by
  obtain ⟨v, o, ho, hd⟩ := I.cell x c e
  obtain ⟨m, ⟨o', es, ep, ho', hd', _⟩, _⟩ := I.loc
  rw [z, ho'] at ho; cases ho; rw [hd'] at hd; cases hd
theorem Inv.funs (I : Inv X pins σ H s) : s.heap.FunFrames X.base X.outer := by
  have all : ∀ (l : List Env), (∀ b ∈ frs l, b ∈ X.fs) → X.s₀.heap.FunFrames X.base l → s.heap.FunFrames X.base l := by
    intro l
    induction l with
    | nil => intro _ _; trivial
    | cons env r ih =>
      intro hs hl
      obtain ⟨hk, ⟨L, o, hf, hn, ho, hd⟩, hr⟩ := hl
      have hL : L ∈ X.fs := hs L (by unfold frs; rw [List.filterMap_cons, hf]; exact List.mem_cons_self)
      obtain ⟨sl, e⟩ := I.base.slot L o ho (I.ok.frf L hL) hL fun z => I.ok.exfs L z hL
      exact ⟨hk, ⟨L, _, hf, hn, e, hd⟩, ih (fun b hb => hs b (by unfold frs; rw [List.filterMap_cons, hf]; exact List.mem_cons_of_mem _ hb)) hr⟩
  exact all X.outer (fun _ hb => hb) I.ok.funs

/-- the frames that run, for a call -/
theorem Inv.stack (I : Inv X pins σ H s) : s.heap.FunFrames X.base X.stack := by
  rcases I.ok.stk with e | ⟨e, hf⟩
  · rw [e]; exact I.funs
  · rw [e]
    obtain ⟨m, hn, _⟩ := I.loc
    refine .cons (by rw [I.ok.kind]; decide) hf hn ?_ I.funs
    exact Heap.get?_none_of_le (Nat.le_trans I.ok.bsz I.ok.above)
theorem Inv.stkSub (I : Inv X pins σ H s) : ∀ b ∈ frs X.stack, b ∈ X.env.locals :: X.fs := fun b hb => by
  rcases I.ok.stk with e | ⟨e, hf⟩
  · rw [e] at hb; exact List.mem_cons_of_mem _ hb
  · rw [e] at hb
    unfold frs at hb
    rw [List.filterMap_cons, hf] at hb
    exact hb
theorem Inv.stkFree (I : Inv X pins σ H s) : ∀ b ∈ frs X.stack, H b = none := fun b hb => by
  rcases List.mem_cons.mp (I.stkSub b hb) with e | hb
  · rw [e]; exact I.free
  · obtain ⟨_, o, ho, _⟩ := I.ok.funs.mem hb
    exact I.base.free b o ho (I.ok.frf b hb) fun z => I.ok.exfs b z hb

/-- THE STEP: the untracked objects but the frame and the records at ch are kept (the callers' frames up to slots), the frame's map is kept, the new abstract heap is held -/
theorem Inv.step {g' : Array GenState} {t' : Nat} {d' : Drawn} {ch : List Addr} (I : Inv X pins σ H s)
    (hch : ∀ b ∈ ch, (b ∈ X.ex ∨ X.s₀.heap.objs.size ≤ b) ∧ b ≠ X.env.locals ∧ (∀ x c, X.env.cells.lookup x = some c → c ≠ b) ∧ ∀ p ∈ X.pn ++ pins, p.1 ≠ b)
    (keep : ∀ b o, b ≠ X.env.locals → b ∉ X.fs → b ∉ ch → s.heap.get? b = some o → H b = none → h'.get? b = some o)
    (slot : ∀ b o, b ≠ X.env.locals → b ∈ X.fs → b ∉ ch → s.heap.get? b = some o → H b = none → ∃ sl, h'.get? b = some { o with slots := sl }) (free : ∀ b o, b ∉ ch → s.heap.get? b = some o → H b = none → H' b = none)
    (there : ∀ b o, b ∉ ch → s.heap.get? b = some o → ∃ o', h'.get? b = some o')
    (tups : ∀ b xs, H b = some (.tup xs) → H' b = some (.tup xs)) (frzs : ∀ b o u, H b = some (.frz o u) → H' b = some (.frz o u)) (tbls : ∀ b ps, H b = some (.tbl ps) → ∃ more, H' b = some (.tbl (ps ++ more)))
    (ns : ∀ m, s.heap.Ns X.env.locals m → h'.Ns X.env.locals m) (hok : HOk X.prog X.w H' h') (hg : AllBare g') :
    Inv X pins σ H' { s with heap := h', gens := g', drawn := d', toks := t' } := by
  have neL : ∀ b o, X.s₀.heap.get? b = some o → b ≠ X.env.locals := fun b o e => Nat.ne_of_lt (Nat.lt_of_lt_of_le (Heap.lt_size e) I.ok.above)
  have neC : ∀ b o, X.s₀.heap.get? b = some o → b ∉ X.ex → b ∉ ch := fun b o e hx hb => by
    rcases (hch b hb).1 with z | z
    · exact hx z
    · exact absurd (Nat.lt_of_lt_of_le (Heap.lt_size e) z) (Nat.lt_irrefl _)
  have cellK : ∀ x c, X.env.cells.lookup x = some c → ∀ v, s.heap.IsCell c v → h'.IsCell c v := fun x c e v ⟨o, ho, hd⟩ => by
    have nch : c ∉ ch := fun z => (hch c z).2.2.1 x c e rfl
    by_cases hc : c ∈ X.fs
    · obtain ⟨sl, q⟩ := slot c o (I.cne x c e) hc nch ho (I.freeC x c e)
      exact ⟨_, q, hd⟩
    · exact ⟨o, keep c o (I.cne x c e) hc nch ho (I.freeC x c e), hd⟩
  refine ⟨I.ok, I.os, hg, ⟨fun b o e n hb hx => ?_, fun b o e n hb hx => ?_, fun b o e n hx => ?_, fun b o e hx => ?_, fun b xs e => tups b xs (I.base.tups b xs e), fun b o xs e => frzs b o xs (I.base.frzs b o xs e), fun b ps e => ?_⟩, ?_, fun x c e => ?_, ?_, fun x c e => ?_, fun p hp => ?_, hok, I.len⟩
  · exact keep b o (neL b o e) hb (neC b o e hx) (I.base.keep b o e n hb hx) (I.base.free b o e n hx)
  · obtain ⟨sl, e1⟩ := I.base.slot b o e n hb hx
    obtain ⟨sl', e2⟩ := slot b _ (neL b o e) hb (neC b o e hx) e1 (I.base.free b o e n hx)
    exact ⟨sl', e2⟩
  · obtain ⟨o', e1⟩ := I.base.there b o e hx
    exact free b o' (neC b o e hx) e1 (I.base.free b o e n hx)
  · obtain ⟨o', e1⟩ := I.base.there b o e hx
    exact there b o' (neC b o e hx) e1
  · obtain ⟨m1, e1⟩ := I.base.tbls b ps e
    obtain ⟨m2, e2⟩ := tbls b _ e1
    exact ⟨m1 ++ m2, by rw [e2, Array.append_assoc]⟩
  · obtain ⟨m, hn, hl⟩ := I.loc
    refine ⟨m, ns m hn, fun i x v e1 e2 e3 => ?_⟩
    obtain ⟨u, r, l⟩ := hl i x v e1 e2 e3
    refine ⟨u, r, ?_⟩
    rcases l with l | ⟨k, c, e, z⟩
    · exact .inl l
    · exact .inr ⟨k, c, e, cellK x c e _ z⟩
  · obtain ⟨v, z⟩ := I.cell x c e
    exact ⟨v, cellK x c e v z⟩
  · obtain ⟨m, ⟨o, _, _, ho, _⟩, _⟩ := I.loc
    exact free _ o (fun z => (hch _ z).2.1 rfl) ho I.free
  · obtain ⟨v, o, ho, hd⟩ := I.cell x c e
    exact free c o (fun z => (hch c z).2.2.1 x c e rfl) ho (I.freeC x c e)
  · obtain ⟨e, n, ne, nf, d⟩ := I.pin p hp
    have nch : p.1 ∉ ch := fun z => (hch p.1 z).2.2.2 p hp rfl
    exact ⟨keep p.1 p.2 ne nf nch e n, free p.1 p.2 nch e n, ne, nf, d⟩
/-- .. where the frame's own object is kept too -/
theorem Inv.un {t' : Nat} (I : Inv X pins σ H s) (u : Un X.fs [] H H' s.heap h') (hok : HOk X.prog X.w H' h') : Inv X pins σ H' { s with heap := h', toks := t' } := by
  obtain ⟨m, ⟨o, es, ep, ho, r⟩, _⟩ := id I.loc
  obtain ⟨sl, hL⟩ := u.any ho I.free (by simp)
  exact I.step (g' := s.gens) (d' := s.drawn) (ch := []) (fun _ z => nomatch z) (fun b o _ hb _ e n => u.keep b o e n hb (by simp)) (fun b o _ hb _ e n => u.slot b o e n hb (by simp)) (fun b o _ e n => u.free b o e n (by simp)) (fun b o _ e => u.there b o e (by simp)) u.tups u.frzs u.tbls (fun m' hm => by
    obtain ⟨o', es', ep', ho', r'⟩ := hm
    rw [ho] at ho'; cases ho'
    exact ⟨_, es', ep', hL, r'⟩) hok I.bare
/-- behind a call (or a comprehension's block): the slots of this frame may have changed too, the records at ch may have turned -/
theorem Inv.call {g' : Array GenState} {t' : Nat} {d' : Drawn} {ch : List Addr} (I : Inv X pins σ H s) (u : Un (frs X.stack) ch H H' s.heap h') (hok : HOk X.prog X.w H' h') (hg : AllBare g')
    (hch : ∀ b ∈ ch, (b ∈ X.ex ∨ X.s₀.heap.objs.size ≤ b) ∧ b ≠ X.env.locals ∧ (∀ x c, X.env.cells.lookup x = some c → c ≠ b) ∧ ∀ p ∈ X.pn ++ pins, p.1 ≠ b) :
    Inv X pins σ H' { s with heap := h', gens := g', drawn := d', toks := t' } := by
  obtain ⟨m, ⟨o, es, ep, ho, r⟩, _⟩ := id I.loc
  obtain ⟨sl, hL⟩ := u.any ho I.free fun z => (hch _ z).2.1 rfl
  exact I.step (ch := ch) hch (fun b o hL hb hc e n => u.keep b o e n (fun z => (List.mem_cons.mp (I.stkSub b z)).elim hL hb) hc) (fun b o _ _ hc e n => u.any e n hc) (fun b o hc e n => u.free b o e n hc) (fun b o hc e => u.there b o e hc) u.tups u.frzs u.tbls (fun m' hm => by
    obtain ⟨o', es', ep', ho', r'⟩ := hm
    rw [ho] at ho'; cases ho'
    exact ⟨_, es', ep', hL, r'⟩) hok hg
/-- an untracked record of ours (an iterator) has turned -/
theorem Inv.turned {t' : Nat} {it : Addr} (I : Inv X pins σ H s) (k : ∀ b o, b ≠ it → s.heap.get? b = some o → h'.get? b = some o) (hn : H it = none) (hL : it ≠ X.env.locals)
    (h1 : it ∈ X.ex ∨ X.s₀.heap.objs.size ≤ it) (h2 : ∀ x c, X.env.cells.lookup x = some c → c ≠ it) (h3 : ∀ p ∈ X.pn ++ pins, p.1 ≠ it) : Inv X pins σ H { s with heap := h', toks := t' } := by
  have nit : ∀ b u, H b = some u → b ≠ it := fun b u e z => by rw [z, hn] at e; cases e
  refine I.step (g' := s.gens) (d' := s.drawn) (ch := [it]) (fun b hb => ?_) (fun b o _ _ hc e _ => k b o (fun z => hc (by simp [z])) e) (fun b o _ _ hc e _ => ⟨o.slots, k b o (fun z => hc (by simp [z])) e⟩) (fun _ _ _ _ n => n)
    (fun b o hc e => ⟨o, k b o (fun z => hc (by simp [z])) e⟩) (fun _ _ e => e) (fun _ _ _ e => e) (fun b ps e => ⟨#[], by rw [e]; simp⟩) (fun m hm => ?_) (fun b u e => ?_) I.bare
  · have e : b = it := by simpa using hb
    subst e
    exact ⟨h1, hL, h2, h3⟩
  · obtain ⟨o, es, ep, ho, r⟩ := hm
    exact ⟨o, es, ep, k _ o (Ne.symm hL) ho, r⟩
  · refine (I.hok b u e).stay (fun c v hc q => k c v ?_ q) (fun _ q => q) fun _ _ q => q
    rcases hc with z | z
    · rw [z]; exact nit b u e
    · exact nit c _ z
theorem Inv.tok (I : Inv X pins σ H s) (t : Nat) : Inv X pins σ H { s with toks := t } := I.un (h' := s.heap) (t' := t) Un.refl I.hok
/-- all objects kept -/
theorem Inv.kept {t' : Nat} (I : Inv X pins σ H s) (k : ∀ b u, s.heap.get? b = some u → h'.get? b = some u) : Inv X pins σ H { s with heap := h', toks := t' } := I.un (Un.kept k) (I.hok.kept k)
/-- a new object laid and tracked -/
theorem Inv.laid {a : Addr} {o : HO} {t' : Nat} (I : Inv X pins σ H s) (k : ∀ b u, s.heap.get? b = some u → h'.get? b = some u) (hp : s.heap.objs.size ≤ a) (new : ObjOk X.prog X.w (upd H a o) h' a o) :
    Inv X pins σ (upd H a o) { s with heap := h', toks := t' } := I.un (Un.laid k hp (I.hok.fresh hp)) (I.hok.laid k hp new)
/-- an object written -/
theorem Inv.write {x e : Addr} {o : HO} {t' : Nat} (I : Inv X pins σ H s) (mu : Mut (H x)) (he : e = x ∨ H e = some (.own x)) (k : ∀ b u, b ≠ e → s.heap.get? b = some u → h'.get? b = some u) (heo : ∃ u, h'.get? e = some u)
    (new : ObjOk X.prog X.w (upd H x o) h' x o) : Inv X pins σ (upd H x o) { s with heap := h', toks := t' } := I.un (Un.write mu he k heo) (I.hok.write mu he k heo new)
/-- forgetting slots, pins -/
theorem Inv.weak {σ' : List (Option V)} (I : Inv X pins σ H s) (hl : σ'.length = σ.length) (w : ∀ (i : Nat) v, σ'[i]? = some (some v) → σ[i]? = some (some v)) : Inv X pins σ' H s :=
  ⟨I.ok, I.os, I.bare, I.base, let ⟨m, hn, hl'⟩ := I.loc; ⟨m, hn, fun i x v e1 e2 e3 => hl' i x v e1 (w i v e2) e3⟩, I.cell, I.free, I.freeC, I.pin, I.hok, hl.trans I.len⟩
theorem Inv.pins_of {pins' : List (Addr × Obj)} (I : Inv X pins σ H s) (h : ∀ p ∈ pins', s.heap.get? p.1 = some p.2 ∧ H p.1 = none ∧ p.1 ≠ X.env.locals ∧ p.1 ∉ X.fs ∧ ∀ v, p.2.data ≠ .cell v) : Inv X pins' σ H s :=
  ⟨I.ok, I.os, I.bare, I.base, I.loc, I.cell, I.free, I.freeC, fun p hp => (List.mem_append.mp hp).elim (fun z => I.pin p (List.mem_append_left _ z)) (h p), I.hok, I.len⟩

theorem nodup_ix {N : List Str} (hN : N.Nodup) {i j : Nat} {x : Str} (a : N[i]? = some x) (b : N[j]? = some x) : i = j := by
  obtain ⟨h1, e1⟩ := List.getElem?_eq_some_iff.mp a
  obtain ⟨h2, e2⟩ := List.getElem?_eq_some_iff.mp b
  exact (List.getElem_inj hN).mp (e1.trans e2.symm)

/-- a name is stored; what changed -/
theorem store_ok2 {M : Model} {A : Around} {E : Value → Shared → Prop} {i : Nat} {x : Str} {v : V} {u : Value} {Q : Unit → Shared → Prop} (I : Inv X pins σ H s) (hN : X.N.Nodup) (hi : X.N[i]? = some x) (hx : Loc X.env.scope x) (r : RelV v u)
    (h : ∀ s', Inv X pins (σ.set i (some v)) H s' → (∃ a, Heap.SameBut a s.heap s'.heap ∧ (a = X.env.locals ∨ X.env.cells.lookup x = some a)) → Q () s') (hf : X.fn x = true ∨ X.env.scope.names.lookup x = some .local := by first | exact .inl rfl | exact .inr rfl | assumption) : wpAny M A (storeName X.env x u) Q E s := by
  obtain ⟨m, hn, hl⟩ := id I.loc
  have hcls : (X.env.scope.kind == .class || (X.env.scope.kind == .module && X.env.locals != X.env.globals)) = false := by rw [I.ok.kind]; rfl
  have hiσ : i < σ.length := by rw [I.len]; exact (List.getElem?_eq_some_iff.mp hi).1
  have cne := I.cne
  have tracked : ∀ {a : Addr} {h' : Heap}, (∃ o, s.heap.get? a = some o ∧ H a = none) → Heap.SameBut a s.heap h' → HOk X.prog X.w H h' := fun {a h'} ha hs b ob e => by
    obtain ⟨_, _, hfree⟩ := ha
    refine (I.hok b ob e).stay (fun c w' hc q => (hs.2 c ?_).trans q) (fun _ q => q) fun _ _ q => q
    rintro rfl
    rcases hc with rfl | hc
    · rw [hfree] at e; cases e
    · rw [hfree] at hc; cases hc
  rcases hx with hk | hk
  · refine wpAny_storeName_local hk hn (fun h' hn' hs => ?_) hcls
    obtain ⟨oL, _, _, hoL, _⟩ := id hn
    refine h _ ⟨I.ok, I.os, I.bare, ⟨fun b o e n hb hx => ?_, fun b o e n hb hx => ?_, I.base.free, fun b o e hx => ?_, I.base.tups, I.base.frzs, I.base.tbls⟩, ⟨_, hn', fun j y v' e1 e2 e3 => ?_⟩, fun y c e => ?_, I.free, I.freeC, fun p hp => ?_, tracked ⟨oL, hoL, I.free⟩ hs, by simpa using I.len⟩ ⟨_, hs, .inl rfl⟩
    · exact (hs.2 b (Nat.ne_of_lt (Nat.lt_of_lt_of_le (Heap.lt_size e) I.ok.above))).trans (I.base.keep b o e n hb hx)
    · obtain ⟨sl, e1⟩ := I.base.slot b o e n hb hx
      exact ⟨sl, (hs.2 b (Nat.ne_of_lt (Nat.lt_of_lt_of_le (Heap.lt_size e) I.ok.above))).trans e1⟩
    · obtain ⟨o', e1⟩ := I.base.there b o e hx
      exact ⟨o', (hs.2 b (Nat.ne_of_lt (Nat.lt_of_lt_of_le (Heap.lt_size e) I.ok.above))).trans e1⟩
    · by_cases hj : j = i
      · subst hj
        rw [hi] at e1; cases e1
        rw [List.getElem?_set_self hiσ] at e2
        cases e2
        exact ⟨u, r, .inl ⟨hk, by simp⟩⟩
      · rw [List.getElem?_set_ne (Ne.symm hj)] at e2
        obtain ⟨u', r', q⟩ := hl j y v' e1 e2 e3
        refine ⟨u', r', ?_⟩
        rcases q with ⟨k, e⟩ | ⟨k, c, e, z⟩
        · refine .inl ⟨k, ?_⟩
          have : y ≠ x := fun e => hj (nodup_ix hN e1 (e ▸ hi))
          simp [this, e]
        · exact .inr ⟨k, c, e, z.sameBut hs (cne y c e)⟩
    · obtain ⟨w', z⟩ := I.cell y c e
      exact ⟨w', z.sameBut hs (cne y c e)⟩
    · obtain ⟨e, n, ne, nf, d⟩ := I.pin p hp
      exact ⟨(hs.2 p.1 ne).trans e, n, ne, nf, d⟩
  · have hfn : X.fn x = true := by
      rcases hf with z | z
      · exact z
      · rw [z] at hk; cases hk
    obtain ⟨c, hc⟩ := I.ok.has x (.inl hk)
    obtain ⟨w', z⟩ := I.cell x c hc
    refine wpAny_storeName_cell I.ok.kind hk hc z (fun h' hc' hs => ?_)
    obtain ⟨oc, hoc, hocd⟩ := id z
    refine h { s with heap := h' } ⟨I.ok, I.os, I.bare, ⟨fun b o e n hb hx => ?_, fun b o e n hb hx => ?_, I.base.free, fun b o e hx => ?_, I.base.tups, I.base.frzs, I.base.tbls⟩, ⟨m, hn.sameBut hs (Ne.symm (cne x c hc)), fun j y v' e1 e2 e3 => ?_⟩, fun y c' e => ?_, I.free, I.freeC, fun p hp => ?_, tracked ⟨oc, hoc, I.freeC x c hc⟩ hs, by simpa using I.len⟩ ⟨c, hs, .inr hc⟩
    · exact (hs.2 b (Nat.ne_of_lt (Nat.lt_of_lt_of_le (Heap.lt_size e) (I.ok.cab x c hfn hc)))).trans (I.base.keep b o e n hb hx)
    · obtain ⟨sl, e1⟩ := I.base.slot b o e n hb hx
      exact ⟨sl, (hs.2 b (Nat.ne_of_lt (Nat.lt_of_lt_of_le (Heap.lt_size e) (I.ok.cab x c hfn hc)))).trans e1⟩
    · obtain ⟨o', e1⟩ := I.base.there b o e hx
      exact ⟨o', (hs.2 b (Nat.ne_of_lt (Nat.lt_of_lt_of_le (Heap.lt_size e) (I.ok.cab x c hfn hc)))).trans e1⟩
    · by_cases hj : j = i
      · subst hj
        rw [hi] at e1; cases e1
        rw [List.getElem?_set_self hiσ] at e2
        cases e2
        exact ⟨u, r, .inr ⟨.inl hk, c, hc, hc'⟩⟩
      · rw [List.getElem?_set_ne (Ne.symm hj)] at e2
        obtain ⟨u', r', q⟩ := hl j y v' e1 e2 e3
        refine ⟨u', r', ?_⟩
        rcases q with q | ⟨k, c', e, z'⟩
        · exact .inl q
        · refine .inr ⟨k, c', e, z'.sameBut hs ?_⟩
          rintro rfl
          exact hj (nodup_ix hN e1 (I.ok.inj _ _ _ e hc ▸ hi))
    · by_cases hcc : c' = c
      · subst hcc; exact ⟨_, hc'⟩
      · obtain ⟨w2, z2⟩ := I.cell y c' e
        exact ⟨w2, z2.sameBut hs hcc⟩
    · obtain ⟨e, n, ne, nf, d⟩ := I.pin p hp
      refine ⟨(hs.2 p.1 ?_).trans e, n, ne, nf, d⟩
      intro q
      rw [q, hoc] at e
      have q' : oc = p.2 := Option.some.inj e
      exact d w' (by rw [← q']; exact hocd)
theorem store_ok {M : Model} {A : Around} {E : Value → Shared → Prop} {i : Nat} {x : Str} {v : V} {u : Value} {Q : Unit → Shared → Prop} (I : Inv X pins σ H s) (hN : X.N.Nodup) (hi : X.N[i]? = some x) (hx : Loc X.env.scope x) (r : RelV v u)
    (h : ∀ s', Inv X pins (σ.set i (some v)) H s' → Q () s') (hf : X.fn x = true ∨ X.env.scope.names.lookup x = some .local := by first | exact .inl rfl | exact .inr rfl | assumption) : wpAny M A (storeName X.env x u) Q E s :=
  store_ok2 I hN hi hx r (fun s' I' _ => h s' I') hf
/-- behind a call or a block, the state as it is -/
theorem Inv.call' {s' : Shared} {ch : List Addr} (I : Inv X pins σ H s) (ho : s'.os = s.os) (u : Un (frs X.stack) ch H H' s.heap s'.heap) (hok : HOk X.prog X.w H' s'.heap) (hg : AllBare s'.gens)
    (hch : ∀ b ∈ ch, (b ∈ X.ex ∨ X.s₀.heap.objs.size ≤ b) ∧ b ≠ X.env.locals ∧ (∀ x c, X.env.cells.lookup x = some c → c ≠ b) ∧ ∀ p ∈ X.pn ++ pins, p.1 ≠ b) : Inv X pins σ H' s' := by
  obtain ⟨h', g', d', t', o'⟩ := s'
  have e : o' = s.os := ho
  subst e
  exact I.call (g' := g') (t' := t') (d' := d') u hok hg hch
end

/-! ### the judgements -/
/-- an exception: its class, its own dict's address (where it has one), the abstract heap behind it -/
abbrev XK := Value → Option Addr → Hp → Prop
abbrev St := List (Option V)
abbrev VK := V → Hp → Prop
/-- an expression's reading; a test's; an argument list's -/
abbrev TE := St → Hp → VK → Prop
abbrev TT := St → Hp → (Bool → Hp → Prop) → Prop
abbrev TA := St → Hp → (List V → Hp → Prop) → Prop
/-- what is wanted behind a statement -/
structure Ends where
  nx : St → Hp → Prop
  rt : VK
  bk : St → Hp → Prop := fun _ _ => False
  ct : St → Hp → Prop := fun _ _ => False
abbrev TS := Ends → St → Hp → Prop

def EP (X : Cx) (pins : List (Addr × Obj)) (σ : St) (Q : VK) (u : Value) (s' : Shared) : Prop := ∃ v H', Inv X pins σ H' s' ∧ RelV v u ∧ Q v H'
def TP (X : Cx) (pins : List (Addr × Obj)) (σ : St) (Q : Bool → Hp → Prop) (b : Bool) (s' : Shared) : Prop := ∃ H', Inv X pins σ H' s' ∧ Q b H'
def AP (X : Cx) (pins : List (Addr × Obj)) (σ : St) (Q : List V → Hp → Prop) (us : List Value) (s' : Shared) : Prop := ∃ vs H', Inv X pins σ H' s' ∧ Vals vs us ∧ Q vs H'
def SP (X : Cx) (pins : List (Addr × Obj)) (D : Ends) (f : Flow) (s' : Shared) : Prop :=
  match f with
  | .next => ∃ σ' H', Inv X pins σ' H' s' ∧ D.nx σ' H'
  | .brk => ∃ σ' H', Inv X pins σ' H' s' ∧ D.bk σ' H'
  | .cont => ∃ σ' H', Inv X pins σ' H' s' ∧ D.ct σ' H'
  | .ret u => ∃ v σ' H', Inv X pins σ' H' s' ∧ RelV v u ∧ D.rt v H'

def PE (X : Cx) (e : Expr) (t : TE) : Prop :=
  ∀ (pins : List (Addr × Obj)) (s : Shared) (σ : St) (H : Hp) (Q : VK), Inv X pins σ H s → t σ H Q → wpAny (model X.prog X.w) X.A (eval e X.env) (EP X pins σ Q) X.xe s
def PT (X : Cx) (e : Expr) (t : TT) : Prop :=
  ∀ (pins : List (Addr × Obj)) (s : Shared) (σ : St) (H : Hp) (Q : Bool → Hp → Prop), Inv X pins σ H s → t σ H Q → wpAny (model X.prog X.w) X.A (isTrue e X.env (eval e X.env)) (TP X pins σ Q) X.xe s
/-- a test whatever its 'whole' is (and, or) -/
def PW (X : Cx) (e : Expr) (t : TT) : Prop :=
  ∀ (whole : Sem Value) (pins : List (Addr × Obj)) (s : Shared) (σ : St) (H : Hp) (Q : Bool → Hp → Prop), Inv X pins σ H s → t σ H Q → wpAny (model X.prog X.w) X.A (isTrue e X.env whole) (TP X pins σ Q) X.xe s
theorem PW.pt {X : Cx} {e : Expr} {t : TT} (h : PW X e t) : PT X e t := h _
/-- an argument list (no star), from the left -/
def PA (X : Cx) (es : List Expr) (t : TA) : Prop :=
  ∀ (pos : Pos) (pins : List (Addr × Obj)) (s : Shared) (σ : St) (H : Hp) (Q : List V → Hp → Prop), Inv X pins σ H s → t σ H Q → wpAny (model X.prog X.w) X.A (spliced (backTo pos (starEach es X.env))) (AP X pins σ Q) X.xe s
def PS (X : Cx) (st : Stmt) (t : TS) : Prop :=
  ∀ (pins : List (Addr × Obj)) (s : Shared) (σ : St) (H : Hp) (D : Ends), Inv X pins σ H s → t D σ H → wpAny (model X.prog X.w) X.A (exec st X.env) (SP X pins D) X.xe s
def PSs (X : Cx) (st : List Stmt) (t : TS) : Prop :=
  ∀ (pins : List (Addr × Obj)) (s : Shared) (σ : St) (H : Hp) (D : Ends), Inv X pins σ H s → t D σ H → wpAny (model X.prog X.w) X.A (execs st X.env) (SP X pins D) X.xe s
/-- weaken the end -/
theorem thn {α : Type} {t : Sem α} {Q Q' : α → Shared → Prop} {M : Model} {A : Around} {E : Value → Shared → Prop} {s : Shared} (h : wpAny M A t Q E s) (hQ : ∀ a s, Q a s → Q' a s) : wpAny M A t Q' E s := wpAny_mono h hQ fun _ _ x => x
end L2

namespace L2
open PySem PySem.Spec PyProof.Rows
section
variable {X : Cx}


/-! ### names and constants -/
def tVar (i : Nat) : TE := fun σ H Q => ∃ v, σ[i]? = some (some v) ∧ Q v H
def tC (v : V) : TE := fun _ H Q => Q v H
theorem pe_var {i : Nat} {x : Str} {pos : Pos} (hN : X.N[i]? = some x) (hv : Vis X.env.scope x) (hd : (x == ("__debug__" : Str)) = false := by decide) (hcd : (x == ("__classdict__" : Str)) = false := by decide) : PE X (.Name x pos) (tVar i) := by
  intro pins s σ H Q I h
  obtain ⟨v, e, h⟩ := h
  obtain ⟨m, hn, hl⟩ := I.loc
  obtain ⟨u, r, l⟩ := hl i x v hN e hv
  have fin : EP X pins σ Q u s := ⟨v, H, I, r, h⟩
  rcases l with ⟨hk, hm⟩ | ⟨hk, c, hc, hcell⟩
  · exact wpAny_Name (wpAny_loadName_local I.ok.kind hk hn hm fin) hd
  · rcases hk with hk | hk
    · exact wpAny_Name (wpAny_loadName_cell I.ok.kind hk hc hcell fin) hd
    · exact wpAny_Name (wpAny_loadName_free I.ok.kind hk hc hcell fin hcd) hd
theorem pe_int {i j pos} : PE X (.Constant (.int i) j pos) (tC (.int i)) := fun _ _ _ H _ I h => wpAny_Constant_int ⟨.int i, H, I.tok _, ⟨_, rfl⟩, h⟩
theorem pe_bl {b j pos} : PE X (.Constant (.bool b) j pos) (tC (.bl b)) := fun _ _ _ H _ I h => Constant_bool ⟨.bl b, H, I, rfl, h⟩
theorem pe_non {j pos} : PE X (.Constant .none j pos) (tC .non) := fun _ _ _ H _ I h => Constant_none ⟨.non, H, I, rfl, h⟩
theorem pe_str {x j pos} : PE X (.Constant (.str x) j pos) (tC (.str x)) := fun _ _ _ H _ I h => Calls.Constant_str ⟨.str x, H, I.tok _, ⟨_, rfl⟩, h⟩

/-- a global name of the def -/
def Gl (X : Cx) (x : Str) : Prop := X.env.kindOf x = some .globalImplicit
theorem ld_glob {E : Value → Shared → Prop} {pins : List (Addr × Obj)} {s : Shared} {σ : St} {H : Hp} {x : Str} {u : Value} {pos : Pos} {Q : Value → Shared → Prop} (I : Inv X pins σ H s) (hg : Gl X x) (hm : X.mg x = some u) (h : Q u s)
    (hd : (x == ("__debug__" : Str)) = false := by decide) : wpAny (model X.prog X.w) X.A (eval (.Name x pos) X.env) Q E s :=
  Calls.Name_function_global I.ok.kind hg (Calls.loadGlobal_global (by rw [I.ok.glob]; exact I.mod.glob.keeps I.bk) hm h) hd
theorem ld_blt {E : Value → Shared → Prop} {pins : List (Addr × Obj)} {s : Shared} {σ : St} {H : Hp} {x : Str} {u : Value} {pos : Pos} {Q : Value → Shared → Prop} (I : Inv X pins σ H s) (hg : Gl X x) (hm : X.mg x = none) (hv : bootBuiltins x = some u) (h : Q u s)
    (hn : x ≠ "__name__" := by decide) (hd : (x == ("__debug__" : Str)) = false := by decide) : wpAny (model X.prog X.w) X.A (eval (.Name x pos) X.env) Q E s := by
  obtain ⟨mb, h1, h2⟩ := I.mod.blt
  exact Calls.Name_function_global I.ok.kind hg (Calls.loadGlobal_builtin (by rw [I.ok.glob]; exact I.mod.glob.keeps I.bk) hm (by rw [I.ok.blt]; exact h1.keeps I.bk) ((h2 x hn).trans hv) h) hd
theorem pe_bltn {x : Str} {v : V} {u : Value} {pos : Pos} (hg : Gl X x) (hm : X.mg x = none) (hv : bootBuiltins x = some u) (r : RelV v u) (hn : x ≠ "__name__" := by decide) (hd : (x == ("__debug__" : Str)) = false := by decide) : PE X (.Name x pos) (tC v) :=
  fun _ _ _ H _ I h => ld_blt I hg hm hv ⟨v, H, I, r, h⟩ hn hd

/-! ### arithmetic -/
variable {a b : Expr} {ta tb : TE} {pos : Pos}

/-! ### comparisons -/
def PC (X : Cx) (op : CmpOp) (a b : Expr) (t : TE) : Prop :=
  ∀ (pins : List (Addr × Obj)) (s : Shared) (σ : St) (H : Hp) (Q : VK), Inv X pins σ H s → t σ H Q →
    wpAny (model X.prog X.w) X.A (eval a X.env) (fun v s₁ => wpAny (model X.prog X.w) X.A (eval b X.env) (fun u s₂ => wpAny (model X.prog X.w) X.A (compareOp op v u) (EP X pins σ Q) X.xe s₂) X.xe s₁) X.xe s
theorem nobehind (b : Expr) {op : CmpOp} (h : op ≠ .In) (h2 : op ≠ .NotIn) : behindInMarks op b = false := by
  have e1 : (op == CmpOp.In) = false := by cases op <;> first | rfl | exact absurd rfl h
  have e2 : (op == CmpOp.NotIn) = false := by cases op <;> first | rfl | exact absurd rfl h2
  cases b <;> simp [behindInMarks, e1, e2]
/-- is None -/
def tIsN (ta : TE) : TE := fun σ H Q => ta σ H fun x H1 => Q (.bl (decide (x = .non))) H1
def tNotN (ta : TE) : TE := fun σ H Q => ta σ H fun x H1 => Q (.bl (!decide (x = .non))) H1
theorem RelV.none_iff {x : V} {v : Value} (r : RelV x v) : (v == Value.none) = decide (x = .non) := by
  cases x with
  | non => cases r; rfl
  | bl _ => cases r; rfl
  | int _ => obtain ⟨t, rfl⟩ := r; rfl
  | str _ => obtain ⟨t, rfl⟩ := r; rfl
  | byt _ => obtain ⟨t, rfl⟩ := r; rfl
  | flt _ => obtain ⟨t, rfl⟩ := r; rfl
  | ref _ => cases r; rfl
  | ty _ => cases r; rfl
theorem pc_isN {j pos'} (ha : PE X a ta) : PC X .Is a (.Constant .none j pos') (tIsN ta) := by
  intro pins s σ H Q I h
  refine thn (ha pins s σ H _ I h) fun v s1 ⟨x, H1, I1, r1, q1⟩ => ?_
  exact Constant_none (is_none_gen ⟨.bl _, H1, I1, by rw [r1.none_iff]; rfl, q1⟩)
theorem pc_notN {j pos'} (ha : PE X a ta) : PC X .IsNot a (.Constant .none j pos') (tNotN ta) := by
  intro pins s σ H Q I h
  refine thn (ha pins s σ H _ I h) fun v s1 ⟨x, H1, I1, r1, q1⟩ => ?_
  exact Constant_none (isnot_none_gen ⟨.bl _, H1, I1, by rw [r1.none_iff]; rfl, q1⟩)
/-- a comparison as a value, as a test -/
def tB (t : TE) : TT := fun σ H Q => t σ H fun x H1 => ∃ c, x = .bl c ∧ Q c H1
theorem pe_cmp {op : CmpOp} {t : TE} (h : PC X op a b t) (h1 : behindInMarks op b = false := by first | exact nobehind _ (by decide) (by decide) | rfl) : PE X (.Compare a [op] [b] pos) t := fun pins s σ H Q I hw => wpAny_Compare1 (h pins s σ H Q I hw) h1
theorem pt_cmp {op : CmpOp} {t : TE} (h : PC X op a b t) (h1 : behindInMarks op b = false := by first | exact nobehind _ (by decide) (by decide) | rfl) : PT X (.Compare a [op] [b] pos) (tB t) := by
  intro pins s σ H Q I hw
  refine wpAny_isTrue_Compare1 (thn (h pins s σ H _ I hw) fun v s1 h1 => thn h1 fun u s2 h2 => thn h2 fun c s3 ⟨x, H1, I1, r1, q1⟩ => ?_) h1
  obtain ⟨d, rfl, q⟩ := q1
  cases r1
  exact wpAny_truthy_bool ⟨H1, I1, q⟩

/-! ### and, or, not -/
variable {tA tB' : TT} {rest : List Expr}
def tAnd (t u : TT) : TT := fun σ H Q => t σ H fun c H1 => if c = true then u σ H1 Q else Q false H1
def tOr (t u : TT) : TT := fun σ H Q => t σ H fun c H1 => if c = true then Q true H1 else u σ H1 Q
def tNot (t : TT) : TT := fun σ H Q => t σ H fun c H1 => Q (!c) H1
theorem pw_and1 (ha : PT X a tA) : PW X (.BoolOp .And [a] pos) tA := by
  intro wh pins s σ H Q I h
  refine isTrue_and (thn (ha pins s σ H Q I h) fun c s1 e => ?_)
  cases c with
  | true => exact isTrue_and_nil e
  | false => exact e
theorem pw_or1 (ha : PT X a tA) : PW X (.BoolOp .Or [a] pos) tA := by
  intro wh pins s σ H Q I h
  refine isTrue_or (thn (ha pins s σ H Q I h) fun c s1 e => ?_)
  cases c with
  | false => exact isTrue_or_nil e
  | true => exact e
theorem pw_and (ha : PT X a tA) (hb : PW X (.BoolOp .And (b :: rest) pos) tB') : PW X (.BoolOp .And (a :: b :: rest) pos) (tAnd tA tB') := by
  intro wh pins s σ H Q I h
  refine isTrue_and (thn (ha pins s σ H _ I h) fun c s1 ⟨H1, I1, q1⟩ => ?_)
  cases c with
  | true => exact hb wh pins s1 σ H1 Q I1 q1
  | false => exact ⟨H1, I1, q1⟩
theorem pw_or (ha : PT X a tA) (hb : PW X (.BoolOp .Or (b :: rest) pos) tB') : PW X (.BoolOp .Or (a :: b :: rest) pos) (tOr tA tB') := by
  intro wh pins s σ H Q I h
  refine isTrue_or (thn (ha pins s σ H _ I h) fun c s1 ⟨H1, I1, q1⟩ => ?_)
  cases c with
  | true => exact ⟨H1, I1, q1⟩
  | false => exact hb wh pins s1 σ H1 Q I1 q1
theorem pt_not (ha : PT X a tA) : PT X (.UnaryOp .Not a pos) (tNot tA) := by
  intro pins s σ H Q I h
  exact isTrue_not (ha pins s σ H (fun c H1 => Q (!c) H1) I h)
def tNotV (ta : TE) : TE := fun σ H Q => ta σ H fun x H1 => ∃ c, x = .bl c ∧ Q (.bl (!c)) H1
theorem pe_one {op} {t : TE} (h : PE X a t) : PE X (.BoolOp op [a] pos) t := fun pins s σ H Q I hw => BoolOp_one (h pins s σ H Q I hw)
theorem pe_not (ha : PE X a ta) : PE X (.UnaryOp .Not a pos) (tNotV ta) := by
  intro pins s σ H Q I h
  refine UnaryOp_ (thn (ha pins s σ H _ I h) fun v s1 ⟨x, H1, I1, r1, q1⟩ => ?_)
  obtain ⟨c, rfl, q1⟩ := q1
  cases r1
  exact not_of (wpAny_truthy_bool ⟨.bl (!c), H1, I1, rfl, q1⟩)
/-- a if t else b -/
def tIf (t : TT) (ta tb : TE) : TE := fun σ H Q => t σ H fun c H1 => if c = true then ta σ H1 Q else tb σ H1 Q
theorem pe_ifExp {c : Expr} (hc : PT X c tA) (ha : PE X a ta) (hb : PE X b tb) : PE X (.IfExp c a b pos) (tIf tA ta tb) := by
  intro pins s σ H Q I h
  refine wpAny_IfExp (thn (hc pins s σ H _ I h) fun d s1 ⟨H1, I1, q1⟩ => ?_)
  cases d with
  | true => exact ha pins s1 σ H1 Q I1 q1
  | false => exact hb pins s1 σ H1 Q I1 q1
end
end L2

namespace L2
open PySem PySem.Spec PyProof.Rows

/-! ### a list, a tuple that is read: tracked, frozen, or an object of the module -/
def SqL (K : PySem.W.Frag) (H : Hp) (a : Addr) (xs : List V) : Prop :=
  Rd H a (.lst xs) ∨
    ∃ (o : Obj) (its : Array Value) (n : Nat), K.lookup a = some o ∧ o.cls = .type "list" ∧ o.dict = none ∧ o.data = .seq its n ∧ its.size ≤ sizeLine ∧ Vals xs its.toList
def SqT (K : PySem.W.Frag) (H : Hp) (a : Addr) (xs : List V) : Prop :=
  Rd H a (.tup xs) ∨
    ∃ (o : Obj) (its : Array Value) (n : Nat), K.lookup a = some o ∧ o.cls = .type "tuple" ∧ o.data = .seq its n ∧ its.size ≤ sizeLine ∧ Vals xs its.toList
def absV : Value → Option V
  | .none => some .non
  | .bool b => some (.bl b)
  | .int i _ => some (.int i)
  | .str x _ => some (.str x)
  | .bytes b _ => some (.byt b)
  | .float b _ => some (.flt b)
  | .ref a => some (.ref a)
  | .type n => some (.ty n)
  | _ => none
theorem RelV.abs {x : V} {u : Value} (r : RelV x u) : absV u = some x := by
  cases x with
  | non => cases r; rfl
  | bl _ => cases r; rfl
  | int _ => obtain ⟨t, rfl⟩ := r; rfl
  | str _ => obtain ⟨t, rfl⟩ := r; rfl
  | byt _ => obtain ⟨t, rfl⟩ := r; rfl
  | flt _ => obtain ⟨t, rfl⟩ := r; rfl
  | ref _ => cases r; rfl
  | ty _ => cases r; rfl
theorem RelV.inj {x y : V} {u : Value} (r : RelV x u) (q : RelV y u) : x = y := Option.some.inj (r.abs.symm.trans q.abs)
theorem Vals.inj : ∀ {xs ys : List V} {us : List Value}, Vals xs us → Vals ys us → xs = ys
  | _, _, _, .nil, .nil => rfl
  | _, _, _, .cons r t, .cons r' t' => by rw [r.inj r', Vals.inj t t']
section
variable {X : Cx} {pins : List (Addr × Obj)} {σ : St} {H : Hp} {s : Shared} {a : Addr} {xs ys : List V}
theorem SqL.of {K : PySem.W.Frag} (h : H a = some (.lst xs)) : SqL K H a xs := .inl (.inl h)
theorem SqT.of {K : PySem.W.Frag} (h : H a = some (.tup xs)) : SqT K H a xs := .inl (.inl h)
theorem Inv.list (I : Inv X pins σ H s) (h : SqL X.K H a xs) : ∃ its : List Value, Vals xs its ∧ PlainL s.heap a its.toArray ∧ xs.length ≤ sizeLine := by
  rcases h with h | ⟨o, its, n, hk, hc, hd, hs, hz, r⟩
  · obtain ⟨z, its, n, r, e⟩ := h.ok I.hok
    exact ⟨its, r, ⟨_, n, e, rfl, rfl, rfl⟩, z⟩
  · refine ⟨its.toList, r, ⟨o, n, I.kIn a o hk, hc, hd, by simpa using hs⟩, ?_⟩
    have e := r.length
    simp only [Array.length_toList] at e
    omega
theorem Inv.tuple (I : Inv X pins σ H s) (h : SqT X.K H a xs) : ∃ its : List Value, Vals xs its ∧ IsTup s.heap a its.toArray ∧ xs.length ≤ sizeLine := by
  rcases h with h | ⟨o, its, n, hk, hc, hs, hz, r⟩
  · obtain ⟨z, its, r, p⟩ := h.ok I.hok
    exact ⟨its, r, p, z⟩
  · refine ⟨its.toList, r, ⟨o, I.kIn a o hk, hc, n, by simpa using hs⟩, ?_⟩
    have e := r.length
    simp only [Array.length_toList] at e
    omega
theorem Inv.list_inj (I : Inv X pins σ H s) (h : SqL X.K H a xs) (h' : SqL X.K H a ys) : xs = ys := by
  obtain ⟨its, r, ⟨o, n, e, _, _, d⟩, _⟩ := I.list h
  obtain ⟨its', r', ⟨o', n', e', _, _, d'⟩, _⟩ := I.list h'
  rw [e] at e'; cases e'
  rw [d] at d'
  injection d' with d1 _
  have : its = its' := by simpa using congrArg Array.toList d1
  subst this
  exact r.inj r'
theorem Inv.tuple_inj (I : Inv X pins σ H s) (h : SqT X.K H a xs) (h' : SqT X.K H a ys) : xs = ys := by
  obtain ⟨its, r, ⟨o, e, _, n, d⟩, _⟩ := I.tuple h
  obtain ⟨its', r', ⟨o', e', _, n', d'⟩, _⟩ := I.tuple h'
  rw [e] at e'; cases e'
  rw [d] at d'
  injection d' with d1 _
  have : its = its' := by simpa using congrArg Array.toList d1
  subst this
  exact r.inj r'
end

/-! ### another wish about exceptions -/
abbrev Cx.wish (X : Cx) (E : Value → Shared → Prop) : Cx := { X with xe := E }
/-- no exception leaves -/
abbrev Cx.nox (X : Cx) : Cx := X.wish fun _ _ => False
theorem Cx.Ok.wish {X : Cx} (ok : X.Ok) (E : Value → Shared → Prop) : (X.wish E).Ok :=
  ⟨ok.mod, ok.kind, ok.glob, ok.blt, ok.above, ok.inj, ok.has, ok.cab, ok.hd, ok.frames, ok.stk, ok.exf, ok.bs, ok.bsz, ok.noex, ok.exfs, ok.funs, ok.frf⟩
theorem Cx.Ok.unwish {X : Cx} {E : Value → Shared → Prop} (ok : (X.wish E).Ok) : X.Ok :=
  ⟨ok.mod, ok.kind, ok.glob, ok.blt, ok.above, ok.inj, ok.has, ok.cab, ok.hd, ok.frames, ok.stk, ok.exf, ok.bs, ok.bsz, ok.noex, ok.exfs, ok.funs, ok.frf⟩
section
variable {X : Cx} {pins : List (Addr × Obj)} {σ : St} {H : Hp} {s : Shared} {E : Value → Shared → Prop}
theorem Inv.wish (I : Inv X pins σ H s) (E : Value → Shared → Prop) : Inv (X.wish E) pins σ H s := ⟨I.ok.wish E, I.os, I.bare, I.base, I.loc, I.cell, I.free, I.freeC, I.pin, I.hok, I.len⟩
theorem Inv.unwish (I : Inv (X.wish E) pins σ H s) : Inv X pins σ H s := ⟨I.ok.unwish, I.os, I.bare, I.base, I.loc, I.cell, I.free, I.freeC, I.pin, I.hok, I.len⟩
theorem SP.unwish {D : Ends} {f : Flow} {s' : Shared} (h : SP (X.wish E) pins D f s') : SP X pins D f s' := by
  cases f with
  | next => obtain ⟨σ', H', I, q⟩ := h; exact ⟨σ', H', I.unwish, q⟩
  | brk => obtain ⟨σ', H', I, q⟩ := h; exact ⟨σ', H', I.unwish, q⟩
  | cont => obtain ⟨σ', H', I, q⟩ := h; exact ⟨σ', H', I.unwish, q⟩
  | ret u => obtain ⟨v, σ', H', I, r, q⟩ := h; exact ⟨v, σ', H', I.unwish, r, q⟩
theorem PSs.nox {st : List Stmt} {t : TS} (h : PSs X.nox st t) : PSs X st t := fun pins s σ H D I hw =>
  wpAny_mono (h pins s σ H D (I.wish _) hw) (fun _ _ q => q.unwish) fun _ _ z => False.elim z
end

/-! ### blocks and small statements -/
section
variable {X : Cx} {st : Stmt} {rest : List Stmt} {t u : TS} {e : Expr} {te : TE} {pos : Pos}
def tNext : TS := fun D σ H => D.nx σ H
def tSeq (t u : TS) : TS := fun D σ H => t { D with nx := u D } σ H
theorem pss_nil : PSs X [] tNext := fun _ _ σ H _ I h => wpAny_execs_nil ⟨σ, H, I, h⟩
theorem pss_cons (h1 : PS X st t) (h2 : PSs X rest u) : PSs X (st :: rest) (tSeq t u) := by
  intro pins s σ H D I h
  refine wpAny_execs_cons (thn (h1 pins s σ H { D with nx := u D } I h) fun f s1 q => ?_)
  cases f with
  | next =>
    obtain ⟨σ', H', I', q⟩ := q
    exact h2 pins s1 σ' H' D I' q
  | ret v => exact q
  | brk => exact q
  | cont => exact q
def tBreak : TS := fun D σ H => D.bk σ H
def tCont : TS := fun D σ H => D.ct σ H
theorem ps_pass : PS X (.Pass pos) tNext := fun _ _ σ H _ I h => wpAny_Pass ⟨σ, H, I, h⟩
theorem ps_break : PS X (.Break pos) tBreak := fun _ _ σ H _ I h => wpAny_Break ⟨σ, H, I, h⟩
theorem ps_continue : PS X (.Continue pos) tCont := fun _ _ σ H _ I h => wpAny_Continue ⟨σ, H, I, h⟩
/-- in a def's body nothing is shown -/
theorem Inv.quiet {pins : List (Addr × Obj)} {σ : St} {H : Hp} {s : Shared} (I : Inv X pins σ H s) : interactive X.env = false := by simp [interactive, I.ok.kind]
/-- an expression whose value is dropped -/
def tDrop (te : TE) : TS := fun D σ H => te σ H fun _ H1 => D.nx σ H1
theorem ps_expr (he : PE X e te) (hs : swapsWith e none pos.line X.env = pure false := by rfl) : PS X (.Expr e pos) (tDrop te) := by
  intro pins s σ H D I h
  exact wpAny_Expr_any (thn (he pins s σ H _ I h) fun v s1 ⟨x, H1, I1, r1, q1⟩ => ⟨σ, H1, I1, q1⟩) I.quiet hs
def tRet (te : TE) : TS := fun D σ H => te σ H D.rt
theorem ps_ret (he : PE X e te) : PS X (.Return (some e) pos) (tRet te) := by
  intro pins s σ H D I h
  exact wpAny_Return_some (thn (he pins s σ H _ I h) fun v s1 ⟨x, H1, I1, r1, q1⟩ => ⟨x, σ, H1, I1, r1, q1⟩)
def tRetN : TS := fun D _ H => D.rt .non H
theorem ps_retN : PS X (.Return none pos) tRetN := fun _ _ σ H _ I h => wpAny_Return_none ⟨.non, σ, H, I, rfl, h⟩
def tIfS (c : TT) (t u : TS) : TS := fun D σ H => c σ H fun b H1 => if b = true then t D σ H1 else u D σ H1
theorem ps_if {c : Expr} {a b : List Stmt} {tc : TT} (hc : PT X c tc) (ha : PSs X a t) (hb : PSs X b u) : PS X (.If c a b pos) (tIfS tc t u) := by
  intro pins s σ H D I h
  refine wpAny_If (thn (hc pins s σ H _ I h) fun d s1 ⟨H1, I1, q1⟩ => ?_)
  cases d with
  | true => exact ha pins s1 σ H1 D I1 q1
  | false => exact hb pins s1 σ H1 D I1 q1
end

/-! ### targets -/
abbrev TG := V → St → Hp → (St → Hp → Prop) → Prop
abbrev TGs := List V → St → Hp → (St → Hp → Prop) → Prop
def PG (X : Cx) (target : Expr) (t : TG) : Prop :=
  ∀ (pins : List (Addr × Obj)) (s : Shared) (σ : St) (H : Hp) (v : V) (u : Value) (Q : St → Hp → Prop), Inv X pins σ H s → RelV v u → t v σ H Q →
    wpAny (model X.prog X.w) X.A (assign target X.env u) (fun _ s' => ∃ σ' H', Inv X pins σ' H' s' ∧ Q σ' H') X.xe s
/-- several targets, one after another -/
def PGs (X : Cx) (ts : List Expr) (t : TGs) : Prop :=
  ∀ (pins : List (Addr × Obj)) (s : Shared) (σ : St) (H : Hp) (vs : List V) (us : List Value) (Q : St → Hp → Prop), Inv X pins σ H s → Vals vs us → t vs σ H Q →
    wpAny (model X.prog X.w) X.A (assignInOrder ((assignEach ts X.env).map (·.2)) us) (fun _ s' => ∃ σ' H', Inv X pins σ' H' s' ∧ Q σ' H') X.xe s
/-- o[i] = v, by values -/
abbrev TSet := V → V → V → Hp → (Hp → Prop) → Prop
def PSet (X : Cx) (t : TSet) : Prop :=
  ∀ (pins : List (Addr × Obj)) (s : Shared) (σ : St) (H : Hp) (o i v : V) (ov iv u : Value) (Q : Hp → Prop), Inv X pins σ H s → RelV o ov → RelV i iv → RelV v u → t o i v H Q →
    wpAny (model X.prog X.w) X.A (setItem ov iv u) (fun _ s' => ∃ H', Inv X pins σ H' s' ∧ Q H') X.xe s
/-- a op= b, by values -/
abbrev TIp := V → V → Hp → VK → Prop
def PIp (X : Cx) (op : Operator) (t : TIp) : Prop :=
  ∀ (pins : List (Addr × Obj)) (s : Shared) (σ : St) (H : Hp) (x y : V) (v u : Value) (Q : VK), Inv X pins σ H s → RelV x v → RelV y u → t x y H Q →
    wpAny (model X.prog X.w) X.A (inplaceOp op v u) (EP X pins σ Q) X.xe s
section
variable {X : Cx} {pos : Pos}
def gName (i : Nat) : TG := fun v σ H Q => Q (σ.set i (some v)) H
theorem pg_name {i : Nat} {x : Str} (hN : X.N.Nodup) (hi : X.N[i]? = some x) (hx : Loc X.env.scope x) (hf : X.fn x = true ∨ X.env.scope.names.lookup x = some .local := by first | exact .inl rfl | exact .inr rfl | assumption) : PG X (.Name x pos) (gName i) := by
  intro pins s σ H v u Q I r h
  exact wpAny_assign_Name (store_ok I hN hi hx r (fun s' I' => ⟨_, H, I', h⟩) hf)
def gNil : TGs := fun vs σ H Q => vs = [] ∧ Q σ H
def gCons (t : TG) (u : TGs) : TGs := fun vs σ H Q => ∃ v r, vs = v :: r ∧ t v σ H fun σ' H' => u r σ' H' Q
theorem pgs_nil : PGs X [] gNil := by
  intro pins s σ H vs us Q I r h
  obtain ⟨e, h⟩ := h
  subst e
  cases r
  exact assignInOrder_nil ⟨σ, H, I, h⟩
theorem pgs_cons {e : Expr} {es : List Expr} {t : TG} {u : TGs} (h1 : PG X e t) (h2 : PGs X es u)
    (hs : (assignEach (e :: es) X.env).map (·.2) = assign e X.env :: (assignEach es X.env).map (·.2) := by rfl) : PGs X (e :: es) (gCons t u) := by
  intro pins s σ H vs us Q I r h
  obtain ⟨v, vr, e1, h⟩ := h
  subst e1
  cases r with
  | cons r rr =>
    rw [hs]
    refine assignInOrder_cons (thn (h1 pins s σ H _ _ _ I r h) fun _ s1 ⟨σ1, H1, I1, q1⟩ => ?_)
    exact h2 pins s1 σ1 H1 _ _ Q I1 rr q1
/-- (a, b, ..) = a tuple of that length -/
def gTup (K : PySem.W.Frag) (n : Nat) (t : TGs) : TG := fun v σ H Q => ∃ a xs, v = .ref a ∧ SqT K H a xs ∧ xs.length = n ∧ t xs σ H Q
theorem pg_tup {es : List Expr} {k : Nat} {t : TGs} {n : Nat} (hc : X.calm = true) (h : PGs X es t)
    (hn : (assignEach es X.env).length = n := by rfl) (hst : (assignEach es X.env).findIdx? (·.1) = none := by rfl) : PG X (.Tuple es k pos) (gTup X.K n t) := by
  intro pins s σ H v u Q I r hw
  obtain ⟨a, xs, e1, hq, hl, hw⟩ := hw
  subst e1
  cases r
  obtain ⟨its, rv, ht, hz⟩ := I.tuple hq
  refine assign_Tuple_tuple (I.ok.hd hc) ht (by simp [hn, ← hl, rv.length]) hst fun h' hx => ?_
  have I1 : Inv X pins σ H { s with heap := h' } := I.kept (t' := s.toks) fun b o e => hx b o (Nat.ne_of_lt (Heap.lt_size e)) e
  exact h pins _ σ H xs _ Q I1 (by simpa using rv) hw
/-- o[i] = .. -/
def gSub (to ti : TE) (t : TSet) : TG := fun v σ H Q => to σ H fun o H1 => ti σ H1 fun i H2 => t o i v H2 fun H3 => Q σ H3
theorem pg_sub {o i : Expr} {to ti : TE} {t : TSet} (ho : PE X o to) (hi : PE X i ti) (hs : PSet X t)
    (ha : ∀ v, assign (.Subscript o i pos) X.env v = (do
      let ov ← holding [v] (eval o X.env)
      let iv ← holding [v, ov] (eval i X.env)
      standAt pos
      holding [v, ov, iv] (setItem ov iv v)
      release [v, ov, iv] []) := by intro _; rfl) : PG X (.Subscript o i pos) (gSub to ti t) := by
  intro pins s σ H v u Q I r h
  rw [ha]
  refine wpAny_bind (wpAny_holding (thn (ho pins s σ H _ I h) fun ov s1 ⟨x, H1, I1, r1, q1⟩ => ?_))
  refine wpAny_bind (wpAny_holding (thn (hi pins s1 σ H1 _ I1 q1) fun iv s2 ⟨y, H2, I2, r2, q2⟩ => ?_))
  refine wpAny_bind (wpAny_standAt (wpAny_bind (wpAny_holding (thn (hs pins s2 σ H2 x y v ov iv u _ I2 r1 r2 r q2) fun _ s3 ⟨H3, I3, q3⟩ => ?_))))
  exact wpAny_release ⟨σ, H3, I3, q3⟩
/-- target = value -/
def tAsg (te : TE) (g : TG) : TS := fun D σ H => te σ H fun x H1 => g x σ H1 D.nx
theorem ps_asg {tg e : Expr} {te : TE} {g : TG} (he : PE X e te) (hg : PG X tg g) (hs : swapsWithSole [tg] e pos.line X.env = pure false := by rfl) (hw : swappedStores [tg] e X.env = pure none := by rfl)
    (h1 : (assignEach [tg] X.env).map (·.2) = [assign tg X.env] := by rfl) : PS X (.Assign [tg] e pos) (tAsg te g) := by
  intro pins s σ H D I h
  refine wpAny_Assign_stores (thn (he pins s σ H _ I h) fun v s1 ⟨x, H1, I1, r1, q1⟩ => ?_) hs hw
  rw [h1]
  exact thn (hg pins s1 σ H1 x v _ I1 r1 q1) fun _ s2 q => q
/-- name = value -/
theorem ps_set {i : Nat} {x : Str} {e : Expr} {te : TE} {pos' : Pos} (hN : X.N.Nodup) (hi : X.N[i]? = some x) (hx : Loc X.env.scope x) (he : PE X e te) (hs : swapsWith e (some (.Name x pos')) pos.line X.env = pure false := by rfl) (hf : X.fn x = true ∨ X.env.scope.names.lookup x = some .local := by first | exact .inl rfl | exact .inr rfl | assumption) :
    PS X (.Assign [.Name x pos'] e pos) (tAsg te (gName i)) := by
  intro pins s σ H D I h
  refine wpAny_Assign_Name (thn (he pins s σ H _ I h) fun v s1 ⟨y, H1, I1, r1, q1⟩ => ?_) hs
  exact store_ok I1 hN hi hx r1 (fun s2 I2 => ⟨_, H1, I2, q1⟩) hf
/-- a, b = x, y with plain local names: stored from the right; the pair itself is not tracked (the opening rows as in PyProof/Rows/TupAssign.lean:23) -/
def tPar (i j : Nat) (ta : TA) : TS := fun D σ H => ta σ H fun vs H1 => ∃ v w, vs = [v, w] ∧ D.nx ((σ.set i (some v)).set j (some w)) H1
theorem ps_par {i j : Nat} {x y : Str} {a b : Expr} {ta : TA} {px py pt : Pos} {kt k2 pt2} (hc : X.calm = true) (hN : X.N.Nodup) (hi : X.N[i]? = some x) (hj : X.N[j]? = some y) (hij : i ≠ j)
    (hx : X.env.scope.names.lookup x = some .local) (hy : X.env.scope.names.lookup y = some .local) (ha : PA X [a, b] ta)
    (hw : swappedStores [.Tuple [.Name x px, .Name y py] kt pt] (.Tuple [a, b] k2 pt2) X.env = pure (some [x, y]))
    (hs : swapsWithSole [.Tuple [.Name x px, .Name y py] kt pt] (.Tuple [a, b] k2 pt2) pos.line X.env = pure false := by rfl) :
    PS X (.Assign [.Tuple [.Name x px, .Name y py] kt pt] (.Tuple [a, b] k2 pt2) pos) (tPar i j ta) := by
  intro pins s σ H D I h
  rw [exec_Assign_arm]
  refine wpAny_bind (wpAny_standAt ?_)
  rw [hs]
  refine wpAny_bind (wpAny_pure ?_)
  rw [if_neg (by decide)]
  refine wpAny_bind (Tuple_ (thn (ha _ pins s σ H _ I h) fun us s1 ⟨vs, H1, I1, r1, q1⟩ => ?_))
  obtain ⟨v, w, e1, q1⟩ := q1
  subst e1
  obtain ⟨u1, u2, rfl, rv, rw'⟩ : ∃ u1 u2, us = [u1, u2] ∧ RelV v u1 ∧ RelV w u2 := by
    cases r1 with
    | cons p q =>
      cases q with
      | cons p' q' =>
        cases q'
        exact ⟨_, _, rfl, p, p'⟩
  refine wpAny_newObj_type ?_ (by show 2 ≤ sizeLine; decide)
  have I2 : Inv X pins σ H1 { s1 with heap := s1.heap.push { cls := .type "tuple", data := .seq [u1, u2].toArray } } := I1.kept (t' := s1.toks) fun b o e => Heap.get?_push_of_some _ e
  rw [hw]
  refine wpAny_bind (wpAny_pure ?_)
  show wpAny (model X.prog X.w) X.A (do rule "assign.swapped-stores"; let items ← unpackItems (.ref s1.heap.objs.size) 2 none; assignInOrder [fun v => bindName X.env y v, fun v => bindName X.env x v] items.reverse; pure Flow.next) _ _ _
  refine wpAny_bind (wpAny_rule (wpAny_bind (unpackItems_tuple (items := #[u1, u2]) (I.ok.hd hc) (IsTup.new s1.heap _) fun h' hx' => ?_)))
  have I3 := I2.kept (h' := h') (t' := s1.toks) fun b o e => hx' b o (Nat.ne_of_lt (Heap.lt_size e)) e
  show wpAny _ _ (assignInOrder [fun v => bindName X.env y v, fun v => bindName X.env x v] [u2, u1] >>= fun _ => pure Flow.next) _ _ _
  refine wpAny_bind (assignInOrder_cons (wpAny_bindName (store_ok I3 hN hj (.inl hy) rw' (fun s2 I4 => ?_) (.inr hy))))
  refine assignInOrder_cons (wpAny_bindName (store_ok I4 hN hi (.inl hx) rv (fun s3 I5 => assignInOrder_nil (wpAny_pure ?_)) (.inr hx)))
  rw [List.set_comm _ _ (Ne.symm hij)] at I5
  exact ⟨_, H1, I5, q1⟩
/-- name op= e -/
def tAug (i : Nat) (te : TE) (ti : TIp) : TS := fun D σ H => ∃ x, σ[i]? = some (some x) ∧ te σ H fun y H1 => ti x y H1 fun z H2 => D.nx (σ.set i (some z)) H2
theorem ps_aug {i : Nat} {x : Str} {e : Expr} {te : TE} {op : Operator} {ti : TIp} {pos' : Pos} (hN : X.N.Nodup) (hi : X.N[i]? = some x) (hx : Loc X.env.scope x) (he : PE X e te) (ho : PIp X op ti) (hf : X.fn x = true ∨ X.env.scope.names.lookup x = some .local := by first | exact .inl rfl | exact .inr rfl | assumption) :
    PS X (.AugAssign (.Name x pos') op e pos) (tAug i te ti) := by
  intro pins s σ H D I h
  obtain ⟨v, e1, h⟩ := h
  obtain ⟨m, hn, hl⟩ := I.loc
  have vis : Vis X.env.scope x := by rcases hx with k | k; exact .inl k; exact .inr (.inl k)
  obtain ⟨u, r, l⟩ := hl i x v hi e1 vis
  refine wpAny_AugAssign_Name ?_
  have go : wpAny (model X.prog X.w) X.A (eval e X.env) (fun w s₂ => wpAny (model X.prog X.w) X.A (inplaceOp op u w) (fun r s₃ => wpAny (model X.prog X.w) X.A (storeName X.env x r) (fun _ => SP X pins D .next) X.xe s₃) X.xe s₂) X.xe s := by
    refine thn (he pins s σ H _ I h) fun w s1 ⟨y, H1, I1, r1, q1⟩ => ?_
    refine thn (ho pins s1 σ H1 v y u w _ I1 r r1 q1) fun z s2 ⟨zv, H2, I2, r2, q2⟩ => ?_
    exact store_ok I2 hN hi hx r2 (fun s3 I3 => ⟨_, H2, I3, q2⟩) hf
  rcases l with ⟨hk, hm⟩ | ⟨hk, c, hc, hcell⟩
  · exact wpAny_loadName_local I.ok.kind hk hn hm go
  · rcases hk with hk | hk
    · exact wpAny_loadName_cell I.ok.kind hk hc hcell go
    · rcases hx with k | k
      · have : X.env.scope.names.lookup x = some .free := hk
        rw [k] at this; cases this
      · have : X.env.scope.names.lookup x = some .free := hk
        rw [k] at this; cases this
/-- ints -/
def ipI (f : Int → Int → Int) : TIp := fun x y H Q => ∃ i j, x = .int i ∧ y = .int j ∧ Q (.int (f i j)) H
theorem ip_add : PIp X .Add (ipI fun i j => i + j) := by
  intro pins s σ H x y v u Q I r1 r2 h
  obtain ⟨i, j, e1, e2, q⟩ := h
  subst e1; subst e2
  obtain ⟨t, rfl⟩ := r1
  obtain ⟨t', rfl⟩ := r2
  exact iadd_int ⟨.int _, H, I.tok _, ⟨_, rfl⟩, q⟩
theorem ip_sub : PIp X .Sub (ipI fun i j => i - j) := by
  intro pins s σ H x y v u Q I r1 r2 h
  obtain ⟨i, j, e1, e2, q⟩ := h
  subst e1; subst e2
  obtain ⟨t, rfl⟩ := r1
  obtain ⟨t', rfl⟩ := r2
  exact isub_int ⟨.int _, H, I.tok _, ⟨_, rfl⟩, q⟩
end

/-! ### while -/
section
variable {X : Cx} {pos : Pos}
/-- the invariant W with its measure -/
def tWhile (c : TT) (tb : TS) : TS := fun D σ H => ∃ W : Nat → St → Hp → Prop, (∃ m, W m σ H) ∧ ∀ m σ H, W m σ H →
  c σ H fun b H1 => if b = true then ∃ N : St → Hp → Prop, (∀ σ' H', N σ' H' → ∃ m', m' < m ∧ W m' σ' H') ∧ tb { D with nx := N, ct := N, bk := D.nx } σ H1 else D.nx σ H1
theorem ps_while {c : Expr} {body : List Stmt} {tc : TT} {tb : TS} (hp : PassesOwn (model X.prog X.w) X.A X.env X.xe) (hc : PT X c tc) (hb : PSs X body tb) : PS X (.While c body [] pos) (tWhile tc tb) := by
  intro pins s σ H D I h
  obtain ⟨W, ⟨m0, w0⟩, turn⟩ := h
  refine wpAny_While (codeAny_whileLoop (fun n s' => ∃ σ' H', Inv X pins σ' H' s' ∧ W n σ' H') ?_ m0 ⟨σ, H, I, w0⟩)
  rintro n s1 ⟨σ1, H1, I1, w1⟩
  refine wpAny_passesOwn hp (thn (hc pins s1 σ1 H1 _ I1 (turn n σ1 H1 w1)) fun b s2 ⟨H2, I2, q2⟩ => ?_)
  cases b with
  | true =>
    obtain ⟨N, hN, q2⟩ := q2
    rw [if_pos rfl]
    refine wpAny_passesOwn hp (thn (hb pins s2 σ1 H2 _ I2 q2) fun f s3 q3 => ?_)
    cases f with
    | next =>
      obtain ⟨σ3, H3, I3, n3⟩ := q3
      obtain ⟨m', hm, w3⟩ := hN σ3 H3 n3
      exact ⟨m', hm, σ3, H3, I3, w3⟩
    | cont =>
      obtain ⟨σ3, H3, I3, n3⟩ := q3
      obtain ⟨m', hm, w3⟩ := hN σ3 H3 n3
      exact ⟨m', hm, σ3, H3, I3, w3⟩
    | brk => exact q3
    | ret v => exact q3
  | false =>
    rw [if_neg Bool.false_ne_true]
    exact wpAny_execs_nil ⟨σ1, H2, I2, q2⟩
end

/-! ### what a loop or a comprehension walks -/
/-- at turn i: it yields x (the heap may grow), or it stops -/
structure It where
  go : Nat → Hp → Prop
  yld : Nat → Hp → V → Hp → Prop
  stop : Nat → Hp → Prop
/-- the iterator's own objects may turn: they are not the frame's, not pinned, younger than the entry (or a comprehension's own) -/
def FpOk (X : Cx) (pins : List (Addr × Obj)) (H : Hp) (b : Addr) : Prop :=
  H b = none ∧ b ≠ X.env.locals ∧ b ∉ X.fs ∧ (b ∈ X.ex ∨ X.s₀.heap.objs.size ≤ b) ∧ (∀ x c, X.env.cells.lookup x = some c → c ≠ b) ∧ ∀ p ∈ X.pn ++ pins, p.1 ≠ b
theorem Inv.fpOk {X : Cx} {pins : List (Addr × Obj)} {σ : St} {H H' : Hp} {s : Shared} {b : Addr} (I : Inv X pins σ H s) (hb : s.heap.objs.size ≤ b) (hn : H' b = none) : FpOk X pins H' b := by
  refine ⟨hn, Nat.ne_of_gt (Nat.lt_of_lt_of_le I.lt hb), I.nofs hb, .inr (Nat.le_trans I.sz hb), fun x c e z => ?_, fun p hp z => ?_⟩
  · obtain ⟨v, q⟩ := I.cell x c e
    exact absurd (Nat.lt_of_lt_of_le q.lt (by rw [z]; exact hb)) (Nat.lt_irrefl _)
  · exact absurd (Nat.lt_of_lt_of_le (Heap.lt_size (I.pin p hp).1) (by rw [z]; exact hb)) (Nat.lt_irrefl _)
structure Turn (P : Program) (w : World) (K : PySem.W.Frag) (tg : Expr) (J : It) (fp : List Addr) (it : Addr) (tn : Nat → Heap → Prop) : Prop where
  mem : it ∈ fp
  obj : ∀ i h, tn i h → ∀ b ∈ fp, ∃ o, h.get? b = some o ∧ ∀ v, o.data ≠ .cell v
  keep : ∀ i h h', tn i h → (∀ b ∈ fp, ∀ o, h.get? b = some o → h'.get? b = some o) → tn i h'
  item : ∀ (X : Cx), X.prog = P → X.w = w → X.K = K → X.calm = true → ∀ (i : Nat) (pins : List (Addr × Obj)) (s : Shared) (σ : St) (H : Hp) (E : Value → Shared → Prop), Inv X pins σ H s → (∀ b ∈ fp, FpOk X pins H b) → tn i s.heap → J.go i H →
    wpAny (model P w) X.A (pyNext (.ref it)) (fun r s1 => ∃ u, r = some u ∧
      wpAny (model P w) X.A (letOwnedTupleGo tg (.ref it) u) (fun _ s2 => ∃ x H', Inv X pins σ H' s2 ∧ RelV x u ∧ J.yld i H x H' ∧ tn (i + 1) s2.heap ∧ ∀ b ∈ fp, H' b = none) E s1) E s
  done : ∀ (X : Cx), X.prog = P → X.w = w → X.K = K → X.calm = true → ∀ (i : Nat) (pins : List (Addr × Obj)) (s : Shared) (σ : St) (H : Hp) (E : Value → Shared → Prop), Inv X pins σ H s → (∀ b ∈ fp, FpOk X pins H b) → tn i s.heap → J.stop i H →
    wpAny (model P w) X.A (pyNext (.ref it)) (fun r s1 => r = none ∧ Inv X pins σ H s1) E s
  self : ∀ (A : Around) (i : Nat) (s : Shared) (Q : Value → Shared → Prop) (E : Value → Shared → Prop), tn i s.heap → Q (.ref it) s → wpAny (model P w) A (pyIter (.ref it)) Q E s
abbrev TI := St → Hp → (It → Hp → Prop) → Prop
/-- an iterator has come -/
def PIE (X : Cx) (pins : List (Addr × Obj)) (σ : St) (tg : Expr) (R : It → Hp → Prop) (itv : Value) (s2 : Shared) : Prop :=
  ∃ (it : Addr) (fp : List Addr) (tn : Nat → Heap → Prop) (J : It) (H' : Hp), itv = .ref it ∧ Inv X pins σ H' s2 ∧ Turn X.prog X.w X.K tg J fp it tn ∧ tn 0 s2.heap ∧ (∀ b ∈ fp, FpOk X pins H' b) ∧ R J H'
def PI (X : Cx) (tg iter : Expr) (wi : TI) : Prop :=
  ∀ (pins : List (Addr × Obj)) (s : Shared) (σ : St) (H : Hp) (R : It → Hp → Prop), Inv X pins σ H s → wi σ H R →
    wpAny (model X.prog X.w) X.A (eval iter X.env) (fun v s1 => wpAny (model X.prog X.w) X.A (pyIter v) (PIE X pins σ tg R) X.xe s1) X.xe s

/-- the step ahead of the store is nothing for an iterator that keeps no tuple -/
theorem go_of {M : Model} {A : Around} {E : Value → Shared → Prop} {s : Shared} {tg : Expr} {it : Addr} {u : Value} {o : Obj} {n : String} {vs : Array Value} {Q : Unit → Shared → Prop} (ho : s.heap.get? it = some o) (hc : o.cls = .type n) (hd : o.data = .fields vs)
    (hn : ["enumerate", "zip", "dict_itemiterator", "dict_reverseitemiterator", "odict_iterator", "itertools.zip_longest", "itertools.pairwise"].contains n = false) (hQ : Q () s) : wpAny M A (letOwnedTupleGo tg (.ref it) u) Q E s := by
  unfold letOwnedTupleGo
  cases tg <;> first
    | exact wpAny_pure hQ
    | (cases u <;> first
        | exact wpAny_pure hQ
        | (refine wpAny_bind (wpAny_load ho ?_)
           rw [hc, hd]
           show wpAny M A (if (["enumerate", "zip", "dict_itemiterator", "dict_reverseitemiterator", "odict_iterator", "itertools.zip_longest", "itertools.pairwise"].contains n && vs[0]? == some (rawInt _)) = true then _ else _) Q E s
           rw [if_neg (by intro h; rw [hn, Bool.false_and] at h; cases h)]
           exact wpAny_pure hQ))

/-- the list at a, as it stands at each turn (a loop may append to it) -/
def Itl (K : PySem.W.Frag) (a : Addr) : It :=
  ⟨fun i H => ∃ xs x, SqL K H a xs ∧ xs[i]? = some x, fun i H x H' => H' = H ∧ ∀ xs, SqL K H a xs → xs[i]? = some x, fun i H => ∃ xs, SqL K H a xs ∧ xs.length ≤ i⟩
def Itt (K : PySem.W.Frag) (a : Addr) : It :=
  ⟨fun i H => ∃ xs x, SqT K H a xs ∧ xs[i]? = some x, fun i H x H' => H' = H ∧ ∀ xs, SqT K H a xs → xs[i]? = some x, fun i H => ∃ xs, SqT K H a xs ∧ xs.length ≤ i⟩
/-- lo, lo + 1, .. (n of them) -/
def Itr (lo : Int) (n : Nat) : It := ⟨fun i _ => i < n, fun i H x H' => H' = H ∧ x = .int (lo + i), fun i _ => n ≤ i⟩
theorem turn_list {P : Program} {w : World} {K : PySem.W.Frag} {tg : Expr} (a it : Addr) : Turn P w K tg (Itl K a) [it] it (fun i h => h.IsListIter it a i) where
  mem := by simp
  obj := fun i h st b hb => by
    have e : b = it := by simpa using hb
    subst e
    obtain ⟨o, e, c, d⟩ := st
    exact ⟨o, e, fun v z => by rw [d] at z; cases z⟩
  keep := fun i h h' st k => st.at fun o e => k it (by simp) o e
  item := by
    intro X hP hw hK hc i pins s σ H E I hf st hg
    subst hP hw hK
    obtain ⟨xs, x, hq, hx⟩ := hg
    obtain ⟨its, rv, p, hz⟩ := I.list hq
    obtain ⟨u, hu, ru⟩ := rv.get hx
    obtain ⟨f0, f1, f2, f3, f4, f5⟩ := hf it (by simp)
    refine wpAny_pyNext_list_item st p.isList (x := u) (by simpa using hu) fun h' st' sb => ?_
    have I1 : Inv X pins σ H { s with heap := h' } := I.turned (t' := s.toks) (fun b o hb e => (sb.2 b hb).trans e) f0 f1 f3 f4 f5
    obtain ⟨o, e, c, d⟩ := id st'
    exact ⟨u, rfl, go_of (s := { s with heap := h' }) e c d (by decide) ⟨x, H, I1, ru, ⟨rfl, fun ys hy => by rw [I.list_inj hy hq]; exact hx⟩, st', fun b hb => (hf b hb).1⟩⟩
  done := by
    intro X hP hw hK hc i pins s σ H E I hf st hg
    subst hP hw hK
    obtain ⟨xs, hq, hx⟩ := hg
    obtain ⟨its, rv, p, hz⟩ := I.list hq
    obtain ⟨f0, f1, f2, f3, f4, f5⟩ := hf it (by simp)
    have hl := rv.length
    exact wpAny_pyNext_list_end (I.ok.hd hc) st p.isList (by simp; omega) fun h' eb => ⟨rfl, I.turned (t' := s.toks) (fun b o hb e => eb b o hb e) f0 f1 f3 f4 f5⟩
  self := fun _ _ _ _ _ st h => wpAny_pyIter_listiter st h
theorem turn_tuple {P : Program} {w : World} {K : PySem.W.Frag} {tg : Expr} (a it : Addr) : Turn P w K tg (Itt K a) [it] it (fun i h => h.IsTupleIter it a i) where
  mem := by simp
  obj := fun i h st b hb => by
    have e : b = it := by simpa using hb
    subst e
    obtain ⟨o, e, c, d⟩ := st
    exact ⟨o, e, fun v z => by rw [d] at z; cases z⟩
  keep := fun i h h' st k => st.at fun o e => k it (by simp) o e
  item := by
    intro X hP hw hK hc i pins s σ H E I hf st hg
    subst hP hw hK
    obtain ⟨xs, x, hq, hx⟩ := hg
    obtain ⟨its, rv, p, hz⟩ := I.tuple hq
    obtain ⟨u, hu, ru⟩ := rv.get hx
    obtain ⟨f0, f1, f2, f3, f4, f5⟩ := hf it (by simp)
    refine wpAny_pyNext_tuple_item st (show s.heap.IsTuple a its.toArray from p) (x := u) (by simpa using hu) fun h' st' sb => ?_
    have I1 : Inv X pins σ H { s with heap := h' } := I.turned (t' := s.toks) (fun b o hb e => (sb.2 b hb).trans e) f0 f1 f3 f4 f5
    obtain ⟨o, e, c, d⟩ := id st'
    exact ⟨u, rfl, go_of (s := { s with heap := h' }) e c d (by decide) ⟨x, H, I1, ru, ⟨rfl, fun ys hy => by rw [I.tuple_inj hy hq]; exact hx⟩, st', fun b hb => (hf b hb).1⟩⟩
  done := by
    intro X hP hw hK hc i pins s σ H E I hf st hg
    subst hP hw hK
    obtain ⟨xs, hq, hx⟩ := hg
    obtain ⟨its, rv, p, hz⟩ := I.tuple hq
    obtain ⟨f0, f1, f2, f3, f4, f5⟩ := hf it (by simp)
    have hl := rv.length
    exact wpAny_pyNext_tuple_end (I.ok.hd hc) st (show s.heap.IsTuple a its.toArray from p) (by simp; omega) fun h' eb => ⟨rfl, I.turned (t' := s.toks) (fun b o hb e => eb b o hb e) f0 f1 f3 f4 f5⟩
  self := fun _ _ _ _ _ st h => wpAny_pyIter_tupleiter st h
theorem turn_range {P : Program} {w : World} {K : PySem.W.Frag} {tg : Expr} (it : Addr) (lo : Int) (n : Nat) : Turn P w K tg (Itr lo n) [it] it (fun i h => IsRangeIter h it (lo + (i : Nat) * 1) ((n : Int) - (i : Nat)) 1) where
  mem := by simp
  obj := fun i h st b hb => by
    have e : b = it := by simpa using hb
    subst e
    exact ⟨_, st, fun v z => by
      have z' : Data.fields _ = Data.cell v := z
      cases z'⟩
  keep := fun i h h' st k => k it (by simp) _ st
  item := by
    intro X hP hw hK hc i pins s σ H E I hf st hg
    subst hP hw hK
    obtain ⟨f0, f1, f2, f3, f4, f5⟩ := hf it (by simp)
    have W := Walks.range (prog := X.prog) (w := X.w) (I.ok.hd hc) it lo 1 n
    refine W.item i s _ _ hg st fun v h' tk hv st' kk => ?_
    obtain ⟨t, rfl⟩ := hv
    have I1 : Inv X pins σ H { s with heap := h', toks := tk } := I.turned (fun b o hb e => kk b o (by simpa using hb) e) f0 f1 f3 f4 f5
    refine ⟨_, rfl, go_of (s := { s with heap := h', toks := tk }) (n := "range_iterator") st' rfl rfl (by decide) ⟨.int (lo + i), H, I1, ⟨t, ?_⟩, ⟨rfl, rfl⟩, st', fun b hb => (hf b hb).1⟩⟩
    rw [Int.mul_one]
  done := by
    intro X hP hw hK hc i pins s σ H E I hf st hg
    subst hP hw hK
    obtain ⟨f0, f1, f2, f3, f4, f5⟩ := hf it (by simp)
    exact wpAny_pyNext_range_end (I.ok.hd hc) st (by have : n ≤ i := hg; omega) fun h' eb => ⟨rfl, I.turned (t' := s.toks) (fun b o hb e => eb b o hb e) f0 f1 f3 f4 f5⟩
  self := fun _ _ _ _ _ st h => wpAny_pyIter_rangeiter st h
end L2

namespace L2
open PySem PySem.Spec PyProof.Rows
section
variable {X : Cx} {tg : Expr}
/-- a range object just made, walked -/
theorem range_it {pins : List (Addr × Obj)} {σ : St} {H : Hp} {s : Shared} {R : It → Hp → Prop} {E : Value → Shared → Prop} {lo hi : Int} {t u v : Tok} {tk : Nat} (I : Inv X pins σ H s) (h1 : -(2 ^ 62) ≤ lo) (h2 : lo < 2 ^ 62) (h3 : -(2 ^ 62) ≤ hi) (h4 : hi < 2 ^ 62)
    (q : R (Itr lo (hi - lo).toNat) H) : wpAny (model X.prog X.w) X.A (pyIter (.ref s.heap.objs.size)) (PIE X pins σ tg R) E { s with heap := s.heap.push { cls := .type "range", data := .fields #[.int lo t, .int hi u, .int 1 v] }, toks := tk } := by
  refine wpAny_pyIter_range (IsRange.new ..) (small_one h1 h2 h3 h4) ?_
  have I1 : Inv X pins σ H { s with heap := s.heap.push { cls := .type "range", data := .fields #[.int lo t, .int hi u, .int 1 v] }, toks := tk } := I.kept fun b o e => Heap.get?_push_of_some _ e
  refine ⟨(s.heap.push { cls := .type "range", data := .fields #[.int lo t, .int hi u, .int 1 v] }).objs.size, [(s.heap.push { cls := .type "range", data := .fields #[.int lo t, .int hi u, .int 1 v] }).objs.size], _, _, H, rfl,
    I1.kept (t' := tk) fun b o e => Heap.get?_push_of_some _ e, turn_range _ lo (hi - lo).toNat, ?_, fun b hb => ?_, q⟩
  · have e1 : lo + ((0 : Nat) : Int) * 1 = lo := by simp
    have e2 : (((hi - lo).toNat : Nat) : Int) - ((0 : Nat) : Int) = Builtin.Range.rangeSize lo hi 1 := by rw [rangeSize_one]; split <;> omega
    show IsRangeIter _ _ (lo + ((0 : Nat) : Int) * 1) ((((hi - lo).toNat : Nat) : Int) - ((0 : Nat) : Int)) 1
    rw [e1, e2]
    exact Heap.get?_push_size _ rfl
  · have e : b = (s.heap.push { cls := .type "range", data := .fields #[.int lo t, .int hi u, .int 1 v] }).objs.size := by simpa using hb
    subst e
    exact I1.fpOk (Nat.le_refl _) (I1.hok.fresh (Nat.le_refl _))
def iRng1 (ta : TA) : TI := fun σ H R => ta σ H fun vs H1 => ∃ j : Int, vs = [.int j] ∧ -(2 ^ 62) ≤ j ∧ j < 2 ^ 62 ∧ R (Itr 0 j.toNat) H1
def iRng2 (ta : TA) : TI := fun σ H R => ta σ H fun vs H1 => ∃ i j : Int, vs = [.int i, .int j] ∧ (-(2 ^ 62) ≤ i ∧ i < 2 ^ 62 ∧ -(2 ^ 62) ≤ j ∧ j < 2 ^ 62) ∧ R (Itr i (j - i).toNat) H1
theorem pi_range1 {a : Expr} {ta : TA} {p pos : Pos} (hg : Gl X "range") (hm : X.mg "range" = none) (ha : PA X [a] ta) (hs : starEach [a] X.env = [(false, eval a X.env)] := by rfl) : PI X tg (.Call (.Name "range" p) [a] [] pos) (iRng1 ta) := by
  intro pins s σ H R I h
  refine Call_ (ld_blt I hg hm boot_range (PyProof.Rows.callWith_type1 (thn (ha pos pins s σ H _ I h) fun us s1 ⟨vs, H1, I1, r1, q1⟩ => ?_) hs rfl))
  obtain ⟨j, e, q1, q2, q⟩ := q1
  subst e
  cases r1 with
  | cons r rr =>
    cases rr
    obtain ⟨t, rfl⟩ := r
    exact call_range_1 (range_it I1 (by omega) (by omega) q1 q2 (by simpa using q))
theorem pi_range2 {a b : Expr} {ta : TA} {p pos : Pos} (hg : Gl X "range") (hm : X.mg "range" = none) (ha : PA X [a, b] ta) (hs : starEach [a, b] X.env = [(false, eval a X.env), (false, eval b X.env)] := by rfl) (hs2 : starEach [b] X.env = [(false, eval b X.env)] := by rfl) :
    PI X tg (.Call (.Name "range" p) [a, b] [] pos) (iRng2 ta) := by
  intro pins s σ H R I h
  refine Call_ (ld_blt I hg hm boot_range (PyProof.Rows.callWith_type1 (thn (ha pos pins s σ H _ I h) fun us s1 ⟨vs, H1, I1, r1, q1⟩ => ?_) (by rw [hs, hs2]) (by rw [hs2]; rfl)))
  obtain ⟨i, j, e, ⟨q1, q2, q3, q4⟩, q⟩ := q1
  subst e
  cases r1 with
  | cons r rr =>
    cases rr with
    | cons r' rr =>
      cases rr
      obtain ⟨t, rfl⟩ := r
      obtain ⟨t', rfl⟩ := r'
      exact call_range_2 (range_it I1 q1 q2 q3 q4 q)

/-! ### for -/
/-- W: the invariant by the turn and a measure; N: what the body is to reach -/
def tFor (wi : TI) (g : TG) (tb : TS) : TS := fun D σ H => wi σ H fun J H1 => ∃ W : Nat → Nat → St → Hp → Prop, (∃ m, W 0 m σ H1) ∧ ∀ i m σ H, W i m σ H →
  (J.stop i H ∧ D.nx σ H) ∨ (J.go i H ∧ ∃ N : St → Hp → Prop, (∀ σ' H', N σ' H' → ∃ m', m' < m ∧ W (i + 1) m' σ' H') ∧ ∀ x H', J.yld i H x H' → g x σ H' fun σ2 H2 => tb { D with nx := N, ct := N, bk := D.nx } σ2 H2)
/-- the records at fp as they stand -/
def pinsAt (fp : List Addr) (h : Heap) : List (Addr × Obj) := fp.filterMap fun b => (h.get? b).map fun o => (b, o)
theorem mem_pinsAt {fp : List Addr} {h : Heap} {b : Addr} {o : Obj} (hb : b ∈ fp) (e : h.get? b = some o) : (b, o) ∈ pinsAt fp h := List.mem_filterMap.mpr ⟨b, hb, by rw [e]; rfl⟩
theorem of_pinsAt {fp : List Addr} {h : Heap} {p : Addr × Obj} (hp : p ∈ pinsAt fp h) : p.1 ∈ fp ∧ h.get? p.1 = some p.2 := by
  obtain ⟨b, hb, e⟩ := List.mem_filterMap.mp hp
  cases q : h.get? b with
  | none => rw [q] at e; cases e
  | some o =>
    rw [q] at e
    have e' : (b, o) = p := Option.some.inj e
    subst e'
    exact ⟨hb, q⟩
theorem Inv.pinned {pins : List (Addr × Obj)} {σ : St} {H : Hp} {s : Shared} {fp : List Addr} (I : Inv X pins σ H s) (hf : ∀ b ∈ fp, FpOk X pins H b) (ho : ∀ b ∈ fp, ∃ o, s.heap.get? b = some o ∧ ∀ v, o.data ≠ .cell v) : Inv X (pins ++ pinsAt fp s.heap) σ H s :=
  I.pins_of fun p hp => (List.mem_append.mp hp).elim (fun z => I.pin p (List.mem_append_right _ z)) fun z => by
    obtain ⟨hb, e⟩ := of_pinsAt z
    obtain ⟨f0, f1, f2, _⟩ := hf p.1 hb
    obtain ⟨o, e', d⟩ := ho p.1 hb
    rw [e] at e'; cases e'
    exact ⟨e, f0, f1, f2, d⟩
theorem Inv.unpinned {pins pl : List (Addr × Obj)} {σ : St} {H : Hp} {s : Shared} (I : Inv X (pins ++ pl) σ H s) : Inv X pins σ H s := I.pins_of fun p hp => I.pin p (List.mem_append_right _ (List.mem_append_left _ hp))
theorem ps_for {iter : Expr} {body : List Stmt} {wi : TI} {g : TG} {tb : TS} {pos : Pos} (hp : PassesOwn (model X.prog X.w) X.A X.env X.xe) (hc : X.calm = true) (hi : PI X tg iter wi) (hg : PG X tg g) (hb : PSs X body tb)
    (hs : ∀ x, foldedSetIterable iter X.env x = pure x := by intro _; rfl) : PS X (.For tg iter body [] pos) (tFor wi g tb) := by
  intro pins s σ H D I h
  refine wpAny_For (thn (hi pins s σ H _ I h) fun v s1 h1 => thn h1 fun itv s2 h2 => ?_) hs
  obtain ⟨it, fp, tn, J, H2, e, I2, T, st2, f2, W, ⟨m0, w0⟩, turn⟩ := h2
  subst e
  -- what stays true of the iterator's objects through the loop
  have stat : ∀ {H' : Hp}, (∀ b ∈ fp, H' b = none) → ∀ b ∈ fp, FpOk X pins H' b := fun hn b hb => ⟨hn b hb, (f2 b hb).2⟩
  refine codeAny_forLoop_any (fun n s' => ∃ i σ' H', Inv X pins σ' H' s' ∧ tn i s'.heap ∧ (∀ b ∈ fp, H' b = none) ∧ W i n σ' H') ?_ m0 ⟨0, σ, H2, I2, st2, fun b hb => (f2 b hb).1, w0⟩
  rintro n s3 ⟨i, σ3, H3, I3, st3, fr3, w3⟩
  rcases turn i n σ3 H3 w3 with ⟨stop, qn⟩ | ⟨go, N, hN, step⟩
  · refine wpAny_passesOwn hp (thn (T.done X rfl rfl rfl hc i pins s3 σ3 H3 X.xe I3 (stat fr3) st3 stop) fun r s4 ⟨hr, I4⟩ => ?_)
    subst hr
    exact wpAny_execs_nil ⟨σ3, H3, I4, qn⟩
  · refine wpAny_passesOwn hp (thn (T.item X rfl rfl rfl hc i pins s3 σ3 H3 X.xe I3 (stat fr3) st3 go) fun r s4 ⟨u, hr, h4⟩ => ?_)
    subst hr
    refine wpAny_passesOwn hp (thn h4 fun _ s5 ⟨x, H5, I5, r5, y5, st5, fr5⟩ => ?_)
    have I5' := I5.pinned (stat fr5) (T.obj _ _ st5)
    refine wpAny_passesOwn hp (thn (hg _ s5 σ3 H5 x u _ I5' r5 (step x H5 y5)) fun _ s6 ⟨σ6, H6, I6, q6⟩ => ?_)
    refine wpAny_passesOwn hp (thn (hb _ s6 σ6 H6 _ I6 q6) fun f s7 q7 => ?_)
    have again : ∀ {σ7 : St} {H7 : Hp}, Inv X (pins ++ pinsAt fp s5.heap) σ7 H7 s7 → N σ7 H7 → ∃ m, m < n ∧ ∃ i σ' H', Inv X pins σ' H' s7 ∧ tn i s7.heap ∧ (∀ b ∈ fp, H' b = none) ∧ W i m σ' H' := fun {σ7 H7} I7 n7 => by
      obtain ⟨m', hm, w7⟩ := hN σ7 H7 n7
      refine ⟨m', hm, i + 1, σ7, H7, I7.unpinned, T.keep _ _ _ st5 fun b hb o e => (I7.pin (b, o) (List.mem_append_right _ (List.mem_append_right _ (mem_pinsAt hb e)))).1, fun b hb => ?_, w7⟩
      obtain ⟨o, e, d⟩ := T.obj _ _ st5 b hb
      exact (I7.pin (b, o) (List.mem_append_right _ (List.mem_append_right _ (mem_pinsAt hb e)))).2.1
    cases f with
    | next => obtain ⟨σ7, H7, I7, n7⟩ := q7; exact again I7 n7
    | cont => obtain ⟨σ7, H7, I7, n7⟩ := q7; exact again I7 n7
    | brk => obtain ⟨σ7, H7, I7, q7⟩ := q7; exact ⟨σ7, H7, I7.unpinned, q7⟩
    | ret v => obtain ⟨x7, σ7, H7, I7, r7, q7⟩ := q7; exact ⟨x7, σ7, H7, I7.unpinned, r7, q7⟩
end

/-! ### the forms one uses -/
end L2

namespace L2
open PySem PySem.Spec PyProof.Rows

abbrev R2 := V → V → Hp → VK → Prop
/-- a two-place operation on values: f is binaryOp op, inplaceOp op or compareOp op -/
def OpR (X : Cx) (f : Value → Value → Sem Value) (r : R2) : Prop :=
  ∀ (pins : List (Addr × Obj)) (s : Shared) (σ : St) (H : Hp) (x y : V) (v u : Value) (Q : VK), Inv X pins σ H s → RelV x v → RelV y u → r x y H Q →
    wpAny (model X.prog X.w) X.A (f v u) (EP X pins σ Q) X.xe s
/-- a one-place operation -/
def UnR (X : Cx) (f : Value → Sem Value) (r : V → Hp → VK → Prop) : Prop :=
  ∀ (pins : List (Addr × Obj)) (s : Shared) (σ : St) (H : Hp) (x : V) (v : Value) (Q : VK), Inv X pins σ H s → RelV x v → r x H Q →
    wpAny (model X.prog X.w) X.A (f v) (EP X pins σ Q) X.xe s
/-- a call of a value that is known (a builtin, a type) with values -/
def CallR (X : Cx) (f : Value) (r : List V → Hp → VK → Prop) : Prop :=
  ∀ (pins : List (Addr × Obj)) (s : Shared) (σ : St) (H : Hp) (xs : List V) (us : List Value) (Q : VK), Inv X pins σ H s → Vals xs us → r xs H Q →
    wpAny (model X.prog X.w) X.A (call f us) (EP X pins σ Q) X.xe s
/-- a value's truth -/
def TruR (X : Cx) (r : V → Hp → (Bool → Hp → Prop) → Prop) : Prop :=
  ∀ (pins : List (Addr × Obj)) (s : Shared) (σ : St) (H : Hp) (x : V) (v : Value) (Q : Bool → Hp → Prop), Inv X pins σ H s → RelV x v → r x H Q →
    wpAny (model X.prog X.w) X.A (truthy v) (TP X pins σ Q) X.xe s

def tOp (r : R2) (ta tb : TE) : TE := fun σ H Q => ta σ H fun x H1 => tb σ H1 fun y H2 => r x y H2 Q
def tUn (r : V → Hp → VK → Prop) (ta : TE) : TE := fun σ H Q => ta σ H fun x H1 => r x H1 Q
/-- ints in, under C, and a value out -/
def rI (C : Int → Int → Prop) (g : Int → Int → V) : R2 := fun x y H Q => ∃ i j, x = .int i ∧ y = .int j ∧ C i j ∧ Q (g i j) H
def rI0 (g : Int → Int → V) : R2 := fun x y H Q => ∃ i j, x = .int i ∧ y = .int j ∧ Q (g i j) H
def rU (g : Int → V) : V → Hp → VK → Prop := fun x H Q => ∃ i, x = .int i ∧ Q (g i) H

section
variable {X : Cx} {a b c : Expr} {ta tb tc : TE} {pos : Pos}

theorem binT (ha : PE X a ta) (hb : PE X b tb) {pins : List (Addr × Obj)} {s : Shared} {σ : St} {H : Hp} {R : V → V → Hp → Prop} (I : Inv X pins σ H s)
    (h : ta σ H fun x H1 => tb σ H1 fun y H2 => R x y H2) {Q : Value → Shared → Prop} {f : Value → Value → Sem Value}
    (hf : ∀ v u s2 x y H2, Inv X pins σ H2 s2 → RelV x v → RelV y u → R x y H2 → wpAny (model X.prog X.w) X.A (f v u) Q X.xe s2) :
    wpAny (model X.prog X.w) X.A (eval a X.env) (fun v s₁ => wpAny (model X.prog X.w) X.A (eval b X.env) (fun u s₂ => wpAny (model X.prog X.w) X.A (f v u) Q X.xe s₂) X.xe s₁) X.xe s := by
  refine thn (ha pins s σ H _ I h) fun v s1 ⟨x, H1, I1, r1, q1⟩ => ?_
  refine thn (hb pins s1 σ H1 _ I1 q1) fun u s2 ⟨y, H2, I2, r2, q2⟩ => ?_
  exact hf v u s2 x y H2 I2 r1 r2 q2

theorem pe_op {op : Operator} {r : R2} (ho : OpR X (binaryOp op) r) (ha : PE X a ta) (hb : PE X b tb) : PE X (.BinOp a op b pos) (tOp r ta tb) := by
  intro pins s σ H Q I h
  exact wpAny_BinOp (binT ha hb I h fun v u s2 x y H2 I2 rx ry q => ho pins s2 σ H2 x y v u Q I2 rx ry q)
theorem pe_un {op : UnaryOp} {r : V → Hp → VK → Prop} (ho : UnR X (unaryOp op) r) (ha : PE X a ta) : PE X (.UnaryOp op a pos) (tUn r ta) := by
  intro pins s σ H Q I h
  exact UnaryOp_ (thn (ha pins s σ H _ I h) fun v s1 ⟨x, H1, I1, r1, q1⟩ => ho pins s1 σ H1 x v Q I1 r1 q1)

/-! ### ints -/
theorem opI {f : Value → Value → Sem Value} {C : Int → Int → Prop} {g : Int → Int → Int}
    (rule : ∀ (i j : Int) (t u : Tok) (s : Shared) (Q : Value → Shared → Prop) (E : Value → Shared → Prop), C i j → Q (.int (g i j) s.toks) { s with toks := s.toks + 1 } → wpAny (model X.prog X.w) X.A (f (.int i t) (.int j u)) Q E s) :
    OpR X f (rI C fun i j => .int (g i j)) := by
  intro pins s σ H x y v u Q I rx ry h
  obtain ⟨i, j, rfl, rfl, hc, q⟩ := h
  obtain ⟨t, rfl⟩ := rx
  obtain ⟨t', rfl⟩ := ry
  exact rule i j t t' s _ _ hc ⟨.int (g i j), H, I.tok _, ⟨_, rfl⟩, q⟩
theorem opI0 {f : Value → Value → Sem Value} {g : Int → Int → Int}
    (rule : ∀ (i j : Int) (t u : Tok) (s : Shared) (Q : Value → Shared → Prop) (E : Value → Shared → Prop), Q (.int (g i j) s.toks) { s with toks := s.toks + 1 } → wpAny (model X.prog X.w) X.A (f (.int i t) (.int j u)) Q E s) :
    OpR X f (rI0 fun i j => .int (g i j)) := by
  intro pins s σ H x y v u Q I rx ry h
  obtain ⟨i, j, rfl, rfl, q⟩ := h
  obtain ⟨t, rfl⟩ := rx
  obtain ⟨t', rfl⟩ := ry
  exact rule i j t t' s _ _ ⟨.int (g i j), H, I.tok _, ⟨_, rfl⟩, q⟩
theorem opB0 {f : Value → Value → Sem Value} {g : Int → Int → Bool}
    (rule : ∀ (i j : Int) (t u : Tok) (s : Shared) (Q : Value → Shared → Prop) (E : Value → Shared → Prop), Q (.bool (g i j)) s → wpAny (model X.prog X.w) X.A (f (.int i t) (.int j u)) Q E s) :
    OpR X f (rI0 fun i j => .bl (g i j)) := by
  intro pins s σ H x y v u Q I rx ry h
  obtain ⟨i, j, rfl, rfl, q⟩ := h
  obtain ⟨t, rfl⟩ := rx
  obtain ⟨t', rfl⟩ := ry
  exact rule i j t t' s _ _ ⟨.bl (g i j), H, I, rfl, q⟩

def CDiv (i j : Int) : Prop := 0 < j ∧ j < 1073741824
def CPow (i j : Int) : Prop := 0 ≤ j ∧ j ≤ 1000000 ∧ i.natAbs < 2 ^ 64
def CMul (i j : Int) : Prop := (-(2 ^ 64) < i ∧ i < 2 ^ 64) ∨ (-(2 ^ 64) < j ∧ j < 2 ^ 64)
theorem CMul.ok {i j : Int} (h : CMul i j) : IntMulOk i j := by
  rcases h with ⟨h1, h2⟩ | ⟨h1, h2⟩
  · exact .of_left (intBits_le_64 h1 h2)
  · exact .of_right (intBits_le_64 h1 h2)

theorem op_add : OpR X (binaryOp .Add) (rI0 fun i j => .int (i + j)) := opI0 fun _ _ _ _ _ _ _ q => add_int q
theorem op_sub : OpR X (binaryOp .Sub) (rI0 fun i j => .int (i - j)) := opI0 fun _ _ _ _ _ _ _ q => sub_int q
theorem op_mul : OpR X (binaryOp .Mult) (rI CMul fun i j => .int (i * j)) := opI fun _ _ _ _ _ _ _ hc q => mul_int q hc.ok
/-- // by a positive divisor -/
theorem op_fdiv : OpR X (binaryOp .FloorDiv) (rI CDiv fun i j => .int (i / j)) := opI fun i j _ _ _ _ _ hc q => by
  have h1 : (0 : Int) < j := hc.1
  have h2 : j < 1073741824 := hc.2
  exact floordiv_int (by omega) (by rw [Int.fdiv_eq_ediv_of_nonneg i (by omega)]; exact q) (.inl (PyProof.noPylong_small (by omega)))
/-- % by a positive divisor of any size -/
theorem op_mod : OpR X (binaryOp .Mod) (rI (fun _ j => 0 < j) fun i j => .int (i % j)) := opI fun i j _ _ _ _ _ hc q => by
  have h1 : (0 : Int) < j := hc
  exact mod_int' (by omega) (by rw [Int.fmod_eq_emod_of_nonneg i (by omega)]; exact q)
theorem op_pow : OpR X (binaryOp .Pow) (rI CPow fun i j => .int (i ^ j.toNat)) := opI fun _ _ _ _ _ _ _ hc q => pow_int_small hc.1 hc.2.1 hc.2.2 q


theorem unI {f : Value → Sem Value} {g : Int → Int}
    (rule : ∀ (i : Int) (t : Tok) (s : Shared) (Q : Value → Shared → Prop) (E : Value → Shared → Prop), Q (.int (g i) s.toks) { s with toks := s.toks + 1 } → wpAny (model X.prog X.w) X.A (f (.int i t)) Q E s) :
    UnR X f (rU fun i => .int (g i)) := by
  intro pins s σ H x v Q I rx h
  obtain ⟨i, rfl, q⟩ := h
  obtain ⟨t, rfl⟩ := rx
  exact rule i t s _ _ ⟨.int (g i), H, I.tok _, ⟨_, rfl⟩, q⟩
theorem un_neg : UnR X (unaryOp .USub) (rU fun i => .int (-i)) := unI fun _ _ _ _ _ q => neg_int q

/-! ### bools among ints: n += (a < b) -/
end

/-! ### comparisons -/
/-- the scalars that == tells apart as data does -/
def scal : V → V → Bool
  | .non, .non => true | .non, .int _ => true | .int _, .non => true | .non, .bl _ => true | .bl _, .non => true | .non, .str _ => true | .str _, .non => true
  | .int _, .int _ => true | .bl _, .bl _ => true | .str _, .str _ => true | .byt _, .byt _ => true
  | .int _, .str _ => true | .str _, .int _ => true | .bl _, .str _ => true | .str _, .bl _ => true
  | _, _ => false
def rEq : R2 := fun x y H Q => scal x y = true ∧ Q (.bl (decide (x = y))) H
def rNe : R2 := fun x y H Q => scal x y = true ∧ Q (.bl (!decide (x = y))) H

theorem dec_int {i j : Int} : decide (V.int i = V.int j) = (i == j) := by
  rw [Bool.eq_iff_iff]
  simp
theorem dec_bl {i j : Bool} : decide (V.bl i = V.bl j) = (i == j) := by
  rw [Bool.eq_iff_iff]
  simp
theorem dec_str {i j : Str} : decide (V.str i = V.str j) = (i == j) := by
  rw [Bool.eq_iff_iff]
  simp
theorem dec_byt {i j : Array UInt8} : decide (V.byt i = V.byt j) = (i.toList == j.toList) := by
  rw [Bool.eq_iff_iff]
  cases i
  cases j
  simp

section
variable {X : Cx} {a b c : Expr} {ta tb tc : TE} {pos : Pos}
theorem fin_bl {pins : List (Addr × Obj)} {σ : St} {H : Hp} {s : Shared} {Q : VK} {k k' : Bool} (I : Inv X pins σ H s) (q : Q (.bl k) H) (e : k = k') : EP X pins σ Q (.bool k') s := by
  subst e
  exact ⟨.bl k, H, I, rfl, q⟩
theorem op_eq : OpR X (compareOp .Eq) rEq := by
  intro pins s σ H x y v u Q I rx ry h
  obtain ⟨hs, q⟩ := h
  cases x with
  | non =>
    cases rx
    cases y with
    | non => cases ry; exact PySem.EqNone.eq_none_none (fin_bl I q (by simp))
    | bl j => cases ry; exact PySem.EqNone.eq_none_bool (fin_bl I q (by simp))
    | int j => obtain ⟨t', rfl⟩ := ry; exact PySem.EqNone.eq_none_int (fin_bl I q (by simp))
    | str j => obtain ⟨t', rfl⟩ := ry; exact PySem.EqNone.eq_none_str (fin_bl I q (by simp))
    | _ => exact absurd (show false = true from hs) Bool.false_ne_true
  | bl i =>
    cases rx
    cases y with
    | non => cases ry; exact PySem.EqNone.eq_bool_none (fin_bl I q (by simp))
    | bl j => cases ry; exact eq_bool (fin_bl I q dec_bl)
    | str j => obtain ⟨t', rfl⟩ := ry; exact PySem.EqMixed.eq_bool_str (fin_bl I q (by simp))
    | _ => exact absurd (show false = true from hs) Bool.false_ne_true
  | int i =>
    obtain ⟨t, rfl⟩ := rx
    cases y with
    | non => cases ry; exact PySem.EqNone.eq_int_none (fin_bl I q (by simp))
    | int j => obtain ⟨t', rfl⟩ := ry; exact eq_int (fin_bl I q dec_int)
    | str j => obtain ⟨t', rfl⟩ := ry; exact PySem.EqMixed.eq_int_str (fin_bl I q (by simp))
    | _ => exact absurd (show false = true from hs) Bool.false_ne_true
  | str i =>
    obtain ⟨t, rfl⟩ := rx
    cases y with
    | non => cases ry; exact PySem.EqNone.eq_str_none (fin_bl I q (by simp))
    | bl j => cases ry; exact PySem.EqMixed.eq_str_bool (fin_bl I q (by simp))
    | int j => obtain ⟨t', rfl⟩ := ry; exact PySem.EqMixed.eq_str_int (fin_bl I q (by simp))
    | str j => obtain ⟨t', rfl⟩ := ry; exact eq_str (fin_bl I q dec_str)
    | _ => exact absurd (show false = true from hs) Bool.false_ne_true
  | byt i =>
    obtain ⟨t, rfl⟩ := rx
    cases y with
    | byt j => obtain ⟨t', rfl⟩ := ry; exact PySem.W.eq_bytes (fin_bl I q dec_byt)
    | _ => exact absurd (show false = true from hs) Bool.false_ne_true
  | _ => cases y <;> exact absurd (show false = true from hs) Bool.false_ne_true
theorem op_ne : OpR X (compareOp .NotEq) rNe := by
  intro pins s σ H x y v u Q I rx ry h
  obtain ⟨hs, q⟩ := h
  cases x with
  | non =>
    cases rx
    cases y with
    | non => cases ry; exact PySem.EqNone.ne_none_none (fin_bl I q (by simp))
    | bl j => cases ry; exact PySem.EqNone.ne_none_bool (fin_bl I q (by simp))
    | int j => obtain ⟨t', rfl⟩ := ry; exact PySem.EqNone.ne_none_int (fin_bl I q (by simp))
    | str j => obtain ⟨t', rfl⟩ := ry; exact PySem.EqNone.ne_none_str (fin_bl I q (by simp))
    | _ => exact absurd (show false = true from hs) Bool.false_ne_true
  | bl i =>
    cases rx
    cases y with
    | non => cases ry; exact PySem.EqNone.ne_bool_none (fin_bl I q (by simp))
    | bl j => cases ry; exact ne_bool (fin_bl I q (congrArg not dec_bl))
    | str j => obtain ⟨t', rfl⟩ := ry; exact PySem.EqMixed.ne_bool_str (fin_bl I q (by simp))
    | _ => exact absurd (show false = true from hs) Bool.false_ne_true
  | int i =>
    obtain ⟨t, rfl⟩ := rx
    cases y with
    | non => cases ry; exact PySem.EqNone.ne_int_none (fin_bl I q (by simp))
    | int j => obtain ⟨t', rfl⟩ := ry; exact ne_int (fin_bl I q (congrArg not dec_int))
    | str j => obtain ⟨t', rfl⟩ := ry; exact PySem.EqMixed.ne_int_str (fin_bl I q (by simp))
    | _ => exact absurd (show false = true from hs) Bool.false_ne_true
  | str i =>
    obtain ⟨t, rfl⟩ := rx
    cases y with
    | non => cases ry; exact PySem.EqNone.ne_str_none (fin_bl I q (by simp))
    | bl j => cases ry; exact PySem.EqMixed.ne_str_bool (fin_bl I q (by simp))
    | int j => obtain ⟨t', rfl⟩ := ry; exact PySem.EqMixed.ne_str_int (fin_bl I q (by simp))
    | str j => obtain ⟨t', rfl⟩ := ry; exact ne_str (fin_bl I q (congrArg not dec_str))
    | _ => exact absurd (show false = true from hs) Bool.false_ne_true
  | byt i =>
    obtain ⟨t, rfl⟩ := rx
    cases y with
    | byt j => obtain ⟨t', rfl⟩ := ry; exact PySem.W.ne_bytes (fin_bl I q (congrArg not dec_byt))
    | _ => exact absurd (show false = true from hs) Bool.false_ne_true
  | _ => cases y <;> exact absurd (show false = true from hs) Bool.false_ne_true

theorem op_lt : OpR X (compareOp .Lt) (rI0 fun i j => .bl (decide (i < j))) := opB0 fun _ _ _ _ _ _ _ q => lt_int q
theorem op_le : OpR X (compareOp .LtE) (rI0 fun i j => .bl (decide (i ≤ j))) := opB0 fun _ _ _ _ _ _ _ q => le_int q
theorem op_gt : OpR X (compareOp .Gt) (rI0 fun i j => .bl (decide (j < i))) := opB0 fun _ _ _ _ _ _ _ q => gt_int q
theorem op_ge : OpR X (compareOp .GtE) (rI0 fun i j => .bl (decide (j ≤ i))) := opB0 fun _ _ _ _ _ _ _ q => ge_int q




/-- a comparison as a value; hm: nomark b, or (for in, not in) by with_unfolding_all rfl -/
theorem pe_cmpR {op : CmpOp} {r : R2} (ho : OpR X (compareOp op) r) (ha : PE X a ta) (hb : PE X b tb) (hm : behindInMarks op b = false) : PE X (.Compare a [op] [b] pos) (tOp r ta tb) := by
  intro pins s σ H Q I h
  exact wpAny_Compare1 (binT ha hb I h fun v u s2 x y H2 I2 rx ry q => ho pins s2 σ H2 x y v u Q I2 rx ry q) hm
/-- a reading of a value as a test -/
def tTest (t : TE) : TT := fun σ H Q => t σ H fun x H' => ∃ k, x = .bl k ∧ Q k H'
theorem pt_cmpR {op : CmpOp} {r : R2} (ho : OpR X (compareOp op) r) (ha : PE X a ta) (hb : PE X b tb) (hm : behindInMarks op b = false) : PT X (.Compare a [op] [b] pos) (tTest (tOp r ta tb)) := by
  intro pins s σ H Q I h
  refine wpAny_isTrue_Compare1 (thn (ha pins s σ H _ I h) fun v s1 ⟨x, H1, I1, r1, q1⟩ => thn (hb pins s1 σ H1 _ I1 q1) fun u s2 ⟨y, H2, I2, r2, q2⟩ =>
    thn (ho pins s2 σ H2 x y v u _ I2 r1 r2 q2) fun c s3 ⟨z, H3, I3, r3, k, e, q3⟩ => ?_) hm
  subst e
  cases r3
  exact wpAny_truthy_bool ⟨H3, I3, q3⟩
/-- a op1 b op2 c -/
def tChain (r r' : R2) (ta tb tc : TE) : TE := fun σ H Q => ta σ H fun x H1 => tb σ H1 fun y H2 => r x y H2 fun z H3 => ∃ k, z = .bl k ∧
  (if k = true then tc σ H3 fun w' H4 => r' y w' H4 Q else Q (.bl false) H3)
theorem pe_chain {op op' : CmpOp} {r r' : R2} (ho : OpR X (compareOp op) r) (ho' : OpR X (compareOp op') r') (ha : PE X a ta) (hb : PE X b tb) (hc : PE X c tc)
    (hm : lastMarks [op, op'] [b, c] = false := by with_unfolding_all rfl) : PE X (.Compare a [op, op'] [b, c] pos) (tChain r r' ta tb tc) := by
  intro pins s σ H Q I h
  refine Compare_chain (thn (ha pins s σ H _ I h) fun v s1 ⟨x, H1, I1, r1, q1⟩ => chain_link (thn (hb pins s1 σ H1 _ I1 q1) fun u s2 ⟨y, H2, I2, r2, q2⟩ =>
    thn (ho pins s2 σ H2 x y v u _ I2 r1 r2 q2) fun d s3 ⟨z, H3, I3, r3, k, e, q3⟩ => ?_)) hm
  subst e
  cases r3
  refine wpAny_truthy_bool ?_
  cases k with
  | false => exact ite_ff ⟨.bl false, H3, I3, rfl, q3⟩
  | true => exact ite_tt (chain_last (thn (hc pins s3 σ H3 _ I3 q3) fun w' s4 ⟨z', H4, I4, r4, q4⟩ => ho' pins s4 σ H4 y z' u w' Q I4 r2 r4 q4))
theorem pt_chain {op op' : CmpOp} {r r' : R2} (ho : OpR X (compareOp op) r) (ho' : OpR X (compareOp op') r') (ha : PE X a ta) (hb : PE X b tb) (hc : PE X c tc)
    (hm : lastMarks [op, op'] [b, c] = false := by with_unfolding_all rfl) : PT X (.Compare a [op, op'] [b, c] pos) (tTest (tChain r r' ta tb tc)) := by
  intro pins s σ H Q I h
  refine isTrue_chain (thn (ha pins s σ H _ I h) fun v s1 ⟨x, H1, I1, r1, q1⟩ => test_link (thn (hb pins s1 σ H1 _ I1 q1) fun u s2 ⟨y, H2, I2, r2, q2⟩ =>
    thn (ho pins s2 σ H2 x y v u _ I2 r1 r2 q2) fun d s3 ⟨z, H3, I3, r3, k, e, q3⟩ => ?_)) hm
  subst e
  cases r3
  refine wpAny_truthy_bool ?_
  cases k with
  | false =>
    obtain ⟨k', e', q'⟩ := q3
    cases e'
    exact ite_ff ⟨H3, I3, q'⟩
  | true =>
    refine ite_tt (test_last (thn (hc pins s3 σ H3 _ I3 q3) fun w' s4 ⟨z', H4, I4, r4, q4⟩ => thn (ho' pins s4 σ H4 y z' u w' _ I4 r2 r4 q4) fun d' s5 ⟨z2, H5, I5, r5, k2, e2, q5⟩ => ?_))
    subst e2
    cases r5
    exact wpAny_truthy_bool ⟨H5, I5, q5⟩

/-! ### truth -/
/-- a value's truth by the abstract heap -/
def TruV (K : PySem.W.Frag) (x : V) (H : Hp) (k : Bool) : Prop :=
  match x with
  | .non => k = false
  | .bl b => k = b
  | .int i => k = (i != 0)
  | .str y => y.length ≤ sizeLine ∧ k = ((y.length : Int) != 0)
  | .byt y => y.size ≤ sizeLine ∧ k = ((y.size : Int) != 0)
  | .ref p => (∃ xs, SqL K H p xs ∧ k = !xs.isEmpty) ∨ (∃ xs, SqT K H p xs ∧ k = !xs.isEmpty) ∨ ∃ kvs, H p = some (.dK kvs) ∧ k = !kvs.isEmpty
  | _ => False
theorem isEmpty_kv {κ : Type} {kvs : List (κ × V)} {vs : List (κ × Value)} (r : KV kvs vs) : (!vs.isEmpty) = !kvs.isEmpty := by
  cases r <;> rfl
theorem isEmpty_of {xs : List V} {its : List Value} (r : Vals xs its) : (!its.toArray.isEmpty) = !xs.isEmpty := by
  cases r <;> simp
theorem line63 : (sizeLine : Nat) < 2 ^ 63 := by rw [sizeLine_eq]; decide
theorem tru_ok : TruR X (fun x H Q => ∃ k, TruV X.K x H k ∧ Q k H) := by
  intro pins s σ H x v Q I rx h
  obtain ⟨k, e, q⟩ := h
  have hl := line63
  have hs : sizeLine = 16777216 := sizeLine_eq
  cases x with
  | non =>
    cases rx
    have e' : k = false := e
    subst e'
    exact truthy_none ⟨H, I, q⟩
  | bl b =>
    cases rx
    have e' : k = b := e
    subst e'
    exact wpAny_truthy_bool ⟨H, I, q⟩
  | int i =>
    obtain ⟨t, rfl⟩ := rx
    have e' : k = (i != 0) := e
    subst e'
    exact PySem.P.truthy_int ⟨H, I, q⟩
  | str y =>
    obtain ⟨t, rfl⟩ := rx
    obtain ⟨hy, e'⟩ : y.length ≤ sizeLine ∧ k = ((y.length : Int) != 0) := e
    subst e'
    exact PySem.P.truthy_str (by omega) ⟨H, I.tok _, q⟩
  | byt y =>
    obtain ⟨t, rfl⟩ := rx
    obtain ⟨hy, e'⟩ : y.size ≤ sizeLine ∧ k = ((y.size : Int) != 0) := e
    subst e'
    exact PySem.W.truthy_bytes (by omega) ⟨H, I.tok _, q⟩
  | ref p =>
    cases rx
    have e' : (∃ xs, SqL X.K H p xs ∧ k = !xs.isEmpty) ∨ (∃ xs, SqT X.K H p xs ∧ k = !xs.isEmpty) ∨ ∃ kvs, H p = some (.dK kvs) ∧ k = !kvs.isEmpty := e
    rcases e' with ⟨xs, hx, e'⟩ | ⟨xs, hx, e'⟩ | ⟨kvs, hx, e'⟩
    · subst e'
      obtain ⟨its, r, pl, hz⟩ := I.list hx
      have hlen := r.length
      exact wpAny_truthy_list pl.isList (by simp only [List.size_toArray]; omega) ⟨H, I.tok _, by rw [isEmpty_of r]; exact q⟩
    · subst e'
      obtain ⟨its, r, pl, hz⟩ := I.tuple hx
      have hlen := r.length
      exact truthy_tuple pl (by simp only [List.size_toArray]; omega) ⟨H, I.tok _, by rw [isEmpty_of r]; exact q⟩
    · subst e'
      obtain ⟨hz, hS, vs, r, m⟩ : kvs.length ≤ sizeLine ∧ (p == sysModules) = false ∧ ∃ vs, KV kvs vs ∧ s.heap.DictOf (mixKind X.prog X.w) p vs := I.hok p _ hx
      have hlen : kvs.length = vs.length := Paired.length r
      exact wpAny_truthy_dict hS m (by omega) ⟨H, I.tok _, by rw [isEmpty_kv r]; exact q⟩
  | _ => exact (show False from e).elim
/-- any expression whose test is its value's truth (a name, a call, a subscript, a field ..: he by fun _ => rfl) -/
theorem pt_truth (ha : PE X a ta) (he : ∀ whole, isTrue a X.env whole = (do let v ← whole; standAt a.pos; holding [v] (truthy v))) :
    PT X a (fun σ H Q => ta σ H fun x H' => ∃ k, TruV X.K x H' k ∧ Q k H') := by
  intro pins s σ H Q I h
  exact isTrue_plain (thn (ha pins s σ H _ I h) fun v s1 ⟨x, H1, I1, r1, q1⟩ => tru_ok pins s1 σ H1 x v Q I1 r1 q1) (he _)

/-! ### strs and bytes -/


/-! ### scalar builtins, by CallR -/
theorem vals1 {x : V} {us : List Value} (r : Vals [x] us) : ∃ u, us = [u] ∧ RelV x u := by
  cases r with
  | cons r1 r2 => cases r2; exact ⟨_, rfl, r1⟩
theorem vals2 {x y : V} {us : List Value} (r : Vals [x, y] us) : ∃ u w', us = [u, w'] ∧ RelV x u ∧ RelV y w' := by
  cases r with
  | cons r1 r2 =>
    cases r2 with
    | cons r3 r4 => cases r4; exact ⟨_, _, rfl, r1, r3⟩
theorem call_abs : CallR X (.builtin "abs") (fun xs H Q => ∃ i, xs = [.int i] ∧ Q (.int (if i < 0 then -i else i)) H) := by
  intro pins s σ H xs us Q I r h
  obtain ⟨i, rfl, q⟩ := h
  obtain ⟨u, rfl, t, rfl⟩ := vals1 r
  exact call_abs_int fun u tk => ⟨.int (if i < 0 then -i else i), H, I.tok _, ⟨_, rfl⟩, q⟩
theorem call_max2 (hc : X.calm = true) : CallR X (.builtin "max") (fun xs H Q => ∃ i j, xs = [.int i, .int j] ∧ Q (.int (if j > i then j else i)) H) := by
  intro pins s σ H xs us Q I r h
  obtain ⟨i, j, rfl, q⟩ := h
  obtain ⟨u, w', rfl, ⟨t, rfl⟩, ⟨t', rfl⟩⟩ := vals2 r
  refine max_two_ints (I.ok.hd hc) fun h' tk k => ⟨_, H, I.kept k, ?_, q⟩
  by_cases hj : j > i
  · rw [if_pos hj, if_pos hj]; exact ⟨_, rfl⟩
  · rw [if_neg hj, if_neg hj]; exact ⟨_, rfl⟩
theorem call_min2 (hc : X.calm = true) : CallR X (.builtin "min") (fun xs H Q => ∃ i j, xs = [.int i, .int j] ∧ Q (.int (if j < i then j else i)) H) := by
  intro pins s σ H xs us Q I r h
  obtain ⟨i, j, rfl, q⟩ := h
  obtain ⟨u, w', rfl, ⟨t, rfl⟩, ⟨t', rfl⟩⟩ := vals2 r
  refine min_two_ints (I.ok.hd hc) fun h' tk k => ⟨_, H, I.kept k, ?_, q⟩
  by_cases hj : j < i
  · rw [if_pos hj, if_pos hj]; exact ⟨_, rfl⟩
  · rw [if_neg hj, if_neg hj]; exact ⟨_, rfl⟩
theorem call_int1 : CallR X (.type "int") (fun xs H Q => (∃ i, xs = [.int i] ∧ Q (.int i) H) ∨ ∃ k, xs = [.bl k] ∧ Q (.int (if k then 1 else 0)) H) := by
  intro pins s σ H xs us Q I r h
  rcases h with ⟨i, rfl, q⟩ | ⟨k, rfl, q⟩
  · obtain ⟨u, rfl, t, rfl⟩ := vals1 r
    exact call_int_int ⟨.int i, H, I, ⟨_, rfl⟩, q⟩
  · obtain ⟨u, rfl, r1⟩ := vals1 r
    cases r1
    exact call_int_bool ⟨.int (if k then 1 else 0), H, I.tok _, ⟨_, rfl⟩, q⟩
theorem call_str_int : CallR X (.type "str") (fun xs H Q => ∃ i, xs = [.int i] ∧ i.natAbs.log2 < 1920 ∧ Q (.str (toString i)) H) := by
  intro pins s σ H xs us Q I r h
  obtain ⟨i, rfl, hz, q⟩ := h
  obtain ⟨u, rfl, t, rfl⟩ := vals1 r
  exact PySem.P.str_of_int hz ⟨.str _, H, I.tok _, ⟨_, rfl⟩, q⟩
end
end L2

namespace L2
open PySem PySem.Spec PyProof.Rows

/-! ### an instance, its attributes a map -/
structure ObjM (h : Heap) (x dx C : Addr) (mA : Str → Option Value) : Prop where
  obj : h.get? x = some (PySem.W.instObj C dx)
  ns : h.Ns1 dx mA
  ne : dx ≠ x

theorem lookIn_ns {h : Heap} {dx : Addr} {mA : Str → Option Value} (n : h.Ns1 dx mA) : ∃ od, h.get? dx = some od ∧ ∀ name, PySem.W.lookIn name od = some (mA name) := by
  obtain ⟨o, es, ep, ho, hd, hk, _, hm⟩ := n
  refine ⟨o, ho, fun name => ?_⟩
  have e := hm name
  unfold nsFind findBy at e
  rw [← Array.find?_toList] at e
  unfold PySem.W.lookIn
  rw [hd]
  dsimp only
  split
  · rename_i y q
    rw [q] at e
    exact congrArg some e
  · rename_i q
    rw [q] at e
    have a : es.toList.any (·.refKey) = false := by
      rw [List.any_eq_false]
      intro y hy
      obtain ⟨z, t, hkey⟩ := hk y (Array.mem_toList_iff.mp hy)
      simp [DictEntry.refKey, hkey]
    have a' : ¬ es.toList.any (·.refKey) = true := by rw [a]; exact Bool.false_ne_true
    rw [if_neg a']
    exact congrArg some e

theorem ObjM.look {h : Heap} {x dx C : Addr} {mA : Str → Option Value} (I : ObjM h x dx C mA) : ∃ od, PySem.W.InstAt h x (PySem.W.instObj C dx) C (some od) ∧ ∀ name, PySem.W.lookIn name od = some (mA name) :=
  let ⟨od, ho, hl⟩ := lookIn_ns I.ns
  ⟨od, ⟨I.obj, rfl, rfl, ho⟩, hl⟩

section
variable {prog : Program} {w : World} {A : Around} {E : Value → Shared → Prop} {s : Shared} {K : PySem.W.Frag} {x dx C f : Addr} {mA : Str → Option Value} {name : Str} {v : Value}





end

/-! ### the attributes as a list of pairs -/


section
variable {P : Program} {w : World} {H H' : Hp} {h h' : Heap} {a C dx : Addr} {fs fs' : List (Str × V)}
theorem ins_get (hok : HOk P w H h) (e : H a = some (.ins C dx fs)) : ∃ mA, ObjM h a dx C mA ∧ (∀ f, RelO (fs.lookup f) (mA f)) ∧ PySem.Within mA (fs.map (·.1)) ∧ fs.length ≤ 1000 ∧ H dx = some (.own a) := by
  obtain ⟨d, z, ne, ob, mA, n, r, q⟩ := (show ObjOk P w H h a (.ins C dx fs) from hok a _ e)
  exact ⟨mA, ⟨ob, n, ne⟩, r, q, z, d⟩
end

/-! ### what of the text a class must have -/
structure Cls (K : PySem.W.Frag) (C : Addr) : Prop where
  pg : PySem.W.plainGet K C Str.empty = true
  hd : PySem.W.hasDictIn K C = true
  po : PySem.W.plainOver K C = true
  sa : PySem.W.findIn K (.ref C) "__setattr__" = some (some (.builtin "object.__setattr__"))
theorem Cls.get {K : PySem.W.Frag} {C : Addr} (c : Cls K C) (f : Str) : PySem.W.plainGet K C f = true := c.pg

section
variable {X : Cx} {pins : List (Addr × Obj)} {σ : St} {H : Hp} {s : Shared} {a C dx : Addr} {fs : List (Str × V)} {f : Str} {v : V} {A : Around} {E : Value → Shared → Prop}






end

/-! ### readings and rules -/

section
variable {X : Cx} {o e value : Expr} {f : Str} {pos pos' tpos : Pos} {ta tv : TE}

end

/-! ### isinstance -/
section
variable {X : Cx} {pins : List (Addr × Obj)} {σ : St} {H : Hp} {s : Shared} {A : Around} {E : Value → Shared → Prop} {Q : Value → Shared → Prop} {c : Value} {b : Bool}
/-- the type of a value, as the fragment's deciders take it; for an instance its class -/
inductive TyOf (K : PySem.W.Frag) (H : Hp) : V → Value → Prop where
  | non : TyOf K H .non (.type "NoneType")
  | bl (x : Bool) : TyOf K H (.bl x) (.type "bool")
  | int (i : Int) : TyOf K H (.int i) (.type "int")
  | str (x : Str) : TyOf K H (.str x) (.type "str")
  | flt (x : UInt64) : TyOf K H (.flt x) (.type "float")
  | lst {a : Addr} {xs : List V} (e : H a = some (.lst xs)) : TyOf K H (.ref a) (.type "list")
  | frz {a : Addr} {o : Obj} {xs : List V} (e : H a = some (.frz o (.lst xs))) : TyOf K H (.ref a) (.type "list")
  | tup {a : Addr} {xs : List V} (e : H a = some (.tup xs)) : TyOf K H (.ref a) (.type "tuple")
  | dK {a : Addr} {kvs : List (Key × V)} (e : H a = some (.dK kvs)) : TyOf K H (.ref a) (.type "dict")
  | dT {a : Addr} {kvs : List (List Key × V)} (e : H a = some (.dT kvs)) : TyOf K H (.ref a) (.type "dict")
  | ins {a C dx : Addr} {fs : List (Str × V)} (e : H a = some (.ins C dx fs)) (cl : Cls K C) (ha : PySem.W.findIn K (.ref C) "__class__" = some (some (.builtin "object.__class__")))
      (hn : PySem.W.specialIn K (.builtin "object.__class__") "__get__" = some (some (.builtin "getset_descriptor.__get__"))) (htk : PySem.W.takesIn K (.builtin "object.__class__") = some true)
      (hm : PySem.W.mroIn K C (.type "object") = some true) : TyOf K H (.ref a) (.ref C)
/-- isinstance(x, c) for one class c, a built-in or an own one: kitOne's answer -/
theorem isinst_ok {x : V} {u t : Value} (I : Inv X pins σ H s) (rx : RelV x u) (ty : TyOf X.K H x t) (e : PySem.W.kitOne X.K t c = some b) (h : ∀ tk, Q (.bool b) { s with toks := tk }) :
    wpAny (model X.prog X.w) A (call (.builtin "isinstance") [u, c]) Q E s := by
  cases ty with
  | non => cases (show u = Value.none from rx); exact PySem.W.kia_one PySem.W.kitx_none I.kIn True.intro e (fun z => nomatch z) h
  | bl y => cases (show u = Value.bool y from rx); exact PySem.W.kia_one PySem.W.kitx_bool I.kIn True.intro e (fun z => nomatch z) h
  | int i => obtain ⟨t, q⟩ := (show ∃ t, u = Value.int i t from rx); cases q; exact PySem.W.kia_one PySem.W.kitx_int I.kIn True.intro e (fun z => nomatch z) h
  | str y => obtain ⟨t, q⟩ := (show ∃ t, u = Value.str y t from rx); cases q; exact PySem.W.kia_one PySem.W.kitx_str I.kIn True.intro e (fun z => nomatch z) h
  | flt y => obtain ⟨t, q⟩ := (show ∃ t, u = Value.float y t from rx); cases q; exact PySem.W.kia_one PySem.W.kitx_float I.kIn True.intro e (fun z => nomatch z) h
  | @lst a xs ea =>
    cases (show u = Value.ref a from rx)
    obtain ⟨_, _, n, _, h1⟩ := (show ObjOk X.prog X.w H s.heap a (.lst xs) from I.hok a _ ea)
    exact PySem.W.kia_one PySem.W.kitx_list I.kIn ⟨_, h1, rfl⟩ e (fun z => nomatch z) h
  | @frz a ob xs ea =>
    cases (show u = Value.ref a from rx)
    obtain ⟨_, _, _, n, _, h1⟩ := (show ObjOk X.prog X.w H s.heap a (.frz ob (.lst xs)) from I.hok a _ ea)
    exact PySem.W.kia_one PySem.W.kitx_list I.kIn ⟨_, h1, rfl⟩ e (fun z => nomatch z) h
  | @tup a xs ea =>
    cases (show u = Value.ref a from rx)
    obtain ⟨_, _, _, p⟩ := (show ObjOk X.prog X.w H s.heap a (.tup xs) from I.hok a _ ea)
    obtain ⟨o, h1, h2, _⟩ := p
    exact PySem.W.kia_one PySem.W.kitx_tuple I.kIn ⟨o, h1, h2⟩ e (fun z => nomatch z) h
  | @dK a kvs ea =>
    cases (show u = Value.ref a from rx)
    obtain ⟨_, _, vs, _, p⟩ := (show ObjOk X.prog X.w H s.heap a (.dK kvs) from I.hok a _ ea)
    obtain ⟨o, es, ep, h1, h2, _⟩ := p
    exact PySem.W.kia_one PySem.W.kitx_dict I.kIn ⟨o, h1, h2.1⟩ e (fun z => nomatch z) h
  | @dT a kvs ea =>
    cases (show u = Value.ref a from rx)
    obtain ⟨_, _, xs, _, o, es, ep, h1, h2, _⟩ := (show ObjOk X.prog X.w H s.heap a (.dT kvs) from I.hok a _ ea)
    exact PySem.W.kia_one PySem.W.kitx_dict I.kIn ⟨o, h1, h2.1⟩ e (fun z => nomatch z) h
  | @ins a C dx fs ea cl ha hn htk hm =>
    cases (show u = Value.ref a from rx)
    obtain ⟨mA, O, _⟩ := ins_get I.hok ea
    obtain ⟨od, J, _⟩ := O.look
    exact PySem.W.kia_one (PySem.W.kitx_own (cl.get _) cl.hd ha hn htk hm) I.kIn J e (fun z => nomatch z) h
end
end L2

namespace L2
open PySem PySem.Spec PyProof.Rows

/-! ### room -/
structure Room (k : Nat) (A : Around) : Prop where
  hd : A.handled = none
  dp : A.depth + 3 * k + 5 < recursionLimit
  un : A.units + 16 * k + 200 < cLine
  gd : A.guards = some []
theorem Room.deeper {k : Nat} {A : Around} (r : Room (k + 1) A) (env : Env) : Room k (A.deeper env) :=
  ⟨r.hd, by have := r.dp; show A.depth + 1 + 3 * k + 5 < _; omega, by have := r.un; show A.units + 3 + 16 * k + 200 < _; omega, r.gd⟩
theorem Room.depth {k : Nat} {A : Around} (r : Room k A) : A.depth < recursionLimit := by have := r.dp; omega
theorem Room.units {k : Nat} {A : Around} (r : Room k A) : A.units + 64 < cLine := by have := r.un; omega

/-! ### argument lists and displays -/
def tNil : TA := fun _ H Q => Q [] H
def tCons (ta : TE) (tr : TA) : TA := fun σ H Q => ta σ H fun x H1 => tr σ H1 fun xs H2 => Q (x :: xs) H2
section
variable {X : Cx} {e : Expr} {es : List Expr} {te : TE} {t : TA} {pos : Pos}
theorem pa_nil : PA X [] tNil := fun _ _ _ _ H Q I h => Calls.spliced_nil ⟨[], H, I, .nil, h⟩
theorem pa_cons (ha : PE X e te) (hr : PA X es t) (hs : starEach (e :: es) X.env = (false, eval e X.env) :: starEach es X.env := by rfl) : PA X (e :: es) (tCons te t) := by
  intro pos pins s σ H Q I h
  rw [hs]
  show wpAny _ _ (spliced ((false, eval e X.env) :: backTo pos (starEach es X.env))) _ _ s
  refine Calls.spliced_cons (thn (ha pins s σ H _ I h) fun u s1 ⟨x, H1, I1, r1, q1⟩ => ?_)
  exact thn (hr pos pins s1 σ H1 _ I1 q1) fun us s2 ⟨xs, H2, I2, r2, q2⟩ => ⟨x :: xs, H2, I2, .cons r1 r2, q2⟩

/-- a tuple, a list of written items -/
def tTup (t : TA) : TE := fun σ H Q => t σ H fun xs H1 => xs.length ≤ sizeLine ∧ ∀ p, H1 p = none → Q (.ref p) (upd H1 p (.tup xs))
def tLst (t : TA) : TE := fun σ H Q => t σ H fun xs H1 => xs.length ≤ sizeLine ∧ ∀ p, H1 p = none → Q (.ref p) (upd H1 p (.lst xs))
theorem pe_tup {x1} (h : PA X es t) : PE X (.Tuple es x1 pos) (tTup t) := by
  intro pins s σ H Q I hq
  refine wpAny_Tuple_spliced (thn (h pos pins s σ H _ I hq) fun us s1 ⟨xs, H1, I1, r, z, q⟩ => ⟨by rw [← r.length]; exact z, ?_⟩)
  have hf : H1 s1.heap.objs.size = none := I1.hok.fresh (Nat.le_refl _)
  refine ⟨.ref s1.heap.objs.size, upd H1 s1.heap.objs.size (.tup xs), I1.laid (t' := s1.toks) (fun b u e => Heap.get?_push_of_some _ e) (Nat.le_refl _) ?_, rfl, q _ hf⟩
  exact ⟨z, us, r, ⟨_, Heap.get?_push_size _ rfl, rfl, _, rfl⟩⟩
theorem pe_lst (h : PA X es t) : PE X (.List es pos) (tLst t) := by
  intro pins s σ H Q I hq
  refine wpAny_List_spliced (thn (h pos pins s σ H _ I hq) fun us s1 ⟨xs, H1, I1, r, z, q⟩ => ⟨by rw [← r.length]; exact z, ?_⟩)
  have hf : H1 s1.heap.objs.size = none := I1.hok.fresh (Nat.le_refl _)
  refine ⟨.ref s1.heap.objs.size, upd H1 s1.heap.objs.size (.lst xs), I1.laid (t' := s1.toks) (fun b u e => Heap.get?_push_of_some _ e) (Nat.le_refl _) ?_, rfl, q _ hf⟩
  exact ⟨z, us, 0, r, Heap.get?_push_size _ rfl⟩
end

/-! ### what a def promises -/
/-- a def's promise: the bound arguments in the parameters' order, the heap, the wanted end, the wanted exception -/
abbrev Sp := List V → Hp → VK → XK → Prop
/-- how an exception lies behind a call (file 08 gives it): the callers' frames, abstract heap and state ahead of the call, the wish, the exception, the state -/
abbrev CXT := List Env → Hp → Shared → XK → Value → Shared → Prop

/-- the state at a call -/
structure Env0 (P : Program) (w : World) (K : PySem.W.Frag) (mg : Str → Option Value) (base : Heap) (A : Around) (outer : List Env) (s : Shared) (H : Hp) : Prop where
  frames : A.frames = some outer
  mod : Mod K mg base
  bs : ∀ b o, base.get? b = some o → s.heap.get? b = some o ∧ H b = none
  bsz : base.objs.size ≤ s.heap.objs.size
  funs : s.heap.FunFrames base outer
  frf : ∀ b ∈ frs outer, H b = none
  hok : HOk P w H s.heap
  bare : AllBare s.gens
/-- a call's end -/
def CE (outer : List Env) (P : Program) (w : World) (H : Hp) (s : Shared) (Q : VK) (u : Value) (s' : Shared) : Prop :=
  ∃ v H', s'.os = s.os ∧ AllBare s'.gens ∧ Un (frs outer) [] H H' s.heap s'.heap ∧ HOk P w H' s'.heap ∧ RelV v u ∧ Q v H'
def CR (CX : CXT) (outer : List Env) (P : Program) (w : World) (H : Hp) (s : Shared) (Q : VK) (E : XK) (r : Result) (s' : Shared) : Prop :=
  match r with
  | .ok (.ret u) => CE outer P w H s Q u s'
  | .ok _ => False
  | .error e => CX outer H s E e s'
structure FnOk (P : Program) (w : World) (K : PySem.W.Frag) (mg : Str → Option Value) (base : Heap) (CX : CXT) (k : Nat) (f : Addr) (fd : FuncData) (ps : List Str) (sp : Sp) : Prop where
  len : ∀ vs H Q E, sp vs H Q E → vs.length = ps.length
  run : ∀ (A : Around) (outer : List Env) (s : Shared) (H : Hp) (args : Args) (us : List Value) (vs : List V) (Q : VK) (E : XK), Room k A → Env0 P w K mg base A outer s H → BindsTo s fd args (ps.zip us) → Vals vs us → sp vs H Q E →
    codeAny (model P w) A (.call (.ref f) args) (CR CX outer P w H s Q E) s


section
variable {X : Cx} {pins : List (Addr × Obj)} {σ : St} {H : Hp} {s s' : Shared}
/-- from a body: what a callee wants -/
theorem Inv.env0 (I : Inv X pins σ H s) : Env0 X.prog X.w X.K X.mg X.base X.A X.stack s H :=
  ⟨I.ok.frames, I.ok.mod, I.bs, Nat.le_trans I.ok.bsz I.sz, I.stack, I.stkFree, I.hok, I.bare⟩
/-- behind a call -/
theorem Inv.after {Q : VK} {u : Value} (I : Inv X pins σ H s) (h : CE X.stack X.prog X.w H s Q u s') : EP X pins σ Q u s' := by
  obtain ⟨v, H', os, bare, un, hok, r, q⟩ := h
  obtain ⟨hh, g, d, t, os'⟩ := s'
  obtain rfl : os' = s.os := os
  exact ⟨v, H', I.call (h' := hh) (g' := g) (d' := d) (t' := t) (ch := []) un hok bare (fun b z => absurd z (by simp)), r, q⟩
end

/-! ### calls -/
/-- f(..): the written arguments, then the defaults dvs; E: what is wanted of an exception -/
def tCall (sp : Sp) (dvs : List V) (E : XK) (t : TA) : TE := fun σ H Q => t σ H fun vs H1 => sp (vs ++ dvs) H1 Q E

/-- how the parameters are bound: us the positional arguments, kw the keywords' values by name, ds the defaults that fill up -/
def Binds (K : PySem.W.Frag) (fd : FuncData) (ps : List Str) (ds : List Value) : Prop :=
  ∀ (s : Shared) (us : List Value), K.In s.heap → (us ++ ds).length = ps.length → BindsTo s fd ⟨us, []⟩ (ps.zip (us ++ ds))
/-- every parameter is given -/
theorem Binds.all {K : PySem.W.Frag} {fd : FuncData} {ps : List Str} (h : ∀ us : List Value, us.length = ps.length → bindArgs fd ⟨us, []⟩ = pure (ps.zip us)) : Binds K fd ps [] := fun s us _ hl => by
  rw [List.append_nil] at hl ⊢
  exact .of_eq (h us hl)

/-- an exception of a callee reaches what this body wants of exceptions -/
def Passes (CX : CXT) (X : Cx) (E : XK) : Prop := ∀ (pins : List (Addr × Obj)) (σ : St) (H : Hp) (s : Shared) (e : Value) (s' : Shared), Inv X pins σ H s → CX X.stack H s E e s' → X.xe e s'

section
variable {X : Cx} {CX : CXT} {k : Nat} {f C : Addr} {fd : FuncData} {ps : List Str} {sp : Sp} {dvs : List V} {ds : List Value} {E : XK} {x m : Str} {p pos apos : Pos} {e o : Expr} {es : List Expr} {ta : TE} {t : TA}

/-- the callee runs -/
theorem run_fn {pins : List (Addr × Obj)} {σ : St} {H : Hp} {s : Shared} {Q : VK} {us : List Value} {vs : List V} (F : FnOk X.prog X.w X.K X.mg X.base CX k f fd ps sp) (hr : Room k X.A) (hb : Binds X.K fd ps ds) (hd : Vals dvs ds) (hx : Passes CX X E)
    (I : Inv X pins σ H s) (r : Vals vs us) (h : sp (vs ++ dvs) H Q E) : wpAny (model X.prog X.w) X.A (call (.ref f) us) (EP X pins σ Q) X.xe s := by
  have r2 : Vals (vs ++ dvs) (us ++ ds) := r.append hd
  have hl : (us ++ ds).length = ps.length := by rw [← r2.length]; exact F.len _ _ _ _ h
  refine wpAny_call (codeAny_mono (F.run X.A X.stack s H ⟨us, []⟩ (us ++ ds) (vs ++ dvs) Q E hr I.env0 (hb s us I.kIn hl) r2 h) fun r s' hq => ?_)
  cases r with
  | error e => exact hx pins σ H s e s' I hq
  | ok fl =>
    cases fl with
    | ret u => exact I.after hq
    | next => exact False.elim hq
    | brk => exact False.elim hq
    | cont => exact False.elim hq

theorem pe_call (F : FnOk X.prog X.w X.K X.mg X.base CX k f fd ps sp) (hr : Room k X.A) (hg : Gl X x) (hm : X.mg x = some (.ref f)) (hk : PySem.W.keepIn X.K (.ref f) = true) (hb : Binds X.K fd ps ds) (hd : Vals dvs ds) (hx : Passes CX X E)
    (ha : PA X (e :: es) t) (hdb : (x == ("__debug__" : Str)) = false := by decide) (he : starEach (e :: es) X.env = (false, eval e X.env) :: starEach es X.env := by rfl) (hpl : (backTo pos (starEach es X.env)).any (·.1) = false := by rfl) :
    PE X (.Call (.Name x p) (e :: es) [] pos) (tCall sp dvs E t) := by
  intro pins s σ H Q I h
  refine wpAny_Call_Name_kw (ld_glob I hg hm ?_ hdb)
  refine PySem.W.callWith_K (h₀ := X.base) I.ok.mod.kin hk (thn (ha pos pins s σ H _ I h) fun us s1 ⟨vs, H1, I1, r, q⟩ => ⟨I1.kIn, ?_⟩) he hpl
  exact run_fn F hr hb hd hx I1 r q



end

/-! ### keywords -/
section
variable {X : Cx} {CX : CXT} {k : Nat} {f C : Addr} {fd : FuncData} {ps ks : List Str} {sp : Sp} {E : XK} {x m : Str} {p pos apos kpos : Pos} {e o : Expr} {es : List Expr} {kws : List Keyword} {te ta : TE} {t tk : TA} {nm : Option Str}

variable {g : List Value → List Value → List Value} {gV : List V → List V → List V}
end

/-! ### a def's body keeps its promise -/
/-- names: the parameters first -/
structure FnScope (N P : List Str) (sc : Scope) : Prop where
  kind : sc.kind = .function
  co : sc.isCoroutine = false
  gen : sc.isGenerator = false
  nd : N.Nodup
  pre : N.take P.length = P
  par : ∀ x ∈ P, sc.names.lookup x = some .local ∨ sc.names.lookup x = some .cell
  nofree : ∀ y ∈ sc.names, y.2 ≠ .free

theorem bindL_out {kindOf : Str → Option NameKind} {x : Str} : ∀ {binds : List (Str × Value)} {m : Str → Option Value}, (∀ v, (x, v) ∉ binds) → bindL kindOf binds m x = m x
  | [], _, _ => rfl
  | (n, v) :: r, m, h => by
    unfold bindL
    rw [bindL_out fun w hw => h w (List.mem_cons_of_mem _ hw)]
    split
    · have : x ≠ n := by rintro rfl; exact h v List.mem_cons_self
      simp [this]
    · rfl
theorem bindC_out {kindOf : Str → Option NameKind} {x : Str} : ∀ {binds : List (Str × Value)} {m : Str → Option Value}, (∀ v, (x, v) ∉ binds) → bindC kindOf binds m x = m x
  | [], _, _ => rfl
  | (n, v) :: r, m, h => by
    unfold bindC
    rw [bindC_out fun w hw => h w (List.mem_cons_of_mem _ hw)]
    split
    · rfl
    · have : x ≠ n := by rintro rfl; exact h v List.mem_cons_self
      simp [this]
theorem bindL_get {kindOf : Str → Option NameKind} {x : Str} {v : Value} : ∀ {P : List Str} {vs : List Value} {i : Nat} {m : Str → Option Value}, P.Nodup → P[i]? = some x → vs[i]? = some v → kindOf x = some .local →
    bindL kindOf (P.zip vs) m x = some v
  | [], _, _, _, _, h, _, _ => by simp at h
  | _ :: _, [], _, _, _, _, h, _ => by simp at h
  | p :: P, w :: vs, 0, m, nd, h1, h2, hk => by
    simp at h1 h2; subst h1; subst h2
    show bindL kindOf ((p, w) :: P.zip vs) m p = _
    unfold bindL
    rw [bindL_out fun v hv => (List.nodup_cons.mp nd).1 (List.of_mem_zip hv).1, if_pos hk]
    simp
  | p :: P, w :: vs, i + 1, m, nd, h1, h2, hk => by
    show bindL kindOf ((p, w) :: P.zip vs) m x = _
    unfold bindL
    exact bindL_get (i := i) (List.nodup_cons.mp nd).2 (by simpa using h1) (by simpa using h2) hk
theorem bindC_get {kindOf : Str → Option NameKind} {x : Str} {v : Value} : ∀ {P : List Str} {vs : List Value} {i : Nat} {m : Str → Option Value}, P.Nodup → P[i]? = some x → vs[i]? = some v → kindOf x ≠ some .local →
    bindC kindOf (P.zip vs) m x = some v
  | [], _, _, _, _, h, _, _ => by simp at h
  | _ :: _, [], _, _, _, _, h, _ => by simp at h
  | p :: P, w :: vs, 0, m, nd, h1, h2, hk => by
    simp at h1 h2; subst h1; subst h2
    show bindC kindOf ((p, w) :: P.zip vs) m p = _
    unfold bindC
    rw [bindC_out fun v hv => (List.nodup_cons.mp nd).1 (List.of_mem_zip hv).1, if_neg hk]
    simp
  | p :: P, w :: vs, i + 1, m, nd, h1, h2, hk => by
    show bindC kindOf ((p, w) :: P.zip vs) m x = _
    unfold bindC
    exact bindC_get (i := i) (List.nodup_cons.mp nd).2 (by simpa using h1) (by simpa using h2) hk

/-- the names' values at the entry -/
def start (N : List Str) (vs : List V) : St := vs.map some ++ List.replicate (N.length - vs.length) none

/-- the context of a def's body, at its entry; an exception leaves the frame, then lies as CX says -/
def cxOf (CX : CXT) (P : Program) (w : World) (K : PySem.W.Frag) (mg : Str → Option Value) (base : Heap) (N : List Str) (qual : Str) (scope : Scope) (f : Addr) (cd : Value) (A : Around) (outer : List Env) (s : Shared) (H : Hp) (E : XK) : Cx where
  prog := P
  w := w
  K := K
  mg := mg
  base := base
  A := A.deeper (envOfC qual scope s.heap.objs.size f cd)
  N := N
  s₀ := s
  H₀ := H
  env := envOfC qual scope s.heap.objs.size f cd
  outer := outer
  stack := envOfC qual scope s.heap.objs.size f cd :: outer
  ex := []
  calm := true
  fn := fun _ => true
  pn := []
  xe := fun e s' => wpAny (model P w) (A.deeper (envOfC qual scope s.heap.objs.size f cd)) (leaving (envOfC qual scope s.heap.objs.size f cd) e) (fun _ s'' => CX outer H s E e s'') (fun e' s'' => CX outer H s E e' s'') s'

theorem cell_has {sc : Scope} {n : Nat} {x : Str} (h : sc.names.lookup x = some .cell) : ∃ c, (cellsFrom n sc.names []).lookup x = some c := by
  have q := PySem.W.cellsFrom_some sc.names n [] (.inl h)
  exact Option.isSome_iff_exists.mp q

theorem inv_start {CX : CXT} {P : Program} {w : World} {K : PySem.W.Frag} {mg : Str → Option Value} {base : Heap} {N ps : List Str} {qual : Str} {scope : Scope} {f : Addr} {cd : Value} {A : Around} {outer : List Env} {s s1 : Shared} {H : Hp} {E : XK} {us : List Value} {vs : List V}
    (S : FnScope N ps scope) (hd : A.handled = none) (e0 : Env0 P w K mg base A outer s H) (hl : vs.length = ps.length) (r : Vals vs us)
    (x : InCallC s s.heap.objs.size (bindL (envOfC qual scope s.heap.objs.size f cd).kindOf (ps.zip us) fun _ => none) (cellsFrom (s.heap.objs.size + 1) scope.names []) (bindC (envOfC qual scope s.heap.objs.size f cd).kindOf (ps.zip us) fun _ => none) s1) :
    Inv (cxOf CX P w K mg base N qual scope f cd A outer s H E) [] (start N vs) H s1 := by
  have hpl : ps.length ≤ N.length := by have := congrArg List.length S.pre; rw [List.length_take] at this; omega
  obtain ⟨h1, tk, rfl, hk⟩ := x.done
  have noA : ∀ b : Addr, b ∉ (cxOf CX P w K mg base N qual scope f cd A outer s H E).ex := fun b z => absurd (show b ∈ ([] : List Addr) from z) (by simp)
  refine ⟨⟨e0.mod, S.kind, rfl, rfl, Nat.le_refl _, fun y z c h1 h2 => ?_, fun y hy => ?_, fun y c _ h => ?_, fun _ => hd, Around.frames_deeper e0.frames, .inr ⟨rfl, rfl⟩, fun b z => absurd z (noA b), e0.bs, e0.bsz, fun b _ _ => noA b, fun b z => absurd z (noA b), e0.funs, e0.frf⟩,
    rfl, e0.bare, Un.kept hk, ⟨_, x.toInCall.ns, fun i y v h1 h2 h3 => ?_⟩, fun y c h => ⟨_, x.cell y c h⟩, e0.hok.fresh (Nat.le_refl _), fun y c h => ?_, fun p hp => absurd (show p ∈ ([] : List (Addr × Obj)) from hp) (by simp), e0.hok.kept hk, ?_⟩
  · exact name_of_addr x.apart (PySem.mem_of_lookup h1) (PySem.mem_of_lookup h2)
  · have hy : scope.names.lookup y = some .cell ∨ scope.names.lookup y = some .free := hy
    rcases hy with hy | hy
    · exact cell_has hy
    · exact absurd rfl (S.nofree _ (PySem.mem_of_lookup hy))
  · exact Nat.le_of_lt (x.above y c (PySem.mem_of_lookup h))
  · have hi : i < vs.length := by
      unfold start at h2
      by_cases hi : i < vs.length
      · exact hi
      · rw [List.getElem?_append_right (by simpa using hi)] at h2
        rw [List.getElem?_replicate] at h2
        split at h2 <;> cases h2
    have ha : vs[i]? = some v := by
      unfold start at h2
      rw [List.getElem?_append_left (by simpa using hi), List.getElem?_map] at h2
      cases e : vs[i]? with
      | none => rw [e] at h2; cases h2
      | some a => rw [e] at h2; cases h2; rfl
    obtain ⟨u, hu, rv⟩ := r.get ha
    have hp : ps[i]? = some y := by
      rw [← S.pre, List.getElem?_take_of_lt (by omega)]; exact h1
    have ndP : ps.Nodup := by rw [← S.pre]; exact S.nd.sublist (List.take_sublist _ _)
    refine ⟨u, rv, ?_⟩
    rcases S.par y (List.mem_of_getElem? hp) with k | k
    · exact .inl ⟨k, bindL_get ndP hp hu k⟩
    · obtain ⟨c, e⟩ := cell_has (n := s.heap.objs.size + 1) k
      refine .inr ⟨.inl k, c, e, ?_⟩
      have q := x.cell y c e
      rw [bindC_get ndP hp hu (by show scope.names.lookup y ≠ _; rw [k]; decide)] at q
      exact q
  · exact e0.hok.fresh (Nat.le_of_lt (x.above y c (PySem.mem_of_lookup h)))
  · unfold start
    show _ = N.length
    rw [List.length_append, List.length_map, List.length_replicate]
    omega

/-- THE RULE: a def (or a method) of the text, by its body. The body's reading t is chosen for each entry; it is run at the parameters' values -/
theorem fn_of {CX : CXT} {P : Program} {w : World} {K : PySem.W.Frag} {mg : Str → Option Value} {base : Heap} {k : Nat} {f : Addr} {name qual : Str} {params : Arguments} {body : List Stmt} {scope : Scope} {dV kV doc pm cdv ct oc : Value} {an od : Option Addr}
    {osl : Array (Option Value)} {N ps : List Str} {sp : Sp} (lk : K.lookup f = some ⟨oc, od, .func (PySem.W.fnOf name qual params body scope dV kV doc pm an cdv ct), osl⟩) (hcd : PySem.W.codeIn K cdv qual = true) (S : FnScope N ps scope)
    (len : ∀ vs H Q E, sp vs H Q E → vs.length = ps.length)
    (hbody : ∀ (A : Around) (outer : List Env) (s : Shared) (H : Hp) (vs : List V) (Q : VK) (E : XK), Room k (A.deeper (envOfC qual scope s.heap.objs.size f cdv)) → sp vs H Q E →
      ∃ t, PSs (cxOf CX P w K mg base N qual scope f cdv A outer s H E) body t ∧ t { nx := fun _ H' => Q .non H', rt := Q } (start N vs) H) :
    FnOk P w K mg base CX (k + 1) f (PySem.W.fnOf name qual params body scope dV kV doc pm an cdv ct) ps sp := by
  refine ⟨len, fun A outer s H args us vs Q E hr e0 hb r hsp => ?_⟩
  have hl := len _ _ _ _ hsp
  have KX : K.In s.heap := e0.mod.kin.keeps fun b o e => (e0.bs b o e).1
  have lim : s.heap.NoLimit := e0.mod.nolimit.keeps fun b o e => (e0.bs b o e).1
  have hkind : ∀ y ∈ ps.zip us, scope.names.lookup y.1 = some .local ∨ (scope.names.lookup y.1 = some .cell ∧ ((cellsFrom (s.heap.objs.size + 1) scope.names []).lookup y.1).isSome = true) := fun ⟨n, v⟩ hy => by
    rcases S.par n (List.of_mem_zip hy).1 with q | q
    · exact .inl q
    · exact .inr ⟨q, PySem.W.cellsFrom_some _ _ _ (.inl q)⟩
  refine codeAny_call_function hr.depth (KX _ _ lk) rfl S.co S.gen rfl (PySem.W.codeRec_of KX hcd) (hb _ _ _ _ ?_)
  refine wpAny_newFunctionEnv_cells S.kind hkind fun env he s1 x => ?_
  subst he
  refine ⟨lim.keeps x.toInCall.keep, codeAny_func ?_⟩
  obtain ⟨t, ht, hq⟩ := hbody A outer s H vs Q E (hr.deeper _) hsp
  have I : Inv (cxOf CX P w K mg base N qual scope f cdv A outer s H E) [] (start N vs) H s1 := inv_start S hr.hd e0 hl r x
  refine wpAny_mono (ht [] s1 (start N vs) H _ I hq) (fun fl s' hs => ?_) fun e s' hs => hs
  have fin : ∀ {σ' : St} {H' : Hp} {v : V} {u : Value}, Inv (cxOf CX P w K mg base N qual scope f cdv A outer s H E) [] σ' H' s' → RelV v u → Q v H' → CE outer P w H s Q u s' :=
    fun {σ' H' v u} J rv q => ⟨v, H', J.os, J.bare, J.base, J.hok, rv, q⟩
  cases fl with
  | ret u =>
    obtain ⟨v, σ', H', J, rv, q⟩ := hs
    exact fin J rv q
  | next =>
    obtain ⟨σ', H', J, q⟩ := hs
    exact fin (v := V.non) (u := Value.none) J rfl q
  | brk =>
    obtain ⟨_, _, _, q⟩ := hs
    exact False.elim q
  | cont =>
    obtain ⟨_, _, _, q⟩ := hs
    exact False.elim q
end L2

namespace L2
open PySem PySem.Spec PyProof.Rows
section
variable {X : Cx} {x : Str} {p pos : Pos} {e : Expr} {es : List Expr} {t : TA} {id T : String} {r : List V → Hp → VK → Prop}

def tCB (r : List V → Hp → VK → Prop) (t : TA) : TE := fun σ H Q => t σ H fun vs H1 => r vs H1 Q
/-- f(e, ..), f a built-in function -/
theorem pe_callB (hc : CallR X (.builtin id) r) (hg : Gl X x) (hm : X.mg x = none) (hv : bootBuiltins x = some (.builtin id)) (ha : PA X (e :: es) t) (hn : x ≠ "__name__" := by decide) (hdb : (x == ("__debug__" : Str)) = false := by decide)
    (he : starEach (e :: es) X.env = (false, eval e X.env) :: starEach es X.env := by rfl) (hpl : (backTo pos (starEach es X.env)).any (·.1) = false := by rfl) : PE X (.Call (.Name x p) (e :: es) [] pos) (tCB r t) := by
  intro pins s σ H Q I h
  refine wpAny_Call_Name_kw (ld_blt I hg hm hv ?_ hn hdb)
  exact PyProof.Rows.callWith_builtin1 (thn (ha pos pins s σ H _ I h) fun us s1 ⟨vs, H1, I1, r1, q1⟩ => hc pins s1 σ H1 vs us Q I1 r1 q1) he hpl
/-- T(e, ..), T a built-in type -/
theorem pe_callTy (hc : CallR X (.type T) r) (hg : Gl X x) (hm : X.mg x = none) (hv : bootBuiltins x = some (.type T)) (ha : PA X (e :: es) t) (hn : x ≠ "__name__" := by decide) (hdb : (x == ("__debug__" : Str)) = false := by decide)
    (he : starEach (e :: es) X.env = (false, eval e X.env) :: starEach es X.env := by rfl) (hpl : (backTo pos (starEach es X.env)).any (·.1) = false := by rfl) : PE X (.Call (.Name x p) (e :: es) [] pos) (tCB r t) := by
  intro pins s σ H Q I h
  refine wpAny_Call_Name_kw (ld_blt I hg hm hv ?_ hn hdb)
  exact PyProof.Rows.callWith_type1 (thn (ha pos pins s σ H _ I h) fun us s1 ⟨vs, H1, I1, r1, q1⟩ => hc pins s1 σ H1 vs us Q I1 r1 q1) he hpl
end
end L2

namespace HT
open PySem PyProof.Rows

/-- t < u of tuples of ints -/
def lexLt : List Int → List Int → Bool
  | [], [] => false
  | [], _ :: _ => true
  | _ :: _, [] => false
  | x :: xs, y :: ys => if x = y then lexLt xs ys else decide (x < y)
theorem lexLt_cons (x y : Int) (xs ys : List Int) : lexLt (x :: xs) (y :: ys) = if x = y then lexLt xs ys else decide (x < y) := rfl
theorem lexLt_nil_nil : lexLt [] [] = false := rfl
theorem lexLt_nil_cons (y : Int) (ys : List Int) : lexLt [] (y :: ys) = true := rfl
theorem lexLt_cons_nil (x : Int) (xs : List Int) : lexLt (x :: xs) [] = false := rfl

theorem eqAt_int (A : Around) (s : Shared) (a : Int) (t : Tok) (c : Int) (u : Tok) : ∃ e, SeqAt.EqAt A s (.int a t) (.int c u) e ∧ (e = true ↔ a = c) :=
  ⟨(a == c), SeqAt.EqAt.int_int a t c u, by simp⟩
theorem rcLt_int (A : Around) (s : Shared) (a : Int) (t : Tok) (c : Int) (u : Tok) (prog : Program) (w : World) (E : Value → Shared → Prop) (Q : Value → Shared → Prop) (h : Q (.bool (decide (a < c))) s) :
    wpAny (model prog w) A (richCompare .Lt (.int a t) (.int c u)) Q E s :=
  (PyProof.Rows.lt_int h : wpAny (model prog w) A (compareOp .Lt (.int a t) (.int c u)) Q E s)

section
open PySem.SeqAt
open PySem.AutoSeq1 (wpAny_loadPart')
open PySem.MeetsSeq PySem.MeetsSeq2 PySem.MeetsSeq3

theorem tuple_lt_ints (l b : Addr) (items items2 : Array Value) (n n2 : Nat) (dd dd2 : Option Addr) (sl sl2 : Array (Option Value)) (ns ms : List Int) (hi : IntsAre items.toList ns) (hj : IntsAre items2.toList ms) :
    Meets (Builtin.«tuple.__lt__» ⟨[.ref l, .ref b], []⟩)
      (fun _ R s => s.heap.get? l = some { cls := .type "tuple", dict := dd, data := .seq items n, slots := sl } ∧ s.heap.get? b = some { cls := .type "tuple", dict := dd2, data := .seq items2 n2, slots := sl2 } ∧
        R (.ok (.ret (.bool (lexLt ns ms)))) s) :=
  .of_wp fun prog w A R s h => by
    obtain ⟨hp, g, d, tk, os⟩ := s; obtain ⟨hl, hb, h⟩ := h
    have f2 := AutoSeq1.sub_tuple_tuple
    have z1 : items.size = ns.length := by rw [← hi.length]; simp
    have z2 : items2.size = ms.length := by rw [← hj.length]; simp
    wp_walk using wpAny_loadPart' hl, wpAny_loadPart' hb, wpAny_forIn_list _ (fun rest b s' => b.1 = none ∧ s' = ⟨hp, g, d, tk, os⟩ ∧ ∃ (vs ws : List Value) (ns' ms' : List Int), rest = vs.zip ws ∧
      IntsAre vs ns' ∧ IntsAre ws ms' ∧ ns'.length + items2.size = ms'.length + items.size ∧ R (.ok (.ret (.bool (lexLt ns' ms')))) ⟨hp, g, d, tk, os⟩) _
    case turn =>
      rintro ⟨y, x⟩ rest b s' ⟨hb', rfl, vs, ws, ns', ms', hz, hvi, hwi, hlen, hR⟩
      cases hvi with
      | nil => rw [List.zip_nil_left] at hz; cases hz
      | cons a t hvi' =>
        cases hwi with
        | nil => rw [List.zip_nil_right] at hz; cases hz
        | cons c u hwi' =>
          rw [List.zip_cons_cons] at hz
          injection hz with hyx hrest
          injection hyx with hy hx
          subst hy hx
          rw [lexLt_cons] at hR
          simp only [List.length_cons] at hlen
          obtain ⟨e, he, hiff⟩ := eqAt_int A.in1 ⟨hp, g, d, tk, os⟩ a t c u
          refine wpAny_bind (he prog w _ _ ?_)
          cases e with
          | true =>
            rw [if_pos (hiff.mp rfl)] at hR
            wp_walk
            exact ⟨rfl, rfl, _, _, _, _, hrest, hvi', hwi', by omega, hR⟩
          | false =>
            rw [if_neg (fun q => absurd (hiff.mpr q) Bool.false_ne_true)] at hR
            have hri := rcLt_int A.in1 ⟨hp, g, d, tk, os⟩ a t c u prog w
            wp_walk using hri
            exact ⟨_, rfl, by simpa using hR⟩
    case fin =>
      rintro ⟨b1, b2⟩ s' ⟨hb', rfl, vs, ws, ns', ms', hz, hvi, hwi, hlen, hR⟩
      simp only at hb'
      subst hb'
      have hv : lexLt ns' ms' = decide (items.size < items2.size) := by
        cases hvi with
        | nil =>
          cases hwi with
          | nil =>
            simp only [List.length_nil] at hlen
            rw [lexLt_nil_nil]
            exact (decide_eq_false (by omega)).symm
          | cons c u hw =>
            simp only [List.length_nil, List.length_cons] at hlen
            rw [lexLt_nil_cons]
            exact (decide_eq_true (by omega)).symm
        | cons a t hv =>
          cases hwi with
          | nil =>
            simp only [List.length_nil, List.length_cons] at hlen
            rw [lexLt_cons_nil]
            exact (decide_eq_false (by omega)).symm
          | cons c u hw =>
            rw [List.zip_cons_cons] at hz
            cases hz
      rw [hv] at hR
      wp_walk
      exact ⟨_, rfl, by simpa [Builtin.Tuple.tupleCompareSizes] using hR⟩
    case h =>
      exact ⟨rfl, rfl, items.toList, items2.toList, ns, ms, rfl, hi, hj, by omega, h⟩
end

section
variable {prog : Program} {w : World} {A : Around} {E : Value → Shared → Prop} {s : Shared}

theorem lt_tupInts {l b : Addr} {items items2 : Array Value} {ns ms : List Int} {Q : Value → Shared → Prop} (hl : IsTup s.heap l items) (hb : IsTup s.heap b items2) (hi : IntsAre items.toList ns) (hj : IntsAre items2.toList ms)
    (hu : A.units < cLine) (h : Q (.bool (lexLt ns ms)) s) : wpAny (model prog w) A (compareOp .Lt (.ref l) (.ref b)) Q E s := by
  obtain ⟨⟨cls, dd, data, sl⟩, ho, hc, n, hd⟩ := id hl
  obtain ⟨⟨cls2, dd2, data2, sl2⟩, ho2, hc2, n2, hd2⟩ := id hb
  simp only at hc hd hc2 hd2
  subst hc hd hc2 hd2
  exact richCompare_meets_room (op := .Lt) ⟨_, ho, rfl⟩ ⟨_, ho2, rfl⟩ PySem.F.slot_tuple_lt PySem.F.entry_tuple_lt (PySem.F.args_tuple_lt_2 _ _) (tuple_lt_ints l b items items2 n n2 dd dd2 sl sl2 ns ms hi hj)
    ⟨ho, ho2, show Value.bool (lexLt ns ms) ≠ Value.notImplemented ∧ Q (.bool (lexLt ns ms)) s from ⟨(fun x => nomatch x), h⟩⟩ hu

/-- t + u, t not empty -/
theorem cat_tup {t b : Addr} {vs ws : List Value} {Q : Value → Shared → Prop} (ht : IsTup s.heap t vs.toArray) (hb : IsTup s.heap b ws.toArray) (hv : vs ≠ [])
    (h1 : ws = [] → Q (.ref t) s) (h2 : ws ≠ [] → Q (.ref s.heap.objs.size) { s with heap := s.heap.push { cls := .type "tuple", data := .seq (vs ++ ws).toArray } })
    (hsz : vs.length + ws.length ≤ sizeLine) : wpAny (model prog w) A (binaryOp .Add (.ref t) (.ref b)) Q E s := by
  obtain ⟨⟨cls, dd, data, sl⟩, ho, hc, n, hd⟩ := id ht
  obtain ⟨⟨cls2, dd2, data2, sl2⟩, ho2, hc2, n2, hd2⟩ := id hb
  simp only at hc hd hc2 hd2
  subst hc hd hc2 hd2
  have e : vs.toArray ++ ws.toArray = (vs ++ ws).toArray := by simp
  by_cases hw : ws = []
  · exact concat_meets ⟨_, ho, rfl⟩ ⟨_, ho2, rfl⟩ noFill_tuple_add seq_tuple_add PySem.F.slot_tuple_add PySem.F.entry_tuple_add (PySem.F.args_tuple_add_2 _ _)
      (tuple_addW1 t b vs.toArray ws.toArray n n2 dd dd2 sl sl2 (by simpa using hv) (by simp [hw])) ⟨ho, ho2, h1 hw⟩
  · refine concat_meets ⟨_, ho, rfl⟩ ⟨_, ho2, rfl⟩ noFill_tuple_add seq_tuple_add PySem.F.slot_tuple_add PySem.F.entry_tuple_add (PySem.F.args_tuple_add_2 _ _)
      (tuple_addW2 t b vs.toArray ws.toArray n n2 dd dd2 sl sl2 (by simpa using hv) (by simpa using hw) (by rw [List.size_toArray, List.size_toArray]; exact hsz)) ⟨ho, ho2, ?_⟩
    rw [e]
    exact h2 hw

/-! ### t[a:b], not the whole -/
/-- a slice's bound as a place among n (d where it is left out) -/
def sIx (n d : Nat) : Option Int → Nat
  | none => d
  | some v => if v < 0 then (v + (n : Int)).toNat else min v.toNat n
theorem sIx_le (n d : Nat) (hd : d ≤ n) (o : Option Int) : sIx n d o ≤ n := by
  cases o with
  | none => exact hd
  | some v =>
    show (if v < 0 then (v + (n : Int)).toNat else min v.toNat n) ≤ n
    by_cases hv : v < 0
    · rw [if_pos hv]; omega
    · rw [if_neg hv]; exact Nat.min_le_right _ _
theorem clip_eq (v : Int) (n d : Nat) : (if v < 0 then max (v + (n : Int)) 0 else min v (n : Int)) = ((sIx n d (some v) : Nat) : Int) := by
  show (if v < 0 then max (v + (n : Int)) 0 else min v (n : Int)) = (((if v < 0 then (v + (n : Int)).toNat else min v.toNat n) : Nat) : Int)
  by_cases hv : v < 0
  · simp only [if_pos hv]; omega
  · simp only [if_neg hv]; omega
theorem adjust_gen (lo hi : Option Int) (n : Nat) : Builtin.Slice.sliceAdjust lo hi 1 (n : Int) = (((sIx n 0 lo : Nat) : Int), ((sIx n n hi : Nat) : Int)) := by
  have h1 : ¬ ((1 : Int) < 0) := by omega
  unfold Builtin.Slice.sliceAdjust
  simp only [h1, if_false]
  refine Prod.ext ?_ ?_
  · cases lo with
    | none => rfl
    | some v => exact clip_eq v n 0
  · cases hi with
    | none => rfl
    | some v => exact clip_eq v n n
theorem places_gen (i j : Nat) : Builtin.Slice.slicePlaces (i : Int) (j : Int) 1 = j - i := by
  unfold Builtin.Slice.slicePlaces
  have h1 : (1 : Int) > 0 := by omega
  simp only [h1, if_true, Int.ediv_one]
  split <;> omega
theorem slicePart_ {v : Value} {o : Option Int} {Q : Option Int → Shared → Prop} (p : IsPart v o) (h : Q o s) : wpAny (model prog w) A (Builtin.Slice.slicePartIndex v) Q E s := by
  cases p with
  | none => exact slicePart_none h
  | int i t => exact slicePart_int h
theorem sliceApplied_gen {sl : Addr} {vl vu : Value} {lo hi : Option Int} {n : Nat} {Q : Int × Int × Nat → Shared → Prop} (hs : s.heap.IsSliceOf sl vl vu .none) (pl : IsPart vl lo) (pu : IsPart vu hi)
    (h : Q (((sIx n 0 lo : Nat) : Int), 1, sIx n n hi - sIx n 0 lo) s) : wpAny (model prog w) A (Builtin.Slice.sliceApplied (.ref sl) (pure (n : Int))) Q E s := by
  obtain ⟨os, hos, hcs, hds⟩ := id hs
  unfold Builtin.Slice.sliceApplied Builtin.Slice.sliceFields
  refine wpAny_bind (wpAny_bind (wpAny_field hos hds (x := vl) rfl (wpAny_bind (wpAny_field hos hds (x := vu) rfl (wpAny_bind (wpAny_field hos hds (x := .none) rfl (wpAny_pure ?_)))))))
  refine wpAny_bind (slicePart_none ?_)
  show wpAny _ _ (if ((1 : Int) == 0) = true then _ else _) _ _ s
  rw [if_neg (by decide)]
  refine wpAny_bind (slicePart_ pl (wpAny_bind (slicePart_ pu (wpAny_bind (wpAny_pure ?_)))))
  show wpAny _ _ (match Builtin.Slice.sliceAdjust lo hi 1 (n : Int) with | (lo, hi) => pure (lo, (1 : Int), Builtin.Slice.slicePlaces lo hi 1)) _ _ s
  rw [adjust_gen lo hi n]
  show wpAny _ _ (pure (((sIx n 0 lo : Nat) : Int), (1 : Int), Builtin.Slice.slicePlaces ((sIx n 0 lo : Nat) : Int) ((sIx n n hi : Nat) : Int) 1)) _ _ s
  rw [places_gen]
  exact wpAny_pure h
theorem pick_gen (xs : Array Value) (i k : Nat) : ((List.range k).filterMap fun (m : Nat) => xs[((i : Int) + (m : Int) * 1).toNat]?).toArray = ((xs.toList.drop i).take k).toArray := by
  have e : (fun (m : Nat) => xs[((i : Int) + (m : Int) * 1).toNat]?) = fun m => xs[i + m]? := by
    funext m
    have : ((i : Int) + (m : Int) * 1).toNat = i + m := by omega
    rw [this]
  rw [e]
  have := pick_run xs i k
  rw [List.filterMap_map] at this
  have e2 : ((fun x => xs[x]?) ∘ fun x => i + x) = fun m => xs[i + m]? := rfl
  rw [e2] at this
  rw [this]

theorem getItem_tuple_cut {t sl : Addr} {items : Array Value} {vl vu : Value} {lo hi : Option Int} {Q : Value → Shared → Prop} (ht : IsTup s.heap t items) (hs : s.heap.IsSliceOf sl vl vu .none) (pl : IsPart vl lo) (pu : IsPart vu hi)
    (hw : ¬ (sIx items.size 0 lo = 0 ∧ sIx items.size items.size hi = items.size))
    (h : Q (.ref s.heap.objs.size) { s with heap := s.heap.push { cls := .type "tuple", data := .seq ((items.toList.drop (sIx items.size 0 lo)).take (sIx items.size items.size hi - sIx items.size 0 lo)).toArray } })
    (hsz : items.size ≤ sizeLine) : wpAny (model prog w) A (getItem (.ref t) (.ref sl)) Q E s := by
  have htake : sizeOk (.seq ((items.toList.drop (sIx items.size 0 lo)).take (sIx items.size items.size hi - sIx items.size 0 lo)).toArray) := by
    show ((items.toList.drop (sIx items.size 0 lo)).take (sIx items.size items.size hi - sIx items.size 0 lo)).toArray.size ≤ sizeLine
    rw [List.size_toArray, List.length_take, List.length_drop, Array.length_toList]
    omega
  have hj : sIx items.size items.size hi ≤ items.size := sIx_le _ _ (Nat.le_refl _) hi
  obtain ⟨os, hos, hcs, hds⟩ := id hs
  have hTs : s.TypeIs (.ref sl) "slice" := ⟨os, hos, hcs⟩
  unfold getItem
  try with_reducible refine wpAny_holding ?_
  first | refine wpAny_bind (wpAny_pure ?_) | skip
  refine wpAny_bind (wpAny_sequenceKey ht.typeIs (by decide) ?_)
  refine wpAny_bind (wpAny_callSpecial?_slot (name := Str.ofString "__getitem__") ht.typeIs PyProof.Rows.slot_tuple_getitem
    (wpAny_call_entry PyProof.Rows.slot_tuple_getitem ht.typeIs entry_tuple_getitem ?_ (args_tuple_getitem _ _)))
  show wpAny _ _ (Builtin.Tuple.tupleItemsOf (.ref t) >>= _) _ _ s
  refine wpAny_bind (tupleItemsOf_ ht ?_)
  refine wpAny_bind (wpAny_typeOf hTs ?_)
  rw [if_pos (by decide)]
  refine wpAny_bind (sliceApplied_gen hs pl pu ?_)
  have hno : ¬ ((((sIx items.size 0 lo : Nat) : Int) == 0 && (1 : Int) == 1 && (sIx items.size items.size hi - sIx items.size 0 lo) == items.size) = true) := by
    intro q
    rw [Bool.and_eq_true, Bool.and_eq_true] at q
    have q1 : ((sIx items.size 0 lo : Nat) : Int) = 0 := eq_of_beq q.1.1
    have q2 : sIx items.size items.size hi - sIx items.size 0 lo = items.size := eq_of_beq q.2
    exact hw ⟨by omega, by omega⟩
  show wpAny _ _ (if (((sIx items.size 0 lo : Nat) : Int) == 0 && (1 : Int) == 1 && (sIx items.size items.size hi - sIx items.size 0 lo) == items.size) = true then _ else _) _ _ s
  rw [if_neg hno, pick_gen]
  first
    | exact wpAny_bind (m := Builtin.Tuple.tupleExact _) (wpAny_newObj_type (wpAny_pure ⟨_, rfl, wpAny_pure h⟩) htake)
    | exact wpAny_bind (m := Builtin.Tuple.tupleExact _) (wpAny_newObj_type (wpAny_bind (wpAny_pure (wpAny_pure ⟨_, rfl, wpAny_pure h⟩))) htake)
    | exact wpAny_bind (wpAny_bind (m := Builtin.Tuple.tupleExact _) (wpAny_newObj_type (wpAny_pure (wpAny_pure ⟨_, rfl, wpAny_pure h⟩)) htake))
    | exact wpAny_bind (wpAny_bind (m := Builtin.Tuple.tupleExact _) (wpAny_newObj_type (wpAny_pure ⟨_, rfl, wpAny_pure h⟩) htake))
end
end HT

namespace L2
open PySem PySem.Spec PyProof.Rows

/-! ### the parts of a slice -/
abbrev TO := St → Hp → (Option Int → Hp → Prop) → Prop
/-- a slice's part (left out, or an int) -/
def PO (X : Cx) (e : Option Expr) (t : TO) : Prop :=
  ∀ (pins : List (Addr × Obj)) (s : Shared) (σ : St) (H : Hp) (Q : Option Int → Hp → Prop), Inv X pins σ H s → t σ H Q →
    wpAny (model X.prog X.w) X.A (evalPart e X.env) (fun u s' => ∃ o H', Inv X pins σ H' s' ∧ IsPart u o ∧ Q o H') X.xe s
def tNoPart : TO := fun _ H Q => Q none H
def tPart (t : TE) : TO := fun σ H Q => t σ H fun x H1 => ∃ i, x = .int i ∧ Q (some i) H1

theorem intsAre_of {ns : List Int} : ∀ {us : List Value}, Vals (ns.map V.int) us → IntsAre us ns := by
  induction ns with
  | nil => intro us r; rw [List.map_nil] at r; cases r; exact .nil
  | cons n ns ih =>
    intro us r
    rw [List.map_cons] at r
    cases r with
    | cons r1 r2 =>
      obtain ⟨t, e⟩ := r1
      subst e
      exact .cons n t (ih r2)

section
variable {X : Cx} {e : Expr} {te : TE} {lo hi : Option Expr} {tl th : TO} {pos p2 : Pos}

theorem po_none : PO X none tNoPart := by
  intro pins s σ H Q I h
  rw [evalPart_none]
  exact wpAny_pure ⟨none, H, I, .none, h⟩
theorem po_some (h : PE X e te) : PO X (some e) (tPart te) := by
  intro pins s σ H Q I hw
  rw [evalPart_some]
  refine thn (h pins s σ H _ I hw) fun u s1 ⟨x, H1, I1, r1, q1⟩ => ?_
  obtain ⟨i, rfl, q⟩ := q1
  obtain ⟨t, rfl⟩ := r1
  exact ⟨some i, H1, I1, .int i t, q⟩

/-- what a slice of a value is, by values: the slice object stands at sl -/
def SlR (X : Cx) (r : V → Option Int → Option Int → Hp → VK → Prop) : Prop :=
  ∀ (pins : List (Addr × Obj)) (s : Shared) (σ : St) (H : Hp) (x : V) (v vl vu : Value) (lo hi : Option Int) (sl : Addr) (Q : VK), Inv X pins σ H s → RelV x v → s.heap.IsSliceOf sl vl vu .none → IsPart vl lo → IsPart vu hi → r x lo hi H Q →
    ∃ T id, typeLookup (.type T) "__getitem__" = pure (some (.builtin id)) ∧ s.TypeIs v T ∧ wpAny (model X.prog X.w) X.A (getItem v (.ref sl)) (EP X pins σ Q) X.xe s
def tSl (r : V → Option Int → Option Int → Hp → VK → Prop) (te : TE) (tl th : TO) : TE := fun σ H Q => te σ H fun x H1 => tl σ H1 fun l H2 => th σ H2 fun u H3 => r x l u H3 Q
/-- a[lo:hi], any a -/
theorem pe_slice {r : V → Option Int → Option Int → Hp → VK → Prop} (hr : SlR X r) (he : PE X e te) (hl : PO X lo tl) (hu : PO X hi th) : PE X (.Subscript e (.Slice lo hi none p2) pos) (tSl r te tl th) := by
  intro pins s σ H Q I h
  refine Subscript_ (thn (he pins s σ H _ I h) fun v s1 ⟨x, H1, I1, r1, q1⟩ => ?_)
  refine wpAny_Slice (thn (hl pins s1 σ H1 _ I1 q1) fun vl s2 ⟨l, H2, I2, pl, q2⟩ => thn (hu pins s2 σ H2 _ I2 q2) fun vu s3 ⟨u, H3, I3, pu, q3⟩ => ?_)
  rw [evalPart_none]
  refine wpAny_pure ?_
  have I4 : Inv X pins σ H3 { s3 with heap := s3.heap.push { cls := .type "slice", data := .fields #[vl, vu, .none] } } := I3.kept (t' := s3.toks) fun b ob q => Heap.get?_push_of_some _ q
  obtain ⟨T, id, hT, ht, hg⟩ := hr pins { s3 with heap := s3.heap.push { cls := .type "slice", data := .fields #[vl, vu, .none] } } σ H3 x v vl vu l u s3.heap.objs.size Q I4 r1 (Heap.IsSliceOf.new ..) pl pu q3
  show wpAny (model X.prog X.w) X.A (subscriptTail e (.Slice lo hi none p2) v (.ref s3.heap.objs.size)) (EP X pins σ Q) X.xe { s3 with heap := s3.heap.push { cls := .type "slice", data := .fields #[vl, vu, .none] } }
  exact tail_any (ops := [.ref s3.heap.objs.size, v]) ht hT hg (by with_unfolding_all rfl)

/-- the items of xs[lo:hi] -/
def cutV (xs : List V) (lo hi : Option Int) : List V := (xs.drop (HT.sIx xs.length 0 lo)).take (HT.sIx xs.length xs.length hi - HT.sIx xs.length 0 lo)
theorem cutV_length (xs : List V) (lo hi : Option Int) : (cutV xs lo hi).length ≤ xs.length := by
  unfold cutV
  rw [List.length_take, List.length_drop]
  omega
/-- t[lo:hi], not the whole of it (the whole would be t itself) -/
def rSlT (K : PySem.W.Frag) : V → Option Int → Option Int → Hp → VK → Prop := fun x lo hi H Q => ∃ a xs, x = .ref a ∧ SqT K H a xs ∧
  ¬ (HT.sIx xs.length 0 lo = 0 ∧ HT.sIx xs.length xs.length hi = xs.length) ∧ ∀ p, H p = none → Q (.ref p) (upd H p (.tup (cutV xs lo hi)))
theorem sl_tup : SlR X (rSlT X.K) := by
  intro pins s σ H x v vl vu lo hi sl Q I rx hs pl pu h
  obtain ⟨a, xs, rfl, hx, hw, q⟩ := h
  cases rx
  obtain ⟨its, r, ht, hz⟩ := I.tuple hx
  have hlen : its.toArray.size = xs.length := by rw [List.size_toArray]; exact r.length.symm
  refine ⟨"tuple", _, PyProof.Rows.slot_tuple_getitem.lookup, ht.typeIs, ?_⟩
  refine HT.getItem_tuple_cut ht hs pl pu (by rw [hlen]; exact hw) ?_ (by rw [hlen]; exact hz)
  rw [hlen]
  refine ⟨.ref s.heap.objs.size, _, I.laid (t' := s.toks) (o := .tup (cutV xs lo hi)) (fun b ob q => Heap.get?_push_of_some _ q) (Nat.le_refl _) ?_, rfl, q _ (I.hok.fresh (Nat.le_refl _))⟩
  exact ⟨Nat.le_trans (cutV_length xs lo hi) hz, _, (r.drop (HT.sIx xs.length 0 lo)).take (HT.sIx xs.length xs.length hi - HT.sIx xs.length 0 lo), IsTup.new _ _⟩

/-! ### t < u, t + u -/
def rLtT (K : PySem.W.Frag) : R2 := fun x y H Q => ∃ a b ns ms, x = .ref a ∧ y = .ref b ∧ SqT K H a (ns.map V.int) ∧ SqT K H b (ms.map V.int) ∧ Q (.bl (HT.lexLt ns ms)) H
theorem op_ltT (hu : X.A.units < cLine) : OpR X (compareOp .Lt) (rLtT X.K) := by
  intro pins s σ H x y v u Q I rx ry h
  obtain ⟨a, b, ns, ms, rfl, rfl, ha, hb, q⟩ := h
  cases rx
  cases ry
  obtain ⟨its, r1, p1, _⟩ := I.tuple ha
  obtain ⟨its2, r2, p2, _⟩ := I.tuple hb
  have i1 : IntsAre its.toArray.toList ns := intsAre_of r1
  have i2 : IntsAre its2.toArray.toList ms := intsAre_of r2
  exact HT.lt_tupInts p1 p2 i1 i2 hu ⟨.bl (HT.lexLt ns ms), H, I, rfl, q⟩
/-- t + u, t not empty: u empty gives t itself -/
def rCatT (K : PySem.W.Frag) : R2 := fun x y H Q => ∃ a b xs ys, x = .ref a ∧ y = .ref b ∧ SqT K H a xs ∧ SqT K H b ys ∧ xs ≠ [] ∧ xs.length + ys.length ≤ sizeLine ∧
  (ys = [] → Q (.ref a) H) ∧ (ys ≠ [] → ∀ p, H p = none → Q (.ref p) (upd H p (.tup (xs ++ ys))))
theorem Vals.nil_iff {xs : List V} {us : List Value} (r : Vals xs us) : us = [] ↔ xs = [] := by
  cases r with
  | nil => simp
  | cons _ _ => simp
theorem op_catT : OpR X (binaryOp .Add) (rCatT X.K) := by
  intro pins s σ H x y v u Q I rx ry h
  obtain ⟨a, b, xs, ys, rfl, rfl, ha, hb, hx, hz, q1, q2⟩ := h
  cases rx
  cases ry
  obtain ⟨its, r1, p1, _⟩ := I.tuple ha
  obtain ⟨its2, r2, p2, _⟩ := I.tuple hb
  refine HT.cat_tup p1 p2 (fun z => hx (r1.nil_iff.mp z)) (fun z => ⟨.ref a, H, I, rfl, q1 (r2.nil_iff.mp z)⟩) (fun z => ?_) (by rw [← r1.length, ← r2.length]; exact hz)
  refine ⟨.ref s.heap.objs.size, _, I.laid (t' := s.toks) (o := .tup (xs ++ ys)) (fun b ob q => Heap.get?_push_of_some _ q) (Nat.le_refl _) ?_, rfl, q2 (fun w => z (r2.nil_iff.mpr w)) _ (I.hok.fresh (Nat.le_refl _))⟩
  exact ⟨by rw [List.length_append]; exact hz, _, r1.append r2, IsTup.new _ _⟩
end
end L2

namespace L2
open PySem PySem.Spec PyProof.Rows

/-! ### places -/
/-- the place that an index of any sign means -/
def ixN (n : Nat) (i : Int) : Option Nat := if 0 ≤ i then (if i < n then some i.toNat else none) else if -(n : Int) ≤ i then some (i + n).toNat else none
def atI {α : Type} (xs : List α) (i : Int) : Option α := (ixN xs.length i).bind fun j => xs[j]?
theorem ixN_seq {n : Nat} {i : Int} {j : Nat} (h : ixN n i = some j) : seqIndex? i n = some j ∧ j < n ∧ -(n : Int) ≤ i ∧ i < n := by
  unfold ixN at h
  by_cases h0 : 0 ≤ i
  · rw [if_pos h0] at h
    by_cases h1 : i < n
    · rw [if_pos h1] at h
      have e : i.toNat = j := Option.some.inj h
      exact ⟨by rw [seqIndex_of h0 h1, e], by omega, by omega, h1⟩
    · rw [if_neg h1] at h; cases h
  · rw [if_neg h0] at h
    by_cases h1 : -(n : Int) ≤ i
    · rw [if_pos h1] at h
      have e : (i + n).toNat = j := Option.some.inj h
      exact ⟨by rw [seqIndex_neg (by omega) h1, e], by omega, h1, by omega⟩
    · rw [if_neg h1] at h; cases h
theorem atI_get {α : Type} {xs : List α} {i : Int} {v : α} (h : atI xs i = some v) : ∃ j, seqIndex? i xs.length = some j ∧ xs[j]? = some v ∧ j < xs.length ∧ -(xs.length : Int) ≤ i ∧ i < xs.length := by
  unfold atI at h
  cases e : ixN xs.length i with
  | none => rw [e] at h; cases h
  | some j =>
    rw [e] at h
    obtain ⟨h1, h2, h3, h4⟩ := ixN_seq e
    exact ⟨j, h1, h, h2, h3, h4⟩

/-! ### what may be subscripted -/
/-- what stands as an index of a plain subscript -/
def PlainIx (b : Expr) : Prop := ∀ o i, subscripted b false o i = operate [o, i] (getItem o i)
/-- a subscript by values -/
def IxR (X : Cx) (r : R2) : Prop :=
  ∀ (value slice : Expr) (pins : List (Addr × Obj)) (s : Shared) (σ : St) (H : Hp) (x y : V) (v u : Value) (Q : VK), Inv X pins σ H s → RelV x v → RelV y u → r x y H Q →
    subscripted slice false v u = operate [v, u] (getItem v u) → wpAny (model X.prog X.w) X.A (subscriptTail value slice v u) (EP X pins σ Q) X.xe s
/-- a call of a builtin's method by values: the receiver, the arguments -/
def MtR (X : Cx) (id : String) (r : V → List V → Hp → VK → Prop) : Prop :=
  ∀ (pins : List (Addr × Obj)) (s : Shared) (σ : St) (H : Hp) (x : V) (xs : List V) (v : Value) (us : List Value) (Q : VK), Inv X pins σ H s → RelV x v → Vals xs us → r x xs H Q →
    wpAny (model X.prog X.w) X.A (call (.builtin id) (v :: us)) (EP X pins σ Q) X.xe s
section
variable {X : Cx} {a b : Expr} {ta tb : TE} {pos : Pos}
/-- a[b] -/
theorem pe_ix {r : R2} (hr : IxR X r) (ha : PE X a ta) (hb : PE X b tb) (hs : PlainIx b) : PE X (.Subscript a b pos) (tOp r ta tb) := by
  intro pins s σ H Q I h
  exact Subscript_ (binT ha hb I h fun v u s2 x y H2 I2 rx ry q => hr a b pins s2 σ H2 x y v u Q I2 rx ry q (hs _ _))

def rIxL (K : PySem.W.Frag) : R2 := fun x y H Q => ∃ p xs i v, x = .ref p ∧ y = .int i ∧ SqL K H p xs ∧ atI xs i = some v ∧ Q v H
def rIxT (K : PySem.W.Frag) : R2 := fun x y H Q => ∃ p xs i v, x = .ref p ∧ y = .int i ∧ SqT K H p xs ∧ atI xs i = some v ∧ Q v H
theorem ix_list : IxR X (rIxL X.K) := by
  intro value slice pins s σ H x y v u Q I rx ry h hs
  obtain ⟨p, xs, i, z, rfl, rfl, hq, he, q⟩ := h
  cases rx
  obtain ⟨t, rfl⟩ := ry
  obtain ⟨its, r, pl, hz⟩ := I.list hq
  obtain ⟨j, h1, h2, h3, h4, h5⟩ := atI_get he
  obtain ⟨w, ew, rw'⟩ := r.get h2
  have hl := r.length
  have hn := line63
  have fin : EP X pins σ Q w s := ⟨z, H, I, rw', q⟩
  by_cases h0 : 0 ≤ i
  · have hj : i.toNat = j := by
      rw [seqIndex_of h0 h5] at h1
      exact Option.some.inj h1
    exact item_listR pl.isList h0 (by omega) (by rw [hj]; simpa using ew) fin hs
  · have hj : (i + (its.toArray.size : Int)).toNat = j := by
      rw [seqIndex_neg (by omega) h4] at h1
      rw [List.size_toArray, ← hl]
      exact Option.some.inj h1
    exact subscriptTail_builtinR (x := w) pl.isList.typeIs slot_list_getitem.lookup
      (wpAny_getItem_list_neg (Q := fun r s' => r = w ∧ EP X pins σ Q r s') pl.isList (by omega) (by rw [List.size_toArray] <;> omega) (by omega) (by rw [hj]; simpa using ew) ⟨rfl, fin⟩) hs
theorem ix_tup : IxR X (rIxT X.K) := by
  intro value slice pins s σ H x y v u Q I rx ry h hs
  obtain ⟨p, xs, i, z, rfl, rfl, hq, he, q⟩ := h
  cases rx
  obtain ⟨t, rfl⟩ := ry
  obtain ⟨its, r, pl, hz⟩ := I.tuple hq
  obtain ⟨j, h1, h2, h3, h4, h5⟩ := atI_get he
  obtain ⟨w, ew, rw'⟩ := r.get h2
  have hl := r.length
  have hn := line63
  have fin : EP X pins σ Q w s := ⟨z, H, I, rw', q⟩
  exact subscriptTail_builtinR (x := w) pl.typeIs slot_tuple_getitem.lookup
    (getItem_tuple (j := j) (Q := fun r s' => r = w ∧ EP X pins σ Q r s') pl (by omega) (by omega) (by rw [List.size_toArray, ← hl]; exact h1) (by simpa using ew) ⟨rfl, fin⟩) hs

/-! ### xs[i] = v, any sign -/
/-- the list's object behind a store -/
theorem mapSeq_set (its : List Value) (n j : Nat) (u : Value) : Obj.mapSeq (·.setIfInBounds j u) { cls := .type "list", data := .seq its.toArray n } = { cls := .type "list", data := .seq (its.set j u).toArray n } := by
  simp [Obj.mapSeq]
theorem Inv.lst {pins : List (Addr × Obj)} {σ : St} {H : Hp} {s : Shared} {p : Addr} {xs : List V} (I : Inv X pins σ H s) (h : H p = some (.lst xs)) :
    ∃ (its : List Value) (n : Nat), Vals xs its ∧ s.heap.get? p = some { cls := .type "list", data := .seq its.toArray n } ∧ xs.length ≤ sizeLine := by
  obtain ⟨z, its, n, r, e⟩ := I.hok p _ h
  exact ⟨its, n, r, e, z⟩
/-- the list at p is written by an update of its object -/
theorem Inv.lstUpd {pins : List (Addr × Obj)} {σ : St} {H : Hp} {s : Shared} {p : Addr} {xs ys : List V} {its its' : List Value} {n n' : Nat} {f : Obj → Obj} (I : Inv X pins σ H s) (h : H p = some (.lst xs))
    (ho : s.heap.get? p = some { cls := .type "list", data := .seq its.toArray n }) (hf : f { cls := .type "list", data := .seq its.toArray n } = { cls := .type "list", data := .seq its'.toArray n' }) (r : Vals ys its') (hz : ys.length ≤ sizeLine) (t : Nat) :
    Inv X pins σ (upd H p (.lst ys)) { s with heap := s.heap.update p f, toks := t } := by
  have e : (s.heap.update p f).get? p = some { cls := .type "list", data := .seq its'.toArray n' } := by
    rw [Heap.get?_update_self f ho (by rw [hf] <;> rfl), hf]
  refine I.write (x := p) (e := p) (by rw [h]; trivial) (.inl rfl) (fun b u hb q => (Heap.get?_update_other _ _ (Ne.symm hb)).trans q) ⟨_, e⟩ ?_
  exact ⟨hz, its', n', r, e⟩
def rSetL : V → V → V → Hp → (Hp → Prop) → Prop := fun o i v H Q => ∃ p xs k j, o = .ref p ∧ i = .int k ∧ H p = some (.lst xs) ∧ ixN xs.length k = some j ∧ Q (upd H p (.lst (xs.set j v)))
theorem set_list : PSet X rSetL := by
  intro pins s σ H o i v ov iv u Q I ro ri rv h
  obtain ⟨p, xs, k, j, rfl, rfl, hp, hj, q⟩ := h
  cases ro
  obtain ⟨t, rfl⟩ := ri
  obtain ⟨its, n, r, ho, hz⟩ := I.lst hp
  obtain ⟨h1, h2, h3, h4⟩ := ixN_seq hj
  have hl := r.length
  have hn := line63
  have I' : Inv X pins σ (upd H p (.lst (xs.set j v))) { s with heap := s.heap.update p (Obj.mapSeq (·.setIfInBounds j u)) } :=
    I.lstUpd hp ho (mapSeq_set its n j u) (r.set rv j) (by rw [List.length_set]; exact hz) s.toks
  by_cases h0 : 0 ≤ k
  · have hk : k.toNat = j := by
      rw [seqIndex_of h0 h4] at h1
      exact Option.some.inj h1
    exact PySem.W.ki_setAt ho h0 (by omega) (by rw [List.size_toArray, ← hl]; exact h4) (by rw [hk]; exact ⟨_, I', q⟩)
  · have hk : (k + (its.toArray.size : Int)).toNat = j := by
      rw [seqIndex_neg (by omega) h3] at h1
      rw [List.size_toArray, ← hl]
      exact Option.some.inj h1
    exact PySem.W.ki_setBack ho (by omega) (by rw [List.size_toArray, ← hl]; exact h3) (by omega) (by rw [hk]; exact ⟨_, I', q⟩)

/-! ### slices -/
theorem slice_bounds (lo hi : Option Int) (n : Nat) : (sliceBounds lo hi none n).1 = ((HT.sIx n 0 lo : Nat) : Int) ∧ (sliceBounds lo hi none n).2.1 = ((HT.sIx n n hi : Nat) : Int) ∧ (sliceBounds lo hi none n).2.2 = 1 := by
  refine ⟨?_, ?_, rfl⟩
  · cases lo with
    | none => simp [sliceBounds, HT.sIx]
    | some i =>
      simp only [sliceBounds, HT.sIx, Option.getD_none, show (1 : Int) > 0 by decide, if_true]
      by_cases h : i < 0
      · simp only [h, if_true] <;> omega
      · simp only [h, if_false] <;> omega
  · cases hi with
    | none => simp [sliceBounds, HT.sIx]
    | some i =>
      simp only [sliceBounds, HT.sIx, Option.getD_none, show (1 : Int) > 0 by decide, if_true]
      by_cases h : i < 0
      · simp only [h, if_true] <;> omega
      · simp only [h, if_false] <;> omega
theorem slicePick_cut (its : List Value) (lo hi : Option Int) : slicePick its.toArray lo hi none = ((its.drop (HT.sIx its.length 0 lo)).take (HT.sIx its.length its.length hi - HT.sIx its.length 0 lo)).toArray := by
  obtain ⟨h1, h2, h3⟩ := slice_bounds lo hi its.toArray.size
  unfold slicePick
  rw [h1, h2, h3]
  simp only [sliceRange_one, pick_run, List.size_toArray] <;> rfl
/-- xs[lo:hi] of a list: a new list -/
def rSlL (K : PySem.W.Frag) : V → Option Int → Option Int → Hp → VK → Prop := fun x lo hi H Q => ∃ a xs, x = .ref a ∧ SqL K H a xs ∧ ∀ p, H p = none → Q (.ref p) (upd H p (.lst (cutV xs lo hi)))
theorem sl_list : SlR X (rSlL X.K) := by
  intro pins s σ H x v vl vu lo hi sl Q I rx hs pl pu h
  obtain ⟨a, xs, rfl, hx, q⟩ := h
  cases rx
  obtain ⟨its, r, ht, hz⟩ := I.list hx
  have hlen := r.length
  refine ⟨"list", _, slot_list_getitem.lookup, ht.isList.typeIs, ?_⟩
  refine wpAny_getItem_list_slice ht.isList hs pl pu .none (by simp) ?_ (by rw [List.size_toArray] <;> omega)
  rw [slicePick_cut, ← hlen]
  refine ⟨.ref s.heap.objs.size, _, I.laid (t' := s.toks) (o := .lst (cutV xs lo hi)) (fun b ob q => Heap.get?_push_of_some _ q) (Nat.le_refl _) ?_, rfl, q _ (I.hok.fresh (Nat.le_refl _))⟩
  exact ⟨Nat.le_trans (cutV_length xs lo hi) hz, _, 0, (r.drop (HT.sIx xs.length 0 lo)).take (HT.sIx xs.length xs.length hi - HT.sIx xs.length 0 lo), Heap.get?_push_size _ rfl⟩

/-! ### in, not in: flat items -/

/-! ### len, list(x), tuple(x) of any list or tuple that is read -/
theorem call_len_seq : CallR X (.builtin "len") (fun xs H Q => ∃ p ys, xs = [.ref p] ∧ (SqL X.K H p ys ∨ SqT X.K H p ys) ∧ Q (.int ys.length) H) := by
  intro pins s σ H xs us Q I r h
  obtain ⟨p, ys, rfl, hq, q⟩ := h
  obtain ⟨u, rfl, rx⟩ := vals1 r
  cases rx
  have hn := line63
  rcases hq with hq | hq
  · obtain ⟨its, r', pl, hz⟩ := I.list hq
    have hlen := r'.length
    exact Calls.call_len_list pl.isList (by simp only [List.size_toArray] <;> omega) ⟨.int ys.length, H, I.tok _, ⟨s.toks + 1, by rw [List.size_toArray, hlen]⟩, q⟩
  · obtain ⟨its, r', pl, hz⟩ := I.tuple hq
    have hlen := r'.length
    exact len_tuple pl (by simp only [List.size_toArray] <;> omega) ⟨.int ys.length, H, I.tok _, ⟨s.toks + 1, by rw [List.size_toArray, hlen]⟩, q⟩
theorem call_list_of : CallR X (.type "list") (fun xs H Q => ∃ p ys, xs = [.ref p] ∧ (SqL X.K H p ys ∨ SqT X.K H p ys) ∧ ∀ l, H l = none → Q (.ref l) (upd H l (.lst ys))) := by
  intro pins s σ H xs us Q I r h
  obtain ⟨p, ys, rfl, hq, q⟩ := h
  obtain ⟨u, rfl, rx⟩ := vals1 r
  cases rx
  have fin : ∀ (its : List Value), Vals ys its → ys.length ≤ sizeLine → ∀ (h' : Heap) (c' : Nat), (∀ b o', s.heap.get? b = some o' → h'.get? b = some o') →
      h'.get? s.heap.objs.size = some { cls := .type "list", dict := none, data := .seq its.toArray c', slots := #[] } → EP X pins σ Q (.ref s.heap.objs.size) { s with heap := h' } := fun its r' hz h' c' kp e =>
    ⟨.ref s.heap.objs.size, _, I.laid (t' := s.toks) kp (Nat.le_refl _) (show ObjOk X.prog X.w _ h' _ (.lst ys) from ⟨hz, its, c', r', e⟩), rfl, q _ (I.hok.fresh (Nat.le_refl _))⟩
  rcases hq with hq | hq
  · obtain ⟨its, r', pl, hz⟩ := I.list hq
    have hlen := r'.length
    obtain ⟨o, ho, hc, n, hd⟩ := pl.isList
    exact call_list_seq p (.inl rfl) ho hc hd (fun h' c' kp e => fin its r' hz h' c' kp e) (by simp only [List.size_toArray] <;> omega)
  · obtain ⟨its, r', pl, hz⟩ := I.tuple hq
    have hlen := r'.length
    obtain ⟨o, ho, hc, n, hd⟩ := pl
    exact call_list_seq p (.inr rfl) ho hc hd (fun h' c' kp e => fin its r' hz h' c' kp e) (by simp only [List.size_toArray] <;> omega)
theorem call_tuple_of : CallR X (.type "tuple") (fun xs H Q => ∃ p ys, xs = [.ref p] ∧ ((SqL X.K H p ys ∧ ∀ l, H l = none → Q (.ref l) (upd H l (.tup ys))) ∨ (SqT X.K H p ys ∧ Q (.ref p) H))) := by
  intro pins s σ H xs us Q I r h
  obtain ⟨p, ys, rfl, h⟩ := h
  obtain ⟨u, rfl, rx⟩ := vals1 r
  cases rx
  rcases h with ⟨hq, q⟩ | ⟨hq, q⟩
  · obtain ⟨its, r', pl, hz⟩ := I.list hq
    have hlen := r'.length
    refine call_tuple_list pl.isList (fun h' kp => ?_) (by simp only [List.size_toArray] <;> omega)
    have I1 : Inv X pins σ H { s with heap := h' } := I.kept (t' := s.toks) kp
    have I2 : Inv X pins σ (upd H h'.objs.size (.tup ys)) { s with heap := h'.push { cls := .type "tuple", data := .seq its.toArray } } :=
      I1.laid (t' := s.toks) (fun b o e => Heap.get?_push_of_some _ e) (Nat.le_refl _) (show ObjOk X.prog X.w _ _ _ (.tup ys) from ⟨hz, its, r', IsTup.new _ _⟩)
    exact ⟨.ref h'.objs.size, _, I2, rfl, q _ (I1.hok.fresh (Nat.le_refl _))⟩
  · obtain ⟨its, r', pl, hz⟩ := I.tuple hq
    exact call_tuple_same pl ⟨.ref p, H, I, rfl, q⟩

/-! ### the call of a builtin's method: o.m(..) -/
/-- the value is of that builtin type -/
def tyV (K : PySem.W.Frag) (T : String) (x : V) (H : Hp) : Prop := match x with
  | .str _ => T = "str"
  | .int _ => T = "int"
  | .ref p => (T = "list" ∧ ∃ xs, SqL K H p xs) ∨ (T = "tuple" ∧ ∃ o, K.lookup p = some o ∧ o.cls = .type "tuple" ∧ o.dict = none) ∨
      (T = "dict" ∧ ((∃ kvs, H p = some (.dK kvs)) ∨ ∃ kvs, H p = some (.dT kvs))) ∨ (T = "set" ∧ ∃ S n, H p = some (.set S n))
  | _ => False
theorem tyV_is {pins : List (Addr × Obj)} {σ : St} {H : Hp} {s : Shared} {T : String} {x : V} {v : Value} (I : Inv X pins σ H s) (r : RelV x v) (ty : tyV X.K T x H) :
    s.TypeIs v T ∧ ∀ a, v = .ref a → ∃ ob, s.heap.get? a = some ob ∧ ob.dict = none := by
  cases x with
  | str z =>
    obtain ⟨t, rfl⟩ := r
    cases (show T = "str" from ty)
    exact ⟨typeIs_str s z t, fun _ e => nomatch e⟩
  | int i =>
    obtain ⟨t, rfl⟩ := r
    cases (show T = "int" from ty)
    exact ⟨typeIs_int s i t, fun _ e => nomatch e⟩
  | ref p =>
    cases r
    rcases ty with ⟨rfl, xs, hq⟩ | ⟨rfl, o, hk, hc, hd⟩ | ⟨rfl, hk⟩ | ⟨rfl, S, n, hk⟩
    · obtain ⟨its, _, pl, _⟩ := I.list hq
      refine ⟨pl.isList.typeIs, fun a e => ?_⟩
      cases e
      obtain ⟨o, n, e, c, hd, _⟩ := pl
      exact ⟨o, e, hd⟩
    · refine ⟨⟨o, I.kIn p o hk, hc⟩, fun a e => ?_⟩
      cases e
      exact ⟨o, I.kIn _ o hk, hd⟩
    · have z : ∃ o, s.heap.get? p = some o ∧ o.ExactDict := by
        rcases hk with ⟨kvs, hk⟩ | ⟨kvs, hk⟩
        · obtain ⟨_, _, _, _, o, _, _, e, ex, _⟩ := I.hok p _ hk
          exact ⟨o, e, ex⟩
        · obtain ⟨_, _, _, _, o, _, _, e, ex, _⟩ := I.hok p _ hk
          exact ⟨o, e, ex⟩
      obtain ⟨o, e, ex⟩ := z
      refine ⟨⟨o, e, ex.1⟩, fun a e2 => ?_⟩
      cases e2
      exact ⟨o, e, ex.2.1⟩
    · obtain ⟨o, _, _, _, e, ex, _⟩ := I.hok p _ hk
      refine ⟨⟨o, e, ex.1⟩, fun a e2 => ?_⟩
      cases e2
      exact ⟨o, e, ex.2.1⟩
  | _ => exact False.elim ty
def tBM (K : PySem.W.Frag) (T : String) (r : V → List V → Hp → VK → Prop) (to : TE) (t : TA) : TE := fun σ H Q => to σ H fun x H1 => tyV K T x H1 ∧ t σ H1 fun xs H2 => r x xs H2 Q
variable {o e : Expr} {es : List Expr} {to : TE} {t : TA} {name : Str} {apos cpos : Pos} {T id : String} {r : V → List V → Hp → VK → Prop}
theorem pe_bm (pa : PlainAttrs T) (slot : Slot T name id) (hty : typeOf (.builtin id) = pure (.type "method_descriptor")) (hm : MtR X id r) (ho : PE X o to) (ha : PA X (e :: es) t)
    (hbase : attributeBase o name X.env (eval o X.env) = eval o X.env := by rfl)
    (hfew : ((backTo cpos (starEach (e :: es) X.env)).all (fun x => !x.1) && (backToKw cpos (keywordEach [] X.env)).all (fun x => x.1.isSome)
      && decide ((e :: es).length + ([] : List Keyword).length + (if ([] : List Keyword).isEmpty then 0 else 1) < 30)) = true := by rfl)
    (hline : (apos.endLine == cpos.line) = true := by rfl) (hs : starEach (e :: es) X.env = (false, eval e X.env) :: starEach es X.env := by rfl) (hplain : (backTo cpos (starEach es X.env)).any (·.1) = false := by rfl) :
    PE X (.Call (.Attribute o name apos) (e :: es) [] cpos) (tBM X.K T r to t) := by
  intro pins s σ H Q I h
  refine wpAny_Call_method_late hbase hfew hline rfl (thn (ho pins s σ H _ I h) fun v s1 ⟨x, H1, I1, r1, ty, q1⟩ => ?_)
  obtain ⟨h1, h2⟩ := tyV_is I1 r1 ty
  refine ⟨T, id, pa, slot, hty, h1, h2, ?_⟩
  have hA := ha cpos pins s1 σ H1 _ I1 q1
  rw [hs] at hA ⊢
  refine Calls.callWith_builtin (by show (false || (backTo cpos (starEach es X.env)).any (·.1)) = false; rw [hplain] <;> rfl) (Calls.evalArgs_plain ?_)
  exact thn hA fun us s2 ⟨vs, H2, I2, r2, q2⟩ => hm pins s2 σ H2 x vs v us Q I2 r1 r2 q2
/- xs.append(e), list.index on a module's tuple .. are MtR facts of 06m -/
end
end L2

namespace L2
open PySem PySem.Spec PyProof.Rows

def MtM (X : Cx) (id : String) (r : V → List V → Hp → VK → Prop) : Prop :=
  ∀ (pins : List (Addr × Obj)) (s : Shared) (σ : St) (H : Hp) (x : V) (xs : List V) (v : Value) (us : List Value) (Q : VK), Inv X pins σ H s → RelV x v → Vals xs us → r x xs H Q →
    wpAny (model X.prog X.w) X.A (call (.builtin id) (v :: us)) (EP X pins σ Q) X.xe s

/-! ### lists of values -/
theorem Vals.one : ∀ {x : V} {us : List Value}, Vals [x] us → ∃ u, us = [u] ∧ RelV x u
  | _, _, .cons r .nil => ⟨_, rfl, r⟩
theorem Vals.rep {xs : List V} {us : List Value} (h : Vals xs us) : ∀ k : Nat, Vals (List.replicate k xs).flatten (List.replicate k us).flatten
  | 0 => .nil
  | k + 1 => by
    rw [List.replicate_succ, List.replicate_succ, List.flatten_cons, List.flatten_cons]
    exact Vals.append h (Vals.rep h k)
theorem foldl_rep (its : List Value) : ∀ (k : Nat) (acc : List Value),
    List.foldl (fun x1 x2 => x1 ++ x2) acc.toArray (List.replicate k its.toArray) = (acc ++ (List.replicate k its).flatten).toArray
  | 0, acc => by simp
  | k + 1, acc => by
    have e : acc.toArray ++ its.toArray = (acc ++ its).toArray := by simp
    have e2 : (acc ++ its) ++ (List.replicate k its).flatten = acc ++ (List.replicate (k + 1) its).flatten := by
      rw [List.replicate_succ, List.flatten_cons, List.append_assoc]
    rw [← e2, ← foldl_rep its k (acc ++ its), ← e, List.replicate_succ, List.foldl_cons]

section
variable {X : Cx} {pins : List (Addr × Obj)} {σ : St} {H : Hp} {s : Shared} {l b : Addr} {xs ys zs : List V}

/-! ### the two steps: a tracked list is rewritten, a new list is laid -/
theorem Inv.lset {its its' : List Value} {n : Nat} {f : Array Value → Array Value} {t' : Nat} (I : Inv X pins σ H s) (hH : H l = some (.lst xs))
    (e : s.heap.get? l = some { cls := .type "list", data := .seq its.toArray n }) (hf : f its.toArray = its'.toArray) (hv : Vals ys its') (hz : ys.length ≤ sizeLine) :
    Inv X pins σ (upd H l (.lst ys)) { s with heap := s.heap.update l (Obj.mapSeq f), toks := t' } := by
  have q := PySem.IsL.update e f
  rw [hf] at q
  refine I.write (x := l) (e := l) (by rw [hH]; exact trivial) (.inl rfl) (fun b' u hb hu => (Heap.get?_update_other s.heap (Obj.mapSeq f) (Ne.symm hb)).trans hu) ⟨_, q⟩ ?_
  exact ⟨hz, its', _, hv, q⟩
theorem Inv.lnew {its : List Value} {t' : Nat} (I : Inv X pins σ H s) (hv : Vals ys its) (hz : ys.length ≤ sizeLine) :
    Inv X pins σ (upd H s.heap.objs.size (.lst ys)) { s with heap := s.heap.push { cls := .type "list", data := .seq its.toArray }, toks := t' } :=
  I.laid (fun _ _ q => Heap.get?_push_of_some _ q) (Nat.le_refl _) ⟨hz, its, 0, hv, Heap.get?_push_size _ rfl⟩
theorem Inv.fresh (I : Inv X pins σ H s) : H s.heap.objs.size = none := I.hok.fresh (Nat.le_refl _)
theorem Inv.lstM (I : Inv X pins σ H s) (hH : H l = some (.lst xs)) : xs.length ≤ sizeLine ∧ ∃ (its : List Value) (n : Nat), Vals xs its ∧ xs.length = its.length ∧ s.heap.get? l = some { cls := .type "list", data := .seq its.toArray n } := by
  obtain ⟨z, its, n, r, e⟩ := I.hok l _ hH
  exact ⟨z, its, n, r, r.length, e⟩

theorem notLongL {n : Nat} (h : n ≤ sizeLine) : Builtin.List.listTooLong n = false := by
  unfold Builtin.List.listTooLong
  exact decide_eq_false (by omega)
end

section
variable {X : Cx}

/-! ### methods -/
def rAppend : V → List V → Hp → VK → Prop := fun x vs H Q => ∃ l xs y, x = .ref l ∧ vs = [y] ∧ H l = some (.lst xs) ∧ xs.length < sizeLine ∧ Q .non (upd H l (.lst (xs ++ [y])))
theorem mt_append : MtM X "list.append" rAppend := by
  intro pins s σ H x vs v us Q I rx rv h
  obtain ⟨l, xs, y, rfl, rfl, hH, hz, q⟩ := h
  cases rx
  obtain ⟨u, rfl, ru⟩ := rv.one
  obtain ⟨z, its, n, r, hl, e⟩ := I.lstM hH
  refine call_meets F.slot_list_append ⟨_, e, rfl⟩ F.entry_list_append (F.args_list_append_2 _ _) (PySem.list_append l its.toArray n u (by rw [List.size_toArray]; omega)) ⟨e, ?_⟩
  refine ⟨.non, _, I.lset (its' := its ++ [u]) hH e (by simp) (r.append (.cons ru .nil)) ?_, rfl, q⟩
  rw [List.length_append, List.length_singleton]
  omega

def rExtend : V → List V → Hp → VK → Prop := fun x vs H Q => ∃ l b xs zs, x = .ref l ∧ vs = [.ref b] ∧ H l = some (.lst xs) ∧ H b = some (.lst zs) ∧ xs.length + zs.length ≤ sizeLine ∧ Q .non (upd H l (.lst (xs ++ zs)))
theorem mt_extend : MtM X "list.extend" rExtend := by
  intro pins s σ H x vs v us Q I rx rv h
  obtain ⟨l, b, xs, zs, rfl, rfl, hH, hB, hz, q⟩ := h
  cases rx
  obtain ⟨u, rfl, ru⟩ := rv.one
  cases ru
  obtain ⟨z, its, n, r, hl, e⟩ := I.lstM hH
  obtain ⟨z2, its2, n2, r2, hl2, e2⟩ := I.lstM hB
  have hsz : its.toArray.size + its2.toArray.size ≤ sizeLine := by rw [List.size_toArray, List.size_toArray]; omega
  have hlong : ¬ (!its.toArray.isEmpty && Builtin.List.listTooLong (its.toArray.size + its2.toArray.size)) = true := by
    rw [notLongL hsz, Bool.and_false]
    exact Bool.false_ne_true
  refine call_meets F.slot_list_extend ⟨_, e, rfl⟩ F.entry_list_extend (F.args_list_extend_2 _ _)
    (AutoSeq1.list_extend_list_list_0 l its.toArray n b its2.toArray n2 hlong (by rw [List.size_toArray]; omega) (by omega)) ⟨e, e2, ?_⟩
  refine ⟨.non, _, I.lset (its' := its ++ its2) hH e (by simp) (r.append r2) ?_, rfl, q⟩
  rw [List.length_append]
  omega





/-! ### list + list, list += list, list * int -/
def rCat : R2 := fun x y H Q => ∃ l b xs zs, x = .ref l ∧ y = .ref b ∧ H l = some (.lst xs) ∧ H b = some (.lst zs) ∧ xs.length + zs.length ≤ sizeLine ∧ ∀ p, H p = none → Q (.ref p) (upd H p (.lst (xs ++ zs)))
theorem op_cat : OpR X (binaryOp .Add) rCat := by
  intro pins s σ H x y v u Q I rx ry h
  obtain ⟨l, b, xs, zs, rfl, rfl, hH, hB, hz, q⟩ := h
  cases rx
  cases ry
  obtain ⟨z, its, n, r, hl, e⟩ := I.lstM hH
  obtain ⟨z2, its2, n2, r2, hl2, e2⟩ := I.lstM hB
  refine PySem.P.add_list e e2 ?_ (by rw [List.size_toArray, List.size_toArray]; omega)
  have ea : its.toArray ++ its2.toArray = (its ++ its2).toArray := by simp
  rw [ea]
  exact ⟨.ref _, _, I.lnew (t' := s.toks) (r.append r2) (by rw [List.length_append]; omega), rfl, q _ I.fresh⟩
/-- a list times an int (a negative one is nothing) -/
def rRep : R2 := fun x y H Q => ∃ l k xs, x = .ref l ∧ y = .int k ∧ H l = some (.lst xs) ∧ -(2 ^ 63) ≤ k ∧ k < 2 ^ 63 ∧ xs.length * k.toNat ≤ sizeLine ∧
  ∀ p, H p = none → Q (.ref p) (upd H p (.lst (List.replicate k.toNat xs).flatten))
theorem len_rep {α : Type} (xs : List α) (k : Nat) : (List.replicate k xs).flatten.length = k * xs.length := by
  induction k with
  | zero => simp
  | succ k ih => rw [List.replicate_succ, List.flatten_cons, List.length_append, ih, Nat.succ_mul, Nat.add_comm]
theorem op_rep : OpR X (binaryOp .Mult) rRep := by
  intro pins s σ H x y v u Q I rx ry h
  obtain ⟨l, k, xs, rfl, rfl, hH, h1, h2, hz, q⟩ := h
  cases rx
  obtain ⟨t, rfl⟩ := ry
  obtain ⟨z, its, n, r, hl, e⟩ := I.lstM hH
  have hlen : its.toArray.size * k.toNat ≤ sizeLine := by rw [List.size_toArray, ← hl]; exact hz
  have hcap : ¬ its.toArray.size * k.toNat > (2 ^ 63 - 1) / 8 := by
    have : (sizeLine : Nat) ≤ (2 ^ 63 - 1) / 8 := by decide
    omega
  have hfit : ¬ (!Builtin.List.listFitsIndex k) = true := by
    rw [fitsIndex_both h1 h2]
    exact Bool.false_ne_true
  have hlong : ¬ Builtin.List.listTooLong (its.toArray.size * k.toNat) = true := by
    rw [notLongL hlen]
    exact Bool.false_ne_true
  have hnew : List.foldl (fun x1 x2 => x1 ++ x2) #[] (List.replicate (if its.toArray.isEmpty = true then 0 else k.toNat) its.toArray) = (List.replicate k.toNat its).flatten.toArray := by
    have f0 : ∀ m : Nat, List.foldl (fun x1 x2 => x1 ++ x2) #[] (List.replicate m its.toArray) = (List.replicate m its).flatten.toArray := fun m => by
      have := foldl_rep its m []
      rw [List.nil_append] at this
      exact this
    rw [f0]
    cases its with
    | nil => simp
    | cons a r' => rw [if_neg (by simp)]
  refine wpAny_binaryOp_repeat_ref (T := "list") (U := "int") (by decide) ⟨_, e, rfl⟩ (fun s' => typeIs_int s' k t) noFill_list_mul F.fills_int_mul F.slot_int_rmul repeat_list F.slot_int_index.lookup
    (call_meets F.slot_int_rmul (typeIs_int s k t) F.entry_int_rmul (F.args_int_rmul_2 _ _) (int___rmul___int_list k t l its.toArray n)
      ⟨e, rfl, ⟨_, e, rfl⟩, call_meets F.slot_list_mul ⟨_, e, rfl⟩ F.entry_list_mul (F.args_list_mul_2 _ _) (AutoListH.list___mul___list_int_3 l its.toArray n k t hfit hcap hlong) ⟨e, ?_⟩⟩)
  rw [hnew]
  exact ⟨.ref _, _, I.lnew (t' := s.toks) (r.rep k.toNat) (by rw [len_rep, Nat.mul_comm]; exact hz), rfl, q _ I.fresh⟩

/-! ### del xs[i] -/
end

/-! ### xs[a:b] = ys -/
section
variable {prog : Program} {w : World} {A : Around} {E : Value → Shared → Prop} {s : Shared}
set_option maxRecDepth 100000 in
end

section
variable {X : Cx}
end
end L2

namespace Att
open PySem PySem.W PySem.Calls PyProof.Rows

/-! ### the script -/
theorem ints_of_wellAll {P : Params} {h : Heap} : ∀ (ns : List Int) (vs : List Value), WellAll P h vs (ns.map WData.int) → IntsAre vs ns := by
  intro ns
  induction ns with
  | nil =>
    intro vs w
    rw [List.map_nil] at w
    cases w
    exact .nil
  | cons n ns ih =>
    intro vs w
    rw [List.map_cons] at w
    cases w with
    | cons a b =>
      cases a
      exact .cons _ _ (ih _ b)

theorem script_of {l : OpenLaw} {n : Nat} (hn : l.most = some n) {P : Params} {h : Heap} {args : List WData} {vals : List Value}
    (hpre : l.row.toRowW.claim.pre args = true) (hwl : WellAll P h vals args) :
    ∃ a vs ns, vals = [Value.ref a] ∧ args = [WData.list (ns.map WData.int)] ∧ h.get? a = some { cls := .type "list", data := .seq vs.toArray } ∧ IntsAre vs ns ∧ ns.length ≤ n := by
  have hsh : WShape.hasAll [] args [.list .int] = true := (pre_splitW hpre).1
  have hc : l.pre.holds [] { args := args } = true := (pre_splitW hpre).2
  obtain ⟨d, r, rfl, h1, h2⟩ := hasAllW_cons hsh
  obtain rfl := hasAllW_nil h2
  obtain ⟨xs, rfl, h3⟩ := hasW_list h1
  obtain ⟨ns, rfl⟩ := items_int h3
  have hlen : ns.length ≤ n := by
    unfold OpenLaw.pre at hc
    have h4 : (WTm.not (.lt (.lit (.int (n : Int))) (.len (.arg 0)))).holds [] { args := [.list (ns.map .int)] } = true := by
      have h4 := (holds_andW hc).1
      rw [hn] at h4
      exact h4
    have h5 := condW_of h4 (w_not (w_lt w_lit (w_len_list (w_arg rfl))))
    rw [List.length_map] at h5
    refine Nat.le_of_not_lt fun q => ?_
    have q' : (n : Int) < ((ns.length : Nat) : Int) := by omega
    first
      | (rw [decide_eq_true q'] at h5; exact absurd h5 (by decide))
      | (simp at h5; omega)
  cases hwl with
  | cons w1 w2 =>
    cases w2
    cases w1 with
    | list ho hall => exact ⟨_, _, ns, rfl, rfl, ho, ints_of_wellAll ns _ hall, hlen⟩

theorem post_true (l : OpenLaw) (args : List WData) : l.row.toRowW.claim.post args (.bool true) args = true :=
  postW_of (r := l.row.toRowW) (X := (true == true))
    (show WShape.has [] (.bool true) .bool = true by first | rfl | decide | simp [WShape.has, WShape.arms, WShape.armsAll])
    (show (WTm.eq .res (.lit (.bool true))).value [] { args := args, res := some (.bool true), after := args } = some (.bool (true == true)) from w_eq_bool (w_res rfl) w_lit) rfl

/-! ### the attachment: holds_open's last premise (the goal 'hc' behind k_head) from a wpAny of the law's body -/

/-- the same from a codeAny of the CALL (for a layer whose function contracts speak of calls) -/
theorem attach_call {l : OpenLaw} {n : Nat} {q : Program} {loose : List Str} {XP : (Str → Option Value) → Heap → Prop} {YP : World → Heap → Prop} {d : DefRec}
    (hn : l.most = some n) (hdf : d.params.defaults = [])
    (call : ∀ (w : World) (s₀ s₁ : Shared) (mg mb : Str → Option Value) (fa : Addr) (o : Obj) (pm cd doc : Value) (a : Addr) (vs : List Value) (ns : List Int),
      Ground q loose [] XP w s₀ mg mb s₁.heap → YP w s₁.heap →
      s₁.heap.get? fa = some o → o.data = .func (docDef d.name d.params d.body d.scope pm cd doc) → s₁.heap.CodeRec cd d.name → mg d.name = some (.ref fa) →
      s₁.heap.get? a = some { cls := .type "list", data := .seq vs.toArray } → IntsAre vs ns → ns.length ≤ n → s₁.gens = #[] →
      codeAny (model l.prog w) callerA (.call (.ref fa) ⟨[.ref a], []⟩) (fun r s' => r = .ok (.ret (.bool true)) ∧ OldK s₁.heap s'.heap ∧ s'.os = s₁.os ∧ AllBare s'.gens) s₁) :
    WalkO q loose XP YP l.row.toRowW d [] (fun f vs => PySem.call f vs) := by
  intro w s₀ s₁ mg mb G Y fa o pm cd doc dV kV ho hd hcd hD hmg hg args vals as hpre hlay hrd hwl hlo
  obtain rfl : dV = .none := Dflts.none hD hdf
  obtain rfl : kV = .none := Dflts.noKw hD
  obtain ⟨a, vs, ns, rfl, rfl, hobj, hints, hlen⟩ := script_of hn hpre hwl
  refine enter_call (codeAny_mono (call w s₀ s₁ mg mb fa o pm cd doc a vs ns G Y ho (fd_plain hd) hcd hmg hobj hints hlen hg) fun r s' hq => ?_)
  obtain ⟨rfl, h2, h3, h4⟩ := hq
  exact ⟨.inl ⟨.bool true, .bool true, [], rfl, fun _ => rfl, .bool true, post_true l _, fun _ => ⟨List.Pairwise.nil, fun _ hm => (nomatch hm)⟩⟩, h2, h3, h4⟩


/-! ### rules over ANY heap (no ledger) from facts about the written part K: the library's own take a ledger (News) for what they write -/
section
variable {prog : Program} {w : World} {A : Around} {E : Value → Shared → Prop} {s : Shared} {K : Frag}





/-! the whole heap as the ledger: makes every rule that writes through a ledger a rule over any heap -/

end
end Att

namespace L2
open PySem PySem.Spec PyProof.Rows

theorem vals_ints : ∀ {vs : List Value} {ns : List Int}, IntsAre vs ns → Vals (ns.map V.int) vs
  | _, _, .nil => .nil
  | _, _, .cons n t h => .cons ⟨t, rfl⟩ (vals_ints h)

/-- nothing is tracked but the script, known to the object (or it is an object of the module) -/
def Only (H : Hp) : Prop := ∀ b, H b = none ∨ ∃ o xs, H b = some (.frz o (.lst xs))

/-- THE HEAD: the law's promise, at the heap behind the top. F, the promise of the law's def, may use that base is part of the heap (so K.In base, base.Ns mainGlobals mg stand in Mod) -/
theorem law_call {P : Program} {w : World} {K : PySem.W.Frag} {mg mb : Str → Option Value} {CX : CXT} {k : Nat} {fa a : Addr} {fd : FuncData} {x : Str} {sp : Sp} {s₁ : Shared} {vs : List Value} {ns : List Int}
    (KX : K.In s₁.heap) (hns : s₁.heap.Ns mainGlobals mg) (hb : s₁.heap.Ns builtinsNs mb) (hbb : ∀ x : Str, x ≠ "__name__" → mb x = bootBuiltins x) (hlim : s₁.heap.NoLimit) (hg : s₁.gens = #[])
    (ha : s₁.heap.get? a = some { cls := .type "list", data := .seq vs.toArray }) (hi : IntsAre vs ns) (hl : ns.length ≤ sizeLine) (hr : Room k callerA)
    (F : ∀ base : Heap, K.In base → base.Ns mainGlobals mg → FnOk P w K mg base CX k fa fd [x] sp) (hbind : ∀ (s : Shared) (u : Value), BindsTo s fd ⟨[u], []⟩ [(x, u)])
    (hsp : ∀ H : Hp, Only H → SqL K H a (ns.map V.int) → sp [.ref a] H (fun v _ => v = .bl true) fun _ _ _ => False)
    (hCX : ∀ H e s', CX [] H s₁ (fun _ _ _ => False) e s' → False) :
    codeAny (model P w) callerA (.call (.ref fa) ⟨[.ref a], []⟩) (fun r s' => r = .ok (.ret (.bool true)) ∧ OldK s₁.heap s'.heap ∧ s'.os = s₁.os ∧ AllBare s'.gens) s₁ := by
  have rv := vals_ints hi
  have lenV := hi.length
  -- from an abstract heap in which nothing but the script may be tracked
  have core : ∀ H : Hp, Only H → SqL K H a (ns.map V.int) → HOk P w H s₁.heap → (∀ b, H b ≠ none → b = a) → (H a ≠ none → K.lookup a = none) →
      codeAny (model P w) callerA (.call (.ref fa) ⟨[.ref a], []⟩) (fun r s' => r = .ok (.ret (.bool true)) ∧ OldK s₁.heap s'.heap ∧ s'.os = s₁.os ∧ AllBare s'.gens) s₁ := by
    intro H hO hS hok hA hK
    have base_of : ∀ {b : Addr} {o : Obj}, s₁.heap.get? b = some o → H b = none → (hidT s₁.heap H).get? b = some o := fun e n => hidT_get e n
    have noA : ∀ {b : Addr} {o : Obj} {es : Array DictEntry} {ep : Nat}, s₁.heap.get? b = some o → o.data = .dict es ep → H b = none := fun {b o es ep} e d => by
      cases q : H b with
      | none => rfl
      | some u =>
        have e' : b = a := hA b (by rw [q]; simp)
        subst e'
        rw [ha] at e; cases e
        have d' : Data.seq vs.toArray _ = Data.dict es ep := d
        cases d'
    have nsK : ∀ {b : Addr} {m : Str → Option Value}, s₁.heap.Ns b m → (hidT s₁.heap H).Ns b m := fun {b m} ⟨o, es, ep, e, d, r⟩ => ⟨o, es, ep, base_of e (noA e d), d, r⟩
    have hKb : K.In (hidT s₁.heap H) := fun b o e => base_of (KX b o e) (by
      cases q : H b with
      | none => rfl
      | some u =>
        have e' : b = a := hA b (by rw [q]; simp)
        subst e'
        rw [hK (by rw [q]; simp)] at e; cases e)
    have hM : Mod K mg (hidT s₁.heap H) := ⟨hKb, nsK hns, ⟨mb, nsK hb, hbb⟩, let ⟨mc, h1, h2⟩ := hlim; ⟨mc, nsK h1, h2⟩⟩
    have e0 : Env0 P w K mg (hidT s₁.heap H) callerA [] s₁ H := ⟨rfl, hM, fun b o e => of_hidT e, Nat.le_of_eq (hidT_size _ _), trivial, fun b hb => absurd (show b ∈ ([] : List Addr) from hb) (by simp), hok, .of_eq hg⟩
    refine codeAny_mono ((F _ hKb (nsK hns)).run callerA [] s₁ H ⟨[.ref a], []⟩ [.ref a] [.ref a] _ _ hr e0 (hbind s₁ (.ref a)) (.cons rfl .nil) (hsp H hO hS)) fun r s' h => ?_
    cases r with
    | error e => exact (hCX H e s' h).elim
    | ok fl =>
      cases fl with
      | next => exact False.elim h
      | brk => exact False.elim h
      | cont => exact False.elim h
      | ret u =>
        obtain ⟨v, H', os, bare, un, hok', r', q⟩ := h
        have q' : v = .bl true := q
        subst q'
        obtain rfl : u = Value.bool true := r'
        refine ⟨rfl, OldK.of_keep fun b o e => ?_, os, bare⟩
        cases q : H b with
        | none => exact un.keep b o e q (by intro z; exact absurd (show b ∈ ([] : List Addr) from z) (by simp)) (by simp)
        | some u =>
          rcases hO b with z | ⟨ob, xs, z⟩
          · rw [q] at z; cases z
          · have z2 := un.frzs b ob _ z
            obtain ⟨e1, _⟩ := hok b _ z
            obtain ⟨e2, _⟩ := hok' b _ z2
            rw [e] at e1; cases e1
            exact e2
  cases hk : K.lookup a with
  | some o =>
    -- the script is one of the module's own objects
    have e := KX a o hk
    rw [ha] at e
    cases e
    refine core (fun _ => none) (fun _ => .inl rfl) (.inr ⟨_, vs.toArray, _, hk, rfl, rfl, rfl, by rw [List.size_toArray, lenV]; exact hl, by simpa using rv⟩) (fun b u z => by have z' : (none : Option HO) = some u := z; cases z') (fun b z => absurd rfl z) fun z => absurd rfl z
  | none =>
    refine core (fun b => if b = a then some (.frz { cls := .type "list", data := .seq vs.toArray } (.lst (ns.map V.int))) else none) (fun b => ?_) (.inl (.inr ⟨{ cls := .type "list", data := .seq vs.toArray }, if_pos rfl⟩)) (fun b u z => ?_) (fun b z => ?_) fun _ => hk
    · by_cases hb : b = a
      · exact .inr ⟨_, _, if_pos hb⟩
      · exact .inl (if_neg hb)
    · by_cases hb : b = a
      · have z' := (if_pos hb).symm.trans z
        cases z'
        subst hb
        exact ⟨ha, by rw [List.length_map]; exact hl, vs, _, rv, ha⟩
      · have z' := (if_neg hb).symm.trans z
        cases z'
    · by_cases hb : b = a
      · exact hb
      · exact absurd (if_neg hb) z
end L2

namespace L2
open PySem PySem.Spec PyProof.Rows


/-- the goal that k_head leaves (case hc), from the law's promise. F gives the function object fd (K's own) once, then the promise over every base -/
theorem walk_of {l : PySem.W.OpenLaw} {n k : Nat} {q : Program} {loose : List Str} {XP : (Str → Option Value) → Heap → Prop} {YP : World → Heap → Prop} {d : DefRec} {K : Params → PySem.W.Frag} {CX : World → CXT} {sp : World → Sp} {x : Str}
    (hn : l.most = some n) (hn2 : n ≤ sizeLine) (hdf : d.params.defaults = []) (hr : Room k callerA)
    (hY : ∀ (w : World) (h : Heap), YP w h → (K w.params).In h)
    (F : ∀ (w : World) (mg : Str → Option Value) (fa : Addr) (h : Heap), (K w.params).In h → h.Ns mainGlobals mg → mg d.name = some (.ref fa) →
      ∃ fd : FuncData, (∀ (s : Shared) (u : Value), BindsTo s fd ⟨[u], []⟩ [(x, u)]) ∧
        ∀ base : Heap, (K w.params).In base → base.Ns mainGlobals mg → FnOk l.prog w (K w.params) mg base (CX w) k fa fd [x] (sp w))
    (hsp : ∀ (w : World) (H : Hp) (a : Addr) (ns : List Int), ns.length ≤ n → Only H → SqL (K w.params) H a (ns.map V.int) → sp w [.ref a] H (fun v _ => v = .bl true) fun _ _ _ => False)
    (hCX : ∀ (w : World) (H : Hp) (s : Shared) (e : Value) (s' : Shared), CX w [] H s (fun _ _ _ => False) e s' → False) :
    PySem.W.WalkO q loose XP YP l.row.toRowW d [] (fun f vs => PySem.call f vs) := by
  refine Att.attach_call hn hdf fun w s₀ s₁ mg mb fa o pm cd doc a vs ns G Y ho hd hcd hmg hobj hints hlen hg => ?_
  have KX := hY w _ Y
  obtain ⟨fd, hb, hF⟩ := F w mg fa _ KX G.T.g hmg
  exact law_call KX G.T.g G.T.b G.T.builtins G.T.nolimit hg hobj hints (Nat.le_trans hlen hn2) hr hF hb (fun H hO hS => hsp w H a ns hlen hO hS) fun H e s' => hCX w H s₁ e s'
end L2

/- THE LAST THEOREM (shape; LID, My.* are yours):
   My.Adr: a structure of the addresses that your layer names (classes, functions); My.Txt K t: a structure (Prop) of the equations over K;
   My.txt_mk : {K} {implicit addresses ..} (e1 : nsIn K mainGlobals "law" = some (some (.ref f))) (e2 : K.lookup f = some ⟨oc, od, .func (fnOf "law" "law" params body scope dV kV doc pm an cdv ct), sl⟩) (e3 : codeIn K cdv "law" = true) .. : ∃ t, My.Txt K t

set_option maxRecDepth 100000 in
set_option maxHeartbeats 0 in
theorem PySem.Challenge.cw_LID_holds : PySem.Challenge.rw_LID.Holds := by
  w_on; o_law; k_head; (case hw => w_witness2)
  k_fill
  refine L2.walk_of (l := PySem.Challenge.rw_LID) (n := 63) (k := 40) (x := "script") (CX := fun w => ..) (sp := fun _ => My.sp_law) rfl (by decide) rfl ⟨rfl, by decide, by decide⟩ (fun w h Y => PySem.W.kIn_of Y) ?F ?S ?C
  case F =>
    intro w mg fa h KX G hmg
    have T : ∃ t, My.Txt (L2.KOf KX) t := by
      dsimp only [L2.KOf]                          -- K must stand as «<heap const> w.params» for k_is
      refine' My.txt_mk ?e1 ?e2 ?e3 ..
      (case e1 => PySem.W.k_is)                    -- in the order: a name -> its address -> its object -> its parts
      (case e2 => PySem.W.k_is)
      ..
    obtain ⟨t, T⟩ := T
    have e0 := hmg.symm.trans (PySem.W.mg_of KX G T.law)
    cases e0                                       -- fa is the law's own address
    exact ⟨_, fun s u => .of_eq rfl, fun base kb nb => My.law_fn T kb nb⟩     -- if «.of_eq rfl» comes too early: refine' ⟨_, ?b, fun base kb nb => My.law_fn T kb nb⟩; exact fun s u => .of_eq rfl
  case S => exact fun w H a ns hl hO hS => ..
  case C => exact ..
(the tactic k_is has no namespace: write k_is) -/

/-! SHORT WORDS over the layer: a def of the text, its body, what a loop and a test want. -/
namespace L2
open PySem PySem.Spec PyProof.Rows

/-! ### the text by places -/
def defArgs (s : Stmt) : Arguments := match s with
  | .FunctionDef _ a _ _ _ _ _ _ _ _ => a
  | _ => { posonlyargs := [], args := [], vararg := none, kwonlyargs := [], kw_defaults := [], kwarg := none, defaults := [] }
def defBody (s : Stmt) : List Stmt := match s with
  | .FunctionDef _ _ b _ _ _ _ _ _ _ => b
  | _ => []
def defScope (s : Stmt) : Scope := match s with
  | .FunctionDef _ _ _ _ _ _ sc _ _ _ => sc
  | _ => { kind := .function, names := [], isGenerator := false, isCoroutine := false }

/-! ### no exception leaves a def -/
abbrev CX0 : CXT := fun _ _ _ _ _ _ => False
abbrev E0 : XK := fun _ _ _ => False
theorem pass0 {X : Cx} : Passes CX0 X E0 := fun _ _ _ _ _ _ _ h => h.elim

/-! ### a def (or method) of the text as it stands behind the top -/
structure Fun (K : PySem.W.Frag) (x qual : Str) (st : Stmt) (f : Addr) (fd : FuncData) : Prop where
  ex : ∃ (oc : Value) (od : Option Addr) (kV doc pm : Value) (an : Option Addr) (cdv ct : Value) (osl : Array (Option Value)),
    fd = PySem.W.fnOf x qual (defArgs st) (defBody st) (defScope st) .none kV doc pm an cdv ct ∧ K.lookup f = some ⟨oc, od, .func fd, osl⟩ ∧ PySem.W.codeIn K cdv qual = true
  kp : PySem.W.keepIn K (.ref f) = true
section
variable {P : Program} {w : World} {K : PySem.W.Frag} {mg : Str → Option Value} {base : Heap}
/-- THE RULE for a def: its body as a term of rules, and the reading of that term -/
theorem Fun.ok {x qual : Str} {st : Stmt} {f : Addr} {fd : FuncData} {N ps : List Str} {k : Nat} {sp : Sp} (F : Fun K x qual st f fd) (S : FnScope N ps (defScope st)) (len : ∀ vs H Q E, sp vs H Q E → vs.length = ps.length)
    (hbody : ∀ (cdv : Value) (A : Around) (outer : List Env) (s : Shared) (H : Hp) (vs : List V) (Q : VK) (E : XK), Room k (A.deeper (envOfC qual (defScope st) s.heap.objs.size f cdv)) → sp vs H Q E →
      ∃ t, PSs (cxOf CX0 P w K mg base N qual (defScope st) f cdv A outer s H E).nox (defBody st) t ∧ t { nx := fun _ H' => Q .non H', rt := Q } (start N vs) H) : FnOk P w K mg base CX0 (k + 1) f fd ps sp := by
  obtain ⟨oc, od, kV, doc, pm, an, cdv, ct, osl, rfl, lk, hcd⟩ := F.ex
  refine fn_of lk hcd S len fun A outer s H vs Q E hr hsp => ?_
  obtain ⟨t, h, q⟩ := hbody cdv A outer s H vs Q E hr hsp
  exact ⟨t, h.nox, q⟩
/-- how its arguments bind (no defaults): h is «fun _ _ _ _ _ _ us hl => match us, hl with | [_, _], _ => rfl», one _ a parameter -/
theorem Fun.binds {x qual : Str} {st : Stmt} {f : Addr} {fd : FuncData} {ps : List Str} (F : Fun K x qual st f fd)
    (h : ∀ (kV doc pm : Value) (an : Option Addr) (cdv ct : Value) (us : List Value), us.length = ps.length → bindArgs (PySem.W.fnOf x qual (defArgs st) (defBody st) (defScope st) .none kV doc pm an cdv ct) ⟨us, []⟩ = pure (ps.zip us)) : Binds K fd ps [] := by
  obtain ⟨oc, od, kV, doc, pm, an, cdv, ct, osl, rfl, lk, hcd⟩ := F.ex
  exact .all (h kV doc pm an cdv ct)
theorem fun_mk {x qual : Str} {st : Stmt} {f : Addr} {oc : Value} {od an : Option Addr} {osl : Array (Option Value)} {kV doc pm cdv ct : Value} (l : K.lookup f = some ⟨oc, od, .func (PySem.W.fnOf x qual (defArgs st) (defBody st) (defScope st) .none kV doc pm an cdv ct), osl⟩)
    (c : PySem.W.codeIn K cdv qual = true) (k : PySem.W.keepIn K (.ref f) = true) : Fun K x qual st f (PySem.W.fnOf x qual (defArgs st) (defBody st) (defScope st) .none kV doc pm an cdv ct) := ⟨⟨oc, od, kV, doc, pm, an, cdv, ct, osl, rfl, l, c⟩, k⟩
end

/-! ### expressions in short: the name that stands in the i-th slot -/
section
variable {X : Cx}
end

/-! ### tests -/

/-! ### heaps -/

end L2
end
section
set_option Elab.async false
set_option linter.all false
set_option maxRecDepth 100000
set_option maxHeartbeats 4000000
/-! more of lists and tuples -/
namespace L2
open PySem PySem.Spec PyProof.Rows
open AutoSeq1 (wpAny_loadPart')
theorem meets_extT (l b : Addr) (xs ys : Array Value) (n n2 : Nat) (dd : Option Addr) (sl : Array (Option Value)) (h0 : ¬(!xs.isEmpty && Builtin.List.listTooLong (xs.size + ys.size)) = true) (h1 : xs.size ≤ sizeLine) (h2 : xs.size + ys.size ≤ sizeLine + 1) :
    Meets (Builtin.«list.extend» ⟨[.ref l, .ref b], []⟩) (fun _ R s => s.heap.get? l = some { cls := .type "list", dict := none, data := .seq xs n, slots := #[] } ∧ s.heap.get? b = some { cls := .type "tuple", dict := dd, data := .seq ys n2, slots := sl } ∧ R (.ok (.ret Value.none)) { s with heap := s.heap.update l (Obj.mapSeq fun x => x ++ ys), toks := s.toks }) :=
  .of_wp fun prog w A R s h => by
    obtain ⟨hp, g, d, tk, os⟩ := s; obtain ⟨hl, hb, h⟩ := h
    have f2 := AutoSeq1.sub_tuple_tuple; have f3 := AutoSeq1.sub_list_list; have f4 := AutoSeq1.sub_tuple_list; have f5 := AutoSeq1.sub_list_tuple
    have hz' : (xs ++ ys).size ≤ sizeLine + 1 := by rw [Array.size_append]; exact h2
    wp_walk using (wpAny_updateSeq hl rfl (hz := h1) (_hz' := hz')), wpAny_loadPart' hl, wpAny_loadPart' hb
    exact ⟨_, rfl, h⟩
section
variable {X : Cx}
def rExtT (K : PySem.W.Frag) : V → List V → Hp → VK → Prop := fun x vs H Q => ∃ l b xs zs, x = .ref l ∧ vs = [.ref b] ∧ H l = some (.lst xs) ∧ SqT K H b zs ∧ xs.length + zs.length ≤ sizeLine ∧ Q .non (upd H l (.lst (xs ++ zs)))
theorem mt_extT : MtM X "list.extend" (rExtT X.K) := by
  intro pins s σ H x vs v us Q I rx rv h
  obtain ⟨l, b, xs, zs, rfl, rfl, hH, hB, hz, q⟩ := h
  cases rx
  obtain ⟨u, rfl, ru⟩ := rv.one
  cases ru
  obtain ⟨z, its, n, r, hl, e⟩ := I.lstM hH
  obtain ⟨its2, r2, ⟨⟨oc, od, odt, os⟩, e2, ec, n2, ed⟩, z2⟩ := I.tuple hB
  have hl2 := r2.length
  simp only at ec ed
  subst ec ed
  have hsz : its.toArray.size + its2.toArray.size ≤ sizeLine := by rw [List.size_toArray, List.size_toArray]; omega
  have hlong : ¬ (!its.toArray.isEmpty && Builtin.List.listTooLong (its.toArray.size + its2.toArray.size)) = true := by
    rw [notLongL hsz, Bool.and_false]; exact Bool.false_ne_true
  refine call_meets F.slot_list_extend ⟨_, e, rfl⟩ F.entry_list_extend (F.args_list_extend_2 _ _) (meets_extT l b its.toArray its2.toArray n n2 _ _ hlong (by rw [List.size_toArray]; omega) (by omega)) ⟨e, e2, ?_⟩
  refine ⟨.non, _, I.lset (its' := its ++ its2) hH e (by simp) (r.append r2) ?_, rfl, q⟩
  rw [List.length_append]; omega
/-- () + t is t -/
theorem op_catT0 : OpR X (binaryOp .Add) (fun x y H Q => ∃ a b ys, x = .ref a ∧ y = .ref b ∧ SqT X.K H a [] ∧ SqT X.K H b ys ∧ Q (.ref b) H) := by
  intro pins s σ H x y v u Q I rx ry h
  obtain ⟨a, b, ys, rfl, rfl, ha, hb, q⟩ := h
  cases rx; cases ry
  obtain ⟨its, r1, ⟨⟨oc, od, odt, os⟩, e1, ec, n, ed⟩, _⟩ := I.tuple ha
  obtain ⟨its2, r2, ⟨⟨oc2, od2, odt2, os2⟩, e2, ec2, n2, ed2⟩, _⟩ := I.tuple hb
  simp only at ec ed ec2 ed2
  subst ec ed ec2 ed2
  cases r1
  exact concat_meets ⟨_, e1, rfl⟩ ⟨_, e2, rfl⟩ noFill_tuple_add seq_tuple_add F.slot_tuple_add F.entry_tuple_add (F.args_tuple_add_2 _ _) (tuple_addW0 a b #[] its2.toArray n n2 od od2 os os2 rfl) ⟨e1, e2, .ref b, H, I, rfl, q⟩
/-- t[lo:hi], the whole of it -/
theorem sl_whole : SlR X (fun x lo hi H Q => ∃ a xs, x = .ref a ∧ SqT X.K H a xs ∧ HT.sIx xs.length 0 lo = 0 ∧ HT.sIx xs.length xs.length hi = xs.length ∧ Q (.ref a) H) := by
  intro pins s σ H x v vl vu lo hi sl Q I rx hs pl pu h
  obtain ⟨t, xs, rfl, hx, h1, h2, q⟩ := h
  cases rx
  obtain ⟨its, r, ht, hz⟩ := I.tuple hx
  have hlen : its.toArray.size = xs.length := by rw [List.size_toArray]; exact r.length.symm
  refine ⟨"tuple", _, PyProof.Rows.slot_tuple_getitem.lookup, ht.typeIs, ?_⟩
  obtain ⟨os, eo, co, do'⟩ := id hs
  have ty : s.TypeIs (.ref sl) "slice" := ⟨os, eo, co⟩
  rw [← hlen] at h1 h2
  unfold getItem
  try with_reducible refine wpAny_holding ?_
  first | refine wpAny_bind (wpAny_pure ?_) | skip
  refine wpAny_bind (wpAny_sequenceKey ht.typeIs (by decide) (wpAny_bind (wpAny_callSpecial?_slot (name := Str.ofString "__getitem__") ht.typeIs PyProof.Rows.slot_tuple_getitem (wpAny_call_entry PyProof.Rows.slot_tuple_getitem ht.typeIs entry_tuple_getitem ?_ (args_tuple_getitem _ _)))))
  show wpAny _ _ (Builtin.Tuple.tupleItemsOf (.ref t) >>= _) _ _ s; refine wpAny_bind (tupleItemsOf_ ht (wpAny_bind (wpAny_typeOf ty ?_)))
  rw [if_pos (by decide)]; refine wpAny_bind (HT.sliceApplied_gen hs pl pu ?_)
  show wpAny _ _ (if (((HT.sIx its.toArray.size 0 lo : Nat) : Int) == 0 && (1 : Int) == 1 && (HT.sIx its.toArray.size its.toArray.size hi - HT.sIx its.toArray.size 0 lo) == its.toArray.size) = true then _ else _) _ _ s
  rw [if_pos (by rw [h1, h2]; simp)]
  refine wpAny_bind (m := Builtin.Tuple.tupleIsExact (.ref t)) ?_
  unfold Builtin.Tuple.tupleIsExact
  refine wpAny_bind (wpAny_typeOf ht.typeIs (wpAny_pure ?_))
  rw [if_pos (by decide)]
  exact wpAny_bind (wpAny_rule (wpAny_pure ⟨_, rfl, wpAny_pure ⟨.ref t, H, I, rfl, q⟩⟩))
end
/-! ### the least of a list, by what stands below N -/
def Kept (h0 h : Heap) (N : Nat) : Prop := ∀ b o, b < N → h0.get? b = some o → h.get? b = some o
def CmpAt (P : Program) (w : World) (A : Around) (I : Nat → Value → Prop) (bt : Nat → Nat → Bool) (h0 : Heap) (N : Nat) : Prop :=
  ∀ i j u v (s : Shared) (Q : Value → Shared → Prop) (E : Value → Shared → Prop), Kept h0 s.heap N → I i u → I j v → Q (.bool (bt i j)) s → wpAny (model P w) A (richCompare .Lt u v) Q E s
section
variable {P : Program} {w : World} {A : Around} {R : Result → Shared → Prop} {it S N : Addr} {fp wr : List Addr} {n : Nat} {V : Nat → Value → Prop} {St : Nat → Heap → Prop} {bt : Nat → Nat → Bool} {h0 : Heap}
theorem least_loop (W : Walks P w A.in1 it fp wr n V St) (C : CmpAt P w A.in1 V bt h0 N) (sf : S ∉ fp) (nw : ∀ b ∈ wr, N ≤ b) (nS : N ≤ S) :
    ∀ (k j : Nat) (s : Shared) (best : Value) (c : Nat), n - (j + 1) = k → j + 1 ≤ n → St (j + 1) s.heap → V (argBest bt j) best → Kept h0 s.heap N → s.heap.get? S = some { cls := .type "list", dict := none, data := .seq #[best, best] c, slots := #[] } →
    (∀ v h' tk, V (argBest bt (n - 1)) v → (∀ b o, b ∉ wr → b ≠ S → s.heap.get? b = some o → h'.get? b = some o) → R (.ok (.ret v)) { s with heap := h', toks := tk }) → codeAny (model P w) A (.builtin "min.loop" ⟨[.ref it, .none, .ref S], []⟩) R s := by
  have sw : S ∉ wr := fun h => sf (W.sub _ h)
  have nm : (toString "min" ++ toString ".loop" : String) = "min.loop" := by decide
  have low : ∀ {b : Addr}, b < N → b ∉ wr ∧ b ≠ S := fun {b} hb => ⟨fun z => absurd (nw b z) (Nat.not_le.mpr hb), fun z => absurd nS (by rw [← z]; exact Nat.not_le.mpr hb)⟩
  intro k
  induction k with
  | zero =>
    intro j s best c hk hj hst hV kp hS hR
    have en : j + 1 = n := by omega
    refine codeAny_builtin F.entry_min_loop ?_; rw [Around.under_plainId F.plain_min_loop _]
    show wpAny _ A.in1 (seqItems? (.ref S) >>= _) _ _ s; refine wpAny_bind (wpAny_seqItems hS rfl ?_)
    show wpAny _ A.in1 (tryCatch (pyNext (.ref it)) _ >>= _) _ _ s; refine wpAny_bind (wpAny_tryCatch (W.done s _ _ (en ▸ hst) fun g tk kk => ?_))
    have S1 := kk S _ sw hS
    show wpAny _ A.in1 (updateSeq S (fun _ => #[]) >>= _) _ _ _; refine wpAny_bind (wpAny_updateSeq S1 rfl (wpAny_bind (wpAny_letGo (wpAny_pure ?_))))
    exact hR best _ tk (by rw [← en]; exact hV) fun b o c1 c2 e => (Heap.get?_update_other _ _ (Ne.symm c2)).trans (kk b o c1 e)
  | succ k ih =>
    intro j s best c hk hj hst hV kp hS hR
    have lt : j + 1 < n := by omega
    refine codeAny_builtin F.entry_min_loop ?_; rw [Around.under_plainId F.plain_min_loop _]
    show wpAny _ A.in1 (seqItems? (.ref S) >>= _) _ _ s; refine wpAny_bind (wpAny_seqItems hS rfl ?_)
    show wpAny _ A.in1 (tryCatch (pyNext (.ref it)) _ >>= _) _ _ s; refine wpAny_bind (wpAny_tryCatch (W.item (j + 1) s _ _ lt hst fun v g tk vP st1 kk => ?_))
    have S1 := kk S _ sw hS
    have kp1 : Kept h0 g N := fun b o hb e => kk b o (low hb).1 (kp b o hb e)
    show wpAny _ A.in1 (tryCatch (holding [v, v] (richCompare .Lt v best >>= _)) _ >>= _) _ _ _
    refine wpAny_bind (wpAny_tryCatch (wpAny_holding (wpAny_bind (C (j + 1) (argBest bt j) v best _ _ _ kp1 vP hV (wpAny_bind (wpAny_holding (wpAny_truthy_bool (wpAny_bind (wpAny_letGo (wpAny_pure ?_))))))))))
    cases hb : bt (j + 1) (argBest bt j) with
    | true =>
      simp only [if_true]; refine wpAny_bind (wpAny_updateSeq S1 rfl (wpAny_bind (wpAny_letGo ?_))); rw [nm]
      refine wpAny_pure ⟨plainId_quiet F.plain_min_loop _, ih (j + 1) _ v _ (by omega) lt (W.frame _ _ _ st1 fun b bf o e => (Heap.get?_update_other _ _ (fun h : S = b => sf (by rw [h]; exact bf))).trans e) (by simp only [argBest, hb, if_true]; exact vP)
        (fun b o l e => (Heap.get?_update_other _ _ (Ne.symm (low l).2)).trans (kp1 b o l e)) (Heap.get?_update_self _ S1 rfl) fun v' g' tk' p' k' => ?_⟩
      exact hR v' g' tk' p' fun b o c1 c2 e => k' b o c1 c2 ((Heap.get?_update_other _ _ (Ne.symm c2)).trans (kk b o c1 e))
    | false =>
      simp only [Bool.false_eq_true, if_false]; refine wpAny_bind (wpAny_letGo ?_); rw [nm]
      refine wpAny_pure ⟨plainId_quiet F.plain_min_loop _, ih (j + 1) _ best c (by omega) lt st1 (by simp only [argBest, hb, Bool.false_eq_true, if_false]; exact hV) kp1 S1 fun v' g' tk' p' k' => ?_⟩
      exact hR v' g' tk' p' fun b o c1 c2 e => k' b o c1 c2 (kk b o c1 e)
theorem least_first (W : Walks P w A.in1 it fp wr n V St) (C : CmpAt P w A.in1 V bt h0 N) (sf : S ∉ fp) (nw : ∀ b ∈ wr, N ≤ b) (nS : N ≤ S) (hn : 0 < n) {s : Shared} {c : Nat} (hst : St 0 s.heap) (kp : Kept h0 s.heap N)
    (hS : s.heap.get? S = some { cls := .type "list", dict := none, data := .seq #[] c, slots := #[] })
    (hR : ∀ v h' tk, V (argBest bt (n - 1)) v → (∀ b o, b ∉ wr → b ≠ S → s.heap.get? b = some o → h'.get? b = some o) → R (.ok (.ret v)) { s with heap := h', toks := tk }) : codeAny (model P w) A (.builtin "min.loop" ⟨[.ref it, .none, .ref S], []⟩) R s := by
  have sw : S ∉ wr := fun h => sf (W.sub _ h)
  have nm : (toString "min" ++ toString ".loop" : String) = "min.loop" := by decide
  have low : ∀ {b : Addr}, b < N → b ∉ wr ∧ b ≠ S := fun {b} hb => ⟨fun z => absurd (nw b z) (Nat.not_le.mpr hb), fun z => absurd nS (by rw [← z]; exact Nat.not_le.mpr hb)⟩
  refine codeAny_builtin F.entry_min_loop ?_; rw [Around.under_plainId F.plain_min_loop _]
  show wpAny _ A.in1 (seqItems? (.ref S) >>= _) _ _ s; refine wpAny_bind (wpAny_seqItems hS rfl ?_)
  show wpAny _ A.in1 (tryCatch (pyNext (.ref it)) _ >>= _) _ _ s; refine wpAny_bind (wpAny_tryCatch (W.item 0 s _ _ hn hst fun v g tk vP st1 kk => ?_))
  have S1 := kk S _ sw hS
  show wpAny _ A.in1 (updateSeq S (fun _ => #[v, v]) >>= _) _ _ _; refine wpAny_bind (wpAny_updateSeq S1 rfl ?_); rw [nm]
  refine wpAny_pure ⟨plainId_quiet F.plain_min_loop _, least_loop W C sf nw nS _ 0 _ v _ rfl hn (W.frame _ _ _ st1 fun b bf o e => (Heap.get?_update_other _ _ (fun h : S = b => sf (by rw [h]; exact bf))).trans e) vP
    (fun b o l e => (Heap.get?_update_other _ _ (Ne.symm (low l).2)).trans (kk b o (low l).1 (kp b o l e))) (Heap.get?_update_self _ S1 rfl) fun v' g' tk' p' k' => ?_⟩
  exact hR v' g' tk' p' fun b o c1 c2 e => k' b o c1 c2 ((Heap.get?_update_other _ _ (Ne.symm c2)).trans (kk b o c1 e))
end
section
variable {P : Program} {w : World} {A : Around} {E : Value → Shared → Prop} {s : Shared}
theorem call_least {l : Addr} {xs : Array Value} {bt : Nat → Nat → Bool} {Q : Value → Shared → Prop} (hh : A.in1.handled = none) (hl : s.heap.IsList l xs) (hn : 0 < xs.size) (C : CmpAt P w A.in1 (fun i v => xs[i]? = some v) bt s.heap s.heap.objs.size)
    (K : ∀ v h' tk, xs[argBest bt (xs.size - 1)]? = some v → (∀ b o, s.heap.get? b = some o → h'.get? b = some o) → Q v { s with heap := h', toks := tk }) : wpAny (model P w) A (call (.builtin "min") [.ref l]) Q E s := by
  have nm : (toString "min" ++ toString ".loop" : String) = "min.loop" := by decide
  have ll : l < s.heap.objs.size := by obtain ⟨_, e, _⟩ := hl; exact Heap.lt_size e
  refine call_function_tree F.kind_min F.plain_min F.entry_min (F.args_min1 _) ?_
  show wpAny _ A.in1 (Builtin.Builtins.bindParams "min" ["key", "default"] 0 ⟨[], []⟩ >>= _) _ _ s
  refine wpAny_bind (wpAny_of_eq (show Builtin.Builtins.bindParams "min" ["key", "default"] 0 ⟨[], []⟩ = pure [none, none] from rfl) (wpAny_bind (wpAny_pure (wpAny_bind (wpAny_pyIter_list hl ?_)))))
  have W := Walks.list (prog := P) (w := w) hh s.heap.objs.size l (Nat.ne_of_lt ll) xs
  refine wpAny_bind (wpAny_newObj_type ?_)
  rw [nm]
  have z1 : (s.heap.push { cls := .type "list_iterator", data := .fields #[.ref l, .int 0 0] }).objs.size = s.heap.objs.size + 1 := Heap.size_push ..
  refine wpAny_pure ⟨plainId_quiet F.plain_min_loop _, least_first (S := (s.heap.push { cls := .type "list_iterator", data := .fields #[.ref l, .int 0 0] }).objs.size) W C ?_ ?_ ?_ hn ⟨⟨_, Heap.get?_push_of_some _ (Heap.get?_push_size _ rfl), rfl, rfl⟩, (hl.push _).push _⟩
    (fun b o hb e => Heap.get?_push_of_some _ (Heap.get?_push_of_some _ e)) (Heap.get?_push_size _ rfl) fun v h' tk hv hk => ?_⟩
  · rw [z1]; intro z; simp only [List.mem_cons, List.not_mem_nil, or_false] at z; rcases z with z | z
    · exact absurd z (Nat.ne_of_gt (Nat.lt_succ_self _))
    · exact absurd z (Nat.ne_of_gt (Nat.lt_succ_of_lt ll))
  · intro b hb; simp at hb; rw [hb]; exact Nat.le_refl _
  · rw [z1]; exact Nat.le_succ _
  · refine K v h' tk hv fun b o e => hk b o (by simp; exact Nat.ne_of_lt (Heap.lt_size e)) ?_ (Heap.get?_push_of_some _ (Heap.get?_push_of_some _ e))
    rw [z1]; exact Nat.ne_of_lt (Nat.lt_succ_of_lt (Heap.lt_size e))
end
end L2
end
section
set_option Elab.async false
set_option linter.all false
set_option maxRecDepth 100000
set_option maxHeartbeats 4000000
namespace L2
open PySem PySem.Spec PyProof.Rows

/-- the cells that a comprehension takes along -/
def clGo (cells : List (Str × Addr)) : List (Str × NameKind) → List (Str × Addr) → List (Str × Addr)
  | [], acc => acc
  | (n, k) :: r, acc => if (k == NameKind.free) = true then clGo cells r ((n, (cells.lookup n).getD 0) :: acc) else clGo cells r acc
theorem clGo_run {env : Env} : ∀ (names : List (Str × NameKind)) (acc : List (Str × Addr)), (∀ p ∈ names, p.2 = .free → ∃ c, env.cells.lookup p.1 = some c) →
    (forIn names acc fun (x : Str × NameKind) (cs : List (Str × Addr)) => if (x.2 == NameKind.free) = true then cellOf env x.1 >>= fun c => pure (ForInStep.yield ((x.1, c) :: cs)) else pure (ForInStep.yield cs) : Sem (List (Str × Addr))) = pure (clGo env.cells names acc)
  | [], acc, _ => rfl
  | (n, k) :: r, acc, h => by
    have ih := clGo_run (env := env) r
    rw [List.forIn_cons]
    unfold clGo
    by_cases hk : (k == NameKind.free) = true
    · obtain ⟨c, hc⟩ := h (n, k) List.mem_cons_self (by simpa using hk)
      have hcell : cellOf env n = pure c := by
        have hc' : env.cells.lookup n = some c := hc
        unfold cellOf; rw [hc']
      have hc' : env.cells.lookup n = some c := hc
      simp only [hk, if_true, hcell, hc', Option.getD_some, pure_bind]
      exact ih _ fun p hp => h p (List.mem_cons_of_mem _ hp)
    · simp only [hk, if_false, pure_bind, Bool.false_eq_true]
      exact ih _ fun p hp => h p (List.mem_cons_of_mem _ hp)
theorem closure_is {scope : Scope} {env : Env} (h : ∀ p ∈ scope.names, p.2 = .free → ∃ c, env.cells.lookup p.1 = some c) : closureFor scope env = pure (clGo env.cells scope.names []) := by
  have q := clGo_run (env := env) scope.names [] h
  unfold closureFor
  first
    | exact (by rw [q]; rfl)
    | (simp only [bind_pure]; exact q)
theorem clGo_lookup {cells : List (Str × Addr)} {x : Str} {c : Addr} : ∀ (names : List (Str × NameKind)) (acc : List (Str × Addr)), (∀ p ∈ names, p.2 = .free → ∃ c, cells.lookup p.1 = some c) → (∀ y d, acc.lookup y = some d → cells.lookup y = some d) →
    (clGo cells names acc).lookup x = some c → cells.lookup x = some c
  | [], acc, _, ha, h => ha x c h
  | (n, k) :: r, acc, hn, ha, h => by
    unfold clGo at h
    split at h
    · rename_i hk
      refine clGo_lookup r _ (fun p hp => hn p (List.mem_cons_of_mem _ hp)) (fun y d hy => ?_) h
      rw [List.lookup_cons] at hy
      obtain ⟨c', hc'⟩ := hn (n, k) List.mem_cons_self (by simpa using hk)
      have hc'' : cells.lookup n = some c' := hc'
      split at hy
      · rename_i hyn
        have e : y = n := by simpa using hyn
        subst e
        rw [hc''] at hy ⊢
        exact hy
      · exact ha y d hy
    · exact clGo_lookup r _ (fun p hp => hn p (List.mem_cons_of_mem _ hp)) ha h
theorem clGo_has {cells : List (Str × Addr)} {x : Str} : ∀ (names : List (Str × NameKind)) (acc : List (Str × Addr)), ((x, NameKind.free) ∈ names ∨ ∃ c, acc.lookup x = some c) → ∃ c, (clGo cells names acc).lookup x = some c
  | [], acc, h => by
    rcases h with h | h
    · simp at h
    · exact h
  | (n, k) :: r, acc, h => by
    unfold clGo
    split
    · refine clGo_has r _ ?_
      by_cases hx : x = n
      · subst hx
        exact .inr ⟨(cells.lookup x).getD 0, by rw [List.lookup_cons]; simp⟩
      · rcases h with h | ⟨c, h⟩
        · rcases List.mem_cons.mp h with h | h
          · cases h; exact absurd rfl hx
          · exact .inl h
        · refine .inr ⟨c, ?_⟩
          rw [List.lookup_cons]
          have : (x == n) = false := by simpa using hx
          rw [this]
          exact h
    · rename_i hk
      refine clGo_has r _ ?_
      rcases h with h | h
      · rcases List.mem_cons.mp h with h | h
        · cases h; simp at hk
        · exact .inl h
      · exact .inr h
theorem relabel_back {env : Env} {x : Str} : ∀ {names : List (Str × NameKind)}, (∀ p ∈ names, p.2 ≠ .cell) →
    ((names.map fun (n, k) => if (k == NameKind.free && env.scope.kind == .function && env.kindOf n == some .cell) then (n, NameKind.cell) else (n, k)).lookup x = some .cell ∨
     (names.map fun (n, k) => if (k == NameKind.free && env.scope.kind == .function && env.kindOf n == some .cell) then (n, NameKind.cell) else (n, k)).lookup x = some .free) → (x, NameKind.free) ∈ names
  | [], _, h => by rcases h with h | h <;> simp at h
  | (n, k) :: r, hc, h => by
    have ih := @relabel_back env x r fun p hp => hc p (List.mem_cons_of_mem _ hp)
    rw [List.map_cons] at h
    by_cases hk : (k == NameKind.free && env.scope.kind == .function && env.kindOf n == some .cell) = true
    · simp only [hk, if_true] at h
      cases hx : x == n with
      | true =>
        have e : x = n := by simpa using hx
        have : k = .free := by simp only [Bool.and_eq_true] at hk; simpa using hk.1.1
        rw [e, this]; exact List.mem_cons_self
      | false =>
        simp only [List.lookup_cons, hx] at h
        exact List.mem_cons_of_mem _ (ih h)
    · simp only [hk, if_false, Bool.false_eq_true] at h
      cases hx : x == n with
      | true =>
        have e : x = n := by simpa using hx
        simp only [List.lookup_cons, hx] at h
        rcases h with h | h
        · exact absurd (Option.some.inj h) (hc (n, k) List.mem_cons_self)
        · rw [e, ← Option.some.inj h]; exact List.mem_cons_self
      | false =>
        simp only [List.lookup_cons, hx] at h
        exact List.mem_cons_of_mem _ (ih h)

/-- the context of a comprehension's block -/
def cxC (X : Cx) (scope : Scope) (own : List Str) (fp : List Addr) (C : Addr) (s : Shared) (H : Hp) : Cx :=
  { X with N := X.N ++ own, s₀ := s, H₀ := H, env := compEnvC scope (clGo X.env.cells scope.names []) C X.env, outer := X.stack, stack := X.stack, ex := fp, fn := fun _ => false, pn := [], xe := fun _ _ => False }
/-- what a comprehension's scope keeps to -/
structure CScope (X : Cx) (scope : Scope) (own : List Str) : Prop where
  kind : scope.kind = .function
  nocell : ∀ p ∈ scope.names, p.2 ≠ .cell
  names : ∀ p ∈ scope.names, p.2 = .local → scope.names.lookup p.1 = some .local
  free : ∀ p ∈ scope.names, p.2 = .free → X.env.kindOf p.1 = some .cell ∨ X.env.kindOf p.1 = some .free
  apart : ∀ x ∈ X.N, scope.names.lookup x ≠ some .local
section
variable {X : Cx}
theorem relabel_local {env : Env} {x : Str} : ∀ {names : List (Str × NameKind)},
    (names.map fun (n, k) => if (k == NameKind.free && env.scope.kind == .function && env.kindOf n == some .cell) then (n, NameKind.cell) else (n, k)).lookup x = some .local → names.lookup x = some .local
  | [], h => by simp at h
  | (n, k) :: r, h => by
    have ih := @relabel_local env x r
    rw [List.map_cons] at h
    rw [List.lookup_cons]
    by_cases hk : (k == NameKind.free && env.scope.kind == .function && env.kindOf n == some .cell) = true
    · simp only [hk, if_true] at h
      cases hx : x == n with
      | true => simp [List.lookup_cons, hx] at h
      | false =>
        simp only [List.lookup_cons, hx] at h
        exact ih h
    · simp only [hk, if_false, Bool.false_eq_true] at h
      cases hx : x == n with
      | true => simpa [List.lookup_cons, hx] using h
      | false =>
        simp only [List.lookup_cons, hx] at h
        exact ih h
/-- the block's start -/
theorem inv_comp {scope : Scope} {own : List Str} {fp : List Addr} {pins : List (Addr × Obj)} {σ : St} {H : Hp} {s : Shared} {h4 : Heap} {t4 : Nat} (I : Inv X pins σ H s) (SC : CScope X scope own) (hc : X.calm = true)
    (hf : ∀ b ∈ fp, FpOk X pins H b) (hfo : ∀ b ∈ fp, ∃ o, s.heap.get? b = some o)
    (hns : h4.Ns s.heap.objs.size (fun _ => none)) (hk : ∀ b o, s.heap.get? b = some o → h4.get? b = some o) :
    Inv (cxC X scope own fp s.heap.objs.size s H) [] (σ ++ List.replicate own.length none) H { s with heap := h4, toks := t4 } := by
  have fr : ∀ p ∈ scope.names, p.2 = .free → ∃ c, X.env.cells.lookup p.1 = some c := fun p hp hq => I.ok.has p.1 (SC.free p hp hq)
  have cl : ∀ {x : Str} {c : Addr}, (clGo X.env.cells scope.names []).lookup x = some c → X.env.cells.lookup x = some c := fun h => clGo_lookup scope.names [] fr (fun y d hy => by simp at hy) h
  have clt : ∀ {x : Str} {c : Addr}, X.env.cells.lookup x = some c → c < s.heap.objs.size := fun h => by obtain ⟨v, q⟩ := I.cell _ _ h; exact q.lt
  refine ⟨⟨I.ok.mod, SC.kind, I.ok.glob, I.ok.blt, Nat.le_refl _, fun x y c h1 h2 => I.ok.inj x y c (cl h1) (cl h2), fun x hx => ?_, fun x c h => absurd h (by simp [cxC]), fun _ => I.ok.hd hc, I.ok.frames, .inl rfl, fun b hb => ?_,
      fun b o e => I.bs b o e, Nat.le_trans I.ok.bsz I.sz, fun b o e hb => ?_, fun b hb hz => ?_, I.stack, I.stkFree⟩,
    rfl, I.bare, Un.kept hk, ⟨_, hns, fun i x v e1 e2 e3 => ?_⟩, fun x c h => ?_, I.fresh, fun x c h => I.freeC x c (cl h), fun p hp => absurd (show p ∈ ([] : List (Addr × Obj)) from hp) (by simp), I.hok.kept hk, ?_⟩
  · have hx : (relabel scope X.env).names.lookup x = some .cell ∨ (relabel scope X.env).names.lookup x = some .free := hx
    exact clGo_has scope.names [] (.inl (relabel_back SC.nocell hx))
  · have hb : b ∈ fp := hb
    obtain ⟨o, ho⟩ := hfo b hb
    exact ⟨Nat.ne_of_lt (Heap.lt_size ho), fun x c h => (hf b hb).2.2.2.2.1 x c (cl h)⟩
  · have hb : b ∈ fp := hb
    have e : X.base.get? b = some o := e
    rcases (hf b hb).2.2.2.1 with z | z
    · exact I.ok.noex b o e z
    · exact absurd (Nat.lt_of_lt_of_le (Heap.lt_size e) (Nat.le_trans I.ok.bsz z)) (Nat.lt_irrefl _)
  · have hb : b ∈ fp := hb
    have hz : b ∈ frs X.stack := hz
    rcases List.mem_cons.mp (I.stkSub b hz) with z | z
    · exact (hf b hb).2.1 z
    · exact (hf b hb).2.2.1 z
  · have e1 : (X.N ++ own)[i]? = some x := e1
    have e3 : Vis (relabel scope X.env) x := e3
    have hi : i < σ.length := by
      by_cases hi : i < σ.length
      · exact hi
      · rw [List.getElem?_append_right (by omega), List.getElem?_replicate] at e2
        split at e2 <;> cases e2
    rw [List.getElem?_append_left hi] at e2
    rw [List.getElem?_append_left (by rw [← I.len]; exact hi)] at e1
    have hnl : (relabel scope X.env).names.lookup x ≠ some .local := fun z => SC.apart x (List.mem_of_getElem? e1) (relabel_local z)
    have hv : (relabel scope X.env).names.lookup x = some .cell ∨ (relabel scope X.env).names.lookup x = some .free := by
      rcases e3 with z | z | z
      · exact absurd z hnl
      · exact .inl z
      · exact .inr z
    have hm := relabel_back SC.nocell hv
    have hkx := SC.free (x, .free) hm rfl
    obtain ⟨m, hn, hl⟩ := I.loc
    have hkx' : X.env.scope.names.lookup x = some .cell ∨ X.env.scope.names.lookup x = some .free := hkx
    obtain ⟨u, r, l⟩ := hl i x v e1 e2 (hkx'.elim (fun z => .inr (.inl z)) fun z => .inr (.inr z))
    refine ⟨u, r, .inr ⟨hv, ?_⟩⟩
    obtain ⟨c, hcl⟩ := clGo_has (cells := X.env.cells) scope.names [] (.inl hm)
    refine ⟨c, hcl, ?_⟩
    rcases l with ⟨z, _⟩ | ⟨z, c', hc', q⟩
    · rcases hkx with y | y <;> (rw [z] at y; cases y)
    · have := cl hcl
      rw [hc'] at this; cases this
      obtain ⟨o, ho, hd⟩ := q
      exact ⟨o, hk _ _ ho, hd⟩
  · obtain ⟨v, o, ho, hd⟩ := I.cell x c (cl h)
    exact ⟨v, o, hk _ _ ho, hd⟩
  · show (σ ++ List.replicate own.length none).length = (X.N ++ own).length
    rw [List.length_append, List.length_append, List.length_replicate, I.len]
end
/-- the tests of a comprehension, from the left -/
def testsOf (ifs : List Expr) (env : Env) : Sem Bool :=
  forIn ifs true fun c r => if r = true then do let ok ← isTrue c env (eval c env); pure (ForInStep.yield ok) else pure (ForInStep.yield r)
def PTs (X : Cx) (ifs : List Expr) (t : TT) : Prop :=
  ∀ (pins : List (Addr × Obj)) (s : Shared) (σ : St) (H : Hp) (Q : Bool → Hp → Prop), Inv X pins σ H s → t σ H Q → wpAny (model X.prog X.w) X.A (testsOf ifs X.env) (TP X pins σ Q) X.xe s
theorem tests_false {M : Model} {A : Around} {E : Value → Shared → Prop} {env : Env} {Q : Bool → Shared → Prop} {s : Shared} (h : Q false s) : ∀ ifs : List Expr,
    wpAny M A (forIn ifs false fun c r => if r = true then do let ok ← isTrue c env (eval c env); pure (ForInStep.yield ok) else pure (ForInStep.yield r)) Q E s
  | [] => wpAny_pure h
  | c :: r => by
    rw [List.forIn_cons]
    simp only [Bool.false_eq_true, if_false]
    exact wpAny_bind (wpAny_pure (tests_false h r))
section
variable {X : Cx}
def tTrue : TT := fun _ H Q => Q true H
theorem pts_nil : PTs X [] tTrue := fun _ _ _ H _ I h => wpAny_pure ⟨H, I, h⟩
theorem pts_cons {c : Expr} {r : List Expr} {t u : TT} (h1 : PT X c t) (h2 : PTs X r u) : PTs X (c :: r) (fun σ H Q => t σ H fun b H1 => if b = true then u σ H1 Q else Q false H1) := by
  intro pins s σ H Q I h
  unfold testsOf
  rw [List.forIn_cons]
  simp only [if_true]
  refine wpAny_bind (wpAny_bind (thn (h1 pins s σ H _ I h) fun b s1 ⟨H1, I1, q1⟩ => wpAny_pure ?_))
  cases b with
  | true =>
    rw [if_pos rfl] at q1
    exact h2 pins s1 σ H1 Q I1 q1
  | false =>
    rw [if_neg Bool.false_ne_true] at q1
    exact tests_false ⟨H1, I1, q1⟩ r
end
section
variable {prog : Program} {w : World} {A : Around} {R : Result → Shared → Prop} {s : Shared}
/-- the turns of a list comprehension of one clause -/
theorem comp_turns {elt target iter : Expr} {ifs : List Expr} {scope : Scope} {pos : Pos} {it acc : Value} {env : Env} (I : Nat → Shared → Prop)
    (turn : ∀ n s, I n s → wpAny (model prog w) A (pyNext it) (fun r s1 => match r with
      | none => R (.ok .next) s1
      | some v => wpAny (model prog w) A (letOwnedTupleGo target it v) (fun _ s2 => wpAny (model prog w) A (assign target env v) (fun _ s3 => wpAny (model prog w) A (testsOf ifs env) (fun ok s4 =>
          if ok = true then wpAny (model prog w) A (eval elt env) (fun x s5 => wpAny (model prog w) A (call (.builtin "list.append") [acc, x]) (fun _ s6 => ∃ m, m < n ∧ I m s6) (fun _ _ => False) s5) (fun _ _ => False) s4
          else ∃ m, m < n ∧ I m s4) (fun _ _ => False) s3) (fun _ _ => False) s2) (fun _ _ => False) s1) (fun _ _ => False) s)
    (n : Nat) (h : I n s) : codeAny (model prog w) A (.compLoop (.ListComp elt [⟨target, iter, ifs, 0⟩] scope pos) 0 it acc env) R s := by
  refine codeAny_loop rfl I (fun n s hI => ?_) n h
  show wpAny _ A ((compTurn (.ListComp elt [⟨target, iter, ifs, 0⟩] scope pos) 0 it acc env).onRaise (fun x => do noteFrame x env; theTreesLotGoes x)) _ _ s
  refine wpAny_noted ?_
  rw [compTurn_list]
  have no : ∀ (e : Value) (s' : Shared), (fun (_ : Value) (_ : Shared) => False) e s' → notedBy (model prog w) A env (fun e s' => R (.error e) s') e s' := fun _ _ z => z.elim
  refine wpAny_bind (wpAny_standAt (wpAny_bind (wpAny_mono (turn n s hI) (fun r s1 h1 => ?_) no)))
  cases r with
  | none => exact wpAny_pure h1
  | some v =>
    refine wpAny_bind (wpAny_mono h1 (fun _ s2 h2 => wpAny_bind (wpAny_mono h2 (fun _ s3 h3 => wpAny_bind (wpAny_mono h3 (fun ok s4 h4 => ?_) no)) no)) no)
    cases ok with
    | true =>
      rw [if_pos rfl] at h4
      simp only [if_true]
      exact wpAny_bind (wpAny_bind (wpAny_mono h4 (fun x s5 h5 => wpAny_bind (wpAny_mono h5 (fun _ s6 h6 => wpAny_pure (wpAny_pure ⟨rfl, h6⟩)) no)) no))
    | false =>
      rw [if_neg Bool.false_ne_true] at h4
      simp only [Bool.false_eq_true, if_false]
      first
        | exact wpAny_pure ⟨rfl, h4⟩
        | exact wpAny_bind (wpAny_pure (wpAny_pure ⟨rfl, h4⟩))
end

/-- the elder slots stand as they stood -/
def Wk (σ σ2 : St) : Prop := σ2.length = σ.length ∧ ∀ (j : Nat) (v : V), σ[j]? = some (some v) → σ2[j]? = some (some v)
/-- what a comprehension comes to: W: the invariant by the turn, a measure and the heap -/
def tComp (wi : TI) (g : TG) (tt : TT) (te : TE) (own : Nat) : TE := fun σ H Q => wi σ H fun J H1 => ∀ acc, H1 acc = none → ∃ W : Nat → Nat → Hp → Prop, (∃ m, W 0 m (upd H1 acc (.lst []))) ∧ ∀ i m H, W i m H →
  (J.stop i H ∧ Q (.ref acc) H) ∨ (J.go i H ∧ ∀ x H', J.yld i H x H' → g x (σ ++ List.replicate own none) H' fun σ2 H2 => Wk (σ ++ List.replicate own none) σ2 ∧ tt σ2 H2 fun b H3 =>
    if b = true then te σ2 H3 fun v H4 => ∃ ys, H4 acc = some (.lst ys) ∧ ys.length < sizeLine ∧ ∃ m', m' < m ∧ W (i + 1) m' (upd H4 acc (.lst (ys ++ [v]))) else ∃ m', m' < m ∧ W (i + 1) m' H3)
section
variable {X : Cx} {elt tg iter : Expr} {ifs : List Expr} {scope : Scope} {own : List Str} {pos : Pos} {wi : TI} {g : TG} {tt : TT} {te : TE}
/-- the block, for a use of the list or none -/
theorem comp_run {pins : List (Addr × Obj)} {σ : St} {H2 : Hp} {s2 : Shared} {Q : VK} {it : Addr} {fp : List Addr} {tn : Nat → Heap → Prop} {J : It} {RR : Value → Addr → Result → Shared → Prop}
    (hc : X.calm = true) (SC : CScope X scope own)
    (hblock : ∀ C s H, PG (cxC X scope own fp C s H) tg g ∧ PTs (cxC X scope own fp C s H) ifs tt ∧ PE (cxC X scope own fp C s H) elt te)
    (I2 : Inv X pins σ H2 s2) (T : Turn X.prog X.w X.K tg J fp it tn) (st2 : tn 0 s2.heap) (f2 : ∀ b ∈ fp, FpOk X pins H2 b)
    (h : ∀ acc, H2 acc = none → ∃ W : Nat → Nat → Hp → Prop, (∃ m, W 0 m (upd H2 acc (.lst []))) ∧ ∀ i m H, W i m H →
      (J.stop i H ∧ Q (.ref acc) H) ∨ (J.go i H ∧ ∀ x H', J.yld i H x H' → g x (σ ++ List.replicate own.length none) H' fun σ2 H2 => Wk (σ ++ List.replicate own.length none) σ2 ∧ tt σ2 H2 fun b H3 =>
        if b = true then te σ2 H3 fun v H4 => ∃ ys, H4 acc = some (.lst ys) ∧ ys.length < sizeLine ∧ ∃ m', m' < m ∧ W (i + 1) m' (upd H4 acc (.lst (ys ++ [v]))) else ∃ m', m' < m ∧ W (i + 1) m' H3))
    (hRR : ∀ acc C H' m s', Inv X pins σ H' s' → s'.heap.Ns C m → C ≠ X.env.locals → (∀ x c, X.env.cells.lookup x = some c → c ≠ C) → s2.heap.objs.size ≤ C → H' C = none → Q (.ref acc) H' → RR (.ref acc) C (.ok .next) s') {E : Value → Shared → Prop} :
    wpAny (model X.prog X.w) X.A (newList []) (fun acc s3 => wpAny (model X.prog X.w) X.A (newFunctionEnv scope X.env.globals (clGo X.env.cells scope.names []) [] X.env.qual none .none (some X.env)) (fun cenv s4 =>
      codeAny (model X.prog X.w) X.A (.compStart (.ListComp elt [⟨tg, iter, ifs, 0⟩] scope pos) 0 (.ref it) acc { cenv with scope := relabel scope X.env }) (RR acc cenv.locals) s4) E s3) E s2 := by
  have hacc := I2.fresh
  have I3 : Inv X pins σ (upd H2 s2.heap.objs.size (.lst [])) { s2 with heap := s2.heap.push { cls := .type "list", data := .seq ([] : List Value).toArray }, toks := s2.toks } := I2.lnew .nil (Nat.zero_le _)
  refine wpAny_newObj_type ?_
  obtain ⟨W, ⟨m0, w0⟩, turn⟩ := h _ hacc
  generalize hs3 : ({ s2 with heap := s2.heap.push { cls := .type "list", data := .seq ([] : List Value).toArray }, toks := s2.toks } : Shared) = s3 at I3
  have keep23 : ∀ b o, s2.heap.get? b = some o → s3.heap.get? b = some o := fun b o e => by rw [← hs3]; exact Heap.get?_push_of_some _ e
  have hf3 : ∀ b ∈ fp, FpOk X pins (upd H2 s2.heap.objs.size (.lst [])) b := fun b hb => by
    obtain ⟨o, ho, _⟩ := T.obj _ _ st2 b hb
    exact ⟨by rw [upd_ne (Nat.ne_of_lt (Heap.lt_size ho))]; exact (f2 b hb).1, (f2 b hb).2⟩
  have st3 : tn 0 s3.heap := T.keep _ _ _ st2 fun b hb o e => keep23 b o e
  refine wpAny_newFunctionEnv SC.nocell (by intro y hy; simp at hy) (fun h4 hns hsb => ?_) SC.kind
  have hns' : h4.Ns s3.heap.objs.size (fun _ => none) := by simpa using hns
  have keep34 : ∀ b o, s3.heap.get? b = some o → h4.get? b = some o := fun b o e => hsb.extBut b o (Nat.ne_of_lt (Heap.lt_size e)) (Heap.get?_push_of_some _ e)
  have I4 := inv_comp (t4 := s3.toks + ([] : List (Str × Value)).length) I3 SC hc hf3 (fun b hb => by obtain ⟨o, ho, _⟩ := T.obj _ _ st3 b hb; exact ⟨o, ho⟩) hns' keep34
  have st4 : tn 0 h4 := T.keep _ _ _ st3 fun b hb o e => keep34 b o e
  obtain ⟨hg, ht, he⟩ := hblock s3.heap.objs.size s3 (upd H2 s2.heap.objs.size (.lst []))
  have e5 : (cxC X scope own fp s3.heap.objs.size s3 (upd H2 s2.heap.objs.size (.lst []))).env = compEnvC scope (clGo X.env.cells scope.names []) s3.heap.objs.size X.env := rfl
  generalize hY : cxC X scope own fp s3.heap.objs.size s3 (upd H2 s2.heap.objs.size (.lst [])) = Y at hg ht he I4 e5
  have fpY : ∀ {H' : Hp}, (∀ b ∈ fp, H' b = none) → ∀ b ∈ fp, FpOk Y [] H' b := fun hn b hb => by
    obtain ⟨o, ho, _⟩ := T.obj _ _ st3 b hb
    refine ⟨hn b hb, ?_, ?_, ?_, ?_, ?_⟩
    · rw [← hY]; exact Nat.ne_of_lt (Heap.lt_size ho)
    · have := I4.ok.exfs b (by rw [← hY]; exact hb)
      exact this
    · exact .inl (by rw [← hY]; exact hb)
    · exact fun x c h => (I4.ok.exf b (by rw [← hY]; exact hb)).2 x c h
    · intro p hp; rw [← hY] at hp; exact absurd (show p ∈ ([] : List (Addr × Obj)) from hp) (by simp)
  have hYp : Y.prog = X.prog ∧ Y.w = X.w ∧ Y.K = X.K ∧ Y.calm = true ∧ Y.A = X.A ∧ Y.xe = (fun _ _ => False) ∧ Y.s₀ = s3 ∧ Y.H₀ = upd H2 s2.heap.objs.size (.lst []) ∧ Y.outer = X.stack ∧ Y.ex = fp := by rw [← hY]; exact ⟨rfl, rfl, rfl, hc, rfl, rfl, rfl, rfl, rfl, rfl⟩
  obtain ⟨y1, y2, y3, y4, y5, y6, y7, y8, y9, y10⟩ := hYp
  have loop : ∀ s5 : Shared, s5 = { s3 with heap := h4, toks := s3.toks + ([] : List (Str × Value)).length } →
      codeAny (model X.prog X.w) X.A (.compLoop (.ListComp elt [⟨tg, iter, ifs, 0⟩] scope pos) 0 (.ref it) (.ref s2.heap.objs.size) Y.env) (RR (.ref s2.heap.objs.size) s3.heap.objs.size) s5 := by
    rintro s5 rfl
    refine comp_turns (fun n s' => ∃ i H', Inv Y [] (σ ++ List.replicate own.length none) H' s' ∧ tn i s'.heap ∧ (∀ b ∈ fp, H' b = none) ∧ W i n H') ?_ m0 ⟨0, _, I4, st4, fun b hb => (hf3 b hb).1, w0⟩
    rintro n s6 ⟨i, H6, I6, st6, fr6, w6⟩
    rcases turn i n H6 w6 with ⟨stop, q⟩ | ⟨go, step⟩
    · have d := T.done Y y1 y2 y3 y4 i [] s6 _ H6 (fun _ _ => False) I6 (fpY fr6) st6 stop
      rw [y5] at d
      refine thn d fun r s7 ⟨hr, I7⟩ => ?_
      subst hr
      obtain ⟨m, hn, _⟩ := I7.loc
      have hL : Y.env.locals = s3.heap.objs.size := by rw [e5]; rfl
      rw [hL] at hn
      have b7 := I7.base
      rw [y7, y8, y10] at b7
      have b7' : Un (frs X.stack) fp (upd H2 s2.heap.objs.size (.lst [])) H6 s3.heap s7.heap := by
        have z : Y.fs = frs X.stack := by show frs Y.outer = _; rw [y9]
        rw [z] at b7
        exact b7
      have hok7 := I7.hok
      rw [y1, y2] at hok7
      have os7 := I7.os
      rw [y7] at os7
      have I8 : Inv X pins σ H6 s7 := I3.call' os7 b7' hok7 I7.bare fun b hb => ⟨(hf3 b hb).2.2.2.1, (hf3 b hb).2.1, (hf3 b hb).2.2.2.2.1, (hf3 b hb).2.2.2.2.2⟩
      have hfree := I7.free
      rw [hL] at hfree
      refine hRR _ _ H6 m s7 I8 hn (Nat.ne_of_gt I3.lt) (fun x c h z => ?_) ?_ hfree q
      · obtain ⟨v, y⟩ := I3.cell x c h
        exact absurd y.lt (by rw [z]; exact Nat.lt_irrefl _)
      · rw [← hs3, Heap.size_push]; exact Nat.le_succ _
    · have d := T.item Y y1 y2 y3 y4 i [] s6 _ H6 (fun _ _ => False) I6 (fpY fr6) st6 go
      rw [y5] at d
      refine thn d fun r s7 ⟨u, hr, h7⟩ => ?_
      subst hr
      refine thn h7 fun _ s8 ⟨x, H8, I8, r8, y8', st8, fr8⟩ => ?_
      have I8' := I8.pinned (fpY fr8) (T.obj _ _ st8)
      have pinK : ∀ {σ' : St} {H' : Hp} {s' : Shared}, Inv Y ([] ++ pinsAt fp s8.heap) σ' H' s' → tn (i + 1) s'.heap ∧ ∀ b ∈ fp, H' b = none := fun {σ' H' s'} I' =>
        ⟨T.keep _ _ _ st8 fun b hb o e => (I'.pin (b, o) (List.mem_append_right _ (List.mem_append_right _ (mem_pinsAt hb e)))).1, fun b hb => by
          obtain ⟨o, e, _⟩ := T.obj _ _ st8 b hb
          exact (I'.pin (b, o) (List.mem_append_right _ (List.mem_append_right _ (mem_pinsAt hb e)))).2.1⟩
      have dg := hg _ s8 _ H8 x u _ I8' r8 (step x H8 y8')
      rw [y1, y2, y5, y6] at dg
      refine thn dg fun _ s9 ⟨σ9, H9, I9, wk, q9⟩ => ?_
      have dt := ht _ s9 σ9 H9 _ I9 q9
      rw [y1, y2, y5, y6] at dt
      refine thn dt fun ok s10 ⟨H10, I10, q10⟩ => ?_
      cases ok with
      | true =>
        rw [if_pos rfl] at q10 ⊢
        have de := he _ s10 σ9 H10 _ I10 q10
        rw [y1, y2, y5, y6] at de
        refine thn de fun y s11 ⟨v11, H11, I11, r11, ys, hys, hz, m', hm, w11⟩ => ?_
        have da := mt_append (X := Y) _ s11 σ9 H11 (.ref s2.heap.objs.size) [v11] (.ref s2.heap.objs.size) [y] (fun _ H' => H' = upd H11 s2.heap.objs.size (.lst (ys ++ [v11]))) I11 rfl (.cons r11 .nil) ⟨_, ys, v11, rfl, rfl, hys, hz, rfl⟩
        rw [y1, y2, y5, y6] at da
        refine thn da fun _ s12 ⟨v12, H12, I12, r12, e12⟩ => ?_
        subst e12
        obtain ⟨t12, f12⟩ := pinK I12
        exact ⟨m', hm, i + 1, _, (I12.unpinned).weak wk.1.symm wk.2, t12, f12, w11⟩
      | false =>
        rw [if_neg Bool.false_ne_true] at q10 ⊢
        obtain ⟨m', hm, w10⟩ := q10
        obtain ⟨t10, f10⟩ := pinK I10
        exact ⟨m', hm, i + 1, _, (I10.unpinned).weak wk.1.symm wk.2, t10, f10, w10⟩
  rw [e5] at loop
  exact codeAny_compStart_list (loop _ rfl) (T.self _ 0 _ _ _ st4 (loop _ rfl))

/-- a list comprehension of one clause -/
theorem pe_comp (hc : X.calm = true) (SC : CScope X scope own) (hi : PI X.nox tg iter wi)
    (hblock : ∀ fp C s H, PG (cxC X scope own fp C s H) tg g ∧ PTs (cxC X scope own fp C s H) ifs tt ∧ PE (cxC X scope own fp C s H) elt te)
    (hs : ∀ x, foldedSetIterable iter X.env x = pure x := by intro _; rfl) :
    PE X.nox (.ListComp elt [⟨tg, iter, ifs, 0⟩] scope pos) (tComp wi g tt te own.length) := by
  intro pins s σ H Q I h
  have fr : ∀ p ∈ scope.names, p.2 = .free → ∃ c, X.env.cells.lookup p.1 = some c := fun p hp hq => I.ok.has p.1 (SC.free p hp hq)
  rw [eval_ListComp]
  refine wpAny_comprehension_free (use := none) rfl hs (closure_is fr) SC.kind SC.names (thn (hi pins s σ H _ I h) fun v s1 h1 => thn h1 fun itv s2 h2 => ?_)
  obtain ⟨it, fp, tn, J, H2, e, I2, T, st2, f2, h2⟩ := h2
  subst e
  refine comp_run (X := X.nox) (own := own) (RR := fun acc C => compPost (model X.prog X.w) X.A (fun _ _ => False) none (EP X.nox pins σ Q) acc C) hc ⟨SC.kind, SC.nocell, SC.names, SC.free, SC.apart⟩ (fun C s H => hblock fp C s H) I2 T st2 f2 h2 ?_
  intro acc C H' m s' I' hn hL hcl hC hH q
  obtain ⟨f0, f1, f2', f3, f4, f5⟩ := I2.fpOk hC hH
  refine ⟨m, hn, fun h' hsb => ⟨.ref acc, H', ?_, rfl, q⟩⟩
  exact I'.turned (t' := s'.toks) (fun b o hb e => (hsb.2 b hb).trans e) f0 f1 f3 f4 f5
/-- x = [..]: the list is stored before the comprehension's names go -/
theorem ps_setcomp {i : Nat} {x : Str} {px : Pos} {spos : Pos} (hc : X.calm = true) (SC : CScope X scope own) (hN : X.N.Nodup) (hx : X.N[i]? = some x) (hl : X.env.scope.names.lookup x = some .local) (hi : PI X.nox tg iter wi)
    (hblock : ∀ fp C s H, PG (cxC X scope own fp C s H) tg g ∧ PTs (cxC X scope own fp C s H) ifs tt ∧ PE (cxC X scope own fp C s H) elt te)
    (hsw : swapsWith (.ListComp elt [⟨tg, iter, ifs, 0⟩] scope pos) (some (.Name x px)) spos.line X.env = pure true)
    (hs : ∀ x, foldedSetIterable iter X.env x = pure x := by intro _; rfl) :
    PS X.nox (.Assign [.Name x px] (.ListComp elt [⟨tg, iter, ifs, 0⟩] scope pos) spos) (tAsg (tComp wi g tt te own.length) (gName i)) := by
  intro pins s σ H D I h
  have fr : ∀ p ∈ scope.names, p.2 = .free → ∃ c, X.env.cells.lookup p.1 = some c := fun p hp hq => I.ok.has p.1 (SC.free p hp hq)
  show wpAny (model X.prog X.w) X.A (exec _ X.env) _ _ s
  rw [exec_Assign_Name_used _ _ _ _ hsw]
  refine wpAny_bind (wpAny_standAt (wpAny_bind ?_))
  show wpAny _ X.A (do let _ ← comprehension (.ListComp elt [⟨tg, iter, ifs, 0⟩] scope pos) scope X.env _ (newList []) false (eval iter X.env) (some (assign (.Name x px) X.env))) _ _ s
  refine wpAny_bind (wpAny_mono (wpAny_comprehension_free (use := some (assign (.Name x px) X.env)) (Q := fun _ s' => SP X.nox pins D .next s') rfl hs (closure_is fr) SC.kind SC.names
    (thn (hi pins s σ H _ I h) fun v s1 h1 => thn h1 fun itv s2 h2 => ?_)) (fun _ s' hq => wpAny_pure (wpAny_pure hq)) fun _ _ e => e)
  obtain ⟨it, fp, tn, J, H2, e, I2, T, st2, f2, h2⟩ := h2
  subst e
  refine comp_run (X := X.nox) (own := own) (Q := fun v H1 => gName i v σ H1 D.nx) (RR := fun acc C => compPost (model X.prog X.w) X.A (fun _ _ => False) (some (assign (.Name x px) X.env)) (fun _ s' => SP X.nox pins D .next s') acc C) hc ⟨SC.kind, SC.nocell, SC.names, SC.free, SC.apart⟩ (fun C s H => hblock fp C s H) I2 T st2 f2 h2 ?_
  intro acc C H' m s' I' hn hL hcl hC hH q
  obtain ⟨f0, f1, f2', f3, f4, f5⟩ := I2.fpOk hC hH
  show wpAny (model X.prog X.w) X.A (assign (.Name x px) X.env (.ref acc)) _ _ s'
  refine wpAny_assign_Name (store_ok2 (X := X.nox) I' hN hx (.inl hl) (v := .ref acc) rfl (fun s'' I'' hch => ?_) (.inr hl))
  obtain ⟨a, hsa, ha⟩ := hch
  have hCa : C ≠ a := by
    rcases ha with z | z
    · rw [z]; exact hL
    · exact fun y => hcl x a z y.symm
  refine ⟨m, hn.sameBut hsa hCa, fun h' hsb => ?_⟩
  exact ⟨_, H', I''.turned (t' := s''.toks) (fun b o hb e => (hsb.2 b hb).trans e) f0 f1 f3 f4 f5, q⟩
end
end L2
end
section
set_option Elab.async false
set_option linter.all false
set_option maxRecDepth 100000
set_option maxHeartbeats 4000000
namespace L2
open PySem PySem.Spec PyProof.Rows
section
variable {X : Cx} {pins : List (Addr × Obj)} {σ : St} {H : Hp} {s : Shared} {h' : Heap}
/-- the records at ch have turned, a new object is laid and tracked -/
theorem Inv.turnedNew {t' : Nat} {ch : List Addr} {p : Addr} {o : HO} (I : Inv X pins σ H s) (hp : s.heap.objs.size ≤ p) (k : ∀ b ob, b ∉ ch → s.heap.get? b = some ob → h'.get? b = some ob) (hf : ∀ b ∈ ch, FpOk X pins H b)
    (new : ObjOk X.prog X.w (upd H p o) h' p o) : Inv X pins σ (upd H p o) { s with heap := h', toks := t' } := by
  have hn : H p = none := I.hok.fresh hp
  have nit : ∀ b u, H b = some u → b ∉ ch := fun b u e z => by rw [(hf b z).1] at e; cases e
  have nep : ∀ {b ob}, s.heap.get? b = some ob → b ≠ p := fun e => Nat.ne_of_lt (Nat.lt_of_lt_of_le (Heap.lt_size e) hp)
  refine I.step (g' := s.gens) (d' := s.drawn) (ch := ch) (fun b hb => ⟨(hf b hb).2.2.2.1, (hf b hb).2.1, (hf b hb).2.2.2.2.1, (hf b hb).2.2.2.2.2⟩) (fun b ob _ _ hc e _ => k b ob hc e) (fun b ob _ _ hc e _ => ⟨ob.slots, k b ob hc e⟩)
    (fun b ob hc e n => by rw [upd_ne (nep e)]; exact n) (fun b ob hc e => ⟨ob, k b ob hc e⟩) (fun b xs e => by rw [upd_ne (ne_of_none e hn)]; exact e) (fun b u xs e => by rw [upd_ne (ne_of_none e hn)]; exact e)
    (fun b ps e => ⟨#[], by rw [upd_ne (ne_of_none e hn), e]; simp⟩) (fun m hm => ?_) (fun b u e => ?_) I.bare
  · obtain ⟨ob, es, ep, ho, r⟩ := hm
    exact ⟨ob, es, ep, k _ ob (fun z => (hf _ z).2.1 rfl) ho, r⟩
  · by_cases hb : b = p
    · subst hb; rw [upd_same] at e; cases e; exact new
    · rw [upd_ne hb] at e
      refine (I.hok b u e).stay (fun c v hc q => k c v ?_ q) (fun c q => by rw [upd_ne (ne_of_none q hn)]; exact q) fun c xs q => by rw [upd_ne (ne_of_none q hn)]; exact q
      rcases hc with z | z
      · rw [z]; exact nit b u e
      · exact nit c _ z
/-- the records at ch have turned -/
theorem Inv.turnedL {t' : Nat} {ch : List Addr} (I : Inv X pins σ H s) (k : ∀ b ob, b ∉ ch → s.heap.get? b = some ob → h'.get? b = some ob) (hf : ∀ b ∈ ch, FpOk X pins H b) : Inv X pins σ H { s with heap := h', toks := t' } := by
  have nit : ∀ b u, H b = some u → b ∉ ch := fun b u e z => by rw [(hf b z).1] at e; cases e
  refine I.step (g' := s.gens) (d' := s.drawn) (ch := ch) (fun b hb => ⟨(hf b hb).2.2.2.1, (hf b hb).2.1, (hf b hb).2.2.2.2.1, (hf b hb).2.2.2.2.2⟩) (fun b ob _ _ hc e _ => k b ob hc e) (fun b ob _ _ hc e _ => ⟨ob.slots, k b ob hc e⟩)
    (fun _ _ _ _ n => n) (fun b ob hc e => ⟨ob, k b ob hc e⟩) (fun _ _ e => e) (fun _ _ _ e => e) (fun b ps e => ⟨#[], by rw [e]; simp⟩) (fun m hm => ?_) (fun b u e => ?_) I.bare
  · obtain ⟨ob, es, ep, ho, r⟩ := hm
    exact ⟨ob, es, ep, k _ ob (fun z => (hf _ z).2.1 rfl) ho, r⟩
  · refine (I.hok b u e).stay (fun c v hc q => k c v ?_ q) (fun _ q => q) fun _ _ q => q
    rcases hc with z | z
    · rw [z]; exact nit b u e
    · exact nit c _ z
end
end L2
end
section
set_option Elab.async false
set_option linter.all false
set_option maxRecDepth 100000
set_option maxHeartbeats 4000000
/-! walks over a list or a tuple (b: a list), by themselves, two at a time, or counted -/
namespace L2
open PySem PySem.Spec PyProof.Rows
def SeqB (b : Bool) (h : Heap) (l : Addr) (xs : Array Value) : Prop := match b with | true => h.IsList l xs | false => h.IsTuple l xs
def IterB (b : Bool) (h : Heap) (it l : Addr) (i : Nat) : Prop := match b with | true => h.IsListIter it l i | false => h.IsTupleIter it l i
def iterCls (b : Bool) : String := match b with | true => "list_iterator" | false => "tuple_iterator"
section
variable {b : Bool} {h h' : Heap} {it l c : Addr} {i : Nat} {xs : Array Value}
theorem SeqB.move (x : SeqB b h l xs) (e : Heap.ExtBut c h h') (n : l ≠ c) : SeqB b h' l xs := by
  cases b
  · exact Heap.IsTuple.extBut x e n
  · exact Heap.IsList.extBut x e n
theorem SeqB.push {o : Obj} (x : SeqB b h l xs) : SeqB b (h.push o) l xs := by
  cases b
  · exact Heap.IsTuple.push x o
  · exact Heap.IsList.push x o
theorem SeqB.lt (x : SeqB b h l xs) : l < h.objs.size := by
  cases b <;> (obtain ⟨_, e, _⟩ := x; exact Heap.lt_size e)
theorem IterB.move (x : IterB b h it l i) (e : Heap.ExtBut c h h') (n : it ≠ c) : IterB b h' it l i := by
  cases b
  · exact Heap.IsTupleIter.extBut x e n
  · exact Heap.IsListIter.extBut x e n
theorem IterB.to (x : IterB b h it l i) (k : ∀ o, h.get? it = some o → h'.get? it = some o) : IterB b h' it l i := by
  cases b <;> (obtain ⟨o, e, r⟩ := x; exact ⟨o, k o e, r⟩)
theorem IterB.obj (x : IterB b h it l i) : ∃ o, h.get? it = some o ∧ ∀ v, o.data ≠ .cell v := by
  cases b <;> (obtain ⟨o, e, _, d⟩ := x; exact ⟨o, e, fun v z => by rw [d] at z; cases z⟩)
theorem IterB.lt (x : IterB b h it l i) : it < h.objs.size := let ⟨_, e, _⟩ := x.obj; Heap.lt_size e
end
section
variable {P : Program} {w : World} {A : Around} {E : Value → Shared → Prop} {s : Shared} {b : Bool} {it l : Addr} {i : Nat} {xs : Array Value} {Q : Value → Shared → Prop}
theorem iterB (x : SeqB b s.heap l xs) (q : Q (.ref s.heap.objs.size) { s with heap := s.heap.push { cls := .type (iterCls b), data := .fields #[.ref l, .int 0 0] } }) : wpAny (model P w) A (pyIter (.ref l)) Q E s := by
  cases b
  · exact wpAny_pyIter_tuple x q
  · exact wpAny_pyIter_list x q
theorem nextT {x : Value} (hi : s.heap.IsTupleIter it l i) (hl : s.heap.IsTuple l xs) (hx : xs[i]? = some x) (q : ∀ h', h'.IsTupleIter it l (i + 1) → Heap.SameBut it s.heap h' → Q x { s with heap := h' }) : wpAny (model P w) A (Builtin.SmallTypes.nextOf (.ref it)) Q E s := by
  obtain ⟨oi, ei, ci, di⟩ := id hi
  obtain ⟨os, es, _, ns, ds⟩ := hl
  unfold Builtin.SmallTypes.nextOf
  refine wpAny_bind (wpAny_callSpecial?_slot (name := Str.ofString "__next__") hi.typeIs F.slot_tuple_iterator_next (wpAny_call_entry F.slot_tuple_iterator_next hi.typeIs F.entry_tuple_iterator_next ?_ (F.args_tuple_iterator_next_1 _)))
  show wpAny _ _ (field (.ref it) 0 >>= _) _ _ s; refine wpAny_bind (wpAny_field ei di (x := .ref l) rfl ?_)
  show wpAny _ _ (if (Value.ref l == Value.none) = true then _ else _) _ _ s; rw [if_neg (show ¬ ((Value.ref l == Value.none) = true) from Bool.false_ne_true)]
  show wpAny _ _ (field (.ref it) 1 >>= _) _ _ s; refine wpAny_bind (wpAny_field ei di (x := .int i 0) rfl ?_)
  show wpAny _ _ (seqItems? (.ref l) >>= _) _ _ s; refine wpAny_bind (wpAny_seqItems es ds ?_)
  simp only [Int.toNat_natCast, hx]
  refine wpAny_bind (wpAny_setField ei di (by simp) (wpAny_pure ⟨x, rfl, wpAny_pure (q _ ⟨_, Heap.get?_update_self _ ei (Obj.isFreed_of_fields (Obj.data_mapFields di _)), (Obj.cls_mapFields ..).trans ci, ?_⟩ (Heap.SameBut.update ..))⟩))
  rw [Obj.data_mapFields di]; simp [rawInt]
theorem stopT (hh : A.handled = none) (hi : s.heap.IsTupleIter it l i) (hl : s.heap.IsTuple l xs) (hx : xs[i]? = none)
    (q : ∀ h' e, Heap.ExtBut it s.heap h' → (∃ o, h'.get? e = some o ∧ o.cls = .type "StopIteration") → E (.ref e) { s with heap := h' }) : wpAny (model P w) A (Builtin.SmallTypes.nextOf (.ref it)) Q E s := by
  obtain ⟨oi, ei, ci, di⟩ := id hi
  obtain ⟨os, es, _, ns, ds⟩ := hl
  unfold Builtin.SmallTypes.nextOf
  refine wpAny_bind (wpAny_callSpecial?_slot (name := Str.ofString "__next__") hi.typeIs F.slot_tuple_iterator_next (wpAny_call_entry F.slot_tuple_iterator_next hi.typeIs F.entry_tuple_iterator_next ?_ (F.args_tuple_iterator_next_1 _)))
  show wpAny _ _ (field (.ref it) 0 >>= _) _ _ s; refine wpAny_bind (wpAny_field ei di (x := .ref l) rfl ?_)
  show wpAny _ _ (if (Value.ref l == Value.none) = true then _ else _) _ _ s; rw [if_neg (show ¬ ((Value.ref l == Value.none) = true) from Bool.false_ne_true)]
  show wpAny _ _ (field (.ref it) 1 >>= _) _ _ s; refine wpAny_bind (wpAny_field ei di (x := .int i 0) rfl ?_)
  show wpAny _ _ (seqItems? (.ref l) >>= _) _ _ s; refine wpAny_bind (wpAny_seqItems es ds ?_)
  simp only [Int.toNat_natCast, hx]
  refine wpAny_bind (wpAny_rule (wpAny_bind (wpAny_setField ei di (by simp) ?_))); show wpAny _ _ (newExc (.type "StopIteration") [] >>= _) _ _ _
  refine wpAny_bind ?_; simp only [newExc, newTuple]
  refine wpAny_bind (wpAny_newObj_type ?_ (by size_fits)); refine wpAny_bind (m := firstArgMember _ _) (wpAny_of_eq (a := Value.none) (by first | rfl | (simp only [firstArgMember]; rfl)) ?_)
  refine wpAny_newObj_type ?_ (by size_fits); simp only [raiseNew]; refine wpAny_bind (wpAny_handled ?_)
  first | rw [show A.in1.handled = none from hh] | rw [hh]
  exact wpAny_bind (wpAny_pure (wpAny_throw (q _ _ (((Heap.SameBut.update ..).extBut.push _).push _) ⟨_, Heap.get?_push_size _ rfl, rfl⟩)))
theorem nextB {x : Value} (hi : IterB b s.heap it l i) (hl : SeqB b s.heap l xs) (hx : xs[i]? = some x) (q : ∀ h', IterB b h' it l (i + 1) → Heap.SameBut it s.heap h' → Q x { s with heap := h' }) : wpAny (model P w) A (Builtin.SmallTypes.nextOf (.ref it)) Q E s := by
  cases b
  · exact nextT hi hl hx q
  · exact wpAny_nextOf_list_item hi hl hx q
theorem stopB (hh : A.handled = none) (hi : IterB b s.heap it l i) (hl : SeqB b s.heap l xs) (hx : xs[i]? = none)
    (q : ∀ h' e, Heap.ExtBut it s.heap h' → (∃ o, h'.get? e = some o ∧ o.cls = .type "StopIteration") → E (.ref e) { s with heap := h' }) : wpAny (model P w) A (Builtin.SmallTypes.nextOf (.ref it)) Q E s := by
  cases b
  · exact stopT hh hi hl hx q
  · exact wpAny_nextOf_list_end hh hi hl hx q
end
/-! ### two at a time -/
section
variable {P : Program} {w : World} {A : Around} {E : Value → Shared → Prop} {s : Shared} {p q : Bool} {z TI TO i1 i2 l1 l2 : Addr} {k1 k2 : Nat} {xs ys : Array Value} {x y a b : Value}
theorem zipB_item {Q : Value → Shared → Prop} (D : ZipApart z TI TO i1 i2 l1 l2) (zz : IsZip s.heap z TI TO .none) (zi : IsPair s.heap TI (.ref i1) (.ref i2)) (zo : IsPair s.heap TO a b)
    (t1 : IterB p s.heap i1 l1 k1) (t2 : IterB q s.heap i2 l2 k2) (m1 : SeqB p s.heap l1 xs) (m2 : SeqB q s.heap l2 ys) (ex : xs[k1]? = some x) (ey : ys[k2]? = some y)
    (K : ∀ h', IsZip h' z TI TO (rawInt s.heap.objs.size) → IsPair h' TO x y → IterB p h' i1 l1 (k1 + 1) → IterB q h' i2 l2 (k2 + 1) → IsPair h' s.heap.objs.size x y →
      (∀ c o, c ≠ z → c ≠ TO → c ≠ i1 → c ≠ i2 → s.heap.get? c = some o → h'.get? c = some o) → Q (.ref s.heap.objs.size) { s with heap := h' }) :
    wpAny (model P w) A (Builtin.«zip.__next__» ⟨[.ref z], []⟩) (fun fin s' => ∃ v, fin = .done (.ret v) ∧ Q v s') E s := by
  show wpAny _ _ (field (.ref z) 2 >>= _) _ _ _; refine wpAny_bind (wpAny_field zz rfl (x := .bool false) rfl ?_)
  show wpAny _ _ (field (.ref z) 3 >>= _) _ _ _; refine wpAny_bind (wpAny_field zz rfl (x := .ref TI) rfl (wpAny_bind (wpAny_seqItems zi rfl ?_)))
  show wpAny _ _ (Builtin.SmallTypes.ownedTupleIsFree (.ref z) >>= _) _ _ _; refine wpAny_bind ?_; unfold Builtin.SmallTypes.ownedTupleIsFree
  refine wpAny_bind (wpAny_field zz rfl (x := .none) rfl (wpAny_pure ?_)); simp only [if_true]
  refine wpAny_bind (wpAny_rule (wpAny_bind (wpAny_field zz rfl (x := .ref TO) rfl (wpAny_bind (wpAny_setField_rec zz (by simp) fun g1 z1 b1 => ?_)))))
  replace z1 : IsZip g1 z TI TO .ellipsis := z1
  refine wpAny_bind ?_; simp only [List.zipIdx_cons, List.zipIdx_nil, List.forIn_cons, List.forIn_nil]
  refine wpAny_bind (wpAny_bind (wpAny_onRaise ?_)); show wpAny _ _ (Builtin.SmallTypes.nextOf (.ref i1) >>= _) _ _ _
  refine wpAny_bind (nextB (t1.move b1.extBut D.i1z) (m1.move b1.extBut D.l1z) ex fun g2 t12 b2 => wpAny_pure ?_)
  have o2 : IsPair g2 TO a b := b2.extBut _ _ D.TOi1 (b1.extBut _ _ D.TOz zo)
  refine wpAny_bind (wpAny_seqItems o2 rfl (wpAny_bind (wpAny_updateSeq_pair o2 fun g3 o3 b3 => ?_)))
  replace o3 : IsPair g3 TO x b := o3
  refine wpAny_bind (wpAny_letGo (wpAny_pure (wpAny_bind (wpAny_bind (wpAny_onRaise ?_))))); show wpAny _ _ (Builtin.SmallTypes.nextOf (.ref i2) >>= _) _ _ _
  refine wpAny_bind (nextB (((t2.move b1.extBut D.i2z).move b2.extBut D.i12.symm).move b3.extBut D.TOi2.symm) (((m2.move b1.extBut D.l2z).move b2.extBut D.l2i1).move b3.extBut D.l2TO) ey fun g4 t24 b4 => wpAny_pure ?_)
  have o4 : IsPair g4 TO x b := b4.extBut _ _ D.TOi2 o3
  refine wpAny_bind (wpAny_seqItems o4 rfl (wpAny_bind (wpAny_updateSeq_pair o4 fun g5 o5 b5 => ?_)))
  replace o5 : IsPair g5 TO x y := o5
  refine wpAny_bind (wpAny_letGo (wpAny_pure (wpAny_pure (wpAny_bind (wpAny_seqItems o5 rfl (wpAny_bind (wpAny_newTuple ?_)))))))
  have sz : g5.objs.size = s.heap.objs.size := by rw [b5.1, b4.1, b3.1, b2.1, b1.1]
  have z5 : IsZip g5 z TI TO .ellipsis := b5.extBut _ _ D.TOz.symm (b4.extBut _ _ D.i2z.symm (b3.extBut _ _ D.TOz.symm (b2.extBut _ _ D.i1z.symm z1)))
  have kk : ∀ c o, c ≠ z → c ≠ TO → c ≠ i1 → c ≠ i2 → s.heap.get? c = some o → g5.get? c = some o := fun c o c1 c2 c3 c4 e => b5.extBut _ _ c2 (b4.extBut _ _ c4 (b3.extBut _ _ c2 (b2.extBut _ _ c3 (b1.extBut _ _ c1 e))))
  have t15 : IterB p g5 i1 l1 (k1 + 1) := ((t12.move b3.extBut D.TOi1.symm).move b4.extBut D.i12).move b5.extBut D.TOi1.symm
  have t25 : IterB q g5 i2 l2 (k2 + 1) := t24.move b5.extBut D.TOi2.symm
  have zlt : z < g5.objs.size := Heap.lt_size z5
  show wpAny _ _ (Builtin.SmallTypes.ownedTupleHandOut (.ref z) (.ref g5.objs.size) >>= _) _ _ _; refine wpAny_bind ?_; unfold Builtin.SmallTypes.ownedTupleHandOut
  have z6 : IsZip (g5.push { cls := .type "tuple", data := .seq #[x, y] }) z TI TO .ellipsis := Heap.get?_push_of_some _ z5
  refine wpAny_bind (wpAny_setField_rec z6 (by simp) fun g7 z7 b7 => ?_); replace z7 : IsZip g7 z TI TO (rawInt g5.objs.size) := z7
  refine wpAny_setField_rec z7 (by simp) fun g8 z8 b8 => ?_; replace z8 : IsZip g8 z TI TO (rawInt g5.objs.size) := z8
  have up : ∀ c o, c ≠ z → g5.get? c = some o → g8.get? c = some o := fun c o c1 e => b8.extBut _ _ c1 (b7.extBut _ _ c1 (Heap.get?_push_of_some _ e))
  have tt : IsPair g8 g5.objs.size x y := b8.extBut _ _ (Nat.ne_of_gt zlt) (b7.extBut _ _ (Nat.ne_of_gt zlt) (Heap.get?_push_size _ rfl))
  rw [sz] at z8 tt
  refine wpAny_pure ⟨_, rfl, ?_⟩; show Q (.ref g5.objs.size) _; rw [sz]
  exact K g8 z8 (up _ _ D.TOz o5) (t15.to fun o e => up _ o D.i1z e) (t25.to fun o e => up _ o D.i2z e) tt fun c o c1 c2 c3 c4 e => up c o c1 (kk c o c1 c2 c3 c4 e)
theorem zipB_end {Q : Fin → Shared → Prop} (hh : A.handled = none) (D : ZipApart z TI TO i1 i2 l1 l2) (zz : IsZip s.heap z TI TO .none) (zi : IsPair s.heap TI (.ref i1) (.ref i2)) (zo : IsPair s.heap TO a b)
    (t1 : IterB p s.heap i1 l1 k1) (t2 : IterB q s.heap i2 l2 k2) (m1 : SeqB p s.heap l1 xs) (m2 : SeqB q s.heap l2 ys) (en : xs[k1]? = none ∨ ys[k2]? = none)
    (K : ∀ h' e, (∀ c o, c ≠ z → c ≠ TO → c ≠ i1 → c ≠ i2 → s.heap.get? c = some o → h'.get? c = some o) → (∃ o, h'.get? e = some o ∧ o.cls = .type "StopIteration") → E (.ref e) { s with heap := h' }) :
    wpAny (model P w) A (Builtin.«zip.__next__» ⟨[.ref z], []⟩) Q E s := by
  show wpAny _ _ (field (.ref z) 2 >>= _) _ _ _; refine wpAny_bind (wpAny_field zz rfl (x := .bool false) rfl ?_)
  show wpAny _ _ (field (.ref z) 3 >>= _) _ _ _; refine wpAny_bind (wpAny_field zz rfl (x := .ref TI) rfl (wpAny_bind (wpAny_seqItems zi rfl ?_)))
  show wpAny _ _ (Builtin.SmallTypes.ownedTupleIsFree (.ref z) >>= _) _ _ _; refine wpAny_bind ?_; unfold Builtin.SmallTypes.ownedTupleIsFree
  refine wpAny_bind (wpAny_field zz rfl (x := .none) rfl (wpAny_pure ?_)); simp only [if_true]
  refine wpAny_bind (wpAny_rule (wpAny_bind (wpAny_field zz rfl (x := .ref TO) rfl (wpAny_bind (wpAny_setField_rec zz (by simp) fun g1 z1 b1 => ?_)))))
  replace z1 : IsZip g1 z TI TO .ellipsis := z1
  refine wpAny_bind ?_; simp only [List.zipIdx_cons, List.zipIdx_nil, List.forIn_cons, List.forIn_nil]
  refine wpAny_bind (wpAny_bind (wpAny_onRaise ?_)); show wpAny _ _ (Builtin.SmallTypes.nextOf (.ref i1) >>= _) _ _ _
  have fin : ∀ {g : Heap} {e : Addr} {o : Obj}, IsZip g z TI TO .ellipsis → g.get? e = some o → o.cls = .type "StopIteration" → e ≠ z := fun h1 h2 h3 x => by subst x; rw [h1] at h2; cases h2; simp at h3
  cases hx : xs[k1]? with
  | none =>
    refine wpAny_bind (stopB hh (t1.move b1.extBut D.i1z) (m1.move b1.extBut D.l1z) hx fun g2 e b2 he => ?_)
    obtain ⟨oe, e1, e2⟩ := he
    have z2 : IsZip g2 z TI TO .ellipsis := b2 _ _ D.i1z.symm z1
    exact wpAny_setField_rec z2 (by simp) fun g3 _ b3 => K g3 e (fun c o c1 _ c3 _ x => b3.extBut _ _ c1 (b2 _ _ c3 (b1.extBut _ _ c1 x))) ⟨oe, b3.extBut _ _ (fin z2 e1 e2) e1, e2⟩
  | some x =>
    have hy : ys[k2]? = none := by rcases en with h | h; rw [hx] at h; cases h; exact h
    refine wpAny_bind (nextB (t1.move b1.extBut D.i1z) (m1.move b1.extBut D.l1z) hx fun g2 t12 b2 => wpAny_pure ?_)
    have o2 : IsPair g2 TO a b := b2.extBut _ _ D.TOi1 (b1.extBut _ _ D.TOz zo)
    refine wpAny_bind (wpAny_seqItems o2 rfl (wpAny_bind (wpAny_updateSeq_pair o2 fun g3 o3 b3 => wpAny_bind (wpAny_letGo (wpAny_pure (wpAny_bind (wpAny_bind (wpAny_onRaise ?_))))))))
    show wpAny _ _ (Builtin.SmallTypes.nextOf (.ref i2) >>= _) _ _ _
    refine wpAny_bind (stopB hh (((t2.move b1.extBut D.i2z).move b2.extBut D.i12.symm).move b3.extBut D.TOi2.symm) (((m2.move b1.extBut D.l2z).move b2.extBut D.l2i1).move b3.extBut D.l2TO) hy fun g4 e b4 he => ?_)
    obtain ⟨oe, e1, e2⟩ := he
    have z4 : IsZip g4 z TI TO .ellipsis := b4 _ _ D.i2z.symm (b3.extBut _ _ D.TOz.symm (b2.extBut _ _ D.i1z.symm z1))
    exact wpAny_setField_rec z4 (by simp) fun g5 _ b5 => K g5 e (fun c o c1 c2 c3 c4 x => b5.extBut _ _ c1 (b4 _ _ c4 (b3.extBut _ _ c2 (b2.extBut _ _ c3 (b1.extBut _ _ c1 x))))) ⟨oe, b5.extBut _ _ (fin z4 e1 e2) e1, e2⟩
theorem zipB_next {Q : Option Value → Shared → Prop} (D : ZipApart z TI TO i1 i2 l1 l2) (zz : IsZip s.heap z TI TO .none) (zi : IsPair s.heap TI (.ref i1) (.ref i2)) (zo : IsPair s.heap TO a b)
    (t1 : IterB p s.heap i1 l1 k1) (t2 : IterB q s.heap i2 l2 k2) (m1 : SeqB p s.heap l1 xs) (m2 : SeqB q s.heap l2 ys) (ex : xs[k1]? = some x) (ey : ys[k2]? = some y)
    (K : ∀ h', IsZip h' z TI TO (rawInt s.heap.objs.size) → IsPair h' TO x y → IterB p h' i1 l1 (k1 + 1) → IterB q h' i2 l2 (k2 + 1) → IsPair h' s.heap.objs.size x y →
      (∀ c o, c ≠ z → c ≠ TO → c ≠ i1 → c ≠ i2 → s.heap.get? c = some o → h'.get? c = some o) → Q (some (.ref s.heap.objs.size)) { s with heap := h' }) : wpAny (model P w) A (pyNext (.ref z)) Q E s := by
  have ty : s.TypeIs (.ref z) "zip" := ⟨_, zz, rfl⟩
  unfold pyNext
  exact wpAny_bind (wpAny_attempt (wpAny_callSpecial?_slot (name := Str.ofString "__next__") ty F.slot_zip_next (wpAny_call_entry F.slot_zip_next ty F.entry_zip_next (zipB_item D zz zi zo t1 t2 m1 m2 ex ey fun h' a1 a2 a3 a4 a5 a6 => wpAny_pure (K h' a1 a2 a3 a4 a5 a6)) (F.args_zip_next_1 _))))
theorem zipB_stop {Q : Option Value → Shared → Prop} (hh : A.handled = none) (D : ZipApart z TI TO i1 i2 l1 l2) (zz : IsZip s.heap z TI TO .none) (zi : IsPair s.heap TI (.ref i1) (.ref i2)) (zo : IsPair s.heap TO a b)
    (t1 : IterB p s.heap i1 l1 k1) (t2 : IterB q s.heap i2 l2 k2) (m1 : SeqB p s.heap l1 xs) (m2 : SeqB q s.heap l2 ys) (en : xs[k1]? = none ∨ ys[k2]? = none)
    (K : ∀ h', (∀ c o, c ≠ z → c ≠ TO → c ≠ i1 → c ≠ i2 → s.heap.get? c = some o → h'.get? c = some o) → Q none { s with heap := h' }) : wpAny (model P w) A (pyNext (.ref z)) Q E s := by
  have ty : s.TypeIs (.ref z) "zip" := ⟨_, zz, rfl⟩
  unfold pyNext
  refine wpAny_bind (wpAny_attempt (wpAny_callSpecial?_slot (name := Str.ofString "__next__") ty F.slot_zip_next (wpAny_call_entry F.slot_zip_next ty F.entry_zip_next (zipB_end hh D zz zi zo t1 t2 m1 m2 en fun h' e hk he => ?_) (F.args_zip_next_1 _))))
  obtain ⟨o, e1, e2⟩ := he
  exact wpAny_bind (wpAny_isInstance (T := "StopIteration") (b := true) ⟨o, e1, e2⟩ isSubtype_stop (wpAny_pure (K _ hk)))
end
abbrev zb1 (p : Bool) (h : Heap) (l1 : Addr) : Heap := h.push { cls := .type (iterCls p), data := .fields #[.ref l1, .int 0 0] }
abbrev zb2 (p q : Bool) (h : Heap) (l1 l2 : Addr) : Heap := (zb1 p h l1).push { cls := .type (iterCls q), data := .fields #[.ref l2, .int 0 0] }
abbrev zb3 (p q : Bool) (h : Heap) (l1 l2 : Addr) : Heap := (zb2 p q h l1 l2).push { cls := .type "tuple", data := .seq #[.ref h.objs.size, .ref (zb1 p h l1).objs.size] }
abbrev zb4 (p q : Bool) (h : Heap) (l1 l2 : Addr) : Heap := (zb3 p q h l1 l2).push { cls := .type "tuple", data := .seq #[.none, .none] }
abbrev zb5 (p q : Bool) (h : Heap) (l1 l2 : Addr) : Heap := (zb4 p q h l1 l2).push { cls := .type "zip", data := .fields #[.none, .bool false, .bool false, .ref (zb2 p q h l1 l2).objs.size, .ref (zb3 p q h l1 l2).objs.size] }
theorem meets_zipB (p q : Bool) (l1 l2 : Addr) (xs ys : Array Value) :
    Meets (Builtin.«zip.__new__» ⟨[.type "zip", .ref l1, .ref l2], []⟩) (fun _ R s => SeqB p s.heap l1 xs ∧ SeqB q s.heap l2 ys ∧ R (.ok (.ret (.ref (zb4 p q s.heap l1 l2).objs.size))) { s with heap := zb5 p q s.heap l1 l2 }) :=
  .of_wp fun prog w A R s h => by
    obtain ⟨hp, g, d, tk, os⟩ := s; obtain ⟨m1, m2, h⟩ := h
    have hsub := sub_zip
    have M1 : SeqB p (Shared.heap ⟨hp, g, d, tk, os⟩) l1 xs := m1
    have M2 : SeqB q (Shared.heap ⟨hp.push { cls := .type (iterCls p), data := .fields #[.ref l1, .int 0 0] }, g, d, tk, os⟩) l2 ys := SeqB.push m2
    wp_walk using iterB M1, iterB M2
    exact ⟨_, rfl, h⟩
section
variable {P : Program} {w : World} {A : Around} {E : Value → Shared → Prop} {s : Shared}
theorem call_zipB {p q : Bool} {l1 l2 : Addr} {xs ys : Array Value} {Q : Value → Shared → Prop} (m1 : SeqB p s.heap l1 xs) (m2 : SeqB q s.heap l2 ys)
    (K : ∀ h', IsZip h' (s.heap.objs.size + 4) (s.heap.objs.size + 2) (s.heap.objs.size + 3) .none → IsPair h' (s.heap.objs.size + 2) (.ref s.heap.objs.size) (.ref (s.heap.objs.size + 1)) →
      IsPair h' (s.heap.objs.size + 3) .none .none → IterB p h' s.heap.objs.size l1 0 → IterB q h' (s.heap.objs.size + 1) l2 0 → (∀ c o, s.heap.get? c = some o → h'.get? c = some o) → Q (.ref (s.heap.objs.size + 4)) { s with heap := h' }) :
    wpAny (model P w) A (call (.type "zip") [.ref l1, .ref l2]) Q E s := by
  refine callType_new F.called_zip (by decide) (F.typeCall_zip_2 _ _) (F.newCall_zip_2 _ _) (fun obj => F.args_object_init_3 obj _ _) F.entry_zip_new (meets_zipB p q l1 l2 xs ys) ⟨m1, m2, ?_⟩
  have z1 : (zb1 p s.heap l1).objs.size = s.heap.objs.size + 1 := Heap.size_push ..
  have z2 : (zb2 p q s.heap l1 l2).objs.size = s.heap.objs.size + 2 := by rw [Heap.size_push, z1]
  have z3 : (zb3 p q s.heap l1 l2).objs.size = s.heap.objs.size + 3 := by rw [Heap.size_push, z2]
  have z4 : (zb4 p q s.heap l1 l2).objs.size = s.heap.objs.size + 4 := by rw [Heap.size_push, z3]
  have f5 : (zb5 p q s.heap l1 l2).get? (zb4 p q s.heap l1 l2).objs.size = some _ := Heap.get?_push_size _ rfl
  have f4 : (zb5 p q s.heap l1 l2).get? (zb3 p q s.heap l1 l2).objs.size = some _ := Heap.get?_push_of_some _ (Heap.get?_push_size _ rfl)
  have f3 : (zb5 p q s.heap l1 l2).get? (zb2 p q s.heap l1 l2).objs.size = some _ := Heap.get?_push_of_some _ (Heap.get?_push_of_some _ (Heap.get?_push_size _ rfl))
  have f2 : (zb5 p q s.heap l1 l2).get? (zb1 p s.heap l1).objs.size = some _ := Heap.get?_push_of_some _ (Heap.get?_push_of_some _ (Heap.get?_push_of_some _ (Heap.get?_push_size _ rfl)))
  have f1 : (zb5 p q s.heap l1 l2).get? s.heap.objs.size = some _ := Heap.get?_push_of_some _ (Heap.get?_push_of_some _ (Heap.get?_push_of_some _ (Heap.get?_push_of_some _ (Heap.get?_push_size _ rfl))))
  show _ ∧ _
  rw [z2, z3, z4] at f5; rw [z1, z2] at f3; rw [z3] at f4; rw [z1] at f2; rw [z4]
  refine ⟨⟨_, f5, rfl⟩, K _ f5 f3 f4 ?_ ?_ fun c o x => Heap.get?_push_of_some _ (Heap.get?_push_of_some _ (Heap.get?_push_of_some _ (Heap.get?_push_of_some _ (Heap.get?_push_of_some _ x))))⟩
  · cases p <;> exact ⟨_, f1, rfl, rfl⟩
  · cases q <;> exact ⟨_, f2, rfl, rfl⟩
end
end L2
end
section
set_option Elab.async false
set_option linter.all false
set_option maxRecDepth 100000
set_option maxHeartbeats 4000000
namespace L2
open PySem PySem.Spec PyProof.Rows
open AutoSeq1 (wpAny_loadPart')
/-! ### counted -/
section
variable {P : Program} {w : World} {A : Around} {E : Value → Shared → Prop} {s : Shared} {p : Bool} {e it l : Addr} {i : Nat} {xs : Array Value} {x old : Value}
theorem enumB_item {Q : Value → Shared → Prop} (ee : IsEnum s.heap e it i old) (t1 : IterB p s.heap it l i) (m1 : SeqB p s.heap l xs) (ex : xs[i]? = some x) (ne : e ≠ it)
    (K : ∀ h', IsEnumOut h' e it ((i : Int) + 1) x s.heap.objs.size → IterB p h' it l (i + 1) → h'.get? s.heap.objs.size = some { cls := .type "tuple", data := .seq #[.int i s.toks, x] } →
      (∀ b o, b ≠ e → b ≠ it → s.heap.get? b = some o → h'.get? b = some o) → Q (.ref s.heap.objs.size) { s with heap := h', toks := s.toks + 1 }) :
    wpAny (model P w) A (Builtin.«enumerate.__next__» ⟨[.ref e], []⟩) (fun fin s' => ∃ v, fin = .done (.ret v) ∧ Q v s') E s := by
  obtain ⟨hp, g, d, tk, os⟩ := s
  show wpAny _ _ (field (.ref e) 2 >>= _) _ _ _; refine wpAny_bind (wpAny_field ee rfl (x := .ref it) rfl (wpAny_bind (nextB t1 m1 ex fun g1 t11 b1 => ?_)))
  replace b1 : Heap.SameBut it hp g1 := b1
  have e1 : IsEnum g1 e it i old := (b1.2 e ne).trans ee
  show wpAny _ _ (field (.ref e) 3 >>= _) _ _ ⟨g1, g, d, tk, os⟩; refine wpAny_bind (wpAny_field e1 rfl (x := rawInt i) rfl ?_)
  show wpAny _ _ (field (.ref e) 4 >>= _) _ _ ⟨g1, g, d, tk, os⟩; refine wpAny_bind (wpAny_field e1 rfl (x := .none) rfl ?_)
  show wpAny _ _ (mkInt i >>= _) _ _ ⟨g1, g, d, tk, os⟩; refine wpAny_bind (wpAny_mkInt ?_)
  show wpAny _ _ (setField (.ref e) 3 (rawInt ((i : Int) + 1)) >>= _) _ _ ⟨g1, g, d, tk + 1, os⟩; refine wpAny_bind (wpAny_setField_rec e1 (by simp) fun g2 e2 b2 => ?_)
  replace b2 : Heap.SameBut e g1 g2 := b2
  replace e2 : IsEnum g2 e it ((i : Int) + 1) old := e2
  show wpAny _ _ (setField (.ref e) 4 .none >>= _) _ _ ⟨g2, g, d, tk + 1, os⟩; refine wpAny_bind (wpAny_setField_rec e2 (by simp) fun g3 e3 b3 => ?_)
  replace b3 : Heap.SameBut e g2 g3 := b3
  replace e3 : IsEnum g3 e it ((i : Int) + 1) old := e3
  show wpAny _ _ (newTuple [.int i tk, x] >>= _) _ _ ⟨g3, g, d, tk + 1, os⟩; refine wpAny_bind (wpAny_newTuple ?_)
  have e4 : IsEnum (g3.push { cls := .type "tuple", data := .seq #[.int i tk, x] }) e it ((i : Int) + 1) old := Heap.get?_push_of_some _ e3
  generalize hg4 : g3.push { cls := .type "tuple", data := .seq #[.int i tk, x] } = g4 at e4
  have sz : g3.objs.size = hp.objs.size := by rw [b3.1, b2.1, b1.1]
  have el : e < hp.objs.size := Heap.lt_size ee
  have t4 : g4.get? hp.objs.size = some { cls := .type "tuple", data := .seq #[.int i tk, x] } := by rw [← hg4, ← sz]; exact Heap.get?_push_size _ rfl
  have k4 : ∀ b o, b ≠ e → b ≠ it → hp.get? b = some o → g4.get? b = some o := fun b o c1 c2 h => by rw [← hg4]; exact Heap.get?_push_of_some _ (b3.extBut b o c1 (b2.extBut b o c1 (b1.extBut b o c2 h)))
  have i4 : IterB p g4 it l (i + 1) := by
    rw [← hg4]; exact ((t11.move b2.extBut (Ne.symm ne)).move b3.extBut (Ne.symm ne)).to fun o h => Heap.get?_push_of_some _ h
  show wpAny _ _ (Builtin.SmallTypes.ownedTupleIsFree (.ref e) >>= _) _ _ ⟨g4, g, d, tk + 1, os⟩
  rw [sz]
  clear hg4 e3 b3 e2 b2 e1 b1 t11 sz g3 g2 g1
  refine wpAny_bind ?_; unfold Builtin.SmallTypes.ownedTupleIsFree
  refine wpAny_bind (wpAny_field e4 rfl (x := .none) rfl (wpAny_pure ?_)); simp only [if_true]
  refine wpAny_bind (wpAny_rule (wpAny_bind (wpAny_field e4 rfl (x := old) rfl (wpAny_bind (wpAny_setField_rec e4 (by simp) fun g5 e5 b5 => ?_)))))
  replace b5 : Heap.SameBut e g4 g5 := b5
  replace e5 : IsEnum g5 e it ((i : Int) + 1) x := e5
  show wpAny _ _ (Builtin.SmallTypes.ownedTupleHandOut (.ref e) (.ref hp.objs.size) >>= _) _ _ ⟨g5, g, d, tk + 1, os⟩; refine wpAny_bind ?_; unfold Builtin.SmallTypes.ownedTupleHandOut
  refine wpAny_bind (wpAny_setField_rec e5 (by simp) fun g6 e6 b6 => ?_)
  replace b6 : Heap.SameBut e g5 g6 := b6
  replace e6 : IsEnumOut g6 e it ((i : Int) + 1) x hp.objs.size := e6
  refine wpAny_setField_rec e6 (by simp) fun g7 e7 b7 => ?_
  replace b7 : Heap.SameBut e g6 g7 := b7
  replace e7 : IsEnumOut g7 e it ((i : Int) + 1) x hp.objs.size := e7
  refine wpAny_bind (wpAny_letGo (wpAny_pure ⟨_, rfl, K g7 e7 (((i4.move b5.extBut (Ne.symm ne)).move b6.extBut (Ne.symm ne)).move b7.extBut (Ne.symm ne)) ?_ fun b o c1 c2 h => b7.extBut b o c1 (b6.extBut b o c1 (b5.extBut b o c1 (k4 b o c1 c2 h)))⟩))
  exact b7.extBut _ _ (Nat.ne_of_gt el) (b6.extBut _ _ (Nat.ne_of_gt el) (b5.extBut _ _ (Nat.ne_of_gt el) t4))
theorem enumB_next {Q : Option Value → Shared → Prop} (ee : IsEnum s.heap e it i old) (t1 : IterB p s.heap it l i) (m1 : SeqB p s.heap l xs) (ex : xs[i]? = some x) (ne : e ≠ it)
    (K : ∀ h', IsEnumOut h' e it ((i : Int) + 1) x s.heap.objs.size → IterB p h' it l (i + 1) → h'.get? s.heap.objs.size = some { cls := .type "tuple", data := .seq #[.int i s.toks, x] } →
      (∀ b o, b ≠ e → b ≠ it → s.heap.get? b = some o → h'.get? b = some o) → Q (some (.ref s.heap.objs.size)) { s with heap := h', toks := s.toks + 1 }) : wpAny (model P w) A (pyNext (.ref e)) Q E s := by
  have ty : s.TypeIs (.ref e) "enumerate" := ⟨_, ee, rfl⟩
  unfold pyNext
  exact wpAny_bind (wpAny_attempt (wpAny_callSpecial?_slot (name := Str.ofString "__next__") ty F.slot_enumerate_next (wpAny_call_entry F.slot_enumerate_next ty F.entry_enumerate_next (enumB_item ee t1 m1 ex ne fun h' a b c d => wpAny_pure (K h' a b c d)) (F.args_enumerate_next_1 _))))
theorem enumB_stop {Q : Option Value → Shared → Prop} (hh : A.handled = none) (ee : IsEnum s.heap e it i old) (t1 : IterB p s.heap it l i) (m1 : SeqB p s.heap l xs) (ex : xs[i]? = none) (K : ∀ h', Heap.ExtBut it s.heap h' → Q none { s with heap := h' }) : wpAny (model P w) A (pyNext (.ref e)) Q E s := by
  have ty : s.TypeIs (.ref e) "enumerate" := ⟨_, ee, rfl⟩
  unfold pyNext
  refine wpAny_bind (wpAny_attempt (wpAny_callSpecial?_slot (name := Str.ofString "__next__") ty F.slot_enumerate_next (wpAny_call_entry F.slot_enumerate_next ty F.entry_enumerate_next ?_ (F.args_enumerate_next_1 _))))
  show wpAny _ _ (field (.ref e) 2 >>= _) _ _ _; refine wpAny_bind (wpAny_field ee rfl (x := .ref it) rfl (wpAny_bind (stopB hh t1 m1 ex fun h' v k hv => ?_)))
  obtain ⟨o, e1, e2⟩ := hv
  exact wpAny_bind (wpAny_isInstance (T := "StopIteration") (b := true) ⟨o, e1, e2⟩ isSubtype_stop (wpAny_pure (K _ k)))
end
theorem meets_enumB (p : Bool) (l : Addr) (xs : Array Value) :
    Meets (Builtin.«enumerate.__new__» ⟨[.type "enumerate", .ref l], []⟩) (fun _ R s => SeqB p s.heap l xs ∧
      R (.ok (.ret (.ref (zb1 p s.heap l).objs.size))) { s with heap := (zb1 p s.heap l).push { cls := .type "enumerate", data := .fields #[.none, .bool false, .ref s.heap.objs.size, rawInt 0, .none, .none] } }) :=
  .of_wp fun prog w A R s h => by
    obtain ⟨hp, g, d, tk, os⟩ := s; obtain ⟨m1, h⟩ := h
    have hsub := sub_enumerate
    have M1 : SeqB p (Shared.heap ⟨hp, g, d, tk, os⟩) l xs := m1
    have hob : ∃ o, hp.get? l = some o := by cases p <;> (obtain ⟨o, e, _⟩ := m1; exact ⟨o, e⟩)
    obtain ⟨ob, hl⟩ := hob
    wp_walk using wpAny_loadPart' hl
    refine wpAny_stack_any fun st => wpAny_pure ?_
    split
    · rename_i c _ _ _ _ _
      cases (c == Value.type "enumerate")
      · wp_walk using wpAny_loadPart' hl, iterB M1
        exact ⟨_, rfl, h⟩
      · wp_walk using wpAny_loadPart' hl, iterB M1
        exact ⟨_, rfl, h⟩
    · wp_walk using wpAny_loadPart' hl, iterB M1
      exact ⟨_, rfl, h⟩
section
variable {P : Program} {w : World} {A : Around} {E : Value → Shared → Prop} {s : Shared}
theorem call_enumB {p : Bool} {l : Addr} {xs : Array Value} {Q : Value → Shared → Prop} (m1 : SeqB p s.heap l xs)
    (K : ∀ h', IsEnum h' (s.heap.objs.size + 1) s.heap.objs.size 0 .none → IterB p h' s.heap.objs.size l 0 → (∀ b o, s.heap.get? b = some o → h'.get? b = some o) → Q (.ref (s.heap.objs.size + 1)) { s with heap := h' }) :
    wpAny (model P w) A (call (.type "enumerate") [.ref l]) Q E s := by
  refine callType_new F.called_enumerate (by decide) (F.typeCall_enumerate_1 _) (F.newCall_enumerate_1 _) (fun obj => F.args_object_init_2 obj _) F.entry_enumerate_new (meets_enumB p l xs) ⟨m1, ?_⟩
  have z1 : (zb1 p s.heap l).objs.size = s.heap.objs.size + 1 := Heap.size_push ..
  show _ ∧ _
  rw [z1]
  have f2 : IsEnum ((zb1 p s.heap l).push { cls := .type "enumerate", data := .fields #[.none, .bool false, .ref s.heap.objs.size, rawInt 0, .none, .none] }) (s.heap.objs.size + 1) s.heap.objs.size 0 .none := by
    have := Heap.get?_push_size (zb1 p s.heap l) (o := { cls := .type "enumerate", data := .fields #[.none, .bool false, .ref s.heap.objs.size, rawInt 0, .none, .none] }) rfl
    rw [z1] at this; exact this
  refine ⟨⟨_, f2, rfl⟩, K _ f2 ?_ fun b o x => Heap.get?_push_of_some _ (Heap.get?_push_of_some _ x)⟩
  cases p <;> exact ⟨_, Heap.get?_push_of_some _ (Heap.get?_push_size _ rfl), rfl, rfl⟩
end
/-! ### the walks as the layer has them -/
def SqB (b : Bool) (K : PySem.W.Frag) (H : Hp) (a : Addr) (xs : List V) : Prop := match b with | true => SqL K H a xs | false => SqT K H a xs
section
variable {X : Cx} {pins : List (Addr × Obj)} {σ : St} {H : Hp} {s : Shared} {a : Addr} {xs ys : List V} {b : Bool}
theorem Inv.seqB (I : Inv X pins σ H s) (h : SqB b X.K H a xs) : ∃ its : List Value, Vals xs its ∧ SeqB b s.heap a its.toArray ∧ xs.length = its.length := by
  cases b
  · obtain ⟨its, r, q, _⟩ := I.tuple h
    exact ⟨its, r, q, r.length⟩
  · obtain ⟨its, r, q, _⟩ := I.list h
    exact ⟨its, r, q.isList, r.length⟩
theorem Inv.seqB_inj (I : Inv X pins σ H s) (h : SqB b X.K H a xs) (h' : SqB b X.K H a ys) : xs = ys := by
  cases b
  · exact I.tuple_inj h h'
  · exact I.list_inj h h'
end
/-- pairs of two, as they stand at each turn -/
def Iz2 (K : PySem.W.Frag) (p q : Bool) (a b : Addr) : It :=
  ⟨fun i H => ∃ xs ys x y, SqB p K H a xs ∧ SqB q K H b ys ∧ xs[i]? = some x ∧ ys[i]? = some y,
   fun i H v H' => ∃ c, H c = none ∧ v = .ref c ∧ ∀ xs ys x y, SqB p K H a xs → SqB q K H b ys → xs[i]? = some x → ys[i]? = some y → H' = upd H c (.tup [x, y]),
   fun i H => ∃ xs ys, SqB p K H a xs ∧ SqB q K H b ys ∧ (xs.length ≤ i ∨ ys.length ≤ i)⟩
/-- the items of one, each behind its number -/
def Ien (K : PySem.W.Frag) (p : Bool) (a : Addr) : It :=
  ⟨fun i H => ∃ xs x, SqB p K H a xs ∧ xs[i]? = some x,
   fun i H v H' => ∃ c, H c = none ∧ v = .ref c ∧ ∀ xs x, SqB p K H a xs → xs[i]? = some x → H' = upd H c (.tup [.int i, x]),
   fun i H => ∃ xs, SqB p K H a xs ∧ xs.length ≤ i⟩
theorem turn_z2 {P : Program} {w : World} {K : PySem.W.Frag} {p q : Bool} {elts : List Expr} {k : Nat} {pos : Pos} {a b z TI TO i1 i2 : Addr} (D : ZipApart z TI TO i1 i2 a b) :
    Turn P w K (.Tuple elts k pos) (Iz2 K p q a b) [z, TO, i1, i2, TI] z (fun i h => IsZip h z TI TO .none ∧ IsPair h TI (.ref i1) (.ref i2) ∧ (∃ c d, IsPair h TO c d) ∧ IterB p h i1 a i ∧ IterB q h i2 b i) where
  mem := by simp
  obj := fun i h st c hc => by
    obtain ⟨zz, zi, ⟨x, y, zo⟩, t1, t2⟩ := st
    simp only [List.mem_cons, List.not_mem_nil, or_false] at hc
    rcases hc with rfl | rfl | rfl | rfl | rfl
    · exact ⟨_, zz, fun v z => by cases z⟩
    · exact ⟨_, zo, fun v z => by cases z⟩
    · exact t1.obj
    · exact t2.obj
    · exact ⟨_, zi, fun v z => by cases z⟩
  keep := fun i h h' st kk => by
    obtain ⟨zz, zi, ⟨x, y, zo⟩, t1, t2⟩ := st
    exact ⟨kk z (by simp) _ zz, kk TI (by simp) _ zi, ⟨x, y, kk TO (by simp) _ zo⟩, t1.to fun o e => kk i1 (by simp) o e, t2.to fun o e => kk i2 (by simp) o e⟩
  item := by
    intro X hP hw hK hc i pins s σ H E I hf st hg
    subst hP hw hK
    obtain ⟨xs, ys, x, y, q1, q2, hx, hy⟩ := hg
    obtain ⟨zz, zi, ⟨u0, v0, zo⟩, t1, t2⟩ := st
    obtain ⟨its, rv, m1, _⟩ := I.seqB q1
    obtain ⟨jts, rw', m2, _⟩ := I.seqB q2
    obtain ⟨u, hu, ru⟩ := rv.get hx
    obtain ⟨u', hu', ru'⟩ := rw'.get hy
    refine zipB_next D zz zi zo t1 t2 m1 m2 (x := u) (y := u') (by simpa using hu) (by simpa using hu') fun h' a1 a2 a3 a4 a5 hk => ?_
    refine ⟨_, rfl, wpAny_letOwnedTupleGo_zip a1 fun h'' z'' hs'' => ?_⟩
    have szn : z ≠ s.heap.objs.size := Nat.ne_of_lt (Heap.lt_size zz)
    have T'' : IsPair h'' s.heap.objs.size u u' := hs''.extBut _ _ (Ne.symm szn) a5
    have I1 : Inv X pins σ (upd H s.heap.objs.size (.tup [x, y])) { s with heap := h'' } := I.turnedNew (t' := s.toks) (ch := [z, TO, i1, i2]) (Nat.le_refl _)
      (fun c ob hc e => by simp only [List.mem_cons, List.not_mem_nil, or_false, not_or] at hc; exact hs''.extBut _ _ hc.1 (hk c ob hc.1 hc.2.1 hc.2.2.1 hc.2.2.2 e))
      (fun c hc => hf c (by simp only [List.mem_cons, List.not_mem_nil, or_false] at hc ⊢; rcases hc with z | z | z | z <;> simp [z])) ⟨by show 2 ≤ sizeLine; decide, [u, u'], .cons ru (.cons ru' .nil), ⟨_, T'', rfl, _, rfl⟩⟩
    refine ⟨.ref s.heap.objs.size, _, I1, rfl, ⟨_, I.fresh, rfl, fun xs' ys' x' y' r1 r2 hx' hy' => ?_⟩, ⟨z'', hs''.extBut _ _ D.TIz (hk _ _ D.TIz D.TITO D.TIi1 D.TIi2 zi), ⟨_, _, hs''.extBut _ _ D.TOz a2⟩, a3.move hs''.extBut D.i1z, a4.move hs''.extBut D.i2z⟩, fun c hc => ?_⟩
    · have e1 := I.seqB_inj r1 q1
      have e2 := I.seqB_inj r2 q2
      subst e1 e2
      rw [hx] at hx'; rw [hy] at hy'; cases hx'; cases hy'; rfl
    · have : c ≠ s.heap.objs.size := by
        have hlt : c < s.heap.objs.size := by
          simp only [List.mem_cons, List.not_mem_nil, or_false] at hc
          rcases hc with rfl | rfl | rfl | rfl | rfl
          · exact Heap.lt_size zz
          · exact Heap.lt_size zo
          · exact t1.lt
          · exact t2.lt
          · exact Heap.lt_size zi
        exact Nat.ne_of_lt hlt
      rw [upd_ne this]; exact (hf c hc).1
  done := by
    intro X hP hw hK hc i pins s σ H E I hf st hg
    subst hP hw hK
    obtain ⟨xs, ys, q1, q2, hx⟩ := hg
    obtain ⟨zz, zi, ⟨u0, v0, zo⟩, t1, t2⟩ := st
    obtain ⟨its, rv, m1, l1⟩ := I.seqB q1
    obtain ⟨jts, rw', m2, l2⟩ := I.seqB q2
    refine zipB_stop (I.ok.hd hc) D zz zi zo t1 t2 m1 m2 (hx.elim (fun z => .inl (by simp; omega)) fun z => .inr (by simp; omega)) fun h' hk => ⟨rfl, ?_⟩
    exact I.turnedL (t' := s.toks) (ch := [z, TO, i1, i2]) (fun c ob hc e => by simp only [List.mem_cons, List.not_mem_nil, or_false, not_or] at hc; exact hk c ob hc.1 hc.2.1 hc.2.2.1 hc.2.2.2 e)
      (fun c hc => hf c (by simp only [List.mem_cons, List.not_mem_nil, or_false] at hc ⊢; rcases hc with z | z | z | z <;> simp [z]))
  self := fun _ _ _ _ _ st h => wpAny_pyIter_zip st.1 h
theorem turn_en {P : Program} {w : World} {K : PySem.W.Frag} {p : Bool} {elts : List Expr} {k : Nat} {pos : Pos} {a e it : Addr} (ne : e ≠ it) :
    Turn P w K (.Tuple elts k pos) (Ien K p a) [e, it] e (fun i h => (∃ old, IsEnum h e it i old) ∧ IterB p h it a i) where
  mem := by simp
  obj := fun i h st c hc => by
    obtain ⟨⟨old, ee⟩, t1⟩ := st
    simp only [List.mem_cons, List.not_mem_nil, or_false] at hc
    rcases hc with rfl | rfl
    · exact ⟨_, ee, fun v z => by cases z⟩
    · exact t1.obj
  keep := fun i h h' st kk => by
    obtain ⟨⟨old, ee⟩, t1⟩ := st
    exact ⟨⟨old, kk e (by simp) _ ee⟩, t1.to fun o q => kk it (by simp) o q⟩
  item := by
    intro X hP hw hK hc i pins s σ H E I hf st hg
    subst hP hw hK
    obtain ⟨xs, x, q1, hx⟩ := hg
    obtain ⟨⟨old, ee⟩, t1⟩ := st
    obtain ⟨its, rv, m1, _⟩ := I.seqB q1
    obtain ⟨u, hu, ru⟩ := rv.get hx
    refine enumB_next ee t1 m1 (x := u) (by simpa using hu) ne fun h' a1 a2 a3 hk => ?_
    refine ⟨_, rfl, wpAny_letOwnedTupleGo_enum a1 fun h'' z'' hs'' => ?_⟩
    have szn : e ≠ s.heap.objs.size := Nat.ne_of_lt (Heap.lt_size ee)
    have T'' := hs''.extBut _ _ (Ne.symm szn) a3
    have I1 : Inv X pins σ (upd H s.heap.objs.size (.tup [.int i, x])) { s with heap := h'', toks := s.toks + 1 } := I.turnedNew (t' := s.toks + 1) (ch := [e, it]) (Nat.le_refl _)
      (fun c ob hc q => by simp only [List.mem_cons, List.not_mem_nil, or_false, not_or] at hc; exact hs''.extBut _ _ hc.1 (hk c ob hc.1 hc.2 q))
      (fun c hc => hf c hc) ⟨by show 2 ≤ sizeLine; decide, [.int i s.toks, u], .cons ⟨_, rfl⟩ (.cons ru .nil), ⟨_, T'', rfl, _, rfl⟩⟩
    refine ⟨.ref s.heap.objs.size, _, I1, rfl, ⟨_, I.fresh, rfl, fun xs' x' r1 hx' => ?_⟩, ⟨⟨_, z''⟩, a2.move hs''.extBut (Ne.symm ne)⟩, fun c hc => ?_⟩
    · have e1 := I.seqB_inj r1 q1
      subst e1
      rw [hx] at hx'; cases hx'; rfl
    · have : c ≠ s.heap.objs.size := by
        have hlt : c < s.heap.objs.size := by
          simp only [List.mem_cons, List.not_mem_nil, or_false] at hc
          rcases hc with rfl | rfl
          · exact Heap.lt_size ee
          · exact t1.lt
        exact Nat.ne_of_lt hlt
      rw [upd_ne this]; exact (hf c hc).1
  done := by
    intro X hP hw hK hc i pins s σ H E I hf st hg
    subst hP hw hK
    obtain ⟨xs, q1, hx⟩ := hg
    obtain ⟨⟨old, ee⟩, t1⟩ := st
    obtain ⟨its, rv, m1, l1⟩ := I.seqB q1
    refine enumB_stop (I.ok.hd hc) ee t1 m1 (by simp; omega) fun h' hk => ⟨rfl, ?_⟩
    exact I.turnedL (t' := s.toks) (ch := [it]) (fun c ob hc q => hk c ob (by simpa using hc) q) (fun c hc => hf c (by simp at hc; simp [hc]))
  self := fun _ _ _ _ _ st h => wpAny_pyIter_enum st.1.choose_spec h
section
variable {X : Cx}
def iZ2 (K : PySem.W.Frag) (ta : TA) : TI := fun σ H R => ta σ H fun vs H1 => ∃ p q a b, vs = [.ref a, .ref b] ∧ (∃ xs, SqB p K H1 a xs) ∧ (∃ ys, SqB q K H1 b ys) ∧ R (Iz2 K p q a b) H1
theorem pi_z2 {elts : List Expr} {k : Nat} {tp : Pos} {e1 e2 : Expr} {ta : TA} {p pos : Pos} (hg : Gl X "zip") (hm : X.mg "zip" = none) (ha : PA X [e1, e2] ta)
    (hs : starEach [e1, e2] X.env = [(false, eval e1 X.env), (false, eval e2 X.env)]) (hs2 : starEach [e2] X.env = [(false, eval e2 X.env)]) : PI X (.Tuple elts k tp) (.Call (.Name "zip" p) [e1, e2] [] pos) (iZ2 X.K ta) := by
  intro pins s σ H R I h
  refine wpAny_Call_Name_kw (ld_blt I hg hm PyProof.Rows.boot_zip ?_ (by decide) (by decide))
  refine PyProof.Rows.callWith_type1 (thn (ha pos pins s σ H _ I h) fun us s1 ⟨vs, H1, I1, r1, q1⟩ => ?_) (by rw [hs, hs2]) (by rw [hs2]; rfl)
  obtain ⟨p, q, a, b, e, ⟨xs, hq1⟩, ⟨ys, hq2⟩, kk⟩ := q1
  subst e
  obtain ⟨u1, u2, rfl, ra, rb⟩ := vals2 r1
  cases ra; cases rb
  obtain ⟨its, rv, m1, _⟩ := I1.seqB hq1
  obtain ⟨jts, rw', m2, _⟩ := I1.seqB hq2
  refine call_zipB m1 m2 fun h' zz zi zo t1 t2 hk => wpAny_pyIter_zip (f0 := .none) zz ?_
  have I2 : Inv X pins σ H1 { s1 with heap := h' } := I1.kept (t' := s1.toks) fun c o e => hk c o e
  refine ⟨_, _, _, Iz2 X.K p q a b, H1, rfl, I2, turn_z2 (zipApart_new m1.lt m2.lt), ⟨zz, zi, ⟨_, _, zo⟩, t1, t2⟩, fun c hc => ?_, kk⟩
  have hge : s1.heap.objs.size ≤ c := by
    simp only [List.mem_cons, List.not_mem_nil, or_false] at hc
    rcases hc with rfl | rfl | rfl | rfl | rfl <;> first | exact Nat.le_refl _ | exact Nat.le_add_right _ _
  exact I1.fpOk hge (I1.hok.fresh hge)
def iEn (K : PySem.W.Frag) (ta : TA) : TI := fun σ H R => ta σ H fun vs H1 => ∃ p a, vs = [.ref a] ∧ (∃ xs, SqB p K H1 a xs) ∧ R (Ien K p a) H1
theorem pi_en {elts : List Expr} {k : Nat} {tp : Pos} {e1 : Expr} {ta : TA} {p pos : Pos} (hg : Gl X "enumerate") (hm : X.mg "enumerate" = none) (ha : PA X [e1] ta) (hs : starEach [e1] X.env = [(false, eval e1 X.env)]) :
    PI X (.Tuple elts k tp) (.Call (.Name "enumerate" p) [e1] [] pos) (iEn X.K ta) := by
  intro pins s σ H R I h
  refine wpAny_Call_Name_kw (ld_blt I hg hm PyProof.Rows.boot_enumerate ?_ (by decide) (by decide))
  refine PyProof.Rows.callWith_type1 (thn (ha pos pins s σ H _ I h) fun us s1 ⟨vs, H1, I1, r1, q1⟩ => ?_) (by rw [hs]; rfl) rfl
  obtain ⟨p, a, e, ⟨xs, hq1⟩, kk⟩ := q1
  subst e
  obtain ⟨u1, rfl, ra⟩ := vals1 r1
  cases ra
  obtain ⟨its, rv, m1, _⟩ := I1.seqB hq1
  refine call_enumB m1 fun h' ee t1 hk => wpAny_pyIter_enum ee ?_
  have I2 : Inv X pins σ H1 { s1 with heap := h' } := I1.kept (t' := s1.toks) fun c o e => hk c o e
  refine ⟨_, _, _, Ien X.K p a, H1, rfl, I2, turn_en (Nat.ne_of_gt (Nat.lt_succ_self _)), ⟨⟨_, ee⟩, t1⟩, fun c hc => ?_, kk⟩
  have hge : s1.heap.objs.size ≤ c := by
    simp only [List.mem_cons, List.not_mem_nil, or_false] at hc
    rcases hc with rfl | rfl <;> first | exact Nat.le_refl _ | exact Nat.le_add_right _ _
  exact I1.fpOk hge (I1.hok.fresh hge)
end
end L2
end
section
/-! A small language of its own, and what it does: values, a store of lists, expressions, statements, defs. -/
namespace Kw
/-- a value as it is read, whole -/
inductive D where
  | non | bl (b : Bool) | int (i : Int) | str (x : String) | tup (xs : List D) | lst (xs : List D)
  deriving Inhabited
mutual
def D.beq : D → D → Bool
  | .non, .non => true
  | .bl a, .bl b => a == b
  | .int a, .int b => a == b
  | .str a, .str b => a == b
  | .tup a, .tup b => D.beqs a b
  | .lst a, .lst b => D.beqs a b
  | _, _ => false
def D.beqs : List D → List D → Bool
  | [], [] => true
  | a :: r, b :: q => D.beq a b && D.beqs r q
  | _, _ => false
end
mutual
theorem D.beq_eq : ∀ {a b : D}, D.beq a b = true → a = b
  | .non, b, h => by cases b <;> simp_all [D.beq]
  | .bl _, b, h => by cases b <;> simp_all [D.beq]
  | .int _, b, h => by cases b <;> simp_all [D.beq]
  | .str _, b, h => by cases b <;> simp_all [D.beq]
  | .tup xs, b, h => by
    cases b <;> simp [D.beq] at h
    rw [D.beqs_eq h]
  | .lst xs, b, h => by
    cases b <;> simp [D.beq] at h
    rw [D.beqs_eq h]
theorem D.beqs_eq : ∀ {a b : List D}, D.beqs a b = true → a = b
  | [], b, h => by cases b <;> simp_all [D.beqs]
  | x :: r, b, h => by
    cases b with
    | nil => simp [D.beqs] at h
    | cons y q =>
      simp [D.beqs] at h
      rw [D.beq_eq h.1, D.beqs_eq h.2]
end
mutual
theorem D.beq_rfl : ∀ a : D, D.beq a a = true
  | .non => rfl
  | .bl _ => by simp [D.beq]
  | .int _ => by simp [D.beq]
  | .str _ => by simp [D.beq]
  | .tup xs => by simp [D.beq, D.beqs_rfl xs]
  | .lst xs => by simp [D.beq, D.beqs_rfl xs]
theorem D.beqs_rfl : ∀ a : List D, D.beqs a a = true
  | [] => rfl
  | x :: r => by simp [D.beqs, D.beq_rfl x, D.beqs_rfl r]
end
instance : DecidableEq D := fun a b =>
  if h : D.beq a b = true then .isTrue (D.beq_eq h) else .isFalse (fun e => h (e ▸ D.beq_rfl a))
mutual
/-- == -/
def D.eqv : D → D → Bool
  | .non, .non => true
  | .bl a, .bl b => a == b
  | .bl a, .int j => (if a then 1 else 0) == j
  | .int i, .bl b => i == (if b then 1 else 0)
  | .int a, .int b => a == b
  | .str a, .str b => a == b
  | .tup a, .tup b => D.eqvs a b
  | .lst a, .lst b => D.eqvs a b
  | _, _ => false
def D.eqvs : List D → List D → Bool
  | [], [] => true
  | a :: r, b :: q => D.eqv a b && D.eqvs r q
  | _, _ => false
end
mutual
/-- how great a text it is at most -/
def D.wt : D → Nat
  | .non => 0 | .bl _ => 0
  | .int i => if -(2 ^ 40) < i ∧ i < 2 ^ 40 then 41 else 151
  | .str x => x.length
  | .tup xs => D.wts xs
  | .lst xs => D.wts xs
def D.wts : List D → Nat
  | [] => 0
  | a :: r => D.wt a + 1 + D.wts r
end
mutual
def D.fit : D → Bool
  | .int i => decide (-(2 ^ 150) < i ∧ i < 2 ^ 150)
  | .tup xs => D.fits xs
  | .lst xs => D.fits xs
  | _ => true
def D.fits : List D → Bool
  | [] => true
  | a :: r => D.fit a && D.fits r
end
inductive PV where
  | non | bl (b : Bool) | int (i : Int) | str (x : String) | tup (xs : List PV) | ref (l : Nat)
  /-- the script: a list of upto that is never written -/
  | scr (ns : List Int)
  /-- the text of a list or a tuple -/
  | shn (d : D)
  deriving Inhabited
mutual
def PV.beq : PV → PV → Bool
  | .non, .non => true
  | .bl a, .bl b => a == b
  | .int a, .int b => a == b
  | .str a, .str b => a == b
  | .tup a, .tup b => PV.beqs a b
  | .ref a, .ref b => a == b
  | .scr a, .scr b => a == b
  | .shn a, .shn b => decide (a = b)
  | _, _ => false
def PV.beqs : List PV → List PV → Bool
  | [], [] => true
  | a :: r, b :: q => PV.beq a b && PV.beqs r q
  | _, _ => false
end
mutual
theorem PV.beq_eq : ∀ {a b : PV}, PV.beq a b = true → a = b
  | .non, b, h => by cases b <;> simp_all [PV.beq]
  | .bl _, b, h => by cases b <;> simp_all [PV.beq]
  | .int _, b, h => by cases b <;> simp_all [PV.beq]
  | .str _, b, h => by cases b <;> simp_all [PV.beq]
  | .ref _, b, h => by cases b <;> simp_all [PV.beq]
  | .scr _, b, h => by cases b <;> simp_all [PV.beq]
  | .shn _, b, h => by cases b <;> simp_all [PV.beq]
  | .tup xs, b, h => by
    cases b <;> simp [PV.beq] at h
    rw [PV.beqs_eq h]
theorem PV.beqs_eq : ∀ {a b : List PV}, PV.beqs a b = true → a = b
  | [], b, h => by cases b <;> simp_all [PV.beqs]
  | x :: r, b, h => by
    cases b with
    | nil => simp [PV.beqs] at h
    | cons y q =>
      simp [PV.beqs] at h
      rw [PV.beq_eq h.1, PV.beqs_eq h.2]
end
mutual
theorem PV.beq_rfl : ∀ a : PV, PV.beq a a = true
  | .non => rfl
  | .bl _ => by simp [PV.beq]
  | .int _ => by simp [PV.beq]
  | .str _ => by simp [PV.beq]
  | .ref _ => by simp [PV.beq]
  | .scr _ => by simp [PV.beq]
  | .shn _ => by simp [PV.beq]
  | .tup xs => by simp [PV.beq, PV.beqs_rfl xs]
theorem PV.beqs_rfl : ∀ a : List PV, PV.beqs a a = true
  | [] => rfl
  | x :: r => by simp [PV.beqs, PV.beq_rfl x, PV.beqs_rfl r]
end
instance : DecidableEq PV := fun a b =>
  if h : PV.beq a b = true then .isTrue (PV.beq_eq h) else .isFalse (fun e => h (e ▸ PV.beq_rfl a))

/-- what stands in the store -/
inductive PO where
  | lst (xs : List PV)
  deriving DecidableEq, Inhabited
abbrev Sto := List PO
abbrev Loc := List (Option PV)
def big : Nat := 100000

inductive BOp where | add | sub | mul | fdiv | mod | pow
  deriving DecidableEq, Inhabited
inductive COp where | eq | ne | lt | le | gt | ge | isin | notin
  deriving DecidableEq, Inhabited
/-- where a value goes: a slot; several slots by unpacking -/
inductive Tg where | nm (i : Nat) | tp (is : List Nat)
  deriving DecidableEq, Inhabited
inductive BF where | len | abs | int | sum | all | any | min | max | tuple | list | str
  deriving DecidableEq, Inhabited
inductive Ty where | int | bool | str | list | tuple
  deriving DecidableEq, Inhabited
inductive MF where | append | extend
  deriving DecidableEq, Inhabited

inductive E where
  | var (i : Nat) | int (i : Int) | bl (b : Bool) | non | str (x : String)
  | bin (op : BOp) (a b : E) | cmp (op : COp) (a b : E)
  /-- a is c, for c a written None, True, False; k: is not -/
  | is (k : Bool) (a c : E)
  | chain (o p : COp) (a b c : E)
  | and (a b : E) | or (a b : E) | not (a : E) | neg (a : E) | ite (c a b : E)
  | tup (es : E) | lst (es : E) | nil | cons (e es : E)
  | ix (a i : E) | sl (a lo hi : E) | none
  | call (f : Nat) (args : E)
  | blt (f : BF) (args : E)
  | isi (a : E) (ts : List Ty)
  | meth (f : MF) (o a : E)
  /-- [elt for tg in it if ifs]; n: how many slots ahead of its own; m: how many of its own -/
  | comp (elt : E) (tg : Tg) (n m : Nat) (it ifs : E)
  /-- what is walked: range(a), range(a, b), zip(a, b), enumerate(a), reversed(range(a)), reversed(a) -/
  | rng (a : E) | rng2 (a b : E) | zip (a b : E) | enum (a : E) | revr (a : E) | rev (a : E)
  deriving Inhabited
inductive S where
  | nil | cons (s r : S)
  | asg (tg : Tg) (e : E) | setix (o i e : E) | aug (i : Nat) (op : BOp) (e : E)
  | ret (e : E) | retN | expr (e : E) | pass | ife (c : E) (a b : S) | whl (c : E) (b : S) | for_ (tg : Tg) (it : E) (b : S) | brk | cont
  deriving Inhabited

abbrev R (α : Type) := Option (α × Sto)
def listOf (st : Sto) : PV → Option (List PV)
  | .ref l => match st[l]? with
    | some (.lst xs) => some xs
    | none => none
  | .scr ns => some (ns.map .int)
  | _ => none
def seqOf (st : Sto) : PV → Option (List PV)
  | .tup xs => some xs
  | v => listOf st v
def truthy (st : Sto) : PV → Option Bool
  | .non => some false
  | .bl b => some b
  | .int i => some (i != 0)
  | .str _ => none
  | .tup xs => some (!xs.isEmpty)
  | .shn _ => none
  | v => (listOf st v).map fun xs => !xs.isEmpty
def b2i : Bool → Int | true => 1 | false => 0
def mapO {α β : Type} (f : α → Option β) : List α → Option (List β)
  | [] => some []
  | x :: xs => (f x).bind fun y => (mapO f xs).map (y :: ·)
/-- a value, read whole, at most so deep -/
def toD (st : Sto) : Nat → PV → Option D
  | 0, _ => none
  | n + 1, v => match v with
    | .non => some .non
    | .bl b => some (.bl b)
    | .int i => some (.int i)
    | .str x => some (.str x)
    | .tup xs => (mapO (toD st n) xs).map .tup
    | .ref l => match st[l]? with
      | some (.lst xs) => (mapO (toD st n) xs).map .lst
      | none => none
    | .scr _ => none
    | .shn _ => none
def deepest : Nat := 40
/-- == -/
def eqv (st : Sto) (a b : PV) : Option Bool := match a, b with
  | .shn x, .shn y => if x = y then some true else none
  | a, b => (toD st deepest a).bind fun x => (toD st deepest b).bind fun y => some (D.eqv x y)
/-- whether a list, or a tuple, has it -/
def inD : D → D → Option Bool
  | x, .lst xs => some (xs.any fun y => D.eqv y x)
  | x, .tup xs => some (xs.any fun y => D.eqv y x)
  | _, _ => none
def inv (st : Sto) (a b : PV) : Option Bool := (toD st deepest a).bind fun x => (toD st deepest b).bind fun y => inD x y
def small (i : Int) : Bool := decide (-(2 ^ 64) < i ∧ i < 2 ^ 64)
def alloc (st : Sto) (xs : List PV) : R PV := if xs.length ≤ big then some (.ref st.length, st ++ [.lst xs]) else none
def binop : BOp → PV → PV → Sto → R PV
  | .add, .int i, .int j, st => some (.int (i + j), st)
  | .add, .tup xs, .tup ys, st => if xs.length + ys.length ≤ big then some (.tup (xs ++ ys), st) else none
  | .add, .ref a, .ref b, st => match st[a]?, st[b]? with
    | some (.lst xs), some (.lst ys) => alloc st (xs ++ ys)
    | _, _ => none
  | .mul, .ref a, .int k, st => match st[a]? with
    | some (.lst xs) => if -(2 ^ 63) ≤ k ∧ k < 2 ^ 63 ∧ xs.length * k.toNat ≤ big then some (.ref st.length, st ++ [.lst (List.replicate k.toNat xs).flatten]) else none
    | none => none
  | .sub, .int i, .int j, st => some (.int (i - j), st)
  | .mul, .int i, .int j, st => if small i || small j then some (.int (i * j), st) else none
  | .fdiv, .int i, .int j, st => if 0 < j ∧ j < 1073741824 then some (.int (i / j), st) else none
  | .mod, .int i, .int j, st => if 0 < j then some (.int (i % j), st) else none
  | .pow, .int i, .int j, st => if 0 ≤ j ∧ j ≤ 1000 ∧ small i then some (.int (i ^ j.toNat), st) else none
  | _, _, _, _ => none
def intsOf : List PV → Option (List Int)
  | [] => some []
  | .int i :: r => (intsOf r).map (i :: ·)
  | _ => none
/-- tuples of numbers, as they rise -/
def lexLt : List Int → List Int → Bool
  | [], [] => false
  | [], _ :: _ => true
  | _ :: _, [] => false
  | a :: r, b :: q => if a = b then lexLt r q else decide (a < b)
def cmpop : COp → PV → PV → Sto → Option Bool
  | .eq, a, b, st => eqv st a b
  | .ne, a, b, st => (eqv st a b).map (!·)
  | .lt, .int i, .int j, _ => some (decide (i < j))
  | .le, .int i, .int j, _ => some (decide (i ≤ j))
  | .gt, .int i, .int j, _ => some (decide (j < i))
  | .ge, .int i, .int j, _ => some (decide (j ≤ i))
  | .lt, .tup xs, .tup ys, _ => (intsOf xs).bind fun a => (intsOf ys).bind fun b => some (lexLt a b)
  | .isin, a, b, st => inv st a b
  | .notin, a, b, st => (inv st a b).map (!·)
  | _, _, _, _ => none
def ixN (n : Nat) (i : Int) : Option Nat := if 0 ≤ i then (if i < n then some i.toNat else none) else if -(n : Int) ≤ i then some (i + n).toNat else none
def atI (xs : List PV) (i : Int) : Option PV := (ixN xs.length i).bind fun j => xs[j]?
/-- a cut's end -/
def sIx (n d : Nat) : Option Int → Nat
  | none => d
  | some v => if v < 0 then (v + n).toNat else min v.toNat n
def cut (xs : List PV) (lo hi : Option Int) : List PV := (xs.drop (sIx xs.length 0 lo)).take (sIx xs.length xs.length hi - sIx xs.length 0 lo)
def slice (st : Sto) (v : PV) (lo hi : Option Int) : R PV := match v with
  | .tup xs => some (.tup (cut xs lo hi), st)
  | .ref l => match st[l]? with
    | some (.lst xs) => some (.ref st.length, st ++ [.lst (cut xs lo hi)])
    | _ => none
  | _ => none
def small40 (i : Int) : Bool := decide (-(2 ^ 40) ≤ i ∧ i ≤ 2 ^ 40)
def sumI (xs : List PV) : Option Int := (intsOf xs).bind fun ns => if ns.length ≤ big ∧ ns.all small40 then some ns.sum else none
def bools : List PV → Option (List Bool)
  | [] => some []
  | .bl b :: r => (bools r).map (b :: ·)
  | _ => none
def tupsOf : List PV → Option (List (List Int))
  | [] => some []
  | .tup xs :: r => (intsOf xs).bind fun t => (tupsOf r).map (t :: ·)
  | _ => none
def leastI (b : Int) : List Int → Int
  | [] => b
  | x :: r => leastI (if x < b then x else b) r
def leastT (b : List Int) : List (List Int) → List Int
  | [] => b
  | x :: r => leastT (if lexLt x b then x else b) r
theorem leastI_app : ∀ (xs : List Int) (b x : Int), leastI b (xs ++ [x]) = if x < leastI b xs then x else leastI b xs
  | [], b, x => rfl
  | y :: ys, b, x => by
    show leastI (if y < b then y else b) (ys ++ [x]) = _
    rw [leastI_app ys]; rfl
theorem leastT_app : ∀ (xs : List (List Int)) (b x : List Int), leastT b (xs ++ [x]) = if lexLt x (leastT b xs) = true then x else leastT b xs
  | [], b, x => rfl
  | y :: ys, b, x => by
    show leastT (if lexLt y b = true then y else b) (ys ++ [x]) = _
    rw [leastT_app ys]; rfl
/-- min of a list: numbers, or tuples of numbers -/
def minL (xs : List PV) : Option PV := match intsOf xs with
  | some (n :: r) => some (.int (leastI n r))
  | some [] => none
  | none => match tupsOf xs with
    | some (t :: r) => some (.tup ((leastT t r).map .int))
    | _ => none
def bfun : BF → List PV → Sto → R PV
  | .len, [v], st => (seqOf st v).bind fun xs => some (.int xs.length, st)
  | .abs, [.int i], st => some (.int (if i < 0 then -i else i), st)
  | .int, [.int i], st => some (.int i, st)
  | .int, [.bl b], st => some (.int (if b then 1 else 0), st)
  | .sum, [v], st => (listOf st v).bind fun xs => (sumI xs).bind fun n => some (.int n, st)
  | .all, [v], st => (listOf st v).bind fun xs => (bools xs).bind fun bs => some (.bl (bs.all id), st)
  | .any, [v], st => (listOf st v).bind fun xs => (bools xs).bind fun bs => some (.bl (bs.any id), st)
  | .min, [v], st => (listOf st v).bind fun xs => (minL xs).bind fun m => some (m, st)
  | .min, [.int i, .int j], st => some (.int (if j < i then j else i), st)
  | .max, [.int i, .int j], st => some (.int (if j > i then j else i), st)
  | .tuple, [v], st => (seqOf st v).bind fun xs => some (.tup xs, st)
  | .list, [v], st => (seqOf st v).bind fun xs => some (.ref st.length, st ++ [.lst xs])
  | .str, [v], st => match v with
    | .int i => if -(2 ^ 150) < i ∧ i < 2 ^ 150 then some (.str (toString i), st) else none
    | .tup xs => (toD st deepest (.tup xs)).bind fun d => if d.fit ∧ d.wt ≤ big then some (.shn d, st) else none
    | .ref l => (toD st deepest (.ref l)).bind fun d => if d.fit ∧ d.wt ≤ big then some (.shn d, st) else none
    | _ => none
  | _, _, _ => none
def isTy (st : Sto) : PV → Ty → Option Bool
  | .non, _ => some false
  | .bl _, t => some (t == .int || t == .bool)
  | .int _, t => some (t == .int)
  | .str _, t => some (t == .str)
  | .tup _, t => some (t == .tuple)
  | .ref l, t => match st[l]? with
    | some (.lst _) => some (t == .list)
    | none => none
  | .scr _, _ => none
  | .shn _, t => some (t == .str)
def isTys (st : Sto) (v : PV) : List Ty → Option Bool
  | [] => some false
  | t :: r => (isTy st v t).bind fun a => (isTys st v r).bind fun b => some (a || b)
/-- a list, and a list or a tuple behind it -/
def extV (st : Sto) (l : Nat) (xs : List PV) (v : PV) : R PV := match v with
  | .tup ys => if xs.length + ys.length ≤ big then some (.non, st.set l (.lst (xs ++ ys))) else none
  | .ref m => match st[m]? with
    | some (.lst ys) => if xs.length + ys.length ≤ big then some (.non, st.set l (.lst (xs ++ ys))) else none
    | none => none
  | _ => none
def mfun : MF → PV → PV → Sto → R PV
  | .append, .ref l, v, st => match st[l]? with
    | some (.lst xs) => if xs.length < big then some (.non, st.set l (.lst (xs ++ [v]))) else none
    | _ => none
  | .extend, .ref l, v, st => match st[l]? with
    | some (.lst xs) => extV st l xs v
    | none => none
  | _, _, _, _ => none
def setAll : Loc → List Nat → List PV → Option Loc
  | L, [], [] => some L
  | L, i :: is, v :: vs => setAll (L.set i (some v)) is vs
  | _, _, _ => none
def asgT (tg : Tg) (v : PV) (L : Loc) (st : Sto) : Option Loc := match tg with
  | .nm i => some (L.set i (some v))
  | .tp is => match v with
    | .tup xs => setAll L is xs
    | _ => none
/-- the lists that are walked stand as they stood -/
abbrev Gd := List (Nat × List PV)
def okG (st : Sto) (gs : Gd) : Bool := gs.all fun p => decide (listOf st (.ref p.1) = some p.2)
def gdOf : PV → List PV → Gd
  | .ref l, xs => [(l, xs)]
  | _, _ => []
def upto (lo : Int) : Nat → List PV
  | 0 => []
  | n + 1 => .int lo :: upto (lo + 1) n
def small62 (i : Int) : Bool := decide (-(2 ^ 62) ≤ i ∧ i < 2 ^ 62)

section
variable (call : Nat → List PV → Sto → R PV)
/-- a comprehension's turns -/
def compItems (tg : Tg) (gs : Gd) (tst : Loc → Sto → R Bool) (el : Loc → Sto → R PV) (L : Loc) : List PV → Sto → R (List PV)
  | [], st => if okG st gs then some ([], st) else none
  | x :: xs, st => if okG st gs then
      (asgT tg x L st).bind fun L1 => (tst L1 st).bind fun (b, st1) =>
        if b then (el L1 st1).bind fun (v, st2) => (compItems tg gs tst el L xs st2).bind fun (vs, st3) => some (v :: vs, st3)
        else compItems tg gs tst el L xs st1
    else none
mutual
def ev : E → Loc → Sto → R PV
  | .var i, L, st => match L[i]? with
    | some (some v) => some (v, st)
    | _ => none
  | .int i, _, st => some (.int i, st)
  | .bl b, _, st => some (.bl b, st)
  | .non, _, st => some (.non, st)
  | .str x, _, st => some (.str x, st)
  | .bin op a b, L, st => (ev a L st).bind fun (x, st1) => (ev b L st1).bind fun (y, st2) => binop op x y st2
  | .cmp op a b, L, st => (ev a L st).bind fun (x, st1) => (ev b L st1).bind fun (y, st2) => (cmpop op x y st2).bind fun r => some (.bl r, st2)
  | .is k a c, L, st => (ev a L st).bind fun (x, st1) => match c with
    | .non => some (.bl (k != decide (x = .non)), st1)
    | .bl b => some (.bl (k != decide (x = .bl b)), st1)
    | _ => none
  | .chain o p a b c, L, st => (ev a L st).bind fun (x, st1) => (ev b L st1).bind fun (y, st2) => (cmpop o x y st2).bind fun r =>
      if r then (ev c L st2).bind fun (z, st3) => (cmpop p y z st3).bind fun q => some (.bl q, st3) else some (.bl false, st2)
  | .and a b, L, st => (ev a L st).bind fun (x, st1) => (truthy st1 x).bind fun r => if r then ev b L st1 else some (x, st1)
  | .or a b, L, st => (ev a L st).bind fun (x, st1) => (truthy st1 x).bind fun r => if r then some (x, st1) else ev b L st1
  | .not a, L, st => (ev a L st).bind fun (x, st1) => match x with
    | .bl b => some (.bl (!b), st1)
    | _ => none
  | .neg a, L, st => (ev a L st).bind fun (x, st1) => match x with
    | .int i => some (.int (-i), st1)
    | _ => none
  | .ite c a b, L, st => (evT c L st).bind fun (r, st1) => if r then ev a L st1 else ev b L st1
  | .tup es, L, st => (evs es L st).bind fun (xs, st1) => if xs.length ≤ big then some (.tup xs, st1) else none
  | .lst es, L, st => (evs es L st).bind fun (xs, st1) => alloc st1 xs
  | .ix a i, L, st => (ev a L st).bind fun (x, st1) => (ev i L st1).bind fun (y, st2) => match y with
    | .int j => (seqOf st2 x).bind fun xs => (atI xs j).bind fun v => some (v, st2)
    | _ => none
  | .sl a lo hi, L, st => (ev a L st).bind fun (x, st1) => (evO lo L st1).bind fun (l, st2) => (evO hi L st2).bind fun (h, st3) => slice st3 x l h
  | .call f args, L, st => (evs args L st).bind fun (xs, st1) => call f xs st1
  | .blt f args, L, st => (evs args L st).bind fun (xs, st1) => bfun f xs st1
  | .isi a ts, L, st => (ev a L st).bind fun (x, st1) => (isTys st1 x ts).bind fun r => some (.bl r, st1)
  | .meth f o a, L, st => (ev o L st).bind fun (x, st1) => (ev a L st1).bind fun (y, st2) => mfun f x y st2
  | .comp el tg n m it ifs, L, st => (evI it L st).bind fun (xs, gs, st1) => if L.length = n then
      (compItems tg gs (fun L1 s1 => evTs ifs L1 s1) (fun L1 s1 => ev el L1 s1) (L ++ List.replicate m none) xs st1).bind fun (ys, st2) => alloc st2 ys
    else none
  | _, _, _ => none
def evT : E → Loc → Sto → R Bool
  | .not a, L, st => (evT a L st).bind fun (b, st1) => some (!b, st1)
  | .and a b, L, st => (evT a L st).bind fun (r, st1) => if r then evT b L st1 else some (false, st1)
  | .or a b, L, st => (evT a L st).bind fun (r, st1) => if r then some (true, st1) else evT b L st1
  | .ite c a b, L, st => (evT c L st).bind fun (r, st1) => if r then evT a L st1 else evT b L st1
  | e, L, st => (ev e L st).bind fun (x, st1) => (truthy st1 x).bind fun r => some (r, st1)
/-- all tests, from the left, as long as they are so -/
def evTs : E → Loc → Sto → R Bool
  | .nil, _, st => some (true, st)
  | .cons e es, L, st => (evT e L st).bind fun (b, st1) => if b then evTs es L st1 else some (false, st1)
  | _, _, _ => none
def evs : E → Loc → Sto → R (List PV)
  | .nil, _, st => some ([], st)
  | .cons e es, L, st => (ev e L st).bind fun (x, st1) => (evs es L st1).bind fun (xs, st2) => some (x :: xs, st2)
  | _, _, _ => none
def evO : E → Loc → Sto → R (Option Int)
  | .none, _, st => some (none, st)
  | e, L, st => (ev e L st).bind fun (x, st1) => match x with
    | .int i => some (some i, st1)
    | _ => none
/-- what a loop walks: the items, the lists that must stand -/
def evI : E → Loc → Sto → Option (List PV × Gd × Sto)
  | .rng a, L, st => (ev a L st).bind fun (x, st1) => match x with
    | .int j => if small62 j then some (upto 0 j.toNat, [], st1) else none
    | _ => none
  | .rng2 a b, L, st => (ev a L st).bind fun (x, st1) => (ev b L st1).bind fun (y, st2) => match x, y with
    | .int i, .int j => if small62 i && small62 j then some (upto i (j - i).toNat, [], st2) else none
    | _, _ => none
  | .zip a b, L, st => (ev a L st).bind fun (x, st1) => (ev b L st1).bind fun (y, st2) => (seqOf st2 x).bind fun xs => (seqOf st2 y).bind fun ys => some (xs.zipWith (fun p q => .tup [p, q]) ys, gdOf x xs ++ gdOf y ys, st2)
  | .enum a, L, st => (ev a L st).bind fun (x, st1) => (seqOf st1 x).bind fun xs => some ((upto 0 xs.length).zipWith (fun p q => .tup [p, q]) xs, gdOf x xs, st1)
  | .revr a, L, st => (ev a L st).bind fun (x, st1) => match x with
    | .int j => if small62 j then some ((upto 0 j.toNat).reverse, [], st1) else none
    | _ => none
  | .rev a, L, st => (ev a L st).bind fun (x, st1) => match seqOf st1 x with
    | some xs => some (xs.reverse, gdOf x xs, st1)
    | none => none
  | e, L, st => (ev e L st).bind fun (x, st1) => (seqOf st1 x).bind fun xs => some (xs, gdOf x xs, st1)
end

inductive Fl where | next | ret (v : PV) | brk | cont
abbrev RS := Option (Fl × Loc × Sto)
def forItems (tg : Tg) (gs : Gd) (body : Loc → Sto → RS) : List PV → Loc → Sto → RS
  | [], L, st => if okG st gs then some (.next, L, st) else none
  | x :: xs, L, st => if okG st gs then
      (asgT tg x L st).bind fun L1 => (body L1 st).bind fun (f, L2, st2) => match f with
        | .next => forItems tg gs body xs L2 st2
        | .cont => forItems tg gs body xs L2 st2
        | .brk => some (.next, L2, st2)
        | .ret v => some (.ret v, L2, st2)
    else none
def whileN (tst : Loc → Sto → R Bool) (body : Loc → Sto → RS) : Nat → Loc → Sto → RS
  | 0, _, _ => none
  | n + 1, L, st => (tst L st).bind fun (b, st1) => if b then
      (body L st1).bind fun (f, L2, st2) => match f with
        | .next => whileN tst body n L2 st2
        | .cont => whileN tst body n L2 st2
        | .brk => some (.next, L2, st2)
        | .ret v => some (.ret v, L2, st2)
    else some (.next, L, st1)
def ex : S → Loc → Sto → RS
  | .nil, L, st => some (.next, L, st)
  | .cons s r, L, st => (ex s L st).bind fun (f, L1, st1) => match f with
    | .next => ex r L1 st1
    | g => some (g, L1, st1)
  | .asg tg e, L, st => (ev call e L st).bind fun (x, st1) => (asgT tg x L st1).map fun L1 => (.next, L1, st1)
  | .setix o i e, L, st => (ev call e L st).bind fun (x, st1) => (ev call o L st1).bind fun (a, st2) => (ev call i L st2).bind fun (j, st3) => match a, j with
    | .ref l, .int k => match st3[l]? with
      | some (.lst xs) => (ixN xs.length k).map fun n => (.next, L, st3.set l (.lst (xs.set n x)))
      | _ => none
    | _, _ => none
  | .aug i op e, L, st => match L[i]? with
    | some (some (.int a)) => (ev call e L st).bind fun (x, st1) => match op, x with
      | .add, .int b => some (.next, L.set i (some (.int (a + b))), st1)
      | .sub, .int b => some (.next, L.set i (some (.int (a - b))), st1)
      | _, _ => none
    | _ => none
  | .ret e, L, st => (ev call e L st).map fun (x, st1) => (.ret x, L, st1)
  | .retN, L, st => some (.ret .non, L, st)
  | .expr e, L, st => (ev call e L st).map fun (_, st1) => (.next, L, st1)
  | .pass, L, st => some (.next, L, st)
  | .ife c a b, L, st => (evT call c L st).bind fun (r, st1) => if r then ex a L st1 else ex b L st1
  | .whl c b, L, st => whileN (fun L1 s1 => evT call c L1 s1) (fun L1 s1 => ex b L1 s1) big L st
  | .for_ tg it b, L, st => (evI call it L st).bind fun (xs, gs, st1) => forItems tg gs (fun L1 s1 => ex b L1 s1) xs L st1
  | .brk, L, st => some (.brk, L, st)
  | .cont, L, st => some (.cont, L, st)
end
structure FDef where
  np : Nat
  ns : Nat
  body : S
def callD (tab : List FDef) : Nat → Nat → List PV → Sto → R PV
  | 0, _, _, _ => none
  | d + 1, f, args, st => match tab[f]? with
    | none => none
    | some fd => if args.length = fd.np then
        (ex (callD tab d) fd.body (args.map some ++ List.replicate (fd.ns - fd.np) none) st).bind fun (fl, _, st1) => match fl with
          | .ret v => some (v, st1)
          | .next => some (.non, st1)
          | _ => none
      else none
end Kw
end
section
set_option Elab.async false
set_option linter.all false
set_option maxRecDepth 100000
set_option maxHeartbeats 4000000
namespace Kw
open PySem PySem.Spec PyProof.Rows L2
mutual
/-- a value that is read whole, as the library has it -/
def dPy : D → PyData
  | .non => .none
  | .bl b => .bool b
  | .int i => .int i
  | .str x => .str (Str.ofString x)
  | .tup xs => .tuple (dPys xs)
  | .lst xs => .list (dPys xs)
def dPys : List D → List PyData
  | [] => []
  | a :: r => dPy a :: dPys r
end
/-! ### how the small values stand in the heap -/
def ScrAt (K : PySem.W.Frag) (H : Hp) (a : Addr) (ns : List Int) : Prop := SqL K H a (ns.map V.int) ∧ ((∃ o, H a = some (.frz o (.lst (ns.map V.int)))) ∨ SqL K (fun _ => none) a (ns.map V.int))
mutual
def RP (K : PySem.W.Frag) (μ : List Addr) (H : Hp) : PV → V → Prop
  | .non, v => v = .non
  | .bl b, v => v = .bl b
  | .int i, v => v = .int i
  | .str x, v => v = .str (Str.ofString x)
  | .tup ps, v => ∃ a xs, v = .ref a ∧ H a = some (.tup xs) ∧ RPs K μ H ps xs
  | .ref l, v => ∃ a, v = .ref a ∧ μ[l]? = some a
  | .scr ns, v => ∃ a, v = .ref a ∧ ScrAt K H a ns
  | .shn d, v => v = .str (dPy d).shown
def RPs (K : PySem.W.Frag) (μ : List Addr) (H : Hp) : List PV → List V → Prop
  | [], vs => vs = []
  | p :: ps, vs => ∃ v r, vs = v :: r ∧ RP K μ H p v ∧ RPs K μ H ps r
end
/-- the new heap keeps what stood: all that the store does not name; the tuples; the script -/
structure Ext (μ : List Addr) (H : Hp) (μ' : List Addr) (H' : Hp) : Prop where
  pre : ∃ more, μ' = μ ++ more
  keep : ∀ a o, a ∉ μ → H a = some o → H' a = some o
  tup : ∀ a xs, H a = some (.tup xs) → H' a = some (.tup xs)
  frz : ∀ a o u, H a = some (.frz o u) → H' a = some (.frz o u)
  new : ∀ a, a ∈ μ' → a ∈ μ ∨ H a = none
/-- what values lean on -/
structure Ext0 (μ : List Addr) (H : Hp) (μ' : List Addr) (H' : Hp) : Prop where
  pre : ∃ more, μ' = μ ++ more
  tup : ∀ a xs, H a = some (.tup xs) → H' a = some (.tup xs)
  frz : ∀ a o u, H a = some (.frz o u) → H' a = some (.frz o u)
theorem Ext.to0 {μ μ' : List Addr} {H H' : Hp} (x : Ext μ H μ' H') : Ext0 μ H μ' H' := ⟨x.pre, x.tup, x.frz⟩
theorem Ext.refl (μ : List Addr) (H : Hp) : Ext μ H μ H := ⟨⟨[], by simp⟩, fun _ _ _ h => h, fun _ _ h => h, fun _ _ _ h => h, fun _ h => .inl h⟩
theorem Ext.trans {μ μ1 μ2 : List Addr} {H H1 H2 : Hp} (a : Ext μ H μ1 H1) (b : Ext μ1 H1 μ2 H2) : Ext μ H μ2 H2 := by
  obtain ⟨m1, e1⟩ := a.pre
  obtain ⟨m2, e2⟩ := b.pre
  refine ⟨⟨m1 ++ m2, by rw [e2, e1, List.append_assoc]⟩, fun c o hc h => b.keep c o (fun z => ?_) (a.keep c o hc h), fun c xs h => b.tup c xs (a.tup c xs h), fun c o u h => b.frz c o u (a.frz c o u h), fun c h => ?_⟩
  · rcases a.new c z with y | y
    · exact hc y
    · rw [y] at h; cases h
  · rcases b.new c h with y | y
    · exact a.new c y
    · by_cases hc : c ∈ μ
      · exact .inl hc
      · right
        cases q : H c with
        | none => rfl
        | some o => rw [a.keep c o hc q] at y; cases y
theorem ScrAt.mono0 {K : PySem.W.Frag} {μ μ' : List Addr} {H H' : Hp} {a : Addr} {ns : List Int} (x : Ext0 μ H μ' H') (h : ScrAt K H a ns) : ScrAt K H' a ns := by
  obtain ⟨_, h⟩ := h
  rcases h with ⟨o, h⟩ | h
  · have q := x.frz a o _ h
    exact ⟨.inl (.inr ⟨o, q⟩), .inl ⟨o, q⟩⟩
  · refine ⟨?_, .inr h⟩
    rcases h with (h | ⟨o, h⟩) | h
    · cases h
    · cases h
    · exact .inr h
mutual
theorem RP.mono0 {K : PySem.W.Frag} {μ μ' : List Addr} {H H' : Hp} (x : Ext0 μ H μ' H') : ∀ {p : PV} {v : V}, RP K μ H p v → RP K μ' H' p v
  | .non, v, h => h
  | .bl b, v, h => h
  | .int i, v, h => h
  | .str _, v, h => h
  | .shn _, v, h => h
  | .tup ps, v, h => by
    obtain ⟨a, xs, e, h1, h2⟩ := h
    exact ⟨a, xs, e, x.tup a xs h1, RPs.mono0 x h2⟩
  | .ref l, v, h => by
    obtain ⟨a, e, h⟩ := h
    obtain ⟨m, em⟩ := x.pre
    refine ⟨a, e, ?_⟩
    rw [em, List.getElem?_append_left (List.getElem?_eq_some_iff.mp h).1]
    exact h
  | .scr ns, v, h => by
    obtain ⟨a, e, h⟩ := h
    exact ⟨a, e, h.mono0 x⟩
theorem RPs.mono0 {K : PySem.W.Frag} {μ μ' : List Addr} {H H' : Hp} (x : Ext0 μ H μ' H') : ∀ {ps : List PV} {vs : List V}, RPs K μ H ps vs → RPs K μ' H' ps vs
  | [], vs, h => h
  | p :: ps, vs, h => by
    obtain ⟨v, r, e, h1, h2⟩ := h
    exact ⟨v, r, e, RP.mono0 x h1, RPs.mono0 x h2⟩
end
theorem RP.mono {K : PySem.W.Frag} {μ μ' : List Addr} {H H' : Hp} (x : Ext μ H μ' H') {p : PV} {v : V} (h : RP K μ H p v) : RP K μ' H' p v := RP.mono0 x.to0 h
theorem RPs.mono {K : PySem.W.Frag} {μ μ' : List Addr} {H H' : Hp} (x : Ext μ H μ' H') {p : List PV} {v : List V} (h : RPs K μ H p v) : RPs K μ' H' p v := RPs.mono0 x.to0 h
section
variable {K : PySem.W.Frag} {μ : List Addr} {H : Hp}
theorem RPs.length : ∀ {ps : List PV} {vs : List V}, RPs K μ H ps vs → ps.length = vs.length
  | [], vs, h => by cases (show vs = [] from h); rfl
  | p :: ps, vs, h => by
    obtain ⟨v, r, e, _, h2⟩ := h
    subst e
    rw [List.length_cons, List.length_cons, RPs.length h2]
theorem RPs.get : ∀ {ps : List PV} {vs : List V} {i : Nat} {p : PV}, RPs K μ H ps vs → ps[i]? = some p → ∃ v, vs[i]? = some v ∧ RP K μ H p v
  | [], vs, i, p, _, e => by simp at e
  | q :: ps, vs, 0, p, h, e => by
    obtain ⟨v, r, e', h1, _⟩ := h
    subst e'
    simp at e; subst e
    exact ⟨v, rfl, h1⟩
  | q :: ps, vs, i + 1, p, h, e => by
    obtain ⟨v, r, e', _, h2⟩ := h
    subst e'
    simpa using RPs.get (i := i) (p := p) h2 (by simpa using e)
theorem RPs.append : ∀ {ps qs : List PV} {vs us : List V}, RPs K μ H ps vs → RPs K μ H qs us → RPs K μ H (ps ++ qs) (vs ++ us)
  | [], qs, vs, us, h, g => by cases (show vs = [] from h); exact g
  | p :: ps, qs, vs, us, h, g => by
    obtain ⟨v, r, e, h1, h2⟩ := h
    subst e
    exact ⟨v, r ++ us, rfl, h1, RPs.append h2 g⟩
theorem RPs.one {p : PV} {v : V} (h : RP K μ H p v) : RPs K μ H [p] [v] := ⟨v, [], rfl, h, rfl⟩
theorem RPs.take : ∀ {ps : List PV} {vs : List V} (n : Nat), RPs K μ H ps vs → RPs K μ H (ps.take n) (vs.take n)
  | [], vs, n, h => by cases (show vs = [] from h); simp [RPs]
  | p :: ps, vs, 0, h => by simp [RPs]
  | p :: ps, vs, n + 1, h => by
    obtain ⟨v, r, e, h1, h2⟩ := h
    subst e
    exact ⟨v, r.take n, rfl, h1, RPs.take n h2⟩
theorem RPs.drop : ∀ {ps : List PV} {vs : List V} (n : Nat), RPs K μ H ps vs → RPs K μ H (ps.drop n) (vs.drop n)
  | [], vs, n, h => by cases (show vs = [] from h); simp [RPs]
  | p :: ps, vs, 0, h => h
  | p :: ps, vs, n + 1, h => by
    obtain ⟨v, r, e, h1, h2⟩ := h
    subst e
    exact RPs.drop n h2
theorem RPs.set : ∀ {ps : List PV} {vs : List V} (n : Nat) {p : PV} {v : V}, RPs K μ H ps vs → RP K μ H p v → RPs K μ H (ps.set n p) (vs.set n v)
  | [], vs, n, p, v, h, _ => by cases (show vs = [] from h); simp [RPs]
  | q :: ps, vs, 0, p, v, h, g => by
    obtain ⟨v', r, e, h1, h2⟩ := h
    subst e
    exact ⟨v, r, rfl, g, h2⟩
  | q :: ps, vs, n + 1, p, v, h, g => by
    obtain ⟨v', r, e, h1, h2⟩ := h
    subst e
    exact ⟨v', r.set n v, rfl, h1, RPs.set n h2 g⟩
theorem RPs.ints : ∀ (ns : List Int), RPs K μ H (ns.map .int) (ns.map V.int)
  | [] => rfl
  | n :: ns => ⟨_, _, rfl, rfl, RPs.ints ns⟩
end
/-- the store in the heap -/
structure RelS (K : PySem.W.Frag) (μ : List Addr) (H : Hp) (st : Sto) : Prop where
  len : μ.length = st.length
  nd : μ.Nodup
  obj : ∀ (l : Nat) (a : Addr) (ps : List PV), μ[l]? = some a → st[l]? = some (.lst ps) → ∃ xs, H a = some (.lst xs) ∧ RPs K μ H ps xs
/-- the slots -/
structure RelL (K : PySem.W.Frag) (μ : List Addr) (H : Hp) (L : Loc) (σ : L2.St) : Prop where
  len : L.length = σ.length
  val : ∀ (i : Nat) (p : PV), L[i]? = some (some p) → ∃ v, σ[i]? = some (some v) ∧ RP K μ H p v
theorem RelL.mono {K : PySem.W.Frag} {μ μ' : List Addr} {H H' : Hp} {L : Loc} {σ : L2.St} (x : Ext μ H μ' H') (h : RelL K μ H L σ) : RelL K μ' H' L σ :=
  ⟨h.len, fun i p e => let ⟨v, e', r⟩ := h.val i p e; ⟨v, e', r.mono x⟩⟩
theorem RelL.set {K : PySem.W.Frag} {μ : List Addr} {H : Hp} {L : Loc} {σ : L2.St} (h : RelL K μ H L σ) (i : Nat) {p : PV} {v : V} (r : RP K μ H p v) : RelL K μ H (L.set i (some p)) (σ.set i (some v)) := by
  refine ⟨by rw [List.length_set, List.length_set, h.len], fun j q e => ?_⟩
  by_cases hj : j = i
  · subst hj
    have hl : j < L.length := by have := (List.getElem?_eq_some_iff.mp e).1; rwa [List.length_set] at this
    rw [List.getElem?_set_self hl] at e
    cases e
    exact ⟨v, by rw [List.getElem?_set_self (by rw [← h.len]; exact hl)], r⟩
  · rw [List.getElem?_set_ne (Ne.symm hj)] at e ⊢
    exact h.val j q e
theorem RelL.more {K : PySem.W.Frag} {μ : List Addr} {H : Hp} {L : Loc} {σ : L2.St} (h : RelL K μ H L σ) (m : Nat) : RelL K μ H (L ++ List.replicate m none) (σ ++ List.replicate m none) := by
  refine ⟨by rw [List.length_append, List.length_append, h.len, List.length_replicate, List.length_replicate], fun i p e => ?_⟩
  by_cases hi : i < L.length
  · rw [List.getElem?_append_left hi] at e
    rw [List.getElem?_append_left (by rw [← h.len]; exact hi)]
    exact h.val i p e
  · rw [List.getElem?_append_right (by omega), List.getElem?_replicate] at e
    split at e <;> cases e
section
variable {K : PySem.W.Frag} {μ : List Addr} {H : Hp} {st : Sto}
theorem RelS.at (h : RelS K μ H st) {l : Nat} {ps : List PV} (e : st[l]? = some (.lst ps)) : ∃ a xs, μ[l]? = some a ∧ H a = some (.lst xs) ∧ RPs K μ H ps xs := by
  have hl : l < μ.length := by rw [h.len]; exact (List.getElem?_eq_some_iff.mp e).1
  obtain ⟨xs, h1, h2⟩ := h.obj l _ ps (List.getElem?_eq_getElem hl) e
  exact ⟨_, xs, List.getElem?_eq_getElem hl, h1, h2⟩
theorem RelS.lst (h : RelS K μ H st) {a : Addr} (ha : a ∈ μ) : ∃ xs, H a = some (.lst xs) := by
  obtain ⟨l, hl, e⟩ := List.mem_iff_getElem.mp ha
  have hl' : l < st.length := by rw [← h.len]; exact hl
  cases e' : st[l] with
  | lst ps =>
    obtain ⟨xs, h1, _⟩ := h.obj l a ps (by rw [List.getElem?_eq_getElem hl, e]) (by rw [List.getElem?_eq_getElem hl', e'])
    exact ⟨xs, h1⟩
theorem RelS.notin (h : RelS K μ H st) {p : Addr} (hp : H p = none) : p ∉ μ := fun z => by
  obtain ⟨xs, e⟩ := h.lst z
  rw [hp] at e; cases e
/-- a thing that is no list of the store is laid at a free place -/
theorem ext_new (h : RelS K μ H st) {p : Addr} (hp : H p = none) (o : HO) : Ext μ H μ (upd H p o) :=
  ⟨⟨[], by simp⟩, fun a o' _ e => by rw [upd_ne (ne_of_none e hp)]; exact e, fun a xs e => by rw [upd_ne (ne_of_none e hp)]; exact e, fun a o' u e => by rw [upd_ne (ne_of_none e hp)]; exact e, fun a h => .inl h⟩
theorem RelS.new (h : RelS K μ H st) {p : Addr} (hp : H p = none) (o : HO) : RelS K μ (upd H p o) st :=
  ⟨h.len, h.nd, fun l a ps e1 e2 => by
    obtain ⟨xs, h1, h2⟩ := h.obj l a ps e1 e2
    exact ⟨xs, by rw [upd_ne (ne_of_none h1 hp)]; exact h1, h2.mono (ext_new h hp o)⟩⟩
/-- a new list of the store -/
theorem ext_alloc (h : RelS K μ H st) {p : Addr} (hp : H p = none) (o : HO) : Ext μ H (μ ++ [p]) (upd H p o) :=
  ⟨⟨[p], rfl⟩, fun a o' _ e => by rw [upd_ne (ne_of_none e hp)]; exact e, fun a xs e => by rw [upd_ne (ne_of_none e hp)]; exact e, fun a o' u e => by rw [upd_ne (ne_of_none e hp)]; exact e, fun a z => by
    rcases List.mem_append.mp z with z | z
    · exact .inl z
    · right; simp at z; subst z; exact hp⟩
theorem RelS.alloc (h : RelS K μ H st) {p : Addr} (hp : H p = none) {ps : List PV} {xs : List V} (r : RPs K μ H ps xs) : RelS K (μ ++ [p]) (upd H p (.lst xs)) (st ++ [.lst ps]) := by
  have x := ext_alloc h hp (.lst xs)
  refine ⟨by rw [List.length_append, List.length_append, h.len]; rfl, ?_, fun l a qs e1 e2 => ?_⟩
  · refine List.nodup_append.mpr ⟨h.nd, by simp, fun a ha b hb => ?_⟩
    simp at hb; subst hb
    rintro rfl
    exact h.notin hp ha
  · by_cases hl : l < st.length
    · rw [List.getElem?_append_left hl] at e2
      rw [List.getElem?_append_left (by rw [h.len]; exact hl)] at e1
      obtain ⟨ys, h1, h2⟩ := h.obj l a qs e1 e2
      exact ⟨ys, by rw [upd_ne (ne_of_none h1 hp)]; exact h1, h2.mono x⟩
    · have hlen : l < (st ++ [PO.lst ps]).length := (List.getElem?_eq_some_iff.mp e2).1
      rw [List.length_append, List.length_singleton] at hlen
      have e : l = st.length := by omega
      subst e
      rw [List.getElem?_append_right (Nat.le_refl _), Nat.sub_self] at e2
      rw [← h.len, List.getElem?_append_right (Nat.le_refl _), Nat.sub_self] at e1
      simp at e1 e2
      subst e1; subst e2
      exact ⟨xs, upd_same, r.mono x⟩
/-- a list of the store is written -/
theorem ext_write (h : RelS K μ H st) {l : Nat} {a : Addr} (ha : μ[l]? = some a) (o : HO) : Ext μ H μ (upd H a o) := by
  have hm : a ∈ μ := List.mem_of_getElem? ha
  obtain ⟨ys, hy⟩ := h.lst hm
  exact ⟨⟨[], by simp⟩, fun b o' hb e => by rw [upd_ne (fun z : b = a => hb (by rw [z]; exact hm))]; exact e, fun b xs e => by rw [upd_ne (ne_of e hy (by intro z; cases z))]; exact e, fun b o' u e => by rw [upd_ne (ne_of e hy (by intro z; cases z))]; exact e, fun b z => .inl z⟩
theorem RelS.write (h : RelS K μ H st) {l : Nat} {a : Addr} (ha : μ[l]? = some a) {ps : List PV} {xs : List V} (r : RPs K μ H ps xs) : RelS K μ (upd H a (.lst xs)) (st.set l (.lst ps)) := by
  have x := ext_write h ha (.lst xs)
  refine ⟨by rw [List.length_set, h.len], h.nd, fun j b qs e1 e2 => ?_⟩
  by_cases hj : j = l
  · subst hj
    rw [ha] at e1; cases e1
    have hl : j < st.length := by have := (List.getElem?_eq_some_iff.mp e2).1; rwa [List.length_set] at this
    rw [List.getElem?_set_self hl] at e2; cases e2
    exact ⟨xs, upd_same, r.mono x⟩
  · rw [List.getElem?_set_ne (Ne.symm hj)] at e2
    obtain ⟨ys, h1, h2⟩ := h.obj j b qs e1 e2
    have hba : b ≠ a := fun z => hj (by
      obtain ⟨q1, q2⟩ := List.getElem?_eq_some_iff.mp e1
      obtain ⟨q3, q4⟩ := List.getElem?_eq_some_iff.mp ha
      exact (List.getElem_inj h.nd).mp (q2.trans (z.trans q4.symm)))
    exact ⟨ys, by rw [upd_ne hba]; exact h1, h2.mono x⟩
/-- a list beside the store is written -/
theorem ext0_side {acc : Addr} {vs : List V} (ha : H acc = some (.lst vs)) (o : HO) : Ext0 μ H μ (upd H acc o) :=
  ⟨⟨[], by simp⟩, fun b xs e => by rw [upd_ne (ne_of e ha (by intro z; cases z))]; exact e, fun b o' u e => by rw [upd_ne (ne_of e ha (by intro z; cases z))]; exact e⟩
theorem RelS.side (h : RelS K μ H st) {acc : Addr} {vs : List V} (ha : H acc = some (.lst vs)) (hn : acc ∉ μ) (o : HO) : RelS K μ (upd H acc o) st :=
  ⟨h.len, h.nd, fun l a ps e1 e2 => by
    obtain ⟨xs, h1, h2⟩ := h.obj l a ps e1 e2
    exact ⟨xs, by rw [upd_ne (fun z : a = acc => hn (by rw [← z]; exact List.mem_of_getElem? e1))]; exact h1, h2.mono0 (ext0_side ha o)⟩⟩
/-- a list beside the store becomes one of it -/
theorem RelS.adopt (h : RelS K μ H st) {acc : Addr} {vs : List V} {ps : List PV} (ha : H acc = some (.lst vs)) (hn : acc ∉ μ) (r : RPs K μ H ps vs) : RelS K (μ ++ [acc]) H (st ++ [.lst ps]) := by
  have x : Ext0 μ H (μ ++ [acc]) H := ⟨⟨[acc], rfl⟩, fun _ _ e => e, fun _ _ _ e => e⟩
  refine ⟨by rw [List.length_append, List.length_append, h.len]; rfl, ?_, fun l a qs e1 e2 => ?_⟩
  · refine List.nodup_append.mpr ⟨h.nd, by simp, fun a hm b hb => ?_⟩
    simp at hb; subst hb
    rintro rfl
    exact hn hm
  · by_cases hl : l < st.length
    · rw [List.getElem?_append_left hl] at e2
      rw [List.getElem?_append_left (by rw [h.len]; exact hl)] at e1
      obtain ⟨ys, h1, h2⟩ := h.obj l a qs e1 e2
      exact ⟨ys, h1, h2.mono0 x⟩
    · have hlen : l < (st ++ [PO.lst ps]).length := (List.getElem?_eq_some_iff.mp e2).1
      rw [List.length_append, List.length_singleton] at hlen
      have e : l = st.length := by omega
      subst e
      rw [List.getElem?_append_right (Nat.le_refl _), Nat.sub_self] at e2
      rw [← h.len, List.getElem?_append_right (Nat.le_refl _), Nat.sub_self] at e1
      simp at e1 e2
      subst e1; subst e2
      exact ⟨vs, ha, r.mono0 x⟩
/-- a list (of the store, the script) as the layer reads it -/
theorem listOf_rel (h : RelS K μ H st) {p : PV} {v : V} {ps : List PV} (r : RP K μ H p v) (e : listOf st p = some ps) : ∃ a xs, v = .ref a ∧ SqL K H a xs ∧ RPs K μ H ps xs := by
  cases p with
  | ref l =>
    obtain ⟨a, rfl, hm⟩ := r
    have e : (match st[l]? with | some (.lst xs) => some xs | none => none) = some ps := e
    cases q : st[l]? with
    | none => rw [q] at e; cases e
    | some o =>
      cases o with
      | lst qs =>
        rw [q] at e; cases e
        obtain ⟨xs, h1, h2⟩ := h.obj l a ps hm q
        exact ⟨a, xs, rfl, SqL.of h1, h2⟩
  | scr ns =>
    obtain ⟨a, rfl, hs, _⟩ := r
    cases e
    exact ⟨a, _, rfl, hs, RPs.ints ns⟩
  | _ => cases e
theorem seqOf_rel (h : RelS K μ H st) {p : PV} {v : V} {ps : List PV} (r : RP K μ H p v) (e : seqOf st p = some ps) : ∃ a xs, v = .ref a ∧ (SqL K H a xs ∨ SqT K H a xs) ∧ RPs K μ H ps xs := by
  cases p with
  | tup qs =>
    obtain ⟨a, xs, rfl, h1, h2⟩ := r
    cases e
    exact ⟨a, xs, rfl, .inr (SqT.of h1), h2⟩
  | ref l => obtain ⟨a, xs, e1, e2, e3⟩ := listOf_rel h r e; exact ⟨a, xs, e1, .inl e2, e3⟩
  | scr ns => obtain ⟨a, xs, e1, e2, e3⟩ := listOf_rel h r e; exact ⟨a, xs, e1, .inl e2, e3⟩
  | _ => cases e
end
/-- a step's end: what the small step tells, as it stands in the heap behind -/
def Kg {α β : Type} (RR : List Addr → Hp → α → β → Prop) (K : PySem.W.Frag) (μ : List Addr) (H : Hp) (res : Option (α × Sto)) (Q : β → Hp → Prop) : Prop :=
  ∃ r st', res = some (r, st') ∧ ∀ v H' μ', Ext μ H μ' H' → RelS K μ' H' st' → RR μ' H' r v → Q v H'
theorem Kg.shift {α β : Type} {RR : List Addr → Hp → α → β → Prop} {K : PySem.W.Frag} {μ μ1 : List Addr} {H H1 : Hp} {res : Option (α × Sto)} {Q : β → Hp → Prop} (x : Ext μ H μ1 H1) (h : Kg RR K μ H res Q) : Kg RR K μ1 H1 res Q :=
  let ⟨r, st', e, q⟩ := h
  ⟨r, st', e, fun v H' μ' y => q v H' μ' (x.trans y)⟩
theorem Kg.split {α β γ : Type} {RR : List Addr → Hp → α → β → Prop} {K : PySem.W.Frag} {μ : List Addr} {H : Hp} {res : Option (γ × Sto)} {f : γ × Sto → Option (α × Sto)} {Q : β → Hp → Prop} (h : Kg RR K μ H (res.bind f) Q) :
    ∃ p st1, res = some (p, st1) ∧ Kg RR K μ H (f (p, st1)) Q := by
  obtain ⟨r, st', e, q⟩ := h
  cases res with
  | none => cases e
  | some x => exact ⟨x.1, x.2, rfl, r, st', e, q⟩
abbrev K1 (K : PySem.W.Frag) := Kg (RP K) K
abbrev KL (K : PySem.W.Frag) := Kg (RPs K) K
abbrev KB (K : PySem.W.Frag) := Kg (fun _ _ (a b : Bool) => a = b) K
abbrev KO (K : PySem.W.Frag) := Kg (fun _ _ (a b : Option Int) => a = b) K
theorem K1.done {K : PySem.W.Frag} {μ : List Addr} {H : Hp} {st : Sto} {p : PV} {v : V} {Q : VK} (k : K1 K μ H (some (p, st)) Q) (hs : RelS K μ H st) (r : RP K μ H p v) : Q v H := by
  obtain ⟨r', st', e, q⟩ := k
  cases e
  exact q v H μ (Ext.refl _ _) hs r
section
variable (K : PySem.W.Frag) (call : Nat → List PV → Sto → R PV)
def tE (e : E) : TE := fun σ H Q => ∃ μ L st, RelL K μ H L σ ∧ RelS K μ H st ∧ K1 K μ H (ev call e L st) Q
def tT (e : E) : TT := fun σ H Q => ∃ μ L st, RelL K μ H L σ ∧ RelS K μ H st ∧ KB K μ H (evT call e L st) Q
def tTs (e : E) : TT := fun σ H Q => ∃ μ L st, RelL K μ H L σ ∧ RelS K μ H st ∧ KB K μ H (evTs call e L st) Q
def tA (e : E) : TA := fun σ H Q => ∃ μ L st, RelL K μ H L σ ∧ RelS K μ H st ∧ KL K μ H (evs call e L st) Q
def tO (e : E) : TO := fun σ H Q => ∃ μ L st, RelL K μ H L σ ∧ RelS K μ H st ∧ KO K μ H (evO call e L st) Q
/-- a call by values -/
def spF (f : Nat) : Sp := fun vs H Q _ => ∃ μ st args, RelS K μ H st ∧ RPs K μ H args vs ∧ K1 K μ H (call f args st) Q
end
end Kw
end
section
set_option Elab.async false
set_option linter.all false
set_option maxRecDepth 100000
set_option maxHeartbeats 4000000
/-! values read whole -/
namespace Kw
open PySem PySem.Spec PyProof.Rows L2
theorem ofString_inj {x y : String} (h : Str.ofString x = Str.ofString y) : x = y := by
  rw [Str.ofString_eq_toList, Str.ofString_eq_toList] at h
  have h2 : x.toList.map Char.toNat = y.toList.map Char.toNat := by
    injection h with h
    simpa using congrArg Array.toList h
  have inj : ∀ (a b : List Char), a.map Char.toNat = b.map Char.toNat → a = b := by
    intro a
    induction a with
    | nil => intro b hb; cases b <;> simp_all
    | cons c a ih =>
      intro b hb
      cases b with
      | nil => simp at hb
      | cons d b =>
        simp only [List.map_cons, List.cons.injEq] at hb
        rw [ih b hb.2, Char.toNat_inj.mp hb.1]
  exact String.toList_inj.mp (inj _ _ h2)
theorem strBeq (a b : String) : (Str.ofString a == Str.ofString b) = (a == b) := by
  rw [Bool.eq_iff_iff]
  simp only [beq_iff_eq]
  exact ⟨ofString_inj, fun h => by rw [h]⟩
theorem str_ok (x : String) : PyData.strOk (Str.ofString x) = true := by
  rw [Str.ofString_eq_toList]
  unfold PyData.strOk
  simp only [List.all_toArray, List.all_map, List.all_eq_true, Function.comp_apply, decide_eq_true_eq]
  intro c _
  have h : c.val.toNat < 0xd800 ∨ (0xdfff < c.val.toNat ∧ c.val.toNat < 0x110000) := c.valid
  show c.val.toNat < 1114112
  omega
mutual
theorem d_lay : ∀ d : D, (dPy d).canLay0 = true
  | .non => rfl
  | .bl _ => rfl
  | .int _ => rfl
  | .str x => by simp only [dPy, PyData.canLay0]; exact str_ok x
  | .tup xs => by simp only [dPy, PyData.canLay0]; exact d_lays xs
  | .lst xs => by simp only [dPy, PyData.canLay0]; exact d_lays xs
theorem d_lays : ∀ xs : List D, PyData.canLayAll0 (dPys xs) = true
  | [] => rfl
  | x :: xs => by simp only [dPys, PyData.canLayAll0, d_lay x, d_lays xs, Bool.and_self]
end
mutual
theorem d_eqv : ∀ a b : D, PyData.eqv (dPy a) (dPy b) = D.eqv a b
  | .non, b => by cases b <;> simp only [dPy, PyData.eqv, D.eqv]
  | .bl _, b => by cases b <;> simp only [dPy, PyData.eqv, D.eqv]
  | .int _, b => by cases b <;> simp only [dPy, PyData.eqv, D.eqv]
  | .str x, b => by cases b <;> simp only [dPy, PyData.eqv, D.eqv, strBeq]
  | .tup xs, b => by cases b <;> simp only [dPy, PyData.eqv, D.eqv, d_eqvs]
  | .lst xs, b => by cases b <;> simp only [dPy, PyData.eqv, D.eqv, d_eqvs]
theorem d_eqvs : ∀ a b : List D, PyData.eqvAll (dPys a) (dPys b) = D.eqvs a b
  | [], b => by cases b <;> simp only [dPys, PyData.eqvAll, D.eqvs]
  | x :: xs, b => by cases b <;> simp only [dPys, PyData.eqvAll, D.eqvs, d_eqv, d_eqvs]
end
theorem d_any (x : D) : ∀ xs : List D, ((dPys xs).any fun y => PyData.eqv y (dPy x)) = xs.any fun y => D.eqv y x
  | [] => rfl
  | y :: r => by simp only [dPys, List.any_cons, d_eqv, d_any x r]
mutual
theorem d_nodict : ∀ d : D, (dPy d).hasDict = false
  | .non => rfl
  | .bl _ => rfl
  | .int _ => rfl
  | .str x => rfl
  | .tup xs => by simp only [dPy, PyData.hasDict]; exact d_nodicts xs
  | .lst xs => by simp only [dPy, PyData.hasDict]; exact d_nodicts xs
theorem d_nodicts : ∀ xs : List D, PyData.hasDictAll (dPys xs) = false
  | [] => rfl
  | x :: xs => by simp only [dPys, PyData.hasDictAll, d_nodict x, d_nodicts xs, Bool.or_self]
end
theorem log2_lt {i : Int} {k : Nat} (hk : 0 < k) (h : -(2 ^ k : Int) < i ∧ i < 2 ^ k) : i.natAbs.log2 < k := by
  by_cases h0 : i.natAbs = 0
  · rw [h0]; simpa using hk
  · rw [Nat.log2_lt h0]
    have e : ((2 ^ k : Nat) : Int) = (2 : Int) ^ k := by rw [Int.natCast_pow]; rfl
    omega
mutual
theorem d_fit : ∀ d : D, d.fit = true → (dPy d).showable = true ∧ (dPy d).intsShort 160 = true ∧ (dPy d).weight ≤ d.wt
  | .non, _ => ⟨rfl, rfl, Nat.le_refl _⟩
  | .bl _, _ => ⟨rfl, rfl, Nat.le_refl _⟩
  | .int i, h => by
    have h : -(2 ^ 150 : Int) < i ∧ i < 2 ^ 150 := by simpa [D.fit] using h
    have l1 := log2_lt (k := 150) (by decide) h
    refine ⟨?_, ?_, ?_⟩
    · simp only [dPy, PyData.showable, decide_eq_true_eq]; omega
    · simp only [dPy, PyData.intsShort, decide_eq_true_eq]
      have e := int_text_length_le (k := 150) (by decide) l1
      show (Str.ofString (toString i)).length ≤ 160
      rw [PySem.ofString_length]; omega
    · simp only [dPy, PyData.weight, D.wt]
      split
      · omega
      · split
        · rename_i hs
          have l2 := log2_lt (k := 40) (by decide) hs
          omega
        · omega
  | .str x, _ => by
    refine ⟨rfl, rfl, ?_⟩
    simp only [dPy, PyData.weight, D.wt]
    have : (Str.ofString x).length = x.length := PySem.ofString_length x
    exact Nat.le_of_eq this
  | .tup xs, h => by
    obtain ⟨h1, h2, h3⟩ := d_fits xs (by simpa only [D.fit] using h)
    exact ⟨by simpa only [dPy, PyData.showable] using h1, by simpa only [dPy, PyData.intsShort] using h2, by simpa only [dPy, PyData.weight, D.wt] using h3⟩
  | .lst xs, h => by
    obtain ⟨h1, h2, h3⟩ := d_fits xs (by simpa only [D.fit] using h)
    exact ⟨by simpa only [dPy, PyData.showable] using h1, by simpa only [dPy, PyData.intsShort] using h2, by simpa only [dPy, PyData.weight, D.wt] using h3⟩
theorem d_fits : ∀ xs : List D, D.fits xs = true → PyData.showableAll (dPys xs) = true ∧ PyData.intsShortAll 160 (dPys xs) = true ∧ PyData.weightAll (dPys xs) ≤ D.wts xs
  | [], _ => ⟨rfl, rfl, Nat.le_refl _⟩
  | x :: xs, h => by
    have h : x.fit = true ∧ D.fits xs = true := by simpa only [D.fits, Bool.and_eq_true] using h
    obtain ⟨a1, a2, a3⟩ := d_fit x h.1
    obtain ⟨b1, b2, b3⟩ := d_fits xs h.2
    refine ⟨?_, ?_, ?_⟩
    · simp only [dPys, PyData.showableAll, a1, b1, Bool.and_self]
    · simp only [dPys, PyData.intsShortAll, a2, b2, Bool.and_self]
    · simp only [dPys, PyData.weightAll, D.wts]; omega
end
theorem d_shown {d : D} (h : d.fit = true) (hw : d.wt ≤ big) : (dPy d).shown.length ≤ sizeLine := by
  obtain ⟨_, h2, h3⟩ := d_fit d h
  have := PyData.shown_le 160 (by decide) (dPy d) (PyData.leavesShort_of_canLay0 160 _ (d_lay d) h2)
  unfold big at hw
  have e : sizeLine = 16777216 := rfl
  omega
theorem toD_depth {st : Sto} : ∀ {n : Nat} {p : PV} {d : D}, toD st n p = some d → (dPy d).depth ≤ n
  | 0, p, d, h => by cases h
  | n + 1, p, d, h => by
    have ds : ∀ {ps : List PV} {ds : List D}, mapO (toD st n) ps = some ds → PyData.depthAll (dPys ds) ≤ n := by
      intro ps
      induction ps with
      | nil => intro ds h; cases h; simp [dPys, PyData.depthAll]
      | cons q ps ih =>
        intro ds h
        simp only [mapO] at h
        cases e1 : toD st n q with
        | none => rw [e1] at h; cases h
        | some y =>
          rw [e1] at h
          cases e2 : mapO (toD st n) ps with
          | none => simp only [Option.bind_some, e2] at h; cases h
          | some zs =>
            simp only [Option.bind_some, e2, Option.map_some] at h
            cases h
            simp only [dPys, PyData.depthAll]
            exact Nat.max_le.mpr ⟨toD_depth e1, ih e2⟩
    cases p with
    | tup ps =>
      have h : (mapO (toD st n) ps).map D.tup = some d := h
      cases e : mapO (toD st n) ps with
      | none => rw [e] at h; cases h
      | some zs => rw [e] at h; cases h; simp only [dPy, PyData.depth]; have := ds e; omega
    | ref l =>
      have h : (match st[l]? with | some (.lst xs) => (mapO (toD st n) xs).map D.lst | none => none) = some d := h
      cases es : st[l]? with
      | none => rw [es] at h; cases h
      | some o =>
        obtain ⟨ps⟩ := o
        rw [es] at h
        have h : (mapO (toD st n) ps).map D.lst = some d := h
        cases e : mapO (toD st n) ps with
        | none => rw [e] at h; cases h
        | some zs => rw [e] at h; cases h; simp only [dPy, PyData.depth]; have := ds e; omega
    | non => cases h; simp [dPy, PyData.depth]
    | bl _ => cases h; simp [dPy, PyData.depth]
    | int _ => cases h; simp [dPy, PyData.depth]
    | str _ => cases h; simp [dPy, PyData.depth]
    | scr _ => cases h
    | shn _ => cases h
section
variable {X : Cx} {pins : List (Addr × Obj)} {σ : L2.St} {H : Hp} {s : Shared} {μ : List Addr} {st : Sto}
theorem reads_of (I : Inv X pins σ H s) (hs : RelS X.K μ H st) : ∀ {n : Nat} {p : PV} {v : V} {u : Value} {d : D}, RP X.K μ H p v → RelV v u → toD st n p = some d → ∃ as, Reads s.heap u (dPy d) as
  | 0, p, v, u, d, _, _, h => by cases h
  | n + 1, p, v, u, d, rp, rv, h => by
    have all : ∀ {ps : List PV} {vs : List V} {us : List Value} {ds : List D}, RPs X.K μ H ps vs → Vals vs us → mapO (toD st n) ps = some ds → ∃ as, ReadsAll s.heap us (dPys ds) as := by
      intro ps
      induction ps with
      | nil =>
        intro vs us ds r q h
        cases (show vs = [] from r)
        cases q
        cases h
        exact ⟨[], .nil⟩
      | cons q ps ih =>
        intro vs us ds r rq h
        obtain ⟨v1, vr, rfl, r1, r2⟩ := r
        cases rq with
        | cons q1 q2 =>
          simp only [mapO] at h
          cases e1 : toD st n q with
          | none => rw [e1] at h; cases h
          | some y =>
            rw [e1] at h
            cases e2 : mapO (toD st n) ps with
            | none => simp only [Option.bind_some, e2] at h; cases h
            | some zs =>
              simp only [Option.bind_some, e2, Option.map_some] at h
              cases h
              obtain ⟨as, ra⟩ := reads_of I hs r1 q1 e1
              obtain ⟨bs, rb⟩ := ih r2 q2 e2
              exact ⟨as ++ bs, .cons ra rb⟩
    cases p with
    | tup ps =>
      have h : (mapO (toD st n) ps).map D.tup = some d := h
      obtain ⟨a, xs, rfl, h1, h2⟩ := rp
      cases (show u = Value.ref a from rv)
      cases e : mapO (toD st n) ps with
      | none => rw [e] at h; cases h
      | some zs =>
        rw [e] at h; cases h
        obtain ⟨its, rr, ⟨o, e1, e2, k, e3⟩, _⟩ := I.tuple (SqT.of h1)
        obtain ⟨as, ra⟩ := all h2 rr e
        exact ⟨as, .tuple e1 e2 e3 (by simpa using ra)⟩
    | ref l =>
      have h : (match st[l]? with | some (.lst xs) => (mapO (toD st n) xs).map D.lst | none => none) = some d := h
      cases es : st[l]? with
      | none => rw [es] at h; cases h
      | some o =>
        obtain ⟨ps⟩ := o
        rw [es] at h
        have h : (mapO (toD st n) ps).map D.lst = some d := h
        obtain ⟨a', xs, m, h1, h2⟩ := hs.at es
        obtain ⟨a, rfl, m2⟩ := rp
        rw [m] at m2; cases m2
        cases (show u = Value.ref a' from rv)
        cases e : mapO (toD st n) ps with
        | none => rw [e] at h; cases h
        | some zs =>
          rw [e] at h; cases h
          obtain ⟨its, rr, ⟨o, k, e1, e2, e2', e3⟩, _⟩ := I.list (SqL.of h1)
          obtain ⟨as, ra⟩ := all h2 rr e
          exact ⟨a' :: as, .list e1 e2 e3 (by simpa using ra)⟩
    | non => cases h; cases (show v = _ from rp); cases (show u = _ from rv); exact ⟨_, .none⟩
    | bl _ => cases h; cases (show v = _ from rp); cases (show u = _ from rv); exact ⟨_, .bool _⟩
    | int _ => cases h; cases (show v = _ from rp); obtain ⟨t, rfl⟩ := rv; exact ⟨_, .int _ _⟩
    | str _ => cases h; cases (show v = _ from rp); obtain ⟨t, rfl⟩ := rv; exact ⟨_, .str _ _⟩
    | scr _ => cases h
    | shn _ => cases h
end
end Kw
end
section
set_option Elab.async false
set_option linter.all false
set_option maxRecDepth 100000
set_option maxHeartbeats 4000000
namespace Kw
open PySem PySem.Spec PyProof.Rows L2
def bopOf : BOp → Operator | .add => .Add | .sub => .Sub | .mul => .Mult | .fdiv => .FloorDiv | .mod => .Mod | .pow => .Pow
def copOf : COp → CmpOp | .eq => .Eq | .ne => .NotEq | .lt => .Lt | .le => .LtE | .gt => .Gt | .ge => .GtE | .isin => .In | .notin => .NotIn
def r2 (K : PySem.W.Frag) (f : PV → PV → Sto → R PV) : R2 := fun x y H Q => ∃ μ st p q, RelS K μ H st ∧ RP K μ H p x ∧ RP K μ H q y ∧ K1 K μ H (f p q st) Q
def r1 (K : PySem.W.Frag) (f : List PV → Sto → R PV) : List V → Hp → VK → Prop := fun xs H Q => ∃ μ st ps, RelS K μ H st ∧ RPs K μ H ps xs ∧ K1 K μ H (f ps st) Q
theorem big_line : big ≤ sizeLine := by decide
theorem Kg.no {α β : Type} {RR : List Addr → Hp → α → β → Prop} {K : PySem.W.Frag} {μ : List Addr} {H : Hp} {Q : β → Hp → Prop} (k : Kg RR K μ H (none : Option (α × Sto)) Q) : False := by
  obtain ⟨_, _, e, _⟩ := k
  cases e
theorem RPs.rep {K : PySem.W.Frag} {μ : List Addr} {H : Hp} {ps : List PV} {vs : List V} (h : RPs K μ H ps vs) : ∀ k : Nat, RPs K μ H (List.replicate k ps).flatten (List.replicate k vs).flatten
  | 0 => rfl
  | k + 1 => by
    rw [List.replicate_succ, List.replicate_succ, List.flatten_cons, List.flatten_cons]
    exact h.append (h.rep k)
section
variable {X : Cx}
theorem small_mul {i j : Int} (h : (small i || small j) = true) : CMul i j := by
  simp only [small, Bool.or_eq_true, decide_eq_true_eq] at h
  exact h
theorem op_bin (op : BOp) : OpR X (binaryOp (bopOf op)) (r2 X.K (binop op)) := by
  intro pins s σ H x y v u Q I rx ry h
  obtain ⟨μ, st, p, q, hs, rp, rq, k⟩ := h
  cases p with
  | int i =>
    cases q with
    | int j =>
      obtain rfl : x = .int i := rp
      obtain rfl : y = .int j := rq
      cases op with
      | add => exact op_add pins s σ H _ _ v u Q I rx ry ⟨i, j, rfl, rfl, k.done hs rfl⟩
      | sub => exact op_sub pins s σ H _ _ v u Q I rx ry ⟨i, j, rfl, rfl, k.done hs rfl⟩
      | mul =>
        have k : K1 X.K μ H (if (small i || small j) = true then some (.int (i * j), st) else none) Q := k
        split at k
        · rename_i hc
          exact op_mul pins s σ H _ _ v u Q I rx ry ⟨i, j, rfl, rfl, small_mul hc, k.done hs rfl⟩
        · exact k.no.elim
      | fdiv =>
        have k : K1 X.K μ H (if 0 < j ∧ j < 1073741824 then some (.int (i / j), st) else none) Q := k
        split at k
        · rename_i hc
          exact op_fdiv pins s σ H _ _ v u Q I rx ry ⟨i, j, rfl, rfl, hc, k.done hs rfl⟩
        · exact k.no.elim
      | mod =>
        have k : K1 X.K μ H (if 0 < j then some (.int (i % j), st) else none) Q := k
        split at k
        · rename_i hc
          exact op_mod pins s σ H _ _ v u Q I rx ry ⟨i, j, rfl, rfl, hc, k.done hs rfl⟩
        · exact k.no.elim
      | pow =>
        have k : K1 X.K μ H (if 0 ≤ j ∧ j ≤ 1000 ∧ small i = true then some (.int (i ^ j.toNat), st) else none) Q := k
        split at k
        · rename_i hc
          have hsm : -(2 ^ 64) < i ∧ i < 2 ^ 64 := by simpa [small] using hc.2.2
          exact op_pow pins s σ H _ _ v u Q I rx ry ⟨i, j, rfl, rfl, ⟨hc.1, by omega, by omega⟩, k.done hs rfl⟩
        · exact k.no.elim
    | _ => cases op <;> exact k.no.elim
  | tup as =>
    cases q with
    | tup bs =>
      cases op with
      | add =>
        have k : K1 X.K μ H (if as.length + bs.length ≤ big then some (.tup (as ++ bs), st) else none) Q := k
        split at k
        · rename_i hc
          obtain ⟨a, xs, rfl, ha, ra⟩ := rp
          obtain ⟨b, ys, rfl, hb, rb⟩ := rq
          have l1 := ra.length
          have l2 := rb.length
          have hl := big_line
          by_cases h0 : xs = []
          · subst h0
            have z2 : as = [] := List.eq_nil_of_length_eq_zero (by simpa using l1)
            subst z2
            exact op_catT0 pins s σ H _ _ v u Q I rx ry ⟨a, b, ys, rfl, rfl, SqT.of ha, SqT.of hb, k.done hs ⟨b, ys, rfl, hb, rb⟩⟩
          refine op_catT pins s σ H _ _ v u Q I rx ry ⟨a, b, xs, ys, rfl, rfl, SqT.of ha, SqT.of hb, h0, by omega, fun z => ?_, fun _ p hp => ?_⟩
          · subst z
            have z2 : bs = [] := List.eq_nil_of_length_eq_zero (by simpa using l2)
            subst z2
            rw [List.append_nil] at k
            exact k.done hs ⟨a, xs, rfl, ha, ra⟩
          · have x' := ext_new hs hp (.tup (xs ++ ys))
            exact K1.done (k.shift x') (hs.new hp _) ⟨p, _, rfl, upd_same, (ra.append rb).mono x'⟩
        · exact k.no.elim
      | _ => exact k.no.elim
    | _ => cases op <;> exact k.no.elim
  | ref a =>
    cases q with
    | ref b =>
      cases op with
      | add =>
        have k : K1 X.K μ H (match st[a]?, st[b]? with
          | some (.lst xs), some (.lst ys) => alloc st (xs ++ ys)
          | _, _ => none) Q := k
        cases ea : st[a]? with
        | none => rw [ea] at k; exact k.no.elim
        | some oa =>
          cases eb : st[b]? with
          | none => rw [ea, eb] at k; cases oa; exact k.no.elim
          | some ob =>
            obtain ⟨as⟩ := oa
            obtain ⟨bs⟩ := ob
            rw [ea, eb] at k
            have k : K1 X.K μ H (if (as ++ bs).length ≤ big then some (.ref st.length, st ++ [.lst (as ++ bs)]) else none) Q := k
            split at k
            · rename_i hc
              obtain ⟨a', xs, m1, h1, ra⟩ := hs.at ea
              obtain ⟨b', ys, m2, h2, rb⟩ := hs.at eb
              obtain ⟨a2, rfl, ma⟩ := rp
              obtain ⟨b2, rfl, mb⟩ := rq
              rw [m1] at ma; cases ma
              rw [m2] at mb; cases mb
              rw [List.length_append] at hc
              have l1 := ra.length
              have l2 := rb.length
              have hl := big_line
              refine op_cat pins s σ H _ _ v u Q I rx ry ⟨a', b', xs, ys, rfl, rfl, h1, h2, by omega, fun p hp => ?_⟩
              have x' := ext_alloc hs hp (.lst (xs ++ ys))
              refine K1.done (k.shift x') (hs.alloc hp (ra.append rb)) ⟨p, rfl, ?_⟩
              rw [← hs.len, List.getElem?_append_right (Nat.le_refl _), Nat.sub_self] <;> rfl
            · exact k.no.elim
      | _ => exact k.no.elim
    | int j =>
      cases op with
      | mul =>
        have k : K1 X.K μ H (match st[a]? with
          | some (.lst xs) => if -(2 ^ 63) ≤ j ∧ j < 2 ^ 63 ∧ xs.length * j.toNat ≤ big then some (.ref st.length, st ++ [.lst (List.replicate j.toNat xs).flatten]) else none
          | none => none) Q := k
        cases ea : st[a]? with
        | none => rw [ea] at k; exact k.no.elim
        | some oa =>
          obtain ⟨as⟩ := oa
          rw [ea] at k
          have k : K1 X.K μ H (if -(2 ^ 63) ≤ j ∧ j < 2 ^ 63 ∧ as.length * j.toNat ≤ big then some (.ref st.length, st ++ [.lst (List.replicate j.toNat as).flatten]) else none) Q := k
          split at k
          · rename_i hc
            obtain ⟨a', xs, m1, h1, ra⟩ := hs.at ea
            obtain ⟨a2, rfl, ma⟩ := rp
            obtain rfl : y = .int j := rq
            rw [m1] at ma; cases ma
            have l1 := ra.length
            have hl := big_line
            refine op_rep pins s σ H _ _ v u Q I rx ry ⟨a', j, xs, rfl, rfl, h1, hc.1, hc.2.1, by rw [← l1]; omega, fun p hp => ?_⟩
            have x' := ext_alloc hs hp (.lst (List.replicate j.toNat xs).flatten)
            refine K1.done (k.shift x') (hs.alloc hp (ra.rep _)) ⟨p, rfl, ?_⟩
            rw [← hs.len, List.getElem?_append_right (Nat.le_refl _), Nat.sub_self] <;> rfl
          · exact k.no.elim
      | _ => exact k.no.elim
    | _ => cases op <;> exact k.no.elim
  | _ => cases op <;> cases q <;> exact k.no.elim
/-- a comparison -/
def r2b (K : PySem.W.Frag) (f : PV → PV → Sto → Option Bool) : R2 := r2 K fun p q st => (f p q st).bind fun r => some (.bl r, st)
theorem eqv_in {st : Sto} {p q : PV} {b : Bool} (e : eqv st p q = some b) : (∃ d, p = .shn d ∧ q = .shn d ∧ b = true) ∨ ∃ x y, toD st deepest p = some x ∧ toD st deepest q = some y ∧ b = D.eqv x y := by
  have gen : ((toD st deepest p).bind fun x => (toD st deepest q).bind fun y => some (D.eqv x y)) = some b → ∃ x y, toD st deepest p = some x ∧ toD st deepest q = some y ∧ b = D.eqv x y := fun e => by
    cases e1 : toD st deepest p with
    | none => rw [e1] at e; cases e
    | some x =>
      cases e2 : toD st deepest q with
      | none => rw [e1, e2] at e; cases e
      | some y => rw [e1, e2] at e; cases e; exact ⟨x, y, rfl, rfl, rfl⟩
  cases p with
  | shn x =>
    cases q with
    | shn y =>
      have e : (if x = y then some true else none) = some b := e
      split at e
      · rename_i h; cases e; subst h; exact .inl ⟨x, rfl, rfl, rfl⟩
      · cases e
    | _ => exact .inr (gen e)
  | _ => exact .inr (gen e)
theorem op_eqD (hu : X.A.units + 64 < cLine) (neg : Bool) : OpR X (compareOp (if neg then .NotEq else .Eq)) (r2b X.K fun p q st => (eqv st p q).map (neg != ·)) := by
  intro pins s σ H x y v u Q I rx ry h
  obtain ⟨μ, st, p, q, hs, rp, rq, k⟩ := h
  have k : K1 X.K μ H (((eqv st p q).map (neg != ·)).bind fun r => some (.bl r, st)) Q := k
  cases e : eqv st p q with
  | none => rw [e] at k; exact k.no.elim
  | some b =>
    rw [e] at k
    have fin := K1.done (p := .bl (neg != b)) k hs rfl
    rcases eqv_in e with ⟨d, rfl, rfl, rfl⟩ | ⟨dx, dy, e1, e2, rfl⟩
    · obtain rfl : x = .str (dPy d).shown := rp
      obtain rfl : y = .str (dPy d).shown := rq
      cases neg with
      | false => exact op_eq pins s σ H _ _ v u Q I rx ry ⟨rfl, by simpa using fin⟩
      | true => exact op_ne pins s σ H _ _ v u Q I rx ry ⟨rfl, by simpa using fin⟩
    · obtain ⟨as, ra⟩ := reads_of I hs rp rx e1
      obtain ⟨bs, rb⟩ := reads_of I hs rq ry e2
      have hd : X.A.units + min (dPy dx).depth (dPy dy).depth < cLine := by
        have h1 := toD_depth e1
        unfold deepest at h1
        omega
      cases neg with
      | false => exact PySem.SeqAt.compareEq_reads ra rb (d_lay dx) (d_lay dy) hd ⟨.bl _, H, I, rfl, by rw [d_eqv]; simpa using fin⟩
      | true => exact PySem.SeqAt.compareNe_reads ra rb (d_lay dx) (d_lay dy) hd ⟨.bl _, H, I, rfl, by rw [d_eqv]; simpa using fin⟩
theorem inv_in {st : Sto} {p q : PV} {b : Bool} (e : inv st p q = some b) : ∃ x ys, toD st deepest p = some x ∧ (toD st deepest q = some (.lst ys) ∨ toD st deepest q = some (.tup ys)) ∧ b = ys.any fun y => D.eqv y x := by
  have e : ((toD st deepest p).bind fun x => (toD st deepest q).bind fun y => inD x y) = some b := e
  cases e1 : toD st deepest p with
  | none => rw [e1] at e; cases e
  | some x =>
    cases e2 : toD st deepest q with
    | none => rw [e1, e2] at e; cases e
    | some y =>
      rw [e1, e2] at e
      have e : inD x y = some b := e
      cases y with
      | lst ys => cases e; exact ⟨x, ys, rfl, .inl rfl, rfl⟩
      | tup ys => cases e; exact ⟨x, ys, rfl, .inr rfl, rfl⟩
      | _ => cases e
theorem op_inD (hu : X.A.units + 64 < cLine) (neg : Bool) : OpR X (compareOp (if neg then .NotIn else .In)) (r2b X.K fun p q st => (inv st p q).map (neg != ·)) := by
  intro pins s σ H x y v u Q I rx ry h
  obtain ⟨μ, st, p, q, hs, rp, rq, k⟩ := h
  have k : K1 X.K μ H (((inv st p q).map (neg != ·)).bind fun r => some (.bl r, st)) Q := k
  cases e : inv st p q with
  | none => rw [e] at k; exact k.no.elim
  | some b =>
    rw [e] at k
    have fin := K1.done (p := .bl (neg != b)) k hs rfl
    obtain ⟨dx, ys, e1, e2, rfl⟩ := inv_in e
    obtain ⟨as, ra⟩ := reads_of I hs rp rx e1
    have hd : X.A.units + 1 + min (PyData.depthAll (dPys ys)) (dPy dx).depth < cLine := by
      have h1 := toD_depth e1
      unfold deepest at h1
      omega
    rcases e2 with e2 | e2
    · obtain ⟨bs, rb⟩ := reads_of I hs rq ry e2
      simp only [dPy] at rb
      cases neg with
      | false => exact PySem.SeqAt.in_list_reads rb ra (d_lays ys) (d_lay dx) hd ⟨.bl _, H, I, rfl, by rw [d_any]; simpa using fin⟩
      | true => exact PySem.SeqAt.notIn_list_reads rb ra (d_lays ys) (d_lay dx) hd ⟨.bl _, H, I, rfl, by rw [d_any]; simpa using fin⟩
    · obtain ⟨bs, rb⟩ := reads_of I hs rq ry e2
      simp only [dPy] at rb
      cases neg with
      | false => exact PySem.SeqAt.in_tuple_reads rb ra (d_lays ys) (d_lay dx) hd ⟨.bl _, H, I, rfl, by rw [d_any]; simpa using fin⟩
      | true => exact PySem.SeqAt.notIn_tuple_reads rb ra (d_lays ys) (d_lay dx) hd ⟨.bl _, H, I, rfl, by rw [d_any]; simpa using fin⟩
theorem intsOf_rel {K : PySem.W.Frag} {μ : List Addr} {H : Hp} : ∀ {ps : List PV} {xs : List V} {ns : List Int}, RPs K μ H ps xs → intsOf ps = some ns → xs = ns.map V.int
  | [], xs, ns, r, e => by cases (show xs = [] from r); cases e; rfl
  | p :: ps, xs, ns, r, e => by
    obtain ⟨v, q, rfl, h1, h2⟩ := r
    cases p with
    | int i =>
      have e : (intsOf ps).map (i :: ·) = some ns := e
      cases z : intsOf ps with
      | none => rw [z] at e; cases e
      | some ms =>
        rw [z] at e; cases e
        rw [intsOf_rel h2 z, List.map_cons, show v = .int i from h1]
    | _ => cases e
theorem intsOf_map : ∀ {xs : List PV} {ns : List Int}, intsOf xs = some ns → xs = ns.map .int
  | [], ns, h => by cases h; rfl
  | x :: xs, ns, h => by
    cases x with
    | int i =>
      have h : (intsOf xs).map (i :: ·) = some ns := h
      cases e : intsOf xs with
      | none => rw [e] at h; cases h
      | some ms => rw [e] at h; cases h; rw [intsOf_map e]; rfl
    | _ => cases h
theorem lex_eq : ∀ a b : List Int, Kw.lexLt a b = HT.lexLt a b
  | [], [] => by simp [Kw.lexLt, HT.lexLt]
  | [], _ :: _ => by simp [Kw.lexLt, HT.lexLt]
  | _ :: _, [] => by simp [Kw.lexLt, HT.lexLt]
  | a :: r, b :: q => by
    simp only [Kw.lexLt, HT.lexLt, lex_eq r q]
    try (by_cases h : a = b <;> simp [h])
theorem op_ltP (hu : X.A.units + 64 < cLine) : OpR X (compareOp .Lt) (r2b X.K (cmpop .lt)) := by
  intro pins s σ H x y v u Q I rx ry h
  obtain ⟨μ, st, p, q, hs, rp, rq, k⟩ := h
  cases p with
  | int i =>
    cases q with
    | int j =>
      obtain rfl : x = .int i := rp
      obtain rfl : y = .int j := rq
      exact op_lt pins s σ H _ _ v u Q I rx ry ⟨i, j, rfl, rfl, K1.done (p := .bl _) k hs rfl⟩
    | _ => exact k.no.elim
  | tup ps =>
    cases q with
    | tup qs =>
      have k : K1 X.K μ H (((intsOf ps).bind fun a => (intsOf qs).bind fun b => some (Kw.lexLt a b)).bind fun r => some (.bl r, st)) Q := k
      cases e1 : intsOf ps with
      | none => rw [e1] at k; exact k.no.elim
      | some ns =>
        cases e2 : intsOf qs with
        | none => rw [e1, e2] at k; exact k.no.elim
        | some ms =>
          rw [e1, e2] at k
          obtain ⟨a, xs, rfl, ha, ra⟩ := rp
          obtain ⟨b, ys, rfl, hb, rb⟩ := rq
          have z1 := intsOf_rel ra e1
          have z2 := intsOf_rel rb e2
          subst z1 z2
          exact op_ltT (by omega) pins s σ H _ _ v u Q I rx ry ⟨a, b, ns, ms, rfl, rfl, SqT.of ha, SqT.of hb, by rw [← lex_eq]; exact K1.done (p := .bl _) k hs rfl⟩
    | _ => exact k.no.elim
  | _ => cases q <;> exact k.no.elim
theorem op_cmp (hu : X.A.units + 64 < cLine) (op : COp) : OpR X (compareOp (copOf op)) (r2b X.K (cmpop op)) := by
  cases op with
  | eq =>
    intro pins s σ H x y v u Q I rx ry h
    obtain ⟨μ, st, p, q, hs, rp, rq, k⟩ := h
    refine op_eqD hu false pins s σ H x y v u Q I rx ry ⟨μ, st, p, q, hs, rp, rq, ?_⟩
    have k : K1 X.K μ H ((eqv st p q).bind fun r => some (.bl r, st)) Q := k
    show K1 X.K μ H (((eqv st p q).map (false != ·)).bind fun r => some (.bl r, st)) Q
    cases e : eqv st p q with
    | none => rw [e] at k; exact k.no.elim
    | some b => rw [e] at k; simpa using k
  | ne =>
    intro pins s σ H x y v u Q I rx ry h
    obtain ⟨μ, st, p, q, hs, rp, rq, k⟩ := h
    refine op_eqD hu true pins s σ H x y v u Q I rx ry ⟨μ, st, p, q, hs, rp, rq, ?_⟩
    have k : K1 X.K μ H (((eqv st p q).map (!·)).bind fun r => some (.bl r, st)) Q := k
    show K1 X.K μ H (((eqv st p q).map (true != ·)).bind fun r => some (.bl r, st)) Q
    cases e : eqv st p q with
    | none => rw [e] at k; exact k.no.elim
    | some b => rw [e] at k; cases b <;> exact k
  | isin =>
    intro pins s σ H x y v u Q I rx ry h
    obtain ⟨μ, st, p, q, hs, rp, rq, k⟩ := h
    refine op_inD hu false pins s σ H x y v u Q I rx ry ⟨μ, st, p, q, hs, rp, rq, ?_⟩
    have k : K1 X.K μ H ((inv st p q).bind fun r => some (.bl r, st)) Q := by cases p <;> exact k
    show K1 X.K μ H (((inv st p q).map (false != ·)).bind fun r => some (.bl r, st)) Q
    cases e : inv st p q with
    | none => rw [e] at k; exact k.no.elim
    | some b => rw [e] at k; simpa using k
  | notin =>
    intro pins s σ H x y v u Q I rx ry h
    obtain ⟨μ, st, p, q, hs, rp, rq, k⟩ := h
    refine op_inD hu true pins s σ H x y v u Q I rx ry ⟨μ, st, p, q, hs, rp, rq, ?_⟩
    have k : K1 X.K μ H (((inv st p q).map (!·)).bind fun r => some (.bl r, st)) Q := by cases p <;> exact k
    show K1 X.K μ H (((inv st p q).map (true != ·)).bind fun r => some (.bl r, st)) Q
    cases e : inv st p q with
    | none => rw [e] at k; exact k.no.elim
    | some b => rw [e] at k; cases b <;> exact k
  | lt => exact op_ltP hu
  | le =>
    intro pins s σ H x y v u Q I rx ry h
    obtain ⟨μ, st, p, q, hs, rp, rq, k⟩ := h
    cases p <;> cases q <;> first | exact k.no.elim | (rename_i i j; obtain rfl : x = .int i := rp; obtain rfl : y = .int j := rq; exact op_le pins s σ H _ _ v u Q I rx ry ⟨i, j, rfl, rfl, K1.done (p := .bl _) k hs rfl⟩)
  | gt =>
    intro pins s σ H x y v u Q I rx ry h
    obtain ⟨μ, st, p, q, hs, rp, rq, k⟩ := h
    cases p <;> cases q <;> first | exact k.no.elim | (rename_i i j; obtain rfl : x = .int i := rp; obtain rfl : y = .int j := rq; exact op_gt pins s σ H _ _ v u Q I rx ry ⟨i, j, rfl, rfl, K1.done (p := .bl _) k hs rfl⟩)
  | ge =>
    intro pins s σ H x y v u Q I rx ry h
    obtain ⟨μ, st, p, q, hs, rp, rq, k⟩ := h
    cases p <;> cases q <;> first | exact k.no.elim | (rename_i i j; obtain rfl : x = .int i := rp; obtain rfl : y = .int j := rq; exact op_ge pins s σ H _ _ v u Q I rx ry ⟨i, j, rfl, rfl, K1.done (p := .bl _) k hs rfl⟩)
theorem atI_rel {K : PySem.W.Frag} {μ : List Addr} {H : Hp} {ps : List PV} {xs : List V} {i : Int} {p : PV} (r : RPs K μ H ps xs) (e : Kw.atI ps i = some p) : ∃ v, L2.atI xs i = some v ∧ RP K μ H p v := by
  have e : (Kw.ixN ps.length i).bind (fun j => ps[j]?) = some p := e
  show ∃ v, (L2.ixN xs.length i).bind (fun j => xs[j]?) = some v ∧ RP K μ H p v
  have hx : L2.ixN xs.length i = Kw.ixN ps.length i := by rw [r.length]; rfl
  rw [hx]
  cases q : Kw.ixN ps.length i with
  | none => rw [q] at e; cases e
  | some j =>
    rw [q] at e
    obtain ⟨v, h1, h2⟩ := r.get (i := j) e
    exact ⟨v, h1, h2⟩
/-- an item -/
def fIx (p q : PV) (st : Sto) : R PV := match q with
  | .int j => (seqOf st p).bind fun xs => (Kw.atI xs j).bind fun v => some (v, st)
  | _ => none
theorem ix_any : IxR X (r2 X.K fIx) := by
  intro value slice pins s σ H x y v u Q I rx ry h hsl
  obtain ⟨μ, st, p, q, hs, rp, rq, k⟩ := h
  cases q with
  | int j =>
    obtain rfl : y = .int j := rq
    have k : K1 X.K μ H ((seqOf st p).bind fun xs => (Kw.atI xs j).bind fun v => some (v, st)) Q := k
    cases e : seqOf st p with
    | none => rw [e] at k; exact k.no.elim
    | some ps =>
      rw [e] at k
      have k : K1 X.K μ H ((Kw.atI ps j).bind fun v => some (v, st)) Q := k
      cases e2 : Kw.atI ps j with
      | none => rw [e2] at k; exact k.no.elim
      | some z =>
        rw [e2] at k
        obtain ⟨a, xs, rfl, hq, r⟩ := seqOf_rel hs rp e
        obtain ⟨w, h1, h2⟩ := atI_rel r e2
        rcases hq with hq | hq
        · exact ix_list value slice pins s σ H _ _ v u Q I rx ry ⟨a, xs, j, w, rfl, rfl, hq, h1, K1.done k hs h2⟩ hsl
        · exact ix_tup value slice pins s σ H _ _ v u Q I rx ry ⟨a, xs, j, w, rfl, rfl, hq, h1, K1.done k hs h2⟩ hsl
  | _ => exact k.no.elim
theorem sIx_eq (n d : Nat) (o : Option Int) : Kw.sIx n d o = HT.sIx n d o := by
  cases o with
  | none => rfl
  | some v =>
    show (if v < 0 then (v + n).toNat else min v.toNat n) = HT.sIx n d (some v)
    have h := HT.clip_eq v n d
    split
    · rename_i hv; rw [if_pos hv] at h; omega
    · rename_i hv; rw [if_neg hv] at h; omega
theorem cut_rel {K : PySem.W.Frag} {μ : List Addr} {H : Hp} {ps : List PV} {xs : List V} {lo hi : Option Int} (r : RPs K μ H ps xs) : RPs K μ H (cut ps lo hi) (cutV xs lo hi) := by
  unfold cut cutV
  rw [r.length, sIx_eq, sIx_eq]
  exact (r.drop _).take _
/-- a cut -/
def rSl (K : PySem.W.Frag) : V → Option Int → Option Int → Hp → VK → Prop := fun x lo hi H Q => ∃ μ st p, RelS K μ H st ∧ RP K μ H p x ∧ K1 K μ H (slice st p lo hi) Q
theorem sl_any : SlR X (rSl X.K) := by
  intro pins s σ H x v vl vu lo hi sl Q I rx hsl pl pu h
  obtain ⟨μ, st, p, hs, rp, k⟩ := h
  cases p with
  | tup ps =>
    obtain ⟨a, xs, rfl, ha, ra⟩ := rp
    have k : K1 X.K μ H (some (.tup (cut ps lo hi), st)) Q := k
    by_cases hc : HT.sIx xs.length 0 lo = 0 ∧ HT.sIx xs.length xs.length hi = xs.length
    · refine sl_whole pins s σ H _ v vl vu lo hi sl Q I rx hsl pl pu ⟨a, xs, rfl, SqT.of ha, hc.1, hc.2, ?_⟩
      have e : cut ps lo hi = ps := by
        unfold cut
        rw [sIx_eq, sIx_eq, ra.length, hc.1, hc.2, List.drop_zero, Nat.sub_zero, List.take_of_length_le (Nat.le_of_eq ra.length)]
      rw [e] at k
      exact k.done hs ⟨a, xs, rfl, ha, ra⟩
    · refine sl_tup pins s σ H _ v vl vu lo hi sl Q I rx hsl pl pu ⟨a, xs, rfl, SqT.of ha, hc, fun p hp => ?_⟩
      exact K1.done (k.shift (ext_new hs hp _)) (hs.new hp _) ⟨p, _, rfl, upd_same, (cut_rel ra).mono (ext_new hs hp _)⟩
  | ref l =>
    have k : K1 X.K μ H (match st[l]? with
      | some (.lst xs) => some (.ref st.length, st ++ [.lst (cut xs lo hi)])
      | _ => none) Q := k
    cases e : st[l]? with
    | none => rw [e] at k; exact k.no.elim
    | some o =>
      obtain ⟨ps⟩ := o
      rw [e] at k
      obtain ⟨a, xs, m, h1, ra⟩ := hs.at e
      obtain ⟨a2, rfl, ma⟩ := rp
      rw [m] at ma; cases ma
      refine sl_list pins s σ H _ v vl vu lo hi sl Q I rx hsl pl pu ⟨a, xs, rfl, SqL.of h1, fun p hp => ?_⟩
      refine K1.done (k.shift (ext_alloc hs hp _)) (hs.alloc hp (cut_rel ra)) ⟨p, rfl, ?_⟩
      rw [← hs.len, List.getElem?_append_right (Nat.le_refl _), Nat.sub_self] <;> rfl
  | _ => exact k.no.elim
/-! ### calls of built-in functions -/
theorem RPs.one_of {K : PySem.W.Frag} {μ : List Addr} {H : Hp} {p : PV} {xs : List V} (h : RPs K μ H [p] xs) : ∃ v, xs = [v] ∧ RP K μ H p v := by
  obtain ⟨v, r, e, h1, h2⟩ := h
  cases (show r = [] from h2)
  exact ⟨v, e, h1⟩
theorem RPs.two_of {K : PySem.W.Frag} {μ : List Addr} {H : Hp} {p q : PV} {xs : List V} (h : RPs K μ H [p, q] xs) : ∃ v u, xs = [v, u] ∧ RP K μ H p v ∧ RP K μ H q u := by
  obtain ⟨v, r, e, h1, h2⟩ := h
  obtain ⟨u, e', h3⟩ := RPs.one_of h2
  subst e'
  exact ⟨v, u, e, h1, h3⟩
theorem bools_rel {K : PySem.W.Frag} {μ : List Addr} {H : Hp} : ∀ {ps : List PV} {xs : List V} {bs : List Bool}, RPs K μ H ps xs → bools ps = some bs → xs = bs.map V.bl
  | [], xs, ns, r, e => by cases (show xs = [] from r); cases e; rfl
  | p :: ps, xs, ns, r, e => by
    obtain ⟨v, q, rfl, h1, h2⟩ := r
    cases p with
    | bl i =>
      have e : (bools ps).map (i :: ·) = some ns := e
      cases z : bools ps with
      | none => rw [z] at e; cases e
      | some ms =>
        rw [z] at e; cases e
        rw [bools_rel h2 z, List.map_cons, show v = .bl i from h1]
    | _ => cases e
theorem Vals.mapInt {ns : List Int} : ∀ {us : List Value}, Vals (ns.map V.int) us → ∀ i : Nat, i < ns.length → ∃ t, us[i]? = some (.int (ns.getD i 0) t) := fun {us} r i hi => by
  obtain ⟨u, e, t, rfl⟩ := r.get (i := i) (x := .int (ns.getD i 0)) (by simp [hi])
  exact ⟨t, e⟩
theorem preSum_take (ns : List Int) : ∀ j, j ≤ ns.length → preSum (fun i => ns.getD i 0) j = (ns.take j).sum
  | 0, _ => by simp [preSum]
  | j + 1, h => by
    have hj : j < ns.length := h
    show preSum _ j + ns.getD j 0 = _
    rw [preSum_take ns j (by omega), List.take_succ_eq_append_getElem hj, List.sum_append]
    simp [List.getD, hj]
theorem sum_le (B : Int) (hB : 0 ≤ B) : ∀ ns : List Int, (∀ n ∈ ns, -B ≤ n ∧ n ≤ B) → -(B * ns.length) ≤ ns.sum ∧ ns.sum ≤ B * ns.length
  | [], _ => by simp
  | n :: r, h => by
    have ih := sum_le B hB r fun m hm => h m (List.mem_cons_of_mem _ hm)
    have hn := h n List.mem_cons_self
    rw [List.sum_cons, List.length_cons]
    have e : B * ((r.length + 1 : Nat) : Int) = B * (r.length : Int) + B := by rw [Int.natCast_add, Int.mul_add]; simp
    rw [e]
    omega
theorem call_sum_l (hc : X.calm = true) : CallR X (.builtin "sum") (fun xs H Q => ∃ (a : Addr) (ns : List Int), xs = [.ref a] ∧ SqL X.K H a (ns.map V.int) ∧ ns.length ≤ big ∧ (∀ n ∈ ns, -(2 ^ 40) ≤ n ∧ n ≤ 2 ^ 40) ∧ Q (.int ns.sum) H) := by
  intro pins s σ H xs us Q I r h
  obtain ⟨a, ns, rfl, hq, hz, hb, q⟩ := h
  obtain ⟨u, rfl, rx⟩ := vals1 r
  cases rx
  obtain ⟨its, r', pl, hz'⟩ := I.list hq
  have hlen : ns.length = its.length := by have := r'.length; simpa using this
  have alt : a < s.heap.objs.size := by obtain ⟨_, e, _⟩ := pl.isList; exact Heap.lt_size e
  have hh : X.A.in1.handled = none := I.ok.hd hc
  refine call_sum_walk (wpAny_pyIter_list pl.isList ?_)
  refine ⟨s.heap.objs.size, _, _, _, _, _, fun i => ns.getD i 0, rfl, Walks.list hh s.heap.objs.size a (Nat.ne_of_lt alt) its.toArray, ⟨⟨_, Heap.get?_push_size _ rfl, rfl, rfl⟩, pl.isList.at fun o e => Heap.get?_push_of_some _ e⟩, ?_, ?_, ?_, ?_⟩
  · intro b hb'
    simp at hb'
    rcases hb' with rfl | rfl
    · show _ < (s.heap.push _).objs.size; rw [Heap.size_push]; exact Nat.lt_succ_self _
    · show _ < (s.heap.push _).objs.size; rw [Heap.size_push]; exact Nat.lt_succ_of_lt alt
  · intro i v hv
    have hv : its.toArray[i]? = some v := hv
    have hi : i < ns.length := by rw [hlen]; simpa using (Array.getElem?_eq_some_iff.mp hv).1
    obtain ⟨t, e⟩ := Vals.mapInt r' i hi
    refine ⟨t, ?_⟩
    have e' : its.toArray[i]? = some (.int (ns.getD i 0) t) := by simpa using e
    rw [hv] at e'
    exact Option.some.inj e'
  · intro j hj
    have hj' : j < ns.length := by rw [hlen]; simpa using hj
    have hm : ns.getD j 0 ∈ ns := by simp [List.getD, hj']
    refine ⟨?_, ?_⟩
    · have := hb _ hm
      show -(2 ^ 63) ≤ ns.getD j 0 ∧ ns.getD j 0 < 2 ^ 63
      omega
    · rw [preSum_take ns (j + 1) hj']
      have b2 := sum_le 1099511627776 (by decide) (ns.take (j + 1)) fun n hn => by have := hb n (List.mem_of_mem_take hn); omega
      have l2 : (ns.take (j + 1)).length ≤ 100000 := by rw [List.length_take]; unfold big at hz; omega
      unfold InLong; omega
  · intro h' tk t' hk
    have e : preSum (fun i => ns.getD i 0) its.toArray.size = ns.sum := by
      rw [List.size_toArray, ← hlen, preSum_take ns _ (Nat.le_refl _), List.take_length]
    rw [e]
    refine ⟨.int ns.sum, H, ?_, ⟨t', rfl⟩, q⟩
    exact I.kept (t' := tk) fun b o e => hk b o (by simp; exact Nat.ne_of_lt (Heap.lt_size e)) (Heap.get?_push_of_some _ e)
theorem truth_bl {prog : Program} {w : World} {A : Around} {its : List Value} {bs : List Bool} (r : Vals (bs.map V.bl) its) : TruthOf prog w A (fun i v => its.toArray[i]? = some v) (fun i => bs.getD i false) := by
  intro i v s Q E hv hq
  have hlen : bs.length = its.length := by have := r.length; simpa using this
  have hi : i < bs.length := by rw [hlen]; simpa using (Array.getElem?_eq_some_iff.mp hv).1
  obtain ⟨u, e, ru⟩ := r.get (i := i) (x := .bl (bs.getD i false)) (by simp [hi])
  have e' : its.toArray[i]? = some u := by simpa using e
  rw [hv] at e'
  cases e'
  cases ru
  exact wpAny_pure hq
theorem range_all (bs : List Bool) : (List.range bs.length).all (fun i => bs.getD i false) = bs.all id := by
  rw [Bool.eq_iff_iff]
  simp only [List.all_eq_true, List.mem_range, id]
  constructor
  · intro h b hb
    obtain ⟨i, hi, e⟩ := List.mem_iff_getElem.mp hb
    have := h i hi
    simpa [List.getD, hi, e] using this
  · intro h i hi
    have := h bs[i] (List.getElem_mem hi)
    simpa [List.getD, hi] using this
theorem range_any (bs : List Bool) : (List.range bs.length).any (fun i => bs.getD i false) = bs.any id := by
  rw [Bool.eq_iff_iff]
  simp only [List.any_eq_true, List.mem_range, id]
  constructor
  · rintro ⟨i, hi, e⟩
    exact ⟨bs[i], List.getElem_mem hi, by simpa [List.getD, hi] using e⟩
  · rintro ⟨b, hb, e⟩
    obtain ⟨i, hi, e'⟩ := List.mem_iff_getElem.mp hb
    exact ⟨i, hi, by simpa [List.getD, hi, e'] using e⟩
theorem call_all_l (hc : X.calm = true) : CallR X (.builtin "all") (fun xs H Q => ∃ (a : Addr) (bs : List Bool), xs = [.ref a] ∧ SqL X.K H a (bs.map V.bl) ∧ Q (.bl (bs.all id)) H) := by
  intro pins s σ H xs us Q I r h
  obtain ⟨a, bs, rfl, hq, q⟩ := h
  obtain ⟨u, rfl, rx⟩ := vals1 r
  cases rx
  obtain ⟨its, r', pl, hz'⟩ := I.list hq
  have hlen : bs.length = its.length := by have := r'.length; simpa using this
  have alt : a < s.heap.objs.size := by obtain ⟨_, e, _⟩ := pl.isList; exact Heap.lt_size e
  have hh : X.A.in1.handled = none := I.ok.hd hc
  refine call_all_walk (wpAny_pyIter_list pl.isList ?_)
  refine ⟨s.heap.objs.size, _, _, _, _, _, fun i => bs.getD i false, rfl, Walks.list hh s.heap.objs.size a (Nat.ne_of_lt alt) its.toArray, ⟨⟨_, Heap.get?_push_size _ rfl, rfl, rfl⟩, pl.isList.at fun o e => Heap.get?_push_of_some _ e⟩, truth_bl r', ?_⟩
  intro h' tk hk
  rw [List.size_toArray, ← hlen, range_all]
  exact ⟨.bl _, H, I.kept (t' := tk) fun b o e => hk b o (by simp; exact Nat.ne_of_lt (Heap.lt_size e)) (Heap.get?_push_of_some _ e), rfl, q⟩
theorem call_any_l (hc : X.calm = true) : CallR X (.builtin "any") (fun xs H Q => ∃ (a : Addr) (bs : List Bool), xs = [.ref a] ∧ SqL X.K H a (bs.map V.bl) ∧ Q (.bl (bs.any id)) H) := by
  intro pins s σ H xs us Q I r h
  obtain ⟨a, bs, rfl, hq, q⟩ := h
  obtain ⟨u, rfl, rx⟩ := vals1 r
  cases rx
  obtain ⟨its, r', pl, hz'⟩ := I.list hq
  have hlen : bs.length = its.length := by have := r'.length; simpa using this
  have alt : a < s.heap.objs.size := by obtain ⟨_, e, _⟩ := pl.isList; exact Heap.lt_size e
  have hh : X.A.in1.handled = none := I.ok.hd hc
  refine call_any_walk (wpAny_pyIter_list pl.isList ?_)
  refine ⟨s.heap.objs.size, _, _, _, _, _, fun i => bs.getD i false, rfl, Walks.list hh s.heap.objs.size a (Nat.ne_of_lt alt) its.toArray, ⟨⟨_, Heap.get?_push_size _ rfl, rfl, rfl⟩, pl.isList.at fun o e => Heap.get?_push_of_some _ e⟩, truth_bl r', ?_⟩
  intro h' tk hk
  rw [List.size_toArray, ← hlen, range_any]
  exact ⟨.bl _, H, I.kept (t' := tk) fun b o e => hk b o (by simp; exact Nat.ne_of_lt (Heap.lt_size e)) (Heap.get?_push_of_some _ e), rfl, q⟩
theorem leastI_at (n : Int) (r : List Int) : ∀ k, k ≤ r.length → (n :: r)[argBest (fun i j => decide ((n :: r).getD i 0 < (n :: r).getD j 0)) k]? = some (leastI n (r.take k))
  | 0, _ => by simp [argBest, leastI]
  | k + 1, h => by
    have ih := leastI_at n r k (by omega)
    have hk : k < r.length := h
    have e1 : (n :: r).getD (argBest (fun i j => decide ((n :: r).getD i 0 < (n :: r).getD j 0)) k) 0 = leastI n (r.take k) := by rw [List.getD_eq_getElem?_getD, ih]; rfl
    have e2 : (n :: r).getD (k + 1) 0 = r[k] := by simp [List.getD, hk]
    rw [List.take_succ_eq_append_getElem hk, leastI_app]
    simp only [argBest, e1, e2, decide_eq_true_eq]
    split
    · simp [hk]
    · exact ih
theorem leastT_at (n : List Int) (r : List (List Int)) : ∀ k, k ≤ r.length → (n :: r)[argBest (fun i j => Kw.lexLt ((n :: r).getD i []) ((n :: r).getD j [])) k]? = some (leastT n (r.take k))
  | 0, _ => by simp [argBest, leastT]
  | k + 1, h => by
    have ih := leastT_at n r k (by omega)
    have hk : k < r.length := h
    have e1 : (n :: r).getD (argBest (fun i j => Kw.lexLt ((n :: r).getD i []) ((n :: r).getD j [])) k) [] = leastT n (r.take k) := by rw [List.getD_eq_getElem?_getD, ih]; rfl
    have e2 : (n :: r).getD (k + 1) [] = r[k] := by simp [List.getD, hk]
    rw [List.take_succ_eq_append_getElem hk, leastT_app]
    simp only [argBest, e1, e2]
    split
    · simp [hk]
    · exact ih
theorem tupsOf_get : ∀ {ps : List PV} {ts : List (List Int)}, tupsOf ps = some ts → ts.length = ps.length ∧ ∀ (i : Nat) (p : PV), ps[i]? = some p → ∃ xs t, p = .tup xs ∧ ts[i]? = some t ∧ intsOf xs = some t
  | [], ts, h => by cases h; exact ⟨rfl, fun i p e => by simp at e⟩
  | q :: ps, ts, h => by
    cases q with
    | tup xs =>
      have h : ((intsOf xs).bind fun t => (tupsOf ps).map (t :: ·)) = some ts := h
      cases e1 : intsOf xs with
      | none => rw [e1] at h; cases h
      | some t =>
        cases e2 : tupsOf ps with
        | none => rw [e1, e2] at h; cases h
        | some ts' =>
          rw [e1, e2] at h; cases h
          obtain ⟨l1, l2⟩ := tupsOf_get e2
          refine ⟨by rw [List.length_cons, List.length_cons, l1], fun i p e => ?_⟩
          cases i with
          | zero => simp at e; subst e; exact ⟨xs, t, rfl, rfl, e1⟩
          | succ i => exact l2 i p (by simpa using e)
    | _ => cases h
/-- the least of a list -/
theorem call_min_l (hc : X.calm = true) (hu : X.A.units + 64 < cLine) {pins : List (Addr × Obj)} {s : Shared} {σ : L2.St} {H : Hp} {μ : List Addr} {st : Sto} {qs : List PV} {a : Addr} {ys : List V} {m : PV} {Q : VK} (I : Inv X pins σ H s) (hs : RelS X.K μ H st) (hq : SqL X.K H a ys) (ry : RPs X.K μ H qs ys) (e : minL qs = some m)
    (q : ∀ v, RP X.K μ H m v → Q v H) : wpAny (model X.prog X.w) X.A (PySem.call (.builtin "min") [.ref a]) (EP X pins σ Q) X.xe s := by
  obtain ⟨its, r', pl, hz'⟩ := I.list hq
  have hh : X.A.in1.handled = none := I.ok.hd hc
  have hlen : ys.length = its.length := r'.length
  have e : (match intsOf qs with | some (n :: r) => some (.int (leastI n r)) | some [] => none | none => match tupsOf qs with | some (t :: r) => some (.tup ((leastT t r).map .int)) | _ => none) = some m := e
  cases e1 : intsOf qs with
  | some ns =>
    rw [e1] at e
    have hy := intsOf_rel ry e1
    subst hy
    cases ns with
    | nil => cases e
    | cons n r =>
      cases e
      have hl2 : its.length = r.length + 1 := by rw [← hlen]; simp
      have it : ∀ (i : Nat) (v : Value), its.toArray[i]? = some v → ∃ t, v = Value.int ((n :: r).getD i 0) t := fun i v hv => by
        have hv : its[i]? = some v := by simpa using hv
        have hi := (List.getElem?_eq_some_iff.mp hv).1
        obtain ⟨t, e⟩ := Vals.mapInt r' i (by simp; omega)
        rw [hv] at e
        exact ⟨t, Option.some.inj e⟩
      refine call_least (bt := fun i j => decide ((n :: r).getD i 0 < (n :: r).getD j 0)) hh pl.isList (by simp; omega) (fun i j u v s1 Q1 E1 _ hi hj q1 => ?_) fun v h' tk hv hk => ?_
      · obtain ⟨t1, rfl⟩ := it i u hi
        obtain ⟨t2, rfl⟩ := it j v hj
        exact PyProof.Rows.lt_int q1
      · have hv : its[argBest (fun i j => decide ((n :: r).getD i 0 < (n :: r).getD j 0)) (its.toArray.size - 1)]? = some v := by simpa using hv
        have hb := leastI_at n r r.length (Nat.le_refl _)
        rw [List.take_length] at hb
        have hsz : its.toArray.size - 1 = r.length := by simp; omega
        rw [hsz] at hv
        generalize argBest (fun i j => decide ((n :: r).getD i 0 < (n :: r).getD j 0)) r.length = z at hv hb
        obtain ⟨t, rfl⟩ := it z v (by simpa using hv)
        rw [List.getD_eq_getElem?_getD, hb]
        exact ⟨.int (leastI n r), H, I.kept (t' := tk) hk, ⟨t, rfl⟩, q _ rfl⟩
  | none =>
    rw [e1] at e
    have e : (match tupsOf qs with | some (t :: r) => some (.tup ((leastT t r).map .int)) | _ => none) = some m := e
    cases e2 : tupsOf qs with
    | none => rw [e2] at e; cases e
    | some ts =>
      rw [e2] at e
      cases ts with
      | nil => cases e
      | cons n r =>
        cases e
        obtain ⟨tl, tg⟩ := tupsOf_get e2
        have hql := ry.length
        have hl2 : its.length = r.length + 1 := by rw [← hlen, ← hql, ← tl]; simp
        have it : ∀ (i : Nat) (v : Value), its.toArray[i]? = some v → ∃ (b : Addr) (p : PV) (xs : List PV), v = .ref b ∧ qs[i]? = some (.tup xs) ∧ intsOf xs = some ((n :: r).getD i []) ∧ RP X.K μ H (.tup xs) (.ref b) ∧ ∃ vs, SqT X.K H b vs ∧ vs = ((n :: r).getD i []).map V.int := fun i v hv => by
          have hv : its[i]? = some v := by simpa using hv
          have hi := (List.getElem?_eq_some_iff.mp hv).1
          have hi' : i < qs.length := by omega
          obtain ⟨xs, t, e3, e4, e5⟩ := tg i qs[i] (List.getElem?_eq_getElem hi')
          obtain ⟨y, f1, f2⟩ := ry.get (i := i) (List.getElem?_eq_getElem hi')
          obtain ⟨u, g1, g2⟩ := r'.get f1
          rw [hv] at g1; cases g1
          rw [e3] at f2
          obtain ⟨b, vs, rfl, h1, h2⟩ := id f2
          cases (show v = Value.ref b from g2)
          have et : (n :: r).getD i [] = t := by rw [List.getD_eq_getElem?_getD, e4]; rfl
          rw [et]
          exact ⟨b, qs[i], xs, rfl, by rw [List.getElem?_eq_getElem hi', e3], e5, f2, vs, SqT.of h1, intsOf_rel h2 e5⟩
        refine call_least (bt := fun i j => Kw.lexLt ((n :: r).getD i []) ((n :: r).getD j [])) hh pl.isList (by simp; omega) (fun i j u v s1 Q1 E1 kp hi hj q1 => ?_) fun v h' tk hv hk => ?_
        · obtain ⟨b1, _, xs1, rfl, _, _, _, vs1, s1q, ev1⟩ := it i u hi
          obtain ⟨b2, _, xs2, rfl, _, _, _, vs2, s2q, ev2⟩ := it j v hj
          subst ev1 ev2
          obtain ⟨jt1, rr1, ⟨o1, p1, p2⟩, _⟩ := I.tuple s1q
          obtain ⟨jt2, rr2, ⟨o2, p3, p4⟩, _⟩ := I.tuple s2q
          exact HT.lt_tupInts (l := b1) (b := b2) ⟨o1, kp b1 o1 (Heap.lt_size p1) p1, p2⟩ ⟨o2, kp b2 o2 (Heap.lt_size p3) p3, p4⟩ (intsAre_of rr1) (intsAre_of rr2) (by show X.A.units + 1 < cLine; omega) (by rw [← lex_eq]; exact q1)
        · have hv : its[argBest (fun i j => Kw.lexLt ((n :: r).getD i []) ((n :: r).getD j [])) (its.toArray.size - 1)]? = some v := by simpa using hv
          have hb := leastT_at n r r.length (Nat.le_refl _)
          rw [List.take_length] at hb
          have hsz : its.toArray.size - 1 = r.length := by simp; omega
          rw [hsz] at hv
          generalize argBest (fun i j => Kw.lexLt ((n :: r).getD i []) ((n :: r).getD j [])) r.length = z at hv hb
          obtain ⟨b, _, xs, rfl, _, e5, rp, _⟩ := it z v (by simpa using hv)
          rw [List.getD_eq_getElem?_getD, hb] at e5
          have ex : xs = (leastT n r).map PV.int := intsOf_map e5
          subst ex
          exact ⟨.ref b, H, I.kept (t' := tk) hk, rfl, q _ rp⟩
/-- the built-in functions, by name -/
def bfName : BF → String | .len => "len" | .abs => "abs" | .int => "int" | .sum => "sum" | .all => "all" | .any => "any" | .min => "min" | .max => "max" | .tuple => "tuple" | .list => "list" | .str => "str"
def bfIsTy : BF → Bool | .int => true | .tuple => true | .list => true | .str => true | _ => false
def bfVal (f : BF) : Value := if bfIsTy f then .type (bfName f) else .builtin (bfName f)
theorem call_bf (hc : X.calm = true) (hu : X.A.units + 64 < cLine) (hg : X.A.guards = some []) (f : BF) : CallR X (bfVal f) (r1 X.K (bfun f)) := by
  intro pins s σ H xs us Q I r h
  obtain ⟨μ, st, ps, hs, rp, k⟩ := h
  have one : ∀ {v : PV} {g : List PV → R PV}, ps = [v] → K1 X.K μ H ((seqOf st v).bind g) Q → ∃ qs a ys, K1 X.K μ H (g qs) Q ∧ xs = [.ref a] ∧ ((SqL X.K H a ys ∧ ∀ zs, v ≠ .tup zs) ∨ (SqT X.K H a ys ∧ v = .tup qs)) ∧ RPs X.K μ H qs ys ∧ RP X.K μ H v (.ref a) := fun {v g} e k' => by
    subst e
    obtain ⟨w, rfl, rw'⟩ := RPs.one_of rp
    cases z : seqOf st v with
    | none => rw [z] at k'; exact k'.no.elim
    | some qs =>
      rw [z] at k'
      cases v with
      | tup zs =>
        cases z
        obtain ⟨a, ys, rfl, h1, h2⟩ := id rw'
        exact ⟨_, a, ys, k', rfl, .inr ⟨SqT.of h1, rfl⟩, h2, rw'⟩
      | ref l =>
        obtain ⟨a, ys, rfl, hq, ry⟩ := listOf_rel hs rw' z
        exact ⟨qs, a, ys, k', rfl, .inl ⟨hq, fun zs => by simp⟩, ry, rw'⟩
      | scr l =>
        obtain ⟨a, ys, rfl, hq, ry⟩ := listOf_rel hs rw' z
        exact ⟨qs, a, ys, k', rfl, .inl ⟨hq, fun zs => by simp⟩, ry, rw'⟩
      | _ => cases z
  have oneL : ∀ {v : PV} {g : List PV → R PV}, ps = [v] → K1 X.K μ H ((listOf st v).bind g) Q → ∃ qs a ys, K1 X.K μ H (g qs) Q ∧ xs = [.ref a] ∧ SqL X.K H a ys ∧ RPs X.K μ H qs ys := fun {v g} e k' => by
    subst e
    obtain ⟨w, rfl, rw'⟩ := RPs.one_of rp
    cases z : listOf st v with
    | none => rw [z] at k'; exact k'.no.elim
    | some qs =>
      rw [z] at k'
      obtain ⟨a, ys, rfl, hq, ry⟩ := listOf_rel hs rw' z
      exact ⟨qs, a, ys, k', rfl, hq, ry⟩
  cases f with
  | len =>
    rcases ps with _ | ⟨v, _ | ⟨v2, ps⟩⟩
    · exact k.no.elim
    · obtain ⟨qs, a, ys, k', rfl, hq, ry, _⟩ := one (g := fun xs => some (.int xs.length, st)) rfl k
      refine call_len_seq pins s σ H _ us Q I r ⟨a, ys, rfl, hq.elim (fun z => .inl z.1) fun z => .inr z.1, ?_⟩
      rw [← ry.length]
      exact K1.done (p := .int _) k' hs rfl
    · exact k.no.elim
  | abs =>
    rcases ps with _ | ⟨v, _ | ⟨v2, ps⟩⟩
    · exact k.no.elim
    · cases v with
      | int i =>
        obtain ⟨w, rfl, rw'⟩ := RPs.one_of rp
        obtain rfl : w = .int i := rw'
        exact call_abs pins s σ H _ us Q I r ⟨i, rfl, K1.done (p := .int _) k hs rfl⟩
      | _ => exact k.no.elim
    · cases v <;> exact k.no.elim
  | int =>
    rcases ps with _ | ⟨v, _ | ⟨v2, ps⟩⟩
    · exact k.no.elim
    · cases v with
      | int i =>
        obtain ⟨w, rfl, rw'⟩ := RPs.one_of rp
        obtain rfl : w = .int i := rw'
        exact call_int1 pins s σ H _ us Q I r (.inl ⟨i, rfl, K1.done (p := .int _) k hs rfl⟩)
      | bl b =>
        obtain ⟨w, rfl, rw'⟩ := RPs.one_of rp
        obtain rfl : w = .bl b := rw'
        exact call_int1 pins s σ H _ us Q I r (.inr ⟨b, rfl, K1.done (p := .int _) k hs rfl⟩)
      | _ => exact k.no.elim
    · cases v <;> exact k.no.elim
  | sum =>
    rcases ps with _ | ⟨v, _ | ⟨v2, ps⟩⟩
    · exact k.no.elim
    · obtain ⟨qs, a, ys, k', rfl, hq, ry⟩ := oneL (g := fun xs => (sumI xs).bind fun n => some (.int n, st)) rfl k
      have k' : K1 X.K μ H (((intsOf qs).bind fun ns => if ns.length ≤ big ∧ ns.all small40 = true then some ns.sum else none).bind fun n => some (.int n, st)) Q := k'
      cases e : intsOf qs with
      | none => rw [e] at k'; exact k'.no.elim
      | some ns =>
        rw [e] at k'
        have k' : K1 X.K μ H ((if ns.length ≤ big ∧ ns.all small40 = true then some ns.sum else none).bind fun n => some (.int n, st)) Q := k'
        by_cases hc' : ns.length ≤ big ∧ ns.all small40 = true
        · rw [if_pos hc'] at k'
          have := intsOf_rel ry e
          subst this
          refine call_sum_l hc pins s σ H _ us Q I r ⟨a, ns, rfl, hq, hc'.1, fun n hn => ?_, K1.done (p := .int _) k' hs rfl⟩
          have := List.all_eq_true.mp hc'.2 n hn
          simpa [small40] using this
        · rw [if_neg hc'] at k'; exact k'.no.elim
    · exact k.no.elim
  | all =>
    rcases ps with _ | ⟨v, _ | ⟨v2, ps⟩⟩
    · exact k.no.elim
    · obtain ⟨qs, a, ys, k', rfl, hq, ry⟩ := oneL (g := fun xs => (bools xs).bind fun bs => some (.bl (bs.all id), st)) rfl k
      cases e : bools qs with
      | none => rw [e] at k'; exact k'.no.elim
      | some bs =>
        rw [e] at k'
        have := bools_rel ry e
        subst this
        exact call_all_l hc pins s σ H _ us Q I r ⟨a, bs, rfl, hq, K1.done (p := .bl _) k' hs rfl⟩
    · exact k.no.elim
  | any =>
    rcases ps with _ | ⟨v, _ | ⟨v2, ps⟩⟩
    · exact k.no.elim
    · obtain ⟨qs, a, ys, k', rfl, hq, ry⟩ := oneL (g := fun xs => (bools xs).bind fun bs => some (.bl (bs.any id), st)) rfl k
      cases e : bools qs with
      | none => rw [e] at k'; exact k'.no.elim
      | some bs =>
        rw [e] at k'
        have := bools_rel ry e
        subst this
        exact call_any_l hc pins s σ H _ us Q I r ⟨a, bs, rfl, hq, K1.done (p := .bl _) k' hs rfl⟩
    · exact k.no.elim
  | min =>
    rcases ps with _ | ⟨v, _ | ⟨v2, _ | ⟨v3, ps⟩⟩⟩
    · exact k.no.elim
    · have k : K1 X.K μ H ((listOf st v).bind fun xs => (minL xs).bind fun m => some (m, st)) Q := by cases v <;> exact k
      obtain ⟨qs, a, ys, k', rfl, hq, ry⟩ := oneL (g := fun xs => (minL xs).bind fun m => some (m, st)) rfl k
      cases e : minL qs with
      | none => rw [e] at k'; exact k'.no.elim
      | some m =>
        rw [e] at k'
        obtain ⟨u, rfl, ru⟩ := vals1 r
        cases (show u = Value.ref a from ru)
        exact call_min_l hc hu I hs hq ry e fun v rv => K1.done k' hs rv
    · cases v <;> cases v2 <;> first
        | exact k.no.elim
        | (rename_i i j
           obtain ⟨w, w', rfl, rw', rw''⟩ := RPs.two_of rp
           obtain rfl : w = .int i := rw'
           obtain rfl : w' = .int j := rw''
           exact call_min2 hc pins s σ H _ us Q I r ⟨i, j, rfl, K1.done (p := .int _) k hs rfl⟩)
    · cases v <;> cases v2 <;> exact k.no.elim
  | max =>
    rcases ps with _ | ⟨v, _ | ⟨v2, _ | ⟨v3, ps⟩⟩⟩
    · exact k.no.elim
    · cases v <;> exact k.no.elim
    · cases v <;> cases v2 <;> first
        | exact k.no.elim
        | (rename_i i j
           obtain ⟨w, w', rfl, rw', rw''⟩ := RPs.two_of rp
           obtain rfl : w = .int i := rw'
           obtain rfl : w' = .int j := rw''
           exact call_max2 hc pins s σ H _ us Q I r ⟨i, j, rfl, K1.done (p := .int _) k hs rfl⟩)
    · cases v <;> cases v2 <;> exact k.no.elim
  | tuple =>
    rcases ps with _ | ⟨v, _ | ⟨v2, ps⟩⟩
    · exact k.no.elim
    · obtain ⟨qs, a, ys, k', rfl, hq, ry, rv⟩ := one (g := fun xs => some (.tup xs, st)) rfl k
      rcases hq with ⟨hq, _⟩ | ⟨hq, rfl⟩
      · refine call_tuple_of pins s σ H _ us Q I r ⟨a, ys, rfl, .inl ⟨hq, fun l hl => ?_⟩⟩
        exact K1.done (Kg.shift (ext_new hs hl _) k') (hs.new hl _) ⟨l, _, rfl, upd_same, ry.mono (ext_new hs hl _)⟩
      · exact call_tuple_of pins s σ H _ us Q I r ⟨a, ys, rfl, .inr ⟨hq, K1.done k' hs rv⟩⟩
    · exact k.no.elim
  | list =>
    rcases ps with _ | ⟨v, _ | ⟨v2, ps⟩⟩
    · exact k.no.elim
    · obtain ⟨qs, a, ys, k', rfl, hq, ry, _⟩ := one (g := fun (xs : List PV) => some (PV.ref st.length, st ++ [PO.lst xs])) rfl k
      refine call_list_of pins s σ H _ us Q I r ⟨a, ys, rfl, hq.elim (fun z => .inl z.1) fun z => .inr z.1, fun l hl => ?_⟩
      refine K1.done (Kg.shift (ext_alloc hs hl _) k') (hs.alloc hl ry) ⟨l, rfl, ?_⟩
      rw [← hs.len, List.getElem?_append_right (Nat.le_refl _), Nat.sub_self] <;> rfl
    · exact k.no.elim
  | str =>
    rcases ps with _ | ⟨v, _ | ⟨v2, ps⟩⟩
    · exact k.no.elim
    · obtain ⟨w, rfl, rw'⟩ := RPs.one_of rp
      obtain ⟨u, rfl, ru⟩ := vals1 r
      have deep : ∀ {a : Addr}, w = .ref a → K1 X.K μ H ((toD st deepest v).bind fun d => if d.fit = true ∧ d.wt ≤ big then some (.shn d, st) else none) Q → wpAny (model X.prog X.w) X.A (PySem.call (.type "str") [u]) (EP X pins σ Q) X.xe s := fun {a} ea k => by
        cases e : toD st deepest v with
        | none => rw [e] at k; exact k.no.elim
        | some d =>
          rw [e] at k
          have k : K1 X.K μ H (if d.fit = true ∧ d.wt ≤ big then some (.shn d, st) else none) Q := k
          split at k
          · rename_i hf
            subst ea
            obtain ⟨as, ra⟩ := reads_of I hs rw' ru e
            cases (show u = Value.ref a from ru)
            have hdp := toD_depth e
            unfold deepest at hdp
            refine str_of_reads (h₀ := s.heap) ra (d_fit d hf.1).1 (fun z => by rw [d_nodict] at z; cases z) hg (by omega) (fun _ _ h => h) (fun h' u' tk hk => ?_) (d_shown hf.1 hf.2)
            exact ⟨.str (dPy d).shown, H, I.kept (t' := tk) hk, ⟨u', rfl⟩, K1.done (p := .shn d) k hs rfl⟩
          · exact k.no.elim
      cases v with
      | int i =>
        have k : K1 X.K μ H (if -(2 ^ 150) < i ∧ i < 2 ^ 150 then some (.str (toString i), st) else none) Q := k
        split at k
        · rename_i hc
          obtain rfl : w = .int i := rw'
          exact call_str_int pins s σ H _ _ Q I r ⟨i, rfl, by have := log2_lt (k := 150) (by decide) hc; omega, K1.done (p := .str _) k hs rfl⟩
        · exact k.no.elim
      | tup xs => obtain ⟨a, ys, e, _⟩ := id rw'; exact deep e k
      | ref l => obtain ⟨a, e, _⟩ := id rw'; exact deep e k
      | _ => exact k.no.elim
    · cases v <;> exact k.no.elim
end
end Kw
end
section
set_option Elab.async false
set_option linter.all false
set_option maxRecDepth 100000
set_option maxHeartbeats 4000000
namespace Kw
open PySem PySem.Spec PyProof.Rows L2
section
variable {X : Cx} {call : Nat → List PV → Sto → R PV}
theorem PE.imp {e : Expr} {t u : TE} (h : PE X e t) (f : ∀ σ H Q, u σ H Q → t σ H Q) : PE X e u := fun pins s σ H Q I hu => h pins s σ H Q I (f σ H Q hu)
theorem PT.imp {e : Expr} {t u : TT} (h : PT X e t) (f : ∀ σ H Q, u σ H Q → t σ H Q) : PT X e u := fun pins s σ H Q I hu => h pins s σ H Q I (f σ H Q hu)
theorem PTs.imp {e : List Expr} {t u : TT} (h : PTs X e t) (f : ∀ σ H Q, u σ H Q → t σ H Q) : PTs X e u := fun pins s σ H Q I hu => h pins s σ H Q I (f σ H Q hu)
theorem PW.imp {e : Expr} {t u : TT} (h : PW X e t) (f : ∀ σ H Q, u σ H Q → t σ H Q) : PW X e u := fun w pins s σ H Q I hu => h w pins s σ H Q I (f σ H Q hu)
theorem PA.imp {e : List Expr} {t u : TA} (h : PA X e t) (f : ∀ σ H Q, u σ H Q → t σ H Q) : PA X e u := fun p pins s σ H Q I hu => h p pins s σ H Q I (f σ H Q hu)
theorem PS.imp {e : Stmt} {t u : TS} (h : PS X e t) (f : ∀ D σ H, u D σ H → t D σ H) : PS X e u := fun pins s σ H D I hu => h pins s σ H D I (f D σ H hu)
theorem PSs.imp {e : List Stmt} {t u : TS} (h : PSs X e t) (f : ∀ D σ H, u D σ H → t D σ H) : PSs X e u := fun pins s σ H D I hu => h pins s σ H D I (f D σ H hu)
/-- the way through one more part: its value in the heap behind, the rest shifted -/
theorem go1 {K : PySem.W.Frag} {e : E} {σ : L2.St} {H : Hp} {μ : List Addr} {L : Loc} {st : Sto} {p : PV} {st1 : Sto} {Q : VK} (hl : RelL K μ H L σ) (hs : RelS K μ H st) (e1 : ev call e L st = some (p, st1))
    (q : ∀ v H1 μ1, Ext μ H μ1 H1 → RelL K μ1 H1 L σ → RelS K μ1 H1 st1 → RP K μ1 H1 p v → Q v H1) : tE K call e σ H Q :=
  ⟨μ, L, st, hl, hs, p, st1, e1, fun v H1 μ1 x s1 r => q v H1 μ1 x (hl.mono x) s1 r⟩
theorem goT {K : PySem.W.Frag} {e : E} {σ : L2.St} {H : Hp} {μ : List Addr} {L : Loc} {st : Sto} {p : Bool} {st1 : Sto} {Q : Bool → Hp → Prop} (hl : RelL K μ H L σ) (hs : RelS K μ H st) (e1 : evT call e L st = some (p, st1))
    (q : ∀ H1 μ1, Ext μ H μ1 H1 → RelL K μ1 H1 L σ → RelS K μ1 H1 st1 → Q p H1) : tT K call e σ H Q :=
  ⟨μ, L, st, hl, hs, p, st1, e1, fun v H1 μ1 x s1 r => r ▸ q H1 μ1 x (hl.mono x) s1⟩
theorem goA {K : PySem.W.Frag} {e : E} {σ : L2.St} {H : Hp} {μ : List Addr} {L : Loc} {st : Sto} {p : List PV} {st1 : Sto} {Q : List V → Hp → Prop} (hl : RelL K μ H L σ) (hs : RelS K μ H st) (e1 : evs call e L st = some (p, st1))
    (q : ∀ v H1 μ1, Ext μ H μ1 H1 → RelL K μ1 H1 L σ → RelS K μ1 H1 st1 → RPs K μ1 H1 p v → Q v H1) : tA K call e σ H Q :=
  ⟨μ, L, st, hl, hs, p, st1, e1, fun v H1 μ1 x s1 r => q v H1 μ1 x (hl.mono x) s1 r⟩
theorem snd_var {i : Nat} {x : Str} {pos : Pos} (hN : X.N[i]? = some x) (hv : Vis X.env.scope x) (hd : (x == ("__debug__" : Str)) = false) (hcd : (x == ("__classdict__" : Str)) = false) : PE X (.Name x pos) (tE X.K call (.var i)) := by
  refine PE.imp (pe_var hN hv hd hcd) fun σ H Q ⟨μ, L, st, hl, hs, k⟩ => ?_
  simp only [ev] at k
  split at k
  · rename_i v e
    obtain ⟨w, h1, h2⟩ := hl.val i v e
    exact ⟨w, h1, K1.done k hs h2⟩
  · exact k.no.elim
theorem snd_int {i j pos} : PE X (.Constant (.int i) j pos) (tE X.K call (.int i)) := PE.imp pe_int fun σ H Q ⟨μ, L, st, hl, hs, k⟩ => by simp only [ev] at k; exact K1.done k hs rfl
theorem snd_bl {i j pos} : PE X (.Constant (.bool i) j pos) (tE X.K call (.bl i)) := PE.imp pe_bl fun σ H Q ⟨μ, L, st, hl, hs, k⟩ => by simp only [ev] at k; exact K1.done k hs rfl
theorem snd_non {j pos} : PE X (.Constant .none j pos) (tE X.K call .non) := PE.imp pe_non fun σ H Q ⟨μ, L, st, hl, hs, k⟩ => by simp only [ev] at k; exact K1.done k hs rfl
theorem snd_str {i : String} {j pos} : PE X (.Constant (.str (Str.ofString i)) j pos) (tE X.K call (.str i)) := PE.imp pe_str fun σ H Q ⟨μ, L, st, hl, hs, k⟩ => by simp only [ev] at k; exact K1.done k hs rfl
theorem snd_bin {op : BOp} {a b : E} {l r : Expr} {pos : Pos} (ha : PE X l (tE X.K call a)) (hb : PE X r (tE X.K call b)) : PE X (.BinOp l (bopOf op) r pos) (tE X.K call (.bin op a b)) := by
  refine PE.imp (pe_op (op_bin op) ha hb) fun σ H Q ⟨μ, L, st, hl, hs, k⟩ => ?_
  simp only [ev] at k
  obtain ⟨p, st1, e1, k⟩ := k.split
  refine go1 hl hs e1 fun v H1 μ1 x1 hl s1 r1 => ?_
  obtain ⟨q, st2, e2, k⟩ := (k.shift x1).split
  refine go1 hl s1 e2 fun w H2 μ2 x2 hl s2 r2 => ?_
  exact ⟨μ2, st2, p, q, s2, r1.mono x2, r2, k.shift x2⟩
theorem snd_cmp (hu : X.A.units + 64 < cLine) {op : COp} {a b : E} {l r : Expr} {pos : Pos} (hm : behindInMarks (copOf op) r = false) (ha : PE X l (tE X.K call a)) (hb : PE X r (tE X.K call b)) : PE X (.Compare l [copOf op] [r] pos) (tE X.K call (.cmp op a b)) := by
  refine PE.imp (pe_cmpR (op_cmp hu op) ha hb hm) fun σ H Q ⟨μ, L, st, hl, hs, k⟩ => ?_
  simp only [ev] at k
  obtain ⟨p, st1, e1, k⟩ := k.split
  refine go1 hl hs e1 fun v H1 μ1 x1 hl s1 r1 => ?_
  obtain ⟨q, st2, e2, k⟩ := (k.shift x1).split
  refine go1 hl s1 e2 fun w H2 μ2 x2 hl s2 r2 => ?_
  exact ⟨μ2, st2, p, q, s2, r1.mono x2, r2, k.shift x2⟩
theorem snd_cmpT (hu : X.A.units + 64 < cLine) {op : COp} {a b : E} {l r : Expr} {pos : Pos} (hm : behindInMarks (copOf op) r = false) (ha : PE X l (tE X.K call a)) (hb : PE X r (tE X.K call b)) : PT X (.Compare l [copOf op] [r] pos) (tT X.K call (.cmp op a b)) := by
  refine PT.imp (pt_cmpR (op_cmp hu op) ha hb hm) fun σ H Q ⟨μ, L, st, hl, hs, k⟩ => ?_
  have k : KB X.K μ H ((ev call (.cmp op a b) L st).bind fun x => (Kw.truthy x.2 x.1).bind fun r => some (r, x.2)) Q := by simpa only [evT] using k
  simp only [ev] at k
  obtain ⟨z, stz, e0, k⟩ := k.split
  cases e1 : ev call a L st with
  | none => rw [e1] at e0; cases e0
  | some xs =>
    obtain ⟨p, st1⟩ := xs
    rw [e1] at e0
    have e0 : ((ev call b L st1).bind fun x => (cmpop op p x.1 x.2).bind fun r => some (PV.bl r, x.2)) = some (z, stz) := e0
    cases e2 : ev call b L st1 with
    | none => rw [e2] at e0; cases e0
    | some ys =>
      obtain ⟨q, st2⟩ := ys
      rw [e2] at e0
      have e0 : ((cmpop op p q st2).bind fun r => some (PV.bl r, st2)) = some (z, stz) := e0
      cases e3 : cmpop op p q st2 with
      | none => rw [e3] at e0; cases e0
      | some b' =>
        rw [e3] at e0
        cases e0
        refine go1 hl hs e1 fun v H1 μ1 x1 hl s1 r1 => ?_
        refine go1 hl s1 e2 fun w H2 μ2 x2 hl s2 r2 => ?_
        refine ⟨μ2, stz, p, q, s2, r1.mono x2, r2, .bl b', stz, by show ((cmpop op p q stz).bind fun r => some (PV.bl r, stz)) = _; rw [e3]; rfl, fun v H' μ' x' s' r' => ⟨b', r', ?_⟩⟩
        obtain ⟨_, _, e4, k⟩ := k
        cases e4
        exact k b' H' μ' (x1.trans (x2.trans x')) s' rfl
/-- is None, True, False -/
theorem snd_isN {k : Bool} {a : E} {l : Expr} {j pos pos'} (ha : PE X l (tE X.K call a)) : PE X (.Compare l [if k then .IsNot else .Is] [.Constant .none j pos'] pos) (tE X.K call (.is k a .non)) := by
  have rp : ∀ {μ : List Addr} {H : Hp} {p : PV} {v : V}, RP X.K μ H p v → decide (v = .non) = decide (p = .non) := fun {μ H p v} r => by
    cases p <;> first
      | (cases (show v = _ from r); simp)
      | (obtain ⟨a, _, rfl, _⟩ := r; simp)
      | (obtain ⟨a, rfl, _⟩ := r; simp)
  cases k with
  | true =>
    refine PE.imp (pe_cmp (pc_notN ha)) fun σ H Q ⟨μ, L, st, hl, hs, k⟩ => ?_
    simp only [ev] at k
    obtain ⟨p, st1, e1, k⟩ := k.split
    refine go1 hl hs e1 fun v H1 μ1 x1 hl s1 r1 => ?_
    rw [rp r1]
    exact K1.done (p := .bl _) (by simpa using k.shift x1) s1 rfl
  | false =>
    refine PE.imp (pe_cmp (pc_isN ha)) fun σ H Q ⟨μ, L, st, hl, hs, k⟩ => ?_
    simp only [ev] at k
    obtain ⟨p, st1, e1, k⟩ := k.split
    refine go1 hl hs e1 fun v H1 μ1 x1 hl s1 r1 => ?_
    rw [rp r1]
    exact K1.done (p := .bl _) (by simpa using k.shift x1) s1 rfl
/-- a test of a value -/
theorem tru_rel {K : PySem.W.Frag} {μ : List Addr} {H : Hp} {st : Sto} {p : PV} {v : V} {b : Bool} (hs : RelS K μ H st) (r : RP K μ H p v) (e : Kw.truthy st p = some b) : TruV K v H b := by
  cases p with
  | non => cases (show v = _ from r); cases e; exact rfl
  | bl c => cases (show v = _ from r); cases e; exact rfl
  | int c => cases (show v = _ from r); cases e; exact rfl
  | str c => cases e
  | shn c => cases e
  | tup ps =>
    obtain ⟨a, xs, rfl, h1, h2⟩ := r
    cases e
    refine .inr (.inl ⟨xs, SqT.of h1, ?_⟩)
    cases ps <;> cases xs <;> first | rfl | (have := h2.length; simp at this)
  | ref l =>
    have e : (listOf st (.ref l)).map (fun xs => !xs.isEmpty) = some b := e
    cases z : listOf st (.ref l) with
    | none => rw [z] at e; cases e
    | some ps =>
      rw [z] at e; cases e
      obtain ⟨a, xs, rfl, h1, h2⟩ := listOf_rel hs r z
      refine .inl ⟨xs, h1, ?_⟩
      cases ps <;> cases xs <;> first | rfl | (have := h2.length; simp at this)
  | scr ns =>
    cases e
    obtain ⟨a, rfl, h1, _⟩ := r
    refine .inl ⟨_, h1, ?_⟩
    cases ns <;> rfl

def plainT : Expr → Bool
  | .UnaryOp .Not _ _ => false
  | .BoolOp .. => false
  | .IfExp .. => false
  | .Compare .. => false
  | _ => true
def plainTE : E → Bool
  | .not _ => false | .and _ _ => false | .or _ _ => false | .ite _ _ _ => false
  | _ => true
theorem plain_isTrue {e : Expr} {env : Env} (h : plainT e = true) : ∀ whole, isTrue e env whole = (do let v ← whole; standAt e.pos; holding [v] (PySem.truthy v)) := by
  intro whole
  cases e <;> first | rfl | (cases h; done) | (rename_i op x pos; cases op <;> first | rfl | (cases h; done))
theorem evT_plain {e : E} (h : plainTE e = true) (L : Loc) (st : Sto) : evT call e L st = (ev call e L st).bind fun x => (Kw.truthy x.2 x.1).bind fun r => some (r, x.2) := by
  cases e <;> first | (cases h; done) | (simp only [evT])
theorem snd_plainT {e : E} {x : Expr} (h1 : plainTE e = true) (h2 : plainT x = true) (h : PE X x (tE X.K call e)) : PT X x (tT X.K call e) := by
  refine PT.imp (pt_truth h (plain_isTrue h2)) fun σ H Q ⟨μ, L, st, hl, hs, k⟩ => ?_
  rw [evT_plain h1] at k
  obtain ⟨p, st1, e1, k⟩ := k.split
  refine go1 hl hs e1 fun v H1 μ1 x1 hl s1 r1 => ?_
  have k := k.shift x1
  cases e : Kw.truthy st1 p with
  | none => rw [e] at k; exact k.no.elim
  | some b =>
    rw [e] at k
    refine ⟨b, tru_rel s1 r1 e, ?_⟩
    obtain ⟨_, _, e', k⟩ := k
    cases e'
    exact k b H1 μ1 (Ext.refl _ _) s1 rfl
/-! tests -/
theorem snd_notT {a : E} {x : Expr} {pos : Pos} (h : PT X x (tT X.K call a)) : PT X (.UnaryOp .Not x pos) (tT X.K call (.not a)) := by
  refine PT.imp (pt_not h) fun σ H Q ⟨μ, L, st, hl, hs, k⟩ => ?_
  simp only [evT] at k
  obtain ⟨p, st1, e1, k⟩ := k.split
  refine goT hl hs e1 fun H1 μ1 x1 hl s1 => ?_
  obtain ⟨_, _, e', k⟩ := k.shift x1
  cases e'
  exact k _ H1 μ1 (Ext.refl _ _) s1 rfl
theorem snd_and1T {a : E} {x : Expr} {op : BoolOp} {pos : Pos} (h : PT X x (tT X.K call a)) : PW X (.BoolOp op [x] pos) (tT X.K call a) := by
  cases op
  · exact pw_and1 h
  · exact pw_or1 h
theorem snd_andT {a b : E} {x y : Expr} {r : List Expr} {pos : Pos} (h : PT X x (tT X.K call a)) (h2 : PW X (.BoolOp .And (y :: r) pos) (tT X.K call b)) : PW X (.BoolOp .And (x :: y :: r) pos) (tT X.K call (.and a b)) := by
  refine PW.imp (pw_and h h2) fun σ H Q ⟨μ, L, st, hl, hs, k⟩ => ?_
  simp only [evT] at k
  obtain ⟨p, st1, e1, k⟩ := k.split
  refine goT hl hs e1 fun H1 μ1 x1 hl s1 => ?_
  have k := k.shift x1
  cases p with
  | true => exact ⟨μ1, L, st1, hl, s1, by simpa using k⟩
  | false =>
    obtain ⟨_, _, e', k⟩ := k
    simp at e'
    obtain ⟨rfl, rfl⟩ := e'
    exact k _ H1 μ1 (Ext.refl _ _) s1 rfl
theorem snd_orT {a b : E} {x y : Expr} {r : List Expr} {pos : Pos} (h : PT X x (tT X.K call a)) (h2 : PW X (.BoolOp .Or (y :: r) pos) (tT X.K call b)) : PW X (.BoolOp .Or (x :: y :: r) pos) (tT X.K call (.or a b)) := by
  refine PW.imp (pw_or h h2) fun σ H Q ⟨μ, L, st, hl, hs, k⟩ => ?_
  simp only [evT] at k
  obtain ⟨p, st1, e1, k⟩ := k.split
  refine goT hl hs e1 fun H1 μ1 x1 hl s1 => ?_
  have k := k.shift x1
  cases p with
  | false => exact ⟨μ1, L, st1, hl, s1, by simpa using k⟩
  | true =>
    obtain ⟨_, _, e', k⟩ := k
    simp at e'
    obtain ⟨rfl, rfl⟩ := e'
    exact k _ H1 μ1 (Ext.refl _ _) s1 rfl
theorem snd_not {a : E} {x : Expr} {pos : Pos} (hx : PE X x (tE X.K call a)) : PE X (.UnaryOp .Not x pos) (tE X.K call (.not a)) := by
  refine PE.imp (pe_not hx) fun σ H Q ⟨μ, L, st, hl, hs, k⟩ => ?_
  simp only [ev] at k
  obtain ⟨p, st1, e1, k⟩ := k.split
  refine go1 hl hs e1 fun v H1 μ1 x1 hl s1 r1 => ?_
  have k := k.shift x1
  cases p with
  | bl b => exact ⟨b, r1, K1.done (p := .bl _) k s1 rfl⟩
  | _ => exact k.no.elim
theorem pe_andV {a b : Expr} {rest : List Expr} {pos : Pos} {ta tb : TE} (ha : PE X a ta) (hb : PE X (.BoolOp .And (b :: rest) pos) tb) :
    PE X (.BoolOp .And (a :: b :: rest) pos) (fun σ H Q => ta σ H fun x H1 => ∃ c, TruV X.K x H1 c ∧ (if c = true then tb σ H1 Q else Q x H1)) := by
  intro pins s σ H Q I h
  refine BoolOp_and (thn (ha pins s σ H _ I h) fun v s1 ⟨x, H1, I1, r1, c, tv, q1⟩ => ?_)
  refine thn (tru_ok pins s1 σ H1 x v (fun c' H' => c' = c ∧ H' = H1) I1 r1 ⟨c, tv, rfl, rfl⟩) fun b s2 ⟨H2, I2, e1, e2⟩ => ?_
  subst e1 e2
  cases b with
  | true => exact hb pins s2 σ H2 Q I2 (by simpa using q1)
  | false => exact ⟨x, H2, I2, r1, by simpa using q1⟩
theorem pe_orV {a b : Expr} {rest : List Expr} {pos : Pos} {ta tb : TE} (ha : PE X a ta) (hb : PE X (.BoolOp .Or (b :: rest) pos) tb) :
    PE X (.BoolOp .Or (a :: b :: rest) pos) (fun σ H Q => ta σ H fun x H1 => ∃ c, TruV X.K x H1 c ∧ (if c = true then Q x H1 else tb σ H1 Q)) := by
  intro pins s σ H Q I h
  refine BoolOp_or (thn (ha pins s σ H _ I h) fun v s1 ⟨x, H1, I1, r1, c, tv, q1⟩ => ?_)
  refine thn (tru_ok pins s1 σ H1 x v (fun c' H' => c' = c ∧ H' = H1) I1 r1 ⟨c, tv, rfl, rfl⟩) fun b s2 ⟨H2, I2, e1, e2⟩ => ?_
  subst e1 e2
  cases b with
  | false => exact hb pins s2 σ H2 Q I2 (by simpa using q1)
  | true => exact ⟨x, H2, I2, r1, by simpa using q1⟩
theorem snd_and {a b : E} {x y : Expr} {r : List Expr} {pos : Pos} (h : PE X x (tE X.K call a)) (h2 : PE X (.BoolOp .And (y :: r) pos) (tE X.K call b)) : PE X (.BoolOp .And (x :: y :: r) pos) (tE X.K call (.and a b)) := by
  refine PE.imp (pe_andV h h2) fun σ H Q ⟨μ, L, st, hl, hs, k⟩ => ?_
  simp only [ev] at k
  obtain ⟨p, st1, e1, k⟩ := k.split
  refine go1 hl hs e1 fun v H1 μ1 x1 hl s1 r1 => ?_
  have k := k.shift x1
  cases e : Kw.truthy st1 p with
  | none => rw [e] at k; exact k.no.elim
  | some c =>
    rw [e] at k
    refine ⟨c, tru_rel s1 r1 e, ?_⟩
    cases c with
    | true => exact ⟨μ1, L, st1, hl, s1, by simpa using k⟩
    | false => exact K1.done (p := p) (by simpa using k) s1 r1
theorem snd_or {a b : E} {x y : Expr} {r : List Expr} {pos : Pos} (h : PE X x (tE X.K call a)) (h2 : PE X (.BoolOp .Or (y :: r) pos) (tE X.K call b)) : PE X (.BoolOp .Or (x :: y :: r) pos) (tE X.K call (.or a b)) := by
  refine PE.imp (pe_orV h h2) fun σ H Q ⟨μ, L, st, hl, hs, k⟩ => ?_
  simp only [ev] at k
  obtain ⟨p, st1, e1, k⟩ := k.split
  refine go1 hl hs e1 fun v H1 μ1 x1 hl s1 r1 => ?_
  have k := k.shift x1
  cases e : Kw.truthy st1 p with
  | none => rw [e] at k; exact k.no.elim
  | some c =>
    rw [e] at k
    refine ⟨c, tru_rel s1 r1 e, ?_⟩
    cases c with
    | false => exact ⟨μ1, L, st1, hl, s1, by simpa using k⟩
    | true => exact K1.done (p := p) (by simpa using k) s1 r1
theorem snd_ite {c a b : E} {x y z : Expr} {pos : Pos} (hc : PT X x (tT X.K call c)) (ha : PE X y (tE X.K call a)) (hb : PE X z (tE X.K call b)) : PE X (.IfExp x y z pos) (tE X.K call (.ite c a b)) := by
  refine PE.imp (pe_ifExp hc ha hb) fun σ H Q ⟨μ, L, st, hl, hs, k⟩ => ?_
  simp only [ev] at k
  obtain ⟨p, st1, e1, k⟩ := k.split
  refine goT hl hs e1 fun H1 μ1 x1 hl s1 => ?_
  have k := k.shift x1
  cases p with
  | true => exact ⟨μ1, L, st1, hl, s1, by simpa using k⟩
  | false => exact ⟨μ1, L, st1, hl, s1, by simpa using k⟩
/-! lists of arguments -/
theorem snd_nil : PA X [] (tA X.K call .nil) := PA.imp pa_nil fun σ H Q ⟨μ, L, st, hl, hs, k⟩ => by
  simp only [evs] at k
  obtain ⟨_, _, e', k⟩ := k
  cases e'
  exact k [] H μ (Ext.refl _ _) hs rfl
theorem snd_cons {e es : E} {x : Expr} {xs : List Expr} (hs0 : starEach (x :: xs) X.env = (false, eval x X.env) :: starEach xs X.env) (h : PE X x (tE X.K call e)) (h2 : PA X xs (tA X.K call es)) : PA X (x :: xs) (tA X.K call (.cons e es)) := by
  refine PA.imp (pa_cons h h2 hs0) fun σ H Q ⟨μ, L, st, hl, hs, k⟩ => ?_
  simp only [evs] at k
  obtain ⟨p, st1, e1, k⟩ := k.split
  refine go1 hl hs e1 fun v H1 μ1 x1 hl s1 r1 => ?_
  obtain ⟨ps, st2, e2, k⟩ := (k.shift x1).split
  refine goA hl s1 e2 fun vs H2 μ2 x2 hl s2 r2 => ?_
  obtain ⟨_, _, e', k⟩ := k.shift x2
  cases e'
  exact k (v :: vs) H2 μ2 (Ext.refl _ _) s2 ⟨v, vs, rfl, r1.mono x2, r2⟩
theorem snd_tup {es : E} {xs : List Expr} {n : Nat} {pos : Pos} (h : PA X xs (tA X.K call es)) : PE X (.Tuple xs n pos) (tE X.K call (.tup es)) := by
  refine PE.imp (pe_tup h) fun σ H Q ⟨μ, L, st, hl, hs, k⟩ => ?_
  simp only [ev] at k
  obtain ⟨ps, st1, e1, k⟩ := k.split
  refine goA hl hs e1 fun vs H1 μ1 x1 hl s1 r1 => ?_
  have k := k.shift x1
  have hb := big_line
  by_cases hc : ps.length ≤ big
  · have k : K1 X.K μ1 H1 (some (.tup ps, st1)) Q := by simpa [hc] using k
    exact ⟨by rw [← r1.length]; omega, fun p hp => K1.done (k.shift (ext_new s1 hp _)) (s1.new hp _) ⟨p, vs, rfl, upd_same, r1.mono (ext_new s1 hp _)⟩⟩
  · have k : K1 X.K μ1 H1 none Q := by simpa [hc] using k
    exact k.no.elim
theorem snd_lst {es : E} {xs : List Expr} {pos : Pos} (h : PA X xs (tA X.K call es)) : PE X (.List xs pos) (tE X.K call (.lst es)) := by
  refine PE.imp (pe_lst h) fun σ H Q ⟨μ, L, st, hl, hs, k⟩ => ?_
  simp only [ev] at k
  obtain ⟨ps, st1, e1, k⟩ := k.split
  refine goA hl hs e1 fun vs H1 μ1 x1 hl s1 r1 => ?_
  have k := k.shift x1
  have hb := big_line
  by_cases hc : ps.length ≤ big
  · have k : K1 X.K μ1 H1 (some (.ref st1.length, st1 ++ [.lst ps])) Q := by simpa [hc, alloc] using k
    refine ⟨by rw [← r1.length]; omega, fun p hp => K1.done (k.shift (ext_alloc s1 hp _)) (s1.alloc hp r1) ⟨p, rfl, ?_⟩⟩
    rw [← s1.len, List.getElem?_append_right (Nat.le_refl _), Nat.sub_self] <;> rfl
  · have k : K1 X.K μ1 H1 none Q := by simpa [hc, alloc] using k
    exact k.no.elim
theorem snd_ix {a i : E} {x y : Expr} {pos : Pos} (hp : PlainIx y) (ha : PE X x (tE X.K call a)) (hi : PE X y (tE X.K call i)) : PE X (.Subscript x y pos) (tE X.K call (.ix a i)) := by
  refine PE.imp (pe_ix ix_any ha hi hp) fun σ H Q ⟨μ, L, st, hl, hs, k⟩ => ?_
  simp only [ev] at k
  obtain ⟨p, st1, e1, k⟩ := k.split
  refine go1 hl hs e1 fun v H1 μ1 x1 hl s1 r1 => ?_
  obtain ⟨q, st2, e2, k⟩ := (k.shift x1).split
  refine go1 hl s1 e2 fun w H2 μ2 x2 hl s2 r2 => ?_
  refine ⟨μ2, st2, p, q, s2, r1.mono x2, r2, ?_⟩
  have k := k.shift x2
  cases q <;> exact k
theorem snd_neg {a : E} {x : Expr} {pos : Pos} (h : PE X x (tE X.K call a)) : PE X (.UnaryOp .USub x pos) (tE X.K call (.neg a)) := by
  refine PE.imp (pe_un un_neg h) fun σ H Q ⟨μ, L, st, hl, hs, k⟩ => ?_
  simp only [ev] at k
  obtain ⟨p, st1, e1, k⟩ := k.split
  refine go1 hl hs e1 fun v H1 μ1 x1 hl s1 r1 => ?_
  have k := k.shift x1
  cases p with
  | int i => exact ⟨i, r1, K1.done (p := .int _) k s1 rfl⟩
  | _ => exact k.no.elim
/-- f(..), f a def of the text -/
theorem snd_call {CX : CXT} {n : Nat} {f : Nat} {fa : Addr} {fd : FuncData} {ps : List Str} {x : Str} {p pos : Pos} {e : Expr} {es : List Expr} {as : E} (F : FnOk X.prog X.w X.K X.mg X.base CX n fa fd ps (spF X.K call f)) (hr : Room n X.A) (hg : Gl X x) (hm : X.mg x = some (.ref fa))
    (hk : PySem.W.keepIn X.K (.ref fa) = true) (hb : Binds X.K fd ps []) {E' : XK} (hx : Passes CX X E') (ha : PA X (e :: es) (tA X.K call as)) (hdb : (x == ("__debug__" : Str)) = false) (he : starEach (e :: es) X.env = (false, eval e X.env) :: starEach es X.env)
    (hpl : (backTo pos (starEach es X.env)).any (·.1) = false) : PE X (.Call (.Name x p) (e :: es) [] pos) (tE X.K call (.call f as)) := by
  refine PE.imp (pe_call F hr hg hm hk hb .nil hx ha hdb he hpl) fun σ H Q ⟨μ, L, st, hl, hs, k⟩ => ?_
  simp only [ev] at k
  obtain ⟨ps, st1, e1, k⟩ := k.split
  refine goA hl hs e1 fun vs H1 μ1 x1 hl s1 r1 => ?_
  exact ⟨μ1, st1, ps, s1, by simpa using r1, k.shift x1⟩
theorem snd_blt (hc : X.calm = true) (hu : X.A.units + 64 < cLine) (hgd : X.A.guards = some []) {f : BF} {x : Str} {p pos : Pos} {e : Expr} {es : List Expr} {as : E} (hx : x = Str.ofString (bfName f)) (hg : Gl X x) (hm : X.mg x = none) (ha : PA X (e :: es) (tA X.K call as))
    (he : starEach (e :: es) X.env = (false, eval e X.env) :: starEach es X.env) (hpl : (backTo pos (starEach es X.env)).any (·.1) = false) : PE X (.Call (.Name x p) (e :: es) [] pos) (tE X.K call (.blt f as)) := by
  subst hx
  have fin : ∀ σ H Q, tE X.K call (.blt f as) σ H Q → tCB (r1 X.K (bfun f)) (tA X.K call as) σ H Q := fun σ H Q ⟨μ, L, st, hl, hs, k⟩ => by
    simp only [ev] at k
    obtain ⟨ps, st1, e1, k⟩ := k.split
    refine goA hl hs e1 fun vs H1 μ1 x1 hl s1 r1 => ?_
    exact ⟨μ1, st1, ps, s1, r1, k.shift x1⟩
  have c := call_bf hc hu hgd f
  cases f with
  | len => exact PE.imp (pe_callB c hg hm (by decide +kernel) ha (by decide +kernel) (by decide +kernel) he hpl) fin
  | abs => exact PE.imp (pe_callB c hg hm (by decide +kernel) ha (by decide +kernel) (by decide +kernel) he hpl) fin
  | sum => exact PE.imp (pe_callB c hg hm (by decide +kernel) ha (by decide +kernel) (by decide +kernel) he hpl) fin
  | all => exact PE.imp (pe_callB c hg hm (by decide +kernel) ha (by decide +kernel) (by decide +kernel) he hpl) fin
  | any => exact PE.imp (pe_callB c hg hm (by decide +kernel) ha (by decide +kernel) (by decide +kernel) he hpl) fin
  | min => exact PE.imp (pe_callB c hg hm (by decide +kernel) ha (by decide +kernel) (by decide +kernel) he hpl) fin
  | max => exact PE.imp (pe_callB c hg hm (by decide +kernel) ha (by decide +kernel) (by decide +kernel) he hpl) fin
  | int => exact PE.imp (pe_callTy c hg hm (by decide +kernel) ha (by decide +kernel) (by decide +kernel) he hpl) fin
  | tuple => exact PE.imp (pe_callTy c hg hm (by decide +kernel) ha (by decide +kernel) (by decide +kernel) he hpl) fin
  | list => exact PE.imp (pe_callTy c hg hm (by decide +kernel) ha (by decide +kernel) (by decide +kernel) he hpl) fin
  | str => exact PE.imp (pe_callTy c hg hm (by decide +kernel) ha (by decide +kernel) (by decide +kernel) he hpl) fin

/-! cuts -/
theorem po_imp {e : Option Expr} {t u : TO} (h : L2.PO X e t) (f : ∀ σ H Q, u σ H Q → t σ H Q) : L2.PO X e u := fun pins s σ H Q I hu => h pins s σ H Q I (f σ H Q hu)
theorem snd_po0 : L2.PO X none (tO X.K call .none) := po_imp po_none fun σ H Q ⟨μ, L, st, hl, hs, k⟩ => by
  simp only [evO] at k
  obtain ⟨_, _, e', k⟩ := k
  cases e'
  exact k none H μ (Ext.refl _ _) hs rfl
def isNo : E → Bool
  | .none => true
  | _ => false
theorem evO_of {e : E} (h : isNo e = false) (L : Loc) (st : Sto) : evO call e L st = (ev call e L st).bind fun x => match x.1 with
    | .int i => some (some i, x.2)
    | _ => none := by
  cases e <;> first | (cases h; done) | (simp only [evO]; done) | (simp only [evO]; cases ev call _ L st <;> rfl)
theorem snd_po1 {e : E} {x : Expr} (hn : isNo e = false) (h : PE X x (tE X.K call e)) : L2.PO X (some x) (tO X.K call e) := by
  refine po_imp (po_some h) fun σ H Q ⟨μ, L, st, hl, hs, k⟩ => ?_
  rw [evO_of hn] at k
  obtain ⟨p, st1, e1, k⟩ := k.split
  refine go1 hl hs e1 fun v H1 μ1 x1 hl s1 r1 => ?_
  have k := k.shift x1
  cases p with
  | int i =>
    obtain ⟨_, _, e', k⟩ := k
    cases e'
    exact ⟨i, r1, k _ H1 μ1 (Ext.refl _ _) s1 rfl⟩
  | _ => exact k.no.elim
theorem snd_sl {a lo hi : E} {x : Expr} {l h : Option Expr} {p2 pos : Pos} (ha : PE X x (tE X.K call a)) (hl0 : L2.PO X l (tO X.K call lo)) (hh : L2.PO X h (tO X.K call hi)) : PE X (.Subscript x (.Slice l h none p2) pos) (tE X.K call (.sl a lo hi)) := by
  refine PE.imp (pe_slice sl_any ha hl0 hh) fun σ H Q ⟨μ, L, st, hl, hs, k⟩ => ?_
  simp only [ev] at k
  obtain ⟨p, st1, e1, k⟩ := k.split
  refine go1 hl hs e1 fun v H1 μ1 x1 hl s1 r1 => ?_
  obtain ⟨o1, st2, e2, k⟩ := (k.shift x1).split
  refine ⟨μ1, L, st1, hl, s1, o1, st2, e2, fun w H2 μ2 x2 s2 ew => ?_⟩
  subst ew
  obtain ⟨o2, st3, e3, k⟩ := (k.shift x2).split
  refine ⟨μ2, L, st2, hl.mono x2, s2, o2, st3, e3, fun w2 H3 μ3 x3 s3 ew2 => ?_⟩
  subst ew2
  exact ⟨μ3, st3, p, s3, (r1.mono x2).mono x3, k.shift x3⟩
/-! chains -/
theorem snd_chain (hu : X.A.units + 64 < cLine) {o p : COp} {a b c : E} {x y z : Expr} {pos : Pos} (hm : lastMarks [copOf o, copOf p] [y, z] = false) (ha : PE X x (tE X.K call a)) (hb : PE X y (tE X.K call b)) (hc : PE X z (tE X.K call c)) :
    PE X (.Compare x [copOf o, copOf p] [y, z] pos) (tE X.K call (.chain o p a b c)) ∧ PT X (.Compare x [copOf o, copOf p] [y, z] pos) (tT X.K call (.chain o p a b c)) := by
  have fin : ∀ σ H Q, tE X.K call (.chain o p a b c) σ H Q → tChain (r2b X.K (cmpop o)) (r2b X.K (cmpop p)) (tE X.K call a) (tE X.K call b) (tE X.K call c) σ H Q := fun σ H Q ⟨μ, L, st, hl, hs, k⟩ => by
    simp only [ev] at k
    obtain ⟨q1, st1, e1, k⟩ := k.split
    refine go1 hl hs e1 fun v H1 μ1 x1 hl s1 r1 => ?_
    obtain ⟨q2, st2, e2, k⟩ := (k.shift x1).split
    refine go1 hl s1 e2 fun w H2 μ2 x2 hl s2 r2 => ?_
    have k := k.shift x2
    cases e3 : cmpop o q1 q2 st2 with
    | none => rw [e3] at k; exact k.no.elim
    | some b' =>
      rw [e3] at k
      refine ⟨μ2, st2, q1, q2, s2, r1.mono x2, r2, .bl b', st2, by show ((cmpop o q1 q2 st2).bind fun r => some (PV.bl r, st2)) = _; rw [e3]; rfl, fun v3 H3 μ3 x3 s3 r3 => ⟨b', r3, ?_⟩⟩
      have k := k.shift x3
      cases b' with
      | false => exact K1.done (p := .bl false) (by simpa using k) s3 rfl
      | true =>
        simp only [Option.bind_some, if_true] at k ⊢
        obtain ⟨q3, st4, e4, k⟩ := k.split
        refine go1 (hl.mono x3) s3 e4 fun w4 H4 μ4 x4 hl s4 r4 => ?_
        exact ⟨μ4, st4, q2, q3, s4, (r2.mono x3).mono x4, r4, k.shift x4⟩
  refine ⟨PE.imp (pe_chain (op_cmp hu o) (op_cmp hu p) ha hb hc hm) fin, PT.imp (pt_chain (op_cmp hu o) (op_cmp hu p) ha hb hc hm) fun σ H Q ⟨μ, L, st, hl, hs, k⟩ => fin σ H _ ?_⟩
  have k : KB X.K μ H ((ev call (.chain o p a b c) L st).bind fun x => (Kw.truthy x.2 x.1).bind fun r => some (r, x.2)) Q := by simpa only [evT] using k
  obtain ⟨z1, stz, e0, k⟩ := k.split
  refine ⟨μ, L, st, hl, hs, z1, stz, e0, fun v H' μ' x' s' r' => ?_⟩
  have isb : ∃ bb, z1 = .bl bb := by
    simp only [ev] at e0
    cases q1 : ev call a L st with
    | none => rw [q1] at e0; cases e0
    | some w1 =>
      rw [q1] at e0; simp only [Option.bind_some] at e0
      cases q2 : ev call b L w1.2 with
      | none => rw [q2] at e0; cases e0
      | some w2 =>
        rw [q2] at e0; simp only [Option.bind_some] at e0
        cases q3 : cmpop o w1.1 w2.1 w2.2 with
        | none => rw [q3] at e0; cases e0
        | some b1 =>
          rw [q3] at e0; simp only [Option.bind_some] at e0
          cases b1 with
          | false => simp only [Bool.false_eq_true, if_false] at e0; cases e0; exact ⟨_, rfl⟩
          | true =>
            simp only [if_true] at e0
            cases q4 : ev call c L w2.2 with
            | none => rw [q4] at e0; cases e0
            | some w3 =>
              rw [q4] at e0; simp only [Option.bind_some] at e0
              cases q5 : cmpop p w2.1 w3.1 w3.2 with
              | none => rw [q5] at e0; cases e0
              | some b2 => rw [q5] at e0; cases e0; exact ⟨_, rfl⟩
  obtain ⟨bb, rfl⟩ := isb
  refine ⟨bb, r', ?_⟩
  obtain ⟨_, _, e5, kk⟩ := k
  cases e5
  exact kk bb H' μ' x' s' rfl
/-! isinstance -/
def tyName : Ty → String | .int => "int" | .bool => "bool" | .str => "str" | .list => "list" | .tuple => "tuple"
theorem tyOf_rel {K : PySem.W.Frag} {μ : List Addr} {H : Hp} {st : Sto} {p : PV} {v : V} {t : Ty} {b : Bool} (hs : RelS K μ H st) (r : RP K μ H p v) (e : isTy st p t = some b) : ∃ T, TyOf K H v (.type T) ∧ PySem.W.kitOne K (.type T) (.type (tyName t)) = some b := by
  cases p with
  | non => cases (show v = _ from r); exact ⟨_, .non, by cases e; cases t <;> rfl⟩
  | bl c => cases (show v = _ from r); exact ⟨_, .bl _, by cases e; cases t <;> rfl⟩
  | int c => cases (show v = _ from r); exact ⟨_, .int _, by cases e; cases t <;> rfl⟩
  | str c => cases (show v = _ from r); exact ⟨_, .str _, by cases e; cases t <;> rfl⟩
  | tup ps =>
    obtain ⟨a, xs, rfl, h1, h2⟩ := r
    exact ⟨_, .tup h1, by cases e; cases t <;> rfl⟩
  | ref l =>
    have e : (match st[l]? with | some (.lst _) => some (t == .list) | none => none) = some b := e
    cases z : st[l]? with
    | none => rw [z] at e; cases e
    | some o =>
      obtain ⟨ps⟩ := o
      rw [z] at e
      obtain ⟨a, xs, m, h1, _⟩ := hs.at z
      obtain ⟨a', rfl, m'⟩ := r
      rw [m] at m'; cases m'
      exact ⟨_, .lst h1, by cases e; cases t <;> rfl⟩
  | scr ns => cases e
  | shn d => cases (show v = _ from r); exact ⟨_, .str _, by cases e; cases t <;> rfl⟩
theorem snd_isi1 {a : E} {t : Ty} {x : Expr} {fx ty : Str} {p p2 pos : Pos} (hfx : fx = Str.ofString "isinstance") (hty : ty = Str.ofString (tyName t)) (hg : Gl X fx) (hm : X.mg fx = none) (hg2 : Gl X ty) (hm2 : X.mg ty = none) (h : PE X x (tE X.K call a))
    (he : starEach [x, .Name ty p2] X.env = [(false, eval x X.env), (false, eval (.Name ty p2) X.env)]) : PE X (.Call (.Name fx p) [x, .Name ty p2] [] pos) (tE X.K call (.isi a [t])) := by
  subst hfx hty
  have c : CallR X (.builtin "isinstance") (fun xs H Q => ∃ v c b T, xs = [v, .ty c] ∧ TyOf X.K H v (.type T) ∧ PySem.W.kitOne X.K (.type T) (.type c) = some b ∧ Q (.bl b) H) := by
    intro pins s σ H xs us Q I r hh
    obtain ⟨v, c, b, T, rfl, h1, h2, q⟩ := hh
    obtain ⟨u, u', rfl, ru, ru'⟩ := vals2 r
    obtain rfl : u' = .type c := ru'
    exact isinst_ok I ru h1 h2 fun tk => ⟨.bl b, H, I.tok _, rfl, q⟩
  have tt : PE X (.Name (Str.ofString (tyName t)) p2) (tC (.ty (tyName t))) := by
    cases t <;> exact pe_bltn hg2 hm2 (by decide +kernel) rfl (by decide +kernel) (by decide +kernel)
  have hs2 : starEach [Expr.Name (Str.ofString (tyName t)) p2] X.env = (false, eval (.Name (Str.ofString (tyName t)) p2) X.env) :: starEach [] X.env := rfl
  have hs1 : starEach [x, .Name (Str.ofString (tyName t)) p2] X.env = (false, eval x X.env) :: starEach [.Name (Str.ofString (tyName t)) p2] X.env := by rw [he]; rfl
  refine PE.imp (pe_callB c hg hm (by decide +kernel) (pa_cons h (pa_cons tt pa_nil hs2) hs1) (by decide +kernel) (by decide +kernel) hs1 rfl) fun σ H Q ⟨μ, L, st, hl, hs, k⟩ => ?_
  simp only [ev] at k
  obtain ⟨q, st1, e1, k⟩ := k.split
  refine go1 hl hs e1 fun v H1 μ1 x1 hl s1 r1 => ?_
  have k := k.shift x1
  cases e : isTys st1 q [t] with
  | none => rw [e] at k; exact k.no.elim
  | some b =>
    rw [e] at k
    have e : (isTy st1 q t).bind (fun a => some (a || false)) = some b := e
    cases e2 : isTy st1 q t with
    | none => rw [e2] at e; cases e
    | some b' =>
      rw [e2] at e
      have e : some (b' || false) = some b := e
      rw [Bool.or_false] at e
      cases e
      obtain ⟨T, t1, t2⟩ := tyOf_rel s1 r1 e2
      exact ⟨v, _, _, T, rfl, t1, t2, K1.done (p := .bl _) k s1 rfl⟩
theorem snd_isi2 {a : E} {t t' : Ty} {x : Expr} {fx ty ty' : Str} {n : Nat} {p p2 p3 p4 pos : Pos} (hfx : fx = Str.ofString "isinstance") (hty : ty = Str.ofString (tyName t)) (hty' : ty' = Str.ofString (tyName t')) (hg : Gl X fx) (hm : X.mg fx = none) (hg2 : Gl X ty) (hm2 : X.mg ty = none)
    (hg3 : Gl X ty') (hm3 : X.mg ty' = none) (h : PE X x (tE X.K call a)) (he : starEach [x, .Tuple [.Name ty p2, .Name ty' p3] n p4] X.env = [(false, eval x X.env), (false, eval (.Tuple [.Name ty p2, .Name ty' p3] n p4) X.env)]) :
    PE X (.Call (.Name fx p) [x, .Tuple [.Name ty p2, .Name ty' p3] n p4] [] pos) (tE X.K call (.isi a [t, t'])) := by
  subst hfx hty hty'
  have c : CallR X (.builtin "isinstance") (fun xs H Q => ∃ v d c c' b b' T, xs = [v, .ref d] ∧ H d = some (.tup [.ty c, .ty c']) ∧ TyOf X.K H v (.type T) ∧ PySem.W.kitOne X.K (.type T) (.type c) = some b ∧ PySem.W.kitOne X.K (.type T) (.type c') = some b' ∧ Q (.bl (b || b')) H) := by
    intro pins s σ H xs us Q I r hh
    obtain ⟨v, d, c, c', b, b', T, rfl, hd, h1, h2, h3, q⟩ := hh
    obtain ⟨u, u', rfl, ru, ru'⟩ := vals2 r
    obtain rfl : u' = .ref d := ru'
    obtain ⟨_, its, rv, o, ho, hcl, nn, hdt⟩ := (show ObjOk X.prog X.w H s.heap d (.tup [.ty c, .ty c']) from I.hok d _ hd)
    obtain ⟨w1, w2, rfl, rw1, rw2⟩ := vals2 rv
    obtain rfl : w1 = .type c := rw1
    obtain rfl : w2 = .type c' := rw2
    have fin : ∀ tk, EP X pins σ Q (.bool (b || b')) { s with toks := tk } := fun tk => ⟨.bl (b || b'), H, I.tok _, rfl, q⟩
    have hany : PySem.W.kitAny X.K (.type T) [.type c, .type c'] = some (b || b') := by
      show (match PySem.W.kitOne X.K (.type T) (.type c) with | some true => some true | some false => PySem.W.kitAny X.K (.type T) [.type c'] | none => none) = _
      rw [h2]
      cases b with
      | true => rfl
      | false =>
        show (match PySem.W.kitOne X.K (.type T) (.type c') with | some true => some true | some false => PySem.W.kitAny X.K (.type T) [] | none => none) = _
        rw [h3]; cases b' <;> rfl
    obtain ⟨oc, od, odt, osl⟩ := o
    simp only at hcl hdt
    subst hcl hdt
    cases h1 with
    | non => cases (show u = Value.none from ru); exact PySem.W.kia_tup PySem.W.kitx_none I.kIn True.intro ho hany (fun z => nomatch z) fin
    | bl y => cases (show u = Value.bool y from ru); exact PySem.W.kia_tup PySem.W.kitx_bool I.kIn True.intro ho hany (fun z => nomatch z) fin
    | int i => obtain ⟨t, rfl⟩ := (show ∃ t, u = Value.int i t from ru); exact PySem.W.kia_tup PySem.W.kitx_int I.kIn True.intro ho hany (fun z => nomatch z) fin
    | str y => obtain ⟨t, rfl⟩ := (show ∃ t, u = Value.str y t from ru); exact PySem.W.kia_tup PySem.W.kitx_str I.kIn True.intro ho hany (fun z => nomatch z) fin
    | flt y => obtain ⟨t, rfl⟩ := (show ∃ t, u = Value.float y t from ru); exact PySem.W.kia_tup PySem.W.kitx_float I.kIn True.intro ho hany (fun z => nomatch z) fin
    | @lst a xs ea =>
      cases (show u = Value.ref a from ru)
      obtain ⟨_, _, n, _, h1⟩ := (show ObjOk X.prog X.w H s.heap a (.lst xs) from I.hok a _ ea)
      exact PySem.W.kia_tup PySem.W.kitx_list I.kIn ⟨_, h1, rfl⟩ ho hany (fun z => nomatch z) fin
    | @frz a ob xs ea =>
      cases (show u = Value.ref a from ru)
      obtain ⟨_, _, _, n, _, h1⟩ := (show ObjOk X.prog X.w H s.heap a (.frz ob (.lst xs)) from I.hok a _ ea)
      exact PySem.W.kia_tup PySem.W.kitx_list I.kIn ⟨_, h1, rfl⟩ ho hany (fun z => nomatch z) fin
    | @tup a xs ea =>
      cases (show u = Value.ref a from ru)
      obtain ⟨_, _, _, o, h1, h2, _⟩ := (show ObjOk X.prog X.w H s.heap a (.tup xs) from I.hok a _ ea)
      exact PySem.W.kia_tup PySem.W.kitx_tuple I.kIn ⟨o, h1, h2⟩ ho hany (fun z => nomatch z) fin
    | @dK a kvs ea =>
      cases (show u = Value.ref a from ru)
      obtain ⟨_, _, vs, _, o, es, ep, h1, h2, _⟩ := (show ObjOk X.prog X.w H s.heap a (.dK kvs) from I.hok a _ ea)
      exact PySem.W.kia_tup PySem.W.kitx_dict I.kIn ⟨o, h1, h2.1⟩ ho hany (fun z => nomatch z) fin
    | @dT a kvs ea =>
      cases (show u = Value.ref a from ru)
      obtain ⟨_, _, xs, _, o, es, ep, h1, h2, _⟩ := (show ObjOk X.prog X.w H s.heap a (.dT kvs) from I.hok a _ ea)
      exact PySem.W.kia_tup PySem.W.kitx_dict I.kIn ⟨o, h1, h2.1⟩ ho hany (fun z => nomatch z) fin
  have tt : ∀ (t : Ty) (p2 : Pos), Gl X (Str.ofString (tyName t)) → X.mg (Str.ofString (tyName t)) = none → PE X (.Name (Str.ofString (tyName t)) p2) (tC (.ty (tyName t))) := fun t p2 hg2 hm2 => by
    cases t <;> exact pe_bltn hg2 hm2 (by decide +kernel) rfl (by decide +kernel) (by decide +kernel)
  have tup := pe_tup (x1 := n) (pos := p4) (pa_cons (tt t p2 hg2 hm2) (pa_cons (tt t' p3 hg3 hm3) pa_nil rfl) rfl)
  have hs1 : starEach [x, .Tuple [.Name (Str.ofString (tyName t)) p2, .Name (Str.ofString (tyName t')) p3] n p4] X.env = (false, eval x X.env) :: starEach [.Tuple [.Name (Str.ofString (tyName t)) p2, .Name (Str.ofString (tyName t')) p3] n p4] X.env := by rw [he]; rfl
  refine PE.imp (pe_callB c hg hm (by decide +kernel) (pa_cons h (pa_cons tup pa_nil rfl) hs1) (by decide +kernel) (by decide +kernel) hs1 rfl) fun σ H Q ⟨μ, L, st, hl, hs, k⟩ => ?_
  simp only [ev] at k
  obtain ⟨q, st1, e1, k⟩ := k.split
  refine go1 hl hs e1 fun v H1 μ1 x1 hl s1 r1 => ?_
  have k := k.shift x1
  refine ⟨by show 2 ≤ sizeLine; decide, fun d hd => ?_⟩
  have x2 := ext_new s1 hd (.tup [.ty (tyName t), .ty (tyName t')])
  have s2 := s1.new hd (.tup [.ty (tyName t), .ty (tyName t')])
  have r2 := r1.mono x2
  have k := k.shift x2
  cases e : isTys st1 q [t, t'] with
  | none => rw [e] at k; exact k.no.elim
  | some b =>
    rw [e] at k
    have e : (isTy st1 q t).bind (fun a => (isTy st1 q t').bind fun b => some (a || (b || false))) = some b := by
      rw [← e]
      show _ = (isTy st1 q t).bind fun a => ((isTy st1 q t').bind fun b => some (b || false)).bind fun b => some (a || b)
      cases isTy st1 q t <;> cases isTy st1 q t' <;> rfl
    cases e2 : isTy st1 q t with
    | none => rw [e2] at e; cases e
    | some b1 =>
      rw [e2] at e
      have e : ((isTy st1 q t').bind fun b => some (b1 || (b || false))) = some b := e
      cases e3 : isTy st1 q t' with
      | none => rw [e3] at e; cases e
      | some b2 =>
        rw [e3] at e
        have e : some (b1 || (b2 || false)) = some b := e
        rw [Bool.or_false] at e
        cases e
        obtain ⟨T, t1, t2⟩ := tyOf_rel s2 r2 e2
        obtain ⟨T', t3, t4⟩ := tyOf_rel s2 r2 e3
        have hT : T = T' := by cases t1 <;> cases t3 <;> first | rfl | (simp_all)
        subst hT
        exact ⟨v, d, _, _, _, _, T, rfl, upd_same, t1, t2, t4, K1.done (p := .bl _) k s2 rfl⟩
end
end Kw
end
section
set_option Elab.async false
set_option linter.all false
set_option maxRecDepth 100000
set_option maxHeartbeats 4000000
namespace Kw
open PySem PySem.Spec PyProof.Rows L2
/-- how a walk tells the items -/
def ItR (K : PySem.W.Frag) (J : It) (xs : List PV) (gs : Gd) (μ1 : List Addr) (H1 : Hp) : Prop :=
  ∀ (i : Nat) (μ : List Addr) (H : Hp) (st : Sto), Ext μ1 H1 μ H → RelS K μ H st → okG st gs = true →
    (xs[i]? = none → J.stop i H) ∧ ∀ p, xs[i]? = some p → J.go i H ∧ ∀ v H', J.yld i H v H' → Ext μ H μ H' ∧ RelS K μ H' st ∧ RP K μ H' p v
def tI (K : PySem.W.Frag) (call : Nat → List PV → Sto → R PV) (e : E) : TI := fun σ H R => ∃ μ L st xs gs st1, RelL K μ H L σ ∧ RelS K μ H st ∧ evI call e L st = some (xs, gs, st1) ∧
  ∀ J H1 μ1, Ext μ H μ1 H1 → RelS K μ1 H1 st1 → ItR K J xs gs μ1 H1 → R J H1
theorem upto_get : ∀ (n : Nat) (lo : Int) (i : Nat), (upto lo n)[i]? = if i < n then some (.int (lo + i)) else none
  | 0, lo, i => by simp [upto]
  | n + 1, lo, 0 => by simp [upto]
  | n + 1, lo, i + 1 => by
    show (upto (lo + 1) n)[i]? = _
    rw [upto_get n (lo + 1) i]
    have e : lo + 1 + (i : Int) = lo + ((i + 1 : Nat) : Int) := by omega
    rw [e]
    simp
theorem itr_rel {K : PySem.W.Frag} {lo : Int} {n : Nat} {μ1 : List Addr} {H1 : Hp} : ItR K (Itr lo n) (upto lo n) [] μ1 H1 := by
  intro i μ H st x hs _
  rw [upto_get]
  refine ⟨fun e => ?_, fun p e => ?_⟩
  · show n ≤ i
    by_cases h : i < n
    · rw [if_pos h] at e; cases e
    · omega
  · by_cases h : i < n
    · rw [if_pos h] at e
      cases e
      refine ⟨h, fun v H' y => ?_⟩
      obtain ⟨rfl, rfl⟩ := y
      exact ⟨Ext.refl _ _, hs, rfl⟩
    · rw [if_neg h] at e; cases e
theorem okG_list {st : Sto} {l : Nat} {xs : List PV} {gs : Gd} (h : okG st gs = true) (hm : (l, xs) ∈ gs) : listOf st (.ref l) = some xs := by
  have := List.all_eq_true.mp h _ hm
  simpa using this
/-- a list that is walked, later on -/
theorem list_later {K : PySem.W.Frag} {μ1 μ : List Addr} {H1 H : Hp} {st1 st : Sto} {p : PV} {a : Addr} {ps : List PV} {gs : Gd} (r : RP K μ1 H1 p (.ref a)) (e : listOf st1 p = some ps) (hg : ∀ q ∈ gdOf p ps, q ∈ gs) (x : Ext μ1 H1 μ H) (hs : RelS K μ H st) (ok : okG st gs = true) :
    ∃ vs, SqL K H a vs ∧ RPs K μ H ps vs := by
  have r' := r.mono x
  cases p with
  | ref l =>
    have e' := okG_list ok (hg (l, ps) (by simp [gdOf]))
    obtain ⟨a', vs, ea, h1, h2⟩ := listOf_rel hs r' e'
    cases ea
    exact ⟨vs, h1, h2⟩
  | scr ns =>
    cases e
    obtain ⟨a', ea, h1, _⟩ := r'
    cases ea
    exact ⟨_, h1, RPs.ints ns⟩
  | _ => cases e
theorem itl_rel {K : PySem.W.Frag} {μ1 : List Addr} {H1 : Hp} {st1 : Sto} {p : PV} {a : Addr} {ps : List PV} (r : RP K μ1 H1 p (.ref a)) (e : listOf st1 p = some ps) : ItR K (Itl K a) ps (gdOf p ps) μ1 H1 := by
  intro i μ H st x hs ok
  obtain ⟨vs, h1, h2⟩ := list_later r e (fun q h => h) x hs ok
  refine ⟨fun e => ⟨vs, h1, ?_⟩, fun q eq => ?_⟩
  · rw [← h2.length]; exact List.getElem?_eq_none_iff.mp e
  · obtain ⟨v, e1, r1⟩ := h2.get eq
    refine ⟨⟨vs, v, h1, e1⟩, fun w H' y => ?_⟩
    obtain ⟨rfl, y⟩ := y
    have := y vs h1
    rw [e1] at this
    cases this
    exact ⟨Ext.refl _ _, hs, r1⟩
theorem itt_rel {K : PySem.W.Frag} {μ1 : List Addr} {H1 : Hp} {a : Addr} {ps : List PV} (r : RP K μ1 H1 (.tup ps) (.ref a)) : ItR K (Itt K a) ps [] μ1 H1 := by
  intro i μ H st x hs ok
  obtain ⟨a', vs, ea, h1, h2⟩ := r.mono x
  cases ea
  refine ⟨fun e => ⟨vs, SqT.of h1, ?_⟩, fun q eq => ?_⟩
  · rw [← h2.length]; exact List.getElem?_eq_none_iff.mp e
  · obtain ⟨v, e1, r1⟩ := h2.get eq
    refine ⟨⟨vs, v, SqT.of h1, e1⟩, fun w H' y => ?_⟩
    obtain ⟨rfl, y⟩ := y
    have := y vs (SqT.of h1)
    rw [e1] at this
    cases this
    exact ⟨Ext.refl _ _, hs, r1⟩
def isL : PV → Bool
  | .tup _ => false
  | _ => true
/-- a list or a tuple that is walked, later on -/
theorem seq_later {K : PySem.W.Frag} {μ1 μ : List Addr} {H1 H : Hp} {st1 st : Sto} {p : PV} {a : Addr} {ps : List PV} {gs : Gd} (r : RP K μ1 H1 p (.ref a)) (e : seqOf st1 p = some ps) (hg : ∀ q ∈ gdOf p ps, q ∈ gs) (x : Ext μ1 H1 μ H) (hs : RelS K μ H st) (ok : okG st gs = true) :
    ∃ vs, SqB (isL p) K H a vs ∧ RPs K μ H ps vs := by
  cases p with
  | tup qs =>
    cases e
    obtain ⟨a', vs, ea, h1, h2⟩ := r.mono x
    cases ea
    exact ⟨vs, SqT.of h1, h2⟩
  | ref l => exact list_later r e hg x hs ok
  | scr l => exact list_later (st1 := []) r e hg x hs ok
  | _ => cases e
theorem it2_rel {K : PySem.W.Frag} {μ1 : List Addr} {H1 : Hp} {st1 : Sto} {p q : PV} {a b : Addr} {ps qs : List PV} (r : RP K μ1 H1 p (.ref a)) (e : seqOf st1 p = some ps) (r2 : RP K μ1 H1 q (.ref b)) (e2 : seqOf st1 q = some qs) :
    ItR K (Iz2 K (isL p) (isL q) a b) (ps.zipWith (fun p q => .tup [p, q]) qs) (gdOf p ps ++ gdOf q qs) μ1 H1 := by
  intro i μ H st x hs ok
  obtain ⟨vs, h1, h2⟩ := seq_later r e (fun q h => List.mem_append_left _ h) x hs ok
  obtain ⟨ws, g1, g2⟩ := seq_later r2 e2 (fun q h => List.mem_append_right _ h) x hs ok
  rw [List.getElem?_zipWith]
  refine ⟨fun z => ⟨vs, ws, h1, g1, ?_⟩, fun y ey => ?_⟩
  · rw [← h2.length, ← g2.length]
    cases c1 : ps[i]? with
    | none => exact .inl (List.getElem?_eq_none_iff.mp c1)
    | some _ =>
      cases c2 : qs[i]? with
      | none => exact .inr (List.getElem?_eq_none_iff.mp c2)
      | some _ => rw [c1, c2] at z; cases z
  · cases c1 : ps[i]? with
    | none => rw [c1] at ey; cases ey
    | some p1 =>
      cases c2 : qs[i]? with
      | none => rw [c1, c2] at ey; cases ey
      | some q1 =>
        rw [c1, c2] at ey
        cases ey
        obtain ⟨v, f1, f2⟩ := h2.get c1
        obtain ⟨w, f3, f4⟩ := g2.get c2
        refine ⟨⟨vs, ws, v, w, h1, g1, f1, f3⟩, fun z H' ⟨pp, hp, ez, yy⟩ => ?_⟩
        have := yy vs ws v w h1 g1 f1 f3
        subst this ez
        exact ⟨ext_new hs hp _, hs.new hp _, pp, [v, w], rfl, upd_same, _, _, rfl, f2.mono (ext_new hs hp _), _, _, rfl, f4.mono (ext_new hs hp _), rfl⟩
theorem iten_rel {K : PySem.W.Frag} {μ1 : List Addr} {H1 : Hp} {st1 : Sto} {p : PV} {a : Addr} {ps : List PV} (r : RP K μ1 H1 p (.ref a)) (e : seqOf st1 p = some ps) :
    ItR K (Ien K (isL p) a) ((upto 0 ps.length).zipWith (fun p q => .tup [p, q]) ps) (gdOf p ps) μ1 H1 := by
  intro i μ H st x hs ok
  obtain ⟨vs, h1, h2⟩ := seq_later r e (fun q h => h) x hs ok
  rw [List.getElem?_zipWith, upto_get]
  refine ⟨fun z => ⟨vs, h1, ?_⟩, fun y ey => ?_⟩
  · rw [← h2.length]
    by_cases hi : i < ps.length
    · rw [if_pos hi, List.getElem?_eq_getElem hi] at z; cases z
    · omega
  · by_cases hi : i < ps.length
    · rw [if_pos hi, List.getElem?_eq_getElem hi] at ey
      cases ey
      obtain ⟨v, f1, f2⟩ := h2.get (List.getElem?_eq_getElem hi)
      refine ⟨⟨vs, v, h1, f1⟩, fun z H' ⟨pp, hp, ez, yy⟩ => ?_⟩
      have := yy vs v h1 f1
      subst this ez
      exact ⟨ext_new hs hp _, hs.new hp _, pp, [.int i, v], rfl, upd_same, _, _, rfl, by simp [RP], _, _, rfl, f2.mono (ext_new hs hp _), rfl⟩
    · rw [if_neg hi] at ey; cases ey
section
variable {X : Cx} {call : Nat → List PV → Sto → R PV}
theorem PI.imp {tg it : Expr} {t u : TI} (h : PI X tg it t) (f : ∀ σ H R, u σ H R → t σ H R) : PI X tg it u := fun pins s σ H R I hu => h pins s σ H R I (f σ H R hu)
theorem snd_rng {tg : Expr} {a : E} {x : Expr} {p pos : Pos} (hg : Gl X "range") (hm : X.mg "range" = none) (h : PE X x (tE X.K call a)) (hs0 : starEach [x] X.env = [(false, eval x X.env)]) : PI X tg (.Call (.Name "range" p) [x] [] pos) (tI X.K call (.rng a)) := by
  refine PI.imp (pi_range1 hg hm (pa_cons h pa_nil (by rw [hs0]; rfl)) hs0) fun σ H R ⟨μ, L, st, xs, gs, st1, hl, hs, e, q⟩ => ?_
  simp only [evI] at e
  cases e1 : ev call a L st with
  | none => rw [e1] at e; cases e
  | some z =>
    obtain ⟨p, st2⟩ := z
    rw [e1] at e
    refine go1 hl hs e1 fun v H1 μ1 x1 hl s1 r1 => ?_
    cases p with
    | int j =>
      have e : (if small62 j = true then some (upto 0 j.toNat, ([] : Gd), st2) else none) = some (xs, gs, st1) := e
      by_cases hc : small62 j = true
      · rw [if_pos hc] at e
        cases e
        have hc : -(2 ^ 62) ≤ j ∧ j < 2 ^ 62 := by simpa [small62] using hc
        exact ⟨j, by rw [show v = .int j from r1], hc.1, hc.2, q _ H1 μ1 x1 s1 itr_rel⟩
      · rw [if_neg hc] at e; cases e
    | _ => cases e
def plainIt : E → Bool
  | .rng _ => false | .rng2 _ _ => false | .zip _ _ => false | .enum _ => false | .revr _ => false | .rev _ => false
  | _ => true
theorem evI_plain {e : E} (h : plainIt e = true) (L : Loc) (st : Sto) : evI call e L st = (ev call e L st).bind fun x => (seqOf x.2 x.1).bind fun xs => some (xs, gdOf x.1 xs, x.2) := by
  cases e <;> first | (cases h; done) | (simp only [evI])
/-- a list or a tuple that is walked -/
theorem pi_seq {tg it : Expr} {te : TE} (h : PE X it te) : PI X tg it (fun σ H R => te σ H fun v H1 => ∃ a, v = .ref a ∧ ((∃ xs, SqL X.K H1 a xs) ∧ R (Itl X.K a) H1 ∨ (∃ xs, SqT X.K H1 a xs) ∧ R (Itt X.K a) H1)) := by
  intro pins s σ H R I hh
  refine thn (h pins s σ H _ I hh) fun v s1 ⟨x, H1, I1, r1, a, e, q⟩ => ?_
  subst e
  have hb : PE X it (fun σ' H' Q => False) := fun _ _ _ _ _ _ z => z.elim
  cases r1
  rcases q with ⟨⟨xs, hq⟩, q⟩ | ⟨⟨xs, hq⟩, q⟩
  · obtain ⟨its, rv, p, hz⟩ := I1.list hq
    refine wpAny_pyIter_list p.isList ?_
    refine ⟨s1.heap.objs.size, [s1.heap.objs.size], _, _, H1, rfl, I1.kept (t' := s1.toks) fun b o e => Heap.get?_push_of_some _ e, turn_list a _, ⟨_, Heap.get?_push_size _ rfl, rfl, rfl⟩, fun b hb => ?_, q⟩
    have e : b = s1.heap.objs.size := by simpa using hb
    subst e
    exact I1.fpOk (Nat.le_refl _) (I1.hok.fresh (Nat.le_refl _))
  · obtain ⟨its, rv, p, hz⟩ := I1.tuple hq
    refine wpAny_pyIter_tuple p ?_
    refine ⟨s1.heap.objs.size, [s1.heap.objs.size], _, _, H1, rfl, I1.kept (t' := s1.toks) fun b o e => Heap.get?_push_of_some _ e, turn_tuple a _, ⟨_, Heap.get?_push_size _ rfl, rfl, rfl⟩, fun b hb => ?_, q⟩
    have e : b = s1.heap.objs.size := by simpa using hb
    subst e
    exact I1.fpOk (Nat.le_refl _) (I1.hok.fresh (Nat.le_refl _))
theorem snd_itv {tg : Expr} {e : E} {x : Expr} (hp : plainIt e = true) (h : PE X x (tE X.K call e)) : PI X tg x (tI X.K call e) := by
  refine PI.imp (pi_seq h) fun σ H R ⟨μ, L, st, xs, gs, st1, hl, hs, ee, q⟩ => ?_
  rw [evI_plain hp] at ee
  cases e1 : ev call e L st with
  | none => rw [e1] at ee; cases ee
  | some z =>
    obtain ⟨p, st2⟩ := z
    rw [e1] at ee
    have ee : ((seqOf st2 p).bind fun xs => some (xs, gdOf p xs, st2)) = some (xs, gs, st1) := ee
    refine go1 hl hs e1 fun v H1 μ1 x1 hl s1 r1 => ?_
    cases c : seqOf st2 p with
    | none => rw [c] at ee; cases ee
    | some ps =>
      rw [c] at ee
      cases ee
      cases p with
      | tup qs =>
        cases c
        obtain ⟨a, vs, rfl, h1, h2⟩ := id r1
        exact ⟨a, rfl, .inr ⟨⟨vs, SqT.of h1⟩, q _ H1 μ1 x1 s1 (itt_rel r1)⟩⟩
      | ref l =>
        obtain ⟨a, vs, rfl, h1, h2⟩ := listOf_rel s1 r1 c
        exact ⟨a, rfl, .inl ⟨⟨vs, h1⟩, q _ H1 μ1 x1 s1 (itl_rel r1 c)⟩⟩
      | scr l =>
        obtain ⟨a, vs, rfl, h1, h2⟩ := listOf_rel s1 r1 c
        exact ⟨a, rfl, .inl ⟨⟨vs, h1⟩, q _ H1 μ1 x1 s1 (itl_rel (st1 := []) r1 c)⟩⟩
      | _ => cases c
theorem seq_ref {K : PySem.W.Frag} {μ : List Addr} {H : Hp} {st : Sto} {p : PV} {v : V} {ps : List PV} (hs : RelS K μ H st) (r : RP K μ H p v) (e : seqOf st p = some ps) : ∃ a vs, v = .ref a ∧ SqB (isL p) K H a vs := by
  cases p with
  | tup qs => obtain ⟨a, vs, rfl, h1, h2⟩ := r; exact ⟨a, vs, rfl, SqT.of h1⟩
  | ref l => obtain ⟨a, vs, rfl, h1, h2⟩ := listOf_rel hs r e; exact ⟨a, vs, rfl, h1⟩
  | scr l => obtain ⟨a, vs, rfl, h1, h2⟩ := listOf_rel hs r e; exact ⟨a, vs, rfl, h1⟩
  | _ => cases e
theorem snd_zip {elts : List Expr} {k : Nat} {tp : Pos} {a b : E} {x y : Expr} {p pos : Pos} (hg : Gl X "zip") (hm : X.mg "zip" = none) (h : PE X x (tE X.K call a)) (h2 : PE X y (tE X.K call b))
    (hs0 : starEach [x, y] X.env = [(false, eval x X.env), (false, eval y X.env)]) (hs2 : starEach [y] X.env = [(false, eval y X.env)]) : PI X (.Tuple elts k tp) (.Call (.Name "zip" p) [x, y] [] pos) (tI X.K call (.zip a b)) := by
  refine PI.imp (pi_z2 hg hm (pa_cons h (pa_cons h2 pa_nil (by rw [hs2]; rfl)) (by rw [hs0, hs2])) hs0 hs2) fun σ H R ⟨μ, L, st, xs, gs, st1, hl, hs, ee, q⟩ => ?_
  simp only [evI] at ee
  cases e1 : ev call a L st with
  | none => rw [e1] at ee; cases ee
  | some z =>
    obtain ⟨p, st2⟩ := z
    rw [e1] at ee
    simp only [Option.bind_some] at ee
    refine go1 hl hs e1 fun v H1 μ1 x1 hl s1 r1 => ?_
    cases e2 : ev call b L st2 with
    | none => rw [e2] at ee; cases ee
    | some z =>
      obtain ⟨q', st3⟩ := z
      rw [e2] at ee
      simp only [Option.bind_some] at ee
      refine go1 hl s1 e2 fun w H2 μ2 x2 hl s2 r2 => ?_
      cases c1 : seqOf st3 p with
      | none => rw [c1] at ee; cases ee
      | some ps =>
        cases c2 : seqOf st3 q' with
        | none => rw [c1] at ee; simp only [Option.bind] at ee; rw [c2] at ee; cases ee
        | some qs =>
          rw [c1] at ee; simp only [Option.bind] at ee; rw [c2] at ee
          cases ee
          have r1 := r1.mono x2
          obtain ⟨a1, vs, rfl, h1⟩ := seq_ref s2 r1 c1
          obtain ⟨b1, ws, rfl, h3⟩ := seq_ref s2 r2 c2
          exact ⟨_, _, a1, b1, rfl, ⟨vs, h1⟩, ⟨ws, h3⟩, q _ H2 μ2 (x1.trans x2) s2 (it2_rel r1 c1 r2 c2)⟩
theorem snd_enum {elts : List Expr} {k : Nat} {tp : Pos} {a : E} {x : Expr} {p pos : Pos} (hg : Gl X "enumerate") (hm : X.mg "enumerate" = none) (h : PE X x (tE X.K call a)) (hs0 : starEach [x] X.env = [(false, eval x X.env)]) :
    PI X (.Tuple elts k tp) (.Call (.Name "enumerate" p) [x] [] pos) (tI X.K call (.enum a)) := by
  refine PI.imp (pi_en hg hm (pa_cons h pa_nil (by rw [hs0]; rfl)) hs0) fun σ H R ⟨μ, L, st, xs, gs, st1, hl, hs, ee, q⟩ => ?_
  simp only [evI] at ee
  cases e1 : ev call a L st with
  | none => rw [e1] at ee; cases ee
  | some z =>
    obtain ⟨p, st2⟩ := z
    rw [e1] at ee
    simp only [Option.bind_some] at ee
    refine go1 hl hs e1 fun v H1 μ1 x1 hl s1 r1 => ?_
    cases c1 : seqOf st2 p with
    | none => rw [c1] at ee; cases ee
    | some ps =>
      rw [c1] at ee
      cases ee
      obtain ⟨a1, vs, rfl, h1⟩ := seq_ref s1 r1 c1
      exact ⟨_, a1, rfl, ⟨vs, h1⟩, q _ H1 μ1 x1 s1 (iten_rel r1 c1)⟩
theorem snd_rng2 {tg : Expr} {a b : E} {x y : Expr} {p pos : Pos} (hg : Gl X "range") (hm : X.mg "range" = none) (h : PE X x (tE X.K call a)) (h2 : PE X y (tE X.K call b))
    (hs0 : starEach [x, y] X.env = [(false, eval x X.env), (false, eval y X.env)]) (hs2 : starEach [y] X.env = [(false, eval y X.env)]) : PI X tg (.Call (.Name "range" p) [x, y] [] pos) (tI X.K call (.rng2 a b)) := by
  refine PI.imp (pi_range2 hg hm (pa_cons h (pa_cons h2 pa_nil (by rw [hs2]; rfl)) (by rw [hs0, hs2])) hs0 hs2) fun σ H R ⟨μ, L, st, xs, gs, st1, hl, hs, ee, q⟩ => ?_
  simp only [evI] at ee
  cases e1 : ev call a L st with
  | none => rw [e1] at ee; cases ee
  | some z =>
    obtain ⟨p, st2⟩ := z
    rw [e1] at ee
    simp only [Option.bind_some] at ee
    refine go1 hl hs e1 fun v H1 μ1 x1 hl s1 r1 => ?_
    cases e2 : ev call b L st2 with
    | none => rw [e2] at ee; cases ee
    | some z =>
      obtain ⟨q', st3⟩ := z
      rw [e2] at ee
      simp only [Option.bind_some] at ee
      refine go1 hl s1 e2 fun w H2 μ2 x2 hl s2 r2 => ?_
      cases p with
      | int i =>
        cases q' with
        | int j =>
          have ee : (if (small62 i && small62 j) = true then some (upto i (j - i).toNat, ([] : Gd), st3) else none) = some (xs, gs, st1) := ee
          by_cases hc : (small62 i && small62 j) = true
          · rw [if_pos hc] at ee
            cases ee
            have hc : (-(2 ^ 62) ≤ i ∧ i < 2 ^ 62) ∧ -(2 ^ 62) ≤ j ∧ j < 2 ^ 62 := by simpa [small62] using hc
            obtain rfl : v = .int i := r1
            obtain rfl : w = .int j := r2
            exact ⟨i, j, rfl, ⟨hc.1.1, hc.1.2, hc.2.1, hc.2.2⟩, q _ H2 μ2 (x1.trans x2) s2 itr_rel⟩
          · rw [if_neg hc] at ee; cases ee
        | _ => cases ee
      | _ => cases ee
end
end Kw
end
section
set_option Elab.async false
set_option linter.all false
set_option maxRecDepth 100000
set_option maxHeartbeats 4000000
namespace Kw
open PySem PySem.Spec PyProof.Rows L2
/-! ### targets -/
def setAllV : L2.St → List Nat → List V → Option L2.St
  | σ, [], [] => some σ
  | σ, i :: is, v :: vs => setAllV (σ.set i (some v)) is vs
  | _, _, _ => none
def gTs : List Nat → TGs
  | [] => gNil
  | i :: is => gCons (gName i) (gTs is)
def gT (K : PySem.W.Frag) : Tg → TG
  | .nm i => gName i
  | .tp is => gTup K is.length (gTs is)
theorem gTs_of : ∀ {is : List Nat} {vs : List V} {σ σ' : L2.St} {H : Hp} {Q : L2.St → Hp → Prop}, setAllV σ is vs = some σ' → Q σ' H → gTs is vs σ H Q
  | [], [], σ, σ', H, Q, e, q => by cases e; exact ⟨rfl, q⟩
  | i :: is, v :: vs, σ, σ', H, Q, e, q => ⟨v, vs, rfl, gTs_of (σ := σ.set i (some v)) e q⟩
  | [], v :: vs, _, _, _, _, e, _ => by cases e
  | i :: is, [], _, _, _, _, e, _ => by cases e
theorem setAll_rel {K : PySem.W.Frag} {μ : List Addr} {H : Hp} : ∀ {is : List Nat} {ps : List PV} {vs : List V} {L L' : Loc} {σ : L2.St}, RelL K μ H L σ → RPs K μ H ps vs → setAll L is ps = some L' → ∃ σ', setAllV σ is vs = some σ' ∧ RelL K μ H L' σ'
  | [], [], vs, L, L', σ, hl, r, e => by cases (show vs = [] from r); cases e; exact ⟨σ, rfl, hl⟩
  | i :: is, p :: ps, vs, L, L', σ, hl, r, e => by
    obtain ⟨v, q, rfl, h1, h2⟩ := r
    exact setAll_rel (is := is) (ps := ps) (vs := q) (hl.set i h1) h2 e
  | [], p :: ps, _, _, _, _, _, _, e => by cases e
  | i :: is, [], _, _, _, _, _, _, e => by cases e
theorem setAllV_len : ∀ {is : List Nat} {vs : List V} {σ σ' : L2.St}, setAllV σ is vs = some σ' → is.length = vs.length ∧ σ'.length = σ.length
  | [], [], σ, σ', e => by cases e; exact ⟨rfl, rfl⟩
  | i :: is, v :: vs, σ, σ', e => by
    obtain ⟨h1, h2⟩ := setAllV_len (σ := σ.set i (some v)) e
    rw [List.length_set] at h2
    exact ⟨by rw [List.length_cons, List.length_cons, h1], h2⟩
  | [], v :: vs, _, _, e => by cases e
  | i :: is, [], _, _, e => by cases e
theorem setAllV_wk : ∀ {is : List Nat} {vs : List V} {σ σ' : L2.St} (n : Nat), (∀ i ∈ is, n ≤ i) → setAllV σ is vs = some σ' → ∀ j, j < n → σ'[j]? = σ[j]?
  | [], [], σ, σ', n, _, e, j, _ => by cases e; rfl
  | i :: is, v :: vs, σ, σ', n, h, e, j, hj => by
    rw [setAllV_wk (σ := σ.set i (some v)) n (fun k hk => h k (List.mem_cons_of_mem _ hk)) e j hj, List.getElem?_set_ne]
    have := h i List.mem_cons_self
    omega
  | [], v :: vs, _, _, _, _, e, _, _ => by cases e
  | i :: is, [], _, _, _, _, e, _, _ => by cases e
def tgMin (n : Nat) : Tg → Bool
  | .nm i => decide (n ≤ i)
  | .tp is => is.all fun i => decide (n ≤ i)
/-- a value goes to its target -/
theorem gT_rel {K : PySem.W.Frag} {μ : List Addr} {H : Hp} {L L' : Loc} {σ : L2.St} {st : Sto} {tg : Tg} {p : PV} {v : V} (hl : RelL K μ H L σ) (r : RP K μ H p v) (e : asgT tg p L st = some L') :
    ∃ σ', (∀ Q : L2.St → Hp → Prop, Q σ' H → gT K tg v σ H Q) ∧ RelL K μ H L' σ' ∧ σ'.length = σ.length ∧ ∀ n, tgMin n tg = true → ∀ j, j < n → σ'[j]? = σ[j]? := by
  cases tg with
  | nm i =>
    cases e
    refine ⟨σ.set i (some v), fun Q q => q, hl.set i r, List.length_set .., fun n hn j hj => ?_⟩
    have : n ≤ i := by simpa [tgMin] using hn
    exact List.getElem?_set_ne (by omega)
  | tp is =>
    cases p with
    | tup ps =>
      obtain ⟨a, vs, rfl, h1, h2⟩ := r
      have e : setAll L is ps = some L' := e
      obtain ⟨σ', e', hl'⟩ := setAll_rel hl h2 e
      obtain ⟨l1, l2⟩ := setAllV_len e'
      refine ⟨σ', fun Q q => ⟨a, vs, rfl, SqT.of h1, l1.symm, gTs_of e' q⟩, hl', l2, fun n hn j hj => setAllV_wk n (fun i hi => ?_) e' j hj⟩
      have := List.all_eq_true.mp hn i hi
      simpa using this
    | _ => cases e
section
variable {X : Cx} {call : Nat → List PV → Sto → R PV}
/-! ### a comprehension -/
theorem comp_sem {K : PySem.W.Frag} {J : It} {xs0 : List PV} {gs : Gd} {μ0 : List Addr} {H0 : Hp} {st0 : Sto} {σ : L2.St} {L : Loc} {n m : Nat} {tg : Tg} {el ifs : E} {Q : VK} (hl : RelL K μ0 H0 L σ) (hs : RelS K μ0 H0 st0) (hJ : ItR K J xs0 gs μ0 H0) (hn : L.length = n) (htg : tgMin n tg = true)
    (k : K1 K μ0 H0 ((compItems tg gs (fun L1 s1 => evTs call ifs L1 s1) (fun L1 s1 => ev call el L1 s1) (L ++ List.replicate m none) xs0 st0).bind fun z => alloc z.2 z.1) Q) :
    ∀ acc, H0 acc = none → ∃ W : Nat → Nat → Hp → Prop, (∃ m, W 0 m (upd H0 acc (.lst []))) ∧ ∀ i j H, W i j H →
      (J.stop i H ∧ Q (.ref acc) H) ∨ (J.go i H ∧ ∀ x H', J.yld i H x H' → gT K tg x (σ ++ List.replicate m none) H' fun σ2 H2 => Wk (σ ++ List.replicate m none) σ2 ∧ tTs K call ifs σ2 H2 fun b H3 =>
        if b = true then tE K call el σ2 H3 fun v H4 => ∃ ys, H4 acc = some (.lst ys) ∧ ys.length < sizeLine ∧ ∃ m', m' < j ∧ W (i + 1) m' (upd H4 acc (.lst (ys ++ [v]))) else ∃ m', m' < j ∧ W (i + 1) m' H3) := by
  intro acc hacc
  obtain ⟨⟨all, stE⟩, hE, k⟩ : ∃ z, compItems tg gs (fun L1 s1 => evTs call ifs L1 s1) (fun L1 s1 => ev call el L1 s1) (L ++ List.replicate m none) xs0 st0 = some z ∧ K1 K μ0 H0 (alloc z.2 z.1) Q := by
    obtain ⟨p, st1, e1, k⟩ := k.split
    exact ⟨(p, st1), e1, k⟩
  have hbig : all.length ≤ big := by
    by_cases h : all.length ≤ big
    · exact h
    · have k : K1 K μ0 H0 (if all.length ≤ big then some (.ref stE.length, stE ++ [.lst all]) else none) Q := k
      rw [if_neg h] at k; exact k.no.elim
  have k : K1 K μ0 H0 (some (.ref stE.length, stE ++ [.lst all])) Q := by
    have k : K1 K μ0 H0 (if all.length ≤ big then some (.ref stE.length, stE ++ [.lst all]) else none) Q := k
    rwa [if_pos hbig] at k
  have hbl := big_line
  have nacc : ∀ {μ : List Addr} {H : Hp}, Ext μ0 H0 μ H → RelS K μ0 H0 st0 → acc ∉ μ0 := fun _ hs => hs.notin hacc
  let W : Nat → Nat → Hp → Prop := fun i j H => ∃ μ st done rest more vs, j = rest.length ∧ xs0.drop i = rest ∧ Ext μ0 H0 μ H ∧ acc ∉ μ ∧ RelS K μ H st ∧ H acc = some (.lst vs) ∧ RPs K μ H done vs ∧ all = done ++ more ∧
    compItems tg gs (fun L1 s1 => evTs call ifs L1 s1) (fun L1 s1 => ev call el L1 s1) (L ++ List.replicate m none) rest st = some (more, stE)
  have x0 : Ext μ0 H0 μ0 (upd H0 acc (.lst [])) := ext_new hs hacc _
  refine ⟨W, ⟨xs0.length, μ0, st0, [], xs0, all, [], rfl, rfl, x0, hs.notin hacc, hs.new hacc _, upd_same, rfl, rfl, hE⟩, ?_⟩
  rintro i j H ⟨μ, st, done, rest, more, vs, rfl, hd, x, hna, hs', hv, hr, hal, hc⟩
  cases rest with
  | nil =>
    left
    simp only [compItems] at hc
    have ok : okG st gs = true := by
      by_cases h : okG st gs = true
      · exact h
      · rw [if_neg h] at hc; cases hc
    rw [if_pos ok] at hc
    cases hc
    rw [List.append_nil] at hal
    subst hal
    have hi : xs0[i]? = none := List.getElem?_eq_none_iff.mpr (List.drop_eq_nil_iff.mp hd)
    refine ⟨((hJ i μ H _ x hs' ok).1 hi), ?_⟩
    obtain ⟨r', st', e', q⟩ := k
    cases e'
    refine q (.ref acc) H (μ ++ [acc]) ⟨?_, x.keep, x.tup, x.frz, fun a ha => ?_⟩ (hs'.adopt hv hna hr) ⟨acc, rfl, ?_⟩
    · obtain ⟨mm, e⟩ := x.pre
      exact ⟨mm ++ [acc], by rw [e, List.append_assoc]⟩
    · rcases List.mem_append.mp ha with z | z
      · exact x.new a z
      · simp at z; subst z; exact .inr hacc
    · rw [← hs'.len, List.getElem?_append_right (Nat.le_refl _), Nat.sub_self] <;> rfl
  | cons p rest =>
    right
    simp only [compItems] at hc
    have ok : okG st gs = true := by
      by_cases h : okG st gs = true
      · exact h
      · rw [if_neg h] at hc; cases hc
    rw [if_pos ok] at hc
    have hi : xs0[i]? = some p := by
      have := congrArg (·[0]?) hd
      simpa using this
    have hd' : xs0.drop (i + 1) = rest := by
      have := congrArg List.tail hd
      simpa [List.tail_drop] using this
    obtain ⟨go, yl⟩ := (hJ i μ H st x hs' ok).2 p hi
    refine ⟨go, fun v H' y => ?_⟩
    obtain ⟨x1, s1, r1⟩ := yl v H' y
    have hl1 : RelL K μ H' (L ++ List.replicate m none) (σ ++ List.replicate m none) := (hl.mono (x.trans x1)).more m
    cases ea : asgT tg p (L ++ List.replicate m none) st with
    | none => rw [ea] at hc; cases hc
    | some L1 =>
      rw [ea] at hc
      have hc : ((evTs call ifs L1 st).bind fun z => if z.1 = true then (ev call el L1 z.2).bind fun w => (compItems tg gs (fun L1 s1 => evTs call ifs L1 s1) (fun L1 s1 => ev call el L1 s1) (L ++ List.replicate m none) rest w.2).bind fun u => some (w.1 :: u.1, u.2)
          else compItems tg gs (fun L1 s1 => evTs call ifs L1 s1) (fun L1 s1 => ev call el L1 s1) (L ++ List.replicate m none) rest z.2) = some (more, stE) := hc
      obtain ⟨σ', hg, hl2, hlen, hwk⟩ := gT_rel hl1 r1 ea
      refine hg _ ⟨⟨hlen, fun jj vv ej => ?_⟩, ?_⟩
      · have hjj : jj < n := by
          by_cases h : jj < σ.length
          · rw [← hn, hl.len]; exact h
          · rw [List.getElem?_append_right (by omega), List.getElem?_replicate] at ej
            split at ej <;> cases ej
        rw [hwk n htg jj hjj]; exact ej
      · have hna1 : acc ∉ μ := hna
        have hv1 : H' acc = some (.lst vs) := x1.keep acc _ hna hv
        cases et : evTs call ifs L1 st with
        | none => rw [et] at hc; cases hc
        | some z =>
          obtain ⟨b, st2⟩ := z
          rw [et] at hc
          refine ⟨μ, L1, st, hl2, s1, b, st2, et, fun b' H2 μ2 x2 s2 eb => ?_⟩
          subst eb
          have hna2 : acc ∉ μ2 := fun z => by
            rcases x2.new acc z with y | y
            · exact hna y
            · rw [hv1] at y; cases y
          have hv2 : H2 acc = some (.lst vs) := x2.keep acc _ hna hv1
          have hr2 : RPs K μ2 H2 done vs := hr.mono (x1.trans x2)
          have xx2 : Ext μ0 H0 μ2 H2 := x.trans (x1.trans x2)
          cases b with
          | false =>
            have hc : compItems tg gs (fun L1 s1 => evTs call ifs L1 s1) (fun L1 s1 => ev call el L1 s1) (L ++ List.replicate m none) rest st2 = some (more, stE) := by simpa using hc
            rw [if_neg Bool.false_ne_true]
            exact ⟨rest.length, Nat.lt_succ_self _, μ2, st2, done, rest, more, vs, rfl, hd', xx2, hna2, s2, hv2, hr2, hal, hc⟩
          | true =>
            rw [if_pos rfl]
            have hc : ((ev call el L1 st2).bind fun w => (compItems tg gs (fun L1 s1 => evTs call ifs L1 s1) (fun L1 s1 => ev call el L1 s1) (L ++ List.replicate m none) rest w.2).bind fun u => some (w.1 :: u.1, u.2)) = some (more, stE) := by simpa using hc
            cases ev1 : ev call el L1 st2 with
            | none => rw [ev1] at hc; cases hc
            | some w =>
              obtain ⟨q, st3⟩ := w
              rw [ev1] at hc
              have hc : ((compItems tg gs (fun L1 s1 => evTs call ifs L1 s1) (fun L1 s1 => ev call el L1 s1) (L ++ List.replicate m none) rest st3).bind fun u => some (q :: u.1, u.2)) = some (more, stE) := hc
              cases ec : compItems tg gs (fun L1 s1 => evTs call ifs L1 s1) (fun L1 s1 => ev call el L1 s1) (L ++ List.replicate m none) rest st3 with
              | none => rw [ec] at hc; cases hc
              | some u =>
                obtain ⟨more', stE'⟩ := u
                rw [ec] at hc
                cases hc
                refine go1 (hl2.mono x2) s2 ev1 fun v3 H3 μ3 x3 _ s3 r3 => ?_
                have hv3 : H3 acc = some (.lst vs) := x3.keep acc _ hna2 hv2
                have hna3 : acc ∉ μ3 := fun z => by
                  rcases x3.new acc z with y | y
                  · exact hna2 y
                  · rw [hv2] at y; cases y
                have hr3 := hr2.mono x3
                have hlen3 := hr3.length
                have xx3 : Ext μ0 H0 μ3 H3 := xx2.trans x3
                have e0 : Ext0 μ3 H3 μ3 (upd H3 acc (.lst (vs ++ [v3]))) := ext0_side hv3 _
                refine ⟨vs, hv3, ?_, rest.length, Nat.lt_succ_self _, μ3, st3, done ++ [q], rest, more', vs ++ [v3], rfl, hd', ?_, hna3, s3.side hv3 hna3 _, upd_same, (hr3.append (RPs.one r3)).mono0 e0, by rw [hal, List.append_assoc]; rfl, ec⟩
                · rw [hal, List.length_append, List.length_cons] at hbig
                  omega
                · exact ⟨xx3.pre, fun a o ha e => by rw [upd_ne (ne_of_none e hacc)]; exact xx3.keep a o ha e, fun a ys e => by rw [upd_ne (ne_of_none e hacc)]; exact xx3.tup a ys e, fun a o u e => by rw [upd_ne (ne_of_none e hacc)]; exact xx3.frz a o u e, xx3.new⟩
theorem snd_comp {scope : Scope} {own : List Str} {elt tgx it : Expr} {ifx : List Expr} {pos : Pos} {el ite ifs : E} {tg : Tg} (hc : X.calm = true) (SC : CScope X scope own) (htg : tgMin X.N.length tg = true) (hi : PI X.nox tgx it (tI X.K call ite))
    (hblock : ∀ fp C s H, PG (cxC X scope own fp C s H) tgx (gT X.K tg) ∧ PTs (cxC X scope own fp C s H) ifx (tTs X.K call ifs) ∧ PE (cxC X scope own fp C s H) elt (tE X.K call el))
    (hs0 : ∀ x, foldedSetIterable it X.env x = pure x) : PE X.nox (.ListComp elt [⟨tgx, it, ifx, 0⟩] scope pos) (tE X.K call (.comp el tg X.N.length own.length ite ifs)) := by
  have base := pe_comp (pos := pos) hc SC hi hblock hs0
  refine PE.imp base fun σ H Q ⟨μ, L, st, hl, hs, k⟩ => ?_
  simp only [ev] at k
  obtain ⟨r, stF, e, kk⟩ := k
  cases e1 : evI call ite L st with
  | none => rw [e1] at e; cases e
  | some z =>
    obtain ⟨xs, gs, st1⟩ := z
    rw [e1] at e
    refine ⟨μ, L, st, xs, gs, st1, hl, hs, e1, fun J H1 μ1 x1 s1 hJ => ?_⟩
    by_cases hn : L.length = X.N.length
    · have e : ((compItems tg gs (fun L1 s1 => evTs call ifs L1 s1) (fun L1 s1 => ev call el L1 s1) (L ++ List.replicate own.length none) xs st1).bind fun z => alloc z.2 z.1) = some (r, stF) := by simpa [hn] using e
      exact comp_sem (hl.mono x1) s1 hJ hn htg ⟨r, stF, e, fun v H' μ' y => kk v H' μ' (x1.trans y)⟩
    · simp [hn] at e
theorem snd_setcomp {scope : Scope} {own : List Str} {elt tgx it : Expr} {ifx : List Expr} {pos : Pos} {el ite ifs : E} {tg : Tg} {i : Nat} {x : Str} {px spos : Pos} (hc : X.calm = true) (SC : CScope X scope own) (hN : X.N.Nodup) (hx : X.N[i]? = some x) (hlo : X.env.scope.names.lookup x = some .local)
    (htg : tgMin X.N.length tg = true) (hi : PI X.nox tgx it (tI X.K call ite))
    (hblock : ∀ fp C s H, PG (cxC X scope own fp C s H) tgx (gT X.K tg) ∧ PTs (cxC X scope own fp C s H) ifx (tTs X.K call ifs) ∧ PE (cxC X scope own fp C s H) elt (tE X.K call el))
    (hsw : swapsWith (.ListComp elt [⟨tgx, it, ifx, 0⟩] scope pos) (some (.Name x px)) spos.line X.env = pure true)
    (hs0 : ∀ x, foldedSetIterable it X.env x = pure x) : PS X.nox (.Assign [.Name x px] (.ListComp elt [⟨tgx, it, ifx, 0⟩] scope pos) spos) (tAsg (tE X.K call (.comp el tg X.N.length own.length ite ifs)) (gName i)) := by
  have base := ps_setcomp hc SC hN hx hlo hi hblock hsw hs0
  refine PS.imp base fun D σ H hh => ?_
  obtain ⟨μ, L, st, hl, hs, k⟩ := hh
  simp only [ev] at k
  obtain ⟨r, stF, e, kk⟩ := k
  cases e1 : evI call ite L st with
  | none => rw [e1] at e; cases e
  | some z =>
    obtain ⟨xs, gs, st1⟩ := z
    rw [e1] at e
    refine ⟨μ, L, st, xs, gs, st1, hl, hs, e1, fun J H1 μ1 x1 s1 hJ => ?_⟩
    by_cases hn : L.length = X.N.length
    · have e : ((compItems tg gs (fun L1 s1 => evTs call ifs L1 s1) (fun L1 s1 => ev call el L1 s1) (L ++ List.replicate own.length none) xs st1).bind fun z => alloc z.2 z.1) = some (r, stF) := by simpa [hn] using e
      exact comp_sem (hl.mono x1) s1 hJ hn htg ⟨r, stF, e, fun v H' μ' y => kk v H' μ' (x1.trans y)⟩
    · simp [hn] at e
theorem snd_tsnil : PTs X [] (tTs X.K call .nil) := PTs.imp pts_nil fun σ H Q ⟨μ, L, st, hl, hs, k⟩ => by
  simp only [evTs] at k
  obtain ⟨_, _, e', k⟩ := k
  cases e'
  exact k true H μ (Ext.refl _ _) hs rfl
theorem snd_tscons {e es : E} {x : Expr} {xs : List Expr} (h : PT X x (tT X.K call e)) (h2 : PTs X xs (tTs X.K call es)) : PTs X (x :: xs) (tTs X.K call (.cons e es)) := by
  refine PTs.imp (pts_cons h h2) fun σ H Q ⟨μ, L, st, hl, hs, k⟩ => ?_
  simp only [evTs] at k
  obtain ⟨p, st1, e1, k⟩ := k.split
  refine goT hl hs e1 fun H1 μ1 x1 hl s1 => ?_
  have k := k.shift x1
  cases p with
  | true => exact ⟨μ1, L, st1, hl, s1, by simpa using k⟩
  | false =>
    obtain ⟨_, _, e', k⟩ := k
    simp at e'
    obtain ⟨rfl, rfl⟩ := e'
    exact k _ H1 μ1 (Ext.refl _ _) s1 rfl
end
end Kw
end
section
set_option Elab.async false
set_option linter.all false
set_option maxRecDepth 100000
set_option maxHeartbeats 4000000
namespace Kw
open PySem PySem.Spec PyProof.Rows L2
/-- where a block goes on -/
def endF (K : PySem.W.Frag) (D : Ends) (μ : List Addr) (H : Hp) (σ : L2.St) : Fl → Prop
  | .next => D.nx σ H
  | .brk => D.bk σ H
  | .cont => D.ct σ H
  | .ret p => ∀ v, RP K μ H p v → D.rt v H
def KS (K : PySem.W.Frag) (μ : List Addr) (H : Hp) (res : RS) (D : Ends) : Prop :=
  ∃ f L' st', res = some (f, L', st') ∧ ∀ H' μ' σ', Ext μ H μ' H' → RelS K μ' H' st' → RelL K μ' H' L' σ' → endF K D μ' H' σ' f
theorem KS.shift {K : PySem.W.Frag} {μ μ1 : List Addr} {H H1 : Hp} {res : RS} {D : Ends} (x : Ext μ H μ1 H1) (h : KS K μ H res D) : KS K μ1 H1 res D :=
  let ⟨f, L', st', e, q⟩ := h
  ⟨f, L', st', e, fun H' μ' σ' y => q H' μ' σ' (x.trans y)⟩
theorem KS.no {K : PySem.W.Frag} {μ : List Addr} {H : Hp} {D : Ends} (k : KS K μ H none D) : False := by
  obtain ⟨_, _, _, e, _⟩ := k
  cases e
theorem KS.done {K : PySem.W.Frag} {μ : List Addr} {H : Hp} {D : Ends} {f : Fl} {L : Loc} {st : Sto} {σ : L2.St} (k : KS K μ H (some (f, L, st)) D) (hs : RelS K μ H st) (hl : RelL K μ H L σ) : endF K D μ H σ f := by
  obtain ⟨_, _, _, e, q⟩ := k
  cases e
  exact q H μ σ (Ext.refl _ _) hs hl
theorem KS.split {K : PySem.W.Frag} {μ : List Addr} {H : Hp} {D : Ends} {γ : Type} {res : Option (γ × Sto)} {f : γ × Sto → RS} (k : KS K μ H (res.bind f) D) : ∃ p st1, res = some (p, st1) ∧ KS K μ H (f (p, st1)) D := by
  obtain ⟨a, b, c, e, q⟩ := k
  cases res with
  | none => cases e
  | some x => exact ⟨x.1, x.2, rfl, a, b, c, e, q⟩
def tS (K : PySem.W.Frag) (call : Nat → List PV → Sto → R PV) (s : S) : TS := fun D σ H => ∃ μ L st, RelL K μ H L σ ∧ RelS K μ H st ∧ KS K μ H (ex call s L st) D
section
variable {X : Cx} {call : Nat → List PV → Sto → R PV}
theorem sn_nil : PSs X [] (tS X.K call .nil) := PSs.imp pss_nil fun D σ H ⟨μ, L, st, hl, hs, k⟩ => by simp only [ex] at k; exact KS.done k hs hl
theorem sn_cons {s r : S} {x : Stmt} {xs : List Stmt} (h : PS X x (tS X.K call s)) (h2 : PSs X xs (tS X.K call r)) : PSs X (x :: xs) (tS X.K call (.cons s r)) := by
  refine PSs.imp (pss_cons h h2) fun D σ H ⟨μ, L, st, hl, hs, k⟩ => ?_
  simp only [ex] at k
  obtain ⟨f, L', st', e, q⟩ := k
  cases e1 : ex call s L st with
  | none => rw [e1] at e; cases e
  | some z =>
    obtain ⟨f1, L1, st1⟩ := z
    rw [e1] at e
    refine ⟨μ, L, st, hl, hs, f1, L1, st1, e1, fun H1 μ1 σ1 x1 s1 l1 => ?_⟩
    cases f1 with
    | next =>
      exact ⟨μ1, L1, st1, l1, s1, f, L', st', e, fun H' μ' σ' y => q H' μ' σ' (x1.trans y)⟩
    | brk => cases e; exact q H1 μ1 σ1 x1 s1 l1
    | cont => cases e; exact q H1 μ1 σ1 x1 s1 l1
    | ret v => cases e; exact q H1 μ1 σ1 x1 s1 l1
theorem sn_asg_of {tg : Tg} {e : E} {te : TE} {x : Stmt} (hte : ∀ σ H Q, tE X.K call e σ H Q → te σ H Q) (h : PS X x (tAsg te (gT X.K tg))) : PS X x (tS X.K call (.asg tg e)) := by
  refine PS.imp h fun D σ H ⟨μ, L, st, hl, hs, k⟩ => hte _ _ _ ?_
  simp only [ex] at k
  obtain ⟨p, st1, e1, k⟩ := k.split
  refine go1 hl hs e1 fun v H1 μ1 x1 hl s1 r1 => ?_
  have k := k.shift x1
  cases ea : asgT tg p L st1 with
  | none => rw [ea] at k; exact k.no.elim
  | some L1 =>
    rw [ea] at k
    obtain ⟨σ', hg, hl2, _, _⟩ := gT_rel hl r1 ea
    exact hg _ (KS.done k s1 hl2)
def isComp : Expr → Bool
  | .ListComp .. => true | .SetComp .. => true | .DictComp .. => true
  | _ => false
theorem swaps_no {e : Expr} {t : Option Expr} {n : Nat} {env : Env} (h : isComp e = false) : swapsWith e t n env = pure false := by
  cases e <;> first | rfl | (cases h; done)
theorem sn_set {i : Nat} {e : E} {x : Str} {ex : Expr} {px pos : Pos} (hN : X.N.Nodup) (hi : X.N[i]? = some x) (hx : L2.Loc X.env.scope x) (hf : X.fn x = true ∨ X.env.scope.names.lookup x = some .local) (hc : isComp ex = false) (h : PE X ex (tE X.K call e)) :
    PS X (.Assign [.Name x px] ex pos) (tS X.K call (.asg (.nm i) e)) := sn_asg_of (fun _ _ _ z => z) (ps_set hN hi hx h (swaps_no hc) hf)
theorem sn_setix {o i e : E} {xo xi xe : Expr} {p pos : Pos} (hc : isComp xe = false) (hpi : ∀ v, assign (.Subscript xo xi p) X.env v = (do
      let ov ← holding [v] (eval xo X.env)
      let iv ← holding [v, ov] (eval xi X.env)
      standAt p
      holding [v, ov, iv] (setItem ov iv v)
      release [v, ov, iv] [])) (hw : swappedStores [.Subscript xo xi p] xe X.env = pure none) (hws : swapsWithSole [.Subscript xo xi p] xe pos.line X.env = pure false)
    (ho : PE X xo (tE X.K call o)) (hi : PE X xi (tE X.K call i)) (he : PE X xe (tE X.K call e)) : PS X (.Assign [.Subscript xo xi p] xe pos) (tS X.K call (.setix o i e)) := by
  refine PS.imp (ps_asg he (pg_sub ho hi set_list hpi) hws hw rfl) fun D σ H ⟨μ, L, st, hl, hs, k⟩ => ?_
  simp only [ex] at k
  obtain ⟨p, st1, e1, k⟩ := k.split
  refine go1 hl hs e1 fun v H1 μ1 x1 hl s1 r1 => ?_
  obtain ⟨a, st2, e2, k⟩ := (k.shift x1).split
  refine go1 hl s1 e2 fun w H2 μ2 x2 hl s2 r2 => ?_
  obtain ⟨j, st3, e3, k⟩ := (k.shift x2).split
  refine go1 hl s2 e3 fun u H3 μ3 x3 hl s3 r3 => ?_
  have k := k.shift x3
  cases a with
  | ref l =>
    cases j with
    | int kk =>
      have k : KS X.K μ3 H3 (match st3[l]? with
        | some (.lst xs) => (Kw.ixN xs.length kk).map fun n => (.next, L, st3.set l (.lst (xs.set n p)))
        | _ => none) D := k
      cases es : st3[l]? with
      | none => rw [es] at k; exact k.no.elim
      | some ob =>
        obtain ⟨ps⟩ := ob
        rw [es] at k
        have k : KS X.K μ3 H3 ((Kw.ixN ps.length kk).map fun n => (.next, L, st3.set l (.lst (ps.set n p)))) D := k
        cases en : Kw.ixN ps.length kk with
        | none => rw [en] at k; exact k.no.elim
        | some n =>
          rw [en] at k
          obtain ⟨aa, xs, m, h1, ra⟩ := s3.at es
          obtain ⟨a2, rfl, m2⟩ := r2.mono x3
          rw [m] at m2; cases m2
          obtain rfl : u = .int kk := r3
          have rp := r1.mono (x2.trans x3)
          refine ⟨aa, xs, kk, n, rfl, rfl, h1, by rw [← ra.length]; exact en, ?_⟩
          have x4 := ext_write s3 m (.lst (xs.set n v))
          exact KS.done (k.shift x4) (s3.write m (ra.set n rp)) (hl.mono x4)
    | _ => exact k.no.elim
  | _ => cases j <;> exact k.no.elim
theorem sn_ret {e : E} {x : Expr} {pos : Pos} (h : PE X x (tE X.K call e)) : PS X (.Return (some x) pos) (tS X.K call (.ret e)) := by
  refine PS.imp (ps_ret h) fun D σ H ⟨μ, L, st, hl, hs, k⟩ => ?_
  simp only [ex] at k
  cases e1 : ev call e L st with
  | none => rw [e1] at k; exact k.no.elim
  | some z =>
    obtain ⟨p, st1⟩ := z
    rw [e1] at k
    refine go1 hl hs e1 fun v H1 μ1 x1 hl s1 r1 => ?_
    exact KS.done (k.shift x1) s1 hl v r1
theorem sn_retN {pos : Pos} : PS X (.Return none pos) (tS X.K call .retN) := PS.imp ps_retN fun D σ H ⟨μ, L, st, hl, hs, k⟩ => by simp only [ex] at k; exact KS.done k hs hl .non rfl
theorem sn_expr {e : E} {x : Expr} {pos : Pos} (hc : isComp x = false) (h : PE X x (tE X.K call e)) : PS X (.Expr x pos) (tS X.K call (.expr e)) := by
  refine PS.imp (ps_expr h (swaps_no hc)) fun D σ H ⟨μ, L, st, hl, hs, k⟩ => ?_
  simp only [ex] at k
  cases e1 : ev call e L st with
  | none => rw [e1] at k; exact k.no.elim
  | some z =>
    obtain ⟨p, st1⟩ := z
    rw [e1] at k
    refine go1 hl hs e1 fun v H1 μ1 x1 hl s1 r1 => ?_
    exact KS.done (k.shift x1) s1 hl
theorem sn_pass {pos : Pos} : PS X (.Pass pos) (tS X.K call .pass) := PS.imp ps_pass fun D σ H ⟨μ, L, st, hl, hs, k⟩ => by simp only [ex] at k; exact KS.done k hs hl
theorem sn_brk {pos : Pos} : PS X (.Break pos) (tS X.K call .brk) := PS.imp ps_break fun D σ H ⟨μ, L, st, hl, hs, k⟩ => by simp only [ex] at k; exact KS.done k hs hl
theorem sn_cont {pos : Pos} : PS X (.Continue pos) (tS X.K call .cont) := PS.imp ps_continue fun D σ H ⟨μ, L, st, hl, hs, k⟩ => by simp only [ex] at k; exact KS.done k hs hl
theorem sn_if {c : E} {a b : S} {x : Expr} {xa xb : List Stmt} {pos : Pos} (h : PT X x (tT X.K call c)) (ha : PSs X xa (tS X.K call a)) (hb : PSs X xb (tS X.K call b)) : PS X (.If x xa xb pos) (tS X.K call (.ife c a b)) := by
  refine PS.imp (ps_if h ha hb) fun D σ H ⟨μ, L, st, hl, hs, k⟩ => ?_
  simp only [ex] at k
  obtain ⟨p, st1, e1, k⟩ := k.split
  refine goT hl hs e1 fun H1 μ1 x1 hl s1 => ?_
  have k := k.shift x1
  cases p with
  | true => exact ⟨μ1, L, st1, hl, s1, by simpa using k⟩
  | false => exact ⟨μ1, L, st1, hl, s1, by simpa using k⟩
theorem for_sem {K : PySem.W.Frag} {J : It} {xs0 : List PV} {gs : Gd} {μ0 : List Addr} {H0 : Hp} {st0 : Sto} {σ : L2.St} {L : Loc} {tg : Tg} {b : S} {D : Ends} (hl : RelL K μ0 H0 L σ) (hs : RelS K μ0 H0 st0) (hJ : ItR K J xs0 gs μ0 H0)
    (k : KS K μ0 H0 (forItems tg gs (fun L1 s1 => ex call b L1 s1) xs0 L st0) D) :
    ∃ W : Nat → Nat → L2.St → Hp → Prop, (∃ m, W 0 m σ H0) ∧ ∀ i m σ H, W i m σ H →
      (J.stop i H ∧ D.nx σ H) ∨ (J.go i H ∧ ∃ N : L2.St → Hp → Prop, (∀ σ' H', N σ' H' → ∃ m', m' < m ∧ W (i + 1) m' σ' H') ∧ ∀ x H', J.yld i H x H' → gT K tg x σ H' fun σ2 H2 => tS K call b { D with nx := N, ct := N, bk := D.nx } σ2 H2) := by
  obtain ⟨fE, LE, stE, hE, kE⟩ := k
  refine ⟨fun i m σ H => ∃ μ L st rest, m = rest.length ∧ xs0.drop i = rest ∧ Ext μ0 H0 μ H ∧ RelL K μ H L σ ∧ RelS K μ H st ∧ forItems tg gs (fun L1 s1 => ex call b L1 s1) rest L st = some (fE, LE, stE),
    ⟨xs0.length, μ0, L, st0, xs0, rfl, rfl, Ext.refl _ _, hl, hs, hE⟩, ?_⟩
  rintro i m σ H ⟨μ, L, st, rest, rfl, hd, x, hl, hs, hc⟩
  cases rest with
  | nil =>
    left
    simp only [forItems] at hc
    by_cases ok : okG st gs = true
    · rw [if_pos ok] at hc
      cases hc
      have hi : xs0[i]? = none := List.getElem?_eq_none_iff.mpr (List.drop_eq_nil_iff.mp hd)
      exact ⟨(hJ i μ H _ x hs ok).1 hi, kE H μ σ x hs hl⟩
    · rw [if_neg ok] at hc; cases hc
  | cons p rest =>
    right
    simp only [forItems] at hc
    by_cases ok : okG st gs = true
    · rw [if_pos ok] at hc
      have hi : xs0[i]? = some p := by
        have := congrArg (·[0]?) hd
        simpa using this
      have hd' : xs0.drop (i + 1) = rest := by
        have := congrArg List.tail hd
        simpa [List.tail_drop] using this
      obtain ⟨go, yl⟩ := (hJ i μ H st x hs ok).2 p hi
      cases ea : asgT tg p L st with
      | none => rw [ea] at hc; cases hc
      | some L1 =>
        rw [ea] at hc
        cases eb : ex call b L1 st with
        | none => simp only [Option.bind_some, eb] at hc; cases hc
        | some z =>
          obtain ⟨f2, L2', st2⟩ := z
          simp only [Option.bind_some, eb] at hc
          refine ⟨go, fun σ' H' => (f2 = .next ∨ f2 = .cont) ∧ ∃ μ', Ext μ0 H0 μ' H' ∧ RelL K μ' H' L2' σ' ∧ RelS K μ' H' st2, fun σ' H' ⟨hf, μ', x', l', s'⟩ => ⟨rest.length, Nat.lt_succ_self _, μ', L2', st2, rest, rfl, hd', x', l', s', ?_⟩, fun v H' y => ?_⟩
          · rcases hf with rfl | rfl
            · simpa using hc
            · simpa using hc
          · obtain ⟨x1, s1, r1⟩ := yl v H' y
            have hl1 := hl.mono x1
            obtain ⟨σ2, hg, hl2, _, _⟩ := gT_rel hl1 r1 ea
            refine hg _ ⟨μ, L1, st, hl2, s1, f2, L2', st2, eb, fun H3 μ3 σ3 x3 s3 l3 => ?_⟩
            have xx := x.trans (x1.trans x3)
            cases f2 with
            | next => exact ⟨.inl rfl, μ3, xx, l3, s3⟩
            | cont => exact ⟨.inr rfl, μ3, xx, l3, s3⟩
            | brk =>
              simp at hc
              obtain ⟨rfl, rfl, rfl⟩ := hc
              exact kE H3 μ3 σ3 xx s3 l3
            | ret w =>
              simp at hc
              obtain ⟨rfl, rfl, rfl⟩ := hc
              exact kE H3 μ3 σ3 xx s3 l3
    · rw [if_neg ok] at hc; cases hc
theorem sn_for {tg : Tg} {it : E} {b : S} {tgx itx : Expr} {bx : List Stmt} {pos : Pos} (hc : X.calm = true) (hi : PI X.nox tgx itx (tI X.K call it)) (hg : PG X.nox tgx (gT X.K tg)) (hb : PSs X.nox bx (tS X.K call b)) (hs0 : ∀ x, foldedSetIterable itx X.env x = pure x) :
    PS X.nox (.For tgx itx bx [] pos) (tS X.K call (.for_ tg it b)) := by
  refine PS.imp (ps_for PassesOwn.never hc hi hg hb hs0) fun D σ H ⟨μ, L, st, hl, hs, k⟩ => ?_
  simp only [ex] at k
  obtain ⟨f, L', st', e, q⟩ := k
  cases e1 : evI call it L st with
  | none => rw [e1] at e; cases e
  | some z =>
    obtain ⟨xs, gs, st1⟩ := z
    rw [e1] at e
    refine ⟨μ, L, st, xs, gs, st1, hl, hs, e1, fun J H1 μ1 x1 s1 hJ => ?_⟩
    exact for_sem (hl.mono x1) s1 hJ ⟨f, L', st', e, fun H' μ' σ' y => q H' μ' σ' (x1.trans y)⟩
theorem while_sem {K : PySem.W.Frag} {c : E} {b : S} {D : Ends} {μ0 : List Addr} {H0 : Hp} {st0 : Sto} {L : Loc} {σ : L2.St} (n : Nat) (hl : RelL K μ0 H0 L σ) (hs : RelS K μ0 H0 st0) (k : KS K μ0 H0 (whileN (fun L1 s1 => evT call c L1 s1) (fun L1 s1 => ex call b L1 s1) n L st0) D) :
    tWhile (tT K call c) (tS K call b) D σ H0 := by
  obtain ⟨fE, LE, stE, hE, kE⟩ := k
  refine ⟨fun m σ H => ∃ μ L st, Ext μ0 H0 μ H ∧ RelL K μ H L σ ∧ RelS K μ H st ∧ whileN (fun L1 s1 => evT call c L1 s1) (fun L1 s1 => ex call b L1 s1) m L st = some (fE, LE, stE), ⟨n, μ0, L, st0, Ext.refl _ _, hl, hs, hE⟩, ?_⟩
  rintro m σ H ⟨μ, L, st, x, hl, hs, hc⟩
  cases m with
  | zero => cases hc
  | succ m =>
    simp only [whileN] at hc
    cases e1 : evT call c L st with
    | none => rw [e1] at hc; cases hc
    | some z =>
      obtain ⟨bb, st1⟩ := z
      rw [e1] at hc
      simp only [Option.bind_some] at hc
      refine goT hl hs e1 fun H1 μ1 x1 hl s1 => ?_
      cases bb with
      | false =>
        rw [if_neg Bool.false_ne_true]
        simp at hc
        obtain ⟨rfl, rfl, rfl⟩ := hc
        exact kE H1 μ1 σ (x.trans x1) s1 hl
      | true =>
        rw [if_pos rfl]
        simp only [if_true] at hc
        cases eb : ex call b L st1 with
        | none => rw [eb] at hc; cases hc
        | some z =>
          obtain ⟨f2, L2', st2⟩ := z
          rw [eb] at hc
          simp only [Option.bind_some] at hc
          refine ⟨fun σ' H' => (f2 = .next ∨ f2 = .cont) ∧ ∃ μ', Ext μ0 H0 μ' H' ∧ RelL K μ' H' L2' σ' ∧ RelS K μ' H' st2, fun σ' H' ⟨hf, μ', x', l', s'⟩ => ⟨m, Nat.lt_succ_self _, μ', L2', st2, x', l', s', ?_⟩, ?_⟩
          · rcases hf with rfl | rfl
            · simpa using hc
            · simpa using hc
          · refine ⟨μ1, L, st1, hl, s1, f2, L2', st2, eb, fun H3 μ3 σ3 x3 s3 l3 => ?_⟩
            have xx := x.trans (x1.trans x3)
            cases f2 with
            | next => exact ⟨.inl rfl, μ3, xx, l3, s3⟩
            | cont => exact ⟨.inr rfl, μ3, xx, l3, s3⟩
            | brk =>
              simp at hc
              obtain ⟨rfl, rfl, rfl⟩ := hc
              exact kE H3 μ3 σ3 xx s3 l3
            | ret w =>
              simp at hc
              obtain ⟨rfl, rfl, rfl⟩ := hc
              exact kE H3 μ3 σ3 xx s3 l3
theorem sn_while {c : E} {b : S} {cx : Expr} {bx : List Stmt} {pos : Pos} (hc : PT X.nox cx (tT X.K call c)) (hb : PSs X.nox bx (tS X.K call b)) : PS X.nox (.While cx bx [] pos) (tS X.K call (.whl c b)) := by
  refine PS.imp (ps_while PassesOwn.never hc hb) fun D σ H ⟨μ, L, st, hl, hs, k⟩ => ?_
  simp only [ex] at k
  exact while_sem _ hl hs k
/-- xs.append(e) -/
theorem snd_append {o a : E} {xo xa : Expr} {apos cpos : Pos} (hbase : attributeBase xo "append" X.env (eval xo X.env) = eval xo X.env) (hline : (apos.endLine == cpos.line) = true)
    (hs0 : starEach [xa] X.env = [(false, eval xa X.env)]) (ho : PE X xo (tE X.K call o)) (ha : PE X xa (tE X.K call a)) : PE X (.Call (.Attribute xo "append" apos) [xa] [] cpos) (tE X.K call (.meth .append o a)) := by
  refine PE.imp (pe_bm PySem.F.plainAttrs_list PySem.F.slot_list_append PySem.F.type_list_append mt_append ho (pa_cons ha pa_nil (by rw [hs0]; rfl)) hbase (by rw [hs0]; rfl) hline (by rw [hs0]; rfl) rfl) fun σ H Q ⟨μ, L, st, hl, hs, k⟩ => ?_
  simp only [ev] at k
  obtain ⟨p, st1, e1, k⟩ := k.split
  refine go1 hl hs e1 fun v H1 μ1 x1 hl s1 r1 => ?_
  obtain ⟨q, st2, e2, k⟩ := (k.shift x1).split
  cases p with
  | ref l =>
    obtain ⟨aa, rfl, m1⟩ := id r1
    obtain ⟨xs1, hx1⟩ := s1.lst (List.mem_of_getElem? m1)
    refine ⟨?_, ?_⟩
    · exact .inl ⟨rfl, xs1, SqL.of hx1⟩
    · refine go1 hl s1 e2 fun w H2 μ2 x2 hl s2 r2 => ?_
      have k := k.shift x2
      have k : K1 X.K μ2 H2 (match st2[l]? with
        | some (.lst xs) => if xs.length < big then some (.non, st2.set l (.lst (xs ++ [q]))) else none
        | _ => none) Q := k
      cases es : st2[l]? with
      | none => rw [es] at k; exact k.no.elim
      | some ob =>
        obtain ⟨ps⟩ := ob
        rw [es] at k
        have k : K1 X.K μ2 H2 (if ps.length < big then some (.non, st2.set l (.lst (ps ++ [q]))) else none) Q := k
        by_cases hb : ps.length < big
        · rw [if_pos hb] at k
          obtain ⟨a2, xs, m, h1, ra⟩ := s2.at es
          obtain ⟨a3, ea, m3⟩ := r1.mono x2
          cases ea
          rw [m] at m3; cases m3
          have hbl := big_line
          refine ⟨_, xs, w, rfl, rfl, h1, by rw [← ra.length]; omega, ?_⟩
          have x4 := ext_write s2 m (.lst (xs ++ [w]))
          exact K1.done (k.shift x4) (s2.write m (ra.append (RPs.one r2))) rfl
        · rw [if_neg hb] at k; exact k.no.elim
  | _ => exact k.no.elim
/-- xs.extend(e) -/
theorem snd_extend {o a : E} {xo xa : Expr} {apos cpos : Pos} (hbase : attributeBase xo "extend" X.env (eval xo X.env) = eval xo X.env) (hline : (apos.endLine == cpos.line) = true)
    (hs0 : starEach [xa] X.env = [(false, eval xa X.env)]) (ho : PE X xo (tE X.K call o)) (ha : PE X xa (tE X.K call a)) : PE X (.Call (.Attribute xo "extend" apos) [xa] [] cpos) (tE X.K call (.meth .extend o a)) := by
  have mt : MtR X "list.extend" (fun x xs H Q => rExtend x xs H Q ∨ rExtT X.K x xs H Q) := fun pins s σ H x xs v us Q I rx rv h => h.elim (mt_extend pins s σ H x xs v us Q I rx rv) (mt_extT pins s σ H x xs v us Q I rx rv)
  refine PE.imp (pe_bm PySem.F.plainAttrs_list PySem.F.slot_list_extend PySem.F.type_list_extend mt ho (pa_cons ha pa_nil (by rw [hs0]; rfl)) hbase (by rw [hs0]; rfl) hline (by rw [hs0]; rfl) rfl) fun σ H Q ⟨μ, L, st, hl, hs, k⟩ => ?_
  simp only [ev] at k
  obtain ⟨p, st1, e1, k⟩ := k.split
  refine go1 hl hs e1 fun v H1 μ1 x1 hl s1 r1 => ?_
  obtain ⟨q, st2, e2, k⟩ := (k.shift x1).split
  cases p with
  | ref l =>
    obtain ⟨aa, rfl, m1⟩ := id r1
    obtain ⟨xs1, hx1⟩ := s1.lst (List.mem_of_getElem? m1)
    refine ⟨.inl ⟨rfl, xs1, SqL.of hx1⟩, go1 hl s1 e2 fun w H2 μ2 x2 hl s2 r2 => ?_⟩
    have k := k.shift x2
    have k : K1 X.K μ2 H2 (match st2[l]? with
      | some (.lst xs) => extV st2 l xs q
      | none => none) Q := k
    cases es : st2[l]? with
    | none => rw [es] at k; exact k.no.elim
    | some ob =>
      obtain ⟨ps⟩ := ob
      rw [es] at k
      have k : K1 X.K μ2 H2 (extV st2 l ps q) Q := k
      obtain ⟨a2, xs, m, h1, ra⟩ := s2.at es
      obtain ⟨a3, ea, m3⟩ := r1.mono x2
      cases ea
      rw [m] at m3; cases m3
      have hbl := big_line
      cases q with
      | tup ys =>
        have k : K1 X.K μ2 H2 (if ps.length + ys.length ≤ big then some (.non, st2.set l (.lst (ps ++ ys))) else none) Q := k
        by_cases hb : ps.length + ys.length ≤ big
        · rw [if_pos hb] at k
          obtain ⟨b, zs, rfl, hz, rz⟩ := r2
          have l1 := ra.length
          have l2 := rz.length
          refine .inr ⟨_, b, xs, zs, rfl, rfl, h1, SqT.of hz, by omega, ?_⟩
          have x4 := ext_write s2 m (.lst (xs ++ zs))
          exact K1.done (k.shift x4) (s2.write m (ra.append rz)) rfl
        · rw [if_neg hb] at k; exact k.no.elim
      | ref j =>
        have k : K1 X.K μ2 H2 (match st2[j]? with
          | some (.lst ys) => if ps.length + ys.length ≤ big then some (.non, st2.set l (.lst (ps ++ ys))) else none
          | none => none) Q := k
        cases ej : st2[j]? with
        | none => rw [ej] at k; exact k.no.elim
        | some oj =>
          obtain ⟨ys⟩ := oj
          rw [ej] at k
          have k : K1 X.K μ2 H2 (if ps.length + ys.length ≤ big then some (.non, st2.set l (.lst (ps ++ ys))) else none) Q := k
          by_cases hb : ps.length + ys.length ≤ big
          · rw [if_pos hb] at k
            obtain ⟨b', zs, mj, hz, rz⟩ := s2.at ej
            obtain ⟨b, rfl, mb⟩ := r2
            rw [mj] at mb; cases mb
            have l1 := ra.length
            have l2 := rz.length
            refine .inl ⟨_, b', xs, zs, rfl, rfl, h1, hz, by omega, ?_⟩
            have x4 := ext_write s2 m (.lst (xs ++ zs))
            exact K1.done (k.shift x4) (s2.write m (ra.append rz)) rfl
          · rw [if_neg hb] at k; exact k.no.elim
      | _ => exact k.no.elim
  | _ => exact k.no.elim
end
end Kw
end
section
set_option Elab.async false
set_option linter.all false
set_option maxRecDepth 100000
set_option maxHeartbeats 4000000
namespace Kw
open PySem PySem.Spec PyProof.Rows L2
def tupX : Expr → Bool
  | .Tuple .. => true
  | _ => false
def starX : Expr → Bool
  | .Starred .. => true
  | _ => false
section
variable {X : Cx} {call : Nat → List PV → Sto → R PV}
/-- a, b = e, e no written tuple -/
theorem sn_asgT {is : List Nat} {e : E} {ts : List Expr} {k : Nat} {tp pos : Pos} {x : Expr} (hnt : tupX x = false) (hg : PG X (.Tuple ts k tp) (gT X.K (.tp is))) (he : PE X x (tE X.K call e)) :
    PS X (.Assign [.Tuple ts k tp] x pos) (tS X.K call (.asg (.tp is) e)) :=
  sn_asg_of (fun _ _ _ z => z) (ps_asg he hg (by cases x <;> rfl) (by cases x <;> first | rfl | (cases hnt; done)) rfl)
theorem sw2 {x y : Str} {px py pt pt2 : Pos} {kt k2 : Nat} {a b : Expr} {env : Env} (hk : env.scope.kind = .function) (hx : env.scope.names.lookup x = some .local) (hy : env.scope.names.lookup y = some .local) (hxy : x ≠ y) (hl : (py.line == px.line) = true)
    (sa : starX a = false) (sb : starX b = false) (hf : (foldedForSure 8 a && foldedForSure 8 b) = false) (hc : (constantsAlone 8 a && constantsAlone 8 b) = false) :
    swappedStores [.Tuple [.Name x px, .Name y py] kt pt] (.Tuple [a, b] k2 pt2) env = pure (some [x, y]) := by
  have hb : env.blockKind = .function := by unfold Env.blockKind; rw [hk]; rfl
  have kx : env.kindOf x = some .local := hx
  have ky : env.kindOf y = some .local := hy
  unfold swappedStores
  have hyx : ¬ y = x := fun z => hxy z.symm
  have hs : ([a, b].any fun | .Starred .. => true | _ => false) = false := by
    cases a <;> cases b <;> first | rfl | (cases sa; done) | (cases sb; done)
  have hf' : [a, b].all (foldedForSure 8) = false := by simpa using hf
  have hc' : [a, b].all (constantsAlone 8) = false := by simpa using hc
  have hlx : ((some (Expr.Name x px)).map (·.pos.line)).getD 0 = px.line := rfl
  simp only [List.length_cons, List.length_nil, hb, hs, hf', hc', List.head?_cons, hlx, List.filterMap_cons, List.filterMap_nil, kx, ky, hl, beq_self_eq_true, Bool.and_self, if_true]
  simp [List.eraseDups_cons, hyx, bne, hxy]
  intro h
  exfalso
  rcases h with h | h
  · cases a <;> first | (cases h; done) | (cases sa; done)
  · cases b <;> first | (cases h; done) | (cases sb; done)
/-- a, b = (x, y) by names that are stored from the right -/
theorem sn_par {i j : Nat} {ea eb : E} {x y : Str} {a b : Expr} {px py pt pos pt2 : Pos} {kt k2 : Nat} (hc : X.calm = true) (hN : X.N.Nodup) (hi : X.N[i]? = some x) (hj : X.N[j]? = some y) (hij : i ≠ j) (hx : X.env.scope.names.lookup x = some .local) (hy : X.env.scope.names.lookup y = some .local)
    (ha : PA X [a, b] (tA X.K call (.cons ea (.cons eb .nil)))) (hw : swappedStores [.Tuple [.Name x px, .Name y py] kt pt] (.Tuple [a, b] k2 pt2) X.env = pure (some [x, y])) :
    PS X (.Assign [.Tuple [.Name x px, .Name y py] kt pt] (.Tuple [a, b] k2 pt2) pos) (tS X.K call (.asg (.tp [i, j]) (.tup (.cons ea (.cons eb .nil))))) := by
  refine PS.imp (ps_par hc hN hi hj hij hx hy ha hw) fun D σ H ⟨μ, L, st, hl, hs, k⟩ => ?_
  simp only [ex, ev] at k
  obtain ⟨p, st1, e1, k⟩ := k.split
  cases e2 : evs call (.cons ea (.cons eb .nil)) L st with
  | none => rw [e2] at e1; cases e1
  | some z =>
    obtain ⟨ps, st2⟩ := z
    rw [e2] at e1
    simp only [Option.bind_some] at e1
    by_cases hb : ps.length ≤ big
    · rw [if_pos hb] at e1
      cases e1
      refine goA hl hs e2 fun vs H1 μ1 x1 hl s1 r1 => ?_
      have k := k.shift x1
      have hlen : ps.length = 2 := by
        simp only [evs] at e2
        cases q1 : ev call ea L st with
        | none => rw [q1] at e2; cases e2
        | some z1 =>
          rw [q1] at e2
          simp only [Option.bind_some] at e2
          cases q2 : ev call eb L z1.2 with
          | none => rw [q2] at e2; cases e2
          | some z2 =>
            rw [q2] at e2
            simp only [Option.bind_some] at e2
            cases e2; rfl
      match ps, hlen, r1, k with
      | [p, q], _, r1, k =>
        obtain ⟨v, w, rfl, rv, rw'⟩ := RPs.two_of r1
        exact ⟨v, w, rfl, KS.done k s1 ((hl.set i rv).set j rw')⟩
    · rw [if_neg hb] at e1; cases e1
/-- x = [..]: where the list is stored ahead of the comprehension's end, and where not -/
theorem sw_comp {elt : Expr} {gs : List Comprehension} {scope : Scope} {p px : Pos} {x : Str} {n : Nat} {env : Env} (hk : env.scope.kind = .function) :
    swapsWith (.ListComp elt gs scope p) (some (.Name x px)) n env = pure (decide (env.scope.names.lookup x = some .local) && (px.line == p.line) && !(scope.names.any fun (n, k) => n == x && (k == .local || k == .cell))) := by
  have hb : env.blockKind = .function := by unfold Env.blockKind; rw [hk]; rfl
  have : (env.kindOf x == some .local) = decide (env.scope.names.lookup x = some .local) := by
    rw [Bool.eq_iff_iff]; simp [Env.kindOf]
  unfold swapsWith
  simp only [hb, this]
  rfl
theorem sn_setc {scope : Scope} {own : List Str} {elt tgx it : Expr} {ifx : List Expr} {pos : Pos} {el ite ifs : E} {tg : Tg} {i : Nat} {x : Str} {px spos : Pos} (hc : X.calm = true) (SC : CScope X scope own) (hN : X.N.Nodup) (hx : X.N[i]? = some x) (hlo : X.env.scope.names.lookup x = some .local)
    (htg : tgMin X.N.length tg = true) (hi : PI X.nox tgx it (tI X.K call ite))
    (hblock : ∀ fp C s H, PG (cxC X scope own fp C s H) tgx (gT X.K tg) ∧ PTs (cxC X scope own fp C s H) ifx (tTs X.K call ifs) ∧ PE (cxC X scope own fp C s H) elt (tE X.K call el))
    (hsw : swapsWith (.ListComp elt [⟨tgx, it, ifx, 0⟩] scope pos) (some (.Name x px)) spos.line X.env = pure true)
    (hs0 : ∀ x, foldedSetIterable it X.env x = pure x) : PS X.nox (.Assign [.Name x px] (.ListComp elt [⟨tgx, it, ifx, 0⟩] scope pos) spos) (tS X.K call (.asg (.nm i) (.comp el tg X.N.length own.length ite ifs))) :=
  sn_asg_of (X := X.nox) (fun _ _ _ z => z) (snd_setcomp hc SC hN hx hlo htg hi hblock hsw hs0)
theorem sn_setf {i : Nat} {e : E} {x : Str} {ex : Expr} {px pos : Pos} (hN : X.N.Nodup) (hi : X.N[i]? = some x) (hx : L2.Loc X.env.scope x) (hf : X.fn x = true ∨ X.env.scope.names.lookup x = some .local) (hc : swapsWith ex (some (.Name x px)) pos.line X.env = pure false) (h : PE X ex (tE X.K call e)) :
    PS X (.Assign [.Name x px] ex pos) (tS X.K call (.asg (.nm i) e)) := sn_asg_of (fun _ _ _ z => z) (ps_set hN hi hx h hc hf)
theorem sn_aug {i : Nat} {op : BOp} {e : E} {x : Str} {ex' : Expr} {px pos : Pos} (hop : op = .add ∨ op = .sub) (hN : X.N.Nodup) (hi : X.N[i]? = some x) (hx : L2.Loc X.env.scope x) (hf : X.fn x = true ∨ X.env.scope.names.lookup x = some .local) (h : PE X ex' (tE X.K call e)) :
    PS X (.AugAssign (.Name x px) (bopOf op) ex' pos) (tS X.K call (.aug i op e)) := by
  have fin : ∀ (f : Int → Int → Int), (∀ (L : Loc) (st : Sto), ex call (.aug i op e) L st = match L[i]? with
      | some (some (.int a)) => (ev call e L st).bind fun z => match z.1 with
        | .int b => some (.next, L.set i (some (.int (f a b))), z.2)
        | _ => none
      | _ => none) → ∀ D σ H, tS X.K call (.aug i op e) D σ H → tAug i (tE X.K call e) (ipI f) D σ H := fun f hf D σ H ⟨μ, L, st, hl, hs, k⟩ => by
    rw [hf] at k
    split at k
    · rename_i a ea
      obtain ⟨p, st1, e1, k⟩ := k.split
      obtain ⟨w, h1, h2⟩ := hl.val i _ ea
      obtain rfl : w = .int a := h2
      refine ⟨_, h1, go1 hl hs e1 fun v H1 μ1 x1 hl s1 r1 => ?_⟩
      have k := k.shift x1
      cases p with
      | int b => exact ⟨a, b, rfl, r1, KS.done k s1 (hl.set i (p := .int _) rfl)⟩
      | _ => exact k.no.elim
    · exact k.no.elim
  rcases hop with rfl | rfl
  · refine PS.imp (ps_aug hN hi hx h ip_add hf) (fin _ fun L st => ?_)
    simp only [ex]
    rcases L[i]? with _ | _ | v
    · rfl
    · rfl
    · cases v <;> first | rfl | (dsimp only; cases ev call e L st with | none => rfl | some z => (obtain ⟨z1, z2⟩ := z; cases z1 <;> rfl))
  · refine PS.imp (ps_aug hN hi hx h ip_sub hf) (fin _ fun L st => ?_)
    simp only [ex]
    rcases L[i]? with _ | _ | v
    · rfl
    · rfl
    · cases v <;> first | rfl | (dsimp only; cases ev call e L st with | none => rfl | some z => (obtain ⟨z1, z2⟩ := z; cases z1 <;> rfl))
end
end Kw
end
section
set_option Elab.async false
set_option linter.all false
set_option maxRecDepth 100000
set_option maxHeartbeats 4000000
namespace Kw
open PySem PySem.Spec PyProof.Rows L2
structure CC where
  N : List Str
  sc : List (Str × NameKind)
  fns : List Str
  fnAll : Bool
def isStar : Expr → Bool | .Starred .. => true | _ => false
def isSet : Expr → Bool | .Set .. => true | _ => false
def isSlice : Expr → Bool | .Slice .. => true | _ => false
def isTup : Expr → Bool | .Tuple .. => true | _ => false
def isName : Expr → Bool | .Name .. => true | _ => false
def CC.vis (C : CC) (x : Str) : Bool := match C.sc.lookup x with | some .local => true | some .cell => true | some .free => true | _ => false
def CC.gl (C : CC) (x : Str) : Bool := decide (C.sc.lookup x = some .globalImplicit)
def CC.loc (C : CC) (x : Str) : Bool := match C.sc.lookup x with | some .local => true | some .cell => C.fnAll | _ => false
def ownOf : Expr → List Str
  | .Name x _ => [x]
  | .Tuple es _ _ => es.map fun e => match e with | .Name x _ => x | _ => ""
  | _ => []
def relN (outer : List (Str × NameKind)) (names : List (Str × NameKind)) : List (Str × NameKind) :=
  names.map fun (n, k) => if (k == NameKind.free && outer.lookup n == some .cell) then (n, NameKind.cell) else (n, k)
def CC.sub (C : CC) (scope : Scope) (own : List Str) : CC := ⟨C.N ++ own, relN C.sc scope.names, C.fns, false⟩
def CC.scOk (C : CC) (scope : Scope) (own : List Str) : Bool :=
  decide (scope.kind = .function) && scope.names.all (fun p => decide (p.2 ≠ .cell)) && scope.names.all (fun p => decide (p.2 = .local → scope.names.lookup p.1 = some .local)) &&
  scope.names.all (fun p => decide (p.2 = .free → (C.sc.lookup p.1 = some .cell ∨ C.sc.lookup p.1 = some .free))) && C.N.all (fun x => decide (scope.names.lookup x ≠ some .local)) && decide ((C.N ++ own).Nodup)
def chkNs (C : CC) : List Nat → List Expr → Bool
  | [], [] => true
  | i :: is, .Name x _ :: es => decide (C.N[i]? = some x) && C.loc x && chkNs C is es
  | _, _ => false
def chkTg (C : CC) : Tg → Expr → Bool
  | .nm i, .Name x _ => decide (C.N[i]? = some x) && C.loc x
  | .tp is, .Tuple es _ _ => chkNs C is es
  | _, _ => false
def chkV (C : CC) (i : Nat) (x : Str) : Bool := decide (C.N[i]? = some x) && C.vis x && !(x == ("__debug__" : Str)) && !(x == ("__classdict__" : Str))
/-! ### views of a text's parts -/
def vName : Expr → Option (Str × Pos) | .Name x p => some (x, p) | _ => none
def vConst : Expr → Option (Const × Nat × Pos) | .Constant c k p => some (c, k, p) | _ => none
def vBin : Expr → Option (Expr × Operator × Expr × Pos) | .BinOp l o r p => some (l, o, r, p) | _ => none
def vCmp : Expr → Option (Expr × List CmpOp × List Expr × Pos) | .Compare l o r p => some (l, o, r, p) | _ => none
def vBool : Expr → Option (BoolOp × List Expr × Pos) | .BoolOp o xs p => some (o, xs, p) | _ => none
def vUn : Expr → Option (UnaryOp × Expr × Pos) | .UnaryOp o x p => some (o, x, p) | _ => none
def vIf : Expr → Option (Expr × Expr × Expr × Pos) | .IfExp x y z p => some (x, y, z, p) | _ => none
def vTup : Expr → Option (List Expr × Nat × Pos) | .Tuple xs k p => some (xs, k, p) | _ => none
def vLst : Expr → Option (List Expr × Pos) | .List xs p => some (xs, p) | _ => none
def vSub : Expr → Option (Expr × Expr × Pos) | .Subscript x y p => some (x, y, p) | _ => none
def vSlice : Expr → Option (Option Expr × Option Expr × Option Expr × Pos) | .Slice l h k p => some (l, h, k, p) | _ => none
def vCall : Expr → Option (Expr × List Expr × List Keyword × Pos) | .Call f es ks p => some (f, es, ks, p) | _ => none
def vAttr : Expr → Option (Expr × Str × Pos) | .Attribute x m p => some (x, m, p) | _ => none
def vComp : Expr → Option (Expr × List Comprehension × Scope × Pos) | .ListComp e gs s p => some (e, gs, s, p) | _ => none
section
variable {x : Expr}
theorem vName_eq {a b} (h : vName x = some (a, b)) : x = .Name a b := by cases x <;> cases h; rfl
theorem vConst_eq {a b c} (h : vConst x = some (a, b, c)) : x = .Constant a b c := by cases x <;> cases h; rfl
theorem vBin_eq {a b c d} (h : vBin x = some (a, b, c, d)) : x = .BinOp a b c d := by cases x <;> cases h; rfl
theorem vCmp_eq {a b c d} (h : vCmp x = some (a, b, c, d)) : x = .Compare a b c d := by cases x <;> cases h; rfl
theorem vBool_eq {a b c} (h : vBool x = some (a, b, c)) : x = .BoolOp a b c := by cases x <;> cases h; rfl
theorem vUn_eq {a b c} (h : vUn x = some (a, b, c)) : x = .UnaryOp a b c := by cases x <;> cases h; rfl
theorem vIf_eq {a b c d} (h : vIf x = some (a, b, c, d)) : x = .IfExp a b c d := by cases x <;> cases h; rfl
theorem vTup_eq {a b c} (h : vTup x = some (a, b, c)) : x = .Tuple a b c := by cases x <;> cases h; rfl
theorem vLst_eq {a b} (h : vLst x = some (a, b)) : x = .List a b := by cases x <;> cases h; rfl
theorem vSub_eq {a b c} (h : vSub x = some (a, b, c)) : x = .Subscript a b c := by cases x <;> cases h; rfl
theorem vSlice_eq {a b c d} (h : vSlice x = some (a, b, c, d)) : x = .Slice a b c d := by cases x <;> cases h; rfl
theorem vCall_eq {a b c d} (h : vCall x = some (a, b, c, d)) : x = .Call a b c d := by cases x <;> cases h; rfl
theorem vAttr_eq {a b c} (h : vAttr x = some (a, b, c)) : x = .Attribute a b c := by cases x <;> cases h; rfl
theorem vComp_eq {a b c d} (h : vComp x = some (a, b, c, d)) : x = .ListComp a b c d := by cases x <;> cases h; rfl
end
/-- what is behind the first part of a chain of tests -/
def bRest (op : BoolOp) (y : Expr) (r : List Expr) (p : Pos) : Expr := match r with
  | [] => y
  | z :: r => .BoolOp op (y :: z :: r) p
/-- the end of a cut -/
def chkIfO (f : Expr → Bool) (no : Bool) : Option Expr → Bool
  | none => no
  | some x => !no && f x
def isKw : E → Expr → Bool
  | .non, x => (match vConst x with | some (.none, _, _) => true | _ => false)
  | _, _ => false
def chkTyN (C : CC) (t : Ty) (x : Expr) : Bool := match vName x with
  | some (y, _) => decide (y = Str.ofString (tyName t)) && C.gl y
  | none => false
def chkTys (C : CC) : List Ty → Expr → Bool
  | [t], x => chkTyN C t x
  | [t, t'], x => (match vTup x with
    | some ([y, z], _, _) => chkTyN C t y && chkTyN C t' z
    | _ => false)
  | _, _ => false
def isTwo : E → Bool
  | .tup (.cons _ (.cons _ .nil)) => true
  | _ => false
def partsOf : E → E
  | .tup es => es
  | e => e
def isCompE : E → Bool
  | .comp .. => true
  | _ => false
def isIt : E → Bool
  | .rng _ => true | .rng2 _ _ => true | .zip _ _ => true | .enum _ => true | .revr _ => true | .rev _ => true
  | _ => false
def mfName : MF → String | .append => "append" | .extend => "extend"
def fnNm (C : CC) (s : String) (x : Expr) : Bool := match vName x with
  | some (y, _) => decide (y = Str.ofString s) && C.gl y
  | none => false
mutual
def chkE (C : CC) : E → Expr → Bool
  | .var i, x => (match vName x with | some (n, _) => chkV C i n | none => false)
  | .int i, x => (match vConst x with | some (.int j, _, _) => decide (i = j) | _ => false)
  | .bl i, x => (match vConst x with | some (.bool j, _, _) => decide (i = j) | _ => false)
  | .non, x => (match vConst x with | some (.none, _, _) => true | _ => false)
  | .str i, x => (match vConst x with | some (.str j, _, _) => decide (Str.ofString i = j) | _ => false)
  | .bin op a b, x => (match vBin x with | some (l, o, r, _) => decide (bopOf op = o) && (chkE C a l && chkE C b r) | none => false)
  | .cmp op a b, x => (match vCmp x with | some (l, [o], [r], _) => decide (copOf op = o) && (!isSet r && (chkE C a l && chkE C b r)) | _ => false)
  | .is k a c, x => (match vCmp x with | some (l, [o], [r], _) => decide ((if k then .IsNot else .Is) = o) && (isKw c r && chkE C a l) | _ => false)
  | .chain o p a b c, x => (match vCmp x with | some (l, [o', p'], [r, q], _) => decide (copOf o = o') && (decide (copOf p = p') && (!isSet r && (!isSet q && (chkE C a l && (chkE C b r && chkE C c q))))) | _ => false)
  | .sl a lo hi, x => (match vSub x with | some (u, v, _) => (match vSlice v with | some (l, h, k, _) => k.isNone && (chkE C a u && (chkIfO (fun y => chkE C lo y) (isNo lo) l && chkIfO (fun y => chkE C hi y) (isNo hi) h)) | none => false) | none => false)
  | .and a b, x => (match vBool x with | some (o, u :: v :: r, p) => decide (.And = o) && (chkE C a u && chkE C b (bRest .And v r p)) | _ => false)
  | .or a b, x => (match vBool x with | some (o, u :: v :: r, p) => decide (.Or = o) && (chkE C a u && chkE C b (bRest .Or v r p)) | _ => false)
  | .not a, x => (match vUn x with | some (o, y, _) => decide (.Not = o) && chkE C a y | none => false)
  | .neg a, x => (match vUn x with | some (o, y, _) => decide (.USub = o) && chkE C a y | none => false)
  | .ite c a b, x => (match vIf x with | some (u, v, w, _) => chkE C c u && (chkE C a v && chkE C b w) | none => false)
  | .tup es, x => (match vTup x with | some (xs, _, _) => chkL C es xs | none => false)
  | .lst es, x => (match vLst x with | some (xs, _) => chkL C es xs | none => false)
  | .ix a i, x => (match vSub x with | some (u, v, _) => !isSlice v && (chkE C a u && chkE C i v) | none => false)
  | .call f as, x => (match vCall x with | some (fx, e :: es, [], _) => (match vName fx with | some (y, _) => decide (C.fns[f]? = some y) && (C.gl y && (!(y == ("__debug__" : Str)) && chkL C as (e :: es))) | none => false) | _ => false)
  | .blt f as, x => (match vCall x with | some (fx, e :: es, [], _) => fnNm C (bfName f) fx && chkL C as (e :: es) | _ => false)
  | .isi a ts, x => (match vCall x with | some (fx, [e, t], [], _) => fnNm C "isinstance" fx && (chkTys C ts t && (!isStar e && chkE C a e)) | _ => false)
  | .meth f o a, x => (match vCall x with | some (fx, [e], [], q) => (match vAttr fx with | some (y, m, p) => decide (m = Str.ofString (mfName f)) && (isName y && ((p.endLine == q.line) && (!isStar e && (chkE C o y && chkE C a e)))) | none => false) | _ => false)
  | .comp el tg n m it ifs, x => (match vComp x with | some (elt, [⟨tgx, itx, ifx, asy⟩], scope, _) => decide (asy = 0) && (decide (n = C.N.length) && (decide (m = (ownOf tgx).length) && (C.scOk scope (ownOf tgx) && (tgMin n tg && (chkTg (C.sub scope (ownOf tgx)) tg tgx &&
      ((if isIt it then chkI C it itx tgx else (!isSet itx && chkE C it itx)) && (chkTs (C.sub scope (ownOf tgx)) ifs ifx && chkE (C.sub scope (ownOf tgx)) el elt))))))) | _ => false)
  | _, _ => false
def chkL (C : CC) : E → List Expr → Bool
  | .nil, xs => xs.isEmpty
  | .cons e es, xs => (match xs with | x :: xs => !isStar x && (chkE C e x && chkL C es xs) | [] => false)
  | _, _ => false
def chkTs (C : CC) : E → List Expr → Bool
  | .nil, xs => xs.isEmpty
  | .cons e es, xs => (match xs with | x :: xs => chkE C e x && chkTs C es xs | [] => false)
  | _, _ => false
def chkI (C : CC) : E → Expr → Expr → Bool
  | .rng a, x, _ => (match vCall x with | some (fx, [y], [], _) => fnNm C "range" fx && (!isStar y && chkE C a y) | _ => false)
  | .rng2 a b, x, _ => (match vCall x with | some (fx, [y, z], [], _) => fnNm C "range" fx && (!isStar y && (!isStar z && (chkE C a y && chkE C b z))) | _ => false)
  | .enum a, x, t => (match vCall x with | some (fx, [y], [], _) => isTup t && (fnNm C "enumerate" fx && (!isStar y && chkE C a y)) | _ => false)
  | .zip a b, x, t => (match vCall x with | some (fx, [y, z], [], _) => isTup t && (fnNm C "zip" fx && (!isStar y && (!isStar z && (chkE C a y && chkE C b z)))) | _ => false)
  | _, _, _ => false
end
def chkIt (C : CC) (it : E) (x t : Expr) : Bool := if isIt it then chkI C it x t else (!isSet x && chkE C it x)
/-- two names that are stored from the right -/
def swapOk (C : CC) (is : List Nat) (ts : List Expr) (vs : List Expr) : Bool := match is, ts, vs with
  | [i, j], [tx, ty], [a, b] => (match vName tx, vName ty with
    | some (x, px), some (y, py) => decide (C.N[i]? = some x) && (decide (C.N[j]? = some y) && (decide (i ≠ j) && (decide (x ≠ y) && (decide (C.sc.lookup x = some .local) && (decide (C.sc.lookup y = some .local) && ((py.line == px.line) && (!isStar a && (!isStar b && (!(foldedForSure 8 a && foldedForSure 8 b) && !(constantsAlone 8 a && constantsAlone 8 b))))))))))
    | _, _ => false)
  | _, _, _ => false
/-- whether x = [..] stores ahead of the comprehension's end -/
def swC (C : CC) (x : Str) (px : Pos) (scope : Scope) (p : Pos) : Bool := decide (C.sc.lookup x = some .local) && (px.line == p.line) && !(scope.names.any fun (n, k) => n == x && (k == .local || k == .cell))
def chkS (C : CC) : S → Stmt → Bool
  | .asg (.nm i) e, .Assign [t] y _ => (match vName t with
    | some (x, px) => decide (C.N[i]? = some x) && (C.loc x && (match vComp y with
      | some (_, _, scope, p) => chkE C e y && (!(swC C x px scope p) || isCompE e)
      | none => !isComp y && chkE C e y))
    | none => false)
  | .asg (.tp is) e, .Assign [t] y _ => (match vTup t with
    | some (ts, _, _) => (match vTup y with
      | some (vs, _, _) => swapOk C is ts vs && (isTwo e && chkL C (partsOf e) vs)
      | none => chkTg C (.tp is) t && chkE C e y)
    | none => false)
  | .aug i op e, .AugAssign t o y _ => (match vName t with | some (x, _) => decide (C.N[i]? = some x) && (C.loc x && (decide (bopOf op = o) && ((decide (op = .add) || decide (op = .sub)) && chkE C e y))) | none => false)
  | .setix o i e, .Assign [t] z _ => (match vSub t with | some (x, y, _) => !isComp z && (!isSlice y && (chkE C o x && (chkE C i y && chkE C e z))) | none => false)
  | .ret e, .Return (some x) _ => chkE C e x
  | .retN, .Return none _ => true
  | .expr e, .Expr x _ => !isComp x && chkE C e x
  | .pass, .Pass _ => true
  | .brk, .Break _ => true
  | .cont, .Continue _ => true
  | _, _ => false
def vIfS : Stmt → Option (Expr × List Stmt × List Stmt × Pos) | .If x a b p => some (x, a, b, p) | _ => none
def vWhl : Stmt → Option (Expr × List Stmt × List Stmt × Pos) | .While x a b p => some (x, a, b, p) | _ => none
def vFor : Stmt → Option (Expr × Expr × List Stmt × List Stmt × Pos) | .For t x a b p => some (t, x, a, b, p) | _ => none
theorem vIfS_eq {x : Stmt} {a b c d} (h : vIfS x = some (a, b, c, d)) : x = .If a b c d := by cases x <;> cases h; rfl
theorem vWhl_eq {x : Stmt} {a b c d} (h : vWhl x = some (a, b, c, d)) : x = .While a b c d := by cases x <;> cases h; rfl
theorem vFor_eq {x : Stmt} {a b c d e} (h : vFor x = some (a, b, c, d, e)) : x = .For a b c d e := by cases x <;> cases h; rfl
mutual
/-- one statement -/
def chkS1 (C : CC) : S → Stmt → Bool
  | .ife c a b, x => (match vIfS x with | some (t, xa, xb, _) => chkE C c t && (chkB C a xa && chkB C b xb) | none => false)
  | .whl c b, x => (match vWhl x with | some (t, xb, [], _) => chkE C c t && chkB C b xb | _ => false)
  | .for_ tg it b, x => (match vFor x with | some (t, y, xb, [], _) => chkIt C it y t && (chkTg C tg t && chkB C b xb) | _ => false)
  | .nil, _ => false
  | .cons _ _, _ => false
  | .asg t e, x => chkS C (.asg t e) x
  | .setix o i e, x => chkS C (.setix o i e) x
  | .aug i o e, x => chkS C (.aug i o e) x
  | .ret e, x => chkS C (.ret e) x
  | .retN, x => chkS C .retN x
  | .expr e, x => chkS C (.expr e) x
  | .pass, x => chkS C .pass x
  | .brk, x => chkS C .brk x
  | .cont, x => chkS C .cont x
def chkB (C : CC) : S → List Stmt → Bool
  | .nil, xs => xs.isEmpty
  | .cons s r, xs => (match xs with | x :: xs => chkS1 C s x && chkB C r xs | [] => false)
  | _, _ => false
end
def bltNames : List String := ["len", "abs", "int", "sum", "all", "any", "min", "max", "tuple", "list", "isinstance", "range", "zip", "bool", "str", "enumerate"]
structure Good (X : Cx) (C : CC) (call : Nat → List PV → Sto → R PV) (n : Nat) : Prop where
  N : X.N = C.N
  sc : X.env.scope.names = C.sc
  kind : X.env.scope.kind = .function
  nd : C.N.Nodup
  calm : X.calm = true
  fn : C.fnAll = true → ∀ x, X.fn x = true
  room : Room n X.A
  fns : ∀ (f : Nat) (x : Str), C.fns[f]? = some x → ∃ fa fd ps, X.mg x = some (.ref fa) ∧ PySem.W.keepIn X.K (.ref fa) = true ∧ Binds X.K fd ps [] ∧ FnOk X.prog X.w X.K X.mg X.base CX0 n fa fd ps (spF X.K call f)
  blt : ∀ b ∈ bltNames, X.mg (Str.ofString b) = none
section
variable {X : Cx} {C : CC} {call : Nat → List PV → Sto → R PV} {n : Nat}
theorem star_ok {x : Expr} {xs : List Expr} {env : Env} (h : isStar x = false) : starEach (x :: xs) env = (false, eval x env) :: starEach xs env := by
  cases x <;> first | rfl | (cases h; done)
theorem nof {P : Prop} (h : false = true) : P := Bool.noConfusion h
theorem b2 {a b : Bool} (h : (a && b) = true) : a = true ∧ b = true := by simpa using h
theorem nb {a : Bool} (h : (!a) = true) : a = false := by simpa using h
theorem de {p : Prop} [Decidable p] (h : decide p = true) : p := by simpa using h
theorem star_any : ∀ (xs : List Expr) {as : E} {env : Env} {pos : Pos}, chkL C as xs = true → (backTo pos (starEach xs env)).any (·.1) = false
  | [], _, _, _, _ => rfl
  | x :: xs, as, env, pos, h => by
    cases as with
    | cons e es =>
      have h := b2 h
      rw [star_ok (nb h.1)]
      show (false || (backTo pos (starEach xs env)).any (·.1)) = false
      rw [star_any xs (b2 h.2).2]; rfl
    | _ => exact nof h
theorem plain_ix {y : Expr} (h : isSlice y = false) : PlainIx y := by
  intro o i
  cases y <;> first | rfl | (cases h; done)
theorem set_ok {x : Expr} {env : Env} (h : isSet x = false) : ∀ v, foldedSetIterable x env v = pure v := by
  intro v
  cases x <;> first | rfl | (cases h; done)
theorem marks_ok {x : Expr} {op : CmpOp} (h : isSet x = false) : behindInMarks op x = false := by
  cases x <;> first | rfl | (cases h; done)
theorem Good.vis (G : Good X C call n) {x : Str} (h : C.vis x = true) : Vis X.env.scope x := by
  unfold CC.vis at h
  unfold Vis
  rw [G.sc]
  split at h
  · rename_i e; exact .inl e
  · rename_i e; exact .inr (.inl e)
  · rename_i e; exact .inr (.inr e)
  · cases h
theorem Good.gl (G : Good X C call n) {x : Str} (h : C.gl x = true) : Gl X x := by
  have : C.sc.lookup x = some .globalImplicit := by simpa [CC.gl] using h
  show X.env.scope.names.lookup x = _
  rw [G.sc]; exact this
theorem Good.loc (G : Good X C call n) {x : Str} (h : C.loc x = true) : L2.Loc X.env.scope x ∧ (X.fn x = true ∨ X.env.scope.names.lookup x = some .local) := by
  unfold CC.loc at h
  unfold L2.Loc
  rw [G.sc]
  split at h
  · rename_i e; exact ⟨.inl e, .inr e⟩
  · rename_i e; exact ⟨.inr e, .inl (G.fn h x)⟩
  · cases h
theorem pw_of {op : BoolOp} {vs : List Expr} {p : Pos} {t : TT} (h : PT X (.BoolOp op vs p) t) : PW X (.BoolOp op vs p) t := fun w pins s σ H Q I q => h pins s σ H Q I q
theorem chk_ns (G : Good X C call n) : ∀ {is : List Nat} {es : List Expr}, chkNs C is es = true → PGs X.nox es (gTs is) ∧ (assignEach es X.env).length = is.length ∧ (assignEach es X.env).findIdx? (·.1) = none
  | [], [], _ => ⟨pgs_nil, rfl, rfl⟩
  | i :: is, .Name x p :: es, h => by
    simp only [chkNs, Bool.and_eq_true, decide_eq_true_eq] at h
    obtain ⟨h1, h2, h3⟩ := chk_ns G h.2
    obtain ⟨l1, l2⟩ := G.loc h.1.2
    refine ⟨pgs_cons (pg_name (by show X.N.Nodup; rw [G.N]; exact G.nd) (by show X.N[i]? = _; rw [G.N]; exact h.1.1) l1 l2) h1 rfl, ?_, ?_⟩
    · show (assignEach es X.env).length + 1 = is.length + 1
      rw [h2]
    · show ((false, assign (.Name x p) X.env) :: assignEach es X.env).findIdx? (·.1) = none
      rw [List.findIdx?_cons]
      simp [h3]
  | [], _ :: _, h => by simp [chkNs] at h
  | i :: is, [], h => by simp [chkNs] at h
theorem chk_tg (G : Good X C call n) : ∀ {tg : Tg} {t : Expr}, chkTg C tg t = true → PG X.nox t (gT X.K tg)
  | .nm i, .Name x p, h => by
    simp only [chkTg, Bool.and_eq_true, decide_eq_true_eq] at h
    obtain ⟨l1, l2⟩ := G.loc h.2
    exact pg_name (by show X.N.Nodup; rw [G.N]; exact G.nd) (by show X.N[i]? = _; rw [G.N]; exact h.1) l1 l2
  | .tp is, .Tuple es k p, h => by
    obtain ⟨h1, h2, h3⟩ := chk_ns G (show chkNs C is es = true from h)
    exact pg_tup (X := X.nox) G.calm h1 h2 h3
theorem Good.sub (G : Good X C call n) {scope : Scope} {own : List Str} (h : C.scOk scope own = true) : CScope X scope own ∧ ∀ fp D s H, Good (cxC X scope own fp D s H) (C.sub scope own) call n := by
  simp only [CC.scOk, Bool.and_eq_true, decide_eq_true_eq, List.all_eq_true] at h
  obtain ⟨⟨⟨⟨⟨h1, h2⟩, h3⟩, h4⟩, h5⟩, h6⟩ := h
  refine ⟨⟨h1, fun p hp => by simpa using h2 p hp, fun p hp => by simpa using h3 p hp, fun p hp hk => ?_, fun x hx => ?_⟩, fun fp D s H => ⟨?_, ?_, h1, h6, G.calm, (fun z => Bool.noConfusion z), G.room, G.fns, G.blt⟩⟩
  · have := h4 p hp
    show X.env.scope.names.lookup p.1 = _ ∨ X.env.scope.names.lookup p.1 = _
    rw [G.sc]; exact this hk
  · have := h5 x (by rw [← G.N]; exact hx)
    exact this
  · show X.N ++ own = C.N ++ own
    rw [G.N]
  · show (relabel scope X.env).names = relN C.sc scope.names
    unfold relabel relN
    simp only
    refine List.map_congr_left fun p hp => ?_
    obtain ⟨nm, kd⟩ := p
    show (if (kd == NameKind.free && X.env.scope.kind == .function && X.env.scope.names.lookup nm == some .cell) = true then (nm, NameKind.cell) else (nm, kd)) = _
    rw [G.kind, G.sc]
    simp

theorem snd_isNT {k : Bool} {a : E} {l : Expr} {j pos pos'} (ha : PE X l (tE X.K call a)) : PT X (.Compare l [if k then .IsNot else .Is] [.Constant .none j pos'] pos) (tT X.K call (.is k a .non)) := by
  have rp : ∀ {μ : List Addr} {H : Hp} {p : PV} {v : V}, RP X.K μ H p v → decide (v = .non) = decide (p = .non) := fun {μ H p v} r => by
    cases p <;> first
      | (cases (show v = _ from r); simp)
      | (obtain ⟨a, _, rfl, _⟩ := r; simp)
      | (obtain ⟨a, rfl, _⟩ := r; simp)
  have go : ∀ σ H Q, tT X.K call (.is k a .non) σ H Q → tE X.K call a σ H fun v H1 => Q (k != decide (v = .non)) H1 := fun σ H Q ⟨μ, L, st, hl, hs, kk⟩ => by
    rw [evT_plain rfl] at kk
    simp only [ev] at kk
    obtain ⟨z, stz, e0, kk⟩ := kk.split
    cases e1 : ev call a L st with
    | none => rw [e1] at e0; cases e0
    | some w =>
      obtain ⟨p, st1⟩ := w
      rw [e1] at e0
      simp only [Option.bind_some] at e0
      cases e0
      refine go1 hl hs e1 fun v H1 μ1 x1 hl s1 r1 => ?_
      rw [rp r1]
      obtain ⟨_, _, e2, q⟩ := kk.shift x1
      cases e2
      exact q _ H1 μ1 (Ext.refl _ _) s1 rfl
  cases k with
  | true => exact PT.imp (pt_cmp (pc_notN ha)) fun σ H Q h => (by
      obtain ⟨μ, L, st, hl, hs, r, st', e, q⟩ := go σ H Q h
      exact ⟨μ, L, st, hl, hs, r, st', e, fun v H' μ' x s' r' => ⟨_, rfl, by simpa using q v H' μ' x s' r'⟩⟩)
  | false => exact PT.imp (pt_cmp (pc_isN ha)) fun σ H Q h => (by
      obtain ⟨μ, L, st, hl, hs, r, st', e, q⟩ := go σ H Q h
      exact ⟨μ, L, st, hl, hs, r, st', e, fun v H' μ' x s' r' => ⟨_, rfl, by simpa using q v H' μ' x s' r'⟩⟩)
theorem pt_ite {c a b : Expr} {pos : Pos} {tc ta tb : TT} (hc : PT X c tc) (ha : PT X a ta) (hb : PT X b tb) : PT X (.IfExp c a b pos) (fun σ H Q => tc σ H fun r H1 => if r = true then ta σ H1 Q else tb σ H1 Q) := by
  intro pins s σ H Q I h
  show wpAny _ _ (isTrue c X.env (eval c X.env) >>= fun r => if r = true then isTrue a X.env (eval a X.env) else isTrue b X.env (eval b X.env)) _ _ s
  refine wpAny_bind (thn (hc pins s σ H _ I h) fun r s1 ⟨H1, I1, q1⟩ => ?_)
  cases r with
  | true => exact ha pins s1 σ H1 Q I1 (by simpa using q1)
  | false => exact hb pins s1 σ H1 Q I1 (by simpa using q1)
theorem snd_iteT {c a b : E} {x y z : Expr} {pos : Pos} (hc : PT X x (tT X.K call c)) (ha : PT X y (tT X.K call a)) (hb : PT X z (tT X.K call b)) : PT X (.IfExp x y z pos) (tT X.K call (.ite c a b)) := by
  refine PT.imp (pt_ite hc ha hb) fun σ H Q ⟨μ, L, st, hl, hs, k⟩ => ?_
  simp only [evT] at k
  obtain ⟨p, st1, e1, k⟩ := k.split
  refine goT hl hs e1 fun H1 μ1 x1 hl s1 => ?_
  have k := k.shift x1
  cases p with
  | true => exact ⟨μ1, L, st1, hl, s1, by simpa using k⟩
  | false => exact ⟨μ1, L, st1, hl, s1, by simpa using k⟩
end
end Kw
end
section
set_option Elab.async false
set_option linter.all false
set_option maxRecDepth 100000
set_option maxHeartbeats 4000000
namespace Kw
open PySem PySem.Spec PyProof.Rows L2
/-- a part of a text that is the small one: as a value, as a test -/
def OkE (X : Cx) (C : CC) (call : Nat → List PV → Sto → R PV) (e : E) : Prop := ∀ x, chkE C e x = true → PE X.nox x (tE X.K call e)
def OkT (X : Cx) (C : CC) (call : Nat → List PV → Sto → R PV) (e : E) : Prop := ∀ x, chkE C e x = true → PT X.nox x (tT X.K call e)
def OkL (X : Cx) (C : CC) (call : Nat → List PV → Sto → R PV) (e : E) : Prop := ∀ xs, chkL C e xs = true → PA X.nox xs (tA X.K call e)
def OkTs (X : Cx) (C : CC) (call : Nat → List PV → Sto → R PV) (e : E) : Prop := ∀ xs, chkTs C e xs = true → PTs X.nox xs (tTs X.K call e)
def OkI (X : Cx) (C : CC) (call : Nat → List PV → Sto → R PV) (e : E) : Prop := ∀ x t, chkI C e x t = true → PI X.nox t x (tI X.K call e) ∧ ∀ v, foldedSetIterable x X.env v = pure v
structure Ok (call : Nat → List PV → Sto → R PV) (n : Nat) (a : E) : Prop where
  e : ∀ {X : Cx} {C : CC}, Good X C call n → OkE X C call a
  t : ∀ {X : Cx} {C : CC}, Good X C call n → OkT X C call a
  l : ∀ {X : Cx} {C : CC}, Good X C call n → OkL X C call a
  ts : ∀ {X : Cx} {C : CC}, Good X C call n → OkTs X C call a
  i : ∀ {X : Cx} {C : CC}, Good X C call n → OkI X C call a
section
variable {X : Cx} {C : CC} {call : Nat → List PV → Sto → R PV} {n : Nat}
theorem fn_nm (G : Good X C call n) {s : String} {x : Expr} (h : fnNm C s x = true) : ∃ p, x = .Name (Str.ofString s) p ∧ Gl X (Str.ofString s) := by
  unfold fnNm at h
  split at h
  · rename_i y p e
    have h := b2 h
    have e1 := de h.1
    subst e1
    exact ⟨p, vName_eq e, G.gl h.2⟩
  · cases h
theorem kE_var (G : Good X C call n) {i : Nat} : OkE X C call (.var i) := by
  intro x h
  have h : (match vName x with | some (n, _) => chkV C i n | none => false) = true := h
  split at h
  · rename_i y p e
    rw [vName_eq e]
    have h := b2 h; have h1 := b2 h.1; have h2 := b2 h1.1
    exact snd_var (X := X.nox) (by show X.N[i]? = _; rw [G.N]; exact de h2.1) (G.vis h2.2) (nb h1.2) (nb h.2)
  · cases h
theorem kE_int {i : Int} : OkE X C call (.int i) := by
  intro x h
  have h : (match vConst x with | some (.int j, _, _) => decide (i = j) | _ => false) = true := h
  split at h
  · rename_i j _ _ e
    rw [vConst_eq e, ← de h]; exact snd_int (X := X.nox)
  · cases h
theorem kE_bl {i : Bool} : OkE X C call (.bl i) := by
  intro x h
  have h : (match vConst x with | some (.bool j, _, _) => decide (i = j) | _ => false) = true := h
  split at h
  · rename_i j _ _ e
    rw [vConst_eq e, ← de h]; exact snd_bl (X := X.nox)
  · cases h
theorem kE_non : OkE X C call .non := by
  intro x h
  have h : (match vConst x with | some (.none, _, _) => true | _ => false) = true := h
  split at h
  · rename_i e
    rw [vConst_eq e]; exact snd_non (X := X.nox)
  · cases h
theorem kE_str {i : String} : OkE X C call (.str i) := by
  intro x h
  have h : (match vConst x with | some (.str j, _, _) => decide (Str.ofString i = j) | _ => false) = true := h
  split at h
  · rename_i j _ _ e
    rw [vConst_eq e, ← de h]; exact snd_str (X := X.nox)
  · cases h
theorem kE_bin {op : BOp} {a b : E} (ha : OkE X C call a) (hb : OkE X C call b) : OkE X C call (.bin op a b) := by
  intro x h
  have h : (match vBin x with | some (l, o, r, _) => decide (bopOf op = o) && (chkE C a l && chkE C b r) | none => false) = true := h
  split at h
  · rename_i l o r p e
    rw [vBin_eq e]
    have h := b2 h; have h1 := b2 h.2
    rw [← de h.1]
    exact snd_bin (X := X.nox) (ha l h1.1) (hb r h1.2)
  · cases h
theorem cmp_in {op : COp} {a b : E} {x : Expr} (h : chkE C (.cmp op a b) x = true) : ∃ l r p, x = .Compare l [copOf op] [r] p ∧ isSet r = false ∧ chkE C a l = true ∧ chkE C b r = true := by
  have h : (match vCmp x with | some (l, [o], [r], _) => decide (copOf op = o) && (!isSet r && (chkE C a l && chkE C b r)) | _ => false) = true := h
  split at h
  · rename_i l o r p e
    have h := b2 h; have h1 := b2 h.2; have h2 := b2 h1.2
    exact ⟨l, r, p, by rw [vCmp_eq e, de h.1], nb h1.1, h2.1, h2.2⟩
  · cases h
theorem is_in {k : Bool} {a c : E} {x : Expr} (h : chkE C (.is k a c) x = true) : ∃ l j p' p, c = .non ∧ x = .Compare l [if k then .IsNot else .Is] [.Constant .none j p'] p ∧ chkE C a l = true := by
  have h : (match vCmp x with | some (l, [o], [r], _) => decide ((if k then .IsNot else .Is) = o) && (isKw c r && chkE C a l) | _ => false) = true := h
  split at h
  · rename_i l o r p e
    have h := b2 h; have h1 := b2 h.2
    have hc := h1.1
    cases c with
    | non =>
      have hc : (match vConst r with | some (.none, _, _) => true | _ => false) = true := hc
      split at hc
      · rename_i j p' e2
        exact ⟨l, j, p', p, rfl, by rw [vCmp_eq e, de h.1, vConst_eq e2], h1.2⟩
      · cases hc
    | _ => exact nof hc
  · cases h
theorem and_in {a b : E} {x : Expr} (h : chkE C (.and a b) x = true) : ∃ u v r p, x = .BoolOp .And (u :: v :: r) p ∧ chkE C a u = true ∧ chkE C b (bRest .And v r p) = true := by
  have h : (match vBool x with | some (o, u :: v :: r, p) => decide (.And = o) && (chkE C a u && chkE C b (bRest .And v r p)) | _ => false) = true := h
  split at h
  · rename_i o u v r p e
    have h := b2 h; have h1 := b2 h.2
    exact ⟨u, v, r, p, by rw [vBool_eq e, ← de h.1], h1.1, h1.2⟩
  · cases h
theorem or_in {a b : E} {x : Expr} (h : chkE C (.or a b) x = true) : ∃ u v r p, x = .BoolOp .Or (u :: v :: r) p ∧ chkE C a u = true ∧ chkE C b (bRest .Or v r p) = true := by
  have h : (match vBool x with | some (o, u :: v :: r, p) => decide (.Or = o) && (chkE C a u && chkE C b (bRest .Or v r p)) | _ => false) = true := h
  split at h
  · rename_i o u v r p e
    have h := b2 h; have h1 := b2 h.2
    exact ⟨u, v, r, p, by rw [vBool_eq e, ← de h.1], h1.1, h1.2⟩
  · cases h
theorem un_in {a : E} {o : UnaryOp} {x : Expr} (h : (match vUn x with | some (o', y, _) => decide (o = o') && chkE C a y | none => false) = true) : ∃ y p, x = .UnaryOp o y p ∧ chkE C a y = true := by
  split at h
  · rename_i o' y p e
    have h := b2 h
    exact ⟨y, p, by rw [vUn_eq e, de h.1], h.2⟩
  · cases h
theorem ite_in {c a b : E} {x : Expr} (h : chkE C (.ite c a b) x = true) : ∃ u v w p, x = .IfExp u v w p ∧ chkE C c u = true ∧ chkE C a v = true ∧ chkE C b w = true := by
  have h : (match vIf x with | some (u, v, w, _) => chkE C c u && (chkE C a v && chkE C b w) | none => false) = true := h
  split at h
  · rename_i u v w p e
    have h := b2 h; have h1 := b2 h.2
    exact ⟨u, v, w, p, vIf_eq e, h.1, h1.1, h1.2⟩
  · cases h
theorem kE_and {a b : E} (ha : OkE X C call a) (hb : OkE X C call b) : OkE X C call (.and a b) := by
  intro x h
  obtain ⟨u, v, r, p, rfl, h1, h2⟩ := and_in h
  cases r with
  | nil => exact snd_and (X := X.nox) (ha u h1) (pe_one (hb v h2))
  | cons z r => exact snd_and (X := X.nox) (ha u h1) (hb _ h2)
theorem kE_or {a b : E} (ha : OkE X C call a) (hb : OkE X C call b) : OkE X C call (.or a b) := by
  intro x h
  obtain ⟨u, v, r, p, rfl, h1, h2⟩ := or_in h
  cases r with
  | nil => exact snd_or (X := X.nox) (ha u h1) (pe_one (hb v h2))
  | cons z r => exact snd_or (X := X.nox) (ha u h1) (hb _ h2)
theorem kT_and {a b : E} (ha : OkT X C call a) (hb : OkT X C call b) : OkT X C call (.and a b) := by
  intro x h
  obtain ⟨u, v, r, p, rfl, h1, h2⟩ := and_in h
  cases r with
  | nil => exact (snd_andT (X := X.nox) (ha u h1) (snd_and1T (hb v h2))).pt
  | cons z r => exact (snd_andT (X := X.nox) (ha u h1) (pw_of (hb _ h2))).pt
theorem kT_or {a b : E} (ha : OkT X C call a) (hb : OkT X C call b) : OkT X C call (.or a b) := by
  intro x h
  obtain ⟨u, v, r, p, rfl, h1, h2⟩ := or_in h
  cases r with
  | nil => exact (snd_orT (X := X.nox) (ha u h1) (snd_and1T (hb v h2))).pt
  | cons z r => exact (snd_orT (X := X.nox) (ha u h1) (pw_of (hb _ h2))).pt
theorem kE_cmp (G : Good X C call n) {op : COp} {a b : E} (ha : OkE X C call a) (hb : OkE X C call b) : OkE X C call (.cmp op a b) := by
  intro x h
  obtain ⟨l, r, p, rfl, h1, h2, h3⟩ := cmp_in h
  exact snd_cmp (X := X.nox) G.room.units (marks_ok h1) (ha l h2) (hb r h3)
theorem kT_cmp (G : Good X C call n) {op : COp} {a b : E} (ha : OkE X C call a) (hb : OkE X C call b) : OkT X C call (.cmp op a b) := by
  intro x h
  obtain ⟨l, r, p, rfl, h1, h2, h3⟩ := cmp_in h
  exact snd_cmpT (X := X.nox) G.room.units (marks_ok h1) (ha l h2) (hb r h3)
theorem kE_is {k : Bool} {a c : E} (ha : OkE X C call a) : OkE X C call (.is k a c) := by
  intro x h
  obtain ⟨l, j, p', p, rfl, rfl, h1⟩ := is_in h
  exact snd_isN (X := X.nox) (ha l h1)
theorem kT_is {k : Bool} {a c : E} (ha : OkE X C call a) : OkT X C call (.is k a c) := by
  intro x h
  obtain ⟨l, j, p', p, rfl, rfl, h1⟩ := is_in h
  exact snd_isNT (X := X.nox) (ha l h1)
theorem kE_not {a : E} (ha : OkE X C call a) : OkE X C call (.not a) := by
  intro x h
  obtain ⟨y, p, rfl, h1⟩ := un_in h
  exact snd_not (X := X.nox) (ha y h1)
theorem kT_not {a : E} (ha : OkT X C call a) : OkT X C call (.not a) := by
  intro x h
  obtain ⟨y, p, rfl, h1⟩ := un_in h
  exact snd_notT (X := X.nox) (ha y h1)
theorem kE_neg {a : E} (ha : OkE X C call a) : OkE X C call (.neg a) := by
  intro x h
  obtain ⟨y, p, rfl, h1⟩ := un_in h
  exact snd_neg (X := X.nox) (ha y h1)
theorem kE_ite {c a b : E} (hc : OkT X C call c) (ha : OkE X C call a) (hb : OkE X C call b) : OkE X C call (.ite c a b) := by
  intro x h
  obtain ⟨u, v, w, p, rfl, h1, h2, h3⟩ := ite_in h
  exact snd_ite (X := X.nox) (hc u h1) (ha v h2) (hb w h3)
theorem kT_ite {c a b : E} (hc : OkT X C call c) (ha : OkT X C call a) (hb : OkT X C call b) : OkT X C call (.ite c a b) := by
  intro x h
  obtain ⟨u, v, w, p, rfl, h1, h2, h3⟩ := ite_in h
  exact snd_iteT (X := X.nox) (hc u h1) (ha v h2) (hb w h3)
theorem kE_tup {es : E} (h0 : OkL X C call es) : OkE X C call (.tup es) := by
  intro x h
  have h : (match vTup x with | some (xs, _, _) => chkL C es xs | none => false) = true := h
  split at h
  · rename_i e
    rw [vTup_eq e]; exact snd_tup (X := X.nox) (h0 _ h)
  · cases h
theorem kE_lst {es : E} (h0 : OkL X C call es) : OkE X C call (.lst es) := by
  intro x h
  have h : (match vLst x with | some (xs, _) => chkL C es xs | none => false) = true := h
  split at h
  · rename_i e
    rw [vLst_eq e]; exact snd_lst (X := X.nox) (h0 _ h)
  · cases h
theorem kE_ix {a i : E} (ha : OkE X C call a) (hi : OkE X C call i) : OkE X C call (.ix a i) := by
  intro x h
  have h : (match vSub x with | some (u, v, _) => !isSlice v && (chkE C a u && chkE C i v) | none => false) = true := h
  split at h
  · rename_i u v p e
    rw [vSub_eq e]
    have h := b2 h; have h1 := b2 h.2
    exact snd_ix (X := X.nox) (plain_ix (nb h.1)) (ha u h1.1) (hi v h1.2)
  · cases h
theorem first_star {as : E} {e : Expr} {es : List Expr} (h : chkL C as (e :: es) = true) : isStar e = false ∧ ∀ {env : Env} {p : Pos}, (backTo p (starEach es env)).any (·.1) = false := by
  cases as with
  | cons a as => exact ⟨nb (b2 h).1, star_any es (b2 (b2 h).2).2⟩
  | _ => exact nof h
theorem kE_call (G : Good X C call n) {f : Nat} {as : E} (h0 : OkL X C call as) : OkE X C call (.call f as) := by
  intro x h
  have h : (match vCall x with | some (fx, e :: es, [], _) => (match vName fx with | some (y, _) => decide (C.fns[f]? = some y) && (C.gl y && (!(y == ("__debug__" : Str)) && chkL C as (e :: es))) | none => false) | _ => false) = true := h
  split at h
  · rename_i fx e es p ee
    split at h
    · rename_i y q e2
      have h := b2 h; have h1 := b2 h.2; have h2 := b2 h1.2
      rw [vCall_eq ee, vName_eq e2]
      obtain ⟨fa, fd, ps, m1, m2, m3, m4⟩ := G.fns f y (de h.1)
      obtain ⟨s1, s2⟩ := first_star h2.2
      exact snd_call (X := X.nox) (E' := E0) m4 G.room (G.gl h1.1) m1 m2 m3 pass0 (h0 _ h2.2) (nb h2.1) (star_ok s1) s2
    · cases h
  · cases h
theorem kE_blt (G : Good X C call n) {f : BF} {as : E} (h0 : OkL X C call as) : OkE X C call (.blt f as) := by
  intro x h
  have h : (match vCall x with | some (fx, e :: es, [], _) => fnNm C (bfName f) fx && chkL C as (e :: es) | _ => false) = true := h
  split at h
  · rename_i fx e es p ee
    have h := b2 h
    obtain ⟨q, rfl, gl⟩ := fn_nm G h.1
    rw [vCall_eq ee]
    obtain ⟨s1, s2⟩ := first_star h.2
    exact snd_blt (X := X.nox) G.calm G.room.units G.room.gd rfl gl (G.blt _ (by cases f <;> decide)) (h0 _ h.2) (star_ok s1) s2
  · cases h
theorem ty_nm (G : Good X C call n) {t : Ty} {x : Expr} (h : chkTyN C t x = true) : ∃ p, x = .Name (Str.ofString (tyName t)) p ∧ Gl X (Str.ofString (tyName t)) ∧ X.mg (Str.ofString (tyName t)) = none := by
  unfold chkTyN at h
  split at h
  · rename_i y p e
    have h := b2 h
    have e1 := de h.1
    subst e1
    exact ⟨p, vName_eq e, G.gl h.2, G.blt _ (by cases t <;> decide)⟩
  · cases h
theorem kE_isi (G : Good X C call n) {a : E} {ts : List Ty} (ha : OkE X C call a) : OkE X C call (.isi a ts) := by
  intro x h
  have h : (match vCall x with | some (fx, [e, t], [], _) => fnNm C "isinstance" fx && (chkTys C ts t && (!isStar e && chkE C a e)) | _ => false) = true := h
  split at h
  · rename_i fx e t p ee
    have h := b2 h; have h1 := b2 h.2; have h2 := b2 h1.2
    obtain ⟨q, rfl, gl⟩ := fn_nm G h.1
    rw [vCall_eq ee]
    have bl := G.blt "isinstance" (by decide)
    have hst := star_ok (xs := [t]) (env := X.env) (nb h2.1)
    rcases ts with _ | ⟨t1, _ | ⟨t2, _ | ⟨t3, ts⟩⟩⟩
    · exact nof h1.1
    · obtain ⟨q2, rfl, g2, m2⟩ := ty_nm G (show chkTyN C t1 t = true from h1.1)
      exact snd_isi1 (X := X.nox) rfl rfl gl bl g2 m2 (ha e h2.2) (by rw [hst]; rfl)
    · have h3 : (match vTup t with | some ([y, z], _, _) => chkTyN C t1 y && chkTyN C t2 z | _ => false) = true := h1.1
      split at h3
      · rename_i y z k p2 e2
        have h3 := b2 h3
        obtain ⟨q2, rfl, g2, m2⟩ := ty_nm G h3.1
        obtain ⟨q3, rfl, g3, m3⟩ := ty_nm G h3.2
        have e3 := vTup_eq e2
        subst e3
        exact snd_isi2 (X := X.nox) rfl rfl rfl gl bl g2 m2 g3 m3 (ha e h2.2) (by rw [hst]; rfl)
      · cases h3
    · exact nof h1.1
  · cases h
theorem base_name {x : Expr} {m : Str} {env : Env} (h : isName x = true) : attributeBase x m env (eval x env) = eval x env := by
  cases x <;> first | rfl | (cases h; done)
theorem kE_meth {f : MF} {o a : E} (ho : OkE X C call o) (ha : OkE X C call a) : OkE X C call (.meth f o a) := by
  intro x h
  have h : (match vCall x with | some (fx, [e], [], q) => (match vAttr fx with | some (y, m, p) => decide (m = Str.ofString (mfName f)) && (isName y && ((p.endLine == q.line) && (!isStar e && (chkE C o y && chkE C a e)))) | none => false) | _ => false) = true := h
  split at h
  · rename_i fx e q ee
    split at h
    · rename_i y m p e2
      have h := b2 h; have h1 := b2 h.2; have h2 := b2 h1.2; have h3 := b2 h2.2; have h4 := b2 h3.2
      have em := de h.1
      subst em
      rw [vCall_eq ee, vAttr_eq e2]
      cases f with
      | append => exact snd_append (X := X.nox) (base_name h1.1) h2.1 (by rw [star_ok (nb h3.1)]; rfl) (ho y h4.1) (ha e h4.2)
      | extend => exact snd_extend (X := X.nox) (base_name h1.1) h2.1 (by rw [star_ok (nb h3.1)]; rfl) (ho y h4.1) (ha e h4.2)
    · cases h
  · cases h
theorem k_chain (G : Good X C call n) {o p : COp} {a b c : E} (ha : OkE X C call a) (hb : OkE X C call b) (hc : OkE X C call c) : ∀ x, chkE C (.chain o p a b c) x = true → PE X.nox x (tE X.K call (.chain o p a b c)) ∧ PT X.nox x (tT X.K call (.chain o p a b c)) := by
  intro x h
  have h : (match vCmp x with | some (l, [o', p'], [r, q], _) => decide (copOf o = o') && (decide (copOf p = p') && (!isSet r && (!isSet q && (chkE C a l && (chkE C b r && chkE C c q))))) | _ => false) = true := h
  split at h
  · rename_i l o' p' r q ps e
    have h := b2 h; have h1 := b2 h.2; have h2 := b2 h1.2; have h3 := b2 h2.2; have h4 := b2 h3.2; have h5 := b2 h4.2
    rw [vCmp_eq e, ← de h.1, ← de h1.1]
    exact snd_chain (X := X.nox) G.room.units (marks_ok (nb h3.1)) (ha l h4.1) (hb r h5.1) (hc q h5.2)
  · cases h
theorem k_part {e : E} {o : Option Expr} (he : OkE X C call e) (h : chkIfO (fun y => chkE C e y) (isNo e) o = true) : L2.PO X.nox o (tO X.K call e) := by
  cases o with
  | none =>
    cases e with
    | none => exact snd_po0 (X := X.nox)
    | _ => exact nof h
  | some x =>
    have h := b2 h
    exact snd_po1 (X := X.nox) (nb h.1) (he x h.2)
theorem kE_sl {a lo hi : E} (ha : OkE X C call a) (hl : OkE X C call lo) (hh : OkE X C call hi) : OkE X C call (.sl a lo hi) := by
  intro x h
  have h : (match vSub x with | some (u, v, _) => (match vSlice v with | some (l, h, k, _) => k.isNone && (chkE C a u && (chkIfO (fun y => chkE C lo y) (isNo lo) l && chkIfO (fun y => chkE C hi y) (isNo hi) h)) | none => false) | none => false) = true := h
  split at h
  · rename_i u v p e
    split at h
    · rename_i l r k p2 e2
      have h := b2 h; have h1 := b2 h.2; have h2 := b2 h1.2
      have ek : k = none := by cases k with | none => rfl | some _ => exact nof h.1
      subst ek
      rw [vSub_eq e, vSlice_eq e2]
      exact snd_sl (X := X.nox) (ha u h1.1) (k_part hl h2.1) (k_part hh h2.2)
    · cases h
  · cases h
theorem ok_it (G : Good X C call n) {it : E} (h0 : Ok call n it) {x t : Expr} (h : (if isIt it = true then chkI C it x t else (!isSet x && chkE C it x)) = true) : PI X.nox t x (tI X.K call it) ∧ ∀ v, foldedSetIterable x X.env v = pure v := by
  split at h
  · exact h0.i G x t h
  · rename_i hi
    have h := b2 h
    have hp : plainIt it = true := by cases it <;> first | rfl | (exact absurd rfl hi)
    exact ⟨snd_itv (X := X.nox) hp (h0.e G x h.2), set_ok (nb h.1)⟩
structure CompIn (X : Cx) (C : CC) (call : Nat → List PV → Sto → R PV) (n : Nat) (el : E) (tg : Tg) (nn m : Nat) (it ifs : E) (x : Expr) (elt tgx itx : Expr) (ifx : List Expr) (scope : Scope) (p : Pos) : Prop where
  x : x = .ListComp elt [⟨tgx, itx, ifx, 0⟩] scope p
  nn : nn = X.N.length
  m : m = (ownOf tgx).length
  sc : CScope X scope (ownOf tgx)
  mn : tgMin X.N.length tg = true
  it : PI X.nox tgx itx (tI X.K call it)
  st : ∀ v, foldedSetIterable itx X.env v = pure v
  bk : ∀ fp D s H, PG (cxC X scope (ownOf tgx) fp D s H) tgx (gT X.K tg) ∧ PTs (cxC X scope (ownOf tgx) fp D s H) ifx (tTs X.K call ifs) ∧ PE (cxC X scope (ownOf tgx) fp D s H) elt (tE X.K call el)
theorem comp_in (G : Good X C call n) {el it ifs : E} {tg : Tg} {nn m : Nat} (hi : Ok call n it) (hs : Ok call n ifs) (he : Ok call n el) {x : Expr} (h : chkE C (.comp el tg nn m it ifs) x = true) :
    ∃ elt tgx itx ifx scope p, CompIn X C call n el tg nn m it ifs x elt tgx itx ifx scope p := by
  have h : (match vComp x with | some (elt, [⟨tgx, itx, ifx, asy⟩], scope, _) => decide (asy = 0) && (decide (nn = C.N.length) && (decide (m = (ownOf tgx).length) && (C.scOk scope (ownOf tgx) && (tgMin nn tg && (chkTg (C.sub scope (ownOf tgx)) tg tgx &&
      ((if isIt it = true then chkI C it itx tgx else (!isSet itx && chkE C it itx)) && (chkTs (C.sub scope (ownOf tgx)) ifs ifx && chkE (C.sub scope (ownOf tgx)) el elt))))))) | _ => false) = true := h
  split at h
  · rename_i elt tgx itx ifx asy scope p ee
    have h := b2 h; have h1 := b2 h.2; have h2 := b2 h1.2; have h3 := b2 h2.2; have h4 := b2 h3.2; have h5 := b2 h4.2; have h6 := b2 h5.2; have h7 := b2 h6.2
    have e0 := de h.1
    have e1 := de h1.1
    obtain ⟨SC, G2⟩ := G.sub h3.1
    subst e0
    have hN : C.N.length = X.N.length := by rw [G.N]
    obtain ⟨i1, i2⟩ := ok_it G hi h6.1
    exact ⟨elt, tgx, itx, ifx, scope, p, vComp_eq ee, by rw [e1, hN], de h2.1, SC, by rw [← hN, ← e1]; exact h4.1, i1, i2, fun fp D s H => ⟨chk_tg (G2 fp D s H) h5.1, hs.ts (G2 fp D s H) ifx h7.1, he.e (G2 fp D s H) elt h7.2⟩⟩
  · cases h
theorem kE_comp (G : Good X C call n) {el it ifs : E} {tg : Tg} {nn m : Nat} (hi : Ok call n it) (hs : Ok call n ifs) (he : Ok call n el) : OkE X C call (.comp el tg nn m it ifs) := by
  intro x h
  obtain ⟨elt, tgx, itx, ifx, scope, p, c⟩ := comp_in G hi hs he h
  have e1 := c.nn
  have e2 := c.m
  rw [c.x, e1, e2]
  exact snd_comp (X := X) (own := ownOf tgx) (pos := p) (tg := tg) G.calm c.sc c.mn c.it c.bk c.st
theorem kL_nil : OkL X C call .nil := by
  intro xs h
  cases xs with
  | nil => exact snd_nil (X := X.nox)
  | cons _ _ => exact nof h
theorem kL_cons {e es : E} (he : OkE X C call e) (hs : OkL X C call es) : OkL X C call (.cons e es) := by
  intro xs h
  cases xs with
  | nil => exact nof h
  | cons x xs =>
    have h := b2 h; have h1 := b2 h.2
    exact snd_cons (X := X.nox) (star_ok (nb h.1)) (he x h1.1) (hs xs h1.2)
theorem kTs_nil : OkTs X C call .nil := by
  intro xs h
  cases xs with
  | nil => exact snd_tsnil (X := X.nox)
  | cons _ _ => exact nof h
theorem kTs_cons {e es : E} (he : OkT X C call e) (hs : OkTs X C call es) : OkTs X C call (.cons e es) := by
  intro xs h
  cases xs with
  | nil => exact nof h
  | cons x xs =>
    have h := b2 h
    exact snd_tscons (X := X.nox) (he x h.1) (hs xs h.2)
theorem kI_rng (G : Good X C call n) {a : E} (ha : OkE X C call a) : OkI X C call (.rng a) := by
  intro x t h
  have h : (match vCall x with | some (fx, [y], [], _) => fnNm C "range" fx && (!isStar y && chkE C a y) | _ => false) = true := h
  split at h
  · rename_i fx y p ee
    have h := b2 h; have h1 := b2 h.2
    obtain ⟨q, rfl, gl⟩ := fn_nm G h.1
    rw [vCall_eq ee]
    exact ⟨snd_rng (X := X.nox) gl (G.blt "range" (by decide)) (ha y h1.2) (by rw [star_ok (nb h1.1)]; rfl), fun v => rfl⟩
  · cases h
theorem kI_zip (G : Good X C call n) {a b : E} (ha : OkE X C call a) (hb : OkE X C call b) : OkI X C call (.zip a b) := by
  intro x t h
  have h : (match vCall x with | some (fx, [y, z], [], _) => isTup t && (fnNm C "zip" fx && (!isStar y && (!isStar z && (chkE C a y && chkE C b z)))) | _ => false) = true := h
  split at h
  · rename_i fx y z p ee
    have h := b2 h; have h1 := b2 h.2; have h2 := b2 h1.2; have h3 := b2 h2.2; have h4 := b2 h3.2
    obtain ⟨q, rfl, gl⟩ := fn_nm G h1.1
    rw [vCall_eq ee]
    cases t with
    | Tuple elts tk tp => exact ⟨snd_zip (X := X.nox) gl (G.blt "zip" (by decide)) (ha y h4.1) (hb z h4.2) (by rw [star_ok (nb h2.1), star_ok (nb h3.1)]; rfl) (by rw [star_ok (nb h3.1)]; rfl), fun v => rfl⟩
    | _ => exact nof h.1
  · cases h
theorem kI_rng2 (G : Good X C call n) {a b : E} (ha : OkE X C call a) (hb : OkE X C call b) : OkI X C call (.rng2 a b) := by
  intro x t h
  have h : (match vCall x with | some (fx, [y, z], [], _) => fnNm C "range" fx && (!isStar y && (!isStar z && (chkE C a y && chkE C b z))) | _ => false) = true := h
  split at h
  · rename_i fx y z p ee
    have h := b2 h; have h1 := b2 h.2; have h2 := b2 h1.2; have h3 := b2 h2.2
    obtain ⟨q, rfl, gl⟩ := fn_nm G h.1
    rw [vCall_eq ee]
    exact ⟨snd_rng2 (X := X.nox) gl (G.blt "range" (by decide)) (ha y h3.1) (hb z h3.2) (by rw [star_ok (nb h1.1), star_ok (nb h2.1)]; rfl) (by rw [star_ok (nb h2.1)]; rfl), fun v => rfl⟩
  · cases h
theorem kI_enum (G : Good X C call n) {a : E} (ha : OkE X C call a) : OkI X C call (.enum a) := by
  intro x t h
  have h : (match vCall x with | some (fx, [y], [], _) => isTup t && (fnNm C "enumerate" fx && (!isStar y && chkE C a y)) | _ => false) = true := h
  split at h
  · rename_i fx y p ee
    have h := b2 h; have h1 := b2 h.2; have h2 := b2 h1.2
    obtain ⟨q, rfl, gl⟩ := fn_nm G h1.1
    rw [vCall_eq ee]
    cases t with
    | Tuple elts tk tp => exact ⟨snd_enum (X := X.nox) gl (G.blt "enumerate" (by decide)) (ha y h2.2) (by rw [star_ok (nb h2.1)]; rfl), fun v => rfl⟩
    | _ => exact nof h.1
  · cases h
/-- a value's test, for those that have no test of their own -/
theorem kT_of {e : E} (h1 : plainTE e = true) (h2 : ∀ x, chkE C e x = true → plainT x = true) (h : OkE X C call e) : OkT X C call e := fun x hx => snd_plainT (X := X.nox) h1 (h2 x hx) (h x hx)
end
section
variable {call : Nat → List PV → Sto → R PV} {n : Nat}
/-- what is a value, and neither a list of parts nor a walk -/
theorem Ok.val {e : E} (hl : ∀ C xs, chkL C e xs = false) (ht : ∀ C xs, chkTs C e xs = false) (hi : ∀ C x t, chkI C e x t = false) (he : ∀ {X : Cx} {C : CC}, Good X C call n → OkE X C call e) (hT : ∀ {X : Cx} {C : CC}, Good X C call n → OkT X C call e) : Ok call n e :=
  ⟨he, hT, fun G xs h => nof ((hl _ xs).symm.trans h), fun G xs h => nof ((ht _ xs).symm.trans h), fun G x t h => nof ((hi _ x t).symm.trans h)⟩
/-- what is no value -/
theorem Ok.none {e : E} (he : ∀ C x, chkE C e x = false) (hl : ∀ {X : Cx} {C : CC}, Good X C call n → OkL X C call e) (ht : ∀ {X : Cx} {C : CC}, Good X C call n → OkTs X C call e) (hi : ∀ {X : Cx} {C : CC}, Good X C call n → OkI X C call e) : Ok call n e :=
  ⟨fun G x h => nof ((he _ x).symm.trans h), fun G x h => nof ((he _ x).symm.trans h), hl, ht, hi⟩
theorem Ok.plain {e : E} (h1 : plainTE e = true) (n1 : ∀ C y p, chkE C e (.UnaryOp .Not y p) = false) (n2 : ∀ C o xs p, chkE C e (.BoolOp o xs p) = false) (n3 : ∀ C x y z p, chkE C e (.IfExp x y z p) = false) (n4 : ∀ C l o r p, chkE C e (.Compare l o r p) = false)
    (hl : ∀ C xs, chkL C e xs = false) (ht : ∀ C xs, chkTs C e xs = false) (hi : ∀ C x t, chkI C e x t = false) (he : ∀ {X : Cx} {C : CC}, Good X C call n → OkE X C call e) : Ok call n e :=
  Ok.val hl ht hi he fun {X C} G => kT_of h1 (fun x hx => by
    cases hp : plainT x with
    | true => rfl
    | false =>
      cases x <;> first
        | (cases hp; done)
        | (exact nof ((n2 ..).symm.trans hx))
        | (exact nof ((n3 ..).symm.trans hx))
        | (exact nof ((n4 ..).symm.trans hx))
        | (rename_i o _ _; cases o <;> first | (cases hp; done) | (exact nof ((n1 ..).symm.trans hx)))) (he G)
theorem ok_all (call : Nat → List PV → Sto → R PV) (n : Nat) : ∀ e : E, Ok call n e := by
  intro e
  induction e with
  | var i => exact .plain rfl (fun _ _ _ => rfl) (fun _ _ _ _ => rfl) (fun _ _ _ _ _ => rfl) (fun _ _ _ _ _ => rfl) (fun _ _ => rfl) (fun _ _ => rfl) (fun _ _ _ => rfl) fun G => kE_var G
  | int i => exact .plain rfl (fun _ _ _ => rfl) (fun _ _ _ _ => rfl) (fun _ _ _ _ _ => rfl) (fun _ _ _ _ _ => rfl) (fun _ _ => rfl) (fun _ _ => rfl) (fun _ _ _ => rfl) fun G => kE_int
  | bl i => exact .plain rfl (fun _ _ _ => rfl) (fun _ _ _ _ => rfl) (fun _ _ _ _ _ => rfl) (fun _ _ _ _ _ => rfl) (fun _ _ => rfl) (fun _ _ => rfl) (fun _ _ _ => rfl) fun G => kE_bl
  | non => exact .plain rfl (fun _ _ _ => rfl) (fun _ _ _ _ => rfl) (fun _ _ _ _ _ => rfl) (fun _ _ _ _ _ => rfl) (fun _ _ => rfl) (fun _ _ => rfl) (fun _ _ _ => rfl) fun G => kE_non
  | str i => exact .plain rfl (fun _ _ _ => rfl) (fun _ _ _ _ => rfl) (fun _ _ _ _ _ => rfl) (fun _ _ _ _ _ => rfl) (fun _ _ => rfl) (fun _ _ => rfl) (fun _ _ _ => rfl) fun G => kE_str
  | bin op a b ha hb => exact .plain rfl (fun _ _ _ => rfl) (fun _ _ _ _ => rfl) (fun _ _ _ _ _ => rfl) (fun _ _ _ _ _ => rfl) (fun _ _ => rfl) (fun _ _ => rfl) (fun _ _ _ => rfl) fun G => kE_bin (ha.e G) (hb.e G)
  | neg a ha => exact .plain rfl (fun _ _ _ => rfl) (fun _ _ _ _ => rfl) (fun _ _ _ _ _ => rfl) (fun _ _ _ _ _ => rfl) (fun _ _ => rfl) (fun _ _ => rfl) (fun _ _ _ => rfl) fun G => kE_neg (ha.e G)
  | tup es h => exact .plain rfl (fun _ _ _ => rfl) (fun _ _ _ _ => rfl) (fun _ _ _ _ _ => rfl) (fun _ _ _ _ _ => rfl) (fun _ _ => rfl) (fun _ _ => rfl) (fun _ _ _ => rfl) fun G => kE_tup (h.l G)
  | lst es h => exact .plain rfl (fun _ _ _ => rfl) (fun _ _ _ _ => rfl) (fun _ _ _ _ _ => rfl) (fun _ _ _ _ _ => rfl) (fun _ _ => rfl) (fun _ _ => rfl) (fun _ _ _ => rfl) fun G => kE_lst (h.l G)
  | ix a i ha hi => exact .plain rfl (fun _ _ _ => rfl) (fun _ _ _ _ => rfl) (fun _ _ _ _ _ => rfl) (fun _ _ _ _ _ => rfl) (fun _ _ => rfl) (fun _ _ => rfl) (fun _ _ _ => rfl) fun G => kE_ix (ha.e G) (hi.e G)
  | call f as h => exact .plain rfl (fun _ _ _ => rfl) (fun _ _ _ _ => rfl) (fun _ _ _ _ _ => rfl) (fun _ _ _ _ _ => rfl) (fun _ _ => rfl) (fun _ _ => rfl) (fun _ _ _ => rfl) fun G => kE_call G (h.l G)
  | blt f as h => exact .plain rfl (fun _ _ _ => rfl) (fun _ _ _ _ => rfl) (fun _ _ _ _ _ => rfl) (fun _ _ _ _ _ => rfl) (fun _ _ => rfl) (fun _ _ => rfl) (fun _ _ _ => rfl) fun G => kE_blt G (h.l G)
  | isi a ts ha => exact .plain rfl (fun _ _ _ => rfl) (fun _ _ _ _ => rfl) (fun _ _ _ _ _ => rfl) (fun _ _ _ _ _ => rfl) (fun _ _ => rfl) (fun _ _ => rfl) (fun _ _ _ => rfl) fun G => kE_isi G (ha.e G)
  | meth f o a ho ha => exact .plain rfl (fun _ _ _ => rfl) (fun _ _ _ _ => rfl) (fun _ _ _ _ _ => rfl) (fun _ _ _ _ _ => rfl) (fun _ _ => rfl) (fun _ _ => rfl) (fun _ _ _ => rfl) fun G => kE_meth (ho.e G) (ha.e G)
  | comp el tg nn m it ifs he hi hs => exact .plain rfl (fun _ _ _ => rfl) (fun _ _ _ _ => rfl) (fun _ _ _ _ _ => rfl) (fun _ _ _ _ _ => rfl) (fun _ _ => rfl) (fun _ _ => rfl) (fun _ _ _ => rfl) fun G => kE_comp G hi hs he
  | cmp op a b ha hb => exact .val (fun _ _ => rfl) (fun _ _ => rfl) (fun _ _ _ => rfl) (fun G => kE_cmp G (ha.e G) (hb.e G)) fun G => kT_cmp G (ha.e G) (hb.e G)
  | is k a c ha hc => exact .val (fun _ _ => rfl) (fun _ _ => rfl) (fun _ _ _ => rfl) (fun G => kE_is (ha.e G)) fun G => kT_is (ha.e G)
  | and a b ha hb => exact .val (fun _ _ => rfl) (fun _ _ => rfl) (fun _ _ _ => rfl) (fun G => kE_and (ha.e G) (hb.e G)) fun G => kT_and (ha.t G) (hb.t G)
  | or a b ha hb => exact .val (fun _ _ => rfl) (fun _ _ => rfl) (fun _ _ _ => rfl) (fun G => kE_or (ha.e G) (hb.e G)) fun G => kT_or (ha.t G) (hb.t G)
  | not a ha => exact .val (fun _ _ => rfl) (fun _ _ => rfl) (fun _ _ _ => rfl) (fun G => kE_not (ha.e G)) fun G => kT_not (ha.t G)
  | ite c a b hc ha hb => exact .val (fun _ _ => rfl) (fun _ _ => rfl) (fun _ _ _ => rfl) (fun G => kE_ite (hc.t G) (ha.e G) (hb.e G)) fun G => kT_ite (hc.t G) (ha.t G) (hb.t G)
  | chain o p a b c ha hb hc => exact .val (fun _ _ => rfl) (fun _ _ => rfl) (fun _ _ _ => rfl) (fun G x h => (k_chain G (ha.e G) (hb.e G) (hc.e G) x h).1) fun G x h => (k_chain G (ha.e G) (hb.e G) (hc.e G) x h).2
  | sl a lo hi ha hl hh => exact .plain rfl (fun _ _ _ => rfl) (fun _ _ _ _ => rfl) (fun _ _ _ _ _ => rfl) (fun _ _ _ _ _ => rfl) (fun _ _ => rfl) (fun _ _ => rfl) (fun _ _ _ => rfl) fun G => kE_sl (ha.e G) (hl.e G) (hh.e G)
  | rng2 a b ha hb => exact .none (fun _ _ => rfl) (fun G xs h => nof h) (fun G xs h => nof h) fun G => kI_rng2 G (ha.e G) (hb.e G)
  | enum a ha => exact .none (fun _ _ => rfl) (fun G xs h => nof h) (fun G xs h => nof h) fun G => kI_enum G (ha.e G)
  | nil => exact .none (fun _ _ => rfl) (fun G => kL_nil) (fun G => kTs_nil) fun G x t h => nof h
  | cons e es he hs => exact .none (fun _ _ => rfl) (fun G => kL_cons (he.e G) (hs.l G)) (fun G => kTs_cons (he.t G) (hs.ts G)) fun G x t h => nof h
  | rng a ha => exact .none (fun _ _ => rfl) (fun G xs h => nof h) (fun G xs h => nof h) fun G => kI_rng G (ha.e G)
  | zip a b ha hb => exact .none (fun _ _ => rfl) (fun G xs h => nof h) (fun G xs h => nof h) fun G => kI_zip G (ha.e G) (hb.e G)
  | _ => exact .none (fun _ _ => rfl) (fun G xs h => nof h) (fun G xs h => nof h) fun G x t h => nof h
end
end Kw
end
section
set_option Elab.async false
set_option linter.all false
set_option maxRecDepth 100000
set_option maxHeartbeats 4000000
namespace Kw
open PySem PySem.Spec PyProof.Rows L2
section
variable {X : Cx} {C : CC} {call : Nat → List PV → Sto → R PV} {n : Nat}
theorem setix_ok {xo xi : Expr} {p : Pos} {env : Env} (h : isSlice xi = false) : ∀ v, assign (.Subscript xo xi p) env v = (do
      let ov ← holding [v] (eval xo env)
      let iv ← holding [v, ov] (eval xi env)
      standAt p
      holding [v, ov, iv] (setItem ov iv v)
      release [v, ov, iv] []) := by
  intro v
  cases xi <;> first | rfl | (cases h; done)
def OkS (X : Cx) (C : CC) (call : Nat → List PV → Sto → R PV) (s : S) : Prop := ∀ x, chkS1 C s x = true → PS X.nox x (tS X.K call s)
def OkB (X : Cx) (C : CC) (call : Nat → List PV → Sto → R PV) (s : S) : Prop := ∀ xs, chkB C s xs = true → PSs X.nox xs (tS X.K call s)
theorem tup_no {y : Expr} (h : vTup y = none) : tupX y = false := by
  cases y <;> first | rfl | (cases h; done)
theorem two_of {e : E} (h : isTwo e = true) : ∃ a b, e = .tup (.cons a (.cons b .nil)) := by
  unfold isTwo at h
  split at h
  · exact ⟨_, _, rfl⟩
  · cases h
theorem star_no {a : Expr} (h : isStar a = false) : starX a = false := by
  cases a <;> first | rfl | (cases h; done)
theorem tp_nm (G : Good X C call n) {is : List Nat} {ts : List Expr} {vs : List Expr} {kt k2 : Nat} {pt p2 pos : Pos} {a b : E} (h : swapOk C is ts vs = true) (h2 : chkL C (.cons a (.cons b .nil)) vs = true) :
    PS X.nox (.Assign [.Tuple ts kt pt] (.Tuple vs k2 p2) pos) (tS X.K call (.asg (.tp is) (.tup (.cons a (.cons b .nil))))) := by
  unfold swapOk at h
  split at h
  · rename_i i j tx ty xa xb
    split at h
    · rename_i x px y py e1 e2
      have h := b2 h; have h1 := b2 h.2; have h2' := b2 h1.2; have h3 := b2 h2'.2; have h4 := b2 h3.2; have h5 := b2 h4.2; have h6 := b2 h5.2; have h7 := b2 h6.2; have h8 := b2 h7.2; have h9 := b2 h8.2
      rw [vName_eq e1, vName_eq e2]
      have lx : X.env.scope.names.lookup x = some .local := by rw [G.sc]; exact de h4.1
      have ly : X.env.scope.names.lookup y = some .local := by rw [G.sc]; exact de h5.1
      exact sn_par (X := X.nox) G.calm (by show X.N.Nodup; rw [G.N]; exact G.nd) (by show X.N[i]? = _; rw [G.N]; exact de h.1) (by show X.N[j]? = _; rw [G.N]; exact de h1.1) (de h2'.1) lx ly ((ok_all call n _).l G _ h2)
        (sw2 (env := X.env) G.kind lx ly (de h3.1) h6.1 (star_no (nb h7.1)) (star_no (nb h8.1)) (nb h9.1) (nb h9.2))
    · cases h
  · cases h
theorem kS_asg (G : Good X C call n) {tg : Tg} {e : E} : OkS X C call (.asg tg e) := by
  intro x h
  have h : chkS C (.asg tg e) x = true := h
  cases tg with
  | nm i =>
    cases x with
    | Assign ts y p =>
      rcases ts with _ | ⟨t, _ | ⟨t2, ts⟩⟩
      · exact nof h
      · have h : (match vName t with
          | some (x, px) => decide (C.N[i]? = some x) && (C.loc x && (match vComp y with
            | some (_, _, scope, p) => chkE C e y && (!(swC C x px scope p) || isCompE e)
            | none => !isComp y && chkE C e y))
          | none => false) = true := h
        split at h
        · rename_i nm q ee
          have h := b2 h; have h1 := b2 h.2
          obtain ⟨l1, l2⟩ := G.loc h1.1
          have hnd : X.N.Nodup := by rw [G.N]; exact G.nd
          have hix : X.N[i]? = some nm := by rw [G.N]; exact de h.1
          rw [vName_eq ee]
          have h2 := h1.2
          split at h2
          · rename_i elt gs scope pp ec
            have h2 := b2 h2
            have hsw : ∀ ln, swapsWith y (some (.Name nm q)) ln X.env = pure (swC C nm q scope pp) := fun ln => by
              rw [vComp_eq ec, sw_comp G.kind, G.sc]; rfl
            cases hb : swC C nm q scope pp with
            | false => exact sn_setf (X := X.nox) hnd hix l1 l2 (by show swapsWith y (some (.Name nm q)) p.line X.env = _; rw [hsw, hb]) ((ok_all call n e).e G y h2.1)
            | true =>
              rw [hb] at h2
              cases e with
              | comp el tg nn m it ifs =>
                obtain ⟨elt2, tgx, itx, ifx, scope2, p2, c⟩ := comp_in G (ok_all call n it) (ok_all call n ifs) (ok_all call n el) h2.1
                have hlo : X.env.scope.names.lookup nm = some .local := by
                  rw [G.sc]
                  have hb := b2 hb
                  exact de (b2 hb.1).1
                have e1 := c.nn
                have e2 := c.m
                have hs1 := hsw p.line
                rw [hb, c.x] at hs1
                rw [c.x, e1, e2]
                exact sn_setc (X := X) G.calm c.sc hnd hix hlo c.mn c.it c.bk hs1 c.st
              | _ => exact nof h2.2
          · have h2 := b2 h2
            exact sn_set (X := X.nox) hnd hix l1 l2 (nb h2.1) ((ok_all call n e).e G y h2.2)
        · cases h
      · exact nof h
    | _ => exact nof h
  | tp is =>
    cases x with
    | Assign ts y p =>
      rcases ts with _ | ⟨t, _ | ⟨t2, ts⟩⟩
      · exact nof h
      · have h : (match vTup t with
          | some (ts, _, _) => (match vTup y with
            | some (vs, _, _) => swapOk C is ts vs && (isTwo e && chkL C (partsOf e) vs)
            | none => chkTg C (.tp is) t && chkE C e y)
          | none => false) = true := h
        split at h
        · rename_i ts kt pt et
          split at h
          · rename_i vs k2 p2 ev
            have h := b2 h
            have h2 := b2 h.2
            obtain ⟨a, b, rfl⟩ := two_of h2.1
            rw [vTup_eq et, vTup_eq ev]
            exact tp_nm G h.1 h2.2
          · rename_i ev
            have h := b2 h
            have hg := chk_tg G h.1
            rw [vTup_eq et] at hg ⊢
            exact sn_asgT (X := X.nox) (tup_no ev) hg ((ok_all call n e).e G y h.2)
        · cases h
      · exact nof h
    | _ => exact nof h
theorem kS_aug (G : Good X C call n) {i : Nat} {op : BOp} {e : E} : OkS X C call (.aug i op e) := by
  intro x h
  have h : chkS C (.aug i op e) x = true := h
  cases x with
  | AugAssign t o y p =>
    have h : (match vName t with | some (x, _) => decide (C.N[i]? = some x) && (C.loc x && (decide (bopOf op = o) && ((decide (op = .add) || decide (op = .sub)) && chkE C e y))) | none => false) = true := h
    split at h
    · rename_i nm q ee
      have h := b2 h; have h1 := b2 h.2; have h2 := b2 h1.2; have h3 := b2 h2.2
      obtain ⟨l1, l2⟩ := G.loc h1.1
      rw [vName_eq ee, ← de h2.1]
      exact sn_aug (X := X.nox) (by simpa using h3.1) (by show X.N.Nodup; rw [G.N]; exact G.nd) (by show X.N[i]? = _; rw [G.N]; exact de h.1) l1 l2 ((ok_all call n e).e G y h3.2)
    · cases h
  | _ => exact nof h
theorem kS_setix (G : Good X C call n) {o i e : E} : OkS X C call (.setix o i e) := by
  intro x h
  have h : chkS C (.setix o i e) x = true := h
  cases x with
  | Assign ts z p =>
    rcases ts with _ | ⟨t, _ | ⟨t2, ts⟩⟩
    · exact nof h
    · have h : (match vSub t with | some (x, y, _) => !isComp z && (!isSlice y && (chkE C o x && (chkE C i y && chkE C e z))) | none => false) = true := h
      split at h
      · rename_i x y q ee
        have h := b2 h; have h1 := b2 h.2; have h2 := b2 h1.2; have h3 := b2 h2.2
        rw [vSub_eq ee]
        exact sn_setix (X := X.nox) (nb h.1) (setix_ok (nb h1.1)) rfl (by simp only [swapsWithSole]; exact swaps_no (nb h.1)) ((ok_all call n o).e G x h2.1) ((ok_all call n i).e G y h3.1) ((ok_all call n e).e G z h3.2)
      · cases h
    · exact nof h
  | _ => exact nof h
theorem kS_ret (G : Good X C call n) {e : E} : OkS X C call (.ret e) := by
  intro x h
  have h : chkS C (.ret e) x = true := h
  cases x with
  | Return v p =>
    cases v with
    | none => exact nof h
    | some y => exact sn_ret (X := X.nox) ((ok_all call n e).e G y h)
  | _ => exact nof h
theorem kS_retN : OkS X C call .retN := by
  intro x h
  have h : chkS C .retN x = true := h
  cases x with
  | Return v p =>
    cases v with
    | none => exact sn_retN (X := X.nox)
    | some y => exact nof h
  | _ => exact nof h
theorem kS_expr (G : Good X C call n) {e : E} : OkS X C call (.expr e) := by
  intro x h
  have h : chkS C (.expr e) x = true := h
  cases x with
  | Expr y p =>
    have h := b2 h
    exact sn_expr (X := X.nox) (nb h.1) ((ok_all call n e).e G y h.2)
  | _ => exact nof h
theorem kS_pass : OkS X C call .pass := by
  intro x h
  have h : chkS C .pass x = true := h
  cases x <;> first | exact sn_pass (X := X.nox) | exact nof h
theorem kS_brk : OkS X C call .brk := by
  intro x h
  have h : chkS C .brk x = true := h
  cases x <;> first | exact sn_brk (X := X.nox) | exact nof h
theorem kS_cont : OkS X C call .cont := by
  intro x h
  have h : chkS C .cont x = true := h
  cases x <;> first | exact sn_cont (X := X.nox) | exact nof h
theorem kS_ife (G : Good X C call n) {c : E} {a b : S} (ha : OkB X C call a) (hb : OkB X C call b) : OkS X C call (.ife c a b) := by
  intro x h
  have h : (match vIfS x with | some (t, xa, xb, _) => chkE C c t && (chkB C a xa && chkB C b xb) | none => false) = true := h
  split at h
  · rename_i t xa xb p ee
    have h := b2 h; have h1 := b2 h.2
    rw [vIfS_eq ee]
    exact sn_if (X := X.nox) ((ok_all call n c).t G t h.1) (ha xa h1.1) (hb xb h1.2)
  · cases h
theorem kS_whl (G : Good X C call n) {c : E} {b : S} (hb : OkB X C call b) : OkS X C call (.whl c b) := by
  intro x h
  have h : (match vWhl x with | some (t, xb, [], _) => chkE C c t && chkB C b xb | _ => false) = true := h
  split at h
  · rename_i t xb p ee
    have h := b2 h
    rw [vWhl_eq ee]
    exact sn_while (X := X) ((ok_all call n c).t G t h.1) (hb xb h.2)
  · cases h
theorem kS_for (G : Good X C call n) {tg : Tg} {it : E} {b : S} (hb : OkB X C call b) : OkS X C call (.for_ tg it b) := by
  intro x h
  have h : (match vFor x with | some (t, y, xb, [], _) => chkIt C it y t && (chkTg C tg t && chkB C b xb) | _ => false) = true := h
  split at h
  · rename_i t y xb p ee
    have h := b2 h; have h1 := b2 h.2
    rw [vFor_eq ee]
    obtain ⟨i1, i2⟩ := ok_it G (ok_all call n it) h.1
    exact sn_for (X := X) G.calm i1 (chk_tg G h1.1) (hb xb h1.2) i2
  · cases h
theorem kB_cons {s r : S} (hs : OkS X C call s) (hr : OkB X C call r) : OkB X C call (.cons s r) := by
  intro xs h
  cases xs with
  | nil => exact nof h
  | cons x xs =>
    have h := b2 h
    exact sn_cons (X := X.nox) (hs x h.1) (hr xs h.2)
theorem okS_all (G : Good X C call n) : ∀ s : S, OkS X C call s ∧ OkB X C call s := by
  intro s
  induction s with
  | nil => exact ⟨fun x h => nof h, fun xs h => by cases xs with | nil => exact sn_nil (X := X.nox) | cons _ _ => exact nof h⟩
  | cons s r hs hr => exact ⟨fun x h => nof h, kB_cons hs.1 hr.2⟩
  | asg tg e => exact ⟨kS_asg G, fun xs h => nof h⟩
  | setix o i e => exact ⟨kS_setix G, fun xs h => nof h⟩
  | aug i o e => exact ⟨kS_aug G, fun xs h => nof h⟩
  | ret e => exact ⟨kS_ret G, fun xs h => nof h⟩
  | retN => exact ⟨kS_retN, fun xs h => nof h⟩
  | expr e => exact ⟨kS_expr G, fun xs h => nof h⟩
  | pass => exact ⟨kS_pass, fun xs h => nof h⟩
  | brk => exact ⟨kS_brk, fun xs h => nof h⟩
  | cont => exact ⟨kS_cont, fun xs h => nof h⟩
  | ife c a b ha hb => exact ⟨kS_ife G ha.2 hb.2, fun xs h => nof h⟩
  | whl c b hb => exact ⟨kS_whl G hb.2, fun xs h => nof h⟩
  | for_ tg it b hb => exact ⟨kS_for G hb.2, fun xs h => nof h⟩
theorem sndB (G : Good X C call n) (s : S) (xs : List Stmt) (h : chkB C s xs = true) : PSs X.nox xs (tS X.K call s) := (okS_all G s).2 xs h
end
/-! ### the defs of a text, all at once -/
/-- a def as it lies in the text: its name, its statement, its parameters, all its names -/
structure Df where
  name : String
  st : Stmt
  ps : List Str
  N : List Str
def Df.scope (d : Df) : Scope := defScope d.st
def Df.cc (d : Df) (fns : List Str) : CC := ⟨d.N, d.scope.names, fns, true⟩
/-- the def is of the form, and its small body is the one told -/
def Df.ok (fns : List Str) (d : Df) (fd : FDef) : Bool :=
  decide (d.scope.kind = .function) && !d.scope.isCoroutine && !d.scope.isGenerator && decide (d.N.Nodup) && decide (d.N.take d.ps.length = d.ps) && d.ps.all (fun x => decide (d.scope.names.lookup x = some .local ∨ d.scope.names.lookup x = some .cell)) &&
  d.scope.names.all (fun p => decide (p.2 ≠ .free)) && decide (fd.np = d.ps.length) && decide (fd.ns = d.N.length) && chkB (d.cc fns) fd.body (defBody d.st)
theorem Df.sc {fns : List Str} {d : Df} {fd : FDef} (h : Df.ok fns d fd = true) : FnScope d.N d.ps (defScope d.st) ∧ fd.np = d.ps.length ∧ fd.ns = d.N.length ∧ chkB (d.cc fns) fd.body (defBody d.st) = true := by
  have h0 := b2 h; have h1 := b2 h0.1; have h2 := b2 h1.1; have h3 := b2 h2.1; have h4 := b2 h3.1; have h5 := b2 h4.1; have h6 := b2 h5.1; have h7 := b2 h6.1; have h8 := b2 h7.1
  refine ⟨⟨de h8.1, nb h8.2, nb h7.2, de h6.2, de h5.2, fun x hx => ?_, fun y hy => ?_⟩, de h2.2, de h1.2, h0.2⟩
  · exact de (List.all_eq_true.mp h4.2 x hx)
  · exact de (List.all_eq_true.mp h3.2 y hy)
/-- one def, if all defs hold with one call less -/
theorem fn_step {P : Program} {w : World} {K : PySem.W.Frag} {mg : Str → Option Value} {base : Heap} {tab : List FDef} {fns : List Str} {d : Nat} {f : Nat} {fa : Addr} {fdd : FuncData} {df : Df} {fd : FDef} (F : Fun K (Str.ofString df.name) (Str.ofString df.name) df.st fa fdd) (hf : tab[f]? = some fd) (hok : df.ok fns fd = true)
    (fnsOk : ∀ (f : Nat) (x : Str), fns[f]? = some x → ∃ fa fd ps, mg x = some (.ref fa) ∧ PySem.W.keepIn K (.ref fa) = true ∧ Binds K fd ps [] ∧ FnOk P w K mg base CX0 d fa fd ps (spF K (callD tab d) f))
    (blt : ∀ b ∈ bltNames, mg (Str.ofString b) = none) : FnOk P w K mg base CX0 (d + 1) fa fdd df.ps (spF K (callD tab (d + 1)) f) := by
  obtain ⟨S, hnp, hns, hch⟩ := Df.sc hok
  have run : ∀ {args : List PV} {st : Sto}, callD tab (d + 1) f args st = if args.length = fd.np then (ex (callD tab d) fd.body (args.map some ++ List.replicate (fd.ns - fd.np) none) st).bind fun z => match z.1 with
      | .ret v => some (v, z.2.2)
      | .next => some (.non, z.2.2)
      | _ => none else none := fun {args st} => by
    simp only [callD, hf]
    first
      | done
      | (split
         · congr 1
         · rfl)
  refine F.ok S (fun vs H Q E h => ?_) (fun cdv A outer s H vs Q E hr h => ?_)
  · obtain ⟨μ, st, args, hs, r, k⟩ := h
    rw [run] at k
    by_cases hl : args.length = fd.np
    · rw [← r.length, hl, hnp]
    · rw [if_neg hl] at k; exact k.no.elim
  · obtain ⟨μ, st, args, hs, r, k⟩ := h
    rw [run] at k
    by_cases hl : args.length = fd.np
    · rw [if_pos hl] at k
      have G : Good (cxOf CX0 P w K mg base df.N (Str.ofString df.name) (defScope df.st) fa cdv A outer s H E) (df.cc fns) (callD tab d) d :=
        ⟨rfl, rfl, S.kind, S.nd, rfl, fun _ _ => rfl, hr, fnsOk, blt⟩
      refine ⟨_, sndB G fd.body (defBody df.st) hch, μ, args.map some ++ List.replicate (fd.ns - fd.np) none, st, ?_, hs, ?_⟩
      · have hlv := r.length
        refine ⟨?_, fun i p e => ?_⟩
        · unfold L2.start
          rw [List.length_append, List.length_append, List.length_map, List.length_map, List.length_replicate, List.length_replicate, hlv, hns, hnp, ← hlv, hl, hnp]
        · by_cases hi : i < args.length
          · rw [List.getElem?_append_left (by rw [List.length_map]; exact hi), List.getElem?_map] at e
            cases ea : args[i]? with
            | none => rw [ea] at e; cases e
            | some q =>
              rw [ea] at e; cases e
              obtain ⟨v, e1, r1⟩ := r.get ea
              refine ⟨v, ?_, r1⟩
              unfold L2.start
              rw [List.getElem?_append_left (by rw [List.length_map, ← hlv]; exact hi), List.getElem?_map, e1]; rfl
          · rw [List.getElem?_append_right (by rw [List.length_map]; omega), List.getElem?_replicate] at e
            split at e <;> cases e
      · obtain ⟨rr, stE, e, q⟩ := k
        cases ee : ex (callD tab d) fd.body (args.map some ++ List.replicate (fd.ns - fd.np) none) st with
        | none => rw [ee] at e; cases e
        | some z =>
          obtain ⟨fl, L', st'⟩ := z
          rw [ee] at e
          simp only [Option.bind_some] at e
          refine ⟨fl, L', st', rfl, fun H' μ' σ' x s' l' => ?_⟩
          cases fl with
          | next => cases e; exact q .non H' μ' x s' rfl
          | ret v => cases e; exact fun u ru => q u H' μ' x s' ru
          | brk => cases e
          | cont => cases e
    · rw [if_neg hl] at k; exact k.no.elim
/-- all defs, at every depth -/
theorem all_fns {P : Program} {w : World} {K : PySem.W.Frag} {mg : Str → Option Value} {base : Heap} {tab : List FDef} {fns : List Str} (blt : ∀ b ∈ bltNames, mg (Str.ofString b) = none)
    (D : ∀ (f : Nat) (x : Str), fns[f]? = some x → ∃ df fd fa fdd, tab[f]? = some fd ∧ Df.ok fns df fd = true ∧ Fun K (Str.ofString df.name) (Str.ofString df.name) df.st fa fdd ∧ mg x = some (.ref fa) ∧ Binds K fdd df.ps []) :
    ∀ (d f : Nat) (x : Str), fns[f]? = some x → ∃ fa fd ps, mg x = some (.ref fa) ∧ PySem.W.keepIn K (.ref fa) = true ∧ Binds K fd ps [] ∧ FnOk P w K mg base CX0 d fa fd ps (spF K (callD tab d) f)
  | 0, f, x, h => by
    obtain ⟨df, fd, fa, fdd, h1, h2, h3, h4, h5⟩ := D f x h
    have no : ∀ vs H Q E, ¬ spF K (callD tab 0) f vs H Q E := fun vs H Q E ⟨μ, st, args, hs, r, k⟩ => by
      simp only [callD] at k
      exact k.no
    exact ⟨fa, fdd, df.ps, h4, h3.kp, h5, fun vs H Q E z => absurd z (no vs H Q E), fun A outer s H args us vs Q E _ _ _ _ z => absurd z (no vs H Q E)⟩
  | d + 1, f, x, h => by
    obtain ⟨df, fd, fa, fdd, h1, h2, h3, h4, h5⟩ := D f x h
    exact ⟨fa, fdd, df.ps, h4, h3.kp, h5, fn_step h3 h1 h2 (all_fns blt D d) blt⟩
/-- the law's call -/
theorem law_sp {K : PySem.W.Frag} {tab : List FDef} {d f : Nat} {H : Hp} {a : Addr} {ns : List Int} (hO : Only H) (hS : SqL K H a (ns.map V.int)) (h : ∃ st, callD tab d f [.scr ns] [] = some (.bl true, st)) :
    spF K (callD tab d) f [.ref a] H (fun v _ => v = .bl true) fun _ _ _ => False := by
  obtain ⟨st, e⟩ := h
  refine ⟨[], [], [.scr ns], ⟨rfl, List.nodup_nil, fun l a ps e1 e2 => by simp at e1⟩, RPs.one ⟨a, rfl, hS, ?_⟩, .bl true, st, e, fun v H' μ' x s' r => r⟩
  rcases hS with (h | ⟨o, h⟩) | h
  · rcases hO a with z | ⟨o, xs, z⟩
    · rw [z] at h; cases h
    · rw [z] at h; cases h
  · exact .inl ⟨o, h⟩
  · exact .inr (.inr h)
end Kw
end
section
/-! Proofs about the small language: what a run gives, loops, defs. -/
set_option linter.all false
namespace Kw
/-- the run ends, and Q of what it gives -/
def wp {α : Type} (r : Option α) (Q : α → Prop) : Prop := ∃ x, r = some x ∧ Q x
@[simp] theorem wp_some {α : Type} (x : α) (Q : α → Prop) : wp (some x) Q ↔ Q x := by
  simp [wp]
@[simp] theorem wp_none {α : Type} (Q : α → Prop) : wp (none : Option α) Q ↔ False := by
  simp [wp]
theorem wp_bind {α β : Type} (r : Option α) (f : α → Option β) (Q : β → Prop) : wp (r.bind f) Q ↔ wp r (fun x => wp (f x) Q) := by
  cases r <;> simp [wp]
theorem wp_map {α β : Type} (r : Option α) (f : α → β) (Q : β → Prop) : wp (r.map f) Q ↔ wp r (fun x => Q (f x)) := by
  cases r <;> simp [wp]
@[simp] theorem wp_ite {α : Type} (c : Prop) [Decidable c] (a b : Option α) (Q : α → Prop) : wp (if c then a else b) Q ↔ (if c then wp a Q else wp b Q) := by
  split <;> rfl
theorem wp_mono {α : Type} {r : Option α} {Q P : α → Prop} (h : wp r Q) (H : ∀ x, Q x → P x) : wp r P := by
  obtain ⟨x, e, q⟩ := h
  exact ⟨x, e, H x q⟩
theorem wp_of_eq {α : Type} {r : Option α} {x : α} {Q : α → Prop} (h : r = some x) (q : Q x) : wp r Q := ⟨x, h, q⟩
theorem wp_eq {α : Type} {r : Option α} {x : α} (h : wp r (· = x)) : r = some x := by
  obtain ⟨y, h, rfl⟩ := h; exact h
def retOf : Fl × Loc × Sto → R PV
  | (.ret v, _, st) => some (v, st)
  | (.next, _, st) => some (.non, st)
  | _ => none
@[simp] theorem retOf_ret {v : PV} {L : Loc} {st : Sto} : retOf (.ret v, L, st) = some (v, st) := rfl
@[simp] theorem retOf_next {L : Loc} {st : Sto} : retOf (.next, L, st) = some (.non, st) := rfl
theorem callD_at {tb : List FDef} {d f : Nat} {args : List PV} {st : Sto} {fd : FDef} (h : tb[f]? = some fd) (hl : args.length = fd.np) :
    callD tb (d + 1) f args st = (ex (callD tb d) fd.body (args.map some ++ List.replicate (fd.ns - fd.np) none) st).bind retOf := by
  simp only [callD, h, hl, if_true]
  congr 1
  funext z
  obtain ⟨f, L, st⟩ := z
  cases f <;> rfl
theorem wp_callD {tb : List FDef} {d f : Nat} {args : List PV} {st : Sto} {fd : FDef} {Q : PV × Sto → Prop} (h : tb[f]? = some fd) (hl : args.length = fd.np)
    (H : wp (ex (callD tb d) fd.body (args.map some ++ List.replicate (fd.ns - fd.np) none) st) (fun z => wp (retOf z) Q)) : wp (callD tb (d + 1) f args st) Q := by
  rw [callD_at h hl, wp_bind]; exact H
theorem upto_len (n : Nat) : ∀ lo : Int, (upto lo n).length = n := by
  induction n with
  | zero => intro lo; rfl
  | succ n ih => intro lo; simp [upto, ih]

section
variable {call : Nat → List PV → Sto → R PV}
/-- a name's value -/
def lk (L : Loc) (i : Nat) : Option PV := match L[i]? with
  | some (some v) => some v
  | _ => none
@[simp] theorem lk_zero (x : Option PV) (L : Loc) : lk (x :: L) 0 = x := by cases x <;> rfl
@[simp] theorem lk_succ (x : Option PV) (L : Loc) (n : Nat) : lk (x :: L) (n + 1) = lk L n := by simp [lk]
/-- an item's place, from either end -/
theorem atI_nat {xs : List PV} {i : Int} {n : Nat} {v : PV} (h : i = n) (hv : xs[n]? = some v) : atI xs i = some v := by
  subst h
  have := (List.getElem?_eq_some_iff.mp hv).1
  simp only [Kw.atI, ixN, Int.natCast_nonneg, if_true, Int.ofNat_lt, this, Option.bind_some, Int.toNat_natCast, hv]
variable (L : Loc) (st : Sto) (Q : PV × Sto → Prop)
@[simp] theorem w_var (i : Nat) : wp (ev call (.var i) L st) Q ↔ wp (lk L i) (fun v => Q (v, st)) := by
  simp only [ev, lk]; rcases L[i]? with _ | _ | v <;> simp
@[simp] theorem w_int (i : Int) : wp (ev call (.int i) L st) Q ↔ Q (.int i, st) := by simp [ev]
@[simp] theorem w_bl (b : Bool) : wp (ev call (.bl b) L st) Q ↔ Q (.bl b, st) := by simp [ev]
@[simp] theorem w_non : wp (ev call .non L st) Q ↔ Q (.non, st) := by simp [ev]
@[simp] theorem w_str (x : String) : wp (ev call (.str x) L st) Q ↔ Q (.str x, st) := by simp [ev]
@[simp] theorem w_bin (op : BOp) (a b : E) : wp (ev call (.bin op a b) L st) Q ↔ wp (ev call a L st) (fun x => wp (ev call b L x.2) (fun y => wp (binop op x.1 y.1 y.2) Q)) := by
  simp [ev, wp_bind]
@[simp] theorem w_cmp (op : COp) (a b : E) : wp (ev call (.cmp op a b) L st) Q ↔ wp (ev call a L st) (fun x => wp (ev call b L x.2) (fun y => wp (cmpop op x.1 y.1 y.2) (fun r => Q (.bl r, y.2)))) := by
  simp [ev, wp_bind]
@[simp] theorem w_is (k : Bool) (a : E) : wp (ev call (.is k a .non) L st) Q ↔ wp (ev call a L st) (fun x => Q (.bl (k != decide (x.1 = .non)), x.2)) := by
  simp [ev, wp_bind]
@[simp] theorem w_isb (k b : Bool) (a : E) : wp (ev call (.is k a (.bl b)) L st) Q ↔ wp (ev call a L st) (fun x => Q (.bl (k != decide (x.1 = .bl b)), x.2)) := by
  simp [ev, wp_bind]
@[simp] theorem w_chain (o p : COp) (a b c : E) : wp (ev call (.chain o p a b c) L st) Q ↔ wp (ev call a L st) (fun x => wp (ev call b L x.2) (fun y => wp (cmpop o x.1 y.1 y.2) (fun r =>
    if r = true then wp (ev call c L y.2) (fun z => wp (cmpop p y.1 z.1 z.2) (fun q => Q (.bl q, z.2))) else Q (.bl false, y.2)))) := by
  simp [ev, wp_bind]
/-- a truth, where it must be one -/
def isB : PV → Option Bool
  | .bl b => some b
  | _ => none
@[simp] theorem isB_bl (b : Bool) : isB (.bl b) = some b := rfl
@[simp] theorem w_and (a b : E) : wp (ev call (.and a b) L st) Q ↔ wp (ev call a L st) (fun x => wp (truthy x.2 x.1) (fun r => if r = true then wp (ev call b L x.2) Q else Q x)) := by
  simp [ev, wp_bind]
@[simp] theorem w_or (a b : E) : wp (ev call (.or a b) L st) Q ↔ wp (ev call a L st) (fun x => wp (truthy x.2 x.1) (fun r => if r = true then Q x else wp (ev call b L x.2) Q)) := by
  simp [ev, wp_bind]
@[simp] theorem w_not (a : E) : wp (ev call (.not a) L st) Q ↔ wp (ev call a L st) (fun x => wp (isB x.1) (fun r => Q (.bl (!r), x.2))) := by
  simp only [ev, wp_bind]
  apply iff_of_eq; congr 1; funext ⟨x, s⟩; cases x <;> simp [isB]
/-- a number, where it must be one -/
def isI : PV → Option Int
  | .int i => some i
  | _ => none
@[simp] theorem isI_int (i : Int) : isI (.int i) = some i := rfl
@[simp] theorem w_neg (a : E) : wp (ev call (.neg a) L st) Q ↔ wp (ev call a L st) (fun x => wp (isI x.1) (fun i => Q (.int (-i), x.2))) := by
  simp only [ev, wp_bind]
  apply iff_of_eq; congr 1; funext ⟨x, s⟩; cases x <;> simp [isI]
@[simp] theorem w_ite (c a b : E) : wp (ev call (.ite c a b) L st) Q ↔ wp (evT call c L st) (fun r => if r.1 = true then wp (ev call a L r.2) Q else wp (ev call b L r.2) Q) := by
  simp [ev, wp_bind]
@[simp] theorem w_tup (es : E) : wp (ev call (.tup es) L st) Q ↔ wp (evs call es L st) (fun x => x.1.length ≤ big ∧ Q (.tup x.1, x.2)) := by
  simp [ev, wp_bind]
@[simp] theorem w_lst (es : E) : wp (ev call (.lst es) L st) Q ↔ wp (evs call es L st) (fun x => x.1.length ≤ big ∧ Q (.ref x.2.length, x.2 ++ [.lst x.1])) := by
  simp [ev, wp_bind, alloc]
@[simp] theorem w_ix (a i : E) : wp (ev call (.ix a i) L st) Q ↔ wp (ev call a L st) (fun x => wp (ev call i L x.2) (fun y => wp (isI y.1) (fun j => wp (seqOf y.2 x.1) (fun xs => wp (Kw.atI xs j) (fun v => Q (v, y.2)))))) := by
  simp only [ev, wp_bind]
  apply iff_of_eq; congr 1; funext ⟨x, s⟩; congr 1; funext ⟨y, s⟩; cases y <;> simp [isI, wp_bind]
@[simp] theorem w_sl (a lo hi : E) : wp (ev call (.sl a lo hi) L st) Q ↔ wp (ev call a L st) (fun x => wp (evO call lo L x.2) (fun l => wp (evO call hi L l.2) (fun h => wp (slice h.2 x.1 l.1 h.1) Q))) := by
  simp [ev, wp_bind]
@[simp] theorem w_call (f : Nat) (es : E) : wp (ev call (.call f es) L st) Q ↔ wp (evs call es L st) (fun x => wp (call f x.1 x.2) Q) := by
  simp [ev, wp_bind]
@[simp] theorem w_blt (f : BF) (es : E) : wp (ev call (.blt f es) L st) Q ↔ wp (evs call es L st) (fun x => wp (bfun f x.1 x.2) Q) := by
  simp [ev, wp_bind]
@[simp] theorem w_isi (a : E) (ts : List Ty) : wp (ev call (.isi a ts) L st) Q ↔ wp (ev call a L st) (fun x => wp (isTys x.2 x.1 ts) (fun r => Q (.bl r, x.2))) := by
  simp [ev, wp_bind]
@[simp] theorem w_meth (f : MF) (o a : E) : wp (ev call (.meth f o a) L st) Q ↔ wp (ev call o L st) (fun x => wp (ev call a L x.2) (fun y => wp (mfun f x.1 y.1 y.2) Q)) := by
  simp [ev, wp_bind]
/-- what a comprehension reckons at a turn -/
def elOf (call : Nat → List PV → Sto → R PV) (e : E) (L : Loc) (st : Sto) : R PV := ev call e L st
def tsOf (call : Nat → List PV → Sto → R PV) (e : E) (L : Loc) (st : Sto) : R Bool := evTs call e L st
def bdOf (call : Nat → List PV → Sto → R PV) (s : S) (L : Loc) (st : Sto) : RS := ex call s L st
theorem w_el (e : E) : wp (elOf call e L st) Q ↔ wp (ev call e L st) Q := Iff.rfl
theorem w_tsO (e : E) (Q : Bool × Sto → Prop) : wp (tsOf call e L st) Q ↔ wp (evTs call e L st) Q := Iff.rfl
theorem tsOf_nil : tsOf call .nil = fun _ s => some (true, s) := by funext L s; simp [tsOf, evTs]
@[simp] theorem w_comp (el : E) (tg : Tg) (n m : Nat) (it ifs : E) : wp (ev call (.comp el tg n m it ifs) L st) Q ↔
    wp (evI call it L st) (fun x => L.length = n ∧ wp (compItems tg x.2.1 (tsOf call ifs) (elOf call el) (L ++ List.replicate m none) x.1 x.2.2) (fun y => y.1.length ≤ big ∧ Q (.ref y.2.length, y.2 ++ [.lst y.1]))) := by
  simp [ev, wp_bind, alloc]; rfl
-- tests
theorem wT_of (e : E) (Q : Bool × Sto → Prop) (h : ∀ L st, evT call e L st = (ev call e L st).bind fun (x, st1) => (truthy st1 x).bind fun r => some (r, st1)) : wp (evT call e L st) Q ↔ wp (ev call e L st) (fun x => wp (truthy x.2 x.1) (fun r => Q (r, x.2))) := by
  simp [h, wp_bind]
section
variable (Q : Bool × Sto → Prop)
@[simp] theorem wT_not (a : E) : wp (evT call (.not a) L st) Q ↔ wp (evT call a L st) (fun r => Q (!r.1, r.2)) := by simp [evT, wp_bind]
@[simp] theorem wT_and (a b : E) : wp (evT call (.and a b) L st) Q ↔ wp (evT call a L st) (fun r => if r.1 = true then wp (evT call b L r.2) Q else Q (false, r.2)) := by simp [evT, wp_bind]
@[simp] theorem wT_or (a b : E) : wp (evT call (.or a b) L st) Q ↔ wp (evT call a L st) (fun r => if r.1 = true then Q (true, r.2) else wp (evT call b L r.2) Q) := by simp [evT, wp_bind]
@[simp] theorem wT_ite (c a b : E) : wp (evT call (.ite c a b) L st) Q ↔ wp (evT call c L st) (fun r => if r.1 = true then wp (evT call a L r.2) Q else wp (evT call b L r.2) Q) := by simp [evT, wp_bind]
@[simp] theorem wT_var (i : Nat) : wp (evT call (.var i) L st) Q ↔ wp (ev call (.var i) L st) (fun x => wp (truthy x.2 x.1) (fun r => Q (r, x.2))) := wT_of _ _ _ _ fun _ _ => by simp only [evT]
@[simp] theorem wT_bl (i : Bool) : wp (evT call (.bl i) L st) Q ↔ wp (ev call (.bl i) L st) (fun x => wp (truthy x.2 x.1) (fun r => Q (r, x.2))) := wT_of _ _ _ _ fun _ _ => by simp only [evT]
@[simp] theorem wT_cmp (o : COp) (a b : E) : wp (evT call (.cmp o a b) L st) Q ↔ wp (ev call (.cmp o a b) L st) (fun x => wp (truthy x.2 x.1) (fun r => Q (r, x.2))) := wT_of _ _ _ _ fun _ _ => by simp only [evT]
@[simp] theorem wT_chain (o p : COp) (a b c : E) : wp (evT call (.chain o p a b c) L st) Q ↔ wp (ev call (.chain o p a b c) L st) (fun x => wp (truthy x.2 x.1) (fun r => Q (r, x.2))) := wT_of _ _ _ _ fun _ _ => by simp only [evT]
@[simp] theorem wT_is (k : Bool) (a b : E) : wp (evT call (.is k a b) L st) Q ↔ wp (ev call (.is k a b) L st) (fun x => wp (truthy x.2 x.1) (fun r => Q (r, x.2))) := wT_of _ _ _ _ fun _ _ => by simp only [evT]
@[simp] theorem wT_isi (a : E) (ts : List Ty) : wp (evT call (.isi a ts) L st) Q ↔ wp (ev call (.isi a ts) L st) (fun x => wp (truthy x.2 x.1) (fun r => Q (r, x.2))) := wT_of _ _ _ _ fun _ _ => by simp only [evT]
@[simp] theorem wT_call (f : Nat) (es : E) : wp (evT call (.call f es) L st) Q ↔ wp (ev call (.call f es) L st) (fun x => wp (truthy x.2 x.1) (fun r => Q (r, x.2))) := wT_of _ _ _ _ fun _ _ => by simp only [evT]
@[simp] theorem wT_blt (f : BF) (es : E) : wp (evT call (.blt f es) L st) Q ↔ wp (ev call (.blt f es) L st) (fun x => wp (truthy x.2 x.1) (fun r => Q (r, x.2))) := wT_of _ _ _ _ fun _ _ => by simp only [evT]
@[simp] theorem wT_bin (f : BOp) (a b : E) : wp (evT call (.bin f a b) L st) Q ↔ wp (ev call (.bin f a b) L st) (fun x => wp (truthy x.2 x.1) (fun r => Q (r, x.2))) := wT_of _ _ _ _ fun _ _ => by simp only [evT]
@[simp] theorem wT_ix (a b : E) : wp (evT call (.ix a b) L st) Q ↔ wp (ev call (.ix a b) L st) (fun x => wp (truthy x.2 x.1) (fun r => Q (r, x.2))) := wT_of _ _ _ _ fun _ _ => by simp only [evT]
@[simp] theorem wTs_nil : wp (evTs call .nil L st) Q ↔ Q (true, st) := by simp [evTs]
@[simp] theorem wTs_cons (e es : E) : wp (evTs call (.cons e es) L st) Q ↔ wp (evT call e L st) (fun r => if r.1 = true then wp (evTs call es L r.2) Q else Q (false, r.2)) := by simp [evTs, wp_bind]
end
@[simp] theorem ws_nil (Q : List PV × Sto → Prop) : wp (evs call .nil L st) Q ↔ Q ([], st) := by simp [evs]
@[simp] theorem ws_cons (e es : E) (Q : List PV × Sto → Prop) : wp (evs call (.cons e es) L st) Q ↔ wp (ev call e L st) (fun x => wp (evs call es L x.2) (fun xs => Q (x.1 :: xs.1, xs.2))) := by simp [evs, wp_bind]
-- the ends of a cut
section
variable (Q : Option Int × Sto → Prop)
@[simp] theorem wO_none : wp (evO call .none L st) Q ↔ Q (none, st) := by simp [evO]
theorem wO_of (e : E) (h : e ≠ .none) : wp (evO call e L st) Q ↔ wp (ev call e L st) (fun x => wp (isI x.1) (fun i => Q (some i, x.2))) := by
  have : evO call e L st = (ev call e L st).bind fun (x, st1) => match x with
    | .int i => some (some i, st1)
    | _ => none := by cases e <;> first | (exact absurd rfl h) | (simp only [evO]; done) | (simp only [evO]; rfl)
  rw [this, wp_bind]
  apply iff_of_eq; congr 1; funext ⟨x, s⟩; cases x <;> simp [isI]
@[simp] theorem wO_int (i : Int) : wp (evO call (.int i) L st) Q ↔ Q (some i, st) := by rw [wO_of _ _ _ _ (by simp)]; simp
@[simp] theorem wO_var (i : Nat) : wp (evO call (.var i) L st) Q ↔ wp (ev call (.var i) L st) (fun x => wp (isI x.1) (fun i => Q (some i, x.2))) := wO_of _ _ _ _ (by simp)
@[simp] theorem wO_bin (f : BOp) (a b : E) : wp (evO call (.bin f a b) L st) Q ↔ wp (ev call (.bin f a b) L st) (fun x => wp (isI x.1) (fun i => Q (some i, x.2))) := wO_of _ _ _ _ (by simp)
@[simp] theorem wO_ix (a b : E) : wp (evO call (.ix a b) L st) Q ↔ wp (ev call (.ix a b) L st) (fun x => wp (isI x.1) (fun i => Q (some i, x.2))) := wO_of _ _ _ _ (by simp)
@[simp] theorem wO_blt (f : BF) (a : E) : wp (evO call (.blt f a) L st) Q ↔ wp (ev call (.blt f a) L st) (fun x => wp (isI x.1) (fun i => Q (some i, x.2))) := wO_of _ _ _ _ (by simp)
@[simp] theorem wO_call (f : Nat) (a : E) : wp (evO call (.call f a) L st) Q ↔ wp (ev call (.call f a) L st) (fun x => wp (isI x.1) (fun i => Q (some i, x.2))) := wO_of _ _ _ _ (by simp)
end
-- walks
section
variable (Q : List PV × Gd × Sto → Prop)
@[simp] theorem wI_rng (a : E) : wp (evI call (.rng a) L st) Q ↔ wp (ev call a L st) (fun x => wp (isI x.1) (fun j => small62 j = true ∧ Q (upto 0 j.toNat, [], x.2))) := by
  simp only [evI, wp_bind]
  apply iff_of_eq; congr 1; funext ⟨x, s⟩; cases x <;> simp [isI]
@[simp] theorem wI_rng2 (a b : E) : wp (evI call (.rng2 a b) L st) Q ↔ wp (ev call a L st) (fun x => wp (ev call b L x.2) (fun y => wp (isI x.1) (fun i => wp (isI y.1) (fun j => (small62 i && small62 j) = true ∧ Q (upto i (j - i).toNat, [], y.2))))) := by
  simp only [evI, wp_bind]
  apply iff_of_eq; congr 1; funext ⟨x, s⟩; congr 1; funext ⟨y, s⟩; cases x <;> cases y <;> simp [isI]
@[simp] theorem wI_zip (a b : E) : wp (evI call (.zip a b) L st) Q ↔ wp (ev call a L st) (fun x => wp (ev call b L x.2) (fun y => wp (seqOf y.2 x.1) (fun xs => wp (seqOf y.2 y.1) (fun ys => Q (xs.zipWith (fun p q => .tup [p, q]) ys, gdOf x.1 xs ++ gdOf y.1 ys, y.2))))) := by
  simp [evI, wp_bind]
@[simp] theorem wI_enum (a : E) : wp (evI call (.enum a) L st) Q ↔ wp (ev call a L st) (fun x => wp (seqOf x.2 x.1) (fun xs => Q ((upto 0 xs.length).zipWith (fun p q => .tup [p, q]) xs, gdOf x.1 xs, x.2))) := by
  simp [evI, wp_bind]
theorem wI_of (e : E) (h : ∀ L st, evI call e L st = (ev call e L st).bind fun (x, st1) => (seqOf st1 x).bind fun xs => some (xs, gdOf x xs, st1)) : wp (evI call e L st) Q ↔ wp (ev call e L st) (fun x => wp (seqOf x.2 x.1) (fun xs => Q (xs, gdOf x.1 xs, x.2))) := by
  simp [h, wp_bind]
@[simp] theorem wI_var (i : Nat) : wp (evI call (.var i) L st) Q ↔ wp (ev call (.var i) L st) (fun x => wp (seqOf x.2 x.1) (fun xs => Q (xs, gdOf x.1 xs, x.2))) := wI_of _ _ _ _ fun _ _ => by simp only [evI]
@[simp] theorem wI_call (f : Nat) (es : E) : wp (evI call (.call f es) L st) Q ↔ wp (ev call (.call f es) L st) (fun x => wp (seqOf x.2 x.1) (fun xs => Q (xs, gdOf x.1 xs, x.2))) := wI_of _ _ _ _ fun _ _ => by simp only [evI]
@[simp] theorem wI_ix (a b : E) : wp (evI call (.ix a b) L st) Q ↔ wp (ev call (.ix a b) L st) (fun x => wp (seqOf x.2 x.1) (fun xs => Q (xs, gdOf x.1 xs, x.2))) := wI_of _ _ _ _ fun _ _ => by simp only [evI]
@[simp] theorem wI_lst (a : E) : wp (evI call (.lst a) L st) Q ↔ wp (ev call (.lst a) L st) (fun x => wp (seqOf x.2 x.1) (fun xs => Q (xs, gdOf x.1 xs, x.2))) := wI_of _ _ _ _ fun _ _ => by simp only [evI]
@[simp] theorem wI_sl (a b c : E) : wp (evI call (.sl a b c) L st) Q ↔ wp (ev call (.sl a b c) L st) (fun x => wp (seqOf x.2 x.1) (fun xs => Q (xs, gdOf x.1 xs, x.2))) := wI_of _ _ _ _ fun _ _ => by simp only [evI]
end
-- operators
@[simp] theorem b_add (i j : Int) : binop .add (.int i) (.int j) st = some (.int (i + j), st) := rfl
@[simp] theorem b_sub (i j : Int) : binop .sub (.int i) (.int j) st = some (.int (i - j), st) := rfl
@[simp] theorem b_mul (i j : Int) : binop .mul (.int i) (.int j) st = if small i || small j then some (.int (i * j), st) else none := rfl
@[simp] theorem b_fdiv (i j : Int) : binop .fdiv (.int i) (.int j) st = if 0 < j ∧ j < 1073741824 then some (.int (i / j), st) else none := rfl
@[simp] theorem b_mod (i j : Int) : binop .mod (.int i) (.int j) st = if 0 < j then some (.int (i % j), st) else none := rfl
@[simp] theorem b_pow (i j : Int) : binop .pow (.int i) (.int j) st = if 0 ≤ j ∧ j ≤ 1000 ∧ small i then some (.int (i ^ j.toNat), st) else none := rfl
@[simp] theorem b_addt (xs ys : List PV) : binop .add (.tup xs) (.tup ys) st = if xs.length + ys.length ≤ big then some (.tup (xs ++ ys), st) else none := rfl
@[simp] theorem b_rep (l : Nat) (k : Int) : wp (binop .mul (.ref l) (.int k) st) Q ↔ wp (listOf st (.ref l)) (fun xs => -(2 ^ 63) ≤ k ∧ k < 2 ^ 63 ∧ xs.length * k.toNat ≤ big ∧ Q (.ref st.length, st ++ [.lst (List.replicate k.toNat xs).flatten])) := by
  simp only [binop, listOf]; rcases st[l]? with _ | ⟨xs⟩ <;> simp [and_assoc]
@[simp] theorem b_addl (l m : Nat) : wp (binop .add (.ref l) (.ref m) st) Q ↔ wp (listOf st (.ref l)) (fun xs => wp (listOf st (.ref m)) (fun ys => xs.length + ys.length ≤ big ∧ Q (.ref st.length, st ++ [.lst (xs ++ ys)]))) := by
  simp only [binop, listOf]; rcases st[l]? with _ | ⟨xs⟩ <;> rcases st[m]? with _ | ⟨ys⟩ <;> simp [alloc]
@[simp] theorem c_eq (a b : PV) : cmpop .eq a b st = eqv st a b := rfl
@[simp] theorem c_ne (a b : PV) : cmpop .ne a b st = (eqv st a b).map (!·) := rfl
@[simp] theorem c_lt (i j : Int) : cmpop .lt (.int i) (.int j) st = some (decide (i < j)) := rfl
@[simp] theorem c_le (i j : Int) : cmpop .le (.int i) (.int j) st = some (decide (i ≤ j)) := rfl
@[simp] theorem c_gt (i j : Int) : cmpop .gt (.int i) (.int j) st = some (decide (j < i)) := rfl
@[simp] theorem c_ge (i j : Int) : cmpop .ge (.int i) (.int j) st = some (decide (j ≤ i)) := rfl
@[simp] theorem c_ltt (xs ys : List PV) (Q : Bool → Prop) : wp (cmpop .lt (.tup xs) (.tup ys) st) Q ↔ wp (intsOf xs) (fun a => wp (intsOf ys) (fun b => Q (lexLt a b))) := by simp [cmpop, wp_bind]
@[simp] theorem c_in (a b : PV) : cmpop .isin a b st = inv st a b := by cases a <;> rfl
@[simp] theorem c_notin (a b : PV) : cmpop .notin a b st = (inv st a b).map (!·) := by cases a <;> rfl
@[simp] theorem e_ni (j : Int) : eqv st .non (.int j) = some false := rfl
@[simp] theorem e_in (j : Int) : eqv st (.int j) .non = some false := rfl
@[simp] theorem e_nn : eqv st .non .non = some true := rfl
@[simp] theorem e_ii (i j : Int) : eqv st (.int i) (.int j) = some (i == j) := rfl
@[simp] theorem e_ss (i j : String) : eqv st (.str i) (.str j) = some (i == j) := rfl
@[simp] theorem e_bb (i j : Bool) : eqv st (.bl i) (.bl j) = some (i == j) := rfl
@[simp] theorem q_tup (xs : List PV) : seqOf st (.tup xs) = some xs := rfl
@[simp] theorem q_ref (l : Nat) : seqOf st (.ref l) = listOf st (.ref l) := rfl
@[simp] theorem q_scr (ns : List Int) : seqOf st (.scr ns) = some (ns.map .int) := rfl
@[simp] theorem l_scr (ns : List Int) : listOf st (.scr ns) = some (ns.map .int) := rfl
theorem l_ref {st : Sto} {l : Nat} {xs : List PV} (h : st[l]? = some (.lst xs)) : listOf st (.ref l) = some xs := by simp [listOf, h]
@[simp] theorem l_new (xs : List PV) : listOf (st ++ [.lst xs]) (.ref st.length) = some xs := by simp [listOf]
@[simp] theorem t_bl (b : Bool) : truthy st (.bl b) = some b := rfl
@[simp] theorem t_int (b : Int) : truthy st (.int b) = some (b != 0) := rfl
@[simp] theorem t_non : truthy st .non = some false := rfl
@[simp] theorem t_tup (xs : List PV) : truthy st (.tup xs) = some (!xs.isEmpty) := rfl
@[simp] theorem f_len (v : PV) (Q : PV × Sto → Prop) : wp (bfun .len [v] st) Q ↔ wp (seqOf st v) (fun xs => Q (.int xs.length, st)) := by simp [bfun, wp_bind]
@[simp] theorem f_abs (i : Int) : bfun .abs [.int i] st = some (.int (if i < 0 then -i else i), st) := rfl
@[simp] theorem f_int (i : Int) : bfun .int [.int i] st = some (.int i, st) := rfl
@[simp] theorem f_intb (b : Bool) : bfun .int [.bl b] st = some (.int (if b then 1 else 0), st) := rfl
@[simp] theorem f_sum (v : PV) : wp (bfun .sum [v] st) Q ↔ wp (listOf st v) (fun xs => wp (sumI xs) (fun n => Q (.int n, st))) := by simp [bfun, wp_bind]
@[simp] theorem f_all (v : PV) : wp (bfun .all [v] st) Q ↔ wp (listOf st v) (fun xs => wp (bools xs) (fun bs => Q (.bl (bs.all id), st))) := by simp [bfun, wp_bind]
@[simp] theorem f_any (v : PV) : wp (bfun .any [v] st) Q ↔ wp (listOf st v) (fun xs => wp (bools xs) (fun bs => Q (.bl (bs.any id), st))) := by simp [bfun, wp_bind]
@[simp] theorem f_min (i j : Int) : bfun .min [.int i, .int j] st = some (.int (if j < i then j else i), st) := rfl
@[simp] theorem f_max (i j : Int) : bfun .max [.int i, .int j] st = some (.int (if j > i then j else i), st) := rfl
@[simp] theorem f_tuple (v : PV) : wp (bfun .tuple [v] st) Q ↔ wp (seqOf st v) (fun xs => Q (.tup xs, st)) := by simp [bfun, wp_bind]
@[simp] theorem f_list (v : PV) : wp (bfun .list [v] st) Q ↔ wp (seqOf st v) (fun xs => Q (.ref st.length, st ++ [.lst xs])) := by simp [bfun, wp_bind]
@[simp] theorem m_append (l : Nat) (v : PV) : wp (mfun .append (.ref l) v st) Q ↔ wp (listOf st (.ref l)) (fun xs => xs.length < big ∧ Q (.non, st.set l (.lst (xs ++ [v])))) := by
  simp only [mfun, listOf]; rcases st[l]? with _ | ⟨xs⟩ <;> simp
@[simp] theorem m_extT (l : Nat) (ys : List PV) : wp (mfun .extend (.ref l) (.tup ys) st) Q ↔ wp (listOf st (.ref l)) (fun xs => xs.length + ys.length ≤ big ∧ Q (.non, st.set l (.lst (xs ++ ys)))) := by
  simp only [mfun, listOf, extV]; rcases st[l]? with _ | ⟨xs⟩ <;> simp
@[simp] theorem m_extL (l m : Nat) : wp (mfun .extend (.ref l) (.ref m) st) Q ↔ wp (listOf st (.ref l)) (fun xs => wp (listOf st (.ref m)) (fun ys => xs.length + ys.length ≤ big ∧ Q (.non, st.set l (.lst (xs ++ ys))))) := by
  simp only [mfun, listOf, extV]; rcases st[l]? with _ | ⟨xs⟩ <;> rcases st[m]? with _ | ⟨ys⟩ <;> simp
@[simp] theorem f_min1 (v : PV) : wp (bfun .min [v] st) Q ↔ wp (listOf st v) (fun xs => wp (minL xs) (fun m => Q (m, st))) := by
  cases v <;> simp [bfun, wp_bind]
@[simp] theorem y_shn (d : D) (t : Ty) : isTy st (.shn d) t = some (t == .str) := rfl
@[simp] theorem y_tup (xs : List PV) (t : Ty) : isTy st (.tup xs) t = some (t == .tuple) := rfl
@[simp] theorem y_int (i : Int) (t : Ty) : isTy st (.int i) t = some (t == .int) := rfl
@[simp] theorem y_bl (b : Bool) (t : Ty) : isTy st (.bl b) t = some (t == .int || t == .bool) := rfl
@[simp] theorem y_str (x : String) (t : Ty) : isTy st (.str x) t = some (t == .str) := rfl
@[simp] theorem y_non (t : Ty) : isTy st .non t = some false := rfl
@[simp] theorem y_ref (l : Nat) (t : Ty) (Q : Bool → Prop) : wp (isTy st (.ref l) t) Q ↔ wp (listOf st (.ref l)) (fun _ => Q (t == .list)) := by
  simp only [isTy, listOf]; rcases st[l]? with _ | ⟨xs⟩ <;> simp
@[simp] theorem ys_nil (v : PV) : isTys st v [] = some false := rfl
@[simp] theorem ys_cons (v : PV) (t : Ty) (r : List Ty) (Q : Bool → Prop) : wp (isTys st v (t :: r)) Q ↔ wp (isTy st v t) (fun a => wp (isTys st v r) (fun b => Q (a || b))) := by simp [isTys, wp_bind]
end
-- statements
section
variable {call : Nat → List PV → Sto → R PV}
/-- what is behind a statement -/
def after (call : Nat → List PV → Sto → R PV) (r : S) (Q : Fl × Loc × Sto → Prop) : Fl × Loc × Sto → Prop
  | (.next, L, st) => wp (ex call r L st) Q
  | z => Q z
variable (L : Loc) (st : Sto) (Q : Fl × Loc × Sto → Prop)
@[simp] theorem after_next (r : S) : after call r Q (.next, L, st) ↔ wp (ex call r L st) Q := Iff.rfl
@[simp] theorem after_ret (r : S) (v : PV) : after call r Q (.ret v, L, st) ↔ Q (.ret v, L, st) := Iff.rfl
@[simp] theorem after_brk (r : S) : after call r Q (.brk, L, st) ↔ Q (.brk, L, st) := Iff.rfl
@[simp] theorem after_cont (r : S) : after call r Q (.cont, L, st) ↔ Q (.cont, L, st) := Iff.rfl
theorem after_nil : after call .nil Q = Q := by
  funext ⟨f, L, st⟩; cases f <;> simp [after, ex]
@[simp] theorem x_nil : wp (ex call .nil L st) Q ↔ Q (.next, L, st) := by simp [ex]
@[simp] theorem x_cons (s r : S) : wp (ex call (.cons s r) L st) Q ↔ wp (ex call s L st) (after call r Q) := by
  simp only [ex, wp_bind]
  apply iff_of_eq; congr 1; funext ⟨f, L, st⟩; cases f <;> simp [after]
@[simp] theorem x_asg (tg : Tg) (e : E) : wp (ex call (.asg tg e) L st) Q ↔ wp (ev call e L st) (fun x => wp (asgT tg x.1 L x.2) (fun L1 => Q (.next, L1, x.2))) := by
  simp [ex, wp_bind, wp_map]
@[simp] theorem x_ret (e : E) : wp (ex call (.ret e) L st) Q ↔ wp (ev call e L st) (fun x => Q (.ret x.1, L, x.2)) := by simp [ex, wp_map]
@[simp] theorem x_retN : wp (ex call .retN L st) Q ↔ Q (.ret .non, L, st) := by simp [ex]
@[simp] theorem x_expr (e : E) : wp (ex call (.expr e) L st) Q ↔ wp (ev call e L st) (fun x => Q (.next, L, x.2)) := by simp [ex, wp_map]
@[simp] theorem x_pass : wp (ex call .pass L st) Q ↔ Q (.next, L, st) := by simp [ex]
@[simp] theorem x_brk : wp (ex call .brk L st) Q ↔ Q (.brk, L, st) := by simp [ex]
@[simp] theorem x_cont : wp (ex call .cont L st) Q ↔ Q (.cont, L, st) := by simp [ex]
@[simp] theorem x_ife (c : E) (a b : S) : wp (ex call (.ife c a b) L st) Q ↔ wp (evT call c L st) (fun r => if r.1 = true then wp (ex call a L r.2) Q else wp (ex call b L r.2) Q) := by simp [ex, wp_bind]
@[simp] theorem x_for (tg : Tg) (it : E) (b : S) : wp (ex call (.for_ tg it b) L st) Q ↔ wp (evI call it L st) (fun x => wp (forItems tg x.2.1 (bdOf call b) x.1 L x.2.2) Q) := by
  simp [ex, wp_bind]; rfl
theorem w_bd (s : S) : wp (bdOf call s L st) Q ↔ wp (ex call s L st) Q := Iff.rfl
theorem x_whl (c : E) (b : S) : wp (ex call (.whl c b) L st) Q ↔ wp (whileN (fun L1 s1 => evT call c L1 s1) (bdOf call b) big L st) Q := by simp [ex]; rfl
/-- where an item is set -/
def setI (v : PV) (st : Sto) (a j : PV) (Q : Sto → Prop) : Prop := match a, j with
  | .ref l, .int k => wp (listOf st (.ref l)) (fun xs => wp (ixN xs.length k) (fun n => Q (st.set l (.lst (xs.set n v)))))
  | _, _ => False
@[simp] theorem setI_ri (v : PV) (l : Nat) (k : Int) (Q : Sto → Prop) : setI v st (.ref l) (.int k) Q ↔ wp (listOf st (.ref l)) (fun xs => wp (ixN xs.length k) (fun n => Q (st.set l (.lst (xs.set n v))))) := Iff.rfl
@[simp] theorem x_setix (o i e : E) : wp (ex call (.setix o i e) L st) Q ↔ wp (ev call e L st) (fun x => wp (ev call o L x.2) (fun a => wp (ev call i L a.2) (fun j => setI x.1 j.2 a.1 j.1 (fun s => Q (.next, L, s))))) := by
  simp only [ex, wp_bind]
  apply iff_of_eq; congr 1; funext ⟨x, s⟩; congr 1; funext ⟨a, s⟩; congr 1; funext ⟨j, s⟩
  cases a <;> cases j <;> simp [setI]
  rename_i l k
  simp only [listOf]; rcases s[l]? with _ | ⟨xs⟩ <;> simp [wp_map]
@[simp] theorem x_aug (i : Nat) (op : BOp) (e : E) : wp (ex call (.aug i op e) L st) Q ↔ wp (lk L i) (fun a => wp (isI a) (fun a => wp (ev call e L st) (fun x => wp (isI x.1) (fun b => match op with
    | .add => Q (.next, L.set i (some (.int (a + b))), x.2)
    | .sub => Q (.next, L.set i (some (.int (a - b))), x.2)
    | _ => False)))) := by
  simp only [ex, lk]
  rcases L[i]? with _ | _ | v
  · simp
  · simp
  · cases v <;> simp [isI, wp_bind]
    apply iff_of_eq; congr 1; funext ⟨x, s⟩
    cases x <;> cases op <;> simp [isI]
@[simp] theorem a_nm (i : Nat) (v : PV) (st : Sto) : asgT (.nm i) v L st = some (L.set i (some v)) := rfl
@[simp] theorem a_tp (is : List Nat) (xs : List PV) (st : Sto) : asgT (.tp is) (.tup xs) L st = setAll L is xs := rfl
@[simp] theorem sa_nil : setAll L [] [] = some L := by simp [setAll]
@[simp] theorem sa_cons (i : Nat) (is : List Nat) (v : PV) (vs : List PV) : setAll L (i :: is) (v :: vs) = setAll (L.set i (some v)) is vs := by simp [setAll]
end

/-- a loop over a range, by an invariant of the count -/
theorem wp_for_upto {tg : Nat} {body : Loc → Sto → RS} {I : Nat → Loc → Sto → Prop} {Q : Fl × Loc × Sto → Prop} (n : Nat) :
    ∀ (i : Nat) (L : Loc) (st : Sto), I i L st →
    (∀ j L st, i ≤ j → j < i + n → I j L st → wp (body (L.set tg (some (.int (j : Int)))) st) (fun z => match z with
      | (.next, L', st') => I (j + 1) L' st'
      | (.cont, L', st') => I (j + 1) L' st'
      | (.brk, L', st') => Q (.next, L', st')
      | (.ret v, L', st') => Q (.ret v, L', st'))) →
    (∀ L st, I (i + n) L st → Q (.next, L, st)) →
    wp (forItems (.nm tg) [] body (upto (i : Int) n) L st) Q := by
  induction n with
  | zero =>
    intro i L st h _ E
    simp only [upto, forItems, okG, List.all_nil, if_true, wp_some]
    exact E L st h
  | succ n ih =>
    intro i L st h B E
    simp only [upto, forItems, okG, List.all_nil, if_true, asgT, Option.bind_some, wp_bind]
    refine wp_mono (B i L st (Nat.le_refl _) (by omega) h) ?_
    rintro ⟨f, L', st'⟩ h'
    have go : I (i + 1) L' st' → wp (forItems (.nm tg) [] body (upto ((i : Int) + 1) n) L' st') Q := by
      intro h'
      have := ih (i + 1) L' st' h' (fun j L st hj hj' => B j L st (by omega) (by omega)) (fun L st h => E L st (by rw [show i + (n + 1) = i + 1 + n by omega]; exact h))
      simpa using this
    cases f with
    | next => exact go h'
    | cont => exact go h'
    | brk => simpa [wp_some] using h'
    | ret v => simpa [wp_some] using h'
/-- a comprehension over a range, without tests -/
theorem wp_comp_upto {tg : Nat} {el : Loc → Sto → R PV} {call : Nat → List PV → Sto → R PV} {L : Loc} {I : Nat → List PV → Sto → Prop} {Q : List PV × Sto → Prop} (n : Nat) :
    ∀ (i : Nat) (acc : List PV) (st : Sto), I i acc st →
    (∀ j acc st, i ≤ j → j < i + n → I j acc st → wp (el (L.set tg (some (.int (j : Int)))) st) (fun z => I (j + 1) (acc ++ [z.1]) z.2)) →
    (∀ ys st, I (i + n) (acc ++ ys) st → Q (ys, st)) →
    wp (compItems (.nm tg) [] (tsOf call .nil) el L (upto (i : Int) n) st) Q := by
  rw [tsOf_nil]
  induction n generalizing Q with
  | zero =>
    intro i acc st h _ E
    simp only [upto, compItems, okG, List.all_nil, if_true, wp_some]
    exact E [] st (by simpa using h)
  | succ n ih =>
    intro i acc st h B E
    simp only [upto, compItems, okG, List.all_nil, if_true, asgT, Option.bind_some, wp_bind]
    refine wp_mono (B i acc st (Nat.le_refl _) (by omega) h) ?_
    rintro ⟨v, st'⟩ h'
    have := ih (Q := fun z => Q (v :: z.1, z.2)) (i + 1) (acc ++ [v]) st' h' (fun j L st hj hj' => B j L st (by omega) (by omega)) (fun ys st h => E (v :: ys) st (by rw [show i + (n + 1) = i + 1 + n by omega]; simpa using h))
    simpa [wp_some] using this
inductive All2 {α β : Type} (P : α → β → Prop) : List α → List β → Prop where
  | nil : All2 P [] []
  | cons {a b r q} : P a b → All2 P r q → All2 P (a :: r) (b :: q)
theorem All2.len {α β : Type} {P : α → β → Prop} {xs : List α} {ys : List β} (h : All2 P xs ys) : xs.length = ys.length := by
  induction h with
  | nil => rfl
  | cons _ _ ih => simp [ih]
theorem okG_of {st st' : Sto} {gs : Gd} (h : okG st gs = true) (H : ∀ p ∈ gs, st'[p.1]? = st[p.1]?) : okG st' gs = true := by
  simp only [okG, List.all_eq_true, decide_eq_true_eq] at h ⊢
  intro p hp
  rw [← h p hp]; simp only [listOf, H p hp]
/-- a comprehension over any items, without tests, that keeps something of the store -/
theorem wp_comp_all {tg : Tg} {gs : Gd} {el : Loc → Sto → R PV} {call : Nat → List PV → Sto → R PV} {L : Loc} {I : Sto → Prop} {P : PV → PV → Prop} {Q : List PV × Sto → Prop} :
    ∀ (xs : List PV) (st : Sto), I st → (∀ s, I s → okG s gs = true) →
    (∀ x ∈ xs, ∀ st, I st → wp (asgT tg x L st) (fun L1 => wp (el L1 st) (fun z => P x z.1 ∧ I z.2))) →
    (∀ ys st, All2 P xs ys → I st → Q (ys, st)) →
    wp (compItems tg gs (tsOf call .nil) el L xs st) Q := by
  rw [tsOf_nil]
  intro xs
  induction xs generalizing Q with
  | nil =>
    intro st h hG _ E
    simp only [compItems, hG _ h, if_true, wp_some]
    exact E [] st .nil h
  | cons x xs ih =>
    intro st h hG B E
    simp only [compItems, hG _ h, if_true, Option.bind_some, wp_bind, wp_some]
    refine wp_mono (B x (List.mem_cons_self ..) st h) ?_
    intro L1 hL
    refine wp_mono hL ?_
    rintro ⟨v, st'⟩ ⟨hp, h'⟩
    have := ih (Q := fun z => Q (v :: z.1, z.2)) st' h' hG (fun x hx => B x (List.mem_cons_of_mem _ hx)) (fun ys st hf h => E (v :: ys) st (.cons hp hf) h)
    simpa [wp_some] using this
/-- a list of the store changes at most; others may come -/
def Fr (l : Nat) (st st' : Sto) : Prop := st.length ≤ st'.length ∧ ∀ i, i < st.length → i ≠ l → st'[i]? = st[i]?
theorem Fr.rfl {l : Nat} {st : Sto} : Fr l st st := ⟨Nat.le_refl _, fun _ _ _ => Eq.refl _⟩
theorem Fr.trans {l : Nat} {a b c : Sto} (h : Fr l a b) (k : Fr l b c) : Fr l a c :=
  ⟨Nat.le_trans h.1 k.1, fun i hi hn => (k.2 i (Nat.lt_of_lt_of_le hi h.1) hn).trans (h.2 i hi hn)⟩
theorem Fr.set {l : Nat} {st : Sto} {o : PO} : Fr l st (st.set l o) := ⟨by simp, fun i _ hn => by rw [List.getElem?_set_ne]; exact fun e => hn e.symm⟩
theorem Fr.app {l : Nat} {st : Sto} {o : List PO} : Fr l st (st ++ o) := ⟨by simp, fun i hi _ => by rw [List.getElem?_append_left hi]⟩
theorem Fr.at {l : Nat} {st st' : Sto} (h : Fr l st st') {i : Nat} {o : PO} (e : st[i]? = some o) (hn : i ≠ l) : st'[i]? = some o :=
  (h.2 i (List.getElem?_eq_some_iff.mp e).1 hn).trans e
/-- a loop over any items, by an invariant of what is done -/
theorem wp_for_each {α : Type} {tg : Tg} {gs : Gd} {body : Loc → Sto → RS} {f : α → PV} {I : List α → Loc → Sto → Prop} {Q : Fl × Loc × Sto → Prop} (all : List α) :
    ∀ (rest done : List α) (L : Loc) (st : Sto), all = done ++ rest → I done L st → (∀ d L s, I d L s → okG s gs = true) →
    (∀ d x r L st, all = d ++ x :: r → I d L st → wp (asgT tg (f x) L st) (fun L1 => wp (body L1 st) (fun z => match z with
      | (.next, L', st') => I (d ++ [x]) L' st'
      | (.cont, L', st') => I (d ++ [x]) L' st'
      | (.brk, L', st') => Q (.next, L', st')
      | (.ret v, L', st') => Q (.ret v, L', st')))) →
    (∀ L st, I all L st → Q (.next, L, st)) → wp (forItems tg gs body (rest.map f) L st) Q := by
  intro rest
  induction rest with
  | nil =>
    intro done L st e h hG _ E
    simp only [List.map_nil, forItems, hG _ _ _ h, if_true, wp_some]
    rw [List.append_nil] at e
    exact E L st (e ▸ h)
  | cons x rest ih =>
    intro done L st e h hG B E
    simp only [List.map_cons, forItems, hG _ _ _ h, if_true, wp_bind]
    refine wp_mono (B done x rest L st e h) ?_
    intro L1 hL
    refine wp_mono hL ?_
    rintro ⟨f, L', st'⟩ h'
    cases f with
    | next => exact ih (done ++ [x]) L' st' (by simp [e]) h' hG B E
    | cont => exact ih (done ++ [x]) L' st' (by simp [e]) h' hG B E
    | brk => simpa [wp_some] using h'
    | ret v => simpa [wp_some] using h'
/-- a comprehension over any items, with tests -/
theorem wp_comp_each {α : Type} {tg : Tg} {gs : Gd} {tst : Loc → Sto → R Bool} {el : Loc → Sto → R PV} {L : Loc} {f : α → PV} {I : List α → List PV → Sto → Prop} {Q : List PV × Sto → Prop} (all : List α) :
    ∀ (rest done : List α) (acc : List PV) (st : Sto), all = done ++ rest → I done acc st → (∀ d a s, I d a s → okG s gs = true) →
    (∀ d x r acc st, all = d ++ x :: r → I d acc st → wp (asgT tg (f x) L st) (fun L1 => wp (tst L1 st) (fun b => if b.1 = true then wp (el L1 b.2) (fun z => I (d ++ [x]) (acc ++ [z.1]) z.2) else I (d ++ [x]) acc b.2))) →
    (∀ ys st, I all (acc ++ ys) st → Q (ys, st)) → wp (compItems tg gs tst el L (rest.map f) st) Q := by
  intro rest
  induction rest generalizing Q with
  | nil =>
    intro done acc st e h hG _ E
    simp only [List.map_nil, compItems, hG _ _ _ h, if_true, wp_some]
    rw [List.append_nil] at e
    exact E [] st (by rw [List.append_nil]; exact e ▸ h)
  | cons x rest ih =>
    intro done acc st e h hG B E
    simp only [List.map_cons, compItems, hG _ _ _ h, if_true, wp_bind]
    refine wp_mono (B done x rest acc st e h) ?_
    intro L1 hL
    refine wp_mono hL ?_
    rintro ⟨b, st1⟩ h1
    cases b with
    | true =>
      simp only [if_true] at h1 ⊢
      rw [wp_bind]
      refine wp_mono h1 ?_
      rintro ⟨v, st2⟩ h2
      have := ih (Q := fun z => Q (v :: z.1, z.2)) (done ++ [x]) (acc ++ [v]) st2 (by simp [e]) h2 hG B (fun ys st h => E (v :: ys) st (by simpa using h))
      simpa [wp_bind] using this
    | false =>
      simp only [Bool.false_eq_true, if_false] at h1 ⊢
      exact ih (done ++ [x]) acc st1 (by simp [e]) h1 hG B E
@[simp] theorem okG_nil (st : Sto) : okG st [] = true := rfl
theorem at_app (st : Sto) (xs : List PO) (k : Nat) : (st ++ xs)[st.length + k]? = xs[k]? := by
  rw [List.getElem?_append_right (by omega)]; congr 1; omega
@[simp] theorem l_app (st : Sto) (xs : List PO) (k : Nat) : listOf (st ++ xs) (.ref (st.length + k)) = listOf xs (.ref k) := by simp only [listOf, at_app]
@[simp] theorem l_app0 (st : Sto) (xs : List PV) (r : List PO) : listOf (st ++ .lst xs :: r) (.ref st.length) = some xs := by simp [listOf]
@[simp] theorem l_cons0 (xs : List PV) (r : List PO) : listOf (.lst xs :: r) (.ref 0) = some xs := rfl
@[simp] theorem l_consS (o : PO) (r : List PO) (k : Nat) : listOf (o :: r) (.ref (k + 1)) = listOf r (.ref k) := by simp only [listOf, List.getElem?_cons_succ]
theorem set_app (st : Sto) (xs : List PO) (k : Nat) (o : PO) : (st ++ xs).set (st.length + k) o = st ++ xs.set k o := by
  rw [List.set_append_right _ _ (by omega)]; congr 2; omega
@[simp] theorem atI_zero (x : PV) (r : List PV) : Kw.atI (x :: r) 0 = some x := atI_nat (n := 0) rfl rfl
@[simp] theorem atI_one (x y : PV) (r : List PV) : Kw.atI (x :: y :: r) 1 = some y := atI_nat (n := 1) rfl rfl
@[simp] theorem atI_two (x y z : PV) (r : List PV) : Kw.atI (x :: y :: z :: r) 2 = some z := atI_nat (n := 2) rfl rfl
end Kw
end
section
set_option linter.all false
/-! the least ways, as numbers -/
namespace Kw
abbrev Chg := Nat × Nat × Int
def rel1 (l : List Int) (c : Chg) : List Int := l.set c.2.1 (if l.getD c.1 0 + c.2.2 < l.getD c.2.1 0 then l.getD c.1 0 + c.2.2 else l.getD c.2.1 0)
def relA (cs : List Chg) (l : List Int) : List Int := cs.foldl rel1 l
def relB (cs : List Chg) (ws : List Int) : Nat → List Int
  | 0 => ws
  | k + 1 => relA cs (relB cs ws k)
structure Stk (n : Nat) (ws : List Int) (cs : List Chg) : Prop where
  len : ws.length = n
  pos : ∀ w ∈ ws, 1 ≤ w
  rng : ∀ c ∈ cs, c.1 < n ∧ c.2.1 < n ∧ 1 ≤ c.2.2
  ris : cs.Pairwise fun c d => c.1 ≤ d.1
theorem rel1_len (l : List Int) (c : Chg) : (rel1 l c).length = l.length := by simp [rel1]
theorem relA_len (cs : List Chg) : ∀ l : List Int, (relA cs l).length = l.length := by
  induction cs with
  | nil => intro l; rfl
  | cons c cs ih => intro l; show (relA cs (rel1 l c)).length = _; rw [ih, rel1_len]
theorem relB_len (cs : List Chg) (ws : List Int) : ∀ k, (relB cs ws k).length = ws.length
  | 0 => rfl
  | k + 1 => by rw [relB, relA_len, relB_len cs ws k]
theorem getD_set (l : List Int) (i j : Nat) (v : Int) : (l.set i v).getD j 0 = if i = j ∧ i < l.length then v else l.getD j 0 := by
  simp only [List.getD_eq_getElem?_getD, List.getElem?_set]
  by_cases h : i = j
  · subst h
    by_cases h2 : i < l.length
    · simp [h2]
    · simp [h2, List.getElem?_eq_none (by omega : l.length ≤ i)]
  · simp [h]
theorem rel1_le (l : List Int) (c : Chg) (b : Nat) : (rel1 l c).getD b 0 ≤ l.getD b 0 := by
  unfold rel1
  rw [getD_set]
  split
  · rename_i h; obtain ⟨h, _⟩ := h; subst h; split <;> omega
  · omega
theorem rel1_at (l : List Int) (c : Chg) (h : c.2.1 < l.length) : (rel1 l c).getD c.2.1 0 ≤ l.getD c.1 0 + c.2.2 := by
  unfold rel1
  rw [getD_set, if_pos ⟨rfl, h⟩]
  split <;> omega
theorem relA_le (cs : List Chg) : ∀ (l : List Int) (b : Nat), (relA cs l).getD b 0 ≤ l.getD b 0 := by
  induction cs with
  | nil => intro l b; exact Int.le_refl _
  | cons c cs ih => intro l b; exact Int.le_trans (ih (rel1 l c) b) (rel1_le l c b)
theorem relA_at (cs : List Chg) : ∀ (l : List Int) (c : Chg), c ∈ cs → c.2.1 < l.length → (relA cs l).getD c.2.1 0 ≤ l.getD c.1 0 + c.2.2 := by
  induction cs with
  | nil => intro l c h; cases h
  | cons d cs ih =>
    intro l c h hl
    rcases List.mem_cons.mp h with e | h
    · subst e
      exact Int.le_trans (relA_le cs (rel1 l c) _) (rel1_at l c hl)
    · have := ih (rel1 l d) c h (by rw [rel1_len]; exact hl)
      have h2 := rel1_le l d c.1
      show (relA cs (rel1 l d)).getD c.2.1 0 ≤ _
      omega
theorem relB_mono (cs : List Chg) (ws : List Int) (b : Nat) : ∀ j k, (relB cs ws (j + k)).getD b 0 ≤ (relB cs ws j).getD b 0
  | j, 0 => Int.le_refl _
  | j, k + 1 => Int.le_trans (relA_le cs _ b) (relB_mono cs ws b j k)
/-- what a walk of k changes comes to -/
inductive Walk (n : Nat) (ws : List Int) (cs : List Chg) : Nat → Nat → Int → Prop where
  | whole {b} : b < n → Walk n ws cs 0 b (ws.getD b 0)
  | step {k v} {c : Chg} : Walk n ws cs k c.1 v → c ∈ cs → Walk n ws cs (k + 1) c.2.1 (v + c.2.2)
section
variable {n : Nat} {ws : List Int} {cs : List Chg}
theorem Walk.le (S : Stk n ws cs) {k b v} (h : Walk n ws cs k b v) : ∀ j, k ≤ j → (relB cs ws j).getD b 0 ≤ v := by
  induction h with
  | @whole b hb => intro j _; have := relB_mono cs ws b 0 j; rw [Nat.zero_add] at this; exact this
  | @step k v c _ hc ih =>
    intro j hj
    obtain ⟨j', rfl⟩ : ∃ j', j = j' + 1 := ⟨j - 1, by omega⟩
    have h1 := ih j' (by omega)
    have h2 := relA_at cs (relB cs ws j') c hc (by rw [relB_len, S.len]; exact (S.rng c hc).2.1)
    show (relA cs (relB cs ws j')).getD c.2.1 0 ≤ v + c.2.2
    omega
/-- each number is a whole's, or leans on a change -/
def Sup (n : Nat) (ws : List Int) (cs : List Chg) (l : List Int) : Prop := l.length = n ∧ (∀ b, b < n → 1 ≤ l.getD b 0) ∧ ∀ b, b < n → l.getD b 0 = ws.getD b 0 ∨ ∃ c ∈ cs, c.2.1 = b ∧ l.getD c.1 0 + c.2.2 ≤ l.getD b 0
theorem sup_rel1 (S : Stk n ws cs) {l : List Int} {c : Chg} (hc : c ∈ cs) (h : Sup n ws cs l) : Sup n ws cs (rel1 l c) := by
  obtain ⟨h0, h1, h2⟩ := h
  obtain ⟨ca, cb, cp⟩ := S.rng c hc
  have pa := h1 _ ca
  refine ⟨by rw [rel1_len, h0], fun b hb => ?_, fun b hb => ?_⟩
  · unfold rel1
    rw [getD_set]
    split
    · rename_i e; obtain ⟨e, _⟩ := e; subst e; have := h1 _ hb; split <;> omega
    · exact h1 b hb
  · by_cases hup : c.2.1 = b ∧ l.getD c.1 0 + c.2.2 < l.getD b 0
    · obtain ⟨e, hlt⟩ := hup
      right
      refine ⟨c, hc, e, ?_⟩
      have hle := rel1_le l c c.1
      have : (rel1 l c).getD b 0 = l.getD c.1 0 + c.2.2 := by
        unfold rel1
        rw [getD_set, if_pos ⟨e, by rw [h0]; exact cb⟩, if_pos (by rw [e]; exact hlt)]
      omega
    · have hsame : (rel1 l c).getD b 0 = l.getD b 0 := by
        unfold rel1
        rw [getD_set]
        split
        · rename_i e; obtain ⟨e, _⟩ := e
          subst e
          rw [if_neg (fun z => hup ⟨rfl, z⟩)]
        · rfl
      rw [hsame]
      rcases h2 b hb with h | ⟨d, hd, e, h⟩
      · exact .inl h
      · refine .inr ⟨d, hd, e, ?_⟩
        have := rel1_le l c d.1
        omega
theorem sup_relA (S : Stk n ws cs) : ∀ (ds : List Chg) {l : List Int}, (∀ d ∈ ds, d ∈ cs) → Sup n ws cs l → Sup n ws cs (relA ds l)
  | [], l, _, h => h
  | d :: ds, l, hd, h => sup_relA S ds (fun x hx => hd x (List.mem_cons_of_mem _ hx)) (sup_rel1 S (hd d List.mem_cons_self) h)
theorem sup_relN (S : Stk n ws cs) : ∀ k, Sup n ws cs (relB cs ws k)
  | 0 => ⟨S.len, fun b hb => by
      have hb' : b < ws.length := by rw [S.len]; exact hb
      have := S.pos ws[b] (List.getElem_mem hb')
      show 1 ≤ ws.getD b 0
      rw [List.getD_eq_getElem?_getD, List.getElem?_eq_getElem hb']
      exact this, fun b _ => .inl rfl⟩
  | k + 1 => sup_relA S cs (fun _ h => h) (sup_relN S k)
theorem countP_lt {α : Type} (p q : α → Bool) (h : ∀ x, p x = true → q x = true) : ∀ (xs : List α) (y : α), y ∈ xs → q y = true → p y = false → xs.countP p < xs.countP q := by
  intro xs
  induction xs with
  | nil => intro y hy; cases hy
  | cons x xs ih =>
    intro y hy hq hp
    have hle : xs.countP p ≤ xs.countP q := List.countP_mono_left (fun z _ => h z)
    rcases List.mem_cons.mp hy with e | hy
    · subst e
      simp only [List.countP_cons, hq, hp]
      simp; omega
    · have := ih y hy hq hp
      simp only [List.countP_cons]
      have hx : (if p x = true then 1 else 0) ≤ (if q x = true then 1 else 0) := by
        by_cases hpx : p x = true
        · simp [hpx, h x hpx]
        · simp [hpx]
      omega
def rank (n : Nat) (l : List Int) (b : Nat) : Nat := (List.range n).countP fun x => decide (l.getD x 0 < l.getD b 0)
theorem rank_lt {l : List Int} {b : Nat} (hb : b < n) : rank n l b < n := by
  have : rank n l b < (List.range n).countP (fun _ => true) := countP_lt _ _ (fun _ _ => rfl) _ b (List.mem_range.mpr hb) rfl (by simp)
  simpa using this
theorem walk_to (S : Stk n ws cs) {l : List Int} (h : Sup n ws cs l) : ∀ (r b : Nat), b < n → rank n l b ≤ r → ∃ k v, k ≤ rank n l b ∧ v ≤ l.getD b 0 ∧ Walk n ws cs k b v := by
  intro r
  induction r with
  | zero =>
    intro b hb hr
    rcases h.2.2 b hb with e | ⟨c, hc, e, hle⟩
    · exact ⟨0, _, Nat.zero_le _, by rw [e]; exact Int.le_refl _, .whole hb⟩
    · obtain ⟨ca, cb, cp⟩ := S.rng c hc
      have : 0 < rank n l b := by
        unfold rank
        rw [List.countP_pos_iff]
        exact ⟨c.1, List.mem_range.mpr ca, by simp only [decide_eq_true_eq]; omega⟩
      omega
  | succ r ih =>
    intro b hb hr
    rcases h.2.2 b hb with e | ⟨c, hc, e, hle⟩
    · exact ⟨0, _, Nat.zero_le _, by rw [e]; exact Int.le_refl _, .whole hb⟩
    · obtain ⟨ca, cb, cp⟩ := S.rng c hc
      have hlt : rank n l c.1 < rank n l b := by
        unfold rank
        refine countP_lt _ _ (fun x hx => ?_) _ c.1 (List.mem_range.mpr ca) ?_ ?_
        · simp only [decide_eq_true_eq] at hx ⊢; omega
        · simp only [decide_eq_true_eq]; omega
        · simp
      obtain ⟨k, v, hk, hv, hw⟩ := ih c.1 ca (by omega)
      subst e
      exact ⟨k + 1, v + c.2.2, by omega, by omega, .step hw hc⟩
/-- behind n turns nothing more falls -/
theorem fixed (S : Stk n ws cs) {c : Chg} (hc : c ∈ cs) : (relB cs ws n).getD c.2.1 0 ≤ (relB cs ws n).getD c.1 0 + c.2.2 := by
  obtain ⟨ca, cb, cp⟩ := S.rng c hc
  obtain ⟨k, v, hk, hv, hw⟩ := walk_to S (sup_relN S n) _ c.1 ca (Nat.le_refl _)
  have h1 := rank_lt (l := relB cs ws n) ca
  have := (Walk.step hw hc).le S n (by omega)
  omega
theorem tight (S : Stk n ws cs) {b : Nat} (hb : b < n) : (relB cs ws n).getD b 0 = ws.getD b 0 ∨ ∃ c ∈ cs, c.2.1 = b ∧ (relB cs ws n).getD c.1 0 + c.2.2 = (relB cs ws n).getD b 0 := by
  rcases (sup_relN S n).2.2 b hb with h | ⟨c, hc, e, h⟩
  · exact .inl h
  · refine .inr ⟨c, hc, e, ?_⟩
    have := fixed S hc
    rw [e] at this
    omega
theorem le_whole (b k : Nat) : (relB cs ws k).getD b 0 ≤ ws.getD b 0 := by have := relB_mono cs ws b 0 k; rw [Nat.zero_add] at this; exact this
end
/-! ### which change -/
def lean (l : List Int) (b : Nat) (c : Chg) : Bool := decide (c.2.1 = b ∧ l.getD c.1 0 + c.2.2 = l.getD b 0)
def selF (o : Option Nat × Int) (c : Chg) : Option Nat × Int := if c.2.2 < o.2 then (some c.1, c.2.2) else o
def sel (w : Int) (l : List Int) (b : Nat) (cs : List Chg) : Option Nat × Int := (cs.filter (lean l b)).foldl selF (none, w)
def enc : Option Nat → Int
  | none => -1
  | some a => a
def tupC (c : Chg) : List Int := [c.2.2, c.1]
theorem lex_two (s a s0 a0 : Int) (h : a0 ≤ a) : lexLt [s, a] [s0, a0] = decide (s < s0) := by
  simp only [lexLt]
  by_cases h1 : s = s0
  · subst h1
    by_cases h2 : a = a0
    · simp [h2, lexLt]
    · simp [h2]; omega
  · simp [h1]
theorem least_sel : ∀ (cs : List Chg) (o : Option Nat × Int), (∀ c ∈ cs, enc o.1 ≤ c.1) → cs.Pairwise (fun c d => c.1 ≤ d.1) → leastT [o.2, enc o.1] (cs.map tupC) = [(cs.foldl selF o).2, enc (cs.foldl selF o).1]
  | [], o, _, _ => rfl
  | c :: cs, o, h, hp => by
    have hc := h c List.mem_cons_self
    rw [List.pairwise_cons] at hp
    show leastT (if lexLt (tupC c) [o.2, enc o.1] = true then tupC c else [o.2, enc o.1]) (cs.map tupC) = _
    rw [show lexLt (tupC c) [o.2, enc o.1] = decide (c.2.2 < o.2) from lex_two _ _ _ _ hc]
    by_cases hs : c.2.2 < o.2
    · have e : selF o c = (some c.1, c.2.2) := by simp [selF, hs]
      rw [if_pos (by simpa using hs)]
      have := least_sel cs (some c.1, c.2.2) (fun d hd => by show (c.1 : Int) ≤ d.1; have := hp.1 d hd; omega) hp.2
      rw [List.foldl_cons, e]
      exact this
    · have e : selF o c = o := by simp [selF, hs]
      rw [if_neg (by simpa using hs), List.foldl_cons, e]
      exact least_sel cs o (fun d hd => h d (List.mem_cons_of_mem _ hd)) hp.2
def wholeL (w x : Int) : List (List Int) := if w = x then [[w, -1]] else []
/-- the least of the whole and of the changes that let it -/
theorem soon_sel {n : Nat} {ws : List Int} {cs : List Chg} (S : Stk n ws cs) {b : Nat} (hb : b < n) :
    ∃ t r x, wholeL (ws.getD b 0) ((relB cs ws n).getD b 0) ++ (cs.filter (lean (relB cs ws n) b)).map tupC = t :: r ∧ leastT t r = [x, enc (sel (ws.getD b 0) (relB cs ws n) b cs).1] := by
  have hris : (cs.filter (lean (relB cs ws n) b)).Pairwise (fun c d => c.1 ≤ d.1) := S.ris.filter _
  have hlt : ∀ c ∈ cs.filter (lean (relB cs ws n) b), c.2.2 < ws.getD b 0 := fun c hc => by
    obtain ⟨h1, h2⟩ := List.mem_filter.mp hc
    simp only [lean, decide_eq_true_eq] at h2
    have p := (sup_relN S n).2.1 c.1 (S.rng c h1).1
    have q := le_whole (ws := ws) (cs := cs) b n
    omega
  unfold wholeL
  by_cases hw : ws.getD b 0 = (relB cs ws n).getD b 0
  · rw [if_pos hw]
    exact ⟨_, _, _, rfl, least_sel (cs.filter (lean (relB cs ws n) b)) (none, ws.getD b 0) (fun c _ => by show (-1 : Int) ≤ c.1; omega) hris⟩
  · rw [if_neg hw]
    rcases tight S hb with h | ⟨c, hc, e, h⟩
    · exact absurd h.symm hw
    · have hm : c ∈ cs.filter (lean (relB cs ws n) b) := List.mem_filter.mpr ⟨hc, by simp only [lean, decide_eq_true_eq]; exact ⟨e, h⟩⟩
      unfold sel
      generalize cs.filter (lean (relB cs ws n) b) = fs at hm hris hlt
      cases fs with
      | nil => cases hm
      | cons f fs =>
        rw [List.pairwise_cons] at hris
        have hf := hlt f List.mem_cons_self
        have e1 : selF (none, ws.getD b 0) f = (some f.1, f.2.2) := by simp only [selF]; rw [if_pos hf]
        rw [List.foldl_cons, e1]
        exact ⟨tupC f, fs.map tupC, _, rfl, least_sel fs (some f.1, f.2.2) (fun d hd => by show (f.1 : Int) ≤ d.1; have := hris.1 d hd; omega) hris.2⟩
/-- what is laid is nearer -/
theorem sel_nearer {n : Nat} {ws : List Int} {cs : List Chg} (S : Stk n ws cs) {b a : Nat} (h : (sel (ws.getD b 0) (relB cs ws n) b cs).1 = some a) : a < n ∧ (relB cs ws n).getD a 0 < (relB cs ws n).getD b 0 := by
  have gen : ∀ (fs : List Chg) (o : Option Nat × Int), (∀ c ∈ fs, c ∈ cs ∧ lean (relB cs ws n) b c = true) → (fs.foldl selF o).1 = some a → o.1 = some a ∨ ∃ c ∈ fs, c.1 = a := by
    intro fs
    induction fs with
    | nil => intro o _ h; exact .inl h
    | cons f fs ih =>
      intro o hf h
      rw [List.foldl_cons] at h
      rcases ih (selF o f) (fun c hc => hf c (List.mem_cons_of_mem _ hc)) h with h | ⟨c, hc, e⟩
      · unfold selF at h
        split at h
        · right; exact ⟨f, List.mem_cons_self, by simpa using h⟩
        · exact .inl h
      · exact .inr ⟨c, List.mem_cons_of_mem _ hc, e⟩
  unfold sel at h
  rcases gen _ _ (fun c hc => List.mem_filter.mp hc) h with h | ⟨c, hc, e⟩
  · cases h
  · obtain ⟨h1, h2⟩ := List.mem_filter.mp hc
    simp only [lean, decide_eq_true_eq] at h2
    obtain ⟨ca, cb, cp⟩ := S.rng c h1
    subst e
    exact ⟨ca, by omega⟩
end Kw
end
section
namespace Kw
def bd0 : S := .cons (.asg (.tp [1, 2]) (.var 0)) (.cons (.asg (.nm 3) (.blt .list (.cons (.var 1) .nil))) (.cons (.for_ (.nm 4) (.rng (.blt .len (.cons (.var 1) .nil))) (.cons (.for_ (.tp [5, 6, 7]) (.var 2) (.cons (.setix (.var 3) (.var 6) (.blt .min (.cons (.ix (.var 3) (.var 6)) (.cons (.bin .add (.ix (.var 3) (.var 5)) (.var 7)) .nil)))) .nil)) .nil)) (.cons (.ret (.blt .tuple (.cons (.var 3) .nil))) .nil)))
def bd1 : S := .cons (.asg (.tp [1, 2]) (.var 0)) (.cons (.asg (.nm 3) (.call 0 (.cons (.var 0) .nil))) (.cons (.asg (.nm 4) (.bin .mul (.lst (.cons .non .nil)) (.blt .len (.cons (.var 1) .nil)))) (.cons (.asg (.nm 5) (.blt .list (.cons (.var 1) .nil))) (.cons (.for_ (.tp [6, 7, 8]) (.var 2) (.cons (.ife (.and (.cmp .eq (.bin .add (.ix (.var 3) (.var 6)) (.var 8)) (.ix (.var 3) (.var 7))) (.cmp .lt (.var 8) (.ix (.var 5) (.var 7)))) (.cons (.setix (.var 4) (.var 7) (.var 6)) (.cons (.setix (.var 5) (.var 7) (.var 8)) .nil)) .nil) .nil)) (.cons (.ret (.blt .tuple (.cons (.var 4) .nil))) .nil)))))
def bd2 : S := .cons (.asg (.nm 2) (.bin .mod (.bin .mul (.bin .add (.bin .add (.bin .mod (.var 0) (.int 2147483629)) (.bin .mul (.bin .mul (.var 1) (.var 1)) (.int 7919))) (.int 11)) (.int 48271)) (.int 2147483647))) (.cons (.ret (.bin .mod (.bin .mul (.var 2) (.var 2)) (.int 1999999973))) .nil)
def bd3 : S := .cons (.asg (.nm 2) (.ite (.cmp .lt (.var 1) (.blt .len (.cons (.var 0) .nil))) (.ix (.var 0) (.var 1)) (.int 0))) (.cons (.ret (.lst (.cons (.bin .mul (.blt .abs (.cons (.var 2) .nil)) (.blt .int (.cons (.cmp .ge (.blt .abs (.cons (.var 2) .nil)) (.bin .pow (.int 10) (.int 18))) .nil))) (.cons (.bin .add (.var 2) (.bin .mul (.int 1000003) (.var 1))) (.cons (.int 0) .nil))))) .nil)
def bd4 : S := .cons (.setix (.var 0) (.int 2) (.bin .add (.ix (.var 0) (.int 2)) (.int 1))) (.cons (.ife (.cmp .gt (.ix (.var 0) (.int 0)) (.int 0)) (.cons (.asg (.nm 2) (.bin .mod (.ix (.var 0) (.int 0)) (.var 1))) (.cons (.setix (.var 0) (.int 0) (.bin .fdiv (.ix (.var 0) (.int 0)) (.var 1))) (.cons (.ret (.var 2)) .nil))) .nil) (.cons (.ret (.bin .mod (.bin .fdiv (.call 2 (.cons (.call 2 (.cons (.ix (.var 0) (.int 1)) (.cons (.ix (.var 0) (.int 2)) .nil))) (.cons (.bin .add (.ix (.var 0) (.int 2)) (.int 64)) .nil))) (.int 64)) (.var 1))) .nil))
def bd5 : S := .cons (.ife (.cmp .eq (.call 4 (.cons (.var 0) (.cons (.int 8) .nil))) (.int 0)) (.cons (.ret (.bin .add (.int 7) (.call 4 (.cons (.var 0) (.cons (.bin .sub (.var 1) (.int 6)) .nil))))) .nil) .nil) (.cons (.ret (.ix (.lst (.cons (.int 0) (.cons (.int 1) (.cons (.int 2) (.cons (.int 3) (.cons (.int 4) (.cons (.int 5) (.cons (.int 6) (.cons (.int 4) (.cons (.int 5) (.cons (.int 3) .nil))))))))))) (.call 4 (.cons (.var 0) (.cons (.int 10) .nil))))) .nil)
def bd6 : S := .cons (.ife (.isi (.var 1) [.list, .tuple]) (.cons (.ife (.or (.cmp .ne (.isi (.var 0) [.list]) (.isi (.var 1) [.list])) (.cmp .ne (.isi (.var 0) [.tuple]) (.isi (.var 1) [.tuple]))) (.cons (.ret (.bl false)) .nil) .nil) (.cons (.ret (.and (.cmp .eq (.blt .len (.cons (.var 0) .nil)) (.blt .len (.cons (.var 1) .nil))) (.blt .all (.cons (.comp (.call 6 (.cons (.var 2) (.cons (.var 3) .nil))) (.tp [2, 3]) 2 2 (.zip (.var 0) (.var 1)) .nil) .nil)))) .nil)) .nil) (.cons (.ife (.or (.is false (.var 1) .non) (.isi (.var 1) [.str])) (.cons (.ret (.and (.cmp .eq (.var 0) (.var 1)) (.cmp .eq (.isi (.var 0) [.str]) (.isi (.var 1) [.str])))) .nil) .nil) (.cons (.ife (.isi (.var 1) [.bool]) (.cons (.ret (.and (.isi (.var 0) [.bool]) (.cmp .eq (.var 0) (.var 1)))) .nil) .nil) (.cons (.ret (.and (.isi (.var 0) [.int]) (.and (.not (.isi (.var 0) [.bool])) (.cmp .eq (.var 0) (.var 1))))) .nil)))
def bd7 : S := .cons (.asg (.nm 1) (.blt .list (.cons (.ix (.var 0) (.int 0)) .nil))) (.cons (.for_ (.nm 2) (.ix (.var 0) (.int 0)) (.cons (.for_ (.tp [3, 4, 5]) (.ix (.var 0) (.int 1)) (.cons (.setix (.var 1) (.var 4) (.blt .min (.cons (.ix (.var 1) (.var 4)) (.cons (.bin .add (.ix (.var 1) (.var 3)) (.var 5)) .nil)))) .nil)) .nil)) (.cons (.ret (.blt .tuple (.cons (.var 1) .nil))) .nil))
def bd8 : S := .cons (.asg (.nm 1) (.call 7 (.cons (.var 0) .nil))) (.cons (.asg (.nm 2) (.lst .nil)) (.cons (.for_ (.tp [3, 4]) (.enum (.ix (.var 0) (.int 0))) (.cons (.asg (.nm 5) (.bin .mul (.lst (.cons (.tup (.cons (.var 4) (.cons (.neg (.int 1)) .nil))) .nil)) (.blt .int (.cons (.cmp .eq (.var 4) (.ix (.var 1) (.var 3))) .nil)))) (.cons (.expr (.meth .extend (.var 5) (.comp (.tup (.cons (.var 9) (.cons (.var 7) .nil))) (.tp [7, 8, 9]) 7 3 (.ix (.var 0) (.int 1)) (.cons (.and (.cmp .eq (.var 8) (.var 3)) (.cmp .eq (.bin .add (.ix (.var 1) (.var 7)) (.var 9)) (.ix (.var 1) (.var 3)))) .nil)))) (.cons (.asg (.nm 6) (.ix (.blt .min (.cons (.var 5) .nil)) (.int 1))) (.cons (.expr (.meth .append (.var 2) (.ite (.cmp .lt (.var 6) (.int 0)) .non (.var 6)))) .nil))))) (.cons (.ret (.blt .tuple (.cons (.var 2) .nil))) .nil)))
def bd9 : S := .cons (.asg (.nm 2) (.bin .add (.int 1) (.call 4 (.cons (.var 0) (.cons (.int 3) .nil))))) (.cons (.asg (.nm 3) (.ix (.lst (.cons (.var 2) (.cons (.bin .mul (.int 2) (.var 2)) (.cons (.int 3) (.cons (.bin .sub (.bin .pow (.int 10) (.int 9)) (.int 2)) .nil))))) (.call 4 (.cons (.var 0) (.cons (.int 4) .nil))))) (.cons (.asg (.nm 4) (.comp (.bin .add (.var 3) (.bin .mul (.call 4 (.cons (.var 0) (.cons (.int 3) .nil))) (.call 4 (.cons (.var 0) (.cons (.int 2) .nil))))) (.nm 9) 9 1 (.rng (.var 1)) .nil)) (.cons (.ife (.cmp .gt (.var 1) (.int 0)) (.cons (.setix (.var 4) (.call 4 (.cons (.var 0) (.cons (.var 1) .nil))) (.bin .add (.int 1) (.call 4 (.cons (.var 0) (.cons (.int 3) .nil))))) .nil) .nil) (.cons (.asg (.tp [5, 6]) (.tup (.cons (.call 4 (.cons (.var 0) (.cons (.int 3) .nil))) (.cons (.lst .nil) .nil)))) (.cons (.for_ (.nm 7) (.rng (.var 1)) (.cons (.for_ (.nm 8) (.rng (.var 1)) (.cons (.ife (.and (.cmp .ne (.var 7) (.var 8)) (.or (.cmp .lt (.var 5) (.int 2)) (.cmp .isin (.var 8) (.tup (.cons (.bin .mod (.bin .add (.var 7) (.int 1)) (.var 1)) (.cons (.bin .mod (.bin .add (.var 7) (.int 2)) (.var 1)) .nil)))))) (.cons (.expr (.meth .append (.var 6) (.tup (.cons (.var 7) (.cons (.var 8) (.cons (.ix (.lst (.cons (.var 2) (.cons (.bin .add (.int 1) (.call 4 (.cons (.var 0) (.cons (.int 3) .nil)))) .nil))) (.blt .min (.cons (.var 5) (.cons (.int 1) .nil)))) .nil)))))) .nil) .nil) .nil)) .nil)) (.cons (.ret (.tup (.cons (.blt .tuple (.cons (.var 4) .nil)) (.cons (.blt .tuple (.cons (.var 6) .nil)) .nil)))) .nil))))))
def bd10 : S := .cons (.for_ (.nm 1) (.rng (.blt .max (.cons (.int 4) (.cons (.blt .min (.cons (.blt .len (.cons (.var 0) .nil)) (.cons (.int 10) .nil))) .nil)))) (.cons (.asg (.nm 2) (.call 3 (.cons (.var 0) (.cons (.var 1) .nil)))) (.cons (.asg (.nm 3) (.call 9 (.cons (.var 2) (.cons (.call 5 (.cons (.var 2) (.cons (.int 12) .nil))) .nil)))) (.cons (.asg (.tp [4, 5]) (.tup (.cons (.call 0 (.cons (.var 3) .nil)) (.cons (.call 1 (.cons (.var 3) .nil)) .nil)))) (.cons (.ife (.not (.call 6 (.cons (.lst (.cons (.var 4) (.cons (.var 5) .nil))) (.cons (.lst (.cons (.call 7 (.cons (.var 3) .nil)) (.cons (.call 8 (.cons (.var 3) .nil)) .nil))) .nil)))) (.cons (.ret (.bl false)) .nil) .nil) (.cons (.for_ (.tp [6, 7]) (.enum (.var 5)) (.cons (.ife (.and (.is true (.var 7) .non) (.cmp .ge (.ix (.var 4) (.var 7)) (.ix (.var 4) (.var 6)))) (.cons (.ret (.bl false)) .nil) .nil) .nil)) .nil)))))) (.cons (.ret (.call 6 (.cons (.lst (.cons (.call 0 (.cons (.tup (.cons (.tup .nil) (.cons (.tup .nil) .nil))) .nil)) (.cons (.call 1 (.cons (.tup (.cons (.tup .nil) (.cons (.tup .nil) .nil))) .nil)) .nil))) (.cons (.lst (.cons (.tup .nil) (.cons (.tup .nil) .nil))) .nil)))) .nil)
def tab : List FDef := [⟨1, 8, bd0⟩, ⟨1, 9, bd1⟩, ⟨2, 3, bd2⟩, ⟨2, 3, bd3⟩, ⟨2, 3, bd4⟩, ⟨2, 2, bd5⟩, ⟨2, 2, bd6⟩, ⟨1, 6, bd7⟩, ⟨1, 7, bd8⟩, ⟨2, 9, bd9⟩, ⟨1, 8, bd10⟩]
end Kw
end
section
set_option maxRecDepth 10000
set_option maxHeartbeats 1000000
set_option linter.all false
namespace Kw
def mixV (a k : Int) : Int := ((a % 2147483629 + k * k * 7919 + 11) * 48271 % 2147483647) * ((a % 2147483629 + k * k * 7919 + 11) * 48271 % 2147483647) % 1999999973
theorem small_mod (x : Int) : small (x % 2147483647) = true := by
  have := Int.emod_nonneg x (show (2147483647 : Int) ≠ 0 by decide)
  have := Int.emod_lt_of_pos x (show (0 : Int) < 2147483647 by decide)
  simp only [small, decide_eq_true_eq]; omega
theorem small_of {i : Int} (h : 0 ≤ i) (h' : i < 2 ^ 60) : small i = true := by
  simp only [small, decide_eq_true_eq]; omega
theorem mix_ok (d : Nat) (a k : Int) (st : Sto) (hk : small k = true) : callD tab (d + 1) 2 [.int a, .int k] st = some (.int (mixV a k), st) := by
  have h2 : small 48271 = true := by decide
  have h3 : small 7919 = true := by decide
  refine wp_eq (wp_callD (fd := ⟨2, 3, bd2⟩) rfl rfl ?_)
  simp [bd2, h2, h3, hk, small_mod, mixV]
def pickV (a b c many : Int) : Int := if 0 < a then a % many else mixV (mixV b (c + 1)) (c + 1 + 64) / 64 % many
def pickL (a many : Int) : Int := if 0 < a then a / many else a
theorem pick_ok (d : Nat) (a b c many : Int) (l : Nat) (st : Sto) (hs : st[l]? = some (.lst [.int a, .int b, .int c])) (h1 : 0 < many) (h2 : many < 1073741824) (hc : small (c + 1) = true) (hc' : small (c + 1 + 64) = true) :
    callD tab (d + 2) 4 [.ref l, .int many] st = some (.int (pickV a b c many), st.set l (.lst [.int (pickL a many), .int b, .int (c + 1)])) := by
  have hl : l < st.length := (List.getElem?_eq_some_iff.mp hs).1
  have e1 : ∀ xs, listOf (st.set l (.lst xs)) (.ref l) = some xs := fun xs => l_ref (List.getElem?_set_self hl)
  refine wp_eq (wp_callD (fd := ⟨2, 3, bd4⟩) rfl rfl ?_)
  by_cases ha : 0 < a
  · simp [bd4, l_ref hs, e1, Kw.atI, Kw.ixN, ha, h1, h2, pickV, pickL]
  · simp [bd4, l_ref hs, e1, Kw.atI, Kw.ixN, ha, h1, h2, pickV, pickL, mix_ok, hc, hc']
theorem pick_rg (a b c many : Int) (h : 0 < many) : 0 ≤ pickV a b c many ∧ pickV a b c many < many := by
  unfold pickV
  split
  · exact ⟨Int.emod_nonneg _ (by omega), Int.emod_lt_of_pos _ h⟩
  · exact ⟨Int.emod_nonneg _ (by omega), Int.emod_lt_of_pos _ h⟩
/-- what is left of the draws stands at l, of at most n draws so far -/
def Lf (st : Sto) (l : Nat) (n : Int) : Prop := ∃ a b c, st[l]? = some (.lst [.int a, .int b, .int c]) ∧ 0 ≤ c ∧ c ≤ n
theorem Lf.lt {st : Sto} {l : Nat} {n : Int} (h : Lf st l n) : l < st.length := by
  obtain ⟨a, b, c, h, _⟩ := h
  exact (List.getElem?_eq_some_iff.mp h).1
theorem Lf.mono {st : Sto} {l : Nat} {n m : Int} (h : Lf st l n) (k : n ≤ m) : Lf st l m := by
  obtain ⟨a, b, c, h, h1, h2⟩ := h
  exact ⟨a, b, c, h, h1, by omega⟩
theorem Lf.app {st : Sto} {l : Nat} {n : Int} (h : Lf st l n) (o : List PO) : Lf (st ++ o) l n := by
  have := h.lt
  obtain ⟨a, b, c, h, h1, h2⟩ := h
  exact ⟨a, b, c, by rw [List.getElem?_append_left this]; exact h, h1, h2⟩
theorem Lf.set {st : Sto} {l : Nat} {n : Int} (h : Lf st l n) {k : Nat} {o : PO} (hk : k ≠ l) : Lf (st.set k o) l n := by
  obtain ⟨a, b, c, h, h1, h2⟩ := h
  exact ⟨a, b, c, by rw [List.getElem?_set_ne hk]; exact h, h1, h2⟩
def Pk (l : Nat) (n many : Int) (st : Sto) (z : PV × Sto) : Prop := ∃ v, z.1 = .int v ∧ 0 ≤ v ∧ v < many ∧ Lf z.2 l (n + 1) ∧ Fr l st z.2 ∧ z.2.length = st.length
theorem pick_wp (d : Nat) (many n : Int) (l : Nat) (st : Sto) (hs : Lf st l n) (hn : n < 1000000) (h1 : 0 < many) (h2 : many < 1073741824) :
    wp (callD tab (d + 2) 4 [.ref l, .int many] st) (Pk l n many st) := by
  have hl := hs.lt
  obtain ⟨a, b, c, hs, h3, h4⟩ := hs
  refine wp_of_eq (pick_ok d a b c many l st hs h1 h2 (small_of (by omega) (by omega)) (small_of (by omega) (by omega))) ?_
  have := pick_rg a b c many h1
  exact ⟨_, rfl, this.1, this.2, ⟨_, b, c + 1, List.getElem?_set_self hl, by omega, by omega⟩, .set, by simp⟩
theorem left_wp (d : Nat) (ns : List Int) (k : Nat) (st : Sto) :
    wp (callD tab (d + 1) 3 [.scr ns, .int k] st) (fun z => z.1 = .ref st.length ∧ ∃ o, z.2 = st ++ [o] ∧ Lf z.2 st.length 0) := by
  refine wp_callD (fd := ⟨2, 3, bd3⟩) rfl rfl ?_
  have h1 : small 1000003 = true := by decide
  have h2 : small 0 = true := by decide
  have h3 : small 1 = true := by decide
  have h4 : small 10 = true := by decide
  simp [bd3]
  split
  · rename_i hk
    rw [atI_nat rfl (show (ns.map PV.int)[k]? = some (.int ns[k]) by simp [hk])]
    have h5 : ∀ r : Bool, small (if r = true then 1 else 0) = true := by intro r; cases r <;> decide
    simp [h1, h4, h5, big]
    exact ⟨.inr (by by_cases hh : 1000000000000000000 ≤ (if ns[k] < 0 then -ns[k] else ns[k]) <;> simp only [hh, if_true, if_false] <;> decide), _, _, 0, List.getElem?_concat_length, by omega, by omega⟩
  · simp [h1, h2, h4, big]
    exact ⟨0, _, 0, List.getElem?_concat_length, by omega, by omega⟩

def cPV (c : Chg) : PV := .tup [.int c.1, .int c.2.1, .int c.2.2]
def stkPV (ws : List Int) (cs : List Chg) : PV := .tup [.tup (ws.map .int), .tup (cs.map cPV)]
theorem atI_int {ws : List Int} {i : Nat} (h : i < ws.length) : Kw.atI (ws.map PV.int) (i : Int) = some (.int (ws.getD i 0)) :=
  atI_nat rfl (by simp [List.getElem?_map, List.getElem?_eq_getElem h, List.getD_eq_getElem?_getD])
theorem ixN_int {n i : Nat} (h : i < n) : Kw.ixN n (i : Int) = some i := by simp [Kw.ixN, h]
theorem set_map {ws : List Int} {i : Nat} {v : Int} : (ws.map PV.int).set i (.int v) = (ws.set i v).map PV.int := by rw [List.map_set]
theorem relA_snoc (ds : List Chg) (c : Chg) (l : List Int) : relA (ds ++ [c]) l = rel1 (relA ds l) c := by simp [relA]
theorem least_ok (d : Nat) (n : Nat) (ws : List Int) (cs : List Chg) (S : Stk n ws cs) (hn : n ≤ 1000) (st : Sto) :
    callD tab (d + 1) 0 [stkPV ws cs] st = some (.tup ((relB cs ws n).map .int), st ++ [.lst ((relB cs ws n).map .int)]) := by
  refine wp_eq (wp_callD (fd := ⟨1, 8, bd0⟩) rfl rfl ?_)
  simp [bd0, stkPV, S.len]
  refine ⟨by simp [small62]; omega, ?_⟩
  refine wp_for_upto (I := fun j L s => (∃ x y z w, L = [some (stkPV ws cs), some (.tup (ws.map .int)), some (.tup (cs.map cPV)), some (.ref st.length), x, y, z, w]) ∧ s = st ++ [.lst ((relB cs ws j).map .int)]) n 0 _ _ ⟨⟨_, _, _, _, rfl⟩, rfl⟩ ?_ ?_
  · rintro j L s - hj ⟨⟨x, y, z, w, rfl⟩, rfl⟩
    simp [w_bd]
    refine wp_for_each (f := cPV) (I := fun ds L s => (∃ x y z w, L = [some (stkPV ws cs), some (.tup (ws.map .int)), some (.tup (cs.map cPV)), some (.ref st.length), x, y, z, w]) ∧ s = st ++ [.lst ((relA ds (relB cs ws j)).map .int)]) cs cs [] _ _ rfl ⟨⟨_, _, _, _, rfl⟩, rfl⟩ (fun _ _ _ _ => rfl) ?_ ?_
    · rintro ds c rest L s e ⟨⟨x, y, z, w, rfl⟩, rfl⟩
      have hc : c ∈ cs := by rw [e]; simp
      obtain ⟨ca, cb, cp⟩ := S.rng c hc
      have hl : (relA ds (relB cs ws j)).length = n := by rw [relA_len, relB_len, S.len]
      simp [cPV, w_bd, atI_int (show c.1 < (relA ds (relB cs ws j)).length by omega), atI_int (show c.2.1 < (relA ds (relB cs ws j)).length by omega), ixN_int (show c.2.1 < (relA ds (relB cs ws j)).length by omega)]
      rw [set_map, relA_snoc]
      simp only [rel1, List.getD_eq_getElem?_getD]
    · rintro L s ⟨⟨x, y, z, w, rfl⟩, rfl⟩
      simp [relB]
  · rintro L s ⟨⟨x, y, z, w, rfl⟩, rfl⟩
    simp
/-- the law's own, by its own rows -/
theorem own_ok (d : Nat) (n : Nat) (ws : List Int) (cs : List Chg) (S : Stk n ws cs) (hn : n ≤ 1000) (st : Sto) :
    callD tab (d + 1) 7 [stkPV ws cs] st = some (.tup ((relB cs ws n).map .int), st ++ [.lst ((relB cs ws n).map .int)]) := by
  refine wp_eq (wp_callD (fd := ⟨1, 6, bd7⟩) rfl rfl ?_)
  simp [bd7, stkPV]
  have hN : ∀ j, j ≤ n → relB cs ws j = relB cs ws j := fun _ _ => rfl
  refine wp_for_each (f := PV.int) (I := fun ds L s => (∃ x y z w, L = [some (stkPV ws cs), some (.ref st.length), x, y, z, w]) ∧ s = st ++ [.lst ((relB cs ws ds.length).map .int)]) ws ws [] _ _ rfl ⟨⟨_, _, _, _, rfl⟩, rfl⟩ (fun _ _ _ _ => rfl) ?_ ?_
  · rintro ds1 x1 r1 L s e1 ⟨⟨x, y, z, w, rfl⟩, rfl⟩
    simp [w_bd, stkPV]
    refine wp_for_each (f := cPV) (I := fun ds L s => (∃ x y z w, L = [some (stkPV ws cs), some (.ref st.length), x, y, z, w]) ∧ s = st ++ [.lst ((relA ds (relB cs ws ds1.length)).map .int)]) cs cs [] _ _ rfl ⟨⟨_, _, _, _, rfl⟩, rfl⟩ (fun _ _ _ _ => rfl) ?_ ?_
    · rintro ds c rest L s e ⟨⟨x, y, z, w, rfl⟩, rfl⟩
      have hc : c ∈ cs := by rw [e]; simp
      obtain ⟨ca, cb, cp⟩ := S.rng c hc
      have hl : (relA ds (relB cs ws ds1.length)).length = n := by rw [relA_len, relB_len, S.len]
      simp [cPV, w_bd, atI_int (show c.1 < (relA ds (relB cs ws ds1.length)).length by omega), atI_int (show c.2.1 < (relA ds (relB cs ws ds1.length)).length by omega), ixN_int (show c.2.1 < (relA ds (relB cs ws ds1.length)).length by omega)]
      rw [set_map, relA_snoc]
      simp only [rel1, List.getD_eq_getElem?_getD]
    · rintro L s ⟨⟨x, y, z, w, rfl⟩, rfl⟩
      simp [relB, stkPV]
  · rintro L s ⟨⟨x, y, z, w, rfl⟩, rfl⟩
    simp [S.len]
def oPV : Option Nat → PV
  | none => .non
  | some a => .int a
def layL (n : Nat) (ws l : List Int) (ds : List Chg) : List (Option Nat) := (List.range n).map fun b => (sel (ws.getD b 0) l b ds).1
def szsL (n : Nat) (ws l : List Int) (ds : List Chg) : List Int := (List.range n).map fun b => (sel (ws.getD b 0) l b ds).2
theorem sel_snoc (w : Int) (l : List Int) (b : Nat) (ds : List Chg) (c : Chg) : sel w l b (ds ++ [c]) = if lean l b c = true then selF (sel w l b ds) c else sel w l b ds := by
  unfold sel
  rw [List.filter_append]
  by_cases h : lean l b c = true
  · rw [List.filter_cons_of_pos h, if_pos h]; simp
  · rw [List.filter_cons_of_neg h, if_neg h]; simp
theorem map_range_set {α : Type} {n b : Nat} {f g : Nat → α} (hb : b < n) (h : ∀ i, i ≠ b → g i = f i) : (List.range n).map g = ((List.range n).map f).set b (g b) := by
  apply List.ext_getElem
  · simp
  · intro i h1 h2
    simp only [List.getElem_map, List.getElem_range, List.getElem_set]
    by_cases hi : b = i
    · subst hi; simp
    · simp [hi, h i (fun z => hi z.symm)]
theorem map_range_same {α : Type} {n : Nat} {f g : Nat → α} (h : ∀ i, g i = f i) : (List.range n).map g = (List.range n).map f := by
  congr 1; funext i; exact h i
theorem layL_len {n : Nat} {ws l : List Int} {ds : List Chg} : (layL n ws l ds).length = n := by simp [layL]
theorem szsL_len {n : Nat} {ws l : List Int} {ds : List Chg} : (szsL n ws l ds).length = n := by simp [szsL]
theorem szsL_get {n : Nat} {ws l : List Int} {ds : List Chg} {b : Nat} (h : b < n) : (szsL n ws l ds).getD b 0 = (sel (ws.getD b 0) l b ds).2 := by simp [szsL, h]
theorem lay_step {n : Nat} {ws l : List Int} {ds : List Chg} {c : Chg} (hb : c.2.1 < n) :
    (l.getD c.1 0 + c.2.2 = l.getD c.2.1 0 ∧ c.2.2 < (szsL n ws l ds).getD c.2.1 0 → layL n ws l (ds ++ [c]) = (layL n ws l ds).set c.2.1 (some c.1) ∧ szsL n ws l (ds ++ [c]) = (szsL n ws l ds).set c.2.1 c.2.2) ∧
    (¬ (l.getD c.1 0 + c.2.2 = l.getD c.2.1 0 ∧ c.2.2 < (szsL n ws l ds).getD c.2.1 0) → layL n ws l (ds ++ [c]) = layL n ws l ds ∧ szsL n ws l (ds ++ [c]) = szsL n ws l ds) := by
  have other : ∀ i, i ≠ c.2.1 → ∀ w, sel w l i (ds ++ [c]) = sel w l i ds := fun i hi w => by
    rw [sel_snoc, if_neg]
    simp only [lean, decide_eq_true_eq]
    exact fun z => hi z.1.symm
  rw [szsL_get hb]
  constructor
  · rintro ⟨h1, h2⟩
    have e : ∀ w, w = ws.getD c.2.1 0 → sel w l c.2.1 (ds ++ [c]) = (some c.1, c.2.2) := fun w hw => by
      subst hw
      rw [sel_snoc, if_pos (by simp [lean]; simpa using h1)]
      simp only [selF]
      rw [if_pos h2]
    constructor
    · unfold layL
      rw [map_range_set (f := fun b => (sel (ws.getD b 0) l b ds).1) hb (fun i hi => by rw [other i hi]), e _ rfl]
    · unfold szsL
      rw [map_range_set (f := fun b => (sel (ws.getD b 0) l b ds).2) hb (fun i hi => by rw [other i hi]), e _ rfl]
  · intro h
    have e : ∀ i, sel (ws.getD i 0) l i (ds ++ [c]) = sel (ws.getD i 0) l i ds := fun i => by
      by_cases hi : i = c.2.1
      · subst hi
        rw [sel_snoc]
        split
        · rename_i hl
          simp only [lean, decide_eq_true_eq, true_and] at hl
          simp only [selF]
          rw [if_neg (fun z => h ⟨hl, z⟩)]
        · rfl
      · exact other i hi _
    exact ⟨map_range_same fun i => by rw [e i], map_range_same fun i => by rw [e i]⟩
theorem lay_nil {n : Nat} {ws l : List Int} : layL n ws l [] = List.replicate n none := by
  unfold layL sel
  simp only [List.filter_nil, List.foldl_nil]
  apply List.ext_getElem <;> simp
theorem szs_nil {n : Nat} {ws l : List Int} (h : ws.length = n) : szsL n ws l [] = ws := by
  unfold szsL sel
  simp only [List.filter_nil, List.foldl_nil]
  apply List.ext_getElem
  · simp [h]
  · intro i h1 h2
    simp [h2]
theorem soonest_wp (d : Nat) (n : Nat) (ws : List Int) (cs : List Chg) (S : Stk n ws cs) (hn : n ≤ 1000) (st : Sto) :
    wp (callD tab (d + 2) 1 [stkPV ws cs] st) (fun z => z.1 = .tup ((layL n ws (relB cs ws n) cs).map oPV) ∧ ∃ o, z.2 = st ++ o) := by
  refine wp_callD (fd := ⟨1, 9, bd1⟩) rfl rfl ?_
  have hL : (relB cs ws n).length = n := by rw [relB_len, S.len]
  simp [bd1, stkPV]
  rw [show (PV.tup [PV.tup (List.map PV.int ws), PV.tup (List.map cPV cs)]) = stkPV ws cs from rfl, least_ok d n ws cs S hn]
  simp [big, S.len]
  refine ⟨by omega, by omega, ?_⟩
  refine wp_for_each (f := cPV) (I := fun ds L s => (∃ x y z, L = [some (stkPV ws cs), some (PV.tup (List.map PV.int ws)), some (PV.tup (List.map cPV cs)), some (PV.tup (List.map PV.int (relB cs ws n))), some (PV.ref (List.length st + 2)), some (PV.ref (List.length st + 3)), x, y, z]) ∧
    s = st ++ [PO.lst (List.map PV.int (relB cs ws n)), PO.lst [PV.non], PO.lst ((layL n ws (relB cs ws n) ds).map oPV), PO.lst ((szsL n ws (relB cs ws n) ds).map .int)]) cs cs [] _ _ rfl ⟨⟨_, _, _, rfl⟩, ?_⟩ (fun _ _ _ _ => rfl) ?_ ?_
  · rw [lay_nil, szs_nil S.len, List.map_replicate]; rfl
  · rintro ds c rest L s e ⟨⟨x, y, z, rfl⟩, rfl⟩
    have hc : c ∈ cs := by rw [e]; simp
    obtain ⟨ca, cb, cp⟩ := S.rng c hc
    have hs : (szsL n ws (relB cs ws n) ds).length = n := szsL_len
    have hl : (layL n ws (relB cs ws n) ds).length = n := layL_len
    obtain ⟨st1, st2⟩ := lay_step (ws := ws) (l := relB cs ws n) (ds := ds) cb
    simp only [List.getD_eq_getElem?_getD] at st1 st2
    simp [cPV, w_bd, atI_int (show c.1 < (relB cs ws n).length by omega), atI_int (show c.2.1 < (relB cs ws n).length by omega), atI_int (show c.2.1 < (szsL n ws (relB cs ws n) ds).length by omega), ixN_int (show c.2.1 < (layL n ws (relB cs ws n) ds).length by omega), set_app,
      ixN_int (show c.2.1 < (szsL n ws (relB cs ws n) ds).length by omega)]
    split
    · rename_i h1
      split
      · rename_i h2
        obtain ⟨e1, e2⟩ := st1 ⟨h1, h2⟩
        rw [e1, e2, List.map_set, List.map_set]
        exact ⟨rfl, rfl⟩
      · rename_i h2
        obtain ⟨e1, e2⟩ := st2 (fun z => h2 z.2)
        rw [e1, e2]; exact ⟨rfl, rfl⟩
    · rename_i h1
      obtain ⟨e1, e2⟩ := st2 (fun z => h1 z.1)
      rw [e1, e2]; exact ⟨rfl, rfl⟩
  · rintro L s ⟨⟨x, y, z, rfl⟩, rfl⟩
    simp
def tInt (t : List Int) : PV := .tup (t.map .int)
theorem intsOf_tInt (t : List Int) : intsOf (t.map PV.int) = some t := by
  induction t with
  | nil => rfl
  | cons x xs ih => simp only [List.map_cons, intsOf, ih, Option.map_some]
theorem tupsOf_tInt (ts : List (List Int)) : tupsOf (ts.map tInt) = some ts := by
  induction ts with
  | nil => rfl
  | cons x xs ih => simp only [List.map_cons, tInt, tupsOf, intsOf_tInt, Option.bind_some]; rw [show xs.map tInt = xs.map tInt from rfl, ih]; rfl
theorem minL_tInt (t : List Int) (r : List (List Int)) : minL ((t :: r).map tInt) = some (tInt (leastT t r)) := by
  unfold minL
  have : intsOf ((t :: r).map tInt) = none := rfl
  rw [this, tupsOf_tInt]; rfl
theorem enum_map (ws : List Int) : (upto 0 ws.length).zipWith (fun p q => PV.tup [p, q]) (ws.map .int) = (List.range ws.length).map fun (i : Nat) => PV.tup [.int (i : Int), .int (ws.getD i 0)] := by
  have up : ∀ (n : Nat) (lo : Int) (i : Nat) (h : i < (upto lo n).length), (upto lo n)[i] = .int (lo + i) := by
    intro n
    induction n with
    | zero => intro lo i h; simp [upto] at h
    | succ n ih =>
      intro lo i h
      cases i with
      | zero => simp [upto]
      | succ i => simp only [upto, List.getElem_cons_succ]; rw [ih]; congr 1; omega
  apply List.ext_getElem
  · simp [upto_len]
  · intro i h1 h2
    simp only [List.getElem_zipWith, List.getElem_map, List.getElem_range, up]
    simp at h2
    simp [h2]
theorem soon_wp (d : Nat) (n : Nat) (ws : List Int) (cs : List Chg) (S : Stk n ws cs) (hn : n ≤ 1000) (hcs : cs.length ≤ 1000) (st : Sto) :
    wp (callD tab (d + 2) 8 [stkPV ws cs] st) (fun z => z.1 = .tup ((layL n ws (relB cs ws n) cs).map oPV) ∧ ∃ o, z.2 = st ++ o) := by
  refine wp_callD (fd := ⟨1, 7, bd8⟩) rfl rfl ?_
  have hL : (relB cs ws n).length = n := by rw [relB_len, S.len]
  simp [bd8]
  rw [own_ok d n ws cs S hn]
  simp [big, stkPV]
  rw [enum_map, S.len]
  refine wp_for_each (I := fun ds L s => (∃ x y z w, L = [some (stkPV ws cs), some (PV.tup (List.map PV.int (relB cs ws n))), some (PV.ref (List.length st + 1)), x, y, z, w]) ∧ ∃ o, s = st ++ PO.lst (List.map PV.int (relB cs ws n)) :: PO.lst (ds.map fun b => oPV (sel (ws.getD b 0) (relB cs ws n) b cs).1) :: o) (List.range n) (List.range n) [] _ _ rfl ⟨⟨_, _, _, _, rfl⟩, [], rfl⟩ (fun _ _ _ _ => rfl) ?_ ?_
  · rintro ds b rest L s e ⟨⟨x, y, z, w, rfl⟩, o, rfl⟩
    have hb : b < n := by have : b ∈ List.range n := by rw [e]; simp
                          simpa using this
    simp [w_bd, atI_int (show b < (relB cs ws n).length by omega), stkPV, big]
    generalize hW : (if ws[b]?.getD 0 = (relB cs ws n)[b]?.getD 0 then (1 : Int) else 0) = kk
    have hkk : List.replicate kk.toNat (PV.tup [PV.int (ws[b]?.getD 0), PV.int (-1)]) = (wholeL (ws.getD b 0) ((relB cs ws n).getD b 0)).map tInt := by
      unfold wholeL
      simp only [List.getD_eq_getElem?_getD]
      subst hW
      split <;> simp [tInt]
    have hk1 : 0 ≤ kk ∧ kk ≤ 1 := by subst hW; split <;> omega
    refine ⟨by omega, by omega, by omega, ?_⟩
    rw [hkk]
    generalize hT : (st ++ PO.lst (List.map PV.int (relB cs ws n)) :: PO.lst (List.map (fun b => oPV (sel (ws[b]?.getD 0) (relB cs ws n) b cs).fst) ds) :: (o ++ [PO.lst [PV.tup [PV.int (ws[b]?.getD 0), PV.int (-1)]], PO.lst (List.map tInt (wholeL (ws.getD b 0) ((relB cs ws n).getD b 0)))])) = T
    refine wp_comp_each (f := cPV) (I := fun es acc s => acc = ((es.filter (lean (relB cs ws n) b)).map tupC).map tInt ∧ s = T) cs cs [] [] _ rfl ⟨rfl, rfl⟩ (fun _ _ _ _ => rfl) ?_ ?_
    · rintro es c rest' acc s e' ⟨rfl, rfl⟩
      have hc : c ∈ cs := by rw [e']; simp
      obtain ⟨ca, cb, cp⟩ := S.rng c hc
      simp [cPV, w_tsO, w_el, atI_int (show c.1 < (relB cs ws n).length by omega), atI_int (show b < (relB cs ws n).length by omega), big]
      split
      · rename_i h1
        have h1 : c.2.1 = b := by omega
        split
        · rename_i h2
          have : lean (relB cs ws n) b c = true := by simp only [lean, List.getD_eq_getElem?_getD, decide_eq_true_eq]; exact ⟨h1, h2⟩
          simp [this, tInt, tupC]
        · rename_i h2
          simp only [lean, List.getD_eq_getElem?_getD, decide_eq_false_iff_not]
          exact fun z => h2 z.2
      · rename_i h1
        simp only [lean, decide_eq_false_iff_not]
        exact fun z => h1 (by omega)
    · rintro ys s ⟨h1, rfl⟩
      rw [List.nil_append] at h1
      subst hT
      obtain ⟨t, r, v, e1, e2⟩ := soon_sel S hb
      have hlen : ys.length ≤ 1000 := by rw [h1, List.length_map, List.length_map]; exact Nat.le_trans (List.length_filter_le _ _) hcs
      generalize hA : PO.lst (List.map PV.int (relB cs ws n)) = A
      generalize hF : List.map (fun b => oPV (sel (ws[b]?.getD 0) (relB cs ws n) b cs).fst) ds = F
      generalize hD : PO.lst [PV.tup [PV.int (ws[b]?.getD 0), PV.int (-1)]] = D0
      have hdl : F.length ≤ n := by rw [← hF, List.length_map]; have := congrArg List.length e; simp at this; omega
      have est : ∀ W : PO, (st ++ A :: PO.lst F :: (o ++ [D0, W])) ++ [PO.lst ys] = st ++ A :: PO.lst F :: (o ++ [D0, W, PO.lst ys]) := fun W => by simp
      have eat : ∀ Wl : List PV, listOf (st ++ A :: PO.lst F :: (o ++ [D0, PO.lst Wl, PO.lst ys])) (.ref (st.length + (o.length + 1 + 1) + 1)) = some Wl := fun Wl => by
        rw [Nat.add_assoc, l_app, l_consS, l_consS]
        exact l_ref (by simp)
      have eset : ∀ W W' : PO, (st ++ A :: PO.lst F :: (o ++ [D0, W, PO.lst ys])).set (st.length + (o.length + 1 + 1) + 1) W' = st ++ A :: PO.lst F :: (o ++ [D0, W', PO.lst ys]) := fun W W' => by
        rw [Nat.add_assoc, set_app]
        simp [List.set_append]
      have wl : (wholeL (ws.getD b 0) ((relB cs ws n).getD b 0)).length ≤ 1 := by unfold wholeL; split <;> simp
      have emin : minL (List.map tInt (wholeL (ws.getD b 0) ((relB cs ws n).getD b 0)) ++ ys) = some (tInt [v, enc (sel (ws.getD b 0) (relB cs ws n) b cs).1]) := by
        rw [h1, ← List.map_append, e1, minL_tInt, e2]
      simp only [est, eat, eset, wp_some, emin]
      refine ⟨by omega, by rw [List.length_map]; omega, ?_⟩
      simp [tInt]
      generalize hsel : (sel (ws[b]?.getD 0) (relB cs ws n) b cs).1 = so
      cases so with
      | none => simp [enc, oPV]; omega
      | some a =>
        simp only [enc, oPV]
        rw [if_neg (by omega)]
        exact ⟨by omega, trivial⟩
  · rintro L s ⟨⟨x, y, z, w, rfl⟩, o, rfl⟩
    simp [layL]
/-! ### what is drawn -/
theorem many_wp (d : Nat) (n : Int) (l : Nat) (st : Sto) (hs : Lf st l n) (h0 : 0 ≤ n) (hn : n < 10000) :
    wp (callD tab (d + 3) 5 [.ref l, .int 12] st) (fun z => ∃ v : Nat, z.1 = .int v ∧ v ≤ 12 ∧ Lf z.2 l (n + 2) ∧ Fr l st z.2) := by
  refine wp_callD (fd := ⟨2, 2, bd5⟩) rfl rfl ?_
  have hl := hs.lt
  simp [bd5]
  refine wp_mono (pick_wp d 8 n l _ hs (by omega) (by omega) (by omega)) ?_
  rintro ⟨v, st1⟩ ⟨v, rfl, v0, v1, lf, fr, le⟩
  simp
  split
  · refine wp_mono (pick_wp d 6 (n + 1) l _ lf (by omega) (by omega) (by omega)) ?_
    rintro ⟨u, st2⟩ ⟨u, rfl, u0, u1, lf2, fr2, le2⟩
    simp
    exact ⟨(7 + u).toNat, by omega, by omega, lf2.mono (by omega), fr.trans fr2⟩
  · simp [big]
    refine wp_mono (pick_wp d 10 (n + 1) l _ (lf.app _) (by omega) (by omega) (by omega)) ?_
    rintro ⟨u, st2⟩ ⟨u, rfl, u0, u1, lf2, fr2, le2⟩
    have ll := lf.lt
    simp at ll
    have e1 : st2[st1.length]? = some (.lst [.int 0, .int 1, .int 2, .int 3, .int 4, .int 5, .int 6, .int 4, .int 5, .int 3]) := fr2.at (by simp) (by omega)
    have hw : ∃ w : Nat, [PV.int 0, .int 1, .int 2, .int 3, .int 4, .int 5, .int 6, .int 4, .int 5, .int 3][u.toNat]? = some (.int w) ∧ w ≤ 12 := by
      have : u = 0 ∨ u = 1 ∨ u = 2 ∨ u = 3 ∨ u = 4 ∨ u = 5 ∨ u = 6 ∨ u = 7 ∨ u = 8 ∨ u = 9 := by omega
      rcases this with rfl | rfl | rfl | rfl | rfl | rfl | rfl | rfl | rfl | rfl
      · exact ⟨0, rfl, by decide⟩
      · exact ⟨1, rfl, by decide⟩
      · exact ⟨2, rfl, by decide⟩
      · exact ⟨3, rfl, by decide⟩
      · exact ⟨4, rfl, by decide⟩
      · exact ⟨5, rfl, by decide⟩
      · exact ⟨6, rfl, by decide⟩
      · exact ⟨4, rfl, by decide⟩
      · exact ⟨5, rfl, by decide⟩
      · exact ⟨3, rfl, by decide⟩
    obtain ⟨w, ew, w1⟩ := hw
    simp [l_ref e1, atI_nat (show u = u.toNat by omega) ew]
    exact ⟨w, rfl, w1, lf2.mono (by omega), (fr.trans .app).trans fr2⟩
theorem inv_two (st : Sto) (i x y : Int) : ∃ r, inv st (.int i) (.tup [.int x, .int y]) = some r := ⟨_, rfl⟩
structure ChsOk (m : Nat) (a : Nat) (cs : List Chg) : Prop where
  rng : ∀ c ∈ cs, c.1 < m ∧ c.2.1 < m ∧ 1 ≤ c.2.2
  ris : cs.Pairwise fun c d => c.1 ≤ d.1
  top : ∀ c ∈ cs, c.1 ≤ a
theorem ChsOk.snoc {m a : Nat} {cs : List Chg} (h : ChsOk m a cs) {b : Nat} {s : Int} (ha : a < m) (hb : b < m) (hs : 1 ≤ s) : ChsOk m a (cs ++ [(a, b, s)]) := by
  refine ⟨fun c hc => ?_, ?_, fun c hc => ?_⟩
  · rcases List.mem_append.mp hc with hc | hc
    · exact h.rng c hc
    · simp at hc; subst hc; exact ⟨ha, hb, hs⟩
  · rw [List.pairwise_append]
    refine ⟨h.ris, by simp, fun c hc d hd => ?_⟩
    simp at hd; subst hd
    exact h.top c hc
  · rcases List.mem_append.mp hc with hc | hc
    · exact h.top c hc
    · simp at hc; subst hc; exact Nat.le_refl _
def tail4 : S → S
  | .cons _ (.cons _ (.cons _ (.cons _ r))) => r
  | s => s
/-- the loops' state -/
def AlI (l : Nat) (n : Int) (st : Sto) (m a : Nat) (i : Nat) (g ch : Int) (v3 : PV) (wl cl : Nat) (ws : List Int) (L : Loc) (s : Sto) : Prop :=
  ∃ x y cs, L = [some (.ref l), some (.int m), some (.int g), some v3, some (.ref wl), some (.int ch), some (.ref cl), x, y] ∧ s[wl]? = some (.lst (ws.map .int)) ∧ s[cl]? = some (.lst (cs.map cPV)) ∧ ChsOk m a cs ∧ cs.length ≤ i ∧ Lf s l (n + i) ∧ Fr l st s
def AlB (l : Nat) (n : Int) (st : Sto) (m a i : Nat) (g ch : Int) (v3 : PV) (wl cl : Nat) (ws : List Int) (b : Nat) (L : Loc) (s : Sto) : Prop :=
  ∃ i', i' ≤ i + b ∧ ∃ y cs, L = [some (.ref l), some (.int m), some (.int g), some v3, some (.ref wl), some (.int ch), some (.ref cl), some (.int a), y] ∧ s[wl]? = some (.lst (ws.map .int)) ∧ s[cl]? = some (.lst (cs.map cPV)) ∧ ChsOk m a cs ∧ cs.length ≤ i' ∧ Lf s l (n + i') ∧ Fr l st s
theorem alike_tail (d m : Nat) (n : Int) (l : Nat) (st s : Sto) (wl : Nat) (ws : List Int) (g : Int) (v3 : PV) (hm : m ≤ 12) (h0 : 0 ≤ n) (hn : n < 20000) (hg : 1 ≤ g) (hw : s[wl]? = some (.lst (ws.map .int))) (hwn : wl ≠ l) (hl0 : l < st.length) (hw1 : ws.length = m) (hw2 : ∀ w ∈ ws, 1 ≤ w) (hf : Lf s l n) (hr : Fr l st s) :
    wp (ex (callD tab (d + 2)) (tail4 bd9) [some (.ref l), some (.int m), some (.int g), some v3, some (.ref wl), none, none, none, none] s) (fun z => wp (retOf z) fun z => ∃ ws cs, z.1 = stkPV ws cs ∧ Stk m ws cs ∧ cs.length ≤ 144 ∧ Lf z.2 l (n + 160) ∧ Fr l st z.2) := by
  simp [tail4, bd9, big]
  have hl := hf.lt
  refine wp_mono (pick_wp d 3 n l _ hf (by omega) (by omega) (by omega)) ?_
  rintro ⟨ch, s1⟩ ⟨ch, rfl, c0, c1, lf1, fr1, le1⟩
  simp
  refine ⟨by simp [small62]; omega, ?_⟩
  have hw' := fr1.at hw hwn
  have wlt : wl < s1.length := (List.getElem?_eq_some_iff.mp hw').1
  have hsl : st.length ≤ s1.length := (hr.trans fr1).1
  have hne : s1.length ≠ l := by omega
  refine wp_for_upto (I := fun a L s => ∃ i, i ≤ 12 * a ∧ AlI l (n + 1) st m a i g ch v3 wl s1.length ws L s) m 0 _ _ ⟨0, Nat.le_refl _, _, _, [], rfl, by rw [List.getElem?_append_left wlt]; exact hw', by simp, ⟨by simp, by simp, by simp⟩, by simp, by simpa using lf1.app _, (hr.trans fr1).trans .app⟩ ?_ ?_
  · rintro a L s2 - ha ⟨i, hi, x, y, cs, rfl, hwl, hcl, hok, hlen, hlf, hfr⟩
    simp [w_bd]
    refine ⟨by simp [small62]; omega, ?_⟩
    refine wp_for_upto (I := AlB l (n + 1) st m a i g ch v3 wl s1.length ws) m 0 _ _ ⟨i, Nat.le_refl _, _, cs, rfl, hwl, hcl, hok, hlen, hlf, hfr⟩ ?_ ?_
    · rintro b L s3 - hb ⟨i', hi', y, cs, rfl, hwl, hcl, hok, hlen, hlf, hfr⟩
      have put : wp (callD tab (d + 2) 4 [PV.ref l, PV.int 3] s3) fun y =>
        wp (binop BOp.add (PV.int 1) y.fst y.snd) fun x =>
          wp (Kw.atI [PV.int g, x.fst] (if 1 < ch then 1 else ch)) fun v =>
            wp (listOf (x.snd ++ [PO.lst [PV.int g, x.fst]]) (PV.ref (List.length s1))) fun xs =>
              xs.length < 100000 ∧ AlB l (n + 1) st m a i g ch v3 wl s1.length ws (b + 1) [some (.ref l), some (.int m), some (.int g), some v3, some (.ref wl), some (.int ch), some (.ref s1.length), some (.int a), some (.int b)]
                (List.set (x.snd ++ [PO.lst [PV.int g, x.fst]]) (List.length s1) (PO.lst (xs ++ [PV.tup [PV.int a, PV.int b, v]]))) := by
        refine wp_mono (pick_wp d 3 (n + 1 + i') l _ hlf (by omega) (by omega) (by omega)) ?_
        rintro ⟨q, s4⟩ ⟨q, rfl, q0, q1, lf4, fr4, le4⟩
        simp
        have hx : ∃ v : Int, Kw.atI [PV.int g, PV.int (1 + q)] (if 1 < ch then 1 else ch) = some (.int v) ∧ 1 ≤ v := by
          have : ch = 0 ∨ ch = 1 ∨ ch = 2 := by omega
          rcases this with rfl | rfl | rfl
          · exact ⟨g, rfl, hg⟩
          · exact ⟨1 + q, rfl, by omega⟩
          · exact ⟨1 + q, rfl, by omega⟩
        obtain ⟨v, ev, v1⟩ := hx
        have hcl4 := fr4.at hcl hne
        have hwl4 := fr4.at hwl hwn
        have clt : s1.length < s4.length := (List.getElem?_eq_some_iff.mp hcl4).1
        have wlt4 : wl < s4.length := (List.getElem?_eq_some_iff.mp hwl4).1
        have e5 : (s4 ++ [PO.lst [PV.int g, PV.int (1 + q)]])[s1.length]? = some (.lst (cs.map cPV)) := by rw [List.getElem?_append_left clt]; exact hcl4
        simp only [ev, wp_some, l_ref e5]
        refine ⟨by rw [List.length_map]; omega, i' + 1, by omega, _, cs ++ [(a, b, v)], rfl, ?_, ?_, hok.snoc (by omega) (by omega) v1, by simp; omega, ?_, ?_⟩
        · rw [List.getElem?_set_ne (by omega), List.getElem?_append_left wlt4]; exact hwl4
        · rw [List.getElem?_set_self (by simp; omega)]; simp [cPV]
        · exact ((lf4.mono (by simp; omega)).app _).set hne
        · refine ⟨?_, fun k hk hkl => ?_⟩
          · have := (hfr.trans fr4).1
            simp at this ⊢; omega
          · have hs1 := hfr.1
            have hk1 : k < s1.length := Nat.lt_of_lt_of_le hk (by have := (hr.trans fr1).1; simpa using this)
            rw [List.getElem?_set_ne (by omega)]
            exact ((hfr.trans fr4).trans .app).2 k hk hkl
      obtain ⟨rr, hrr⟩ := inv_two s3 b ((a + 1) % m) ((a + 2) % m)
      have stay : AlB l (n + 1) st m a i g ch v3 wl s1.length ws (b + 1) [some (.ref l), some (.int m), some (.int g), some v3, some (.ref wl), some (.int ch), some (.ref s1.length), some (.int a), some (.int b)] s3 := ⟨i', by omega, _, cs, rfl, hwl, hcl, hok, hlen, hlf, hfr⟩
      simp [w_bd, big, hrr]
      split
      · exact stay
      · split
        · exact put
        · refine ⟨by omega, ?_⟩
          split
          · exact put
          · exact stay
    · rintro L s3 ⟨i', hi', y, cs, rfl, hwl, hcl, hok, hlen, hlf, hfr⟩
      simp
      exact ⟨i', by omega, _, _, cs, rfl, hwl, hcl, ⟨hok.rng, hok.ris, fun c hc => Nat.le_succ_of_le (hok.top c hc)⟩, hlen, hlf, hfr⟩
  · rintro L s2 ⟨i, hi, x, y, cs, rfl, hwl, hcl, hok, hlen, hlf, hfr⟩
    simp [l_ref hwl, l_ref hcl, big]
    exact ⟨ws, cs, rfl, ⟨hw1, hw2, hok.rng, hok.ris⟩, by omega, hlf.mono (by omega), hfr⟩
theorem alike_wp (d : Nat) (m : Nat) (n : Int) (l : Nat) (st : Sto) (hm : m ≤ 12) (hs : Lf st l n) (h0 : 0 ≤ n) (hn : n < 10000) :
    wp (callD tab (d + 3) 9 [.ref l, .int m] st) (fun z => ∃ ws cs, z.1 = stkPV ws cs ∧ Stk m ws cs ∧ cs.length ≤ 144 ∧ Lf z.2 l (n + 200) ∧ Fr l st z.2) := by
  refine wp_callD (fd := ⟨2, 9, bd9⟩) rfl rfl ?_
  have hl := hs.lt
  simp [bd9]
  refine wp_mono (pick_wp d 3 n l _ hs (by omega) (by omega) (by omega)) ?_
  rintro ⟨g, st1⟩ ⟨g, rfl, g0, g1, lf1, fr1, le1⟩
  have sm2 : small 2 = true := by decide
  have sm10 : small 10 = true := by decide
  simp [sm2, sm10, big]
  refine wp_mono (pick_wp d 4 (n + 1) l _ (lf1.app _) (by omega) (by omega) (by omega)) ?_
  rintro ⟨u, st2⟩ ⟨u, rfl, u0, u1, lf2, fr2, le2⟩
  have ll := lf1.lt
  simp at ll
  have e1 : st2[st1.length]? = some (.lst [.int (1 + g), .int (2 * (1 + g)), .int 3, .int 999999998]) := fr2.at (by simp) (by omega)
  have hw : ∃ w : Int, [PV.int (1 + g), .int (2 * (1 + g)), .int 3, .int 999999998][u.toNat]? = some (.int w) ∧ 1 ≤ w := by
    have : u = 0 ∨ u = 1 ∨ u = 2 ∨ u = 3 := by omega
    rcases this with rfl | rfl | rfl | rfl
    · exact ⟨_, rfl, by omega⟩
    · exact ⟨_, rfl, by omega⟩
    · exact ⟨3, rfl, by decide⟩
    · exact ⟨_, rfl, by decide⟩
  obtain ⟨w, ew, w1⟩ := hw
  simp [l_ref e1, atI_nat (show u = u.toNat by omega) ew]
  refine ⟨by simp [small62]; omega, ?_⟩
  refine wp_comp_upto (I := fun j acc s => ∃ ws : List Int, acc = ws.map .int ∧ ws.length = j ∧ (∀ w ∈ ws, 1 ≤ w) ∧ Lf s l (n + 2 + 2 * j) ∧ Fr l st2 s) m 0 [] st2 ⟨[], rfl, rfl, by simp, by simpa using lf2.mono (by omega), .rfl⟩ ?_ ?_
  · rintro j acc s - hj ⟨ws, rfl, hw1, hw2, hf, hr⟩
    simp [w_el]
    refine wp_mono (pick_wp d 3 (n + 2 + 2 * j) l s hf (by omega) (by omega) (by omega)) ?_
    rintro ⟨p, s1⟩ ⟨p, rfl, p0, p1, lf3, fr3, le3⟩
    simp
    refine wp_mono (pick_wp d 2 (n + 2 + 2 * j + 1) l s1 lf3 (by omega) (by omega) (by omega)) ?_
    rintro ⟨q, s2⟩ ⟨q, rfl, q0, q1, lf4, fr4, le4⟩
    simp [small_of p0 (by omega)]
    refine ⟨ws ++ [w + p * q], by simp, by simp [hw1], fun x hx => ?_, lf4.mono (by omega), (hr.trans fr3).trans fr4⟩
    rcases List.mem_append.mp hx with hx | hx
    · exact hw2 x hx
    · simp at hx
      have := Int.mul_nonneg p0 q0
      omega
  · rintro ys s ⟨ws, hy, hw1, hw2, hf, hr⟩
    rw [List.nil_append] at hy
    subst hy
    rw [Nat.zero_add] at hw1
    refine ⟨by show (ws.map PV.int).length ≤ 100000; rw [List.length_map, hw1]; omega, ?_⟩
    have hls : l < s.length := hf.lt
    have h23 := hr.1
    have fr0 : Fr l st (s ++ [PO.lst (ws.map PV.int)]) := (((fr1.trans .app).trans fr2).trans hr).trans .app
    split
    · rename_i hpos
      refine wp_mono (pick_wp d 3 (n + 26) l _ ((hf.mono (by omega)).app _) (by omega) (by omega) (by omega)) ?_
      rintro ⟨p, s3⟩ ⟨p, rfl, p0, p1, lf3, fr3, le3⟩
      simp
      refine wp_mono (pick_wp d m (n + 26 + 1) l _ lf3 (by omega) (by omega) (by omega)) ?_
      rintro ⟨q, s4⟩ ⟨q, rfl, q0, q1, lf4, fr4, le4⟩
      have e4 : s4[s.length]? = some (.lst (ws.map .int)) := fr4.at (fr3.at (by simp) (by omega)) (by omega)
      have hq : q = (q.toNat : Nat) := by omega
      have hqn : q.toNat < ws.length := by omega
      simp [l_ref e4]
      rw [hq, ixN_int hqn]
      simp
      rw [set_map]
      have slt : s.length < s4.length := (List.getElem?_eq_some_iff.mp e4).1
      have := alike_tail d m (n + 28) l st (s4.set s.length (.lst ((ws.set q.toNat (1 + p)).map .int))) s.length (ws.set q.toNat (1 + p)) (1 + g) (.int w) hm (by omega) (by omega) (by omega) (List.getElem?_set_self slt) (by omega) hl (by simp [hw1]) (fun x hx => ?_) ((lf4.mono (by omega)).set (by omega)) ?_
      · have t2 := wp_mono this (P := fun z => wp (retOf z) fun z => ∃ ws cs, z.1 = stkPV ws cs ∧ Stk m ws cs ∧ cs.length ≤ 144 ∧ Lf z.2 l (n + 200) ∧ Fr l st z.2) (fun z hz => wp_mono hz fun z ⟨ws, cs, a1, a2, a3, a4, a5⟩ => ⟨ws, cs, a1, a2, a3, a4.mono (by omega), a5⟩)
        simpa [tail4, bd9, big] using t2
      · rcases List.mem_or_eq_of_mem_set hx with hx | hx
        · exact hw2 x hx
        · omega
      · have := (fr0.trans fr3).trans fr4
        refine ⟨by rw [List.length_set]; exact this.1, fun k hk hkl => ?_⟩
        have : st.length ≤ s.length := (((fr1.trans .app).trans fr2).trans hr).1
        rw [List.getElem?_set_ne (by omega)]
        exact ((fr0.trans fr3).trans fr4).2 k hk hkl
    · have t2 := wp_mono (alike_tail d m (n + 28) l st (s ++ [.lst (ws.map .int)]) s.length ws (1 + g) (.int w) hm (by omega) (by omega) (by omega) (by simp) (by omega) hl hw1 hw2 ((hf.mono (by omega)).app _) fr0) (P := fun z => wp (retOf z) fun z => ∃ ws cs, z.1 = stkPV ws cs ∧ Stk m ws cs ∧ cs.length ≤ 144 ∧ Lf z.2 l (n + 200) ∧ Fr l st z.2) (fun z hz => wp_mono hz fun z ⟨ws, cs, a1, a2, a3, a4, a5⟩ => ⟨ws, cs, a1, a2, a3, a4.mono (by omega), a5⟩)
      simpa [tail4, bd9, big] using t2
theorem bools_of {P : PV → PV → Prop} {xs ys : List PV} (h : All2 P xs ys) (hP : ∀ x y, P x y → y = .bl true) : ∃ bs, bools ys = some bs ∧ bs.all id = true := by
  induction h with
  | nil => exact ⟨[], rfl, rfl⟩
  | cons p h ih =>
    obtain ⟨bs, e, ha⟩ := ih
    cases hP _ _ p
    exact ⟨true :: bs, by simp [bools, e], by simp only [List.all_cons, ha, id, Bool.and_self]⟩
/-- a thing is the same as itself -/
def Self (d : Nat) (v : PV) : Prop := ∀ s, wp (callD tab d 6 [v, v] s) (fun z => z.1 = .bl true ∧ ∃ o, z.2 = s ++ o)
theorem self_int (d : Nat) (i : Int) : Self (d + 1) (.int i) := by
  intro s
  refine wp_callD (fd := ⟨2, 2, bd6⟩) rfl rfl ?_
  simp [bd6]
theorem self_non (d : Nat) : Self (d + 1) .non := by
  intro s
  refine wp_callD (fd := ⟨2, 2, bd6⟩) rfl rfl ?_
  simp [bd6]
theorem self_o (d : Nat) (o : Option Nat) : Self (d + 1) (oPV o) := by
  cases o with
  | none => exact self_non d
  | some a => exact self_int d a
theorem mem_zipWith_self {xs : List PV} {z : PV} (h : z ∈ xs.zipWith (fun p q => PV.tup [p, q]) xs) : ∃ x ∈ xs, z = .tup [x, x] := by
  induction xs with
  | nil => simp at h
  | cons x r ih =>
    rw [List.zipWith_cons_cons] at h
    rcases List.mem_cons.mp h with h | h
    · exact ⟨x, List.mem_cons_self .., h⟩
    · obtain ⟨y, hy, e⟩ := ih h
      exact ⟨y, List.mem_cons_of_mem _ hy, e⟩
theorem self_tup (d : Nat) (xs : List PV) (h : ∀ x ∈ xs, Self (d + 1) x) (hl : xs.length ≤ 1000) : Self (d + 2) (.tup xs) := by
  intro st
  refine wp_callD (fd := ⟨2, 2, bd6⟩) rfl rfl ?_
  simp only [bd6]
  simp [-List.zipWith_self]
  refine wp_comp_all (I := fun s => ∃ o, s = st ++ o) (P := fun _ y => y = .bl true) _ st ⟨[], by simp⟩ ?_ ?_ ?_
  · rintro s -; rfl
  · rintro x hx s ⟨o, rfl⟩
    obtain ⟨y, hy, rfl⟩ := mem_zipWith_self hx
    simp [w_el]
    refine wp_mono (h y hy _) ?_
    rintro ⟨v, s⟩ ⟨e, o', rfl⟩
    exact ⟨e, o ++ o', by simp⟩
  · rintro ys s hf ⟨o, rfl⟩
    have hy := hf.len
    simp at hy
    obtain ⟨bs, hb, ha⟩ := bools_of hf (fun _ _ h => h)
    refine ⟨by simp [big]; omega, ?_⟩
    simp [hb] at ha ⊢
    exact ha
theorem same_wp (d : Nat) (xs : List PV) (h : ∀ x ∈ xs, Self (d + 1) x) (hl : xs.length ≤ 1000) (p q : Nat) (st : Sto) (hp : st[p]? = some (.lst xs)) (hq : st[q]? = some (.lst xs)) :
    wp (callD tab (d + 2) 6 [.ref p, .ref q] st) (fun z => z.1 = .bl true ∧ ∃ o, z.2 = st ++ o) := by
  have hp' := l_ref hp
  have hq' := l_ref hq
  refine wp_callD (fd := ⟨2, 2, bd6⟩) rfl rfl ?_
  simp only [bd6]
  simp [-List.zipWith_self, hp', hq']
  have ap : ∀ o l, st[l]? = some (.lst xs) → listOf (st ++ o) (.ref l) = some xs := by
    intro o l h
    exact l_ref (by rw [List.getElem?_append_left (List.getElem?_eq_some_iff.mp h).1]; exact h)
  refine wp_comp_all (I := fun s => ∃ o, s = st ++ o) (P := fun _ y => y = .bl true) _ st ⟨[], by simp⟩ ?_ ?_ ?_
  · rintro s ⟨o, rfl⟩; simp [okG, gdOf, ap o p hp, ap o q hq]
  · rintro x hx s ⟨o, rfl⟩
    obtain ⟨y, hy, rfl⟩ := mem_zipWith_self hx
    simp [w_el]
    refine wp_mono (h y hy _) ?_
    rintro ⟨v, s⟩ ⟨e, o', rfl⟩
    exact ⟨e, o ++ o', by simp⟩
  · rintro ys s hf ⟨o, rfl⟩
    have hy := hf.len
    simp at hy
    obtain ⟨bs, hb, ha⟩ := bools_of hf (fun _ _ h => h)
    refine ⟨by simp [big]; omega, ?_⟩
    simp [hb] at ha ⊢
    exact ha
theorem enum_o (xs : List (Option Nat)) : (upto 0 xs.length).zipWith (fun p q => PV.tup [p, q]) (xs.map oPV) = (List.range xs.length).map fun (i : Nat) => PV.tup [.int (i : Int), oPV (xs.getD i none)] := by
  have gen : ∀ (xs : List (Option Nat)) (k : Nat), (upto (k : Int) xs.length).zipWith (fun p q => PV.tup [p, q]) (xs.map oPV) = (List.range xs.length).map fun (i : Nat) => PV.tup [.int ((k + i : Nat) : Int), oPV (xs.getD i none)] := by
    intro xs
    induction xs with
    | nil => intro k; rfl
    | cons x r ih =>
      intro k
      have := ih (k + 1)
      rw [List.length_cons, List.range_succ_eq_map]
      simp only [upto, List.map_cons, List.zipWith_cons_cons, List.map_map]
      refine congr (congrArg List.cons rfl) ?_
      rw [show ((k : Int) + 1) = ((k + 1 : Nat) : Int) by omega, this]
      refine List.map_congr_left fun i _ => ?_
      simp [show k + 1 + i = k + (i + 1) by omega]
  simpa using gen xs 0
theorem at2 (s o : Sto) (a b : PO) (r : Sto) : (s ++ a :: (o ++ b :: r))[s.length + (o.length + 1)]? = some b := by
  rw [at_app, List.getElem?_cons_succ]; simp
theorem at3 (s o o' : Sto) (a b c e : PO) : (s ++ a :: (o ++ b :: c :: (o' ++ [e])))[s.length + (o.length + (o'.length + 1 + 1) + 1)]? = some e := by
  rw [at_app, List.getElem?_cons_succ, at_app]; simp
theorem law_true (ns : List Int) : ∃ st, callD tab 6 10 [.scr ns] [] = some (.bl true, st) := by
  have : wp (callD tab 6 10 [.scr ns] []) (fun z => z.1 = .bl true) := by
    refine wp_callD (fd := ⟨1, 8, bd10⟩) rfl rfl ?_
    simp [bd10]
    refine ⟨by simp [small62]; split <;> (first | omega | (split <;> omega)), ?_⟩
    refine wp_for_upto (I := fun _ L _ => ∃ a b c d e f g, L = [some (.scr ns), a, b, c, d, e, f, g]) _ 0 _ _ ⟨_, _, _, _, _, _, _, rfl⟩ ?_ ?_
    · rintro k L s - - ⟨a, b, c, d, e, f, g, rfl⟩
      simp [w_bd]
      refine wp_mono (left_wp 4 ns k s) ?_
      rintro ⟨v, s1⟩ ⟨rfl, o, rfl, hf⟩
      simp at hf ⊢
      refine wp_mono (many_wp 2 0 s.length _ hf (by omega) (by omega)) ?_
      rintro ⟨v, s2⟩ ⟨m, rfl, hm, lf2, fr2⟩
      simp
      refine wp_mono (alike_wp 2 m (0 + 2) s.length s2 hm lf2 (by omega) (by omega)) ?_
      rintro ⟨v, s3⟩ ⟨ws, cs, rfl, S, hc, lf3, fr3⟩
      simp
      rw [least_ok 4 m ws cs S (by omega)]
      simp
      refine wp_mono (soonest_wp 3 m ws cs S (by omega) _) ?_
      rintro ⟨v, s4⟩ ⟨rfl, o4, rfl⟩
      simp [big]
      rw [own_ok 4 m ws cs S (by omega)]
      simp
      refine wp_mono (soon_wp 3 m ws cs S (by omega) (by omega) _) ?_
      rintro ⟨v, s5⟩ ⟨rfl, o5, rfl⟩
      simp [big]
      have hR : (relB cs ws m).length = m := by rw [relB_len, S.len]
      have hY : (layL m ws (relB cs ws m) cs).length = m := layL_len
      refine wp_mono (same_wp 3 [PV.tup (List.map PV.int (relB cs ws m)), PV.tup (List.map oPV (layL m ws (relB cs ws m) cs))] ?_ (by simp) _ _ _ (at2 _ _ _ _ _) (at3 _ _ _ _ _ _ _)) ?_
      · intro x hx
        simp only [List.mem_cons, List.not_mem_nil, or_false] at hx
        rcases hx with rfl | rfl
        · refine self_tup 2 _ (fun x hx => ?_) (by rw [List.length_map]; omega)
          obtain ⟨i, -, rfl⟩ := List.mem_map.mp hx
          exact self_int 2 i
        · refine self_tup 2 _ (fun x hx => ?_) (by rw [List.length_map]; omega)
          obtain ⟨i, -, rfl⟩ := List.mem_map.mp hx
          exact self_o 2 i
      · rintro ⟨v, s6⟩ ⟨rfl, o6, -⟩
        simp
        rw [enum_o, hY]
        refine wp_for_each (I := fun ds L s' => ∃ x y, L = [some (PV.scr ns), some (PV.int k), some (PV.ref (List.length s)), some (stkPV ws cs), some (PV.tup (List.map PV.int (relB cs ws m))), some (PV.tup (List.map oPV (layL m ws (relB cs ws m) cs))), x, y]) (List.range m) (List.range m) [] _ _ rfl ⟨_, _, rfl⟩ (fun _ _ _ _ => rfl) ?_ ?_
        · rintro ds b rest L s' e ⟨x, y, rfl⟩
          have hb : b < m := by have : b ∈ List.range m := by rw [e]; simp
                                simpa using this
          simp [w_bd]
          generalize hsel : (layL m ws (relB cs ws m) cs)[b]?.getD none = so
          have hs : (sel (ws.getD b 0) (relB cs ws m) b cs).1 = so := by
            rw [← hsel]; simp [layL, hb]
          cases so with
          | none => simp [oPV]
          | some a =>
            obtain ⟨h1, h2⟩ := sel_nearer S hs
            simp only [List.getD_eq_getElem?_getD] at h2
            simp [oPV, atI_int (show a < (relB cs ws m).length by omega), atI_int (show b < (relB cs ws m).length by omega)]
            omega
        · rintro L s' ⟨x, y, rfl⟩
          simp
    · rintro L s ⟨a, b, c, d, e, f, g, rfl⟩
      simp
      have S0 : Stk 0 [] [] := ⟨rfl, by simp, by simp, by simp⟩
      have e0 := least_ok 4 0 [] [] S0 (by omega) s
      simp only [stkPV, List.map_nil] at e0
      rw [e0]
      simp [big]
      have e1 := soonest_wp 3 0 [] [] S0 (by omega) (s ++ [PO.lst (List.map PV.int (relB [] [] 0))])
      simp only [stkPV, List.map_nil] at e1
      refine wp_mono e1 ?_
      rintro ⟨v, s1⟩ ⟨rfl, o1, rfl⟩
      refine wp_mono (same_wp 3 [PV.tup [], PV.tup []] ?_ (by simp) _ _ _ ?_ ?_) ?_
      · intro x hx
        simp only [List.mem_cons, List.not_mem_nil, or_false, or_self] at hx
        subst hx
        exact self_tup 2 [] (by simp) (by simp)
      · simp [relB, layL]
      · simp [relB, layL]
        rw [Nat.add_assoc, at_app, List.getElem?_cons_succ, at_app]; rfl
      · rintro ⟨v, s⟩ ⟨rfl, -⟩
        rfl
  obtain ⟨⟨v, st⟩, h, rfl⟩ := this
  exact ⟨st, h⟩
end Kw
end
section
set_option Elab.async false
set_option linter.all false
set_option maxRecDepth 100000
set_option maxHeartbeats 4000000
namespace Kw
open PySem PySem.Spec PyProof.Rows L2
def top (i : Nat) : Stmt := PySem.Challenge.pw_keepwhole_k22_reads_of_like_ways.main.body.getD i (.Pass ⟨0, 0, 0, 0⟩)
def d0 : Df := ⟨"least_reads", top 1, ["stock"], ["stock", "wholes", "changes", "least", "turn", "a", "b", "size"]⟩
def d1 : Df := ⟨"soonest", top 2, ["stock"], ["stock", "wholes", "changes", "least", "laying", "sizes", "a", "b", "size"]⟩
def d2 : Df := ⟨"_law_mix", top 4, ["_law_cell", "_law_k"], ["_law_cell", "_law_k", "_law_m"]⟩
def d3 : Df := ⟨"_law_left", top 5, ["_law_script", "_law_k"], ["_law_script", "_law_k", "_law_cell"]⟩
def d4 : Df := ⟨"_law_pick", top 6, ["_law_left_here", "_law_many_here"], ["_law_left_here", "_law_many_here", "_law_digit"]⟩
def d5 : Df := ⟨"_law_many", top 7, ["_law_left_here", "_law_most"], ["_law_left_here", "_law_most"]⟩
def d6 : Df := ⟨"_law_same", top 8, ["_law_found", "_law_due"], ["_law_found", "_law_due"]⟩
def d7 : Df := ⟨"_law_least", top 9, ["_law_stock"], ["_law_stock", "_law_numbers", "_law_turn", "_law_a", "_law_b", "_law_size"]⟩
def d8 : Df := ⟨"_law_soon", top 10, ["_law_stock"], ["_law_stock", "_law_numbers", "_law_found", "_law_make", "_law_whole", "_law_some", "_law_on"]⟩
def d9 : Df := ⟨"_law_alike", top 11, ["_law_left_here", "_law_many_here"], ["_law_left_here", "_law_many_here", "_law_great", "_law_whole", "_law_wholes", "_law_choice", "_law_changes", "_law_a", "_law_b"]⟩
def d10 : Df := ⟨"law", top 12, ["_law_script"], ["_law_script", "_law_k", "_law_left_here", "_law_stock", "_law_numbers", "_law_laying", "_law_make", "_law_on"]⟩
def fns : List Str := [Str.ofString "least_reads", Str.ofString "soonest", Str.ofString "_law_mix", Str.ofString "_law_left", Str.ofString "_law_pick", Str.ofString "_law_many", Str.ofString "_law_same", Str.ofString "_law_least", Str.ofString "_law_soon", Str.ofString "_law_alike", Str.ofString "law"]
theorem ok0 : Df.ok fns d0 ⟨1, 8, bd0⟩ = true := by decide +kernel
theorem ok1 : Df.ok fns d1 ⟨1, 9, bd1⟩ = true := by decide +kernel
theorem ok2 : Df.ok fns d2 ⟨2, 3, bd2⟩ = true := by decide +kernel
theorem ok3 : Df.ok fns d3 ⟨2, 3, bd3⟩ = true := by decide +kernel
theorem ok4 : Df.ok fns d4 ⟨2, 3, bd4⟩ = true := by decide +kernel
theorem ok5 : Df.ok fns d5 ⟨2, 2, bd5⟩ = true := by decide +kernel
theorem ok6 : Df.ok fns d6 ⟨2, 2, bd6⟩ = true := by decide +kernel
theorem ok7 : Df.ok fns d7 ⟨1, 6, bd7⟩ = true := by decide +kernel
theorem ok8 : Df.ok fns d8 ⟨1, 7, bd8⟩ = true := by decide +kernel
theorem ok9 : Df.ok fns d9 ⟨2, 9, bd9⟩ = true := by decide +kernel
theorem ok10 : Df.ok fns d10 ⟨1, 8, bd10⟩ = true := by decide +kernel
theorem all_mk {l : PySem.W.OpenLaw} {w : World} {K : PySem.W.Frag} {h : Heap} {mg : Str → Option Value} {fa f0 f1 f2 f3 f4 f5 f6 f7 f8 f9 f10 : Addr} (X : K.In h) (G : h.Ns mainGlobals mg) (hfa : mg (Str.ofString "law") = some (.ref fa))
    {od0 an0 od1 an1 od2 an2 od3 an3 od4 an4 od5 an5 od6 an6 od7 an7 od8 an8 od9 an9 od10 an10 : Option Addr} {sl0 sl1 sl2 sl3 sl4 sl5 sl6 sl7 sl8 sl9 sl10 : Array (Option Value)} {oc0 kV0 dc0 pm0 cd0 ct0 oc1 kV1 dc1 pm1 cd1 ct1 oc2 kV2 dc2 pm2 cd2 ct2 oc3 kV3 dc3 pm3 cd3 ct3 oc4 kV4 dc4 pm4 cd4 ct4 oc5 kV5 dc5 pm5 cd5 ct5 oc6 kV6 dc6 pm6 cd6 ct6 oc7 kV7 dc7 pm7 cd7 ct7 oc8 kV8 dc8 pm8 cd8 ct8 oc9 kV9 dc9 pm9 cd9 ct9 oc10 kV10 dc10 pm10 cd10 ct10 : Value}
    (a0 : PySem.W.nsIn K mainGlobals (Str.ofString "least_reads") = some (some (.ref f0))) (l0 : K.lookup f0 = some ⟨oc0, od0, .func (PySem.W.fnOf (Str.ofString "least_reads") (Str.ofString "least_reads") (defArgs (top 1)) (defBody (top 1)) (defScope (top 1)) .none kV0 dc0 pm0 an0 cd0 ct0), sl0⟩) (c0 : PySem.W.codeIn K cd0 (Str.ofString "least_reads") = true) (k0 : PySem.W.keepIn K (.ref f0) = true)
    (a1 : PySem.W.nsIn K mainGlobals (Str.ofString "soonest") = some (some (.ref f1))) (l1 : K.lookup f1 = some ⟨oc1, od1, .func (PySem.W.fnOf (Str.ofString "soonest") (Str.ofString "soonest") (defArgs (top 2)) (defBody (top 2)) (defScope (top 2)) .none kV1 dc1 pm1 an1 cd1 ct1), sl1⟩) (c1 : PySem.W.codeIn K cd1 (Str.ofString "soonest") = true) (k1 : PySem.W.keepIn K (.ref f1) = true)
    (a2 : PySem.W.nsIn K mainGlobals (Str.ofString "_law_mix") = some (some (.ref f2))) (l2 : K.lookup f2 = some ⟨oc2, od2, .func (PySem.W.fnOf (Str.ofString "_law_mix") (Str.ofString "_law_mix") (defArgs (top 4)) (defBody (top 4)) (defScope (top 4)) .none kV2 dc2 pm2 an2 cd2 ct2), sl2⟩) (c2 : PySem.W.codeIn K cd2 (Str.ofString "_law_mix") = true) (k2 : PySem.W.keepIn K (.ref f2) = true)
    (a3 : PySem.W.nsIn K mainGlobals (Str.ofString "_law_left") = some (some (.ref f3))) (l3 : K.lookup f3 = some ⟨oc3, od3, .func (PySem.W.fnOf (Str.ofString "_law_left") (Str.ofString "_law_left") (defArgs (top 5)) (defBody (top 5)) (defScope (top 5)) .none kV3 dc3 pm3 an3 cd3 ct3), sl3⟩) (c3 : PySem.W.codeIn K cd3 (Str.ofString "_law_left") = true) (k3 : PySem.W.keepIn K (.ref f3) = true)
    (a4 : PySem.W.nsIn K mainGlobals (Str.ofString "_law_pick") = some (some (.ref f4))) (l4 : K.lookup f4 = some ⟨oc4, od4, .func (PySem.W.fnOf (Str.ofString "_law_pick") (Str.ofString "_law_pick") (defArgs (top 6)) (defBody (top 6)) (defScope (top 6)) .none kV4 dc4 pm4 an4 cd4 ct4), sl4⟩) (c4 : PySem.W.codeIn K cd4 (Str.ofString "_law_pick") = true) (k4 : PySem.W.keepIn K (.ref f4) = true)
    (a5 : PySem.W.nsIn K mainGlobals (Str.ofString "_law_many") = some (some (.ref f5))) (l5 : K.lookup f5 = some ⟨oc5, od5, .func (PySem.W.fnOf (Str.ofString "_law_many") (Str.ofString "_law_many") (defArgs (top 7)) (defBody (top 7)) (defScope (top 7)) .none kV5 dc5 pm5 an5 cd5 ct5), sl5⟩) (c5 : PySem.W.codeIn K cd5 (Str.ofString "_law_many") = true) (k5 : PySem.W.keepIn K (.ref f5) = true)
    (a6 : PySem.W.nsIn K mainGlobals (Str.ofString "_law_same") = some (some (.ref f6))) (l6 : K.lookup f6 = some ⟨oc6, od6, .func (PySem.W.fnOf (Str.ofString "_law_same") (Str.ofString "_law_same") (defArgs (top 8)) (defBody (top 8)) (defScope (top 8)) .none kV6 dc6 pm6 an6 cd6 ct6), sl6⟩) (c6 : PySem.W.codeIn K cd6 (Str.ofString "_law_same") = true) (k6 : PySem.W.keepIn K (.ref f6) = true)
    (a7 : PySem.W.nsIn K mainGlobals (Str.ofString "_law_least") = some (some (.ref f7))) (l7 : K.lookup f7 = some ⟨oc7, od7, .func (PySem.W.fnOf (Str.ofString "_law_least") (Str.ofString "_law_least") (defArgs (top 9)) (defBody (top 9)) (defScope (top 9)) .none kV7 dc7 pm7 an7 cd7 ct7), sl7⟩) (c7 : PySem.W.codeIn K cd7 (Str.ofString "_law_least") = true) (k7 : PySem.W.keepIn K (.ref f7) = true)
    (a8 : PySem.W.nsIn K mainGlobals (Str.ofString "_law_soon") = some (some (.ref f8))) (l8 : K.lookup f8 = some ⟨oc8, od8, .func (PySem.W.fnOf (Str.ofString "_law_soon") (Str.ofString "_law_soon") (defArgs (top 10)) (defBody (top 10)) (defScope (top 10)) .none kV8 dc8 pm8 an8 cd8 ct8), sl8⟩) (c8 : PySem.W.codeIn K cd8 (Str.ofString "_law_soon") = true) (k8 : PySem.W.keepIn K (.ref f8) = true)
    (a9 : PySem.W.nsIn K mainGlobals (Str.ofString "_law_alike") = some (some (.ref f9))) (l9 : K.lookup f9 = some ⟨oc9, od9, .func (PySem.W.fnOf (Str.ofString "_law_alike") (Str.ofString "_law_alike") (defArgs (top 11)) (defBody (top 11)) (defScope (top 11)) .none kV9 dc9 pm9 an9 cd9 ct9), sl9⟩) (c9 : PySem.W.codeIn K cd9 (Str.ofString "_law_alike") = true) (k9 : PySem.W.keepIn K (.ref f9) = true)
    (a10 : PySem.W.nsIn K mainGlobals (Str.ofString "law") = some (some (.ref f10))) (l10 : K.lookup f10 = some ⟨oc10, od10, .func (PySem.W.fnOf (Str.ofString "law") (Str.ofString "law") (defArgs (top 12)) (defBody (top 12)) (defScope (top 12)) .none kV10 dc10 pm10 an10 cd10 ct10), sl10⟩) (c10 : PySem.W.codeIn K cd10 (Str.ofString "law") = true) (k10 : PySem.W.keepIn K (.ref f10) = true)
    (z0 : PySem.W.nsIn K mainGlobals (Str.ofString "len") = some none) (z1 : PySem.W.nsIn K mainGlobals (Str.ofString "abs") = some none) (z2 : PySem.W.nsIn K mainGlobals (Str.ofString "int") = some none) (z3 : PySem.W.nsIn K mainGlobals (Str.ofString "sum") = some none) (z4 : PySem.W.nsIn K mainGlobals (Str.ofString "all") = some none) (z5 : PySem.W.nsIn K mainGlobals (Str.ofString "any") = some none) (z6 : PySem.W.nsIn K mainGlobals (Str.ofString "min") = some none) (z7 : PySem.W.nsIn K mainGlobals (Str.ofString "max") = some none) (z8 : PySem.W.nsIn K mainGlobals (Str.ofString "tuple") = some none) (z9 : PySem.W.nsIn K mainGlobals (Str.ofString "list") = some none) (z10 : PySem.W.nsIn K mainGlobals (Str.ofString "isinstance") = some none) (z11 : PySem.W.nsIn K mainGlobals (Str.ofString "range") = some none) (z12 : PySem.W.nsIn K mainGlobals (Str.ofString "zip") = some none) (z13 : PySem.W.nsIn K mainGlobals (Str.ofString "bool") = some none) (z14 : PySem.W.nsIn K mainGlobals (Str.ofString "str") = some none) (z15 : PySem.W.nsIn K mainGlobals (Str.ofString "enumerate") = some none) :
    ∃ fd : FuncData, (∀ (s : Shared) (v : Value), BindsTo s fd ⟨[v], []⟩ [(Str.ofString "_law_script", v)]) ∧ ∀ base : Heap, K.In base → base.Ns mainGlobals mg → FnOk l.prog w K mg base CX0 6 fa fd [Str.ofString "_law_script"] (spF K (callD tab 6) 10) := by
  have e := hfa.symm.trans (PySem.W.mg_of X G a10)
  cases e
  have blt : ∀ b ∈ bltNames, mg (Str.ofString b) = none := by
    intro b hb
    simp only [bltNames, List.mem_cons, List.not_mem_nil, or_false] at hb
    rcases hb with rfl | rfl | rfl | rfl | rfl | rfl | rfl | rfl | rfl | rfl | rfl | rfl | rfl | rfl | rfl | rfl
    · exact PySem.W.mg_none_of X G z0
    · exact PySem.W.mg_none_of X G z1
    · exact PySem.W.mg_none_of X G z2
    · exact PySem.W.mg_none_of X G z3
    · exact PySem.W.mg_none_of X G z4
    · exact PySem.W.mg_none_of X G z5
    · exact PySem.W.mg_none_of X G z6
    · exact PySem.W.mg_none_of X G z7
    · exact PySem.W.mg_none_of X G z8
    · exact PySem.W.mg_none_of X G z9
    · exact PySem.W.mg_none_of X G z10
    · exact PySem.W.mg_none_of X G z11
    · exact PySem.W.mg_none_of X G z12
    · exact PySem.W.mg_none_of X G z13
    · exact PySem.W.mg_none_of X G z14
    · exact PySem.W.mg_none_of X G z15
  have F0 := fun_mk (st := top 1) l0 c0 k0
  have bb0 := F0.binds (ps := [Str.ofString "stock"]) fun _ _ _ _ _ _ us hl => match us, hl with | [_], _ => rfl
  have F1 := fun_mk (st := top 2) l1 c1 k1
  have bb1 := F1.binds (ps := [Str.ofString "stock"]) fun _ _ _ _ _ _ us hl => match us, hl with | [_], _ => rfl
  have F2 := fun_mk (st := top 4) l2 c2 k2
  have bb2 := F2.binds (ps := [Str.ofString "_law_cell", Str.ofString "_law_k"]) fun _ _ _ _ _ _ us hl => match us, hl with | [_, _], _ => rfl
  have F3 := fun_mk (st := top 5) l3 c3 k3
  have bb3 := F3.binds (ps := [Str.ofString "_law_script", Str.ofString "_law_k"]) fun _ _ _ _ _ _ us hl => match us, hl with | [_, _], _ => rfl
  have F4 := fun_mk (st := top 6) l4 c4 k4
  have bb4 := F4.binds (ps := [Str.ofString "_law_left_here", Str.ofString "_law_many_here"]) fun _ _ _ _ _ _ us hl => match us, hl with | [_, _], _ => rfl
  have F5 := fun_mk (st := top 7) l5 c5 k5
  have bb5 := F5.binds (ps := [Str.ofString "_law_left_here", Str.ofString "_law_most"]) fun _ _ _ _ _ _ us hl => match us, hl with | [_, _], _ => rfl
  have F6 := fun_mk (st := top 8) l6 c6 k6
  have bb6 := F6.binds (ps := [Str.ofString "_law_found", Str.ofString "_law_due"]) fun _ _ _ _ _ _ us hl => match us, hl with | [_, _], _ => rfl
  have F7 := fun_mk (st := top 9) l7 c7 k7
  have bb7 := F7.binds (ps := [Str.ofString "_law_stock"]) fun _ _ _ _ _ _ us hl => match us, hl with | [_], _ => rfl
  have F8 := fun_mk (st := top 10) l8 c8 k8
  have bb8 := F8.binds (ps := [Str.ofString "_law_stock"]) fun _ _ _ _ _ _ us hl => match us, hl with | [_], _ => rfl
  have F9 := fun_mk (st := top 11) l9 c9 k9
  have bb9 := F9.binds (ps := [Str.ofString "_law_left_here", Str.ofString "_law_many_here"]) fun _ _ _ _ _ _ us hl => match us, hl with | [_, _], _ => rfl
  have F10 := fun_mk (st := top 12) l10 c10 k10
  have bb10 := F10.binds (ps := [Str.ofString "_law_script"]) fun _ _ _ _ _ _ us hl => match us, hl with | [_], _ => rfl
  have D : ∀ (f : Nat) (x : Str), fns[f]? = some x → ∃ df fd fa fdd, tab[f]? = some fd ∧ Df.ok fns df fd = true ∧ Fun K (Str.ofString df.name) (Str.ofString df.name) df.st fa fdd ∧ mg x = some (.ref fa) ∧ Binds K fdd df.ps [] := by
    intro f x hx
    match f, hx with
    | 0, hx => cases hx; exact ⟨d0, _, _, _, rfl, ok0, F0, PySem.W.mg_of X G a0, bb0⟩
    | 1, hx => cases hx; exact ⟨d1, _, _, _, rfl, ok1, F1, PySem.W.mg_of X G a1, bb1⟩
    | 2, hx => cases hx; exact ⟨d2, _, _, _, rfl, ok2, F2, PySem.W.mg_of X G a2, bb2⟩
    | 3, hx => cases hx; exact ⟨d3, _, _, _, rfl, ok3, F3, PySem.W.mg_of X G a3, bb3⟩
    | 4, hx => cases hx; exact ⟨d4, _, _, _, rfl, ok4, F4, PySem.W.mg_of X G a4, bb4⟩
    | 5, hx => cases hx; exact ⟨d5, _, _, _, rfl, ok5, F5, PySem.W.mg_of X G a5, bb5⟩
    | 6, hx => cases hx; exact ⟨d6, _, _, _, rfl, ok6, F6, PySem.W.mg_of X G a6, bb6⟩
    | 7, hx => cases hx; exact ⟨d7, _, _, _, rfl, ok7, F7, PySem.W.mg_of X G a7, bb7⟩
    | 8, hx => cases hx; exact ⟨d8, _, _, _, rfl, ok8, F8, PySem.W.mg_of X G a8, bb8⟩
    | 9, hx => cases hx; exact ⟨d9, _, _, _, rfl, ok9, F9, PySem.W.mg_of X G a9, bb9⟩
    | 10, hx => cases hx; exact ⟨d10, _, _, _, rfl, ok10, F10, PySem.W.mg_of X G a10, bb10⟩
    | n + 11, hx => simp [fns] at hx
  refine ⟨_, ?b, fun base _ _ => fn_step F10 rfl ok10 (all_fns blt D 5) blt⟩
  exact fun s v => .of_eq rfl
end Kw
end
section
set_option Elab.async false
open PySem PySem.W PyProof.Rows
set_option maxRecDepth 100000 in
set_option maxHeartbeats 0 in
theorem PySem.Challenge.cw_keepwhole_k22_reads_of_like_ways_holds : PySem.Challenge.rw_keepwhole_k22_reads_of_like_ways.Holds := by
  w_on; o_law; k_head; (case hw => w_witness2)
  k_fill
  refine L2.walk_of (l := PySem.Challenge.rw_keepwhole_k22_reads_of_like_ways) (n := 63) (k := 6) (x := Str.ofString "_law_script") (CX := fun _ => L2.CX0) (sp := fun w => Kw.spF _ (Kw.callD Kw.tab 6) 10) rfl (by decide) rfl ⟨rfl, by decide, by decide, rfl⟩ (fun w h Y => PySem.W.kIn_of Y) ?F (fun _ _ a ns hl hO hS => Kw.law_sp hO hS (Kw.law_true ns)) (fun _ _ _ _ _ z => z)
  case F =>
    intro w mg fa h KX G hmg
    refine' Kw.all_mk KX G hmg ?a0 ?l0 ?c0 ?k0 ?a1 ?l1 ?c1 ?k1 ?a2 ?l2 ?c2 ?k2 ?a3 ?l3 ?c3 ?k3 ?a4 ?l4 ?c4 ?k4 ?a5 ?l5 ?c5 ?k5 ?a6 ?l6 ?c6 ?k6 ?a7 ?l7 ?c7 ?k7 ?a8 ?l8 ?c8 ?k8 ?a9 ?l9 ?c9 ?k9 ?a10 ?l10 ?c10 ?k10 ?z0 ?z1 ?z2 ?z3 ?z4 ?z5 ?z6 ?z7 ?z8 ?z9 ?z10 ?z11 ?z12 ?z13 ?z14 ?z15
    (case a0 => k_is)
    (case l0 => k_is)
    (case c0 => k_is)
    (case k0 => k_is)
    (case a1 => k_is)
    (case l1 => k_is)
    (case c1 => k_is)
    (case k1 => k_is)
    (case a2 => k_is)
    (case l2 => k_is)
    (case c2 => k_is)
    (case k2 => k_is)
    (case a3 => k_is)
    (case l3 => k_is)
    (case c3 => k_is)
    (case k3 => k_is)
    (case a4 => k_is)
    (case l4 => k_is)
    (case c4 => k_is)
    (case k4 => k_is)
    (case a5 => k_is)
    (case l5 => k_is)
    (case c5 => k_is)
    (case k5 => k_is)
    (case a6 => k_is)
    (case l6 => k_is)
    (case c6 => k_is)
    (case k6 => k_is)
    (case a7 => k_is)
    (case l7 => k_is)
    (case c7 => k_is)
    (case k7 => k_is)
    (case a8 => k_is)
    (case l8 => k_is)
    (case c8 => k_is)
    (case k8 => k_is)
    (case a9 => k_is)
    (case l9 => k_is)
    (case c9 => k_is)
    (case k9 => k_is)
    (case a10 => k_is)
    (case l10 => k_is)
    (case c10 => k_is)
    (case k10 => k_is)
    (case z0 => k_is)
    (case z1 => k_is)
    (case z2 => k_is)
    (case z3 => k_is)
    (case z4 => k_is)
    (case z5 => k_is)
    (case z6 => k_is)
    (case z7 => k_is)
    (case z8 => k_is)
    (case z9 => k_is)
    (case z10 => k_is)
    (case z11 => k_is)
    (case z12 => k_is)
    (case z13 => k_is)
    (case z14 => k_is)
    (case z15 => k_is)
end
