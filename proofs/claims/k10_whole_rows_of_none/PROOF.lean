import PyProof.Rows.All
import Wide.All
import OpenK.AllK
import Wide.FinOn
import Lean
import PyProof.EqAt
import PyProof.EqKinds
import PyProof.TupleCall
import PySem.Challenge.RW_queuehold_k10_whole_rows_of_none
section
-- CHANGE: your row's module here, as the last of these rows
set_option Elab.async false
set_option linter.all false
set_option maxRecDepth 100000
/-! THE HAND LAYER, for ints, bools, texts, own classes, LISTS and tuples (index, slices, in, append, pop ..), calls, loops. Paste it whole ahead of your own text; what your proof does not reach may be deleted. -/
namespace L2
open PySem PySem.Spec PyProof.Rows

/-- a key: an int or a str -/
abbrev Key := Sum Int Str
def keyIs : Key → Value → Bool
  | .inl k, v => Value.isInt k v
  | .inr x, v => Value.isStrOf x v
def keyH (w : World) : Key → Int
  | .inl k => hashInt k
  | .inr x => hashStr w x
theorem keyIs_shape : ∀ {k : Key} {v : Value}, keyIs k v = true → (∃ i t, k = Sum.inl i ∧ v = Value.int i t) ∨ (∃ x t, k = Sum.inr x ∧ v = Value.str x t)
  | .inl i, v, h => by
    obtain ⟨t, e⟩ := Value.isInt_shape (k := i) (v := v) h
    exact .inl ⟨i, t, rfl, e⟩
  | .inr x, v, h => by
    obtain ⟨t, e⟩ := Value.isStrOf_shape (x := x) (v := v) h
    exact .inr ⟨x, t, rfl, e⟩
theorem keyIs_int (i : Int) (t : Tok) : keyIs (.inl i) (.int i t) = true := by simp [keyIs, Value.isInt]
theorem keyIs_str (x : Str) (t : Tok) : keyIs (.inr x) (.str x t) = true := by simp [keyIs, Value.isStrOf]
theorem key_ll (a b : Int) : decide ((Sum.inl a : Key) = Sum.inl b) = (a == b) := by
  by_cases e : a = b
  · subst e; simp
  · have h : ¬ (Sum.inl a : Key) = Sum.inl b := fun q => e (Sum.inl.inj q)
    rw [decide_eq_false h]
    exact (beq_eq_false_iff_ne.mpr e).symm
theorem key_rr (a b : Str) : decide ((Sum.inr a : Key) = Sum.inr b) = decide (a = b) := by
  by_cases e : a = b
  · subst e; simp
  · have h : ¬ (Sum.inr a : Key) = Sum.inr b := fun q => e (Sum.inr.inj q)
    rw [decide_eq_false h, decide_eq_false e]
theorem key_lr (a : Int) (b : Str) : decide ((Sum.inl a : Key) = Sum.inr b) = false := decide_eq_false (fun q => nomatch q)
theorem key_rl (a : Str) (b : Int) : decide ((Sum.inr a : Key) = Sum.inl b) = false := decide_eq_false (fun q => nomatch q)

def mixKind (prog : Program) (w : World) : PySem.KeyKind prog w Key where
  is := keyIs
  hash := keyH w
  inj := fun v a b ha hb => by
    rcases keyIs_shape ha with ⟨i, t, rfl, rfl⟩ | ⟨x, t, rfl, rfl⟩
    · rcases keyIs_shape hb with ⟨j, u, rfl, e⟩ | ⟨y, u, rfl, e⟩
      · injection e with e1 _; rw [e1]
      · exact nomatch e
    · rcases keyIs_shape hb with ⟨j, u, rfl, e⟩ | ⟨y, u, rfl, e⟩
      · exact nomatch e
      · injection e with e1 _; rw [e1]
  byValue := fun k v h => by
    rcases keyIs_shape h with ⟨i, t, rfl, rfl⟩ | ⟨x, t, rfl, rfl⟩ <;> rfl
  pyHash := fun hv h => by
    rcases keyIs_shape hv with ⟨i, t, rfl, rfl⟩ | ⟨x, t, rfl, rfl⟩
    · exact wpAny_pyHash_int h
    · exact wpAny_pyHash_str h
  eqBool := fun hu hv h => by
    rcases keyIs_shape hu with ⟨i, t, rfl, rfl⟩ | ⟨x, t, rfl, rfl⟩
    · rcases keyIs_shape hv with ⟨j, u, rfl, rfl⟩ | ⟨y, u, rfl, rfl⟩
      · rw [key_ll] at h; exact wpAny_eqBool_int h
      · rw [key_lr] at h; exact SeqAt.EqAt.int_str i t y u _ _ _ _ h
    · rcases keyIs_shape hv with ⟨j, u, rfl, rfl⟩ | ⟨y, u, rfl, rfl⟩
      · rw [key_rl] at h; exact SeqAt.EqAt.str_int x t j u _ _ _ _ h
      · rw [key_rr] at h; exact wpAny_eqBool_str h
  «strs» := fun k x t v h => by
    rcases keyIs_shape h with ⟨i, u, rfl, e⟩ | ⟨y, u, rfl, e⟩
    · exact nomatch e
    · injection e with e1 _
      subst e1
      cases v <;> rfl

theorem mixKind_int (prog : Program) (w : World) (i : Int) (t : Tok) : (mixKind prog w).is (.inl i) (.int i t) = true := keyIs_int i t
theorem mixKind_str (prog : Program) (w : World) (x : Str) (t : Tok) : (mixKind prog w).is (.inr x) (.str x t) = true := keyIs_str x t
end L2

namespace L2
open PySem PySem.Spec PyProof.Rows

/-- a value, without the heap -/
inductive V where
  | non | bl (b : Bool) | int (i : Int) | str (x : Str) | byt (b : Array UInt8) | flt (b : UInt64) | ref (a : Addr) | ty (n : String)
  deriving DecidableEq

def RelV : V → Value → Prop
  | .non, u => u = Value.none
  | .bl b, u => u = Value.bool b
  | .int i, u => ∃ t, u = Value.int i t
  | .str x, u => ∃ t, u = Value.str x t
  | .byt b, u => ∃ t, u = Value.bytes b t
  | .flt b, u => ∃ t, u = Value.float b t
  | .ref a, u => u = Value.ref a
  | .ty n, u => u = Value.type n

abbrev Vals : List V → List Value → Prop := Paired RelV
theorem Vals.length {xs : List V} {us : List Value} (r : Vals xs us) : xs.length = us.length := Paired.length r
theorem Vals.get : ∀ {xs : List V} {us : List Value} {i : Nat} {x : V}, Vals xs us → xs[i]? = some x → ∃ u, us[i]? = some u ∧ RelV x u
  | _, _, _, _, .nil, e => by simp at e
  | _, _, 0, _, .cons r _, e => by simp at e; subst e; exact ⟨_, rfl, r⟩
  | _, _, i + 1, x, .cons _ t, e => by
    obtain ⟨u, h1, h2⟩ := Vals.get (i := i) (x := x) t (by simpa using e)
    exact ⟨u, by simpa using h1, h2⟩
theorem Vals.append : ∀ {xs ys : List V} {us ws : List Value}, Vals xs us → Vals ys ws → Vals (xs ++ ys) (us ++ ws)
  | _, _, _, _, .nil, s => s
  | _, _, _, _, .cons r t, s => .cons r (Vals.append t s)
theorem Vals.take : ∀ {xs : List V} {us : List Value} (n : Nat), Vals xs us → Vals (xs.take n) (us.take n)
  | _, _, 0, _ => .nil
  | _, _, _ + 1, .nil => .nil
  | _, _, n + 1, .cons r t => .cons r (Vals.take n t)
theorem Vals.drop : ∀ {xs : List V} {us : List Value} (n : Nat), Vals xs us → Vals (xs.drop n) (us.drop n)
  | _, _, 0, r => r
  | _, _, _ + 1, .nil => .nil
  | _, _, n + 1, .cons _ t => Vals.drop n t

def RelO : Option V → Option Value → Prop
  | some v, some u => RelV v u
  | none, none => True
  | _, _ => False
def KV {κ : Type} : List (κ × V) → List (κ × Value) → Prop := Paired fun (p : κ × V) (q : κ × Value) => p.1 = q.1 ∧ RelV p.2 q.2

/-- a key of a dict (00_mix): an int or a text -/
def kV : Key → V
  | .inl i => .int i
  | .inr x => .str x

/-- what stands at a tracked address -/
inductive HO where
  /-- a list -/
  | lst (xs : List V)
  /-- a tuple (never changes) -/
  | tup (xs : List V)
  /-- a dict whose keys are ints and texts; one whose keys are tuples of ints and texts (the empty one is both) -/
  | dK (kvs : List (Key × V)) | dT (kvs : List (List Key × V))
  /-- a set of ints: its members, its size -/
  | set (S : Int → Bool) (n : Nat)
  /-- an instance of the class at C, its dict at dx, its attributes -/
  | ins (C dx : Addr) (fs : List (Str × V))
  /-- the dict of the instance at x -/
  | own (x : Addr)
  /-- the dict of an exception -/
  | xd (fs : List (Str × V))
  /-- a bound method, f of x -/
  | met (f x : Addr)
  /-- a range object lo, lo + 1, .. below hi -/
  | rng (lo hi : Int)
  /-- a thing that is known to the object (the script; a dict while a loop walks it): read, never written while it is so -/
  | frz (o : Obj) (u : HO)
  /-- a code object's table -/
  | tbl (ps : Array Value)
  /-- any other thing, by what is true of its one object (a def of one's own: SetO a S n := HO.ext fun h => ..) -/
  | ext (φ : Heap → Prop)

abbrev Hp := Addr → Option HO
def upd (H : Hp) (a : Addr) (o : HO) : Hp := fun b => if b = a then some o else H b
theorem upd_same {H : Hp} {a : Addr} {o : HO} : upd H a o a = some o := by unfold upd; rw [if_pos rfl]
theorem upd_ne {H : Hp} {a b : Addr} {o : HO} (h : b ≠ a) : upd H a o b = H b := by unfold upd; rw [if_neg h]
/-- two objects of different content stand apart -/
theorem ne_of {H : Hp} {a b : Addr} {o u : HO} (h : H a = some o) (h' : H b = some u) (d : o ≠ u) : a ≠ b := by
  intro e; subst e; rw [h] at h'; exact d (Option.some.inj h')
theorem ne_of_none {H : Hp} {a b : Addr} {o : HO} (h : H a = some o) (h' : H b = none) : a ≠ b := by
  intro e; subst e; rw [h] at h'; cases h'

section
variable (P : Program) (w : World)
def ObjOk (H : Hp) (h : Heap) (a : Addr) : HO → Prop
  | .lst xs => xs.length ≤ sizeLine ∧ ∃ (its : List Value) (n : Nat), Vals xs its ∧ h.get? a = some { cls := .type "list", data := .seq its.toArray n }
  | .tup xs => xs.length ≤ sizeLine ∧ ∃ its : List Value, Vals xs its ∧ IsTup h a its.toArray
  | .dK kvs => kvs.length ≤ sizeLine ∧ (a == sysModules) = false ∧ ∃ vs, KV kvs vs ∧ h.DictOf (mixKind P w) a vs
  | .dT kvs => kvs.length ≤ sizeLine ∧ (a == sysModules) = false ∧ ∃ xs : List (List Key × Addr × Value),
      Paired (fun (p : List Key × V) (q : List Key × Addr × Value) => p.1 = q.1 ∧ H q.2.1 = some (.tup (p.1.map kV)) ∧ RelV p.2 q.2.2) kvs xs ∧
      ∃ o es ep, h.get? a = some o ∧ o.ExactDict ∧ o.data = .dict es ep ∧ es.toList = xs.map (entryOfKey (tupleKind (mixKind P w))) ∧ (xs.map (·.1)).Nodup
  | .set S n => h.SetOf (intKind P w) a S n
  | .ins C dx fs => H dx = some (.own a) ∧ fs.length ≤ 1000 ∧ dx ≠ a ∧ h.get? a = some (PySem.W.instObj C dx) ∧
      ∃ mA, h.Ns1 dx mA ∧ (∀ f, RelO (fs.lookup f) (mA f)) ∧ PySem.Within mA (fs.map (·.1))
  | .own _ => ∃ o, h.get? a = some o
  | .xd fs => ∃ mA, h.Ns1 a mA ∧ ∀ f, RelO (fs.lookup f) (mA f)
  | .rng lo hi => ∃ t u v, h.get? a = some { cls := .type "range", data := .fields #[.int lo t, .int hi u, .int 1 v] }
  | .frz o u => h.get? a = some o ∧ ObjOk H h a u
  | .tbl ps => h.get? a = some { cls := .none, data := .fields ps }
  | .met f x => h.get? a = some (PySem.W.methodObj (.ref f) (.ref x))
  | .ext φ => φ h ∧ (∃ o, h.get? a = some o) ∧ ∀ h1 h2 : Heap, φ h1 → (∀ o, h1.get? a = some o → h2.get? a = some o) → φ h2
/-- the abstract heap is held -/
def HOk (H : Hp) (h : Heap) : Prop := ∀ a o, H a = some o → ObjOk P w H h a o
end

section
variable {P : Program} {w : World} {H H' : Hp} {h h' : Heap} {a : Addr} {o : HO}
theorem ObjOk.lt (x : ObjOk P w H h a o) : a < h.objs.size := by
  cases o with
  | lst xs => obtain ⟨_, _, _, _, e⟩ := x; exact Heap.lt_size e
  | tup xs => obtain ⟨_, _, _, p⟩ := x; exact p.lt
  | dK kvs => obtain ⟨_, _, _, _, o, _, _, e, _⟩ := x; exact Heap.lt_size e
  | dT kvs => obtain ⟨_, _, _, _, o, _, _, e, _⟩ := x; exact Heap.lt_size e
  | set S n => obtain ⟨o, _, _, _, e, _⟩ := x; exact Heap.lt_size e
  | ins C dx fs => obtain ⟨_, _, _, e, _⟩ := x; exact Heap.lt_size e
  | own y => obtain ⟨_, e⟩ := x; exact Heap.lt_size e
  | xd fs => obtain ⟨_, ⟨_, _, _, e, _⟩, _⟩ := x; exact Heap.lt_size e
  | rng lo hi => obtain ⟨_, _, _, e⟩ := x; exact Heap.lt_size e
  | frz ob u => obtain ⟨e, _⟩ := x; exact Heap.lt_size e
  | tbl ps => exact Heap.lt_size (show h.get? a = some _ from x)
  | met f y => exact Heap.lt_size (show h.get? a = some _ from x)
  | ext φ => obtain ⟨_, ⟨_, e⟩, _⟩ := x; exact Heap.lt_size e
theorem Paired.mapP {α β : Type} {F G : α → β → Prop} : ∀ {l₁ : List α} {l₂ : List β}, Paired F l₁ l₂ → (∀ a b, F a b → G a b) → Paired G l₁ l₂
  | _, _, .nil, _ => .nil
  | _, _, .cons r t, f => .cons (f _ _ r) (Paired.mapP t f)
/-- what an object's description leans on: its own object, its own dict, the tuples -/
theorem ObjOk.stay (x : ObjOk P w H h a o) (k : ∀ b u, (b = a ∨ H b = some (.own a)) → h.get? b = some u → h'.get? b = some u)
    (ho : ∀ b, H b = some (.own a) → H' b = some (.own a)) (ht : ∀ b xs, H b = some (.tup xs) → H' b = some (.tup xs)) : ObjOk P w H' h' a o := by
  induction o with
  | lst xs => obtain ⟨z, its, n, r, e⟩ := x; exact ⟨z, its, n, r, k _ _ (.inl rfl) e⟩
  | tup xs => obtain ⟨z, its, r, ob, e, c⟩ := x; exact ⟨z, its, r, ob, k _ _ (.inl rfl) e, c⟩
  | dK kvs => obtain ⟨z, y, vs, r, ob, es, ep, e, c⟩ := x; exact ⟨z, y, vs, r, ob, es, ep, k _ _ (.inl rfl) e, c⟩
  | dT kvs =>
    obtain ⟨z, y, xs, r, ob, es, ep, e, c⟩ := x
    exact ⟨z, y, xs, Paired.mapP r fun p q z => ⟨z.1, ht _ _ z.2.1, z.2.2⟩, ob, es, ep, k _ _ (.inl rfl) e, c⟩
  | set S n => obtain ⟨ob, es, ep, t, e, c⟩ := x; exact ⟨ob, es, ep, t, k _ _ (.inl rfl) e, c⟩
  | ins C dx fs =>
    obtain ⟨d, z, ne, e, mA, ⟨od, es, ep, e2, c⟩, r⟩ := x
    exact ⟨ho _ d, z, ne, k _ _ (.inl rfl) e, mA, ⟨od, es, ep, k _ _ (.inr d) e2, c⟩, r⟩
  | own y => obtain ⟨ob, e⟩ := x; exact ⟨ob, k _ _ (.inl rfl) e⟩
  | xd fs => obtain ⟨mA, ⟨od, es, ep, e, c⟩, r⟩ := x; exact ⟨mA, ⟨od, es, ep, k _ _ (.inl rfl) e, c⟩, r⟩
  | rng lo hi => obtain ⟨t, u, v, e⟩ := x; exact ⟨t, u, v, k _ _ (.inl rfl) e⟩
  | frz ob u ih => obtain ⟨e, q⟩ := x; exact ⟨k _ _ (.inl rfl) e, ih q⟩
  | tbl ps =>
    have e : h.get? a = some { cls := .none, data := .fields ps } := x
    show h'.get? a = some { cls := .none, data := .fields ps }
    exact k a _ (.inl rfl) e
  | met f y =>
    have e : h.get? a = some (PySem.W.methodObj (.ref f) (.ref y)) := x
    show h'.get? a = some (PySem.W.methodObj (.ref f) (.ref y))
    exact k a _ (.inl rfl) e
  | ext φ => obtain ⟨p, ⟨o, e⟩, st⟩ := x; exact ⟨st _ _ p fun o q => k _ _ (.inl rfl) q, ⟨o, k _ _ (.inl rfl) e⟩, st⟩
theorem HOk.lt (x : HOk P w H h) (e : H a = some o) : a < h.objs.size := (x a o e).lt
theorem HOk.fresh (x : HOk P w H h) (e : h.objs.size ≤ a) : H a = none := by
  cases q : H a with
  | none => rfl
  | some u => exact absurd (Nat.lt_of_lt_of_le (x.lt q) e) (Nat.lt_irrefl _)
/-- every object of the heap is kept -/
theorem HOk.kept (x : HOk P w H h) (k : ∀ b u, h.get? b = some u → h'.get? b = some u) : HOk P w H h' := fun a o e =>
  (x a o e).stay (fun b u _ q => k b u q) (fun _ q => q) fun _ _ q => q
/-- a new object is laid and tracked -/
theorem HOk.laid (x : HOk P w H h) (k : ∀ b u, h.get? b = some u → h'.get? b = some u) (hp : h.objs.size ≤ a) (new : ObjOk P w (upd H a o) h' a o) : HOk P w (upd H a o) h' := fun b u e => by
  have hn := x.fresh hp
  by_cases hb : b = a
  · subst hb; rw [upd_same] at e; cases e; exact new
  · rw [upd_ne hb] at e
    exact (x b u e).stay (fun c v _ q => k c v q) (fun c q => by rw [upd_ne (ne_of_none q hn)]; exact q) fun c xs q => by rw [upd_ne (ne_of_none q hn)]; exact q
end

/-- what may be read as u: it is u, or a known u -/
def Rd (H : Hp) (a : Addr) (u : HO) : Prop := H a = some u ∨ ∃ o, H a = some (.frz o u)
theorem Rd.ok {P : Program} {w : World} {H : Hp} {h : Heap} {a : Addr} {u : HO} (r : Rd H a u) (x : HOk P w H h) : ObjOk P w H h a u := by
  rcases r with r | ⟨o, r⟩
  · exact x a u r
  · obtain ⟨_, q⟩ := x a _ r
    exact q
/-- what may be written -/
def Mut : Option HO → Prop
  | some (.lst _) => True
  | some (.dK _) => True
  | some (.dT _) => True
  | some (.set _ _) => True
  | some (.ins _ _ _) => True
  | some (.ext _) => True
  | _ => False
section
variable {P : Program} {w : World} {H : Hp} {h h' : Heap} {x e : Addr} {o' : HO}
/-- the object at e is changed: x itself, or the dict of the instance x -/
theorem HOk.write (ok : HOk P w H h) (mu : Mut (H x)) (he : e = x ∨ H e = some (.own x)) (k : ∀ b u, b ≠ e → h.get? b = some u → h'.get? b = some u) (heo : ∃ u, h'.get? e = some u)
    (new : ObjOk P w (upd H x o') h' x o') : HOk P w (upd H x o') h' := fun b u q => by
  have nown : ∀ c y, H c = some (.own y) → c ≠ x := fun c y r z => by subst z; rw [r] at mu; exact mu
  have ntup : ∀ c xs, H c = some (.tup xs) → c ≠ x := fun c xs r z => by subst z; rw [r] at mu; exact mu
  by_cases hb : b = x
  · subst hb; rw [upd_same] at q; cases q; exact new
  · rw [upd_ne hb] at q
    by_cases hbe : b = e
    · have q' : H b = some (.own x) := by
        rcases he with z | z
        · exact absurd (hbe.trans z) hb
        · rw [hbe]; exact z
      rw [q] at q'; cases q'
      obtain ⟨v, hv⟩ := heo
      exact ⟨v, by rw [hbe]; exact hv⟩
    · refine (ok b u q).stay (fun c v hc r => k c v ?_ r) (fun c r => by rw [upd_ne (nown c b r)]; exact r) fun c xs r => by rw [upd_ne (ntup c xs r)]; exact r
      rcases hc with rfl | hc
      · exact hbe
      · rintro rfl
        rcases he with z | z
        · exact nown c b hc z
        · rw [hc] at z; cases z; exact hb rfl
end

/-! ### kept unless tracked; of the frames at fs (the callers') the slots may change (an exception that passes writes there); of the records at ex (iterators) nothing is said -/
structure Un (fs ex : List Addr) (H H' : Hp) (h h' : Heap) : Prop where
  keep : ∀ b o, h.get? b = some o → H b = none → b ∉ fs → b ∉ ex → h'.get? b = some o
  slot : ∀ b o, h.get? b = some o → H b = none → b ∈ fs → b ∉ ex → ∃ sl, h'.get? b = some { o with slots := sl }
  free : ∀ b o, h.get? b = some o → H b = none → b ∉ ex → H' b = none
  there : ∀ b o, h.get? b = some o → b ∉ ex → ∃ o', h'.get? b = some o'
  tups : ∀ b xs, H b = some (.tup xs) → H' b = some (.tup xs)
  frzs : ∀ b o u, H b = some (.frz o u) → H' b = some (.frz o u)
  tbls : ∀ b ps, H b = some (.tbl ps) → ∃ more, H' b = some (.tbl (ps ++ more))
section
variable {fs fs' ex ex' : List Addr} {H H1 H2 : Hp} {h h1 h2 h' : Heap} {a x e : Addr} {o : HO}
theorem Un.any (u : Un fs ex H H1 h h1) {b : Addr} {ob : Obj} (q : h.get? b = some ob) (n : H b = none) (hx : b ∉ ex) : ∃ sl, h1.get? b = some { ob with slots := sl } := by
  by_cases hb : b ∈ fs
  · exact u.slot b ob q n hb hx
  · exact ⟨ob.slots, u.keep b ob q n hb hx⟩
theorem Un.kept (k : ∀ b u, h.get? b = some u → h'.get? b = some u) : Un fs ex H H h h' :=
  ⟨fun b ob q _ _ _ => k b ob q, fun b ob q _ _ _ => ⟨ob.slots, k b ob q⟩, fun _ _ _ n _ => n, fun b ob q _ => ⟨ob, k b ob q⟩, fun _ _ q => q, fun _ _ _ q => q, fun _ ps q => ⟨#[], by rw [q]; simp⟩⟩
theorem Un.refl : Un fs ex H H h h := Un.kept fun _ _ q => q
theorem Un.laid (k : ∀ b u, h.get? b = some u → h'.get? b = some u) (hp : h.objs.size ≤ a) (hn : H a = none) : Un fs ex H (upd H a o) h h' where
  keep := fun b u q _ _ _ => k b u q
  slot := fun b u q _ _ _ => ⟨u.slots, k b u q⟩
  free := fun b u q n _ => by rw [upd_ne (Nat.ne_of_lt (Nat.lt_of_lt_of_le (Heap.lt_size q) hp))]; exact n
  there := fun b u q _ => ⟨u, k b u q⟩
  tups := fun b xs q => by rw [upd_ne (ne_of_none q hn)]; exact q
  frzs := fun b u xs q => by rw [upd_ne (ne_of_none q hn)]; exact q
  tbls := fun b ps q => ⟨#[], by rw [upd_ne (ne_of_none q hn), q]; simp⟩
theorem Un.write (mu : Mut (H x)) (he : e = x ∨ H e = some (.own x)) (k : ∀ b u, b ≠ e → h.get? b = some u → h'.get? b = some u) (heo : ∃ u, h'.get? e = some u) : Un fs ex H (upd H x o) h h' := by
  have hx : ∀ b, H b = none → b ≠ x := fun b n z => by subst z; rw [n] at mu; exact mu
  have hb : ∀ b, H b = none → b ≠ e := fun b n z => by
    subst z
    rcases he with r | r
    · exact hx b n r
    · rw [n] at r; cases r
  have hm : ∀ b u, H b = some u → ¬ Mut (some u) → b ≠ x := fun b u q nm z => by subst z; rw [q] at mu; exact nm mu
  refine ⟨fun b u q n _ _ => k b u (hb b n) q, fun b u q n _ _ => ⟨u.slots, k b u (hb b n) q⟩, fun b u q n _ => by rw [upd_ne (hx b n)]; exact n, fun b u q _ => ?_,
    fun b xs q => by rw [upd_ne (hm b _ q fun z => z)]; exact q, fun b u xs q => by rw [upd_ne (hm b _ q fun z => z)]; exact q, fun b ps q => ⟨#[], by rw [upd_ne (hm b _ q fun z => z), q]; simp⟩⟩
  by_cases hbe : b = e
  · subst hbe; exact heo
  · exact ⟨u, k b u hbe q⟩
end

/-! ### the heap without what is tracked -/
def trk (h : Heap) (H : Hp) : List Addr := (List.range h.objs.size).filter fun a => (H a).isSome
def hidT (h : Heap) (H : Hp) : Heap := PySem.W.hideAll h (trk h H)
theorem hidT_size (h : Heap) (H : Hp) : (hidT h H).objs.size = h.objs.size := PySem.W.hideAll_size _ _
theorem hidT_get {h : Heap} {H : Hp} {b : Addr} {o : Obj} (e : h.get? b = some o) (n : H b = none) : (hidT h H).get? b = some o :=
  PySem.W.hideAll_get _ e fun hm => by
    have q : (H b).isSome = true := (List.mem_filter.mp hm).2
    rw [n] at q; simp at q
theorem of_hidT {h : Heap} {H : Hp} {b : Addr} {o : Obj} (e : (hidT h H).get? b = some o) : h.get? b = some o ∧ H b = none := by
  have e' : h.get? b = some o := PySem.W.of_hideAll (trk h H) e
  refine ⟨e', ?_⟩
  cases q : H b with
  | none => rfl
  | some x =>
    have hm : b ∈ trk h H := List.mem_filter.mpr ⟨List.mem_range.mpr (Heap.lt_size e'), by simp [q]⟩
    have z : (hidT h H).get? b = none := PySem.W.hideAll_none (trk h H) hm
    rw [z] at e; cases e

/-! ### OpenK's ledger, filled with every new object but one -/
def allNews (g h : Heap) (L : Addr) : List (Addr × Obj) := (List.range h.objs.size).filterMap fun a => if a = L ∨ (g.get? a).isSome = true then none else (h.get? a).map fun o => (a, o)
theorem mem_allNews {g h : Heap} {L a : Addr} {o : Obj} (h1 : a ≠ L) (h2 : g.get? a = none) (h3 : h.get? a = some o) : (a, o) ∈ allNews g h L :=
  List.mem_filterMap.mpr ⟨a, List.mem_range.mpr (Heap.lt_size h3), by simp [h1, h2, h3]⟩
def rest (g h : Heap) (L d : Addr) : List (Addr × Obj) := (allNews g h L).filter fun p => decide (p.1 ≠ d)
theorem mem_rest {g h : Heap} {L d a : Addr} {o : Obj} (h1 : a ≠ L) (h2 : g.get? a = none) (h3 : h.get? a = some o) (h4 : a ≠ d) : (a, o) ∈ rest g h L d :=
  List.mem_filter.mpr ⟨mem_allNews h1 h2 h3, decide_eq_true h4⟩
/-- behind a rule that changed d alone: all else but the frame is kept -/
theorem kept_of_news {g h h' : Heap} {L d : Addr} {m : Str → Option Value} (k : ∀ b o, g.get? b = some o → h.get? b = some o) (F : Fr g L h' m) (N : News g L h' (rest g h L d)) :
    ∀ b o, b ≠ L → b ≠ d → h.get? b = some o → h'.get? b = some o := fun b o h1 h2 e => by
  cases q : g.get? b with
  | some u =>
    have := k b u q
    rw [e] at this; cases this
    exact F.keep b _ q
  | none => exact (N (b, o) (mem_rest h1 q e h2)).1
end L2

namespace L2
open PySem PySem.Spec PyProof.Rows

/-- the module's facts, over the base: the heap at the law's entry without what is tracked there -/
structure Mod (K : PySem.W.Frag) (mg : Str → Option Value) (base : Heap) : Prop where
  kin : K.In base
  glob : base.Ns mainGlobals mg
  blt : ∃ mb, base.Ns builtinsNs mb ∧ ∀ x : Str, x ≠ "__name__" → mb x = bootBuiltins x
  nolimit : base.NoLimit

/-- the context: a def's body (or a comprehension's block) running. base: fixed through the whole law; s₀, H₀: the entry; outer: the frames whose slots others may change (a def's callers); stack: all frames that run;
   ex: iterators that were made ahead of the entry and are walked here (a comprehension's); fn: the names whose cells were made at the entry (a def: all; a comprehension's block: its own); calm: not within an except suite; pn: pins that every state bears; xe: what is wanted of an exception that leaves the code -/
structure Cx where
  prog : Program
  w : World
  K : PySem.W.Frag
  mg : Str → Option Value
  base : Heap
  A : Around
  N : List Str
  s₀ : Shared
  H₀ : Hp
  env : Env
  outer : List Env
  stack : List Env
  ex : List Addr
  fn : Str → Bool
  calm : Bool
  pn : List (Addr × Obj)
  xe : Value → Shared → Prop
/-- the callers' frames -/
def frs (l : List Env) : List Addr := l.filterMap (·.frame)
abbrev Cx.fs (X : Cx) : List Addr := frs X.outer

def Vis (sc : Scope) (x : Str) : Prop := sc.names.lookup x = some .local ∨ sc.names.lookup x = some .cell ∨ sc.names.lookup x = some .free
def Loc (sc : Scope) (x : Str) : Prop := sc.names.lookup x = some .local ∨ sc.names.lookup x = some .cell
def Look (env : Env) (h : Heap) (m : Str → Option Value) (x : Str) (u : Value) : Prop :=
  (env.kindOf x = some .local ∧ m x = some u) ∨ ((env.kindOf x = some .cell ∨ env.kindOf x = some .free) ∧ ∃ c, env.cells.lookup x = some c ∧ h.IsCell c (some u))

structure Cx.Ok (X : Cx) : Prop where
  mod : Mod X.K X.mg X.base
  kind : X.env.scope.kind = .function
  glob : X.env.globals = mainGlobals
  blt : X.env.builtins = builtinsNs
  above : X.s₀.heap.objs.size ≤ X.env.locals
  inj : ∀ x y c, X.env.cells.lookup x = some c → X.env.cells.lookup y = some c → x = y
  has : ∀ x, (X.env.kindOf x = some .cell ∨ X.env.kindOf x = some .free) → ∃ c, X.env.cells.lookup x = some c
  cab : ∀ x c, X.fn x = true → X.env.cells.lookup x = some c → X.s₀.heap.objs.size ≤ c
  hd : X.calm = true → X.A.handled = none
  frames : X.A.frames = some X.stack
  stk : X.stack = X.outer ∨ (X.stack = X.env :: X.outer ∧ X.env.frame = some X.env.locals)
  exf : ∀ b ∈ X.ex, b ≠ X.env.locals ∧ ∀ x c, X.env.cells.lookup x = some c → c ≠ b
  bs : ∀ b o, X.base.get? b = some o → X.s₀.heap.get? b = some o ∧ X.H₀ b = none
  bsz : X.base.objs.size ≤ X.s₀.heap.objs.size
  noex : ∀ b o, X.base.get? b = some o → b ∉ X.ex
  exfs : ∀ b ∈ X.ex, b ∉ X.fs
  funs : X.s₀.heap.FunFrames X.base X.outer
  frf : ∀ b ∈ X.fs, X.H₀ b = none

structure Inv (X : Cx) (pins : List (Addr × Obj)) (σ : List (Option V)) (H : Hp) (s : Shared) : Prop where
  ok : X.Ok
  os : s.os = X.s₀.os
  bare : AllBare s.gens
  base : Un X.fs X.ex X.H₀ H X.s₀.heap s.heap
  loc : ∃ m, s.heap.Ns X.env.locals m ∧ ∀ (i : Nat) (x : Str) (v : V), X.N[i]? = some x → σ[i]? = some (some v) → Vis X.env.scope x → ∃ u, RelV v u ∧ Look X.env s.heap m x u
  cell : ∀ x c, X.env.cells.lookup x = some c → ∃ v, s.heap.IsCell c v
  free : H X.env.locals = none
  freeC : ∀ x c, X.env.cells.lookup x = some c → H c = none
  pin : ∀ p ∈ X.pn ++ pins, s.heap.get? p.1 = some p.2 ∧ H p.1 = none ∧ p.1 ≠ X.env.locals ∧ p.1 ∉ X.fs ∧ ∀ v, p.2.data ≠ .cell v
  hok : HOk X.prog X.w H s.heap
  len : σ.length = X.N.length

section
variable {X : Cx} {pins : List (Addr × Obj)} {σ : List (Option V)} {H H' : Hp} {s : Shared} {h' : Heap}

theorem Cx.Ok.nofr (ok : X.Ok) {b : Addr} {o : Obj} (e : X.base.get? b = some o) : b ∉ X.fs := fun hb => by
  have := (ok.funs.mem hb).1
  rw [e] at this; cases this
theorem Inv.bs (I : Inv X pins σ H s) : ∀ b o, X.base.get? b = some o → s.heap.get? b = some o ∧ H b = none := fun b o e =>
  ⟨I.base.keep b o (I.ok.bs b o e).1 (I.ok.bs b o e).2 (I.ok.nofr e) (I.ok.noex b o e), I.base.free b o (I.ok.bs b o e).1 (I.ok.bs b o e).2 (I.ok.noex b o e)⟩
theorem Inv.bk (I : Inv X pins σ H s) : ∀ b o, X.base.get? b = some o → s.heap.get? b = some o := fun b o e => (I.bs b o e).1
theorem Inv.mod (I : Inv X pins σ H s) : Mod X.K X.mg X.base := I.ok.mod
theorem Inv.kIn (I : Inv X pins σ H s) : X.K.In s.heap := I.ok.mod.kin.keeps I.bk
/-- the frame over the base: for OpenK's rules (K.In X.base is I.mod.kin) -/
theorem Inv.fr (I : Inv X pins σ H s) : ∃ m, Fr X.base X.env.locals s.heap m :=
  let ⟨m, hn, _⟩ := I.loc
  ⟨m, hn, I.bk, Nat.le_trans I.ok.bsz I.ok.above⟩
theorem Inv.lt (I : Inv X pins σ H s) : X.env.locals < s.heap.objs.size := let ⟨_, hn, _⟩ := I.loc; hn.lt
theorem Inv.sz (I : Inv X pins σ H s) : X.s₀.heap.objs.size ≤ s.heap.objs.size := Nat.le_trans I.ok.above (Nat.le_of_lt I.lt)
theorem Inv.nofs (I : Inv X pins σ H s) {a : Addr} (h : s.heap.objs.size ≤ a) : a ∉ X.fs := fun hb => by
  obtain ⟨_, o, ho, _⟩ := I.ok.funs.mem hb
  exact absurd (Nat.lt_of_lt_of_le (Heap.lt_size ho) (Nat.le_trans I.sz h)) (Nat.lt_irrefl _)
theorem Inv.cne (I : Inv X pins σ H s) : ∀ x c, X.env.cells.lookup x = some c → c ≠ X.env.locals := fun x c e z => by
  obtain ⟨v, o, ho, hd⟩ := I.cell x c e
  obtain ⟨m, ⟨o', es, ep, ho', hd', _⟩, _⟩ := I.loc
  rw [z, ho'] at ho; cases ho; rw [hd'] at hd; cases hd
theorem Inv.funs (I : Inv X pins σ H s) : s.heap.FunFrames X.base X.outer := by
  have all : ∀ (l : List Env), (∀ b ∈ frs l, b ∈ X.fs) → X.s₀.heap.FunFrames X.base l → s.heap.FunFrames X.base l := by
    intro l
    induction l with
    | nil => intro _ _; trivial
    | cons env r ih =>
      intro hs hl
      obtain ⟨hk, ⟨L, o, hf, hn, ho, hd⟩, hr⟩ := hl
      have hL : L ∈ X.fs := hs L (by unfold frs; rw [List.filterMap_cons, hf]; exact List.mem_cons_self)
      obtain ⟨sl, e⟩ := I.base.slot L o ho (I.ok.frf L hL) hL fun z => I.ok.exfs L z hL
      exact ⟨hk, ⟨L, _, hf, hn, e, hd⟩, ih (fun b hb => hs b (by unfold frs; rw [List.filterMap_cons, hf]; exact List.mem_cons_of_mem _ hb)) hr⟩
  exact all X.outer (fun _ hb => hb) I.ok.funs

/-- the frames that run, for a call -/
theorem Inv.stack (I : Inv X pins σ H s) : s.heap.FunFrames X.base X.stack := by
  rcases I.ok.stk with e | ⟨e, hf⟩
  · rw [e]; exact I.funs
  · rw [e]
    obtain ⟨m, hn, _⟩ := I.loc
    refine .cons (by rw [I.ok.kind]; decide) hf hn ?_ I.funs
    exact Heap.get?_none_of_le (Nat.le_trans I.ok.bsz I.ok.above)
theorem Inv.stkSub (I : Inv X pins σ H s) : ∀ b ∈ frs X.stack, b ∈ X.env.locals :: X.fs := fun b hb => by
  rcases I.ok.stk with e | ⟨e, hf⟩
  · rw [e] at hb; exact List.mem_cons_of_mem _ hb
  · rw [e] at hb
    unfold frs at hb
    rw [List.filterMap_cons, hf] at hb
    exact hb
theorem Inv.stkFree (I : Inv X pins σ H s) : ∀ b ∈ frs X.stack, H b = none := fun b hb => by
  rcases List.mem_cons.mp (I.stkSub b hb) with e | hb
  · rw [e]; exact I.free
  · obtain ⟨_, o, ho, _⟩ := I.ok.funs.mem hb
    exact I.base.free b o ho (I.ok.frf b hb) fun z => I.ok.exfs b z hb

/-- THE STEP: the untracked objects but the frame and the records at ch are kept (the callers' frames up to slots), the frame's map is kept, the new abstract heap is held -/
theorem Inv.step {g' : Array GenState} {t' : Nat} {d' : Drawn} {ch : List Addr} (I : Inv X pins σ H s)
    (hch : ∀ b ∈ ch, (b ∈ X.ex ∨ X.s₀.heap.objs.size ≤ b) ∧ b ≠ X.env.locals ∧ (∀ x c, X.env.cells.lookup x = some c → c ≠ b) ∧ ∀ p ∈ X.pn ++ pins, p.1 ≠ b)
    (keep : ∀ b o, b ≠ X.env.locals → b ∉ X.fs → b ∉ ch → s.heap.get? b = some o → H b = none → h'.get? b = some o)
    (slot : ∀ b o, b ≠ X.env.locals → b ∈ X.fs → b ∉ ch → s.heap.get? b = some o → H b = none → ∃ sl, h'.get? b = some { o with slots := sl }) (free : ∀ b o, b ∉ ch → s.heap.get? b = some o → H b = none → H' b = none)
    (there : ∀ b o, b ∉ ch → s.heap.get? b = some o → ∃ o', h'.get? b = some o')
    (tups : ∀ b xs, H b = some (.tup xs) → H' b = some (.tup xs)) (frzs : ∀ b o u, H b = some (.frz o u) → H' b = some (.frz o u)) (tbls : ∀ b ps, H b = some (.tbl ps) → ∃ more, H' b = some (.tbl (ps ++ more)))
    (ns : ∀ m, s.heap.Ns X.env.locals m → h'.Ns X.env.locals m) (hok : HOk X.prog X.w H' h') (hg : AllBare g') :
    Inv X pins σ H' { s with heap := h', gens := g', drawn := d', toks := t' } := by
  have neL : ∀ b o, X.s₀.heap.get? b = some o → b ≠ X.env.locals := fun b o e => Nat.ne_of_lt (Nat.lt_of_lt_of_le (Heap.lt_size e) I.ok.above)
  have neC : ∀ b o, X.s₀.heap.get? b = some o → b ∉ X.ex → b ∉ ch := fun b o e hx hb => by
    rcases (hch b hb).1 with z | z
    · exact hx z
    · exact absurd (Nat.lt_of_lt_of_le (Heap.lt_size e) z) (Nat.lt_irrefl _)
  have cellK : ∀ x c, X.env.cells.lookup x = some c → ∀ v, s.heap.IsCell c v → h'.IsCell c v := fun x c e v ⟨o, ho, hd⟩ => by
    have nch : c ∉ ch := fun z => (hch c z).2.2.1 x c e rfl
    by_cases hc : c ∈ X.fs
    · obtain ⟨sl, q⟩ := slot c o (I.cne x c e) hc nch ho (I.freeC x c e)
      exact ⟨_, q, hd⟩
    · exact ⟨o, keep c o (I.cne x c e) hc nch ho (I.freeC x c e), hd⟩
  refine ⟨I.ok, I.os, hg, ⟨fun b o e n hb hx => ?_, fun b o e n hb hx => ?_, fun b o e n hx => ?_, fun b o e hx => ?_, fun b xs e => tups b xs (I.base.tups b xs e), fun b o xs e => frzs b o xs (I.base.frzs b o xs e), fun b ps e => ?_⟩, ?_, fun x c e => ?_, ?_, fun x c e => ?_, fun p hp => ?_, hok, I.len⟩
  · exact keep b o (neL b o e) hb (neC b o e hx) (I.base.keep b o e n hb hx) (I.base.free b o e n hx)
  · obtain ⟨sl, e1⟩ := I.base.slot b o e n hb hx
    obtain ⟨sl', e2⟩ := slot b _ (neL b o e) hb (neC b o e hx) e1 (I.base.free b o e n hx)
    exact ⟨sl', e2⟩
  · obtain ⟨o', e1⟩ := I.base.there b o e hx
    exact free b o' (neC b o e hx) e1 (I.base.free b o e n hx)
  · obtain ⟨o', e1⟩ := I.base.there b o e hx
    exact there b o' (neC b o e hx) e1
  · obtain ⟨m1, e1⟩ := I.base.tbls b ps e
    obtain ⟨m2, e2⟩ := tbls b _ e1
    exact ⟨m1 ++ m2, by rw [e2, Array.append_assoc]⟩
  · obtain ⟨m, hn, hl⟩ := I.loc
    refine ⟨m, ns m hn, fun i x v e1 e2 e3 => ?_⟩
    obtain ⟨u, r, l⟩ := hl i x v e1 e2 e3
    refine ⟨u, r, ?_⟩
    rcases l with l | ⟨k, c, e, z⟩
    · exact .inl l
    · exact .inr ⟨k, c, e, cellK x c e _ z⟩
  · obtain ⟨v, z⟩ := I.cell x c e
    exact ⟨v, cellK x c e v z⟩
  · obtain ⟨m, ⟨o, _, _, ho, _⟩, _⟩ := I.loc
    exact free _ o (fun z => (hch _ z).2.1 rfl) ho I.free
  · obtain ⟨v, o, ho, hd⟩ := I.cell x c e
    exact free c o (fun z => (hch c z).2.2.1 x c e rfl) ho (I.freeC x c e)
  · obtain ⟨e, n, ne, nf, d⟩ := I.pin p hp
    have nch : p.1 ∉ ch := fun z => (hch p.1 z).2.2.2 p hp rfl
    exact ⟨keep p.1 p.2 ne nf nch e n, free p.1 p.2 nch e n, ne, nf, d⟩
/-- .. where the frame's own object is kept too -/
theorem Inv.un {t' : Nat} (I : Inv X pins σ H s) (u : Un X.fs [] H H' s.heap h') (hok : HOk X.prog X.w H' h') : Inv X pins σ H' { s with heap := h', toks := t' } := by
  obtain ⟨m, ⟨o, es, ep, ho, r⟩, _⟩ := id I.loc
  obtain ⟨sl, hL⟩ := u.any ho I.free (by simp)
  exact I.step (g' := s.gens) (d' := s.drawn) (ch := []) (fun _ z => nomatch z) (fun b o _ hb _ e n => u.keep b o e n hb (by simp)) (fun b o _ hb _ e n => u.slot b o e n hb (by simp)) (fun b o _ e n => u.free b o e n (by simp)) (fun b o _ e => u.there b o e (by simp)) u.tups u.frzs u.tbls (fun m' hm => by
    obtain ⟨o', es', ep', ho', r'⟩ := hm
    rw [ho] at ho'; cases ho'
    exact ⟨_, es', ep', hL, r'⟩) hok I.bare
/-- behind a call (or a comprehension's block): the slots of this frame may have changed too, the records at ch may have turned -/
theorem Inv.call {g' : Array GenState} {t' : Nat} {d' : Drawn} {ch : List Addr} (I : Inv X pins σ H s) (u : Un (frs X.stack) ch H H' s.heap h') (hok : HOk X.prog X.w H' h') (hg : AllBare g')
    (hch : ∀ b ∈ ch, (b ∈ X.ex ∨ X.s₀.heap.objs.size ≤ b) ∧ b ≠ X.env.locals ∧ (∀ x c, X.env.cells.lookup x = some c → c ≠ b) ∧ ∀ p ∈ X.pn ++ pins, p.1 ≠ b) :
    Inv X pins σ H' { s with heap := h', gens := g', drawn := d', toks := t' } := by
  obtain ⟨m, ⟨o, es, ep, ho, r⟩, _⟩ := id I.loc
  obtain ⟨sl, hL⟩ := u.any ho I.free fun z => (hch _ z).2.1 rfl
  exact I.step (ch := ch) hch (fun b o hL hb hc e n => u.keep b o e n (fun z => (List.mem_cons.mp (I.stkSub b z)).elim hL hb) hc) (fun b o _ _ hc e n => u.any e n hc) (fun b o hc e n => u.free b o e n hc) (fun b o hc e => u.there b o e hc) u.tups u.frzs u.tbls (fun m' hm => by
    obtain ⟨o', es', ep', ho', r'⟩ := hm
    rw [ho] at ho'; cases ho'
    exact ⟨_, es', ep', hL, r'⟩) hok hg
/-- an untracked record of ours (an iterator) has turned -/
theorem Inv.turned {t' : Nat} {it : Addr} (I : Inv X pins σ H s) (k : ∀ b o, b ≠ it → s.heap.get? b = some o → h'.get? b = some o) (hn : H it = none) (hL : it ≠ X.env.locals)
    (h1 : it ∈ X.ex ∨ X.s₀.heap.objs.size ≤ it) (h2 : ∀ x c, X.env.cells.lookup x = some c → c ≠ it) (h3 : ∀ p ∈ X.pn ++ pins, p.1 ≠ it) : Inv X pins σ H { s with heap := h', toks := t' } := by
  have nit : ∀ b u, H b = some u → b ≠ it := fun b u e z => by rw [z, hn] at e; cases e
  refine I.step (g' := s.gens) (d' := s.drawn) (ch := [it]) (fun b hb => ?_) (fun b o _ _ hc e _ => k b o (fun z => hc (by simp [z])) e) (fun b o _ _ hc e _ => ⟨o.slots, k b o (fun z => hc (by simp [z])) e⟩) (fun _ _ _ _ n => n)
    (fun b o hc e => ⟨o, k b o (fun z => hc (by simp [z])) e⟩) (fun _ _ e => e) (fun _ _ _ e => e) (fun b ps e => ⟨#[], by rw [e]; simp⟩) (fun m hm => ?_) (fun b u e => ?_) I.bare
  · have e : b = it := by simpa using hb
    subst e
    exact ⟨h1, hL, h2, h3⟩
  · obtain ⟨o, es, ep, ho, r⟩ := hm
    exact ⟨o, es, ep, k _ o (Ne.symm hL) ho, r⟩
  · refine (I.hok b u e).stay (fun c v hc q => k c v ?_ q) (fun _ q => q) fun _ _ q => q
    rcases hc with z | z
    · rw [z]; exact nit b u e
    · exact nit c _ z
theorem Inv.tok (I : Inv X pins σ H s) (t : Nat) : Inv X pins σ H { s with toks := t } := I.un (h' := s.heap) (t' := t) Un.refl I.hok
/-- all objects kept -/
theorem Inv.kept {t' : Nat} (I : Inv X pins σ H s) (k : ∀ b u, s.heap.get? b = some u → h'.get? b = some u) : Inv X pins σ H { s with heap := h', toks := t' } := I.un (Un.kept k) (I.hok.kept k)
/-- a new object laid and tracked -/
theorem Inv.laid {a : Addr} {o : HO} {t' : Nat} (I : Inv X pins σ H s) (k : ∀ b u, s.heap.get? b = some u → h'.get? b = some u) (hp : s.heap.objs.size ≤ a) (new : ObjOk X.prog X.w (upd H a o) h' a o) :
    Inv X pins σ (upd H a o) { s with heap := h', toks := t' } := I.un (Un.laid k hp (I.hok.fresh hp)) (I.hok.laid k hp new)
/-- an object written -/
theorem Inv.write {x e : Addr} {o : HO} {t' : Nat} (I : Inv X pins σ H s) (mu : Mut (H x)) (he : e = x ∨ H e = some (.own x)) (k : ∀ b u, b ≠ e → s.heap.get? b = some u → h'.get? b = some u) (heo : ∃ u, h'.get? e = some u)
    (new : ObjOk X.prog X.w (upd H x o) h' x o) : Inv X pins σ (upd H x o) { s with heap := h', toks := t' } := I.un (Un.write mu he k heo) (I.hok.write mu he k heo new)
/-- forgetting slots, pins -/
theorem Inv.weak {σ' : List (Option V)} (I : Inv X pins σ H s) (hl : σ'.length = σ.length) (w : ∀ (i : Nat) v, σ'[i]? = some (some v) → σ[i]? = some (some v)) : Inv X pins σ' H s :=
  ⟨I.ok, I.os, I.bare, I.base, let ⟨m, hn, hl'⟩ := I.loc; ⟨m, hn, fun i x v e1 e2 e3 => hl' i x v e1 (w i v e2) e3⟩, I.cell, I.free, I.freeC, I.pin, I.hok, hl.trans I.len⟩
theorem Inv.pins_of {pins' : List (Addr × Obj)} (I : Inv X pins σ H s) (h : ∀ p ∈ pins', s.heap.get? p.1 = some p.2 ∧ H p.1 = none ∧ p.1 ≠ X.env.locals ∧ p.1 ∉ X.fs ∧ ∀ v, p.2.data ≠ .cell v) : Inv X pins' σ H s :=
  ⟨I.ok, I.os, I.bare, I.base, I.loc, I.cell, I.free, I.freeC, fun p hp => (List.mem_append.mp hp).elim (fun z => I.pin p (List.mem_append_left _ z)) (h p), I.hok, I.len⟩

theorem nodup_ix {N : List Str} (hN : N.Nodup) {i j : Nat} {x : Str} (a : N[i]? = some x) (b : N[j]? = some x) : i = j := by
  obtain ⟨h1, e1⟩ := List.getElem?_eq_some_iff.mp a
  obtain ⟨h2, e2⟩ := List.getElem?_eq_some_iff.mp b
  exact (List.getElem_inj hN).mp (e1.trans e2.symm)

/-- a name is stored; what changed -/
theorem store_ok2 {M : Model} {A : Around} {E : Value → Shared → Prop} {i : Nat} {x : Str} {v : V} {u : Value} {Q : Unit → Shared → Prop} (I : Inv X pins σ H s) (hN : X.N.Nodup) (hi : X.N[i]? = some x) (hx : Loc X.env.scope x) (r : RelV v u)
    (h : ∀ s', Inv X pins (σ.set i (some v)) H s' → (∃ a, Heap.SameBut a s.heap s'.heap ∧ (a = X.env.locals ∨ X.env.cells.lookup x = some a)) → Q () s') (hf : X.fn x = true ∨ X.env.scope.names.lookup x = some .local := by first | exact .inl rfl | exact .inr rfl | assumption) : wpAny M A (storeName X.env x u) Q E s := by
  obtain ⟨m, hn, hl⟩ := id I.loc
  have hcls : (X.env.scope.kind == .class || (X.env.scope.kind == .module && X.env.locals != X.env.globals)) = false := by rw [I.ok.kind]; rfl
  have hiσ : i < σ.length := by rw [I.len]; exact (List.getElem?_eq_some_iff.mp hi).1
  have cne := I.cne
  have tracked : ∀ {a : Addr} {h' : Heap}, (∃ o, s.heap.get? a = some o ∧ H a = none) → Heap.SameBut a s.heap h' → HOk X.prog X.w H h' := fun {a h'} ha hs b ob e => by
    obtain ⟨_, _, hfree⟩ := ha
    refine (I.hok b ob e).stay (fun c w' hc q => (hs.2 c ?_).trans q) (fun _ q => q) fun _ _ q => q
    rintro rfl
    rcases hc with rfl | hc
    · rw [hfree] at e; cases e
    · rw [hfree] at hc; cases hc
  rcases hx with hk | hk
  · refine wpAny_storeName_local hk hn (fun h' hn' hs => ?_) hcls
    obtain ⟨oL, _, _, hoL, _⟩ := id hn
    refine h _ ⟨I.ok, I.os, I.bare, ⟨fun b o e n hb hx => ?_, fun b o e n hb hx => ?_, I.base.free, fun b o e hx => ?_, I.base.tups, I.base.frzs, I.base.tbls⟩, ⟨_, hn', fun j y v' e1 e2 e3 => ?_⟩, fun y c e => ?_, I.free, I.freeC, fun p hp => ?_, tracked ⟨oL, hoL, I.free⟩ hs, by simpa using I.len⟩ ⟨_, hs, .inl rfl⟩
    · exact (hs.2 b (Nat.ne_of_lt (Nat.lt_of_lt_of_le (Heap.lt_size e) I.ok.above))).trans (I.base.keep b o e n hb hx)
    · obtain ⟨sl, e1⟩ := I.base.slot b o e n hb hx
      exact ⟨sl, (hs.2 b (Nat.ne_of_lt (Nat.lt_of_lt_of_le (Heap.lt_size e) I.ok.above))).trans e1⟩
    · obtain ⟨o', e1⟩ := I.base.there b o e hx
      exact ⟨o', (hs.2 b (Nat.ne_of_lt (Nat.lt_of_lt_of_le (Heap.lt_size e) I.ok.above))).trans e1⟩
    · by_cases hj : j = i
      · subst hj
        rw [hi] at e1; cases e1
        rw [List.getElem?_set_self hiσ] at e2
        cases e2
        exact ⟨u, r, .inl ⟨hk, by simp⟩⟩
      · rw [List.getElem?_set_ne (Ne.symm hj)] at e2
        obtain ⟨u', r', q⟩ := hl j y v' e1 e2 e3
        refine ⟨u', r', ?_⟩
        rcases q with ⟨k, e⟩ | ⟨k, c, e, z⟩
        · refine .inl ⟨k, ?_⟩
          have : y ≠ x := fun e => hj (nodup_ix hN e1 (e ▸ hi))
          simp [this, e]
        · exact .inr ⟨k, c, e, z.sameBut hs (cne y c e)⟩
    · obtain ⟨w', z⟩ := I.cell y c e
      exact ⟨w', z.sameBut hs (cne y c e)⟩
    · obtain ⟨e, n, ne, nf, d⟩ := I.pin p hp
      exact ⟨(hs.2 p.1 ne).trans e, n, ne, nf, d⟩
  · have hfn : X.fn x = true := by
      rcases hf with z | z
      · exact z
      · rw [z] at hk; cases hk
    obtain ⟨c, hc⟩ := I.ok.has x (.inl hk)
    obtain ⟨w', z⟩ := I.cell x c hc
    refine wpAny_storeName_cell I.ok.kind hk hc z (fun h' hc' hs => ?_)
    obtain ⟨oc, hoc, hocd⟩ := id z
    refine h { s with heap := h' } ⟨I.ok, I.os, I.bare, ⟨fun b o e n hb hx => ?_, fun b o e n hb hx => ?_, I.base.free, fun b o e hx => ?_, I.base.tups, I.base.frzs, I.base.tbls⟩, ⟨m, hn.sameBut hs (Ne.symm (cne x c hc)), fun j y v' e1 e2 e3 => ?_⟩, fun y c' e => ?_, I.free, I.freeC, fun p hp => ?_, tracked ⟨oc, hoc, I.freeC x c hc⟩ hs, by simpa using I.len⟩ ⟨c, hs, .inr hc⟩
    · exact (hs.2 b (Nat.ne_of_lt (Nat.lt_of_lt_of_le (Heap.lt_size e) (I.ok.cab x c hfn hc)))).trans (I.base.keep b o e n hb hx)
    · obtain ⟨sl, e1⟩ := I.base.slot b o e n hb hx
      exact ⟨sl, (hs.2 b (Nat.ne_of_lt (Nat.lt_of_lt_of_le (Heap.lt_size e) (I.ok.cab x c hfn hc)))).trans e1⟩
    · obtain ⟨o', e1⟩ := I.base.there b o e hx
      exact ⟨o', (hs.2 b (Nat.ne_of_lt (Nat.lt_of_lt_of_le (Heap.lt_size e) (I.ok.cab x c hfn hc)))).trans e1⟩
    · by_cases hj : j = i
      · subst hj
        rw [hi] at e1; cases e1
        rw [List.getElem?_set_self hiσ] at e2
        cases e2
        exact ⟨u, r, .inr ⟨.inl hk, c, hc, hc'⟩⟩
      · rw [List.getElem?_set_ne (Ne.symm hj)] at e2
        obtain ⟨u', r', q⟩ := hl j y v' e1 e2 e3
        refine ⟨u', r', ?_⟩
        rcases q with q | ⟨k, c', e, z'⟩
        · exact .inl q
        · refine .inr ⟨k, c', e, z'.sameBut hs ?_⟩
          rintro rfl
          exact hj (nodup_ix hN e1 (I.ok.inj _ _ _ e hc ▸ hi))
    · by_cases hcc : c' = c
      · subst hcc; exact ⟨_, hc'⟩
      · obtain ⟨w2, z2⟩ := I.cell y c' e
        exact ⟨w2, z2.sameBut hs hcc⟩
    · obtain ⟨e, n, ne, nf, d⟩ := I.pin p hp
      refine ⟨(hs.2 p.1 ?_).trans e, n, ne, nf, d⟩
      intro q
      rw [q, hoc] at e
      have q' : oc = p.2 := Option.some.inj e
      exact d w' (by rw [← q']; exact hocd)
theorem store_ok {M : Model} {A : Around} {E : Value → Shared → Prop} {i : Nat} {x : Str} {v : V} {u : Value} {Q : Unit → Shared → Prop} (I : Inv X pins σ H s) (hN : X.N.Nodup) (hi : X.N[i]? = some x) (hx : Loc X.env.scope x) (r : RelV v u)
    (h : ∀ s', Inv X pins (σ.set i (some v)) H s' → Q () s') (hf : X.fn x = true ∨ X.env.scope.names.lookup x = some .local := by first | exact .inl rfl | exact .inr rfl | assumption) : wpAny M A (storeName X.env x u) Q E s :=
  store_ok2 I hN hi hx r (fun s' I' _ => h s' I') hf
/-- behind a call or a block, the state as it is -/
theorem Inv.call' {s' : Shared} {ch : List Addr} (I : Inv X pins σ H s) (ho : s'.os = s.os) (u : Un (frs X.stack) ch H H' s.heap s'.heap) (hok : HOk X.prog X.w H' s'.heap) (hg : AllBare s'.gens)
    (hch : ∀ b ∈ ch, (b ∈ X.ex ∨ X.s₀.heap.objs.size ≤ b) ∧ b ≠ X.env.locals ∧ (∀ x c, X.env.cells.lookup x = some c → c ≠ b) ∧ ∀ p ∈ X.pn ++ pins, p.1 ≠ b) : Inv X pins σ H' s' := by
  obtain ⟨h', g', d', t', o'⟩ := s'
  have e : o' = s.os := ho
  subst e
  exact I.call (g' := g') (t' := t') (d' := d') u hok hg hch
end

/-! ### the judgements -/
/-- an exception: its class, its own dict's address (where it has one), the abstract heap behind it -/
abbrev XK := Value → Option Addr → Hp → Prop
abbrev St := List (Option V)
abbrev VK := V → Hp → Prop
/-- an expression's reading; a test's; an argument list's -/
abbrev TE := St → Hp → VK → Prop
abbrev TT := St → Hp → (Bool → Hp → Prop) → Prop
abbrev TA := St → Hp → (List V → Hp → Prop) → Prop
/-- what is wanted behind a statement -/
structure Ends where
  nx : St → Hp → Prop
  rt : VK
  bk : St → Hp → Prop := fun _ _ => False
  ct : St → Hp → Prop := fun _ _ => False
abbrev TS := Ends → St → Hp → Prop

def EP (X : Cx) (pins : List (Addr × Obj)) (σ : St) (Q : VK) (u : Value) (s' : Shared) : Prop := ∃ v H', Inv X pins σ H' s' ∧ RelV v u ∧ Q v H'
def TP (X : Cx) (pins : List (Addr × Obj)) (σ : St) (Q : Bool → Hp → Prop) (b : Bool) (s' : Shared) : Prop := ∃ H', Inv X pins σ H' s' ∧ Q b H'
def AP (X : Cx) (pins : List (Addr × Obj)) (σ : St) (Q : List V → Hp → Prop) (us : List Value) (s' : Shared) : Prop := ∃ vs H', Inv X pins σ H' s' ∧ Vals vs us ∧ Q vs H'
def SP (X : Cx) (pins : List (Addr × Obj)) (D : Ends) (f : Flow) (s' : Shared) : Prop :=
  match f with
  | .next => ∃ σ' H', Inv X pins σ' H' s' ∧ D.nx σ' H'
  | .brk => ∃ σ' H', Inv X pins σ' H' s' ∧ D.bk σ' H'
  | .cont => ∃ σ' H', Inv X pins σ' H' s' ∧ D.ct σ' H'
  | .ret u => ∃ v σ' H', Inv X pins σ' H' s' ∧ RelV v u ∧ D.rt v H'

def PE (X : Cx) (e : Expr) (t : TE) : Prop :=
  ∀ (pins : List (Addr × Obj)) (s : Shared) (σ : St) (H : Hp) (Q : VK), Inv X pins σ H s → t σ H Q → wpAny (model X.prog X.w) X.A (eval e X.env) (EP X pins σ Q) X.xe s
def PT (X : Cx) (e : Expr) (t : TT) : Prop :=
  ∀ (pins : List (Addr × Obj)) (s : Shared) (σ : St) (H : Hp) (Q : Bool → Hp → Prop), Inv X pins σ H s → t σ H Q → wpAny (model X.prog X.w) X.A (isTrue e X.env (eval e X.env)) (TP X pins σ Q) X.xe s
/-- a test whatever its 'whole' is (and, or) -/
def PW (X : Cx) (e : Expr) (t : TT) : Prop :=
  ∀ (whole : Sem Value) (pins : List (Addr × Obj)) (s : Shared) (σ : St) (H : Hp) (Q : Bool → Hp → Prop), Inv X pins σ H s → t σ H Q → wpAny (model X.prog X.w) X.A (isTrue e X.env whole) (TP X pins σ Q) X.xe s
theorem PW.pt {X : Cx} {e : Expr} {t : TT} (h : PW X e t) : PT X e t := h _
/-- an argument list (no star), from the left -/
def PA (X : Cx) (es : List Expr) (t : TA) : Prop :=
  ∀ (pos : Pos) (pins : List (Addr × Obj)) (s : Shared) (σ : St) (H : Hp) (Q : List V → Hp → Prop), Inv X pins σ H s → t σ H Q → wpAny (model X.prog X.w) X.A (spliced (backTo pos (starEach es X.env))) (AP X pins σ Q) X.xe s
def PS (X : Cx) (st : Stmt) (t : TS) : Prop :=
  ∀ (pins : List (Addr × Obj)) (s : Shared) (σ : St) (H : Hp) (D : Ends), Inv X pins σ H s → t D σ H → wpAny (model X.prog X.w) X.A (exec st X.env) (SP X pins D) X.xe s
def PSs (X : Cx) (st : List Stmt) (t : TS) : Prop :=
  ∀ (pins : List (Addr × Obj)) (s : Shared) (σ : St) (H : Hp) (D : Ends), Inv X pins σ H s → t D σ H → wpAny (model X.prog X.w) X.A (execs st X.env) (SP X pins D) X.xe s
/-- weaken the end -/
theorem thn {α : Type} {t : Sem α} {Q Q' : α → Shared → Prop} {M : Model} {A : Around} {E : Value → Shared → Prop} {s : Shared} (h : wpAny M A t Q E s) (hQ : ∀ a s, Q a s → Q' a s) : wpAny M A t Q' E s := wpAny_mono h hQ fun _ _ x => x
end L2

namespace L2
open PySem PySem.Spec PyProof.Rows
section
variable {X : Cx}

/-- two expressions in a row -/
theorem bin {a b : Expr} {ta tb : TE} (ha : PE X a ta) (hb : PE X b tb) {pins : List (Addr × Obj)} {s : Shared} {σ : St} {H : Hp} {R : V → V → Hp → Prop} (I : Inv X pins σ H s) (h : ta σ H fun x H1 => tb σ H1 fun y H2 => R x y H2)
    {α : Type} {Q : α → Shared → Prop} {f : Value → Value → Sem α}
    (hf : ∀ v u s2 x y H2, Inv X pins σ H2 s2 → RelV x v → RelV y u → R x y H2 → wpAny (model X.prog X.w) X.A (f v u) Q X.xe s2) :
    wpAny (model X.prog X.w) X.A (eval a X.env) (fun v s₁ => wpAny (model X.prog X.w) X.A (eval b X.env) (fun u s₂ => wpAny (model X.prog X.w) X.A (f v u) Q X.xe s₂) X.xe s₁) X.xe s := by
  refine thn (ha pins s σ H _ I h) fun v s1 ⟨x, H1, I1, r1, q1⟩ => ?_
  refine thn (hb pins s1 σ H1 _ I1 q1) fun u s2 ⟨y, H2, I2, r2, q2⟩ => ?_
  exact hf v u s2 x y H2 I2 r1 r2 q2

/-! ### names and constants -/
def tVar (i : Nat) : TE := fun σ H Q => ∃ v, σ[i]? = some (some v) ∧ Q v H
def tC (v : V) : TE := fun _ H Q => Q v H
theorem pe_var {i : Nat} {x : Str} {pos : Pos} (hN : X.N[i]? = some x) (hv : Vis X.env.scope x) (hd : (x == ("__debug__" : Str)) = false := by decide) (hcd : (x == ("__classdict__" : Str)) = false := by decide) : PE X (.Name x pos) (tVar i) := by
  intro pins s σ H Q I h
  obtain ⟨v, e, h⟩ := h
  obtain ⟨m, hn, hl⟩ := I.loc
  obtain ⟨u, r, l⟩ := hl i x v hN e hv
  have fin : EP X pins σ Q u s := ⟨v, H, I, r, h⟩
  rcases l with ⟨hk, hm⟩ | ⟨hk, c, hc, hcell⟩
  · exact wpAny_Name (wpAny_loadName_local I.ok.kind hk hn hm fin) hd
  · rcases hk with hk | hk
    · exact wpAny_Name (wpAny_loadName_cell I.ok.kind hk hc hcell fin) hd
    · exact wpAny_Name (wpAny_loadName_free I.ok.kind hk hc hcell fin hcd) hd
theorem pe_int {i j pos} : PE X (.Constant (.int i) j pos) (tC (.int i)) := fun _ _ _ H _ I h => wpAny_Constant_int ⟨.int i, H, I.tok _, ⟨_, rfl⟩, h⟩
theorem pe_bl {b j pos} : PE X (.Constant (.bool b) j pos) (tC (.bl b)) := fun _ _ _ H _ I h => Constant_bool ⟨.bl b, H, I, rfl, h⟩
theorem pe_str {x j pos} : PE X (.Constant (.str x) j pos) (tC (.str x)) := fun _ _ _ H _ I h => Calls.Constant_str ⟨.str x, H, I.tok _, ⟨_, rfl⟩, h⟩

/-- a global name of the def -/
def Gl (X : Cx) (x : Str) : Prop := X.env.kindOf x = some .globalImplicit
theorem ld_glob {E : Value → Shared → Prop} {pins : List (Addr × Obj)} {s : Shared} {σ : St} {H : Hp} {x : Str} {u : Value} {pos : Pos} {Q : Value → Shared → Prop} (I : Inv X pins σ H s) (hg : Gl X x) (hm : X.mg x = some u) (h : Q u s)
    (hd : (x == ("__debug__" : Str)) = false := by decide) : wpAny (model X.prog X.w) X.A (eval (.Name x pos) X.env) Q E s :=
  Calls.Name_function_global I.ok.kind hg (Calls.loadGlobal_global (by rw [I.ok.glob]; exact I.mod.glob.keeps I.bk) hm h) hd
theorem ld_blt {E : Value → Shared → Prop} {pins : List (Addr × Obj)} {s : Shared} {σ : St} {H : Hp} {x : Str} {u : Value} {pos : Pos} {Q : Value → Shared → Prop} (I : Inv X pins σ H s) (hg : Gl X x) (hm : X.mg x = none) (hv : bootBuiltins x = some u) (h : Q u s)
    (hn : x ≠ "__name__" := by decide) (hd : (x == ("__debug__" : Str)) = false := by decide) : wpAny (model X.prog X.w) X.A (eval (.Name x pos) X.env) Q E s := by
  obtain ⟨mb, h1, h2⟩ := I.mod.blt
  exact Calls.Name_function_global I.ok.kind hg (Calls.loadGlobal_builtin (by rw [I.ok.glob]; exact I.mod.glob.keeps I.bk) hm (by rw [I.ok.blt]; exact h1.keeps I.bk) ((h2 x hn).trans hv) h) hd
/-- a module's constant, a class, a function, as a value -/
theorem pe_glob {x : Str} {v : V} {u : Value} {pos : Pos} (hg : Gl X x) (hm : X.mg x = some u) (r : RelV v u) (hd : (x == ("__debug__" : Str)) = false := by decide) : PE X (.Name x pos) (tC v) :=
  fun _ _ _ H _ I h => ld_glob I hg hm ⟨v, H, I, r, h⟩ hd
theorem pe_bltn {x : Str} {v : V} {u : Value} {pos : Pos} (hg : Gl X x) (hm : X.mg x = none) (hv : bootBuiltins x = some u) (r : RelV v u) (hn : x ≠ "__name__" := by decide) (hd : (x == ("__debug__" : Str)) = false := by decide) : PE X (.Name x pos) (tC v) :=
  fun _ _ _ H _ I h => ld_blt I hg hm hv ⟨v, H, I, r, h⟩ hn hd

/-! ### arithmetic -/
/-- two ints -/
def t2I (ta tb : TE) (k : Int → Int → Hp → Prop) : St → Hp → Prop := fun σ H => ta σ H fun x H1 => tb σ H1 fun y H2 => ∃ i j, x = .int i ∧ y = .int j ∧ k i j H2
def tAdd (ta tb : TE) : TE := fun σ H Q => t2I ta tb (fun i j H2 => Q (.int (i + j)) H2) σ H
def tSub (ta tb : TE) : TE := fun σ H Q => t2I ta tb (fun i j H2 => Q (.int (i - j)) H2) σ H
/-- the left factor below 2^64 -/
def tMul (ta tb : TE) : TE := fun σ H Q => t2I ta tb (fun i j H2 => (-(2 ^ 64) < i ∧ i < 2 ^ 64) ∧ Q (.int (i * j)) H2) σ H
variable {a b : Expr} {ta tb : TE} {pos : Pos}

/-! ### comparisons -/
def PC (X : Cx) (op : CmpOp) (a b : Expr) (t : TE) : Prop :=
  ∀ (pins : List (Addr × Obj)) (s : Shared) (σ : St) (H : Hp) (Q : VK), Inv X pins σ H s → t σ H Q →
    wpAny (model X.prog X.w) X.A (eval a X.env) (fun v s₁ => wpAny (model X.prog X.w) X.A (eval b X.env) (fun u s₂ => wpAny (model X.prog X.w) X.A (compareOp op v u) (EP X pins σ Q) X.xe s₂) X.xe s₁) X.xe s
def tCmp (p : Int → Int → Bool) (ta tb : TE) : TE := fun σ H Q => t2I ta tb (fun i j H2 => Q (.bl (p i j)) H2) σ H
abbrev tLt : TE → TE → TE := tCmp fun i j => decide (i < j)
abbrev tLe : TE → TE → TE := tCmp fun i j => decide (i ≤ j)
abbrev tGt : TE → TE → TE := tCmp fun i j => decide (j < i)
abbrev tGe : TE → TE → TE := tCmp fun i j => decide (j ≤ i)
abbrev tEqI : TE → TE → TE := tCmp fun i j => decide (i = j)
abbrev tNeI : TE → TE → TE := tCmp fun i j => !decide (i = j)
/-- a comparison of two ints, by its rule -/
theorem pc_int {op : CmpOp} {p : Int → Int → Bool} (ha : PE X a ta) (hb : PE X b tb)
    (rule : ∀ (i j : Int) (t u : Tok) (Q : Value → Shared → Prop) (s : Shared), Q (.bool (p i j)) s → wpAny (model X.prog X.w) X.A (compareOp op (.int i t) (.int j u)) Q X.xe s) : PC X op a b (tCmp p ta tb) := by
  intro pins s σ H Q I h
  refine bin ha hb I h fun v u s2 x y H2 I2 rx ry q => ?_
  obtain ⟨i, j, rfl, rfl, q⟩ := q
  obtain ⟨t, rfl⟩ := rx
  obtain ⟨t', rfl⟩ := ry
  exact rule i j t t' _ s2 ⟨.bl _, H2, I2, rfl, q⟩
/-- is None -/
def tIsN (ta : TE) : TE := fun σ H Q => ta σ H fun x H1 => Q (.bl (decide (x = .non))) H1
def tNotN (ta : TE) : TE := fun σ H Q => ta σ H fun x H1 => Q (.bl (!decide (x = .non))) H1
/-- a comparison as a value, as a test -/
def tB (t : TE) : TT := fun σ H Q => t σ H fun x H1 => ∃ c, x = .bl c ∧ Q c H1
theorem pt_cmp {op : CmpOp} {t : TE} (h : PC X op a b t) (h1 : behindInMarks op b = false := by first | exact nobehind _ (by decide) (by decide) | rfl) : PT X (.Compare a [op] [b] pos) (tB t) := by
  intro pins s σ H Q I hw
  refine wpAny_isTrue_Compare1 (thn (h pins s σ H _ I hw) fun v s1 h1 => thn h1 fun u s2 h2 => thn h2 fun c s3 ⟨x, H1, I1, r1, q1⟩ => ?_) h1
  obtain ⟨d, rfl, q⟩ := q1
  cases r1
  exact wpAny_truthy_bool ⟨H1, I1, q⟩
/-- an expression whose value is a bool, as a test -/
theorem pt_val {e : Expr} {t : TE} (h : PE X e t) (he : ∀ whole, isTrue e X.env whole = (do let v ← whole; standAt e.pos; holding [v] (truthy v)) := by intro _; rfl) : PT X e (tB t) := by
  intro pins s σ H Q I hw
  refine isTrue_plain (thn (h pins s σ H _ I hw) fun v s1 ⟨x, H1, I1, r1, q1⟩ => ?_) (he _)
  obtain ⟨d, rfl, q⟩ := q1
  cases r1
  exact wpAny_truthy_bool ⟨H1, I1, q⟩

/-! ### and, or, not -/
variable {tA tB' : TT} {rest : List Expr}
def tAnd (t u : TT) : TT := fun σ H Q => t σ H fun c H1 => if c = true then u σ H1 Q else Q false H1
def tOr (t u : TT) : TT := fun σ H Q => t σ H fun c H1 => if c = true then Q true H1 else u σ H1 Q
def tNot (t : TT) : TT := fun σ H Q => t σ H fun c H1 => Q (!c) H1
theorem pw_and1 (ha : PT X a tA) : PW X (.BoolOp .And [a] pos) tA := by
  intro wh pins s σ H Q I h
  refine isTrue_and (thn (ha pins s σ H Q I h) fun c s1 e => ?_)
  cases c with
  | true => exact isTrue_and_nil e
  | false => exact e
theorem pw_or1 (ha : PT X a tA) : PW X (.BoolOp .Or [a] pos) tA := by
  intro wh pins s σ H Q I h
  refine isTrue_or (thn (ha pins s σ H Q I h) fun c s1 e => ?_)
  cases c with
  | false => exact isTrue_or_nil e
  | true => exact e
theorem pw_and (ha : PT X a tA) (hb : PW X (.BoolOp .And (b :: rest) pos) tB') : PW X (.BoolOp .And (a :: b :: rest) pos) (tAnd tA tB') := by
  intro wh pins s σ H Q I h
  refine isTrue_and (thn (ha pins s σ H _ I h) fun c s1 ⟨H1, I1, q1⟩ => ?_)
  cases c with
  | true => exact hb wh pins s1 σ H1 Q I1 q1
  | false => exact ⟨H1, I1, q1⟩
theorem pw_or (ha : PT X a tA) (hb : PW X (.BoolOp .Or (b :: rest) pos) tB') : PW X (.BoolOp .Or (a :: b :: rest) pos) (tOr tA tB') := by
  intro wh pins s σ H Q I h
  refine isTrue_or (thn (ha pins s σ H _ I h) fun c s1 ⟨H1, I1, q1⟩ => ?_)
  cases c with
  | true => exact ⟨H1, I1, q1⟩
  | false => exact hb wh pins s1 σ H1 Q I1 q1
theorem pt_not (ha : PT X a tA) : PT X (.UnaryOp .Not a pos) (tNot tA) := by
  intro pins s σ H Q I h
  exact isTrue_not (ha pins s σ H (fun c H1 => Q (!c) H1) I h)
/-- .. as values (bools) -/
def tAndV (ta tb : TE) : TE := fun σ H Q => ta σ H fun x H1 => ∃ c, x = .bl c ∧ if c = true then tb σ H1 Q else Q (.bl false) H1
def tOrV (ta tb : TE) : TE := fun σ H Q => ta σ H fun x H1 => ∃ c, x = .bl c ∧ if c = true then Q (.bl true) H1 else tb σ H1 Q
def tNotV (ta : TE) : TE := fun σ H Q => ta σ H fun x H1 => ∃ c, x = .bl c ∧ Q (.bl (!c)) H1
theorem pe_one {op} {t : TE} (h : PE X a t) : PE X (.BoolOp op [a] pos) t := fun pins s σ H Q I hw => BoolOp_one (h pins s σ H Q I hw)
theorem pe_and (ha : PE X a ta) (hb : PE X (.BoolOp .And (b :: rest) pos) tb) : PE X (.BoolOp .And (a :: b :: rest) pos) (tAndV ta tb) := by
  intro pins s σ H Q I h
  refine BoolOp_and (thn (ha pins s σ H _ I h) fun v s1 ⟨x, H1, I1, r1, q1⟩ => ?_)
  obtain ⟨c, rfl, q1⟩ := q1
  cases r1
  refine wpAny_truthy_bool ?_
  cases c with
  | true => exact hb pins s1 σ H1 Q I1 q1
  | false => exact ⟨.bl false, H1, I1, rfl, q1⟩
/-- a if t else b -/
def tIf (t : TT) (ta tb : TE) : TE := fun σ H Q => t σ H fun c H1 => if c = true then ta σ H1 Q else tb σ H1 Q
end
end L2

namespace L2
open PySem PySem.Spec PyProof.Rows

/-! ### a list, a tuple that is read: tracked, frozen, or an object of the module -/
def SqL (K : PySem.W.Frag) (H : Hp) (a : Addr) (xs : List V) : Prop :=
  Rd H a (.lst xs) ∨
    ∃ (o : Obj) (its : Array Value) (n : Nat), K.lookup a = some o ∧ o.cls = .type "list" ∧ o.dict = none ∧ o.data = .seq its n ∧ its.size ≤ sizeLine ∧ Vals xs its.toList
def SqT (K : PySem.W.Frag) (H : Hp) (a : Addr) (xs : List V) : Prop :=
  Rd H a (.tup xs) ∨
    ∃ (o : Obj) (its : Array Value) (n : Nat), K.lookup a = some o ∧ o.cls = .type "tuple" ∧ o.data = .seq its n ∧ its.size ≤ sizeLine ∧ Vals xs its.toList
def absV : Value → Option V
  | .none => some .non
  | .bool b => some (.bl b)
  | .int i _ => some (.int i)
  | .str x _ => some (.str x)
  | .bytes b _ => some (.byt b)
  | .float b _ => some (.flt b)
  | .ref a => some (.ref a)
  | .type n => some (.ty n)
  | _ => none
theorem RelV.abs {x : V} {u : Value} (r : RelV x u) : absV u = some x := by
  cases x with
  | non => cases r; rfl
  | bl _ => cases r; rfl
  | int _ => obtain ⟨t, rfl⟩ := r; rfl
  | str _ => obtain ⟨t, rfl⟩ := r; rfl
  | byt _ => obtain ⟨t, rfl⟩ := r; rfl
  | flt _ => obtain ⟨t, rfl⟩ := r; rfl
  | ref _ => cases r; rfl
  | ty _ => cases r; rfl
theorem RelV.inj {x y : V} {u : Value} (r : RelV x u) (q : RelV y u) : x = y := Option.some.inj (r.abs.symm.trans q.abs)
theorem Vals.inj : ∀ {xs ys : List V} {us : List Value}, Vals xs us → Vals ys us → xs = ys
  | _, _, _, .nil, .nil => rfl
  | _, _, _, .cons r t, .cons r' t' => by rw [r.inj r', Vals.inj t t']
section
variable {X : Cx} {pins : List (Addr × Obj)} {σ : St} {H : Hp} {s : Shared} {a : Addr} {xs ys : List V}
theorem SqL.of {K : PySem.W.Frag} (h : H a = some (.lst xs)) : SqL K H a xs := .inl (.inl h)
theorem SqT.of {K : PySem.W.Frag} (h : H a = some (.tup xs)) : SqT K H a xs := .inl (.inl h)
theorem Inv.list (I : Inv X pins σ H s) (h : SqL X.K H a xs) : ∃ its : List Value, Vals xs its ∧ PlainL s.heap a its.toArray ∧ xs.length ≤ sizeLine := by
  rcases h with h | ⟨o, its, n, hk, hc, hd, hs, hz, r⟩
  · obtain ⟨z, its, n, r, e⟩ := h.ok I.hok
    exact ⟨its, r, ⟨_, n, e, rfl, rfl, rfl⟩, z⟩
  · refine ⟨its.toList, r, ⟨o, n, I.kIn a o hk, hc, hd, by simpa using hs⟩, ?_⟩
    have e := r.length
    simp only [Array.length_toList] at e
    omega
theorem Inv.tuple (I : Inv X pins σ H s) (h : SqT X.K H a xs) : ∃ its : List Value, Vals xs its ∧ IsTup s.heap a its.toArray ∧ xs.length ≤ sizeLine := by
  rcases h with h | ⟨o, its, n, hk, hc, hs, hz, r⟩
  · obtain ⟨z, its, r, p⟩ := h.ok I.hok
    exact ⟨its, r, p, z⟩
  · refine ⟨its.toList, r, ⟨o, I.kIn a o hk, hc, n, by simpa using hs⟩, ?_⟩
    have e := r.length
    simp only [Array.length_toList] at e
    omega
theorem Inv.list_inj (I : Inv X pins σ H s) (h : SqL X.K H a xs) (h' : SqL X.K H a ys) : xs = ys := by
  obtain ⟨its, r, ⟨o, n, e, _, _, d⟩, _⟩ := I.list h
  obtain ⟨its', r', ⟨o', n', e', _, _, d'⟩, _⟩ := I.list h'
  rw [e] at e'; cases e'
  rw [d] at d'
  injection d' with d1 _
  have : its = its' := by simpa using congrArg Array.toList d1
  subst this
  exact r.inj r'
theorem Inv.tuple_inj (I : Inv X pins σ H s) (h : SqT X.K H a xs) (h' : SqT X.K H a ys) : xs = ys := by
  obtain ⟨its, r, ⟨o, e, _, n, d⟩, _⟩ := I.tuple h
  obtain ⟨its', r', ⟨o', e', _, n', d'⟩, _⟩ := I.tuple h'
  rw [e] at e'; cases e'
  rw [d] at d'
  injection d' with d1 _
  have : its = its' := by simpa using congrArg Array.toList d1
  subst this
  exact r.inj r'
end

/-! ### another wish about exceptions -/
abbrev Cx.wish (X : Cx) (E : Value → Shared → Prop) : Cx := { X with xe := E }
/-- no exception leaves -/
abbrev Cx.nox (X : Cx) : Cx := X.wish fun _ _ => False
theorem Cx.Ok.wish {X : Cx} (ok : X.Ok) (E : Value → Shared → Prop) : (X.wish E).Ok :=
  ⟨ok.mod, ok.kind, ok.glob, ok.blt, ok.above, ok.inj, ok.has, ok.cab, ok.hd, ok.frames, ok.stk, ok.exf, ok.bs, ok.bsz, ok.noex, ok.exfs, ok.funs, ok.frf⟩
theorem Cx.Ok.unwish {X : Cx} {E : Value → Shared → Prop} (ok : (X.wish E).Ok) : X.Ok :=
  ⟨ok.mod, ok.kind, ok.glob, ok.blt, ok.above, ok.inj, ok.has, ok.cab, ok.hd, ok.frames, ok.stk, ok.exf, ok.bs, ok.bsz, ok.noex, ok.exfs, ok.funs, ok.frf⟩
section
variable {X : Cx} {pins : List (Addr × Obj)} {σ : St} {H : Hp} {s : Shared} {E : Value → Shared → Prop}
theorem Inv.wish (I : Inv X pins σ H s) (E : Value → Shared → Prop) : Inv (X.wish E) pins σ H s := ⟨I.ok.wish E, I.os, I.bare, I.base, I.loc, I.cell, I.free, I.freeC, I.pin, I.hok, I.len⟩
theorem Inv.unwish (I : Inv (X.wish E) pins σ H s) : Inv X pins σ H s := ⟨I.ok.unwish, I.os, I.bare, I.base, I.loc, I.cell, I.free, I.freeC, I.pin, I.hok, I.len⟩
theorem SP.unwish {D : Ends} {f : Flow} {s' : Shared} (h : SP (X.wish E) pins D f s') : SP X pins D f s' := by
  cases f with
  | next => obtain ⟨σ', H', I, q⟩ := h; exact ⟨σ', H', I.unwish, q⟩
  | brk => obtain ⟨σ', H', I, q⟩ := h; exact ⟨σ', H', I.unwish, q⟩
  | cont => obtain ⟨σ', H', I, q⟩ := h; exact ⟨σ', H', I.unwish, q⟩
  | ret u => obtain ⟨v, σ', H', I, r, q⟩ := h; exact ⟨v, σ', H', I.unwish, r, q⟩
theorem PSs.nox {st : List Stmt} {t : TS} (h : PSs X.nox st t) : PSs X st t := fun pins s σ H D I hw =>
  wpAny_mono (h pins s σ H D (I.wish _) hw) (fun _ _ q => q.unwish) fun _ _ z => False.elim z
end

/-! ### blocks and small statements -/
section
variable {X : Cx} {st : Stmt} {rest : List Stmt} {t u : TS} {e : Expr} {te : TE} {pos : Pos}
def tNext : TS := fun D σ H => D.nx σ H
def tSeq (t u : TS) : TS := fun D σ H => t { D with nx := u D } σ H
theorem pss_nil : PSs X [] tNext := fun _ _ σ H _ I h => wpAny_execs_nil ⟨σ, H, I, h⟩
theorem pss_cons (h1 : PS X st t) (h2 : PSs X rest u) : PSs X (st :: rest) (tSeq t u) := by
  intro pins s σ H D I h
  refine wpAny_execs_cons (thn (h1 pins s σ H { D with nx := u D } I h) fun f s1 q => ?_)
  cases f with
  | next =>
    obtain ⟨σ', H', I', q⟩ := q
    exact h2 pins s1 σ' H' D I' q
  | ret v => exact q
  | brk => exact q
  | cont => exact q
theorem pss_one (h1 : PS X st t) : PSs X [st] t := by
  intro pins s σ H D I h
  refine wpAny_execs_cons (thn (h1 pins s σ H D I h) fun f s1 q => ?_)
  cases f with
  | next => exact wpAny_execs_nil q
  | ret v => exact q
  | brk => exact q
  | cont => exact q
def tBreak : TS := fun D σ H => D.bk σ H
def tCont : TS := fun D σ H => D.ct σ H
/-- in a def's body nothing is shown -/
theorem Inv.quiet {pins : List (Addr × Obj)} {σ : St} {H : Hp} {s : Shared} (I : Inv X pins σ H s) : interactive X.env = false := by simp [interactive, I.ok.kind]
/-- a docstring -/
theorem ps_doc {x j pos pos'} : PS X (.Expr (.Constant (.str x) j pos) pos') tNext := fun _ s σ H _ I h => wpAny_Expr (Calls.Constant_str (show SP X _ _ .next { s with toks := s.toks + 1 } from ⟨σ, H, I.tok _, h⟩)) I.quiet
/-- an expression whose value is dropped -/
def tDrop (te : TE) : TS := fun D σ H => te σ H fun _ H1 => D.nx σ H1
theorem ps_expr (he : PE X e te) (hs : swapsWith e none pos.line X.env = pure false := by rfl) : PS X (.Expr e pos) (tDrop te) := by
  intro pins s σ H D I h
  exact wpAny_Expr_any (thn (he pins s σ H _ I h) fun v s1 ⟨x, H1, I1, r1, q1⟩ => ⟨σ, H1, I1, q1⟩) I.quiet hs
def tRet (te : TE) : TS := fun D σ H => te σ H D.rt
theorem ps_ret (he : PE X e te) : PS X (.Return (some e) pos) (tRet te) := by
  intro pins s σ H D I h
  exact wpAny_Return_some (thn (he pins s σ H _ I h) fun v s1 ⟨x, H1, I1, r1, q1⟩ => ⟨x, σ, H1, I1, r1, q1⟩)
def tRetN : TS := fun D _ H => D.rt .non H
def tIfS (c : TT) (t u : TS) : TS := fun D σ H => c σ H fun b H1 => if b = true then t D σ H1 else u D σ H1
theorem ps_if {c : Expr} {a b : List Stmt} {tc : TT} (hc : PT X c tc) (ha : PSs X a t) (hb : PSs X b u) : PS X (.If c a b pos) (tIfS tc t u) := by
  intro pins s σ H D I h
  refine wpAny_If (thn (hc pins s σ H _ I h) fun d s1 ⟨H1, I1, q1⟩ => ?_)
  cases d with
  | true => exact ha pins s1 σ H1 D I1 q1
  | false => exact hb pins s1 σ H1 D I1 q1
/-- code that the proof never comes to -/
def tNever : TS := fun _ _ _ => False
end

/-! ### targets -/
abbrev TG := V → St → Hp → (St → Hp → Prop) → Prop
abbrev TGs := List V → St → Hp → (St → Hp → Prop) → Prop
def PG (X : Cx) (target : Expr) (t : TG) : Prop :=
  ∀ (pins : List (Addr × Obj)) (s : Shared) (σ : St) (H : Hp) (v : V) (u : Value) (Q : St → Hp → Prop), Inv X pins σ H s → RelV v u → t v σ H Q →
    wpAny (model X.prog X.w) X.A (assign target X.env u) (fun _ s' => ∃ σ' H', Inv X pins σ' H' s' ∧ Q σ' H') X.xe s
/-- several targets, one after another -/
def PGs (X : Cx) (ts : List Expr) (t : TGs) : Prop :=
  ∀ (pins : List (Addr × Obj)) (s : Shared) (σ : St) (H : Hp) (vs : List V) (us : List Value) (Q : St → Hp → Prop), Inv X pins σ H s → Vals vs us → t vs σ H Q →
    wpAny (model X.prog X.w) X.A (assignInOrder ((assignEach ts X.env).map (·.2)) us) (fun _ s' => ∃ σ' H', Inv X pins σ' H' s' ∧ Q σ' H') X.xe s
/-- o[i] = v, by values -/
abbrev TSet := V → V → V → Hp → (Hp → Prop) → Prop
def PSet (X : Cx) (t : TSet) : Prop :=
  ∀ (pins : List (Addr × Obj)) (s : Shared) (σ : St) (H : Hp) (o i v : V) (ov iv u : Value) (Q : Hp → Prop), Inv X pins σ H s → RelV o ov → RelV i iv → RelV v u → t o i v H Q →
    wpAny (model X.prog X.w) X.A (setItem ov iv u) (fun _ s' => ∃ H', Inv X pins σ H' s' ∧ Q H') X.xe s
/-- a op= b, by values -/
abbrev TIp := V → V → Hp → VK → Prop
def PIp (X : Cx) (op : Operator) (t : TIp) : Prop :=
  ∀ (pins : List (Addr × Obj)) (s : Shared) (σ : St) (H : Hp) (x y : V) (v u : Value) (Q : VK), Inv X pins σ H s → RelV x v → RelV y u → t x y H Q →
    wpAny (model X.prog X.w) X.A (inplaceOp op v u) (EP X pins σ Q) X.xe s
section
variable {X : Cx} {pos : Pos}
def gName (i : Nat) : TG := fun v σ H Q => Q (σ.set i (some v)) H
theorem pg_name {i : Nat} {x : Str} (hN : X.N.Nodup) (hi : X.N[i]? = some x) (hx : Loc X.env.scope x) (hf : X.fn x = true ∨ X.env.scope.names.lookup x = some .local := by first | exact .inl rfl | exact .inr rfl | assumption) : PG X (.Name x pos) (gName i) := by
  intro pins s σ H v u Q I r h
  exact wpAny_assign_Name (store_ok I hN hi hx r (fun s' I' => ⟨_, H, I', h⟩) hf)
def gNil : TGs := fun vs σ H Q => vs = [] ∧ Q σ H
def gCons (t : TG) (u : TGs) : TGs := fun vs σ H Q => ∃ v r, vs = v :: r ∧ t v σ H fun σ' H' => u r σ' H' Q
theorem pgs_nil : PGs X [] gNil := by
  intro pins s σ H vs us Q I r h
  obtain ⟨e, h⟩ := h
  subst e
  cases r
  exact assignInOrder_nil ⟨σ, H, I, h⟩
theorem pgs_cons {e : Expr} {es : List Expr} {t : TG} {u : TGs} (h1 : PG X e t) (h2 : PGs X es u)
    (hs : (assignEach (e :: es) X.env).map (·.2) = assign e X.env :: (assignEach es X.env).map (·.2) := by rfl) : PGs X (e :: es) (gCons t u) := by
  intro pins s σ H vs us Q I r h
  obtain ⟨v, vr, e1, h⟩ := h
  subst e1
  cases r with
  | cons r rr =>
    rw [hs]
    refine assignInOrder_cons (thn (h1 pins s σ H _ _ _ I r h) fun _ s1 ⟨σ1, H1, I1, q1⟩ => ?_)
    exact h2 pins s1 σ1 H1 _ _ Q I1 rr q1
/-- (a, b, ..) = a tuple of that length -/
def gTup (K : PySem.W.Frag) (n : Nat) (t : TGs) : TG := fun v σ H Q => ∃ a xs, v = .ref a ∧ SqT K H a xs ∧ xs.length = n ∧ t xs σ H Q
theorem pg_tup {es : List Expr} {k : Nat} {t : TGs} {n : Nat} (hc : X.calm = true) (h : PGs X es t)
    (hn : (assignEach es X.env).length = n := by rfl) (hst : (assignEach es X.env).findIdx? (·.1) = none := by rfl) : PG X (.Tuple es k pos) (gTup X.K n t) := by
  intro pins s σ H v u Q I r hw
  obtain ⟨a, xs, e1, hq, hl, hw⟩ := hw
  subst e1
  cases r
  obtain ⟨its, rv, ht, hz⟩ := I.tuple hq
  refine assign_Tuple_tuple (I.ok.hd hc) ht (by simp [hn, ← hl, rv.length]) hst fun h' hx => ?_
  have I1 : Inv X pins σ H { s with heap := h' } := I.kept (t' := s.toks) fun b o e => hx b o (Nat.ne_of_lt (Heap.lt_size e)) e
  exact h pins _ σ H xs _ Q I1 (by simpa using rv) hw
/-- o[i] = .. -/
def gSub (to ti : TE) (t : TSet) : TG := fun v σ H Q => to σ H fun o H1 => ti σ H1 fun i H2 => t o i v H2 fun H3 => Q σ H3
/-- target = value -/
def tAsg (te : TE) (g : TG) : TS := fun D σ H => te σ H fun x H1 => g x σ H1 D.nx
/-- name = value -/
theorem ps_set {i : Nat} {x : Str} {e : Expr} {te : TE} {pos' : Pos} (hN : X.N.Nodup) (hi : X.N[i]? = some x) (hx : Loc X.env.scope x) (he : PE X e te) (hs : swapsWith e (some (.Name x pos')) pos.line X.env = pure false := by rfl) (hf : X.fn x = true ∨ X.env.scope.names.lookup x = some .local := by first | exact .inl rfl | exact .inr rfl | assumption) :
    PS X (.Assign [.Name x pos'] e pos) (tAsg te (gName i)) := by
  intro pins s σ H D I h
  refine wpAny_Assign_Name (thn (he pins s σ H _ I h) fun v s1 ⟨y, H1, I1, r1, q1⟩ => ?_) hs
  exact store_ok I1 hN hi hx r1 (fun s2 I2 => ⟨_, H1, I2, q1⟩) hf
/-- a, b = x, y with plain local names: stored from the right; the pair itself is not tracked (the opening rows as in PyProof/Rows/TupAssign.lean:23) -/
def tPar (i j : Nat) (ta : TA) : TS := fun D σ H => ta σ H fun vs H1 => ∃ v w, vs = [v, w] ∧ D.nx ((σ.set i (some v)).set j (some w)) H1
/-- name op= e -/
def tAug (i : Nat) (te : TE) (ti : TIp) : TS := fun D σ H => ∃ x, σ[i]? = some (some x) ∧ te σ H fun y H1 => ti x y H1 fun z H2 => D.nx (σ.set i (some z)) H2
/-- o[i] op= e -/
def tAugS (to ti te : TE) (tget : V → V → Hp → VK → Prop) (tip : TIp) (tset : TSet) : TS := fun D σ H => to σ H fun o H1 => ti σ H1 fun i H2 => tget o i H2 fun x H3 => te σ H3 fun y H4 => tip x y H4 fun z H5 => tset o i z H5 fun H6 => D.nx σ H6
/-- o[i], by values -/
def PGet (X : Cx) (t : V → V → Hp → VK → Prop) : Prop :=
  ∀ (pins : List (Addr × Obj)) (s : Shared) (σ : St) (H : Hp) (o i : V) (ov iv : Value) (Q : VK), Inv X pins σ H s → RelV o ov → RelV i iv → t o i H Q →
    wpAny (model X.prog X.w) X.A (getItem ov iv) (EP X pins σ Q) X.xe s
/-- ints -/
def ipI (f : Int → Int → Int) : TIp := fun x y H Q => ∃ i j, x = .int i ∧ y = .int j ∧ Q (.int (f i j)) H
end

/-! ### while -/
section
variable {X : Cx} {pos : Pos}
/-- the invariant W with its measure -/
def tWhile (c : TT) (tb : TS) : TS := fun D σ H => ∃ W : Nat → St → Hp → Prop, (∃ m, W m σ H) ∧ ∀ m σ H, W m σ H →
  c σ H fun b H1 => if b = true then ∃ N : St → Hp → Prop, (∀ σ' H', N σ' H' → ∃ m', m' < m ∧ W m' σ' H') ∧ tb { D with nx := N, ct := N, bk := D.nx } σ H1 else D.nx σ H1
end

/-! ### what a loop or a comprehension walks -/
/-- at turn i: it yields x (the heap may grow), or it stops -/
structure It where
  go : Nat → Hp → Prop
  yld : Nat → Hp → V → Hp → Prop
  stop : Nat → Hp → Prop
/-- the iterator's own objects may turn: they are not the frame's, not pinned, younger than the entry (or a comprehension's own) -/
def FpOk (X : Cx) (pins : List (Addr × Obj)) (H : Hp) (b : Addr) : Prop :=
  H b = none ∧ b ≠ X.env.locals ∧ b ∉ X.fs ∧ (b ∈ X.ex ∨ X.s₀.heap.objs.size ≤ b) ∧ (∀ x c, X.env.cells.lookup x = some c → c ≠ b) ∧ ∀ p ∈ X.pn ++ pins, p.1 ≠ b
theorem Inv.fpOk {X : Cx} {pins : List (Addr × Obj)} {σ : St} {H H' : Hp} {s : Shared} {b : Addr} (I : Inv X pins σ H s) (hb : s.heap.objs.size ≤ b) (hn : H' b = none) : FpOk X pins H' b := by
  refine ⟨hn, Nat.ne_of_gt (Nat.lt_of_lt_of_le I.lt hb), I.nofs hb, .inr (Nat.le_trans I.sz hb), fun x c e z => ?_, fun p hp z => ?_⟩
  · obtain ⟨v, q⟩ := I.cell x c e
    exact absurd (Nat.lt_of_lt_of_le q.lt (by rw [z]; exact hb)) (Nat.lt_irrefl _)
  · exact absurd (Nat.lt_of_lt_of_le (Heap.lt_size (I.pin p hp).1) (by rw [z]; exact hb)) (Nat.lt_irrefl _)
structure Turn (P : Program) (w : World) (K : PySem.W.Frag) (tg : Expr) (J : It) (fp : List Addr) (it : Addr) (tn : Nat → Heap → Prop) : Prop where
  mem : it ∈ fp
  obj : ∀ i h, tn i h → ∀ b ∈ fp, ∃ o, h.get? b = some o ∧ ∀ v, o.data ≠ .cell v
  keep : ∀ i h h', tn i h → (∀ b ∈ fp, ∀ o, h.get? b = some o → h'.get? b = some o) → tn i h'
  item : ∀ (X : Cx), X.prog = P → X.w = w → X.K = K → X.calm = true → ∀ (i : Nat) (pins : List (Addr × Obj)) (s : Shared) (σ : St) (H : Hp) (E : Value → Shared → Prop), Inv X pins σ H s → (∀ b ∈ fp, FpOk X pins H b) → tn i s.heap → J.go i H →
    wpAny (model P w) X.A (pyNext (.ref it)) (fun r s1 => ∃ u, r = some u ∧
      wpAny (model P w) X.A (letOwnedTupleGo tg (.ref it) u) (fun _ s2 => ∃ x H', Inv X pins σ H' s2 ∧ RelV x u ∧ J.yld i H x H' ∧ tn (i + 1) s2.heap ∧ ∀ b ∈ fp, H' b = none) E s1) E s
  done : ∀ (X : Cx), X.prog = P → X.w = w → X.K = K → X.calm = true → ∀ (i : Nat) (pins : List (Addr × Obj)) (s : Shared) (σ : St) (H : Hp) (E : Value → Shared → Prop), Inv X pins σ H s → (∀ b ∈ fp, FpOk X pins H b) → tn i s.heap → J.stop i H →
    wpAny (model P w) X.A (pyNext (.ref it)) (fun r s1 => r = none ∧ Inv X pins σ H s1) E s
  self : ∀ (A : Around) (i : Nat) (s : Shared) (Q : Value → Shared → Prop) (E : Value → Shared → Prop), tn i s.heap → Q (.ref it) s → wpAny (model P w) A (pyIter (.ref it)) Q E s
abbrev TI := St → Hp → (It → Hp → Prop) → Prop
/-- an iterator has come -/
def PIE (X : Cx) (pins : List (Addr × Obj)) (σ : St) (tg : Expr) (R : It → Hp → Prop) (itv : Value) (s2 : Shared) : Prop :=
  ∃ (it : Addr) (fp : List Addr) (tn : Nat → Heap → Prop) (J : It) (H' : Hp), itv = .ref it ∧ Inv X pins σ H' s2 ∧ Turn X.prog X.w X.K tg J fp it tn ∧ tn 0 s2.heap ∧ (∀ b ∈ fp, FpOk X pins H' b) ∧ R J H'
def PI (X : Cx) (tg iter : Expr) (wi : TI) : Prop :=
  ∀ (pins : List (Addr × Obj)) (s : Shared) (σ : St) (H : Hp) (R : It → Hp → Prop), Inv X pins σ H s → wi σ H R →
    wpAny (model X.prog X.w) X.A (eval iter X.env) (fun v s1 => wpAny (model X.prog X.w) X.A (pyIter v) (PIE X pins σ tg R) X.xe s1) X.xe s

/-- the step ahead of the store is nothing for an iterator that keeps no tuple -/
theorem go_of {M : Model} {A : Around} {E : Value → Shared → Prop} {s : Shared} {tg : Expr} {it : Addr} {u : Value} {o : Obj} {n : String} {vs : Array Value} {Q : Unit → Shared → Prop} (ho : s.heap.get? it = some o) (hc : o.cls = .type n) (hd : o.data = .fields vs)
    (hn : ["enumerate", "zip", "dict_itemiterator", "dict_reverseitemiterator", "odict_iterator", "itertools.zip_longest", "itertools.pairwise"].contains n = false) (hQ : Q () s) : wpAny M A (letOwnedTupleGo tg (.ref it) u) Q E s := by
  unfold letOwnedTupleGo
  cases tg <;> first
    | exact wpAny_pure hQ
    | (cases u <;> first
        | exact wpAny_pure hQ
        | (refine wpAny_bind (wpAny_load ho ?_)
           rw [hc, hd]
           show wpAny M A (if (["enumerate", "zip", "dict_itemiterator", "dict_reverseitemiterator", "odict_iterator", "itertools.zip_longest", "itertools.pairwise"].contains n && vs[0]? == some (rawInt _)) = true then _ else _) Q E s
           rw [if_neg (by intro h; rw [hn, Bool.false_and] at h; cases h)]
           exact wpAny_pure hQ))

/-- the list at a, as it stands at each turn (a loop may append to it) -/
def Itl (K : PySem.W.Frag) (a : Addr) : It :=
  ⟨fun i H => ∃ xs x, SqL K H a xs ∧ xs[i]? = some x, fun i H x H' => H' = H ∧ ∀ xs, SqL K H a xs → xs[i]? = some x, fun i H => ∃ xs, SqL K H a xs ∧ xs.length ≤ i⟩
def Itt (K : PySem.W.Frag) (a : Addr) : It :=
  ⟨fun i H => ∃ xs x, SqT K H a xs ∧ xs[i]? = some x, fun i H x H' => H' = H ∧ ∀ xs, SqT K H a xs → xs[i]? = some x, fun i H => ∃ xs, SqT K H a xs ∧ xs.length ≤ i⟩
/-- lo, lo + 1, .. (n of them) -/
def Itr (lo : Int) (n : Nat) : It := ⟨fun i _ => i < n, fun i H x H' => H' = H ∧ x = .int (lo + i), fun i _ => n ≤ i⟩
theorem turn_list {P : Program} {w : World} {K : PySem.W.Frag} {tg : Expr} (a it : Addr) : Turn P w K tg (Itl K a) [it] it (fun i h => h.IsListIter it a i) where
  mem := by simp
  obj := fun i h st b hb => by
    have e : b = it := by simpa using hb
    subst e
    obtain ⟨o, e, c, d⟩ := st
    exact ⟨o, e, fun v z => by rw [d] at z; cases z⟩
  keep := fun i h h' st k => st.at fun o e => k it (by simp) o e
  item := by
    intro X hP hw hK hc i pins s σ H E I hf st hg
    subst hP hw hK
    obtain ⟨xs, x, hq, hx⟩ := hg
    obtain ⟨its, rv, p, hz⟩ := I.list hq
    obtain ⟨u, hu, ru⟩ := rv.get hx
    obtain ⟨f0, f1, f2, f3, f4, f5⟩ := hf it (by simp)
    refine wpAny_pyNext_list_item st p.isList (x := u) (by simpa using hu) fun h' st' sb => ?_
    have I1 : Inv X pins σ H { s with heap := h' } := I.turned (t' := s.toks) (fun b o hb e => (sb.2 b hb).trans e) f0 f1 f3 f4 f5
    obtain ⟨o, e, c, d⟩ := id st'
    exact ⟨u, rfl, go_of (s := { s with heap := h' }) e c d (by decide) ⟨x, H, I1, ru, ⟨rfl, fun ys hy => by rw [I.list_inj hy hq]; exact hx⟩, st', fun b hb => (hf b hb).1⟩⟩
  done := by
    intro X hP hw hK hc i pins s σ H E I hf st hg
    subst hP hw hK
    obtain ⟨xs, hq, hx⟩ := hg
    obtain ⟨its, rv, p, hz⟩ := I.list hq
    obtain ⟨f0, f1, f2, f3, f4, f5⟩ := hf it (by simp)
    have hl := rv.length
    exact wpAny_pyNext_list_end (I.ok.hd hc) st p.isList (by simp; omega) fun h' eb => ⟨rfl, I.turned (t' := s.toks) (fun b o hb e => eb b o hb e) f0 f1 f3 f4 f5⟩
  self := fun _ _ _ _ _ st h => wpAny_pyIter_listiter st h
theorem turn_tuple {P : Program} {w : World} {K : PySem.W.Frag} {tg : Expr} (a it : Addr) : Turn P w K tg (Itt K a) [it] it (fun i h => h.IsTupleIter it a i) where
  mem := by simp
  obj := fun i h st b hb => by
    have e : b = it := by simpa using hb
    subst e
    obtain ⟨o, e, c, d⟩ := st
    exact ⟨o, e, fun v z => by rw [d] at z; cases z⟩
  keep := fun i h h' st k => st.at fun o e => k it (by simp) o e
  item := by
    intro X hP hw hK hc i pins s σ H E I hf st hg
    subst hP hw hK
    obtain ⟨xs, x, hq, hx⟩ := hg
    obtain ⟨its, rv, p, hz⟩ := I.tuple hq
    obtain ⟨u, hu, ru⟩ := rv.get hx
    obtain ⟨f0, f1, f2, f3, f4, f5⟩ := hf it (by simp)
    refine wpAny_pyNext_tuple_item st (show s.heap.IsTuple a its.toArray from p) (x := u) (by simpa using hu) fun h' st' sb => ?_
    have I1 : Inv X pins σ H { s with heap := h' } := I.turned (t' := s.toks) (fun b o hb e => (sb.2 b hb).trans e) f0 f1 f3 f4 f5
    obtain ⟨o, e, c, d⟩ := id st'
    exact ⟨u, rfl, go_of (s := { s with heap := h' }) e c d (by decide) ⟨x, H, I1, ru, ⟨rfl, fun ys hy => by rw [I.tuple_inj hy hq]; exact hx⟩, st', fun b hb => (hf b hb).1⟩⟩
  done := by
    intro X hP hw hK hc i pins s σ H E I hf st hg
    subst hP hw hK
    obtain ⟨xs, hq, hx⟩ := hg
    obtain ⟨its, rv, p, hz⟩ := I.tuple hq
    obtain ⟨f0, f1, f2, f3, f4, f5⟩ := hf it (by simp)
    have hl := rv.length
    exact wpAny_pyNext_tuple_end (I.ok.hd hc) st (show s.heap.IsTuple a its.toArray from p) (by simp; omega) fun h' eb => ⟨rfl, I.turned (t' := s.toks) (fun b o hb e => eb b o hb e) f0 f1 f3 f4 f5⟩
  self := fun _ _ _ _ _ st h => wpAny_pyIter_tupleiter st h
theorem turn_range {P : Program} {w : World} {K : PySem.W.Frag} {tg : Expr} (it : Addr) (lo : Int) (n : Nat) : Turn P w K tg (Itr lo n) [it] it (fun i h => IsRangeIter h it (lo + (i : Nat) * 1) ((n : Int) - (i : Nat)) 1) where
  mem := by simp
  obj := fun i h st b hb => by
    have e : b = it := by simpa using hb
    subst e
    exact ⟨_, st, fun v z => by
      have z' : Data.fields _ = Data.cell v := z
      cases z'⟩
  keep := fun i h h' st k => k it (by simp) _ st
  item := by
    intro X hP hw hK hc i pins s σ H E I hf st hg
    subst hP hw hK
    obtain ⟨f0, f1, f2, f3, f4, f5⟩ := hf it (by simp)
    have W := Walks.range (prog := X.prog) (w := X.w) (I.ok.hd hc) it lo 1 n
    refine W.item i s _ _ hg st fun v h' tk hv st' kk => ?_
    obtain ⟨t, rfl⟩ := hv
    have I1 : Inv X pins σ H { s with heap := h', toks := tk } := I.turned (fun b o hb e => kk b o (by simpa using hb) e) f0 f1 f3 f4 f5
    refine ⟨_, rfl, go_of (s := { s with heap := h', toks := tk }) (n := "range_iterator") st' rfl rfl (by decide) ⟨.int (lo + i), H, I1, ⟨t, ?_⟩, ⟨rfl, rfl⟩, st', fun b hb => (hf b hb).1⟩⟩
    rw [Int.mul_one]
  done := by
    intro X hP hw hK hc i pins s σ H E I hf st hg
    subst hP hw hK
    obtain ⟨f0, f1, f2, f3, f4, f5⟩ := hf it (by simp)
    exact wpAny_pyNext_range_end (I.ok.hd hc) st (by have : n ≤ i := hg; omega) fun h' eb => ⟨rfl, I.turned (t' := s.toks) (fun b o hb e => eb b o hb e) f0 f1 f3 f4 f5⟩
  self := fun _ _ _ _ _ st h => wpAny_pyIter_rangeiter st h
end L2

namespace L2
open PySem PySem.Spec PyProof.Rows
section
variable {X : Cx} {tg : Expr}
def iList (K : PySem.W.Frag) (tl : TE) : TI := fun σ H R => tl σ H fun x H1 => ∃ a, x = .ref a ∧ (∃ xs, SqL K H1 a xs) ∧ R (Itl K a) H1
def iTup (K : PySem.W.Frag) (tl : TE) : TI := fun σ H R => tl σ H fun x H1 => ∃ a, x = .ref a ∧ (∃ xs, SqT K H1 a xs) ∧ R (Itt K a) H1
theorem pi_list {l : Expr} {tl : TE} (hl : PE X l tl) : PI X tg l (iList X.K tl) := by
  intro pins s σ H R I h
  refine thn (hl pins s σ H _ I h) fun v s1 ⟨x, H1, I1, r1, q1⟩ => ?_
  obtain ⟨a, e, ⟨xs, hq⟩, q⟩ := q1
  subst e
  cases r1
  obtain ⟨its, rv, p, hz⟩ := I1.list hq
  refine wpAny_pyIter_list p.isList ?_
  refine ⟨s1.heap.objs.size, [s1.heap.objs.size], _, _, H1, rfl, I1.kept (t' := s1.toks) fun b o e => Heap.get?_push_of_some _ e, turn_list a _, ⟨_, Heap.get?_push_size _ rfl, rfl, rfl⟩, fun b hb => ?_, q⟩
  have e : b = s1.heap.objs.size := by simpa using hb
  subst e
  exact I1.fpOk (Nat.le_refl _) (I1.hok.fresh (Nat.le_refl _))
theorem pi_tup {l : Expr} {tl : TE} (hl : PE X l tl) : PI X tg l (iTup X.K tl) := by
  intro pins s σ H R I h
  refine thn (hl pins s σ H _ I h) fun v s1 ⟨x, H1, I1, r1, q1⟩ => ?_
  obtain ⟨a, e, ⟨xs, hq⟩, q⟩ := q1
  subst e
  cases r1
  obtain ⟨its, rv, p, hz⟩ := I1.tuple hq
  refine wpAny_pyIter_tuple (show s1.heap.IsTuple a its.toArray from p) ?_
  refine ⟨s1.heap.objs.size, [s1.heap.objs.size], _, _, H1, rfl, I1.kept (t' := s1.toks) fun b o e => Heap.get?_push_of_some _ e, turn_tuple a _, ⟨_, Heap.get?_push_size _ rfl, rfl, rfl⟩, fun b hb => ?_, q⟩
  have e : b = s1.heap.objs.size := by simpa using hb
  subst e
  exact I1.fpOk (Nat.le_refl _) (I1.hok.fresh (Nat.le_refl _))
/-- a range object just made, walked -/
theorem range_it {pins : List (Addr × Obj)} {σ : St} {H : Hp} {s : Shared} {R : It → Hp → Prop} {E : Value → Shared → Prop} {lo hi : Int} {t u v : Tok} {tk : Nat} (I : Inv X pins σ H s) (h1 : -(2 ^ 62) ≤ lo) (h2 : lo < 2 ^ 62) (h3 : -(2 ^ 62) ≤ hi) (h4 : hi < 2 ^ 62)
    (q : R (Itr lo (hi - lo).toNat) H) : wpAny (model X.prog X.w) X.A (pyIter (.ref s.heap.objs.size)) (PIE X pins σ tg R) E { s with heap := s.heap.push { cls := .type "range", data := .fields #[.int lo t, .int hi u, .int 1 v] }, toks := tk } := by
  refine wpAny_pyIter_range (IsRange.new ..) (small_one h1 h2 h3 h4) ?_
  have I1 : Inv X pins σ H { s with heap := s.heap.push { cls := .type "range", data := .fields #[.int lo t, .int hi u, .int 1 v] }, toks := tk } := I.kept fun b o e => Heap.get?_push_of_some _ e
  refine ⟨(s.heap.push { cls := .type "range", data := .fields #[.int lo t, .int hi u, .int 1 v] }).objs.size, [(s.heap.push { cls := .type "range", data := .fields #[.int lo t, .int hi u, .int 1 v] }).objs.size], _, _, H, rfl,
    I1.kept (t' := tk) fun b o e => Heap.get?_push_of_some _ e, turn_range _ lo (hi - lo).toNat, ?_, fun b hb => ?_, q⟩
  · have e1 : lo + ((0 : Nat) : Int) * 1 = lo := by simp
    have e2 : (((hi - lo).toNat : Nat) : Int) - ((0 : Nat) : Int) = Builtin.Range.rangeSize lo hi 1 := by rw [rangeSize_one]; split <;> omega
    show IsRangeIter _ _ (lo + ((0 : Nat) : Int) * 1) ((((hi - lo).toNat : Nat) : Int) - ((0 : Nat) : Int)) 1
    rw [e1, e2]
    exact Heap.get?_push_size _ rfl
  · have e : b = (s.heap.push { cls := .type "range", data := .fields #[.int lo t, .int hi u, .int 1 v] }).objs.size := by simpa using hb
    subst e
    exact I1.fpOk (Nat.le_refl _) (I1.hok.fresh (Nat.le_refl _))
def iRng1 (ta : TA) : TI := fun σ H R => ta σ H fun vs H1 => ∃ j : Int, vs = [.int j] ∧ -(2 ^ 62) ≤ j ∧ j < 2 ^ 62 ∧ R (Itr 0 j.toNat) H1
def iRng2 (ta : TA) : TI := fun σ H R => ta σ H fun vs H1 => ∃ i j : Int, vs = [.int i, .int j] ∧ (-(2 ^ 62) ≤ i ∧ i < 2 ^ 62 ∧ -(2 ^ 62) ≤ j ∧ j < 2 ^ 62) ∧ R (Itr i (j - i).toNat) H1
theorem pi_range1 {a : Expr} {ta : TA} {p pos : Pos} (hg : Gl X "range") (hm : X.mg "range" = none) (ha : PA X [a] ta) (hs : starEach [a] X.env = [(false, eval a X.env)] := by rfl) : PI X tg (.Call (.Name "range" p) [a] [] pos) (iRng1 ta) := by
  intro pins s σ H R I h
  refine Call_ (ld_blt I hg hm boot_range (PyProof.Rows.callWith_type1 (thn (ha pos pins s σ H _ I h) fun us s1 ⟨vs, H1, I1, r1, q1⟩ => ?_) hs rfl))
  obtain ⟨j, e, q1, q2, q⟩ := q1
  subst e
  cases r1 with
  | cons r rr =>
    cases rr
    obtain ⟨t, rfl⟩ := r
    exact call_range_1 (range_it I1 (by omega) (by omega) q1 q2 (by simpa using q))

/-! ### for -/
/-- W: the invariant by the turn and a measure; N: what the body is to reach -/
def tFor (wi : TI) (g : TG) (tb : TS) : TS := fun D σ H => wi σ H fun J H1 => ∃ W : Nat → Nat → St → Hp → Prop, (∃ m, W 0 m σ H1) ∧ ∀ i m σ H, W i m σ H →
  (J.stop i H ∧ D.nx σ H) ∨ (J.go i H ∧ ∃ N : St → Hp → Prop, (∀ σ' H', N σ' H' → ∃ m', m' < m ∧ W (i + 1) m' σ' H') ∧ ∀ x H', J.yld i H x H' → g x σ H' fun σ2 H2 => tb { D with nx := N, ct := N, bk := D.nx } σ2 H2)
/-- the records at fp as they stand -/
def pinsAt (fp : List Addr) (h : Heap) : List (Addr × Obj) := fp.filterMap fun b => (h.get? b).map fun o => (b, o)
theorem mem_pinsAt {fp : List Addr} {h : Heap} {b : Addr} {o : Obj} (hb : b ∈ fp) (e : h.get? b = some o) : (b, o) ∈ pinsAt fp h := List.mem_filterMap.mpr ⟨b, hb, by rw [e]; rfl⟩
theorem of_pinsAt {fp : List Addr} {h : Heap} {p : Addr × Obj} (hp : p ∈ pinsAt fp h) : p.1 ∈ fp ∧ h.get? p.1 = some p.2 := by
  obtain ⟨b, hb, e⟩ := List.mem_filterMap.mp hp
  cases q : h.get? b with
  | none => rw [q] at e; cases e
  | some o =>
    rw [q] at e
    have e' : (b, o) = p := Option.some.inj e
    subst e'
    exact ⟨hb, q⟩
theorem Inv.pinned {pins : List (Addr × Obj)} {σ : St} {H : Hp} {s : Shared} {fp : List Addr} (I : Inv X pins σ H s) (hf : ∀ b ∈ fp, FpOk X pins H b) (ho : ∀ b ∈ fp, ∃ o, s.heap.get? b = some o ∧ ∀ v, o.data ≠ .cell v) : Inv X (pins ++ pinsAt fp s.heap) σ H s :=
  I.pins_of fun p hp => (List.mem_append.mp hp).elim (fun z => I.pin p (List.mem_append_right _ z)) fun z => by
    obtain ⟨hb, e⟩ := of_pinsAt z
    obtain ⟨f0, f1, f2, _⟩ := hf p.1 hb
    obtain ⟨o, e', d⟩ := ho p.1 hb
    rw [e] at e'; cases e'
    exact ⟨e, f0, f1, f2, d⟩
theorem Inv.unpinned {pins pl : List (Addr × Obj)} {σ : St} {H : Hp} {s : Shared} (I : Inv X (pins ++ pl) σ H s) : Inv X pins σ H s := I.pins_of fun p hp => I.pin p (List.mem_append_right _ (List.mem_append_left _ hp))
theorem ps_for {iter : Expr} {body : List Stmt} {wi : TI} {g : TG} {tb : TS} {pos : Pos} (hp : PassesOwn (model X.prog X.w) X.A X.env X.xe) (hc : X.calm = true) (hi : PI X tg iter wi) (hg : PG X tg g) (hb : PSs X body tb)
    (hs : ∀ x, foldedSetIterable iter X.env x = pure x := by intro _; rfl) : PS X (.For tg iter body [] pos) (tFor wi g tb) := by
  intro pins s σ H D I h
  refine wpAny_For (thn (hi pins s σ H _ I h) fun v s1 h1 => thn h1 fun itv s2 h2 => ?_) hs
  obtain ⟨it, fp, tn, J, H2, e, I2, T, st2, f2, W, ⟨m0, w0⟩, turn⟩ := h2
  subst e
  -- what stays true of the iterator's objects through the loop
  have stat : ∀ {H' : Hp}, (∀ b ∈ fp, H' b = none) → ∀ b ∈ fp, FpOk X pins H' b := fun hn b hb => ⟨hn b hb, (f2 b hb).2⟩
  refine codeAny_forLoop_any (fun n s' => ∃ i σ' H', Inv X pins σ' H' s' ∧ tn i s'.heap ∧ (∀ b ∈ fp, H' b = none) ∧ W i n σ' H') ?_ m0 ⟨0, σ, H2, I2, st2, fun b hb => (f2 b hb).1, w0⟩
  rintro n s3 ⟨i, σ3, H3, I3, st3, fr3, w3⟩
  rcases turn i n σ3 H3 w3 with ⟨stop, qn⟩ | ⟨go, N, hN, step⟩
  · refine wpAny_passesOwn hp (thn (T.done X rfl rfl rfl hc i pins s3 σ3 H3 X.xe I3 (stat fr3) st3 stop) fun r s4 ⟨hr, I4⟩ => ?_)
    subst hr
    exact wpAny_execs_nil ⟨σ3, H3, I4, qn⟩
  · refine wpAny_passesOwn hp (thn (T.item X rfl rfl rfl hc i pins s3 σ3 H3 X.xe I3 (stat fr3) st3 go) fun r s4 ⟨u, hr, h4⟩ => ?_)
    subst hr
    refine wpAny_passesOwn hp (thn h4 fun _ s5 ⟨x, H5, I5, r5, y5, st5, fr5⟩ => ?_)
    have I5' := I5.pinned (stat fr5) (T.obj _ _ st5)
    refine wpAny_passesOwn hp (thn (hg _ s5 σ3 H5 x u _ I5' r5 (step x H5 y5)) fun _ s6 ⟨σ6, H6, I6, q6⟩ => ?_)
    refine wpAny_passesOwn hp (thn (hb _ s6 σ6 H6 _ I6 q6) fun f s7 q7 => ?_)
    have again : ∀ {σ7 : St} {H7 : Hp}, Inv X (pins ++ pinsAt fp s5.heap) σ7 H7 s7 → N σ7 H7 → ∃ m, m < n ∧ ∃ i σ' H', Inv X pins σ' H' s7 ∧ tn i s7.heap ∧ (∀ b ∈ fp, H' b = none) ∧ W i m σ' H' := fun {σ7 H7} I7 n7 => by
      obtain ⟨m', hm, w7⟩ := hN σ7 H7 n7
      refine ⟨m', hm, i + 1, σ7, H7, I7.unpinned, T.keep _ _ _ st5 fun b hb o e => (I7.pin (b, o) (List.mem_append_right _ (List.mem_append_right _ (mem_pinsAt hb e)))).1, fun b hb => ?_, w7⟩
      obtain ⟨o, e, d⟩ := T.obj _ _ st5 b hb
      exact (I7.pin (b, o) (List.mem_append_right _ (List.mem_append_right _ (mem_pinsAt hb e)))).2.1
    cases f with
    | next => obtain ⟨σ7, H7, I7, n7⟩ := q7; exact again I7 n7
    | cont => obtain ⟨σ7, H7, I7, n7⟩ := q7; exact again I7 n7
    | brk => obtain ⟨σ7, H7, I7, q7⟩ := q7; exact ⟨σ7, H7, I7.unpinned, q7⟩
    | ret v => obtain ⟨x7, σ7, H7, I7, r7, q7⟩ := q7; exact ⟨x7, σ7, H7, I7.unpinned, r7, q7⟩
end

/-! ### the forms one uses -/
/-- over a list that the body leaves as it is -/
theorem for_list {K : PySem.W.Frag} {a : Addr} {xs : List V} {g : TG} {tb : TS} {D : Ends} {σ : St} {H : Hp} (Pv : Nat → St → Hp → Prop) (h0 : Pv 0 σ H) (hl : ∀ i σ H, i ≤ xs.length → Pv i σ H → SqL K H a xs)
    (hs : ∀ i x σ H, xs[i]? = some x → Pv i σ H → g x σ H fun σ2 H2 => tb { D with nx := Pv (i + 1), ct := Pv (i + 1), bk := D.nx } σ2 H2) (hd : ∀ σ H, Pv xs.length σ H → D.nx σ H) :
    ∃ W : Nat → Nat → St → Hp → Prop, (∃ m, W 0 m σ H) ∧ ∀ i m σ H, W i m σ H →
      ((Itl K a).stop i H ∧ D.nx σ H) ∨ ((Itl K a).go i H ∧ ∃ N : St → Hp → Prop, (∀ σ' H', N σ' H' → ∃ m', m' < m ∧ W (i + 1) m' σ' H') ∧ ∀ x H', (Itl K a).yld i H x H' → g x σ H' fun σ2 H2 => tb { D with nx := N, ct := N, bk := D.nx } σ2 H2) := by
  refine ⟨fun i m σ H => m = xs.length - i ∧ i ≤ xs.length ∧ Pv i σ H, ⟨xs.length, by simp, Nat.zero_le _, h0⟩, ?_⟩
  rintro i m σ H ⟨rfl, hi, p⟩
  have q := hl i σ H hi p
  by_cases hlt : i < xs.length
  · refine .inr ⟨⟨xs, xs[i], q, by simp [hlt]⟩, Pv (i + 1), fun σ' H' p' => ⟨xs.length - (i + 1), by omega, rfl, hlt, p'⟩, fun x H' y => ?_⟩
    obtain ⟨e, y⟩ := y
    subst e
    exact hs i x σ _ (y xs q) p
  · have e : i = xs.length := by omega
    subst e
    exact .inl ⟨⟨xs, q, Nat.le_refl _⟩, hd σ H p⟩
/-- while, by a word and a measure of the state -/
theorem while_by {c : TT} {tb : TS} {D : Ends} {σ : St} {H : Hp} (Pv : St → Hp → Prop) (μ : St → Hp → Nat) (h0 : Pv σ H)
    (hs : ∀ σ H, Pv σ H → c σ H fun b H1 => if b = true then tb { D with nx := fun σ' H' => Pv σ' H' ∧ μ σ' H' < μ σ H, ct := fun σ' H' => Pv σ' H' ∧ μ σ' H' < μ σ H, bk := D.nx } σ H1 else D.nx σ H1)
    (mono : ∀ σ H Q Q', (∀ b H1, Q b H1 → Q' b H1) → c σ H Q → c σ H Q') : tWhile c tb D σ H := by
  refine ⟨fun m σ H => m = μ σ H ∧ Pv σ H, ⟨_, rfl, h0⟩, ?_⟩
  rintro m σ H ⟨rfl, p⟩
  refine mono σ H _ _ (fun b H1 q => ?_) (hs σ H p)
  cases b with
  | true => exact ⟨_, fun σ' H' ⟨p', l⟩ => ⟨_, l, rfl, p'⟩, q⟩
  | false => exact q
end L2

namespace L2
open PySem PySem.Spec PyProof.Rows

abbrev R2 := V → V → Hp → VK → Prop
/-- a two-place operation on values: f is binaryOp op, inplaceOp op or compareOp op -/
def OpR (X : Cx) (f : Value → Value → Sem Value) (r : R2) : Prop :=
  ∀ (pins : List (Addr × Obj)) (s : Shared) (σ : St) (H : Hp) (x y : V) (v u : Value) (Q : VK), Inv X pins σ H s → RelV x v → RelV y u → r x y H Q →
    wpAny (model X.prog X.w) X.A (f v u) (EP X pins σ Q) X.xe s
/-- a one-place operation -/
def UnR (X : Cx) (f : Value → Sem Value) (r : V → Hp → VK → Prop) : Prop :=
  ∀ (pins : List (Addr × Obj)) (s : Shared) (σ : St) (H : Hp) (x : V) (v : Value) (Q : VK), Inv X pins σ H s → RelV x v → r x H Q →
    wpAny (model X.prog X.w) X.A (f v) (EP X pins σ Q) X.xe s
/-- a call of a value that is known (a builtin, a type) with values -/
def CallR (X : Cx) (f : Value) (r : List V → Hp → VK → Prop) : Prop :=
  ∀ (pins : List (Addr × Obj)) (s : Shared) (σ : St) (H : Hp) (xs : List V) (us : List Value) (Q : VK), Inv X pins σ H s → Vals xs us → r xs H Q →
    wpAny (model X.prog X.w) X.A (call f us) (EP X pins σ Q) X.xe s
/-- a value's truth -/
def TruR (X : Cx) (r : V → Hp → (Bool → Hp → Prop) → Prop) : Prop :=
  ∀ (pins : List (Addr × Obj)) (s : Shared) (σ : St) (H : Hp) (x : V) (v : Value) (Q : Bool → Hp → Prop), Inv X pins σ H s → RelV x v → r x H Q →
    wpAny (model X.prog X.w) X.A (truthy v) (TP X pins σ Q) X.xe s

def tOp (r : R2) (ta tb : TE) : TE := fun σ H Q => ta σ H fun x H1 => tb σ H1 fun y H2 => r x y H2 Q
def tUn (r : V → Hp → VK → Prop) (ta : TE) : TE := fun σ H Q => ta σ H fun x H1 => r x H1 Q
/-- ints in, under C, and a value out -/
def rI (C : Int → Int → Prop) (g : Int → Int → V) : R2 := fun x y H Q => ∃ i j, x = .int i ∧ y = .int j ∧ C i j ∧ Q (g i j) H
def rI0 (g : Int → Int → V) : R2 := fun x y H Q => ∃ i j, x = .int i ∧ y = .int j ∧ Q (g i j) H
def rU (g : Int → V) : V → Hp → VK → Prop := fun x H Q => ∃ i, x = .int i ∧ Q (g i) H

section
variable {X : Cx} {a b c : Expr} {ta tb tc : TE} {pos : Pos}

theorem binT (ha : PE X a ta) (hb : PE X b tb) {pins : List (Addr × Obj)} {s : Shared} {σ : St} {H : Hp} {R : V → V → Hp → Prop} (I : Inv X pins σ H s)
    (h : ta σ H fun x H1 => tb σ H1 fun y H2 => R x y H2) {Q : Value → Shared → Prop} {f : Value → Value → Sem Value}
    (hf : ∀ v u s2 x y H2, Inv X pins σ H2 s2 → RelV x v → RelV y u → R x y H2 → wpAny (model X.prog X.w) X.A (f v u) Q X.xe s2) :
    wpAny (model X.prog X.w) X.A (eval a X.env) (fun v s₁ => wpAny (model X.prog X.w) X.A (eval b X.env) (fun u s₂ => wpAny (model X.prog X.w) X.A (f v u) Q X.xe s₂) X.xe s₁) X.xe s := by
  refine thn (ha pins s σ H _ I h) fun v s1 ⟨x, H1, I1, r1, q1⟩ => ?_
  refine thn (hb pins s1 σ H1 _ I1 q1) fun u s2 ⟨y, H2, I2, r2, q2⟩ => ?_
  exact hf v u s2 x y H2 I2 r1 r2 q2

theorem pe_op {op : Operator} {r : R2} (ho : OpR X (binaryOp op) r) (ha : PE X a ta) (hb : PE X b tb) : PE X (.BinOp a op b pos) (tOp r ta tb) := by
  intro pins s σ H Q I h
  exact wpAny_BinOp (binT ha hb I h fun v u s2 x y H2 I2 rx ry q => ho pins s2 σ H2 x y v u Q I2 rx ry q)
/-- a op= e at a name: the name's slot i -/
theorem augR {op : Operator} {r : R2} (ho : OpR X (inplaceOp op) r) {pins : List (Addr × Obj)} {s : Shared} {σ : St} {H : Hp} {x y : V} {v u : Value} {Q : VK} (I : Inv X pins σ H s)
    (rx : RelV x v) (ry : RelV y u) (q : r x y H Q) : wpAny (model X.prog X.w) X.A (inplaceOp op v u) (EP X pins σ Q) X.xe s := ho pins s σ H x y v u Q I rx ry q

/-! ### ints -/
theorem opI {f : Value → Value → Sem Value} {C : Int → Int → Prop} {g : Int → Int → Int}
    (rule : ∀ (i j : Int) (t u : Tok) (s : Shared) (Q : Value → Shared → Prop) (E : Value → Shared → Prop), C i j → Q (.int (g i j) s.toks) { s with toks := s.toks + 1 } → wpAny (model X.prog X.w) X.A (f (.int i t) (.int j u)) Q E s) :
    OpR X f (rI C fun i j => .int (g i j)) := by
  intro pins s σ H x y v u Q I rx ry h
  obtain ⟨i, j, rfl, rfl, hc, q⟩ := h
  obtain ⟨t, rfl⟩ := rx
  obtain ⟨t', rfl⟩ := ry
  exact rule i j t t' s _ _ hc ⟨.int (g i j), H, I.tok _, ⟨_, rfl⟩, q⟩
theorem opI0 {f : Value → Value → Sem Value} {g : Int → Int → Int}
    (rule : ∀ (i j : Int) (t u : Tok) (s : Shared) (Q : Value → Shared → Prop) (E : Value → Shared → Prop), Q (.int (g i j) s.toks) { s with toks := s.toks + 1 } → wpAny (model X.prog X.w) X.A (f (.int i t) (.int j u)) Q E s) :
    OpR X f (rI0 fun i j => .int (g i j)) := by
  intro pins s σ H x y v u Q I rx ry h
  obtain ⟨i, j, rfl, rfl, q⟩ := h
  obtain ⟨t, rfl⟩ := rx
  obtain ⟨t', rfl⟩ := ry
  exact rule i j t t' s _ _ ⟨.int (g i j), H, I.tok _, ⟨_, rfl⟩, q⟩
theorem opB0 {f : Value → Value → Sem Value} {g : Int → Int → Bool}
    (rule : ∀ (i j : Int) (t u : Tok) (s : Shared) (Q : Value → Shared → Prop) (E : Value → Shared → Prop), Q (.bool (g i j)) s → wpAny (model X.prog X.w) X.A (f (.int i t) (.int j u)) Q E s) :
    OpR X f (rI0 fun i j => .bl (g i j)) := by
  intro pins s σ H x y v u Q I rx ry h
  obtain ⟨i, j, rfl, rfl, q⟩ := h
  obtain ⟨t, rfl⟩ := rx
  obtain ⟨t', rfl⟩ := ry
  exact rule i j t t' s _ _ ⟨.bl (g i j), H, I, rfl, q⟩

def CDiv (i j : Int) : Prop := 0 < j ∧ j < 1073741824
def CDivN (i j : Int) : Prop := j ≠ 0 ∧ j.natAbs < 1073741824
def CPow (i j : Int) : Prop := 0 ≤ j ∧ j ≤ 1000000 ∧ i.natAbs < 2 ^ 64
def CMul (i j : Int) : Prop := (-(2 ^ 64) < i ∧ i < 2 ^ 64) ∨ (-(2 ^ 64) < j ∧ j < 2 ^ 64)
theorem CMul.ok {i j : Int} (h : CMul i j) : IntMulOk i j := by
  rcases h with ⟨h1, h2⟩ | ⟨h1, h2⟩
  · exact .of_left (intBits_le_64 h1 h2)
  · exact .of_right (intBits_le_64 h1 h2)

theorem op_add : OpR X (binaryOp .Add) (rI0 fun i j => .int (i + j)) := opI0 fun _ _ _ _ _ _ _ q => add_int q
theorem op_sub : OpR X (binaryOp .Sub) (rI0 fun i j => .int (i - j)) := opI0 fun _ _ _ _ _ _ _ q => sub_int q
theorem op_mul : OpR X (binaryOp .Mult) (rI CMul fun i j => .int (i * j)) := opI fun _ _ _ _ _ _ _ hc q => mul_int q hc.ok
/-- // by a positive divisor -/
theorem op_fdiv : OpR X (binaryOp .FloorDiv) (rI CDiv fun i j => .int (i / j)) := opI fun i j _ _ _ _ _ hc q => by
  have h1 : (0 : Int) < j := hc.1
  have h2 : j < 1073741824 := hc.2
  exact floordiv_int (by omega) (by rw [Int.fdiv_eq_ediv_of_nonneg i (by omega)]; exact q) (.inl (PyProof.noPylong_small (by omega)))
/-- % by a positive divisor of any size -/
theorem op_mod : OpR X (binaryOp .Mod) (rI (fun _ j => 0 < j) fun i j => .int (i % j)) := opI fun i j _ _ _ _ _ hc q => by
  have h1 : (0 : Int) < j := hc
  exact mod_int' (by omega) (by rw [Int.fmod_eq_emod_of_nonneg i (by omega)]; exact q)
theorem op_pow : OpR X (binaryOp .Pow) (rI CPow fun i j => .int (i ^ j.toNat)) := opI fun _ _ _ _ _ _ _ hc q => pow_int_small hc.1 hc.2.1 hc.2.2 q



/-! ### bools among ints: n += (a < b) -/
end

/-! ### comparisons -/
/-- the scalars that == tells apart as data does -/
def scal : V → V → Bool
  | .non, .non => true | .non, .int _ => true | .int _, .non => true | .non, .bl _ => true | .bl _, .non => true | .non, .str _ => true | .str _, .non => true
  | .int _, .int _ => true | .bl _, .bl _ => true | .str _, .str _ => true | .byt _, .byt _ => true
  | .int _, .str _ => true | .str _, .int _ => true | .bl _, .str _ => true | .str _, .bl _ => true
  | _, _ => false
def rEq : R2 := fun x y H Q => scal x y = true ∧ Q (.bl (decide (x = y))) H
def rNe : R2 := fun x y H Q => scal x y = true ∧ Q (.bl (!decide (x = y))) H

theorem dec_int {i j : Int} : decide (V.int i = V.int j) = (i == j) := by
  rw [Bool.eq_iff_iff]
  simp
theorem dec_bl {i j : Bool} : decide (V.bl i = V.bl j) = (i == j) := by
  rw [Bool.eq_iff_iff]
  simp
theorem dec_str {i j : Str} : decide (V.str i = V.str j) = (i == j) := by
  rw [Bool.eq_iff_iff]
  simp
theorem dec_byt {i j : Array UInt8} : decide (V.byt i = V.byt j) = (i.toList == j.toList) := by
  rw [Bool.eq_iff_iff]
  cases i
  cases j
  simp

section
variable {X : Cx} {a b c : Expr} {ta tb tc : TE} {pos : Pos}
theorem fin_bl {pins : List (Addr × Obj)} {σ : St} {H : Hp} {s : Shared} {Q : VK} {k k' : Bool} (I : Inv X pins σ H s) (q : Q (.bl k) H) (e : k = k') : EP X pins σ Q (.bool k') s := by
  subst e
  exact ⟨.bl k, H, I, rfl, q⟩
theorem op_eq : OpR X (compareOp .Eq) rEq := by
  intro pins s σ H x y v u Q I rx ry h
  obtain ⟨hs, q⟩ := h
  cases x with
  | non =>
    cases rx
    cases y with
    | non => cases ry; exact PySem.EqNone.eq_none_none (fin_bl I q (by simp))
    | bl j => cases ry; exact PySem.EqNone.eq_none_bool (fin_bl I q (by simp))
    | int j => obtain ⟨t', rfl⟩ := ry; exact PySem.EqNone.eq_none_int (fin_bl I q (by simp))
    | str j => obtain ⟨t', rfl⟩ := ry; exact PySem.EqNone.eq_none_str (fin_bl I q (by simp))
    | _ => exact absurd (show false = true from hs) Bool.false_ne_true
  | bl i =>
    cases rx
    cases y with
    | non => cases ry; exact PySem.EqNone.eq_bool_none (fin_bl I q (by simp))
    | bl j => cases ry; exact eq_bool (fin_bl I q dec_bl)
    | str j => obtain ⟨t', rfl⟩ := ry; exact PySem.EqMixed.eq_bool_str (fin_bl I q (by simp))
    | _ => exact absurd (show false = true from hs) Bool.false_ne_true
  | int i =>
    obtain ⟨t, rfl⟩ := rx
    cases y with
    | non => cases ry; exact PySem.EqNone.eq_int_none (fin_bl I q (by simp))
    | int j => obtain ⟨t', rfl⟩ := ry; exact eq_int (fin_bl I q dec_int)
    | str j => obtain ⟨t', rfl⟩ := ry; exact PySem.EqMixed.eq_int_str (fin_bl I q (by simp))
    | _ => exact absurd (show false = true from hs) Bool.false_ne_true
  | str i =>
    obtain ⟨t, rfl⟩ := rx
    cases y with
    | non => cases ry; exact PySem.EqNone.eq_str_none (fin_bl I q (by simp))
    | bl j => cases ry; exact PySem.EqMixed.eq_str_bool (fin_bl I q (by simp))
    | int j => obtain ⟨t', rfl⟩ := ry; exact PySem.EqMixed.eq_str_int (fin_bl I q (by simp))
    | str j => obtain ⟨t', rfl⟩ := ry; exact eq_str (fin_bl I q dec_str)
    | _ => exact absurd (show false = true from hs) Bool.false_ne_true
  | byt i =>
    obtain ⟨t, rfl⟩ := rx
    cases y with
    | byt j => obtain ⟨t', rfl⟩ := ry; exact PySem.W.eq_bytes (fin_bl I q dec_byt)
    | _ => exact absurd (show false = true from hs) Bool.false_ne_true
  | _ => cases y <;> exact absurd (show false = true from hs) Bool.false_ne_true
theorem op_ne : OpR X (compareOp .NotEq) rNe := by
  intro pins s σ H x y v u Q I rx ry h
  obtain ⟨hs, q⟩ := h
  cases x with
  | non =>
    cases rx
    cases y with
    | non => cases ry; exact PySem.EqNone.ne_none_none (fin_bl I q (by simp))
    | bl j => cases ry; exact PySem.EqNone.ne_none_bool (fin_bl I q (by simp))
    | int j => obtain ⟨t', rfl⟩ := ry; exact PySem.EqNone.ne_none_int (fin_bl I q (by simp))
    | str j => obtain ⟨t', rfl⟩ := ry; exact PySem.EqNone.ne_none_str (fin_bl I q (by simp))
    | _ => exact absurd (show false = true from hs) Bool.false_ne_true
  | bl i =>
    cases rx
    cases y with
    | non => cases ry; exact PySem.EqNone.ne_bool_none (fin_bl I q (by simp))
    | bl j => cases ry; exact ne_bool (fin_bl I q (congrArg not dec_bl))
    | str j => obtain ⟨t', rfl⟩ := ry; exact PySem.EqMixed.ne_bool_str (fin_bl I q (by simp))
    | _ => exact absurd (show false = true from hs) Bool.false_ne_true
  | int i =>
    obtain ⟨t, rfl⟩ := rx
    cases y with
    | non => cases ry; exact PySem.EqNone.ne_int_none (fin_bl I q (by simp))
    | int j => obtain ⟨t', rfl⟩ := ry; exact ne_int (fin_bl I q (congrArg not dec_int))
    | str j => obtain ⟨t', rfl⟩ := ry; exact PySem.EqMixed.ne_int_str (fin_bl I q (by simp))
    | _ => exact absurd (show false = true from hs) Bool.false_ne_true
  | str i =>
    obtain ⟨t, rfl⟩ := rx
    cases y with
    | non => cases ry; exact PySem.EqNone.ne_str_none (fin_bl I q (by simp))
    | bl j => cases ry; exact PySem.EqMixed.ne_str_bool (fin_bl I q (by simp))
    | int j => obtain ⟨t', rfl⟩ := ry; exact PySem.EqMixed.ne_str_int (fin_bl I q (by simp))
    | str j => obtain ⟨t', rfl⟩ := ry; exact ne_str (fin_bl I q (congrArg not dec_str))
    | _ => exact absurd (show false = true from hs) Bool.false_ne_true
  | byt i =>
    obtain ⟨t, rfl⟩ := rx
    cases y with
    | byt j => obtain ⟨t', rfl⟩ := ry; exact PySem.W.ne_bytes (fin_bl I q (congrArg not dec_byt))
    | _ => exact absurd (show false = true from hs) Bool.false_ne_true
  | _ => cases y <;> exact absurd (show false = true from hs) Bool.false_ne_true

theorem op_lt : OpR X (compareOp .Lt) (rI0 fun i j => .bl (decide (i < j))) := opB0 fun _ _ _ _ _ _ _ q => lt_int q
theorem op_le : OpR X (compareOp .LtE) (rI0 fun i j => .bl (decide (i ≤ j))) := opB0 fun _ _ _ _ _ _ _ q => le_int q
theorem op_gt : OpR X (compareOp .Gt) (rI0 fun i j => .bl (decide (j < i))) := opB0 fun _ _ _ _ _ _ _ q => gt_int q
/-- the one string within the other -/
theorem op_in_str : OpR X (compareOp .In) (fun x y H Q => ∃ i j, x = .str i ∧ y = .str j ∧ Q (.bl (!(Builtin.Str.occurrences j i 0 j.length 1).isEmpty)) H) := by
  intro pins s σ H x y v u Q I rx ry h
  obtain ⟨i, j, rfl, rfl, q⟩ := h
  obtain ⟨t, rfl⟩ := rx
  obtain ⟨t', rfl⟩ := ry
  exact in_str (fin_bl I q rfl)

/-- is None, is not None: the right side a value none -/
theorem op_isN : OpR X (compareOp .Is) (fun x y H Q => y = .non ∧ Q (.bl (decide (x = .non))) H) := by
  intro pins s σ H x y v u Q I rx ry h
  obtain ⟨rfl, q⟩ := h
  cases ry
  refine is_none_gen (fin_bl I q ?_)
  cases x <;> first
    | (cases rx; rfl)
    | (obtain ⟨t, rfl⟩ := rx; rfl)

/-- is, is not of two objects that are tracked lists or instances -/
def isObj : HO → Bool
  | .lst _ => true
  | .ins _ _ _ => true
  | _ => false

/-- two rules for one operation: by cases -/
theorem OpR.or {f : Value → Value → Sem Value} {r r' : R2} (h : OpR X f r) (h' : OpR X f r') : OpR X f (fun x y H Q => r x y H Q ∨ r' x y H Q) := by
  intro pins s σ H x y v u Q I rx ry q
  rcases q with q | q
  · exact h pins s σ H x y v u Q I rx ry q
  · exact h' pins s σ H x y v u Q I rx ry q

theorem nomark (b : Expr) {op : CmpOp} (h : op ≠ .In := by decide) (h2 : op ≠ .NotIn := by decide) : behindInMarks op b = false := by
  have e1 : (op == CmpOp.In) = false := by cases op <;> first | rfl | exact absurd rfl h
  have e2 : (op == CmpOp.NotIn) = false := by cases op <;> first | rfl | exact absurd rfl h2
  cases b <;> simp [behindInMarks, e1, e2]
/-- a comparison as a value; hm: nomark b, or (for in, not in) by with_unfolding_all rfl -/
theorem pe_cmpR {op : CmpOp} {r : R2} (ho : OpR X (compareOp op) r) (ha : PE X a ta) (hb : PE X b tb) (hm : behindInMarks op b = false) : PE X (.Compare a [op] [b] pos) (tOp r ta tb) := by
  intro pins s σ H Q I h
  exact wpAny_Compare1 (binT ha hb I h fun v u s2 x y H2 I2 rx ry q => ho pins s2 σ H2 x y v u Q I2 rx ry q) hm
/-- a reading of a value as a test -/
def tTest (t : TE) : TT := fun σ H Q => t σ H fun x H' => ∃ k, x = .bl k ∧ Q k H'
theorem pt_cmpR {op : CmpOp} {r : R2} (ho : OpR X (compareOp op) r) (ha : PE X a ta) (hb : PE X b tb) (hm : behindInMarks op b = false) : PT X (.Compare a [op] [b] pos) (tTest (tOp r ta tb)) := by
  intro pins s σ H Q I h
  refine wpAny_isTrue_Compare1 (thn (ha pins s σ H _ I h) fun v s1 ⟨x, H1, I1, r1, q1⟩ => thn (hb pins s1 σ H1 _ I1 q1) fun u s2 ⟨y, H2, I2, r2, q2⟩ =>
    thn (ho pins s2 σ H2 x y v u _ I2 r1 r2 q2) fun c s3 ⟨z, H3, I3, r3, k, e, q3⟩ => ?_) hm
  subst e
  cases r3
  exact wpAny_truthy_bool ⟨H3, I3, q3⟩
/-- a op1 b op2 c -/
def tChain (r r' : R2) (ta tb tc : TE) : TE := fun σ H Q => ta σ H fun x H1 => tb σ H1 fun y H2 => r x y H2 fun z H3 => ∃ k, z = .bl k ∧
  (if k = true then tc σ H3 fun w' H4 => r' y w' H4 Q else Q (.bl false) H3)
theorem pe_chain {op op' : CmpOp} {r r' : R2} (ho : OpR X (compareOp op) r) (ho' : OpR X (compareOp op') r') (ha : PE X a ta) (hb : PE X b tb) (hc : PE X c tc)
    (hm : lastMarks [op, op'] [b, c] = false := by with_unfolding_all rfl) : PE X (.Compare a [op, op'] [b, c] pos) (tChain r r' ta tb tc) := by
  intro pins s σ H Q I h
  refine Compare_chain (thn (ha pins s σ H _ I h) fun v s1 ⟨x, H1, I1, r1, q1⟩ => chain_link (thn (hb pins s1 σ H1 _ I1 q1) fun u s2 ⟨y, H2, I2, r2, q2⟩ =>
    thn (ho pins s2 σ H2 x y v u _ I2 r1 r2 q2) fun d s3 ⟨z, H3, I3, r3, k, e, q3⟩ => ?_)) hm
  subst e
  cases r3
  refine wpAny_truthy_bool ?_
  cases k with
  | false => exact ite_ff ⟨.bl false, H3, I3, rfl, q3⟩
  | true => exact ite_tt (chain_last (thn (hc pins s3 σ H3 _ I3 q3) fun w' s4 ⟨z', H4, I4, r4, q4⟩ => ho' pins s4 σ H4 y z' u w' Q I4 r2 r4 q4))

/-! ### truth -/
/-- a value's truth by the abstract heap -/
def TruV (K : PySem.W.Frag) (x : V) (H : Hp) (k : Bool) : Prop :=
  match x with
  | .non => k = false
  | .bl b => k = b
  | .int i => k = (i != 0)
  | .str y => y.length ≤ sizeLine ∧ k = ((y.length : Int) != 0)
  | .byt y => y.size ≤ sizeLine ∧ k = ((y.size : Int) != 0)
  | .ref p => (∃ xs, SqL K H p xs ∧ k = !xs.isEmpty) ∨ (∃ xs, SqT K H p xs ∧ k = !xs.isEmpty) ∨ ∃ kvs, H p = some (.dK kvs) ∧ k = !kvs.isEmpty
  | _ => False
theorem isEmpty_kv {κ : Type} {kvs : List (κ × V)} {vs : List (κ × Value)} (r : KV kvs vs) : (!vs.isEmpty) = !kvs.isEmpty := by
  cases r <;> rfl
theorem isEmpty_of {xs : List V} {its : List Value} (r : Vals xs its) : (!its.toArray.isEmpty) = !xs.isEmpty := by
  cases r <;> simp
theorem line63 : (sizeLine : Nat) < 2 ^ 63 := by rw [sizeLine_eq]; decide
theorem tru_ok : TruR X (fun x H Q => ∃ k, TruV X.K x H k ∧ Q k H) := by
  intro pins s σ H x v Q I rx h
  obtain ⟨k, e, q⟩ := h
  have hl := line63
  have hs : sizeLine = 16777216 := sizeLine_eq
  cases x with
  | non =>
    cases rx
    have e' : k = false := e
    subst e'
    exact truthy_none ⟨H, I, q⟩
  | bl b =>
    cases rx
    have e' : k = b := e
    subst e'
    exact wpAny_truthy_bool ⟨H, I, q⟩
  | int i =>
    obtain ⟨t, rfl⟩ := rx
    have e' : k = (i != 0) := e
    subst e'
    exact PySem.P.truthy_int ⟨H, I, q⟩
  | str y =>
    obtain ⟨t, rfl⟩ := rx
    obtain ⟨hy, e'⟩ : y.length ≤ sizeLine ∧ k = ((y.length : Int) != 0) := e
    subst e'
    exact PySem.P.truthy_str (by omega) ⟨H, I.tok _, q⟩
  | byt y =>
    obtain ⟨t, rfl⟩ := rx
    obtain ⟨hy, e'⟩ : y.size ≤ sizeLine ∧ k = ((y.size : Int) != 0) := e
    subst e'
    exact PySem.W.truthy_bytes (by omega) ⟨H, I.tok _, q⟩
  | ref p =>
    cases rx
    have e' : (∃ xs, SqL X.K H p xs ∧ k = !xs.isEmpty) ∨ (∃ xs, SqT X.K H p xs ∧ k = !xs.isEmpty) ∨ ∃ kvs, H p = some (.dK kvs) ∧ k = !kvs.isEmpty := e
    rcases e' with ⟨xs, hx, e'⟩ | ⟨xs, hx, e'⟩ | ⟨kvs, hx, e'⟩
    · subst e'
      obtain ⟨its, r, pl, hz⟩ := I.list hx
      have hlen := r.length
      exact wpAny_truthy_list pl.isList (by simp only [List.size_toArray]; omega) ⟨H, I.tok _, by rw [isEmpty_of r]; exact q⟩
    · subst e'
      obtain ⟨its, r, pl, hz⟩ := I.tuple hx
      have hlen := r.length
      exact truthy_tuple pl (by simp only [List.size_toArray]; omega) ⟨H, I.tok _, by rw [isEmpty_of r]; exact q⟩
    · subst e'
      obtain ⟨hz, hS, vs, r, m⟩ : kvs.length ≤ sizeLine ∧ (p == sysModules) = false ∧ ∃ vs, KV kvs vs ∧ s.heap.DictOf (mixKind X.prog X.w) p vs := I.hok p _ hx
      have hlen : kvs.length = vs.length := Paired.length r
      exact wpAny_truthy_dict hS m (by omega) ⟨H, I.tok _, by rw [isEmpty_kv r]; exact q⟩
  | _ => exact (show False from e).elim
/-- any expression whose test is its value's truth (a name, a call, a subscript, a field ..: he by fun _ => rfl) -/
theorem pt_truth (ha : PE X a ta) (he : ∀ whole, isTrue a X.env whole = (do let v ← whole; standAt a.pos; holding [v] (truthy v))) :
    PT X a (fun σ H Q => ta σ H fun x H' => ∃ k, TruV X.K x H' k ∧ Q k H') := by
  intro pins s σ H Q I h
  exact isTrue_plain (thn (ha pins s σ H _ I h) fun v s1 ⟨x, H1, I1, r1, q1⟩ => tru_ok pins s1 σ H1 x v Q I1 r1 q1) (he _)

/-! ### strs and bytes -/

def PlainIxT (b : Expr) : Prop := ∀ o i, subscripted b false o i = operate [o, i] (getItem o i)
/-- s[i], 0 ≤ i < len -/
theorem pe_item_str (ha : PE X a ta) (hb : PE X b tb) (hs : PlainIxT b) :
    PE X (.Subscript a b pos) (tOp (fun x y H Q => ∃ z i c, x = .str z ∧ y = .int i ∧ 0 ≤ i ∧ i < 2 ^ 63 ∧ i < z.length ∧ z.cps[i.toNat]? = some c ∧ Q (.str ⟨#[c]⟩) H) ta tb) := by
  intro pins s σ H Q I h
  refine Subscript_ (binT ha hb I h fun v u s2 x y H2 I2 rx ry q => ?_)
  obtain ⟨z, i, c, rfl, rfl, h0, h63, h1, hc, q⟩ := q
  obtain ⟨t, rfl⟩ := rx
  obtain ⟨t', rfl⟩ := ry
  have e : seqIndex? i z.length = some i.toNat := PySem.StrLaws.seqIndex_nonneg h0 h1
  exact tail_any (typeIs_str s2 z t) slot_str_getitem.lookup (getItem_str (c := c) (by
    have e1 : decide (i < -(2 ^ 63 : Int)) = false := decide_eq_false (by omega)
    have e2 : decide (i ≥ 2 ^ 63) = false := decide_eq_false (by omega)
    rw [e1, e2] <;> rfl) (by rw [e]; exact hc) ⟨.str ⟨#[c]⟩, H2, I2.tok _, ⟨_, rfl⟩, q⟩) (hs _ _)
/-- b[i], 0 ≤ i < len -/
theorem pe_item_byt (ha : PE X a ta) (hb : PE X b tb) (hs : PlainIxT b) :
    PE X (.Subscript a b pos) (tOp (fun x y H Q => ∃ (z : List UInt8) (i : Int), x = .byt z.toArray ∧ y = .int i ∧ z.length ≤ sizeLine ∧ 0 ≤ i ∧ i < z.length ∧ Q (.int ((z.getD i.toNat 0).toNat : Nat)) H) ta tb) := by
  intro pins s σ H Q I h
  refine Subscript_ (binT ha hb I h fun v u s2 x y H2 I2 rx ry q => ?_)
  obtain ⟨z, i, rfl, rfl, hz, h0, h1, q⟩ := q
  obtain ⟨t, rfl⟩ := rx
  obtain ⟨t', rfl⟩ := ry
  have hl : sizeLine = 16777216 := sizeLine_eq
  exact tail_any (PySem.W.typeIs_bytes s2 z.toArray t) PySem.W.FB.slot_bytes_getitem.lookup (PySem.W.getItem_bytes (by omega) h0 h1 ⟨.int ((z.getD i.toNat 0).toNat : Nat), H2, I2.tok _, ⟨_, rfl⟩, q⟩) (hs _ _)

/-! ### scalar builtins, by CallR -/
theorem vals1 {x : V} {us : List Value} (r : Vals [x] us) : ∃ u, us = [u] ∧ RelV x u := by
  cases r with
  | cons r1 r2 => cases r2; exact ⟨_, rfl, r1⟩
theorem vals2 {x y : V} {us : List Value} (r : Vals [x, y] us) : ∃ u w', us = [u, w'] ∧ RelV x u ∧ RelV y w' := by
  cases r with
  | cons r1 r2 =>
    cases r2 with
    | cons r3 r4 => cases r4; exact ⟨_, _, rfl, r1, r3⟩
theorem call_max2 (hc : X.calm = true) : CallR X (.builtin "max") (fun xs H Q => ∃ i j, xs = [.int i, .int j] ∧ Q (.int (if j > i then j else i)) H) := by
  intro pins s σ H xs us Q I r h
  obtain ⟨i, j, rfl, q⟩ := h
  obtain ⟨u, w', rfl, ⟨t, rfl⟩, ⟨t', rfl⟩⟩ := vals2 r
  refine max_two_ints (I.ok.hd hc) fun h' tk k => ⟨_, H, I.kept k, ?_, q⟩
  by_cases hj : j > i
  · rw [if_pos hj, if_pos hj]; exact ⟨_, rfl⟩
  · rw [if_neg hj, if_neg hj]; exact ⟨_, rfl⟩
theorem call_min2 (hc : X.calm = true) : CallR X (.builtin "min") (fun xs H Q => ∃ i j, xs = [.int i, .int j] ∧ Q (.int (if j < i then j else i)) H) := by
  intro pins s σ H xs us Q I r h
  obtain ⟨i, j, rfl, q⟩ := h
  obtain ⟨u, w', rfl, ⟨t, rfl⟩, ⟨t', rfl⟩⟩ := vals2 r
  refine min_two_ints (I.ok.hd hc) fun h' tk k => ⟨_, H, I.kept k, ?_, q⟩
  by_cases hj : j < i
  · rw [if_pos hj, if_pos hj]; exact ⟨_, rfl⟩
  · rw [if_neg hj, if_neg hj]; exact ⟨_, rfl⟩
/-- len of a str, a bytes, a list, a tuple -/
def LenV (K : PySem.W.Frag) (x : V) (H : Hp) (n : Nat) : Prop :=
  match x with
  | .str y => y.length ≤ sizeLine ∧ n = y.length
  | .byt y => y.size ≤ sizeLine ∧ n = y.size
  | .ref p => (∃ xs, SqL K H p xs ∧ n = xs.length) ∨ ∃ xs, SqT K H p xs ∧ n = xs.length
  | _ => False
/-- divmod: a new tuple -/
theorem call_divmod : CallR X (.builtin "divmod") (fun xs H Q => ∃ i j, xs = [.int i, .int j] ∧ CDiv i j ∧ ∀ p, H p = none → Q (.ref p) (upd H p (.tup [.int (i / j), .int (i % j)]))) := by
  intro pins s σ H xs us Q I r h
  obtain ⟨i, j, rfl, ⟨h1, h2⟩, q⟩ := h
  obtain ⟨u, w', rfl, ⟨t, rfl⟩, ⟨t', rfl⟩⟩ := vals2 r
  refine divmod_int (by omega) ?_ (.inl (PyProof.noPylong_small (by omega)))
  rw [Int.fdiv_eq_ediv_of_nonneg i (by omega), Int.fmod_eq_emod_of_nonneg i (by omega)]
  have hn : H s.heap.objs.size = none := I.hok.fresh (Nat.le_refl _)
  refine ⟨.ref s.heap.objs.size, _, ?_, rfl, q _ hn⟩
  refine I.laid (fun b o e => Heap.get?_push_of_some _ e) (Nat.le_refl _) ⟨by simp only [List.length_cons, List.length_nil]; rw [sizeLine_eq]; decide, [.int (i / j) s.toks, .int (i % j) (s.toks + 1)], .cons ⟨_, rfl⟩ (.cons ⟨_, rfl⟩ .nil), ?_⟩
  exact ⟨_, Heap.get?_push_size s.heap rfl, rfl, 0, rfl⟩
end
end L2

namespace L2
open PySem PySem.Spec PyProof.Rows

/-! ### an instance, its attributes a map -/
structure ObjM (h : Heap) (x dx C : Addr) (mA : Str → Option Value) : Prop where
  obj : h.get? x = some (PySem.W.instObj C dx)
  ns : h.Ns1 dx mA
  ne : dx ≠ x

theorem lookIn_ns {h : Heap} {dx : Addr} {mA : Str → Option Value} (n : h.Ns1 dx mA) : ∃ od, h.get? dx = some od ∧ ∀ name, PySem.W.lookIn name od = some (mA name) := by
  obtain ⟨o, es, ep, ho, hd, hk, _, hm⟩ := n
  refine ⟨o, ho, fun name => ?_⟩
  have e := hm name
  unfold nsFind findBy at e
  rw [← Array.find?_toList] at e
  unfold PySem.W.lookIn
  rw [hd]
  dsimp only
  split
  · rename_i y q
    rw [q] at e
    exact congrArg some e
  · rename_i q
    rw [q] at e
    have a : es.toList.any (·.refKey) = false := by
      rw [List.any_eq_false]
      intro y hy
      obtain ⟨z, t, hkey⟩ := hk y (Array.mem_toList_iff.mp hy)
      simp [DictEntry.refKey, hkey]
    have a' : ¬ es.toList.any (·.refKey) = true := by rw [a]; exact Bool.false_ne_true
    rw [if_neg a']
    exact congrArg some e

theorem ObjM.look {h : Heap} {x dx C : Addr} {mA : Str → Option Value} (I : ObjM h x dx C mA) : ∃ od, PySem.W.InstAt h x (PySem.W.instObj C dx) C (some od) ∧ ∀ name, PySem.W.lookIn name od = some (mA name) :=
  let ⟨od, ho, hl⟩ := lookIn_ns I.ns
  ⟨od, ⟨I.obj, rfl, rfl, ho⟩, hl⟩

section
variable {prog : Program} {w : World} {A : Around} {E : Value → Shared → Prop} {s : Shared} {K : PySem.W.Frag} {x dx C f : Addr} {mA : Str → Option Value} {name : Str} {v : Value}

theorem get_map {expr : Bool} {Q : Value → Shared → Prop} (X : K.In s.heap) (I : ObjM s.heap x dx C mA) (hg : PySem.W.plainGet K C name = true) (hh : PySem.W.hasDictIn K C = true)
    (ha : PySem.W.findIn K (.ref C) name = some none) (hv : mA name = some v) (hv' : PySem.W.handedIn v = true) (h : Q v { s with toks := s.toks + 1 }) :
    wpAny (model prog w) A (getAttr (.ref x) name expr) Q E s := by
  obtain ⟨od, J, hl⟩ := I.look
  exact PySem.W.get_value X J (PySem.W.plainGet_of hg).1 (PySem.W.findObj_own hh ha rfl (by rw [hl, hv])) hv' h


theorem get_meth {pl : Sem Bool} {Q : Value × List Value → Shared → Prop} (X : K.In s.heap) (I : ObjM s.heap x dx C mA) (hg : PySem.W.plainGet K C name = true)
    (hf : PySem.W.findIn K (.ref C) name = some (some (.ref f))) (ht : PySem.W.isFn K (.ref f) = true) (hv : mA name = none) (h : Q (.ref f, [.ref x]) s) :
    wpAny (model prog w) A (getMethod (.ref x) name pl) Q E s := by
  obtain ⟨od, J, hl⟩ := I.look
  exact PySem.W.method_fn X J (PySem.W.plainGet_of hg).1 (PySem.W.plainGet_of hg).2 hf (beq_iff_eq.mp ht) (by show (PySem.W.lookIn name od).map (·.isSome) = some false; rw [hl, hv]; rfl) h

theorem set_map {ns : List Str} {Q : Unit → Shared → Prop} (X : K.In s.heap) (I : ObjM s.heap x dx C mA)
    (hs : PySem.W.findIn K (.ref C) "__setattr__" = some (some (.builtin "object.__setattr__"))) (hp : PySem.W.plainOver K C = true) (ht : PySem.W.takerIn K C name = some none) (hh : PySem.W.hasDictIn K C = true)
    (hw : PySem.Within mA ns) (hsz : ns.length ≤ sizeLine)
    (h : ∀ h', ObjM h' x dx C (fun y => if y = name then some v else mA y) → Heap.SameBut dx s.heap h' → Q () { s with heap := h', toks := s.toks + 2 }) :
    wpAny (model prog w) A (setAttr (.ref x) name v) Q E s := by
  obtain ⟨od, J, hl⟩ := I.look
  refine PySem.W.set_plain X J hs (PySem.W.osa_open (s := { s with toks := s.toks + 1 }) (r := none) X J hp ht fun b => ?_)
  obtain ⟨cd, hc, hd'⟩ := PySem.W.any_some hh
  have hx : s.heap.get? x = some ⟨.ref C, some dx, .plain, #[]⟩ := I.obj
  refine wpAny_bind (wpAny_pure (wpAny_bind (wpAny_bind (wpAny_loadPart hx (wpAny_bind (PySem.W.Looks.here (s := { s with toks := s.toks + 1 }) (PySem.W.looks_clsIn X hc) ?_))))))
  rw [hd']
  refine wpAny_pure (a := some dx) (wpAny_bind (wpAny_pure (wpAny_bind ?_)))
  refine wpAny_nsSet1 (s := { s with toks := s.toks + 1 }) I.ns fun h' hn2 hs2 => ?_
  obtain ⟨oD, esD, epD, hoD, hdD, hcD⟩ := hn2.count (PySem.Within.cons name v hw)
  refine wpAny_bind (wpAny_lookBehind hoD (by rw [hdD]; exact pastItsLine_dict (Nat.le_trans hcD (by rw [List.length_cons]; omega))) ?_)
  exact wpAny_pure (h _ ⟨(hs2.2 _ (Ne.symm I.ne)).trans I.obj, hn2, I.ne⟩ hs2)

/-- C(..): the dict at the heap's end, the instance behind it; then its __init__ -/
theorem make_map {R : Result → Shared → Prop} {vs : List Value} {kw : List (Str × Value)} (X : K.In s.heap) (hm : PySem.W.makesIn K C = true)
    (hi : PySem.W.findIn K (.ref C) "__init__" = some (some (.ref f))) (hf : PySem.W.typeIn K (.ref f) = some (.type "function"))
    (h : codeAny (model prog w) (A.under (.builtin "type.__call__" ⟨.ref C :: vs, kw⟩)) (.call (.ref f) ⟨.ref (s.heap.objs.size + 1) :: vs, kw⟩) (PySem.W.InitBack (s.heap.objs.size + 1) R)
      { s with heap := (s.heap.push PySem.W.emptyDict).push (PySem.W.instObj C s.heap.objs.size) }) :
    codeAny (model prog w) A (.call (.ref C) ⟨vs, kw⟩) R s := by
  obtain ⟨hh, g, d, t, os⟩ := s
  exact PySem.W.make_core (PySem.W.makes_of X hm) (PySem.W.looks_findIn X hi) (fun self => PySem.W.bind_fn X self hf) (.inl rfl) h
/-- C() where there is no __init__ but object's -/
theorem make_map0 {R : Result → Shared → Prop} (X : K.In s.heap) (hm : PySem.W.makesIn K C = true)
    (hi : PySem.W.findIn K (.ref C) "__init__" = some (some (.builtin "object.__init__")))
    (hb : ∀ self, PySem.W.Looks (model prog w) s.heap (bindSpecial (.builtin "object.__init__") self) (.builtin "object.__init__", [self]))
    (h : codeAny (model prog w) (A.under (.builtin "type.__call__" ⟨[.ref C], []⟩)) (.call (.builtin "object.__init__") ⟨[.ref (s.heap.objs.size + 1)], []⟩) (PySem.W.InitBack (s.heap.objs.size + 1) R)
      { s with heap := (s.heap.push PySem.W.emptyDict).push (PySem.W.instObj C s.heap.objs.size) }) :
    codeAny (model prog w) A (.call (.ref C) ⟨[], []⟩) R s := by
  obtain ⟨hh, g, d, t, os⟩ := s
  exact PySem.W.make_core (PySem.W.makes_of X hm) (PySem.W.looks_findIn X hi) hb (.inr ⟨rfl, rfl⟩) h
end

/-! ### the attributes as a list of pairs -/
def putF (f : Str) (v : V) : List (Str × V) → List (Str × V)
  | [] => [(f, v)]
  | (g, x) :: r => if g = f then (g, v) :: r else (g, x) :: putF f v r
theorem lookup_putF (f g : Str) (v : V) : ∀ fs : List (Str × V), (putF f v fs).lookup g = if g = f then some v else fs.lookup g
  | [] => by
    show List.lookup g [(f, v)] = _
    by_cases h : g = f
    · have hb : (g == f) = true := beq_iff_eq.mpr h
      simp only [List.lookup, hb, if_pos h]
    · have hb : (g == f) = false := beq_eq_false_iff_ne.mpr h
      simp only [List.lookup, hb, if_neg h]
  | (k, x) :: r => by
    have ih := lookup_putF f g v r
    rw [show putF f v ((k, x) :: r) = (if k = f then (k, v) :: r else (k, x) :: putF f v r) from rfl]
    by_cases hk : k = f
    · rw [if_pos hk]
      by_cases h : g = k
      · have hb : (g == k) = true := beq_iff_eq.mpr h
        simp only [List.lookup, hb, if_pos (h.trans hk)]
      · have hb : (g == k) = false := beq_eq_false_iff_ne.mpr h
        simp only [List.lookup, hb, if_neg (fun e : g = f => h (e.trans hk.symm))]
    · rw [if_neg hk]
      by_cases h : g = k
      · have hb : (g == k) = true := beq_iff_eq.mpr h
        simp only [List.lookup, hb, if_neg (fun e : g = f => hk (h.symm.trans e))]
      · have hb : (g == k) = false := beq_eq_false_iff_ne.mpr h
        simp only [List.lookup, hb]
        exact ih
theorem keys_putF (f : Str) (v : V) : ∀ fs : List (Str × V), f ∈ (putF f v fs).map (·.1) ∧ ∀ g, g ∈ fs.map (·.1) → g ∈ (putF f v fs).map (·.1)
  | [] => ⟨by simp [putF], fun g h => by simp at h⟩
  | (k, x) :: r => by
    obtain ⟨i1, i2⟩ := keys_putF f v r
    rw [show putF f v ((k, x) :: r) = (if k = f then (k, v) :: r else (k, x) :: putF f v r) from rfl]
    by_cases hk : k = f
    · rw [if_pos hk]
      subst hk
      exact ⟨by simp, fun g h => by simpa using h⟩
    · rw [if_neg hk]
      refine ⟨?_, fun g h => ?_⟩
      · rw [List.map_cons]
        exact List.mem_cons_of_mem _ i1
      · rw [List.map_cons] at h ⊢
        rcases List.mem_cons.mp h with e | e
        · exact List.mem_cons.mpr (.inl e)
        · exact List.mem_cons_of_mem _ (i2 g e)
theorem length_putF (f : Str) (v : V) : ∀ fs : List (Str × V), (putF f v fs).length ≤ fs.length + 1
  | [] => by simp [putF]
  | (k, x) :: r => by
    have ih := length_putF f v r
    rw [show putF f v ((k, x) :: r) = (if k = f then (k, v) :: r else (k, x) :: putF f v r) from rfl]
    by_cases hk : k = f
    · rw [if_pos hk, List.length_cons, List.length_cons]; omega
    · rw [if_neg hk, List.length_cons, List.length_cons]; omega

theorem RelO.some_of {v : V} {o : Option Value} (r : RelO (some v) o) : ∃ u, o = some u ∧ RelV v u := by
  cases o with
  | none => exact (show False from r).elim
  | some u => exact ⟨u, rfl, r⟩
theorem RelO.none_of {o : Option Value} (r : RelO none o) : o = none := by
  cases o with
  | none => rfl
  | some u => exact (show False from r).elim
theorem handed_of {v : V} {u : Value} (r : RelV v u) : PySem.W.handedIn u = true := by
  cases v with
  | non => cases (show u = Value.none from r); rfl
  | bl b => cases (show u = Value.bool b from r); rfl
  | int i => obtain ⟨t, e⟩ := (show ∃ t, u = Value.int i t from r); cases e; rfl
  | str x => obtain ⟨t, e⟩ := (show ∃ t, u = Value.str x t from r); cases e; rfl
  | byt b => obtain ⟨t, e⟩ := (show ∃ t, u = Value.bytes b t from r); cases e; rfl
  | flt b => obtain ⟨t, e⟩ := (show ∃ t, u = Value.float b t from r); cases e; rfl
  | ref a => cases (show u = Value.ref a from r); rfl
  | ty n => cases (show u = Value.type n from r); rfl

section
variable {P : Program} {w : World} {H H' : Hp} {h h' : Heap} {a C dx : Addr} {fs fs' : List (Str × V)}
theorem ins_get (hok : HOk P w H h) (e : H a = some (.ins C dx fs)) : ∃ mA, ObjM h a dx C mA ∧ (∀ f, RelO (fs.lookup f) (mA f)) ∧ PySem.Within mA (fs.map (·.1)) ∧ fs.length ≤ 1000 ∧ H dx = some (.own a) := by
  obtain ⟨d, z, ne, ob, mA, n, r, q⟩ := (show ObjOk P w H h a (.ins C dx fs) from hok a _ e)
  exact ⟨mA, ⟨ob, n, ne⟩, r, q, z, d⟩
end

/-! ### what of the text a class must have -/
structure Cls (K : PySem.W.Frag) (C : Addr) : Prop where
  pg : PySem.W.plainGet K C Str.empty = true
  hd : PySem.W.hasDictIn K C = true
  po : PySem.W.plainOver K C = true
  sa : PySem.W.findIn K (.ref C) "__setattr__" = some (some (.builtin "object.__setattr__"))
theorem Cls.get {K : PySem.W.Frag} {C : Addr} (c : Cls K C) (f : Str) : PySem.W.plainGet K C f = true := c.pg
/-- no class of it has the name -/
def NoAttr (K : PySem.W.Frag) (C : Addr) (f : Str) : Prop := PySem.W.findIn K (.ref C) f = some none
theorem NoAttr.taker {K : PySem.W.Frag} {C : Addr} {f : Str} (n : NoAttr K C f) : PySem.W.takerIn K C f = some none := by
  unfold PySem.W.takerIn
  rw [show PySem.W.findIn K (.ref C) f = some none from n]
  rfl
/-- a constant of the class -/
structure Con (K : PySem.W.Frag) (C : Addr) (f : Str) (v : V) (u : Value) : Prop where
  at_ : PySem.W.findIn K (.ref C) f = some (some u)
  rel : RelV v u
  get : PySem.W.specialIn K u "__get__" = some none
  cp : PySem.W.copiedNames.contains f = false
/-- a method: a plain def of the class or of one above it -/
structure Meth (K : PySem.W.Frag) (C : Addr) (m : Str) (f : Addr) : Prop where
  at_ : PySem.W.findIn K (.ref C) m = some (some (.ref f))
  fn : PySem.W.isFn K (.ref f) = true
  kp : PySem.W.keepIn K (.ref f) = true

section
variable {X : Cx} {pins : List (Addr × Obj)} {σ : St} {H : Hp} {s : Shared} {a C dx : Addr} {fs : List (Str × V)} {f : Str} {v : V} {A : Around} {E : Value → Shared → Prop}

theorem getattr_ok {b : Bool} {Q : Value → Shared → Prop} (I : Inv X pins σ H s) (e : H a = some (.ins C dx fs)) (c : Cls X.K C) (n : NoAttr X.K C f) (l : fs.lookup f = some v)
    (h : ∀ u s', Inv X pins σ H s' → RelV v u → Q u s') : wpAny (model X.prog X.w) A (getAttr (.ref a) f b) Q E s := by
  obtain ⟨mA, O, r, _, _, _⟩ := ins_get I.hok e
  obtain ⟨u, hu, ru⟩ := RelO.some_of (v := v) (o := mA f) (by rw [← l]; exact r f)
  exact get_map I.kIn O (c.get f) c.hd n hu (handed_of ru) (h u _ (I.tok _) ru)


theorem getmeth_ok {m : Str} {g : Addr} {pl : Sem Bool} {Q : Value × List Value → Shared → Prop} (I : Inv X pins σ H s) (e : H a = some (.ins C dx fs)) (c : Cls X.K C) (k : Meth X.K C m g) (l : fs.lookup m = none)
    (h : Q (.ref g, [.ref a]) s) : wpAny (model X.prog X.w) A (getMethod (.ref a) m pl) Q E s := by
  obtain ⟨mA, O, r, _, _, _⟩ := ins_get I.hok e
  have hn : mA m = none := RelO.none_of (by rw [← l]; exact r m)
  exact get_meth I.kIn O (c.get m) k.at_ k.fn hn h

theorem setattr_ok {y : V} {u : Value} {Q : Unit → Shared → Prop} (I : Inv X pins σ H s) (e : H a = some (.ins C dx fs)) (c : Cls X.K C) (n : NoAttr X.K C f) (hl : fs.length < 1000) (ry : RelV y u)
    (h : ∀ s', Inv X pins σ (upd H a (.ins C dx (putF f y fs))) s' → Q () s') : wpAny (model X.prog X.w) A (setAttr (.ref a) f u) Q E s := by
  obtain ⟨mA, O, r, wi, _, ho⟩ := ins_get I.hok e
  have hz : (fs.map (·.1)).length ≤ sizeLine := by rw [List.length_map, sizeLine_eq]; omega
  refine set_map I.kIn O c.sa c.po n.taker c.hd wi hz fun h' O' sb => h _ ?_
  have hd : ∃ o, h'.get? dx = some o := let ⟨o, _, _, e', _⟩ := O'.ns; ⟨o, e'⟩
  refine I.write (x := a) (e := dx) (by rw [e]; exact True.intro) (.inr ho) (fun b q hb z => (sb.2 b hb).trans z) hd ?_
  refine ⟨by rw [upd_ne O.ne]; exact ho, ?_, O.ne, O'.obj, _, O'.ns, fun g => ?_, fun g hg => ?_⟩
  · have := length_putF f y fs; omega
  · show RelO ((putF f y fs).lookup g) (if g = f then some u else mA g)
    rw [lookup_putF]
    by_cases q : g = f
    · rw [if_pos q, if_pos q]; exact ry
    · rw [if_neg q, if_neg q]; exact r g
  · by_cases q : g = f
    · rw [q]; exact (keys_putF f y fs).1
    · refine (keys_putF f y fs).2 g (wi g fun z => hg ?_)
      show (if g = f then some u else mA g) = none
      rw [if_neg q]; exact z

/-- a new instance, tracked, without attributes -/
theorem Inv.made (I : Inv X pins σ H s) : Inv X pins σ (upd (upd H s.heap.objs.size (.own (s.heap.objs.size + 1))) (s.heap.objs.size + 1) (.ins C s.heap.objs.size []))
    { s with heap := (s.heap.push PySem.W.emptyDict).push (PySem.W.instObj C s.heap.objs.size) } := by
  have e1 : (s.heap.push PySem.W.emptyDict).get? s.heap.objs.size = some PySem.W.emptyDict := Heap.get?_push_size s.heap rfl
  have e2 : ((s.heap.push PySem.W.emptyDict).push (PySem.W.instObj C s.heap.objs.size)).get? (s.heap.objs.size + 1) = some (PySem.W.instObj C s.heap.objs.size) := by
    have := Heap.get?_push_size (s.heap.push PySem.W.emptyDict) (o := PySem.W.instObj C s.heap.objs.size) rfl
    rwa [Heap.size_push] at this
  have e3 : (s.heap.push PySem.W.emptyDict).Ns s.heap.objs.size (fun _ => none) := ⟨PySem.W.emptyDict, #[], _, e1, rfl, (fun e he => absurd he (by simp)), fun _ => rfl⟩
  have I1 := I.laid (a := s.heap.objs.size) (o := .own (s.heap.objs.size + 1)) (h' := s.heap.push PySem.W.emptyDict) (t' := s.toks) (fun b u q => Heap.get?_push_of_some _ q) (Nat.le_refl _) ⟨_, e1⟩
  refine I1.laid (a := s.heap.objs.size + 1) (o := .ins C s.heap.objs.size []) (t' := s.toks) (fun b u q => Heap.get?_push_of_some _ q) (Nat.le_of_eq (Heap.size_push _ _)) ?_
  have ne : s.heap.objs.size ≠ s.heap.objs.size + 1 := Nat.ne_of_lt (Nat.lt_succ_self _)
  refine ⟨by rw [upd_ne ne, upd_same], Nat.zero_le _, ne, e2, fun _ => none, (Heap.Ns1.of_empty e3).at fun o q => Heap.get?_push_of_some _ q, fun _ => True.intro, fun y hy => absurd rfl hy⟩

/-- e.f where nothing but the object is asked: through attributeBase (super) and the last hold -/
theorem attr_of {prog : Program} {w : World} {env : Env} {e : Expr} {f : Str} {pos : Pos} {s : Shared} {Q : Value → Shared → Prop} (hb : attributeBase e f env (eval e env) = eval e env)
    (h : wpAny (model prog w) A (eval e env) (fun o s₁ => wpAny (model prog w) A (getAttr o f true) Q E s₁) E s) : wpAny (model prog w) A (eval (.Attribute e f pos) env) Q E s :=
  Attribute_any_ h (by rw [arm_eval_Attribute, hb])
end

/-! ### readings and rules -/
/-- e.f, an attribute of the instance -/
def tFld (K : PySem.W.Frag) (ta : TE) (f : Str) : TE := fun σ H Q => ta σ H fun x H1 => ∃ a C dx fs v, x = .ref a ∧ H1 a = some (.ins C dx fs) ∧ Cls K C ∧ NoAttr K C f ∧ fs.lookup f = some v ∧ Q v H1
/-- e.f, a constant of the class -/
def tCon (K : PySem.W.Frag) (ta : TE) (f : Str) : TE := fun σ H Q => ta σ H fun x H1 => ∃ a C dx fs v u, x = .ref a ∧ H1 a = some (.ins C dx fs) ∧ Cls K C ∧ Con K C f v u ∧ fs.lookup f = none ∧ Q v H1
/-- e.f = value -/
def sFld (K : PySem.W.Frag) (ta tv : TE) (f : Str) : TS := fun D σ H => tv σ H fun y H1 => ta σ H1 fun x H2 => ∃ a C dx fs, x = .ref a ∧ H2 a = some (.ins C dx fs) ∧ Cls K C ∧ NoAttr K C f ∧ fs.length < 1000 ∧
  D.nx σ (upd H2 a (.ins C dx (putF f y fs)))
/-- an augmented operator on two values -/
def InOp (X : Cx) (op : Operator) (rd : V → V → Hp → VK → Prop) : Prop :=
  ∀ (pins : List (Addr × Obj)) (s : Shared) (σ : St) (H : Hp) (x y : V) (u v : Value) (Q : VK), Inv X pins σ H s → RelV x u → RelV y v → rd x y H Q → wpAny (model X.prog X.w) X.A (inplaceOp op u v) (EP X pins σ Q) X.xe s
/-- e.f op= value -/
def sFldAug (K : PySem.W.Frag) (ta tv : TE) (rd : V → V → Hp → VK → Prop) (f : Str) : TS := fun D σ H => ta σ H fun x H1 => ∃ a C dx fs v, x = .ref a ∧ H1 a = some (.ins C dx fs) ∧ Cls K C ∧ NoAttr K C f ∧ fs.lookup f = some v ∧
  tv σ H1 fun y H2 => rd v y H2 fun z H3 => ∃ dx' fs', H3 a = some (.ins C dx' fs') ∧ fs'.length < 1000 ∧ D.nx σ (upd H3 a (.ins C dx' (putF f z fs')))

section
variable {X : Cx} {o e value : Expr} {f : Str} {pos pos' tpos : Pos} {ta tv : TE}
theorem pe_fld (he : PE X e ta) (hb : attributeBase e f X.env (eval e X.env) = eval e X.env) : PE X (.Attribute e f pos) (tFld X.K ta f) := by
  intro pins s σ H Q I h
  refine attr_of hb (thn (he pins s σ H _ I h) fun u s1 ⟨x, H1, I1, rx, a, C, dx, fs, v, ex, ea, c, n, l, q⟩ => ?_)
  subst ex
  obtain rfl : u = Value.ref a := rx
  exact getattr_ok I1 ea c n l fun u' s2 I2 ru => ⟨v, H1, I2, ru, q⟩
theorem ps_fld (ha : PE X o ta) (hv : PE X value tv) (hs : swapsWith value (some (.Attribute o f pos')) pos.line X.env = pure false) : PS X (.Assign [.Attribute o f pos'] value pos) (sFld X.K ta tv f) := by
  intro pins s σ H D I h
  refine plainObj_wpAny_Assign_Attribute (thn (hv pins s σ H _ I h) fun u s1 ⟨y, H1, I1, ry, q⟩ => thn (ha pins s1 σ H1 _ I1 q) fun ov s2 ⟨x, H2, I2, rx, a, C, dx, fs, ex, ea, c, n, l, q2⟩ => ?_) hs
  subst ex
  obtain rfl : ov = Value.ref a := rx
  exact setattr_ok I2 ea c n l ry fun s3 I3 => ⟨σ, _, I3, q2⟩
def rAdd : V → V → Hp → VK → Prop := fun x y H Q => ∃ i j, x = .int i ∧ y = .int j ∧ Q (.int (i + j)) H
def rSub : V → V → Hp → VK → Prop := fun x y H Q => ∃ i j, x = .int i ∧ y = .int j ∧ Q (.int (i - j)) H

/-- what is between an instance and its method: the tree of a method call -/
theorem methcall_of {pl : Sem Bool} {m : Str} {apos : Pos} {args : List Expr} {pins : List (Addr × Obj)} {s : Shared} {σ : St} {H : Hp} {Q : Value → Shared → Prop} {te : TE} (he : PE X e te) (I : Inv X pins σ H s)
    (h : te σ H fun x H1 => ∃ a C dx fs g, x = .ref a ∧ H1 a = some (.ins C dx fs) ∧ Cls X.K C ∧ Meth X.K C m g ∧ fs.lookup m = none ∧
      ∀ s1, Inv X pins σ H1 s1 → wpAny (model X.prog X.w) X.A (callWith pos (.ref g) [.ref a] (backTo pos (starEach args X.env)) (backToKw pos (keywordEach [] X.env))) Q X.xe s1)
    (ht : eval (.Call (.Attribute e m apos) args [] pos) X.env = (do
      let ov ← eval e X.env
      standAt apos.atName
      let (f, first) ← holding [ov] (getMethod ov m pl)
      callWith pos f first (backTo pos (starEach args X.env)) (backToKw pos (keywordEach [] X.env)))) :
    wpAny (model X.prog X.w) X.A (eval (.Call (.Attribute e m apos) args [] pos) X.env) Q X.xe s := by
  refine PySem.W.methodCall_KW (pl := pl) (thn (he pins s σ H _ I h) fun u s1 ⟨x, H1, I1, rx, a, C, dx, fs, g, ex, ea, c, k, l, q⟩ => ?_) ht
  subst ex
  obtain rfl : u = Value.ref a := rx
  exact getmeth_ok I1 ea c k l (q s1 I1)
end

/-! ### isinstance -/
section
variable {X : Cx} {pins : List (Addr × Obj)} {σ : St} {H : Hp} {s : Shared} {A : Around} {E : Value → Shared → Prop} {Q : Value → Shared → Prop} {c : Value} {b : Bool}
/-- the type of a value, as the fragment's deciders take it; for an instance its class -/
inductive TyOf (K : PySem.W.Frag) (H : Hp) : V → Value → Prop where
  | non : TyOf K H .non (.type "NoneType")
  | bl (x : Bool) : TyOf K H (.bl x) (.type "bool")
  | int (i : Int) : TyOf K H (.int i) (.type "int")
  | str (x : Str) : TyOf K H (.str x) (.type "str")
  | flt (x : UInt64) : TyOf K H (.flt x) (.type "float")
  | lst {a : Addr} {xs : List V} (e : H a = some (.lst xs)) : TyOf K H (.ref a) (.type "list")
  | frz {a : Addr} {o : Obj} {xs : List V} (e : H a = some (.frz o (.lst xs))) : TyOf K H (.ref a) (.type "list")
  | tup {a : Addr} {xs : List V} (e : H a = some (.tup xs)) : TyOf K H (.ref a) (.type "tuple")
  | dK {a : Addr} {kvs : List (Key × V)} (e : H a = some (.dK kvs)) : TyOf K H (.ref a) (.type "dict")
  | dT {a : Addr} {kvs : List (List Key × V)} (e : H a = some (.dT kvs)) : TyOf K H (.ref a) (.type "dict")
  | ins {a C dx : Addr} {fs : List (Str × V)} (e : H a = some (.ins C dx fs)) (cl : Cls K C) (ha : PySem.W.findIn K (.ref C) "__class__" = some (some (.builtin "object.__class__")))
      (hn : PySem.W.specialIn K (.builtin "object.__class__") "__get__" = some (some (.builtin "getset_descriptor.__get__"))) (htk : PySem.W.takesIn K (.builtin "object.__class__") = some true)
      (hm : PySem.W.mroIn K C (.type "object") = some true) : TyOf K H (.ref a) (.ref C)
/-- isinstance(x, c) for one class c, a built-in or an own one: kitOne's answer -/
theorem isinst_ok {x : V} {u t : Value} (I : Inv X pins σ H s) (rx : RelV x u) (ty : TyOf X.K H x t) (e : PySem.W.kitOne X.K t c = some b) (h : ∀ tk, Q (.bool b) { s with toks := tk }) :
    wpAny (model X.prog X.w) A (call (.builtin "isinstance") [u, c]) Q E s := by
  cases ty with
  | non => cases (show u = Value.none from rx); exact PySem.W.kia_one PySem.W.kitx_none I.kIn True.intro e (fun z => nomatch z) h
  | bl y => cases (show u = Value.bool y from rx); exact PySem.W.kia_one PySem.W.kitx_bool I.kIn True.intro e (fun z => nomatch z) h
  | int i => obtain ⟨t, q⟩ := (show ∃ t, u = Value.int i t from rx); cases q; exact PySem.W.kia_one PySem.W.kitx_int I.kIn True.intro e (fun z => nomatch z) h
  | str y => obtain ⟨t, q⟩ := (show ∃ t, u = Value.str y t from rx); cases q; exact PySem.W.kia_one PySem.W.kitx_str I.kIn True.intro e (fun z => nomatch z) h
  | flt y => obtain ⟨t, q⟩ := (show ∃ t, u = Value.float y t from rx); cases q; exact PySem.W.kia_one PySem.W.kitx_float I.kIn True.intro e (fun z => nomatch z) h
  | @lst a xs ea =>
    cases (show u = Value.ref a from rx)
    obtain ⟨_, _, n, _, h1⟩ := (show ObjOk X.prog X.w H s.heap a (.lst xs) from I.hok a _ ea)
    exact PySem.W.kia_one PySem.W.kitx_list I.kIn ⟨_, h1, rfl⟩ e (fun z => nomatch z) h
  | @frz a ob xs ea =>
    cases (show u = Value.ref a from rx)
    obtain ⟨_, _, _, n, _, h1⟩ := (show ObjOk X.prog X.w H s.heap a (.frz ob (.lst xs)) from I.hok a _ ea)
    exact PySem.W.kia_one PySem.W.kitx_list I.kIn ⟨_, h1, rfl⟩ e (fun z => nomatch z) h
  | @tup a xs ea =>
    cases (show u = Value.ref a from rx)
    obtain ⟨_, _, _, p⟩ := (show ObjOk X.prog X.w H s.heap a (.tup xs) from I.hok a _ ea)
    obtain ⟨o, h1, h2, _⟩ := p
    exact PySem.W.kia_one PySem.W.kitx_tuple I.kIn ⟨o, h1, h2⟩ e (fun z => nomatch z) h
  | @dK a kvs ea =>
    cases (show u = Value.ref a from rx)
    obtain ⟨_, _, vs, _, p⟩ := (show ObjOk X.prog X.w H s.heap a (.dK kvs) from I.hok a _ ea)
    obtain ⟨o, es, ep, h1, h2, _⟩ := p
    exact PySem.W.kia_one PySem.W.kitx_dict I.kIn ⟨o, h1, h2.1⟩ e (fun z => nomatch z) h
  | @dT a kvs ea =>
    cases (show u = Value.ref a from rx)
    obtain ⟨_, _, xs, _, o, es, ep, h1, h2, _⟩ := (show ObjOk X.prog X.w H s.heap a (.dT kvs) from I.hok a _ ea)
    exact PySem.W.kia_one PySem.W.kitx_dict I.kIn ⟨o, h1, h2.1⟩ e (fun z => nomatch z) h
  | @ins a C dx fs ea cl ha hn htk hm =>
    cases (show u = Value.ref a from rx)
    obtain ⟨mA, O, _⟩ := ins_get I.hok ea
    obtain ⟨od, J, _⟩ := O.look
    exact PySem.W.kia_one (PySem.W.kitx_own (cl.get _) cl.hd ha hn htk hm) I.kIn J e (fun z => nomatch z) h
end
end L2

namespace L2
open PySem PySem.Spec PyProof.Rows

/-! ### room -/
structure Room (k : Nat) (A : Around) : Prop where
  hd : A.handled = none
  dp : A.depth + 3 * k + 5 < recursionLimit
  un : A.units + 16 * k + 200 < cLine
theorem Room.mono {j k : Nat} {A : Around} (r : Room k A) (h : j ≤ k) : Room j A := ⟨r.hd, by have := r.dp; omega, by have := r.un; omega⟩
theorem Room.deeper {k : Nat} {A : Around} (r : Room (k + 1) A) (env : Env) : Room k (A.deeper env) :=
  ⟨r.hd, by have := r.dp; show A.depth + 1 + 3 * k + 5 < _; omega, by have := r.un; show A.units + 3 + 16 * k + 200 < _; omega⟩
theorem make_depth {A : Around} {C : Addr} {us : List Value} {kw : List (Str × Value)} : (A.under (.builtin "type.__call__" ⟨.ref C :: us, kw⟩)).depth = A.depth + 1 := by
  first | rfl | simp [Around.under, Code.weight, Code.isCreation, Code.isGuard, Code.isCaller, Code.frames, Code.isFrame, guardIds]
theorem make_units {A : Around} {C : Addr} {us : List Value} {kw : List (Str × Value)} : (A.under (.builtin "type.__call__" ⟨.ref C :: us, kw⟩)).units = A.units + 1 := by
  first | rfl | simp [Around.under, Code.cUnits, Code.frames, Code.isFrame]
theorem Room.make {k : Nat} {A : Around} (r : Room (k + 1) A) (C : Addr) (us : List Value) (kw : List (Str × Value)) : Room k (A.under (.builtin "type.__call__" ⟨.ref C :: us, kw⟩)) :=
  ⟨r.hd, by have := r.dp; rw [make_depth]; omega, by have := r.un; rw [make_units]; omega⟩
theorem Room.depth {k : Nat} {A : Around} (r : Room k A) : A.depth < recursionLimit := by have := r.dp; omega
theorem Room.units {k : Nat} {A : Around} (r : Room k A) : A.units + 64 < cLine := by have := r.un; omega

/-! ### argument lists and displays -/
def tNil : TA := fun _ H Q => Q [] H
def tCons (ta : TE) (tr : TA) : TA := fun σ H Q => ta σ H fun x H1 => tr σ H1 fun xs H2 => Q (x :: xs) H2
section
variable {X : Cx} {e : Expr} {es : List Expr} {te : TE} {t : TA} {pos : Pos}
theorem pa_nil : PA X [] tNil := fun _ _ _ _ H Q I h => Calls.spliced_nil ⟨[], H, I, .nil, h⟩
theorem pa_cons (ha : PE X e te) (hr : PA X es t) (hs : starEach (e :: es) X.env = (false, eval e X.env) :: starEach es X.env := by rfl) : PA X (e :: es) (tCons te t) := by
  intro pos pins s σ H Q I h
  rw [hs]
  show wpAny _ _ (spliced ((false, eval e X.env) :: backTo pos (starEach es X.env))) _ _ s
  refine Calls.spliced_cons (thn (ha pins s σ H _ I h) fun u s1 ⟨x, H1, I1, r1, q1⟩ => ?_)
  exact thn (hr pos pins s1 σ H1 _ I1 q1) fun us s2 ⟨xs, H2, I2, r2, q2⟩ => ⟨x :: xs, H2, I2, .cons r1 r2, q2⟩

/-- a tuple, a list of written items -/
def tTup (t : TA) : TE := fun σ H Q => t σ H fun xs H1 => xs.length ≤ sizeLine ∧ ∀ p, H1 p = none → Q (.ref p) (upd H1 p (.tup xs))
def tLst (t : TA) : TE := fun σ H Q => t σ H fun xs H1 => xs.length ≤ sizeLine ∧ ∀ p, H1 p = none → Q (.ref p) (upd H1 p (.lst xs))
theorem pe_tup {x1} (h : PA X es t) : PE X (.Tuple es x1 pos) (tTup t) := by
  intro pins s σ H Q I hq
  refine wpAny_Tuple_spliced (thn (h pos pins s σ H _ I hq) fun us s1 ⟨xs, H1, I1, r, z, q⟩ => ⟨by rw [← r.length]; exact z, ?_⟩)
  have hf : H1 s1.heap.objs.size = none := I1.hok.fresh (Nat.le_refl _)
  refine ⟨.ref s1.heap.objs.size, upd H1 s1.heap.objs.size (.tup xs), I1.laid (t' := s1.toks) (fun b u e => Heap.get?_push_of_some _ e) (Nat.le_refl _) ?_, rfl, q _ hf⟩
  exact ⟨z, us, r, ⟨_, Heap.get?_push_size _ rfl, rfl, _, rfl⟩⟩
theorem pe_lst (h : PA X es t) : PE X (.List es pos) (tLst t) := by
  intro pins s σ H Q I hq
  refine wpAny_List_spliced (thn (h pos pins s σ H _ I hq) fun us s1 ⟨xs, H1, I1, r, z, q⟩ => ⟨by rw [← r.length]; exact z, ?_⟩)
  have hf : H1 s1.heap.objs.size = none := I1.hok.fresh (Nat.le_refl _)
  refine ⟨.ref s1.heap.objs.size, upd H1 s1.heap.objs.size (.lst xs), I1.laid (t' := s1.toks) (fun b u e => Heap.get?_push_of_some _ e) (Nat.le_refl _) ?_, rfl, q _ hf⟩
  exact ⟨z, us, 0, r, Heap.get?_push_size _ rfl⟩
end

/-! ### what a def promises -/
/-- a def's promise: the bound arguments in the parameters' order, the heap, the wanted end, the wanted exception -/
abbrev Sp := List V → Hp → VK → XK → Prop
/-- how an exception lies behind a call (file 08 gives it): the callers' frames, abstract heap and state ahead of the call, the wish, the exception, the state -/
abbrev CXT := List Env → Hp → Shared → XK → Value → Shared → Prop

/-- the state at a call -/
structure Env0 (P : Program) (w : World) (K : PySem.W.Frag) (mg : Str → Option Value) (base : Heap) (A : Around) (outer : List Env) (s : Shared) (H : Hp) : Prop where
  frames : A.frames = some outer
  mod : Mod K mg base
  bs : ∀ b o, base.get? b = some o → s.heap.get? b = some o ∧ H b = none
  bsz : base.objs.size ≤ s.heap.objs.size
  funs : s.heap.FunFrames base outer
  frf : ∀ b ∈ frs outer, H b = none
  hok : HOk P w H s.heap
  bare : AllBare s.gens
/-- a call's end -/
def CE (outer : List Env) (P : Program) (w : World) (H : Hp) (s : Shared) (Q : VK) (u : Value) (s' : Shared) : Prop :=
  ∃ v H', s'.os = s.os ∧ AllBare s'.gens ∧ Un (frs outer) [] H H' s.heap s'.heap ∧ HOk P w H' s'.heap ∧ RelV v u ∧ Q v H'
def CR (CX : CXT) (outer : List Env) (P : Program) (w : World) (H : Hp) (s : Shared) (Q : VK) (E : XK) (r : Result) (s' : Shared) : Prop :=
  match r with
  | .ok (.ret u) => CE outer P w H s Q u s'
  | .ok _ => False
  | .error e => CX outer H s E e s'
structure FnOk (P : Program) (w : World) (K : PySem.W.Frag) (mg : Str → Option Value) (base : Heap) (CX : CXT) (k : Nat) (f : Addr) (fd : FuncData) (ps : List Str) (sp : Sp) : Prop where
  len : ∀ vs H Q E, sp vs H Q E → vs.length = ps.length
  run : ∀ (A : Around) (outer : List Env) (s : Shared) (H : Hp) (args : Args) (us : List Value) (vs : List V) (Q : VK) (E : XK), Room k A → Env0 P w K mg base A outer s H → BindsTo s fd args (ps.zip us) → Vals vs us → sp vs H Q E →
    codeAny (model P w) A (.call (.ref f) args) (CR CX outer P w H s Q E) s
/-- a weaker promise -/
theorem FnOk.imp {P : Program} {w : World} {K : PySem.W.Frag} {mg : Str → Option Value} {base : Heap} {CX : CXT} {k : Nat} {f : Addr} {fd : FuncData} {ps : List Str} {sp sp' : Sp} (F : FnOk P w K mg base CX k f fd ps sp)
    (h : ∀ vs H Q E, sp' vs H Q E → sp vs H Q E) : FnOk P w K mg base CX k f fd ps sp' :=
  ⟨fun vs H Q E q => F.len vs H Q E (h _ _ _ _ q), fun A outer s H args us vs Q E hr he hb hv hs => F.run A outer s H args us vs Q E hr he hb hv (h _ _ _ _ hs)⟩

theorem Env0.make {P : Program} {w : World} {K : PySem.W.Frag} {mg : Str → Option Value} {base : Heap} {A : Around} {outer : List Env} {s : Shared} {H : Hp} (e : Env0 P w K mg base A outer s H) (C : Addr) (us : List Value) (kw : List (Str × Value)) :
    Env0 P w K mg base (A.under (.builtin "type.__call__" ⟨.ref C :: us, kw⟩)) outer s H := ⟨by first | exact e.frames | (simpa [Around.under, Code.envs, Code.isFrame, pushEnvs] using e.frames), e.mod, e.bs, e.bsz, e.funs, e.frf, e.hok, e.bare⟩

section
variable {X : Cx} {pins : List (Addr × Obj)} {σ : St} {H : Hp} {s s' : Shared}
/-- from a body: what a callee wants -/
theorem Inv.env0 (I : Inv X pins σ H s) : Env0 X.prog X.w X.K X.mg X.base X.A X.stack s H :=
  ⟨I.ok.frames, I.ok.mod, I.bs, Nat.le_trans I.ok.bsz I.sz, I.stack, I.stkFree, I.hok, I.bare⟩
/-- behind a call -/
theorem Inv.after {Q : VK} {u : Value} (I : Inv X pins σ H s) (h : CE X.stack X.prog X.w H s Q u s') : EP X pins σ Q u s' := by
  obtain ⟨v, H', os, bare, un, hok, r, q⟩ := h
  obtain ⟨hh, g, d, t, os'⟩ := s'
  obtain rfl : os' = s.os := os
  exact ⟨v, H', I.call (h' := hh) (g' := g) (d' := d) (t' := t) (ch := []) un hok bare (fun b z => absurd z (by simp)), r, q⟩
end

/-! ### calls -/
/-- f(..): the written arguments, then the defaults dvs; E: what is wanted of an exception -/
def tCall (sp : Sp) (dvs : List V) (E : XK) (t : TA) : TE := fun σ H Q => t σ H fun vs H1 => sp (vs ++ dvs) H1 Q E
/-- o.m(..) of an instance of the class at C -/
def tMeth (C : Addr) (m : Str) (sp : Sp) (dvs : List V) (E : XK) (ta : TE) (t : TA) : TE := fun σ H Q => ta σ H fun x H1 => ∃ a dx fs, x = .ref a ∧ H1 a = some (.ins C dx fs) ∧ fs.lookup m = none ∧
  t σ H1 fun vs H2 => sp (x :: (vs ++ dvs)) H2 Q E
/-- C(..): a new instance and its dict, then __init__ -/
def tMake (C : Addr) (sp : Sp) (dvs : List V) (E : XK) (t : TA) : TE := fun σ H Q => t σ H fun vs H1 => ∀ x dx, H1 x = none → H1 dx = none → dx ≠ x →
  sp (.ref x :: (vs ++ dvs)) (upd (upd H1 dx (.own x)) x (.ins C dx [])) (fun v H2 => v = .non ∧ Q (.ref x) H2) E

/-- how the parameters are bound: us the positional arguments, kw the keywords' values by name, ds the defaults that fill up -/
def Binds (K : PySem.W.Frag) (fd : FuncData) (ps : List Str) (ds : List Value) : Prop :=
  ∀ (s : Shared) (us : List Value), K.In s.heap → (us ++ ds).length = ps.length → BindsTo s fd ⟨us, []⟩ (ps.zip (us ++ ds))
/-- every parameter is given -/
theorem Binds.all {K : PySem.W.Frag} {fd : FuncData} {ps : List Str} (h : ∀ us : List Value, us.length = ps.length → bindArgs fd ⟨us, []⟩ = pure (ps.zip us)) : Binds K fd ps [] := fun s us _ hl => by
  rw [List.append_nil] at hl ⊢
  exact .of_eq (h us hl)

/-- an exception of a callee reaches what this body wants of exceptions -/
def Passes (CX : CXT) (X : Cx) (E : XK) : Prop := ∀ (pins : List (Addr × Obj)) (σ : St) (H : Hp) (s : Shared) (e : Value) (s' : Shared), Inv X pins σ H s → CX X.stack H s E e s' → X.xe e s'

section
variable {X : Cx} {CX : CXT} {k : Nat} {f C : Addr} {fd : FuncData} {ps : List Str} {sp : Sp} {dvs : List V} {ds : List Value} {E : XK} {x m : Str} {p pos apos : Pos} {e o : Expr} {es : List Expr} {ta : TE} {t : TA}

/-- the callee runs -/
theorem run_fn {pins : List (Addr × Obj)} {σ : St} {H : Hp} {s : Shared} {Q : VK} {us : List Value} {vs : List V} (F : FnOk X.prog X.w X.K X.mg X.base CX k f fd ps sp) (hr : Room k X.A) (hb : Binds X.K fd ps ds) (hd : Vals dvs ds) (hx : Passes CX X E)
    (I : Inv X pins σ H s) (r : Vals vs us) (h : sp (vs ++ dvs) H Q E) : wpAny (model X.prog X.w) X.A (call (.ref f) us) (EP X pins σ Q) X.xe s := by
  have r2 : Vals (vs ++ dvs) (us ++ ds) := r.append hd
  have hl : (us ++ ds).length = ps.length := by rw [← r2.length]; exact F.len _ _ _ _ h
  refine wpAny_call (codeAny_mono (F.run X.A X.stack s H ⟨us, []⟩ (us ++ ds) (vs ++ dvs) Q E hr I.env0 (hb s us I.kIn hl) r2 h) fun r s' hq => ?_)
  cases r with
  | error e => exact hx pins σ H s e s' I hq
  | ok fl =>
    cases fl with
    | ret u => exact I.after hq
    | next => exact False.elim hq
    | brk => exact False.elim hq
    | cont => exact False.elim hq

theorem pe_call (F : FnOk X.prog X.w X.K X.mg X.base CX k f fd ps sp) (hr : Room k X.A) (hg : Gl X x) (hm : X.mg x = some (.ref f)) (hk : PySem.W.keepIn X.K (.ref f) = true) (hb : Binds X.K fd ps ds) (hd : Vals dvs ds) (hx : Passes CX X E)
    (ha : PA X (e :: es) t) (hdb : (x == ("__debug__" : Str)) = false := by decide) (he : starEach (e :: es) X.env = (false, eval e X.env) :: starEach es X.env := by rfl) (hpl : (backTo pos (starEach es X.env)).any (·.1) = false := by rfl) :
    PE X (.Call (.Name x p) (e :: es) [] pos) (tCall sp dvs E t) := by
  intro pins s σ H Q I h
  refine wpAny_Call_Name_kw (ld_glob I hg hm ?_ hdb)
  refine PySem.W.callWith_K (h₀ := X.base) I.ok.mod.kin hk (thn (ha pos pins s σ H _ I h) fun us s1 ⟨vs, H1, I1, r, q⟩ => ⟨I1.kIn, ?_⟩) he hpl
  exact run_fn F hr hb hd hx I1 r q

/-- o.m(e, ..) -/
theorem pe_meth {pl : Sem Bool} (he : PE X o ta) (c : Cls X.K C) (hm : Meth X.K C m f) (F : FnOk X.prog X.w X.K X.mg X.base CX k f fd ps sp) (hr : Room k X.A) (hb : Binds X.K fd ps ds) (hd : Vals dvs ds) (hx : Passes CX X E) (ha : PA X (e :: es) t)
    (hst : starEach (e :: es) X.env = (false, eval e X.env) :: starEach es X.env := by rfl) (hpl : (backTo pos (starEach es X.env)).any (·.1) = false := by rfl)
    (ht : eval (.Call (.Attribute o m apos) (e :: es) [] pos) X.env = (do
      let ov ← eval o X.env
      standAt apos.atName
      let (f, first) ← holding [ov] (getMethod ov m pl)
      callWith pos f first (backTo pos (starEach (e :: es) X.env)) (backToKw pos (keywordEach [] X.env))) := by rfl) :
    PE X (.Call (.Attribute o m apos) (e :: es) [] pos) (tMeth C m sp dvs E ta t) := by
  intro pins s σ H Q I h
  refine PySem.W.methodCall_KW (pl := pl) (thn (he pins s σ H _ I h) fun u s1 ⟨x, H1, I1, rx, a, dx, fs, ex, ea, l, q⟩ => ?_) ht
  subst ex
  obtain rfl : u = Value.ref a := rx
  refine getmeth_ok I1 ea c hm l ?_
  refine PySem.W.callWith_K (first := [.ref a]) (h₀ := X.base) I.ok.mod.kin hm.kp (thn (ha pos pins s1 σ H1 _ I1 q) fun us s2 ⟨vs, H2, I2, r, q2⟩ => ⟨I2.kIn, ?_⟩) hst hpl
  exact run_fn (us := .ref a :: us) (vs := .ref a :: vs) F hr hb hd hx I2 (.cons rfl r) q2
/-- o.m() -/
theorem pe_meth0 {pl : Sem Bool} (he : PE X o ta) (c : Cls X.K C) (hm : Meth X.K C m f) (F : FnOk X.prog X.w X.K X.mg X.base CX k f fd ps sp) (hr : Room k X.A) (hb : Binds X.K fd ps ds) (hd : Vals dvs ds) (hx : Passes CX X E)
    (ht : eval (.Call (.Attribute o m apos) [] [] pos) X.env = (do
      let ov ← eval o X.env
      standAt apos.atName
      let (f, first) ← holding [ov] (getMethod ov m pl)
      callWith pos f first (backTo pos (starEach [] X.env)) (backToKw pos (keywordEach [] X.env))) := by rfl) :
    PE X (.Call (.Attribute o m apos) [] [] pos) (tMeth C m sp dvs E ta tNil) := by
  intro pins s σ H Q I h
  refine PySem.W.methodCall_KW (pl := pl) (thn (he pins s σ H _ I h) fun u s1 ⟨x, H1, I1, rx, a, dx, fs, ex, ea, l, q⟩ => ?_) ht
  subst ex
  obtain rfl : u = Value.ref a := rx
  refine getmeth_ok I1 ea c hm l ?_
  exact PySem.W.callWith_K0 (first := [.ref a]) I1.kIn hm.kp (run_fn (us := [.ref a]) (vs := [.ref a]) F hr hb hd hx I1 (.cons rfl .nil) q)

/-- what a class must have to be made -/
structure Mk (K : PySem.W.Frag) (C f : Addr) : Prop where
  makes : PySem.W.makesIn K C = true
  init : PySem.W.findIn K (.ref C) "__init__" = some (some (.ref f))
  fn : PySem.W.isFn K (.ref f) = true
  kp : PySem.W.keepIn K (.ref C) = true

theorem run_make {pins : List (Addr × Obj)} {σ : St} {H : Hp} {s : Shared} {Q : VK} {us : List Value} {vs : List V} (M : Mk X.K C f) (F : FnOk X.prog X.w X.K X.mg X.base CX k f fd ps sp) (hr : Room (k + 1) X.A) (hb : Binds X.K fd ps ds) (hd : Vals dvs ds)
    (hx : Passes CX X E) (I : Inv X pins σ H s) (r : Vals vs us)
    (h : ∀ x dx, H x = none → H dx = none → dx ≠ x → sp (.ref x :: (vs ++ dvs)) (upd (upd H dx (.own x)) x (.ins C dx [])) (fun v H2 => v = .non ∧ Q (.ref x) H2) E) :
    wpAny (model X.prog X.w) X.A (call (.ref C) us) (EP X pins σ Q) X.xe s := by
  have hq := h (s.heap.objs.size + 1) s.heap.objs.size (I.hok.fresh (Nat.le_succ _)) (I.hok.fresh (Nat.le_refl _)) (Nat.ne_of_lt (Nat.lt_succ_self _))
  have I2 := Inv.made (C := C) I
  have r2 : Vals (V.ref (s.heap.objs.size + 1) :: (vs ++ dvs)) (Value.ref (s.heap.objs.size + 1) :: (us ++ ds)) := .cons rfl (r.append hd)
  have hl : (Value.ref (s.heap.objs.size + 1) :: us ++ ds).length = ps.length := by
    have e := r2.length
    rw [F.len _ _ _ _ hq] at e
    exact e.symm
  refine wpAny_call (make_map (f := f) I.kIn M.makes M.init (beq_iff_eq.mp M.fn) (codeAny_mono (F.run _ X.stack _ _ ⟨Value.ref (s.heap.objs.size + 1) :: us, []⟩ (Value.ref (s.heap.objs.size + 1) :: (us ++ ds)) _ _ E (hr.make C us [])
    (I2.env0.make C us []) (hb _ (Value.ref (s.heap.objs.size + 1) :: us) I2.kIn hl) r2 hq) fun r s' hq' => ?_))
  cases r with
  | error e => exact hx pins σ _ _ e s' I2 hq'
  | ok fl =>
    cases fl with
    | ret u =>
      obtain ⟨v, H', I3, rv, ev, q3⟩ := I2.after hq'
      subst ev
      exact ⟨rv, ⟨V.ref (s.heap.objs.size + 1), H', I3, rfl, q3⟩⟩
    | next => exact False.elim hq'
    | brk => exact False.elim hq'
    | cont => exact False.elim hq'
theorem pe_make0 (M : Mk X.K C f) (F : FnOk X.prog X.w X.K X.mg X.base CX k f fd ps sp) (hr : Room (k + 1) X.A) (hg : Gl X x) (hm : X.mg x = some (.ref C)) (hb : Binds X.K fd ps ds) (hd : Vals dvs ds) (hx : Passes CX X E)
    (hdb : (x == ("__debug__" : Str)) = false := by decide) : PE X (.Call (.Name x p) [] [] pos) (tMake C sp dvs E tNil) := by
  intro pins s σ H Q I h
  refine wpAny_Call_Name_kw (ld_glob I hg hm ?_ hdb)
  exact PySem.W.callWith_K0 I.kIn M.kp (run_make (us := []) M F hr hb hd hx I .nil h)
end

/-! ### keywords -/
/-- the values of the keywords, from the left -/
def PK (X : Cx) (kws : List Keyword) (t : TA) : Prop :=
  ∀ (pos : Pos) (pins : List (Addr × Obj)) (s : Shared) (σ : St) (H : Hp) (Q : List V → Hp → Prop), Inv X pins σ H s → t σ H Q → wpAny (model X.prog X.w) X.A (evalAll ((backToKw pos (keywordEach kws X.env)).map (·.2))) (AP X pins σ Q) X.xe s
section
variable {X : Cx} {CX : CXT} {k : Nat} {f C : Addr} {fd : FuncData} {ps ks : List Str} {sp : Sp} {E : XK} {x m : Str} {p pos apos kpos : Pos} {e o : Expr} {es : List Expr} {kws : List Keyword} {te ta : TE} {t tk : TA} {nm : Option Str}

/-- how a call with keywords binds: g puts the positional values us and the keywords' values ws (names ks) in the parameters' order, defaults among them -/
structure KBinds (K : PySem.W.Frag) (fd : FuncData) (ps ks : List Str) (g : List Value → List Value → List Value) (gV : List V → List V → List V) : Prop where
  to : ∀ (s : Shared) (us ws : List Value), K.In s.heap → (g us ws).length = ps.length → BindsTo s fd ⟨us, ks.zip ws⟩ (ps.zip (g us ws))
  rel : ∀ {vs : List V} {us : List Value} {zs : List V} {ws : List Value}, Vals vs us → Vals zs ws → Vals (gV vs zs) (g us ws)
def tCallK (sp : Sp) (gV : List V → List V → List V) (E : XK) (t tk : TA) : TE := fun σ H Q => t σ H fun vs H1 => tk σ H1 fun zs H2 => sp (gV vs zs) H2 Q E
variable {g : List Value → List Value → List Value} {gV : List V → List V → List V}
theorem run_fnk {pins : List (Addr × Obj)} {σ : St} {H : Hp} {s : Shared} {Q : VK} {us ws : List Value} {vs zs : List V} (F : FnOk X.prog X.w X.K X.mg X.base CX k f fd ps sp) (hr : Room k X.A) (hb : KBinds X.K fd ps ks g gV) (hx : Passes CX X E)
    (I : Inv X pins σ H s) (r : Vals vs us) (rz : Vals zs ws) (h : sp (gV vs zs) H Q E) : wpAny (model X.prog X.w) X.A (call (.ref f) us (ks.zip ws)) (EP X pins σ Q) X.xe s := by
  have r2 := hb.rel r rz
  have hl : (g us ws).length = ps.length := by rw [← r2.length]; exact F.len _ _ _ _ h
  refine wpAny_call (codeAny_mono (F.run X.A X.stack s H ⟨us, ks.zip ws⟩ (g us ws) (gV vs zs) Q E hr I.env0 (hb.to s us ws I.kIn hl) r2 h) fun r s' hq => ?_)
  cases r with
  | error e => exact hx pins σ H s e s' I hq
  | ok fl =>
    cases fl with
    | ret u => exact I.after hq
    | next => exact False.elim hq
    | brk => exact False.elim hq
    | cont => exact False.elim hq
/-- f(e, .., k = v, ..) -/
theorem pe_callK (F : FnOk X.prog X.w X.K X.mg X.base CX k f fd ps sp) (hr : Room k X.A) (hg : Gl X x) (hm : X.mg x = some (.ref f)) (hk : PySem.W.keepIn X.K (.ref f) = true) (hb : KBinds X.K fd ps ks g gV) (hx : Passes CX X E)
    (ha : PA X (e :: es) t) (hkw : PK X kws tk) (hall : (backToKw pos (keywordEach kws X.env)).all (·.1.isSome) = true := by rfl) (hks : (backToKw pos (keywordEach kws X.env)).filterMap (·.1) = ks := by rfl)
    (hdb : (x == ("__debug__" : Str)) = false := by decide) (he : starEach (e :: es) X.env = (false, eval e X.env) :: starEach es X.env := by rfl)
    (hpl : ((backTo pos (starEach (e :: es) X.env)).any (·.1) || (backToKw pos (keywordEach kws X.env)).any (·.1.isNone)) = false := by rfl) :
    PE X (.Call (.Name x p) (e :: es) kws pos) (tCallK sp gV E t tk) := by
  intro pins s σ H Q I h
  refine wpAny_Call_Name_kw (ld_glob I hg hm ?_ hdb)
  refine PySem.W.callWith_KW (h₀ := X.base) I.ok.mod.kin hk hall (thn (ha pos pins s σ H _ I h) fun us s1 ⟨vs, H1, I1, r, q⟩ => ?_) hpl he
  refine thn (hkw pos pins s1 σ H1 _ I1 q) fun ws s2 ⟨zs, H2, I2, rz, q2⟩ => ⟨I2.kIn, ?_⟩
  rw [hks]
  exact run_fnk F hr hb hx I2 r rz q2
end

/-! ### a def's body keeps its promise -/
/-- names: the parameters first -/
structure FnScope (N P : List Str) (sc : Scope) : Prop where
  kind : sc.kind = .function
  co : sc.isCoroutine = false
  gen : sc.isGenerator = false
  nd : N.Nodup
  pre : N.take P.length = P
  par : ∀ x ∈ P, sc.names.lookup x = some .local ∨ sc.names.lookup x = some .cell
  nofree : ∀ y ∈ sc.names, y.2 ≠ .free

theorem bindL_out {kindOf : Str → Option NameKind} {x : Str} : ∀ {binds : List (Str × Value)} {m : Str → Option Value}, (∀ v, (x, v) ∉ binds) → bindL kindOf binds m x = m x
  | [], _, _ => rfl
  | (n, v) :: r, m, h => by
    unfold bindL
    rw [bindL_out fun w hw => h w (List.mem_cons_of_mem _ hw)]
    split
    · have : x ≠ n := by rintro rfl; exact h v List.mem_cons_self
      simp [this]
    · rfl
theorem bindC_out {kindOf : Str → Option NameKind} {x : Str} : ∀ {binds : List (Str × Value)} {m : Str → Option Value}, (∀ v, (x, v) ∉ binds) → bindC kindOf binds m x = m x
  | [], _, _ => rfl
  | (n, v) :: r, m, h => by
    unfold bindC
    rw [bindC_out fun w hw => h w (List.mem_cons_of_mem _ hw)]
    split
    · rfl
    · have : x ≠ n := by rintro rfl; exact h v List.mem_cons_self
      simp [this]
theorem bindL_get {kindOf : Str → Option NameKind} {x : Str} {v : Value} : ∀ {P : List Str} {vs : List Value} {i : Nat} {m : Str → Option Value}, P.Nodup → P[i]? = some x → vs[i]? = some v → kindOf x = some .local →
    bindL kindOf (P.zip vs) m x = some v
  | [], _, _, _, _, h, _, _ => by simp at h
  | _ :: _, [], _, _, _, _, h, _ => by simp at h
  | p :: P, w :: vs, 0, m, nd, h1, h2, hk => by
    simp at h1 h2; subst h1; subst h2
    show bindL kindOf ((p, w) :: P.zip vs) m p = _
    unfold bindL
    rw [bindL_out fun v hv => (List.nodup_cons.mp nd).1 (List.of_mem_zip hv).1, if_pos hk]
    simp
  | p :: P, w :: vs, i + 1, m, nd, h1, h2, hk => by
    show bindL kindOf ((p, w) :: P.zip vs) m x = _
    unfold bindL
    exact bindL_get (i := i) (List.nodup_cons.mp nd).2 (by simpa using h1) (by simpa using h2) hk
theorem bindC_get {kindOf : Str → Option NameKind} {x : Str} {v : Value} : ∀ {P : List Str} {vs : List Value} {i : Nat} {m : Str → Option Value}, P.Nodup → P[i]? = some x → vs[i]? = some v → kindOf x ≠ some .local →
    bindC kindOf (P.zip vs) m x = some v
  | [], _, _, _, _, h, _, _ => by simp at h
  | _ :: _, [], _, _, _, _, h, _ => by simp at h
  | p :: P, w :: vs, 0, m, nd, h1, h2, hk => by
    simp at h1 h2; subst h1; subst h2
    show bindC kindOf ((p, w) :: P.zip vs) m p = _
    unfold bindC
    rw [bindC_out fun v hv => (List.nodup_cons.mp nd).1 (List.of_mem_zip hv).1, if_neg hk]
    simp
  | p :: P, w :: vs, i + 1, m, nd, h1, h2, hk => by
    show bindC kindOf ((p, w) :: P.zip vs) m x = _
    unfold bindC
    exact bindC_get (i := i) (List.nodup_cons.mp nd).2 (by simpa using h1) (by simpa using h2) hk

/-- the names' values at the entry -/
def start (N : List Str) (vs : List V) : St := vs.map some ++ List.replicate (N.length - vs.length) none

/-- the context of a def's body, at its entry; an exception leaves the frame, then lies as CX says -/
def cxOf (CX : CXT) (P : Program) (w : World) (K : PySem.W.Frag) (mg : Str → Option Value) (base : Heap) (N : List Str) (qual : Str) (scope : Scope) (f : Addr) (cd : Value) (A : Around) (outer : List Env) (s : Shared) (H : Hp) (E : XK) : Cx where
  prog := P
  w := w
  K := K
  mg := mg
  base := base
  A := A.deeper (envOfC qual scope s.heap.objs.size f cd)
  N := N
  s₀ := s
  H₀ := H
  env := envOfC qual scope s.heap.objs.size f cd
  outer := outer
  stack := envOfC qual scope s.heap.objs.size f cd :: outer
  ex := []
  calm := true
  fn := fun _ => true
  pn := []
  xe := fun e s' => wpAny (model P w) (A.deeper (envOfC qual scope s.heap.objs.size f cd)) (leaving (envOfC qual scope s.heap.objs.size f cd) e) (fun _ s'' => CX outer H s E e s'') (fun e' s'' => CX outer H s E e' s'') s'

theorem cell_has {sc : Scope} {n : Nat} {x : Str} (h : sc.names.lookup x = some .cell) : ∃ c, (cellsFrom n sc.names []).lookup x = some c := by
  have q := PySem.W.cellsFrom_some sc.names n [] (.inl h)
  exact Option.isSome_iff_exists.mp q

theorem inv_start {CX : CXT} {P : Program} {w : World} {K : PySem.W.Frag} {mg : Str → Option Value} {base : Heap} {N ps : List Str} {qual : Str} {scope : Scope} {f : Addr} {cd : Value} {A : Around} {outer : List Env} {s s1 : Shared} {H : Hp} {E : XK} {us : List Value} {vs : List V}
    (S : FnScope N ps scope) (hd : A.handled = none) (e0 : Env0 P w K mg base A outer s H) (hl : vs.length = ps.length) (r : Vals vs us)
    (x : InCallC s s.heap.objs.size (bindL (envOfC qual scope s.heap.objs.size f cd).kindOf (ps.zip us) fun _ => none) (cellsFrom (s.heap.objs.size + 1) scope.names []) (bindC (envOfC qual scope s.heap.objs.size f cd).kindOf (ps.zip us) fun _ => none) s1) :
    Inv (cxOf CX P w K mg base N qual scope f cd A outer s H E) [] (start N vs) H s1 := by
  have hpl : ps.length ≤ N.length := by have := congrArg List.length S.pre; rw [List.length_take] at this; omega
  obtain ⟨h1, tk, rfl, hk⟩ := x.done
  have noA : ∀ b : Addr, b ∉ (cxOf CX P w K mg base N qual scope f cd A outer s H E).ex := fun b z => absurd (show b ∈ ([] : List Addr) from z) (by simp)
  refine ⟨⟨e0.mod, S.kind, rfl, rfl, Nat.le_refl _, fun y z c h1 h2 => ?_, fun y hy => ?_, fun y c _ h => ?_, fun _ => hd, Around.frames_deeper e0.frames, .inr ⟨rfl, rfl⟩, fun b z => absurd z (noA b), e0.bs, e0.bsz, fun b _ _ => noA b, fun b z => absurd z (noA b), e0.funs, e0.frf⟩,
    rfl, e0.bare, Un.kept hk, ⟨_, x.toInCall.ns, fun i y v h1 h2 h3 => ?_⟩, fun y c h => ⟨_, x.cell y c h⟩, e0.hok.fresh (Nat.le_refl _), fun y c h => ?_, fun p hp => absurd (show p ∈ ([] : List (Addr × Obj)) from hp) (by simp), e0.hok.kept hk, ?_⟩
  · exact name_of_addr x.apart (PySem.mem_of_lookup h1) (PySem.mem_of_lookup h2)
  · have hy : scope.names.lookup y = some .cell ∨ scope.names.lookup y = some .free := hy
    rcases hy with hy | hy
    · exact cell_has hy
    · exact absurd rfl (S.nofree _ (PySem.mem_of_lookup hy))
  · exact Nat.le_of_lt (x.above y c (PySem.mem_of_lookup h))
  · have hi : i < vs.length := by
      unfold start at h2
      by_cases hi : i < vs.length
      · exact hi
      · rw [List.getElem?_append_right (by simpa using hi)] at h2
        rw [List.getElem?_replicate] at h2
        split at h2 <;> cases h2
    have ha : vs[i]? = some v := by
      unfold start at h2
      rw [List.getElem?_append_left (by simpa using hi), List.getElem?_map] at h2
      cases e : vs[i]? with
      | none => rw [e] at h2; cases h2
      | some a => rw [e] at h2; cases h2; rfl
    obtain ⟨u, hu, rv⟩ := r.get ha
    have hp : ps[i]? = some y := by
      rw [← S.pre, List.getElem?_take_of_lt (by omega)]; exact h1
    have ndP : ps.Nodup := by rw [← S.pre]; exact S.nd.sublist (List.take_sublist _ _)
    refine ⟨u, rv, ?_⟩
    rcases S.par y (List.mem_of_getElem? hp) with k | k
    · exact .inl ⟨k, bindL_get ndP hp hu k⟩
    · obtain ⟨c, e⟩ := cell_has (n := s.heap.objs.size + 1) k
      refine .inr ⟨.inl k, c, e, ?_⟩
      have q := x.cell y c e
      rw [bindC_get ndP hp hu (by show scope.names.lookup y ≠ _; rw [k]; decide)] at q
      exact q
  · exact e0.hok.fresh (Nat.le_of_lt (x.above y c (PySem.mem_of_lookup h)))
  · unfold start
    show _ = N.length
    rw [List.length_append, List.length_map, List.length_replicate]
    omega

/-- THE RULE: a def (or a method) of the text, by its body. The body's reading t is chosen for each entry; it is run at the parameters' values -/
theorem fn_of {CX : CXT} {P : Program} {w : World} {K : PySem.W.Frag} {mg : Str → Option Value} {base : Heap} {k : Nat} {f : Addr} {name qual : Str} {params : Arguments} {body : List Stmt} {scope : Scope} {dV kV doc pm cdv ct oc : Value} {an od : Option Addr}
    {osl : Array (Option Value)} {N ps : List Str} {sp : Sp} (lk : K.lookup f = some ⟨oc, od, .func (PySem.W.fnOf name qual params body scope dV kV doc pm an cdv ct), osl⟩) (hcd : PySem.W.codeIn K cdv qual = true) (S : FnScope N ps scope)
    (len : ∀ vs H Q E, sp vs H Q E → vs.length = ps.length)
    (hbody : ∀ (A : Around) (outer : List Env) (s : Shared) (H : Hp) (vs : List V) (Q : VK) (E : XK), Room k (A.deeper (envOfC qual scope s.heap.objs.size f cdv)) → sp vs H Q E →
      ∃ t, PSs (cxOf CX P w K mg base N qual scope f cdv A outer s H E) body t ∧ t { nx := fun _ H' => Q .non H', rt := Q } (start N vs) H) :
    FnOk P w K mg base CX (k + 1) f (PySem.W.fnOf name qual params body scope dV kV doc pm an cdv ct) ps sp := by
  refine ⟨len, fun A outer s H args us vs Q E hr e0 hb r hsp => ?_⟩
  have hl := len _ _ _ _ hsp
  have KX : K.In s.heap := e0.mod.kin.keeps fun b o e => (e0.bs b o e).1
  have lim : s.heap.NoLimit := e0.mod.nolimit.keeps fun b o e => (e0.bs b o e).1
  have hkind : ∀ y ∈ ps.zip us, scope.names.lookup y.1 = some .local ∨ (scope.names.lookup y.1 = some .cell ∧ ((cellsFrom (s.heap.objs.size + 1) scope.names []).lookup y.1).isSome = true) := fun ⟨n, v⟩ hy => by
    rcases S.par n (List.of_mem_zip hy).1 with q | q
    · exact .inl q
    · exact .inr ⟨q, PySem.W.cellsFrom_some _ _ _ (.inl q)⟩
  refine codeAny_call_function hr.depth (KX _ _ lk) rfl S.co S.gen rfl (PySem.W.codeRec_of KX hcd) (hb _ _ _ _ ?_)
  refine wpAny_newFunctionEnv_cells S.kind hkind fun env he s1 x => ?_
  subst he
  refine ⟨lim.keeps x.toInCall.keep, codeAny_func ?_⟩
  obtain ⟨t, ht, hq⟩ := hbody A outer s H vs Q E (hr.deeper _) hsp
  have I : Inv (cxOf CX P w K mg base N qual scope f cdv A outer s H E) [] (start N vs) H s1 := inv_start S hr.hd e0 hl r x
  refine wpAny_mono (ht [] s1 (start N vs) H _ I hq) (fun fl s' hs => ?_) fun e s' hs => hs
  have fin : ∀ {σ' : St} {H' : Hp} {v : V} {u : Value}, Inv (cxOf CX P w K mg base N qual scope f cdv A outer s H E) [] σ' H' s' → RelV v u → Q v H' → CE outer P w H s Q u s' :=
    fun {σ' H' v u} J rv q => ⟨v, H', J.os, J.bare, J.base, J.hok, rv, q⟩
  cases fl with
  | ret u =>
    obtain ⟨v, σ', H', J, rv, q⟩ := hs
    exact fin J rv q
  | next =>
    obtain ⟨σ', H', J, q⟩ := hs
    exact fin (v := V.non) (u := Value.none) J rfl q
  | brk =>
    obtain ⟨_, _, _, q⟩ := hs
    exact False.elim q
  | cont =>
    obtain ⟨_, _, _, q⟩ := hs
    exact False.elim q
end L2

namespace L2
open PySem PySem.Spec PyProof.Rows
section
variable {X : Cx} {x : Str} {p pos : Pos} {e : Expr} {es : List Expr} {t : TA} {id T : String} {r : List V → Hp → VK → Prop}

def tCB (r : List V → Hp → VK → Prop) (t : TA) : TE := fun σ H Q => t σ H fun vs H1 => r vs H1 Q
/-- f(e, ..), f a built-in function -/
theorem pe_callB (hc : CallR X (.builtin id) r) (hg : Gl X x) (hm : X.mg x = none) (hv : bootBuiltins x = some (.builtin id)) (ha : PA X (e :: es) t) (hn : x ≠ "__name__" := by decide) (hdb : (x == ("__debug__" : Str)) = false := by decide)
    (he : starEach (e :: es) X.env = (false, eval e X.env) :: starEach es X.env := by rfl) (hpl : (backTo pos (starEach es X.env)).any (·.1) = false := by rfl) : PE X (.Call (.Name x p) (e :: es) [] pos) (tCB r t) := by
  intro pins s σ H Q I h
  refine wpAny_Call_Name_kw (ld_blt I hg hm hv ?_ hn hdb)
  exact PyProof.Rows.callWith_builtin1 (thn (ha pos pins s σ H _ I h) fun us s1 ⟨vs, H1, I1, r1, q1⟩ => hc pins s1 σ H1 vs us Q I1 r1 q1) he hpl
/-- T(e, ..), T a built-in type -/
theorem pe_callTy (hc : CallR X (.type T) r) (hg : Gl X x) (hm : X.mg x = none) (hv : bootBuiltins x = some (.type T)) (ha : PA X (e :: es) t) (hn : x ≠ "__name__" := by decide) (hdb : (x == ("__debug__" : Str)) = false := by decide)
    (he : starEach (e :: es) X.env = (false, eval e X.env) :: starEach es X.env := by rfl) (hpl : (backTo pos (starEach es X.env)).any (·.1) = false := by rfl) : PE X (.Call (.Name x p) (e :: es) [] pos) (tCB r t) := by
  intro pins s σ H Q I h
  refine wpAny_Call_Name_kw (ld_blt I hg hm hv ?_ hn hdb)
  exact PyProof.Rows.callWith_type1 (thn (ha pos pins s σ H _ I h) fun us s1 ⟨vs, H1, I1, r1, q1⟩ => hc pins s1 σ H1 vs us Q I1 r1 q1) he hpl
/-- T() -/
theorem pe_callTy0 (hc : CallR X (.type T) r) (hg : Gl X x) (hm : X.mg x = none) (hv : bootBuiltins x = some (.type T)) (hn : x ≠ "__name__" := by decide) (hdb : (x == ("__debug__" : Str)) = false := by decide) :
    PE X (.Call (.Name x p) [] [] pos) (tCB r tNil) := by
  intro pins s σ H Q I h
  refine wpAny_Call_Name_kw (ld_blt I hg hm hv ?_ hn hdb)
  exact PyProof.Rows.callWith_type0 (hc pins s σ H [] [] Q I .nil h)
end
end L2

namespace HT
open PySem PyProof.Rows

/-- t < u of tuples of ints -/
def lexLt : List Int → List Int → Bool
  | [], [] => false
  | [], _ :: _ => true
  | _ :: _, [] => false
  | x :: xs, y :: ys => if x = y then lexLt xs ys else decide (x < y)


section
open PySem.SeqAt
open PySem.AutoSeq1 (wpAny_loadPart')
open PySem.MeetsSeq PySem.MeetsSeq2 PySem.MeetsSeq3

end

section
variable {prog : Program} {w : World} {A : Around} {E : Value → Shared → Prop} {s : Shared}


/-- t + u, t not empty -/
theorem cat_tup {t b : Addr} {vs ws : List Value} {Q : Value → Shared → Prop} (ht : IsTup s.heap t vs.toArray) (hb : IsTup s.heap b ws.toArray) (hv : vs ≠ [])
    (h1 : ws = [] → Q (.ref t) s) (h2 : ws ≠ [] → Q (.ref s.heap.objs.size) { s with heap := s.heap.push { cls := .type "tuple", data := .seq (vs ++ ws).toArray } })
    (hsz : vs.length + ws.length ≤ sizeLine) : wpAny (model prog w) A (binaryOp .Add (.ref t) (.ref b)) Q E s := by
  obtain ⟨⟨cls, dd, data, sl⟩, ho, hc, n, hd⟩ := id ht
  obtain ⟨⟨cls2, dd2, data2, sl2⟩, ho2, hc2, n2, hd2⟩ := id hb
  simp only at hc hd hc2 hd2
  subst hc hd hc2 hd2
  have e : vs.toArray ++ ws.toArray = (vs ++ ws).toArray := by simp
  by_cases hw : ws = []
  · exact concat_meets ⟨_, ho, rfl⟩ ⟨_, ho2, rfl⟩ noFill_tuple_add seq_tuple_add PySem.F.slot_tuple_add PySem.F.entry_tuple_add (PySem.F.args_tuple_add_2 _ _)
      (tuple_addW1 t b vs.toArray ws.toArray n n2 dd dd2 sl sl2 (by simpa using hv) (by simp [hw])) ⟨ho, ho2, h1 hw⟩
  · refine concat_meets ⟨_, ho, rfl⟩ ⟨_, ho2, rfl⟩ noFill_tuple_add seq_tuple_add PySem.F.slot_tuple_add PySem.F.entry_tuple_add (PySem.F.args_tuple_add_2 _ _)
      (tuple_addW2 t b vs.toArray ws.toArray n n2 dd dd2 sl sl2 (by simpa using hv) (by simpa using hw) (by rw [List.size_toArray, List.size_toArray]; exact hsz)) ⟨ho, ho2, ?_⟩
    rw [e]
    exact h2 hw

/-! ### t[a:b], not the whole -/
/-- a slice's bound as a place among n (d where it is left out) -/
def sIx (n d : Nat) : Option Int → Nat
  | none => d
  | some v => if v < 0 then (v + (n : Int)).toNat else min v.toNat n
theorem sIx_none (n d : Nat) : sIx n d none = d := rfl
theorem sIx_nat (n d k : Nat) : sIx n d (some (k : Int)) = min k n := by
  show (if (k : Int) < 0 then ((k : Int) + (n : Int)).toNat else min (k : Int).toNat n) = min k n
  rw [if_neg (by omega), Int.toNat_natCast]
theorem sIx_le (n d : Nat) (hd : d ≤ n) (o : Option Int) : sIx n d o ≤ n := by
  cases o with
  | none => exact hd
  | some v =>
    show (if v < 0 then (v + (n : Int)).toNat else min v.toNat n) ≤ n
    by_cases hv : v < 0
    · rw [if_pos hv]; omega
    · rw [if_neg hv]; exact Nat.min_le_right _ _
theorem clip_eq (v : Int) (n d : Nat) : (if v < 0 then max (v + (n : Int)) 0 else min v (n : Int)) = ((sIx n d (some v) : Nat) : Int) := by
  show (if v < 0 then max (v + (n : Int)) 0 else min v (n : Int)) = (((if v < 0 then (v + (n : Int)).toNat else min v.toNat n) : Nat) : Int)
  by_cases hv : v < 0
  · simp only [if_pos hv]; omega
  · simp only [if_neg hv]; omega
theorem adjust_gen (lo hi : Option Int) (n : Nat) : Builtin.Slice.sliceAdjust lo hi 1 (n : Int) = (((sIx n 0 lo : Nat) : Int), ((sIx n n hi : Nat) : Int)) := by
  have h1 : ¬ ((1 : Int) < 0) := by omega
  unfold Builtin.Slice.sliceAdjust
  simp only [h1, if_false]
  refine Prod.ext ?_ ?_
  · cases lo with
    | none => rfl
    | some v => exact clip_eq v n 0
  · cases hi with
    | none => rfl
    | some v => exact clip_eq v n n
theorem places_gen (i j : Nat) : Builtin.Slice.slicePlaces (i : Int) (j : Int) 1 = j - i := by
  unfold Builtin.Slice.slicePlaces
  have h1 : (1 : Int) > 0 := by omega
  simp only [h1, if_true, Int.ediv_one]
  split <;> omega
theorem slicePart_ {v : Value} {o : Option Int} {Q : Option Int → Shared → Prop} (p : IsPart v o) (h : Q o s) : wpAny (model prog w) A (Builtin.Slice.slicePartIndex v) Q E s := by
  cases p with
  | none => exact slicePart_none h
  | int i t => exact slicePart_int h
theorem sliceApplied_gen {sl : Addr} {vl vu : Value} {lo hi : Option Int} {n : Nat} {Q : Int × Int × Nat → Shared → Prop} (hs : s.heap.IsSliceOf sl vl vu .none) (pl : IsPart vl lo) (pu : IsPart vu hi)
    (h : Q (((sIx n 0 lo : Nat) : Int), 1, sIx n n hi - sIx n 0 lo) s) : wpAny (model prog w) A (Builtin.Slice.sliceApplied (.ref sl) (pure (n : Int))) Q E s := by
  obtain ⟨os, hos, hcs, hds⟩ := id hs
  unfold Builtin.Slice.sliceApplied Builtin.Slice.sliceFields
  refine wpAny_bind (wpAny_bind (wpAny_field hos hds (x := vl) rfl (wpAny_bind (wpAny_field hos hds (x := vu) rfl (wpAny_bind (wpAny_field hos hds (x := .none) rfl (wpAny_pure ?_)))))))
  refine wpAny_bind (slicePart_none ?_)
  show wpAny _ _ (if ((1 : Int) == 0) = true then _ else _) _ _ s
  rw [if_neg (by decide)]
  refine wpAny_bind (slicePart_ pl (wpAny_bind (slicePart_ pu (wpAny_bind (wpAny_pure ?_)))))
  show wpAny _ _ (match Builtin.Slice.sliceAdjust lo hi 1 (n : Int) with | (lo, hi) => pure (lo, (1 : Int), Builtin.Slice.slicePlaces lo hi 1)) _ _ s
  rw [adjust_gen lo hi n]
  show wpAny _ _ (pure (((sIx n 0 lo : Nat) : Int), (1 : Int), Builtin.Slice.slicePlaces ((sIx n 0 lo : Nat) : Int) ((sIx n n hi : Nat) : Int) 1)) _ _ s
  rw [places_gen]
  exact wpAny_pure h
theorem pick_gen (xs : Array Value) (i k : Nat) : ((List.range k).filterMap fun (m : Nat) => xs[((i : Int) + (m : Int) * 1).toNat]?).toArray = ((xs.toList.drop i).take k).toArray := by
  have e : (fun (m : Nat) => xs[((i : Int) + (m : Int) * 1).toNat]?) = fun m => xs[i + m]? := by
    funext m
    have : ((i : Int) + (m : Int) * 1).toNat = i + m := by omega
    rw [this]
  rw [e]
  have := pick_run xs i k
  rw [List.filterMap_map] at this
  have e2 : ((fun x => xs[x]?) ∘ fun x => i + x) = fun m => xs[i + m]? := rfl
  rw [e2] at this
  rw [this]

theorem getItem_tuple_cut {t sl : Addr} {items : Array Value} {vl vu : Value} {lo hi : Option Int} {Q : Value → Shared → Prop} (ht : IsTup s.heap t items) (hs : s.heap.IsSliceOf sl vl vu .none) (pl : IsPart vl lo) (pu : IsPart vu hi)
    (hw : ¬ (sIx items.size 0 lo = 0 ∧ sIx items.size items.size hi = items.size))
    (h : Q (.ref s.heap.objs.size) { s with heap := s.heap.push { cls := .type "tuple", data := .seq ((items.toList.drop (sIx items.size 0 lo)).take (sIx items.size items.size hi - sIx items.size 0 lo)).toArray } })
    (hsz : items.size ≤ sizeLine) : wpAny (model prog w) A (getItem (.ref t) (.ref sl)) Q E s := by
  have htake : sizeOk (.seq ((items.toList.drop (sIx items.size 0 lo)).take (sIx items.size items.size hi - sIx items.size 0 lo)).toArray) := by
    show ((items.toList.drop (sIx items.size 0 lo)).take (sIx items.size items.size hi - sIx items.size 0 lo)).toArray.size ≤ sizeLine
    rw [List.size_toArray, List.length_take, List.length_drop, Array.length_toList]
    omega
  have hj : sIx items.size items.size hi ≤ items.size := sIx_le _ _ (Nat.le_refl _) hi
  obtain ⟨os, hos, hcs, hds⟩ := id hs
  have hTs : s.TypeIs (.ref sl) "slice" := ⟨os, hos, hcs⟩
  unfold getItem
  try with_reducible refine wpAny_holding ?_
  first | refine wpAny_bind (wpAny_pure ?_) | skip
  refine wpAny_bind (wpAny_sequenceKey ht.typeIs (by decide) ?_)
  refine wpAny_bind (wpAny_callSpecial?_slot (name := Str.ofString "__getitem__") ht.typeIs PyProof.Rows.slot_tuple_getitem
    (wpAny_call_entry PyProof.Rows.slot_tuple_getitem ht.typeIs entry_tuple_getitem ?_ (args_tuple_getitem _ _)))
  show wpAny _ _ (Builtin.Tuple.tupleItemsOf (.ref t) >>= _) _ _ s
  refine wpAny_bind (tupleItemsOf_ ht ?_)
  refine wpAny_bind (wpAny_typeOf hTs ?_)
  rw [if_pos (by decide)]
  refine wpAny_bind (sliceApplied_gen hs pl pu ?_)
  have hno : ¬ ((((sIx items.size 0 lo : Nat) : Int) == 0 && (1 : Int) == 1 && (sIx items.size items.size hi - sIx items.size 0 lo) == items.size) = true) := by
    intro q
    rw [Bool.and_eq_true, Bool.and_eq_true] at q
    have q1 : ((sIx items.size 0 lo : Nat) : Int) = 0 := eq_of_beq q.1.1
    have q2 : sIx items.size items.size hi - sIx items.size 0 lo = items.size := eq_of_beq q.2
    exact hw ⟨by omega, by omega⟩
  show wpAny _ _ (if (((sIx items.size 0 lo : Nat) : Int) == 0 && (1 : Int) == 1 && (sIx items.size items.size hi - sIx items.size 0 lo) == items.size) = true then _ else _) _ _ s
  rw [if_neg hno, pick_gen]
  first
    | exact wpAny_bind (m := Builtin.Tuple.tupleExact _) (wpAny_newObj_type (wpAny_pure ⟨_, rfl, wpAny_pure h⟩) htake)
    | exact wpAny_bind (m := Builtin.Tuple.tupleExact _) (wpAny_newObj_type (wpAny_bind (wpAny_pure (wpAny_pure ⟨_, rfl, wpAny_pure h⟩))) htake)
    | exact wpAny_bind (wpAny_bind (m := Builtin.Tuple.tupleExact _) (wpAny_newObj_type (wpAny_pure (wpAny_pure ⟨_, rfl, wpAny_pure h⟩)) htake))
    | exact wpAny_bind (wpAny_bind (m := Builtin.Tuple.tupleExact _) (wpAny_newObj_type (wpAny_pure ⟨_, rfl, wpAny_pure h⟩) htake))
end
end HT

namespace L2
open PySem PySem.Spec PyProof.Rows

/-! ### the parts of a slice -/
abbrev TO := St → Hp → (Option Int → Hp → Prop) → Prop
/-- a slice's part (left out, or an int) -/
def PO (X : Cx) (e : Option Expr) (t : TO) : Prop :=
  ∀ (pins : List (Addr × Obj)) (s : Shared) (σ : St) (H : Hp) (Q : Option Int → Hp → Prop), Inv X pins σ H s → t σ H Q →
    wpAny (model X.prog X.w) X.A (evalPart e X.env) (fun u s' => ∃ o H', Inv X pins σ H' s' ∧ IsPart u o ∧ Q o H') X.xe s
def tNoPart : TO := fun _ H Q => Q none H
def tPart (t : TE) : TO := fun σ H Q => t σ H fun x H1 => ∃ i, x = .int i ∧ Q (some i) H1


section
variable {X : Cx} {e : Expr} {te : TE} {lo hi : Option Expr} {tl th : TO} {pos p2 : Pos}

theorem po_none : PO X none tNoPart := by
  intro pins s σ H Q I h
  rw [evalPart_none]
  exact wpAny_pure ⟨none, H, I, .none, h⟩
theorem po_some (h : PE X e te) : PO X (some e) (tPart te) := by
  intro pins s σ H Q I hw
  rw [evalPart_some]
  refine thn (h pins s σ H _ I hw) fun u s1 ⟨x, H1, I1, r1, q1⟩ => ?_
  obtain ⟨i, rfl, q⟩ := q1
  obtain ⟨t, rfl⟩ := r1
  exact ⟨some i, H1, I1, .int i t, q⟩

/-- what a slice of a value is, by values: the slice object stands at sl -/
def SlR (X : Cx) (r : V → Option Int → Option Int → Hp → VK → Prop) : Prop :=
  ∀ (pins : List (Addr × Obj)) (s : Shared) (σ : St) (H : Hp) (x : V) (v vl vu : Value) (lo hi : Option Int) (sl : Addr) (Q : VK), Inv X pins σ H s → RelV x v → s.heap.IsSliceOf sl vl vu .none → IsPart vl lo → IsPart vu hi → r x lo hi H Q →
    ∃ T id, typeLookup (.type T) "__getitem__" = pure (some (.builtin id)) ∧ s.TypeIs v T ∧ wpAny (model X.prog X.w) X.A (getItem v (.ref sl)) (EP X pins σ Q) X.xe s
def tSl (r : V → Option Int → Option Int → Hp → VK → Prop) (te : TE) (tl th : TO) : TE := fun σ H Q => te σ H fun x H1 => tl σ H1 fun l H2 => th σ H2 fun u H3 => r x l u H3 Q
/-- a[lo:hi], any a -/
theorem pe_slice {r : V → Option Int → Option Int → Hp → VK → Prop} (hr : SlR X r) (he : PE X e te) (hl : PO X lo tl) (hu : PO X hi th) : PE X (.Subscript e (.Slice lo hi none p2) pos) (tSl r te tl th) := by
  intro pins s σ H Q I h
  refine Subscript_ (thn (he pins s σ H _ I h) fun v s1 ⟨x, H1, I1, r1, q1⟩ => ?_)
  refine wpAny_Slice (thn (hl pins s1 σ H1 _ I1 q1) fun vl s2 ⟨l, H2, I2, pl, q2⟩ => thn (hu pins s2 σ H2 _ I2 q2) fun vu s3 ⟨u, H3, I3, pu, q3⟩ => ?_)
  rw [evalPart_none]
  refine wpAny_pure ?_
  have I4 : Inv X pins σ H3 { s3 with heap := s3.heap.push { cls := .type "slice", data := .fields #[vl, vu, .none] } } := I3.kept (t' := s3.toks) fun b ob q => Heap.get?_push_of_some _ q
  obtain ⟨T, id, hT, ht, hg⟩ := hr pins { s3 with heap := s3.heap.push { cls := .type "slice", data := .fields #[vl, vu, .none] } } σ H3 x v vl vu l u s3.heap.objs.size Q I4 r1 (Heap.IsSliceOf.new ..) pl pu q3
  show wpAny (model X.prog X.w) X.A (subscriptTail e (.Slice lo hi none p2) v (.ref s3.heap.objs.size)) (EP X pins σ Q) X.xe { s3 with heap := s3.heap.push { cls := .type "slice", data := .fields #[vl, vu, .none] } }
  exact tail_any (ops := [.ref s3.heap.objs.size, v]) ht hT hg (by with_unfolding_all rfl)

/-- the items of xs[lo:hi] -/
def cutV (xs : List V) (lo hi : Option Int) : List V := (xs.drop (HT.sIx xs.length 0 lo)).take (HT.sIx xs.length xs.length hi - HT.sIx xs.length 0 lo)
theorem cutV_length (xs : List V) (lo hi : Option Int) : (cutV xs lo hi).length ≤ xs.length := by
  unfold cutV
  rw [List.length_take, List.length_drop]
  omega
/-- t[lo:hi], not the whole of it (the whole would be t itself) -/
def rSlT (K : PySem.W.Frag) : V → Option Int → Option Int → Hp → VK → Prop := fun x lo hi H Q => ∃ a xs, x = .ref a ∧ SqT K H a xs ∧
  ¬ (HT.sIx xs.length 0 lo = 0 ∧ HT.sIx xs.length xs.length hi = xs.length) ∧ ∀ p, H p = none → Q (.ref p) (upd H p (.tup (cutV xs lo hi)))
theorem sl_tup : SlR X (rSlT X.K) := by
  intro pins s σ H x v vl vu lo hi sl Q I rx hs pl pu h
  obtain ⟨a, xs, rfl, hx, hw, q⟩ := h
  cases rx
  obtain ⟨its, r, ht, hz⟩ := I.tuple hx
  have hlen : its.toArray.size = xs.length := by rw [List.size_toArray]; exact r.length.symm
  refine ⟨"tuple", _, PyProof.Rows.slot_tuple_getitem.lookup, ht.typeIs, ?_⟩
  refine HT.getItem_tuple_cut ht hs pl pu (by rw [hlen]; exact hw) ?_ (by rw [hlen]; exact hz)
  rw [hlen]
  refine ⟨.ref s.heap.objs.size, _, I.laid (t' := s.toks) (o := .tup (cutV xs lo hi)) (fun b ob q => Heap.get?_push_of_some _ q) (Nat.le_refl _) ?_, rfl, q _ (I.hok.fresh (Nat.le_refl _))⟩
  exact ⟨Nat.le_trans (cutV_length xs lo hi) hz, _, (r.drop (HT.sIx xs.length 0 lo)).take (HT.sIx xs.length xs.length hi - HT.sIx xs.length 0 lo), IsTup.new _ _⟩

/-! ### t < u, t + u -/
def rLtT (K : PySem.W.Frag) : R2 := fun x y H Q => ∃ a b ns ms, x = .ref a ∧ y = .ref b ∧ SqT K H a (ns.map V.int) ∧ SqT K H b (ms.map V.int) ∧ Q (.bl (HT.lexLt ns ms)) H
/-- t + u, t not empty: u empty gives t itself -/
def rCatT (K : PySem.W.Frag) : R2 := fun x y H Q => ∃ a b xs ys, x = .ref a ∧ y = .ref b ∧ SqT K H a xs ∧ SqT K H b ys ∧ xs ≠ [] ∧ xs.length + ys.length ≤ sizeLine ∧
  (ys = [] → Q (.ref a) H) ∧ (ys ≠ [] → ∀ p, H p = none → Q (.ref p) (upd H p (.tup (xs ++ ys))))
theorem Vals.nil_iff {xs : List V} {us : List Value} (r : Vals xs us) : us = [] ↔ xs = [] := by
  cases r with
  | nil => simp
  | cons _ _ => simp
theorem op_catT : OpR X (binaryOp .Add) (rCatT X.K) := by
  intro pins s σ H x y v u Q I rx ry h
  obtain ⟨a, b, xs, ys, rfl, rfl, ha, hb, hx, hz, q1, q2⟩ := h
  cases rx
  cases ry
  obtain ⟨its, r1, p1, _⟩ := I.tuple ha
  obtain ⟨its2, r2, p2, _⟩ := I.tuple hb
  refine HT.cat_tup p1 p2 (fun z => hx (r1.nil_iff.mp z)) (fun z => ⟨.ref a, H, I, rfl, q1 (r2.nil_iff.mp z)⟩) (fun z => ?_) (by rw [← r1.length, ← r2.length]; exact hz)
  refine ⟨.ref s.heap.objs.size, _, I.laid (t' := s.toks) (o := .tup (xs ++ ys)) (fun b ob q => Heap.get?_push_of_some _ q) (Nat.le_refl _) ?_, rfl, q2 (fun w => z (r2.nil_iff.mpr w)) _ (I.hok.fresh (Nat.le_refl _))⟩
  exact ⟨by rw [List.length_append]; exact hz, _, r1.append r2, IsTup.new _ _⟩
/-- tuple(t) -/
theorem call_tupleT : CallR X (.type "tuple") (fun xs H Q => ∃ a ys, xs = [.ref a] ∧ SqT X.K H a ys ∧ Q (.ref a) H) := by
  intro pins s σ H xs us Q I r h
  obtain ⟨a, ys, rfl, ha, q⟩ := h
  obtain ⟨u, rfl, ru⟩ := vals1 r
  cases ru
  obtain ⟨its, _, p1, _⟩ := I.tuple ha
  exact call_tuple_same (items := its.toArray) p1 ⟨.ref a, H, I, rfl, q⟩
end
end L2

namespace L2
open PySem PySem.Spec PyProof.Rows

/-! ### places -/
/-- the place that an index of any sign means -/
def ixN (n : Nat) (i : Int) : Option Nat := if 0 ≤ i then (if i < n then some i.toNat else none) else if -(n : Int) ≤ i then some (i + n).toNat else none
def atI {α : Type} (xs : List α) (i : Int) : Option α := (ixN xs.length i).bind fun j => xs[j]?
theorem ixN_seq {n : Nat} {i : Int} {j : Nat} (h : ixN n i = some j) : seqIndex? i n = some j ∧ j < n ∧ -(n : Int) ≤ i ∧ i < n := by
  unfold ixN at h
  by_cases h0 : 0 ≤ i
  · rw [if_pos h0] at h
    by_cases h1 : i < n
    · rw [if_pos h1] at h
      have e : i.toNat = j := Option.some.inj h
      exact ⟨by rw [seqIndex_of h0 h1, e], by omega, by omega, h1⟩
    · rw [if_neg h1] at h; cases h
  · rw [if_neg h0] at h
    by_cases h1 : -(n : Int) ≤ i
    · rw [if_pos h1] at h
      have e : (i + n).toNat = j := Option.some.inj h
      exact ⟨by rw [seqIndex_neg (by omega) h1, e], by omega, h1, by omega⟩
    · rw [if_neg h1] at h; cases h
theorem atI_get {α : Type} {xs : List α} {i : Int} {v : α} (h : atI xs i = some v) : ∃ j, seqIndex? i xs.length = some j ∧ xs[j]? = some v ∧ j < xs.length ∧ -(xs.length : Int) ≤ i ∧ i < xs.length := by
  unfold atI at h
  cases e : ixN xs.length i with
  | none => rw [e] at h; cases h
  | some j =>
    rw [e] at h
    obtain ⟨h1, h2, h3, h4⟩ := ixN_seq e
    exact ⟨j, h1, h, h2, h3, h4⟩
theorem atI_nat {α : Type} {xs : List α} {j : Nat} {v : α} (h : xs[j]? = some v) : atI xs (j : Int) = some v := by
  have hj : j < xs.length := (List.getElem?_eq_some_iff.mp h).1
  have e : ixN xs.length (j : Int) = some j := by
    unfold ixN
    rw [if_pos (by omega), if_pos (by omega)]; simp
  unfold atI; rw [e]; exact h

/-! ### what may be subscripted -/
/-- what stands as an index of a plain subscript -/
def PlainIx (b : Expr) : Prop := ∀ o i, subscripted b false o i = operate [o, i] (getItem o i)
/-- a subscript by values -/
def IxR (X : Cx) (r : R2) : Prop :=
  ∀ (value slice : Expr) (pins : List (Addr × Obj)) (s : Shared) (σ : St) (H : Hp) (x y : V) (v u : Value) (Q : VK), Inv X pins σ H s → RelV x v → RelV y u → r x y H Q →
    subscripted slice false v u = operate [v, u] (getItem v u) → wpAny (model X.prog X.w) X.A (subscriptTail value slice v u) (EP X pins σ Q) X.xe s
/-- a call of a builtin's method by values: the receiver, the arguments -/
def MtR (X : Cx) (id : String) (r : V → List V → Hp → VK → Prop) : Prop :=
  ∀ (pins : List (Addr × Obj)) (s : Shared) (σ : St) (H : Hp) (x : V) (xs : List V) (v : Value) (us : List Value) (Q : VK), Inv X pins σ H s → RelV x v → Vals xs us → r x xs H Q →
    wpAny (model X.prog X.w) X.A (call (.builtin id) (v :: us)) (EP X pins σ Q) X.xe s
section
variable {X : Cx} {a b : Expr} {ta tb : TE} {pos : Pos}
/-- a[b] -/
theorem pe_ix {r : R2} (hr : IxR X r) (ha : PE X a ta) (hb : PE X b tb) (hs : PlainIx b) : PE X (.Subscript a b pos) (tOp r ta tb) := by
  intro pins s σ H Q I h
  exact Subscript_ (binT ha hb I h fun v u s2 x y H2 I2 rx ry q => hr a b pins s2 σ H2 x y v u Q I2 rx ry q (hs _ _))

def rIxL (K : PySem.W.Frag) : R2 := fun x y H Q => ∃ p xs i v, x = .ref p ∧ y = .int i ∧ SqL K H p xs ∧ atI xs i = some v ∧ Q v H
def rIxT (K : PySem.W.Frag) : R2 := fun x y H Q => ∃ p xs i v, x = .ref p ∧ y = .int i ∧ SqT K H p xs ∧ atI xs i = some v ∧ Q v H
def rIxS : R2 := fun x y H Q => ∃ z i c, x = .str z ∧ y = .int i ∧ z.length ≤ sizeLine ∧ atI z.cps.toList i = some c ∧ Q (.str ⟨#[c]⟩) H
theorem ix_list : IxR X (rIxL X.K) := by
  intro value slice pins s σ H x y v u Q I rx ry h hs
  obtain ⟨p, xs, i, z, rfl, rfl, hq, he, q⟩ := h
  cases rx
  obtain ⟨t, rfl⟩ := ry
  obtain ⟨its, r, pl, hz⟩ := I.list hq
  obtain ⟨j, h1, h2, h3, h4, h5⟩ := atI_get he
  obtain ⟨w, ew, rw'⟩ := r.get h2
  have hl := r.length
  have hn := line63
  have fin : EP X pins σ Q w s := ⟨z, H, I, rw', q⟩
  by_cases h0 : 0 ≤ i
  · have hj : i.toNat = j := by
      rw [seqIndex_of h0 h5] at h1
      exact Option.some.inj h1
    exact item_listR pl.isList h0 (by omega) (by rw [hj]; simpa using ew) fin hs
  · have hj : (i + (its.toArray.size : Int)).toNat = j := by
      rw [seqIndex_neg (by omega) h4] at h1
      rw [List.size_toArray, ← hl]
      exact Option.some.inj h1
    exact subscriptTail_builtinR (x := w) pl.isList.typeIs slot_list_getitem.lookup
      (wpAny_getItem_list_neg (Q := fun r s' => r = w ∧ EP X pins σ Q r s') pl.isList (by omega) (by rw [List.size_toArray] <;> omega) (by omega) (by rw [hj]; simpa using ew) ⟨rfl, fin⟩) hs
theorem ix_tup : IxR X (rIxT X.K) := by
  intro value slice pins s σ H x y v u Q I rx ry h hs
  obtain ⟨p, xs, i, z, rfl, rfl, hq, he, q⟩ := h
  cases rx
  obtain ⟨t, rfl⟩ := ry
  obtain ⟨its, r, pl, hz⟩ := I.tuple hq
  obtain ⟨j, h1, h2, h3, h4, h5⟩ := atI_get he
  obtain ⟨w, ew, rw'⟩ := r.get h2
  have hl := r.length
  have hn := line63
  have fin : EP X pins σ Q w s := ⟨z, H, I, rw', q⟩
  exact subscriptTail_builtinR (x := w) pl.typeIs slot_tuple_getitem.lookup
    (getItem_tuple (j := j) (Q := fun r s' => r = w ∧ EP X pins σ Q r s') pl (by omega) (by omega) (by rw [List.size_toArray, ← hl]; exact h1) (by simpa using ew) ⟨rfl, fin⟩) hs
/-- list, tuple or str -/
def rIx (K : PySem.W.Frag) : R2 := fun x y H Q => rIxL K x y H Q ∨ rIxT K x y H Q ∨ rIxS x y H Q

/-! ### xs[i] = v, any sign -/
/-- the list's object behind a store -/
theorem mapSeq_set (its : List Value) (n j : Nat) (u : Value) : Obj.mapSeq (·.setIfInBounds j u) { cls := .type "list", data := .seq its.toArray n } = { cls := .type "list", data := .seq (its.set j u).toArray n } := by
  simp [Obj.mapSeq]
/-- the list at p is written by an update of its object -/
theorem Inv.lstUpd {pins : List (Addr × Obj)} {σ : St} {H : Hp} {s : Shared} {p : Addr} {xs ys : List V} {its its' : List Value} {n n' : Nat} {f : Obj → Obj} (I : Inv X pins σ H s) (h : H p = some (.lst xs))
    (ho : s.heap.get? p = some { cls := .type "list", data := .seq its.toArray n }) (hf : f { cls := .type "list", data := .seq its.toArray n } = { cls := .type "list", data := .seq its'.toArray n' }) (r : Vals ys its') (hz : ys.length ≤ sizeLine) (t : Nat) :
    Inv X pins σ (upd H p (.lst ys)) { s with heap := s.heap.update p f, toks := t } := by
  have e : (s.heap.update p f).get? p = some { cls := .type "list", data := .seq its'.toArray n' } := by
    rw [Heap.get?_update_self f ho (by rw [hf] <;> rfl), hf]
  refine I.write (x := p) (e := p) (by rw [h]; trivial) (.inl rfl) (fun b u hb q => (Heap.get?_update_other _ _ (Ne.symm hb)).trans q) ⟨_, e⟩ ?_
  exact ⟨hz, its', n', r, e⟩
def rSetL : V → V → V → Hp → (Hp → Prop) → Prop := fun o i v H Q => ∃ p xs k j, o = .ref p ∧ i = .int k ∧ H p = some (.lst xs) ∧ ixN xs.length k = some j ∧ Q (upd H p (.lst (xs.set j v)))

/-! ### slices -/
theorem slice_bounds (lo hi : Option Int) (n : Nat) : (sliceBounds lo hi none n).1 = ((HT.sIx n 0 lo : Nat) : Int) ∧ (sliceBounds lo hi none n).2.1 = ((HT.sIx n n hi : Nat) : Int) ∧ (sliceBounds lo hi none n).2.2 = 1 := by
  refine ⟨?_, ?_, rfl⟩
  · cases lo with
    | none => simp [sliceBounds, HT.sIx]
    | some i =>
      simp only [sliceBounds, HT.sIx, Option.getD_none, show (1 : Int) > 0 by decide, if_true]
      by_cases h : i < 0
      · simp only [h, if_true] <;> omega
      · simp only [h, if_false] <;> omega
  · cases hi with
    | none => simp [sliceBounds, HT.sIx]
    | some i =>
      simp only [sliceBounds, HT.sIx, Option.getD_none, show (1 : Int) > 0 by decide, if_true]
      by_cases h : i < 0
      · simp only [h, if_true] <;> omega
      · simp only [h, if_false] <;> omega
theorem slicePick_cut (its : List Value) (lo hi : Option Int) : slicePick its.toArray lo hi none = ((its.drop (HT.sIx its.length 0 lo)).take (HT.sIx its.length its.length hi - HT.sIx its.length 0 lo)).toArray := by
  obtain ⟨h1, h2, h3⟩ := slice_bounds lo hi its.toArray.size
  unfold slicePick
  rw [h1, h2, h3]
  simp only [sliceRange_one, pick_run, List.size_toArray] <;> rfl
/-- xs[lo:hi] of a list: a new list -/
def rSlL (K : PySem.W.Frag) : V → Option Int → Option Int → Hp → VK → Prop := fun x lo hi H Q => ∃ a xs, x = .ref a ∧ SqL K H a xs ∧ ∀ p, H p = none → Q (.ref p) (upd H p (.lst (cutV xs lo hi)))
theorem sl_list : SlR X (rSlL X.K) := by
  intro pins s σ H x v vl vu lo hi sl Q I rx hs pl pu h
  obtain ⟨a, xs, rfl, hx, q⟩ := h
  cases rx
  obtain ⟨its, r, ht, hz⟩ := I.list hx
  have hlen := r.length
  refine ⟨"list", _, slot_list_getitem.lookup, ht.isList.typeIs, ?_⟩
  refine wpAny_getItem_list_slice ht.isList hs pl pu .none (by simp) ?_ (by rw [List.size_toArray] <;> omega)
  rw [slicePick_cut, ← hlen]
  refine ⟨.ref s.heap.objs.size, _, I.laid (t' := s.toks) (o := .lst (cutV xs lo hi)) (fun b ob q => Heap.get?_push_of_some _ q) (Nat.le_refl _) ?_, rfl, q _ (I.hok.fresh (Nat.le_refl _))⟩
  exact ⟨Nat.le_trans (cutV_length xs lo hi) hz, _, 0, (r.drop (HT.sIx xs.length 0 lo)).take (HT.sIx xs.length xs.length hi - HT.sIx xs.length 0 lo), Heap.get?_push_size _ rfl⟩

/-! ### in, not in: flat items -/
def flatV : V → Bool
  | .non => true
  | .bl _ => true
  | .int _ => true
  | .str _ => true
  | _ => false
/-- == of flat values -/
def eqV : V → V → Bool
  | .non, .non => true
  | .bl a, .bl b => a == b
  | .bl a, .int b => (if a then 1 else 0) == b
  | .int a, .bl b => a == (if b then 1 else 0)
  | .int a, .int b => a == b
  | .str a, .str b => a == b
  | _, _ => false
theorem eqAt_V {A : Around} {s : Shared} {y x : V} {u v : Value} (ry : RelV y u) (rx : RelV x v) (fy : flatV y = true) (fx : flatV x = true) : SeqAt.EqAt A s u v (eqV y x) := by
  cases y with
  | non =>
    cases ry
    cases x with
    | non => cases rx; exact SeqAt.EqAt.same _
    | bl b => cases rx; exact SeqAt.EqAt.none_bool b
    | int b => obtain ⟨t, rfl⟩ := rx; exact SeqAt.EqAt.none_int b t
    | str b => obtain ⟨t, rfl⟩ := rx; exact SeqAt.EqAt.none_str b t
    | _ => exact absurd (show false = true from fx) Bool.false_ne_true
  | bl a =>
    cases ry
    cases x with
    | non => cases rx; exact SeqAt.EqAt.bool_none a
    | bl b => cases rx; exact SeqAt.EqAt.bool_bool a b
    | int b => obtain ⟨t, rfl⟩ := rx; exact SeqAt.EqAt.bool_int a b t
    | str b => obtain ⟨t, rfl⟩ := rx; exact SeqAt.EqAt.bool_str a b t
    | _ => exact absurd (show false = true from fx) Bool.false_ne_true
  | int a =>
    obtain ⟨t', rfl⟩ := ry
    cases x with
    | non => cases rx; exact SeqAt.EqAt.int_none a t'
    | bl b => cases rx; exact SeqAt.EqAt.int_bool a t' b
    | int b => obtain ⟨t, rfl⟩ := rx; exact SeqAt.EqAt.int_int a t' b t
    | str b => obtain ⟨t, rfl⟩ := rx; exact SeqAt.EqAt.int_str a t' b t
    | _ => exact absurd (show false = true from fx) Bool.false_ne_true
  | str a =>
    obtain ⟨t', rfl⟩ := ry
    cases x with
    | non => cases rx; exact SeqAt.EqAt.str_none a t'
    | bl b => cases rx; exact SeqAt.EqAt.str_bool a t' b
    | int b => obtain ⟨t, rfl⟩ := rx; exact SeqAt.EqAt.str_int a t' b t
    | str b => obtain ⟨t, rfl⟩ := rx; exact SeqAt.EqAt.str_str a t' b t
    | _ => exact absurd (show false = true from fx) Bool.false_ne_true
  | _ => exact absurd (show false = true from fy) Bool.false_ne_true
/-- the items' answers, read off the values (a value's own answer does not lean on its token) -/
def eqU (x : V) (u : Value) : Bool := match u with
  | .none => eqV .non x
  | .bool b => eqV (.bl b) x
  | .int i _ => eqV (.int i) x
  | .str z _ => eqV (.str z) x
  | _ => false
theorem eqU_of {x y : V} {u : Value} (r : RelV y u) (f : flatV y = true) : eqU x u = eqV y x := by
  cases y with
  | non => cases r; rfl
  | bl b => cases r; rfl
  | int i => obtain ⟨t, rfl⟩ := r; rfl
  | str z => obtain ⟨t, rfl⟩ := r; rfl
  | _ => exact absurd (show false = true from f) Bool.false_ne_true
theorem any_eqU {x : V} : ∀ {xs : List V} {us : List Value}, Vals xs us → xs.all flatV = true → us.any (eqU x) = xs.any fun y => eqV y x
  | _, _, .nil, _ => rfl
  | y :: xs, u :: us, .cons r t, f => by
    rw [List.all_cons, Bool.and_eq_true] at f
    rw [List.any_cons, List.any_cons, eqU_of r f.1, any_eqU t f.2]
theorem mem_eqAt {A : Around} {s : Shared} {x : V} {v : Value} (rx : RelV x v) (fx : flatV x = true) : ∀ {xs : List V} {us : List Value}, Vals xs us → xs.all flatV = true → ∀ u ∈ us, SeqAt.EqAt A s u v (eqU x u)
  | _, _, .nil, _ => fun u hu => by cases hu
  | y :: xs, u :: us, .cons r t, f => fun u' hu => by
    rw [List.all_cons, Bool.and_eq_true] at f
    rcases List.mem_cons.mp hu with rfl | hu
    · rw [eqU_of r f.1]; exact eqAt_V r rx f.1 fx
    · exact mem_eqAt rx fx t f.2 u' hu
def inV (x : V) (xs : List V) : Bool := xs.any fun y => eqV y x
/-- x in a list or tuple of flat items -/
def rIn (K : PySem.W.Frag) (neg : Bool) : R2 := fun x y H Q => ∃ p xs, y = .ref p ∧ (SqL K H p xs ∨ SqT K H p xs) ∧ flatV x = true ∧ xs.all flatV = true ∧ Q (.bl (if neg then !inV x xs else inV x xs)) H
theorem op_notIn_seq : OpR X (compareOp .NotIn) (rIn X.K true) := by
  intro pins s σ H x y v u Q I rx ry h
  obtain ⟨p, xs, rfl, hq, fx, fs, q⟩ := h
  cases ry
  rcases hq with hq | hq
  · obtain ⟨its, r, pl, hz⟩ := I.list hq
    refine SeqAt.notIn_listAt (eqU x) pl.isList (fun w hw => mem_eqAt rx fx r fs w (by simpa using hw)) ⟨.bl _, H, I, rfl, ?_⟩
    rw [show its.toArray.any (eqU x) = its.any (eqU x) by simp, any_eqU r fs]
    exact q
  · obtain ⟨its, r, pl, hz⟩ := I.tuple hq
    refine SeqAt.notIn_tupleAt (eqU x) pl (fun w hw => mem_eqAt rx fx r fs w (by simpa using hw)) ⟨.bl _, H, I, rfl, ?_⟩
    rw [show its.toArray.any (eqU x) = its.any (eqU x) by simp, any_eqU r fs]
    exact q

/-! ### len, list(x), tuple(x) of any list or tuple that is read -/
theorem call_len_seq : CallR X (.builtin "len") (fun xs H Q => ∃ p ys, xs = [.ref p] ∧ (SqL X.K H p ys ∨ SqT X.K H p ys) ∧ Q (.int ys.length) H) := by
  intro pins s σ H xs us Q I r h
  obtain ⟨p, ys, rfl, hq, q⟩ := h
  obtain ⟨u, rfl, rx⟩ := vals1 r
  cases rx
  have hn := line63
  rcases hq with hq | hq
  · obtain ⟨its, r', pl, hz⟩ := I.list hq
    have hlen := r'.length
    exact Calls.call_len_list pl.isList (by simp only [List.size_toArray] <;> omega) ⟨.int ys.length, H, I.tok _, ⟨s.toks + 1, by rw [List.size_toArray, hlen]⟩, q⟩
  · obtain ⟨its, r', pl, hz⟩ := I.tuple hq
    have hlen := r'.length
    exact len_tuple pl (by simp only [List.size_toArray] <;> omega) ⟨.int ys.length, H, I.tok _, ⟨s.toks + 1, by rw [List.size_toArray, hlen]⟩, q⟩
theorem call_tuple_of : CallR X (.type "tuple") (fun xs H Q => ∃ p ys, xs = [.ref p] ∧ ((SqL X.K H p ys ∧ ∀ l, H l = none → Q (.ref l) (upd H l (.tup ys))) ∨ (SqT X.K H p ys ∧ Q (.ref p) H))) := by
  intro pins s σ H xs us Q I r h
  obtain ⟨p, ys, rfl, h⟩ := h
  obtain ⟨u, rfl, rx⟩ := vals1 r
  cases rx
  rcases h with ⟨hq, q⟩ | ⟨hq, q⟩
  · obtain ⟨its, r', pl, hz⟩ := I.list hq
    have hlen := r'.length
    refine call_tuple_list pl.isList (fun h' kp => ?_) (by simp only [List.size_toArray] <;> omega)
    have I1 : Inv X pins σ H { s with heap := h' } := I.kept (t' := s.toks) kp
    have I2 : Inv X pins σ (upd H h'.objs.size (.tup ys)) { s with heap := h'.push { cls := .type "tuple", data := .seq its.toArray } } :=
      I1.laid (t' := s.toks) (fun b o e => Heap.get?_push_of_some _ e) (Nat.le_refl _) (show ObjOk X.prog X.w _ _ _ (.tup ys) from ⟨hz, its, r', IsTup.new _ _⟩)
    exact ⟨.ref h'.objs.size, _, I2, rfl, q _ (I1.hok.fresh (Nat.le_refl _))⟩
  · obtain ⟨its, r', pl, hz⟩ := I.tuple hq
    exact call_tuple_same pl ⟨.ref p, H, I, rfl, q⟩

/-! ### the call of a builtin's method: o.m(..) -/
/-- the value is of that builtin type -/
def tyV (K : PySem.W.Frag) (T : String) (x : V) (H : Hp) : Prop := match x with
  | .str _ => T = "str"
  | .int _ => T = "int"
  | .ref p => (T = "list" ∧ ∃ xs, SqL K H p xs) ∨ (T = "tuple" ∧ ∃ o, K.lookup p = some o ∧ o.cls = .type "tuple" ∧ o.dict = none) ∨
      (T = "dict" ∧ ((∃ kvs, H p = some (.dK kvs)) ∨ ∃ kvs, H p = some (.dT kvs))) ∨ (T = "set" ∧ ∃ S n, H p = some (.set S n))
  | _ => False
theorem tyV_is {pins : List (Addr × Obj)} {σ : St} {H : Hp} {s : Shared} {T : String} {x : V} {v : Value} (I : Inv X pins σ H s) (r : RelV x v) (ty : tyV X.K T x H) :
    s.TypeIs v T ∧ ∀ a, v = .ref a → ∃ ob, s.heap.get? a = some ob ∧ ob.dict = none := by
  cases x with
  | str z =>
    obtain ⟨t, rfl⟩ := r
    cases (show T = "str" from ty)
    exact ⟨typeIs_str s z t, fun _ e => nomatch e⟩
  | int i =>
    obtain ⟨t, rfl⟩ := r
    cases (show T = "int" from ty)
    exact ⟨typeIs_int s i t, fun _ e => nomatch e⟩
  | ref p =>
    cases r
    rcases ty with ⟨rfl, xs, hq⟩ | ⟨rfl, o, hk, hc, hd⟩ | ⟨rfl, hk⟩ | ⟨rfl, S, n, hk⟩
    · obtain ⟨its, _, pl, _⟩ := I.list hq
      refine ⟨pl.isList.typeIs, fun a e => ?_⟩
      cases e
      obtain ⟨o, n, e, c, hd, _⟩ := pl
      exact ⟨o, e, hd⟩
    · refine ⟨⟨o, I.kIn p o hk, hc⟩, fun a e => ?_⟩
      cases e
      exact ⟨o, I.kIn _ o hk, hd⟩
    · have z : ∃ o, s.heap.get? p = some o ∧ o.ExactDict := by
        rcases hk with ⟨kvs, hk⟩ | ⟨kvs, hk⟩
        · obtain ⟨_, _, _, _, o, _, _, e, ex, _⟩ := I.hok p _ hk
          exact ⟨o, e, ex⟩
        · obtain ⟨_, _, _, _, o, _, _, e, ex, _⟩ := I.hok p _ hk
          exact ⟨o, e, ex⟩
      obtain ⟨o, e, ex⟩ := z
      refine ⟨⟨o, e, ex.1⟩, fun a e2 => ?_⟩
      cases e2
      exact ⟨o, e, ex.2.1⟩
    · obtain ⟨o, _, _, _, e, ex, _⟩ := I.hok p _ hk
      refine ⟨⟨o, e, ex.1⟩, fun a e2 => ?_⟩
      cases e2
      exact ⟨o, e, ex.2.1⟩
  | _ => exact False.elim ty
def tBM0 (K : PySem.W.Frag) (T : String) (r : V → List V → Hp → VK → Prop) (to : TE) : TE := fun σ H Q => to σ H fun x H1 => tyV K T x H1 ∧ r x [] H1 Q
def tBM (K : PySem.W.Frag) (T : String) (r : V → List V → Hp → VK → Prop) (to : TE) (t : TA) : TE := fun σ H Q => to σ H fun x H1 => tyV K T x H1 ∧ t σ H1 fun xs H2 => r x xs H2 Q
variable {o e : Expr} {es : List Expr} {to : TE} {t : TA} {name : Str} {apos cpos : Pos} {T id : String} {r : V → List V → Hp → VK → Prop}
theorem pe_bm (pa : PlainAttrs T) (slot : Slot T name id) (hty : typeOf (.builtin id) = pure (.type "method_descriptor")) (hm : MtR X id r) (ho : PE X o to) (ha : PA X (e :: es) t)
    (hbase : attributeBase o name X.env (eval o X.env) = eval o X.env := by rfl)
    (hfew : ((backTo cpos (starEach (e :: es) X.env)).all (fun x => !x.1) && (backToKw cpos (keywordEach [] X.env)).all (fun x => x.1.isSome)
      && decide ((e :: es).length + ([] : List Keyword).length + (if ([] : List Keyword).isEmpty then 0 else 1) < 30)) = true := by rfl)
    (hline : (apos.endLine == cpos.line) = true := by rfl) (hs : starEach (e :: es) X.env = (false, eval e X.env) :: starEach es X.env := by rfl) (hplain : (backTo cpos (starEach es X.env)).any (·.1) = false := by rfl) :
    PE X (.Call (.Attribute o name apos) (e :: es) [] cpos) (tBM X.K T r to t) := by
  intro pins s σ H Q I h
  refine wpAny_Call_method_late hbase hfew hline rfl (thn (ho pins s σ H _ I h) fun v s1 ⟨x, H1, I1, r1, ty, q1⟩ => ?_)
  obtain ⟨h1, h2⟩ := tyV_is I1 r1 ty
  refine ⟨T, id, pa, slot, hty, h1, h2, ?_⟩
  have hA := ha cpos pins s1 σ H1 _ I1 q1
  rw [hs] at hA ⊢
  refine Calls.callWith_builtin (by show (false || (backTo cpos (starEach es X.env)).any (·.1)) = false; rw [hplain] <;> rfl) (Calls.evalArgs_plain ?_)
  exact thn hA fun us s2 ⟨vs, H2, I2, r2, q2⟩ => hm pins s2 σ H2 x vs v us Q I2 r1 r2 q2
/- xs.append(e), list.index on a module's tuple .. are MtR facts of 06m -/
end
end L2

namespace L2
open PySem PySem.Spec PyProof.Rows

def MtM (X : Cx) (id : String) (r : V → List V → Hp → VK → Prop) : Prop :=
  ∀ (pins : List (Addr × Obj)) (s : Shared) (σ : St) (H : Hp) (x : V) (xs : List V) (v : Value) (us : List Value) (Q : VK), Inv X pins σ H s → RelV x v → Vals xs us → r x xs H Q →
    wpAny (model X.prog X.w) X.A (call (.builtin id) (v :: us)) (EP X pins σ Q) X.xe s

/-! ### lists of values -/
theorem Vals.one : ∀ {x : V} {us : List Value}, Vals [x] us → ∃ u, us = [u] ∧ RelV x u
  | _, _, .cons r .nil => ⟨_, rfl, r⟩

section
variable {X : Cx} {pins : List (Addr × Obj)} {σ : St} {H : Hp} {s : Shared} {l b : Addr} {xs ys zs : List V}

/-! ### the two steps: a tracked list is rewritten, a new list is laid -/
theorem Inv.lset {its its' : List Value} {n : Nat} {f : Array Value → Array Value} {t' : Nat} (I : Inv X pins σ H s) (hH : H l = some (.lst xs))
    (e : s.heap.get? l = some { cls := .type "list", data := .seq its.toArray n }) (hf : f its.toArray = its'.toArray) (hv : Vals ys its') (hz : ys.length ≤ sizeLine) :
    Inv X pins σ (upd H l (.lst ys)) { s with heap := s.heap.update l (Obj.mapSeq f), toks := t' } := by
  have q := PySem.IsL.update e f
  rw [hf] at q
  refine I.write (x := l) (e := l) (by rw [hH]; exact trivial) (.inl rfl) (fun b' u hb hu => (Heap.get?_update_other s.heap (Obj.mapSeq f) (Ne.symm hb)).trans hu) ⟨_, q⟩ ?_
  exact ⟨hz, its', _, hv, q⟩
theorem Inv.lnew {its : List Value} {t' : Nat} (I : Inv X pins σ H s) (hv : Vals ys its) (hz : ys.length ≤ sizeLine) :
    Inv X pins σ (upd H s.heap.objs.size (.lst ys)) { s with heap := s.heap.push { cls := .type "list", data := .seq its.toArray }, toks := t' } :=
  I.laid (fun _ _ q => Heap.get?_push_of_some _ q) (Nat.le_refl _) ⟨hz, its, 0, hv, Heap.get?_push_size _ rfl⟩
theorem Inv.fresh (I : Inv X pins σ H s) : H s.heap.objs.size = none := I.hok.fresh (Nat.le_refl _)
theorem Inv.lstM (I : Inv X pins σ H s) (hH : H l = some (.lst xs)) : xs.length ≤ sizeLine ∧ ∃ (its : List Value) (n : Nat), Vals xs its ∧ xs.length = its.length ∧ s.heap.get? l = some { cls := .type "list", data := .seq its.toArray n } := by
  obtain ⟨z, its, n, r, e⟩ := I.hok l _ hH
  exact ⟨z, its, n, r, r.length, e⟩

theorem notLongL {n : Nat} (h : n ≤ sizeLine) : Builtin.List.listTooLong n = false := by
  unfold Builtin.List.listTooLong
  exact decide_eq_false (by omega)
end

section
variable {X : Cx}

/-! ### methods -/
def rAppend : V → List V → Hp → VK → Prop := fun x vs H Q => ∃ l xs y, x = .ref l ∧ vs = [y] ∧ H l = some (.lst xs) ∧ xs.length < sizeLine ∧ Q .non (upd H l (.lst (xs ++ [y])))
theorem mt_append : MtM X "list.append" rAppend := by
  intro pins s σ H x vs v us Q I rx rv h
  obtain ⟨l, xs, y, rfl, rfl, hH, hz, q⟩ := h
  cases rx
  obtain ⟨u, rfl, ru⟩ := rv.one
  obtain ⟨z, its, n, r, hl, e⟩ := I.lstM hH
  refine call_meets F.slot_list_append ⟨_, e, rfl⟩ F.entry_list_append (F.args_list_append_2 _ _) (PySem.list_append l its.toArray n u (by rw [List.size_toArray]; omega)) ⟨e, ?_⟩
  refine ⟨.non, _, I.lset (its' := its ++ [u]) hH e (by simp) (r.append (.cons ru .nil)) ?_, rfl, q⟩
  rw [List.length_append, List.length_singleton]
  omega

def rExtend : V → List V → Hp → VK → Prop := fun x vs H Q => ∃ l b xs zs, x = .ref l ∧ vs = [.ref b] ∧ H l = some (.lst xs) ∧ H b = some (.lst zs) ∧ xs.length + zs.length ≤ sizeLine ∧ Q .non (upd H l (.lst (xs ++ zs)))

def rPop : V → List V → Hp → VK → Prop := fun x vs H Q => ∃ l xs y, x = .ref l ∧ vs = [] ∧ H l = some (.lst xs) ∧ xs[xs.length - 1]? = some y ∧ Q y (upd H l (.lst xs.dropLast))

def rPopAt : V → List V → Hp → VK → Prop := fun x vs H Q => ∃ l xs i k y, x = .ref l ∧ vs = [.int i] ∧ H l = some (.lst xs) ∧ -(2 ^ 63) ≤ i ∧ i < 2 ^ 63 ∧ seqIndex? i xs.length = some k ∧ xs[k]? = some y ∧ Q y (upd H l (.lst (xs.eraseIdx k)))

def rReverse : V → List V → Hp → VK → Prop := fun x vs H Q => ∃ l xs, x = .ref l ∧ vs = [] ∧ H l = some (.lst xs) ∧ Q .non (upd H l (.lst xs.reverse))

def rClear : V → List V → Hp → VK → Prop := fun x vs H Q => ∃ l xs, x = .ref l ∧ vs = [] ∧ H l = some (.lst xs) ∧ Q .non (upd H l (.lst []))

/-! ### list + list, list += list, list * int -/
def rCat : R2 := fun x y H Q => ∃ l b xs zs, x = .ref l ∧ y = .ref b ∧ H l = some (.lst xs) ∧ H b = some (.lst zs) ∧ xs.length + zs.length ≤ sizeLine ∧ ∀ p, H p = none → Q (.ref p) (upd H p (.lst (xs ++ zs)))
theorem op_cat : OpR X (binaryOp .Add) rCat := by
  intro pins s σ H x y v u Q I rx ry h
  obtain ⟨l, b, xs, zs, rfl, rfl, hH, hB, hz, q⟩ := h
  cases rx
  cases ry
  obtain ⟨z, its, n, r, hl, e⟩ := I.lstM hH
  obtain ⟨z2, its2, n2, r2, hl2, e2⟩ := I.lstM hB
  refine PySem.P.add_list e e2 ?_ (by rw [List.size_toArray, List.size_toArray]; omega)
  have ea : its.toArray ++ its2.toArray = (its ++ its2).toArray := by simp
  rw [ea]
  exact ⟨.ref _, _, I.lnew (t' := s.toks) (r.append r2) (by rw [List.length_append]; omega), rfl, q _ I.fresh⟩
/-- a list times an int (a negative one is nothing) -/
def rRep : R2 := fun x y H Q => ∃ l k xs, x = .ref l ∧ y = .int k ∧ H l = some (.lst xs) ∧ -(2 ^ 63) ≤ k ∧ k < 2 ^ 63 ∧ xs.length * k.toNat ≤ sizeLine ∧
  ∀ p, H p = none → Q (.ref p) (upd H p (.lst (List.replicate k.toNat xs).flatten))

/-! ### del xs[i] -/
end

/-! ### xs[a:b] = ys -/
section
variable {prog : Program} {w : World} {A : Around} {E : Value → Shared → Prop} {s : Shared}
theorem splice_eq (its its2 : List Value) (a c : Nat) : its.toArray.extract 0 a ++ its2.toArray ++ its.toArray.extract c its.toArray.size = (its.take a ++ its2 ++ its.drop c).toArray := by
  apply Array.toList_inj.mp
  first
    | (simp
       exact List.take_of_length_le (by simp))
    | simp [List.take_of_length_le]
    | simp
theorem bounds_run {a c n : Nat} (hac : a ≤ c) (hc : c ≤ n) : sliceBounds (some (a : Int)) (some (c : Int)) none n = ((a : Int), (c : Int), 1) := by
  simp only [sliceBounds, Option.getD_none]
  have h1 : ¬ ((a : Int) < 0) := by omega
  have h2 : ¬ ((c : Int) < 0) := by omega
  simp only [h1, h2, if_false, show (1 : Int) > 0 by decide, if_true]
  congr 1
  · omega
  · congr 1; omega
set_option maxRecDepth 100000 in
/-- list.__setitem__ with a slice of step one and another list -/
theorem setItem_slice {l b sl : Addr} {items new : Array Value} {n n2 : Nat} {vl vu : Value} {a c : Nat} {Q : Unit → Shared → Prop}
    (e : s.heap.get? l = some { cls := .type "list", data := .seq items n }) (e2 : s.heap.get? b = some { cls := .type "list", data := .seq new n2 }) (hne : l ≠ b)
    (hs : s.heap.IsSliceOf sl vl vu .none) (pl : IsPart vl (some (a : Int))) (pu : IsPart vu (some (c : Int))) (hac : a ≤ c) (hc : c ≤ items.size)
    (hsz : items.size + new.size ≤ sizeLine) (h : Q () { s with heap := s.heap.update l (Obj.mapSeq fun xs => xs.extract 0 a ++ new ++ xs.extract c xs.size) }) :
    wpAny (model prog w) A (setItem (.ref l) (.ref sl) (.ref b)) Q E s := by
  have hl : s.heap.IsList l items := PySem.IsL.isList e
  have hb : s.heap.IsList b new := PySem.IsL.isList e2
  obtain ⟨os, hos, hcs, hds⟩ := id hs
  have hTs : s.TypeIs (.ref sl) "slice" := ⟨os, hos, hcs⟩
  have hstep : ¬ ((rawPart none == rawInt 0) = true) := Bool.false_ne_true
  have hsame : Builtin.List.listSameRef (.ref l) (.ref b) = false := by
    unfold Builtin.List.listSameRef
    exact beq_eq_false_iff_ne.mpr hne
  have hmax : (max (a : Int) (c : Int)).toNat = c := by omega
  have hz' : ((fun xs : Array Value => xs.extract 0 a ++ new ++ xs.extract c xs.size) items).size ≤ sizeLine + 1 := by
    simp only [Array.size_append, Array.size_extract]
    omega
  unfold setItem
  try with_reducible refine wpAny_holding ?_
  first | refine wpAny_bind (wpAny_pure ?_) | skip
  refine wpAny_bind (wpAny_sequenceKey hl.typeIs (by decide) ?_)
  refine wpAny_bind (wpAny_callSpecial?_slot (name := Str.ofString "__setitem__") hl.typeIs slot_list_setitem
    (wpAny_call_entry slot_list_setitem hl.typeIs entry_list_setitem ?_ (args_list_setitem _ _ _)))
  show wpAny _ _ (Builtin.List.listSubscript? (.ref sl) >>= _) _ _ s
  refine wpAny_bind ?_
  unfold Builtin.List.listSubscript?
  refine wpAny_bind (wpAny_specialOf hTs slice_no_index ?_)
  simp only [Option.isNone_none, if_true]
  refine wpAny_pure ?_
  show wpAny _ _ (typeOf (.ref sl) >>= _) _ _ s
  refine wpAny_bind (wpAny_typeOf hTs ?_)
  first
    | rw [if_neg (by decide)]
    | refine PySem.W.KFB.if_not (by decide) ?_
  rw [listSliceParts_eq]
  refine wpAny_bind (wpAny_bind (wpAny_field hos hds (x := .none) rfl (wpAny_bind (wpAny_listPart .none ?_))))
  rw [if_neg hstep]
  refine wpAny_bind (wpAny_field hos hds (x := vl) rfl (wpAny_bind (wpAny_listPart pl ?_)))
  refine wpAny_bind (wpAny_field hos hds (x := vu) rfl (wpAny_bind (wpAny_listPart pu (wpAny_pure ?_))))
  first
    | simp only [hsame, Bool.false_eq_true, if_false]
    | refine PySem.W.KFB.if_not hsame ?_
    | (dsimp only
       rw [if_neg (by rw [hsame]; exact Bool.false_ne_true)])
  refine wpAny_bind (m := Builtin.List.listAllItems (.ref b) "must assign iterable to extended slice") ?_
  unfold Builtin.List.listAllItems
  refine wpAny_bind (wpAny_typeOf hb.typeIs ?_)
  first
    | refine PySem.W.KFB.if_so (by decide) ?_
    | rw [if_pos (by decide)]
    | simp only [beq_self_eq_true, Bool.true_or, if_true]
  unfold Builtin.List.listItems
  refine wpAny_bind (wpAny_seqItems e2 rfl (wpAny_pure ?_))
  refine wpAny_bind (wpAny_bind (wpAny_seqItems e rfl (wpAny_pure ?_)))
  refine wpAny_bind (wpAny_of_eq ((sliceIndices_raw (some (a : Int)) (some (c : Int)) none items.size (by simp)).trans (congrArg (pure : Int × Int × Int → Sem (Int × Int × Int)) (bounds_run hac hc))) ?_)
  show wpAny _ _ (if ((1 : Int) == 1) = true then _ else _) _ _ s
  rw [if_pos (by decide)]
  refine wpAny_bind (wpAny_rule ?_)
  first
    | simp only [notLongL hsz, Bool.false_eq_true, if_false]
    | refine PySem.W.KFB.if_not (notLongL hsz) ?_
  first | refine wpAny_bind (wpAny_pure ?_) | skip
  show wpAny _ _ (updateSeq l (fun xs => xs.extract 0 ((a : Int)).toNat ++ new ++ xs.extract (max (a : Int) (c : Int)).toNat xs.size) >>= _) _ _ s
  rw [hmax, Int.toNat_natCast]
  refine wpAny_bind (wpAny_updateSeq (hz := Nat.le_trans (Nat.le_add_right _ _) hsz) (_hz' := hz') e rfl ?_)
  refine wpAny_bind (wpAny_letGo ?_)
  first
    | exact wpAny_bind (wpAny_pure (wpAny_pure ⟨.none, rfl, wpAny_pure h⟩))
    | exact wpAny_pure ⟨.none, rfl, wpAny_pure h⟩
end

section
variable {X : Cx}
/-- xs[a:c] = ys of another list, at the value level: sl is the slice object that was just made -/
theorem set_slice {pins : List (Addr × Obj)} {s : Shared} {σ : St} {H : Hp} {l b sl : Addr} {xs ys : List V} {a c : Int} {vl vu : Value} {Q : Unit → Shared → Prop} (I : Inv X pins σ H s)
    (hH : H l = some (.lst xs)) (hB : H b = some (.lst ys)) (hne : l ≠ b) (hs : s.heap.IsSliceOf sl vl vu .none) (ra : RelV (.int a) vl) (rc : RelV (.int c) vu) (h0 : 0 ≤ a) (hac : a ≤ c) (hc : c ≤ xs.length)
    (hz : xs.length + ys.length ≤ sizeLine) (h : ∀ s', Inv X pins σ (upd H l (.lst (xs.take a.toNat ++ ys ++ xs.drop c.toNat))) s' → Q () s') :
    wpAny (model X.prog X.w) X.A (setItem (.ref l) (.ref sl) (.ref b)) Q X.xe s := by
  obtain ⟨ta, rfl⟩ := ra
  obtain ⟨tc, rfl⟩ := rc
  obtain ⟨z, its, n, r, hl, e⟩ := I.lstM hH
  obtain ⟨z2, its2, n2, r2, hl2, e2⟩ := I.lstM hB
  obtain ⟨a', rfl⟩ := Int.eq_ofNat_of_zero_le h0
  obtain ⟨c', rfl⟩ := Int.eq_ofNat_of_zero_le (Int.le_trans h0 hac)
  simp only [Int.toNat_natCast] at h
  refine setItem_slice (a := a') (c := c') e e2 hne hs (.int _ _) (.int _ _) (by omega) (by rw [List.size_toArray]; omega) (by rw [List.size_toArray, List.size_toArray]; omega) (h _ ?_)
  refine I.lset (its' := its.take a' ++ its2 ++ its.drop c') (t' := s.toks) hH e ?_ (Vals.append (Vals.append (r.take _) r2) (r.drop _)) ?_
  · exact splice_eq its its2 a' c'
  · rw [List.length_append, List.length_append, List.length_take, List.length_drop]
    omega
end
end L2

namespace L2
open PySem PySem.Spec PyProof.Rows

/-! ### lists of pairs as tables -/
section
variable {κ : Type} [DecidableEq κ]
def valV (kvs : List (κ × V)) (k : κ) : Option V := (kvs.find? fun kv => decide (kv.1 = k)).map (·.2)
/-- in its place, or at the end -/
def putK (kvs : List (κ × V)) (k : κ) (v : V) : List (κ × V) :=
  if (kvs.any fun kv => decide (kv.1 = k)) = true then kvs.map (fun kv => if kv.1 = k then (kv.1, v) else kv) else kvs ++ [(k, v)]
def dropK (kvs : List (κ × V)) (k : κ) : List (κ × V) := kvs.filter fun kv => decide (kv.1 ≠ k)

theorem valV_pos {p : κ × V} {r : List (κ × V)} {k : κ} (e : p.1 = k) : valV (p :: r) k = some p.2 := by simp [valV, List.find?_cons, e]
theorem valV_neg {p : κ × V} {r : List (κ × V)} {k : κ} (e : ¬ p.1 = k) : valV (p :: r) k = valV r k := by simp [valV, List.find?_cons, e]
theorem valV_any (k : κ) : ∀ kvs : List (κ × V), (kvs.any fun kv => decide (kv.1 = k)) = (valV kvs k).isSome
  | [] => rfl
  | p :: r => by
    rw [List.any_cons]
    by_cases e : p.1 = k
    · simp only [valV_pos e, decide_eq_true e, Bool.true_or, Option.isSome_some]
    · rw [valV_neg e, decide_eq_false e, Bool.false_or]; exact valV_any k r
theorem length_putK (kvs : List (κ × V)) (k : κ) (v : V) : (putK kvs k v).length ≤ kvs.length + 1 := by
  unfold putK
  split
  · rw [List.length_map]; omega
  · rw [List.length_append, List.length_cons, List.length_nil]; omega

theorem RelO.isSome_eq {o : Option V} {u : Option Value} (r : RelO o u) : o.isSome = u.isSome := by
  cases o with
  | none => cases u with
    | none => rfl
    | some _ => exact (show False from r).elim
  | some _ => cases u with
    | none => exact (show False from r).elim
    | some _ => rfl
theorem RelO.getD {o : Option V} {u : Option Value} {d : V} {d' : Value} (r : RelO o u) (rd : RelV d d') : RelV (o.getD d) (u.getD d') := by
  cases o with
  | none => cases u with
    | none => exact rd
    | some _ => exact (show False from r).elim
  | some _ => cases u with
    | none => exact (show False from r).elim
    | some _ => exact r

/-- raw tables of the same keys -/
theorem KV.val {kvs : List (κ × V)} {vs : List (κ × Value)} (r : KV kvs vs) (k : κ) : RelO (valV kvs k) (valueAt vs k) := by
  unfold KV at r
  induction r with
  | nil => exact True.intro
  | @cons p q ps qs h t ih =>
    obtain ⟨h1, h2⟩ := h
    by_cases e : p.1 = k
    · have e' : q.1 = k := h1.symm.trans e
      have b : valueAt (q :: qs) k = some q.2 := by simp [valueAt, List.find?_cons, e']
      rw [valV_pos e, b]; exact h2
    · have e' : ¬ q.1 = k := fun z => e (h1.trans z)
      have b : valueAt (q :: qs) k = valueAt qs k := by simp [valueAt, List.find?_cons, e']
      rw [valV_neg e, b]; exact ih
theorem KV.any {kvs : List (κ × V)} {vs : List (κ × Value)} (r : KV kvs vs) (k : κ) : (kvs.any fun kv => decide (kv.1 = k)) = vs.any fun kv => decide (kv.1 = k) := by
  unfold KV at r
  induction r with
  | nil => rfl
  | cons h t ih => rw [List.any_cons, List.any_cons, ih, h.1]
theorem KV.repl {kvs : List (κ × V)} {vs : List (κ × Value)} (r : KV kvs vs) (k : κ) {y : V} {u : Value} (ry : RelV y u) :
    KV (kvs.map fun kv => if kv.1 = k then (kv.1, y) else kv) (vs.map fun kv => if kv.1 = k then (kv.1, u) else kv) := by
  unfold KV at r ⊢
  induction r with
  | nil => exact .nil
  | @cons p q ps qs h t ih =>
    rw [List.map_cons, List.map_cons]
    refine .cons ?_ ih
    obtain ⟨h1, h2⟩ := h
    by_cases e : p.1 = k
    · rw [if_pos e, if_pos (h1.symm.trans e)]; exact ⟨h1, ry⟩
    · rw [if_neg e, if_neg (fun z => e (h1.trans z))]; exact ⟨h1, h2⟩
theorem KV.put {kvs : List (κ × V)} {vs : List (κ × Value)} (r : KV kvs vs) (k : κ) {y : V} {u : Value} (ry : RelV y u) : KV (putK kvs k y) (stored vs k u) := by
  unfold putK stored
  rw [r.any k]
  by_cases e : (vs.any fun kv => decide (kv.1 = k)) = true
  · rw [if_pos e, if_pos e]; exact r.repl k ry
  · rw [if_neg e, if_neg e]; exact Paired.snoc r ⟨rfl, ry⟩
theorem KV.drop {kvs : List (κ × V)} {vs : List (κ × Value)} (r : KV kvs vs) (k : κ) : KV (dropK kvs k) (without vs k) := by
  unfold KV at r ⊢
  unfold dropK without
  induction r with
  | nil => exact .nil
  | @cons p q ps qs h t ih =>
    obtain ⟨h1, h2⟩ := h
    rw [List.filter_cons, List.filter_cons]
    by_cases e : p.1 = k
    · have a : ¬ decide (p.1 ≠ k) = true := by simp [e]
      have b : ¬ decide (q.1 ≠ k) = true := by simp [h1.symm.trans e]
      rw [if_neg a, if_neg b]; exact ih
    · have e' : ¬ q.1 = k := fun z => e (h1.trans z)
      have a : decide (p.1 ≠ k) = true := by simp [e]
      have b : decide (q.1 ≠ k) = true := by simp [e']
      rw [if_pos a, if_pos b]; exact .cons ⟨h1, h2⟩ ih
theorem KV.length {kvs : List (κ × V)} {vs : List (κ × Value)} (r : KV kvs vs) : kvs.length = vs.length := Paired.length r
theorem dropK_le (kvs : List (κ × V)) (k : κ) : (dropK kvs k).length ≤ kvs.length := List.length_filter_le _ _
end


/-! ### a tracked dict, its keys ints and texts or tuples of these -/
theorem kV_is {P : Program} {w : World} {k : Key} {u : Value} (r : RelV (kV k) u) : (mixKind P w).is k u = true := by
  cases k with
  | inl i => obtain ⟨t, e⟩ := (show ∃ t, u = Value.int i t from r); subst e; exact mixKind_int P w i t
  | inr x => obtain ⟨t, e⟩ := (show ∃ t, u = Value.str x t from r); subst e; exact mixKind_str P w x t
theorem items_are {P : Program} {w : World} : ∀ {ks : List Key} {us : List Value}, Vals (ks.map kV) us → ItemsAre (mixKind P w) ks us
  | [], _, r => by rw [List.map_nil] at r; cases r; exact .nil
  | k :: ks, _, r => by
    rw [List.map_cons] at r
    cases r with
    | cons h t => exact .cons (kV_is h) (items_are t)

/-- raw entries of a dict with tuple keys -/
abbrev KT (H : Hp) : List (List Key × V) → List (List Key × Addr × Value) → Prop := Paired fun p q => p.1 = q.1 ∧ H q.2.1 = some (.tup (p.1.map kV)) ∧ RelV p.2 q.2.2
theorem KT.val {H : Hp} {kvs : List (List Key × V)} {xs : List (List Key × Addr × Value)} (r : KT H kvs xs) (k : List Key) : RelO (valV kvs k) ((atKey xs k).map (·.2)) := by
  induction r with
  | nil => exact True.intro
  | @cons p q ps qs h t ih =>
    obtain ⟨h1, _, h2⟩ := h
    by_cases e : p.1 = k
    · have e' : q.1 = k := h1.symm.trans e
      have b : atKey (q :: qs) k = some q.2 := by simp [atKey, List.find?_cons, e']
      rw [valV_pos e, b]; exact h2
    · have e' : ¬ q.1 = k := fun z => e (h1.trans z)
      have b : atKey (q :: qs) k = atKey qs k := by simp [atKey, List.find?_cons, e']
      rw [valV_neg e, b]; exact ih
theorem KT.repl {H : Hp} {kvs : List (List Key × V)} {xs : List (List Key × Addr × Value)} (r : KT H kvs xs) (k : List Key) {y : V} {u : Value} (ry : RelV y u) :
    KT H (kvs.map fun kv => if kv.1 = k then (kv.1, y) else kv) (xs.map (putAt k u)) := by
  induction r with
  | nil => exact .nil
  | @cons p q ps qs h t ih =>
    rw [List.map_cons, List.map_cons]
    refine .cons ?_ ih
    obtain ⟨h1, h2, h3⟩ := h
    unfold putAt
    by_cases e : p.1 = k
    · rw [if_pos e, if_pos (h1.symm.trans e)]; exact ⟨h1, h2, ry⟩
    · rw [if_neg e, if_neg (fun z => e (h1.trans z))]; exact ⟨h1, h2, h3⟩
theorem KT.put {H : Hp} {kvs : List (List Key × V)} {xs : List (List Key × Addr × Value)} (r : KT H kvs xs) (k : List Key) {b : Addr} {y : V} {u : Value} (hb : H b = some (.tup (k.map kV))) (ry : RelV y u) :
    KT H (putK kvs k y) (storedH xs k b u) := by
  have e : (kvs.any fun kv => decide (kv.1 = k)) = (atKey xs k).isSome := by
    rw [valV_any, (r.val k).isSome_eq, Option.isSome_map]
  unfold putK storedH
  rw [e]
  by_cases q : (atKey xs k).isSome = true
  · rw [if_pos q, if_pos q]; exact r.repl k ry
  · rw [if_neg q, if_neg q]; exact Paired.snoc r ⟨rfl, hb, ry⟩
theorem KT.keeps {H H' : Hp} {kvs : List (List Key × V)} {xs : List (List Key × Addr × Value)} (r : KT H kvs xs) (ht : ∀ b ys, H b = some (.tup ys) → H' b = some (.tup ys)) : KT H' kvs xs :=
  Paired.mapP r fun _ _ z => ⟨z.1, ht _ _ z.2.1, z.2.2⟩

section
variable {P : Program} {w : World} {H : Hp} {h : Heap} {a : Addr}
theorem rd_of {u : HO} (ok : HOk P w H h) (e : Rd H a u) : ObjOk P w H h a u := e.ok ok
theorem dk_rd {kvs : List (Key × V)} (ok : HOk P w H h) (e : Rd H a (.dK kvs)) : kvs.length ≤ sizeLine ∧ (a == sysModules) = false ∧ ∃ vs, KV kvs vs ∧ h.DictOf (mixKind P w) a vs :=
  show ObjOk P w H h a (.dK kvs) from rd_of ok e
theorem dk_of {kvs : List (Key × V)} (ok : HOk P w H h) (e : H a = some (.dK kvs)) : kvs.length ≤ sizeLine ∧ (a == sysModules) = false ∧ ∃ vs, KV kvs vs ∧ h.DictOf (mixKind P w) a vs := dk_rd ok (.inl e)
/-- a tracked tuple of ints and texts is a key -/
theorem key_of {ks : List Key} (ok : HOk P w H h) (e : H a = some (.tup (ks.map kV))) : (tupleKind (mixKind P w)).is h ks a := by
  obtain ⟨_, its, r, o, h1, h2, n, h3⟩ := (show ObjOk P w H h a (.tup (ks.map kV)) from ok a _ e)
  exact ⟨o, its.toArray, n, h1, h2, h3, by simpa using items_are r⟩
theorem dt_rd {kvs : List (List Key × V)} (ok : HOk P w H h) (e : Rd H a (.dT kvs)) : kvs.length ≤ sizeLine ∧ (a == sysModules) = false ∧
    ∃ xs, KT H kvs xs ∧ h.DictOfH (tupleKind (mixKind P w)) a xs := by
  obtain ⟨z, y, xs, r, o, es, ep, h1, h2, h3, h4, h5⟩ := (show ObjOk P w H h a (.dT kvs) from rd_of ok e)
  refine ⟨z, y, xs, r, o, es, ep, h1, h2, h3, h4, fun x hx => ?_, h5⟩
  have all : ∀ {l : List (List Key × V)} {m : List (List Key × Addr × Value)}, KT H l m → ∀ x ∈ m, (tupleKind (mixKind P w)).is h x.1 x.2.1 := by
    intro l m q
    induction q with
    | nil => intro x hx; exact nomatch hx
    | @cons p q ps qs hq t ih =>
      intro x hx
      rcases List.mem_cons.mp hx with e | hx
      · subst e
        exact key_of ok (by rw [← hq.1]; exact hq.2.1)
      · exact ih x hx
  exact all r x hx
theorem dt_of {kvs : List (List Key × V)} (ok : HOk P w H h) (e : H a = some (.dT kvs)) : kvs.length ≤ sizeLine ∧ (a == sysModules) = false ∧
    ∃ xs, KT H kvs xs ∧ h.DictOfH (tupleKind (mixKind P w)) a xs := dt_rd ok (.inl e)
end

/-- what the dict at a holds at the key y -/
def DGet (H : Hp) (a : Addr) (y : V) (r : Option V) : Prop :=
  (∃ kvs k, Rd H a (.dK kvs) ∧ y = kV k ∧ r = valV kvs k) ∨ ∃ kvs k b, Rd H a (.dT kvs) ∧ y = .ref b ∧ H b = some (.tup (k.map kV)) ∧ r = valV kvs k
/-- the heap behind a[y] = v -/
def DPut (H : Hp) (a : Addr) (y v : V) (H' : Hp) : Prop :=
  (∃ kvs k, H a = some (.dK kvs) ∧ y = kV k ∧ kvs.length < sizeLine ∧ H' = upd H a (.dK (putK kvs k v))) ∨
  ∃ kvs k b, H a = some (.dT kvs) ∧ y = .ref b ∧ H b = some (.tup (k.map kV)) ∧ kvs.length < sizeLine ∧ H' = upd H a (.dT (putK kvs k v))
theorem DGet.k {H : Hp} {a : Addr} {kvs : List (Key × V)} {k : Key} (e : H a = some (.dK kvs)) : DGet H a (kV k) (valV kvs k) := .inl ⟨kvs, k, .inl e, rfl, rfl⟩
theorem DPut.k {H : Hp} {a : Addr} {kvs : List (Key × V)} {k : Key} {v : V} (e : H a = some (.dK kvs)) (hl : kvs.length < sizeLine) : DPut H a (kV k) v (upd H a (.dK (putK kvs k v))) := .inl ⟨kvs, k, e, rfl, hl, rfl⟩


section
variable {X : Cx} {pins : List (Addr × Obj)} {σ : St} {H : Hp} {s : Shared} {a : Addr} {y v : V} {u r : Value} {o : Option V} {A : Around} {E : Value → Shared → Prop}

theorem Inv.big (I : Inv X pins σ H s) : sysModules < s.heap.objs.size := by
  have h : mainGlobals < s.heap.objs.size := (I.mod.glob.keeps I.bk).lt
  exact Nat.lt_trans (by decide) h

/-- d[y], there -/
theorem d_getItem {Q : Value → Shared → Prop} (hu : A.units + 1 < cLine) (I : Inv X pins σ H s) (g : DGet H a y (some v)) (ry : RelV y u) (h : ∀ w' s', Inv X pins σ H s' → RelV v w' → Q w' s') :
    wpAny (model X.prog X.w) A (getItem (.ref a) u) Q E s := by
  rcases g with ⟨kvs, k, e, ey, l⟩ | ⟨kvs, k, b, e, ey, eb, l⟩
  · subst ey
    obtain ⟨z, hd, vs, rel, dd⟩ := dk_rd I.hok e
    obtain ⟨w', hw, rw'⟩ := RelO.some_of (v := v) (o := valueAt vs k) (by rw [l]; exact rel.val k)
    exact wpAny_getItem_of (kV_is ry) dd.mapOf hw (h w' _ (I.tok _) rw')
  · subst ey
    cases (show u = Value.ref b from ry)
    obtain ⟨z, hd, xs, rel, dd⟩ := dt_rd I.hok e
    obtain ⟨w', hw, rw'⟩ := RelO.some_of (v := v) (o := (atKey xs k).map (·.2)) (by rw [l]; exact rel.val k)
    obtain ⟨p, hp, hp2⟩ := Option.map_eq_some_iff.mp hw
    refine wpAny_getItem_heap (tupleKind_room_in1 hu) (key_of I.hok eb) dd hp ?_
    rw [hp2]
    exact h w' _ (I.tok _) rw'
/-- y in d -/
theorem d_in {Q : Value → Shared → Prop} (hu : A.units + 1 < cLine) (I : Inv X pins σ H s) (g : DGet H a y o) (ry : RelV y u) (h : ∀ s', Inv X pins σ H s' → Q (.bool o.isSome) s') :
    wpAny (model X.prog X.w) A (compareOp .In u (.ref a)) Q E s := by
  rcases g with ⟨kvs, k, e, ey, l⟩ | ⟨kvs, k, b, e, ey, eb, l⟩
  · subst ey
    obtain ⟨z, hd, vs, rel, dd⟩ := dk_rd I.hok e
    refine wpAny_in_of (kV_is ry) hd dd.mapOf ?_
    rw [← (rel.val k).isSome_eq, ← l]
    exact h _ (I.tok _)
  · subst ey
    cases (show u = Value.ref b from ry)
    obtain ⟨z, hd, xs, rel, dd⟩ := dt_rd I.hok e
    refine wpAny_in_heap (tupleKind_room_in1 hu) (key_of I.hok eb) hd dd ?_
    have q := (rel.val k).isSome_eq
    rw [Option.isSome_map] at q
    rw [← q, ← l]
    exact h _ (I.tok _)
/-- a dict's object is replaced -/
theorem d_write {h' : Heap} {t' : Nat} {ob : HO} (I : Inv X pins σ H s) (mu : Mut (H a)) (hs : Heap.SameBut a s.heap h') (he : ∃ q, h'.get? a = some q) (new : ObjOk X.prog X.w (upd H a ob) h' a ob) :
    Inv X pins σ (upd H a ob) { s with heap := h', toks := t' } :=
  I.write (x := a) (e := a) mu (.inl rfl) (fun b q hb z => (hs.2 b hb).trans z) he new
theorem dk_new {P : Program} {w : World} {H' : Hp} {h' : Heap} {kvs : List (Key × V)} {vs : List (Key × Value)} (z : kvs.length ≤ sizeLine) (hd : (a == sysModules) = false) (rel : KV kvs vs) (dd : h'.DictOf (mixKind P w) a vs) :
    ObjOk P w H' h' a (.dK kvs) := ⟨z, hd, vs, rel, dd⟩
/-- d[y] = v -/
theorem d_setItem {H' : Hp} {Q : Unit → Shared → Prop} (hu : A.units + 1 < cLine) (I : Inv X pins σ H s) (g : DPut H a y v H') (ry : RelV y u) (rv : RelV v r) (h : ∀ s', Inv X pins σ H' s' → Q () s') :
    wpAny (model X.prog X.w) A (setItem (.ref a) u r) Q E s := by
  rcases g with ⟨kvs, k, e, ey, l, eH⟩ | ⟨kvs, k, b, e, ey, eb, l, eH⟩
  · subst ey eH
    obtain ⟨z, hd, vs, rel, dd⟩ := dk_of I.hok e
    have hz : vs.length ≤ sizeLine := by rw [← rel.length]; exact z
    have hl : (putK kvs k v).length ≤ sizeLine := by have := length_putK kvs k v; omega
    refine wpAny_setItem_pairs (hsz := hz) (kV_is ry) dd fun h' dd' hs => h _ ?_
    have he : ∃ q, h'.get? a = some q := let ⟨q, _, _, hq, _⟩ := dd'; ⟨q, hq⟩
    exact d_write I (by rw [e]; exact True.intro) hs he (dk_new hl hd (rel.put k rv) dd')
  · subst ey eH
    cases (show u = Value.ref b from ry)
    obtain ⟨z, hd, xs, rel, dd⟩ := dt_of I.hok e
    have hz : xs.length ≤ sizeLine := by rw [← Paired.length rel]; exact z
    have hl : (putK kvs k v).length ≤ sizeLine := by have := length_putK kvs k v; omega
    refine wpAny_setItem_heap (hsz := hz) (tupleKind_room_in1 hu) (key_of I.hok eb) dd fun h' dd' hs => h _ ?_
    obtain ⟨q, es, ep, hq, h2, h3, h4, _, h5⟩ := dd'
    refine d_write I (by rw [e]; exact True.intro) hs ⟨q, hq⟩ ⟨hl, hd, _, (rel.put k eb rv).keeps fun c ys ec => ?_, q, es, ep, hq, h2, h3, h4, h5⟩
    rw [upd_ne (ne_of ec e (fun z => nomatch z))]
    exact ec
end

section
variable {X : Cx} {pins : List (Addr × Obj)} {σ : St} {H : Hp} {s : Shared} {a : Addr} {kvs : List (Key × V)} {k : Key} {u : Value} {A : Around} {E : Value → Shared → Prop}
/-- del d[k] -/
theorem d_delItem {Q : Unit → Shared → Prop} (I : Inv X pins σ H s) (e : H a = some (.dK kvs)) (ry : RelV (kV k) u) (l : (valV kvs k).isSome = true) (h : ∀ s', Inv X pins σ (upd H a (.dK (dropK kvs k))) s' → Q () s') :
    wpAny (model X.prog X.w) A (delItem (.ref a) u) Q E s := by
  obtain ⟨z, hd, vs, rel, dd⟩ := dk_of I.hok e
  refine wpAny_delItem_slot dd.typeIs (by decide) PySem.F.slot_dict_delitem
    (call_meetsIn PySem.F.slot_dict_delitem dd.typeIs PySem.F.entry_dict_delitem (PySem.F.args_dict_delitem_2 _ _) (meets_dict_delitem_pairs (mixKind X.prog X.w) a (kV_is ry)) ⟨vs, dd, by rw [← rel.length]; exact z, by rw [← (rel.val k).isSome_eq]; exact l, fun h' dd' hs => h _ ?_⟩)
  have he : ∃ q, h'.get? a = some q := let ⟨q, _, _, hq, _⟩ := dd'; ⟨q, hq⟩
  exact d_write I (by rw [e]; exact True.intro) hs he (dk_new (Nat.le_trans (dropK_le kvs k) z) hd (rel.drop k) dd')
/-- d.pop(k[, x]), there -/
theorem d_pop {v : V} {more : List Value} {Q : Value → Shared → Prop} (I : Inv X pins σ H s) (e : H a = some (.dK kvs)) (ry : RelV (kV k) u) (l : valV kvs k = some v) (hm : more = [] ∨ ∃ x, more = [x])
    (h : ∀ w' s', Inv X pins σ (upd H a (.dK (dropK kvs k))) s' → RelV v w' → Q w' s') : wpAny (model X.prog X.w) A (call (.builtin "dict.pop") (.ref a :: u :: more)) Q E s := by
  obtain ⟨z, hd, vs, rel, dd⟩ := dk_of I.hok e
  obtain ⟨w', hw, rw'⟩ := RelO.some_of (v := v) (o := valueAt vs k) (by rw [← l]; exact rel.val k)
  have hp : (keyPart u).isSome = true := by
    cases k with
    | inl i => obtain ⟨t, q⟩ := (show ∃ t, u = Value.int i t from ry); subst q; rfl
    | inr x => obtain ⟨t, q⟩ := (show ∃ t, u = Value.str x t from ry); subst q; rfl
  have ha : argsOk "dict.pop" ⟨.ref a :: u :: more, []⟩ := by
    rcases hm with q | ⟨x, q⟩
    · subst q; exact PySem.F.args_dict_pop_2 _ _
    · subst q; exact PySem.F.args_dict_pop_3 _ _ _
  refine call_meetsIn PySem.F.slot_dict_pop dd.typeIs PySem.F.entry_dict_pop ha (meets_dict_pop_there (mixKind X.prog X.w) a (kV_is ry) more hm hp)
    ⟨vs, w', dd, by rw [← rel.length]; exact z, hw, fun h' dd' hs => h w' _ ?_ rw'⟩
  have he : ∃ q, h'.get? a = some q := let ⟨q, _, _, hq, _⟩ := dd'; ⟨q, hq⟩
  exact d_write I (by rw [e]; exact True.intro) hs he (dk_new (Nat.le_trans (dropK_le kvs k) z) hd (rel.drop k) dd')
/-- d.pop(k, x), not there -/
theorem d_popD {r : Value} {Q : Value → Shared → Prop} (I : Inv X pins σ H s) (e : H a = some (.dK kvs)) (ry : RelV (kV k) u) (l : valV kvs k = none) (h : ∀ s', Inv X pins σ H s' → Q r s') :
    wpAny (model X.prog X.w) A (call (.builtin "dict.pop") [.ref a, u, r]) Q E s := by
  obtain ⟨z, hd, vs, rel, dd⟩ := dk_of I.hok e
  have hn : valueAt vs k = none := RelO.none_of (by rw [← l]; exact rel.val k)
  have hp : (keyPart u).isSome = true := by
    cases k with
    | inl i => obtain ⟨t, q⟩ := (show ∃ t, u = Value.int i t from ry); subst q; rfl
    | inr x => obtain ⟨t, q⟩ := (show ∃ t, u = Value.str x t from ry); subst q; rfl
  exact call_meetsIn PySem.F.slot_dict_pop dd.typeIs PySem.F.entry_dict_pop (PySem.F.args_dict_pop_3 _ _ _) (meets_dict_pop_default (mixKind X.prog X.w) a (kV_is ry) hd hp r) ⟨vs, dd, hn, h _ (I.tok _)⟩
/-- d.clear() -/
theorem d_clear {Q : Value → Shared → Prop} (I : Inv X pins σ H s) (e : H a = some (.dK kvs)) (h : ∀ s', Inv X pins σ (upd H a (.dK [])) s' → Q .none s') : wpAny (model X.prog X.w) A (call (.builtin "dict.clear") [.ref a]) Q E s := by
  obtain ⟨z, hd, vs, rel, dd⟩ := dk_of I.hok e
  refine call_meetsIn PySem.F.slot_dict_clear dd.typeIs PySem.F.entry_dict_clear (PySem.F.args_dict_clear_1 _) (meets_dict_clear (mixKind X.prog X.w) a) ⟨vs, dd, by rw [← rel.length]; exact z, fun h' dd' hs => h _ ?_⟩
  have he : ∃ q, h'.get? a = some q := let ⟨q, _, _, hq, _⟩ := dd'; ⟨q, hq⟩
  exact d_write (t' := s.toks) I (by rw [e]; exact True.intro) hs he (dk_new (Nat.zero_le _) hd .nil dd')
/-- len(d) -/
theorem d_len {Q : Value → Shared → Prop} (I : Inv X pins σ H s) (e : Rd H a (.dK kvs)) (h : ∀ t s', Inv X pins σ H s' → Q (.int kvs.length t) s') : wpAny (model X.prog X.w) A (call (.builtin "len") [.ref a]) Q E s := by
  obtain ⟨z, hd, vs, rel, dd⟩ := dk_rd I.hok e
  refine call_len_dict hd dd (by rw [← rel.length]; rw [sizeLine_eq] at z; omega) ?_
  rw [← rel.length]
  exact h _ _ (I.tok _)
/-- if d -/
theorem d_truth {Q : Bool → Shared → Prop} (I : Inv X pins σ H s) (e : Rd H a (.dK kvs)) (h : ∀ s', Inv X pins σ H s' → Q (!kvs.isEmpty) s') : wpAny (model X.prog X.w) A (truthy (.ref a)) Q E s := by
  obtain ⟨z, hd, vs, rel, dd⟩ := dk_rd I.hok e
  refine wpAny_truthy_dict hd dd (by rw [← rel.length]; rw [sizeLine_eq] at z; omega) ?_
  have q : kvs.isEmpty = vs.isEmpty := by cases rel <;> rfl
  rw [← q]
  exact h _ (I.tok _)
end


/-! ### readings and rules -/
/-- the element of a subscription, not a slice -/
def NoSl (i : Expr) : Prop := ∀ ov iv, subscripted i false ov iv = operate [ov, iv] (getItem ov iv)
theorem subD_of {prog : Program} {w : World} {A : Around} {E : Value → Shared → Prop} {s : Shared} {env : Env} {value slice : Expr} {pos : Pos} {T id : String} {Q : Value → Shared → Prop}
    (hl : typeLookup (.type T) "__getitem__" = pure (some (.builtin id))) (hs : NoSl slice)
    (h : wpAny (model prog w) A (eval value env) (fun o s₁ => wpAny (model prog w) A (eval slice env) (fun i s₂ => s₂.TypeIs o T ∧ wpAny (model prog w) A (getItem o i) Q E s₂) E s₁) E s) :
    wpAny (model prog w) A (eval (.Subscript value slice pos) env) Q E s := by
  refine Subscript_ (wpAny_mono h (fun o s₁ h₁ => wpAny_mono h₁ (fun i s₂ h₂ => ?_) fun _ _ x => x) fun _ _ x => x)
  obtain ⟨hT, h₂⟩ := h₂
  unfold subscriptTail
  refine wpAny_bind ?_
  rw [getitemInPython_of_ne hT.not_modules]
  refine wpAny_bind (wpAny_specialOf hT hl ?_)
  have fin : wpAny (model prog w) A (subscripted slice false o i) (fun r s₃ => wpAny (model prog w) A (letTemporaryGo value o r >>= fun _ => pure r) Q E s₃) E s₂ := by
    rw [hs o i]
    exact wpAny_operating (wpAny_mono h₂ (fun r s₃ h₃ => wpAny_bind (wpAny_letTemporaryGo (wpAny_pure h₃))) fun _ _ x => x)
  first
    | exact wpAny_pure (wpAny_bind fin)
    | exact wpAny_bind (wpAny_pure (wpAny_bind fin))
    | exact wpAny_bind fin

theorem dict_typeIs {X : Cx} {pins : List (Addr × Obj)} {σ : St} {H : Hp} {s : Shared} {a : Addr} {y : V} {o : Option V} (I : Inv X pins σ H s) (g : DGet H a y o) : s.TypeIs (.ref a) "dict" := by
  rcases g with ⟨kvs, k, e, _, _⟩ | ⟨kvs, k, b, e, _, _, _⟩
  · obtain ⟨_, _, vs, _, dd⟩ := dk_rd I.hok e
    exact dd.typeIs
  · obtain ⟨_, _, xs, _, dd⟩ := dt_rd I.hok e
    exact dd.typeIs

/-- d[y] -/
def tDGet (td ty : TE) : TE := fun σ H Q => td σ H fun x H1 => ty σ H1 fun y H2 => ∃ a v, x = .ref a ∧ DGet H2 a y (some v) ∧ Q v H2
/-- y in d, y not in d -/
def tDIn (ty td : TE) : TE := fun σ H Q => ty σ H fun y H1 => td σ H1 fun x H2 => ∃ a o, x = .ref a ∧ DGet H2 a y o ∧ Q (.bl o.isSome) H2
def tDNotIn (ty td : TE) : TE := fun σ H Q => ty σ H fun y H1 => td σ H1 fun x H2 => ∃ a o, x = .ref a ∧ DGet H2 a y o ∧ Q (.bl (!o.isSome)) H2
/-- d[y] = v -/
def sDPut (td ty tv : TE) : TS := fun D σ H => tv σ H fun v H1 => td σ H1 fun x H2 => ty σ H2 fun y H3 => ∃ a H4, x = .ref a ∧ DPut H3 a y v H4 ∧ D.nx σ H4
/-- d[y] op= v -/
def sDAug (td ty tv : TE) (rd : V → V → Hp → VK → Prop) : TS := fun D σ H => td σ H fun x H1 => ty σ H1 fun y H2 => ∃ a v, x = .ref a ∧ DGet H2 a y (some v) ∧
  tv σ H2 fun y2 H3 => rd v y2 H3 fun z H4 => ∃ H5, DPut H4 a y z H5 ∧ D.nx σ H5
/-- del d[y] -/
def sDDel (td ty : TE) : TS := fun D σ H => td σ H fun x H1 => ty σ H1 fun y H2 => ∃ a kvs k, x = .ref a ∧ H2 a = some (.dK kvs) ∧ y = kV k ∧ (valV kvs k).isSome = true ∧ D.nx σ (upd H2 a (.dK (dropK kvs k)))

section
variable {X : Cx} {o i e value : Expr} {pos pos' tpos : Pos} {td ty tv : TE}
theorem pe_dget (hu : X.A.units + 1 < cLine) (ho : PE X o td) (hi : PE X i ty) (hs : NoSl i) : PE X (.Subscript o i pos) (tDGet td ty) := by
  intro pins s σ H Q I h
  refine subD_of PySem.F.slot_dict_getitem.lookup hs (thn (ho pins s σ H _ I h) fun u s1 ⟨x, H1, I1, rx, q1⟩ => thn (hi pins s1 σ H1 _ I1 q1) fun iv s2 ⟨y, H2, I2, ry, a, v, ex, g, q2⟩ => ?_)
  subst ex
  obtain rfl : u = Value.ref a := rx
  exact ⟨dict_typeIs I2 g, d_getItem hu I2 g ry fun w' s3 I3 rw' => ⟨v, H2, I3, rw', q2⟩⟩
theorem pc_din (hu : X.A.units + 1 < cLine) (hi : PE X i ty) (ho : PE X o td) : PC X .In i o (tDIn ty td) := by
  intro pins s σ H Q I h
  refine thn (hi pins s σ H _ I h) fun iv s1 ⟨y, H1, I1, ry, q1⟩ => thn (ho pins s1 σ H1 _ I1 q1) fun u s2 ⟨x, H2, I2, rx, a, ov, ex, g, q2⟩ => ?_
  subst ex
  obtain rfl : u = Value.ref a := rx
  exact d_in hu I2 g ry fun s3 I3 => ⟨.bl ov.isSome, H2, I3, rfl, q2⟩
theorem ps_dput (hu : X.A.units + 1 < cLine) (ho : PE X o td) (hi : PE X i ty) (hv : PE X value tv) (hs : swapsWith value (some (.Subscript o i pos')) pos.line X.env = pure false) :
    PS X (.Assign [.Subscript o i pos'] value pos) (sDPut td ty tv) := by
  intro pins s σ H D I h
  refine wpAny_Assign_Subscript (thn (hv pins s σ H _ I h) fun r s1 ⟨v, H1, I1, rv, q1⟩ => thn (ho pins s1 σ H1 _ I1 q1) fun u s2 ⟨x, H2, I2, rx, q2⟩ => thn (hi pins s2 σ H2 _ I2 q2) fun iv s3 ⟨y, H3, I3, ry, a, H4, ex, g, q3⟩ => ?_) hs
  subst ex
  obtain rfl : u = Value.ref a := rx
  exact d_setItem hu I3 g ry rv fun s4 I4 => ⟨σ, H4, I4, q3⟩
end


/-! ### displays -/
theorem dk_empty {P : Program} {w : World} {H : Hp} (h : Heap) (hb : sysModules < h.objs.size) : ObjOk P w H (h.push { cls := .type "dict", data := .dict #[] }) h.objs.size (.dK []) :=
  ⟨Nat.zero_le _, beq_eq_false_iff_ne.mpr (Ne.symm (Nat.ne_of_lt hb)), [], .nil, Heap.DictOf.new h⟩
/-- {}, to be a dict of the kind that is wanted -/
def tDNewK : TE := fun _ H Q => ∀ p, H p = none → Q (.ref p) (upd H p (.dK []))
def tDNewT : TE := fun _ H Q => ∀ p, H p = none → Q (.ref p) (upd H p (.dT []))
section
variable {X : Cx} {pos : Pos}
theorem pe_dnewK : PE X (.Dict [] [] pos) tDNewK := fun pins s σ H Q I h =>
  wpAny_Dict_empty ⟨.ref s.heap.objs.size, _, I.laid (a := s.heap.objs.size) (o := .dK []) (t' := s.toks) (fun _ _ q => Heap.get?_push_of_some _ q) (Nat.le_refl _) (dk_empty s.heap I.big), rfl, h _ (I.hok.fresh (Nat.le_refl _))⟩
end

/-- the pairs of a display, from the left -/
def tPairs : List (TE × TE) → St → Hp → (List (V × V) → Hp → Prop) → Prop
  | [], _, H, Q => Q [] H
  | (tk, tv) :: r, σ, H, Q => tk σ H fun x H1 => tv σ H1 fun y H2 => tPairs r σ H2 fun ps H3 => Q ((x, y) :: ps) H3
abbrev VV : List (V × V) → List (Value × Value) → Prop := Paired fun p q => RelV p.1 q.1 ∧ RelV p.2 q.2
def PPs (X : Cx) (pos : Pos) (keys : List (Option Expr)) (values : List Expr) (trs : List (TE × TE)) : Prop :=
  ∀ (pins : List (Addr × Obj)) (s : Shared) (σ : St) (H : Hp) (Q : List (V × V) → Hp → Prop), Inv X pins σ H s → tPairs trs σ H Q →
    wpAny (model X.prog X.w) X.A (evalPairs (pairTrees keys values X.env pos)) (fun vs s' => ∃ ps H', Inv X pins σ H' s' ∧ VV ps vs ∧ Q ps H') X.xe s

def mergeK (kvs more : List (Key × V)) : List (Key × V) := more.foldl (fun acc kv => putK acc kv.1 kv.2) kvs
/-- {k: v, ..} with keys ints and texts; the new dict stands empty while the pairs are made -/
def tDisp (trs : List (TE × TE)) : TE := fun σ H Q => ∀ p, H p = none → tPairs trs σ (upd H p (.dK [])) fun ps H2 => H2 p = some (.dK []) ∧ ∃ kvs : List (Key × V), ps = kvs.map (fun kv => (kV kv.1, kv.2)) ∧ kvs.length ≤ 15 ∧ Q (.ref p) (upd H2 p (.dK (mergeK [] kvs)))


/-! ### methods -/
/-- a method call o.m(e) of a built-in, with one argument: what must be seen of the text -/
structure M1 (X : Cx) (o : Expr) (m : Str) (apos : Pos) (e : Expr) (cpos : Pos) : Prop where
  base : attributeBase o m X.env (eval o X.env) = eval o X.env
  few : ((backTo cpos (starEach [e] X.env)).all (fun x => !x.1) && (backToKw cpos (keywordEach [] X.env)).all (fun x => x.1.isSome)
    && decide (([e] : List Expr).length + ([] : List Keyword).length + (if ([] : List Keyword).isEmpty then 0 else 1) < 30)) = true
  line : (apos.endLine == cpos.line) = true
  trees : backTo cpos (starEach [e] X.env) = [(false, eval e X.env)]
structure M2 (X : Cx) (o : Expr) (m : Str) (apos : Pos) (e f : Expr) (cpos : Pos) : Prop where
  base : attributeBase o m X.env (eval o X.env) = eval o X.env
  few : ((backTo cpos (starEach [e, f] X.env)).all (fun x => !x.1) && (backToKw cpos (keywordEach [] X.env)).all (fun x => x.1.isSome)
    && decide (([e, f] : List Expr).length + ([] : List Keyword).length + (if ([] : List Keyword).isEmpty then 0 else 1) < 30)) = true
  line : (apos.endLine == cpos.line) = true
  trees : backTo cpos (starEach [e, f] X.env) = [(false, eval e X.env), (false, eval f X.env)]

/-- a is a dict, whatever its keys -/
def IsD (H : Hp) (a : Addr) : Prop := (∃ kvs, Rd H a (.dK kvs)) ∨ ∃ kvs, Rd H a (.dT kvs)

section
variable {X : Cx} {pins : List (Addr × Obj)} {σ : St} {H : Hp} {s : Shared} {a : Addr} {y d : V} {u r : Value} {o : Option V} {A : Around} {E : Value → Shared → Prop}
/-- d.get(y) -/
theorem d_get1 {Q : Value → Shared → Prop} (hu : A.units + 1 < cLine) (I : Inv X pins σ H s) (g : DGet H a y o) (ry : RelV y u) (h : ∀ w' s', Inv X pins σ H s' → RelV (o.getD .non) w' → Q w' s') :
    wpAny (model X.prog X.w) A (call (.builtin "dict.get") [.ref a, u]) Q E s := by
  rcases g with ⟨kvs, k, e, ey, l⟩ | ⟨kvs, k, b, e, ey, eb, l⟩
  · subst ey
    obtain ⟨z, hd, vs, rel, dd⟩ := dk_rd I.hok e
    refine call_meetsIn PySem.F.slot_dict_get dd.typeIs PySem.F.entry_dict_get (PySem.F.args_dict_get_2 _ _) (meets_dict_get (mixKind X.prog X.w) a (kV_is ry) hd) ⟨_, dd.mapOf, h _ _ (I.tok _) ?_⟩
    rw [l]
    exact (rel.val k).getD rfl
  · subst ey
    cases (show u = Value.ref b from ry)
    obtain ⟨z, hd, xs, rel, dd⟩ := dt_rd I.hok e
    refine call_meetsIn PySem.F.slot_dict_get dd.typeIs PySem.F.entry_dict_get (PySem.F.args_dict_get_2 _ _) (meetsH_dict_get (tupleKind (mixKind X.prog X.w)) a b hd) ⟨tupleKind_room_in1 hu, k, xs, key_of I.hok eb, dd, h _ _ (I.tok _) ?_⟩
    rw [l]
    exact (rel.val k).getD rfl
/-- d.get(y, x) -/
theorem d_get2 {Q : Value → Shared → Prop} (hu : A.units + 1 < cLine) (I : Inv X pins σ H s) (g : DGet H a y o) (ry : RelV y u) (rd : RelV d r) (h : ∀ w' s', Inv X pins σ H s' → RelV (o.getD d) w' → Q w' s') :
    wpAny (model X.prog X.w) A (call (.builtin "dict.get") [.ref a, u, r]) Q E s := by
  rcases g with ⟨kvs, k, e, ey, l⟩ | ⟨kvs, k, b, e, ey, eb, l⟩
  · subst ey
    obtain ⟨z, hd, vs, rel, dd⟩ := dk_rd I.hok e
    refine call_meetsIn PySem.F.slot_dict_get dd.typeIs PySem.F.entry_dict_get (PySem.F.args_dict_get_3 _ _ _) (meets_dict_get_default (mixKind X.prog X.w) a (kV_is ry) hd r) ⟨_, dd.mapOf, h _ _ (I.tok _) ?_⟩
    rw [l]
    exact (rel.val k).getD rd
  · subst ey
    cases (show u = Value.ref b from ry)
    obtain ⟨z, hd, xs, rel, dd⟩ := dt_rd I.hok e
    refine call_meetsIn PySem.F.slot_dict_get dd.typeIs PySem.F.entry_dict_get (PySem.F.args_dict_get_3 _ _ _) (meetsH_dict_get_default (tupleKind (mixKind X.prog X.w)) a b hd r) ⟨tupleKind_room_in1 hu, k, xs, key_of I.hok eb, dd, h _ _ (I.tok _) ?_⟩
    rw [l]
    exact (rel.val k).getD rd
end

def tDGet1 (td ty : TE) : TE := fun σ H Q => td σ H fun x H1 => ∃ a, x = .ref a ∧ IsD H1 a ∧ ty σ H1 fun y H2 => ∃ o, DGet H2 a y o ∧ Q (o.getD .non) H2
def tDGet2 (td ty tx : TE) : TE := fun σ H Q => td σ H fun x H1 => ∃ a, x = .ref a ∧ IsD H1 a ∧ ty σ H1 fun y H2 => tx σ H2 fun z H3 => ∃ o, DGet H3 a y o ∧ Q (o.getD z) H3
/-- d.pop(k): there; d.pop(k, x): there or not -/
def tDPop1 (td ty : TE) : TE := fun σ H Q => td σ H fun x H1 => ∃ a, x = .ref a ∧ IsD H1 a ∧ ty σ H1 fun y H2 => ∃ kvs k v, H2 a = some (.dK kvs) ∧ y = kV k ∧ valV kvs k = some v ∧ Q v (upd H2 a (.dK (dropK kvs k)))
def tDPop2 (td ty tx : TE) : TE := fun σ H Q => td σ H fun x H1 => ∃ a, x = .ref a ∧ IsD H1 a ∧ ty σ H1 fun y H2 => tx σ H2 fun z H3 => ∃ kvs k, H3 a = some (.dK kvs) ∧ y = kV k ∧
  (∀ v, valV kvs k = some v → Q v (upd H3 a (.dK (dropK kvs k)))) ∧ (valV kvs k = none → Q z H3)
section
variable {X : Cx} {o e f : Expr} {apos cpos : Pos} {td ty tx : TE}
end

/-! ### dict(d): a copy -/
section
variable {X : Cx} {pins : List (Addr × Obj)} {σ : St} {H : Hp} {s : Shared} {a : Addr} {kvs : List (Key × V)} {A : Around} {E : Value → Shared → Prop}
end


section
variable {X : Cx} {pins : List (Addr × Obj)} {σ : St} {H : Hp} {s : Shared} {a : Addr} {y : V} {u : Value} {A : Around} {E : Value → Shared → Prop}
/-- d[y], not there: a KeyError -/
theorem d_missing {Q : Value → Shared → Prop} (hu : A.units + 1 < cLine) (hh : A.handled = none) (I : Inv X pins σ H s) (g : DGet H a y none) (ry : RelV y u)
    (h : ∀ h' e t', Heap.NewExc s.heap h' e "KeyError" → E (.ref e) { s with heap := h', toks := t' }) : wpAny (model X.prog X.w) A (getItem (.ref a) u) Q E s := by
  rcases g with ⟨kvs, k, e, ey, l⟩ | ⟨kvs, k, b, e, ey, eb, l⟩
  · subst ey
    obtain ⟨z, hd, vs, rel, dd⟩ := dk_rd I.hok e
    have hn : valueAt vs k = none := RelO.none_of (by rw [l]; exact rel.val k)
    exact wpAny_getItem_missing_of (kV_is ry) hd hh dd.mapOf hn fun h' ex ne => h h' ex _ ne
  · subst ey
    cases (show u = Value.ref b from ry)
    obtain ⟨z, hd, xs, rel, dd⟩ := dt_rd I.hok e
    have hn : (atKey xs k).map (·.2) = none := RelO.none_of (by rw [l]; exact rel.val k)
    exact wpAny_getItem_missing_heap (tupleKind_room_in1 hu) (key_of I.hok eb) hd hh dd (Option.map_eq_none_iff.mp hn) fun h' ex ne => h h' ex _ ne
end
end L2

namespace Att
open PySem PySem.W PySem.Calls PyProof.Rows

/-! ### the script -/
theorem ints_of_wellAll {P : Params} {h : Heap} : ∀ (ns : List Int) (vs : List Value), WellAll P h vs (ns.map WData.int) → IntsAre vs ns := by
  intro ns
  induction ns with
  | nil =>
    intro vs w
    rw [List.map_nil] at w
    cases w
    exact .nil
  | cons n ns ih =>
    intro vs w
    rw [List.map_cons] at w
    cases w with
    | cons a b =>
      cases a
      exact .cons _ _ (ih _ b)

theorem script_of {l : OpenLaw} {n : Nat} (hn : l.most = some n) {P : Params} {h : Heap} {args : List WData} {vals : List Value}
    (hpre : l.row.toRowW.claim.pre args = true) (hwl : WellAll P h vals args) :
    ∃ a vs ns, vals = [Value.ref a] ∧ args = [WData.list (ns.map WData.int)] ∧ h.get? a = some { cls := .type "list", data := .seq vs.toArray } ∧ IntsAre vs ns ∧ ns.length ≤ n := by
  have hsh : WShape.hasAll [] args [.list .int] = true := (pre_splitW hpre).1
  have hc : l.pre.holds [] { args := args } = true := (pre_splitW hpre).2
  obtain ⟨d, r, rfl, h1, h2⟩ := hasAllW_cons hsh
  obtain rfl := hasAllW_nil h2
  obtain ⟨xs, rfl, h3⟩ := hasW_list h1
  obtain ⟨ns, rfl⟩ := items_int h3
  have hlen : ns.length ≤ n := by
    unfold OpenLaw.pre at hc
    have h4 : (WTm.not (.lt (.lit (.int (n : Int))) (.len (.arg 0)))).holds [] { args := [.list (ns.map .int)] } = true := by
      have h4 := (holds_andW hc).1
      rw [hn] at h4
      exact h4
    have h5 := condW_of h4 (w_not (w_lt w_lit (w_len_list (w_arg rfl))))
    rw [List.length_map] at h5
    refine Nat.le_of_not_lt fun q => ?_
    have q' : (n : Int) < ((ns.length : Nat) : Int) := by omega
    first
      | (rw [decide_eq_true q'] at h5; exact absurd h5 (by decide))
      | (simp at h5; omega)
  cases hwl with
  | cons w1 w2 =>
    cases w2
    cases w1 with
    | list ho hall => exact ⟨_, _, ns, rfl, rfl, ho, ints_of_wellAll ns _ hall, hlen⟩

theorem post_true (l : OpenLaw) (args : List WData) : l.row.toRowW.claim.post args (.bool true) args = true :=
  postW_of (r := l.row.toRowW) (X := (true == true))
    (show WShape.has [] (.bool true) .bool = true by first | rfl | decide | simp [WShape.has, WShape.arms, WShape.armsAll])
    (show (WTm.eq .res (.lit (.bool true))).value [] { args := args, res := some (.bool true), after := args } = some (.bool (true == true)) from w_eq_bool (w_res rfl) w_lit) rfl

/-! ### the attachment: holds_open's last premise (the goal 'hc' behind k_head) from a wpAny of the law's body -/

/-- the same from a codeAny of the CALL (for a layer whose function contracts speak of calls) -/
theorem attach_call {l : OpenLaw} {n : Nat} {q : Program} {loose : List Str} {XP : (Str → Option Value) → Heap → Prop} {YP : World → Heap → Prop} {d : DefRec}
    (hn : l.most = some n) (hdf : d.params.defaults = [])
    (call : ∀ (w : World) (s₀ s₁ : Shared) (mg mb : Str → Option Value) (fa : Addr) (o : Obj) (pm cd doc : Value) (a : Addr) (vs : List Value) (ns : List Int),
      Ground q loose [] XP w s₀ mg mb s₁.heap → YP w s₁.heap →
      s₁.heap.get? fa = some o → o.data = .func (docDef d.name d.params d.body d.scope pm cd doc) → s₁.heap.CodeRec cd d.name → mg d.name = some (.ref fa) →
      s₁.heap.get? a = some { cls := .type "list", data := .seq vs.toArray } → IntsAre vs ns → ns.length ≤ n → s₁.gens = #[] →
      codeAny (model l.prog w) callerA (.call (.ref fa) ⟨[.ref a], []⟩) (fun r s' => r = .ok (.ret (.bool true)) ∧ OldK s₁.heap s'.heap ∧ s'.os = s₁.os ∧ AllBare s'.gens) s₁) :
    WalkO q loose XP YP l.row.toRowW d [] (fun f vs => PySem.call f vs) := by
  intro w s₀ s₁ mg mb G Y fa o pm cd doc dV kV ho hd hcd hD hmg hg args vals as hpre hlay hrd hwl hlo
  obtain rfl : dV = .none := Dflts.none hD hdf
  obtain rfl : kV = .none := Dflts.noKw hD
  obtain ⟨a, vs, ns, rfl, rfl, hobj, hints, hlen⟩ := script_of hn hpre hwl
  refine enter_call (codeAny_mono (call w s₀ s₁ mg mb fa o pm cd doc a vs ns G Y ho (fd_plain hd) hcd hmg hobj hints hlen hg) fun r s' hq => ?_)
  obtain ⟨rfl, h2, h3, h4⟩ := hq
  exact ⟨.inl ⟨.bool true, .bool true, [], rfl, fun _ => rfl, .bool true, post_true l _, fun _ => ⟨List.Pairwise.nil, fun _ hm => (nomatch hm)⟩⟩, h2, h3, h4⟩

/-- the same where the top left finished generators (o_head chose holds_openN): nothing may have changed at all and no generator may be left -/
theorem attachN {l : OpenLaw} {n : Nat} {q : Program} {loose : List Str} {XP : (Str → Option Value) → Heap → Prop} {YP : World → Heap → Prop} {d : DefRec} {x : Str}
    (hn : l.most = some n) (hdf : d.params.defaults = [])
    (hbind : ∀ pm cd doc v : Value, bindArgs (docDef d.name d.params d.body d.scope pm cd doc) ⟨[v], []⟩ = pure [(x, v)])
    (hx : d.scope.names.lookup x = some .local ∨ d.scope.names.lookup x = some .cell)
    (hk : d.scope.kind = .function) (hco : d.scope.isCoroutine = false) (hgen : d.scope.isGenerator = false)
    (body : ∀ (w : World) (s₀ s₁ s : Shared) (mg mb : Str → Option Value) (fa : Addr) (o : Obj) (pm cd doc : Value) (a : Addr) (vs : List Value) (ns : List Int),
      Ground q loose [] XP w s₀ mg mb s₁.heap → YP w s₁.heap →
      s₁.heap.get? fa = some o → o.data = .func (docDef d.name d.params d.body d.scope pm cd doc) → s₁.heap.CodeRec cd d.name → mg d.name = some (.ref fa) →
      s₁.heap.get? a = some { cls := .type "list", data := .seq vs.toArray } → IntsAre vs ns → ns.length ≤ n →
      s.gens = #[] → s.os = s₁.os →
      Fr s₁.heap s₁.heap.objs.size s.heap (bindL (envOfC d.name d.scope s₁.heap.objs.size fa cd).kindOf [(x, .ref a)] fun _ => none) →
      Cl s₁.heap.objs.size (cellsFrom (s₁.heap.objs.size + 1) d.scope.names []) s.heap (bindC (envOfC d.name d.scope s₁.heap.objs.size fa cd).kindOf [(x, .ref a)] fun _ => none) →
      wpAny (model l.prog w) (callerA.deeper (envOfC d.name d.scope s₁.heap.objs.size fa cd)) (execs d.body (envOfC d.name d.scope s₁.heap.objs.size fa cd))
        (fun f s' => f = .ret (.bool true) ∧ (∀ b o, s₁.heap.get? b = some o → s'.heap.get? b = some o) ∧ s'.os = s₁.os ∧ s'.gens = #[]) (fun _ _ => False) s) :
    WalkN q loose XP YP l.row.toRowW d [] (fun f vs => PySem.call f vs) := by
  intro w s₀ s₁ mg mb G Y fa o pm cd doc dV kV ho hd hcd hD hmg hg args vals as hpre hlay hrd hwl hlo
  obtain rfl : dV = .none := Dflts.none hD hdf
  obtain rfl : kV = .none := Dflts.noKw hD
  obtain ⟨a, vs, ns, rfl, rfl, hobj, hints, hlen⟩ := script_of hn hpre hwl
  refine enter_callW ?_
  refine call_cells_ret (o := o) (by rw [depth_caller]; decide) ho (fd_plain hd) G.T.nolimit hcd (hbind pm cd doc (.ref a)) (fun y hy => ?_) (fun h₁ tk F X => ?_) hco hgen hk
  · obtain rfl : y = (x, Value.ref a) := List.mem_singleton.mp hy
    rcases hx with e | e
    · exact .inl e
    · exact .inr ⟨e, cellsFrom_some _ _ _ (.inl e)⟩
  · refine wpAny_mono (body w s₀ s₁ { s₁ with heap := h₁, toks := tk } mg mb fa o pm cd doc a vs ns G Y ho (fd_plain hd) hcd hmg hobj hints hlen hg rfl F X) (fun f s' hq => ?_) (fun _ _ hq => hq)
    obtain ⟨rfl, h2, h3, h4⟩ := hq
    exact ⟨.inl ⟨.bool true, .bool true, [], rfl, fun _ => rfl, .bool true, post_true l _, fun _ => ⟨List.Pairwise.nil, fun _ hm => (nomatch hm)⟩⟩, h2, h3, h4⟩

/-! ### rules over ANY heap (no ledger) from facts about the written part K: the library's own take a ledger (News) for what they write -/
section
variable {prog : Program} {w : World} {A : Around} {E : Value → Shared → Prop} {s : Shared} {K : Frag}

/-- a def of the module, or a method (qual 'C.m'), entered: the frame is the next address; cells behind it -/
theorem call_fn {R : Result → Shared → Prop} {name qual : Str} {params : Arguments} {body : List Stmt} {scope : Scope} {dV kV doc pm cdv ct oc : Value} {an od : Option Addr} {osl : Array (Option Value)} {f : Addr} {args : Args} {binds : List (Str × Value)}
    (X : K.In s.heap) (hlim : s.heap.NoLimit) (ho : K.lookup f = some ⟨oc, od, .func (fnOf name qual params body scope dV kV doc pm an cdv ct), osl⟩) (hcd : codeIn K cdv qual = true) (hroom : A.depth < recursionLimit)
    (hbind : BindsTo s (fnOf name qual params body scope dV kV doc pm an cdv ct) args binds)
    (hkind : (binds.all fun y => scope.names.lookup y.1 == some .local || scope.names.lookup y.1 == some .cell) = true)
    (h : ∀ s₁, InCallC s s.heap.objs.size (bindL (envOfC qual scope s.heap.objs.size f cdv).kindOf binds fun _ => none) (cellsFrom (s.heap.objs.size + 1) scope.names [])
        (bindC (envOfC qual scope s.heap.objs.size f cdv).kindOf binds fun _ => none) s₁ →
      wpAny (model prog w) (A.deeper (envOfC qual scope s.heap.objs.size f cdv)) (execs body (envOfC qual scope s.heap.objs.size f cdv))
        (fun fl s' => R (.ok (.ret (match fl with | .ret v => v | _ => .none))) s')
        (fun e s' => wpAny (model prog w) (A.deeper (envOfC qual scope s.heap.objs.size f cdv)) (leaving (envOfC qual scope s.heap.objs.size f cdv) e) (fun _ s'' => R (.error e) s'') (fun e' s'' => R (.error e') s'') s') s₁)
    (hco : scope.isCoroutine = false) (hgen : scope.isGenerator = false) (hk : scope.kind = .function) : codeAny (model prog w) A (.call (.ref f) args) R s := by
  refine codeAny_call_function hroom (X _ _ ho) rfl hco hgen rfl (codeRec_of X hcd) (hbind _ _ _ _ ?_)
  refine wpAny_newFunctionEnv_cells hk (kindsX hkind _) fun env he s₁ x => ?_
  subst he
  exact ⟨hlim.keeps x.toInCall.keep, codeAny_func (h s₁ x)⟩

/-- C(..): dict at size, instance at size + 1, then __init__ -/
theorem make_obj {R : Result → Shared → Prop} {C fI : Addr} {rest : List Value} {kw : List (Str × Value)}
    (X : K.In s.heap) (hm : makesIn K C = true) (hi : findIn K (.ref C) "__init__" = some (some (.ref fI))) (hf : isFn K (.ref fI) = true)
    (h : codeAny (model prog w) (A.under (.builtin "type.__call__" ⟨.ref C :: rest, kw⟩)) (.call (.ref fI) ⟨.ref (s.heap.objs.size + 1) :: rest, kw⟩) (InitBack (s.heap.objs.size + 1) R)
      { s with heap := (s.heap.push emptyDict).push (instObj C s.heap.objs.size) }) : codeAny (model prog w) A (.call (.ref C) ⟨rest, kw⟩) R s := by
  obtain ⟨hh, g, d, t, os⟩ := s
  exact make_core (makes_of X hm) (looks_findIn X hi) (fun self => bind_fn X self (beq_iff_eq.mp hf)) (.inl rfl) h

/-- x.name where the instance's dict holds the name and the class does not -/
theorem get_field {x C : Addr} {ox : Obj} {es : List DictEntry} {n : Nat} {name : Str} {expr : Bool} {v : Value} {Q : Value → Shared → Prop}
    (X : K.In s.heap) (I : PySem.W.InstAt s.heap x ox C (some (dictOf es n))) (hg : plainGet K C name = true) (hh : hasDictIn K C = true) (ha : findIn K (.ref C) name = some none)
    (hl : getL name es = some (some v)) (hv : handedIn v = true) (h : Q v { s with toks := s.toks + 1 }) : wpAny (model prog w) A (getAttr (.ref x) name expr) Q E s :=
  get_value X I (plainGet_of hg).1 (findObj_own hh ha rfl hl) hv h

/-- x.m(..): the method found in the class -/
theorem get_method {x C f : Addr} {ox : Obj} {es : List DictEntry} {n : Nat} {name : Str} {pl : Sem Bool} {Q : Value × List Value → Shared → Prop}
    (X : K.In s.heap) (I : PySem.W.InstAt s.heap x ox C (some (dictOf es n))) (hg : plainGet K C name = true) (hf : findIn K (.ref C) name = some (some (.ref f))) (ht : isFn K (.ref f) = true)
    (hl : getL name es = some none) (h : Q (.ref f, [.ref x]) s) : wpAny (model prog w) A (getMethod (.ref x) name pl) Q E s :=
  method_fn X I (plainGet_of hg).1 (plainGet_of hg).2 hf (beq_iff_eq.mp ht) (by show (lookIn name (dictOf es n)).map _ = _; rw [lookIn_dict, hl]; rfl) h

/-! the whole heap as the ledger: makes every rule that writes through a ledger a rule over any heap -/
def noObjs (h : Heap) : Heap := { h with objs := #[] }
theorem noObjs_get (h : Heap) (b : Addr) : (noObjs h).get? b = none := by
  cases e : (noObjs h).get? b with
  | none => rfl
  | some o => exact absurd (Heap.lt_size e) (Nat.not_lt_zero _)
def ledger (h : Heap) (L d : Addr) : List (Addr × Obj) := (List.range h.objs.size).filterMap fun a => if a = L ∨ a = d then none else (h.get? a).map fun o => (a, o)
theorem mem_ledger {h : Heap} {L d a : Addr} {o : Obj} : (a, o) ∈ ledger h L d ↔ a ≠ L ∧ a ≠ d ∧ h.get? a = some o := by
  unfold ledger
  rw [List.mem_filterMap]
  constructor
  · rintro ⟨b, _, e⟩
    split at e
    · cases e
    · rename_i hb
      obtain ⟨o', ho, e'⟩ := Option.map_eq_some_iff.mp e
      cases e'
      exact ⟨fun q => hb (.inl q), fun q => hb (.inr q), ho⟩
  · rintro ⟨n1, n2, ho⟩
    refine ⟨a, List.mem_range.mpr (Heap.lt_size ho), ?_⟩
    rw [if_neg (show ¬ (a = L ∨ a = d) from fun q => q.elim n1 n2), ho] <;> rfl
theorem news_ledger {h : Heap} {L d : Addr} {od : Obj} (hne : d ≠ L) (ho : h.get? d = some od) : News (noObjs h) L h ([] ++ (d, od) :: ledger h L d) := by
  rintro ⟨a, o⟩ hp
  rcases List.mem_cons.mp hp with e | hp
  · cases e
    exact ⟨ho, hne, noObjs_get _ _⟩
  · obtain ⟨n1, n2, e⟩ := mem_ledger.mp hp
    exact ⟨e, n1, noObjs_get _ _⟩
theorem fr_all {h : Heap} {L : Addr} {m : Str → Option Value} (n : h.Ns L m) : Fr (noObjs h) L h m :=
  ⟨n, fun b o e => (by rw [noObjs_get] at e; cases e), Nat.zero_le _⟩
/-- Upd of the head entry (for append_K, setItem_K ..) -/
theorem upd_ledger {h : Heap} {L d : Addr} {o o' : Obj} : Upd d o o' ((d, o) :: ledger h L d) ((d, o') :: ledger h L d) :=
  .head fun ⟨_, _⟩ hp => (mem_ledger.mp hp).2.1

/-- x.name = v over any heap: L is any namespace of the heap (the frame's, say): its map stays, its object is not told; all else but the dict stays -/
theorem set_field {x C dx L : Addr} {ox : Obj} {m : Str → Option Value} {es es' : List DictEntry} {n n' : Nat} {name : Str} {v : Value} {Q : Unit → Shared → Prop}
    (X : K.In s.heap) (I : PySem.W.InstAt s.heap x ox C (some (dictOf es n))) (hd : ox.dict = some dx) (hL : s.heap.Ns L m) (hne : dx ≠ L)
    (hs : findIn K (.ref C) "__setattr__" = some (some (.builtin "object.__setattr__"))) (hp : plainOver K C = true) (ht : takerIn K C name = some none) (hh : hasDictIn K C = true) (hl : (getL name es).isSome = true)
    (e : (putL name (PyData.keyHash w.params name) (.str name (s.toks + 1)) v es, putN name es n) = (es', n')) (hz : es'.length ≤ 1000)
    (h : ∀ h' : Heap, h'.Ns L m → h'.get? dx = some (dictOf es' n') → (∀ b o, b ≠ dx → b ≠ L → s.heap.get? b = some o → h'.get? b = some o) → Q () { s with heap := h', toks := s.toks + 2 }) :
    wpAny (model prog w) A (setAttr (.ref x) name v) Q E s := by
  obtain ⟨e1, e2⟩ := Prod.mk.inj e
  have hdx : s.heap.get? dx = some (dictOf es n) := by
    have := I.dict
    rw [hd] at this
    exact this
  refine set_plain X I hs (osa_dict (s := { s with toks := s.toks + 1 }) (h₀ := noObjs s.heap) (L := L) (m := m) (od := dictOf es n) (od' := dictOf es' n') (es := es') (n := n') (pre := []) (post := ledger s.heap L dx)
    (fr_all hL) (news_ledger hne hdx) X I hd hp ht hh hl (fun _ q => nomatch q) (fun ⟨_, _⟩ q => (mem_ledger.mp q).2.1) (by rw [putName_dict, e1, e2]) rfl hz fun h' F' N' => ?_)
  exact h h' F'.ns (N'.get (List.Mem.head _)) fun b o n1 n2 ho => N'.get (List.Mem.tail _ (mem_ledger.mpr ⟨n2, n1, ho⟩))
end
end Att

namespace L2
open PySem PySem.Spec PyProof.Rows

theorem vals_ints : ∀ {vs : List Value} {ns : List Int}, IntsAre vs ns → Vals (ns.map V.int) vs
  | _, _, .nil => .nil
  | _, _, .cons n t h => .cons ⟨t, rfl⟩ (vals_ints h)

/-- nothing is tracked but the script, known to the object (or it is an object of the module) -/
def Only (H : Hp) : Prop := ∀ b, H b = none ∨ ∃ o xs, H b = some (.frz o (.lst xs))

/-- THE HEAD: the law's promise, at the heap behind the top. F, the promise of the law's def, may use that base is part of the heap (so K.In base, base.Ns mainGlobals mg stand in Mod) -/
theorem law_call {P : Program} {w : World} {K : PySem.W.Frag} {mg mb : Str → Option Value} {CX : CXT} {k : Nat} {fa a : Addr} {fd : FuncData} {x : Str} {sp : Sp} {s₁ : Shared} {vs : List Value} {ns : List Int}
    (KX : K.In s₁.heap) (hns : s₁.heap.Ns mainGlobals mg) (hb : s₁.heap.Ns builtinsNs mb) (hbb : ∀ x : Str, x ≠ "__name__" → mb x = bootBuiltins x) (hlim : s₁.heap.NoLimit) (hg : s₁.gens = #[])
    (ha : s₁.heap.get? a = some { cls := .type "list", data := .seq vs.toArray }) (hi : IntsAre vs ns) (hl : ns.length ≤ sizeLine) (hr : Room k callerA)
    (F : ∀ base : Heap, K.In base → base.Ns mainGlobals mg → FnOk P w K mg base CX k fa fd [x] sp) (hbind : ∀ (s : Shared) (u : Value), BindsTo s fd ⟨[u], []⟩ [(x, u)])
    (hsp : ∀ H : Hp, Only H → SqL K H a (ns.map V.int) → sp [.ref a] H (fun v _ => v = .bl true) fun _ _ _ => False)
    (hCX : ∀ H e s', CX [] H s₁ (fun _ _ _ => False) e s' → False) :
    codeAny (model P w) callerA (.call (.ref fa) ⟨[.ref a], []⟩) (fun r s' => r = .ok (.ret (.bool true)) ∧ OldK s₁.heap s'.heap ∧ s'.os = s₁.os ∧ AllBare s'.gens) s₁ := by
  have rv := vals_ints hi
  have lenV := hi.length
  -- from an abstract heap in which nothing but the script may be tracked
  have core : ∀ H : Hp, Only H → SqL K H a (ns.map V.int) → HOk P w H s₁.heap → (∀ b, H b ≠ none → b = a) → (H a ≠ none → K.lookup a = none) →
      codeAny (model P w) callerA (.call (.ref fa) ⟨[.ref a], []⟩) (fun r s' => r = .ok (.ret (.bool true)) ∧ OldK s₁.heap s'.heap ∧ s'.os = s₁.os ∧ AllBare s'.gens) s₁ := by
    intro H hO hS hok hA hK
    have base_of : ∀ {b : Addr} {o : Obj}, s₁.heap.get? b = some o → H b = none → (hidT s₁.heap H).get? b = some o := fun e n => hidT_get e n
    have noA : ∀ {b : Addr} {o : Obj} {es : Array DictEntry} {ep : Nat}, s₁.heap.get? b = some o → o.data = .dict es ep → H b = none := fun {b o es ep} e d => by
      cases q : H b with
      | none => rfl
      | some u =>
        have e' : b = a := hA b (by rw [q]; simp)
        subst e'
        rw [ha] at e; cases e
        have d' : Data.seq vs.toArray _ = Data.dict es ep := d
        cases d'
    have nsK : ∀ {b : Addr} {m : Str → Option Value}, s₁.heap.Ns b m → (hidT s₁.heap H).Ns b m := fun {b m} ⟨o, es, ep, e, d, r⟩ => ⟨o, es, ep, base_of e (noA e d), d, r⟩
    have hKb : K.In (hidT s₁.heap H) := fun b o e => base_of (KX b o e) (by
      cases q : H b with
      | none => rfl
      | some u =>
        have e' : b = a := hA b (by rw [q]; simp)
        subst e'
        rw [hK (by rw [q]; simp)] at e; cases e)
    have hM : Mod K mg (hidT s₁.heap H) := ⟨hKb, nsK hns, ⟨mb, nsK hb, hbb⟩, let ⟨mc, h1, h2⟩ := hlim; ⟨mc, nsK h1, h2⟩⟩
    have e0 : Env0 P w K mg (hidT s₁.heap H) callerA [] s₁ H := ⟨rfl, hM, fun b o e => of_hidT e, Nat.le_of_eq (hidT_size _ _), trivial, fun b hb => absurd (show b ∈ ([] : List Addr) from hb) (by simp), hok, .of_eq hg⟩
    refine codeAny_mono ((F _ hKb (nsK hns)).run callerA [] s₁ H ⟨[.ref a], []⟩ [.ref a] [.ref a] _ _ hr e0 (hbind s₁ (.ref a)) (.cons rfl .nil) (hsp H hO hS)) fun r s' h => ?_
    cases r with
    | error e => exact (hCX H e s' h).elim
    | ok fl =>
      cases fl with
      | next => exact False.elim h
      | brk => exact False.elim h
      | cont => exact False.elim h
      | ret u =>
        obtain ⟨v, H', os, bare, un, hok', r', q⟩ := h
        have q' : v = .bl true := q
        subst q'
        obtain rfl : u = Value.bool true := r'
        refine ⟨rfl, OldK.of_keep fun b o e => ?_, os, bare⟩
        cases q : H b with
        | none => exact un.keep b o e q (by intro z; exact absurd (show b ∈ ([] : List Addr) from z) (by simp)) (by simp)
        | some u =>
          rcases hO b with z | ⟨ob, xs, z⟩
          · rw [q] at z; cases z
          · have z2 := un.frzs b ob _ z
            obtain ⟨e1, _⟩ := hok b _ z
            obtain ⟨e2, _⟩ := hok' b _ z2
            rw [e] at e1; cases e1
            exact e2
  cases hk : K.lookup a with
  | some o =>
    -- the script is one of the module's own objects
    have e := KX a o hk
    rw [ha] at e
    cases e
    refine core (fun _ => none) (fun _ => .inl rfl) (.inr ⟨_, vs.toArray, _, hk, rfl, rfl, rfl, by rw [List.size_toArray, lenV]; exact hl, by simpa using rv⟩) (fun b u z => by have z' : (none : Option HO) = some u := z; cases z') (fun b z => absurd rfl z) fun z => absurd rfl z
  | none =>
    refine core (fun b => if b = a then some (.frz { cls := .type "list", data := .seq vs.toArray } (.lst (ns.map V.int))) else none) (fun b => ?_) (.inl (.inr ⟨{ cls := .type "list", data := .seq vs.toArray }, if_pos rfl⟩)) (fun b u z => ?_) (fun b z => ?_) fun _ => hk
    · by_cases hb : b = a
      · exact .inr ⟨_, _, if_pos hb⟩
      · exact .inl (if_neg hb)
    · by_cases hb : b = a
      · have z' := (if_pos hb).symm.trans z
        cases z'
        subst hb
        exact ⟨ha, by rw [List.length_map]; exact hl, vs, _, rv, ha⟩
      · have z' := (if_neg hb).symm.trans z
        cases z'
    · by_cases hb : b = a
      · exact hb
      · exact absurd (if_neg hb) z
end L2

namespace L2
open PySem PySem.Spec PyProof.Rows

abbrev KOf {K : PySem.W.Frag} {h : Heap} (_ : K.In h) : PySem.W.Frag := K

/-- the goal that k_head leaves (case hc), from the law's promise. F gives the function object fd (K's own) once, then the promise over every base -/
theorem walk_of {l : PySem.W.OpenLaw} {n k : Nat} {q : Program} {loose : List Str} {XP : (Str → Option Value) → Heap → Prop} {YP : World → Heap → Prop} {d : DefRec} {K : Params → PySem.W.Frag} {CX : World → CXT} {sp : World → Sp} {x : Str}
    (hn : l.most = some n) (hn2 : n ≤ sizeLine) (hdf : d.params.defaults = []) (hr : Room k callerA)
    (hY : ∀ (w : World) (h : Heap), YP w h → (K w.params).In h)
    (F : ∀ (w : World) (mg : Str → Option Value) (fa : Addr) (h : Heap), (K w.params).In h → h.Ns mainGlobals mg → mg d.name = some (.ref fa) →
      ∃ fd : FuncData, (∀ (s : Shared) (u : Value), BindsTo s fd ⟨[u], []⟩ [(x, u)]) ∧
        ∀ base : Heap, (K w.params).In base → base.Ns mainGlobals mg → FnOk l.prog w (K w.params) mg base (CX w) k fa fd [x] (sp w))
    (hsp : ∀ (w : World) (H : Hp) (a : Addr) (ns : List Int), ns.length ≤ n → Only H → SqL (K w.params) H a (ns.map V.int) → sp w [.ref a] H (fun v _ => v = .bl true) fun _ _ _ => False)
    (hCX : ∀ (w : World) (H : Hp) (s : Shared) (e : Value) (s' : Shared), CX w [] H s (fun _ _ _ => False) e s' → False) :
    PySem.W.WalkO q loose XP YP l.row.toRowW d [] (fun f vs => PySem.call f vs) := by
  refine Att.attach_call hn hdf fun w s₀ s₁ mg mb fa o pm cd doc a vs ns G Y ho hd hcd hmg hobj hints hlen hg => ?_
  have KX := hY w _ Y
  obtain ⟨fd, hb, hF⟩ := F w mg fa _ KX G.T.g hmg
  exact law_call KX G.T.g G.T.b G.T.builtins G.T.nolimit hg hobj hints (Nat.le_trans hlen hn2) hr hF hb (fun H hO hS => hsp w H a ns hlen hO hS) fun H e s' => hCX w H s₁ e s'
/-- the same where the promise hangs on the written part alone: (sp := My.sp_law), no hole under a binder -/
theorem walk_ofK {l : PySem.W.OpenLaw} {n k : Nat} {q : Program} {loose : List Str} {XP : (Str → Option Value) → Heap → Prop} {YP : World → Heap → Prop} {d : DefRec} {K : Params → PySem.W.Frag} {CX : CXT} {sp : PySem.W.Frag → Sp} {x : Str}
    (hn : l.most = some n) (hn2 : n ≤ sizeLine) (hdf : d.params.defaults = []) (hr : Room k callerA)
    (hY : ∀ (w : World) (h : Heap), YP w h → (K w.params).In h)
    (F : ∀ (w : World) (mg : Str → Option Value) (fa : Addr) (h : Heap), (K w.params).In h → h.Ns mainGlobals mg → mg d.name = some (.ref fa) →
      ∃ fd : FuncData, (∀ (s : Shared) (u : Value), BindsTo s fd ⟨[u], []⟩ [(x, u)]) ∧
        ∀ base : Heap, (K w.params).In base → base.Ns mainGlobals mg → FnOk l.prog w (K w.params) mg base CX k fa fd [x] (sp (K w.params)))
    (hsp : ∀ (K : PySem.W.Frag) (H : Hp) (a : Addr) (ns : List Int), ns.length ≤ n → Only H → SqL K H a (ns.map V.int) → sp K [.ref a] H (fun v _ => v = .bl true) fun _ _ _ => False)
    (hCX : ∀ (H : Hp) (s : Shared) (e : Value) (s' : Shared), CX [] H s (fun _ _ _ => False) e s' → False) :
    PySem.W.WalkO q loose XP YP l.row.toRowW d [] (fun f vs => PySem.call f vs) :=
  walk_of (K := K) (CX := fun _ => CX) (sp := fun w => sp (K w.params)) hn hn2 hdf hr hY F (fun w H a ns h1 h2 h3 => hsp (K w.params) H a ns h1 h2 h3) fun _ H s e s' => hCX H s e s'
end L2

/- THE LAST THEOREM (shape; LID, My.* are yours):
   My.Adr: a structure of the addresses that your layer names (classes, functions); My.Txt K t: a structure (Prop) of the equations over K;
   My.txt_mk : {K} {implicit addresses ..} (e1 : nsIn K mainGlobals "law" = some (some (.ref f))) (e2 : K.lookup f = some ⟨oc, od, .func (fnOf "law" "law" params body scope dV kV doc pm an cdv ct), sl⟩) (e3 : codeIn K cdv "law" = true) .. : ∃ t, My.Txt K t

set_option maxRecDepth 100000 in
set_option maxHeartbeats 0 in
theorem PySem.Challenge.cw_LID_holds : PySem.Challenge.rw_LID.Holds := by
  w_on; o_law; k_head; (case hw => w_witness2)
  k_fill
  refine L2.walk_of (l := PySem.Challenge.rw_LID) (n := 63) (k := 40) (x := "script") (CX := fun w => ..) (sp := fun _ => My.sp_law) rfl (by decide) rfl ⟨rfl, by decide, by decide⟩ (fun w h Y => PySem.W.kIn_of Y) ?F ?S ?C
  case F =>
    intro w mg fa h KX G hmg
    have T : ∃ t, My.Txt (L2.KOf KX) t := by
      dsimp only [L2.KOf]                          -- K must stand as «<heap const> w.params» for k_is
      refine' My.txt_mk ?e1 ?e2 ?e3 ..
      (case e1 => PySem.W.k_is)                    -- in the order: a name -> its address -> its object -> its parts
      (case e2 => PySem.W.k_is)
      ..
    obtain ⟨t, T⟩ := T
    have e0 := hmg.symm.trans (PySem.W.mg_of KX G T.law)
    cases e0                                       -- fa is the law's own address
    exact ⟨_, fun s u => .of_eq rfl, fun base kb nb => My.law_fn T kb nb⟩     -- if «.of_eq rfl» comes too early: refine' ⟨_, ?b, fun base kb nb => My.law_fn T kb nb⟩; exact fun s u => .of_eq rfl
  case S => exact fun w H a ns hl hO hS => ..
  case C => exact ..
(the tactic k_is has no namespace: write k_is) -/

/-! SHORT WORDS over the layer: a def of the text, its body, what a loop and a test want. -/
namespace L2
open PySem PySem.Spec PyProof.Rows

/-! ### the text by places -/
/-- the j-th statement of a class's body -/
def inClass (s : Stmt) (j : Nat) : Stmt := match s with
  | .ClassDef _ _ _ body _ _ _ _ _ _ _ => body.getD j (.Pass ⟨0, 0, 0, 0⟩)
  | _ => .Pass ⟨0, 0, 0, 0⟩
def defArgs (s : Stmt) : Arguments := match s with
  | .FunctionDef _ a _ _ _ _ _ _ _ _ => a
  | _ => { posonlyargs := [], args := [], vararg := none, kwonlyargs := [], kw_defaults := [], kwarg := none, defaults := [] }
def defBody (s : Stmt) : List Stmt := match s with
  | .FunctionDef _ _ b _ _ _ _ _ _ _ => b
  | _ => []
def defScope (s : Stmt) : Scope := match s with
  | .FunctionDef _ _ _ _ _ _ sc _ _ _ => sc
  | _ => { kind := .function, names := [], isGenerator := false, isCoroutine := false }

/-! ### no exception leaves a def -/
abbrev CX0 : CXT := fun _ _ _ _ _ _ => False
abbrev E0 : XK := fun _ _ _ => False

/-! ### a def (or method) of the text as it stands behind the top -/
structure Fun (K : PySem.W.Frag) (x qual : Str) (st : Stmt) (f : Addr) (fd : FuncData) : Prop where
  ex : ∃ (oc : Value) (od : Option Addr) (kV doc pm : Value) (an : Option Addr) (cdv ct : Value) (osl : Array (Option Value)),
    fd = PySem.W.fnOf x qual (defArgs st) (defBody st) (defScope st) .none kV doc pm an cdv ct ∧ K.lookup f = some ⟨oc, od, .func fd, osl⟩ ∧ PySem.W.codeIn K cdv qual = true
  kp : PySem.W.keepIn K (.ref f) = true
section
variable {P : Program} {w : World} {K : PySem.W.Frag} {mg : Str → Option Value} {base : Heap}
/-- THE RULE for a def: its body as a term of rules, and the reading of that term -/
theorem Fun.ok {x qual : Str} {st : Stmt} {f : Addr} {fd : FuncData} {N ps : List Str} {k : Nat} {sp : Sp} (F : Fun K x qual st f fd) (S : FnScope N ps (defScope st)) (len : ∀ vs H Q E, sp vs H Q E → vs.length = ps.length)
    (hbody : ∀ (cdv : Value) (A : Around) (outer : List Env) (s : Shared) (H : Hp) (vs : List V) (Q : VK) (E : XK), Room k (A.deeper (envOfC qual (defScope st) s.heap.objs.size f cdv)) → sp vs H Q E →
      ∃ t, PSs (cxOf CX0 P w K mg base N qual (defScope st) f cdv A outer s H E).nox (defBody st) t ∧ t { nx := fun _ H' => Q .non H', rt := Q } (start N vs) H) : FnOk P w K mg base CX0 (k + 1) f fd ps sp := by
  obtain ⟨oc, od, kV, doc, pm, an, cdv, ct, osl, rfl, lk, hcd⟩ := F.ex
  refine fn_of lk hcd S len fun A outer s H vs Q E hr hsp => ?_
  obtain ⟨t, h, q⟩ := hbody cdv A outer s H vs Q E hr hsp
  exact ⟨t, h.nox, q⟩
/-- how its arguments bind (no defaults): h is «fun _ _ _ _ _ _ us hl => match us, hl with | [_, _], _ => rfl», one _ a parameter -/
theorem Fun.binds {x qual : Str} {st : Stmt} {f : Addr} {fd : FuncData} {ps : List Str} (F : Fun K x qual st f fd)
    (h : ∀ (kV doc pm : Value) (an : Option Addr) (cdv ct : Value) (us : List Value), us.length = ps.length → bindArgs (PySem.W.fnOf x qual (defArgs st) (defBody st) (defScope st) .none kV doc pm an cdv ct) ⟨us, []⟩ = pure (ps.zip us)) : Binds K fd ps [] := by
  obtain ⟨oc, od, kV, doc, pm, an, cdv, ct, osl, rfl, lk, hcd⟩ := F.ex
  exact .all (h kV doc pm an cdv ct)
theorem fun_mk {x qual : Str} {st : Stmt} {f : Addr} {oc : Value} {od an : Option Addr} {osl : Array (Option Value)} {kV doc pm cdv ct : Value} (l : K.lookup f = some ⟨oc, od, .func (PySem.W.fnOf x qual (defArgs st) (defBody st) (defScope st) .none kV doc pm an cdv ct), osl⟩)
    (c : PySem.W.codeIn K cdv qual = true) (k : PySem.W.keepIn K (.ref f) = true) : Fun K x qual st f (PySem.W.fnOf x qual (defArgs st) (defBody st) (defScope st) .none kV doc pm an cdv ct) := ⟨⟨oc, od, kV, doc, pm, an, cdv, ct, osl, rfl, l, c⟩, k⟩
end

/-! ### expressions in short: the name that stands in the i-th slot -/
section
variable {X : Cx}
theorem pv (i : Nat) {x : Str} {pos : Pos} (hN : X.N[i]? = some x := by rfl) (hv : Vis X.env.scope x := by first | exact Or.inl rfl | exact Or.inr (Or.inl rfl) | exact Or.inr (Or.inr rfl)) (hd : (x == ("__debug__" : Str)) = false := by decide)
    (hcd : (x == ("__classdict__" : Str)) = false := by decide) : PE X (.Name x pos) (tVar i) := pe_var hN hv hd hcd
/-- len of a dict -/
theorem call_lenD : CallR X (.builtin "len") (fun xs H Q => ∃ a kvs, xs = [V.ref a] ∧ H a = some (.dK kvs) ∧ Q (.int kvs.length) H) := by
  intro pins s σ H xs us Q I r h
  obtain ⟨a, kvs, rfl, ha, q⟩ := h
  obtain ⟨u, rfl, ru⟩ := vals1 r
  cases ru
  exact d_len I (.inl ha) fun t s' I' => ⟨.int kvs.length, H, I', ⟨t, rfl⟩, q⟩
end

/-! ### tests -/
theorem iteF {A B : Prop} (h : B) : if false = true then A else B := by
  rw [if_neg Bool.false_ne_true]
  exact h
theorem iteT {A B : Prop} (h : A) : if true = true then A else B := by
  rw [if_pos rfl]
  exact h

/-! ### heaps -/
/-- all that was tracked is as it was -/
def Same (H H' : Hp) : Prop := ∀ b o, H b = some o → H' b = some o
theorem Same.refl (H : Hp) : Same H H := fun _ _ h => h
theorem Same.trans {H H1 H2 : Hp} (a : Same H H1) (b : Same H1 H2) : Same H H2 := fun c o h => b c o (a c o h)
theorem Same.free {H H' : Hp} (e : Same H H') {l : Addr} (h : H' l = Option.none) : H l = Option.none := by
  cases q : H l with
  | none => rfl
  | some o =>
    rw [e l o q] at h
    cases h
theorem Same.seq {K : PySem.W.Frag} {H H' : Hp} {a : Addr} {xs : List V} (e : Same H H') (h : SqL K H a xs) : SqL K H' a xs := by
  rcases h with (h | ⟨o, h⟩) | h
  · exact .inl (.inl (e _ _ h))
  · exact .inl (.inr ⟨o, e _ _ h⟩)
  · exact .inr h

/-! ### a dict's pairs: keys that differ -/
section
variable {κ : Type} [DecidableEq κ]
theorem dropK_pos {p : κ × V} {r : List (κ × V)} {k : κ} (e : p.1 = k) : dropK (p :: r) k = dropK r k := by
  unfold dropK
  rw [List.filter_cons, if_neg (by simp [e])]
theorem dropK_neg {p : κ × V} {r : List (κ × V)} {k : κ} (e : ¬ p.1 = k) : dropK (p :: r) k = p :: dropK r k := by
  unfold dropK
  rw [List.filter_cons, if_pos (by simp [e])]
end
end L2
end
section
set_option Elab.async false
set_option linter.all false
set_option maxRecDepth 100000
namespace L2
open PySem PySem.Spec PyProof.Rows
/-! ### an exception over the frames l, with what its last record says (fl); H, s: ahead of the call that raised -/
def FlyB (B : Heap) (l : List Env) (e : Addr) (cls a0 fl : Value) (h : Heap) : Prop := B.StaysIn h ∧ B.get? e = none ∧ h.FunFrames B l ∧ h.TracedAtW B e cls a0 fl
structure Fly (P : Program) (w : World) (l : List Env) (H H' : Hp) (s s' : Shared) (e : Addr) (cls fl : Value) : Prop where
  os : s'.os = s.os
  bare : AllBare s'.gens
  fr : ∀ b o, s.heap.get? b = some o → H b = none → H' b = none
  tups : ∀ b xs, H b = some (.tup xs) → H' b = some (.tup xs)
  frzs : ∀ b o u, H b = some (.frz o u) → H' b = some (.frz o u)
  tbls : ∀ b ps, H b = some (.tbl ps) → ∃ more, H' b = some (.tbl (ps ++ more))
  sl : ∀ b o, s.heap.get? b = some o → b ∈ frs l → ∃ sl, s'.heap.get? b = some { o with slots := sl }
  fly : ∃ B a0, FlyB B l e cls a0 fl s'.heap ∧ HOk P w H' B ∧ (∀ b o, s.heap.get? b = some o → H b = none → b ∉ frs l → B.get? b = some o) ∧ ∀ b o, s.heap.get? b = some o → b ∉ frs l → ∃ o', B.get? b = some o'
section
variable {P : Program} {w : World} {l : List Env} {H H' : Hp} {s s' : Shared} {e : Addr} {cls fl : Value}
theorem slot_on {h h' : Heap} {B : Heap} {l : List Env} (fl : h.FunFrames B l) (u : h.UpToSlots h') {b : Addr} {o : Obj} {sl : Array (Option Value)} (hb : b ∈ frs l) (e : h.get? b = some { o with slots := sl }) : ∃ sl', h'.get? b = some { o with slots := sl' } := by
  obtain ⟨_, o', ho, hd⟩ := fl.mem hb
  rw [e] at ho; cases ho
  obtain ⟨sl', z⟩ := u b _ e hd
  exact ⟨sl', z⟩
/-- a step of the flight -/
theorem Fly.go (F : Fly P w l H H' s s' e cls fl) : ∃ B a0, FlyB B l e cls a0 fl s'.heap ∧ ∀ h' fl', FlyB B l e cls a0 fl' h' → s'.heap.UpToSlots h' → Fly P w l H H' s { s' with heap := h' } e cls fl' := by
  obtain ⟨B, a0, fl, hk, kp, th⟩ := F.fly
  refine ⟨B, a0, fl, fun h' fl' f' up => ⟨F.os, F.bare, F.fr, F.tups, F.frzs, F.tbls, fun b o q hb => ?_, B, a0, f', hk, kp, th⟩⟩
  obtain ⟨sl, z⟩ := F.sl b o q hb
  exact slot_on (o := o) fl.2.2.1 up hb z
/-- the frame goes -/
theorem Fly.drop {env : Env} {outer : List Env} {L : Addr} {H₀ : Hp} {s₀ : Shared} (F : Fly P w (env :: outer) H H' s s' e cls fl) (hf : env.frame = some L)
    (hL : s₀.heap.objs.size ≤ L) (ho : s.os = s₀.os) (U : Un (frs outer) [] H₀ H s₀.heap s.heap) (hn : ∀ b ∈ frs outer, H₀ b = none) : Fly P w outer H₀ H' s₀ s' e cls fl := by
  obtain ⟨B, a0, ⟨f1, f2, ⟨_, _, f3⟩, f4⟩, hk, kp, th⟩ := F.fly
  have sub : ∀ b, b ∈ frs (env :: outer) → b = L ∨ b ∈ frs outer := fun b hb => by
    unfold frs at hb
    rw [List.filterMap_cons, hf] at hb
    exact List.mem_cons.mp hb
  have sup : ∀ b, b ∈ frs outer → b ∈ frs (env :: outer) := fun b hb => by
    unfold frs
    rw [List.filterMap_cons, hf]
    exact List.mem_cons_of_mem _ hb
  have old : ∀ b o, s₀.heap.get? b = some o → b ∉ frs outer → b ∉ frs (env :: outer) := fun b o q hb z => by
    rcases sub b z with rfl | z
    · exact absurd (Nat.lt_of_lt_of_le (Heap.lt_size q) hL) (Nat.lt_irrefl _)
    · exact hb z
  have nx : ∀ b, b ∉ ([] : List Addr) := fun b => by simp
  refine ⟨F.os.trans ho, F.bare, fun b o q n => ?_, fun b xs q => F.tups b xs (U.tups b xs q), fun b o u q => F.frzs b o u (U.frzs b o u q), fun b ps q => ?_, fun b o q hb => ?_, B, a0, ⟨f1, f2, f3, f4⟩, hk, fun b o q n hb => ?_, fun b o q hb => ?_⟩
  · obtain ⟨o', z⟩ := U.there b o q (nx b)
    exact F.fr b o' z (U.free b o q n (nx b))
  · obtain ⟨m1, z1⟩ := U.tbls b ps q
    obtain ⟨m2, z2⟩ := F.tbls b _ z1
    exact ⟨m1 ++ m2, by rw [z2, Array.append_assoc]⟩
  · obtain ⟨sl, z⟩ := U.slot b o q (hn b hb) hb (nx b)
    obtain ⟨sl', z'⟩ := F.sl b _ z (sup b hb)
    exact ⟨sl', z'⟩
  · exact kp b o (U.keep b o q n hb (nx b)) (U.free b o q n (nx b)) (old b o q hb)
  · obtain ⟨o', z⟩ := U.there b o q (nx b)
    exact th b o' z (old b o q hb)
theorem hok_hide {P : Program} {w : World} {H : Hp} {h : Heap} {l : List Addr} (x : HOk P w H h) (hl : ∀ b ∈ l, H b = none) : HOk P w H (PySem.W.hideAll h l) := fun a o e =>
  (x a o e).stay (fun b u hb q => PySem.W.hideAll_get _ q fun hm => by
    have n := hl b hm
    rcases hb with rfl | hb
    · rw [e] at n; cases n
    · rw [hb] at n; cases n) (fun _ q => q) fun _ _ q => q
/-! the steps of the machine -/
section
variable {M : Model} {A : Around} {E : Value → Shared → Prop} {Q : Unit → Shared → Prop} {env : Env} {outer : List Env} {L : Addr}
theorem fly_land (F : Fly P w l H H' s s' e cls fl) (hQ : ∀ h', Fly P w l H H' s { s' with heap := h' } e cls .none → Q () { s' with heap := h' }) : wpAny M A (setFlight (.ref e) none) Q E s' := by
  obtain ⟨B, a0, ⟨f1, f2, f3, f4⟩, go⟩ := F.go
  exact wpAny_setFlight_noneW f1 f3 f4 fun h' k1 k2 k3 k4 => hQ h' (go h' _ ⟨k1, f2, k2, k3⟩ fun b o hb hn => ⟨o.slots, k4 b o hb hn⟩)
theorem fly_take (F : Fly P w l H H' s s' e cls fl) (hQ : ∀ h', Fly P w l H H' s { s' with heap := h' } e cls (rawInt L) → Q () { s' with heap := h' }) : wpAny M A (setFlight (.ref e) (some L)) Q E s' := by
  obtain ⟨B, a0, ⟨hkb, hen, hl, oe, vs, T, oT, ts, he, hcls, hd, h1, hnT, hTe, hT, hdT, h3⟩, go⟩ := F.go
  have hsz3 : 3 < ts.size := (Array.getElem?_eq_some_iff.mp h3).1
  have other : ∀ b, b ≠ T → (s'.heap.update T (Obj.mapFields (·.setIfInBounds 3 ((some L).elim Value.none fun f => rawInt f)))).get? b = s'.heap.get? b :=
    fun b hb => Heap.get?_update_other _ _ (Ne.symm hb)
  have noRecord : ∀ b o, s'.heap.get? b = some o → (∀ vs, o.data ≠ .fields vs) → b ≠ T := fun b o hb hnf q => by
    rw [q, hT] at hb; injection hb with hb; subst hb; exact hnf ts hdT
  unfold setFlight
  refine wpAny_bind (wpAny_field he hd h1 ?_)
  rw [if_pos (show (Value.ref T != Value.none) = true from by simp)]
  refine wpAny_setField hT hdT hsz3 (hQ _ (go _ _ ⟨fun b o hbo => (other b fun q => by rw [q, hnT] at hbo; cases hbo).trans (hkb b o hbo), hen,
    hl.of_keeps fun b o hb hnf => ⟨o, (other b (noRecord b o hb hnf)).trans hb, rfl⟩, ?_⟩ fun b o hb hnf => ⟨o.slots, (other b (noRecord b o hb hnf)).trans hb⟩))
  exact ⟨oe, vs, T, _, _, (other e (Ne.symm hTe)).trans he, hcls, hd, h1, hnT, hTe, Heap.get?_update_self _ hT (Obj.isFreed_of_fields (Obj.data_mapFields hdT _)), Obj.data_mapFields hdT _, by simp [hsz3]⟩
theorem fly_note (hfr : A.frames = some (env :: outer)) (hf : env.frame = some L) (F : Fly P w (env :: outer) H H' s s' e cls .none)
    (hQ : ∀ h', Fly P w (env :: outer) H H' s { s' with heap := h' } e cls (rawInt L) → Q () { s' with heap := h' }) : wpAny M A (noteFrame (.ref e) env) Q E s' := by
  obtain ⟨B, a0, ⟨f1, f2, f3, f4⟩, go⟩ := F.go
  exact wpAny_noteFrame_onW hfr f3 hf f4 f1 f2 fun h' ⟨k1, k2, k3, k4⟩ => hQ h' (go h' _ ⟨k1, f2, k2, k3⟩ k4)
theorem fly_again (hf : env.frame = some L) (F : Fly P w l H H' s s' e cls (rawInt L)) (hQ : Q () s') : wpAny M A (noteFrame (.ref e) env) Q E s' := by
  obtain ⟨B, a0, ⟨f1, f2, f3, f4⟩, go⟩ := F.go
  exact wpAny_noteFrame_againW hf f4 hQ
theorem fly_field1 (F : Fly P w l H H' s s' e cls fl) {R : Value → Shared → Prop} (hQ : ∀ T : Addr, R (.ref T) s') : wpAny M A (field (.ref e) 1) R E s' := by
  obtain ⟨B, a0, ⟨hkb, hen, hl, oe, vs, T, oT, ts, he, hcls, hd, h1, _⟩, _⟩ := F.go
  exact wpAny_field he hd h1 (hQ T)
end
end
/-- how an exception lies behind a call -/
def CXE (P : Program) (w : World) : CXT := fun outer H s E e s' => ∃ (a : Addr) (cls : Value) (H' : Hp), e = .ref a ∧ Fly P w outer H H' s s' a cls .none ∧ E cls none H'
/-! ### an exception in this body's frame: just made, come from a callee, or noted here -/
def AtX (X : Cx) (pins : List (Addr × Obj)) (σ : St) (H' : Hp) (s' : Shared) (e : Addr) (cls : Value) : Prop :=
  (∃ s args, Inv X pins σ H' s ∧ Heap.MadeExcOf s.heap s'.heap e cls args ∧ s' = { s with heap := s'.heap }) ∨
  ∃ H s fl, Inv X pins σ H s ∧ Fly X.prog X.w X.stack H H' s s' e cls fl ∧ (fl = .none ∨ fl = rawInt X.env.locals)
/-- a body's own context: its frame is the top of the stack -/
structure Own (X : Cx) : Prop where
  stk : X.stack = X.env :: X.outer
  fra : X.env.frame = some X.env.locals
  ex : X.ex = []
section
variable {X : Cx} {pins : List (Addr × Obj)} {σ : St} {H' : Hp} {s' : Shared} {e : Addr} {cls : Value}
theorem made_note {M : Model} {A : Around} {E : Value → Shared → Prop} {Q : Unit → Shared → Prop} (O : Own X) (hfr : A.frames = some X.stack) {s : Shared} {args : List Value} (I : Inv X pins σ H' s) (mk : Heap.MadeExcOf s.heap s'.heap e cls args) (es : s' = { s with heap := s'.heap })
    (hQ : ∀ h', Fly X.prog X.w X.stack H' H' s { s' with heap := h' } e cls (rawInt X.env.locals) → Q () { s' with heap := h' }) : wpAny M A (noteFrame (.ref e) X.env) Q E s' := by
  have hst := I.stack
  have hfree := I.stkFree
  have hin : ∀ env ∈ X.stack, ∀ a, env.frame = some a → a ∈ frs X.stack := fun env he a ha => List.mem_filterMap.mpr ⟨env, he, ha⟩
  obtain ⟨t, he, htn, ht⟩ := mk.there
  have FH := PySem.W.funFrames_hide (as := frs X.stack) hst hin
  have hen : (PySem.W.hideAll s.heap (frs X.stack)).get? e = none := by
    cases q : (PySem.W.hideAll s.heap (frs X.stack)).get? e with
    | none => rfl
    | some o => have := PySem.W.of_hideAll _ q; rw [mk.new] at this; cases this
  have os' : s'.os = s.os := by rw [es]
  have gs' : s'.gens = s.gens := by rw [es]
  unfold noteFrame
  simp only [O.fra]
  refine wpAny_bind (wpAny_field he rfl (x := Value.none) rfl ?_)
  rw [if_neg (by decide)]
  have FH' : s.heap.FunFrames (PySem.W.hideAll s.heap (frs X.stack)) (X.env :: X.outer) := by
    have z := O.stk
    rw [← z]
    exact FH
  rw [O.stk] at hfr
  refine wpAny_entryW (base := PySem.W.hideAll s.heap (frs X.stack)) (a0 := .ref t) hfr (FH'.of_keeps fun b o hb _ => ⟨o, mk.keeps b o hb, rfl⟩) O.fra he (fun b o z => mk.keeps b o (PySem.W.of_hideAll _ z)) hen rfl (by simp) rfl fun h2 hN => ?_
  obtain ⟨k1, k2, k3, k4⟩ := hN
  refine hQ h2 ⟨os', by rw [gs']; exact I.bare, fun b o z n => n, fun b xs q => q, fun b o u q => q, fun b ps q => ⟨#[], by rw [q]; simp⟩, fun b o z hb => ?_, _, _, ⟨k1, hen, (by have z := O.stk; rw [← z] at k2; exact k2), k3⟩, hok_hide I.hok hfree, fun b o z n hb => PySem.W.hideAll_get _ z hb, fun b o z hb => ⟨o, PySem.W.hideAll_get _ z hb⟩⟩
  obtain ⟨_, o', ho, hd⟩ := hst.mem hb
  rw [z] at ho; cases ho
  exact k4 b _ (mk.keeps _ _ z) hd
/-- noted in this frame -/
theorem at_note {M : Model} {A : Around} {E : Value → Shared → Prop} {Q : Unit → Shared → Prop} (O : Own X) (hfr : A.frames = some X.stack) (F : AtX X pins σ H' s' e cls)
    (hQ : ∀ H s h', Inv X pins σ H s → Fly X.prog X.w X.stack H H' s { s' with heap := h' } e cls (rawInt X.env.locals) → Q () { s' with heap := h' }) : wpAny M A (noteFrame (.ref e) X.env) Q E s' := by
  rcases F with ⟨s, args, I, mk, es⟩ | ⟨H, s, fl, I, F, rfl | rfl⟩
  · exact made_note O hfr I mk es fun h' F => hQ _ _ h' I F
  · rw [O.stk] at hfr F
    exact fly_note hfr O.fra F fun h' F' => hQ H s h' I (by rw [O.stk]; exact F')
  · refine fly_again O.fra F ?_
    have := hQ H s s'.heap I F
    exact this
/-- it leaves the frame -/
theorem at_leave {M : Model} {A : Around} {E : Value → Shared → Prop} {Q : Unit → Shared → Prop} (O : Own X) (hfr : A.frames = some X.stack) (F : AtX X pins σ H' s' e cls)
    (hQ : ∀ h', Fly X.prog X.w X.outer X.H₀ H' X.s₀ { s' with heap := h' } e cls .none → Q () { s' with heap := h' }) : wpAny M A (leaving X.env (.ref e)) Q E s' := by
  unfold leaving
  refine wpAny_bind (at_note O hfr F fun H s h' I F' => ?_)
  refine fly_land F' fun h2 F2 => hQ h2 ?_
  rw [O.stk] at F2
  have U := I.base
  rw [O.ex] at U
  exact F2.drop O.fra I.ok.above I.os U I.ok.frf
end
/-- the wish of a body: R of the class, the names' values, the heap -/
abbrev XC := Value → St → Hp → Prop
def XP (X : Cx) (R : XC) (e : Value) (s' : Shared) : Prop := ∃ (pins : List (Addr × Obj)) (a : Addr) (cls : Value) (σ : St) (H' : Hp), e = .ref a ∧ AtX X pins σ H' s' a cls ∧ R cls σ H'
section
variable {X : Cx} {R : XC}
/-- a loop's code passes it on -/
theorem AtX.frames {pins : List (Addr × Obj)} {σ : St} {H' : Hp} {s' : Shared} {e : Addr} {cls : Value} (F : AtX X pins σ H' s' e cls) : X.A.frames = some X.stack := by
  rcases F with ⟨s, args, I, _⟩ | ⟨H, s, fl, I, _⟩
  · exact I.ok.frames
  · exact I.ok.frames
theorem xp_own (O : Own X) : PassesOwn (model X.prog X.w) X.A X.env (XP X R) := by
  rintro _ s' ⟨pins, a, cls, σ, H', rfl, F, q⟩
  refine at_note O F.frames F fun H s h' I F' => ?_
  unfold cameBackBy
  refine wpAny_bind (fly_field1 F' fun T => ?_)
  rw [if_neg (show ¬ ((Value.ref T == Value.none) = true) from by simp)]
  rw [O.fra]
  exact fly_take F' fun h2 F2 => ⟨pins, a, cls, σ, H', rfl, .inr ⟨H, s, _, I, F2, .inr rfl⟩, q⟩
end
end L2
end
section
set_option Elab.async false
set_option linter.all false
set_option maxRecDepth 100000
namespace L2
open PySem PySem.Spec PyProof.Rows
/-! ### a body's context, its wish about exceptions by class and heap alone -/
abbrev Cx.bod (X : Cx) (E : XK) : Cx := X.wish (XP X fun c _ H => E c none H)
section
variable {X : Cx} {E E' : XK}
theorem own_cx {P : Program} {w : World} {K : PySem.W.Frag} {mg : Str → Option Value} {base : Heap} {N : List Str} {qual : Str} {scope : Scope} {f : Addr} {cd : Value} {A : Around} {outer : List Env} {s : Shared} {H : Hp} {CX : CXT} :
    Own (cxOf CX P w K mg base N qual scope f cd A outer s H E) := ⟨rfl, rfl, rfl⟩
theorem passB (hE : ∀ c o H, E' c o H → E c none H) : Passes (CXE X.prog X.w) (X.bod E) E' := by
  intro pins σ H1 s1 e s' I ⟨a, cls, H', he, F, q⟩
  exact ⟨pins, a, cls, σ, H', he, .inr ⟨H1, s1, .none, I.unwish, F, .inl rfl⟩, hE _ _ _ q⟩
theorem passS : Passes (CXE X.prog X.w) (X.bod E) (fun c _ H => E c none H) := passB fun _ _ _ q => q
theorem passN {X : Cx} {P : Program} {w : World} : Passes (CXE P w) X E0 := fun _ _ _ _ _ _ _ ⟨_, _, _, _, _, q⟩ => False.elim q
/-- what a raise in this body reaches -/
def Raises (X : Cx) (E : Value → Hp → Prop) : Prop := ∀ (pins : List (Addr × Obj)) (σ : St) (H : Hp) (s : Shared) (h' : Heap) (e : Addr) (cls : Value) (args : List Value), Inv X pins σ H s → Heap.MadeExcOf s.heap h' e cls args → E cls H → X.xe (.ref e) { s with heap := h' }
theorem raisesB : Raises (X.bod E) (fun c H => E c none H) := fun pins σ H s h' e cls args I mk q => ⟨pins, e, cls, σ, H, rfl, .inl ⟨s, args, I.unwish, mk, rfl⟩, q⟩
theorem ownB (O : Own X) : PassesOwn (model X.prog X.w) X.A X.env (X.bod E).xe := xp_own O
end
section
variable {P : Program} {w : World} {K : PySem.W.Frag} {mg : Str → Option Value} {base : Heap}
theorem PSs.leave {X : Cx} {E : XK} {st : List Stmt} {t : TS} (O : Own X) (hx : X.xe = fun e s' => wpAny (model X.prog X.w) X.A (leaving X.env e) (fun _ s'' => CXE X.prog X.w X.outer X.H₀ X.s₀ E e s'') (fun e' s'' => CXE X.prog X.w X.outer X.H₀ X.s₀ E e' s'') s')
    (h : PSs (X.bod E) st t) : PSs X st t := fun pins s σ H D I hw =>
  wpAny_mono (h pins s σ H D (I.wish _) hw) (fun _ _ q => q.unwish) fun e s' ⟨pins, a, cls, σ, H', he, F, q⟩ => by
    subst he
    rw [hx]
    exact at_leave O F.frames F fun h' F' => ⟨a, cls, H', rfl, F', q⟩
/-- a def by its body, exceptions let out -/
theorem Fun.okX {x qual : Str} {st : Stmt} {f : Addr} {fd : FuncData} {N ps : List Str} {k : Nat} {sp : Sp} (F : Fun K x qual st f fd) (S : FnScope N ps (defScope st)) (len : ∀ vs H Q E, sp vs H Q E → vs.length = ps.length)
    (hbody : ∀ (cdv : Value) (A : Around) (outer : List Env) (s : Shared) (H : Hp) (vs : List V) (Q : VK) (E : XK), Room k (A.deeper (envOfC qual (defScope st) s.heap.objs.size f cdv)) → sp vs H Q E →
      ∃ t, PSs ((cxOf (CXE P w) P w K mg base N qual (defScope st) f cdv A outer s H E).bod E) (defBody st) t ∧ t { nx := fun _ H' => Q .non H', rt := Q } (start N vs) H) : FnOk P w K mg base (CXE P w) (k + 1) f fd ps sp := by
  obtain ⟨oc, od, kV, doc, pm, an, cdv, ct, osl, rfl, lk, hcd⟩ := F.ex
  refine fn_of lk hcd S len fun A outer s H vs Q E hr hsp => ?_
  obtain ⟨t, h, q⟩ := hbody cdv A outer s H vs Q E hr hsp
  exact ⟨t, PSs.leave own_cx rfl h, q⟩
end
/-! ### own error classes under ValueError, without an __init__ -/
def nsOk (K : PySem.W.Frag) (N : Addr) : Bool := match K.lookup N with
  | some ⟨_, _, .dict es _, _⟩ => es.toList.all (fun e => match e.key with | .str _ _ => true | _ => false) && (es.toList.find? (·.key.isStr "__init__")).isNone
  | _ => false
theorem nsOk_ns {K : PySem.W.Frag} {h : Heap} {N : Addr} (X : K.In h) (e : nsOk K N = true) : ∃ m, h.Ns N m ∧ m "__init__" = none := by
  unfold nsOk at e
  split at e
  · rename_i c d es n sl q
    rw [Bool.and_eq_true] at e
    obtain ⟨e1, e2⟩ := e
    refine ⟨nsFind es, ⟨_, es, n, X _ _ q, rfl, fun en hen => ?_, fun _ => rfl⟩, ?_⟩
    · have z := List.all_eq_true.mp e1 en (by simpa using hen)
      split at z
      · rename_i a b hk
        exact ⟨a, b, hk⟩
      · cases z
    · unfold nsFind findBy
      rw [← Array.find?_toList]
      cases q2 : es.toList.find? (·.key.isStr "__init__") with
      | none => rfl
      | some v => rw [q2] at e2; cases e2
  · cases e
abbrev valBm : List Value := [.type "ValueError", .type "Exception", .type "BaseException", .type "object"]
def tailIn (K : PySem.W.Frag) : List Value → Bool
  | [] => false
  | v :: tl => (v :: tl == valBm) || (match v with
    | .ref a => (match K.lookup a with | some ⟨_, _, .cls cd, _⟩ => nsOk K cd.ns | _ => false) && tailIn K tl
    | _ => false)
theorem tailIn_own {K : PySem.W.Frag} {h : Heap} (X : K.In h) : ∀ {l : List Value}, tailIn K l = true → OwnTail h valBm l
  | [], e => by
    unfold tailIn at e
    cases e
  | v :: tl, e => by
    unfold tailIn at e
    rw [Bool.or_eq_true] at e
    rcases e with e | e
    · rw [beq_iff_eq.mp e]
      exact .base
    · split at e
      · rw [Bool.and_eq_true] at e
        obtain ⟨e1, e2⟩ := e
        split at e1
        · rename_i c d cd sl q
          obtain ⟨m, hn, hi⟩ := nsOk_ns X e1
          exact .own (X _ _ q) hn hi (tailIn_own X e2)
        · cases e1
      · cases e
/-- an own error class at C -/
def excIn (K : PySem.W.Frag) (C : Addr) : Bool := match K.lookup C with
  | some ⟨.type "type", _, .cls cd, sl⟩ => (match cd.mro, sl.toList with
    | .ref C' :: bm, [_, _, _, _, some (.builtin n), _] => C' == C && !cd.hasDel && n == "ValueError.__new__" && nsOk K cd.ns && tailIn K bm
    | _, _ => false)
  | _ => false
theorem excIn_own {K : PySem.W.Frag} {h : Heap} {C : Addr} {x : Str} {mg : Str → Option Value} (X : K.In h) (hm : mg x = some (.ref C)) (q : excIn K C = true) : OwnCls x C valBm "ValueError.__new__" mg h := by
  unfold excIn at q
  split at q
  · rename_i dd cd sl ho
    split at q
    · rename_i C' bm k0 k1 k2 k3 n k5 hmr hs
      simp only [Bool.and_eq_true, beq_iff_eq, Bool.not_eq_true'] at q
      obtain ⟨⟨⟨⟨rfl, hdel⟩, rfl⟩, hn⟩, ht⟩ := q
      obtain ⟨m, hns, hni⟩ := nsOk_ns X hn
      obtain ⟨nm, bs, mro, ns, qn, hd, sn, sub, ab, col, del⟩ := cd
      dsimp only at hmr hdel hns
      subst hmr hdel
      have hsl : sl = #[k0, k1, k2, k3, some (.builtin "ValueError.__new__"), k5] := by
        obtain ⟨l⟩ := sl
        simp only at hs
        rw [hs]
      subst hsl
      exact ⟨hm, bm, ns, nm, qn, bs, hd, sn, sub, ab, col, dd, k0, k1, k2, k3, k5, m, X _ _ ho, hns, hni, tailIn_own X ht⟩
    · cases q
  · cases q
/-! ### raise C(e, ..) -/
def tRaise (C : Addr) (E : Value → Hp → Prop) (t : TA) : TS := fun _ σ H => t σ H fun vs H1 => vs.length ≤ sizeLine ∧ E (.ref C) H1
theorem ps_raise {X : Cx} {x : Str} {C : Addr} {np cpos pos : Pos} {e₀ : Expr} {rest : List Expr} {t : TA} {E : Value → Hp → Prop} (hR : Raises X E) (hc : X.calm = true) (hC : excIn X.K C = true) (hg : Gl X x) (hm : X.mg x = some (.ref C)) (ha : PA X (e₀ :: rest) t)
    (he : starEach (e₀ :: rest) X.env = (false, eval e₀ X.env) :: starEach rest X.env := by rfl) (hpl : (backTo cpos (starEach rest X.env)).any (·.1) = false := by rfl) (hd : (x == ("__debug__" : Str)) = false := by decide) :
    PS X (.Raise (some (.Call (.Name x np) (e₀ :: rest) [] cpos)) none pos) (tRaise C E t) := by
  intro pins s σ H D I h
  have O : OwnCls x C valBm "ValueError.__new__" X.mg X.base := excIn_own I.mod.kin hm hC
  obtain ⟨tl, N, nm, q, bs, hdct, sn, sub, ab, col, dd, k0, k1, k2, k3, k5, mN, hC', hN, hni, T⟩ := O.obj
  refine wpAny_Raise_call_subU (C := C) (nm := nm) (q := q) (N := N) (bs := bs) (bm := tl) (hdct := hdct) (sn := sn) (sub := sub) (ab := ab) (col := col) (dd := dd) (k0 := k0) (k1 := k1) (k2 := k2) (k3 := k3) (k5 := k5)
    PySem.F.excBase_ValueError (by decide) PySem.F.excBase_ValueError (mN := mN) (T.hasType PySem.F.excBase_ValueError.hasBase) (I.ok.hd hc) (by rw [he]; show (false || (backTo cpos (starEach rest X.env)).any (·.1)) = false; rw [hpl]; rfl) hni (ld_glob I hg hm ⟨rfl, ?_⟩ hd)
  have ha' := ha cpos pins s σ H _ I h
  rw [he] at ha' ⊢
  refine Calls.evalArgs_plain (wpAny_mono ha' (fun vs s₂ z => ?_) fun _ _ y => y)
  obtain ⟨ws, H2, I2, r2, z, q2⟩ := z
  exact ⟨rfl, by rw [← r2.length]; exact z, I2.bk _ _ hC', hN.keeps I2.bk, T.keeps I2.bk, fun h' e mk => hR pins σ H2 s₂ h' e _ _ I2 mk q2⟩
end L2
end
section
set_option Elab.async false
set_option linter.all false
set_option maxRecDepth 100000
namespace L2
open PySem PySem.Spec PyProof.Rows
/-! ### what may be called, in one fact each -/
structure Callee (P : Program) (w : World) (K : PySem.W.Frag) (mg : Str → Option Value) (base : Heap) (x : Str) (k : Nat) (ps : List Str) (sp : Sp) : Prop where
  ex : ∃ f fd, FnOk P w K mg base (CXE P w) k f fd ps sp ∧ mg x = some (.ref f) ∧ PySem.W.keepIn K (.ref f) = true ∧ Binds K fd ps []
structure Method (P : Program) (w : World) (K : PySem.W.Frag) (mg : Str → Option Value) (base : Heap) (C : Addr) (m : Str) (k : Nat) (ps : List Str) (sp : Sp) : Prop where
  ex : ∃ f fd, FnOk P w K mg base (CXE P w) k f fd ps sp ∧ Meth K C m f ∧ Binds K fd ps []
structure Maker (P : Program) (w : World) (K : PySem.W.Frag) (mg : Str → Option Value) (base : Heap) (x : Str) (C : Addr) (k : Nat) (ps : List Str) (sp : Sp) : Prop where
  ex : ∃ f fd, FnOk P w K mg base (CXE P w) k f fd ps sp ∧ Mk K C f ∧ mg x = some (.ref C) ∧ Binds K fd ps []
def tFn (sp : Sp) (E : XK) (t : TA) : TE := fun σ H Q => t σ H fun vs H1 => sp vs H1 Q E
def tMe (C : Addr) (m : Str) (sp : Sp) (E : XK) (ta : TE) (t : TA) : TE := fun σ H Q => ta σ H fun x H1 => ∃ a dx fs, x = .ref a ∧ H1 a = some (.ins C dx fs) ∧ fs.lookup m = none ∧ t σ H1 fun vs H2 => sp (x :: vs) H2 Q E
def tMk (C : Addr) (sp : Sp) (E : XK) (t : TA) : TE := fun σ H Q => t σ H fun vs H1 => ∀ x dx, H1 x = none → H1 dx = none → dx ≠ x →
  sp (.ref x :: vs) (upd (upd H1 dx (.own x)) x (.ins C dx [])) (fun v H2 => v = .non ∧ Q (.ref x) H2) E
section
variable {X : Cx} {k : Nat} {C : Addr} {ps : List Str} {sp : Sp} {E : XK} {x m : Str} {p pos apos : Pos} {e o : Expr} {es : List Expr} {ta : TE} {t : TA}
theorem tCall_nil {st : St} {H : Hp} {Q : VK} (h : tFn sp E t st H Q) : tCall sp [] E t st H Q := by
  unfold tCall
  unfold tFn at h
  have e : (fun vs H1 => sp (vs ++ []) H1 Q E) = fun vs H1 => sp vs H1 Q E := by
    funext vs H1
    rw [List.append_nil]
  rw [e]
  exact h
theorem pe_fn (c : Callee X.prog X.w X.K X.mg X.base x k ps sp) (hr : Room k X.A) (hx : Passes (CXE X.prog X.w) X E) (ha : PA X (e :: es) t) (hg : Gl X x := by rfl) (hdb : (x == ("__debug__" : Str)) = false := by decide)
    (he : starEach (e :: es) X.env = (false, eval e X.env) :: starEach es X.env := by rfl) (hpl : (backTo pos (starEach es X.env)).any (·.1) = false := by rfl) : PE X (.Call (.Name x p) (e :: es) [] pos) (tFn sp E t) := by
  obtain ⟨f, fd, F, hm, hk, hb⟩ := c.ex
  intro pins s σ H Q I h
  exact pe_call F hr hg hm hk hb .nil hx ha hdb he hpl pins s σ H Q I (tCall_nil h)
theorem tMeth_nil {st : St} {H : Hp} {Q : VK} (h : tMe C m sp E ta t st H Q) : tMeth C m sp [] E ta t st H Q := by
  unfold tMeth
  unfold tMe at h
  have e : (fun (x : V) (H1 : Hp) => ∃ a dx fs, x = .ref a ∧ H1 a = some (.ins C dx fs) ∧ fs.lookup m = none ∧ t st H1 fun vs H2 => sp (x :: (vs ++ [])) H2 Q E) = fun x H1 => ∃ a dx fs, x = .ref a ∧ H1 a = some (.ins C dx fs) ∧ fs.lookup m = none ∧ t st H1 fun vs H2 => sp (x :: vs) H2 Q E := by
    funext x H1
    simp only [List.append_nil]
  rw [e]
  exact h
theorem pe_me {pl : Sem Bool} (c : Method X.prog X.w X.K X.mg X.base C m k ps sp) (cl : Cls X.K C) (hr : Room k X.A) (hx : Passes (CXE X.prog X.w) X E) (ho : PE X o ta) (ha : PA X (e :: es) t)
    (hst : starEach (e :: es) X.env = (false, eval e X.env) :: starEach es X.env := by rfl) (hpl : (backTo pos (starEach es X.env)).any (·.1) = false := by rfl)
    (ht : eval (.Call (.Attribute o m apos) (e :: es) [] pos) X.env = (do
      let ov ← eval o X.env
      standAt apos.atName
      let (f, first) ← holding [ov] (getMethod ov m pl)
      callWith pos f first (backTo pos (starEach (e :: es) X.env)) (backToKw pos (keywordEach [] X.env))) := by rfl) :
    PE X (.Call (.Attribute o m apos) (e :: es) [] pos) (tMe C m sp E ta t) := by
  obtain ⟨f, fd, F, hm, hb⟩ := c.ex
  intro pins s σ H Q I h
  exact pe_meth ho cl hm F hr hb .nil hx ha hst hpl ht pins s σ H Q I (tMeth_nil h)
theorem pe_me0 {pl : Sem Bool} (c : Method X.prog X.w X.K X.mg X.base C m k ps sp) (cl : Cls X.K C) (hr : Room k X.A) (hx : Passes (CXE X.prog X.w) X E) (ho : PE X o ta)
    (ht : eval (.Call (.Attribute o m apos) [] [] pos) X.env = (do
      let ov ← eval o X.env
      standAt apos.atName
      let (f, first) ← holding [ov] (getMethod ov m pl)
      callWith pos f first (backTo pos (starEach [] X.env)) (backToKw pos (keywordEach [] X.env))) := by rfl) :
    PE X (.Call (.Attribute o m apos) [] [] pos) (tMe C m sp E ta tNil) := by
  obtain ⟨f, fd, F, hm, hb⟩ := c.ex
  intro pins s σ H Q I h
  exact pe_meth0 ho cl hm F hr hb .nil hx ht pins s σ H Q I (tMeth_nil h)
theorem tMake_nil {st : St} {H : Hp} {Q : VK} (h : tMk C sp E t st H Q) : tMake C sp [] E t st H Q := by
  unfold tMake
  unfold tMk at h
  simp only [List.append_nil]
  exact h
end
/-! ### statements whose exception is caught by the same body -/
def XPp (X : Cx) (pins : List (Addr × Obj)) (R : XC) (e : Value) (s' : Shared) : Prop := ∃ (a : Addr) (cls : Value) (σ : St) (H' : Hp), e = .ref a ∧ AtX X pins σ H' s' a cls ∧ R cls σ H'
abbrev TX := Ends → XC → St → Hp → Prop
abbrev TEX := St → Hp → VK → (Value → Hp → Prop) → Prop
def PEx (X : Cx) (e : Expr) (t : TEX) : Prop :=
  ∀ (pins : List (Addr × Obj)) (s : Shared) (σ : St) (H : Hp) (Q : VK) (R : Value → Hp → Prop), Inv X pins σ H s → t σ H Q R → wpAny (model X.prog X.w) X.A (eval e X.env) (EP X pins σ Q) (XPp X pins fun c σ' H' => σ' = σ ∧ R c H') s
def PSx (X : Cx) (st : Stmt) (t : TX) : Prop :=
  ∀ (pins : List (Addr × Obj)) (s : Shared) (σ : St) (H : Hp) (D : Ends) (R : XC), Inv X pins σ H s → t D R σ H → wpAny (model X.prog X.w) X.A (exec st X.env) (SP X pins D) (XPp X pins R) s
def PSsx (X : Cx) (st : List Stmt) (t : TX) : Prop :=
  ∀ (pins : List (Addr × Obj)) (s : Shared) (σ : St) (H : Hp) (D : Ends) (R : XC), Inv X pins σ H s → t D R σ H → wpAny (model X.prog X.w) X.A (execs st X.env) (SP X pins D) (XPp X pins R) s
section
variable {X : Cx} {k : Nat} {C : Addr} {ps : List Str} {sp : Sp} {x m : Str} {p pos apos : Pos} {e o : Expr} {es : List Expr} {ta : TE} {t : TA}
def xFn (sp : Sp) (t : TA) : TEX := fun σ H Q R => t σ H fun vs H1 => sp vs H1 Q fun c _ H' => R c H'
def xMe (C : Addr) (m : Str) (sp : Sp) (ta : TE) (t : TA) : TEX := fun σ H Q R => ta σ H fun x H1 => ∃ a dx fs, x = .ref a ∧ H1 a = some (.ins C dx fs) ∧ fs.lookup m = none ∧ t σ H1 fun vs H2 => sp (x :: vs) H2 Q fun c _ H' => R c H'
def xMk (C : Addr) (sp : Sp) (t : TA) : TEX := fun σ H Q R => t σ H fun vs H1 => ∀ x dx, H1 x = none → H1 dx = none → dx ≠ x →
  sp (.ref x :: vs) (upd (upd H1 dx (.own x)) x (.ins C dx [])) (fun v H2 => v = .non ∧ Q (.ref x) H2) fun c _ H' => R c H'
/-! statements -/
variable {st : Stmt} {sts rest : List Stmt} {tS : TS} {tx ux : TX} {te : TEX}
end
/-! ### try -/
/-- within an except suite -/
def Cx.hand (X : Cx) (e : Addr) : Cx := { X with A := X.A.mark (some (.ref e)), calm := false, xe := fun _ _ => False }
section
variable {X : Cx} {pins : List (Addr × Obj)} {σ : St} {H : Hp} {s : Shared} {e : Addr}
/-- the handlers: a class's name with its suite, each -/
inductive PH (X : Cx) : List ExceptHandler → (Value → TS) → Prop where
  | nil : PH X [] (fun _ _ _ _ => False)
  | cons {x : Str} {c : Value} {np pos : Pos} {b₀ : Stmt} {suite : List Stmt} {rest : List ExceptHandler} {t : TS} {u : Value → TS} (hg : Gl X x) (hm : X.mg x = some c) (hd : (x == ("__debug__" : Str)) = false) (hs : ∀ e, PSs (X.hand e) (b₀ :: suite) t) (hr : PH X rest u) :
      PH X (.ExceptHandler (some (.Name x np)) none (b₀ :: suite) pos :: rest) (fun cls D σ H => (PySem.W.exmOne X.K cls c = some true ∧ t D σ H) ∨ (PySem.W.exmOne X.K cls c = some false ∧ u cls D σ H))
end
end L2
end
section
set_option Elab.async false
set_option linter.all false
set_option maxRecDepth 100000
namespace L2
open PySem PySem.Spec PyProof.Rows
/-! ### a list made by walking -/
section
variable {prog : Program} {w : World} {A : Around} {R : Result → Shared → Prop} {s : Shared}
theorem compLoop_go {elt target iter : Expr} {ifs : List Expr} {scope : Scope} {pos : Pos} {it acc : Value} {env : Env} (I : Nat → Shared → Prop)
    (turn : ∀ n s, I n s → wpAny (model prog w) A (pyNext it) (fun r s₁ => match r with
      | none => R (.ok .next) s₁
      | some v => wpAny (model prog w) A (letOwnedTupleGo target it v) (fun _ s₁' => wpAny (model prog w) A (assign target env v) (fun _ s₂ =>
          wpAny (model prog w) A (forIn ifs true fun c r => if r = true then do let ok ← isTrue c env (eval c env); pure (ForInStep.yield ok) else pure (ForInStep.yield r)) (fun ok s₃ =>
            if ok = true then wpAny (model prog w) A (eval elt env) (fun x s₄ =>
              wpAny (model prog w) A (call (.builtin "list.append") [acc, x]) (fun _ s₅ => ∃ m, m < n ∧ I m s₅) (fun _ _ => False) s₄) (fun _ _ => False) s₃
            else ∃ m, m < n ∧ I m s₃) (fun _ _ => False) s₂) (fun _ _ => False) s₁') (fun _ _ => False) s₁) (fun _ _ => False) s)
    (n : Nat) (h : I n s) :
    codeAny (model prog w) A (.compLoop (.ListComp elt [⟨target, iter, ifs, 0⟩] scope pos) 0 it acc env) R s := by
  refine codeAny_loop rfl I (fun n s hI => ?_) n h
  show wpAny _ A ((compTurn (.ListComp elt [⟨target, iter, ifs, 0⟩] scope pos) 0 it acc env).onRaise (fun x => do noteFrame x env; theTreesLotGoes x)) _ _ s
  refine wpAny_noted ?_
  rw [compTurn_list]
  refine wpAny_noRaise ?_
  refine wpAny_bind (wpAny_standAt (wpAny_bind (wpAny_mono (turn n s hI) (fun r s₁ h₁ => ?_) fun _ _ h' => h')))
  cases r with
  | none => exact wpAny_pure h₁
  | some v =>
    refine wpAny_bind (wpAny_mono h₁ (fun _ s₁' h₁' => ?_) fun _ _ h' => h')
    refine wpAny_bind (wpAny_mono h₁' (fun _ s₂ h₂ => wpAny_bind (wpAny_mono h₂ (fun ok s₃ h₃ => ?_) fun _ _ h' => h')) fun _ _ h' => h')
    cases ok with
    | false => exact wpAny_pure ⟨rfl, h₃⟩
    | true =>
      exact wpAny_bind (wpAny_bind (wpAny_mono h₃ (fun x s₄ h₄ => wpAny_bind (wpAny_mono h₄ (fun _ s₅ h₅ => wpAny_pure (wpAny_pure ⟨rfl, h₅⟩)) fun _ _ h' => h')) fun _ _ h' => h'))
end
def clOf (scope : Scope) (env : Env) : List (Str × Addr) := (scope.names.filterMap fun y => if y.2 == .free then (env.cells.lookup y.1).map (fun c => (y.1, c)) else none).reverse
theorem lookup_mem {α β : Type} [BEq α] [LawfulBEq α] {l : List (α × β)} {x : α} {c : β} (h : l.lookup x = some c) : (x, c) ∈ l := by
  induction l with
  | nil => cases h
  | cons p r ih =>
    obtain ⟨a, b⟩ := p
    rw [List.lookup_cons] at h
    split at h
    · rename_i e
      cases h
      rw [beq_iff_eq.mp e]
      exact List.mem_cons_self
    · exact List.mem_cons_of_mem _ (ih h)
theorem clOf_in {scope : Scope} {env : Env} {x : Str} {c : Addr} (h : (clOf scope env).lookup x = some c) : env.cells.lookup x = some c := by
  have m := lookup_mem h
  unfold clOf at m
  rw [List.mem_reverse] at m
  obtain ⟨y, _, e⟩ := List.mem_filterMap.mp m
  split at e
  · cases q : env.cells.lookup y.1 with
    | none => rw [q] at e; cases e
    | some d =>
      rw [q] at e
      cases e
      exact q
  · cases e
/-- the block's context -/
def compCx (X : Cx) (scope : Scope) (Nc : List Str) (C : Addr) (s₂ : Shared) (H₂ : Hp) (ex : List Addr) : Cx where
  prog := X.prog
  w := X.w
  K := X.K
  mg := X.mg
  base := X.base
  A := X.A
  N := Nc
  s₀ := s₂
  H₀ := H₂
  env := compEnvC scope (clOf scope X.env) C X.env
  outer := X.stack
  stack := X.stack
  ex := ex
  fn := fun _ => false
  calm := X.calm
  pn := []
  xe := fun _ _ => False
/-- what is asked of the scope: T the block's own names, F those from around with their slots -/
def compOk (X : Cx) (scope : Scope) (F : List (Str × Nat)) : Bool :=
  scope.names.all (fun y => y.2 != .cell) && scope.names.all (fun y => y.2 != .local || scope.names.lookup y.1 == some .local) &&
  (relabel scope X.env).names.all (fun y => (y.2 != .cell && y.2 != .free) || ((clOf scope X.env).lookup y.1).isSome) &&
  F.all (fun p => X.N[p.2]? == some p.1 && (X.env.kindOf p.1 == some .cell || X.env.kindOf p.1 == some .free) && ((relabel scope X.env).names.lookup p.1 == some .cell || (relabel scope X.env).names.lookup p.1 == some .free))
def compIn (T : List Str) (F : List (Str × Nat)) (σ : St) : St := T.map (fun _ => none) ++ F.map (fun p => (σ[p.2]?).join)
def compN (T : List Str) (F : List (Str × Nat)) : List Str := T ++ F.map (·.1)
section
variable {X : Cx} {pins : List (Addr × Obj)} {σ : St} {H : Hp} {s : Shared} {scope : Scope} {T : List Str} {F : List (Str × Nat)} {fp : List Addr}
theorem comp_start (I : Inv X pins σ H s) (hk : scope.kind = .function) (ok : compOk X scope F = true) (hf : ∀ b ∈ fp, FpOk X pins H b) (ho : ∀ b ∈ fp, ∃ o, s.heap.get? b = some o) {h₁ : Heap} {t : Nat}
    (hn : h₁.Ns (s.heap.objs.size + 1) (fun _ => none)) (hs : Heap.SameBut (s.heap.objs.size + 1) ((s.heap.push { cls := .type "list", data := .seq #[] }).push { cls := .type "dict", data := .dict #[] }) h₁) :
    Inv (compCx X scope (compN T F) (s.heap.objs.size + 1) s H fp) [] (compIn T F σ) (upd H s.heap.objs.size (.lst [])) { s with heap := h₁, toks := t } := by
  unfold compOk at ok
  simp only [Bool.and_eq_true] at ok
  obtain ⟨⟨⟨ok1, ok2⟩, ok3⟩, ok4⟩ := ok
  have nH : H s.heap.objs.size = none := I.hok.fresh (Nat.le_refl _)
  have kp : ∀ b o, s.heap.get? b = some o → h₁.get? b = some o := fun b o e => by
    have l := Heap.lt_size e
    rw [hs.2 b (Nat.ne_of_lt (Nat.lt_succ_of_lt l))]
    exact Heap.get?_push_of_some _ (Heap.get?_push_of_some _ e)
  have hD : h₁.get? s.heap.objs.size = some { cls := .type "list", data := .seq #[] } := by
    rw [hs.2 _ (Nat.ne_of_lt (Nat.lt_succ_self _))]
    exact Heap.get?_push_of_some _ (Heap.get?_push_size _ rfl)
  have clx : ∀ x c, (clOf scope X.env).lookup x = some c → X.env.cells.lookup x = some c := fun x c e => clOf_in e
  have celt : ∀ x c, X.env.cells.lookup x = some c → c < s.heap.objs.size := fun x c e => by
    obtain ⟨v, o, ho, _⟩ := I.cell x c e
    exact Heap.lt_size ho
  have OK : (compCx X scope (compN T F) (s.heap.objs.size + 1) s H fp).Ok := by
    refine ⟨I.ok.mod, hk, I.ok.glob, I.ok.blt, Nat.le_succ _, fun x y c e1 e2 => I.ok.inj x y c (clx _ _ e1) (clx _ _ e2), fun x hx => ?_, (fun x c z => Bool.noConfusion z), I.ok.hd, I.ok.frames, .inl rfl, fun b hb => ⟨?_, fun x c e => ?_⟩, I.bs, ?_, fun b o e hb => ?_, fun b hb hb2 => ?_, I.stack, I.stkFree⟩
    · have hx : (relabel scope X.env).names.lookup x = some .cell ∨ (relabel scope X.env).names.lookup x = some .free := hx
      have q : ∀ k, (relabel scope X.env).names.lookup x = some k → (k = .cell ∨ k = .free) → ((clOf scope X.env).lookup x).isSome = true := fun k e hk => by
        have z := List.all_eq_true.mp ok3 (x, k) (lookup_mem e)
        rcases hk with rfl | rfl
        · simpa using z
        · simpa using z
      rcases hx with hx | hx
      · exact Option.isSome_iff_exists.mp (q _ hx (.inl rfl))
      · exact Option.isSome_iff_exists.mp (q _ hx (.inr rfl))
    · obtain ⟨o, e⟩ := ho b hb
      exact Nat.ne_of_lt (Nat.lt_succ_of_lt (Heap.lt_size e))
    · exact (hf b hb).2.2.2.2.1 x c (clx x c e)
    · exact Nat.le_trans I.ok.bsz I.sz
    · obtain ⟨_, _, _, h4, _⟩ := hf b hb
      rcases h4 with h4 | h4
      · exact I.ok.noex b o e h4
      · exact absurd (Nat.lt_of_lt_of_le (Heap.lt_size e) (Nat.le_trans I.ok.bsz h4)) (Nat.lt_irrefl _)
    · rcases List.mem_cons.mp (I.stkSub b hb2) with z | z
      · exact (hf b hb).2.1 z
      · exact (hf b hb).2.2.1 z
  refine ⟨OK, rfl, I.bare, Un.laid kp (Nat.le_refl _) nH, ⟨_, hn, fun i x v e1 e2 hv => ?_⟩, fun x c e => ?_, ?_, fun x c e => ?_, fun p hp => absurd (show p ∈ ([] : List (Addr × Obj)) from hp) (by simp), ?_, ?_⟩
  · have e1 : (compN T F)[i]? = some x := e1
    unfold compN at e1
    unfold compIn at e2
    by_cases hi : i < T.length
    · rw [List.getElem?_append_left (by simpa using hi), List.getElem?_map] at e2
      cases q : T[i]? with
      | none => rw [q] at e2; cases e2
      | some z => rw [q] at e2; cases e2
    · rw [List.getElem?_append_right (by simpa using hi), List.getElem?_map] at e2
      rw [List.getElem?_append_right (by simpa using hi), List.getElem?_map] at e1
      rw [List.length_map] at e2
      cases q : F[i - T.length]? with
      | none => rw [q] at e2; cases e2
      | some p =>
        rw [q] at e1 e2
        have e1 : p.1 = x := Option.some.inj e1
        have e2 : (σ[p.2]?).join = some v := Option.some.inj e2
        subst e1
        have z := List.all_eq_true.mp ok4 p (List.mem_of_getElem? q)
        simp only [Bool.and_eq_true, Bool.or_eq_true, beq_iff_eq] at z
        obtain ⟨⟨z1, z2⟩, z3⟩ := z
        have e3 : σ[p.2]? = some (some v) := by
          cases q2 : σ[p.2]? with
          | none => rw [q2] at e2; cases e2
          | some y => rw [q2] at e2; exact congrArg some e2
        obtain ⟨m, hm, hl⟩ := I.loc
        obtain ⟨u, ru, lk⟩ := hl p.2 p.1 v z1 e3 (by rcases z2 with z2 | z2; exact .inr (.inl z2); exact .inr (.inr z2))
        refine ⟨u, ru, .inr ⟨z3, ?_⟩⟩
        have hc : ∃ c, (clOf scope X.env).lookup p.1 = some c := OK.has p.1 z3
        obtain ⟨c, hc⟩ := hc
        refine ⟨c, hc, ?_⟩
        rcases lk with ⟨lk, _⟩ | ⟨_, c', hc', hcell⟩
        · rcases z2 with z2 | z2
          · rw [z2] at lk; cases lk
          · rw [z2] at lk; cases lk
        · rw [clx _ _ hc] at hc'
          cases hc'
          exact hcell.keeps kp
  · obtain ⟨v, q⟩ := I.cell x c (clx x c e)
    exact ⟨v, q.keeps kp⟩
  · show upd H s.heap.objs.size (.lst []) (s.heap.objs.size + 1) = none
    rw [upd_ne (Nat.ne_of_gt (Nat.lt_succ_self _))]
    exact I.hok.fresh (Nat.le_succ _)
  · have l := celt x c (clx x c e)
    show upd H s.heap.objs.size (.lst []) c = none
    rw [upd_ne (Nat.ne_of_lt l)]
    exact I.freeC x c (clx x c e)
  · exact I.hok.laid kp (Nat.le_refl _) ⟨Nat.zero_le _, [], 0, .nil, hD⟩
  · show (compIn T F σ).length = (compN T F).length
    unfold compIn compN
    simp
def compBody (T : List Str) (F : List (Str × Nat)) (g : TG) (tc : TT) (te : TE) (σ : St) (Q : VK) (J : It) (H1 : Hp) : Prop := ∀ D, H1 D = none → ∃ W : Nat → Nat → List V → St → Hp → Prop, (∃ m, W 0 m [] (compIn T F σ) (upd H1 D (.lst []))) ∧
  ∀ i m ys σc H2, W i m ys σc H2 → H2 D = some (.lst ys) ∧ ((J.stop i H2 ∧ Q (.ref D) H2) ∨ (J.go i H2 ∧ ys.length < sizeLine ∧ ∀ x H3, J.yld i H2 x H3 → g x σc H3 fun σ4 H4 => tc σ4 H4 fun b H5 =>
    if b = true then te σ4 H5 fun y H6 => H6 D = some (.lst ys) ∧ ∃ m', m' < m ∧ W (i + 1) m' (ys ++ [y]) σ4 (upd H6 D (.lst (ys ++ [y]))) else ∃ m', m' < m ∧ W (i + 1) m' ys σ4 H5))
def tComp (T : List Str) (F : List (Str × Nat)) (wi : TI) (g : TG) (tc : TT) (te : TE) : TE := fun σ H Q => wi σ H (compBody T F g tc te σ Q)
/-- the tests of a comprehension -/
def PIf (X : Cx) (ifs : List Expr) (t : TT) : Prop :=
  ∀ (pins : List (Addr × Obj)) (s : Shared) (σ : St) (H : Hp) (Q : Bool → Hp → Prop), Inv X pins σ H s → t σ H Q → wpAny (model X.prog X.w) X.A (forIn ifs true fun c r => if r = true then do let ok ← isTrue c X.env (eval c X.env); pure (ForInStep.yield ok) else pure (ForInStep.yield r)) (TP X pins σ Q) X.xe s
def tTrue : TT := fun _ H Q => Q true H
theorem pif_nil {X : Cx} : PIf X [] tTrue := fun pins s σ H Q I h => wpAny_tests_nil ⟨H, I, h⟩
theorem pif_one {X : Cx} {c : Expr} {t : TT} (h : PT X c t) : PIf X [c] t := fun pins s σ H Q I q => wpAny_tests_one (h pins s σ H Q I q)
/-- the block is left -/
theorem comp_end {s2 s' : Shared} {σc : St} {H2 H' : Hp} {h' : Heap} {Nc : List Str} (I : Inv X pins σ H2 s2) (hf : ∀ b ∈ fp, FpOk X pins H2 b) (I' : Inv (compCx X scope Nc (s2.heap.objs.size + 1) s2 H2 fp) [] σc H' s') (hs : Heap.SameBut (s2.heap.objs.size + 1) s'.heap h') : Inv X pins σ H' { s' with heap := h' } := by
  have U : Un (frs X.stack) fp H2 H' s2.heap s'.heap := I'.base
  have ne : ∀ b o, s2.heap.get? b = some o → b ≠ s2.heap.objs.size + 1 := fun b o e => Nat.ne_of_lt (Nat.lt_succ_of_lt (Heap.lt_size e))
  have free : H' (s2.heap.objs.size + 1) = none := I'.free
  refine I.call' (s' := { s' with heap := h' }) (ch := fp) I'.os ⟨fun b o q n hb hc => (hs.2 b (ne b o q)).trans (U.keep b o q n hb hc), fun b o q n hb hc => ?_, U.free, fun b o q hc => ?_, U.tups, U.frzs, U.tbls⟩ ?_ I'.bare fun b hb => ?_
  · obtain ⟨sl, z⟩ := U.slot b o q n hb hc
    exact ⟨sl, (hs.2 b (ne b o q)).trans z⟩
  · obtain ⟨o', z⟩ := U.there b o q hc
    exact ⟨o', (hs.2 b (ne b o q)).trans z⟩
  · intro a o e
    refine (I'.hok a o e).stay (fun b u hb q => (hs.2 b ?_).trans q) (fun _ q => q) fun _ _ q => q
    rintro rfl
    rcases hb with hb | hb
    · rw [← hb, free] at e; cases e
    · rw [free] at hb; cases hb
  · obtain ⟨f0, f1, f2, f3, f4, f5⟩ := hf b hb
    exact ⟨f3, f1, f4, f5⟩
theorem comp_core {elt tg iter : Expr} {ifs : List Expr} {pos : Pos} {g : TG} {tc : TT} {te : TE} {J : It} {it : Addr} {tn : Nat → Heap → Prop} {s2 : Shared} {H2 : Hp} {RR : Value → Addr → Result → Shared → Prop} {E : Value → Shared → Prop} {Q : Addr → Hp → Prop}
    (hc : X.calm = true) (hk : scope.kind = .function) (ok : compOk X scope F = true)
    (hg : ∀ C s₂ H₂ ex, PG (compCx X scope (compN T F) C s₂ H₂ ex) tg g) (hif : ∀ C s₂ H₂ ex, PIf (compCx X scope (compN T F) C s₂ H₂ ex) ifs tc) (he : ∀ C s₂ H₂ ex, PE (compCx X scope (compN T F) C s₂ H₂ ex) elt te)
    (I2 : Inv X pins σ H2 s2) (Tn : Turn X.prog X.w X.K tg J fp it tn) (st2 : tn 0 s2.heap) (f2 : ∀ b ∈ fp, FpOk X pins H2 b)
    (h3 : ∀ D, H2 D = none → ∃ W : Nat → Nat → List V → St → Hp → Prop, (∃ m, W 0 m [] (compIn T F σ) (upd H2 D (.lst []))) ∧
      ∀ i m ys σc H2, W i m ys σc H2 → H2 D = some (.lst ys) ∧ ((J.stop i H2 ∧ Q D H2) ∨ (J.go i H2 ∧ ys.length < sizeLine ∧ ∀ x H3, J.yld i H2 x H3 → g x σc H3 fun σ4 H4 => tc σ4 H4 fun b H5 =>
        if b = true then te σ4 H5 fun y H6 => H6 D = some (.lst ys) ∧ ∃ m', m' < m ∧ W (i + 1) m' (ys ++ [y]) σ4 (upd H6 D (.lst (ys ++ [y]))) else ∃ m', m' < m ∧ W (i + 1) m' ys σ4 H5)))
    (hRR : ∀ D s' σc H', Inv (compCx X scope (compN T F) (s2.heap.objs.size + 1) s2 H2 fp) [] σc H' s' → Q D H' → RR (.ref D) (s2.heap.objs.size + 1) (.ok .next) s') :
    wpAny (model X.prog X.w) X.A (newList []) (fun acc s₃ => wpAny (model X.prog X.w) X.A (newFunctionEnv scope X.env.globals (clOf scope X.env) [] X.env.qual none .none (some X.env)) (fun cenv s₄ =>
      codeAny (model X.prog X.w) X.A (.compStart (.ListComp elt [⟨tg, iter, ifs, 0⟩] scope pos) 0 (.ref it) acc { cenv with scope := relabel scope X.env }) (RR acc cenv.locals) s₄) E s₃) E s2 := by
  have ok' := ok
  unfold compOk at ok'
  simp only [Bool.and_eq_true] at ok'
  obtain ⟨⟨⟨ok1, ok2⟩, ok3⟩, ok4⟩ := ok'
  have hcell : ∀ y ∈ scope.names, y.2 ≠ .cell := fun y hy z => by
    have := List.all_eq_true.mp ok1 y hy
    rw [z] at this
    cases this
  refine wpAny_newObj_type (wpAny_newFunctionEnv hcell (by intro y hy; simp at hy) (fun h₁ hns₁ hsb₁ => ?_) hk)
  dsimp only at hns₁ hsb₁ ⊢
  have hsz : (s2.heap.push { cls := .type "list", dict := none, data := .seq ([] : List Value).toArray }).objs.size = s2.heap.objs.size + 1 := Heap.size_push _ _
  rw [hsz] at hns₁ hsb₁ ⊢
  have I3 : Inv (compCx X scope (compN T F) (s2.heap.objs.size + 1) s2 H2 fp) [] (compIn T F σ) (upd H2 s2.heap.objs.size (.lst [])) { s2 with heap := h₁, toks := s2.toks + ([] : List (Str × Value)).length } :=
    comp_start I2 hk ok f2 (fun b hb => let ⟨o, e, _⟩ := Tn.obj _ _ st2 b hb; ⟨o, e⟩) hns₁ hsb₁
  obtain ⟨W, ⟨m0, w0⟩, turn⟩ := h3 s2.heap.objs.size (I2.hok.fresh (Nat.le_refl _))
  have stat : ∀ {H' : Hp}, (∀ b ∈ fp, H' b = none) → ∀ b ∈ fp, FpOk (compCx X scope (compN T F) (s2.heap.objs.size + 1) s2 H2 fp) [] H' b := fun {H'} hn b hb =>
    ⟨hn b hb, (I3.ok.exf b hb).1, I3.ok.exfs b hb, .inl hb, (I3.ok.exf b hb).2, fun p hp => absurd (show p ∈ ([] : List (Addr × Obj)) from hp) (by simp)⟩
  have st3 : tn 0 h₁ := Tn.keep _ _ _ st2 fun b hb o e => by
    have l := Heap.lt_size e
    rw [hsb₁.2 b (Nat.ne_of_lt (Nat.lt_succ_of_lt l))]
    exact Heap.get?_push_of_some _ (Heap.get?_push_of_some _ e)
  have fr3 : ∀ b ∈ fp, (upd H2 s2.heap.objs.size (.lst [])) b = none := fun b hb => by
    obtain ⟨o, e, _⟩ := Tn.obj _ _ st2 b hb
    rw [upd_ne (Nat.ne_of_lt (Heap.lt_size e))]
    exact (f2 b hb).1
  have loop : codeAny (model X.prog X.w) X.A (.compLoop (.ListComp elt [⟨tg, iter, ifs, 0⟩] scope pos) 0 (.ref it) (.ref s2.heap.objs.size) (compEnvC scope (clOf scope X.env) (s2.heap.objs.size + 1) X.env))
      (RR (.ref s2.heap.objs.size) (s2.heap.objs.size + 1)) { s2 with heap := h₁, toks := s2.toks + ([] : List (Str × Value)).length } := by
    refine compLoop_go (fun n s' => ∃ i ys σ' H', Inv (compCx X scope (compN T F) (s2.heap.objs.size + 1) s2 H2 fp) [] σ' H' s' ∧ tn i s'.heap ∧ (∀ b ∈ fp, H' b = none) ∧ W i n ys σ' H') ?_ m0 ⟨0, [], _, _, I3, st3, fr3, w0⟩
    rintro n s4 ⟨i, ys, σ4, H4, I4, st4, fr4, w4⟩
    obtain ⟨hD, go⟩ := turn i n ys σ4 H4 w4
    rcases go with ⟨stop, qn⟩ | ⟨go, hz, step⟩
    · refine thn (Tn.done (compCx X scope (compN T F) (s2.heap.objs.size + 1) s2 H2 fp) rfl rfl rfl hc i [] s4 σ4 H4 (fun _ _ => False) I4 (stat fr4) st4 stop) fun r s5 ⟨hr, I5⟩ => ?_
      subst hr
      exact hRR _ s5 σ4 H4 I5 qn
    · refine thn (Tn.item (compCx X scope (compN T F) (s2.heap.objs.size + 1) s2 H2 fp) rfl rfl rfl hc i [] s4 σ4 H4 (fun _ _ => False) I4 (stat fr4) st4 go) fun r s5 ⟨u, hr, h5⟩ => ?_
      subst hr
      refine thn h5 fun _ s6 ⟨x, H6, I6, r6, y6, st6, fr6⟩ => ?_
      have I6' := I6.pinned (stat fr6) (Tn.obj _ _ st6)
      refine thn (hg _ _ _ _ _ s6 σ4 H6 x u _ I6' r6 (step x H6 y6)) fun _ s7 ⟨σ7, H7, I7, q7⟩ => ?_
      refine thn (hif _ _ _ _ _ s7 σ7 H7 _ I7 q7) fun b s8 ⟨H8, I8, q8⟩ => ?_
      have again : ∀ {s9 : Shared} {σ9 : St} {H9 : Hp} {zs : List V}, Inv (compCx X scope (compN T F) (s2.heap.objs.size + 1) s2 H2 fp) ([] ++ pinsAt fp s6.heap) σ9 H9 s9 → (∃ m', m' < n ∧ W (i + 1) m' zs σ9 H9) →
          ∃ m, m < n ∧ ∃ i ys σ' H', Inv (compCx X scope (compN T F) (s2.heap.objs.size + 1) s2 H2 fp) [] σ' H' s9 ∧ tn i s9.heap ∧ (∀ b ∈ fp, H' b = none) ∧ W i m ys σ' H' := fun {s9 σ9 H9 zs} I9 ⟨m', hm, w9⟩ => by
        refine ⟨m', hm, i + 1, zs, σ9, H9, I9.unpinned, Tn.keep _ _ _ st6 fun b hb o e => (I9.pin (b, o) (List.mem_append_right _ (List.mem_append_right _ (mem_pinsAt hb e)))).1, fun b hb => ?_, w9⟩
        obtain ⟨o, e, d⟩ := Tn.obj _ _ st6 b hb
        exact (I9.pin (b, o) (List.mem_append_right _ (List.mem_append_right _ (mem_pinsAt hb e)))).2.1
      cases b with
      | false =>
        rw [if_neg Bool.false_ne_true] at q8 ⊢
        exact again I8 q8
      | true =>
        rw [if_pos rfl] at q8 ⊢
        refine thn (he _ _ _ _ _ s8 σ7 H8 _ I8 q8) fun uy s9 ⟨y, H9, I9, r9, hD9, q9⟩ => ?_
        refine thn (mt_append _ s9 σ7 H9 (.ref s2.heap.objs.size) [y] (.ref s2.heap.objs.size) [uy] (fun _ H' => ∃ m', m' < n ∧ W (i + 1) m' (ys ++ [y]) σ7 H') I9 rfl (.cons r9 .nil) ⟨_, ys, y, rfl, rfl, hD9, hz, q9⟩) fun _ s10 ⟨_, H10, I10, _, q10⟩ => ?_
        exact again I10 q10
  exact codeAny_compStart_list loop (Tn.self _ 0 _ _ _ st3 loop)
theorem pe_comp {elt tg iter : Expr} {ifs : List Expr} {pos : Pos} {wi : TI} {g : TG} {tc : TT} {te : TE} (T : List Str) (F : List (Str × Nat)) (hc : X.calm = true) (hi : PI X tg iter wi)
    (hg : ∀ C s₂ H₂ ex, PG (compCx X scope (compN T F) C s₂ H₂ ex) tg g) (hif : ∀ C s₂ H₂ ex, PIf (compCx X scope (compN T F) C s₂ H₂ ex) ifs tc) (he : ∀ C s₂ H₂ ex, PE (compCx X scope (compN T F) C s₂ H₂ ex) elt te)
    (hclos : closureFor scope X.env = pure (clOf scope X.env) := by rfl) (hk : scope.kind = .function := by rfl) (ok : compOk X scope F = true := by rfl) (hs : ∀ x, foldedSetIterable iter X.env x = pure x := by intro _; rfl) :
    PE X (.ListComp elt [⟨tg, iter, ifs, 0⟩] scope pos) (tComp T F wi g tc te) := by
  intro pins s σ H Q I h
  have ok' := ok
  unfold compOk at ok'
  simp only [Bool.and_eq_true] at ok'
  obtain ⟨⟨⟨ok1, ok2⟩, ok3⟩, ok4⟩ := ok'
  have hnames : ∀ x ∈ scope.names, x.2 = .local → scope.names.lookup x.1 = some .local := fun x hx z => by
    have := List.all_eq_true.mp ok2 x hx
    rw [z] at this
    simpa using this
  rw [eval_ListComp]
  refine wpAny_comprehension_free (use := none) rfl hs hclos hk hnames (thn (hi pins s σ H _ I h) fun v s1 h1 => thn h1 fun itv s2 h2 => ?_)
  obtain ⟨it, fp, tn, J, H2, e, I2, Tn, st2, f2, h3⟩ := h2
  subst e
  refine comp_core (RR := fun acc C => compPost (model X.prog X.w) X.A X.xe none (EP X pins σ Q) acc C) (Q := fun D H' => Q (.ref D) H') hc hk ok hg hif he I2 Tn st2 f2 h3 fun D s' σc H' I' q => ?_
  obtain ⟨m, hn, _⟩ := I'.loc
  exact ⟨m, hn, fun h' hs' => ⟨.ref D, H', comp_end I2 f2 I' hs', rfl, q⟩⟩
/-- y = [..]: the name is bound ahead of the block's end -/
theorem ps_setc {y : Str} {i : Nat} {py spos : Pos} {elt tg iter : Expr} {ifs : List Expr} {pos : Pos} {wi : TI} {g : TG} {tc : TT} {te : TE} (T : List Str) (F : List (Str × Nat)) (hN : X.N.Nodup) (hy : X.N[i]? = some y) (hx : Loc X.env.scope y) (hc : X.calm = true) (hi : PI X tg iter wi)
    (hg : ∀ C s₂ H₂ ex, PG (compCx X scope (compN T F) C s₂ H₂ ex) tg g) (hif : ∀ C s₂ H₂ ex, PIf (compCx X scope (compN T F) C s₂ H₂ ex) ifs tc) (he : ∀ C s₂ H₂ ex, PE (compCx X scope (compN T F) C s₂ H₂ ex) elt te)
    (hsw : swapsWith (.ListComp elt [⟨tg, iter, ifs, 0⟩] scope pos) (some (.Name y py)) spos.line X.env = pure true := by rfl)
    (hclos : closureFor scope X.env = pure (clOf scope X.env) := by rfl) (hk : scope.kind = .function := by rfl) (ok : compOk X scope F = true := by rfl) (hs : ∀ x, foldedSetIterable iter X.env x = pure x := by intro _; rfl)
    (hfn : X.fn y = true ∨ X.env.scope.names.lookup y = some .local := by first | exact .inl rfl | exact .inr rfl | assumption) :
    PS X (.Assign [.Name y py] (.ListComp elt [⟨tg, iter, ifs, 0⟩] scope pos) spos) (fun D σ H => tComp T F wi g tc te σ H fun v H' => D.nx (σ.set i (some v)) H') := by
  intro pins s σ H D I h
  have ok' := ok
  unfold compOk at ok'
  simp only [Bool.and_eq_true] at ok'
  obtain ⟨⟨⟨ok1, ok2⟩, ok3⟩, ok4⟩ := ok'
  have hnames : ∀ x ∈ scope.names, x.2 = .local → scope.names.lookup x.1 = some .local := fun x hx z => by
    have := List.all_eq_true.mp ok2 x hx
    rw [z] at this
    simpa using this
  rw [exec_Assign_Name_used _ _ _ _ hsw]
  refine wpAny_bind (wpAny_standAt (wpAny_bind ?_))
  show wpAny _ X.A (do let _ ← comprehension (.ListComp elt [⟨tg, iter, ifs, 0⟩] scope pos) scope X.env _ (newList []) false (eval iter X.env) (some (assign (.Name y py) X.env))) _ _ s
  refine wpAny_bind (wpAny_mono (wpAny_comprehension_free (use := some (assign (.Name y py) X.env)) (Q := fun _ s' => SP X pins D .next s') rfl hs hclos hk hnames
    (thn (hi pins s σ H _ I h) fun v s1 h1 => thn h1 fun itv s2 h2 => ?_)) (fun _ s' hq => wpAny_pure (wpAny_pure hq)) fun _ _ e => e)
  obtain ⟨it, fp, tn, J, H2, e, I2, Tn, st2, f2, h3⟩ := h2
  subst e
  refine comp_core (RR := fun acc C => compPost (model X.prog X.w) X.A X.xe (some (assign (.Name y py) X.env)) (fun _ s' => SP X pins D .next s') acc C) (Q := fun Dd H' => D.nx (σ.set i (some (.ref Dd))) H') hc hk ok hg hif he I2 Tn st2 f2 h3 fun Dd s' σc H' I' q => ?_
  have I3 : Inv X pins σ H' s' := comp_end I2 f2 I' ⟨rfl, fun _ _ => rfl⟩
  obtain ⟨m, hn, _⟩ := I'.loc
  obtain ⟨oC, es, ep, hoC, hdC, hkC, hmC⟩ := hn
  have fC : H' (s2.heap.objs.size + 1) = none := I'.free
  have hle : s2.heap.objs.size ≤ s2.heap.objs.size + 1 := Nat.le_succ _
  have F0 := I2.fpOk (H' := H') hle fC
  obtain ⟨g0, g1, g2, g3, g4, g5⟩ := F0
  have I4 : Inv X (pins ++ [(s2.heap.objs.size + 1, oC)]) σ H' s' := I3.pins_of fun p hp => (List.mem_append.mp hp).elim (fun z => I3.pin p (List.mem_append_right _ z)) fun z => by
    have e : p = (s2.heap.objs.size + 1, oC) := by simpa using z
    subst e
    exact ⟨hoC, fC, g1, g2, fun v z => by rw [hdC] at z; cases z⟩
  show wpAny _ X.A (assign (.Name y py) X.env (.ref Dd)) _ _ _
  refine thn (pg_name (pos := py) hN hy hx hfn _ s' σ H' (.ref Dd) (.ref Dd) _ I4 rfl (show gName i (.ref Dd) σ H' D.nx from q)) fun _ s5 ⟨σ5, H5, I5, q5⟩ => ?_
  have p5 := I5.pin (s2.heap.objs.size + 1, oC) (List.mem_append_right _ (List.mem_append_right _ (by simp)))
  refine ⟨m, ⟨oC, es, ep, p5.1, hdC, hkC, hmC⟩, fun h' hs' => ?_⟩
  refine ⟨σ5, H5, ?_, q5⟩
  have I6 := I5.unpinned
  exact I6.turned (it := s2.heap.objs.size + 1) (t' := s5.toks) (fun b o hb e => (hs'.2 b hb).trans e) p5.2.1 g1 g3 g4 g5
end
end L2
end
section
set_option Elab.async false
set_option linter.all false
set_option maxRecDepth 100000
namespace L2
open PySem PySem.Spec PyProof.Rows
/-! ### what stands behind a value: data -/
mutual
def Den (H : Hp) : PyData → V → Prop
  | .none, v => v = .non
  | .bool b, v => v = .bl b
  | .int i, v => v = .int i
  | .str x, v => v = .str x
  | .tuple ds, v => ∃ a xs, v = .ref a ∧ H a = some (.tup xs) ∧ Dens H ds xs
  | .list ds, v => ∃ a xs, v = .ref a ∧ H a = some (.lst xs) ∧ Dens H ds xs
  | .dict _, _ => False
def Dens (H : Hp) : List PyData → List V → Prop
  | [], xs => xs = []
  | d :: ds, xs => ∃ x r, xs = x :: r ∧ Den H d x ∧ Dens H ds r
end
section
variable {X : Cx} {pins : List (Addr × Obj)} {σ : St} {H H' : Hp} {s : Shared} {K : PySem.W.Frag}
theorem Same.seqT {a : Addr} {xs : List V} (e : Same H H') (h : SqT K H a xs) : SqT K H' a xs := by
  rcases h with (h | ⟨o, h⟩) | h
  · exact .inl (.inl (e _ _ h))
  · exact .inl (.inr ⟨o, e _ _ h⟩)
  · exact .inr h
mutual
theorem Den.same (e : Same H H') : ∀ {d : PyData} {v : V}, Den H d v → Den H' d v
  | .none, v, h => by simp only [Den] at h ⊢; exact h
  | .bool b, v, h => by simp only [Den] at h ⊢; exact h
  | .int i, v, h => by simp only [Den] at h ⊢; exact h
  | .str x, v, h => by simp only [Den] at h ⊢; exact h
  | .tuple ds, v, h => by
    simp only [Den] at h ⊢
    obtain ⟨a, xs, e1, h1, h2⟩ := h
    exact ⟨a, xs, e1, e _ _ h1, Dens.same e h2⟩
  | .list ds, v, h => by
    simp only [Den] at h ⊢
    obtain ⟨a, xs, e1, h1, h2⟩ := h
    exact ⟨a, xs, e1, e _ _ h1, Dens.same e h2⟩
  | .dict _, v, h => by simp only [Den] at h
theorem Dens.same (e : Same H H') : ∀ {ds : List PyData} {xs : List V}, Dens H ds xs → Dens H' ds xs
  | [], xs, h => by simp only [Dens] at h ⊢; exact h
  | d :: ds, xs, h => by
    simp only [Dens] at h ⊢
    obtain ⟨x, r, e1, h1, h2⟩ := h
    exact ⟨x, r, e1, Den.same e h1, Dens.same e h2⟩
end
mutual
theorem den_reads (I : Inv X pins σ H s) : ∀ {d : PyData} {v : V} {u : Value}, Den H d v → RelV v u → ∃ as, Reads s.heap u d as
  | .none, v, u, h, r => by
    simp only [Den] at h
    subst h
    cases (show u = Value.none from r)
    exact ⟨_, .none⟩
  | .bool b, v, u, h, r => by
    simp only [Den] at h
    subst h
    cases (show u = Value.bool b from r)
    exact ⟨_, .bool b⟩
  | .int i, v, u, h, r => by
    simp only [Den] at h
    subst h
    obtain ⟨t, e⟩ := (show ∃ t, u = Value.int i t from r)
    subst e
    exact ⟨_, .int i t⟩
  | .str x, v, u, h, r => by
    simp only [Den] at h
    subst h
    obtain ⟨t, e⟩ := (show ∃ t, u = Value.str x t from r)
    subst e
    exact ⟨_, .str x t⟩
  | .tuple ds, v, u, h, r => by
    simp only [Den] at h
    obtain ⟨a, xs, e1, h1, h2⟩ := h
    subst e1
    cases (show u = Value.ref a from r)
    obtain ⟨its, rv, ⟨o, ho, hc, n, hd⟩, _⟩ := I.tuple (SqT.of h1)
    obtain ⟨as, ra⟩ := dens_reads I h2 rv
    exact ⟨as, .tuple ho hc hd (by simpa using ra)⟩
  | .list ds, v, u, h, r => by
    simp only [Den] at h
    obtain ⟨a, xs, e1, h1, h2⟩ := h
    subst e1
    cases (show u = Value.ref a from r)
    obtain ⟨its, rv, ⟨o, n, ho, hc, _, hd⟩, _⟩ := I.list (SqL.of h1)
    obtain ⟨as, ra⟩ := dens_reads I h2 rv
    exact ⟨a :: as, .list ho hc hd (by simpa using ra)⟩
  | .dict _, v, u, h, r => by simp only [Den] at h
theorem dens_reads (I : Inv X pins σ H s) : ∀ {ds : List PyData} {xs : List V} {us : List Value}, Dens H ds xs → Vals xs us → ∃ as, ReadsAll s.heap us ds as
  | [], xs, us, h, r => by
    simp only [Dens] at h
    subst h
    cases r
    exact ⟨_, .nil⟩
  | d :: ds, xs, us, h, r => by
    simp only [Dens] at h
    obtain ⟨x, rr, e1, h1, h2⟩ := h
    subst e1
    cases r with
    | cons r1 r2 =>
      obtain ⟨as, ra⟩ := den_reads I h1 r1
      obtain ⟨bs, rb⟩ := dens_reads I h2 r2
      exact ⟨_, .cons ra rb⟩
end
end
section
variable {X : Cx}
/-- == and != of data -/
def rEqD : R2 := fun x y H Q => ∃ d e, Den H d x ∧ Den H e y ∧ SeqAt.shaped d = true ∧ SeqAt.shaped e = true ∧ Q (.bl (PyData.eqv d e)) H
def rNeD : R2 := fun x y H Q => ∃ d e, Den H d x ∧ Den H e y ∧ SeqAt.shaped d = true ∧ SeqAt.shaped e = true ∧ Q (.bl (!PyData.eqv d e)) H
theorem op_eqD (hu : X.A.units + 64 < cLine) : OpR X (compareOp .Eq) rEqD := by
  intro pins s σ H x y v u Q I rx ry h
  obtain ⟨d, e, h1, h2, s1, s2, q⟩ := h
  obtain ⟨as, ra⟩ := den_reads I h1 rx
  obtain ⟨bs, rb⟩ := den_reads I h2 ry
  exact eq_dataH ra rb s1 s2 hu ⟨.bl _, H, I, rfl, q⟩
theorem op_neD (hu : X.A.units + 64 < cLine) : OpR X (compareOp .NotEq) rNeD := by
  intro pins s σ H x y v u Q I rx ry h
  obtain ⟨d, e, h1, h2, s1, s2, q⟩ := h
  obtain ⟨as, ra⟩ := den_reads I h1 rx
  obtain ⟨bs, rb⟩ := den_reads I h2 ry
  exact ne_dataH ra rb s1 s2 hu ⟨.bl _, H, I, rfl, q⟩
/-- isinstance(x, T) of one built-in class -/
def rIsi (K : PySem.W.Frag) : List V → Hp → VK → Prop := fun xs H Q => ∃ x n t b, xs = [x, .ty n] ∧ TyOf K H x t ∧ PySem.W.kitOne K t (.type n) = some b ∧ Q (.bl b) H
theorem call_isi : CallR X (.builtin "isinstance") (rIsi X.K) := by
  intro pins s σ H xs us Q I r h
  obtain ⟨x, n, t, b, rfl, ty, hk, q⟩ := h
  cases r with
  | cons r1 r2 =>
    cases r2 with
    | cons r2 r3 =>
      cases r3
      cases (show _ = Value.type n from r2)
      exact isinst_ok I r1 ty hk fun tk => ⟨.bl b, H, I.tok tk, rfl, q⟩
theorem same_upd {H : Hp} {p : Addr} {o : HO} (h : H p = none) : Same H (upd H p o) := fun b u e => by
  rw [upd_ne (ne_of_none e h)]
  exact e
/-- t + u of tuples, whatever they hold -/
def rCat2 : R2 := fun x y H Q => ∃ a b xs ys, x = .ref a ∧ y = .ref b ∧ H a = some (.tup xs) ∧ H b = some (.tup ys) ∧ xs.length + ys.length ≤ sizeLine ∧
  ∀ p H', Same H H' → H' p = some (.tup (xs ++ ys)) → Q (.ref p) H'
theorem op_cat2 : OpR X (binaryOp .Add) rCat2 := by
  intro pins s σ H x y v u Q I rx ry h
  obtain ⟨a, b, xs, ys, rfl, rfl, ha, hb, hz, q⟩ := h
  by_cases hx : xs = []
  · subst hx
    cases (show v = Value.ref a from rx)
    cases (show u = Value.ref b from ry)
    obtain ⟨its, r1, p1, _⟩ := I.tuple (SqT.of ha)
    obtain ⟨its2, r2, p2, _⟩ := I.tuple (SqT.of hb)
    cases r1
    obtain ⟨⟨cls, dd, data, sl⟩, ho, hc, n, hd⟩ := p1
    obtain ⟨⟨cls2, dd2, data2, sl2⟩, ho2, hc2, n2, hd2⟩ := p2
    simp only at hc hd hc2 hd2
    subst hc hd hc2 hd2
    refine concat_meets ⟨_, ho, rfl⟩ ⟨_, ho2, rfl⟩ noFill_tuple_add seq_tuple_add PySem.F.slot_tuple_add PySem.F.entry_tuple_add (PySem.F.args_tuple_add_2 _ _)
      (tuple_addW0 a b _ _ n n2 dd dd2 sl sl2 rfl) ⟨ho, ho2, ?_⟩
    exact ⟨.ref b, H, I, rfl, q b H (Same.refl H) hb⟩
  · refine op_catT pins s σ H (.ref a) (.ref b) v u Q I rx ry ⟨a, b, xs, ys, rfl, rfl, SqT.of ha, SqT.of hb, hx, hz, fun z => ?_, fun z p hp => q p _ (same_upd hp) upd_same⟩
    subst z
    refine q a H (Same.refl H) ?_
    rw [List.append_nil]
    exact ha
/-- sum(xs) of ints -/
def rSum (K : PySem.W.Frag) : List V → Hp → VK → Prop := fun xs H Q => ∃ (p : Addr) (ns : List Int), xs = [.ref p] ∧ (SqL K H p (ns.map V.int) ∨ SqT K H p (ns.map V.int)) ∧ Q (.int ns.sum) H
end
end L2
end
section
set_option Elab.async false
set_option linter.all false
set_option maxRecDepth 100000
namespace L2
open PySem PySem.Spec PyProof.Rows
/-! ### enumerate -/
section
variable {prog : Program} {w : World} {A : Around} {E : Value → Shared → Prop} {s : Shared}
/-- a call of a built-in class with keywords, whose __init__ is object's -/
theorem typeCallKw {T nid : String} {Bn : Builtin} {as : List Value} {kw : List (Str × Value)} {S : PySem.Spec} {Q : Value → Shared → Prop} (tc : TypeCalled T nid "object.__init__")
    (hct : checkTypeCall T ⟨as, kw⟩ = pure ()) (hcn : checkBuiltinCall nid ⟨.type T :: as, kw⟩ = pure ()) (ent : entryFor table nid = some Bn) (g : Meets (Bn ⟨.type T :: as, kw⟩) S)
    (hi : ∀ (obj : Value), argsOk "object.__init__" ⟨obj :: as, kw⟩) (gi : ∀ (obj : Value), Meets (Builtin.«object.__init__» ⟨obj :: as, kw⟩) (fun _ R s => s.TypeIs obj T ∧ R (.ok (.ret .none)) s))
    (h : S A.in1 (wants (fun obj s₁ => s₁.TypeIs obj T ∧ Q obj s₁) E) s) : wpAny (model prog w) A (call (.type T) as kw) Q E s := by
  obtain ⟨c0, t0, e0⟩ := tc.mro
  have e1 := tc.made
  have e2 := tc.sub
  refine wpAny_call (codeAny_of_tree ?tree)
  case tree =>
    show wpAny _ _ (callAny (.type T) _) _ _ _
    refine wpAny_pure ⟨Code.quiet_builtin _ (by decide +kernel), codeAny_builtin PySem.F.entry_type_call ?inner⟩
    rw [Around.under_plain (weight_type_call_type T as kw) (units_type_call_type T as kw)]
    have e3 := tc.notType
    have e4 := tc.canCreate
    repeat (any_goals (first | assumption | wp_step))
    refine codeAny_mono (codeAny_call_builtin tc.plain ent (wpAny_of_eq hcn (g prog w A.in1 _ s h))) fun r1 s1 q1 => ?_
    cases r1 with
    | error ex => exact q1
    | ok f1 =>
      cases f1 with
      | ret ob =>
        have q1' : s1.TypeIs ob T ∧ Q ob s1 := q1
        obtain ⟨ty, q2⟩ := q1'
        have e5 := tc.init.lookup
        have e6 := tc.init.bind ob
        repeat (any_goals (first | assumption | wp_step))
        refine codeAny_mono (codeAny_call_builtin tc.init.plain PySem.F.entry_object_init (tc.init.check _ _ _ _ _ _ _ _ ty (hi ob) (gi ob prog w A.in1 (wants (fun r s₂ => r = .none ∧ Q ob s₂) E) s1 ⟨ty, rfl, q2⟩))) fun r2 s2 q3 => ?_
        cases r2 with
        | error ex => exact q3
        | ok f2 =>
          cases f2 with
          | ret rr =>
            obtain ⟨rfl, q4⟩ := q3
            repeat (any_goals (first | assumption | wp_step))
          | _ => exact q3.elim
      | _ => exact q1.elim
end
end L2
end
section
set_option Elab.async false
set_option linter.all false
set_option maxRecDepth 100000
namespace L2
open PySem PySem.Spec PyProof.Rows
section
variable {prog : Program} {w : World} {A : Around} {E : Value → Shared → Prop} {s : Shared}
theorem nextTup {it t : Addr} {i : Nat} {items : Array Value} {x : Value} {Q : Value → Shared → Prop} (hit : s.heap.IsTupleIter it t i) (ht : s.heap.IsTuple t items) (hx : items[i]? = some x)
    (hQ : ∀ h', h'.IsTupleIter it t (i + 1) → Heap.SameBut it s.heap h' → Q x { s with heap := h' }) : wpAny (model prog w) A (Builtin.SmallTypes.nextOf (.ref it)) Q E s := by
  obtain ⟨oi, hoi, hci, hdi⟩ := id hit
  obtain ⟨ot, hot, _, nt, hdt⟩ := ht
  unfold Builtin.SmallTypes.nextOf
  refine wpAny_bind (wpAny_callSpecial?_slot (name := Str.ofString "__next__") hit.typeIs PySem.F.slot_tuple_iterator_next (wpAny_call_entry PySem.F.slot_tuple_iterator_next hit.typeIs PySem.F.entry_tuple_iterator_next ?nx (PySem.F.args_tuple_iterator_next_1 _)))
  case nx =>
    show wpAny _ _ (field (.ref it) 0 >>= _) _ _ s
    refine wpAny_bind (wpAny_field hoi hdi (x := .ref t) rfl ?_)
    show wpAny _ _ (if (Value.ref t == Value.none) = true then _ else _) _ _ s
    rw [if_neg (show ¬ ((Value.ref t == Value.none) = true) from Bool.false_ne_true)]
    show wpAny _ _ (field (.ref it) 1 >>= _) _ _ s
    refine wpAny_bind (wpAny_field hoi hdi (x := .int i 0) rfl ?_)
    show wpAny _ _ (seqItems? (.ref t) >>= _) _ _ s
    refine wpAny_bind (wpAny_seqItems hot hdt ?_)
    simp only [Int.toNat_natCast, hx]
    refine wpAny_bind (wpAny_setField hoi hdi (by simp) (wpAny_pure ⟨x, rfl, wpAny_pure (hQ _ ⟨_, Heap.get?_update_self _ hoi (Obj.isFreed_of_fields (Obj.data_mapFields hdi _)), (Obj.cls_mapFields ..).trans hci, ?_⟩ (Heap.SameBut.update ..))⟩))
    rw [Obj.data_mapFields hdi]
    simp [rawInt]
/-- one step of an enumerate over a tuple, counted from lo -/
theorem enumStep {e it t : Addr} {i : Nat} {lo : Int} {items : Array Value} {x old : Value} {Q : Option Value → Shared → Prop}
    (he : IsEnum s.heap e it (lo + i) old) (hit : s.heap.IsTupleIter it t i) (ht : s.heap.IsTuple t items) (hx : items[i]? = some x) (hne : e ≠ it)
    (hQ : ∀ h', IsEnumOut h' e it (lo + i + 1) x s.heap.objs.size → h'.IsTupleIter it t (i + 1) →
      h'.get? s.heap.objs.size = some { cls := .type "tuple", data := .seq #[.int (lo + i) s.toks, x] } → (∀ b o, b ≠ e → b ≠ it → s.heap.get? b = some o → h'.get? b = some o) →
      Q (some (.ref s.heap.objs.size)) { s with heap := h', toks := s.toks + 1 }) : wpAny (model prog w) A (pyNext (.ref e)) Q E s := by
  have ty : s.TypeIs (.ref e) "enumerate" := ⟨_, he, rfl⟩
  unfold pyNext
  refine wpAny_bind (wpAny_attempt (wpAny_callSpecial?_slot (name := Str.ofString "__next__") ty PySem.F.slot_enumerate_next (wpAny_call_entry PySem.F.slot_enumerate_next ty PySem.F.entry_enumerate_next ?nx (PySem.F.args_enumerate_next_1 _))))
  case nx =>
    obtain ⟨hp, g, d, tk, os⟩ := s
    show wpAny _ _ (field (.ref e) 2 >>= _) _ _ _
    refine wpAny_bind (wpAny_field he rfl (x := .ref it) rfl ?_)
    refine wpAny_bind (nextTup hit ht hx fun k1 hit1 sb1 => ?_)
    replace sb1 : Heap.SameBut it hp k1 := sb1
    have g1 : IsEnum k1 e it (lo + i) old := (sb1.2 e hne).trans he
    show wpAny _ _ (field (.ref e) 3 >>= _) _ _ ⟨k1, g, d, tk, os⟩
    refine wpAny_bind (wpAny_field g1 rfl (x := rawInt (lo + i)) rfl ?_)
    show wpAny _ _ (field (.ref e) 4 >>= _) _ _ ⟨k1, g, d, tk, os⟩
    refine wpAny_bind (wpAny_field g1 rfl (x := .none) rfl ?_)
    show wpAny _ _ (mkInt (lo + i) >>= _) _ _ ⟨k1, g, d, tk, os⟩
    refine wpAny_bind (wpAny_mkInt ?_)
    show wpAny _ _ (setField (.ref e) 3 (rawInt (lo + i + 1)) >>= _) _ _ ⟨k1, g, d, tk + 1, os⟩
    refine wpAny_bind (wpAny_setField_rec g1 (by simp) fun k2 g2 sb2 => ?_)
    replace sb2 : Heap.SameBut e k1 k2 := sb2
    replace g2 : IsEnum k2 e it (lo + i + 1) old := g2
    show wpAny _ _ (setField (.ref e) 4 .none >>= _) _ _ ⟨k2, g, d, tk + 1, os⟩
    refine wpAny_bind (wpAny_setField_rec g2 (by simp) fun k3 g3 sb3 => ?_)
    replace sb3 : Heap.SameBut e k2 k3 := sb3
    replace g3 : IsEnum k3 e it (lo + i + 1) old := g3
    show wpAny _ _ (newTuple [.int (lo + i) tk, x] >>= _) _ _ ⟨k3, g, d, tk + 1, os⟩
    refine wpAny_bind (wpAny_newTuple ?_)
    have g4 : IsEnum (k3.push { cls := .type "tuple", data := .seq #[.int (lo + i) tk, x] }) e it (lo + i + 1) old := Heap.get?_push_of_some _ g3
    generalize hk4 : k3.push { cls := .type "tuple", data := .seq #[.int (lo + i) tk, x] } = k4 at g4
    have sz : k3.objs.size = hp.objs.size := by rw [sb3.1, sb2.1, sb1.1]
    have el : e < hp.objs.size := Heap.lt_size he
    have t4 : k4.get? hp.objs.size = some { cls := .type "tuple", data := .seq #[.int (lo + i) tk, x] } := by
      rw [← hk4, ← sz]
      exact Heap.get?_push_size _ rfl
    have kp4 : ∀ b o, b ≠ e → b ≠ it → hp.get? b = some o → k4.get? b = some o := fun b o n1 n2 q => by
      rw [← hk4]
      exact Heap.get?_push_of_some _ (sb3.extBut b o n1 (sb2.extBut b o n1 (sb1.extBut b o n2 q)))
    have hit4 : k4.IsTupleIter it t (i + 1) := by
      obtain ⟨o, ho, r⟩ := hit1
      rw [← hk4]
      exact ⟨o, Heap.get?_push_of_some _ (sb3.extBut it o (Ne.symm hne) (sb2.extBut it o (Ne.symm hne) ho)), r⟩
    show wpAny _ _ (Builtin.SmallTypes.ownedTupleIsFree (.ref e) >>= _) _ _ ⟨k4, g, d, tk + 1, os⟩
    rw [sz]
    clear hk4 g3 sb3 g2 sb2 g1 sb1 hit1 sz k3 k2 k1
    refine wpAny_bind ?_
    unfold Builtin.SmallTypes.ownedTupleIsFree
    refine wpAny_bind (wpAny_field g4 rfl (x := .none) rfl (wpAny_pure ?_))
    simp only [if_true]
    refine wpAny_bind (wpAny_rule ?_)
    refine wpAny_bind (wpAny_field g4 rfl (x := old) rfl ?_)
    refine wpAny_bind (wpAny_setField_rec g4 (by simp) fun k5 g5 sb5 => ?_)
    replace sb5 : Heap.SameBut e k4 k5 := sb5
    replace g5 : IsEnum k5 e it (lo + i + 1) x := g5
    show wpAny _ _ (Builtin.SmallTypes.ownedTupleHandOut (.ref e) (.ref hp.objs.size) >>= _) _ _ ⟨k5, g, d, tk + 1, os⟩
    refine wpAny_bind ?_
    unfold Builtin.SmallTypes.ownedTupleHandOut
    refine wpAny_bind (wpAny_setField_rec g5 (by simp) fun k6 g6 sb6 => ?_)
    replace sb6 : Heap.SameBut e k5 k6 := sb6
    replace g6 : IsEnumOut k6 e it (lo + i + 1) x hp.objs.size := g6
    refine wpAny_setField_rec g6 (by simp) fun k7 g7 sb7 => ?_
    replace sb7 : Heap.SameBut e k6 k7 := sb7
    replace g7 : IsEnumOut k7 e it (lo + i + 1) x hp.objs.size := g7
    refine wpAny_bind (wpAny_letGo (wpAny_pure ⟨_, rfl, wpAny_pure (hQ k7 g7 ?_ ?_ ?_)⟩))
    · obtain ⟨o, ho, r⟩ := hit4
      exact ⟨o, sb7.extBut it o (Ne.symm hne) (sb6.extBut it o (Ne.symm hne) (sb5.extBut it o (Ne.symm hne) ho)), r⟩
    · exact sb7.extBut _ _ (Nat.ne_of_gt el) (sb6.extBut _ _ (Nat.ne_of_gt el) (sb5.extBut _ _ (Nat.ne_of_gt el) t4))
    · exact fun b o n1 n2 q => sb7.extBut b o n1 (sb6.extBut b o n1 (sb5.extBut b o n1 (kp4 b o n1 n2 q)))
end
/-- the tuple at a, its items with their places counted from lo -/
def Ite (K : PySem.W.Frag) (lo : Int) (a : Addr) : It :=
  ⟨fun i H => ∃ xs x, SqT K H a xs ∧ xs[i]? = some x, fun i H x H' => ∃ p v, x = .ref p ∧ H p = none ∧ H' = upd H p (.tup [.int (lo + i), v]) ∧ ∀ xs, SqT K H a xs → xs[i]? = some v, fun i H => ∃ xs, SqT K H a xs ∧ xs.length ≤ i⟩
section
variable {X : Cx} {pins : List (Addr × Obj)} {σ : St} {H : Hp} {s : Shared}
theorem Inv.turned2 {t' : Nat} {e it p : Addr} {xs : List V} {h' : Heap} (I : Inv X pins σ H s) (fe : FpOk X pins H e) (fi : FpOk X pins H it) (hp : s.heap.objs.size ≤ p) (k : ∀ b o, b ≠ e → b ≠ it → s.heap.get? b = some o → h'.get? b = some o)
    (th : (∃ o, h'.get? e = some o) ∧ ∃ o, h'.get? it = some o) (new : ObjOk X.prog X.w (upd H p (.tup xs)) h' p (.tup xs)) : Inv X pins σ (upd H p (.tup xs)) { s with heap := h', toks := t' } := by
  have hn := I.hok.fresh hp
  have np : ∀ b o, s.heap.get? b = some o → b ≠ p := fun b o q => Nat.ne_of_lt (Nat.lt_of_lt_of_le (Heap.lt_size q) hp)
  refine I.call' (s' := { s with heap := h', toks := t' }) (ch := [e, it]) rfl ⟨fun b o q n _ hc => ?_, fun b o q n _ hc => ⟨o.slots, ?_⟩, fun b o q n _ => ?_, fun b o q hc => ⟨o, ?_⟩, fun b ys q => ?_, fun b u ys q => ?_, fun b ps q => ⟨#[], ?_⟩⟩ ?_ I.bare fun b hb => ?_
  · exact k b o (fun z => hc (by simp [z])) (fun z => hc (by simp [z])) q
  · exact k b o (fun z => hc (by simp [z])) (fun z => hc (by simp [z])) q
  · rw [upd_ne (np b o q)]
    exact n
  · exact k b o (fun z => hc (by simp [z])) (fun z => hc (by simp [z])) q
  · rw [upd_ne (ne_of_none q hn)]
    exact q
  · rw [upd_ne (ne_of_none q hn)]
    exact q
  · rw [upd_ne (ne_of_none q hn), q]
    simp
  · intro b u q
    by_cases hb : b = p
    · subst hb
      rw [upd_same] at q
      cases q
      exact new
    · rw [upd_ne hb] at q
      refine (I.hok b u q).stay (fun c v hc r => k c v ?_ ?_ r) (fun c r => by rw [upd_ne (ne_of_none r hn)]; exact r) fun c ys r => by rw [upd_ne (ne_of_none r hn)]; exact r
      · rintro rfl
        rcases hc with hc | hc
        · rw [← hc, fe.1] at q; cases q
        · rw [fe.1] at hc; cases hc
      · rintro rfl
        rcases hc with hc | hc
        · rw [← hc, fi.1] at q; cases q
        · rw [fi.1] at hc; cases hc
  · rcases List.mem_cons.mp hb with rfl | hb
    · exact ⟨fe.2.2.2.1, fe.2.1, fe.2.2.2.2.1, fe.2.2.2.2.2⟩
    · have : b = it := by simpa using hb
      subst this
      exact ⟨fi.2.2.2.1, fi.2.1, fi.2.2.2.2.1, fi.2.2.2.2.2⟩
def iEnum (K : PySem.W.Frag) (lo : Int) (ta : TE) : TI := fun σ H R => ta σ H fun x H1 => ∃ a xs, x = .ref a ∧ SqT K H1 a xs ∧ R (Ite K lo a) H1
end
end L2
end
section
set_option Elab.async false
set_option linter.all false
set_option maxRecDepth 100000
namespace L2
open PySem PySem.Spec PyProof.Rows
/-! ### all(..) of a list of bools; t.index(x) of texts; t * k -/
section
variable {X : Cx}
def rAll (K : PySem.W.Frag) : List V → Hp → VK → Prop := fun xs H Q => ∃ (p : Addr) (bs : List Bool), xs = [.ref p] ∧ SqL K H p (bs.map V.bl) ∧ Q (.bl (bs.all id)) H
theorem bools_of {bs : List Bool} : ∀ {us : List Value}, Vals (bs.map V.bl) us → ∀ i v, us.toArray[i]? = some v → v = Value.bool (bs.getD i false) := by
  intro us r i v hv
  have hv : us[i]? = some v := by simpa using hv
  have hl : i < us.length := (List.getElem?_eq_some_iff.mp hv).1
  have hn : i < bs.length := by
    have := r.length
    rw [List.length_map] at this
    omega
  obtain ⟨u, hu, ru⟩ := r.get (i := i) (x := V.bl bs[i]) (by simp [hn])
  rw [hv] at hu
  cases hu
  have e : v = Value.bool bs[i] := ru
  rw [e]
  simp [List.getD, hn]
theorem all_getD (bs : List Bool) : ((List.range bs.length).all fun i => bs.getD i false) = bs.all id := by
  rw [Bool.eq_iff_iff, List.all_eq_true, List.all_eq_true]
  constructor
  · intro h b hb
    obtain ⟨i, hi, e⟩ := List.mem_iff_getElem.mp hb
    have := h i (List.mem_range.mpr hi)
    simp [List.getD, hi, e] at this
    simpa using this
  · intro h i hi
    have hi := List.mem_range.mp hi
    have := h bs[i] (List.getElem_mem hi)
    simpa [List.getD, hi] using this
theorem call_allB (hc : X.calm = true) : CallR X (.builtin "all") (rAll X.K) := by
  intro pins s σ H xs us Q I r h
  obtain ⟨p, bs, rfl, hs, q⟩ := h
  cases r with
  | cons r1 r2 =>
    cases r2
    cases (show _ = Value.ref p from r1)
    have hh : X.A.in1.handled = none := I.ok.hd hc
    refine call_all_walk ?_
    obtain ⟨its, rv, pl, hz⟩ := I.list hs
    have hlen : its.toArray.size = bs.length := by
      have := rv.length
      rw [List.length_map] at this
      simp [this]
    have ne : p ≠ s.heap.objs.size := by
      obtain ⟨o, n, ho, _⟩ := pl
      exact Nat.ne_of_lt (Heap.lt_size ho)
    refine wpAny_pyIter_list pl.isList ⟨s.heap.objs.size, _, _, _, _, _, (fun i => bs.getD i false), rfl, Walks.list hh s.heap.objs.size p ne its.toArray, ⟨⟨_, Heap.get?_push_size _ rfl, rfl, rfl⟩, ?_⟩, fun i v s' Q' E' hv hq => ?_, fun h' tk hk => ?_⟩
    · obtain ⟨o, n, ho, hc1, hd1, hd2⟩ := pl
      exact ⟨o, Heap.get?_push_of_some _ ho, hc1, n, hd2⟩
    · rw [bools_of rv i v hv]
      exact wpAny_truthy_bool hq
    · rw [hlen, all_getD]
      refine ⟨.bl _, H, I.kept (t' := tk) fun b u e => hk b u (by simpa using Nat.ne_of_lt (Heap.lt_size e)) (Heap.get?_push_of_some _ e), rfl, q⟩
def rIndex (K : PySem.W.Frag) : V → List V → Hp → VK → Prop := fun x vs H Q => ∃ (a : Addr) (ks : List Str) (k : Str) (j : Nat), x = .ref a ∧ vs = [.str k] ∧ SqT K H a (ks.map V.str) ∧ ks[j]? = some k ∧ (∀ i, i < j → ks[i]? ≠ some k) ∧ Q (.int j) H
end
end L2
end
section
set_option Elab.async false
set_option linter.all false
set_option maxRecDepth 100000
namespace L2
open PySem PySem.Spec PyProof.Rows
section
variable {X : Cx}
/-- t * k, k two or more, of a tuple that holds something -/
def rRepT (K : PySem.W.Frag) : R2 := fun x y H Q => ∃ (a : Addr) (k : Int) (xs : List V), x = .ref a ∧ y = .int k ∧ SqT K H a xs ∧ xs ≠ [] ∧ 2 ≤ k ∧ k ≤ 1000 ∧ xs.length ≤ 1000 ∧ ∀ p, H p = none → Q (.ref p) (upd H p (.tup (List.replicate k.toNat xs).flatten))
end
end L2
end
section
set_option Elab.async false
set_option linter.all false
set_option maxRecDepth 100000
namespace L2
open PySem PySem.Spec PyProof.Rows
/-! ### what is walked, as long as all that stood stays -/
structure Src (J : It) (H : Hp) (n : Nat) (Y : Nat → V → Hp → Prop) : Prop where
  go : ∀ i H', i < n → Same H H' → J.go i H'
  yld : ∀ i H' x H'', i < n → Same H H' → J.yld i H' x H'' → Same H' H'' ∧ Y i x H''
  stop : ∀ H', Same H H' → J.stop n H'
section
variable {K : PySem.W.Frag} {H : Hp} {a : Addr} {xs : List V}
theorem src_list (h : SqL K H a xs) : Src (Itl K a) H xs.length (fun i x _ => xs[i]? = some x) where
  go := fun i H' hi s => ⟨xs, xs[i], s.seq h, by simp [hi]⟩
  yld := fun i H' x H'' hi s y => ⟨by rw [y.1]; exact Same.refl _, y.2 xs (s.seq h)⟩
  stop := fun H' s => ⟨xs, s.seq h, Nat.le_refl _⟩
theorem src_tup (h : SqT K H a xs) : Src (Itt K a) H xs.length (fun i x _ => xs[i]? = some x) where
  go := fun i H' hi s => ⟨xs, xs[i], s.seqT h, by simp [hi]⟩
  yld := fun i H' x H'' hi s y => ⟨by rw [y.1]; exact Same.refl _, y.2 xs (s.seqT h)⟩
  stop := fun H' s => ⟨xs, s.seqT h, Nat.le_refl _⟩
theorem src_range (lo : Int) (n : Nat) : Src (Itr lo n) H n (fun i x _ => x = .int (lo + i)) where
  go := fun i H' hi s => hi
  yld := fun i H' x H'' hi s y => ⟨by rw [y.1]; exact Same.refl _, y.2⟩
  stop := fun H' s => Nat.le_refl _
end
/-- all that was tracked is as it was, but for lists -/
def SameN (H H' : Hp) : Prop := ∀ b o, H b = some o → (∀ zs, o ≠ .lst zs) → H' b = some o
theorem Same.n {H H' : Hp} (s : Same H H') : SameN H H' := fun b o e _ => s b o e
theorem sameN_lst {H : Hp} {D : Addr} {ys zs : List V} (h : H D = some (.lst ys)) : SameN H (upd H D (.lst zs)) := fun b o e n => by
  rw [upd_ne (fun z => by rw [z, h] at e; exact n ys (Option.some.inj e).symm)]
  exact e
/-- a comprehension without tests: R of each item and the heap, which stays true as the heap grows -/
theorem comp_src {J : It} {H : Hp} {n : Nat} {Y : Nat → V → Hp → Prop} {T : List Str} {F : List (Str × Nat)} {σ : St} {g : TG} {te : TE} {Q : VK} (S : Src J H n Y) (hn : n ≤ sizeLine) (R : Nat → V → Hp → Prop) (stab : ∀ i y H1 H2, SameN H1 H2 → R i y H1 → R i y H2) (Z : St → Prop) (h0 : Z (compIn T F σ))
    (step : ∀ i x σc H3, i < n → Z σc → Same H H3 → Y i x H3 → ∀ (Q' : St → V → Hp → Prop), (∀ σ4 y H6, Z σ4 → Same H3 H6 → R i y H6 → Q' σ4 y H6) → g x σc H3 fun σ4 H4 => te σ4 H4 fun y H6 => Q' σ4 y H6)
    (fin : ∀ D ys H', H D = none → Same H H' → H' D = some (.lst ys) → ys.length = n → (∀ i y, ys[i]? = some y → R i y H') → Q (.ref D) H') :
    compBody T F g tTrue te σ Q J H := by
  intro D hD
  refine ⟨fun i m ys σc H2 => m = n - i ∧ i ≤ n ∧ Z σc ∧ Same H H2 ∧ H2 D = some (.lst ys) ∧ ys.length = i ∧ ∀ j y, ys[j]? = some y → R j y H2, ⟨n, rfl, Nat.zero_le _, h0, same_upd hD, upd_same, rfl, fun j y e => by simp at e⟩, ?_⟩
  rintro i m ys σc H2 ⟨rfl, hi, hz, hs, hd, hl, hr⟩
  refine ⟨hd, ?_⟩
  by_cases hlt : i < n
  · refine .inr ⟨S.go i H2 hlt hs, by omega, fun x H3 y => ?_⟩
    obtain ⟨s3, y3⟩ := S.yld i H2 x H3 hlt hs y
    simp only [tTrue, if_true]
    refine step i x σc H3 hlt hz (hs.trans s3) y3 (fun σ4 y H6 => H6 D = some (.lst ys) ∧ ∃ m', m' < n - i ∧ m' = n - (i + 1) ∧ i + 1 ≤ n ∧ Z σ4 ∧ Same H (upd H6 D (.lst (ys ++ [y]))) ∧ (upd H6 D (.lst (ys ++ [y]))) D = some (.lst (ys ++ [y])) ∧ (ys ++ [y]).length = i + 1 ∧ ∀ j z, (ys ++ [y])[j]? = some z → R j z (upd H6 D (.lst (ys ++ [y])))) fun σ4 y H6 z4 s6 r6 => ?_
    have d6 : H6 D = some (.lst ys) := s6 _ _ (s3 _ _ hd)
    have sU : ∀ {H1 : Hp}, Same H1 H6 → H1 D = none → Same H1 (upd H6 D (.lst (ys ++ [y]))) := fun {H1} s b => fun c u e => by
      rw [upd_ne (ne_of_none e b)]
      exact s c u e
    refine ⟨d6, n - (i + 1), by omega, rfl, hlt, z4, sU ((hs.trans s3).trans s6) hD, upd_same, by rw [List.length_append, hl]; rfl, fun j z e => ?_⟩
    have up := sameN_lst (zs := ys ++ [y]) d6
    by_cases hj : j < ys.length
    · rw [List.getElem?_append_left hj] at e
      exact stab _ _ _ _ up (stab _ _ _ _ (s3.trans s6).n (hr j z e))
    · have hj2 : j = ys.length := by
        have := (List.getElem?_eq_some_iff.mp e).1
        rw [List.length_append] at this
        simp at this
        omega
      subst hj2
      rw [List.getElem?_append_right (Nat.le_refl _)] at e
      simp at e
      subst e
      rw [hl]
      exact stab _ _ _ _ up r6
  · have hin : i = n := by omega
    subst hin
    exact .inl ⟨S.stop H2 hs, fin D ys H2 hD hs hd hl hr⟩
/-! ### data and heaps -/
mutual
/-- no list within -/
def tupD : PyData → Bool
  | .none | .bool _ | .int _ | .str _ => true
  | .tuple ds => tupDs ds
  | _ => false
def tupDs : List PyData → Bool
  | [] => true
  | d :: ds => tupD d && tupDs ds
end
mutual
theorem Den.n {H H' : Hp} (e : SameN H H') : ∀ {d : PyData} {v : V}, tupD d = true → Den H d v → Den H' d v
  | .none, v, t, h => by simp only [Den] at h ⊢; exact h
  | .bool b, v, t, h => by simp only [Den] at h ⊢; exact h
  | .int i, v, t, h => by simp only [Den] at h ⊢; exact h
  | .str x, v, t, h => by simp only [Den] at h ⊢; exact h
  | .tuple ds, v, t, h => by
    simp only [Den] at h ⊢
    simp only [tupD] at t
    obtain ⟨a, xs, e1, h1, h2⟩ := h
    exact ⟨a, xs, e1, e _ _ h1 (fun zs z => by cases z), Dens.n e t h2⟩
  | .list ds, v, t, h => by simp [tupD] at t
  | .dict _, v, t, h => by simp only [Den] at h
theorem Dens.n {H H' : Hp} (e : SameN H H') : ∀ {ds : List PyData} {xs : List V}, tupDs ds = true → Dens H ds xs → Dens H' ds xs
  | [], xs, t, h => by simp only [Dens] at h ⊢; exact h
  | d :: ds, xs, t, h => by
    simp only [Dens] at h ⊢
    simp only [tupDs, Bool.and_eq_true] at t
    obtain ⟨x, r, e1, h1, h2⟩ := h
    exact ⟨x, r, e1, Den.n e t.1 h1, Dens.n e t.2 h2⟩
end
def tyD : PyData → Value
  | .none => .type "NoneType"
  | .bool _ => .type "bool"
  | .int _ => .type "int"
  | .str _ => .type "str"
  | .tuple _ => .type "tuple"
  | .list _ => .type "list"
  | .dict _ => .type "dict"
theorem Den.ty {K : PySem.W.Frag} {H : Hp} : ∀ {d : PyData} {v : V}, Den H d v → TyOf K H v (tyD d)
  | .none, v, h => by simp only [Den] at h; subst h; exact .non
  | .bool b, v, h => by simp only [Den] at h; subst h; exact .bl b
  | .int i, v, h => by simp only [Den] at h; subst h; exact .int i
  | .str x, v, h => by simp only [Den] at h; subst h; exact .str x
  | .tuple ds, v, h => by
    simp only [Den] at h
    obtain ⟨a, xs, e1, h1, h2⟩ := h
    subst e1
    exact .tup h1
  | .list ds, v, h => by
    simp only [Den] at h
    obtain ⟨a, xs, e1, h1, h2⟩ := h
    subst e1
    exact .lst h1
  | .dict _, v, h => by simp only [Den] at h
theorem dens_ints {H : Hp} : ∀ {ns : List Int} {xs : List V}, Dens H (ns.map PyData.int) xs ↔ xs = ns.map V.int
  | [], xs => by simp [Dens]
  | n :: ns, xs => by
    simp only [List.map_cons, Dens, Den]
    constructor
    · rintro ⟨x, r, e1, e2, h⟩
      subst e2
      rw [e1, dens_ints.mp h]
    · intro h
      exact ⟨_, _, h, rfl, dens_ints.mpr rfl⟩
theorem Dens.length {H : Hp} : ∀ {ds : List PyData} {xs : List V}, Dens H ds xs → xs.length = ds.length
  | [], xs, h => by simp only [Dens] at h; subst h; rfl
  | d :: ds, xs, h => by
    simp only [Dens] at h
    obtain ⟨x, r, e1, _, h2⟩ := h
    rw [e1, List.length_cons, List.length_cons, Dens.length h2]
theorem Dens.get {H : Hp} : ∀ {ds : List PyData} {xs : List V} {i : Nat} {x : V}, Dens H ds xs → xs[i]? = some x → ∃ d, ds[i]? = some d ∧ Den H d x
  | [], xs, i, x, h, e => by simp only [Dens] at h; subst h; simp at e
  | d :: ds, xs, 0, x, h, e => by
    simp only [Dens] at h
    obtain ⟨y, r, e1, h1, _⟩ := h
    subst e1
    simp at e
    subst e
    exact ⟨d, rfl, h1⟩
  | d :: ds, xs, i + 1, x, h, e => by
    simp only [Dens] at h
    obtain ⟨y, r, e1, _, h2⟩ := h
    subst e1
    simp at e
    obtain ⟨d', e', h'⟩ := Dens.get h2 e
    exact ⟨d', by simpa using e', h'⟩
/-- classes of data -/
theorem kit_bool {K : PySem.W.Frag} (d : PyData) : PySem.W.kitOne K (tyD d) (.type "bool") = some (match d with | .bool _ => true | _ => false) := by
  cases d <;> rfl
theorem kit_int {K : PySem.W.Frag} (d : PyData) : PySem.W.kitOne K (tyD d) (.type "int") = some (match d with | .bool _ => true | .int _ => true | _ => false) := by
  cases d <;> rfl
theorem kit_str {K : PySem.W.Frag} (d : PyData) : PySem.W.kitOne K (tyD d) (.type "str") = some (match d with | .str _ => true | _ => false) := by
  cases d <;> rfl
theorem kit_tuple {K : PySem.W.Frag} (d : PyData) : PySem.W.kitOne K (tyD d) (.type "tuple") = some (match d with | .tuple _ => true | _ => false) := by
  cases d <;> rfl
theorem kit_list {K : PySem.W.Frag} (d : PyData) : PySem.W.kitOne K (tyD d) (.type "list") = some (match d with | .list _ => true | _ => false) := by
  cases d <;> rfl
end L2
end
section
set_option Elab.async false
set_option linter.all false
set_option maxRecDepth 100000
namespace L2
open PySem PySem.Spec PyProof.Rows
/-! ### the same rules, the fragment by its name -/
section
variable {X : Cx}
theorem ix_listK (K : PySem.W.Frag) (hK : X.K = K := by rfl) : IxR X (rIxL K) := by
  subst hK
  exact ix_list
theorem ix_tupK (K : PySem.W.Frag) (hK : X.K = K := by rfl) : IxR X (rIxT K) := by
  subst hK
  exact ix_tup
theorem op_notInK (K : PySem.W.Frag) (hK : X.K = K := by rfl) : OpR X (compareOp .NotIn) (rIn K true) := by
  subst hK
  exact op_notIn_seq
def rLen (K : PySem.W.Frag) : List V → Hp → VK → Prop := fun xs H Q => ∃ p ys, xs = [.ref p] ∧ (SqL K H p ys ∨ SqT K H p ys) ∧ Q (.int ys.length) H
theorem call_lenK (K : PySem.W.Frag) (hK : X.K = K := by rfl) : CallR X (.builtin "len") (rLen K) := by
  subst hK
  exact call_len_seq
theorem call_isiK (K : PySem.W.Frag) (hK : X.K = K := by rfl) : CallR X (.builtin "isinstance") (rIsi K) := by
  subst hK
  exact call_isi
theorem call_allK (K : PySem.W.Frag) (hc : X.calm = true := by rfl) (hK : X.K = K := by rfl) : CallR X (.builtin "all") (rAll K) := by
  subst hK
  exact call_allB hc
def rTupleOf (K : PySem.W.Frag) : List V → Hp → VK → Prop := fun xs H Q => ∃ p ys, xs = [.ref p] ∧ ((SqL K H p ys ∧ ∀ l, H l = none → Q (.ref l) (upd H l (.tup ys))) ∨ (SqT K H p ys ∧ Q (.ref p) H))
theorem call_tupleK (K : PySem.W.Frag) (hK : X.K = K := by rfl) : CallR X (.type "tuple") (rTupleOf K) := by
  subst hK
  exact call_tuple_of
def rListOf (K : PySem.W.Frag) : List V → Hp → VK → Prop := fun xs H Q => ∃ p ys, xs = [.ref p] ∧ (SqL K H p ys ∨ SqT K H p ys) ∧ ∀ l, H l = none → Q (.ref l) (upd H l (.lst ys))
theorem sl_listK (K : PySem.W.Frag) (hK : X.K = K := by rfl) : SlR X (rSlL K) := by
  subst hK
  exact sl_list
theorem pg_tupK (K : PySem.W.Frag) {es : List Expr} {k : Nat} {t : TGs} {n : Nat} {pos : Pos} (h : PGs X es t) (hc : X.calm = true := by rfl) (hK : X.K = K := by rfl) (hn : (assignEach es X.env).length = n := by rfl) (hst : (assignEach es X.env).findIdx? (·.1) = none := by rfl) : PG X (.Tuple es k pos) (gTup K n t) := by
  subst hK
  exact pg_tup hc h hn hst
theorem pi_listK (K : PySem.W.Frag) {tg l : Expr} {tl : TE} (hl : PE X l tl) (hK : X.K = K := by rfl) : PI X tg l (iList K tl) := by
  subst hK
  exact pi_list hl
theorem pi_tupK (K : PySem.W.Frag) {tg l : Expr} {tl : TE} (hl : PE X l tl) (hK : X.K = K := by rfl) : PI X tg l (iTup K tl) := by
  subst hK
  exact pi_tup hl
end
end L2
end
section
set_option Elab.async false
set_option linter.all false
set_option maxRecDepth 100000
namespace L2
open PySem PySem.Spec PyProof.Rows
/-! ### a tuple whose methods are asked: known to the object -/
def TupM (K : PySem.W.Frag) (H : Hp) (x : V) : Prop := ∃ p, x = .ref p ∧ ((∃ o u, H p = some (.frz o u) ∧ o.cls = .type "tuple" ∧ o.dict = none) ∨ ∃ o, K.lookup p = some o ∧ o.cls = .type "tuple" ∧ o.dict = none)
def tTupF (t : TA) : TE := fun σ H Q => t σ H fun xs H1 => xs.length ≤ sizeLine ∧ ∀ p o, H1 p = none → o.cls = .type "tuple" → o.dict = none → Q (.ref p) (upd H1 p (.frz o (.tup xs)))
def tBMT (K : PySem.W.Frag) (r : V → List V → Hp → VK → Prop) (to : TE) (t : TA) : TE := fun σ H Q => to σ H fun x H1 => TupM K H1 x ∧ t σ H1 fun xs H2 => r x xs H2 Q
section
variable {X : Cx} {o e : Expr} {es : List Expr} {t : TA} {to : TE} {pos apos cpos : Pos} {name : Str} {id : String} {r : V → List V → Hp → VK → Prop}
end
end L2
end
section
set_option Elab.async false
set_option linter.all false
set_option maxRecDepth 100000
namespace L2
open PySem PySem.Spec PyProof.Rows
/-! ### readings of written data -/
def PEd (te : TE) (d : PyData) : Prop := ∀ (σ : St) (H : Hp) (Q : VK), (∀ v H', Same H H' → Den H' d v → Q v H') → te σ H Q
def PAd (t : TA) (ds : List PyData) : Prop := ∀ (σ : St) (H : Hp) (Q : List V → Hp → Prop), (∀ vs H', Same H H' → Dens H' ds vs → Q vs H') → t σ H Q
theorem Dens.app {H : Hp} : ∀ {d1 d2 : List PyData} {x1 x2 : List V}, Dens H d1 x1 → Dens H d2 x2 → Dens H (d1 ++ d2) (x1 ++ x2)
  | [], d2, x1, x2, h1, h2 => by
    simp only [Dens] at h1
    subst h1
    exact h2
  | d :: d1, d2, x1, x2, h1, h2 => by
    simp only [Dens] at h1
    obtain ⟨x, r, e, k1, k2⟩ := h1
    subst e
    show Dens H (d :: (d1 ++ d2)) (x :: (r ++ x2))
    simp only [Dens]
    exact ⟨x, _, rfl, k1, k2.app h2⟩
/-! ### loops over what stays -/
/-! ### places -/
theorem atI_pos {α : Type} {xs : List α} {i : Int} {v : α} (h : 0 ≤ i) (e : xs[i.toNat]? = some v) : atI xs i = some v := by
  obtain ⟨j, rfl⟩ := Int.eq_ofNat_of_zero_le h
  exact atI_nat (by simpa using e)
theorem lay_ints : ∀ ns : List Int, PyData.canLayAll0 (ns.map .int) = true
  | [] => rfl
  | n :: ns => by
    show (true && _) = true
    rw [Bool.true_and]
    exact lay_ints ns
theorem depth_ints : ∀ ns : List Int, PyData.depthAll (ns.map .int) = 0
  | [] => rfl
  | n :: ns => by
    show max 0 (PyData.depthAll (ns.map .int)) = 0
    rw [depth_ints ns]
    rfl
end L2
end
section
set_option Elab.async false
set_option linter.all false
set_option maxRecDepth 100000
namespace L2
open PySem PySem.Spec PyProof.Rows
/-! ### arguments by the form of the first: no star to be looked for each time -/
section
variable {X : Cx} {es : List Expr} {te : TE} {t : TA}
theorem pa_Constant {v : Const} {k : Nat} {p : Pos} (ha : PE X (.Constant v k p) te) (hr : PA X es t) : PA X (.Constant v k p :: es) (tCons te t) := pa_cons ha hr rfl
theorem pa_Name {x : Str} {p : Pos} (ha : PE X (.Name x p) te) (hr : PA X es t) : PA X (.Name x p :: es) (tCons te t) := pa_cons ha hr rfl
theorem pa_Tuple {l : List Expr} {k : Nat} {p : Pos} (ha : PE X (.Tuple l k p) te) (hr : PA X es t) : PA X (.Tuple l k p :: es) (tCons te t) := pa_cons ha hr rfl
theorem pa_List {l : List Expr} {p : Pos} (ha : PE X (.List l p) te) (hr : PA X es t) : PA X (.List l p :: es) (tCons te t) := pa_cons ha hr rfl
theorem pa_BinOp {a : Expr} {o : Operator} {b : Expr} {p : Pos} (ha : PE X (.BinOp a o b p) te) (hr : PA X es t) : PA X (.BinOp a o b p :: es) (tCons te t) := pa_cons ha hr rfl
theorem pa_Call {f : Expr} {as : List Expr} {kw : List Keyword} {p : Pos} (ha : PE X (.Call f as kw p) te) (hr : PA X es t) : PA X (.Call f as kw p :: es) (tCons te t) := pa_cons ha hr rfl
theorem pa_Subscript {a b : Expr} {p : Pos} (ha : PE X (.Subscript a b p) te) (hr : PA X es t) : PA X (.Subscript a b p :: es) (tCons te t) := pa_cons ha hr rfl
theorem pa_Attribute {a : Expr} {x : Str} {p : Pos} (ha : PE X (.Attribute a x p) te) (hr : PA X es t) : PA X (.Attribute a x p :: es) (tCons te t) := pa_cons ha hr rfl
theorem pa_ListComp {a : Expr} {gs : List Comprehension} {sc : Scope} {p : Pos} (ha : PE X (.ListComp a gs sc p) te) (hr : PA X es t) : PA X (.ListComp a gs sc p :: es) (tCons te t) := pa_cons ha hr rfl
end
end L2
end
section
set_option Elab.async false
set_option linter.all false
set_option maxRecDepth 100000
namespace HT
open PySem PySem.Spec PyProof.Rows
section
variable {prog : Program} {w : World} {A : Around} {E : Value → Shared → Prop} {s : Shared}
theorem getItem_tuple_whole {t sl : Addr} {items : Array Value} {vl vu : Value} {lo hi : Option Int} {Q : Value → Shared → Prop} (ht : IsTup s.heap t items) (hs : s.heap.IsSliceOf sl vl vu .none) (pl : IsPart vl lo) (pu : IsPart vu hi)
    (hw : sIx items.size 0 lo = 0 ∧ sIx items.size items.size hi = items.size) (h : Q (.ref t) s) : wpAny (model prog w) A (getItem (.ref t) (.ref sl)) Q E s := by
  obtain ⟨os, hos, hcs, hds⟩ := id hs
  have hTs : s.TypeIs (.ref sl) "slice" := ⟨os, hos, hcs⟩
  unfold getItem
  try with_reducible refine wpAny_holding ?_
  first | refine wpAny_bind (wpAny_pure ?_) | skip
  refine wpAny_bind (wpAny_sequenceKey ht.typeIs (by decide) ?_)
  refine wpAny_bind (wpAny_callSpecial?_slot (name := Str.ofString "__getitem__") ht.typeIs PyProof.Rows.slot_tuple_getitem
    (wpAny_call_entry PyProof.Rows.slot_tuple_getitem ht.typeIs entry_tuple_getitem ?_ (args_tuple_getitem _ _)))
  show wpAny _ _ (Builtin.Tuple.tupleItemsOf (.ref t) >>= _) _ _ s
  refine wpAny_bind (tupleItemsOf_ ht ?_)
  refine wpAny_bind (wpAny_typeOf hTs ?_)
  rw [if_pos (by decide)]
  refine wpAny_bind (sliceApplied_gen hs pl pu ?_)
  have hyes : (((sIx items.size 0 lo : Nat) : Int) == 0 && (1 : Int) == 1 && (sIx items.size items.size hi - sIx items.size 0 lo) == items.size) = true := by
    rw [hw.1, hw.2]
    simp
  show wpAny _ _ (if (((sIx items.size 0 lo : Nat) : Int) == 0 && (1 : Int) == 1 && (sIx items.size items.size hi - sIx items.size 0 lo) == items.size) = true then _ else _) _ _ s
  rw [if_pos hyes]
  refine wpAny_bind ?_
  unfold Builtin.Tuple.tupleIsExact
  refine wpAny_bind (wpAny_typeOf ht.typeIs (wpAny_pure ?_))
  rw [if_pos (by decide)]
  refine wpAny_bind (wpAny_rule ?_)
  exact wpAny_pure ⟨_, rfl, wpAny_pure h⟩
end
end HT
namespace L2
open PySem PySem.Spec PyProof.Rows
section
variable {X : Cx}
/-- t[lo:hi], the whole of it too (then it is t itself) -/
def rSlTA (K : PySem.W.Frag) : V → Option Int → Option Int → Hp → VK → Prop := fun x lo hi H Q => ∃ a xs, x = .ref a ∧ SqT K H a xs ∧
  ((HT.sIx xs.length 0 lo = 0 ∧ HT.sIx xs.length xs.length hi = xs.length) → Q (.ref a) H) ∧ (¬ (HT.sIx xs.length 0 lo = 0 ∧ HT.sIx xs.length xs.length hi = xs.length) → ∀ p, H p = none → Q (.ref p) (upd H p (.tup (cutV xs lo hi))))
theorem sl_tupAll : SlR X (rSlTA X.K) := by
  intro pins s σ H x v vl vu lo hi sl Q I rx hs pl pu h
  obtain ⟨a, xs, rfl, hx, q1, q2⟩ := h
  by_cases hw : HT.sIx xs.length 0 lo = 0 ∧ HT.sIx xs.length xs.length hi = xs.length
  · cases rx
    obtain ⟨its, r, ht, hz⟩ := I.tuple hx
    have hlen : its.toArray.size = xs.length := by rw [List.size_toArray]; exact r.length.symm
    refine ⟨"tuple", _, PyProof.Rows.slot_tuple_getitem.lookup, ht.typeIs, ?_⟩
    exact HT.getItem_tuple_whole ht hs pl pu (by rw [hlen]; exact hw) ⟨.ref a, H, I, rfl, q1 hw⟩
  · exact sl_tup pins s σ H (.ref a) v vl vu lo hi sl Q I rx hs pl pu ⟨a, xs, rfl, hx, hw, q2 hw⟩
theorem sl_tupK (K : PySem.W.Frag) (hK : X.K = K := by rfl) : SlR X (rSlTA K) := by
  subst hK
  exact sl_tupAll
end
end L2
end
section
set_option Elab.async false
set_option linter.all false
set_option maxRecDepth 100000
namespace L2
open PySem PySem.Spec PyProof.Rows
/-- a loop over what stays, its things known at an earlier heap -/
theorem for_src0 {J : It} {H0 H : Hp} {n : Nat} {Y : Nat → V → Hp → Prop} {g : TG} {tb : TS} {D : Ends} {σ : St} (S : Src J H0 n Y) (Pv : Nat → St → Hp → Prop) (h0 : Pv 0 σ H) (keep : ∀ i σ H', Pv i σ H' → Same H0 H')
    (step : ∀ i x σ H1 H2, i < n → Pv i σ H1 → Same H1 H2 → Y i x H2 → g x σ H2 fun σ2 H3 => tb { D with nx := Pv (i + 1), ct := Pv (i + 1), bk := D.nx } σ2 H3) (fin : ∀ σ H', Pv n σ H' → D.nx σ H') :
    ∃ W : Nat → Nat → St → Hp → Prop, (∃ m, W 0 m σ H) ∧ ∀ i m σ H, W i m σ H →
      (J.stop i H ∧ D.nx σ H) ∨ (J.go i H ∧ ∃ N : St → Hp → Prop, (∀ σ' H', N σ' H' → ∃ m', m' < m ∧ W (i + 1) m' σ' H') ∧ ∀ x H', J.yld i H x H' → g x σ H' fun σ2 H2 => tb { D with nx := N, ct := N, bk := D.nx } σ2 H2) := by
  refine ⟨fun i m σ H' => m = n - i ∧ i ≤ n ∧ Pv i σ H', ⟨n, rfl, Nat.zero_le _, h0⟩, ?_⟩
  rintro i m σ H1 ⟨rfl, hi, p⟩
  have s1 := keep i σ H1 p
  by_cases hlt : i < n
  · refine .inr ⟨S.go i H1 hlt s1, Pv (i + 1), fun σ' H' p' => ⟨n - (i + 1), by omega, rfl, hlt, p'⟩, fun x H' y => ?_⟩
    obtain ⟨s2, y2⟩ := S.yld i H1 x H' hlt s1 y
    exact step i x σ H1 H' hlt p s2 y2
  · have hin : i = n := by omega
    subst hin
    exact .inl ⟨S.stop H1 s1, fin σ H1 p⟩
/-- a comprehension with a test; test and item change nothing -/
theorem comp_flt {J : It} {H : Hp} {n : Nat} {Y : Nat → V → Hp → Prop} {T : List Str} {F : List (Str × Nat)} {σ : St} {g : TG} {tc : TT} {te : TE} {Q : VK} (S : Src J H n Y) (hn : n ≤ sizeLine) (t : Nat → Bool) (f : Nat → V) (Z : St → Prop) (h0 : Z (compIn T F σ))
    (step : ∀ i x σc H3, i < n → Z σc → Same H H3 → Y i x H3 → ∀ (Q1 : Hp → Prop) (Q2 : St → V → Hp → Prop) (Q3 : St → Hp → Prop), (∀ σ4, Z σ4 → t i = true → Q2 σ4 (f i) H3) → (∀ σ4, Z σ4 → t i = false → Q3 σ4 H3) →
      g x σc H3 fun σ4 H4 => tc σ4 H4 fun b H5 => if b = true then te σ4 H5 fun y H6 => Q2 σ4 y H6 else Q3 σ4 H5)
    (fin : ∀ D H', H D = none → Same H H' → H' D = some (.lst (((List.range n).filter t).map f)) → Q (.ref D) H') :
    compBody T F g tc te σ Q J H := by
  intro D hD
  refine ⟨fun i m ys σc H2 => m = n - i ∧ i ≤ n ∧ Z σc ∧ Same H H2 ∧ H2 D = some (.lst ys) ∧ ys = ((List.range i).filter t).map f, ⟨n, rfl, Nat.zero_le _, h0, same_upd hD, upd_same, rfl⟩, ?_⟩
  rintro i m ys σc H2 ⟨rfl, hi, hz, hs, hd, hy⟩
  refine ⟨hd, ?_⟩
  by_cases hlt : i < n
  · refine .inr ⟨S.go i H2 hlt hs, ?_, fun x H3 y => ?_⟩
    · rw [hy, List.length_map]
      have := List.length_filter_le t (List.range i)
      rw [List.length_range] at this
      omega
    obtain ⟨s3, y3⟩ := S.yld i H2 x H3 hlt hs y
    have d3 : H3 D = some (.lst ys) := s3 _ _ hd
    refine step i x σc H3 hlt hz (hs.trans s3) y3 (fun _ => True) (fun σ4 y H6 => H6 D = some (.lst ys) ∧ ∃ m', m' < n - i ∧ m' = n - (i + 1) ∧ i + 1 ≤ n ∧ Z σ4 ∧ Same H (upd H6 D (.lst (ys ++ [y]))) ∧ (upd H6 D (.lst (ys ++ [y]))) D = some (.lst (ys ++ [y])) ∧ (ys ++ [y]) = ((List.range (i + 1)).filter t).map f)
      (fun σ4 H5 => ∃ m', m' < n - i ∧ m' = n - (i + 1) ∧ i + 1 ≤ n ∧ Z σ4 ∧ Same H H5 ∧ H5 D = some (.lst ys) ∧ ys = ((List.range (i + 1)).filter t).map f) (fun σ4 z4 ht => ?_) fun σ4 z4 ht => ?_
    · refine ⟨d3, n - (i + 1), by omega, rfl, hlt, z4, fun c u e => ?_, upd_same, ?_⟩
      · rw [upd_ne (ne_of_none e hD)]
        exact (hs.trans s3) c u e
      · rw [List.range_succ, List.filter_append, List.map_append, ← hy]
        simp [ht]
    · refine ⟨n - (i + 1), by omega, rfl, hlt, z4, hs.trans s3, d3, ?_⟩
      rw [List.range_succ, List.filter_append, List.map_append, ← hy]
      simp [ht]
  · have hin : i = n := by omega
    subst hin
    exact .inl ⟨S.stop H2 hs, fin D H2 hD hs (by rw [hd, hy])⟩
end L2
end
section
set_option Elab.async false
set_option linter.all false
set_option maxRecDepth 100000
namespace L2
open PySem PySem.Spec PyProof.Rows
/-! ### enumerate over a list -/
def Itel (K : PySem.W.Frag) (a : Addr) : It :=
  ⟨fun i H => ∃ xs x, SqL K H a xs ∧ xs[i]? = some x, fun i H x H' => ∃ p v, x = .ref p ∧ H p = none ∧ H' = upd H p (.tup [.int (i : Int), v]) ∧ ∀ xs, SqL K H a xs → xs[i]? = some v, fun i H => ∃ xs, SqL K H a xs ∧ xs.length ≤ i⟩
section
variable {X : Cx} {pins : List (Addr × Obj)} {σ : St} {H : Hp} {s : Shared}
theorem turn_enumL {P : Program} {w : World} {K : PySem.W.Frag} {elts : List Expr} {x1 : Nat} {tp : Pos} (a e it : Addr) (hne : e ≠ it) :
    Turn P w K (.Tuple elts x1 tp) (Itel K a) [e, it] e (fun i h => (∃ old, IsEnum h e it ((i : Nat) : Int) old) ∧ h.IsListIter it a i) where
  mem := by simp
  obj := fun i h st b hb => by
    obtain ⟨⟨old, he⟩, o, ho, hc, hd⟩ := st
    rcases List.mem_cons.mp hb with rfl | hb
    · exact ⟨_, he, fun v z => by cases (show Data.fields _ = Data.cell v from z)⟩
    · have : b = it := by simpa using hb
      subst this
      exact ⟨o, ho, fun v z => by rw [hd] at z; cases z⟩
  keep := fun i h h' st k => by
    obtain ⟨⟨old, he⟩, o, ho, r⟩ := st
    exact ⟨⟨old, k e (by simp) _ he⟩, o, k it (by simp) _ ho, r⟩
  item := by
    intro X hP hw hK hc i pins s σ H E I hf st hg
    subst hP hw hK
    obtain ⟨⟨old, he⟩, hit⟩ := st
    obtain ⟨xs, x, hq, hx⟩ := hg
    obtain ⟨its, rv, p, hz⟩ := I.list hq
    obtain ⟨u, hu, ru⟩ := rv.get hx
    refine wpAny_pyNext_enum_item he hit p.isList (x := u) (by simpa using hu) hne fun h' ho hit' ht _ kp => ⟨.ref s.heap.objs.size, rfl, ?_⟩
    refine wpAny_letOwnedTupleGo_enum ho fun h2 he2 sb2 => ?_
    have el : e < s.heap.objs.size := Heap.lt_size he
    have il : it < s.heap.objs.size := by
      obtain ⟨o, ho', _⟩ := hit
      exact Heap.lt_size ho'
    have t2 : h2.get? s.heap.objs.size = some { cls := .type "tuple", data := .seq #[.int (i : Int) s.toks, u] } := (sb2.2 _ (Nat.ne_of_gt el)).trans ht
    have hit2 : h2.IsListIter it a (i + 1) := by
      obtain ⟨o, ho', r⟩ := hit'
      exact ⟨o, (sb2.2 it (Ne.symm hne)).trans ho', r⟩
    have eqi : (i : Int) + 1 = ((i + 1 : Nat) : Int) := by omega
    refine ⟨.ref s.heap.objs.size, upd H s.heap.objs.size (.tup [.int (i : Int), x]), ?_, rfl, ⟨_, x, rfl, I.hok.fresh (Nat.le_refl _), rfl, fun ys hy => by rw [I.list_inj hy hq]; exact hx⟩, ⟨⟨u, by rw [← eqi]; exact he2⟩, hit2⟩, fun b hb => ?_⟩
    · refine I.turned2 (t' := s.toks + 1) (hf e (by simp)) (hf it (by simp)) (Nat.le_refl _) (fun b o n1 n2 q => (sb2.2 b n1).trans (kp b o n1 n2 q)) ⟨⟨_, he2⟩, let ⟨o, h, _⟩ := hit2; ⟨o, h⟩⟩ ?_
      refine ⟨(by show 2 ≤ sizeLine; decide), [.int (i : Int) s.toks, u], .cons ⟨_, rfl⟩ (.cons ru .nil), ⟨_, t2, rfl, _, rfl⟩⟩
    · rw [upd_ne ?_]
      · exact (hf b hb).1
      · rcases List.mem_cons.mp hb with rfl | hb
        · exact Nat.ne_of_lt el
        · have : b = it := by simpa using hb
          subst this
          exact Nat.ne_of_lt il
  done := by
    intro X hP hw hK hc i pins s σ H E I hf st hg
    subst hP hw hK
    obtain ⟨⟨old, he⟩, hit⟩ := st
    obtain ⟨xs, hq, hx⟩ := hg
    obtain ⟨its, rv, p, hz⟩ := I.list hq
    obtain ⟨f0, f1, f2, f3, f4, f5⟩ := hf it (by simp)
    have hl := rv.length
    exact wpAny_pyNext_enum_end (I.ok.hd hc) he hit p.isList (by simp; omega) fun h' eb => ⟨rfl, I.turned (t' := s.toks) (fun b o hb e => eb b o hb e) f0 f1 f3 f4 f5⟩
  self := fun A i s Q E st h => by
    obtain ⟨⟨old, he⟩, _⟩ := st
    exact wpAny_pyIter_enum he h
def iEnumL (K : PySem.W.Frag) (ta : TE) : TI := fun σ H R => ta σ H fun x H1 => ∃ a xs, x = .ref a ∧ SqL K H1 a xs ∧ R (Itel K a) H1
theorem pi_enumL {ex : Expr} {elts : List Expr} {x1 : Nat} {tp p pos : Pos} {ta : TE} (hm : X.mg "enumerate" = none) (ha : PE X ex ta) (hg : Gl X "enumerate" := by rfl) (hs : starEach [ex] X.env = [(false, eval ex X.env)] := by rfl) :
    PI X (.Tuple elts x1 tp) (.Call (.Name "enumerate" p) [ex] [] pos) (iEnumL X.K ta) := by
  intro pins s σ H R I h
  refine Call_ (ld_blt I hg hm boot_enumerate (PyProof.Rows.callWith_type1 (thn (pa_cons ha pa_nil hs pos pins s σ H (fun vs H1 => ∃ a xs, vs = [V.ref a] ∧ SqL X.K H1 a xs ∧ R (Itel X.K a) H1) I ?_) fun us s1 ⟨vs, H1, I1, r1, q1⟩ => ?_) hs rfl))
  · have e : (fun (x : V) (H1 : Hp) => tNil σ H1 fun xs H2 => ∃ a ys, x :: xs = [V.ref a] ∧ SqL X.K H2 a ys ∧ R (Itel X.K a) H2) = fun x H1 => ∃ a xs, x = .ref a ∧ SqL X.K H1 a xs ∧ R (Itel X.K a) H1 := by
      funext x H1
      simp only [tNil, List.cons.injEq, and_true]
    show ta σ H (fun x H1 => tNil σ H1 fun xs H2 => _)
    rw [e]
    exact h
  · obtain ⟨a, xs, e, hq, q⟩ := q1
    subst e
    cases r1 with
    | cons r rr =>
      cases rr
      cases (show _ = Value.ref a from r)
      obtain ⟨its, rv, p, hz⟩ := I1.list hq
      refine call_enumerate_list p.isList fun h' he hit hsz kp => ?_
      have I2 : Inv X pins σ H1 { s1 with heap := h' } := I1.kept (t' := s1.toks) fun b o e => kp b o e
      refine wpAny_pyIter_enum he ⟨s1.heap.objs.size + 1, [s1.heap.objs.size + 1, s1.heap.objs.size], _, Itel X.K a, H1, rfl, I2, turn_enumL a _ _ (Nat.ne_of_gt (Nat.lt_succ_self _)), ⟨⟨.none, by simpa using he⟩, hit⟩, fun b hb => ?_, q⟩
      rcases List.mem_cons.mp hb with rfl | hb
      · exact I1.fpOk (Nat.le_succ _) (I1.hok.fresh (Nat.le_succ _))
      · have : b = s1.heap.objs.size := by simpa using hb
        subst this
        exact I1.fpOk (Nat.le_refl _) (I1.hok.fresh (Nat.le_refl _))
theorem pi_enumLK (K : PySem.W.Frag) {ex : Expr} {elts : List Expr} {x1 : Nat} {tp p pos : Pos} {ta : TE} (hm : X.mg "enumerate" = none) (ha : PE X ex ta) (hg : Gl X "enumerate" := by rfl) (hs : starEach [ex] X.env = [(false, eval ex X.env)] := by rfl) (hK : X.K = K := by rfl) :
    PI X (.Tuple elts x1 tp) (.Call (.Name "enumerate" p) [ex] [] pos) (iEnumL K ta) := by
  subst hK
  exact pi_enumL hm ha hg hs
end
section
variable {K : PySem.W.Frag} {H : Hp} {a : Addr} {xs : List V}
theorem src_enumL (h : SqL K H a xs) : Src (Itel K a) H xs.length (fun i x H' => ∃ p v, x = .ref p ∧ H' p = some (.tup [.int (i : Int), v]) ∧ xs[i]? = some v) where
  go := fun i H' hi s => ⟨xs, xs[i], s.seq h, by simp [hi]⟩
  yld := fun i H' x H'' hi s ⟨p, v, e1, e2, e3, e4⟩ => ⟨by rw [e3]; exact same_upd e2, p, v, e1, by rw [e3]; exact upd_same, e4 xs (s.seq h)⟩
  stop := fun H' s => ⟨xs, s.seq h, Nat.le_refl _⟩
end
end L2
end
section
set_option Elab.async false
set_option linter.all false
set_option maxRecDepth 100000
namespace L2
open PySem PySem.Spec PyProof.Rows
theorem sorted_check (a : Value) : checkBuiltinCall "sorted" ⟨[a], []⟩ = pure () := by kernel_rfl
section
variable {X : Cx}
theorem keys_ints {prog : Program} {w : World} {kvs : List (Key × Value)} {ns : List Int} (hk : kvs.map (·.1) = ns.map Sum.inl) : ∀ {acc : List Value}, acc.length = kvs.length → (∀ (j : Nat) (v : Value), acc[j]? = some v → ∃ k x, kvs[j]? = some (k, x) ∧ (mixKind prog w).is k v = true) → IntsAre acc ns := by
  induction kvs generalizing ns with
  | nil =>
    intro acc hl _
    cases ns with
    | nil =>
      cases acc with
      | nil => exact .nil
      | cons _ _ => simp at hl
    | cons _ _ => simp at hk
  | cons kv kvs ih =>
    intro acc hl h
    cases ns with
    | nil => simp at hk
    | cons n ns =>
      cases acc with
      | nil => simp at hl
      | cons v acc =>
        simp only [List.map_cons, List.cons.injEq] at hk
        obtain ⟨k, x, h1, h2⟩ := h 0 v rfl
        have h1 : kv = (k, x) := by simpa using h1
        subst h1
        have hk1 : k = Sum.inl n := hk.1
        subst hk1
        have hv : ∃ t, v = .int n t := by
          have h2 : Value.isInt n v = true := h2
          cases v <;> simp_all [Value.isInt]
        obtain ⟨t, rfl⟩ := hv
        exact .cons n t (ih hk.2 (by simpa using hl) fun j v hv => by
          obtain ⟨k, x, h1, h2⟩ := h (j + 1) v (by simpa using hv)
          exact ⟨k, x, by simpa using h1, h2⟩)
def rSortedI : List V → Hp → VK → Prop := fun xs H Q => ∃ d kvs ns, xs = [.ref d] ∧ H d = some (.dK kvs) ∧ kvs.map (·.1) = ns.map Sum.inl ∧ ns.length < 64 ∧
  ∀ p ms, List.Perm ms ns → ms.Pairwise (· ≤ ·) → H p = none → Q (.ref p) (upd H p (.lst (ms.map .int)))
theorem kv_keys {κ : Type} {kvs : List (κ × V)} {vs : List (κ × Value)} (r : KV kvs vs) : kvs.map (·.1) = vs.map (·.1) := by
  induction r with
  | nil => rfl
  | cons h _ ih =>
    rw [List.map_cons, List.map_cons, ih]
    congr 1
    exact h.1
theorem call_sortedI (hc : X.calm = true) : CallR X (.builtin "sorted") rSortedI := by
  intro pins s σ H xs us Q I r h
  obtain ⟨d, kvs, ns, rfl, hd, hk, hl, q⟩ := h
  cases r with
  | cons r1 r2 =>
    cases r2
    cases (show _ = Value.ref d from r1)
    obtain ⟨hz, hsm, vs, rel, o, es, ep, dd⟩ := dk_of I.hok hd
    have hh : X.A.in1.handled = none := I.ok.hd hc
    have hlen : vs.length = ns.length := by
      have h1 := rel.length
      have h2 := congrArg List.length hk
      rw [List.length_map, List.length_map] at h2
      omega
    have hkv : vs.map (·.1) = ns.map Sum.inl := by rw [← kv_keys rel]; exact hk
    refine wpAny_call (codeAny_call_builtin plain_sorted entry_sorted (wpAny_of_eq (sorted_check _) ?_))
    show wpAny _ _ (checkCount "sorted" 1 1 1 >>= _) _ _ s
    refine wpAny_bind (wpAny_of_eq (a := ()) (by rfl) ?_)
    refine wpAny_bind (PySem.W.kdu_collect (PySem.W.kdl_dict (knd := mixKind X.prog X.w) (kvs := vs) (ep := ep) hsm) hh ⟨o, es, dd⟩ (by rw [hlen]; exact Nat.le_of_lt (Nat.lt_trans hl (by decide))) fun h' tk acc keep hit => ?_)
    have hacc : acc.toList.length = vs.length := by
      have := hit.1
      simpa using this
    have hints : IntsAre acc.toList ns := keys_ints (prog := X.prog) (w := X.w) hkv hacc fun j v hv => hit.2 j v (by simpa using hv)
    refine wpAny_bind (wpAny_newList ?_ (by rw [hacc, hlen]; exact Nat.le_of_lt (Nat.lt_trans hl (by decide))))
    generalize eh2 : h'.push { cls := .type "list", data := .seq acc.toList.toArray } = h2
    have g2 : h2.get? h'.objs.size = some (seqObj "list" acc.toList.toArray 0) := by
      rw [← eh2]
      exact Heap.get?_push_size _ rfl
    refine wpAny_bind (wpAny_holding ?_)
    refine wpAny_call_entry (T := "list") PyProof.Rows.slot_list_sort ⟨_, g2, rfl⟩ PyProof.Rows.entry_list_sort ?_ (PyProof.Rows.args_list_sort _)
    refine list_sort_tree g2 hints (by rw [hacc, hlen]; exact hl) fun out ms hout perm pw => ?_
    refine ⟨_, rfl, wpAny_pure ?_⟩
    obtain ⟨ep2, gat⟩ := sortedHeap_at (h := h2) (a := h'.objs.size) (vs := acc.toList) (out := out) g2
    have hf : H h'.objs.size = none := (I.kept (t' := tk) keep).hok.fresh (Nat.le_refl _)
    refine ⟨.ref h'.objs.size, upd H h'.objs.size (.lst (ms.map .int)), (I.kept (t' := tk) keep).laid (t' := tk) (fun b u e => ?_) (Nat.le_refl _) ?_, rfl, q _ ms perm pw hf⟩
    · have hb : b < h'.objs.size := Heap.lt_size e
      have h2s : h2.objs.size = h'.objs.size + 1 := by rw [← eh2]; exact Heap.size_push _ _
      rw [sortedHeap_old (Nat.ne_of_lt hb) (by rw [h2s]; exact Nat.lt_succ_of_lt hb), ← eh2]
      exact Heap.get?_push_of_some _ e
    · refine ⟨?_, out.toList, ep2, vals_ints hout, ?_⟩
      · rw [List.length_map, perm.length_eq]
        exact Nat.le_of_lt (Nat.lt_trans hl (by decide))
      · simpa [seqObj] using gat
end
end L2
end
section
set_option Elab.async false
set_option linter.all false
set_option maxRecDepth 100000
namespace L2
open PySem PySem.Spec PyProof.Rows
section
variable {X : Cx}
/-- list(range(a, b)) -/
def tLR (ta : TA) : TE := fun σ H Q => ta σ H fun vs H1 => ∃ i j : Int, vs = [.int i, .int j] ∧ (-(2 ^ 62) ≤ i ∧ i < 2 ^ 62 ∧ -(2 ^ 62) ≤ j ∧ j < 2 ^ 62) ∧ (j - i).toNat ≤ sizeLine ∧ ∀ p, H1 p = none → Q (.ref p) (upd H1 p (.lst ((List.range (j - i).toNat).map fun k => .int (i + (k : Nat)))))
theorem vals_range {i : Int} : ∀ {n : Nat} {us : List Value}, us.length = n → (∀ (j : Nat) v, us[j]? = some v → ∃ t, v = Value.int (i + (j : Int) * 1) t) → Vals ((List.range n).map fun k => V.int (i + (k : Nat))) us := by
  intro n us hl h
  have key : ∀ {n : Nat} {us : List Value} {f : Nat → Int}, us.length = n → (∀ (j : Nat) v, us[j]? = some v → ∃ t, v = Value.int (f j) t) → Vals ((List.range n).map fun k => V.int (f k)) us := by
    intro n
    induction n with
    | zero =>
      intro us f hl _
      cases us with
      | nil => exact .nil
      | cons _ _ => simp at hl
    | succ n ih =>
      intro us f hl h
      cases us with
      | nil => simp at hl
      | cons u us =>
        rw [List.range_succ_eq_map, List.map_cons, List.map_map]
        obtain ⟨t, e⟩ := h 0 u rfl
        exact .cons ⟨t, e⟩ (ih (f := fun k => f (k + 1)) (by simpa using hl) fun j v hv => h (j + 1) v (by simpa using hv))
  exact key hl fun j v hv => by
    obtain ⟨t, e⟩ := h j v hv
    exact ⟨t, by rw [e, Int.mul_one]⟩
theorem pe_listRng {a b : Expr} {ta : TA} {p p2 pos pos2 : Pos} (hc : X.calm = true) (hgL : Gl X "list") (hmL : X.mg "list" = none) (hg : Gl X "range") (hm : X.mg "range" = none) (ha : PA X [a, b] ta)
    (hs : starEach [a, b] X.env = [(false, eval a X.env), (false, eval b X.env)] := by rfl) (hs2 : starEach [b] X.env = [(false, eval b X.env)] := by rfl)
    (hs3 : starEach [.Call (.Name "range" p2) [a, b] [] pos2] X.env = [(false, eval (.Call (.Name "range" p2) [a, b] [] pos2) X.env)] := by rfl) :
    PE X (.Call (.Name "list" p) [.Call (.Name "range" p2) [a, b] [] pos2] [] pos) (tLR ta) := by
  intro pins s σ H Q I h
  refine wpAny_Call_Name_kw (ld_blt I hgL hmL boot_list ?_)
  refine PyProof.Rows.callWith_type1 ?_ hs3 rfl
  rw [hs3]
  show wpAny _ _ (spliced ((false, eval (.Call (.Name "range" p2) [a, b] [] pos2) X.env) :: [])) _ _ s
  refine Calls.spliced_cons ?_
  refine Call_ (ld_blt I hg hm boot_range (PyProof.Rows.callWith_type1 (thn (ha pos2 pins s σ H _ I h) fun us s1 ⟨vs, H1, I1, r1, q1⟩ => ?_) (by rw [hs, hs2]) (by rw [hs2]; rfl)))
  obtain ⟨i, j, e, ⟨q1, q2, q3, q4⟩, hz, q⟩ := q1
  subst e
  cases r1 with
  | cons r rr =>
    cases rr with
    | cons r' rr =>
      cases rr
      obtain ⟨t, rfl⟩ := r
      obtain ⟨t', rfl⟩ := r'
      refine call_range_2 ?_
      refine Calls.spliced_nil ?_
      have I2 : Inv X pins σ H1 { s1 with heap := s1.heap.push { cls := .type "range", data := .fields #[.int i t, .int j t', .int 1 s1.toks] }, toks := s1.toks + 1 } := I1.kept fun b o e => Heap.get?_push_of_some _ e
      refine call_list_range (n := (j - i).toNat) (I.ok.hd hc) (IsRange.new ..) (small_one q1 q2 q3 q4) (by rw [rangeSize_one]; split <;> omega) (Nat.le_trans hz (by decide)) fun h' tk acc c' kp g' hit => ?_
      refine ⟨.ref _, upd H1 _ (.lst ((List.range (j - i).toNat).map fun k => .int (i + (k : Nat)))), I2.laid (t' := tk) kp (Nat.le_refl _) ?_, rfl, q _ (I2.hok.fresh (Nat.le_refl _))⟩
      refine ⟨by rw [List.length_map, List.length_range]; exact hz, acc.toList, c', vals_range (by have := hit.1; simpa using this) fun k v hv => hit.2 k v (by simpa using hv), ?_⟩
      simpa using g'
/-- d.pop(k), there -/
def rDPop : V → List V → Hp → VK → Prop := fun x vs H Q => ∃ a kvs k v, x = .ref a ∧ vs = [kV k] ∧ H a = some (.dK kvs) ∧ valV kvs k = some v ∧ Q v (upd H a (.dK (dropK kvs k)))
theorem mt_dpop : MtR X "dict.pop" rDPop := by
  intro pins s σ H x vs v us Q I rx rv h
  obtain ⟨a, kvs, k, y, rfl, rfl, hd, hk, q⟩ := h
  cases (show v = Value.ref a from rx)
  obtain ⟨u, rfl, ru⟩ := vals1 rv
  exact d_pop I hd ru hk (.inl rfl) fun w' s' I' rw' => ⟨y, _, I', rw', q⟩
/-- C() -/
theorem pe_mk0 {k : Nat} {C : Addr} {ps : List Str} {sp : Sp} {E : XK} {x : Str} {p pos : Pos} (c : Maker X.prog X.w X.K X.mg X.base x C k ps sp) (hr : Room (k + 1) X.A) (hx : Passes (CXE X.prog X.w) X E) (hg : Gl X x := by rfl) (hdb : (x == ("__debug__" : Str)) = false := by decide) :
    PE X (.Call (.Name x p) [] [] pos) (tMk C sp E tNil) := by
  obtain ⟨f, fd, F, M, hm, hb⟩ := c.ex
  intro pins s σ H Q I h
  exact pe_make0 M F hr hg hm hb .nil hx hdb pins s σ H Q I (tMake_nil h)
/-- the truth of a list -/
def tLT (K : PySem.W.Frag) (ta : TE) : TT := fun σ H Q => ta σ H fun x H' => ∃ a xs, x = .ref a ∧ SqL K H' a xs ∧ Q (!xs.isEmpty) H'
theorem pt_listK (K : PySem.W.Frag) {a : Expr} {ta : TE} (ha : PE X a ta) (he : ∀ whole, isTrue a X.env whole = (do let v ← whole; standAt a.pos; holding [v] (truthy v)) := by intro _; rfl) (hK : X.K = K := by rfl) : PT X a (tLT K ta) := by
  subst hK
  intro pins s σ H Q I h
  refine isTrue_plain (thn (ha pins s σ H _ I h) fun v s1 ⟨x, H1, I1, r1, a1, xs, ex, hq, q1⟩ => tru_ok pins s1 σ H1 x v Q I1 r1 ?_) (he _)
  subst ex
  exact ⟨_, .inl ⟨xs, hq, rfl⟩, q1⟩
theorem pe_bmK (K : PySem.W.Frag) {T id : String} {name : Str} {r : V → List V → Hp → VK → Prop} {o e : Expr} {es : List Expr} {to : TE} {t : TA} {apos cpos : Pos} (pa : PlainAttrs T) (slot : Slot T name id) (hty : typeOf (.builtin id) = pure (.type "method_descriptor")) (hm : MtR X id r) (ho : PE X o to) (ha : PA X (e :: es) t)
    (hbase : attributeBase o name X.env (eval o X.env) = eval o X.env := by rfl)
    (hfew : ((backTo cpos (starEach (e :: es) X.env)).all (fun x => !x.1) && (backToKw cpos (keywordEach [] X.env)).all (fun x => x.1.isSome)
      && decide ((e :: es).length + ([] : List Keyword).length + (if ([] : List Keyword).isEmpty then 0 else 1) < 30)) = true := by rfl)
    (hline : (apos.endLine == cpos.line) = true := by rfl) (hs : starEach (e :: es) X.env = (false, eval e X.env) :: starEach es X.env := by rfl) (hplain : (backTo cpos (starEach es X.env)).any (·.1) = false := by rfl) (hK : X.K = K := by rfl) :
    PE X (.Call (.Attribute o name apos) (e :: es) [] cpos) (tBM K T r to t) := by
  subst hK
  exact pe_bm pa slot hty hm ho ha hbase hfew hline hs hplain
end
end L2
end
section
set_option Elab.async false
set_option linter.all false
set_option maxRecDepth 100000
namespace L2
open PySem PySem.Spec PyProof.Rows
section
variable {X : Cx}
def rSortedS : List V → Hp → VK → Prop := fun xs H Q => ∃ d kvs ns, xs = [.ref d] ∧ H d = some (.dK kvs) ∧ kvs.map (·.1) = ns.map Sum.inr ∧ ns.length < 64 ∧
  ∀ p ms, List.Perm ms ns → sortedS ms = true → H p = none → Q (.ref p) (upd H p (.lst (ms.map .str)))
/-! ### for over a text -/
def Its (x : Str) : It := ⟨fun i _ => i < x.cps.size, fun i H v H' => H' = H ∧ ∃ c, x.cps[i]? = some c ∧ v = .str ⟨#[c]⟩, fun i _ => x.cps.size ≤ i⟩
def iStr (tl : TE) : TI := fun σ H R => tl σ H fun v H1 => ∃ x : Str, v = .str x ∧ (x.cps.all fun c => decide (c < 128)) = true ∧ R (Its x) H1
end
end L2
end
section
set_option Elab.async false
set_option linter.all false
set_option maxRecDepth 100000
namespace L2
open PySem PySem.Spec PyProof.Rows
/-! ### == of two tables: text keys, tuples of ints -/
def tabAt (H : Hp) (v : V) (bs : List Int) : Prop := ∃ t, v = .ref t ∧ H t = some (.tup (bs.map V.int))
def TbR (H : Hp) : List (Str × List Int) → List (Key × V) → Prop
  | [], [] => True
  | p :: fs, q :: kvs => q.1 = Sum.inr p.1 ∧ tabAt H q.2 p.2 ∧ TbR H fs kvs
  | _, _ => False
def lookT (fs : List (Str × List Int)) (n : Str) : Option (List Int) := (fs.find? fun p => decide (p.1 = n)).map (·.2)
def okT (gs : List (Str × List Int)) (p : Str × List Int) : Bool := match lookT gs p.1 with
  | some bs => decide (p.2 = bs)
  | none => false
def eqT (fs gs : List (Str × List Int)) : Bool := decide (fs.length = gs.length) && fs.all (okT gs)
/-- entries and a table -/
def EnR (prog : Program) (w : World) (h : Heap) : List (Str × List Int) → List DictEntry → Prop
  | [], [] => True
  | p :: fs, e :: es => (mixKind prog w).is (Sum.inr p.1) e.key = true ∧ e.hash = (mixKind prog w).hash (Sum.inr p.1) ∧ (∃ t, e.val = .ref t ∧ IsTupleKey (mixKind prog w) h (p.2.map Sum.inl) t) ∧ EnR prog w h fs es
  | _, _ => False
section
variable {X : Cx} {pins : List (Addr × Obj)} {σ : St} {H : Hp} {s : Shared}
def rTab (k : Bool → Bool) : R2 := fun x y H Q => ∃ a b kvs lvs fs gs, x = .ref a ∧ y = .ref b ∧ H a = some (.dK kvs) ∧ H b = some (.dK lvs) ∧ TbR H fs kvs ∧ TbR H gs lvs ∧ Q (.bl (k (eqT fs gs))) H
end
end L2
end
section
set_option Elab.async false
set_option linter.all false
set_option maxRecDepth 100000
namespace L2
open PySem PySem.Spec PyProof.Rows
section
variable {X : Cx}
/-- dict(d) -/
def rDictC : List V → Hp → VK → Prop := fun xs H Q => ∃ a kvs, xs = [.ref a] ∧ Rd H a (.dK kvs) ∧ ∀ p, H p = none → Q (.ref p) (upd H p (.dK kvs))
/-- d.pop(k, x) -/
def rDPop2 : V → List V → Hp → VK → Prop := fun x vs H Q => ∃ a kvs k d, x = .ref a ∧ vs = [kV k, d] ∧ H a = some (.dK kvs) ∧ ∀ y, (valV kvs k).getD d = y → Q y (upd H a (.dK (dropK kvs k)))
/-- a or b, a a list -/
def tOrL (K : PySem.W.Frag) (ta tb : TE) : TE := fun σ H Q => ta σ H fun x H1 => ∃ a xs, x = .ref a ∧ SqL K H1 a xs ∧ if xs.isEmpty = true then tb σ H1 Q else Q x H1
/-! ### for over a table -/
def Itd (a : Addr) (o : Obj) (kvs : List (Key × V)) : It := ⟨fun i H => H a = some (.frz o (.dK kvs)) ∧ i < kvs.length, fun i H v H' => H' = H ∧ ∃ k y, kvs[i]? = some (k, y) ∧ v = kV k, fun i H => H a = some (.frz o (.dK kvs)) ∧ kvs.length ≤ i⟩
def iDict (tl : TE) : TI := fun σ H R => tl σ H fun x H1 => ∃ a kvs, x = .ref a ∧ H1 a = some (.dK kvs) ∧ ∀ o, R (Itd a o kvs) (upd H1 a (.frz o (.dK kvs)))
end
/-! ### sorted lists are one -/
theorem sorted_one {α : Type} {r : α → α → Prop} (anti : ∀ a b, r a b → r b a → a = b) : ∀ {l l' : List α}, l.Perm l' → l.Pairwise r → l'.Pairwise r → l = l'
  | [], l', p, _, _ => p.nil_eq
  | a :: l, [], p, _, _ => absurd p.symm.nil_eq (by simp)
  | a :: l, b :: l', p, h1, h2 => by
    have hab : a = b := by
      rcases List.mem_cons.mp (p.mem_iff.mp (List.mem_cons_self (a := a) (l := l))) with e | e
      · exact e
      · rcases List.mem_cons.mp (p.symm.mem_iff.mp (List.mem_cons_self (a := b) (l := l'))) with e' | e'
        · exact e'.symm
        · exact anti _ _ ((List.pairwise_cons.mp h1).1 b e') ((List.pairwise_cons.mp h2).1 a e)
    subst hab
    rw [sorted_one anti p.cons_inv (List.pairwise_cons.mp h1).2 (List.pairwise_cons.mp h2).2]
end L2
end
section
set_option Elab.async false
set_option linter.all false
set_option maxRecDepth 100000
namespace TS
open PySem PyProof.Rows
abbrev SM := StateT SortSt Sem
/-! ### sorting long lists: keys, order -/
def kk (κ : KeyKind) (p : Keyed) : κ.α := (κ.keyOf p.1).getD κ.dflt
def Ky (κ : KeyKind) (p : Keyed) : Prop := ∃ a, κ.keyOf p.1 = some a
def Le (κ : KeyKind) (p q : Keyed) : Prop := κ.kle (kk κ p) (kk κ q)
def Lt (κ : KeyKind) (p q : Keyed) : Prop := κ.klt (kk κ p) (kk κ q)
theorem Le.refl {κ : KeyKind} (p : Keyed) : Le κ p p := KeyOrd.kle_refl _
theorem Le.trans {κ : KeyKind} {p q r : Keyed} (h : Le κ p q) (h' : Le κ q r) : Le κ p r := KeyOrd.kle_trans h h'
theorem Lt.le {κ : KeyKind} {p q : Keyed} (h : Lt κ p q) : Le κ p q := KeyOrd.kle_of_klt h
theorem not_lt {κ : KeyKind} {p q : Keyed} (h : κ.blt (kk κ p) (kk κ q) = false) : Le κ q p := h
def AllK (κ : KeyKind) (xs : Array Keyed) : Prop := ∀ (i : Nat) p, xs[i]? = some p → Ky κ p
section
variable {prog : Program} {w : World} {A : Around} {E : Value → Shared → Prop} {s : Shared} {κ : KeyKind}
theorem wp_lt (hO : κ.OneLt) {st : SortSt} {x y : Keyed} {Q : Option Bool → SortSt → Prop} (hk : kindOf st = oneType') (hx : Ky κ x) (hy : Ky κ y) (h : Q (some (κ.blt (kk κ x) (kk κ y))) st) : wpS (model prog w) A E s (lt' x y) Q st := by
  obtain ⟨a, ha⟩ := hx
  obtain ⟨b, hb⟩ := hy
  have h : Q (some (κ.blt a b)) st := by
    unfold kk at h
    rw [ha, hb] at h
    exact h
  rw [lt'_eq]
  refine wpS_bind (wpS_get ?_)
  rw [hk, keyLt'_oneType]
  exact wpS_bind (wpS_lift (wpAny_attempt (hO prog w A _ s x.1 y.1 a b ha hb ⟨rfl, wpS_pure h⟩)))
theorem wp_elem {st : SortSt} {xs : Array Keyed} {i : Nat} {p : Keyed} {Q : Keyed → SortSt → Prop} (e : xs[i]? = some p) (h : Q p st) : wpS (model prog w) A E s (elem' xs i) Q st := by
  rw [elem'_eq, e]
  exact wpS_pure h
end
/-! ### gallop -/
def gallop' : Bool → Keyed → Array Keyed → Nat → Nat → Nat → SM (Option Nat) := sortPriv% PySem.Builtin.gallop
def bey (left : Bool) (key : Keyed) (arr : Array Keyed) (base i : Nat) : SM (Option Bool) := do
  let x ← elem' arr (base + i)
  if left then lt' x key else return (← lt' key x).map (!·)
theorem gallop_eq (left : Bool) (key : Keyed) (arr : Array Keyed) (base n hint : Nat) : gallop' left key arr base n hint = (do
    let mut l := 0; let mut o := 1; let mut u := 0; let mut v := 0
    let some rt ← bey left key arr base hint | return none
    if rt then
      let t := n - hint
      for _ in [0:n] do
        if o ≥ t then break
        let some r ← bey left key arr base (hint + o) | return none
        if !r then break
        l := o; o := 2 * o + 1
      u := hint + l + 1; v := hint + min o t
    else
      let t := hint + 1
      for _ in [0:n] do
        if o ≥ t then break
        let some r ← bey left key arr base (hint - o) | return none
        if r then break
        l := o; o := 2 * o + 1
      u := hint + 1 - min o t; v := hint - l
    for _ in [0:n] do
      if u ≥ v then break
      let m := u + (v - u) / 2
      let some r ← bey left key arr base m | return none
      if r then u := m + 1 else v := m
    return some v) := rfl
section
variable {prog : Program} {w : World} {A : Around} {E : Value → Shared → Prop} {s : Shared} {κ : KeyKind}
/-- what a gallop asks, and what it finds -/
def Asks (M : Model) (A : Around) (E : Value → Shared → Prop) (s : Shared) (b : Nat → SM (Option Bool)) (n : Nat) (st : SortSt) (B : Nat → Bool) : Prop := ∀ i, i < n → ∀ Q : Option Bool → SortSt → Prop, Q (some (B i)) st → wpS M A E s (b i) Q st
theorem bin_ok {b : Nat → SM (Option Bool)} {n lo hi : Nat} {st : SortSt} {B : Nat → Bool} {Q : Option Nat → SortSt → Prop} (ask : Asks (model prog w) A E s b n st B) (mono : ∀ i j, i ≤ j → j < n → B j = true → B i = true) (h1 : lo ≤ hi) (h2 : hi ≤ n) (hlo : ∀ i, i < lo → B i = true) (hhi : ∀ i, hi ≤ i → i < n → B i = false)
    (h : ∀ k, k ≤ n → (∀ i, i < k → B i = true) → (∀ i, k ≤ i → i < n → B i = false) → Q (some k) st) : wpS (model prog w) A E s (do
      let mut u := lo; let mut v := hi
      for _ in [0:n] do
        if u ≥ v then break
        let m := u + (v - u) / 2
        let some r ← b m | return none
        if r then u := m + 1 else v := m
      return some v) Q st := by
  dsimp only
  refine wpS_bind (wpS_mono (wpS_forRange (I := fun x c st' => st' = st ∧ ∃ l r, c = (none, l, r) ∧ l ≤ r ∧ r ≤ n ∧ r - l ≤ n - x ∧ (∀ i, i < l → B i = true) ∧ (∀ i, r ≤ i → i < n → B i = false))
    (Q := fun c st' => st' = st ∧ ∃ l, c = (none, l, l) ∧ l ≤ n ∧ (∀ i, i < l → B i = true) ∧ (∀ i, l ≤ i → i < n → B i = false)) ?step ?fin ?init) ?post)
  case init => exact ⟨rfl, lo, hi, rfl, h1, h2, by omega, hlo, hhi⟩
  case fin =>
    rintro c st' ⟨rfl, l, r, rfl, a1, a2, a3, a4, a5⟩
    have : l = r := by omega
    subst this
    exact ⟨rfl, l, rfl, a2, a4, a5⟩
  case step =>
    rintro x c st' _ hx ⟨rfl, l, r, rfl, a1, a2, a3, a4, a5⟩
    dsimp only
    by_cases hlr : l ≥ r
    · rw [if_pos hlr]
      have : l = r := by omega
      subst this
      exact wpS_pure ⟨rfl, l, rfl, a2, a4, a5⟩
    · rw [if_neg hlr]
      have hm : l + (r - l) / 2 < r := by omega
      refine wpS_bind (ask _ (by omega) _ ?_)
      cases hb : B (l + (r - l) / 2) with
      | true =>
        dsimp only
        rw [if_pos rfl]
        refine wpS_pure ⟨rfl, _, _, rfl, by omega, a2, by omega, fun i hi => mono i _ (by omega) (by omega) hb, a5⟩
      | false =>
        dsimp only
        rw [if_neg (by decide)]
        refine wpS_pure ⟨rfl, _, _, rfl, by omega, by omega, by omega, a4, fun i h1 h2 => ?_⟩
        cases hi : B i with
        | false => rfl
        | true =>
          have := mono _ i h1 h2 hi
          rw [hb] at this
          cases this
  case post =>
    rintro c st' ⟨rfl, l, rfl, a2, a4, a5⟩
    exact wpS_pure (h l a2 a4 a5)
theorem gallop_ok {left : Bool} {key : Keyed} {arr : Array Keyed} {base n hint : Nat} {st : SortSt} {B : Nat → Bool} {Q : Option Nat → SortSt → Prop} (ask : Asks (model prog w) A E s (bey left key arr base) n st B) (mono : ∀ i j, i ≤ j → j < n → B j = true → B i = true) (hh : hint < n)
    (h : ∀ k, k ≤ n → (∀ i, i < k → B i = true) → (∀ i, k ≤ i → i < n → B i = false) → Q (some k) st) : wpS (model prog w) A E s (gallop' left key arr base n hint) Q st := by
  have anti : ∀ i j, i ≤ j → j < n → B i = false → B j = false := fun i j h1 h2 hb => by
    cases hj : B j with
    | false => rfl
    | true => rw [mono i j h1 h2 hj] at hb; cases hb
  rw [gallop_eq]
  dsimp only
  refine wpS_bind (ask hint hh _ ?_)
  cases hb : B hint with
  | true =>
    dsimp only
    rw [if_pos rfl]
    refine wpS_bind (wpS_mono (wpS_forRange (I := fun x c st' => st' = st ∧ ∃ l r, c = (none, l, r) ∧ l < r ∧ x + 1 ≤ r ∧ hint + l < n ∧ B (hint + l) = true)
      (Q := fun c st' => st' = st ∧ ∃ l r, c = (none, l, r) ∧ l < r ∧ hint + l < n ∧ B (hint + l) = true ∧ (n - hint ≤ r ∨ (hint + r < n ∧ B (hint + r) = false))) ?step ?fin ?init) ?post)
    case init => exact ⟨rfl, 0, 1, rfl, by omega, by omega, hh, hb⟩
    case fin =>
      rintro c st' ⟨rfl, l, r, rfl, a1, a2, a3, a4⟩
      exact ⟨rfl, l, r, rfl, a1, a3, a4, .inl (by omega)⟩
    case step =>
      rintro x c st' _ hx ⟨rfl, l, r, rfl, a1, a2, a3, a4⟩
      dsimp only
      by_cases hr : r ≥ n - hint
      · rw [if_pos hr]
        exact wpS_pure ⟨rfl, l, r, rfl, a1, a3, a4, .inl hr⟩
      · rw [if_neg hr]
        refine wpS_bind (ask _ (by omega) _ ?_)
        cases hbr : B (hint + r) with
        | true =>
          dsimp only
          rw [if_neg (by decide)]
          exact wpS_pure ⟨rfl, r, 2 * r + 1, rfl, by omega, by omega, by omega, hbr⟩
        | false =>
          dsimp only
          rw [if_pos (show (!false) = true from rfl)]
          exact wpS_pure ⟨rfl, l, r, rfl, a1, a3, a4, .inr ⟨by omega, hbr⟩⟩
    case post =>
      rintro c st' ⟨rfl, l, r, rfl, a1, a3, a4, a5⟩
      dsimp only
      refine bin_ok ask mono ?_ ?_ (fun i hi => mono i (hint + l) (by omega) a3 a4) (fun i h1 h2 => ?_) h
      · omega
      · omega
      · rcases a5 with a5 | ⟨a5, a6⟩
        · omega
        · exact anti (hint + r) i (by omega) h2 a6
  | false =>
    dsimp only
    rw [if_neg (by decide)]
    refine wpS_bind (wpS_mono (wpS_forRange (I := fun x c st' => st' = st ∧ ∃ l r, c = (none, l, r) ∧ l < r ∧ x + 1 ≤ r ∧ l ≤ hint ∧ B (hint - l) = false)
      (Q := fun c st' => st' = st ∧ ∃ l r, c = (none, l, r) ∧ l < r ∧ l ≤ hint ∧ B (hint - l) = false ∧ (hint + 1 ≤ r ∨ (r ≤ hint ∧ B (hint - r) = true))) ?step ?fin ?init) ?post)
    case init => exact ⟨rfl, 0, 1, rfl, by omega, by omega, by omega, hb⟩
    case fin =>
      rintro c st' ⟨rfl, l, r, rfl, a1, a2, a3, a4⟩
      exact ⟨rfl, l, r, rfl, a1, a3, a4, .inl (by omega)⟩
    case step =>
      rintro x c st' _ hx ⟨rfl, l, r, rfl, a1, a2, a3, a4⟩
      dsimp only
      by_cases hr : r ≥ hint + 1
      · rw [if_pos hr]
        exact wpS_pure ⟨rfl, l, r, rfl, a1, a3, a4, .inl hr⟩
      · rw [if_neg hr]
        refine wpS_bind (ask _ (by omega) _ ?_)
        cases hbr : B (hint - r) with
        | false =>
          dsimp only
          rw [if_neg (by decide)]
          exact wpS_pure ⟨rfl, r, 2 * r + 1, rfl, by omega, by omega, by omega, hbr⟩
        | true =>
          dsimp only
          rw [if_pos rfl]
          exact wpS_pure ⟨rfl, l, r, rfl, a1, a3, a4, .inr ⟨by omega, hbr⟩⟩
    case post =>
      rintro c st' ⟨rfl, l, r, rfl, a1, a3, a4, a5⟩
      dsimp only
      refine bin_ok ask mono ?_ ?_ (fun i hi => ?_) (fun i h1 h2 => anti (hint - l) i (by omega) h2 a4) h
      · omega
      · omega
      · rcases a5 with a5 | ⟨a5, a6⟩
        · omega
        · exact mono i (hint - r) (by omega) (by omega) a6
/-- the two gallops over a sorted stretch -/
theorem bey_right (hO : κ.OneLt) {key : Keyed} {arr : Array Keyed} {base n : Nat} {st : SortSt} (hk : kindOf st = oneType') (hy : Ky κ key) (ha : AllK κ arr) (hn : base + n ≤ arr.size) : Asks (model prog w) A E s (bey false key arr base) n st (fun i => match arr[base + i]? with | some x => !κ.blt (kk κ key) (kk κ x) | none => false) := by
  intro i hi Q q
  have e : arr[base + i]? = some arr[base + i] := getElem?_pos arr (base + i) (by omega)
  dsimp only at q
  rw [e] at q
  unfold bey
  refine wpS_bind (wp_elem e ?_)
  rw [if_neg (by decide)]
  refine wpS_bind (wp_lt hO hk hy (ha _ _ e) (wpS_pure q))
theorem bey_left (hO : κ.OneLt) {key : Keyed} {arr : Array Keyed} {base n : Nat} {st : SortSt} (hk : kindOf st = oneType') (hy : Ky κ key) (ha : AllK κ arr) (hn : base + n ≤ arr.size) : Asks (model prog w) A E s (bey true key arr base) n st (fun i => match arr[base + i]? with | some x => κ.blt (kk κ x) (kk κ key) | none => false) := by
  intro i hi Q q
  have e : arr[base + i]? = some arr[base + i] := getElem?_pos arr (base + i) (by omega)
  dsimp only at q
  rw [e] at q
  unfold bey
  refine wpS_bind (wp_elem e ?_)
  rw [if_pos rfl]
  exact wp_lt hO hk (ha _ _ e) hy q
/-- key among xs[base ..]: those ahead are not above it, those behind are above -/
theorem gallop_right (hO : κ.OneLt) {key : Keyed} {arr : Array Keyed} {base n hint : Nat} {st : SortSt} {Q : Option Nat → SortSt → Prop} (hk : kindOf st = oneType') (hy : Ky κ key) (ha : AllK κ arr) (hn : base + n ≤ arr.size) (hh : hint < n)
    (so : ∀ (i j : Nat) p q, i ≤ j → j < n → arr[base + i]? = some p → arr[base + j]? = some q → Le κ p q)
    (h : ∀ k, k ≤ n → (∀ (i : Nat) p, i < k → arr[base + i]? = some p → Le κ p key) → (∀ (i : Nat) p, k ≤ i → i < n → arr[base + i]? = some p → Lt κ key p) → Q (some k) st) : wpS (model prog w) A E s (gallop' false key arr base n hint) Q st := by
  refine gallop_ok (bey_right hO hk hy ha hn) (fun i j hij hj hb => ?_) hh fun k hk' h1 h2 => h k hk' (fun i p hi e => ?_) (fun i p hi hi' e => ?_)
  · have ei : arr[base + i]? = some arr[base + i] := getElem?_pos arr (base + i) (by omega)
    have ej : arr[base + j]? = some arr[base + j] := getElem?_pos arr (base + j) (by omega)
    rw [ei]
    rw [ej] at hb
    have hb : κ.blt (kk κ key) (kk κ arr[base + j]) = false := by simpa using hb
    have : κ.blt (kk κ key) (kk κ arr[base + i]) = false := Le.trans (κ := κ) (so i j _ _ hij hj ei ej) hb
    dsimp only
    rw [this]
    rfl
  · have := h1 i hi
    rw [e] at this
    have this : (!κ.blt (kk κ key) (kk κ p)) = true := this
    show κ.blt (kk κ key) (kk κ p) = false
    simpa using this
  · have := h2 i hi hi'
    rw [e] at this
    have this : (!κ.blt (kk κ key) (kk κ p)) = false := this
    show κ.blt (kk κ key) (kk κ p) = true
    simpa using this
theorem gallop_left (hO : κ.OneLt) {key : Keyed} {arr : Array Keyed} {base n hint : Nat} {st : SortSt} {Q : Option Nat → SortSt → Prop} (hk : kindOf st = oneType') (hy : Ky κ key) (ha : AllK κ arr) (hn : base + n ≤ arr.size) (hh : hint < n)
    (so : ∀ (i j : Nat) p q, i ≤ j → j < n → arr[base + i]? = some p → arr[base + j]? = some q → Le κ p q)
    (h : ∀ k, k ≤ n → (∀ (i : Nat) p, i < k → arr[base + i]? = some p → Lt κ p key) → (∀ (i : Nat) p, k ≤ i → i < n → arr[base + i]? = some p → Le κ key p) → Q (some k) st) : wpS (model prog w) A E s (gallop' true key arr base n hint) Q st := by
  refine gallop_ok (bey_left hO hk hy ha hn) (fun i j hij hj hb => ?_) hh fun k hk' h1 h2 => h k hk' (fun i p hi e => ?_) (fun i p hi hi' e => ?_)
  · have ei : arr[base + i]? = some arr[base + i] := getElem?_pos arr (base + i) (by omega)
    have ej : arr[base + j]? = some arr[base + j] := getElem?_pos arr (base + j) (by omega)
    rw [ei]
    rw [ej] at hb
    exact KeyOrd.klt_of_kle_of_klt (so i j _ _ hij hj ei ej) hb
  · have := h1 i hi
    rw [e] at this
    exact this
  · have := h2 i hi hi'
    rw [e] at this
    exact this
end
end TS
end
section
set_option Elab.async false
set_option linter.all false
set_option maxRecDepth 100000
namespace TS
open PySem PyProof.Rows
def SameS (st st' : SortSt) : Prop := kindOf st' = kindOf st ∧ arrOf st' = arrOf st ∧ pendingOf st' = pendingOf st ∧ failedOf st' = failedOf st
theorem SameS.refl (st : SortSt) : SameS st st := ⟨rfl, rfl, rfl, rfl⟩
theorem SameS.trans {a b c : SortSt} (h : SameS a b) (h' : SameS b c) : SameS a c := ⟨h'.1.trans h.1, h'.2.1.trans h.2.1, h'.2.2.1.trans h.2.2.1, h'.2.2.2.trans h.2.2.2⟩
def setG : Nat → SM Unit := sortPriv% PySem.Builtin.setMinGallop
def mergeLo' : Array Keyed → Array Keyed → SM (Array Keyed) := sortPriv% PySem.Builtin.mergeLo
theorem setG_eq (g : Nat) : setG g = modify fun s => SortSt.mk' (kindOf s) (arrOf s) (pendingOf s) g (failedOf s) := rfl
theorem mergeLo_eq (a b : Array Keyed) : mergeLo' a b = (do
    rule "list.sort.merge-lo"; let tt := a.size + b.size
    let fin (o : Array Keyed) (i j : Nat) := o ++ a.extract i a.size ++ b.extract j b.size
    let las (o : Array Keyed) (i j : Nat) := o ++ b.extract j b.size ++ a.extract i a.size
    let mut o : Array Keyed := #[← elem' b 0]; let mut i := 0; let mut j := 1
    if j == b.size then return fin o i j
    if i + 1 == a.size then return las o i j
    let mut g := gallopOf (← get)
    for _ in [0:tt] do
      let mut p := 0; let mut q := 0
      for _ in [0:tt] do
        let some y ← lt' (← elem' b j) (← elem' a i) | return fin o i j
        if y then
          o := o.push (← elem' b j); j := j + 1; q := q + 1; p := 0
          if j == b.size then return fin o i j
          if q ≥ g then break
        else
          o := o.push (← elem' a i); i := i + 1; p := p + 1; q := 0
          if i + 1 == a.size then return las o i j
          if p ≥ g then break
      rule "list.sort.gallop"; g := g + 1
      for _ in [0:tt] do
        if g > 1 then g := g - 1
        setG g
        let some k ← gallop' false (← elem' b j) a i (a.size - i) 0 | return fin o i j
        p := k
        if k > 0 then
          o := o ++ a.extract i (i + k); i := i + k
          if i + 1 == a.size then return las o i j
          if i == a.size then return fin o i j
        o := o.push (← elem' b j); j := j + 1
        if j == b.size then return fin o i j
        let some k ← gallop' true (← elem' a i) b j (b.size - j) 0 | return fin o i j
        q := k
        if k > 0 then
          o := o ++ b.extract j (j + k); j := j + k
          if j == b.size then return fin o i j
        o := o.push (← elem' a i); i := i + 1
        if i + 1 == a.size then return las o i j
        if p < 7 && q < 7 then break
      g := g + 1; setG g
    unsupported "internal:list.sort.merge-bound") := rfl
/-! ### what two stretches are merged to -/
structure Mid (κ : KeyKind) (a b o : Array Keyed) (i j : Nat) : Prop where
  la : i ≤ a.size
  lb : j ≤ b.size
  perm : o.toList.Perm (a.toList.take i ++ b.toList.take j)
  so : o.toList.Pairwise (Le κ)
  ua : ∀ p ∈ o.toList, ∀ (n : Nat) q, i ≤ n → a[n]? = some q → Le κ p q
  ub : ∀ p ∈ o.toList, ∀ (n : Nat) q, j ≤ n → b[n]? = some q → Le κ p q
def Good (κ : KeyKind) (a b r : Array Keyed) : Prop := r.toList.Perm (a.toList ++ b.toList) ∧ r.toList.Pairwise (Le κ)
theorem take_snoc {xs : Array Keyed} {i : Nat} {p : Keyed} (e : xs[i]? = some p) : xs.toList.take (i + 1) = xs.toList.take i ++ [p] := by
  rw [List.take_add_one, Array.getElem?_toList, e]
  rfl
theorem lt_of_at {xs : Array Keyed} {i : Nat} {p : Keyed} (e : xs[i]? = some p) : i < xs.size := by
  rcases Nat.lt_or_ge i xs.size with h | h
  · exact h
  · rw [Array.getElem?_eq_none h] at e; cases e
theorem at_of_lt {xs : Array Keyed} {i : Nat} (h : i < xs.size) : ∃ p, xs[i]? = some p := ⟨_, getElem?_pos xs i h⟩
section
variable {κ : KeyKind} {a b o : Array Keyed} {i j : Nat}
theorem Mid.pa (m : Mid κ a b o i j) {p : Keyed} (e : a[i]? = some p) (sa : ∀ (m n : Nat) p q, m ≤ n → a[m]? = some p → a[n]? = some q → Le κ p q) (h : ∀ (n : Nat) q, j ≤ n → b[n]? = some q → Le κ p q) : Mid κ a b (o.push p) (i + 1) j where
  la := lt_of_at e
  lb := m.lb
  perm := by
    rw [Array.toList_push, take_snoc e, List.append_assoc]
    refine (m.perm.append_right [p]).trans ?_
    rw [List.append_assoc]
    exact List.Perm.append_left _ List.perm_append_comm
  so := by
    rw [Array.toList_push, List.pairwise_append]
    exact ⟨m.so, List.pairwise_singleton _ _, fun x hx y hy => by rw [List.mem_singleton.mp hy]; exact m.ua x hx i p (Nat.le_refl _) e⟩
  ua := fun x hx n q hn eq => by
    rw [Array.toList_push, List.mem_append] at hx
    rcases hx with hx | hx
    · exact m.ua x hx n q (by omega) eq
    · rw [List.mem_singleton.mp hx]
      exact sa i n p q (by omega) e eq
  ub := fun x hx n q hn eq => by
    rw [Array.toList_push, List.mem_append] at hx
    rcases hx with hx | hx
    · exact m.ub x hx n q hn eq
    · rw [List.mem_singleton.mp hx]
      exact h n q hn eq
theorem Mid.pb (m : Mid κ a b o i j) {p : Keyed} (e : b[j]? = some p) (sb : ∀ (m n : Nat) p q, m ≤ n → b[m]? = some p → b[n]? = some q → Le κ p q) (h : ∀ (n : Nat) q, i ≤ n → a[n]? = some q → Le κ p q) : Mid κ a b (o.push p) i (j + 1) where
  la := m.la
  lb := lt_of_at e
  perm := by
    rw [Array.toList_push, take_snoc e, ← List.append_assoc]
    exact m.perm.append_right [p]
  so := by
    rw [Array.toList_push, List.pairwise_append]
    exact ⟨m.so, List.pairwise_singleton _ _, fun x hx y hy => by rw [List.mem_singleton.mp hy]; exact m.ub x hx j p (Nat.le_refl _) e⟩
  ua := fun x hx n q hn eq => by
    rw [Array.toList_push, List.mem_append] at hx
    rcases hx with hx | hx
    · exact m.ua x hx n q hn eq
    · rw [List.mem_singleton.mp hx]
      exact h n q hn eq
  ub := fun x hx n q hn eq => by
    rw [Array.toList_push, List.mem_append] at hx
    rcases hx with hx | hx
    · exact m.ub x hx n q (by omega) eq
    · rw [List.mem_singleton.mp hx]
      exact sb j n p q (by omega) e eq
theorem ext_snoc {xs : Array Keyed} {i k : Nat} {p : Keyed} (h : i ≤ k) (e : xs[k]? = some p) : xs.extract i (k + 1) = (xs.extract i k).push p := by
  have hk := lt_of_at e
  have ep : xs[k] = p := by
    rw [getElem?_pos xs k hk] at e
    exact Option.some.inj e
  rw [← ep]
  exact (Array.push_extract_getElem hk).symm ▸ (by rw [Nat.min_eq_left h])
theorem Mid.as (sa : ∀ (m n : Nat) p q, m ≤ n → a[m]? = some p → a[n]? = some q → Le κ p q) : ∀ {k : Nat}, i ≤ k → k ≤ a.size → Mid κ a b o i j → (∀ (n : Nat) p, i ≤ n → n < k → a[n]? = some p → ∀ (n' : Nat) q, j ≤ n' → b[n']? = some q → Le κ p q) → Mid κ a b (o ++ a.extract i k) k j := by
  intro k hik
  induction hik with
  | refl =>
    intro _ m _
    have : a.extract i i = #[] := by simp; omega
    rw [this, Array.append_empty]
    exact m
  | @step k hk ih =>
    intro hks m h
    obtain ⟨p, e⟩ := at_of_lt (show k < a.size from hks)
    rw [ext_snoc hk e, ← Array.push_append]
    exact (ih (by omega) m fun n p h1 h2 => h n p h1 (by omega)).pa e sa (h k p hk (by omega) e)
theorem Mid.bs (sb : ∀ (m n : Nat) p q, m ≤ n → b[m]? = some p → b[n]? = some q → Le κ p q) : ∀ {k : Nat}, j ≤ k → k ≤ b.size → Mid κ a b o i j → (∀ (n : Nat) p, j ≤ n → n < k → b[n]? = some p → ∀ (n' : Nat) q, i ≤ n' → a[n']? = some q → Le κ p q) → Mid κ a b (o ++ b.extract j k) i k := by
  intro k hik
  induction hik with
  | refl =>
    intro _ m _
    have : b.extract j j = #[] := by simp; omega
    rw [this, Array.append_empty]
    exact m
  | @step k hk ih =>
    intro hks m h
    obtain ⟨p, e⟩ := at_of_lt (show k < b.size from hks)
    rw [ext_snoc hk e, ← Array.push_append]
    exact (ih (by omega) m fun n p h1 h2 => h n p h1 (by omega)).pb e sb (h k p hk (by omega) e)
theorem Mid.good (m : Mid κ a b o a.size b.size) : Good κ a b o := by
  refine ⟨?_, m.so⟩
  have := m.perm
  rw [List.take_of_length_le (by simp), List.take_of_length_le (by simp)] at this
  exact this
/-- what is asked of two stretches -/
structure Two (κ : KeyKind) (a b : Array Keyed) : Prop where
  ka : AllK κ a
  kb : AllK κ b
  sa : ∀ (m n : Nat) p q, m ≤ n → a[m]? = some p → a[n]? = some q → Le κ p q
  sb : ∀ (m n : Nat) p q, m ≤ n → b[m]? = some p → b[n]? = some q → Le κ p q
  a0 : 0 < a.size
  b0 : 0 < b.size
  fst : ∀ p q, a[0]? = some p → b[0]? = some q → Le κ q p
  lst : ∀ p q, a[a.size - 1]? = some p → b[b.size - 1]? = some q → Le κ q p
theorem Mid.finB (T : Two κ a b) (m : Mid κ a b o i b.size) : Good κ a b (o ++ a.extract i a.size ++ b.extract b.size b.size) := by
  have h1 := m.as T.sa m.la (Nat.le_refl _) (fun n p _ _ _ n' q hn e => by have := lt_of_at e; omega)
  exact (h1.bs T.sb (Nat.le_refl _) (Nat.le_refl _) (fun n p h1 h2 => by omega)).good
theorem Mid.finA (T : Two κ a b) (m : Mid κ a b o a.size j) : Good κ a b (o ++ a.extract a.size a.size ++ b.extract j b.size) := by
  have h1 := m.as T.sa (Nat.le_refl _) (Nat.le_refl _) (fun n p h1 h2 => by omega)
  exact (h1.bs T.sb m.lb (Nat.le_refl _) (fun n p _ _ _ n' q hn e => by have := lt_of_at e; omega)).good
theorem Mid.las (T : Two κ a b) (m : Mid κ a b o i j) (hi : i + 1 = a.size) : Good κ a b (o ++ b.extract j b.size ++ a.extract i a.size) := by
  have h1 := m.bs T.sb m.lb (Nat.le_refl _) (fun n p _ hn e n' q hn' e' => by
    have := lt_of_at e'
    obtain ⟨z, ez⟩ := at_of_lt (show b.size - 1 < b.size by have := T.b0; omega)
    have hz : n' = a.size - 1 := by omega
    rw [hz] at e'
    exact (T.sb n (b.size - 1) p z (by omega) e ez).trans (T.lst q z e' ez))
  exact (h1.as T.sa m.la (Nat.le_refl _) (fun n p _ _ _ n' q hn e => by have := lt_of_at e; omega)).good
end
section
variable {prog : Program} {w : World} {A : Around} {E : Value → Shared → Prop} {s : Shared} {κ : KeyKind} {a b : Array Keyed}
theorem wp_setG {st : SortSt} {g : Nat} {Q : Unit → SortSt → Prop} (h : ∀ st', SameS st st' → Q () st') : wpS (model prog w) A E s (setG g) Q st := by
  rw [setG_eq]
  exact wpS_modify (h _ ⟨rfl, rfl, rfl, rfl⟩)
theorem beq_no {m n : Nat} (h : ¬ m = n) : ¬ (m == n) = true := by simpa using h
theorem beq_yes {m n : Nat} (h : m = n) : (m == n) = true := by simpa using h
set_option maxHeartbeats 2000000 in
theorem mergeLo_ok (hO : κ.OneLt) (T : Two κ a b) {st : SortSt} (hk : kindOf st = oneType') {Q : Array Keyed → SortSt → Prop} (h : ∀ r st', SameS st st' → Good κ a b r → Q r st') : wpS (model prog w) A E s (mergeLo' a b) Q st := by
  rw [mergeLo_eq]
  refine wpS_bind (wpS_lift (wpAny_rule ⟨rfl, ?_⟩))
  dsimp only
  obtain ⟨b1, eb1⟩ := at_of_lt T.b0
  refine wpS_bind (wp_elem eb1 ?_)
  have m0 : Mid κ a b #[b1] 0 1 := by
    refine ⟨Nat.zero_le _, T.b0, ?_, List.pairwise_singleton _ _, fun p hp n q hn e => ?_, fun p hp n q hn e => ?_⟩
    · rw [take_snoc (i := 0) eb1]
      exact List.Perm.refl _
    · have hp : p = b1 := by simpa using hp
      rw [hp]
      obtain ⟨a1, ea1⟩ := at_of_lt T.a0
      exact (T.fst a1 b1 ea1 eb1).trans (T.sa 0 n a1 q (by omega) ea1 e)
    · have hp : p = b1 := by simpa using hp
      rw [hp]
      exact T.sb 0 n b1 q (by omega) eb1 e
  by_cases h1 : 1 = b.size
  · rw [if_pos (beq_yes h1)]
    refine wpS_pure (h _ _ (SameS.refl _) ?_)
    rw [h1] at m0 ⊢
    exact m0.finB T
  rw [if_neg (beq_no h1)]
  by_cases h2 : 0 + 1 = a.size
  · rw [if_pos (beq_yes h2)]
    exact wpS_pure (h _ _ (SameS.refl _) (m0.las T h2))
  rw [if_neg (beq_no h2)]
  refine wpS_bind (wpS_get ?_)
  have a1 := T.a0
  have b1' := T.b0
  refine wpS_bind (wpS_mono (wpS_forRange (I := fun x c st' => SameS st st' ∧ ∃ o i j g, c = (none, o, i, j, g) ∧ Mid κ a b o i j ∧ i + 1 < a.size ∧ j < b.size ∧ x ≤ i + j)
    (Q := fun c st' => SameS st st' ∧ ∃ r o, c = (some r, o) ∧ Good κ a b r) ?step ?fin ⟨SameS.refl _, _, _, _, _, rfl, m0, by omega, by omega, by omega⟩) ?post)
  case fin =>
    rintro c st' ⟨_, o, i, j, g, _, _, h3, h4, h5⟩
    omega
  case post =>
    rintro c st' ⟨ss, r, o, rfl, g⟩
    exact wpS_pure (h r st' ss g)
  case step =>
    rintro x c st' _ hx ⟨ss, o, i, j, g, rfl, m, h3, h4, h5⟩
    dsimp only
    refine wpS_bind (wpS_mono (wpS_forRange (I := fun y c st' => SameS st st' ∧ ∃ o i j p q, c = (none, o, i, j, p, q) ∧ Mid κ a b o i j ∧ i + 1 < a.size ∧ j < b.size ∧ x + y ≤ i + j)
      (Q := fun c st' => SameS st st' ∧ ((∃ r o, c = (some r, o) ∧ Good κ a b r) ∨ ∃ o i j p q, c = (none, o, i, j, p, q) ∧ Mid κ a b o i j ∧ i + 1 < a.size ∧ j < b.size ∧ x + 1 ≤ i + j)) ?step1 ?fin1 ⟨ss, _, _, _, _, _, rfl, m, h3, h4, by omega⟩) ?post1)
    case fin1 =>
      rintro c st' ⟨ss, o, i, j, p, q, rfl, m, h3, h4, h5⟩
      exact ⟨ss, .inr ⟨o, i, j, p, q, rfl, m, h3, h4, by omega⟩⟩
    case step1 =>
      rintro y c st' _ hy ⟨ss, o, i, j, p, q, rfl, m, h3, h4, h5⟩
      dsimp only
      obtain ⟨pa, ea⟩ := at_of_lt (show i < a.size by omega)
      obtain ⟨pb, eb⟩ := at_of_lt h4
      refine wpS_bind (wp_elem eb (wpS_bind (wp_elem ea (wpS_bind (wp_lt hO (ss.1.trans hk) (T.kb _ _ eb) (T.ka _ _ ea) ?_)))))
      cases hb : κ.blt (kk κ pb) (kk κ pa) with
      | true =>
        dsimp only
        rw [if_pos rfl]
        refine wpS_bind (wp_elem eb ?_)
        have m' := m.pb eb T.sb (fun n q hn e => Le.trans (Lt.le (κ := κ) hb) (T.sa i n pa q hn ea e))
        by_cases h6 : j + 1 = b.size
        · rw [if_pos (beq_yes h6)]
          refine wpS_pure ⟨ss, .inl ⟨_, _, rfl, ?_⟩⟩
          rw [h6] at m' ⊢
          exact m'.finB T
        · rw [if_neg (beq_no h6)]
          split
          · exact wpS_pure ⟨ss, .inr ⟨_, _, _, _, _, rfl, m', h3, by omega, by omega⟩⟩
          · exact wpS_pure ⟨ss, _, _, _, _, _, rfl, m', h3, by omega, by omega⟩
      | false =>
        dsimp only
        rw [if_neg (by decide)]
        refine wpS_bind (wp_elem ea ?_)
        have m' := m.pa ea T.sa (fun n q hn e => Le.trans (κ := κ) (not_lt hb) (T.sb j n pb q hn eb e))
        by_cases h6 : i + 1 + 1 = a.size
        · rw [if_pos (beq_yes h6)]
          exact wpS_pure ⟨ss, .inl ⟨_, _, rfl, m'.las T h6⟩⟩
        · rw [if_neg (beq_no h6)]
          split
          · exact wpS_pure ⟨ss, .inr ⟨_, _, _, _, _, rfl, m', by omega, h4, by omega⟩⟩
          · exact wpS_pure ⟨ss, _, _, _, _, _, rfl, m', by omega, h4, by omega⟩
    case post1 =>
      rintro c st' ⟨ss, ⟨r, o, rfl, gd⟩ | ⟨o, i, j, p, q, rfl, m, h3, h4, h5⟩⟩
      · exact wpS_pure ⟨ss, r, _, rfl, gd⟩
      dsimp only
      refine wpS_bind (wpS_lift (wpAny_rule ⟨rfl, ?_⟩))
      refine wpS_bind (wpS_mono (wpS_forRange (I := fun y c st' => SameS st st' ∧ ∃ o i j g p q, c = (none, o, i, j, g, p, q) ∧ Mid κ a b o i j ∧ i + 1 < a.size ∧ j < b.size ∧ x + 1 ≤ i + j)
        (Q := fun c st' => SameS st st' ∧ ((∃ r o, c = (some r, o) ∧ Good κ a b r) ∨ ∃ o i j g p q, c = (none, o, i, j, g, p, q) ∧ Mid κ a b o i j ∧ i + 1 < a.size ∧ j < b.size ∧ x + 1 ≤ i + j)) ?step2 ?fin2 ⟨ss, _, _, _, _, _, _, rfl, m, h3, h4, by omega⟩) ?post2)
      case fin2 =>
        rintro c st' ⟨ss, o, i, j, g, p, q, rfl, m, h3, h4, h5⟩
        exact ⟨ss, .inr ⟨o, i, j, g, p, q, rfl, m, h3, h4, by omega⟩⟩
      case post2 =>
        rintro c st' ⟨ss, ⟨r, o, rfl, gd⟩ | ⟨o, i, j, g, p, q, rfl, m, h3, h4, h5⟩⟩
        · exact wpS_pure ⟨ss, r, _, rfl, gd⟩
        dsimp only
        exact wpS_bind (wp_setG fun st2 s2 => wpS_pure ⟨ss.trans s2, _, _, _, _, rfl, m, h3, h4, h5⟩)
      case step2 =>
        rintro y c st' _ hy ⟨ss, o, i, j, g, p, q, rfl, m, h3, h4, h5⟩
        dsimp only
        by_cases hg : g > 1
        case' pos => rw [if_pos hg]
        case' neg => rw [if_neg hg]
        all_goals
          refine wpS_bind (wp_setG fun st2 s2 => ?_)
          have ss2 := ss.trans s2
          obtain ⟨pb, eb⟩ := at_of_lt h4
          refine wpS_bind (wp_elem eb (wpS_bind (gallop_right hO (ss2.1.trans hk) (T.kb _ _ eb) T.ka (by omega) (by omega) (fun m n p q hmn _ e1 e2 => T.sa _ _ p q (by omega) e1 e2) fun k hk1 g1 g2 => ?_)))
          dsimp only
          have g2' : ∀ (n : Nat) q, i + k ≤ n → a[n]? = some q → Le κ pb q := fun n q hn e => Lt.le (g2 (n - i) q (by omega) (by have := lt_of_at e; omega) (by rw [show i + (n - i) = n by omega]; exact e))
          by_cases hk0 : k > 0
          · rw [if_pos hk0]
            have m1 := m.as T.sa (k := i + k) (by omega) (by omega) (fun n p h1 h2 e n' q hn e' => (g1 (n - i) p (by omega) (by rw [show i + (n - i) = n by omega]; exact e)).trans (T.sb _ _ pb q hn eb e'))
            by_cases h6 : i + k + 1 = a.size
            · rw [if_pos (beq_yes h6)]
              exact wpS_pure ⟨ss2, .inl ⟨_, _, rfl, m1.las T h6⟩⟩
            rw [if_neg (beq_no h6)]
            by_cases h7 : i + k = a.size
            · rw [if_pos (beq_yes h7)]
              refine wpS_pure ⟨ss2, .inl ⟨_, _, rfl, ?_⟩⟩
              rw [h7] at m1 ⊢
              exact m1.finA T
            rw [if_neg (beq_no h7)]
            refine wpS_bind (wp_elem eb ?_)
            have m2 := m1.pb eb T.sb g2'
            by_cases h8 : j + 1 = b.size
            · rw [if_pos (beq_yes h8)]
              refine wpS_pure ⟨ss2, .inl ⟨_, _, rfl, ?_⟩⟩
              rw [h8] at m2 ⊢
              exact m2.finB T
            rw [if_neg (beq_no h8)]
            obtain ⟨pa, ea⟩ := at_of_lt (show i + k < a.size by omega)
            refine wpS_bind (wp_elem ea (wpS_bind (gallop_left hO (ss2.1.trans hk) (T.ka _ _ ea) T.kb (by omega) (by omega) (fun m n p q hmn _ e1 e2 => T.sb _ _ p q (by omega) e1 e2) fun k2 hk2 g3 g4 => ?_)))
            dsimp only
            have g4' : ∀ (n : Nat) q, j + 1 + k2 ≤ n → b[n]? = some q → Le κ pa q := fun n q hn e => g4 (n - (j + 1)) q (by omega) (by have := lt_of_at e; omega) (by rw [show j + 1 + (n - (j + 1)) = n by omega]; exact e)
            by_cases hk3 : k2 > 0
            · rw [if_pos hk3]
              have m3 := m2.bs T.sb (k := j + 1 + k2) (by omega) (by omega) (fun n p h1 h2 e n' q hn e' => (Lt.le (g3 (n - (j + 1)) p (by omega) (by rw [show j + 1 + (n - (j + 1)) = n by omega]; exact e))).trans (T.sa _ _ pa q hn ea e'))
              by_cases h10 : j + 1 + k2 = b.size
              · rw [if_pos (beq_yes h10)]
                refine wpS_pure ⟨ss2, .inl ⟨_, _, rfl, ?_⟩⟩
                rw [h10] at m3 ⊢
                exact m3.finB T
              rw [if_neg (beq_no h10)]
              refine wpS_bind (wp_elem ea ?_)
              have m4 := m3.pa ea T.sa (fun n q hn e => g4' n q hn e)
              by_cases h9 : i + k + 1 + 1 = a.size
              · rw [if_pos (beq_yes h9)]
                exact wpS_pure ⟨ss2, .inl ⟨_, _, rfl, m4.las T h9⟩⟩
              · rw [if_neg (beq_no h9)]
                split
                · exact wpS_pure ⟨ss2, .inr ⟨_, _, _, _, _, _, rfl, m4, by omega, by omega, by omega⟩⟩
                · exact wpS_pure ⟨ss2, _, _, _, _, _, _, rfl, m4, by omega, by omega, by omega⟩
            · rw [if_neg hk3]
              refine wpS_bind (wp_elem ea ?_)
              have m4 := m2.pa ea T.sa (fun n q hn e => g4' n q (by omega) e)
              by_cases h9 : i + k + 1 + 1 = a.size
              · rw [if_pos (beq_yes h9)]
                exact wpS_pure ⟨ss2, .inl ⟨_, _, rfl, m4.las T h9⟩⟩
              · rw [if_neg (beq_no h9)]
                split
                · exact wpS_pure ⟨ss2, .inr ⟨_, _, _, _, _, _, rfl, m4, by omega, by omega, by omega⟩⟩
                · exact wpS_pure ⟨ss2, _, _, _, _, _, _, rfl, m4, by omega, by omega, by omega⟩
          · rw [if_neg hk0]
            refine wpS_bind (wp_elem eb ?_)
            have m2 := m.pb eb T.sb (fun n q hn e => g2' n q (by omega) e)
            by_cases h8 : j + 1 = b.size
            · rw [if_pos (beq_yes h8)]
              refine wpS_pure ⟨ss2, .inl ⟨_, _, rfl, ?_⟩⟩
              rw [h8] at m2 ⊢
              exact m2.finB T
            rw [if_neg (beq_no h8)]
            obtain ⟨pa, ea⟩ := at_of_lt (show i < a.size by omega)
            refine wpS_bind (wp_elem ea (wpS_bind (gallop_left hO (ss2.1.trans hk) (T.ka _ _ ea) T.kb (by omega) (by omega) (fun m n p q hmn _ e1 e2 => T.sb _ _ p q (by omega) e1 e2) fun k2 hk2 g3 g4 => ?_)))
            dsimp only
            have g4' : ∀ (n : Nat) q, j + 1 + k2 ≤ n → b[n]? = some q → Le κ pa q := fun n q hn e => g4 (n - (j + 1)) q (by omega) (by have := lt_of_at e; omega) (by rw [show j + 1 + (n - (j + 1)) = n by omega]; exact e)
            by_cases hk3 : k2 > 0
            · rw [if_pos hk3]
              have m3 := m2.bs T.sb (k := j + 1 + k2) (by omega) (by omega) (fun n p h1 h2 e n' q hn e' => (Lt.le (g3 (n - (j + 1)) p (by omega) (by rw [show j + 1 + (n - (j + 1)) = n by omega]; exact e))).trans (T.sa _ _ pa q hn ea e'))
              by_cases h10 : j + 1 + k2 = b.size
              · rw [if_pos (beq_yes h10)]
                refine wpS_pure ⟨ss2, .inl ⟨_, _, rfl, ?_⟩⟩
                rw [h10] at m3 ⊢
                exact m3.finB T
              rw [if_neg (beq_no h10)]
              refine wpS_bind (wp_elem ea ?_)
              have m4 := m3.pa ea T.sa (fun n q hn e => g4' n q hn e)
              by_cases h9 : i + 1 + 1 = a.size
              · rw [if_pos (beq_yes h9)]
                exact wpS_pure ⟨ss2, .inl ⟨_, _, rfl, m4.las T h9⟩⟩
              · rw [if_neg (beq_no h9)]
                split
                · exact wpS_pure ⟨ss2, .inr ⟨_, _, _, _, _, _, rfl, m4, by omega, by omega, by omega⟩⟩
                · exact wpS_pure ⟨ss2, _, _, _, _, _, _, rfl, m4, by omega, by omega, by omega⟩
            · rw [if_neg hk3]
              refine wpS_bind (wp_elem ea ?_)
              have m4 := m2.pa ea T.sa (fun n q hn e => g4' n q (by omega) e)
              by_cases h9 : i + 1 + 1 = a.size
              · rw [if_pos (beq_yes h9)]
                exact wpS_pure ⟨ss2, .inl ⟨_, _, rfl, m4.las T h9⟩⟩
              · rw [if_neg (beq_no h9)]
                split
                · exact wpS_pure ⟨ss2, .inr ⟨_, _, _, _, _, _, rfl, m4, by omega, by omega, by omega⟩⟩
                · exact wpS_pure ⟨ss2, _, _, _, _, _, _, rfl, m4, by omega, by omega, by omega⟩
end
end TS
end
section
set_option Elab.async false
set_option linter.all false
set_option maxRecDepth 100000
namespace TS
open PySem PyProof.Rows
def mergeHi' : Array Keyed → Array Keyed → SM (Array Keyed) := sortPriv% PySem.Builtin.mergeHi
theorem mergeHi_eq (a b : Array Keyed) : mergeHi' a b = (do
    rule "list.sort.merge-hi"; let tt := a.size + b.size
    let fin (o : Array Keyed) (i j : Nat) := a.extract 0 i ++ b.extract 0 j ++ o.reverse
    let fib (o : Array Keyed) (i j : Nat) := b.extract 0 j ++ a.extract 0 i ++ o.reverse
    let mut i := a.size - 1; let mut j := b.size; let mut o : Array Keyed := #[← elem' a i]
    if i == 0 then return fin o i j
    if j == 1 then return fib o i j
    let mut g := gallopOf (← get)
    for _ in [0:tt] do
      let mut p := 0; let mut q := 0
      for _ in [0:tt] do
        let some y ← lt' (← elem' b (j - 1)) (← elem' a (i - 1)) | return fin o i j
        if y then
          i := i - 1; o := o.push (← elem' a i); p := p + 1; q := 0
          if i == 0 then return fin o i j
          if p ≥ g then break
        else
          j := j - 1; o := o.push (← elem' b j); q := q + 1; p := 0
          if j == 1 then return fib o i j
          if q ≥ g then break
      rule "list.sort.gallop"; g := g + 1
      for _ in [0:tt] do
        if g > 1 then g := g - 1
        setG g
        let some t ← gallop' false (← elem' b (j - 1)) a 0 i (i - 1) | return fin o i j
        let k := i - t; p := k
        if k > 0 then
          o := o ++ (a.extract t i).reverse; i := t
          if i == 0 then return fin o i j
        j := j - 1; o := o.push (← elem' b j)
        if j == 1 then return fib o i j
        let some t ← gallop' true (← elem' a (i - 1)) b 0 j (j - 1) | return fin o i j
        let k := j - t; q := k
        if k > 0 then
          o := o ++ (b.extract t j).reverse; j := t
          if j == 1 then return fib o i j
          if j == 0 then return fin o i j
        i := i - 1; o := o.push (← elem' a i)
        if i == 0 then return fin o i j
        if p < 7 && q < 7 then break
      g := g + 1; setG g
    unsupported "internal:list.sort.merge-bound") := rfl
structure MidR (κ : KeyKind) (a b o : Array Keyed) (i j : Nat) : Prop where
  la : i ≤ a.size
  lb : j ≤ b.size
  perm : o.toList.Perm (a.toList.drop i ++ b.toList.drop j)
  so : o.toList.Pairwise (fun p q => Le κ q p)
  ua : ∀ p ∈ o.toList, ∀ (n : Nat) q, n < i → a[n]? = some q → Le κ q p
  ub : ∀ p ∈ o.toList, ∀ (n : Nat) q, n < j → b[n]? = some q → Le κ q p
theorem drop_cons {xs : Array Keyed} {i : Nat} {p : Keyed} (e : xs[i]? = some p) : xs.toList.drop i = p :: xs.toList.drop (i + 1) := by
  have h := lt_of_at e
  rw [List.drop_eq_getElem_cons (by simpa using h)]
  rw [getElem?_pos xs i h] at e
  rw [← Option.some.inj e]
  rfl
theorem ext_cons {xs : Array Keyed} {k i : Nat} {p : Keyed} (h : k < i) (e : xs[k]? = some p) : (xs.extract k i).reverse = ((xs.extract (k + 1) i).reverse).push p := by
  have hk := lt_of_at e
  apply Array.toList_inj.mp
  rw [Array.toList_reverse, Array.toList_push, Array.toList_reverse, Array.toList_extract, Array.toList_extract, List.extract_eq_take_drop, List.extract_eq_take_drop, drop_cons e]
  have : i - k = (i - (k + 1)) + 1 := by omega
  rw [this, List.take_succ_cons, List.reverse_cons]
section
variable {κ : KeyKind} {a b o : Array Keyed} {i j : Nat}
theorem MidR.pa (m : MidR κ a b o (i + 1) j) {p : Keyed} (e : a[i]? = some p) (sa : ∀ (m n : Nat) p q, m ≤ n → a[m]? = some p → a[n]? = some q → Le κ p q) (h : ∀ (n : Nat) q, n < j → b[n]? = some q → Le κ q p) : MidR κ a b (o.push p) i j where
  la := by have := m.la; omega
  lb := m.lb
  perm := by
    rw [Array.toList_push, drop_cons e]
    refine List.perm_append_comm.trans ?_
    exact (m.perm.cons p)
  so := by
    rw [Array.toList_push, List.pairwise_append]
    exact ⟨m.so, List.pairwise_singleton _ _, fun x hx y hy => by rw [List.mem_singleton.mp hy]; exact m.ua x hx i p (Nat.lt_succ_self _) e⟩
  ua := fun x hx n q hn eq => by
    rw [Array.toList_push, List.mem_append] at hx
    rcases hx with hx | hx
    · exact m.ua x hx n q (by omega) eq
    · rw [List.mem_singleton.mp hx]
      exact sa n i q p (by omega) eq e
  ub := fun x hx n q hn eq => by
    rw [Array.toList_push, List.mem_append] at hx
    rcases hx with hx | hx
    · exact m.ub x hx n q hn eq
    · rw [List.mem_singleton.mp hx]
      exact h n q hn eq
theorem MidR.pb (m : MidR κ a b o i (j + 1)) {p : Keyed} (e : b[j]? = some p) (sb : ∀ (m n : Nat) p q, m ≤ n → b[m]? = some p → b[n]? = some q → Le κ p q) (h : ∀ (n : Nat) q, n < i → a[n]? = some q → Le κ q p) : MidR κ a b (o.push p) i j where
  la := m.la
  lb := by have := m.lb; omega
  perm := by
    rw [Array.toList_push, drop_cons e]
    refine List.perm_append_comm.trans ((m.perm.cons p).trans ?_)
    exact List.perm_middle.symm
  so := by
    rw [Array.toList_push, List.pairwise_append]
    exact ⟨m.so, List.pairwise_singleton _ _, fun x hx y hy => by rw [List.mem_singleton.mp hy]; exact m.ub x hx j p (Nat.lt_succ_self _) e⟩
  ua := fun x hx n q hn eq => by
    rw [Array.toList_push, List.mem_append] at hx
    rcases hx with hx | hx
    · exact m.ua x hx n q hn eq
    · rw [List.mem_singleton.mp hx]
      exact h n q hn eq
  ub := fun x hx n q hn eq => by
    rw [Array.toList_push, List.mem_append] at hx
    rcases hx with hx | hx
    · exact m.ub x hx n q (by omega) eq
    · rw [List.mem_singleton.mp hx]
      exact sb n j q p (by omega) eq e
theorem MidR.as (sa : ∀ (m n : Nat) p q, m ≤ n → a[m]? = some p → a[n]? = some q → Le κ p q) : ∀ {d k : Nat}, k + d = i → MidR κ a b o i j → (∀ (n : Nat) p, k ≤ n → n < i → a[n]? = some p → ∀ (n' : Nat) q, n' < j → b[n']? = some q → Le κ q p) → MidR κ a b (o ++ (a.extract k i).reverse) k j := by
  intro d
  induction d with
  | zero =>
    intro k hk m _
    have hk : k = i := by omega
    subst hk
    have : a.extract k k = #[] := by simp; omega
    rw [this, Array.reverse_empty, Array.append_empty]
    exact m
  | succ d ih =>
    intro k hk m h
    have hl := m.la
    obtain ⟨p, e⟩ := at_of_lt (show k < a.size by omega)
    rw [ext_cons (by omega) e, ← Array.push_append]
    exact (ih (by omega) m fun n p h1 h2 => h n p (by omega) h2).pa e sa (h k p (Nat.le_refl _) (by omega) e)
theorem MidR.bs (sb : ∀ (m n : Nat) p q, m ≤ n → b[m]? = some p → b[n]? = some q → Le κ p q) : ∀ {d k : Nat}, k + d = j → MidR κ a b o i j → (∀ (n : Nat) p, k ≤ n → n < j → b[n]? = some p → ∀ (n' : Nat) q, n' < i → a[n']? = some q → Le κ q p) → MidR κ a b (o ++ (b.extract k j).reverse) i k := by
  intro d
  induction d with
  | zero =>
    intro k hk m _
    have hk : k = j := by omega
    subst hk
    have : b.extract k k = #[] := by simp; omega
    rw [this, Array.reverse_empty, Array.append_empty]
    exact m
  | succ d ih =>
    intro k hk m h
    have hl := m.lb
    obtain ⟨p, e⟩ := at_of_lt (show k < b.size by omega)
    rw [ext_cons (by omega) e, ← Array.push_append]
    exact (ih (by omega) m fun n p h1 h2 => h n p (by omega) h2).pb e sb (h k p (Nat.le_refl _) (by omega) e)
theorem MidR.good (m : MidR κ a b o 0 0) : Good κ a b o.reverse := by
  refine ⟨?_, ?_⟩
  · rw [Array.toList_reverse]
    exact (List.reverse_perm _).trans m.perm
  · rw [Array.toList_reverse, List.pairwise_reverse]
    exact m.so
theorem rev_two {x y z : Array Keyed} : (x ++ y.reverse ++ z.reverse).reverse = z ++ y ++ x.reverse := by
  apply Array.toList_inj.mp
  simp
theorem ext_nil {xs : Array Keyed} : xs.extract 0 0 = #[] := by simp
theorem MidR.finA (T : Two κ a b) (m : MidR κ a b o 0 j) : Good κ a b (a.extract 0 0 ++ b.extract 0 j ++ o.reverse) := by
  have h1 := m.as T.sa (k := 0) (d := 0) rfl (fun n p h1 h2 => by omega)
  have h2 := (h1.bs T.sb (k := 0) (d := j) (by omega) (fun n p h1 h2 e n' q hn => by omega)).good
  rw [rev_two] at h2
  rw [ext_nil] at h2 ⊢
  simpa using h2
theorem MidR.finB (T : Two κ a b) (m : MidR κ a b o i 0) : Good κ a b (a.extract 0 i ++ b.extract 0 0 ++ o.reverse) := by
  have h1 := m.as T.sa (k := 0) (d := i) (by omega) (fun n p h1 h2 e n' q hn => by omega)
  have h2 := (h1.bs T.sb (k := 0) (d := 0) rfl (fun n p h1 h2 => by omega)).good
  rw [rev_two] at h2
  rw [ext_nil] at h2 ⊢
  simpa using h2
theorem MidR.fib (T : Two κ a b) (m : MidR κ a b o i 1) : Good κ a b (b.extract 0 1 ++ a.extract 0 i ++ o.reverse) := by
  have h1 := m.as T.sa (k := 0) (d := i) (by omega) (fun n p h1 h2 e n' q hn e' => by
    have hz : n' = 0 := by omega
    rw [hz] at e'
    obtain ⟨z, ez⟩ := at_of_lt T.a0
    exact (T.fst z q ez e').trans (T.sa 0 n z p (by omega) ez e))
  have h2 := (h1.bs T.sb (k := 0) (d := 1) rfl (fun n p h1 h2 e n' q hn => by omega)).good
  rw [rev_two] at h2
  exact h2
end
section
variable {prog : Program} {w : World} {A : Around} {E : Value → Shared → Prop} {s : Shared} {κ : KeyKind} {a b : Array Keyed}
theorem down1 {n : Nat} (h : 0 < n) : ∃ m, n = m + 1 := ⟨n - 1, by omega⟩
set_option maxHeartbeats 2000000 in
theorem mergeHi_ok (hO : κ.OneLt) (T : Two κ a b) {st : SortSt} (hk : kindOf st = oneType') {Q : Array Keyed → SortSt → Prop} (h : ∀ r st', SameS st st' → Good κ a b r → Q r st') : wpS (model prog w) A E s (mergeHi' a b) Q st := by
  rw [mergeHi_eq]
  refine wpS_bind (wpS_lift (wpAny_rule ⟨rfl, ?_⟩))
  dsimp only
  have a1 := T.a0
  have b1 := T.b0
  obtain ⟨pl, el⟩ := at_of_lt (show a.size - 1 < a.size by omega)
  obtain ⟨pm, em⟩ := at_of_lt (show b.size - 1 < b.size by omega)
  refine wpS_bind (wp_elem el ?_)
  have m0 : MidR κ a b #[pl] (a.size - 1) b.size := by
    refine ⟨by omega, Nat.le_refl _, ?_, List.pairwise_singleton _ _, fun p hp n q hn e => ?_, fun p hp n q hn e => ?_⟩
    · rw [drop_cons el, List.drop_of_length_le (by simp; omega), List.drop_of_length_le (by simp)]
      exact List.Perm.refl _
    · have hp : p = pl := by simpa using hp
      rw [hp]
      exact T.sa n (a.size - 1) q pl (by omega) e el
    · have hp : p = pl := by simpa using hp
      rw [hp]
      exact (T.sb n (b.size - 1) q pm (by omega) e em).trans (T.lst pl pm el em)
  by_cases h1 : a.size - 1 = 0
  · rw [if_pos (beq_yes h1)]
    refine wpS_pure (h _ _ (SameS.refl _) ?_)
    rw [h1] at m0 ⊢
    exact m0.finA T
  rw [if_neg (beq_no h1)]
  by_cases h2 : b.size = 1
  · rw [if_pos (beq_yes h2)]
    refine wpS_pure (h _ _ (SameS.refl _) ?_)
    rw [h2] at m0 ⊢
    exact m0.fib T
  rw [if_neg (beq_no h2)]
  refine wpS_bind (wpS_get ?_)
  refine wpS_bind (wpS_mono (wpS_forRange (I := fun x c st' => SameS st st' ∧ ∃ i j o g, c = (none, i, j, o, g) ∧ MidR κ a b o i j ∧ 0 < i ∧ 1 < j ∧ x ≤ (a.size - i) + (b.size - j))
    (Q := fun c st' => SameS st st' ∧ ∃ r o, c = (some r, o) ∧ Good κ a b r) ?step ?fin ⟨SameS.refl _, _, _, _, _, rfl, m0, by omega, by omega, by omega⟩) ?post)
  case fin =>
    rintro c st' ⟨_, i, j, o, g, _, m, h3, h4, h5⟩
    have := m.la
    have := m.lb
    omega
  case post =>
    rintro c st' ⟨ss, r, o, rfl, g⟩
    exact wpS_pure (h r st' ss g)
  case step =>
    rintro x c st' _ hx ⟨ss, i, j, o, g, rfl, m, h3, h4, h5⟩
    dsimp only
    refine wpS_bind (wpS_mono (wpS_forRange (I := fun y c st' => SameS st st' ∧ ∃ i j o p q, c = (none, i, j, o, p, q) ∧ MidR κ a b o i j ∧ 0 < i ∧ 1 < j ∧ x + y ≤ (a.size - i) + (b.size - j))
      (Q := fun c st' => SameS st st' ∧ ((∃ r o, c = (some r, o) ∧ Good κ a b r) ∨ ∃ i j o p q, c = (none, i, j, o, p, q) ∧ MidR κ a b o i j ∧ 0 < i ∧ 1 < j ∧ x + 1 ≤ (a.size - i) + (b.size - j))) ?step1 ?fin1 ⟨ss, _, _, _, _, _, rfl, m, h3, h4, by omega⟩) ?post1)
    case fin1 =>
      rintro c st' ⟨ss, i, j, o, p, q, rfl, m, h3, h4, h5⟩
      exact ⟨ss, .inr ⟨i, j, o, p, q, rfl, m, h3, h4, by omega⟩⟩
    case step1 =>
      rintro y c st' _ hy ⟨ss, i, j, o, p, q, rfl, m, h3, h4, h5⟩
      dsimp only
      have hla := m.la
      have hlb := m.lb
      obtain ⟨i, rfl⟩ := down1 h3
      obtain ⟨j, rfl⟩ := down1 (show 0 < j by omega)
      simp only [Nat.add_sub_cancel]
      obtain ⟨pa, ea⟩ := at_of_lt (show i < a.size by omega)
      obtain ⟨pb, eb⟩ := at_of_lt (show j < b.size by omega)
      refine wpS_bind (wp_elem eb (wpS_bind (wp_elem ea (wpS_bind (wp_lt hO (ss.1.trans hk) (T.kb _ _ eb) (T.ka _ _ ea) ?_)))))
      cases hb : κ.blt (kk κ pb) (kk κ pa) with
      | true =>
        dsimp only
        rw [if_pos rfl]
        refine wpS_bind (wp_elem ea ?_)
        have m' := m.pa ea T.sa (fun n q hn e => Le.trans (T.sb n j q pb (by omega) e eb) (Lt.le (κ := κ) hb))
        by_cases h6 : i = 0
        · rw [if_pos (beq_yes h6)]
          refine wpS_pure ⟨ss, .inl ⟨_, _, rfl, ?_⟩⟩
          rw [h6] at m' ⊢
          exact m'.finA T
        · rw [if_neg (beq_no h6)]
          split
          · exact wpS_pure ⟨ss, .inr ⟨_, _, _, _, _, rfl, m', by omega, h4, by omega⟩⟩
          · exact wpS_pure ⟨ss, _, _, _, _, _, rfl, m', by omega, h4, by omega⟩
      | false =>
        dsimp only
        rw [if_neg (by decide)]
        refine wpS_bind (wp_elem eb ?_)
        have m' := m.pb eb T.sb (fun n q hn e => Le.trans (T.sa n i q pa (by omega) e ea) (not_lt (κ := κ) hb))
        by_cases h6 : j = 1
        · rw [if_pos (beq_yes h6)]
          refine wpS_pure ⟨ss, .inl ⟨_, _, rfl, ?_⟩⟩
          rw [h6] at m' ⊢
          exact m'.fib T
        · rw [if_neg (beq_no h6)]
          split
          · exact wpS_pure ⟨ss, .inr ⟨_, _, _, _, _, rfl, m', by omega, by omega, by omega⟩⟩
          · exact wpS_pure ⟨ss, _, _, _, _, _, rfl, m', by omega, by omega, by omega⟩
    case post1 =>
      rintro c st' ⟨ss, ⟨r, o, rfl, gd⟩ | ⟨i, j, o, p, q, rfl, m, h3, h4, h5⟩⟩
      · exact wpS_pure ⟨ss, r, _, rfl, gd⟩
      dsimp only
      refine wpS_bind (wpS_lift (wpAny_rule ⟨rfl, ?_⟩))
      refine wpS_bind (wpS_mono (wpS_forRange (I := fun y c st' => SameS st st' ∧ ∃ i j o g p q, c = (none, i, j, o, g, p, q) ∧ MidR κ a b o i j ∧ 0 < i ∧ 1 < j ∧ x + 1 ≤ (a.size - i) + (b.size - j))
        (Q := fun c st' => SameS st st' ∧ ((∃ r o, c = (some r, o) ∧ Good κ a b r) ∨ ∃ i j o g p q, c = (none, i, j, o, g, p, q) ∧ MidR κ a b o i j ∧ 0 < i ∧ 1 < j ∧ x + 1 ≤ (a.size - i) + (b.size - j))) ?step2 ?fin2 ⟨ss, _, _, _, _, _, _, rfl, m, h3, h4, by omega⟩) ?post2)
      case fin2 =>
        rintro c st' ⟨ss, i, j, o, g, p, q, rfl, m, h3, h4, h5⟩
        exact ⟨ss, .inr ⟨i, j, o, g, p, q, rfl, m, h3, h4, by omega⟩⟩
      case post2 =>
        rintro c st' ⟨ss, ⟨r, o, rfl, gd⟩ | ⟨i, j, o, g, p, q, rfl, m, h3, h4, h5⟩⟩
        · exact wpS_pure ⟨ss, r, _, rfl, gd⟩
        dsimp only
        exact wpS_bind (wp_setG fun st2 s2 => wpS_pure ⟨ss.trans s2, _, _, _, _, rfl, m, h3, h4, h5⟩)
      case step2 =>
        rintro y c st' _ hy ⟨ss, i, j, o, g, p, q, rfl, m, h3, h4, h5⟩
        dsimp only
        have hla := m.la
        have hlb := m.lb
        by_cases hg : g > 1
        case' pos => rw [if_pos hg]
        case' neg => rw [if_neg hg]
        all_goals
          refine wpS_bind (wp_setG fun st2 s2 => ?_)
          have ss2 := ss.trans s2
          obtain ⟨j, rfl⟩ := down1 (show 0 < j by omega)
          simp only [Nat.add_sub_cancel]
          obtain ⟨pb, eb⟩ := at_of_lt (show j < b.size by omega)
          refine wpS_bind (wp_elem eb (wpS_bind (gallop_right hO (ss2.1.trans hk) (T.kb _ _ eb) T.ka (by omega) (by omega) (fun m n p q hmn _ e1 e2 => T.sa _ _ p q (by omega) e1 e2) fun t ht g1 g2 => ?_)))
          dsimp only
          have g1' : ∀ (n : Nat) q, n < t → a[n]? = some q → Le κ q pb := fun n q hn e => g1 n q hn (by rw [Nat.zero_add]; exact e)
          by_cases hk0 : i - t > 0
          · rw [if_pos hk0]
            have m1 := m.as T.sa (k := t) (d := i - t) (by omega) (fun n p h1 h2 e n' q hn e' => (T.sb n' j q pb (by omega) e' eb).trans (Lt.le (g2 n p h1 h2 (by rw [Nat.zero_add]; exact e))))
            by_cases h7 : t = 0
            · rw [if_pos (beq_yes h7)]
              refine wpS_pure ⟨ss2, .inl ⟨_, _, rfl, ?_⟩⟩
              rw [h7] at m1 ⊢
              exact m1.finA T
            rw [if_neg (beq_no h7)]
            obtain ⟨i1, rfl⟩ := down1 (show 0 < t by omega)
            simp only [Nat.add_sub_cancel]
            refine wpS_bind (wp_elem eb ?_)
            have m2 := m1.pb eb T.sb g1'
            by_cases h8 : j = 1
            · rw [if_pos (beq_yes h8)]
              refine wpS_pure ⟨ss2, .inl ⟨_, _, rfl, ?_⟩⟩
              rw [h8] at m2 ⊢
              exact m2.fib T
            rw [if_neg (beq_no h8)]
            obtain ⟨pa, ea⟩ := at_of_lt (show i1 < a.size by omega)
            refine wpS_bind (wp_elem ea (wpS_bind (gallop_left hO (ss2.1.trans hk) (T.ka _ _ ea) T.kb (by omega) (by omega) (fun m n p q hmn _ e1 e2 => T.sb _ _ p q (by omega) e1 e2) fun t2 ht2 g3 g4 => ?_)))
            dsimp only
            have g3' : ∀ (n : Nat) q, n < t2 → b[n]? = some q → Le κ q pa := fun n q hn e => Lt.le (g3 n q hn (by rw [Nat.zero_add]; exact e))
            by_cases hk3 : j - t2 > 0
            · rw [if_pos hk3]
              have m3 := m2.bs T.sb (k := t2) (d := j - t2) (by omega) (fun n p h1 h2 e n' q hn e' => (T.sa n' i1 q pa (by omega) e' ea).trans (g4 n p h1 h2 (by rw [Nat.zero_add]; exact e)))
              by_cases h10 : t2 = 1
              · rw [if_pos (beq_yes h10)]
                refine wpS_pure ⟨ss2, .inl ⟨_, _, rfl, ?_⟩⟩
                rw [h10] at m3 ⊢
                exact m3.fib T
              rw [if_neg (beq_no h10)]
              by_cases h11 : t2 = 0
              · rw [if_pos (beq_yes h11)]
                refine wpS_pure ⟨ss2, .inl ⟨_, _, rfl, ?_⟩⟩
                rw [h11] at m3 ⊢
                exact m3.finB T
              rw [if_neg (beq_no h11)]
              refine wpS_bind (wp_elem ea ?_)
              have m4 := m3.pa ea T.sa g3'
              by_cases h9 : i1 = 0
              · rw [if_pos (beq_yes h9)]
                refine wpS_pure ⟨ss2, .inl ⟨_, _, rfl, ?_⟩⟩
                rw [h9] at m4 ⊢
                exact m4.finA T
              · rw [if_neg (beq_no h9)]
                split
                · exact wpS_pure ⟨ss2, .inr ⟨_, _, _, _, _, _, rfl, m4, by omega, by omega, by omega⟩⟩
                · exact wpS_pure ⟨ss2, _, _, _, _, _, _, rfl, m4, by omega, by omega, by omega⟩
            · rw [if_neg hk3]
              have et : t2 = j := by omega
              rw [et] at g3'
              refine wpS_bind (wp_elem ea ?_)
              have m4 := m2.pa ea T.sa g3'
              by_cases h9 : i1 = 0
              · rw [if_pos (beq_yes h9)]
                refine wpS_pure ⟨ss2, .inl ⟨_, _, rfl, ?_⟩⟩
                rw [h9] at m4 ⊢
                exact m4.finA T
              · rw [if_neg (beq_no h9)]
                split
                · exact wpS_pure ⟨ss2, .inr ⟨_, _, _, _, _, _, rfl, m4, by omega, by omega, by omega⟩⟩
                · exact wpS_pure ⟨ss2, _, _, _, _, _, _, rfl, m4, by omega, by omega, by omega⟩
          · rw [if_neg hk0]
            have et : t = i := by omega
            rw [et] at g1'
            obtain ⟨i1, rfl⟩ := down1 h3
            simp only [Nat.add_sub_cancel]
            refine wpS_bind (wp_elem eb ?_)
            have m2 := m.pb eb T.sb g1'
            by_cases h8 : j = 1
            · rw [if_pos (beq_yes h8)]
              refine wpS_pure ⟨ss2, .inl ⟨_, _, rfl, ?_⟩⟩
              rw [h8] at m2 ⊢
              exact m2.fib T
            rw [if_neg (beq_no h8)]
            obtain ⟨pa, ea⟩ := at_of_lt (show i1 < a.size by omega)
            refine wpS_bind (wp_elem ea (wpS_bind (gallop_left hO (ss2.1.trans hk) (T.ka _ _ ea) T.kb (by omega) (by omega) (fun m n p q hmn _ e1 e2 => T.sb _ _ p q (by omega) e1 e2) fun t2 ht2 g3 g4 => ?_)))
            dsimp only
            have g3' : ∀ (n : Nat) q, n < t2 → b[n]? = some q → Le κ q pa := fun n q hn e => Lt.le (g3 n q hn (by rw [Nat.zero_add]; exact e))
            by_cases hk3 : j - t2 > 0
            · rw [if_pos hk3]
              have m3 := m2.bs T.sb (k := t2) (d := j - t2) (by omega) (fun n p h1 h2 e n' q hn e' => (T.sa n' i1 q pa (by omega) e' ea).trans (g4 n p h1 h2 (by rw [Nat.zero_add]; exact e)))
              by_cases h10 : t2 = 1
              · rw [if_pos (beq_yes h10)]
                refine wpS_pure ⟨ss2, .inl ⟨_, _, rfl, ?_⟩⟩
                rw [h10] at m3 ⊢
                exact m3.fib T
              rw [if_neg (beq_no h10)]
              by_cases h11 : t2 = 0
              · rw [if_pos (beq_yes h11)]
                refine wpS_pure ⟨ss2, .inl ⟨_, _, rfl, ?_⟩⟩
                rw [h11] at m3 ⊢
                exact m3.finB T
              rw [if_neg (beq_no h11)]
              refine wpS_bind (wp_elem ea ?_)
              have m4 := m3.pa ea T.sa g3'
              by_cases h9 : i1 = 0
              · rw [if_pos (beq_yes h9)]
                refine wpS_pure ⟨ss2, .inl ⟨_, _, rfl, ?_⟩⟩
                rw [h9] at m4 ⊢
                exact m4.finA T
              · rw [if_neg (beq_no h9)]
                split
                · exact wpS_pure ⟨ss2, .inr ⟨_, _, _, _, _, _, rfl, m4, by omega, by omega, by omega⟩⟩
                · exact wpS_pure ⟨ss2, _, _, _, _, _, _, rfl, m4, by omega, by omega, by omega⟩
            · rw [if_neg hk3]
              have et : t2 = j := by omega
              rw [et] at g3'
              refine wpS_bind (wp_elem ea ?_)
              have m4 := m2.pa ea T.sa g3'
              by_cases h9 : i1 = 0
              · rw [if_pos (beq_yes h9)]
                refine wpS_pure ⟨ss2, .inl ⟨_, _, rfl, ?_⟩⟩
                rw [h9] at m4 ⊢
                exact m4.finA T
              · rw [if_neg (beq_no h9)]
                split
                · exact wpS_pure ⟨ss2, .inr ⟨_, _, _, _, _, _, rfl, m4, by omega, by omega, by omega⟩⟩
                · exact wpS_pure ⟨ss2, _, _, _, _, _, _, rfl, m4, by omega, by omega, by omega⟩
end
end TS
end
section
set_option Elab.async false
set_option linter.all false
set_option maxRecDepth 100000
namespace TS
open PySem PyProof.Rows
/-! ### two runs behind one another are merged in their place -/
theorem mergeAt_eq (i : Nat) : mergeAt' i = (do
    let z ← get
    let (some (u, n, pw), some (v, m, _)) := ((pendingOf z)[i]?, (pendingOf z)[i + 1]?) | unsupported "internal:list.sort.pending"
    set (setPending z (((pendingOf z).setIfInBounds i (u, n + m, pw)).eraseIdxIfInBounds (i + 1)))
    let some k ← gallop' false (← elem' (arrOf z) v) (arrOf z) u n 0 | return false
    let (u, n) := (u + k, n - k)
    if n == 0 then return true
    let some m ← gallop' true (← elem' (arrOf z) (u + n - 1)) (arrOf z) v m (m - 1) | return false
    if m == 0 then return true
    let x := (arrOf z).extract u v; let y := (arrOf z).extract v (v + m)
    let r ← if n ≤ m then mergeLo' x y else mergeHi' x y
    modify fun z => setArr z (r.toList.zipIdx.foldl (fun a (p, j) => a.setIfInBounds (u + j) p) (arrOf z))
    return (failedOf (← get)).isNone) := rfl
def SR (κ : KeyKind) (xs : Array Keyed) (lo hi : Nat) : Prop := ∀ (i j : Nat) p q, lo ≤ i → i ≤ j → j < hi → xs[i]? = some p → xs[j]? = some q → Le κ p q
def put (xs : Array Keyed) (u : Nat) (l : List Keyed) (k : Nat) : Array Keyed := (l.zipIdx k).foldl (fun a (p, j) => a.setIfInBounds (u + j) p) xs
theorem put_list (u : Nat) : ∀ (l : List Keyed) (k : Nat) (xs : Array Keyed), u + k + l.length ≤ xs.size → (put xs u l k).toList = xs.toList.take (u + k) ++ l ++ xs.toList.drop (u + k + l.length)
  | [], k, xs, h => by
    show xs.toList = _
    rw [List.append_nil, List.length_nil, Nat.add_zero, List.take_append_drop]
  | p :: l, k, xs, h => by
    rw [List.length_cons] at h
    show (put (xs.setIfInBounds (u + k) p) u l (k + 1)).toList = _
    rw [put_list u l (k + 1) _ (by rw [Array.size_setIfInBounds]; omega)]
    have hk : u + k < xs.toList.length := by rw [Array.length_toList]; omega
    rw [Array.toList_setIfInBounds, List.drop_set_of_lt (by omega), show u + (k + 1) = (u + k) + 1 by omega]
    have e : (xs.toList.set (u + k) p).take (u + k + 1) = xs.toList.take (u + k) ++ [p] := by
      rw [List.take_add_one, List.take_set_of_le (Nat.le_refl _), List.getElem?_set_self hk]
      rfl
    rw [e, List.append_assoc, List.append_assoc, List.append_assoc]
    show _ ++ (p :: l ++ xs.toList.drop (u + k + 1 + l.length)) = _ ++ (p :: l ++ xs.toList.drop (u + k + (l.length + 1)))
    rw [show u + k + 1 + l.length = u + k + (l.length + 1) by omega]
theorem put_at {xs : Array Keyed} {u : Nat} {l : List Keyed} (h : u + l.length ≤ xs.size) (i : Nat) : (put xs u l 0)[i]? = if i < u then xs[i]? else if i < u + l.length then l[i - u]? else xs[i]? := by
  rw [← Array.getElem?_toList, put_list u l 0 xs (by omega), Nat.add_zero]
  have lt : (xs.toList.take u).length = u := by rw [List.length_take, Array.length_toList]; omega
  by_cases h1 : i < u
  · rw [if_pos h1, List.append_assoc, List.getElem?_append_left (by omega), List.getElem?_take_of_lt h1, Array.getElem?_toList]
  · rw [if_neg h1]
    by_cases h2 : i < u + l.length
    · rw [if_pos h2, List.append_assoc, List.getElem?_append_right (by omega), lt, List.getElem?_append_left (by omega)]
    · rw [if_neg h2, List.getElem?_append_right (by rw [List.length_append]; omega), List.length_append, lt, List.getElem?_drop, show u + l.length + (i - (u + l.length)) = i by omega, Array.getElem?_toList]
theorem ext_at {xs : Array Keyed} {u v : Nat} (hv : v ≤ xs.size) (i : Nat) : (xs.extract u v)[i]? = if u + i < v then xs[u + i]? else none := by
  rw [Array.getElem?_extract]
  by_cases h : u + i < v
  · rw [if_pos h, if_pos (by omega)]
  · rw [if_neg h, if_neg (by omega)]
theorem put_perm {xs : Array Keyed} {u v m : Nat} {r : Array Keyed} (huv : u ≤ v) (hm : v + m ≤ xs.size) (hr : r.toList.Perm ((xs.extract u v).toList ++ (xs.extract v (v + m)).toList)) : (put xs u r.toList 0).Perm xs ∧ r.toList.length = v - u + m := by
  have hl : r.toList.length = v - u + m := by
    have := hr.length_eq
    rw [List.length_append, Array.length_toList, Array.length_toList, Array.length_toList, Array.size_extract, Array.size_extract] at this
    rw [Array.length_toList]
    omega
  refine ⟨?_, hl⟩
  rw [Array.perm_iff_toList_perm, put_list u r.toList 0 xs (by omega), Nat.add_zero, hl]
  rw [Array.toList_extract, Array.toList_extract, List.extract_eq_take_drop, List.extract_eq_take_drop] at hr
  have e : xs.toList = xs.toList.take u ++ ((xs.toList.drop u).take (v - u) ++ (xs.toList.drop v).take (v + m - v)) ++ xs.toList.drop (u + (v - u + m)) := by
    have e1 : (xs.toList.drop u).take (v - u) ++ (xs.toList.drop v).take (v + m - v) = (xs.toList.drop u).take (v - u + m) := by
      rw [List.take_add, List.drop_drop, show u + (v - u) = v by omega, show v + m - v = m by omega]
    rw [e1, List.append_assoc]
    have e2 : (xs.toList.drop u).take (v - u + m) ++ xs.toList.drop (u + (v - u + m)) = xs.toList.drop u := by
      rw [← List.drop_drop, List.take_append_drop]
    rw [e2, List.take_append_drop]
  exact ((List.Perm.append_left _ hr).append_right _).trans (List.Perm.of_eq e.symm)
structure SB (κ : KeyKind) (a₀ : Array Keyed) (st : SortSt) : Prop where
  kind : kindOf st = oneType'
  failed : failedOf st = none
  perm : (arrOf st).Perm a₀
theorem SB.size {κ : KeyKind} {a₀ : Array Keyed} {st : SortSt} (h : SB κ a₀ st) : (arrOf st).size = a₀.size := h.perm.size_eq
theorem SB.keys {κ : KeyKind} {a₀ : Array Keyed} {st : SortSt} (h : SB κ a₀ st) (h0 : KeysOf κ a₀) : AllK κ (arrOf st) := fun i p e => by
  refine h0 p ((Array.perm_iff_toList_perm.mp h.perm).mem_iff.mp ?_)
  rw [← Array.getElem?_toList] at e
  exact List.mem_of_getElem? e
section
variable {prog : Program} {w : World} {A : Around} {E : Value → Shared → Prop} {s : Shared} {κ : KeyKind} {a₀ : Array Keyed}
theorem wpS_set {σ : Type} {x : σ} {Q : PUnit → σ → Prop} {st : σ} {M : Model} (h : Q ⟨⟩ x) : wpS M A E s (set x : StateT σ Sem PUnit) Q st := by
  unfold wpS
  rw [StateT.run_set]
  exact wpAny_pure ⟨rfl, h⟩
set_option maxHeartbeats 1000000 in
theorem mergeAt_ok (hO : κ.OneLt) (h0 : KeysOf κ a₀) {st : SortSt} (B : SB κ a₀ st) {i u n m pw pw2 : Nat} (e1 : (pendingOf st)[i]? = some (u, n, pw)) (e2 : (pendingOf st)[i + 1]? = some (u + n, m, pw2)) (n0 : 0 < n) (m0 : 0 < m) (hsz : u + n + m ≤ a₀.size)
    (s1 : SR κ (arrOf st) u (u + n)) (s2 : SR κ (arrOf st) (u + n) (u + n + m)) {Q : Bool → SortSt → Prop}
    (h : ∀ st', SB κ a₀ st' → pendingOf st' = ((pendingOf st).setIfInBounds i (u, n + m, pw)).eraseIdxIfInBounds (i + 1) → SR κ (arrOf st') u (u + n + m) → (∀ j, j < u ∨ u + n + m ≤ j → (arrOf st')[j]? = (arrOf st)[j]?) → Q true st') :
    wpS (model prog w) A E s (mergeAt' i) Q st := by
  rw [mergeAt_eq]
  refine wpS_bind (wpS_get ?_)
  rw [e1, e2]
  dsimp only
  refine wpS_bind (wpS_set ?_)
  generalize hst1 : setPending st (((pendingOf st).setIfInBounds i (u, n + m, pw)).eraseIdxIfInBounds (i + 1)) = st1
  have k1 : kindOf st1 = oneType' := by rw [← hst1]; exact B.kind
  have f1 : failedOf st1 = none := by rw [← hst1]; exact B.failed
  have ar1 : arrOf st1 = arrOf st := by rw [← hst1]
  have pe1 : pendingOf st1 = ((pendingOf st).setIfInBounds i (u, n + m, pw)).eraseIdxIfInBounds (i + 1) := by rw [← hst1]
  have B1 : SB κ a₀ st1 := ⟨k1, f1, by rw [ar1]; exact B.perm⟩
  have AK := B.keys h0
  have sz := B.size
  generalize arrOf st = xs at ar1 AK sz s1 s2 h ⊢
  obtain ⟨b1, eb1⟩ := at_of_lt (show u + n < xs.size by omega)
  refine wpS_bind (wp_elem eb1 (wpS_bind (gallop_right hO k1 (AK _ _ eb1) AK (by omega) n0 (fun i j p q hij hj e1 e2 => s1 _ _ p q (by omega) (by omega) (by omega) e1 e2) fun k hk g1 g2 => ?_)))
  dsimp only
  have le1 : ∀ (j : Nat) p, u ≤ j → j < u + k → xs[j]? = some p → ∀ (j' : Nat) q, j ≤ j' → j' < u + n + m → xs[j']? = some q → Le κ p q := fun j p h1 h2 e j' q h3 h4 e' => by
    by_cases h5 : j' < u + n
    · exact s1 j j' p q h1 h3 h5 e e'
    · exact (g1 (j - u) p (by omega) (by rw [show u + (j - u) = j by omega]; exact e)).trans (s2 (u + n) j' b1 q (Nat.le_refl _) (by omega) h4 eb1 e')
  by_cases hk0 : n - k = 0
  · rw [if_pos (beq_yes hk0)]
    refine wpS_pure (h st1 B1 pe1 ?_ (fun j _ => by rw [ar1]))
    rw [ar1]
    intro j j' p q h1 h2 h3 e e'
    by_cases h4 : j < u + n
    · exact le1 j p h1 (by omega) e j' q h2 h3 e'
    · exact s2 j j' p q (by omega) h2 h3 e e'
  rw [if_neg (beq_no hk0)]
  have ev : u + k + (n - k) - 1 = u + n - 1 := by omega
  rw [ev]
  obtain ⟨al, eal⟩ := at_of_lt (show u + n - 1 < xs.size by omega)
  refine wpS_bind (wp_elem eal (wpS_bind (gallop_left hO k1 (AK _ _ eal) AK (by omega) (by omega) (fun i j p q hij hj e1 e2 => s2 _ _ p q (by omega) (by omega) (by omega) e1 e2) fun t ht g3 g4 => ?_)))
  dsimp only
  obtain ⟨a1, ea1⟩ := at_of_lt (show u + k < xs.size by omega)
  have hb1a1 : Lt κ b1 a1 := g2 k a1 (Nat.le_refl _) (by omega) ea1
  by_cases ht0 : t = 0
  · exfalso
    have := g4 0 b1 (by omega) m0 eb1
    have h5 := s1 (u + k) (u + n - 1) a1 al (by omega) (by omega) (by omega) ea1 eal
    exact KeyOrd.not_klt_of_kle (h5.trans this) hb1a1
  rw [if_neg (beq_no ht0)]
  have T : Two κ (xs.extract (u + k) (u + n)) (xs.extract (u + n) (u + n + t)) := by
    have hx : ∀ (i : Nat) p, (xs.extract (u + k) (u + n))[i]? = some p → u + k + i < u + n ∧ xs[u + k + i]? = some p := fun i p e => by
      rw [ext_at (by omega)] at e
      by_cases hh : u + k + i < u + n
      · rw [if_pos hh] at e; exact ⟨hh, e⟩
      · rw [if_neg hh] at e; cases e
    have hy : ∀ (i : Nat) p, (xs.extract (u + n) (u + n + t))[i]? = some p → u + n + i < u + n + t ∧ xs[u + n + i]? = some p := fun i p e => by
      rw [ext_at (by omega)] at e
      by_cases hh : u + n + i < u + n + t
      · rw [if_pos hh] at e; exact ⟨hh, e⟩
      · rw [if_neg hh] at e; cases e
    have zx : (xs.extract (u + k) (u + n)).size = n - k := by rw [Array.size_extract]; omega
    have zy : (xs.extract (u + n) (u + n + t)).size = t := by rw [Array.size_extract]; omega
    refine ⟨fun i p e => AK _ _ (hx i p e).2, fun i p e => AK _ _ (hy i p e).2, fun i j p q hij e e' => ?_, fun i j p q hij e e' => ?_, by omega, by omega, fun p q e e' => ?_, fun p q e e' => ?_⟩
    · obtain ⟨a1, a2⟩ := hx i p e
      obtain ⟨a3, a4⟩ := hx j q e'
      exact s1 _ _ p q (by omega) (by omega) a3 a2 a4
    · obtain ⟨a1, a2⟩ := hy i p e
      obtain ⟨a3, a4⟩ := hy j q e'
      exact s2 _ _ p q (by omega) (by omega) (by omega) a2 a4
    · obtain ⟨_, a2⟩ := hx 0 p e
      obtain ⟨_, a4⟩ := hy 0 q e'
      rw [Nat.add_zero] at a2 a4
      rw [ea1] at a2
      rw [eb1] at a4
      cases a2
      cases a4
      exact hb1a1.le
    · rw [zx] at e
      rw [zy] at e'
      obtain ⟨_, a2⟩ := hx _ p e
      obtain ⟨_, a4⟩ := hy _ q e'
      rw [show u + k + (n - k - 1) = u + n - 1 by omega, eal] at a2
      cases a2
      exact (g3 (t - 1) q (by omega) a4).le
  have fin : ∀ r st', SameS st1 st' → Good κ (xs.extract (u + k) (u + n)) (xs.extract (u + n) (u + n + t)) r → wpS (model prog w) A E s (do
      modify fun z => setArr z (r.toList.zipIdx.foldl (fun a (p, j) => a.setIfInBounds (u + k + j) p) (arrOf z))
      return (failedOf (← get)).isNone) Q st' := by
    intro r st' ss gd
    obtain ⟨pp, rl⟩ := put_perm (xs := xs) (u := u + k) (v := u + n) (m := t) (r := r) (by omega) (by omega) gd.1
    have hsz' : u + k + r.toList.length ≤ xs.size := by omega
    refine wpS_bind (wpS_modify (wpS_bind (wpS_get ?_)))
    have ear : arrOf st' = xs := ss.2.1.trans ar1
    generalize hst2 : setArr st' (r.toList.zipIdx.foldl (fun a (p, j) => a.setIfInBounds (u + k + j) p) (arrOf st')) = st2
    have ar2 : arrOf st2 = put xs (u + k) r.toList 0 := by
      rw [← hst2]
      show r.toList.zipIdx.foldl (fun a (p, j) => a.setIfInBounds (u + k + j) p) (arrOf st') = _
      rw [ear]
      rfl
    have f2 : failedOf st2 = none := by rw [← hst2]; exact ss.2.2.2.trans f1
    have k2 : kindOf st2 = oneType' := by rw [← hst2]; exact ss.1.trans k1
    have p2 : pendingOf st2 = pendingOf st1 := by rw [← hst2]; exact ss.2.2.1
    rw [f2]
    refine wpS_pure (h st2 ⟨k2, f2, ?_⟩ (p2.trans pe1) ?_ fun j hj => ?_)
    · rw [ar2]
      have hp0 := B1.perm
      rw [ar1] at hp0
      exact pp.trans hp0
    · rw [ar2]
      have fromM : ∀ p, p ∈ r.toList → (∃ j, u + k ≤ j ∧ j < u + n ∧ xs[j]? = some p) ∨ ∃ j, u + n ≤ j ∧ j < u + n + t ∧ xs[j]? = some p := fun p hp => by
        have := gd.1.mem_iff.mp hp
        rw [List.mem_append] at this
        rcases this with hh | hh
        · obtain ⟨j, hj⟩ := List.mem_iff_getElem?.mp hh
          rw [Array.getElem?_toList, ext_at (by omega)] at hj
          by_cases hz : u + k + j < u + n
          · rw [if_pos hz] at hj
            exact .inl ⟨_, by omega, hz, hj⟩
          · rw [if_neg hz] at hj; cases hj
        · obtain ⟨j, hj⟩ := List.mem_iff_getElem?.mp hh
          rw [Array.getElem?_toList, ext_at (by omega)] at hj
          by_cases hz : u + n + j < u + n + t
          · rw [if_pos hz] at hj
            exact .inr ⟨_, by omega, hz, hj⟩
          · rw [if_neg hz] at hj; cases hj
      have le3 : ∀ (j : Nat) p, u + k ≤ j → j < u + n + t → xs[j]? = some p → ∀ (j' : Nat) q, u + n + t ≤ j' → j' < u + n + m → xs[j']? = some q → Le κ p q := fun j p h1 h2 e j' q h3 h4 e' => by
        by_cases h5 : j < u + n
        · exact (s1 j (u + n - 1) p al (by omega) (by omega) (by omega) e eal).trans (g4 (j' - (u + n)) q (by omega) (by omega) (by rw [show u + n + (j' - (u + n)) = j' by omega]; exact e'))
        · exact s2 j j' p q (by omega) (by omega) h4 e e'
      intro j j' p q h1 h2 h3 e e'
      rw [put_at hsz', rl] at e e'
      by_cases z1 : j < u + k
      · rw [if_pos z1] at e
        by_cases y1 : j' < u + k
        · rw [if_pos y1] at e'
          exact le1 j p h1 z1 e j' q h2 h3 e'
        · rw [if_neg y1] at e'
          by_cases y2 : j' < u + k + (u + n - (u + k) + t)
          · rw [if_pos y2] at e'
            rcases fromM q (List.mem_of_getElem? e') with ⟨l, l1, l2, l3⟩ | ⟨l, l1, l2, l3⟩
            · exact le1 j p h1 z1 e l q (by omega) (by omega) l3
            · exact le1 j p h1 z1 e l q (by omega) (by omega) l3
          · rw [if_neg y2] at e'
            exact le1 j p h1 z1 e j' q h2 h3 e'
      · rw [if_neg z1] at e
        rw [if_neg (by omega)] at e'
        by_cases z2 : j < u + k + (u + n - (u + k) + t)
        · rw [if_pos z2] at e
          by_cases y2 : j' < u + k + (u + n - (u + k) + t)
          · rw [if_pos y2] at e'
            rcases Nat.lt_or_ge j j' with hlt | hge
            · exact List.pairwise_iff_getElem.mp gd.2 (j - (u + k)) (j' - (u + k)) (by omega) (by omega) (by omega) |> fun hh => by
                have e3 := List.getElem?_eq_some_iff.mp e
                have e4 := List.getElem?_eq_some_iff.mp e'
                obtain ⟨_, e3⟩ := e3
                obtain ⟨_, e4⟩ := e4
                rw [e3, e4] at hh
                exact hh
            · have : j = j' := by omega
              subst this
              rw [e] at e'
              cases e'
              exact Le.refl _
          · rw [if_neg y2] at e'
            rcases fromM p (List.mem_of_getElem? e) with ⟨l, l1, l2, l3⟩ | ⟨l, l1, l2, l3⟩
            · exact le3 l p (by omega) (by omega) l3 j' q (by omega) h3 e'
            · exact le3 l p (by omega) (by omega) l3 j' q (by omega) h3 e'
        · rw [if_neg z2] at e
          rw [if_neg (by omega)] at e'
          exact s2 j j' p q (by omega) h2 h3 e e'
    · rw [ar2, put_at hsz', rl]
      by_cases z1 : j < u + k
      · rw [if_pos z1]
      · rw [if_neg z1, if_neg (by omega)]
  split
  · exact wpS_bind (mergeLo_ok hO T k1 fin)
  · exact wpS_bind (mergeHi_ok hO T k1 fin)
end
end TS
end
section
set_option Elab.async false
set_option linter.all false
set_option maxRecDepth 100000
namespace TS
open PySem PyProof.Rows
/-! ### a run at any place: found, and made longer -/
def kAt (κ : KeyKind) (xs : Array Keyed) (i : Nat) : Option κ.α := xs[i]?.map (kk κ)
def Up (κ : KeyKind) (xs : Array Keyed) (lo hi : Nat) : Prop := ∀ (i j : Nat) x y, lo ≤ i → i ≤ j → j < hi → kAt κ xs i = some x → kAt κ xs j = some y → κ.kle x y
def Dn (κ : KeyKind) (xs : Array Keyed) (lo hi : Nat) : Prop := ∀ (i j : Nat) x y, lo ≤ i → i ≤ j → j < hi → kAt κ xs i = some x → kAt κ xs j = some y → κ.kle y x
theorem Up.sr {κ : KeyKind} {xs : Array Keyed} {lo hi : Nat} (h : Up κ xs lo hi) : SR κ xs lo hi := fun i j p q h1 h2 h3 e e' => h i j (kk κ p) (kk κ q) h1 h2 h3 (by unfold kAt; rw [e]; rfl) (by unfold kAt; rw [e']; rfl)
theorem kAt_of {κ : KeyKind} {xs : Array Keyed} {i : Nat} {p : Keyed} (e : xs[i]? = some p) : kAt κ xs i = some (kk κ p) := by unfold kAt; rw [e]; rfl
structure Keep (κ : KeyKind) (a₀ : Array Keyed) (lo : Nat) (st st' : SortSt) : Prop where
  sb : SB κ a₀ st'
  pend : pendingOf st' = pendingOf st
  low : ∀ i, i < lo → (arrOf st')[i]? = (arrOf st)[i]?
theorem Keep.trans {κ : KeyKind} {a₀ : Array Keyed} {lo : Nat} {a b c : SortSt} (h : Keep κ a₀ lo a b) (h' : Keep κ a₀ lo b c) : Keep κ a₀ lo a c := ⟨h'.sb, h'.pend.trans h.pend, fun i hi => (h'.low i hi).trans (h.low i hi)⟩
theorem Keep.refl {κ : KeyKind} {a₀ : Array Keyed} {lo : Nat} {a : SortSt} (h : SB κ a₀ a) : Keep κ a₀ lo a a := ⟨h, rfl, fun _ _ => rfl⟩
theorem Up.snoc {κ : KeyKind} {xs : Array Keyed} {lo n : Nat} {x y : κ.α} (h : Up κ xs lo n) (hn : lo < n) (ex : kAt κ xs (n - 1) = some x) (ey : kAt κ xs n = some y) (hxy : κ.kle x y) : Up κ xs lo (n + 1) := by
  intro i j u v h1 h2 h3 eu ev
  by_cases hj : j < n
  · exact h i j u v h1 h2 hj eu ev
  · have hj : j = n := by omega
    subst hj
    rw [ey] at ev
    cases ev
    by_cases hi : i = j
    · subst hi
      rw [ey] at eu
      cases eu
      exact KeyOrd.kle_refl _
    · exact KeyOrd.kle_trans (h i (j - 1) u x h1 (by omega) (by omega) eu ex) hxy
theorem Dn.snoc {κ : KeyKind} {xs : Array Keyed} {lo n : Nat} {x y : κ.α} (h : Dn κ xs lo n) (hn : lo < n) (ex : kAt κ xs (n - 1) = some x) (ey : kAt κ xs n = some y) (hxy : κ.kle y x) : Dn κ xs lo (n + 1) := by
  intro i j u v h1 h2 h3 eu ev
  by_cases hj : j < n
  · exact h i j u v h1 h2 hj eu ev
  · have hj : j = n := by omega
    subst hj
    rw [ey] at ev
    cases ev
    by_cases hi : i = j
    · subst hi
      rw [ey] at eu
      cases eu
      exact KeyOrd.kle_refl _
    · exact KeyOrd.kle_trans hxy (h i (j - 1) u x h1 (by omega) (by omega) eu ex)
section
variable {prog : Program} {w : World} {A : Around} {E : Value → Shared → Prop} {s : Shared} {κ : KeyKind} {a₀ : Array Keyed}
theorem wp_ltAt (hO : κ.OneLt) (h0 : KeysOf κ a₀) {st : SortSt} (B : SB κ a₀ st) {i j : Nat} {Q : Option Bool → SortSt → Prop} (hi : i < a₀.size) (hj : j < a₀.size) (h : ∀ x y, kAt κ (arrOf st) i = some x → kAt κ (arrOf st) j = some y → Q (some (κ.blt x y)) st) : wpS (model prog w) A E s (ltAt' i j) Q st := by
  obtain ⟨p, ep⟩ := at_of_lt (show i < (arrOf st).size by rw [B.size]; exact hi)
  obtain ⟨q, eq⟩ := at_of_lt (show j < (arrOf st).size by rw [B.size]; exact hj)
  rw [ltAt'_eq]
  refine wpS_bind (wpS_get ?_)
  dsimp only
  exact wpS_bind (wp_elem ep (wpS_bind (wp_elem eq (wp_lt hO B.kind (B.keys h0 _ _ ep) (B.keys h0 _ _ eq) (h _ _ (kAt_of ep) (kAt_of eq))))))
theorem wp_rev {st : SortSt} (B : SB κ a₀ st) {lo i j : Nat} (hlo : lo ≤ i) (hj : j ≤ a₀.size) {Q : Unit → SortSt → Prop} (h : ∀ st', Keep κ a₀ lo st st' → (∀ k, kAt κ (arrOf st') k = if i ≤ k ∧ k < j then kAt κ (arrOf st) (i + j - 1 - k) else kAt κ (arrOf st) k) → Q () st') : wpS (model prog w) A E s (reverseSlice' i j) Q st := by
  rw [reverseSlice'_eq]
  have hsz : j ≤ (arrOf st).size := by rw [B.size]; exact hj
  refine wpS_modify (h _ ⟨⟨B.kind, B.failed, (mirror_perm _ _ _ _).trans B.perm⟩, rfl, fun k hk => ?_⟩ fun k => ?_)
  · show (mirror (arrOf st) i j ((j - i) / 2))[k]? = _
    rw [getElem?_mirror_all hsz, if_neg (by omega)]
  · show ((mirror (arrOf st) i j ((j - i) / 2))[k]?).map (kk κ) = _
    rw [getElem?_mirror_all hsz]
    split <;> rfl
theorem asc_tail (hO : κ.OneLt) (h0 : KeysOf κ a₀) {st : SortSt} (B : SB κ a₀ st) {lo a nrem : Nat} (ha : 1 ≤ a) (han : a ≤ nrem) (hn : lo + nrem ≤ a₀.size) (u : Up κ (arrOf st) lo (lo + a)) {Q : Option Nat → SortSt → Prop} (h : ∀ m, 1 ≤ m → m ≤ nrem → Up κ (arrOf st) lo (lo + m) → Q (some m) st) :
    wpS (model prog w) A E s (do
      let mut n := a
      for _ in [a:nrem] do
        let some y ← ltAt' (lo + n) (lo + n - 1) | return none
        if y then break
        n := n + 1
      return some n) Q st := by
  dsimp only
  refine wpS_bind (wpS_mono (wpS_forRange (I := fun x c st' => st' = st ∧ c = (none, x) ∧ Up κ (arrOf st) lo (lo + x)) (Q := fun c st' => st' = st ∧ ∃ m, c = (none, m) ∧ 1 ≤ m ∧ m ≤ nrem ∧ Up κ (arrOf st) lo (lo + m)) ?step ?fin ⟨rfl, rfl, u⟩) ?post)
  case fin =>
    rintro c st' ⟨rfl, rfl, u⟩
    refine ⟨rfl, _, rfl, by omega, by omega, u⟩
  case step =>
    rintro x c st' hx1 hx2 ⟨rfl, rfl, u⟩
    dsimp only
    refine wpS_bind (wp_ltAt hO h0 B (by omega) (by omega) fun x' y' ex ey => ?_)
    cases hb : κ.blt x' y' with
    | true =>
      dsimp only
      rw [if_pos rfl]
      exact wpS_pure ⟨rfl, x, rfl, by omega, by omega, u⟩
    | false =>
      dsimp only
      rw [if_neg (by decide)]
      refine wpS_pure ⟨rfl, rfl, ?_⟩
      exact u.snoc (by omega) ey ex hb
  case post =>
    rintro c st' ⟨rfl, m, rfl, m1, m2, u⟩
    exact wpS_pure (h m m1 m2 u)
/-- what is behind the falling part -/
theorem desc_tail (hO : κ.OneLt) (h0 : KeysOf κ a₀) {st : SortSt} (B : SB κ a₀ st) {lo a nrem : Nat} (ha : 1 ≤ a) (han : a ≤ nrem) (hn : lo + nrem ≤ a₀.size) (u : Dn κ (arrOf st) lo (lo + a)) {Q : Option Nat → SortSt → Prop} (h : ∀ m st', Keep κ a₀ lo st st' → 1 ≤ m → m ≤ nrem → Up κ (arrOf st') lo (lo + m) → Q (some m) st') :
    wpS (model prog w) A E s (do
      reverseSlice' lo (lo + a)
      let mut n := a
      for _ in [a:nrem] do
        let some y ← ltAt' (lo + n) (lo + n - 1) | return none
        if y then break
        n := n + 1
      return some n) Q st := by
  refine wpS_bind (wp_rev B (Nat.le_refl lo) (by omega) fun st1 k1 e1 => ?_)
  refine asc_tail hO h0 k1.sb ha han hn (fun i j x y h1 h2 h3 ex ey => ?_) fun m m1 m2 u => h m st1 k1 m1 m2 u
  rw [e1, if_pos (by omega)] at ex ey
  exact u _ _ y x (by omega) (by omega) (by omega) ey ex
def Eqs (κ : KeyKind) (xs : Array Keyed) (lo hi : Nat) : Prop := ∀ i, lo ≤ i → i < hi → kAt κ xs i = kAt κ xs (hi - 1)
theorem wp_revEq {st : SortSt} (B : SB κ a₀ st) {lo i j : Nat} (hlo : lo ≤ i) (hj : j ≤ a₀.size) (hq : Eqs κ (arrOf st) i j) {Q : Unit → SortSt → Prop} (h : ∀ st', Keep κ a₀ lo st st' → (∀ k, kAt κ (arrOf st') k = kAt κ (arrOf st) k) → Q () st') : wpS (model prog w) A E s (reverseSlice' i j) Q st := by
  refine wp_rev B hlo hj fun st' k' e' => h st' k' fun k => ?_
  rw [e']
  by_cases hk : i ≤ k ∧ k < j
  · rw [if_pos hk, hq _ (by omega) (by omega), hq k hk.1 hk.2]
  · rw [if_neg hk]
theorem Dn.congr {xs ys : Array Keyed} {lo hi : Nat} (h : Dn κ xs lo hi) (e : ∀ k, kAt κ ys k = kAt κ xs k) : Dn κ ys lo hi := fun i j x y h1 h2 h3 ex ey => h i j x y h1 h2 h3 (by rw [← e]; exact ex) (by rw [← e]; exact ey)
set_option maxHeartbeats 1000000 in
theorem desc_ok (hO : κ.OneLt) (h0 : KeysOf κ a₀) {st : SortSt} (B : SB κ a₀ st) {lo a nrem : Nat} (ha : 1 ≤ a) (han : a + 1 ≤ nrem) (hn : lo + nrem ≤ a₀.size) (u : Dn κ (arrOf st) lo (lo + (a + 1))) {Q : Option Nat → SortSt → Prop} (h : ∀ m st', Keep κ a₀ lo st st' → 1 ≤ m → m ≤ nrem → Up κ (arrOf st') lo (lo + m) → Q (some m) st') :
    wpS (model prog w) A E s (do
      rule "list.sort.descending-run"; let mut n := a + 1
      let mut e := 0
      for _ in [n:nrem] do
        let some y ← ltAt' (lo + n) (lo + n - 1) | return none
        if y then
          if e > 0 then reverseSlice' (lo + n - (e + 1)) (lo + n)
          e := 0
        else
          let some z ← ltAt' (lo + n - 1) (lo + n) | return none
          if z then break
          e := e + 1
        n := n + 1
      if e > 0 then reverseSlice' (lo + n - (e + 1)) (lo + n)
      reverseSlice' lo (lo + n)
      for _ in [n:nrem] do
        let some y ← ltAt' (lo + n) (lo + n - 1) | return none
        if y then break
        n := n + 1
      return some n) Q st := by
  refine wpS_bind (wpS_lift (wpAny_rule ⟨rfl, ?_⟩))
  dsimp only
  refine wpS_bind (wpS_mono (wpS_forRange (I := fun x c st' => Keep κ a₀ lo st st' ∧ ∃ e, c = (none, x, e) ∧ Dn κ (arrOf st') lo (lo + x) ∧ e + 1 ≤ x ∧ Eqs κ (arrOf st') (lo + x - (e + 1)) (lo + x))
    (Q := fun c st' => Keep κ a₀ lo st st' ∧ ∃ m e, c = (none, m, e) ∧ a + 1 ≤ m ∧ m ≤ nrem ∧ Dn κ (arrOf st') lo (lo + m) ∧ e + 1 ≤ m ∧ Eqs κ (arrOf st') (lo + m - (e + 1)) (lo + m)) ?step ?fin ⟨Keep.refl B, 0, rfl, u, by omega, fun i h1 h2 => by congr 1; omega⟩) ?post)
  case fin =>
    rintro c st' ⟨k, e, rfl, u, e1, e2⟩
    rw [show max (a + 1) nrem = nrem by omega] at *
    exact ⟨k, nrem, e, rfl, han, Nat.le_refl _, u, e1, e2⟩
  case step =>
    rintro x c st' hx1 hx2 ⟨k, e, rfl, u, e1, e2⟩
    dsimp only
    refine wpS_bind (wp_ltAt hO h0 k.sb (by omega) (by omega) fun x' y' ex ey => ?_)
    cases hb : κ.blt x' y' with
    | true =>
      dsimp only
      rw [if_pos rfl]
      have u' := u.snoc (by omega) ey ex (KeyOrd.kle_of_klt hb)
      by_cases he : e > 0
      · rw [if_pos he]
        refine wpS_bind (wp_revEq (lo := lo) k.sb (by omega) (by omega) e2 fun st2 k2 c2 => wpS_pure ⟨k.trans k2, 0, rfl, u'.congr c2, by omega, fun i h1 h2 => by congr 1; omega⟩)
      · rw [if_neg he]
        exact wpS_pure ⟨k, 0, rfl, u', by omega, fun i h1 h2 => by congr 1; omega⟩
    | false =>
      dsimp only
      rw [if_neg (by decide)]
      refine wpS_bind (wp_ltAt hO h0 k.sb (by omega) (by omega) fun y2 x2 ey2 ex2 => ?_)
      rw [ex] at ex2
      rw [ey] at ey2
      cases ex2
      cases ey2
      cases hb2 : κ.blt y' x' with
      | true =>
        dsimp only
        rw [if_pos rfl]
        exact wpS_pure ⟨k, x, e, rfl, hx1, by omega, u, e1, e2⟩
      | false =>
        dsimp only
        rw [if_neg (by decide)]
        have exy : x' = y' := KeyOrd.kle_antisymm hb2 hb
        subst exy
        refine wpS_pure ⟨k, e + 1, rfl, u.snoc (by omega) ey ex (KeyOrd.kle_refl _), by omega, fun i h1 h2 => ?_⟩
        rw [show lo + (x + 1) - 1 = lo + x by omega, ex]
        by_cases hi : i = lo + x
        · rw [hi, ex]
        · rw [e2 i (by omega) (by omega), ey]
  case post =>
    rintro c st' ⟨k, m, e, rfl, m1, m2, u, e1, e2⟩
    dsimp only
    by_cases he : e > 0
    · rw [if_pos he]
      refine wpS_bind (wp_revEq (lo := lo) k.sb (by omega) (by omega) e2 fun st2 k2 c2 => ?_)
      exact desc_tail hO h0 k2.sb (by omega) m2 hn (u.congr c2) fun m' st3 k3 => h m' st3 (k.trans (k2.trans k3))
    · rw [if_neg he]
      exact desc_tail hO h0 k.sb (by omega) m2 hn u fun m' st3 k3 => h m' st3 (k.trans k3)
set_option maxHeartbeats 1000000 in
theorem countRun_ok (hO : κ.OneLt) (h0 : KeysOf κ a₀) {st : SortSt} (B : SB κ a₀ st) {lo nrem : Nat} (hr : 1 ≤ nrem) (hn : lo + nrem ≤ a₀.size) {Q : Option Nat → SortSt → Prop} (h : ∀ m st', Keep κ a₀ lo st st' → 1 ≤ m → m ≤ nrem → Up κ (arrOf st') lo (lo + m) → Q (some m) st') : wpS (model prog w) A E s (countRun' lo nrem) Q st := by
  rw [countRun'_eq]
  dsimp only
  refine wpS_bind (wpS_mono (wpS_forRange (I := fun x c st' => st' = st ∧ c = (none, x) ∧ Up κ (arrOf st) lo (lo + x)) (Q := fun c st' => st' = st ∧ ∃ m, c = (none, m) ∧ 1 ≤ m ∧ m ≤ nrem ∧ Up κ (arrOf st) lo (lo + m) ∧ (m = nrem ∨ ∃ x y, kAt κ (arrOf st) (lo + m) = some x ∧ kAt κ (arrOf st) (lo + m - 1) = some y ∧ κ.klt x y)) ?step ?fin ⟨rfl, rfl, ?u1⟩) ?post)
  case u1 =>
    intro i j x y h1 h2 h3 ex ey
    have : i = j := by omega
    subst this
    rw [ex] at ey
    cases ey
    exact KeyOrd.kle_refl _
  case fin =>
    rintro c st' ⟨rfl, rfl, u⟩
    rw [show max 1 nrem = nrem by omega] at *
    exact ⟨rfl, _, rfl, hr, Nat.le_refl _, u, .inl rfl⟩
  case step =>
    rintro x c st' hx1 hx2 ⟨rfl, rfl, u⟩
    dsimp only
    refine wpS_bind (wp_ltAt hO h0 B (by omega) (by omega) fun x' y' ex ey => ?_)
    cases hb : κ.blt x' y' with
    | true =>
      dsimp only
      rw [if_pos rfl]
      exact wpS_pure ⟨rfl, x, rfl, hx1, by omega, u, .inr ⟨x', y', ex, ey, hb⟩⟩
    | false =>
      dsimp only
      rw [if_neg (by decide)]
      exact wpS_pure ⟨rfl, rfl, u.snoc (by omega) ey ex hb⟩
  case post =>
    rintro c st' ⟨rfl, m, rfl, m1, m2, u, hend⟩
    dsimp only
    by_cases hm : m = nrem
    · rw [if_pos (beq_yes hm)]
      exact wpS_pure (h m st' (Keep.refl B) m1 m2 u)
    rw [if_neg (beq_no hm)]
    obtain ⟨x, y, ex, ey, hxy⟩ : ∃ x y, kAt κ (arrOf st') (lo + m) = some x ∧ kAt κ (arrOf st') (lo + m - 1) = some y ∧ κ.klt x y := by
      rcases hend with z | z
      · exact absurd z hm
      · exact z
    by_cases h1 : m > 1
    · rw [if_pos h1]
      refine wpS_bind (wp_ltAt hO h0 B (by omega) (by omega) fun x0 y0 ex0 ey0 => ?_)
      cases hb : κ.blt x0 y0 with
      | true =>
        dsimp only
        rw [if_pos rfl]
        exact wpS_pure (h m st' (Keep.refl B) m1 m2 u)
      | false =>
        dsimp only
        rw [if_neg (by decide)]
        have eqs : Eqs κ (arrOf st') lo (lo + m) := fun i h1 h2 => by
          obtain ⟨p, ep⟩ := at_of_lt (show i < (arrOf st').size by rw [B.size]; omega)
          have ei := kAt_of (κ := κ) ep
          rw [ei, ey0]
          congr 1
          refine KeyOrd.kle_antisymm (u i (lo + m - 1) _ _ h1 (by omega) (by omega) ei ey0) ?_
          exact KeyOrd.kle_trans hb (u lo i _ _ (Nat.le_refl _) h1 h2 ex0 ei)
        refine wpS_bind (wp_revEq B (Nat.le_refl lo) (by omega) eqs fun st2 k2 c2 => ?_)
        refine desc_ok hO h0 k2.sb m1 (by omega) hn ?_ fun m' st3 k3 => h m' st3 (k2.trans k3)
        have d1 : Dn κ (arrOf st') lo (lo + m) := fun i j x1 y1 h1 h2 h3 e1 e2 => by
          rw [eqs i h1 (by omega)] at e1
          rw [eqs j (by omega) h3, e1] at e2
          cases e2
          exact KeyOrd.kle_refl _
        exact (d1.snoc (by omega) ey ex (KeyOrd.kle_of_klt hxy)).congr c2
    · rw [if_neg h1]
      refine desc_ok hO h0 B m1 (by omega) hn ?_ h
      have d1 : Dn κ (arrOf st') lo (lo + m) := fun i j x1 y1 h1 h2 h3 e1 e2 => by
        have : i = j := by omega
        subst this
        rw [e1] at e2
        cases e2
        exact KeyOrd.kle_refl _
      exact d1.snoc (by omega) ey ex (KeyOrd.kle_of_klt hxy)
end
end TS
end
section
set_option Elab.async false
set_option linter.all false
set_option maxRecDepth 100000
namespace TS
open PySem PyProof.Rows
section
variable {prog : Program} {w : World} {A : Around} {E : Value → Shared → Prop} {s : Shared} {κ : KeyKind} {a₀ : Array Keyed}
theorem wp_move {st : SortSt} (B : SB κ a₀ st) {lo src dst : Nat} (h1 : lo ≤ dst) (h2 : dst ≤ src) (h3 : src < a₀.size) {Q : Unit → SortSt → Prop} (h : ∀ st', Keep κ a₀ lo st st' → (∀ k, kAt κ (arrOf st') k = if k = dst then kAt κ (arrOf st) src else if dst < k ∧ k ≤ src then kAt κ (arrOf st) (k - 1) else kAt κ (arrOf st) k) → Q () st') : wpS (model prog w) A E s (moveDown' src dst) Q st := by
  rw [moveDown'_eq]
  have hsz : src < (arrOf st).size := by rw [B.size]; exact h3
  refine wpS_modify (h _ ⟨⟨B.kind, B.failed, (bubble_perm _ _ _).trans B.perm⟩, rfl, fun k hk => ?_⟩ fun k => ?_)
  · show (bubble (arrOf st) src (src - dst))[k]? = _
    rw [getElem?_bubble hsz _ (by omega), if_neg (by omega), if_neg (by omega)]
  · show ((bubble (arrOf st) src (src - dst))[k]?).map (kk κ) = _
    rw [getElem?_bubble hsz _ (by omega), show src - (src - dst) = dst by omega]
    split
    · rfl
    · split <;> rfl
set_option maxHeartbeats 1000000 in
theorem binary_ok (hO : κ.OneLt) (h0 : KeysOf κ a₀) {st : SortSt} (B : SB κ a₀ st) {lo n ok : Nat} (h1 : 1 ≤ ok) (h2 : ok ≤ n) (hn : lo + n ≤ a₀.size) (u : Up κ (arrOf st) lo (lo + ok)) {Q : Bool → SortSt → Prop} (h : ∀ st', Keep κ a₀ lo st st' → Up κ (arrOf st') lo (lo + n) → Q true st') : wpS (model prog w) A E s (binarySort' lo n ok) Q st := by
  rw [binarySort'_eq]
  refine wpS_bind (wpS_mono (wpS_forRange (I := fun k c st' => c = (none, ()) ∧ Keep κ a₀ lo st st' ∧ Up κ (arrOf st') lo (lo + k)) (Q := fun c st' => c = (none, ()) ∧ Keep κ a₀ lo st st' ∧ Up κ (arrOf st') lo (lo + n)) ?step ?fin ?init) ?post)
  case init =>
    rw [show max ok 1 = ok by omega]
    exact ⟨rfl, Keep.refl B, u⟩
  case fin =>
    rintro c st' ⟨rfl, k, u⟩
    rw [show max (max ok 1) n = n by omega] at u
    exact ⟨rfl, k, u⟩
  case post =>
    rintro c st' ⟨rfl, k, u⟩
    exact wpS_pure (h st' k u)
  case step =>
    rintro k c st' hk1 hk2 ⟨rfl, K, u⟩
    dsimp only
    obtain ⟨py, epy⟩ := at_of_lt (show lo + k < (arrOf st').size by rw [K.sb.size]; omega)
    have ey := kAt_of (κ := κ) epy
    generalize kk κ py = y at ey
    refine wpS_bind (wpS_mono (wpS_forRange (I := fun x c st'' => st'' = st' ∧ ∃ l r, c = (none, l, r) ∧ l ≤ r ∧ r ≤ k ∧ r - l ≤ k - x ∧ (∀ i z, i < l → kAt κ (arrOf st') (lo + i) = some z → κ.kle z y) ∧ (∀ i z, r ≤ i → i < k → kAt κ (arrOf st') (lo + i) = some z → κ.klt y z))
      (Q := fun c st'' => st'' = st' ∧ ∃ l, c = (none, l, l) ∧ l ≤ k ∧ (∀ i z, i < l → kAt κ (arrOf st') (lo + i) = some z → κ.kle z y) ∧ (∀ i z, l ≤ i → i < k → kAt κ (arrOf st') (lo + i) = some z → κ.klt y z)) ?istep ?ifin ⟨rfl, 0, k, rfl, by omega, by omega, by omega, fun i z hi => by omega, fun i z h1 h2 => by omega⟩) ?ipost)
    case ifin =>
      rintro c st'' ⟨rfl, l, r, rfl, b1, b2, b3, b4, b5⟩
      have : l = r := by omega
      subst this
      exact ⟨rfl, l, rfl, b2, b4, b5⟩
    case istep =>
      rintro x c st'' _ hx ⟨rfl, l, r, rfl, b1, b2, b3, b4, b5⟩
      dsimp only
      by_cases hlr : l ≥ r
      · rw [if_pos hlr]
        have : l = r := by omega
        subst this
        exact wpS_pure ⟨rfl, l, rfl, b2, b4, b5⟩
      · rw [if_neg hlr]
        refine wpS_bind (wp_ltAt hO h0 K.sb (by omega) (by omega) fun y' z ey' ez => ?_)
        rw [ey] at ey'
        cases ey'
        cases hb : κ.blt y z with
        | true =>
          dsimp only
          rw [if_pos rfl]
          refine wpS_pure ⟨rfl, l, (l + r) / 2, rfl, by omega, by omega, by omega, b4, fun i z' h1 h2 e => ?_⟩
          exact KeyOrd.klt_of_klt_of_kle hb (u (lo + (l + r) / 2) (lo + i) z z' (by omega) (by omega) (by omega) ez e)
        | false =>
          dsimp only
          rw [if_neg (by decide)]
          refine wpS_pure ⟨rfl, (l + r) / 2 + 1, r, rfl, by omega, by omega, by omega, fun i z' h1 e => ?_, b5⟩
          exact KeyOrd.kle_trans (u (lo + i) (lo + (l + r) / 2) z' z (by omega) (by omega) (by omega) e ez) hb
    case ipost =>
      rintro c st'' ⟨rfl, l, rfl, b2, b4, b5⟩
      dsimp only
      refine wpS_bind (wp_move (lo := lo) K.sb (by omega) (by omega) (by omega) fun st2 k2 c2 => wpS_pure ⟨rfl, K.trans k2, fun i j z1 z2 g1 g2 g3 e1 e2 => ?_⟩)
      rw [c2] at e1 e2
      by_cases i1 : i = lo + l
      · rw [if_pos i1, ey] at e1
        cases e1
        by_cases j1 : j = lo + l
        · rw [if_pos j1, ey] at e2
          cases e2
          exact KeyOrd.kle_refl _
        · rw [if_neg j1, if_pos (by omega)] at e2
          exact KeyOrd.kle_of_klt (b5 (j - 1 - lo) z2 (by omega) (by omega) (by rw [show lo + (j - 1 - lo) = j - 1 by omega]; exact e2))
      · rw [if_neg i1] at e1
        by_cases i2 : lo + l < i ∧ i ≤ lo + k
        · rw [if_pos i2] at e1
          rw [if_neg (by omega), if_pos (by omega)] at e2
          exact u (i - 1) (j - 1) z1 z2 (by omega) (by omega) (by omega) e1 e2
        · rw [if_neg i2] at e1
          by_cases j1 : j = lo + l
          · rw [if_pos j1, ey] at e2
            cases e2
            exact b4 (i - lo) z1 (by omega) (by rw [show lo + (i - lo) = i by omega]; exact e1)
          · rw [if_neg j1] at e2
            by_cases j2 : lo + l < j ∧ j ≤ lo + k
            · rw [if_pos j2] at e2
              exact u i (j - 1) z1 z2 g1 (by omega) (by omega) e1 e2
            · rw [if_neg j2] at e2
              exact u i j z1 z2 g1 g2 (by omega) e1 e2
end
/-! ### the runs that wait -/
def Chain : Nat → List (Nat × Nat × Nat) → Nat → Prop
  | t, [], e => t = e
  | t, r :: rs, e => r.1 = t ∧ 0 < r.2.1 ∧ Chain (t + r.2.1) rs e
theorem chain_app : ∀ {l1 l2 : List (Nat × Nat × Nat)} {t e : Nat}, Chain t (l1 ++ l2) e ↔ ∃ m, Chain t l1 m ∧ Chain m l2 e
  | [], l2, t, e => ⟨fun h => ⟨t, rfl, h⟩, fun ⟨m, h1, h2⟩ => by cases (show t = m from h1); exact h2⟩
  | r :: l1, l2, t, e => by
    constructor
    · rintro ⟨h1, h2, h3⟩
      obtain ⟨m, h4, h5⟩ := chain_app.mp h3
      exact ⟨m, ⟨h1, h2, h4⟩, h5⟩
    · rintro ⟨m, ⟨h1, h2, h4⟩, h5⟩
      exact ⟨h1, h2, chain_app.mpr ⟨m, h4, h5⟩⟩
theorem chain_in : ∀ {l : List (Nat × Nat × Nat)} {t e : Nat}, Chain t l e → t + l.length ≤ e ∧ ∀ r ∈ l, t ≤ r.1 ∧ r.1 + r.2.1 ≤ e
  | [], t, e, h => ⟨by cases (show t = e from h); simp, fun r hr => by simp at hr⟩
  | q :: l, t, e, ⟨h1, h2, h3⟩ => by
    obtain ⟨i1, i2⟩ := chain_in h3
    refine ⟨by rw [List.length_cons]; omega, fun r hr => ?_⟩
    rcases List.mem_cons.mp hr with z | z
    · subst z
      omega
    · have := i2 r z
      omega
theorem chain_congr : ∀ {l l' : List (Nat × Nat × Nat)} {t e : Nat}, l.map (fun r => (r.1, r.2.1)) = l'.map (fun r => (r.1, r.2.1)) → Chain t l e → Chain t l' e
  | [], [], _, _, _, h => h
  | r :: l, r' :: l', t, e, hm, ⟨h1, h2, h3⟩ => by
    rw [List.map_cons, List.map_cons] at hm
    injection hm with hm1 hm2
    injection hm1 with ha hb
    exact ⟨ha ▸ h1, hb ▸ h2, by rw [← hb]; exact chain_congr hm2 h3⟩
  | [], _ :: _, _, _, hm, _ => by simp at hm
  | _ :: _, [], _, _, hm, _ => by simp at hm
structure RB (κ : KeyKind) (a₀ : Array Keyed) (st : SortSt) (lo : Nat) : Prop where
  sb : SB κ a₀ st
  chain : Chain 0 (pendingOf st).toList lo
  runs : ∀ r ∈ (pendingOf st).toList, SR κ (arrOf st) r.1 (r.1 + r.2.1)
  le : lo ≤ a₀.size
theorem Up.same {κ : KeyKind} {xs ys : Array Keyed} {lo hi : Nat} (h : Up κ xs lo hi) (e : ∀ j, lo ≤ j → ys[j]? = xs[j]?) : Up κ ys lo hi := fun i j x y h1 h2 h3 ex ey => h i j x y h1 h2 h3 (by unfold kAt at ex ⊢; rw [← e i h1]; exact ex) (by unfold kAt at ey ⊢; rw [← e j (by omega)]; exact ey)
theorem SR.same {κ : KeyKind} {xs ys : Array Keyed} {lo hi : Nat} (h : SR κ xs lo hi) (e : ∀ j, lo ≤ j → j < hi → ys[j]? = xs[j]?) : SR κ ys lo hi := fun i j p q h1 h2 h3 ep eq => h i j p q h1 h2 h3 (by rw [← e i h1 (by omega)]; exact ep) (by rw [← e j (by omega) h3]; exact eq)
theorem RB.push {κ : KeyKind} {a₀ : Array Keyed} {st : SortSt} {lo n : Nat} (R : RB κ a₀ st lo) (u : Up κ (arrOf st) lo (lo + n)) (h1 : 1 ≤ n) (h2 : lo + n ≤ a₀.size) : RB κ a₀ (setPending st ((pendingOf st).push (lo, n, 0))) (lo + n) := by
  refine ⟨⟨R.sb.kind, R.sb.failed, R.sb.perm⟩, ?_, fun r hr => ?_, h2⟩
  · show Chain 0 ((pendingOf st).push (lo, n, 0)).toList (lo + n)
    rw [Array.toList_push]
    exact chain_app.mpr ⟨lo, R.chain, rfl, h1, rfl⟩
  · have hr : r ∈ ((pendingOf st).push (lo, n, 0)).toList := hr
    rw [Array.toList_push, List.mem_append] at hr
    rcases hr with hr | hr
    · exact R.runs r hr
    · rw [List.mem_singleton.mp hr]
      exact u.sr
theorem RB.repow {κ : KeyKind} {a₀ : Array Keyed} {st : SortSt} {lo pw : Nat} (R : RB κ a₀ st lo) : RB κ a₀ (setPending st ((pendingOf st).modify ((pendingOf st).size - 1) fun (x, y, _) => (x, y, pw))) lo := by
  have em : ((pendingOf st).modify ((pendingOf st).size - 1) fun (x, y, _) => (x, y, pw)).toList.map (fun r => (r.1, r.2.1)) = (pendingOf st).toList.map (fun r => (r.1, r.2.1)) := by
    apply List.ext_getElem?
    intro i
    rw [List.getElem?_map, List.getElem?_map, Array.getElem?_toList, Array.getElem?_toList, Array.getElem?_modify]
    split
    · cases (pendingOf st)[i]? <;> rfl
    · rfl
  refine ⟨⟨R.sb.kind, R.sb.failed, R.sb.perm⟩, chain_congr em.symm R.chain, fun r hr => ?_, R.le⟩
  have : (r.1, r.2.1) ∈ ((pendingOf st).modify ((pendingOf st).size - 1) fun (x, y, _) => (x, y, pw)).toList.map (fun r => (r.1, r.2.1)) := List.mem_map_of_mem (f := fun r : Nat × Nat × Nat => (r.1, r.2.1)) hr
  rw [em, List.mem_map] at this
  obtain ⟨q, hq, e⟩ := this
  injection e with e1 e2
  have := R.runs q hq
  rw [e1, e2] at this
  exact this
section
variable {prog : Program} {w : World} {A : Around} {E : Value → Shared → Prop} {s : Shared} {κ : KeyKind} {a₀ : Array Keyed}
theorem merge_rb (hO : κ.OneLt) (h0 : KeysOf κ a₀) {st : SortSt} {lo i : Nat} (R : RB κ a₀ st lo) (hi : i + 1 < (pendingOf st).size) {Q : Bool → SortSt → Prop}
    (h : ∀ st', RB κ a₀ st' lo → (pendingOf st').size + 1 = (pendingOf st).size → (∀ j, lo ≤ j → (arrOf st')[j]? = (arrOf st)[j]?) → Q true st') : wpS (model prog w) A E s (mergeAt' i) Q st := by
  have hl : i + 1 < (pendingOf st).toList.length := by rw [Array.length_toList]; exact hi
  have spl : (pendingOf st).toList = (pendingOf st).toList.take i ++ (pendingOf st).toList[i] :: (pendingOf st).toList[i + 1] :: (pendingOf st).toList.drop (i + 2) := by
    rw [← List.drop_eq_getElem_cons hl, ← List.drop_eq_getElem_cons (show i < _ by omega), List.take_append_drop]
  have e1 : (pendingOf st)[i]? = some (pendingOf st).toList[i] := by rw [← Array.getElem?_toList, List.getElem?_eq_getElem]
  have e2 : (pendingOf st)[i + 1]? = some (pendingOf st).toList[i + 1] := by rw [← Array.getElem?_toList, List.getElem?_eq_getElem]
  have hlt : ((pendingOf st).toList.take i).length = i := by rw [List.length_take]; omega
  have hset : ∀ x, (((pendingOf st).setIfInBounds i x).eraseIdxIfInBounds (i + 1)).toList = (pendingOf st).toList.take i ++ x :: (pendingOf st).toList.drop (i + 2) := fun x => by
    rw [Array.toList_eraseIdxIfInBounds, Array.toList_setIfInBounds, List.eraseIdx_eq_take_drop_succ, List.drop_set_of_lt (by omega)]
    have : ((pendingOf st).toList.set i x).take (i + 1) = (pendingOf st).toList.take i ++ [x] := by
      rw [List.take_add_one, List.take_set_of_le (Nat.le_refl _), List.getElem?_set_self (by omega)]
      rfl
    rw [this, List.append_assoc]
    rfl
  generalize (pendingOf st).toList[i] = r1 at spl e1
  generalize (pendingOf st).toList[i + 1] = r2 at spl e2
  generalize (pendingOf st).toList.take i = pre at spl hlt hset
  generalize (pendingOf st).toList.drop (i + 2) = post at spl hset
  obtain ⟨u, n, p1⟩ := r1
  obtain ⟨v, m, p2⟩ := r2
  have ch := R.chain
  rw [spl] at ch
  obtain ⟨t, c1, c2, c3, c4, c5, c6⟩ := chain_app.mp ch
  have c2 : u = t := c2
  have c4 : v = t + n := c4
  subst c2
  subst c4
  have c3 : 0 < n := c3
  have c5 : 0 < m := c5
  have c6 : Chain (u + n + m) post lo := c6
  obtain ⟨i1, i2⟩ := chain_in c6
  obtain ⟨i3, i4⟩ := chain_in c1
  have le := R.le
  refine mergeAt_ok hO h0 R.sb e1 e2 c3 c5 (by omega) (R.runs (u, n, p1) (by rw [spl]; simp)) (R.runs (u + n, m, p2) (by rw [spl]; simp)) fun st' B' pe' sr' out => h st' ⟨B', ?_, fun r hr => ?_, R.le⟩ ?_ fun j hj => out j (.inr (by omega))
  · rw [pe', hset]
    exact chain_app.mpr ⟨u, c1, rfl, by show 0 < n + m; omega, by show Chain (u + (n + m)) post lo; rw [show u + (n + m) = u + n + m by omega]; exact c6⟩
  · rw [pe', hset, List.mem_append] at hr
    rcases hr with hr | hr
    · have := i4 r hr
      exact (R.runs r (by rw [spl]; simp [hr])).same fun j h1 h2 => out j (.inl (by omega))
    · rcases List.mem_cons.mp hr with z | hr
      · rw [z]
        show SR κ (arrOf st') u (u + (n + m))
        rw [show u + (n + m) = u + n + m by omega]
        exact sr'
      · have := i2 r hr
        exact (R.runs r (by rw [spl]; simp [hr])).same fun j h1 h2 => out j (.inr (by omega))
  · have z1 := congrArg List.length (hset (u, n + m, p1))
    have z2 := congrArg List.length spl
    rw [← pe', Array.length_toList] at z1
    rw [Array.length_toList] at z2
    rw [z1, z2]
    simp
    omega
theorem ite_le (c : Prop) [Decidable c] (i : Nat) : (if c then i - 1 else i) ≤ i := by
  split
  · omega
  · exact Nat.le_refl _
set_option maxHeartbeats 2000000 in
theorem sortRuns_ok (hO : κ.OneLt) (h0 : KeysOf κ a₀) {st : SortSt} (B : SB κ a₀ st) (hp : pendingOf st = #[]) (h2 : 2 ≤ a₀.size) {Q : Unit → SortSt → Prop}
    (h : ∀ st', (arrOf st').Perm a₀ → failedOf st' = none → SR κ (arrOf st') 0 a₀.size → Q () st') : wpS (model prog w) A E s sortRuns' Q st := by
  rw [sortRuns'_eq]
  refine wpS_bind (wpS_get ?_)
  dsimp only
  rw [B.size]
  generalize minRun' a₀.size a₀.size 0 = mr
  refine wpS_bind (wpS_mono (wpS_forRange (I := fun x c st' => ∃ lo, c = (none, lo) ∧ RB κ a₀ st' lo ∧ x ≤ lo ∧ lo ≤ a₀.size) (Q := fun c st' => ∃ lo, c = (none, lo) ∧ RB κ a₀ st' lo ∧ lo = a₀.size) ?step ?fin ⟨0, rfl, ⟨B, by rw [hp]; rfl, fun r hr => by rw [hp] at hr; simp at hr, Nat.zero_le _⟩, Nat.le_refl _, Nat.zero_le _⟩) ?post)
  case fin =>
    rintro c st' ⟨lo, rfl, R, l1, l2⟩
    exact ⟨lo, rfl, R, by omega⟩
  case step =>
    rintro x c st' _ hx ⟨lo, rfl, R, l1, l2⟩
    dsimp only
    by_cases hlo : lo ≥ a₀.size
    · rw [if_pos hlo]
      exact wpS_pure ⟨lo, rfl, R, by omega⟩
    rw [if_neg hlo]
    refine wpS_bind (countRun_ok hO h0 R.sb (by omega) (by omega) fun n st1 k1 n1 n2 u1 => ?_)
    have R1 : RB κ a₀ st1 lo := by
      refine ⟨k1.sb, by rw [k1.pend]; exact R.chain, fun r hr => ?_, R.le⟩
      rw [k1.pend] at hr
      have := (chain_in R.chain).2 r hr
      exact (R.runs r hr).same fun j h1 h2 => k1.low j (by omega)
    dsimp only
    by_cases hmr : n < mr
    · rw [if_pos hmr]
      refine wpS_bind (wpS_lift (wpAny_rule ⟨rfl, ?_⟩))
      refine wpS_bind (binary_ok hO h0 k1.sb n1 (by omega) (by omega) u1 fun st2 k2 u2 => ?_)
      rw [if_neg (by decide)]
      have R2 : RB κ a₀ st2 lo := by
        refine ⟨k2.sb, by rw [k2.pend]; exact R1.chain, fun r hr => ?_, R.le⟩
        rw [k2.pend] at hr
        have := (chain_in R1.chain).2 r hr
        exact (R1.runs r hr).same fun j h1 h2 => k2.low j (by omega)
      have n3 : 1 ≤ min (a₀.size - lo) mr := by omega
      have n4 : lo + min (a₀.size - lo) mr ≤ a₀.size := by omega
      generalize min (a₀.size - lo) mr = n' at u2 n3 n4 ⊢
      refine wpS_bind (wpS_get ?_)
      cases hb : (pendingOf st2).back? with
      | none =>
        dsimp only
        refine wpS_bind (wpS_modify (wpS_pure ⟨_, rfl, R2.push u2 n3 n4, by omega, by omega⟩))
      | some r =>
        obtain ⟨sx, nx, px⟩ := r
        dsimp only
        refine wpS_bind (wpS_mono (wpS_forRange (I := fun _ c st' => c = (none, ()) ∧ RB κ a₀ st' lo ∧ Up κ (arrOf st') lo (lo + n')) (Q := fun c st' => c = (none, ()) ∧ RB κ a₀ st' lo ∧ Up κ (arrOf st') lo (lo + n')) ?sm (fun _ _ hh => hh) ⟨rfl, R2, u2⟩) ?pm)
        case sm =>
          rintro y c st' _ _ ⟨rfl, R, U⟩
          refine wpS_bind (wpS_get ?_)
          by_cases hp : (pendingOf st').size > 1
          · rw [if_pos hp]
            have e2 : (pendingOf st')[(pendingOf st').size - 2]? = some (pendingOf st')[(pendingOf st').size - 2] := getElem?_pos _ _ (by omega)
            rw [e2]
            generalize (pendingOf st')[(pendingOf st').size - 2] = r2
            obtain ⟨x1, x2, x3⟩ := r2
            dsimp only
            split
            · exact wpS_pure ⟨rfl, R, U⟩
            · refine wpS_bind (merge_rb hO h0 R (by omega) fun st2 R2 _ k2 => ?_)
              rw [if_neg (by decide)]
              exact wpS_pure ⟨rfl, R2, U.same k2⟩
          · rw [if_neg hp]
            exact wpS_pure ⟨rfl, R, U⟩
        case pm =>
          rintro c st' ⟨rfl, R, U⟩
          dsimp only
          refine wpS_bind (wpS_modify (wpS_bind (wpS_modify (wpS_pure ⟨_, rfl, (R.repow).push U n3 n4, by omega, by omega⟩))))
    · rw [if_neg hmr]
      refine wpS_bind (wpS_get ?_)
      cases hb : (pendingOf st1).back? with
      | none =>
        dsimp only
        refine wpS_bind (wpS_modify (wpS_pure ⟨_, rfl, R1.push u1 n1 (by omega), by omega, by omega⟩))
      | some r =>
        obtain ⟨sx, nx, px⟩ := r
        dsimp only
        refine wpS_bind (wpS_mono (wpS_forRange (I := fun _ c st' => c = (none, ()) ∧ RB κ a₀ st' lo ∧ Up κ (arrOf st') lo (lo + n)) (Q := fun c st' => c = (none, ()) ∧ RB κ a₀ st' lo ∧ Up κ (arrOf st') lo (lo + n)) ?sm (fun _ _ hh => hh) ⟨rfl, R1, u1⟩) ?pm)
        case sm =>
          rintro y c st' _ _ ⟨rfl, R, U⟩
          refine wpS_bind (wpS_get ?_)
          by_cases hp : (pendingOf st').size > 1
          · rw [if_pos hp]
            have e2 : (pendingOf st')[(pendingOf st').size - 2]? = some (pendingOf st')[(pendingOf st').size - 2] := getElem?_pos _ _ (by omega)
            rw [e2]
            generalize (pendingOf st')[(pendingOf st').size - 2] = r2
            obtain ⟨x1, x2, x3⟩ := r2
            dsimp only
            split
            · exact wpS_pure ⟨rfl, R, U⟩
            · refine wpS_bind (merge_rb hO h0 R (by omega) fun st2 R2 _ k2 => ?_)
              rw [if_neg (by decide)]
              exact wpS_pure ⟨rfl, R2, U.same k2⟩
          · rw [if_neg hp]
            exact wpS_pure ⟨rfl, R, U⟩
        case pm =>
          rintro c st' ⟨rfl, R, U⟩
          dsimp only
          refine wpS_bind (wpS_modify (wpS_bind (wpS_modify (wpS_pure ⟨_, rfl, (R.repow).push U n1 (by omega), by omega, by omega⟩))))
  case post =>
    rintro c st' ⟨lo, rfl, R, rfl⟩
    dsimp only
    have hlen := (chain_in R.chain).1
    rw [Array.length_toList] at hlen
    refine wpS_bind (wpS_mono (wpS_forRange (I := fun x c st' => c = (none, ()) ∧ RB κ a₀ st' a₀.size ∧ ((pendingOf st').size ≤ 1 ∨ (pendingOf st').size + x ≤ a₀.size)) (Q := fun c st' => c = (none, ()) ∧ RB κ a₀ st' a₀.size ∧ (pendingOf st').size ≤ 1) ?s2 ?f2 ⟨rfl, R, .inr (by omega)⟩) ?p2)
    case f2 =>
      rintro c st' ⟨rfl, R, hh⟩
      exact ⟨rfl, R, by omega⟩
    case s2 =>
      rintro x c st' _ hx ⟨rfl, R, hh⟩
      refine wpS_bind (wpS_get ?_)
      by_cases hp1 : (pendingOf st').size ≤ 1
      · rw [if_pos hp1]
        exact wpS_pure ⟨rfl, R, hp1⟩
      rw [if_neg hp1]
      refine wpS_bind (merge_rb hO h0 R ?_ fun st2 R2 z2 _ => ?_)
      · exact Nat.lt_of_le_of_lt (Nat.add_le_add_right (ite_le _ _) 1) (by omega)
      · rw [if_neg (by decide)]
        exact wpS_pure ⟨rfl, R2, by omega⟩
    case p2 =>
      rintro c st' ⟨rfl, R, hp1⟩
      refine wpS_pure (h st' R.sb.perm R.sb.failed ?_)
      have ch := R.chain
      have ru := R.runs
      have hl : (pendingOf st').toList.length ≤ 1 := by rw [Array.length_toList]; exact hp1
      generalize (pendingOf st').toList = L at ch ru hl
      match L, hl with
      | [], _ =>
        have : 0 = a₀.size := ch
        omega
      | [r], _ =>
        obtain ⟨c1, c2, c3⟩ := ch
        have c3 : 0 + r.2.1 = a₀.size := c3
        have := ru r (by simp)
        rw [c1, c3] at this
        exact this
end
end TS
end
section
set_option Elab.async false
set_option linter.all false
set_option maxRecDepth 100000
namespace TS
open PySem PyProof.Rows
theorem SR.toK {κ : KeyKind} {xs : Array Keyed} {n : Nat} (h : SR κ xs 0 n) (hn : n ≤ xs.size) : SortedToK κ xs n := fun i j hij hj => by
  obtain ⟨p, ep⟩ := at_of_lt (show i < xs.size by omega)
  obtain ⟨q, eq⟩ := at_of_lt (show j < xs.size by omega)
  have := h i j p q (Nat.zero_le _) hij hj ep eq
  unfold KK
  rw [ep, eq]
  exact this
section
variable {prog : Program} {w : World} {A : Around} {E : Value → Shared → Prop} {s : Shared} {κ : KeyKind}
set_option maxHeartbeats 1000000 in
theorem sort_many (hO : κ.OneLt) {a : Addr} {vs : List Value} {n : Nat} {P : PySem.Fin → Shared → Prop} (ho : s.heap.get? a = some (seqObj "list" vs.toArray n)) (h0 : KeysOf κ (pairsOf vs)) (hkk : keyKind' vs.toArray = pure oneType') (h2 : 2 ≤ vs.length) (hz : vs.length ≤ sizeLine)
    (h : ∀ st' : SortSt, (arrOf st').Perm (pairsOf vs) → SortedToK κ (arrOf st') (pairsOf vs).size → P (.done (.ret .none)) { s with heap := sortedHeap s.heap a vs ((arrOf st').map (·.2)) }) : wpAny (model prog w) A (Builtin.«list.sort» ⟨[.ref a], []⟩) P E s := by
  have ha : a < s.heap.objs.size := Heap.lt_size ho; have hza : vs.toArray.size = vs.length := by simp
  rw [list_sort_plain]; refine wpAny_bind (listItems_at ho rfl (wpAny_bind (listUpdate_at ho rfl ?_ (by rw [hza]; exact hz))))
  have ho1 := get?_update_seq ho (fun _ => #[])
  generalize (if ((fun _ => #[] : Array Value → Array Value) vs.toArray).size == vs.toArray.size then n else n + 1) = e1 at ho1
  refine wpAny_bind (seqEpoch_at ho1 rfl (wpAny_bind (wpAny_newTuple (wpAny_bind (wpAny_newList (wpAny_holding ?_))) (by simpa using hz))))
  generalize eh6 : ((s.heap.update a (Obj.mapSeq fun _ => #[])).push (seqObj "tuple" vs.toArray 0)).push (seqObj "list" #[] 0) = h6
  have ho6 : h6.get? a = some (seqObj "list" #[] e1) := by
    rw [← eh6, Heap.get?_push_ne _ _ _ (by rw [size_push', Heap.size_update]; exact Nat.ne_of_lt (Nat.lt_succ_of_lt ha)), Heap.get?_push_ne _ _ _ (by rw [Heap.size_update]; exact Nat.ne_of_lt ha)]; exact ho1
  have h2' : ¬ vs.toArray.size < 2 := by rw [hza]; omega
  show wpAny (model prog w) A _ P E { s with heap := h6 }
  dsimp only; rw [if_neg h2', if_neg h2', hkk]
  refine wpAny_bind (wpAny_pure ?_)
  have fin : ∀ st' : SortSt, (arrOf st').Perm (pairsOf vs) → SortedToK κ (arrOf st') (pairsOf vs).size → P (.done (.ret .none)) { s with heap := h6.update a (Obj.mapSeq fun _ => (arrOf st').map (·.2)) } := fun st' a1 a2 => by
    have := h st' a1 a2
    unfold sortedHeap at this
    rw [eh6] at this
    exact this
  refine wpAny_bind (wpAny_mono (sortRuns_ok (κ := κ) hO (a₀ := pairsOf vs) (st := SortSt.mk' oneType' (vs.toArray.zip vs.toArray) #[] 7 none) (Q := fun _ st' => (arrOf st').Perm (pairsOf vs) ∧ failedOf st' = none ∧ SR κ (arrOf st') 0 (pairsOf vs).size) h0 ⟨rfl, rfl, Array.Perm.refl _⟩ rfl (by rw [pairsOf_size]; exact h2) fun st' a1 a2 a3 => ⟨a1, a2, a3⟩) ?_ fun _ _ e => e)
  rintro ⟨⟨⟩, st'⟩ s' ⟨rfl, hp, hf, hs⟩
  have zo : ((arrOf st').map (·.2)).size = vs.length := by rw [Array.size_map, hp.size_eq, pairsOf_size]
  dsimp only; refine wpAny_bind (seqEpoch_at ho6 rfl (wpAny_bind (listUpdate_at ho6 rfl ?_ (by show 0 ≤ sizeLine; omega) (by show ((arrOf st').map (·.2)).size ≤ sizeLine + 1; omega))))
  rw [hf]; simp only [bne_self_eq_false, Bool.false_eq_true, if_false]
  exact wpAny_pure (fin st' hp (hs.toK (by rw [hp.size_eq]; exact Nat.le_refl _)))
end
end TS
namespace TS
open PySem PyProof.Rows
def numKind : KeyKind where
  α := Int
  blt a b := decide (a < b)
  irrefl a := decide_eq_false (Int.lt_irrefl a)
  trans a b c h1 h2 := decide_eq_true (Int.lt_trans (of_decide_eq_true h1) (of_decide_eq_true h2))
  negTrans a b c h := by
    have h := of_decide_eq_true h
    by_cases z : a < b
    · exact .inl (decide_eq_true z)
    · exact .inr (decide_eq_true (by omega))
  total a b h1 h2 := by
    have h1 := of_decide_eq_false h1
    have h2 := of_decide_eq_false h2
    omega
  keyOf v := match v with
    | .int n _ => some n
    | _ => none
  dflt := 0
theorem num_lt : numKind.OneLt := by
  intro prog w A E s x y a b Q hx hy q
  cases x with
  | int n t =>
    cases y with
    | int m u =>
      cases (show some n = some a from hx)
      cases (show some m = some b from hy)
      exact oneLt_int q
    | _ => cases hy
  | _ => cases hx
theorem num_keys {vs : List Value} {ns : List Int} (h : IntsAre vs ns) : KeysOf numKind (pairsOf vs) := fun p hp => by
  obtain ⟨n, t, e⟩ := h.intKeys p hp
  exact ⟨n, by rw [e]; rfl⟩
theorem num_sorted {xs : Array Keyed} {n : Nat} (h : SortedToK numKind xs n) : SortedTo xs n := fun i j hij hj => by
  have := h i j hij hj
  have e : ∀ k, KK numKind xs k = K xs k := fun k => by
    unfold KK K
    cases xs[k]? with
    | none => rfl
    | some p =>
      dsimp only
      cases p.1 <;> rfl
  rw [e, e] at this
  have this : decide (K xs j < K xs i) = false := this
  have := of_decide_eq_false this
  omega
end TS
namespace L2
open PySem PySem.Spec PyProof.Rows
section
variable {X : Cx}
def rSortedN : List V → Hp → VK → Prop := fun xs H Q => ∃ d kvs ns, xs = [.ref d] ∧ H d = some (.dK kvs) ∧ kvs.map (·.1) = ns.map Sum.inl ∧ ns.length ≤ 100000 ∧
  ∀ p ms, List.Perm ms ns → ms.Pairwise (· ≤ ·) → H p = none → Q (.ref p) (upd H p (.lst (ms.map .int)))
theorem call_sortedN (hc : X.calm = true) : CallR X (.builtin "sorted") rSortedN := by
  intro pins s σ H xs us Q I r h
  obtain ⟨d, kvs, ns, rfl, hd, hk, hl, q⟩ := h
  by_cases h64 : ns.length < 64
  · exact call_sortedI hc pins s σ H _ us Q I r ⟨d, kvs, ns, rfl, hd, hk, h64, q⟩
  have hl' : ns.length ≤ sizeLine := Nat.le_trans hl (by decide)
  cases r with
  | cons r1 r2 =>
    cases r2
    cases (show _ = Value.ref d from r1)
    obtain ⟨hz, hsm, vs, rel, o, es, ep, dd⟩ := dk_of I.hok hd
    have hh : X.A.in1.handled = none := I.ok.hd hc
    have hlen : vs.length = ns.length := by
      have h1 := rel.length
      have h2 := congrArg List.length hk
      rw [List.length_map, List.length_map] at h2
      omega
    have hkv : vs.map (·.1) = ns.map Sum.inl := by rw [← kv_keys rel]; exact hk
    refine wpAny_call (codeAny_call_builtin plain_sorted entry_sorted (wpAny_of_eq (sorted_check _) ?_))
    show wpAny _ _ (checkCount "sorted" 1 1 1 >>= _) _ _ s
    refine wpAny_bind (wpAny_of_eq (a := ()) (by rfl) ?_)
    refine wpAny_bind (PySem.W.kdu_collect (PySem.W.kdl_dict (knd := mixKind X.prog X.w) (kvs := vs) (ep := ep) hsm) hh ⟨o, es, dd⟩ (by rw [hlen]; exact hl') fun h' tk acc keep hit => ?_)
    have hacc : acc.toList.length = vs.length := by
      have := hit.1
      simpa using this
    have hints : IntsAre acc.toList ns := keys_ints (prog := X.prog) (w := X.w) hkv hacc fun j v hv => hit.2 j v (by simpa using hv)
    refine wpAny_bind (wpAny_newList ?_ (by rw [hacc, hlen]; exact hl'))
    generalize eh2 : h'.push { cls := .type "list", data := .seq acc.toList.toArray } = h2
    have g2 : h2.get? h'.objs.size = some (seqObj "list" acc.toList.toArray 0) := by
      rw [← eh2]
      exact Heap.get?_push_size _ rfl
    refine wpAny_bind (wpAny_holding ?_)
    refine wpAny_call_entry (T := "list") PyProof.Rows.slot_list_sort ⟨_, g2, rfl⟩ PyProof.Rows.entry_list_sort ?_ (PyProof.Rows.args_list_sort _)
    have hkk : keyKind' acc.toList.toArray = pure oneType' := by
      match hq : acc.toList, hints, hacc with
      | [], _, hacc => rw [hlen] at hacc; simp at hacc; omega
      | [_], _, hacc => rw [hlen] at hacc; simp at hacc; omega
      | v₁ :: v₂ :: rest, hints, _ => exact keyKind_ints hints
    refine TS.sort_many TS.num_lt g2 (TS.num_keys hints) hkk (by rw [hacc, hlen]; omega) (by rw [hacc, hlen]; exact hl') fun st' p1 p2 => ?_
    obtain ⟨ms, hout, perm, pw⟩ := sorted_out hints p1 (TS.num_sorted p2)
    generalize (arrOf st').map (fun x => x.snd) = out at hout
    refine ⟨_, rfl, wpAny_pure ?_⟩
    obtain ⟨ep2, gat⟩ := sortedHeap_at (h := h2) (a := h'.objs.size) (vs := acc.toList) (out := out) g2
    have hf : H h'.objs.size = none := (I.kept (t' := tk) keep).hok.fresh (Nat.le_refl _)
    refine ⟨.ref h'.objs.size, upd H h'.objs.size (.lst (ms.map .int)), (I.kept (t' := tk) keep).laid (t' := tk) (fun b u e => ?_) (Nat.le_refl _) ?_, rfl, q _ ms perm pw hf⟩
    · have hb : b < h'.objs.size := Heap.lt_size e
      have h2s : h2.objs.size = h'.objs.size + 1 := by rw [← eh2]; exact Heap.size_push _ _
      rw [sortedHeap_old (Nat.ne_of_lt hb) (by rw [h2s]; exact Nat.lt_succ_of_lt hb), ← eh2]
      exact Heap.get?_push_of_some _ e
    · refine ⟨?_, out.toList, ep2, vals_ints hout, ?_⟩
      · rw [List.length_map, perm.length_eq]
        exact hl'
      · simpa [seqObj] using gat
def rSortedT : List V → Hp → VK → Prop := fun xs H Q => ∃ d kvs ns, xs = [.ref d] ∧ H d = some (.dK kvs) ∧ kvs.map (·.1) = ns.map Sum.inr ∧ ns.length ≤ 100000 ∧
  ∀ p ms, List.Perm ms ns → sortedS ms = true → H p = none → Q (.ref p) (upd H p (.lst (ms.map .str)))
end
theorem sortedI_one {l l' : List Int} (p : l.Perm l') (h : l.Pairwise (· ≤ ·)) (h' : l'.Pairwise (· ≤ ·)) : l = l' := sorted_one (fun a b h1 h2 => Int.le_antisymm h1 h2) p h h'
end L2
end
section
set_option Elab.async false
set_option linter.all false
set_option maxRecDepth 100000
namespace L2
open PySem PySem.Spec PyProof.Rows
section
variable {X : Cx}
/-- x = f(..) under try -/
theorem psx_set {i : Nat} {x : Str} {e : Expr} {te : TEX} {pos pos' : Pos} (hN : X.N.Nodup) (hi : X.N[i]? = some x) (hx : Loc X.env.scope x) (he : PEx X e te) (hs : swapsWith e (some (.Name x pos')) pos.line X.env = pure false := by rfl) (hf : X.fn x = true ∨ X.env.scope.names.lookup x = some .local := by first | exact .inl rfl | exact .inr rfl | assumption) :
    PSx X (.Assign [.Name x pos'] e pos) (fun D R σ H => te σ H (fun v H1 => D.nx (σ.set i (some v)) H1) (fun c H' => R c σ H')) := by
  intro pins s σ H D R I hw
  refine wpAny_Assign_Name (wpAny_mono (he pins s σ H _ _ I hw) (fun v s1 ⟨y, H1, I1, r1, q1⟩ => ?_) fun ev s' ⟨a, cls, σ', H', he, F, hσ, q⟩ => ⟨a, cls, σ', H', he, F, by rw [hσ]; exact q⟩) hs
  exact store_ok I1 hN hi hx r1 (fun s2 I2 => ⟨_, H1, I2, q1⟩) hf
end
end L2
end
section
set_option Elab.async false
set_option linter.all false
set_option maxRecDepth 100000
namespace Qh
open PySem L2
local macro_rules | `(tactic| trivial) => `(tactic| first | rfl | decide | exact .inl rfl | exact .inr rfl | exact .inr (.inl rfl) | exact .inr (.inr rfl) | (intro _; rfl) | with_unfolding_all rfl)
def top (i : Nat) : Stmt := PySem.Challenge.pw_queuehold_k10_whole_rows_of_none.main.body.getD i (.Pass ⟨0, 0, 0, 0⟩)
abbrev s_is_number : Stmt := top 7
abbrev s_is_bytes : Stmt := top 8
abbrev s_fits_kind : Stmt := top 15
abbrev s_is_row : Stmt := top 16
theorem bt_len : bootBuiltins "len" = some (.builtin "len") := by decide +kernel
theorem bt_isinstance : bootBuiltins "isinstance" = some (.builtin "isinstance") := by decide +kernel
theorem bt_all : bootBuiltins "all" = some (.builtin "all") := by decide +kernel
theorem bt_sum : bootBuiltins "sum" = some (.builtin "sum") := by decide +kernel
theorem bt_tuple : bootBuiltins "tuple" = some (.type "tuple") := by decide +kernel
theorem bt_list : bootBuiltins "list" = some (.type "list") := by decide +kernel
theorem bt_int : bootBuiltins "int" = some (.type "int") := by decide +kernel
theorem bt_bool : bootBuiltins "bool" = some (.type "bool") := by decide +kernel
theorem bt_str : bootBuiltins "str" = some (.type "str") := by decide +kernel
/-! what the program says of data -/
def kinds : List Str := ["put", "out", "done", "from", "part", "deal", "carried", "new"]
structure TxtR (K : PySem.W.Frag) (mg : Str → Option Value) (a_KINDS C_BadRow : Addr) : Prop where
  n_len : mg "len" = none
  n_isinstance : mg "isinstance" = none
  n_all : mg "all" = none
  n_sum : mg "sum" = none
  n_tuple : mg "tuple" = none
  n_int : mg "int" = none
  n_bool : mg "bool" = none
  n_str : mg "str" = none
  n_range : mg "range" = none
  n_enumerate : mg "enumerate" = none
  c_HIGHEST_BYTE : ∃ t, mg "HIGHEST_BYTE" = some (.int 255 t)
  c_HIGHEST_NUMBER : ∃ t, mg "HIGHEST_NUMBER" = some (.int 999999 t)
  c_LONGEST_BODY : ∃ t, mg "LONGEST_BODY" = some (.int 60 t)
  c_HIGHEST_TIMES : ∃ t, mg "HIGHEST_TIMES" = some (.int 9 t)
  c_LARGEST_DEAL : ∃ t, mg "LARGEST_DEAL" = some (.int 9 t)
  c_KINDS : mg "KINDS" = some (.ref a_KINDS)
  k_KINDS : ∀ H, SqT K H a_KINDS (kinds.map V.str)
  l_KINDS : ∃ o, K.lookup a_KINDS = some o ∧ o.cls = .type "tuple" ∧ o.dict = none
  x_BadRow : excIn K C_BadRow = true
  m_BadRow : mg "BadRow" = some (.ref C_BadRow)
def isNum (lo hi : Int) : PyData → Bool
  | .int i => decide (lo ≤ i) && decide (i ≤ hi)
  | _ => false
def isByt : PyData → Bool
  | .tuple ds => ds.all (isNum 0 255)
  | _ => false
def fitsK (k : Str) (ns : List Int) : Bool :=
  if k = "put" ∨ k = "part" then decide (ns.length ≤ 60)
  else if k = "carried" then decide (1 ≤ ns.length) && decide (ns.length ≤ 61) && decide (ns.headD 0 ≤ 9)
  else if k = "deal" then decide (ns.length = 1) && decide (1 ≤ ns.headD 0) && decide (ns.headD 0 ≤ 9)
  else decide (ns.length = 0)
def sp_is_number : Sp := fun vs H Q _ => ∃ v d lo hi, vs = [v, .int lo, .int hi] ∧ Den H d v ∧ Q (.bl (isNum lo hi d)) H
def sp_is_bytes : Sp := fun vs H Q _ => ∃ v d, vs = [v] ∧ Den H d v ∧ (∀ ds, d = .tuple ds → ds.length ≤ sizeLine) ∧ ∀ H', Same H H' → Q (.bl (isByt d)) H'
def sp_fits_kind : Sp := fun vs H Q _ => ∃ k a ns, vs = [.str k, .ref a] ∧ H a = some (.tup (ns.map V.int)) ∧ Q (.bl (fitsK k ns)) H
theorem dstr_eq {a b : Str} (h : a = b) : decide (V.str a = V.str b) = true := decide_eq_true (by rw [h])
theorem dstr_ne {a b : Str} (h : ¬ a = b) : decide (V.str a = V.str b) = false := decide_eq_false (fun z => h (V.str.inj z))
theorem dint_ne {a b : Int} (h : ¬ a = b) : decide (V.int a = V.int b) = false := decide_eq_false (fun z => h (V.int.inj z))
theorem decC (a b c : Int) : (if decide (a ≤ b) = true then decide (b ≤ c) else false) = (decide (a ≤ b) && decide (b ≤ c)) := by
  cases decide (a ≤ b) <;> rfl
section
variable {P : Program} {w : World} {K : PySem.W.Frag} {mg : Str → Option Value} {base : Heap} {a_KINDS C_BadRow : Addr}
theorem sc_is_number : FnScope ["thing", "least", "most"] ["thing", "least", "most"] (defScope s_is_number) := ⟨rfl, rfl, rfl, by decide +kernel, rfl, by decide +kernel, by decide +kernel⟩
theorem ok_is_number {f : Addr} {fd : FuncData} (F : Fun K "is_number" "is_number" s_is_number f fd) (T : TxtR K mg a_KINDS C_BadRow) : FnOk P w K mg base (CXE P w) 1 f fd ["thing", "least", "most"] sp_is_number := by
  refine F.okX sc_is_number (fun vs H Q E h => ?_) (fun cdv A outer s H vs Q E hr h => ?_)
  · obtain ⟨v, d, lo, hi, rfl, _⟩ := h
    rfl
  · obtain ⟨v, d, lo, hi, rfl, hd, q⟩ := h
    refine ⟨_, @pss_cons _ _ _ _ _ (@ps_if _ _ _ _ _ _ _ _ (@PW.pt _ _ _ (@pw_or _ _ _ _ _ _ _ (@pt_val _ _ _ (@pe_callB _ _ _ _ _ _ _ _ _ (call_isiK K) (by rfl) T.n_isinstance bt_isinstance (@pa_Name _ _ _ _ _ _ (@pv _ 0 _ _ (by trivial) (by trivial) (by trivial) (by trivial)) (@pa_Name _ _ _ _ _ _ (@pe_bltn _ _ (.ty "bool") _ _ (by rfl) T.n_bool bt_bool (by rfl) (by trivial) (by trivial)) (@pa_nil _))) (by trivial) (by trivial) (by trivial) (by trivial)) (by trivial)) (@pw_or1 _ _ _ _ (@pt_not _ _ _ _ (@pt_val _ _ _ (@pe_callB _ _ _ _ _ _ _ _ _ (call_isiK K) (by rfl) T.n_isinstance bt_isinstance (@pa_Name _ _ _ _ _ _ (@pv _ 0 _ _ (by trivial) (by trivial) (by trivial) (by trivial)) (@pa_Name _ _ _ _ _ _ (@pe_bltn _ _ (.ty "int") _ _ (by rfl) T.n_int bt_int (by rfl) (by trivial) (by trivial)) (@pa_nil _))) (by trivial) (by trivial) (by trivial) (by trivial)) (by trivial)))))) (@pss_one _ _ _ (@ps_ret _ _ _ _ (@pe_bl _ _ _ _))) (@pss_nil _)) (@pss_one _ _ _ (@ps_ret _ _ _ _ (@pe_chain _ _ _ _ _ _ _ _ _ _ _ _ op_le op_le (@pv _ 1 _ _ (by trivial) (by trivial) (by trivial) (by trivial)) (@pv _ 0 _ _ (by trivial) (by trivial) (by trivial) (by trivial)) (@pv _ 2 _ _ (by trivial) (by trivial) (by trivial) (by trivial)) (by trivial)))), ?_⟩
    refine ⟨_, rfl, _, _, _, _, rfl, hd.ty, kit_bool d, _, rfl, ?_⟩
    cases d with
    | bool b => exact iteT (iteT q)
    | int i =>
      refine iteF ⟨_, rfl, _, _, _, _, rfl, hd.ty, kit_int _, _, rfl, iteF ?_⟩
      have e : v = .int i := by simpa only [Den] using hd
      subst e
      refine ⟨_, rfl, _, rfl, _, _, rfl, rfl, _, rfl, ?_⟩
      simp only [isNum] at q
      by_cases h1 : lo ≤ i
      · rw [if_pos (decide_eq_true h1)]
        refine ⟨_, rfl, _, _, rfl, rfl, ?_⟩
        rw [decide_eq_true h1, Bool.true_and] at q
        exact q
      · rw [if_neg (by simpa using h1)]
        rw [decide_eq_false h1, Bool.false_and] at q
        exact q
    | none => exact iteF ⟨_, rfl, _, _, _, _, rfl, hd.ty, kit_int _, _, rfl, iteT q⟩
    | str x => exact iteF ⟨_, rfl, _, _, _, _, rfl, hd.ty, kit_int _, _, rfl, iteT q⟩
    | tuple x => exact iteF ⟨_, rfl, _, _, _, _, rfl, hd.ty, kit_int _, _, rfl, iteT q⟩
    | list x => exact iteF ⟨_, rfl, _, _, _, _, rfl, hd.ty, kit_int _, _, rfl, iteT q⟩
    | dict x => exact iteF ⟨_, rfl, _, _, _, _, rfl, hd.ty, kit_int _, _, rfl, iteT q⟩
theorem sc_is_bytes : FnScope ["thing"] ["thing"] (defScope s_is_bytes) := ⟨rfl, rfl, rfl, by decide +kernel, rfl, by decide +kernel, by decide +kernel⟩
theorem ok_is_bytes {f : Addr} {fd : FuncData} (F : Fun K "is_bytes" "is_bytes" s_is_bytes f fd) (T : TxtR K mg a_KINDS C_BadRow) (c_is_number : Callee P w K mg base "is_number" 1 ["thing", "least", "most"] sp_is_number) : FnOk P w K mg base (CXE P w) 2 f fd ["thing"] sp_is_bytes := by
  obtain ⟨_, hc_HIGHEST_BYTE⟩ := T.c_HIGHEST_BYTE
  refine F.okX sc_is_bytes (fun vs H Q E h => ?_) (fun cdv A outer s H vs Q E hr h => ?_)
  · obtain ⟨v, d, rfl, _⟩ := h
    rfl
  · obtain ⟨v, d, rfl, hd, hz, q⟩ := h
    refine ⟨_, @pss_one _ _ _ (@ps_ret _ _ _ _ (@pe_and _ _ _ _ _ _ _ (@pe_callB _ _ _ _ _ _ _ _ _ (call_isiK K) (by rfl) T.n_isinstance bt_isinstance (@pa_Name _ _ _ _ _ _ (@pv _ 0 _ _ (by trivial) (by trivial) (by trivial) (by trivial)) (@pa_Name _ _ _ _ _ _ (@pe_bltn _ _ (.ty "tuple") _ _ (by rfl) T.n_tuple bt_tuple (by rfl) (by trivial) (by trivial)) (@pa_nil _))) (by trivial) (by trivial) (by trivial) (by trivial)) (@pe_one _ _ _ _ _ (@pe_callB _ _ _ _ _ _ _ _ _ (call_allK K) (by rfl) T.n_all bt_all (@pa_ListComp _ _ _ _ _ _ _ _ (@pe_comp _ _ _ _ _ _ _ _ _ _ _ ["one"] [] (by rfl) (@pi_tupK _ K _ _ _ (@pv _ 0 _ _ (by trivial) (by trivial) (by trivial) (by trivial)) (by trivial)) (fun C s2 H2 ex => (@pg_name _ _ (0) _ (show List.Nodup (["one"] : List Str) by decide +kernel) (by rfl) (Or.inl (by rfl)) (by trivial))) (fun C s2 H2 ex => (@pif_nil _)) (fun C s2 H2 ex => (@pe_fn _ _ _ _ _ _ _ _ _ _ _ c_is_number (hr.mono (by decide)) passN (@pa_Name _ _ _ _ _ _ (@pv _ 0 _ _ (by trivial) (by trivial) (by trivial) (by trivial)) (@pa_Constant _ _ _ _ _ _ _ (@pe_int _ _ _ _) (@pa_Name _ _ _ _ _ _ (@pe_glob _ _ (.int 255) _ _ (by rfl) hc_HIGHEST_BYTE ⟨_, rfl⟩ (by trivial)) (@pa_nil _)))) (by trivial) (by trivial) (by trivial) (by trivial))) (by trivial) (by trivial) (by trivial) (by trivial)) (@pa_nil _)) (by trivial) (by trivial) (by trivial) (by trivial))))), ?_⟩
    refine ⟨_, rfl, _, _, _, _, rfl, hd.ty, kit_tuple d, _, rfl, ?_⟩
    cases d with
    | tuple ds =>
      refine iteT ?_
      have hd' := hd
      simp only [Den] at hd'
      obtain ⟨a, xs, rfl, ha, hds⟩ := hd'
      have hl := hds.length
      refine ⟨_, rfl, a, rfl, ⟨xs, SqT.of ha⟩, ?_⟩
      refine comp_src (src_tup (K := K) (SqT.of ha)) (by rw [hl]; exact hz ds rfl) (fun i y _ => ∃ d, ds[i]? = some d ∧ y = .bl (isNum 0 255 d)) (fun _ _ _ _ _ h => h) (fun σ => σ.length = 1) ?z0 ?_ ?_
      case z0 => rfl
      · intro i x σc H3 hi hσ s3 hx Q' hQ'
        obtain ⟨d, hdi, hdx⟩ := hds.get hx
        match σc, hσ with
        | [z], _ =>
          refine ⟨_, rfl, x, d, 0, 255, rfl, hdx.same s3, ?_⟩
          exact hQ' _ _ _ rfl (Same.refl _) ⟨d, hdi, rfl⟩
      · intro D ys H' hD s' hD' hlen hR
        have ey : ys = (ds.map (isNum 0 255)).map V.bl := by
          apply List.ext_getElem?
          intro i
          cases e : ys[i]? with
          | none =>
            have : ys.length ≤ i := List.getElem?_eq_none_iff.mp e
            rw [List.getElem?_eq_none (by rw [List.length_map, List.length_map]; omega)]
          | some y =>
            obtain ⟨d, h1, h2⟩ := hR i y e
            rw [List.getElem?_map, List.getElem?_map, h1, h2]
            rfl
        refine ⟨D, ds.map (isNum 0 255), rfl, SqL.of (by rw [hD', ey]), ?_⟩
        have := q H' s'
        simp only [isByt] at this
        rw [List.all_map]
        exact this
    | none => exact iteF (q H (Same.refl H))
    | bool x => exact iteF (q H (Same.refl H))
    | int x => exact iteF (q H (Same.refl H))
    | str x => exact iteF (q H (Same.refl H))
    | list x => exact iteF (q H (Same.refl H))
    | dict x => exact iteF (q H (Same.refl H))
theorem sc_fits_kind : FnScope ["kind", "body"] ["kind", "body"] (defScope s_fits_kind) := ⟨rfl, rfl, rfl, by decide +kernel, rfl, by decide +kernel, by decide +kernel⟩
theorem ok_fits_kind {f : Addr} {fd : FuncData} (F : Fun K "fits_kind" "fits_kind" s_fits_kind f fd) (T : TxtR K mg a_KINDS C_BadRow) : FnOk P w K mg base (CXE P w) 1 f fd ["kind", "body"] sp_fits_kind := by
  obtain ⟨_, hc_LONGEST_BODY⟩ := T.c_LONGEST_BODY
  obtain ⟨_, hc_HIGHEST_TIMES⟩ := T.c_HIGHEST_TIMES
  obtain ⟨_, hc_LARGEST_DEAL⟩ := T.c_LARGEST_DEAL
  refine F.okX sc_fits_kind (fun vs H Q E h => ?_) (fun cdv A outer s H vs Q E hr h => ?_)
  · obtain ⟨k, a, ns, rfl, _⟩ := h
    rfl
  · obtain ⟨k, a, ns, rfl, ha, q⟩ := h
    refine ⟨_, @pss_cons _ _ _ _ _ (@ps_if _ _ _ _ _ _ _ _ (@PW.pt _ _ _ (@pw_or _ _ _ _ _ _ _ (@pt_cmpR _ _ _ _ _ _ _ _ op_eq (@pv _ 0 _ _ (by trivial) (by trivial) (by trivial) (by trivial)) (@pe_str _ _ _ _) (nomark _)) (@pw_or1 _ _ _ _ (@pt_cmpR _ _ _ _ _ _ _ _ op_eq (@pv _ 0 _ _ (by trivial) (by trivial) (by trivial) (by trivial)) (@pe_str _ _ _ _) (nomark _))))) (@pss_one _ _ _ (@ps_ret _ _ _ _ (@pe_cmpR _ _ _ _ _ _ _ _ op_le (@pe_callB _ _ _ _ _ _ _ _ _ (call_lenK K) (by rfl) T.n_len bt_len (@pa_Name _ _ _ _ _ _ (@pv _ 1 _ _ (by trivial) (by trivial) (by trivial) (by trivial)) (@pa_nil _)) (by trivial) (by trivial) (by trivial) (by trivial)) (@pe_glob _ _ (.int 60) _ _ (by rfl) hc_LONGEST_BODY ⟨_, rfl⟩ (by trivial)) (nomark _)))) (@pss_nil _)) (@pss_cons _ _ _ _ _ (@ps_if _ _ _ _ _ _ _ _ (@pt_cmpR _ _ _ _ _ _ _ _ op_eq (@pv _ 0 _ _ (by trivial) (by trivial) (by trivial) (by trivial)) (@pe_str _ _ _ _) (nomark _)) (@pss_one _ _ _ (@ps_ret _ _ _ _ (@pe_and _ _ _ _ _ _ _ (@pe_chain _ _ _ _ _ _ _ _ _ _ _ _ op_le op_le (@pe_int _ _ _ _) (@pe_callB _ _ _ _ _ _ _ _ _ (call_lenK K) (by rfl) T.n_len bt_len (@pa_Name _ _ _ _ _ _ (@pv _ 1 _ _ (by trivial) (by trivial) (by trivial) (by trivial)) (@pa_nil _)) (by trivial) (by trivial) (by trivial) (by trivial)) (@pe_op _ _ _ _ _ _ _ _ op_add (@pe_int _ _ _ _) (@pe_glob _ _ (.int 60) _ _ (by rfl) hc_LONGEST_BODY ⟨_, rfl⟩ (by trivial))) (by trivial)) (@pe_one _ _ _ _ _ (@pe_cmpR _ _ _ _ _ _ _ _ op_le (@pe_ix _ _ _ _ _ _ _ (ix_tupK K) (@pv _ 1 _ _ (by trivial) (by trivial) (by trivial) (by trivial)) (@pe_int _ _ _ _) (fun _ _ => rfl)) (@pe_glob _ _ (.int 9) _ _ (by rfl) hc_HIGHEST_TIMES ⟨_, rfl⟩ (by trivial)) (nomark _)))))) (@pss_nil _)) (@pss_cons _ _ _ _ _ (@ps_if _ _ _ _ _ _ _ _ (@pt_cmpR _ _ _ _ _ _ _ _ op_eq (@pv _ 0 _ _ (by trivial) (by trivial) (by trivial) (by trivial)) (@pe_str _ _ _ _) (nomark _)) (@pss_one _ _ _ (@ps_ret _ _ _ _ (@pe_and _ _ _ _ _ _ _ (@pe_cmpR _ _ _ _ _ _ _ _ op_eq (@pe_callB _ _ _ _ _ _ _ _ _ (call_lenK K) (by rfl) T.n_len bt_len (@pa_Name _ _ _ _ _ _ (@pv _ 1 _ _ (by trivial) (by trivial) (by trivial) (by trivial)) (@pa_nil _)) (by trivial) (by trivial) (by trivial) (by trivial)) (@pe_int _ _ _ _) (nomark _)) (@pe_one _ _ _ _ _ (@pe_chain _ _ _ _ _ _ _ _ _ _ _ _ op_le op_le (@pe_int _ _ _ _) (@pe_ix _ _ _ _ _ _ _ (ix_tupK K) (@pv _ 1 _ _ (by trivial) (by trivial) (by trivial) (by trivial)) (@pe_int _ _ _ _) (fun _ _ => rfl)) (@pe_glob _ _ (.int 9) _ _ (by rfl) hc_LARGEST_DEAL ⟨_, rfl⟩ (by trivial)) (by trivial)))))) (@pss_nil _)) (@pss_one _ _ _ (@ps_ret _ _ _ _ (@pe_cmpR _ _ _ _ _ _ _ _ op_eq (@pe_callB _ _ _ _ _ _ _ _ _ (call_lenK K) (by rfl) T.n_len bt_len (@pa_Name _ _ _ _ _ _ (@pv _ 1 _ _ (by trivial) (by trivial) (by trivial) (by trivial)) (@pa_nil _)) (by trivial) (by trivial) (by trivial) (by trivial)) (@pe_int _ _ _ _) (nomark _)))))), ?_⟩
    have hsq : SqT K H a (ns.map V.int) := SqT.of ha
    have at0 : ∀ x r, ns = x :: r → atI (ns.map V.int) 0 = some (V.int x) := fun x r e => by
      subst e
      exact atI_nat (j := 0) rfl
    have ln : ((ns.map V.int).length : Int) = (ns.length : Int) := by rw [List.length_map]
    unfold fitsK at q
    refine ⟨_, rfl, rfl, _, rfl, ?_⟩
    by_cases h1 : k = "put"
    · rw [if_pos (.inl h1)] at q
      rw [dstr_eq h1]
      refine iteT (iteT ⟨_, rfl, a, _, rfl, .inr hsq, _, _, rfl, rfl, ?_⟩)
      have e : decide (((ns.map V.int).length : Int) ≤ 60) = decide (ns.length ≤ 60) := by
        apply decide_eq_decide.mpr
        rw [ln]
        omega
      show Q (.bl (decide (((ns.map V.int).length : Int) ≤ 60))) H
      rw [e]
      exact q
    rw [dstr_ne h1]
    refine iteF ⟨_, rfl, rfl, _, rfl, ?_⟩
    by_cases h2 : k = "part"
    · rw [if_pos (.inr h2)] at q
      rw [dstr_eq h2]
      refine iteT ⟨_, rfl, a, _, rfl, .inr hsq, _, _, rfl, rfl, ?_⟩
      have e : decide (((ns.map V.int).length : Int) ≤ 60) = decide (ns.length ≤ 60) := by
        apply decide_eq_decide.mpr
        rw [ln]
        omega
      show Q (.bl (decide (((ns.map V.int).length : Int) ≤ 60))) H
      rw [e]
      exact q
    rw [dstr_ne h2]
    rw [if_neg (by rintro (z | z); exact h1 z; exact h2 z)] at q
    refine iteF ⟨_, rfl, rfl, _, rfl, ?_⟩
    by_cases h3 : k = "carried"
    · rw [if_pos h3] at q
      rw [dstr_eq h3]
      refine iteT ⟨_, rfl, a, _, rfl, .inr hsq, _, _, rfl, rfl, _, rfl, ?_⟩
      by_cases l1 : 1 ≤ ns.length
      · rw [if_pos (decide_eq_true (by rw [ln]; omega))]
        rw [decide_eq_true l1, Bool.true_and] at q
        refine ⟨_, _, rfl, rfl, _, _, rfl, rfl, _, rfl, ?_⟩
        by_cases l2 : ns.length ≤ 61
        · rw [if_pos (decide_eq_true (by rw [ln]; omega))]
          rw [decide_eq_true l2, Bool.true_and] at q
          match ns, l1, at0, q, hsq with
          | x :: r, _, at0, q, hsq =>
            exact ⟨_, rfl, a, _, _, _, rfl, rfl, hsq, at0 x r rfl, _, _, rfl, rfl, q⟩
        · rw [if_neg (by rw [decide_eq_true_eq, ln]; omega)]
          rw [decide_eq_false l2, Bool.false_and] at q
          exact q
      · rw [if_neg (by rw [decide_eq_true_eq, ln]; omega)]
        rw [decide_eq_false l1, Bool.false_and, Bool.false_and] at q
        exact ⟨_, rfl, iteF q⟩
    rw [dstr_ne h3]
    rw [if_neg h3] at q
    refine iteF ⟨_, rfl, rfl, _, rfl, ?_⟩
    by_cases h4 : k = "deal"
    · rw [if_pos h4] at q
      rw [dstr_eq h4]
      refine iteT ⟨_, rfl, a, _, rfl, .inr hsq, rfl, _, rfl, ?_⟩
      match ns, at0, q, hsq with
      | [], at0, q, hsq => exact iteF q
      | [x], at0, q, hsq =>
        refine iteT ⟨_, rfl, a, _, _, _, rfl, rfl, hsq, at0 x [] rfl, _, _, rfl, rfl, _, rfl, ?_⟩
        have q : Q (.bl (decide (1 ≤ x) && decide (x ≤ 9))) H := q
        by_cases l1 : 1 ≤ x
        · rw [if_pos (decide_eq_true l1)]
          rw [decide_eq_true l1, Bool.true_and] at q
          exact ⟨_, _, rfl, rfl, q⟩
        · rw [if_neg (by simpa using l1)]
          rw [decide_eq_false l1, Bool.false_and] at q
          exact q
      | x :: y :: r, at0, q, hsq =>
        have e : decide ((((x :: y :: r).length : Nat) : Int) = 1) = false := decide_eq_false (by simp; omega)
        have e2 : decide ((x :: y :: r).length = 1) = false := decide_eq_false (by simp)
        rw [e2, Bool.false_and, Bool.false_and] at q
        rw [dint_ne (by simp; omega)]
        exact iteF q
    rw [dstr_ne h4]
    rw [if_neg h4] at q
    refine iteF ⟨_, rfl, a, _, rfl, .inr hsq, rfl, ?_⟩
    show Q (.bl (decide (V.int ((ns.map V.int).length : Int) = V.int 0))) H
    have e : decide (V.int ((ns.map V.int).length : Int) = V.int 0) = decide (ns.length = 0) := by
      apply decide_eq_decide.mpr
      rw [ln]
      constructor
      · intro z
        have := V.int.inj z
        omega
      · intro z
        rw [z]
        rfl
    rw [e]
    exact q
def intsOf : PyData → List Int
  | .tuple ds => ds.map fun d => match d with | .int i => i | _ => 0
  | _ => []
def isRowD : PyData → Bool
  | .tuple [.str k, n, b] => kinds.contains k && (isNum 0 999999 n && (isByt b && fitsK k (intsOf b)))
  | _ => false
theorem len3 {α : Type} {l : List α} (h : l.length = 3) : ∃ a b c, l = [a, b, c] := by
  match l, h with
  | [a, b, c], _ => exact ⟨a, b, c, rfl⟩
theorem isRow_len {ds : List PyData} (h : ds.length ≠ 3) : isRowD (.tuple ds) = false := by
  match ds, h with
  | [], _ => rfl
  | [a], _ => cases a <;> rfl
  | [a, b], _ => cases a <;> rfl
  | [_, _, _], h => exact absurd rfl h
  | a :: b :: c :: d :: r, _ => cases a <;> rfl
theorem inV_kinds (k : Str) (ks : List Str) : inV (.str k) (ks.map V.str) = ks.contains k := by
  unfold inV
  rw [List.any_map, List.contains_eq_any_beq]
  congr 1
  funext y
  show (y == k) = (k == y)
  exact Bool.beq_comm
theorem flat_strs (ks : List Str) : (ks.map V.str).all flatV = true := by
  rw [List.all_map]
  exact List.all_eq_true.mpr fun _ _ => rfl
theorem byt_ints {H : Hp} : ∀ {bs : List PyData} {xs : List V}, Dens H bs xs → bs.all (isNum 0 255) = true → xs = (intsOf (.tuple bs)).map V.int
  | [], xs, h, _ => by
    simp only [Dens] at h
    subst h
    rfl
  | d :: bs, xs, h, e => by
    simp only [Dens] at h
    obtain ⟨x, r, e1, h1, h2⟩ := h
    rw [List.all_cons, Bool.and_eq_true] at e
    have e2 := byt_ints h2 e.2
    cases d with
    | int i =>
      simp only [Den] at h1
      rw [e1, h1, e2]
      rfl
    | _ => exact absurd e.1 (by simp [isNum])
def sp_is_row : Sp := fun vs H Q _ => ∃ v d, vs = [v] ∧ Den H d v ∧ (∀ k n bs, d = .tuple [k, n, .tuple bs] → bs.length ≤ sizeLine) ∧ ∀ H', Same H H' → Q (.bl (isRowD d)) H'
theorem sc_is_row : FnScope ["thing", "kind"] ["thing"] (defScope s_is_row) := ⟨rfl, rfl, rfl, by decide +kernel, rfl, by decide +kernel, by decide +kernel⟩
set_option maxHeartbeats 1000000 in
theorem ok_is_row {f : Addr} {fd : FuncData} (F : Fun K "is_row" "is_row" s_is_row f fd) (T : TxtR K mg a_KINDS C_BadRow) (c_is_number : Callee P w K mg base "is_number" 1 ["thing", "least", "most"] sp_is_number)
    (c_is_bytes : Callee P w K mg base "is_bytes" 2 ["thing"] sp_is_bytes) (c_fits_kind : Callee P w K mg base "fits_kind" 1 ["kind", "body"] sp_fits_kind) : FnOk P w K mg base (CXE P w) 3 f fd ["thing"] sp_is_row := by
  obtain ⟨_, hc_HIGHEST_NUMBER⟩ := T.c_HIGHEST_NUMBER
  refine F.okX sc_is_row (fun vs H Q E h => ?_) (fun cdv A outer s H vs Q E hr h => ?_)
  · obtain ⟨v, d, rfl, _⟩ := h
    rfl
  · obtain ⟨v, d, rfl, hd, hz, q⟩ := h
    refine ⟨_, @pss_cons _ _ _ _ _ (@ps_if _ _ _ _ _ _ _ _ (@PW.pt _ _ _ (@pw_or _ _ _ _ _ _ _ (@pt_not _ _ _ _ (@pt_val _ _ _ (@pe_callB _ _ _ _ _ _ _ _ _ (call_isiK K) (by rfl) T.n_isinstance bt_isinstance (@pa_Name _ _ _ _ _ _ (@pv _ 0 _ _ (by trivial) (by trivial) (by trivial) (by trivial)) (@pa_Name _ _ _ _ _ _ (@pe_bltn _ _ (.ty "tuple") _ _ (by rfl) T.n_tuple bt_tuple (by rfl) (by trivial) (by trivial)) (@pa_nil _))) (by trivial) (by trivial) (by trivial) (by trivial)) (by trivial))) (@pw_or1 _ _ _ _ (@pt_cmpR _ _ _ _ _ _ _ _ op_ne (@pe_callB _ _ _ _ _ _ _ _ _ (call_lenK K) (by rfl) T.n_len bt_len (@pa_Name _ _ _ _ _ _ (@pv _ 0 _ _ (by trivial) (by trivial) (by trivial) (by trivial)) (@pa_nil _)) (by trivial) (by trivial) (by trivial) (by trivial)) (@pe_int _ _ _ _) (nomark _))))) (@pss_one _ _ _ (@ps_ret _ _ _ _ (@pe_bl _ _ _ _))) (@pss_nil _)) (@pss_cons _ _ _ _ _ (@ps_set _ _ (1) _ _ _ _ sc_is_row.nd (by rfl) (by first | exact Or.inl (by rfl) | exact Or.inr (by rfl)) (@pe_ix _ _ _ _ _ _ _ (ix_tupK K) (@pv _ 0 _ _ (by trivial) (by trivial) (by trivial) (by trivial)) (@pe_int _ _ _ _) (fun _ _ => rfl)) (by trivial) (by trivial)) (@pss_cons _ _ _ _ _ (@ps_if _ _ _ _ _ _ _ _ (@PW.pt _ _ _ (@pw_or _ _ _ _ _ _ _ (@pt_not _ _ _ _ (@pt_val _ _ _ (@pe_callB _ _ _ _ _ _ _ _ _ (call_isiK K) (by rfl) T.n_isinstance bt_isinstance (@pa_Name _ _ _ _ _ _ (@pv _ 1 _ _ (by trivial) (by trivial) (by trivial) (by trivial)) (@pa_Name _ _ _ _ _ _ (@pe_bltn _ _ (.ty "str") _ _ (by rfl) T.n_str bt_str (by rfl) (by trivial) (by trivial)) (@pa_nil _))) (by trivial) (by trivial) (by trivial) (by trivial)) (by trivial))) (@pw_or1 _ _ _ _ (@pt_cmpR _ _ _ _ _ _ _ _ (op_notInK K) (@pv _ 1 _ _ (by trivial) (by trivial) (by trivial) (by trivial)) (@pe_glob _ _ (.ref a_KINDS) _ _ (by rfl) T.c_KINDS (by rfl) (by trivial)) (by rfl))))) (@pss_one _ _ _ (@ps_ret _ _ _ _ (@pe_bl _ _ _ _))) (@pss_nil _)) (@pss_one _ _ _ (@ps_ret _ _ _ _ (@pe_and _ _ _ _ _ _ _ (@pe_fn _ _ _ _ _ _ _ _ _ _ _ c_is_number (hr.mono (by decide)) passN (@pa_Subscript _ _ _ _ _ _ _ (@pe_ix _ _ _ _ _ _ _ (ix_tupK K) (@pv _ 0 _ _ (by trivial) (by trivial) (by trivial) (by trivial)) (@pe_int _ _ _ _) (fun _ _ => rfl)) (@pa_Constant _ _ _ _ _ _ _ (@pe_int _ _ _ _) (@pa_Name _ _ _ _ _ _ (@pe_glob _ _ (.int 999999) _ _ (by rfl) hc_HIGHEST_NUMBER ⟨_, rfl⟩ (by trivial)) (@pa_nil _)))) (by trivial) (by trivial) (by trivial) (by trivial)) (@pe_and _ _ _ _ _ _ _ (@pe_fn _ _ _ _ _ _ _ _ _ _ _ c_is_bytes (hr.mono (by decide)) passN (@pa_Subscript _ _ _ _ _ _ _ (@pe_ix _ _ _ _ _ _ _ (ix_tupK K) (@pv _ 0 _ _ (by trivial) (by trivial) (by trivial) (by trivial)) (@pe_int _ _ _ _) (fun _ _ => rfl)) (@pa_nil _)) (by trivial) (by trivial) (by trivial) (by trivial)) (@pe_one _ _ _ _ _ (@pe_fn _ _ _ _ _ _ _ _ _ _ _ c_fits_kind (hr.mono (by decide)) passN (@pa_Name _ _ _ _ _ _ (@pv _ 1 _ _ (by trivial) (by trivial) (by trivial) (by trivial)) (@pa_Subscript _ _ _ _ _ _ _ (@pe_ix _ _ _ _ _ _ _ (ix_tupK K) (@pv _ 0 _ _ (by trivial) (by trivial) (by trivial) (by trivial)) (@pe_int _ _ _ _) (fun _ _ => rfl)) (@pa_nil _))) (by trivial) (by trivial) (by trivial) (by trivial))))))))), ?_⟩
    refine ⟨_, rfl, _, _, _, _, rfl, hd.ty, kit_tuple d, _, rfl, ?_⟩
    cases d with
    | none => exact iteT (iteT (q H (Same.refl H)))
    | bool x => exact iteT (iteT (q H (Same.refl H)))
    | int x => exact iteT (iteT (q H (Same.refl H)))
    | str x => exact iteT (iteT (q H (Same.refl H)))
    | list x => exact iteT (iteT (q H (Same.refl H)))
    | dict x => exact iteT (iteT (q H (Same.refl H)))
    | tuple ds =>
      have hd' := hd
      simp only [Den] at hd'
      obtain ⟨a, xs, rfl, ha, hds⟩ := hd'
      have hl := hds.length
      by_cases h3 : ds.length = 3
      · obtain ⟨d0, d1, d2, rfl⟩ := len3 h3
        obtain ⟨x0, x1, x2, rfl⟩ := len3 (hl.trans h3)
        · refine iteF ⟨_, rfl, a, _, rfl, .inr (SqT.of ha), rfl, _, rfl, ?_⟩
          refine iteF ?_
          simp only [Dens] at hds
          obtain ⟨y0, r0, e0, k0, y1, r1, e1, k1, y2, r2, e2, k2, e3⟩ := hds
          subst e3
          cases e2
          cases e1
          cases e0
          have sq : SqT K H a [x0, x1, x2] := SqT.of ha
          refine ⟨_, rfl, a, _, _, _, rfl, rfl, sq, atI_nat (j := 0) rfl, ?_⟩
          refine ⟨_, rfl, _, _, _, _, rfl, k0.ty, kit_str d0, _, rfl, ?_⟩
          cases d0 with
          | none => exact iteT (iteT (q H (Same.refl H)))
          | bool x => exact iteT (iteT (q H (Same.refl H)))
          | int x => exact iteT (iteT (q H (Same.refl H)))
          | tuple x => exact iteT (iteT (q H (Same.refl H)))
          | list x => exact iteT (iteT (q H (Same.refl H)))
          | dict x => exact iteT (iteT (q H (Same.refl H)))
          | str k =>
            simp only [Den] at k0
            subst k0
            refine iteF ⟨_, rfl, a_KINDS, _, rfl, .inr (T.k_KINDS H), rfl, flat_strs kinds, _, rfl, ?_⟩
            rw [if_pos rfl, inV_kinds]
            simp only [isRowD] at q
            cases hk : kinds.contains k with
            | false =>
              rw [hk] at q
              exact iteT (q H (Same.refl H))
            | true =>
              rw [hk] at q
              refine iteF ?_
              refine ⟨_, rfl, a, _, _, _, rfl, rfl, sq, atI_nat (j := 1) rfl, x1, d1, 0, 999999, rfl, k1, _, rfl, ?_⟩
              cases hn : isNum 0 999999 d1 with
              | false =>
                rw [hn] at q
                exact iteF (q H (Same.refl H))
              | true =>
                rw [hn] at q
                refine iteT ⟨_, rfl, a, _, _, _, rfl, rfl, sq, atI_nat (j := 2) rfl, x2, d2, rfl, k2, fun bs e => hz _ _ bs (by rw [e]), fun H' s' => ⟨_, rfl, ?_⟩⟩
                cases hb : isByt d2 with
                | false =>
                  rw [hb] at q
                  exact iteF (q H' s')
                | true =>
                  rw [hb] at q
                  cases d2 with
                  | tuple bs =>
                    simp only [Den] at k2
                    obtain ⟨a2, ys, rfl, ha2, hbs⟩ := k2
                    have ei := byt_ints hbs hb
                    subst ei
                    refine iteT ⟨_, rfl, _, rfl, a, _, _, _, rfl, rfl, s'.seqT sq, atI_nat (j := 2) rfl, k, a2, _, rfl, s' _ _ ha2, q H' s'⟩
                  | _ => exact absurd hb (by simp [isByt])
      · have e : (!decide (V.int (xs.length : Int) = V.int 3)) = true := by
          rw [hl, dint_ne (by omega)]
          rfl
        have q' := q H (Same.refl H)
        rw [isRow_len h3] at q'
        refine iteF ⟨_, rfl, a, _, rfl, .inr (SqT.of ha), rfl, _, rfl, ?_⟩
        rw [e]
        exact iteT q'
end
end Qh
end
section
set_option Elab.async false
set_option linter.all false
set_option maxRecDepth 100000
namespace Qh
open PySem L2
local macro_rules | `(tactic| trivial) => `(tactic| first | rfl | decide | exact .inl rfl | exact .inr rfl | exact .inr (.inl rfl) | exact .inr (.inr rfl) | (intro _; rfl) | with_unfolding_all rfl)
abbrev s_cell : Stmt := top 21
abbrev s_seed : Stmt := top 22
abbrev s_pick : Stmt := top 23
abbrev s_bytes : Stmt := top 24
/-! what the draws are -/
def seedF (x k : Int) : Int := ((x * 1103515245 + 7919 * k + 12345) % 2147483647) ^ 5 % 2147483647
def pickF (x m : Int) : Int := x / 97 % m
def manyF (x m : Int) : Int := if x / 5 % 2 = 0 then x / 7 % (m + 1) else x / 7 % 4
def byteF (x : Int) (k : Nat) : Int := if (k : Int) % 2 = 0 then pickF (seedF x k) 256 else x / 11 % 3 * 100
def bytesF (x m : Int) : List Int := (List.range (manyF x m).toNat).map (byteF x)
theorem pw_nat {a b : Int} (h : 0 ≤ a) (h2 : a < 2147483647) : a.natAbs < 2 ^ 64 := by omega
theorem many_bd {x m : Int} (h0 : 0 ≤ m) : 0 ≤ manyF x m ∧ (manyF x m ≤ m ∨ manyF x m ≤ 3) := by
  unfold manyF
  have h1 := Int.emod_nonneg (x / 7) (show m + 1 ≠ 0 by omega)
  have h2 := Int.emod_lt_of_pos (x / 7) (show 0 < m + 1 by omega)
  split <;> omega
def sp_cell (K : PySem.W.Frag) : Sp := fun vs H Q _ => ∃ (a : Addr) (ns : List Int) (k : Int), vs = [.ref a, .int k] ∧ 0 ≤ k ∧ SqL K H a (ns.map V.int) ∧ Q (.int (ns.getD k.toNat 0)) H
def sp_seed : Sp := fun vs H Q _ => ∃ (x k : Int), vs = [.int x, .int k] ∧ Q (.int (seedF x k)) H
def sp_pick : Sp := fun vs H Q _ => ∃ (x m : Int), vs = [.int x, .int m] ∧ 0 < m ∧ Q (.int (pickF x m)) H
def sp_bytes : Sp := fun vs H Q _ => ∃ (x m : Int), vs = [.int x, .int m] ∧ 0 ≤ m ∧ m ≤ 1000 ∧ ∀ p H', Same H H' → H' p = some (.tup ((bytesF x m).map V.int)) → Q (.ref p) H'
section
variable {P : Program} {w : World} {K : PySem.W.Frag} {mg : Str → Option Value} {base : Heap} {a_KINDS C_BadRow : Addr}
theorem sc__law_cell : FnScope ["_law_script", "_law_k"] ["_law_script", "_law_k"] (defScope s_cell) := ⟨rfl, rfl, rfl, by decide +kernel, rfl, by decide +kernel, by decide +kernel⟩
theorem ok_cell {f : Addr} {fd : FuncData} (F : Fun K "_law_cell" "_law_cell" s_cell f fd) (T : TxtR K mg a_KINDS C_BadRow) : FnOk P w K mg base (CXE P w) 1 f fd ["_law_script", "_law_k"] (sp_cell K) := by
  refine F.okX sc__law_cell (fun vs H Q E h => ?_) (fun cdv A outer s H vs Q E hr h => ?_)
  · obtain ⟨a, ns, k, rfl, _⟩ := h
    rfl
  · obtain ⟨a, ns, k, rfl, k0, hs, q⟩ := h
    refine ⟨_, @pss_cons _ _ _ _ _ (@ps_if _ _ _ _ _ _ _ _ (@pt_cmpR _ _ _ _ _ _ _ _ op_lt (@pv _ 1 _ _ (by trivial) (by trivial) (by trivial) (by trivial)) (@pe_callB _ _ _ _ _ _ _ _ _ (call_lenK K) (by rfl) T.n_len bt_len (@pa_Name _ _ _ _ _ _ (@pv _ 0 _ _ (by trivial) (by trivial) (by trivial) (by trivial)) (@pa_nil _)) (by trivial) (by trivial) (by trivial) (by trivial)) (nomark _)) (@pss_one _ _ _ (@ps_ret _ _ _ _ (@pe_ix _ _ _ _ _ _ _ (ix_listK K) (@pv _ 0 _ _ (by trivial) (by trivial) (by trivial) (by trivial)) (@pv _ 1 _ _ (by trivial) (by trivial) (by trivial) (by trivial)) (fun _ _ => rfl)))) (@pss_nil _)) (@pss_one _ _ _ (@ps_ret _ _ _ _ (@pe_int _ _ _ _))), ?_⟩
    refine ⟨_, rfl, _, rfl, a, _, rfl, .inl hs, _, _, rfl, rfl, _, rfl, ?_⟩
    rw [List.length_map]
    show if decide (k < (ns.length : Int)) = true then _ else _
    by_cases hk : k < (ns.length : Int)
    · rw [if_pos (decide_eq_true hk)]
      have hl : k.toNat < ns.length := by omega
      have eg : ns.getD k.toNat 0 = ns[k.toNat] := by
        rw [List.getD_eq_getElem?_getD, List.getElem?_eq_getElem hl]
        rfl
      rw [eg] at q
      exact ⟨_, rfl, _, rfl, a, _, _, _, rfl, rfl, hs, atI_pos k0 (by rw [List.getElem?_map, List.getElem?_eq_getElem hl]; rfl), q⟩
    · rw [if_neg (by simpa using hk)]
      have eg : ns.getD k.toNat 0 = 0 := by
        rw [List.getD_eq_getElem?_getD, List.getElem?_eq_none (by omega)]
        rfl
      rw [eg] at q
      exact q
theorem sc__law_seed : FnScope ["_law_seed_here", "_law_k"] ["_law_seed_here", "_law_k"] (defScope s_seed) := ⟨rfl, rfl, rfl, by decide +kernel, rfl, by decide +kernel, by decide +kernel⟩
theorem ok_seed {f : Addr} {fd : FuncData} (F : Fun K "_law_seed" "_law_seed" s_seed f fd) : FnOk P w K mg base (CXE P w) 1 f fd ["_law_seed_here", "_law_k"] sp_seed := by
  refine F.okX sc__law_seed (fun vs H Q E h => ?_) (fun cdv A outer s H vs Q E hr h => ?_)
  · obtain ⟨x, k, rfl, _⟩ := h
    rfl
  · obtain ⟨x, k, rfl, q⟩ := h
    refine ⟨_, @pss_one _ _ _ (@ps_ret _ _ _ _ (@pe_op _ _ _ _ _ _ _ _ op_mod (@pe_op _ _ _ _ _ _ _ _ op_pow (@pe_op _ _ _ _ _ _ _ _ op_mod (@pe_op _ _ _ _ _ _ _ _ op_add (@pe_op _ _ _ _ _ _ _ _ op_add (@pe_op _ _ _ _ _ _ _ _ op_mul (@pv _ 0 _ _ (by trivial) (by trivial) (by trivial) (by trivial)) (@pe_int _ _ _ _)) (@pe_op _ _ _ _ _ _ _ _ op_mul (@pe_int _ _ _ _) (@pv _ 1 _ _ (by trivial) (by trivial) (by trivial) (by trivial)))) (@pe_int _ _ _ _)) (@pe_int _ _ _ _)) (@pe_int _ _ _ _)) (@pe_int _ _ _ _))), ?_⟩
    have e1 := Int.emod_nonneg (x * 1103515245 + 7919 * k + 12345) (show (2147483647 : Int) ≠ 0 by decide)
    have e2 := Int.emod_lt_of_pos (x * 1103515245 + 7919 * k + 12345) (show (0 : Int) < 2147483647 by decide)
    refine ⟨_, rfl, _, _, rfl, rfl, .inr ⟨by decide, by decide⟩, _, rfl, _, _, rfl, rfl, .inl ⟨by decide, by decide⟩, _, _, rfl, rfl, _, _, rfl, rfl, _, _, rfl, rfl, (by show (0 : Int) < 2147483647; decide), _, _, rfl, rfl, ⟨by decide, by decide, pw_nat (b := 0) e1 e2⟩, _, _, rfl, rfl, (by show (0 : Int) < 2147483647; decide), ?_⟩
    exact q
theorem sc__law_pick : FnScope ["_law_seed_here", "_law_many"] ["_law_seed_here", "_law_many"] (defScope s_pick) := ⟨rfl, rfl, rfl, by decide +kernel, rfl, by decide +kernel, by decide +kernel⟩
theorem ok_pick {f : Addr} {fd : FuncData} (F : Fun K "_law_pick" "_law_pick" s_pick f fd) : FnOk P w K mg base (CXE P w) 1 f fd ["_law_seed_here", "_law_many"] sp_pick := by
  refine F.okX sc__law_pick (fun vs H Q E h => ?_) (fun cdv A outer s H vs Q E hr h => ?_)
  · obtain ⟨x, k, rfl, _⟩ := h
    rfl
  · obtain ⟨x, m, rfl, m0, q⟩ := h
    refine ⟨_, @pss_one _ _ _ (@ps_ret _ _ _ _ (@pe_op _ _ _ _ _ _ _ _ op_mod (@pe_op _ _ _ _ _ _ _ _ op_fdiv (@pv _ 0 _ _ (by trivial) (by trivial) (by trivial) (by trivial)) (@pe_int _ _ _ _)) (@pv _ 1 _ _ (by trivial) (by trivial) (by trivial) (by trivial)))), ?_⟩
    exact ⟨_, rfl, _, _, rfl, rfl, ⟨by decide, by decide⟩, _, rfl, _, _, rfl, rfl, m0, q⟩
theorem sc__law_bytes : FnScope ["_law_seed_here", "_law_most", "_law_many"] ["_law_seed_here", "_law_most"] (defScope s_bytes) := ⟨rfl, rfl, rfl, by decide +kernel, rfl, by decide +kernel, by decide +kernel⟩
set_option maxHeartbeats 1000000 in
theorem ok_bytes {f : Addr} {fd : FuncData} (F : Fun K "_law_bytes" "_law_bytes" s_bytes f fd) (T : TxtR K mg a_KINDS C_BadRow) (c__law_seed : Callee P w K mg base "_law_seed" 1 ["_law_seed_here", "_law_k"] sp_seed) (c__law_pick : Callee P w K mg base "_law_pick" 1 ["_law_seed_here", "_law_many"] sp_pick) :
    FnOk P w K mg base (CXE P w) 2 f fd ["_law_seed_here", "_law_most"] sp_bytes := by
  refine F.okX sc__law_bytes (fun vs H Q E h => ?_) (fun cdv A outer s H vs Q E hr h => ?_)
  · obtain ⟨x, k, rfl, _⟩ := h
    rfl
  · obtain ⟨x, m, rfl, m0, m9, q⟩ := h
    refine ⟨_, @pss_cons _ _ _ _ _ (@ps_set _ _ (2) _ _ _ _ sc__law_bytes.nd (by rfl) (by first | exact Or.inl (by rfl) | exact Or.inr (by rfl)) (@pe_ix _ _ _ _ _ _ _ (ix_listK K) (@pe_lst _ _ _ _ (@pa_BinOp _ _ _ _ _ _ _ _ (@pe_op _ _ _ _ _ _ _ _ op_mod (@pe_op _ _ _ _ _ _ _ _ op_fdiv (@pv _ 0 _ _ (by trivial) (by trivial) (by trivial) (by trivial)) (@pe_int _ _ _ _)) (@pe_op _ _ _ _ _ _ _ _ op_add (@pv _ 1 _ _ (by trivial) (by trivial) (by trivial) (by trivial)) (@pe_int _ _ _ _))) (@pa_BinOp _ _ _ _ _ _ _ _ (@pe_op _ _ _ _ _ _ _ _ op_mod (@pe_op _ _ _ _ _ _ _ _ op_fdiv (@pv _ 0 _ _ (by trivial) (by trivial) (by trivial) (by trivial)) (@pe_int _ _ _ _)) (@pe_int _ _ _ _)) (@pa_nil _)))) (@pe_op _ _ _ _ _ _ _ _ op_mod (@pe_op _ _ _ _ _ _ _ _ op_fdiv (@pv _ 0 _ _ (by trivial) (by trivial) (by trivial) (by trivial)) (@pe_int _ _ _ _)) (@pe_int _ _ _ _)) (fun _ _ => rfl)) (by trivial) (by trivial)) (@pss_one _ _ _ (@ps_ret _ _ _ _ (@pe_callTy _ _ _ _ _ _ _ _ _ (call_tupleK K) (by rfl) T.n_tuple bt_tuple (@pa_ListComp _ _ _ _ _ _ _ _ (@pe_comp _ _ _ _ _ _ _ _ _ _ _ ["_law_k"] [("_law_seed_here", 0)] (by rfl) (@pi_range1 _ _ _ _ _ _ (by rfl) T.n_range (@pa_Name _ _ _ _ _ _ (@pv _ 2 _ _ (by trivial) (by trivial) (by trivial) (by trivial)) (@pa_nil _)) (by trivial)) (fun C s2 H2 ex => (@pg_name _ _ (0) _ (show List.Nodup (["_law_k", "_law_seed_here"] : List Str) by decide +kernel) (by rfl) (Or.inl (by rfl)) (by trivial))) (fun C s2 H2 ex => (@pif_nil _)) (fun C s2 H2 ex => (@pe_ix _ _ _ _ _ _ _ (ix_listK K) (@pe_lst _ _ _ _ (@pa_Call _ _ _ _ _ _ _ _ (@pe_fn _ _ _ _ _ _ _ _ _ _ _ c__law_pick (hr.mono (by decide)) passN (@pa_Call _ _ _ _ _ _ _ _ (@pe_fn _ _ _ _ _ _ _ _ _ _ _ c__law_seed (hr.mono (by decide)) passN (@pa_Name _ _ _ _ _ _ (@pv _ 1 _ _ (by trivial) (by trivial) (by trivial) (by trivial)) (@pa_Name _ _ _ _ _ _ (@pv _ 0 _ _ (by trivial) (by trivial) (by trivial) (by trivial)) (@pa_nil _))) (by trivial) (by trivial) (by trivial) (by trivial)) (@pa_Constant _ _ _ _ _ _ _ (@pe_int _ _ _ _) (@pa_nil _))) (by trivial) (by trivial) (by trivial) (by trivial)) (@pa_BinOp _ _ _ _ _ _ _ _ (@pe_op _ _ _ _ _ _ _ _ op_mul (@pe_op _ _ _ _ _ _ _ _ op_mod (@pe_op _ _ _ _ _ _ _ _ op_fdiv (@pv _ 1 _ _ (by trivial) (by trivial) (by trivial) (by trivial)) (@pe_int _ _ _ _)) (@pe_int _ _ _ _)) (@pe_int _ _ _ _)) (@pa_nil _)))) (@pe_op _ _ _ _ _ _ _ _ op_mod (@pv _ 0 _ _ (by trivial) (by trivial) (by trivial) (by trivial)) (@pe_int _ _ _ _)) (fun _ _ => rfl))) (by trivial) (by trivial) (by trivial) (by trivial)) (@pa_nil _)) (by trivial) (by trivial) (by trivial) (by trivial)))), ?_⟩
    have d0 := Int.emod_nonneg (x / 5) (show (2 : Int) ≠ 0 by decide)
    have d1 := Int.emod_lt_of_pos (x / 5) (show (0 : Int) < 2 by decide)
    obtain ⟨b0, b1⟩ := many_bd (x := x) m0
    refine ⟨_, rfl, _, _, rfl, rfl, ⟨by decide, by decide⟩, _, rfl, _, _, rfl, rfl, _, _, rfl, rfl, (by show (0 : Int) < m + 1; omega), _, rfl, _, _, rfl, rfl, ⟨by decide, by decide⟩, _, _, rfl, rfl, (by show (0 : Int) < 4; decide), (by show 2 ≤ sizeLine; decide), fun p1 hp1 => ?_⟩
    refine ⟨_, rfl, _, _, rfl, rfl, ⟨by decide, by decide⟩, _, _, rfl, rfl, (by show (0 : Int) < 2; decide), p1, _, _, .int (manyF x m), rfl, rfl, SqL.of upd_same, atI_pos d0 ?_, ?_⟩
    · unfold manyF
      by_cases h : x / 5 % 2 = 0
      · rw [h, if_pos rfl]
        rfl
      · have h1 : x / 5 % 2 = 1 := by omega
        rw [h1, if_neg (by decide)]
        rfl
    have S1 : Same H _ := same_upd (o := .lst [V.int (x / 7 % (m + 1)), V.int (x / 7 % 4)]) hp1
    refine ⟨_, rfl, manyF x m, rfl, by omega, by omega, ?_⟩
    refine comp_src (src_range (H := upd H p1 (.lst [V.int (x / 7 % (m + 1)), V.int (x / 7 % 4)])) 0 (manyF x m).toNat) ?zl (fun i y _ => y = .int (byteF x i)) (fun _ _ _ _ _ h => h) (fun σ => ∃ z, σ = [z, some (.int x)]) ?z0 ?_ ?_
    case zl => exact Nat.le_trans (show (manyF x m).toNat ≤ 1003 by omega) (by decide)
    case z0 => exact ⟨none, rfl⟩
    · intro i y σc H3 hi hσ s3 hx Q' hQ'
      obtain ⟨z, rfl⟩ := hσ
      subst hx
      have e0 : (0 : Int) + (i : Int) = i := by omega
      have i0 := Int.emod_nonneg (i : Int) (show (2 : Int) ≠ 0 by decide)
      have i1 := Int.emod_lt_of_pos (i : Int) (show (0 : Int) < 2 by decide)
      refine ⟨_, rfl, _, rfl, x, _, rfl, _, 256, rfl, by decide, ?_⟩
      refine ⟨_, rfl, _, _, rfl, rfl, ⟨by decide, by decide⟩, _, _, rfl, rfl, (by show (0 : Int) < 3; decide), _, _, rfl, rfl, .inr ⟨by decide, by decide⟩, (by show 2 ≤ sizeLine; decide), fun p2 hp2 => ?_⟩
      refine ⟨_, rfl, _, _, rfl, rfl, (by show (0 : Int) < 2; decide), p2, _, _, .int (byteF x i), rfl, rfl, SqL.of upd_same, ?_, ?_⟩
      · rw [e0]
        refine atI_pos i0 ?_
        unfold byteF
        by_cases h : (i : Int) % 2 = 0
        · rw [h, if_pos rfl]
          rfl
        · have h1 : (i : Int) % 2 = 1 := by omega
          rw [h1, if_neg (by decide)]
          rfl
      · exact hQ' _ _ _ ⟨_, rfl⟩ (same_upd hp2) rfl
    · intro D ys H' hD s' hD' hlen hR
      have ey : ys = (bytesF x m).map V.int := by
        unfold bytesF
        apply List.ext_getElem?
        intro i
        cases e : ys[i]? with
        | none =>
          have : ys.length ≤ i := List.getElem?_eq_none_iff.mp e
          rw [List.getElem?_eq_none (by rw [List.length_map, List.length_map, List.length_range]; omega)]
        | some y =>
          have hi : i < (manyF x m).toNat := by
            have := (List.getElem?_eq_some_iff.mp e).1
            omega
          rw [hR i y e, List.getElem?_map, List.getElem?_map, List.getElem?_range hi]
          rfl
      refine ⟨D, _, rfl, .inl ⟨SqL.of hD', fun l hl => ?_⟩⟩
      refine q l _ ((S1.trans s').trans (same_upd hl)) ?_
      rw [upd_same, ey]
end
end Qh
end
section
set_option Elab.async false
set_option linter.all false
set_option maxRecDepth 100000
namespace Qh
open PySem L2
local macro_rules | `(tactic| trivial) => `(tactic| first | rfl | decide | exact .inl rfl | exact .inr rfl | exact .inr (.inl rfl) | exact .inr (.inr rfl) | (intro _; rfl) | with_unfolding_all rfl)
theorem bt_max : bootBuiltins "max" = some (.builtin "max") := by decide +kernel
theorem bt_sorted : bootBuiltins "sorted" = some (.builtin "sorted") := by decide +kernel
theorem hu1 {a c : Nat} (h : a + 64 < c) : a + 1 < c := by omega
/-! ### what rows make -/
abbrev Ent := List Int × Int × Int
def rowT (k : Str) (n : Int) (ns : List Int) : PyData := .tuple [.str k, .int n, .tuple (ns.map .int)]
structure Bk where
  es : List (Int × Ent)
  up : Int
  parts : List (Int × List Int)
def lookE (es : List (Int × Ent)) (n : Int) : Option Ent := (es.find? fun p => decide (p.1 = n)).map (·.2)
def putE (es : List (Int × Ent)) (n : Int) (e : Ent) : List (Int × Ent) := if (es.any fun p => decide (p.1 = n)) = true then es.map (fun p => if p.1 = n then (p.1, e) else p) else es ++ [(n, e)]
def dropE (es : List (Int × Ent)) (n : Int) : List (Int × Ent) := es.filter fun p => decide (p.1 ≠ n)
def put1 (B : Bk) (n : Int) (body : List Int) (seg : Int) : Option Bk := if n < B.up then none else some ⟨putE B.es n (body, 0, seg), n + 1, B.parts⟩
def puts (seg : Int) : Bk → List (Int × List Int) → Option Bk
  | B, [] => some B
  | B, p :: ps => match put1 B p.1 p.2 seg with
    | none => none
    | some B' => puts seg B' ps
def dealF (B : Bk) (n m : Int) (seg : Int) : Option Bk := if B.parts.map (·.1) = (List.range m.toNat).map (fun (k : Nat) => n + (k : Int)) then puts seg ⟨B.es, B.up, []⟩ B.parts else none
def maxI (i j : Int) : Int := if j > i then j else i
def enterF (B : Bk) (k : Str) (n : Int) (body : List Int) (seg : Int) : Option Bk :=
  if k = "part" then some ⟨B.es, B.up, B.parts ++ [(n, body)]⟩
  else if k = "deal" then dealF B n (body.getD 0 0) seg
  else if B.parts ≠ [] then none
  else if k = "put" then put1 B n body seg
  else if k = "from" then some ⟨B.es, maxI B.up n, B.parts⟩
  else if k = "carried" then some ⟨putE B.es n (body.drop 1, body.getD 0 0, seg), maxI B.up (n + 1), B.parts⟩
  else match lookE B.es n with
    | none => some B
    | some e => if k = "out" then some ⟨putE B.es n (e.1, e.2.1 + 1, e.2.2), B.up, B.parts⟩ else if k = "new" then some ⟨putE B.es n (e.1, 0, e.2.2), B.up, B.parts⟩ else some ⟨dropE B.es n, B.up, B.parts⟩
theorem putE_len (es : List (Int × Ent)) (n : Int) (e : Ent) : (putE es n e).length ≤ es.length + 1 := by
  unfold putE
  split
  · rw [List.length_map]
    omega
  · rw [List.length_append]
    exact Nat.le_refl _
/-! ### a book on the heap -/
def TupS (H H' : Hp) : Prop := ∀ b xs, H b = some (.tup xs) → H' b = some (.tup xs)
theorem Same.tup {H H' : Hp} (s : Same H H') : TupS H H' := fun b xs e => s b _ e
theorem TupS.trans {H H1 H2 : Hp} (a : TupS H H1) (b : TupS H1 H2) : TupS H H2 := fun c xs e => b c xs (a c xs e)
mutual
theorem den_t {H H' : Hp} (e : TupS H H') : ∀ {d : PyData} {v : V}, tupD d = true → Den H d v → Den H' d v
  | .none, v, t, h => by simp only [Den] at h ⊢; exact h
  | .bool b, v, t, h => by simp only [Den] at h ⊢; exact h
  | .int i, v, t, h => by simp only [Den] at h ⊢; exact h
  | .str x, v, t, h => by simp only [Den] at h ⊢; exact h
  | .tuple ds, v, t, h => by
    simp only [Den] at h ⊢
    simp only [tupD] at t
    obtain ⟨a, xs, e1, h1, h2⟩ := h
    exact ⟨a, xs, e1, e _ _ h1, dens_t e t h2⟩
  | .list ds, v, t, h => by simp [tupD] at t
  | .dict _, v, t, h => by simp only [Den] at h
theorem dens_t {H H' : Hp} (e : TupS H H') : ∀ {ds : List PyData} {xs : List V}, tupDs ds = true → Dens H ds xs → Dens H' ds xs
  | [], xs, t, h => by simp only [Dens] at h ⊢; exact h
  | d :: ds, xs, t, h => by
    simp only [Dens] at h ⊢
    simp only [tupDs, Bool.and_eq_true] at t
    obtain ⟨x, r, e1, h1, h2⟩ := h
    exact ⟨x, r, e1, den_t e t.1 h1, dens_t e t.2 h2⟩
end
def entAt (H : Hp) (v : V) (e : Ent) : Prop := ∃ t b, v = .ref t ∧ H t = some (.tup [.ref b, .int e.2.1, .int e.2.2]) ∧ H b = some (.tup (e.1.map V.int))
theorem entAt.t {H H' : Hp} {v : V} {e : Ent} (s : TupS H H') (h : entAt H v e) : entAt H' v e := by
  obtain ⟨t, b, e1, h1, h2⟩ := h
  exact ⟨t, b, e1, s _ _ h1, s _ _ h2⟩
def EsR (H : Hp) : List (Int × Ent) → List (Key × V) → Prop
  | [], [] => True
  | p :: es, q :: kvs => q.1 = Sum.inl p.1 ∧ entAt H q.2 p.2 ∧ EsR H es kvs
  | _, _ => False
theorem EsR.t {H H' : Hp} (s : TupS H H') : ∀ {es : List (Int × Ent)} {kvs : List (Key × V)}, EsR H es kvs → EsR H' es kvs
  | [], [], _ => trivial
  | p :: es, q :: kvs, h => ⟨h.1, h.2.1.t s, EsR.t s h.2.2⟩
  | [], _ :: _, h => h.elim
  | _ :: _, [], h => h.elim
theorem EsR.len {H : Hp} : ∀ {es : List (Int × Ent)} {kvs : List (Key × V)}, EsR H es kvs → kvs.length = es.length
  | [], [], _ => rfl
  | p :: es, q :: kvs, h => by rw [List.length_cons, List.length_cons, EsR.len h.2.2]
  | [], _ :: _, h => h.elim
  | _ :: _, [], h => h.elim
theorem EsR.keys {H : Hp} : ∀ {es : List (Int × Ent)} {kvs : List (Key × V)}, EsR H es kvs → kvs.map (·.1) = (es.map (·.1)).map Sum.inl
  | [], [], _ => rfl
  | p :: es, q :: kvs, h => by rw [List.map_cons, List.map_cons, List.map_cons, h.1, EsR.keys h.2.2]
  | [], _ :: _, h => h.elim
  | _ :: _, [], h => h.elim
theorem inl_eq {a b : Int} : ((Sum.inl a : Key) = Sum.inl b) ↔ a = b := ⟨Sum.inl.inj, fun h => by rw [h]⟩
theorem EsR.val {H : Hp} {n : Int} : ∀ {es : List (Int × Ent)} {kvs : List (Key × V)}, EsR H es kvs → (match lookE es n with | none => valV kvs (Sum.inl n) = none | some e => ∃ v, valV kvs (Sum.inl n) = some v ∧ entAt H v e)
  | [], [], _ => rfl
  | p :: es, q :: kvs, h => by
    obtain ⟨h1, h2, h3⟩ := h
    have ih := EsR.val (n := n) h3
    by_cases e : p.1 = n
    · have : lookE (p :: es) n = some p.2 := by simp [lookE, e]
      rw [this]
      exact ⟨q.2, valV_pos (by rw [h1, e]), h2⟩
    · have e1 : lookE (p :: es) n = lookE es n := by simp [lookE, e]
      have e2 : valV (q :: kvs) (Sum.inl n) = valV kvs (Sum.inl n) := valV_neg (by rw [h1, inl_eq]; exact e)
      rw [e1, e2]
      exact ih
  | [], _ :: _, h => h.elim
  | _ :: _, [], h => h.elim
theorem EsR.any {H : Hp} {n : Int} : ∀ {es : List (Int × Ent)} {kvs : List (Key × V)}, EsR H es kvs → (kvs.any fun kv => decide (kv.1 = Sum.inl n)) = (es.any fun p => decide (p.1 = n))
  | [], [], _ => rfl
  | p :: es, q :: kvs, h => by
    obtain ⟨h1, h2, h3⟩ := h
    rw [List.any_cons, List.any_cons, EsR.any h3, h1]
    congr 1
    exact decide_eq_decide.mpr inl_eq
  | [], _ :: _, h => h.elim
  | _ :: _, [], h => h.elim
theorem EsR.mapP {H : Hp} {n : Int} {e : Ent} {v : V} (hv : entAt H v e) : ∀ {es : List (Int × Ent)} {kvs : List (Key × V)}, EsR H es kvs → EsR H (es.map fun p => if p.1 = n then (p.1, e) else p) (kvs.map fun kv => if kv.1 = Sum.inl n then (kv.1, v) else kv)
  | [], [], _ => trivial
  | p :: es, q :: kvs, h => by
    obtain ⟨h1, h2, h3⟩ := h
    rw [List.map_cons, List.map_cons]
    by_cases z : p.1 = n
    · rw [if_pos z, if_pos (show q.1 = Sum.inl n by rw [h1, z])]
      exact ⟨h1, hv, EsR.mapP hv h3⟩
    · rw [if_neg z, if_neg (show ¬ q.1 = Sum.inl n by rw [h1, inl_eq]; exact z)]
      exact ⟨h1, h2, EsR.mapP hv h3⟩
  | [], _ :: _, h => h.elim
  | _ :: _, [], h => h.elim
theorem EsR.snoc {H : Hp} {n : Int} {e : Ent} {v : V} (hv : entAt H v e) : ∀ {es : List (Int × Ent)} {kvs : List (Key × V)}, EsR H es kvs → EsR H (es ++ [(n, e)]) (kvs ++ [(Sum.inl n, v)])
  | [], [], _ => ⟨rfl, hv, trivial⟩
  | p :: es, q :: kvs, h => ⟨h.1, h.2.1, EsR.snoc hv h.2.2⟩
  | [], _ :: _, h => h.elim
  | _ :: _, [], h => h.elim
theorem EsR.put {H : Hp} {es : List (Int × Ent)} {kvs : List (Key × V)} (h : EsR H es kvs) {n : Int} {e : Ent} {v : V} (hv : entAt H v e) : EsR H (putE es n e) (putK kvs (Sum.inl n) v) := by
  unfold putE putK
  rw [h.any]
  by_cases z : (es.any fun p => decide (p.1 = n)) = true
  · rw [if_pos z, if_pos z]
    exact h.mapP hv
  · rw [if_neg z, if_neg z]
    exact h.snoc hv
theorem EsR.drop {H : Hp} {n : Int} : ∀ {es : List (Int × Ent)} {kvs : List (Key × V)}, EsR H es kvs → EsR H (dropE es n) (dropK kvs (Sum.inl n))
  | [], [], _ => trivial
  | p :: es, q :: kvs, h => by
    obtain ⟨h1, h2, h3⟩ := h
    have ih := EsR.drop (n := n) h3
    by_cases z : p.1 = n
    · have e1 : dropE (p :: es) n = dropE es n := by simp [dropE, z]
      rw [e1, dropK_pos (by rw [h1, z])]
      exact ih
    · have e1 : dropE (p :: es) n = p :: dropE es n := by simp [dropE, z]
      rw [e1, dropK_neg (by rw [h1, inl_eq]; exact z)]
      exact ⟨h1, h2, ih⟩
  | [], _ :: _, h => h.elim
  | _ :: _, [], h => h.elim
def partsD (ps : List (Int × List Int)) : List PyData := ps.map fun p => rowT "part" p.1 p.2
theorem row_tup (k : Str) (n : Int) (ns : List Int) : tupD (rowT k n ns) = true := by
  have tl : ∀ l : List Int, tupDs (l.map PyData.int) = true := by
    intro l
    induction l with
    | nil => rfl
    | cons x l ih => exact ih
  unfold rowT
  simp only [tupD, tupDs, Bool.true_and, Bool.and_true]
  exact tl ns
theorem parts_tup : ∀ ps : List (Int × List Int), tupDs (partsD ps) = true
  | [] => rfl
  | p :: ps => by
    show (tupD (rowT "part" p.1 p.2) && tupDs (partsD ps)) = true
    rw [row_tup, parts_tup ps]
    rfl
/-- the book's fields -/
def bkF (de dp : Addr) (up : Int) : List (Str × V) := [("entries", .ref de), ("upcoming", .int up), ("parts", .ref dp)]
structure BookAt (C : Addr) (H : Hp) (bk de dp : Addr) (B : Bk) : Prop where
  self : ∃ dx, H bk = some (.ins C dx (bkF de dp B.up))
  ent : ∃ kvs, H de = some (.dK kvs) ∧ EsR H B.es kvs
  par : ∃ ps, H dp = some (.lst ps) ∧ Dens H (partsD B.parts) ps
/-- all but the book is as it was -/
def Frm (bk de dp : Addr) (H H' : Hp) : Prop := ∀ b o, H b = some o → b ≠ bk → b ≠ de → b ≠ dp → H' b = some o
theorem Frm.refl (bk de dp : Addr) (H : Hp) : Frm bk de dp H H := fun _ _ e _ _ _ => e
theorem Frm.trans {bk de dp dp' : Addr} {H H1 H2 : Hp} (a : Frm bk de dp H H1) (b : Frm bk de dp' H1 H2) (hd : dp' = dp ∨ H dp' = none) : Frm bk de dp H H2 := fun c o e h1 h2 h3 => by
  refine b c o (a c o e h1 h2 h3) h1 h2 ?_
  rintro rfl
  rcases hd with rfl | hd
  · exact h3 rfl
  · rw [hd] at e
    cases e
theorem Same.frm {bk de dp : Addr} {H H' : Hp} (s : Same H H') : Frm bk de dp H H' := fun b o e _ _ _ => s b o e
theorem BookAt.tup {C bk de dp : Addr} {H H' : Hp} {B : Bk} (h : BookAt C H bk de dp B) (f : Frm bk de dp H H') : TupS H H' := fun b xs e => by
  obtain ⟨dx, h1⟩ := h.self
  obtain ⟨kvs, h2, _⟩ := h.ent
  obtain ⟨ps, h3, _⟩ := h.par
  exact f b _ e (by rintro rfl; rw [h1] at e; cases e) (by rintro rfl; rw [h2] at e; cases e) (by rintro rfl; rw [h3] at e; cases e)
theorem BookAt.same {C bk de dp : Addr} {H H' : Hp} {B : Bk} (h : BookAt C H bk de dp B) (s : Same H H') : BookAt C H' bk de dp B := by
  obtain ⟨dx, h1⟩ := h.self
  obtain ⟨kvs, h2, h3⟩ := h.ent
  obtain ⟨ps, h4, h5⟩ := h.par
  exact ⟨⟨dx, s _ _ h1⟩, ⟨kvs, s _ _ h2, h3.t (Same.tup s)⟩, ⟨ps, s _ _ h4, h5.same s⟩⟩
theorem BookAt.ne {C bk de dp : Addr} {H : Hp} {B : Bk} (h : BookAt C H bk de dp B) : bk ≠ de ∧ bk ≠ dp ∧ de ≠ dp := by
  obtain ⟨dx, h1⟩ := h.self
  obtain ⟨kvs, h2, h3⟩ := h.ent
  obtain ⟨ps, h4, h5⟩ := h.par
  refine ⟨?_, ?_, ?_⟩
  · rintro rfl
    rw [h1] at h2
    cases h2
  · rintro rfl
    rw [h1] at h4
    cases h4
  · rintro rfl
    rw [h2] at h4
    cases h4
theorem tup_upd {H : Hp} {a : Addr} {o o' : HO} (h : H a = some o) (hn : ∀ xs, o ≠ .tup xs) : TupS H (upd H a o') := fun b xs e => by
  rw [upd_ne (fun z => by rw [z, h] at e; exact hn xs (Option.some.inj e))]
  exact e
theorem bk_ent {C bk de dp : Addr} {H : Hp} {B : Bk} (h : BookAt C H bk de dp B) {kvs' : List (Key × V)} {es' : List (Int × Ent)} (hr : EsR H es' kvs') : BookAt C (upd H de (.dK kvs')) bk de dp ⟨es', B.up, B.parts⟩ := by
  obtain ⟨n1, n2, n3⟩ := h.ne
  obtain ⟨dx, h1⟩ := h.self
  obtain ⟨kvs, h2, h3⟩ := h.ent
  obtain ⟨ps, h4, h5⟩ := h.par
  have t := tup_upd (o' := .dK kvs') h2 (fun xs z => by cases z)
  exact ⟨⟨dx, by rw [upd_ne n1]; exact h1⟩, ⟨kvs', upd_same, hr.t t⟩, ⟨ps, by rw [upd_ne (Ne.symm n3)]; exact h4, dens_t t (parts_tup _) h5⟩⟩
theorem bk_self {C bk de dp dx dp' : Addr} {H : Hp} {B : Bk} (h : BookAt C H bk de dp B) (u : Int) {ps : List V} {parts : List (Int × List Int)} (h4 : H dp' = some (.lst ps)) (h5 : Dens H (partsD parts) ps) : BookAt C (upd H bk (.ins C dx (bkF de dp' u))) bk de dp' ⟨B.es, u, parts⟩ := by
  obtain ⟨n1, n2, n3⟩ := h.ne
  obtain ⟨dx0, h1⟩ := h.self
  obtain ⟨kvs, h2, h3⟩ := h.ent
  have t := tup_upd (o' := .ins C dx (bkF de dp' u)) h1 (fun xs z => by cases z)
  have n4 : dp' ≠ bk := by
    rintro rfl
    rw [h1] at h4
    cases h4
  exact ⟨⟨dx, upd_same⟩, ⟨kvs, by rw [upd_ne (Ne.symm n1)]; exact h2, h3.t t⟩, ⟨ps, by rw [upd_ne n4]; exact h4, dens_t t (parts_tup _) h5⟩⟩
theorem bk_app {C bk de dp : Addr} {H : Hp} {B : Bk} (h : BookAt C H bk de dp B) {ps : List V} {parts : List (Int × List Int)} (h5 : Dens H (partsD parts) ps) : BookAt C (upd H dp (.lst ps)) bk de dp ⟨B.es, B.up, parts⟩ := by
  obtain ⟨n1, n2, n3⟩ := h.ne
  obtain ⟨dx0, h1⟩ := h.self
  obtain ⟨kvs, h2, h3⟩ := h.ent
  obtain ⟨ps0, h4, _⟩ := h.par
  have t := tup_upd (o' := .lst ps) h4 (fun xs z => by cases z)
  exact ⟨⟨dx0, by rw [upd_ne n2]; exact h1⟩, ⟨kvs, by rw [upd_ne n3]; exact h2, h3.t t⟩, ⟨ps, upd_same, dens_t t (parts_tup _) h5⟩⟩
theorem frm_bk {bk de dp : Addr} {H : Hp} {o : HO} : Frm bk de dp H (upd H bk o) := fun b u e h1 _ _ => by rw [upd_ne h1]; exact e
theorem frm_de {bk de dp : Addr} {H : Hp} {o : HO} : Frm bk de dp H (upd H de o) := fun b u e _ h1 _ => by rw [upd_ne h1]; exact e
theorem frm_dp {bk de dp : Addr} {H : Hp} {o : HO} : Frm bk de dp H (upd H dp o) := fun b u e _ _ h1 => by rw [upd_ne h1]; exact e
theorem putF_up {de dp : Addr} {u v : Int} : putF "upcoming" (.int v) (bkF de dp u) = bkF de dp v := rfl
theorem putF_parts {de dp dp' : Addr} {u : Int} : putF "parts" (.ref dp') (bkF de dp u) = bkF de dp' u := rfl
structure TxtK (K : PySem.W.Frag) (mg : Str → Option Value) (a_KINDS C_BadRow C_Broken C_Book : Addr) : Prop extends TxtR K mg a_KINDS C_BadRow where
  n_list : mg "list" = none
  n_max : mg "max" = none
  n_sorted : mg "sorted" = none
  x_Broken : excIn K C_Broken = true
  m_Broken : mg "Broken" = some (.ref C_Broken)
  cl : Cls K C_Book
  f_entries : NoAttr K C_Book "entries"
  f_upcoming : NoAttr K C_Book "upcoming"
  f_parts : NoAttr K C_Book "parts"
end Qh
end
section
set_option Elab.async false
set_option linter.all false
set_option maxRecDepth 100000
namespace Qh
open PySem L2
local macro_rules | `(tactic| trivial) => `(tactic| first | rfl | decide | exact .inl rfl | exact .inr rfl | exact .inr (.inl rfl) | exact .inr (.inr rfl) | (intro _; rfl) | with_unfolding_all rfl)
abbrev s_init : Stmt := inClass (top 18) 0
abbrev s_enter : Stmt := inClass (top 18) 1
abbrev s_enter_put : Stmt := inClass (top 18) 2
abbrev s_enter_deal : Stmt := inClass (top 18) 3
abbrev s_change : Stmt := inClass (top 18) 4
abbrev s_letter : Stmt := inClass (top 18) 5
abbrev s_letters : Stmt := inClass (top 18) 6
def sp_enter_put (C C_Broken : Addr) : Sp := fun vs H Q E => ∃ (bk de dp b : Addr) (B : Bk) (n seg : Int) (body : List Int), vs = [.ref bk, .int n, .ref b, .int seg] ∧ BookAt C H bk de dp B ∧ H b = some (.tup (body.map V.int)) ∧ B.es.length < 1000 ∧
  (∀ B', put1 B n body seg = some B' → ∀ H', Frm bk de dp H H' → BookAt C H' bk de dp B' → Q .non H') ∧ (put1 B n body seg = none → ∀ H', Frm bk de dp H H' → E (.ref C_Broken) none H')
def sp_change (C : Addr) : Sp := fun vs H Q _ => ∃ (bk de dp : Addr) (B : Bk) (k : Str) (n : Int) (e : Ent), vs = [.ref bk, .str k, .int n] ∧ BookAt C H bk de dp B ∧ lookE B.es n = some e ∧ B.es.length < 1000 ∧
  ∀ H', Frm bk de dp H H' → BookAt C H' bk de dp (if k = "out" then ⟨putE B.es n (e.1, e.2.1 + 1, e.2.2), B.up, B.parts⟩ else if k = "new" then ⟨putE B.es n (e.1, 0, e.2.2), B.up, B.parts⟩ else ⟨dropE B.es n, B.up, B.parts⟩) → Q .non H'
def letD (n : Int) (e : Ent) : PyData := .tuple [.int n, .tuple (e.1.map .int), .int e.2.1]
def sp_letter (C : Addr) : Sp := fun vs H Q _ => ∃ (bk de dp : Addr) (B : Bk) (n : Int) (e : Ent), vs = [.ref bk, .int n] ∧ BookAt C H bk de dp B ∧ lookE B.es n = some e ∧ ∀ p H', Same H H' → Den H' (letD n e) (.ref p) → Q (.ref p) H'
theorem go_next {n : St → Hp → Prop} {D : Ends} {σ : St} {H : Hp} (e : D.nx = n) (h : n σ H) : tNext D σ H := by
  subst e
  exact h
theorem dstr_eq' {k x : Str} (h : k = x) : decide (V.str k = V.str x) = true := decide_eq_true (by rw [h])
theorem dstr_ne' {k x : Str} (h : ¬ k = x) : decide (V.str k = V.str x) = false := decide_eq_false (fun z => h (V.str.inj z))
section
variable {P : Program} {w : World} {K : PySem.W.Frag} {mg : Str → Option Value} {base : Heap} {a_KINDS C_BadRow C_Broken C_Book : Addr}
theorem sc_Book_enter_put : FnScope ["self", "number", "body", "segment"] ["self", "number", "body", "segment"] (defScope s_enter_put) := ⟨rfl, rfl, rfl, by decide +kernel, rfl, by decide +kernel, by decide +kernel⟩
theorem ok_enter_put {f : Addr} {fd : FuncData} (F : Fun K "enter_put" "Book.enter_put" s_enter_put f fd) (T : TxtK K mg a_KINDS C_BadRow C_Broken C_Book) : FnOk P w K mg base (CXE P w) 1 f fd ["self", "number", "body", "segment"] (sp_enter_put C_Book C_Broken) := by
  refine F.okX sc_Book_enter_put (fun vs H Q E h => ?_) (fun cdv A outer s H vs Q E hr h => ?_)
  · obtain ⟨bk, de, dp, b, B, n, seg, body, rfl, _⟩ := h
    rfl
  · obtain ⟨bk, de, dp, b, B, n, seg, body, rfl, hB, hb, hl, q, qe⟩ := h
    refine ⟨_, @pss_cons _ _ _ _ _ (@ps_if _ _ _ _ _ _ _ _ (@pt_cmpR _ _ _ _ _ _ _ _ op_lt (@pv _ 1 _ _ (by trivial) (by trivial) (by trivial) (by trivial)) (@pe_fld _ _ _ _ _ (@pv _ 0 _ _ (by trivial) (by trivial) (by trivial) (by trivial)) (by rfl)) (nomark _)) (@pss_one _ _ _ (@ps_raise _ _ _ _ _ _ _ _ _ _ raisesB (by rfl) T.x_Broken (by rfl) T.m_Broken (@pa_Constant _ _ _ _ _ _ _ (@pe_str _ _ _ _) (@pa_nil _)) (by trivial) (by trivial) (by trivial))) (@pss_nil _)) (@pss_cons _ _ _ _ _ (@ps_dput _ _ _ _ _ _ _ _ _ (hu1 hr.units) (@pe_fld _ _ _ _ _ (@pv _ 0 _ _ (by trivial) (by trivial) (by trivial) (by trivial)) (by rfl)) (@pv _ 1 _ _ (by trivial) (by trivial) (by trivial) (by trivial)) (@pe_tup _ _ _ _ _ (@pa_Name _ _ _ _ _ _ (@pv _ 2 _ _ (by trivial) (by trivial) (by trivial) (by trivial)) (@pa_Constant _ _ _ _ _ _ _ (@pe_int _ _ _ _) (@pa_Name _ _ _ _ _ _ (@pv _ 3 _ _ (by trivial) (by trivial) (by trivial) (by trivial)) (@pa_nil _))))) (by rfl)) (@pss_one _ _ _ (@ps_fld _ _ _ _ _ _ _ _ (@pv _ 0 _ _ (by trivial) (by trivial) (by trivial) (by trivial)) (@pe_op _ _ _ _ _ _ _ _ op_add (@pv _ 1 _ _ (by trivial) (by trivial) (by trivial) (by trivial)) (@pe_int _ _ _ _)) (by rfl)))), ?_⟩
    obtain ⟨dx, h1⟩ := hB.self
    refine ⟨_, rfl, _, rfl, bk, _, dx, _, _, rfl, h1, T.cl, T.f_upcoming, rfl, _, _, rfl, rfl, _, rfl, ?_⟩
    show if decide (n < B.up) = true then _ else _
    unfold put1 at q qe
    by_cases hn : n < B.up
    · rw [if_pos (decide_eq_true hn)]
      rw [if_pos hn] at qe
      exact ⟨(by show 1 ≤ sizeLine; decide), qe rfl H (Frm.refl _ _ _ _)⟩
    rw [if_neg (by rw [decide_eq_true_eq]; exact hn)]
    rw [if_neg hn] at q
    refine go_next rfl ?_
    refine ⟨_, rfl, _, rfl, (by show 3 ≤ sizeLine; decide), fun t ht => ?_⟩
    have S1 := same_upd (o := .tup [.ref b, .int 0, .int seg]) ht
    generalize eH1 : upd H t (.tup [.ref b, .int 0, .int seg]) = H1 at S1 ⊢
    have g1 : H1 t = some (.tup [.ref b, .int 0, .int seg]) := by rw [← eH1]; exact upd_same
    have hB1 := hB.same S1
    obtain ⟨kvs, h2, h3⟩ := hB1.ent
    have he : entAt H1 (.ref t) (body, 0, seg) := ⟨t, b, rfl, g1, S1 _ _ hb⟩
    have hkl : kvs.length < sizeLine := by rw [h3.len]; exact Nat.lt_trans hl (by decide)
    refine ⟨_, rfl, bk, _, dx, _, _, rfl, S1 _ _ h1, T.cl, T.f_entries, rfl, _, rfl, de, _, rfl, DPut.k (k := Sum.inl n) h2 hkl, ?_⟩
    have hB2 := bk_ent hB1 (h3.put (n := n) he)
    have F2 : Frm bk de dp H1 (upd H1 de (.dK (putK kvs (Sum.inl n) (.ref t)))) := frm_de
    generalize upd H1 de (.dK (putK kvs (Sum.inl n) (.ref t))) = H2 at hB2 F2 ⊢
    obtain ⟨dx2, h12⟩ := hB2.self
    obtain ⟨ps2, h42, h52⟩ := hB2.par
    refine ⟨_, rfl, _, _, rfl, rfl, _, rfl, bk, _, dx2, _, rfl, h12, T.cl, T.f_upcoming, (by show 3 < 1000; decide), ?_⟩
    exact q _ rfl _ (((Same.frm S1).trans F2 (.inl rfl)).trans frm_bk (.inl rfl)) (bk_self hB2 (n + 1) h42 h52)
theorem sc_Book_change_entry : FnScope ["self", "kind", "number", "entry"] ["self", "kind", "number"] (defScope s_change) := ⟨rfl, rfl, rfl, by decide +kernel, rfl, by decide +kernel, by decide +kernel⟩
theorem ok_change {f : Addr} {fd : FuncData} (F : Fun K "change_entry" "Book.change_entry" s_change f fd) (T : TxtK K mg a_KINDS C_BadRow C_Broken C_Book) : FnOk P w K mg base (CXE P w) 1 f fd ["self", "kind", "number"] (sp_change C_Book) := by
  refine F.okX sc_Book_change_entry (fun vs H Q E h => ?_) (fun cdv A outer s H vs Q E hr h => ?_)
  · obtain ⟨bk, de, dp, B, k, n, e, rfl, _⟩ := h
    rfl
  · obtain ⟨bk, de, dp, B, k, n, e, rfl, hB, he, hl, q⟩ := h
    refine ⟨_, @pss_cons _ _ _ _ _ (@ps_set _ _ (3) _ _ _ _ sc_Book_change_entry.nd (by rfl) (by first | exact Or.inl (by rfl) | exact Or.inr (by rfl)) (@pe_dget _ _ _ _ _ _ (hu1 hr.units) (@pe_fld _ _ _ _ _ (@pv _ 0 _ _ (by trivial) (by trivial) (by trivial) (by trivial)) (by rfl)) (@pv _ 2 _ _ (by trivial) (by trivial) (by trivial) (by trivial)) (fun _ _ => rfl)) (by trivial) (by trivial)) (@pss_one _ _ _ (@ps_if _ _ _ _ _ _ _ _ (@pt_cmpR _ _ _ _ _ _ _ _ op_eq (@pv _ 1 _ _ (by trivial) (by trivial) (by trivial) (by trivial)) (@pe_str _ _ _ _) (nomark _)) (@pss_one _ _ _ (@ps_dput _ _ _ _ _ _ _ _ _ (hu1 hr.units) (@pe_fld _ _ _ _ _ (@pv _ 0 _ _ (by trivial) (by trivial) (by trivial) (by trivial)) (by rfl)) (@pv _ 2 _ _ (by trivial) (by trivial) (by trivial) (by trivial)) (@pe_tup _ _ _ _ _ (@pa_Subscript _ _ _ _ _ _ _ (@pe_ix _ _ _ _ _ _ _ (ix_tupK K) (@pv _ 3 _ _ (by trivial) (by trivial) (by trivial) (by trivial)) (@pe_int _ _ _ _) (fun _ _ => rfl)) (@pa_BinOp _ _ _ _ _ _ _ _ (@pe_op _ _ _ _ _ _ _ _ op_add (@pe_ix _ _ _ _ _ _ _ (ix_tupK K) (@pv _ 3 _ _ (by trivial) (by trivial) (by trivial) (by trivial)) (@pe_int _ _ _ _) (fun _ _ => rfl)) (@pe_int _ _ _ _)) (@pa_Subscript _ _ _ _ _ _ _ (@pe_ix _ _ _ _ _ _ _ (ix_tupK K) (@pv _ 3 _ _ (by trivial) (by trivial) (by trivial) (by trivial)) (@pe_int _ _ _ _) (fun _ _ => rfl)) (@pa_nil _))))) (by rfl))) (@pss_one _ _ _ (@ps_if _ _ _ _ _ _ _ _ (@pt_cmpR _ _ _ _ _ _ _ _ op_eq (@pv _ 1 _ _ (by trivial) (by trivial) (by trivial) (by trivial)) (@pe_str _ _ _ _) (nomark _)) (@pss_one _ _ _ (@ps_dput _ _ _ _ _ _ _ _ _ (hu1 hr.units) (@pe_fld _ _ _ _ _ (@pv _ 0 _ _ (by trivial) (by trivial) (by trivial) (by trivial)) (by rfl)) (@pv _ 2 _ _ (by trivial) (by trivial) (by trivial) (by trivial)) (@pe_tup _ _ _ _ _ (@pa_Subscript _ _ _ _ _ _ _ (@pe_ix _ _ _ _ _ _ _ (ix_tupK K) (@pv _ 3 _ _ (by trivial) (by trivial) (by trivial) (by trivial)) (@pe_int _ _ _ _) (fun _ _ => rfl)) (@pa_Constant _ _ _ _ _ _ _ (@pe_int _ _ _ _) (@pa_Subscript _ _ _ _ _ _ _ (@pe_ix _ _ _ _ _ _ _ (ix_tupK K) (@pv _ 3 _ _ (by trivial) (by trivial) (by trivial) (by trivial)) (@pe_int _ _ _ _) (fun _ _ => rfl)) (@pa_nil _))))) (by rfl))) (@pss_one _ _ _ (ps_expr (pe_bmK K PySem.F.plainAttrs_dict PySem.F.slot_dict_pop PySem.F.type_dict_pop mt_dpop (pe_fld (pv 0) (by rfl)) (pa_Name (pv 2) pa_nil)))))))), ?_⟩
    obtain ⟨dx, h1⟩ := hB.self
    obtain ⟨kvs, h2, h3⟩ := hB.ent
    have hv := h3.val (n := n)
    rw [he] at hv
    obtain ⟨v, hv1, t, b, rfl, gt, gb⟩ := hv
    have sq : SqT K H t [.ref b, .int e.2.1, .int e.2.2] := SqT.of gt
    have dg : DGet H de (.int n) (some (.ref t)) := by
      have := DGet.k (k := Sum.inl n) h2
      rw [hv1] at this
      exact this
    have hkl : kvs.length < sizeLine := by rw [h3.len]; exact Nat.lt_trans hl (by decide)
    refine ⟨_, rfl, bk, _, dx, _, _, rfl, h1, T.cl, T.f_entries, rfl, _, rfl, de, _, rfl, dg, ?_⟩
    refine ⟨_, rfl, rfl, _, rfl, ?_⟩
    by_cases k1 : k = "out"
    · rw [if_pos k1] at q
      rw [dstr_eq' k1]
      refine iteT ?_
      refine ⟨_, rfl, t, _, _, _, rfl, rfl, sq, atI_nat (j := 0) rfl, _, rfl, t, _, _, _, rfl, rfl, sq, atI_nat (j := 1) rfl, _, _, rfl, rfl, _, rfl, t, _, _, _, rfl, rfl, sq, atI_nat (j := 2) rfl, (by show 3 ≤ sizeLine; decide), fun u hu => ?_⟩
      have S1 := same_upd (o := .tup [.ref b, .int (e.2.1 + 1), .int e.2.2]) hu
      generalize eH1 : upd H u (.tup [.ref b, .int (e.2.1 + 1), .int e.2.2]) = H1 at S1 ⊢
      have g1 : H1 u = some (.tup [.ref b, .int (e.2.1 + 1), .int e.2.2]) := by rw [← eH1]; exact upd_same
      have hE : entAt H1 (.ref u) (e.1, e.2.1 + 1, e.2.2) := ⟨u, b, rfl, g1, S1 _ _ gb⟩
      refine ⟨_, rfl, bk, _, dx, _, _, rfl, S1 _ _ h1, T.cl, T.f_entries, rfl, _, rfl, de, _, rfl, DPut.k (k := Sum.inl n) (S1 _ _ h2) hkl, ?_⟩
      exact q _ ((Same.frm S1).trans frm_de (.inl rfl)) (bk_ent (hB.same S1) ((h3.t (Same.tup S1)).put hE))
    rw [if_neg k1] at q
    rw [dstr_ne' k1]
    refine iteF ⟨_, rfl, rfl, _, rfl, ?_⟩
    by_cases k2 : k = "new"
    · rw [if_pos k2] at q
      rw [dstr_eq' k2]
      refine iteT ?_
      refine ⟨_, rfl, t, _, _, _, rfl, rfl, sq, atI_nat (j := 0) rfl, _, rfl, t, _, _, _, rfl, rfl, sq, atI_nat (j := 2) rfl, (by show 3 ≤ sizeLine; decide), fun u hu => ?_⟩
      have S1 := same_upd (o := .tup [.ref b, .int 0, .int e.2.2]) hu
      generalize eH1 : upd H u (.tup [.ref b, .int 0, .int e.2.2]) = H1 at S1 ⊢
      have g1 : H1 u = some (.tup [.ref b, .int 0, .int e.2.2]) := by rw [← eH1]; exact upd_same
      have hE : entAt H1 (.ref u) (e.1, 0, e.2.2) := ⟨u, b, rfl, g1, S1 _ _ gb⟩
      refine ⟨_, rfl, bk, _, dx, _, _, rfl, S1 _ _ h1, T.cl, T.f_entries, rfl, _, rfl, de, _, rfl, DPut.k (k := Sum.inl n) (S1 _ _ h2) hkl, ?_⟩
      exact q _ ((Same.frm S1).trans frm_de (.inl rfl)) (bk_ent (hB.same S1) ((h3.t (Same.tup S1)).put hE))
    rw [if_neg k2] at q
    rw [dstr_ne' k2]
    refine iteF ?_
    refine ⟨_, rfl, bk, _, dx, _, _, rfl, h1, T.cl, T.f_entries, rfl, .inr (.inr (.inl ⟨rfl, .inl ⟨kvs, h2⟩⟩)), _, rfl, de, kvs, Sum.inl n, _, rfl, rfl, h2, hv1, ?_⟩
    exact q _ frm_de (bk_ent hB h3.drop)
theorem sc_Book_letter : FnScope ["self", "number", "entry"] ["self", "number"] (defScope s_letter) := ⟨rfl, rfl, rfl, by decide +kernel, rfl, by decide +kernel, by decide +kernel⟩
theorem ok_letter {f : Addr} {fd : FuncData} (F : Fun K "letter" "Book.letter" s_letter f fd) (T : TxtK K mg a_KINDS C_BadRow C_Broken C_Book) : FnOk P w K mg base (CXE P w) 1 f fd ["self", "number"] (sp_letter C_Book) := by
  refine F.okX sc_Book_letter (fun vs H Q E h => ?_) (fun cdv A outer s H vs Q E hr h => ?_)
  · obtain ⟨bk, de, dp, B, n, e, rfl, _⟩ := h
    rfl
  · obtain ⟨bk, de, dp, B, n, e, rfl, hB, he, q⟩ := h
    refine ⟨_, @pss_cons _ _ _ _ _ (@ps_set _ _ (2) _ _ _ _ sc_Book_letter.nd (by rfl) (by first | exact Or.inl (by rfl) | exact Or.inr (by rfl)) (@pe_dget _ _ _ _ _ _ (hu1 hr.units) (@pe_fld _ _ _ _ _ (@pv _ 0 _ _ (by trivial) (by trivial) (by trivial) (by trivial)) (by rfl)) (@pv _ 1 _ _ (by trivial) (by trivial) (by trivial) (by trivial)) (fun _ _ => rfl)) (by trivial) (by trivial)) (@pss_one _ _ _ (@ps_ret _ _ _ _ (@pe_tup _ _ _ _ _ (@pa_Name _ _ _ _ _ _ (@pv _ 1 _ _ (by trivial) (by trivial) (by trivial) (by trivial)) (@pa_Subscript _ _ _ _ _ _ _ (@pe_ix _ _ _ _ _ _ _ (ix_tupK K) (@pv _ 2 _ _ (by trivial) (by trivial) (by trivial) (by trivial)) (@pe_int _ _ _ _) (fun _ _ => rfl)) (@pa_Subscript _ _ _ _ _ _ _ (@pe_ix _ _ _ _ _ _ _ (ix_tupK K) (@pv _ 2 _ _ (by trivial) (by trivial) (by trivial) (by trivial)) (@pe_int _ _ _ _) (fun _ _ => rfl)) (@pa_nil _))))))), ?_⟩
    obtain ⟨dx, h1⟩ := hB.self
    obtain ⟨kvs, h2, h3⟩ := hB.ent
    have hv := h3.val (n := n)
    rw [he] at hv
    obtain ⟨v, hv1, t, b, rfl, gt, gb⟩ := hv
    have sq : SqT K H t [.ref b, .int e.2.1, .int e.2.2] := SqT.of gt
    have dg : DGet H de (.int n) (some (.ref t)) := by
      have := DGet.k (k := Sum.inl n) h2
      rw [hv1] at this
      exact this
    refine ⟨_, rfl, bk, _, dx, _, _, rfl, h1, T.cl, T.f_entries, rfl, _, rfl, de, _, rfl, dg, ?_⟩
    refine ⟨_, rfl, _, rfl, t, _, _, _, rfl, rfl, sq, atI_nat (j := 0) rfl, _, rfl, t, _, _, _, rfl, rfl, sq, atI_nat (j := 1) rfl, (by show 3 ≤ sizeLine; decide), fun p hp => ?_⟩
    have S1 := same_upd (o := .tup [.int n, .ref b, .int e.2.1]) hp
    refine q p _ S1 ?_
    unfold letD
    simp only [Den, Dens]
    exact ⟨p, _, rfl, upd_same, _, _, rfl, rfl, _, _, rfl, ⟨b, _, rfl, S1 _ _ gb, dens_ints.mpr rfl⟩, _, _, rfl, rfl, rfl⟩
end
end Qh
end
section
set_option Elab.async false
set_option linter.all false
set_option maxRecDepth 100000
namespace Qh
open PySem L2
local macro_rules | `(tactic| trivial) => `(tactic| first | rfl | decide | exact .inl rfl | exact .inr rfl | exact .inr (.inl rfl) | exact .inr (.inr rfl) | (intro _; rfl) | with_unfolding_all rfl)
def letF (es : List (Int × Ent)) (n : Int) : PyData := letD n ((lookE es n).getD ([], 0, 0))
def sp_letters (C : Addr) : Sp := fun vs H Q _ => ∃ (bk de dp : Addr) (B : Bk), vs = [.ref bk] ∧ BookAt C H bk de dp B ∧ B.es.length < 1000 ∧
  ∀ ms, List.Perm ms (B.es.map (·.1)) → ms.Pairwise (· ≤ ·) → ∀ p H', Same H H' → Den H' (.list (ms.map (letF B.es))) (.ref p) → Q (.ref p) H'
def sp_enter_deal (C C_Broken : Addr) : Sp := fun vs H Q E => ∃ (bk de dp : Addr) (B : Bk) (n m seg : Int), vs = [.ref bk, .int n, .int m, .int seg] ∧ BookAt C H bk de dp B ∧ 0 ≤ n ∧ n ≤ 999999 ∧ 0 ≤ m ∧ m ≤ 9 ∧ B.es.length + B.parts.length < 900 ∧
  (∀ B', dealF B n m seg = some B' → ∀ dq H', Frm bk de dp H H' → H dq = none → BookAt C H' bk de dq B' → Q .non H') ∧ (dealF B n m seg = none → ∀ H', Frm bk de dp H H' → E (.ref C_Broken) none H')
theorem lookE_in {es : List (Int × Ent)} {n : Int} (h : n ∈ es.map (·.1)) : ∃ e, lookE es n = some e := by
  induction es with
  | nil => simp at h
  | cons p es ih =>
    by_cases e : p.1 = n
    · exact ⟨p.2, by simp [lookE, e]⟩
    · have : n ∈ es.map (·.1) := by
        rw [List.map_cons, List.mem_cons] at h
        rcases h with h | h
        · exact absurd h.symm e
        · exact h
      obtain ⟨x, hx⟩ := ih this
      exact ⟨x, by simpa [lookE, e] using hx⟩
theorem let_tup (n : Int) (e : Ent) : tupD (letD n e) = true := by
  have tl : ∀ l : List Int, tupDs (l.map PyData.int) = true := by
    intro l
    induction l with
    | nil => rfl
    | cons x l ih => exact ih
  unfold letD
  simp only [tupD, tupDs, Bool.true_and, Bool.and_true]
  exact tl _
theorem dens_of : ∀ {H : Hp} {ds : List PyData} {ys : List V}, ys.length = ds.length → (∀ (i : Nat) (y : V), ys[i]? = some y → ∃ d, ds[i]? = some d ∧ Den H d y) → Dens H ds ys
  | H, [], [], _, _ => by simp only [Dens]
  | H, d :: ds, y :: ys, hl, h => by
    simp only [Dens]
    obtain ⟨d', e, h1⟩ := h 0 y rfl
    cases (Option.some.inj e : d = d')
    exact ⟨y, ys, rfl, h1, dens_of (by simpa using hl) fun i z hz => h (i + 1) z hz⟩
  | H, [], y :: ys, hl, _ => by simp at hl
  | H, d :: ds, [], hl, _ => by simp at hl
theorem eqv_intsL (ns ms : List Int) : PyData.eqv (.list (ns.map .int)) (.list (ms.map .int)) = decide (ns = ms) := by
  show PyData.eqvAll _ _ = _
  exact PySem.W.ked_eqvAll ns ms
theorem shaped_intsL (ns : List Int) : SeqAt.shaped (.list (ns.map .int)) = true := by
  unfold SeqAt.shaped
  have h1 : PyData.canLay0 (.list (ns.map .int)) = true := lay_ints ns
  have h2 : PyData.depth (.list (ns.map .int)) = 1 := by
    show PyData.depthAll (ns.map .int) + 1 = 1
    rw [depth_ints]
  rw [h1, h2]
  rfl
theorem puts_parts (seg : Int) : ∀ {ps : List (Int × List Int)} {B B' : Bk}, puts seg B ps = some B' → B'.parts = B.parts
  | [], B, B', h => by
    cases (Option.some.inj h : B = B')
    rfl
  | p :: ps, B, B', h => by
    unfold puts at h
    cases e : put1 B p.1 p.2 seg with
    | none => rw [e] at h; cases h
    | some B1 =>
      rw [e] at h
      have := puts_parts seg h
      rw [this]
      unfold put1 at e
      split at e
      · cases e
      · cases (Option.some.inj e)
        rfl
section
variable {P : Program} {w : World} {K : PySem.W.Frag} {mg : Str → Option Value} {base : Heap} {a_KINDS C_BadRow C_Broken C_Book : Addr}
theorem sc_Book_letters : FnScope ["self"] ["self"] (defScope s_letters) := ⟨rfl, rfl, rfl, by decide +kernel, rfl, by decide +kernel, by decide +kernel⟩
set_option maxHeartbeats 1000000 in
theorem ok_letters {f : Addr} {fd : FuncData} (F : Fun K "letters" "Book.letters" s_letters f fd) (T : TxtK K mg a_KINDS C_BadRow C_Broken C_Book) (m_letter : Method P w K mg base C_Book "letter" 1 ["self", "number"] (sp_letter C_Book)) : FnOk P w K mg base (CXE P w) 2 f fd ["self"] (sp_letters C_Book) := by
  refine F.okX sc_Book_letters (fun vs H Q E h => ?_) (fun cdv A outer s H vs Q E hr h => ?_)
  · obtain ⟨bk, de, dp, B, rfl, _⟩ := h
    rfl
  · obtain ⟨bk, de, dp, B, rfl, hB, hl, q⟩ := h
    refine ⟨_, @pss_one _ _ _ (@ps_ret _ _ _ _ (@pe_comp _ _ _ _ _ _ _ _ _ _ _ ["number"] [("self", 0)] (by rfl) (@pi_listK _ K _ _ _ (@pe_callB _ _ _ _ _ _ _ _ _ (@call_sortedN _ (by rfl)) (by rfl) T.n_sorted bt_sorted (@pa_Attribute _ _ _ _ _ _ _ (@pe_fld _ _ _ _ _ (@pv _ 0 _ _ (by trivial) (by trivial) (by trivial) (by trivial)) (by rfl)) (@pa_nil _)) (by trivial) (by trivial) (by trivial) (by trivial)) (by trivial)) (fun C s2 H2 ex => (@pg_name _ _ (0) _ (show List.Nodup (["number", "self"] : List Str) by decide +kernel) (by rfl) (Or.inl (by rfl)) (by trivial))) (fun C s2 H2 ex => (@pif_nil _)) (fun C s2 H2 ex => (@pe_me _ _ _ _ _ _ _ _ _ _ _ _ _ _ _ m_letter T.cl (hr.mono (by decide)) passN (@pv _ 1 _ _ (by trivial) (by trivial) (by trivial) (by trivial)) (@pa_Name _ _ _ _ _ _ (@pv _ 0 _ _ (by trivial) (by trivial) (by trivial) (by trivial)) (@pa_nil _)) (by trivial) (by trivial) (by trivial))) (by trivial) (by trivial) (by trivial) (by trivial))), ?_⟩
    obtain ⟨dx, h1⟩ := hB.self
    obtain ⟨kvs, h2, h3⟩ := hB.ent
    refine ⟨_, rfl, bk, _, dx, _, _, rfl, h1, T.cl, T.f_entries, rfl, de, kvs, _, rfl, h2, h3.keys, by rw [List.length_map]; omega, fun p ms perm pw hp => ?_⟩
    have S1 := same_upd (o := .lst (ms.map .int)) hp
    generalize eH1 : upd H p (.lst (ms.map .int)) = H1 at S1 ⊢
    have g1 : H1 p = some (.lst (ms.map .int)) := by rw [← eH1]; exact upd_same
    have lm : (ms.map V.int).length = ms.length := List.length_map _
    have pl := perm.length_eq
    rw [List.length_map] at pl
    refine ⟨p, rfl, ⟨_, SqL.of g1⟩, ?_⟩
    refine comp_src (src_list (K := K) (SqL.of g1)) ?zl (fun i y H' => ∃ n, ms[i]? = some n ∧ Den H' (letF B.es n) y) (fun i y H1 H2 s h => by obtain ⟨n, e, h⟩ := h; exact ⟨n, e, h.n s (let_tup _ _)⟩) (fun σ => ∃ z, σ = [z, some (.ref bk)]) ?z0 ?_ ?_
    case zl =>
      rw [lm, pl]
      exact Nat.le_of_lt (Nat.lt_trans hl (by decide))
    case z0 => exact ⟨none, rfl⟩
    · intro i x σc H3 hi hσ s3 hx Q' hQ'
      obtain ⟨z, rfl⟩ := hσ
      rw [List.getElem?_map] at hx
      cases e : ms[i]? with
      | none => rw [e] at hx; cases hx
      | some n =>
        rw [e] at hx
        cases hx
        have hin : n ∈ B.es.map (·.1) := perm.mem_iff.mp (List.mem_of_getElem? e)
        obtain ⟨en, hen⟩ := lookE_in hin
        have S13 : Same H H3 := S1.trans s3
        refine ⟨_, rfl, bk, dx, _, rfl, S13 _ _ h1, rfl, _, rfl, bk, de, dp, B, n, en, rfl, hB.same S13, hen, fun p4 H4 S4 d4 => ?_⟩
        refine hQ' _ _ _ ⟨_, rfl⟩ S4 ⟨n, e, ?_⟩
        unfold letF
        rw [hen]
        exact d4
    · intro D ys H' hD s' hD' hlen hR
      refine q ms perm pw D H' (S1.trans s') ?_
      simp only [Den]
      refine ⟨D, ys, rfl, hD', dens_of (by rw [List.length_map, hlen, lm]) fun i y e => ?_⟩
      obtain ⟨n, e1, e2⟩ := hR i y e
      exact ⟨_, by rw [List.getElem?_map, e1]; rfl, e2⟩
theorem sc_Book_enter_deal : FnScope ["self", "number", "many", "segment", "parts", "part"] ["self", "number", "many", "segment"] (defScope s_enter_deal) := ⟨rfl, rfl, rfl, by decide +kernel, rfl, by decide +kernel, by decide +kernel⟩
set_option maxHeartbeats 1000000 in
theorem ok_enter_deal {f : Addr} {fd : FuncData} (F : Fun K "enter_deal" "Book.enter_deal" s_enter_deal f fd) (T : TxtK K mg a_KINDS C_BadRow C_Broken C_Book) (m_enter_put : Method P w K mg base C_Book "enter_put" 1 ["self", "number", "body", "segment"] (sp_enter_put C_Book C_Broken)) : FnOk P w K mg base (CXE P w) 2 f fd ["self", "number", "many", "segment"] (sp_enter_deal C_Book C_Broken) := by
  refine F.okX sc_Book_enter_deal (fun vs H Q E h => ?_) (fun cdv A outer s H vs Q E hr h => ?_)
  · obtain ⟨bk, de, dp, B, n, m, seg, rfl, _⟩ := h
    rfl
  · obtain ⟨bk, de, dp, B, n, m, seg, rfl, hB, n0, n9, m0, m9, hl, q, qe⟩ := h
    refine ⟨_, @pss_cons _ _ _ _ _ (@ps_set _ _ (4) _ _ _ _ sc_Book_enter_deal.nd (by rfl) (by first | exact Or.inl (by rfl) | exact Or.inr (by rfl)) (@pe_fld _ _ _ _ _ (@pv _ 0 _ _ (by trivial) (by trivial) (by trivial) (by trivial)) (by rfl)) (by trivial) (by trivial)) (@pss_cons _ _ _ _ _ (@ps_fld _ _ _ _ _ _ _ _ (@pv _ 0 _ _ (by trivial) (by trivial) (by trivial) (by trivial)) (@pe_lst _ _ _ _ (@pa_nil _)) (by rfl)) (@pss_cons _ _ _ _ _ (@ps_if _ _ _ _ _ _ _ _ (@pt_cmpR _ _ _ _ _ _ _ _ (op_neD hr.units) (@pe_comp _ _ _ _ _ _ _ _ _ _ _ ["part"] [] (by rfl) (@pi_listK _ K _ _ _ (@pv _ 4 _ _ (by trivial) (by trivial) (by trivial) (by trivial)) (by trivial)) (fun C s2 H2 ex => (@pg_name _ _ (0) _ (show List.Nodup (["part"] : List Str) by decide +kernel) (by rfl) (Or.inl (by rfl)) (by trivial))) (fun C s2 H2 ex => (@pif_nil _)) (fun C s2 H2 ex => (@pe_ix _ _ _ _ _ _ _ (ix_tupK K) (@pv _ 0 _ _ (by trivial) (by trivial) (by trivial) (by trivial)) (@pe_int _ _ _ _) (fun _ _ => rfl))) (by trivial) (by trivial) (by trivial) (by trivial)) (@pe_listRng _ _ _ _ _ _ _ _ (by rfl) (by rfl) T.n_list (by rfl) T.n_range (@pa_Name _ _ _ _ _ _ (@pv _ 1 _ _ (by trivial) (by trivial) (by trivial) (by trivial)) (@pa_BinOp _ _ _ _ _ _ _ _ (@pe_op _ _ _ _ _ _ _ _ op_add (@pv _ 1 _ _ (by trivial) (by trivial) (by trivial) (by trivial)) (@pv _ 2 _ _ (by trivial) (by trivial) (by trivial) (by trivial))) (@pa_nil _))) (by trivial) (by trivial) (by trivial)) (nomark _)) (@pss_one _ _ _ (@ps_raise _ _ _ _ _ _ _ _ _ _ raisesB (by rfl) T.x_Broken (by rfl) T.m_Broken (@pa_Constant _ _ _ _ _ _ _ (@pe_str _ _ _ _) (@pa_nil _)) (by trivial) (by trivial) (by trivial))) (@pss_nil _)) (@pss_one _ _ _ (@ps_for _ _ _ _ _ _ _ _ (ownB own_cx) (by rfl) (@pi_listK _ K _ _ _ (@pv _ 4 _ _ (by trivial) (by trivial) (by trivial) (by trivial)) (by trivial)) (@pg_name _ _ (5) _ sc_Book_enter_deal.nd (by rfl) (by first | exact Or.inl (by rfl) | exact Or.inr (by rfl)) (by trivial)) (@pss_one _ _ _ (ps_expr (pe_me m_enter_put T.cl (hr.mono (by decide)) passS (pv 0) (pa_Subscript (pe_ix (ix_tupK K) (pv 5) pe_int (fun _ _ => rfl)) (pa_Subscript (pe_ix (ix_tupK K) (pv 5) pe_int (fun _ _ => rfl)) (pa_Name (pv 3) pa_nil)))))) (by trivial))))), ?_⟩
    obtain ⟨dx, h1⟩ := hB.self
    obtain ⟨ps, h4, h5⟩ := hB.par
    obtain ⟨ne1, ne2, ne3⟩ := hB.ne
    refine ⟨_, rfl, bk, _, dx, _, _, rfl, h1, T.cl, T.f_parts, rfl, ?_⟩
    refine ⟨(by show 0 ≤ sizeLine; decide), fun dq hdq => ?_⟩
    have S1 := same_upd (o := .lst []) hdq
    generalize eH1 : upd H dq (.lst []) = H1 at S1 ⊢
    have g1 : H1 dq = some (.lst []) := by rw [← eH1]; exact upd_same
    refine ⟨_, rfl, bk, _, dx, _, rfl, S1 _ _ h1, T.cl, T.f_parts, (by show 3 < 1000; decide), ?_⟩
    have hB2 := bk_self (hB.same S1) (dx := dx) B.up (parts := []) g1 (by simp only [partsD, List.map_nil, Dens])
    have F2 : Frm bk de dp H (upd H1 bk (.ins C_Book dx (bkF de dq B.up))) := (Same.frm S1).trans frm_bk (.inl rfl)
    have g2 : upd H1 bk (.ins C_Book dx (bkF de dq B.up)) dp = some (.lst ps) := by rw [upd_ne (Ne.symm ne2)]; exact S1 _ _ h4
    have T2 : TupS H (upd H1 bk (.ins C_Book dx (bkF de dq B.up))) := hB.tup F2
    rw [putF_parts]
    generalize upd H1 bk (.ins C_Book dx (bkF de dq B.up)) = H2 at hB2 F2 g2 T2 ⊢
    have d2 : Dens H2 (partsD B.parts) ps := dens_t T2 (parts_tup _) h5
    have lp : ps.length = B.parts.length := by rw [h5.length]; unfold partsD; rw [List.length_map]
    have hdq0 : dq ≠ dp := fun z => by rw [z, h4] at hdq; cases hdq
    refine ⟨_, rfl, dp, rfl, ⟨_, SqL.of g2⟩, ?_⟩
    refine comp_src (src_list (K := K) (SqL.of g2)) ?zl (fun i y _ => ∃ p, B.parts[i]? = some p ∧ y = .int p.1) (fun i y H1 H2 s h => h) (fun σ => σ.length = 1) ?z0 ?_ ?_
    case zl =>
      rw [lp]
      exact Nat.le_of_lt (Nat.lt_trans (show _ < 900 by omega) (by decide))
    case z0 => rfl
    · intro i x σc H3 hi hσ s3 hx Q' hQ'
      obtain ⟨d, hd, dn⟩ := d2.get hx
      unfold partsD at hd
      rw [List.getElem?_map] at hd
      cases e : B.parts[i]? with
      | none => rw [e] at hd; cases hd
      | some pr =>
        rw [e] at hd
        cases (Option.some.inj hd : rowT "part" pr.1 pr.2 = d)
        have dn' := dn.same s3
        unfold rowT at dn'
        simp only [Den, Dens] at dn'
        obtain ⟨t, xt, rfl, gt, y0, r0, f0, f1, y1, r1, f2, f3, y2, r2, f4, ⟨pb, yb, f5, gb, db⟩, f6⟩ := dn'
        subst f6 f5 f4 f3 f2 f1 f0
        match σc, hσ with
        | [z], _ =>
          refine ⟨_, rfl, t, _, _, _, rfl, rfl, SqT.of gt, atI_nat (j := 1) rfl, ?_⟩
          exact hQ' _ _ _ rfl (Same.refl _) ⟨pr, e, rfl⟩
    intro D ys H3 hD S3 g3 hlen hR
    have ey : ys = (B.parts.map (·.1)).map V.int := by
      apply List.ext_getElem?
      intro i
      cases e : ys[i]? with
      | none =>
        have : ys.length ≤ i := List.getElem?_eq_none_iff.mp e
        rw [List.getElem?_eq_none (by rw [List.length_map, List.length_map]; omega)]
      | some y =>
        obtain ⟨p, e1, e2⟩ := hR i y e
        rw [List.getElem?_map, List.getElem?_map, e1, e2]
        rfl
    have hmz : (n + m - n).toNat = m.toNat := by omega
    refine ⟨_, rfl, _, rfl, _, rfl, _, _, rfl, rfl, n, n + m, rfl, ⟨by omega, by omega, by omega, by omega⟩, Nat.le_trans (show _ ≤ 9 by omega) (by decide), fun p4 hp4 => ?_⟩
    rw [hmz]
    have er : ((List.range m.toNat).map fun (k : Nat) => V.int (n + (k : Int))) = ((List.range m.toNat).map fun (k : Nat) => n + (k : Int)).map V.int := by rw [List.map_map]; rfl
    rw [er]
    have S4 := same_upd (o := .lst (((List.range m.toNat).map fun (k : Nat) => n + (k : Int)).map V.int)) hp4
    generalize eH4 : upd H3 p4 (.lst (((List.range m.toNat).map fun (k : Nat) => n + (k : Int)).map V.int)) = H4 at S4 ⊢
    have g4 : H4 p4 = some (.lst (((List.range m.toNat).map fun (k : Nat) => n + (k : Int)).map V.int)) := by rw [← eH4]; exact upd_same
    have dA : Den H4 (.list ((B.parts.map (·.1)).map .int)) (.ref D) := by
      simp only [Den]
      exact ⟨D, ys, rfl, S4 _ _ g3, by rw [ey]; exact dens_ints.mpr rfl⟩
    have dB : Den H4 (.list (((List.range m.toNat).map fun (k : Nat) => n + (k : Int)).map .int)) (.ref p4) := by
      simp only [Den]
      exact ⟨p4, _, rfl, g4, dens_ints.mpr rfl⟩
    refine ⟨_, _, dA, dB, shaped_intsL _, shaped_intsL _, _, rfl, ?_⟩
    rw [eqv_intsL]
    have F4 : Frm bk de dp H H4 := F2.trans (Same.frm (S3.trans S4)) (.inl rfl)
    unfold dealF at q qe
    by_cases hc : B.parts.map (·.1) = (List.range m.toNat).map fun (k : Nat) => n + (k : Int)
    case neg =>
      rw [if_neg hc] at qe
      rw [decide_eq_false hc]
      exact iteT ⟨(by show 1 ≤ sizeLine; decide), qe rfl H4 F4⟩
    rw [if_pos hc] at q qe
    rw [decide_eq_true hc]
    refine iteF ?_
    refine go_next rfl ?_
    have hB4 := hB2.same (S3.trans S4)
    have gd4 : H4 dp = some (.lst ps) := S4 _ _ (S3 _ _ g2)
    have d4 : Dens H4 (partsD B.parts) ps := (d2.same S3).same S4
    refine ⟨_, rfl, dp, rfl, ⟨_, SqL.of gd4⟩, ?_⟩
    have sq0 : SqL K (fun a => if a = dp then some (.lst ps) else none) dp ps := SqL.of (if_pos rfl)
    refine for_src0 (H0 := fun a => if a = dp then some (.lst ps) else none) (src_list (K := K) sq0) (fun i σ H' => H' dp = some (.lst ps) ∧ TupS H4 H' ∧ Frm bk de dp H H' ∧ i ≤ B.parts.length ∧ ∃ Bi z5, BookAt C_Book H' bk de dq Bi ∧ Bi.es.length ≤ B.es.length + i ∧ puts seg ⟨B.es, B.up, []⟩ B.parts = puts seg Bi (B.parts.drop i) ∧ σ = [some (.ref bk), some (.int n), some (.int m), some (.int seg), some (.ref dp), z5]) ?i0 ?kp ?_ ?_
    case i0 => exact ⟨gd4, fun _ _ e => e, F4, Nat.zero_le _, _, none, hB4, Nat.le_refl _, rfl, rfl⟩
    case kp =>
      intro i σ H' h b o e
      by_cases z : b = dp
      · subst z
        have e : some (HO.lst ps) = some o := by simpa using e
        rw [← e]
        exact h.1
      · have e : none = some o := by simpa [z] using e
        cases e
    · rintro i x σ H5 H6 hi ⟨gd5, t5, f5, hiL, Bi, z5, hBi, hle, hpu, rfl⟩ s6 hx
      obtain ⟨d, hd, dn⟩ := d4.get hx
      unfold partsD at hd
      rw [List.getElem?_map] at hd
      cases e : B.parts[i]? with
      | none => rw [e] at hd; cases hd
      | some pr =>
        rw [e] at hd
        cases (Option.some.inj hd : rowT "part" pr.1 pr.2 = d)
        have dn' := den_t (t5.trans (Same.tup s6)) (row_tup _ _ _) dn
        unfold rowT at dn'
        simp only [Den, Dens] at dn'
        obtain ⟨t, xt, rfl, gt, y0, r0, f0, f1, y1, r1, f2, f3, y2, r2, f4, ⟨pb, yb, f5', gb, db⟩, f6⟩ := dn'
        have eb := dens_ints.mp db
        subst eb f6 f5' f4 f3 f2 f1 f0
        have iL : i < B.parts.length := (List.getElem?_eq_some_iff.mp e).1
        have ed : B.parts.drop i = pr :: B.parts.drop (i + 1) := by
          rw [List.drop_eq_getElem_cons iL]
          have := (List.getElem?_eq_some_iff.mp e).2
          rw [this]
        rw [ed] at hpu
        have hB6 := hBi.same s6
        obtain ⟨dx6, h16⟩ := hB6.self
        refine ⟨_, rfl, bk, dx6, _, rfl, h16, rfl, _, rfl, t, _, _, _, rfl, rfl, SqT.of gt, atI_nat (j := 1) rfl, _, rfl, t, _, _, _, rfl, rfl, SqT.of gt, atI_nat (j := 2) rfl, _, rfl, bk, de, dq, pb, Bi, pr.1, seg, pr.2, rfl, hB6, gb, by omega, fun B' hB' H7 f7 hB7 => ?_, fun hn H7 f7 => ?_⟩
        · have hdq' : dq = dp ∨ H dq = none := .inr hdq
          have f67 : Frm bk de dp H H7 := (f5.trans (Same.frm (dp := dp) s6) (.inl rfl)).trans f7 hdq'
          refine ⟨f7 _ _ (s6 _ _ gd5) (Ne.symm ne2) (fun z => ne3 z.symm) (Ne.symm hdq0), (t5.trans (Same.tup s6)).trans (hB6.tup f7), f67, iL, B', _, hB7, ?_, ?_, rfl⟩
          · unfold put1 at hB'
            split at hB'
            · cases hB'
            · cases (Option.some.inj hB')
              have := putE_len Bi.es pr.1 (pr.2, 0, seg)
              show (putE Bi.es pr.1 (pr.2, 0, seg)).length ≤ _
              omega
          · rw [hpu]
            show (match put1 Bi pr.1 pr.2 seg with | none => none | some B' => puts seg B' (B.parts.drop (i + 1))) = _
            rw [hB']
        · refine qe ?_ H7 ((f5.trans (Same.frm (dp := dp) s6) (.inl rfl)).trans f7 (.inr hdq))
          rw [hpu]
          show (match put1 Bi pr.1 pr.2 seg with | none => none | some B' => puts seg B' (B.parts.drop (i + 1))) = none
          rw [hn]
    · rintro σ H5 ⟨gd5, t5, f5, hiL, Bi, z5, hBi, hle, hpu, rfl⟩
      rw [lp, List.drop_of_length_le (Nat.le_refl _)] at hpu
      exact q Bi hpu dq H5 f5 hdq hBi
end
end Qh
end
section
set_option Elab.async false
set_option linter.all false
set_option maxRecDepth 100000
namespace Qh
open PySem L2
local macro_rules | `(tactic| trivial) => `(tactic| first | rfl | decide | exact .inl rfl | exact .inr rfl | exact .inr (.inl rfl) | exact .inr (.inr rfl) | (intro _; rfl) | with_unfolding_all rfl)
def sp_enter (C C_Broken : Addr) : Sp := fun vs H Q E => ∃ (bk de dp pr : Addr) (B : Bk) (k : Str) (n seg : Int) (body : List Int), vs = [.ref bk, .ref pr, .int seg] ∧ BookAt C H bk de dp B ∧ Den H (rowT k n body) (.ref pr) ∧ isRowD (rowT k n body) = true ∧ B.es.length + B.parts.length < 900 ∧
  (∀ B', enterF B k n body seg = some B' → ∀ dq H', Frm bk de dp H H' → (dq = dp ∨ H dq = none) → BookAt C H' bk de dq B' → Q .non H') ∧ (enterF B k n body seg = none → ∀ H', Frm bk de dp H H' → E (.ref C_Broken) none H')
def sp_init (C : Addr) : Sp := fun vs H Q _ => ∃ (bk dx : Addr), vs = [.ref bk] ∧ H bk = some (.ins C dx []) ∧ ∀ de dp H', (∀ b o, H b = some o → b ≠ bk → H' b = some o) → H de = none → H dp = none → BookAt C H' bk de dp ⟨[], 0, []⟩ → Q .non H'
theorem ints_int (ns : List Int) : intsOf (.tuple (ns.map .int)) = ns := by
  show (ns.map PyData.int).map _ = ns
  rw [List.map_map]
  exact List.map_id _
theorem row_facts {k : Str} {n : Int} {body : List Int} (h : isRowD (rowT k n body) = true) : k ∈ kinds ∧ 0 ≤ n ∧ n ≤ 999999 ∧ (k = "deal" → 1 ≤ body.length ∧ 1 ≤ body.getD 0 0 ∧ body.getD 0 0 ≤ 9) ∧ (k = "carried" → 1 ≤ body.length) ∧ body.length ≤ 61 := by
  unfold rowT at h
  simp only [isRowD, Bool.and_eq_true] at h
  obtain ⟨h1, h2, h3, h4⟩ := h
  rw [ints_int] at h4
  simp only [isNum, Bool.and_eq_true, decide_eq_true_eq] at h2
  refine ⟨by simpa using h1, h2.1, h2.2, ?_, ?_, ?_⟩
  · rintro rfl
    unfold fitsK at h4
    rw [if_neg (by decide), if_neg (by decide), if_pos rfl] at h4
    simp only [Bool.and_eq_true, decide_eq_true_eq] at h4
    obtain ⟨⟨l1, l2⟩, l3⟩ := h4
    match body, l1, l2, l3 with
    | [x], _, l2, l3 => exact ⟨Nat.le_refl _, l2, l3⟩
  · rintro rfl
    unfold fitsK at h4
    rw [if_neg (by decide), if_pos rfl] at h4
    simp only [Bool.and_eq_true, decide_eq_true_eq] at h4
    exact h4.1.1
  · unfold fitsK at h4
    split at h4
    · have := of_decide_eq_true h4
      omega
    · split at h4
      · simp only [Bool.and_eq_true, decide_eq_true_eq] at h4
        omega
      · split at h4
        · simp only [Bool.and_eq_true, decide_eq_true_eq] at h4
          omega
        · have := of_decide_eq_true h4
          omega
theorem dens_one {H : Hp} {d : PyData} {v : V} (h : Den H d v) : Dens H [d] [v] := by
  simp only [Dens]
  exact ⟨v, [], rfl, h, rfl⟩
theorem cut_from1 {xs : List V} (h : 1 ≤ xs.length) : cutV xs (some 1) none = xs.drop 1 := by
  unfold cutV
  have e : HT.sIx xs.length 0 (some 1) = 1 := (HT.sIx_nat xs.length 0 1).trans (Nat.min_eq_left h)
  rw [e, HT.sIx_none, List.take_of_length_le (by rw [List.length_drop]; omega)]
theorem sl_both {K : PySem.W.Frag} {a : Addr} {xs : List V} {lo hi : Option Int} {H : Hp} {Q : VK} (ha : H a = some (.tup xs)) (h : ∀ b H4, Same H H4 → H4 b = some (.tup (cutV xs lo hi)) → Q (.ref b) H4) : rSlTA K (.ref a) lo hi H Q := by
  refine ⟨a, xs, rfl, SqT.of ha, fun z => ?_, fun _ p hp => h p _ (same_upd hp) upd_same⟩
  refine h a H (Same.refl H) ?_
  rw [ha]
  unfold cutV
  rw [z.1, z.2, List.drop_zero, Nat.sub_zero, List.take_length]
section
variable {P : Program} {w : World} {K : PySem.W.Frag} {mg : Str → Option Value} {base : Heap} {a_KINDS C_BadRow C_Broken C_Book : Addr}
theorem sc_Book___init__ : FnScope ["self"] ["self"] (defScope s_init) := ⟨rfl, rfl, rfl, by decide +kernel, rfl, by decide +kernel, by decide +kernel⟩
theorem ok_init {f : Addr} {fd : FuncData} (F : Fun K "__init__" "Book.__init__" s_init f fd) (T : TxtK K mg a_KINDS C_BadRow C_Broken C_Book) : FnOk P w K mg base (CXE P w) 1 f fd ["self"] (sp_init C_Book) := by
  refine F.okX sc_Book___init__ (fun vs H Q E h => ?_) (fun cdv A outer s H vs Q E hr h => ?_)
  · obtain ⟨bk, dx, rfl, _⟩ := h
    rfl
  · obtain ⟨bk, dx, rfl, h1, q⟩ := h
    refine ⟨_, @pss_cons _ _ _ _ _ (@ps_fld _ _ _ _ _ _ _ _ (@pv _ 0 _ _ (by trivial) (by trivial) (by trivial) (by trivial)) (@pe_dnewK _ _) (by rfl)) (@pss_cons _ _ _ _ _ (@ps_fld _ _ _ _ _ _ _ _ (@pv _ 0 _ _ (by trivial) (by trivial) (by trivial) (by trivial)) (@pe_int _ _ _ _) (by rfl)) (@pss_one _ _ _ (@ps_fld _ _ _ _ _ _ _ _ (@pv _ 0 _ _ (by trivial) (by trivial) (by trivial) (by trivial)) (@pe_lst _ _ _ _ (@pa_nil _)) (by rfl)))), ?_⟩
    refine fun de hde => ?_
    have nde : bk ≠ de := fun z => by rw [z, hde] at h1; cases h1
    refine ⟨_, rfl, bk, _, dx, _, rfl, by rw [upd_ne nde]; exact h1, T.cl, T.f_entries, (by show 0 < 1000; decide), ?_⟩
    refine ⟨_, rfl, bk, _, dx, _, rfl, upd_same, T.cl, T.f_upcoming, (by show 1 < 1000; decide), ?_⟩
    refine ⟨(by show 0 ≤ sizeLine; decide), fun dp hdp => ?_⟩
    generalize eH1 : upd (upd (upd H de (.dK [])) bk (.ins C_Book dx (putF "entries" (.ref de) []))) bk (.ins C_Book dx (putF "upcoming" (.int 0) (putF "entries" (.ref de) []))) = H1 at hdp ⊢
    have k1 : H1 bk = some (.ins C_Book dx (putF "upcoming" (.int 0) (putF "entries" (.ref de) []))) := by rw [← eH1]; exact upd_same
    have k2 : H1 de = some (.dK []) := by rw [← eH1, upd_ne (Ne.symm nde), upd_ne (Ne.symm nde)]; exact upd_same
    have k3 : ∀ b o, H b = some o → b ≠ bk → H1 b = some o := fun b o e nb => by
      rw [← eH1, upd_ne nb, upd_ne nb, upd_ne (fun z => by rw [z, hde] at e; cases e)]
      exact e
    have ndp : bk ≠ dp := fun z => by rw [← z, k1] at hdp; cases hdp
    have nd2 : de ≠ dp := fun z => by rw [← z, k2] at hdp; cases hdp
    have hdp0 : H dp = none := by
      cases e : H dp with
      | none => rfl
      | some o => rw [k3 dp o e (Ne.symm ndp)] at hdp; cases hdp
    refine ⟨_, rfl, bk, _, dx, _, rfl, by rw [upd_ne ndp]; exact k1, T.cl, T.f_parts, (by show 2 < 1000; decide), ?_⟩
    refine q de dp _ (fun b o e nb => ?_) hde hdp0 ⟨⟨dx, ?_⟩, ⟨[], ?_, trivial⟩, ⟨[], ?_, by simp only [partsD, List.map_nil, Dens]⟩⟩
    · rw [upd_ne nb, upd_ne (fun z => by rw [z, hdp0] at e; cases e)]
      exact k3 b o e nb
    · rw [upd_same]
      rfl
    · rw [upd_ne (Ne.symm nde), upd_ne nd2]
      exact k2
    · rw [upd_ne (Ne.symm ndp)]
      exact upd_same
theorem sc_Book_enter : FnScope ["self", "row", "segment", "kind", "number", "body"] ["self", "row", "segment"] (defScope s_enter) := ⟨rfl, rfl, rfl, by decide +kernel, rfl, by decide +kernel, by decide +kernel⟩
set_option maxHeartbeats 2000000 in
theorem ok_enter {f : Addr} {fd : FuncData} (F : Fun K "enter" "Book.enter" s_enter f fd) (T : TxtK K mg a_KINDS C_BadRow C_Broken C_Book) (m_enter_put : Method P w K mg base C_Book "enter_put" 1 ["self", "number", "body", "segment"] (sp_enter_put C_Book C_Broken))
    (m_enter_deal : Method P w K mg base C_Book "enter_deal" 2 ["self", "number", "many", "segment"] (sp_enter_deal C_Book C_Broken)) (m_change_entry : Method P w K mg base C_Book "change_entry" 1 ["self", "kind", "number"] (sp_change C_Book)) : FnOk P w K mg base (CXE P w) 3 f fd ["self", "row", "segment"] (sp_enter C_Book C_Broken) := by
  refine F.okX sc_Book_enter (fun vs H Q E h => ?_) (fun cdv A outer s H vs Q E hr h => ?_)
  · obtain ⟨bk, de, dp, pr, B, k, n, seg, body, rfl, _⟩ := h
    rfl
  · obtain ⟨bk, de, dp, pr, B, k, n, seg, body, rfl, hB, hd, hrow, hl, q, qe⟩ := h
    refine ⟨_, @pss_cons _ _ _ _ _ (@ps_set _ _ (3) _ _ _ _ sc_Book_enter.nd (by rfl) (by first | exact Or.inl (by rfl) | exact Or.inr (by rfl)) (@pe_ix _ _ _ _ _ _ _ (ix_tupK K) (@pv _ 1 _ _ (by trivial) (by trivial) (by trivial) (by trivial)) (@pe_int _ _ _ _) (fun _ _ => rfl)) (by trivial) (by trivial)) (@pss_cons _ _ _ _ _ (@ps_set _ _ (4) _ _ _ _ sc_Book_enter.nd (by rfl) (by first | exact Or.inl (by rfl) | exact Or.inr (by rfl)) (@pe_ix _ _ _ _ _ _ _ (ix_tupK K) (@pv _ 1 _ _ (by trivial) (by trivial) (by trivial) (by trivial)) (@pe_int _ _ _ _) (fun _ _ => rfl)) (by trivial) (by trivial)) (@pss_cons _ _ _ _ _ (@ps_set _ _ (5) _ _ _ _ sc_Book_enter.nd (by rfl) (by first | exact Or.inl (by rfl) | exact Or.inr (by rfl)) (@pe_ix _ _ _ _ _ _ _ (ix_tupK K) (@pv _ 1 _ _ (by trivial) (by trivial) (by trivial) (by trivial)) (@pe_int _ _ _ _) (fun _ _ => rfl)) (by trivial) (by trivial)) (@pss_one _ _ _ (@ps_if _ _ _ _ _ _ _ _ (@pt_cmpR _ _ _ _ _ _ _ _ op_eq (@pv _ 3 _ _ (by trivial) (by trivial) (by trivial) (by trivial)) (@pe_str _ _ _ _) (nomark _)) (@pss_one _ _ _ (ps_expr (pe_bmK K PySem.F.plainAttrs_list PySem.F.slot_list_append PySem.F.type_list_append mt_append (pe_fld (pv 0) (by rfl)) (pa_Name (pv 1) pa_nil)))) (@pss_one _ _ _ (@ps_if _ _ _ _ _ _ _ _ (@pt_cmpR _ _ _ _ _ _ _ _ op_eq (@pv _ 3 _ _ (by trivial) (by trivial) (by trivial) (by trivial)) (@pe_str _ _ _ _) (nomark _)) (@pss_one _ _ _ (ps_expr (pe_me m_enter_deal T.cl (hr.mono (by decide)) passS (pv 0) (pa_Name (pv 4) (pa_Subscript (pe_ix (ix_tupK K) (pv 5) pe_int (fun _ _ => rfl)) (pa_Name (pv 2) pa_nil)))))) (@pss_one _ _ _ (@ps_if _ _ _ _ _ _ _ _ (@pt_listK _ K _ _ (@pe_fld _ _ _ _ _ (@pv _ 0 _ _ (by trivial) (by trivial) (by trivial) (by trivial)) (by rfl)) (by trivial) (by trivial)) (@pss_one _ _ _ (@ps_raise _ _ _ _ _ _ _ _ _ _ raisesB (by rfl) T.x_Broken (by rfl) T.m_Broken (@pa_Constant _ _ _ _ _ _ _ (@pe_str _ _ _ _) (@pa_nil _)) (by trivial) (by trivial) (by trivial))) (@pss_one _ _ _ (@ps_if _ _ _ _ _ _ _ _ (@pt_cmpR _ _ _ _ _ _ _ _ op_eq (@pv _ 3 _ _ (by trivial) (by trivial) (by trivial) (by trivial)) (@pe_str _ _ _ _) (nomark _)) (@pss_one _ _ _ (ps_expr (pe_me m_enter_put T.cl (hr.mono (by decide)) passS (pv 0) (pa_Name (pv 4) (pa_Name (pv 5) (pa_Name (pv 2) pa_nil)))))) (@pss_one _ _ _ (@ps_if _ _ _ _ _ _ _ _ (@pt_cmpR _ _ _ _ _ _ _ _ op_eq (@pv _ 3 _ _ (by trivial) (by trivial) (by trivial) (by trivial)) (@pe_str _ _ _ _) (nomark _)) (@pss_one _ _ _ (@ps_fld _ _ _ _ _ _ _ _ (@pv _ 0 _ _ (by trivial) (by trivial) (by trivial) (by trivial)) (@pe_callB _ _ _ _ _ _ _ _ _ (call_max2 (by rfl)) (by rfl) T.n_max bt_max (@pa_Attribute _ _ _ _ _ _ _ (@pe_fld _ _ _ _ _ (@pv _ 0 _ _ (by trivial) (by trivial) (by trivial) (by trivial)) (by rfl)) (@pa_Name _ _ _ _ _ _ (@pv _ 4 _ _ (by trivial) (by trivial) (by trivial) (by trivial)) (@pa_nil _))) (by trivial) (by trivial) (by trivial) (by trivial)) (by rfl))) (@pss_one _ _ _ (@ps_if _ _ _ _ _ _ _ _ (@pt_cmpR _ _ _ _ _ _ _ _ op_eq (@pv _ 3 _ _ (by trivial) (by trivial) (by trivial) (by trivial)) (@pe_str _ _ _ _) (nomark _)) (@pss_cons _ _ _ _ _ (@ps_dput _ _ _ _ _ _ _ _ _ (hu1 hr.units) (@pe_fld _ _ _ _ _ (@pv _ 0 _ _ (by trivial) (by trivial) (by trivial) (by trivial)) (by rfl)) (@pv _ 4 _ _ (by trivial) (by trivial) (by trivial) (by trivial)) (@pe_tup _ _ _ _ _ (@pa_Subscript _ _ _ _ _ _ _ (@pe_slice _ _ _ _ _ _ _ _ _ _ (sl_tupK K) (@pv _ 5 _ _ (by trivial) (by trivial) (by trivial) (by trivial)) (@po_some _ _ _ (@pe_int _ _ _ _)) (@po_none _)) (@pa_Subscript _ _ _ _ _ _ _ (@pe_ix _ _ _ _ _ _ _ (ix_tupK K) (@pv _ 5 _ _ (by trivial) (by trivial) (by trivial) (by trivial)) (@pe_int _ _ _ _) (fun _ _ => rfl)) (@pa_Name _ _ _ _ _ _ (@pv _ 2 _ _ (by trivial) (by trivial) (by trivial) (by trivial)) (@pa_nil _))))) (by rfl)) (@pss_one _ _ _ (@ps_fld _ _ _ _ _ _ _ _ (@pv _ 0 _ _ (by trivial) (by trivial) (by trivial) (by trivial)) (@pe_callB _ _ _ _ _ _ _ _ _ (call_max2 (by rfl)) (by rfl) T.n_max bt_max (@pa_Attribute _ _ _ _ _ _ _ (@pe_fld _ _ _ _ _ (@pv _ 0 _ _ (by trivial) (by trivial) (by trivial) (by trivial)) (by rfl)) (@pa_BinOp _ _ _ _ _ _ _ _ (@pe_op _ _ _ _ _ _ _ _ op_add (@pv _ 4 _ _ (by trivial) (by trivial) (by trivial) (by trivial)) (@pe_int _ _ _ _)) (@pa_nil _))) (by trivial) (by trivial) (by trivial) (by trivial)) (by rfl)))) (@pss_one _ _ _ (@ps_if _ _ _ _ _ _ _ _ (@pt_cmp _ _ _ _ _ _ (@pc_din _ _ _ _ _ (hu1 hr.units) (@pv _ 4 _ _ (by trivial) (by trivial) (by trivial) (by trivial)) (@pe_fld _ _ _ _ _ (@pv _ 0 _ _ (by trivial) (by trivial) (by trivial) (by trivial)) (by rfl))) (by trivial)) (@pss_one _ _ _ (ps_expr (pe_me m_change_entry T.cl (hr.mono (by decide)) passN (pv 0) (pa_Name (pv 3) (pa_Name (pv 4) pa_nil))))) (@pss_nil _))))))))))))))))), ?_⟩
    obtain ⟨hk, n0, n9, hdeal, hcar, hbl⟩ := row_facts hrow
    obtain ⟨dx, h1⟩ := hB.self
    obtain ⟨kvs, h2, h3⟩ := hB.ent
    obtain ⟨ps, h4, h5⟩ := hB.par
    have hd' := hd
    unfold rowT at hd'
    simp only [Den, Dens] at hd'
    obtain ⟨t, xt, et, gt, y0, r0, f0, f1, y1, r1, f2, f3, y2, r2, f4, ⟨pb, yb, f5, gb, db⟩, f6⟩ := hd'
    have eb := dens_ints.mp db
    cases et
    subst eb f6 f5 f4 f3 f2 f1 f0
    have sq : SqT K H pr [.str k, .int n, .ref pb] := SqT.of gt
    have sqb : SqT K H pb (body.map V.int) := SqT.of gb
    have lp : ps.length = B.parts.length := by rw [h5.length]; unfold partsD; rw [List.length_map]
    have hkl : kvs.length < sizeLine := by rw [h3.len]; exact Nat.lt_trans (show _ < 900 by omega) (by decide)
    refine ⟨_, rfl, pr, _, _, _, rfl, rfl, sq, atI_nat (j := 0) rfl, _, rfl, pr, _, _, _, rfl, rfl, sq, atI_nat (j := 1) rfl, _, rfl, pr, _, _, _, rfl, rfl, sq, atI_nat (j := 2) rfl, ?_⟩
    unfold enterF at q qe
    refine ⟨_, rfl, rfl, _, rfl, ?_⟩
    by_cases k1 : k = "part"
    · rw [if_pos k1] at q
      rw [dstr_eq' k1]
      refine iteT ?_
      refine ⟨_, rfl, bk, _, dx, _, _, rfl, h1, T.cl, T.f_parts, rfl, .inl ⟨rfl, _, SqL.of h4⟩, _, rfl, dp, _, _, rfl, rfl, h4, by rw [lp]; exact Nat.lt_trans (show _ < 900 by omega) (by decide), ?_⟩
      refine q _ rfl dp _ frm_dp (.inl rfl) (bk_app hB ?_)
      show Dens H (partsD (B.parts ++ [(n, body)])) (ps ++ [.ref pr])
      unfold partsD
      rw [List.map_append]
      refine h5.app (dens_one ?_)
      rw [← k1]
      exact hd
    rw [if_neg k1] at q qe
    rw [dstr_ne' k1]
    refine iteF ⟨_, rfl, rfl, _, rfl, ?_⟩
    by_cases k2 : k = "deal"
    · rw [if_pos k2] at q qe
      rw [dstr_eq' k2]
      refine iteT ?_
      obtain ⟨b1, b2, b3⟩ := hdeal k2
      have at0 : atI (body.map V.int) 0 = some (.int (body.getD 0 0)) := by
        refine atI_nat (j := 0) ?_
        rw [List.getElem?_map, List.getD_eq_getElem?_getD, List.getElem?_eq_getElem (by omega)]
        rfl
      refine ⟨_, rfl, bk, dx, _, rfl, h1, rfl, _, rfl, _, rfl, pb, _, _, _, rfl, rfl, sqb, at0, _, rfl, bk, de, dp, B, n, body.getD 0 0, seg, rfl, hB, n0, n9, by omega, b3, hl, fun B' hB' dq H' f' hq h' => q B' hB' dq H' f' (.inr hq) h', fun hn H' f' => qe hn H' f'⟩
    rw [if_neg k2] at q qe
    rw [dstr_ne' k2]
    refine iteF ?_
    refine ⟨_, rfl, bk, _, dx, _, _, rfl, h1, T.cl, T.f_parts, rfl, dp, ps, rfl, SqL.of h4, ?_⟩
    by_cases kp : B.parts = []
    case neg =>
      rw [if_pos kp] at qe
      have : (!ps.isEmpty) = true := by
        cases ps with
        | nil =>
          rw [List.length_nil] at lp
          exact absurd (List.length_eq_zero_iff.mp lp.symm) kp
        | cons _ _ => rfl
      rw [this]
      exact iteT ⟨(by show 1 ≤ sizeLine; decide), qe rfl H (Frm.refl _ _ _ _)⟩
    rw [if_neg (fun z => z kp)] at q qe
    have : (!ps.isEmpty) = false := by
      cases ps with
      | nil => rfl
      | cons _ _ =>
        rw [kp] at lp
        simp at lp
    rw [this]
    refine iteF ⟨_, rfl, rfl, _, rfl, ?_⟩
    by_cases k3 : k = "put"
    · rw [if_pos k3] at q qe
      rw [dstr_eq' k3]
      refine iteT ?_
      refine ⟨_, rfl, bk, dx, _, rfl, h1, rfl, _, rfl, _, rfl, _, rfl, bk, de, dp, pb, B, n, seg, body, rfl, hB, gb, by omega, fun B' hB' H' f' h' => q B' hB' dp H' f' (.inl rfl) h', fun hn H' f' => qe hn H' f'⟩
    rw [if_neg k3] at q qe
    rw [dstr_ne' k3]
    refine iteF ⟨_, rfl, rfl, _, rfl, ?_⟩
    by_cases k4 : k = "from"
    · rw [if_pos k4] at q
      rw [dstr_eq' k4]
      refine iteT ?_
      refine ⟨_, rfl, bk, _, dx, _, _, rfl, h1, T.cl, T.f_upcoming, rfl, _, rfl, _, _, rfl, _, rfl, bk, _, dx, _, rfl, h1, T.cl, T.f_upcoming, (by show 3 < 1000; decide), ?_⟩
      exact q _ rfl dp _ frm_bk (.inl rfl) (bk_self hB (maxI B.up n) h4 h5)
    rw [if_neg k4] at q qe
    rw [dstr_ne' k4]
    refine iteF ⟨_, rfl, rfl, _, rfl, ?_⟩
    by_cases k5 : k = "carried"
    · rw [if_pos k5] at q
      rw [dstr_eq' k5]
      refine iteT ?_
      have b1 := hcar k5
      have at0 : atI (body.map V.int) 0 = some (.int (body.getD 0 0)) := by
        refine atI_nat (j := 0) ?_
        rw [List.getElem?_map, List.getD_eq_getElem?_getD, List.getElem?_eq_getElem (by omega)]
        rfl
      refine ⟨_, rfl, _, rfl, ?_⟩
      dsimp only [tNoPart]
      refine sl_both gb fun p5 H5 S5 g5 => ?_
      rw [cut_from1 (by rw [List.length_map]; exact b1), ← List.map_drop] at g5
      refine ⟨_, rfl, pb, _, _, _, rfl, rfl, S5.seqT sqb, at0, _, rfl, (by show 3 ≤ sizeLine; decide), fun u hu => ?_⟩
      have S6 := same_upd (o := .tup [.ref p5, .int (body.getD 0 0), .int seg]) hu
      generalize eH6 : upd H5 u (.tup [.ref p5, .int (body.getD 0 0), .int seg]) = H6 at S6 ⊢
      have g6 : H6 u = some (.tup [.ref p5, .int (body.getD 0 0), .int seg]) := by rw [← eH6]; exact upd_same
      have S06 : Same H H6 := S5.trans S6
      have hE : entAt H6 (.ref u) (body.drop 1, body.getD 0 0, seg) := ⟨u, p5, rfl, g6, S6 _ _ g5⟩
      refine ⟨_, rfl, bk, _, dx, _, _, rfl, S06 _ _ h1, T.cl, T.f_entries, rfl, _, rfl, de, _, rfl, DPut.k (k := Sum.inl n) (S06 _ _ h2) hkl, ?_⟩
      have hB7 := bk_ent (hB.same S06) ((h3.t (Same.tup S06)).put (n := n) hE)
      have F7 : Frm bk de dp H6 (upd H6 de (.dK (putK kvs (Sum.inl n) (.ref u)))) := frm_de
      generalize upd H6 de (.dK (putK kvs (Sum.inl n) (.ref u))) = H7 at hB7 F7 ⊢
      obtain ⟨dx7, h17⟩ := hB7.self
      obtain ⟨ps7, h47, h57⟩ := hB7.par
      refine ⟨_, rfl, bk, _, dx7, _, _, rfl, h17, T.cl, T.f_upcoming, rfl, _, rfl, _, _, rfl, rfl, _, _, rfl, _, rfl, bk, _, dx7, _, rfl, h17, T.cl, T.f_upcoming, (by show 3 < 1000; decide), ?_⟩
      exact q _ rfl dp _ (((Same.frm S06).trans F7 (.inl rfl)).trans frm_bk (.inl rfl)) (.inl rfl) (bk_self hB7 (maxI B.up (n + 1)) h47 h57)
    rw [if_neg k5] at q qe
    rw [dstr_ne' k5]
    refine iteF ?_
    refine ⟨_, rfl, _, rfl, bk, _, dx, _, _, rfl, h1, T.cl, T.f_entries, rfl, de, _, rfl, DGet.k (k := Sum.inl n) h2, _, rfl, ?_⟩
    have hv := h3.val (n := n)
    cases he : lookE B.es n with
    | none =>
      rw [he] at hv q
      have hv : valV kvs (Sum.inl n) = none := hv
      rw [hv]
      refine iteF ?_
      exact q B rfl dp H (Frm.refl _ _ _ _) (.inl rfl) hB
    | some e =>
      rw [he] at hv q
      obtain ⟨v, hv1, _⟩ := hv
      rw [hv1]
      refine iteT ?_
      refine ⟨_, rfl, bk, dx, _, rfl, h1, rfl, _, rfl, _, rfl, bk, de, dp, B, k, n, e, rfl, hB, he, by omega, fun H' f' h' => ?_⟩
      refine q _ ?_ dp H' f' (.inl rfl) h'
      dsimp only
      split
      · rfl
      · split <;> rfl
end
end Qh
end
section
set_option Elab.async false
set_option linter.all false
set_option maxRecDepth 100000
namespace Qh
open PySem L2
local macro_rules | `(tactic| trivial) => `(tactic| first | rfl | decide | exact .inl rfl | exact .inr rfl | exact .inr (.inl rfl) | exact .inr (.inr rfl) | (intro _; rfl) | with_unfolding_all rfl)
abbrev s_made : Stmt := top 19
abbrev Rw := Str × Int × List Int
def rowR (r : Rw) : PyData := rowT r.1 r.2.1 r.2.2
def foldB (seg : Int) : Bk → List Rw → Option Bk
  | B, [] => some B
  | B, r :: rs => match enterF B r.1 r.2.1 r.2.2 seg with
    | none => none
    | some B' => foldB seg B' rs
def rowsOk : PyData → Bool
  | .list ds => ds.all isRowD
  | _ => false
def smallR : PyData → Prop := fun d => ∀ k n bs, d = .tuple [k, n, .tuple bs] → bs.length ≤ sizeLine
def sp_made (C_BadRow C_Broken : Addr) : Sp := fun vs H Q E => ∃ (v : V) (d : PyData), vs = [v] ∧ Den H d v ∧ (∀ ds, d = .list ds → ds.length < 800 ∧ ∀ x ∈ ds, smallR x) ∧ (rowsOk d = false → ∀ H', Same H H' → E (.ref C_BadRow) none H') ∧
  (∀ rs : List Rw, d = .list (rs.map rowR) → (∀ r ∈ rs, isRowD (rowR r) = true) →
    (foldB 0 ⟨[], 0, []⟩ rs = none → ∀ H', Same H H' → E (.ref C_Broken) none H') ∧
    (∀ B, foldB 0 ⟨[], 0, []⟩ rs = some B → B.parts ≠ [] → ∀ H', Same H H' → E (.ref C_Broken) none H') ∧
    (∀ B, foldB 0 ⟨[], 0, []⟩ rs = some B → B.parts = [] → ∀ ms, List.Perm ms (B.es.map (·.1)) → ms.Pairwise (· ≤ ·) → ∀ p H', Same H H' → Den H' (.tuple [.list (ms.map (letF B.es)), .int B.up]) (.ref p) → Q (.ref p) H'))
theorem puts_size (seg : Int) : ∀ {ps : List (Int × List Int)} {B B' : Bk}, puts seg B ps = some B' → B'.es.length ≤ B.es.length + ps.length
  | [], B, B', h => by
    cases (Option.some.inj h : B = B')
    exact Nat.le_refl _
  | p :: ps, B, B', h => by
    unfold puts at h
    cases e : put1 B p.1 p.2 seg with
    | none => rw [e] at h; cases h
    | some B1 =>
      rw [e] at h
      have h1 := puts_size seg h
      unfold put1 at e
      split at e
      · cases e
      · cases (Option.some.inj e)
        have := putE_len B.es p.1 (p.2, 0, seg)
        rw [List.length_cons]
        have h1 : B'.es.length ≤ (putE B.es p.1 (p.2, 0, seg)).length + ps.length := h1
        omega
theorem enter_size {B B' : Bk} {k : Str} {n seg : Int} {body : List Int} (h : enterF B k n body seg = some B') : B'.es.length + B'.parts.length ≤ B.es.length + B.parts.length + 1 := by
  unfold enterF at h
  split at h
  · cases (Option.some.inj h)
    show B.es.length + (B.parts ++ [(n, body)]).length ≤ _
    rw [List.length_append]
    exact Nat.le_refl _
  · split at h
    · unfold dealF at h
      split at h
      · have h1 := puts_size seg h
        have h2 := puts_parts seg h
        rw [h2]
        have h1 : B'.es.length ≤ B.es.length + B.parts.length := h1
        show B'.es.length + 0 ≤ _
        omega
      · cases h
    · split at h
      · cases h
      · split at h
        · unfold put1 at h
          split at h
          · cases h
          · cases (Option.some.inj h)
            have := putE_len B.es n (body, 0, seg)
            show (putE B.es n (body, 0, seg)).length + B.parts.length ≤ _
            omega
        · split at h
          · cases (Option.some.inj h)
            exact Nat.le_succ _
          · split at h
            · cases (Option.some.inj h)
              have := putE_len B.es n (body.drop 1, body.getD 0 0, seg)
              show (putE B.es n (body.drop 1, body.getD 0 0, seg)).length + B.parts.length ≤ _
              omega
            · split at h
              · cases (Option.some.inj h)
                exact Nat.le_succ _
              · rename_i e _
                split at h
                · cases (Option.some.inj h)
                  have := putE_len B.es n (e.1, e.2.1 + 1, e.2.2)
                  show (putE B.es n (e.1, e.2.1 + 1, e.2.2)).length + B.parts.length ≤ _
                  omega
                · split at h
                  · cases (Option.some.inj h)
                    have := putE_len B.es n (e.1, 0, e.2.2)
                    show (putE B.es n (e.1, 0, e.2.2)).length + B.parts.length ≤ _
                    omega
                  · cases (Option.some.inj h)
                    have : (dropE B.es n).length ≤ B.es.length := List.length_filter_le _ _
                    show (dropE B.es n).length + B.parts.length ≤ _
                    omega
/-- rows that are such, as rows -/
theorem rows_of {ds : List PyData} (h : ds.all isRowD = true) : ∃ rs : List Rw, ds = rs.map rowR ∧ ∀ r ∈ rs, isRowD (rowR r) = true := by
  induction ds with
  | nil => exact ⟨[], rfl, fun r hr => absurd hr (by simp)⟩
  | cons d ds ih =>
    rw [List.all_cons, Bool.and_eq_true] at h
    obtain ⟨rs, e, hr⟩ := ih h.2
    have h1 := h.1
    have : ∃ r : Rw, d = rowR r := by
      match d, h1 with
      | .tuple [.str k, .int n, .tuple bs], h1 =>
        simp only [isRowD, Bool.and_eq_true] at h1
        have hb : bs.all (isNum 0 255) = true := h1.2.2.1
        refine ⟨(k, n, intsOf (.tuple bs)), ?_⟩
        show PyData.tuple [.str k, .int n, .tuple bs] = .tuple [.str k, .int n, .tuple ((intsOf (.tuple bs)).map .int)]
        congr 4
        have : ∀ l : List PyData, l.all (isNum 0 255) = true → l = (intsOf (.tuple l)).map .int := by
          intro l hl
          induction l with
          | nil => rfl
          | cons x l ih =>
            rw [List.all_cons, Bool.and_eq_true] at hl
            have := ih hl.2
            cases x with
            | int i =>
              show PyData.int i :: l = PyData.int i :: (intsOf (.tuple l)).map .int
              rw [← this]
            | _ => exact absurd hl.1 (by simp [isNum])
        exact congrArg PyData.tuple (this bs hb)
      | .tuple [.str k, .int n, .list _], h1 => simp [isRowD, isByt] at h1
      | .tuple [.str k, .int n, .int _], h1 => simp [isRowD, isByt] at h1
      | .tuple [.str k, .int n, .str _], h1 => simp [isRowD, isByt] at h1
      | .tuple [.str k, .int n, .bool _], h1 => simp [isRowD, isByt] at h1
      | .tuple [.str k, .int n, .none], h1 => simp [isRowD, isByt] at h1
      | .tuple [.str k, .int n, .dict _], h1 => simp [isRowD, isByt] at h1
      | .tuple [.str k, .str _, b], h1 => simp [isRowD, isNum] at h1
      | .tuple [.str k, .bool _, b], h1 => simp [isRowD, isNum] at h1
      | .tuple [.str k, .none, b], h1 => simp [isRowD, isNum] at h1
      | .tuple [.str k, .list _, b], h1 => simp [isRowD, isNum] at h1
      | .tuple [.str k, .tuple _, b], h1 => simp [isRowD, isNum] at h1
      | .tuple [.str k, .dict _, b], h1 => simp [isRowD, isNum] at h1
    obtain ⟨r, e1⟩ := this
    refine ⟨r :: rs, by rw [List.map_cons, ← e1, ← e], fun x hx => ?_⟩
    rcases List.mem_cons.mp hx with rfl | hx
    · rw [← e1]
      exact h1
    · exact hr x hx
section
variable {P : Program} {w : World} {K : PySem.W.Frag} {mg : Str → Option Value} {base : Heap} {a_KINDS C_BadRow C_Broken C_Book : Addr}
theorem sc_made : FnScope ["rows", "book", "row"] ["rows"] (defScope s_made) := ⟨rfl, rfl, rfl, by decide +kernel, rfl, by decide +kernel, by decide +kernel⟩
set_option maxHeartbeats 2000000 in
theorem ok_made {f : Addr} {fd : FuncData} (F : Fun K "made" "made" s_made f fd) (T : TxtK K mg a_KINDS C_BadRow C_Broken C_Book) (c_is_row : Callee P w K mg base "is_row" 3 ["thing"] sp_is_row) (c_Book : Maker P w K mg base "Book" C_Book 1 ["self"] (sp_init C_Book))
    (m_enter : Method P w K mg base C_Book "enter" 3 ["self", "row", "segment"] (sp_enter C_Book C_Broken)) (m_letters : Method P w K mg base C_Book "letters" 2 ["self"] (sp_letters C_Book)) : FnOk P w K mg base (CXE P w) 4 f fd ["rows"] (sp_made C_BadRow C_Broken) := by
  refine F.okX sc_made (fun vs H Q E h => ?_) (fun cdv A outer s H vs Q E hr h => ?_)
  · obtain ⟨v, d, rfl, _⟩ := h
    rfl
  · obtain ⟨v, d, rfl, hd, hz, qb, q⟩ := h
    refine ⟨_, @pss_cons _ _ _ _ _ (@ps_if _ _ _ _ _ _ _ _ (@PW.pt _ _ _ (@pw_or _ _ _ _ _ _ _ (@pt_not _ _ _ _ (@pt_val _ _ _ (@pe_callB _ _ _ _ _ _ _ _ _ (call_isiK K) (by rfl) T.n_isinstance bt_isinstance (@pa_Name _ _ _ _ _ _ (@pv _ 0 _ _ (by trivial) (by trivial) (by trivial) (by trivial)) (@pa_Name _ _ _ _ _ _ (@pe_bltn _ _ (.ty "list") _ _ (by rfl) T.n_list bt_list (by rfl) (by trivial) (by trivial)) (@pa_nil _))) (by trivial) (by trivial) (by trivial) (by trivial)) (by trivial))) (@pw_or1 _ _ _ _ (@pt_not _ _ _ _ (@pt_val _ _ _ (@pe_callB _ _ _ _ _ _ _ _ _ (call_allK K) (by rfl) T.n_all bt_all (@pa_ListComp _ _ _ _ _ _ _ _ (@pe_comp _ _ _ _ _ _ _ _ _ _ _ ["row"] [] (by rfl) (@pi_listK _ K _ _ _ (@pv _ 0 _ _ (by trivial) (by trivial) (by trivial) (by trivial)) (by trivial)) (fun C s2 H2 ex => (@pg_name _ _ (0) _ (show List.Nodup (["row"] : List Str) by decide +kernel) (by rfl) (Or.inl (by rfl)) (by trivial))) (fun C s2 H2 ex => (@pif_nil _)) (fun C s2 H2 ex => (@pe_fn _ _ _ _ _ _ _ _ _ _ _ c_is_row (hr.mono (by decide)) passN (@pa_Name _ _ _ _ _ _ (@pv _ 0 _ _ (by trivial) (by trivial) (by trivial) (by trivial)) (@pa_nil _)) (by trivial) (by trivial) (by trivial) (by trivial))) (by trivial) (by trivial) (by trivial) (by trivial)) (@pa_nil _)) (by trivial) (by trivial) (by trivial) (by trivial)) (by trivial)))))) (@pss_one _ _ _ (@ps_raise _ _ _ _ _ _ _ _ _ _ raisesB (by rfl) T.x_BadRow (by rfl) T.m_BadRow (@pa_Constant _ _ _ _ _ _ _ (@pe_str _ _ _ _) (@pa_nil _)) (by trivial) (by trivial) (by trivial))) (@pss_nil _)) (@pss_cons _ _ _ _ _ (@ps_set _ _ (1) _ _ _ _ sc_made.nd (by rfl) (by first | exact Or.inl (by rfl) | exact Or.inr (by rfl)) (@pe_mk0 _ _ _ _ _ _ _ _ _ c_Book (hr.mono (by decide)) passS (by trivial) (by trivial)) (by trivial) (by trivial)) (@pss_cons _ _ _ _ _ (@ps_for _ _ _ _ _ _ _ _ (ownB own_cx) (by rfl) (@pi_listK _ K _ _ _ (@pv _ 0 _ _ (by trivial) (by trivial) (by trivial) (by trivial)) (by trivial)) (@pg_name _ _ (2) _ sc_made.nd (by rfl) (by first | exact Or.inl (by rfl) | exact Or.inr (by rfl)) (by trivial)) (@pss_one _ _ _ (ps_expr (pe_me m_enter T.cl (hr.mono (by decide)) passS (pv 1) (pa_Name (pv 2) (pa_Constant pe_int pa_nil))))) (by trivial)) (@pss_cons _ _ _ _ _ (@ps_if _ _ _ _ _ _ _ _ (@pt_listK _ K _ _ (@pe_fld _ _ _ _ _ (@pv _ 1 _ _ (by trivial) (by trivial) (by trivial) (by trivial)) (by rfl)) (by trivial) (by trivial)) (@pss_one _ _ _ (@ps_raise _ _ _ _ _ _ _ _ _ _ raisesB (by rfl) T.x_Broken (by rfl) T.m_Broken (@pa_Constant _ _ _ _ _ _ _ (@pe_str _ _ _ _) (@pa_nil _)) (by trivial) (by trivial) (by trivial))) (@pss_nil _)) (@pss_one _ _ _ (@ps_ret _ _ _ _ (@pe_tup _ _ _ _ _ (@pa_Call _ _ _ _ _ _ _ _ (@pe_me0 _ _ _ _ _ _ _ _ _ _ _ _ m_letters T.cl (hr.mono (by decide)) passN (@pv _ 1 _ _ (by trivial) (by trivial) (by trivial) (by trivial)) (by trivial)) (@pa_Attribute _ _ _ _ _ _ _ (@pe_fld _ _ _ _ _ (@pv _ 1 _ _ (by trivial) (by trivial) (by trivial) (by trivial)) (by rfl)) (@pa_nil _))))))))), ?_⟩
    refine ⟨_, rfl, _, _, _, _, rfl, hd.ty, kit_list d, _, rfl, ?_⟩
    cases d with
    | none => exact iteT (iteT ⟨(by show 1 ≤ sizeLine; decide), qb rfl H (Same.refl H)⟩)
    | bool x => exact iteT (iteT ⟨(by show 1 ≤ sizeLine; decide), qb rfl H (Same.refl H)⟩)
    | int x => exact iteT (iteT ⟨(by show 1 ≤ sizeLine; decide), qb rfl H (Same.refl H)⟩)
    | str x => exact iteT (iteT ⟨(by show 1 ≤ sizeLine; decide), qb rfl H (Same.refl H)⟩)
    | tuple x => exact iteT (iteT ⟨(by show 1 ≤ sizeLine; decide), qb rfl H (Same.refl H)⟩)
    | dict x => exact iteT (iteT ⟨(by show 1 ≤ sizeLine; decide), qb rfl H (Same.refl H)⟩)
    | list ds =>
    refine iteF ?_
    simp only [Den] at hd
    obtain ⟨a, xs, rfl, ha, hds⟩ := hd
    have hl := hds.length
    obtain ⟨z1, z2⟩ := hz ds rfl
    refine ⟨_, rfl, a, rfl, ⟨_, SqL.of ha⟩, ?_⟩
    refine comp_src (src_list (K := K) (SqL.of ha)) (by rw [hl]; exact Nat.le_of_lt (Nat.lt_trans z1 (by decide))) (fun i y _ => ∃ d, ds[i]? = some d ∧ y = .bl (isRowD d)) (fun _ _ _ _ _ h => h) (fun σ => σ.length = 1) ?z0 ?_ ?_
    case z0 => rfl
    · intro i x σc H3 hi hσ s3 hx Q' hQ'
      obtain ⟨d, hdi, hdx⟩ := hds.get hx
      match σc, hσ with
      | [z], _ =>
        refine ⟨_, rfl, x, d, rfl, hdx.same s3, z2 d (List.mem_of_getElem? hdi), fun H4 S4 => ?_⟩
        exact hQ' _ _ _ rfl S4 ⟨d, hdi, rfl⟩
    intro D ys H1 hD S1 hD' hlen hR
    have ey : ys = (ds.map isRowD).map V.bl := by
      apply List.ext_getElem?
      intro i
      cases e : ys[i]? with
      | none =>
        have : ys.length ≤ i := List.getElem?_eq_none_iff.mp e
        rw [List.getElem?_eq_none (by rw [List.length_map, List.length_map]; omega)]
      | some y =>
        obtain ⟨d, h1, h2⟩ := hR i y e
        rw [List.getElem?_map, List.getElem?_map, h1, h2]
        rfl
    refine ⟨D, ds.map isRowD, rfl, SqL.of (by rw [hD', ey]), _, rfl, ?_⟩
    rw [List.all_map]
    cases hok : ds.all isRowD with
    | false =>
      have e1 : (ds.all (id ∘ isRowD)) = false := hok
      rw [e1]
      exact iteT ⟨(by show 1 ≤ sizeLine; decide), qb hok H1 S1⟩
    | true =>
    have e1 : (ds.all (id ∘ isRowD)) = true := hok
    rw [e1]
    refine iteF ?_
    refine go_next rfl ?_
    obtain ⟨rs, rfl, hrs⟩ := rows_of hok
    obtain ⟨qn, qp, q⟩ := q rs rfl hrs
    rw [List.length_map] at z1 hl
    refine fun bk dx hbk hdx ndx => ⟨bk, dx, rfl, upd_same, fun de dp H2 f2 hde hdp hB2 => ⟨rfl, ?_⟩⟩
    have S12 : Same H1 H2 := fun b o e => by
      have nb : b ≠ bk := fun z => by rw [z, hbk] at e; cases e
      have nd : b ≠ dx := fun z => by rw [z, hdx] at e; cases e
      exact f2 b o (by rw [upd_ne nb, upd_ne nd]; exact e) nb
    have fr : ∀ c, upd (upd H1 dx (.own bk)) bk (.ins C_Book dx []) c = none → H1 c = none := fun c e => by
      cases e2 : H1 c with
      | none => rfl
      | some o =>
        have nb : c ≠ bk := fun z => by rw [z, hbk] at e2; cases e2
        have nd : c ≠ dx := fun z => by rw [z, hdx] at e2; cases e2
        rw [upd_ne nb, upd_ne nd, e2] at e
        cases e
    have hde1 := fr de hde
    have hdp1 := fr dp hdp
    have d1 : Dens H1 (rs.map rowR) xs := hds.same S1
    have ga1 : H1 a = some (.lst xs) := S1 _ _ ha
    refine ⟨_, rfl, a, rfl, ⟨_, SqL.of (S12 _ _ ga1)⟩, ?_⟩
    refine for_src0 (src_list (K := K) (SqL.of ga1)) (fun i σ H' => Same H1 H' ∧ ∃ Bi dpi z2, BookAt C_Book H' bk de dpi Bi ∧ H1 dpi = none ∧ Bi.es.length + Bi.parts.length ≤ i ∧ foldB 0 ⟨[], 0, []⟩ rs = foldB 0 Bi (rs.drop i) ∧ σ = [some (.ref a), some (.ref bk), z2]) ?i0 (fun i σ H' h => h.1) ?_ ?_
    case i0 => exact ⟨S12, _, dp, none, hB2, hdp1, Nat.le_refl _, rfl, rfl⟩
    · rintro i x σ H5 H6 hi ⟨s5, Bi, dpi, z2', hBi, hdpi, hle, hfo, rfl⟩ s6 hx
      obtain ⟨d, hd, dn⟩ := d1.get hx
      rw [List.getElem?_map] at hd
      cases e : rs[i]? with
      | none => rw [e] at hd; cases hd
      | some r =>
        rw [e] at hd
        cases (Option.some.inj hd : rowR r = d)
        have iL : i < rs.length := (List.getElem?_eq_some_iff.mp e).1
        have ed : rs.drop i = r :: rs.drop (i + 1) := by
          rw [List.drop_eq_getElem_cons iL]
          have := (List.getElem?_eq_some_iff.mp e).2
          rw [this]
        rw [ed] at hfo
        have S16 : Same H1 H6 := s5.trans s6
        have dn' : Den H6 (rowT r.1 r.2.1 r.2.2) x := dn.same S16
        obtain ⟨b, rfl⟩ : ∃ b, x = .ref b := by
          have := dn'
          unfold rowT at this
          simp only [Den] at this
          obtain ⟨b, _, e, _⟩ := this
          exact ⟨b, e⟩
        have hB6 := hBi.same s6
        obtain ⟨dx6, h16⟩ := hB6.self
        have sf : ∀ {H7 : Hp}, Frm bk de dpi H6 H7 → Same H1 H7 := fun f7 c o ec => f7 c o (S16 c o ec) (ne_of_none ec hbk) (ne_of_none ec hde1) (ne_of_none ec hdpi)
        refine ⟨_, rfl, bk, dx6, _, rfl, h16, rfl, _, rfl, bk, de, dpi, b, Bi, r.1, r.2.1, 0, r.2.2, rfl, hB6, dn', hrs r (List.mem_of_getElem? e), by omega, fun B' hB' dq H7 f7 hdq hB7 => ?_, fun hn H7 f7 => ?_⟩
        · refine ⟨sf f7, B', dq, _, hB7, ?_, ?_, ?_, rfl⟩
          · rcases hdq with rfl | hdq
            · exact hdpi
            · exact S16.free hdq
          · have := enter_size hB'
            omega
          · rw [hfo]
            show (match enterF Bi r.1 r.2.1 r.2.2 0 with | none => none | some B' => foldB 0 B' (rs.drop (i + 1))) = _
            rw [hB']
        · refine qn ?_ H7 (S1.trans (sf f7))
          rw [hfo]
          show (match enterF Bi r.1 r.2.1 r.2.2 0 with | none => none | some B' => foldB 0 B' (rs.drop (i + 1))) = none
          rw [hn]
    · rintro σ H5 ⟨s5, B, dpi, z2', hB, hdpi, hle, hfo, rfl⟩
      rw [hl, List.drop_of_length_le (Nat.le_refl _)] at hfo
      rw [hl] at hle
      obtain ⟨dx5, h15⟩ := hB.self
      obtain ⟨ps, h45, h55⟩ := hB.par
      have lp : ps.length = B.parts.length := by rw [h55.length]; unfold partsD; rw [List.length_map]
      refine ⟨_, rfl, bk, _, dx5, _, _, rfl, h15, T.cl, T.f_parts, rfl, dpi, ps, rfl, SqL.of h45, ?_⟩
      by_cases kp : B.parts = []
      case neg =>
        have : (!ps.isEmpty) = true := by
          cases ps with
          | nil =>
            rw [List.length_nil] at lp
            exact absurd (List.length_eq_zero_iff.mp lp.symm) kp
          | cons _ _ => rfl
        rw [this]
        exact iteT ⟨(by show 1 ≤ sizeLine; decide), qp B hfo kp H5 (S1.trans s5)⟩
      have : (!ps.isEmpty) = false := by
        cases ps with
        | nil => rfl
        | cons _ _ =>
          rw [kp] at lp
          simp at lp
      rw [this]
      refine iteF ?_
      refine go_next rfl ?_
      refine ⟨_, rfl, bk, dx5, _, rfl, h15, rfl, bk, de, dpi, B, rfl, hB, by omega, fun ms perm pw p6 H6 S6 d6 => ?_⟩
      refine ⟨_, rfl, bk, _, dx5, _, _, rfl, S6 _ _ h15, T.cl, T.f_upcoming, rfl, (by show 2 ≤ sizeLine; decide), fun p7 hp7 => ?_⟩
      have S7 := same_upd (o := .tup [.ref p6, .int B.up]) hp7
      refine q B hfo kp ms perm pw p7 _ (S1.trans (s5.trans (S6.trans S7))) ?_
      have d7 := d6.same S7
      simp only [Den, Dens] at d7 ⊢
      exact ⟨p7, _, rfl, upd_same, _, _, rfl, d7, _, _, rfl, rfl, rfl⟩
end
end Qh
end
section
set_option Elab.async false
set_option linter.all false
set_option maxRecDepth 100000
namespace Qh
open PySem L2
local macro_rules | `(tactic| trivial) => `(tactic| first | rfl | decide | exact .inl rfl | exact .inr rfl | exact .inr (.inl rfl) | exact .inr (.inr rfl) | (intro _; rfl) | with_unfolding_all rfl)
/-! ### data without tables: equal to itself, laid, of small depth -/
mutual
def seqD : PyData → Bool
  | .none | .bool _ | .int _ => true
  | .str x => PyData.strOk x
  | .tuple ds => seqDs ds
  | .list ds => seqDs ds
  | .dict _ => false
def seqDs : List PyData → Bool
  | [] => true
  | d :: ds => seqD d && seqDs ds
end
mutual
theorem eqv_refl : ∀ {d : PyData}, seqD d = true → PyData.eqv d d = true
  | .none, _ => rfl
  | .bool b, _ => by cases b <;> rfl
  | .int i, _ => by simp [PyData.eqv]
  | .str x, _ => by simp [PyData.eqv]
  | .tuple ds, h => by
    simp only [seqD] at h
    simp only [PyData.eqv]
    exact eqvs_refl h
  | .list ds, h => by
    simp only [seqD] at h
    simp only [PyData.eqv]
    exact eqvs_refl h
  | .dict _, h => by simp [seqD] at h
theorem eqvs_refl : ∀ {ds : List PyData}, seqDs ds = true → PyData.eqvAll ds ds = true
  | [], _ => rfl
  | d :: ds, h => by
    simp only [seqDs, Bool.and_eq_true] at h
    simp only [PyData.eqvAll]
    rw [eqv_refl h.1, eqvs_refl h.2]
    rfl
end
mutual
theorem lay_seq : ∀ {d : PyData}, seqD d = true → PyData.canLay0 d = true
  | .none, _ => rfl
  | .bool b, _ => rfl
  | .int i, _ => rfl
  | .str x, h => by
    simp only [seqD] at h
    simp only [PyData.canLay0]
    exact h
  | .tuple ds, h => by
    simp only [seqD] at h
    simp only [PyData.canLay0]
    exact lays_seq h
  | .list ds, h => by
    simp only [seqD] at h
    simp only [PyData.canLay0]
    exact lays_seq h
  | .dict _, h => by simp [seqD] at h
theorem lays_seq : ∀ {ds : List PyData}, seqDs ds = true → PyData.canLayAll0 ds = true
  | [], _ => rfl
  | d :: ds, h => by
    simp only [seqDs, Bool.and_eq_true] at h
    simp only [PyData.canLayAll0]
    rw [lay_seq h.1, lays_seq h.2]
    rfl
end
theorem depths_le {n : Nat} : ∀ {ds : List PyData}, (∀ d ∈ ds, PyData.depth d ≤ n) → PyData.depthAll ds ≤ n
  | [], _ => Nat.zero_le _
  | d :: ds, h => by
    simp only [PyData.depthAll]
    exact Nat.max_le.mpr ⟨h d (by simp), depths_le fun x hx => h x (by simp [hx])⟩
theorem seqs_all : ∀ {ds : List PyData}, (∀ d ∈ ds, seqD d = true) → seqDs ds = true
  | [], _ => rfl
  | d :: ds, h => by
    simp only [seqDs]
    rw [h d (by simp), seqs_all fun x hx => h x (by simp [hx])]
    rfl
theorem seq_ints (ns : List Int) : seqDs (ns.map .int) = true := seqs_all fun d hd => by
  rw [List.mem_map] at hd
  obtain ⟨i, _, rfl⟩ := hd
  rfl
theorem shaped_of {d : PyData} (h : seqD d = true) (hd : PyData.depth d ≤ 64) : SeqAt.shaped d = true := by
  unfold SeqAt.shaped
  rw [lay_seq h, decide_eq_true hd]
  rfl
end Qh
end
section
set_option Elab.async false
set_option linter.all false
set_option maxRecDepth 100000
namespace Qh
open PySem L2
local macro_rules | `(tactic| trivial) => `(tactic| first | rfl | decide | exact .inl rfl | exact .inr rfl | exact .inr (.inl rfl) | exact .inr (.inr rfl) | (intro _; rfl) | with_unfolding_all rfl)
theorem le_size {n : Nat} (h : n ≤ 100 := by exact Nat.le_of_ble_eq_true rfl) : n ≤ sizeLine := Nat.le_trans h (by decide)
theorem upd_tup {H : Hp} {p : Addr} {o u : HO} (h : H p = some o) (n : ∀ xs, o ≠ .tup xs) : TupS H (upd H p u) := fun b xs e => by
  rw [upd_ne (fun z => by rw [z, h] at e; exact n _ (Option.some.inj e))]
  exact e
/-- all but one object stays -/
def But (pl : Addr) (H H' : Hp) : Prop := ∀ b o, H b = some o → b ≠ pl → H' b = some o
theorem But.refl {pl : Addr} {H : Hp} : But pl H H := fun b o e _ => e
theorem But.trans {pl : Addr} {H H1 H2 : Hp} (a : But pl H H1) (b : But pl H1 H2) : But pl H H2 := fun c o e n => b c o (a c o e n) n
theorem Same.but {pl : Addr} {H H' : Hp} (s : Same H H') : But pl H H' := fun b o e _ => s b o e
theorem But.tup {pl : Addr} {H H' : Hp} {o : HO} (s : But pl H H') (h : H pl = some o) (n : ∀ xs, o ≠ .tup xs) : TupS H H' := fun b xs e => s b _ e (fun z => by rw [z, h] at e; exact n _ (Option.some.inj e))
theorem row_form {H : Hp} {r : Rw} {v : V} (h : Den H (rowR r) v) : ∃ t b, v = .ref t ∧ H t = some (.tup [.str r.1, .int r.2.1, .ref b]) ∧ H b = some (.tup (r.2.2.map V.int)) := by
  unfold rowR rowT at h
  simp only [Den, Dens] at h
  obtain ⟨t, _, rfl, gt, _, _, rfl, rfl, _, _, rfl, rfl, _, _, rfl, ⟨b, ys, rfl, gb, hys⟩, rfl⟩ := h
  have := dens_ints.mp hys
  subst this
  exact ⟨t, b, rfl, gt, gb⟩
end Qh
end
section
set_option Elab.async false
set_option linter.all false
set_option maxRecDepth 100000
namespace Qh
open PySem L2
local macro_rules | `(tactic| trivial) => `(tactic| first | rfl | decide | exact .inl rfl | exact .inr rfl | exact .inr (.inl rfl) | exact .inr (.inr rfl) | (intro _; rfl) | with_unfolding_all rfl)
abbrev s_rows : Stmt := top 25
theorem bytes_in (x m : Int) : ∀ b ∈ bytesF x m, 0 ≤ b ∧ b ≤ 255 := by
  intro b hb
  unfold bytesF at hb
  rw [List.mem_map] at hb
  obtain ⟨j, _, rfl⟩ := hb
  unfold byteF
  split
  · unfold pickF
    have h1 := Int.emod_nonneg (seedF x j / 97) (show (256 : Int) ≠ 0 by decide)
    have h2 := Int.emod_lt_of_pos (seedF x j / 97) (show (0 : Int) < 256 by decide)
    omega
  · omega
theorem bytes_len (x : Int) {m : Int} (h0 : 0 ≤ m) (h9 : m ≤ 9) : (bytesF x m).length ≤ 9 := by
  unfold bytesF
  rw [List.length_map, List.length_range]
  have := many_bd (x := x) (m := m) h0
  omega
theorem byt_all {ns : List Int} (h : ∀ b ∈ ns, 0 ≤ b ∧ b ≤ 255) : isByt (.tuple (ns.map .int)) = true := by
  show (ns.map PyData.int).all (isNum 0 255) = true
  rw [List.all_map, List.all_eq_true]
  intro b hb
  have := h b hb
  show (decide (0 ≤ b) && decide (b ≤ 255)) = true
  rw [decide_eq_true this.1, decide_eq_true this.2]
  rfl
theorem row_ok {k : Str} {n : Int} {ns : List Int} (hk : kinds.contains k = true) (h0 : 0 ≤ n) (h9 : n ≤ 999999) (hb : ∀ b ∈ ns, 0 ≤ b ∧ b ≤ 255) (hf : fitsK k ns = true) : isRowD (rowT k n ns) = true := by
  show (kinds.contains k && (isNum 0 999999 (.int n) && (isByt (.tuple (ns.map .int)) && fitsK k (intsOf (.tuple (ns.map .int)))))) = true
  rw [hk, byt_all hb, ints_int, hf]
  show (true && ((decide (0 ≤ n) && decide (n ≤ 999999)) && (true && true))) = true
  rw [decide_eq_true h0, decide_eq_true h9]
  rfl
/-! ### the rows that the law draws -/
def oddK (p : Int) : Str := (["out", "done", "new", "out", "done"] : List Str).getD (p - 4).toNat "out"
def partRow (x after : Int) (j : Nat) : Rw := ("part", after + (j : Int), bytesF (seedF x j) 6)
def turnR (x after : Int) : List Rw :=
  if pickF x 10 < 3 then [("put", after + (if x / 11 % 3 = 2 then 2 else 0), bytesF x 9)]
  else if pickF x 10 < 4 then (List.range (1 + x / 11 % 4).toNat).map (partRow x after) ++ ([("deal", after, [1 + x / 11 % 4])] : List Rw)
  else if pickF x 10 = 9 then (if x / 17 % 2 = 0 then [("from", x / 7 % (after + 2), [])] else [("carried", x / 7 % (after + 2), (x / 13 % 10) :: bytesF x 6)])
  else [(oddK (pickF x 10), x / 7 % (after + 2), [])]
def turnA (x after : Int) : Int :=
  if pickF x 10 < 3 then after + (if x / 11 % 3 = 2 then 2 else 0) + 1
  else if pickF x 10 < 4 then after + (1 + x / 11 % 4)
  else if pickF x 10 = 9 then maxI after (x / 7 % (after + 2) + x / 17 % 2)
  else after
def genR (seed : Int) : Nat → List Rw × Int
  | 0 => ([], 0)
  | k + 1 => ((genR seed k).1 ++ turnR (seedF seed k) (genR seed k).2, turnA (seedF seed k) (genR seed k).2)
def oddR (seed after spoil : Int) : Rw := ([("put", seed / 13 % (after + 1), []), ("deal", 0, [1]), ("part", after, []), ("from", 3, [])] : List Rw).getD (spoil % 4).toNat ("from", 3, [])
def rowsF (seed many spoil : Int) : List Rw :=
  let g := genR seed (seed / 7 % (many + 1)).toNat
  if spoil > 0 then g.1.take (seed / 19 % ((g.1.length : Int) + 1)).toNat ++ [oddR seed g.2 spoil] ++ g.1.drop (seed / 19 % ((g.1.length : Int) + 1)).toNat else g.1
theorem turn_a {x after : Int} (h : 0 ≤ after) : after ≤ turnA x after ∧ turnA x after ≤ after + 4 := by
  unfold turnA
  have h2 := Int.emod_nonneg (x / 7) (show after + 2 ≠ 0 by omega)
  have h3 := Int.emod_lt_of_pos (x / 7) (show 0 < after + 2 by omega)
  have h4 := Int.emod_nonneg (x / 11) (show (4 : Int) ≠ 0 by decide)
  have h5 := Int.emod_lt_of_pos (x / 11) (show (0 : Int) < 4 by decide)
  have h6 := Int.emod_nonneg (x / 17) (show (2 : Int) ≠ 0 by decide)
  have h7 := Int.emod_lt_of_pos (x / 17) (show (0 : Int) < 2 by decide)
  unfold maxI
  split
  · split <;> omega
  · split
    · omega
    · split
      · split <;> omega
      · omega
theorem gen_a (seed : Int) : ∀ k, 0 ≤ (genR seed k).2 ∧ (genR seed k).2 ≤ 4 * (k : Int)
  | 0 => by show (0 : Int) ≤ 0 ∧ (0 : Int) ≤ 4 * 0; omega
  | k + 1 => by
    have ih := gen_a seed k
    have := turn_a (x := seedF seed k) ih.1
    show 0 ≤ turnA (seedF seed k) (genR seed k).2 ∧ turnA (seedF seed k) (genR seed k).2 ≤ 4 * ((k : Int) + 1)
    omega
theorem odd_in (p : Int) (h4 : 4 ≤ p) (h8 : p ≤ 8) : oddK p = "out" ∨ oddK p = "done" ∨ oddK p = "new" := by
  have : p = 4 ∨ p = 5 ∨ p = 6 ∨ p = 7 ∨ p = 8 := by omega
  rcases this with rfl | rfl | rfl | rfl | rfl
  · exact .inl rfl
  · exact .inr (.inl rfl)
  · exact .inr (.inr rfl)
  · exact .inl rfl
  · exact .inr (.inl rfl)
theorem fits_odd {k : Str} (h : k = "out" ∨ k = "done" ∨ k = "new" ∨ k = "from") : fitsK k [] = true ∧ kinds.contains k = true := by
  rcases h with rfl | rfl | rfl | rfl <;> exact ⟨by decide +kernel, by decide +kernel⟩
theorem pick_bd (x : Int) : 0 ≤ pickF x 10 ∧ pickF x 10 < 10 := ⟨Int.emod_nonneg _ (by decide), Int.emod_lt_of_pos _ (by decide)⟩
theorem turn_ok {x after : Int} (h0 : 0 ≤ after) (h9 : after ≤ 1000) : (∀ r ∈ turnR x after, isRowD (rowR r) = true) ∧ (turnR x after).length ≤ 5 := by
  have h2 := Int.emod_nonneg (x / 7) (show after + 2 ≠ 0 by omega)
  have h3 := Int.emod_lt_of_pos (x / 7) (show 0 < after + 2 by omega)
  have h4 := Int.emod_nonneg (x / 11) (show (4 : Int) ≠ 0 by decide)
  have h5 := Int.emod_lt_of_pos (x / 11) (show (0 : Int) < 4 by decide)
  have h6 := Int.emod_nonneg (x / 13) (show (10 : Int) ≠ 0 by decide)
  have h7 := Int.emod_lt_of_pos (x / 13) (show (0 : Int) < 10 by decide)
  have hp := pick_bd x
  unfold turnR
  split
  · refine ⟨fun r hr => ?_, by show 1 ≤ 5; decide⟩
    rw [List.mem_singleton.mp hr]
    have hl := bytes_len x (m := 9) (by decide) (by decide)
    refine row_ok (k := "put") (n := after + (if x / 11 % 3 = 2 then 2 else 0)) (ns := bytesF x 9) (by decide +kernel) (by split <;> omega) (by split <;> omega) (bytes_in _ _) ?_
    unfold fitsK
    rw [if_pos (.inl rfl)]
    exact decide_eq_true (by omega)
  · split
    · refine ⟨fun r hr => ?_, by rw [List.length_append, List.length_map, List.length_range]; show _ + 1 ≤ 5; omega⟩
      rw [List.mem_append] at hr
      rcases hr with hr | hr
      · rw [List.mem_map] at hr
        obtain ⟨j, hj, rfl⟩ := hr
        rw [List.mem_range] at hj
        have hl := bytes_len (seedF x j) (m := 6) (by decide) (by decide)
        refine row_ok (k := "part") (n := after + (j : Int)) (ns := bytesF (seedF x j) 6) (by decide +kernel) (by omega) (by omega) (bytes_in _ _) ?_
        unfold fitsK
        rw [if_pos (.inr rfl)]
        exact decide_eq_true (by omega)
      · rw [List.mem_singleton.mp hr]
        refine row_ok (k := "deal") (n := after) (ns := [1 + x / 11 % 4]) (by decide +kernel) h0 (by omega) (fun b hb => by rw [List.mem_singleton.mp hb]; omega) ?_
        unfold fitsK
        rw [if_neg (by decide), if_neg (by decide), if_pos rfl]
        show (decide (1 = 1) && decide (1 ≤ 1 + x / 11 % 4) && decide (1 + x / 11 % 4 ≤ 9)) = true
        rw [decide_eq_true (show 1 ≤ 1 + x / 11 % 4 by omega), decide_eq_true (show 1 + x / 11 % 4 ≤ 9 by omega)]
        rfl
    · split
      · split
        · refine ⟨fun r hr => ?_, by show 1 ≤ 5; decide⟩
          rw [List.mem_singleton.mp hr]
          exact row_ok (k := "from") (n := x / 7 % (after + 2)) (ns := []) (by decide +kernel) h2 (by omega) (fun b hb => by simp at hb) (by decide +kernel)
        · refine ⟨fun r hr => ?_, by show 1 ≤ 5; decide⟩
          rw [List.mem_singleton.mp hr]
          have hl := bytes_len x (m := 6) (by decide) (by decide)
          refine row_ok (k := "carried") (n := x / 7 % (after + 2)) (ns := (x / 13 % 10) :: bytesF x 6) (by decide +kernel) h2 (by omega) (fun b hb => ?_) ?_
          · rcases List.mem_cons.mp hb with z | z
            · rw [z]; omega
            · exact bytes_in _ _ b z
          · unfold fitsK
            rw [if_neg (by decide), if_pos rfl]
            show (decide (1 ≤ (bytesF x 6).length + 1) && decide ((bytesF x 6).length + 1 ≤ 61) && decide (x / 13 % 10 ≤ 9)) = true
            rw [decide_eq_true (show 1 ≤ (bytesF x 6).length + 1 by omega), decide_eq_true (show (bytesF x 6).length + 1 ≤ 61 by omega), decide_eq_true (show x / 13 % 10 ≤ 9 by omega)]
            rfl
      · refine ⟨fun r hr => ?_, by show 1 ≤ 5; decide⟩
        rw [List.mem_singleton.mp hr]
        have ho := odd_in (pickF x 10) (by omega) (by omega)
        obtain ⟨f1, f2⟩ := fits_odd (k := oddK (pickF x 10)) (by rcases ho with z | z | z; exact .inl z; exact .inr (.inl z); exact .inr (.inr (.inl z)))
        exact row_ok (k := oddK (pickF x 10)) (n := x / 7 % (after + 2)) (ns := []) f2 h2 (by omega) (fun b hb => by simp at hb) f1
theorem gen_ok (seed : Int) : ∀ k, k ≤ 20 → (∀ r ∈ (genR seed k).1, isRowD (rowR r) = true) ∧ (genR seed k).1.length ≤ 5 * k
  | 0, _ => ⟨fun r hr => by simp [genR] at hr, Nat.le_refl _⟩
  | k + 1, hk => by
    obtain ⟨i1, i2⟩ := gen_ok seed k (by omega)
    obtain ⟨a1, a2⟩ := gen_a seed k
    obtain ⟨t1, t2⟩ := turn_ok (x := seedF seed k) a1 (by omega)
    refine ⟨fun r hr => ?_, ?_⟩
    · rcases List.mem_append.mp (show r ∈ (genR seed k).1 ++ turnR (seedF seed k) (genR seed k).2 from hr) with z | z
      · exact i1 r z
      · exact t1 r z
    · show ((genR seed k).1 ++ turnR (seedF seed k) (genR seed k).2).length ≤ _
      rw [List.length_append]
      omega
theorem odd_ok {seed after spoil : Int} (h0 : 0 ≤ after) (h9 : after ≤ 1000) : isRowD (rowR (oddR seed after spoil)) = true := by
  have h2 := Int.emod_nonneg (seed / 13) (show after + 1 ≠ 0 by omega)
  have h3 := Int.emod_lt_of_pos (seed / 13) (show 0 < after + 1 by omega)
  have s0 := Int.emod_nonneg spoil (show (4 : Int) ≠ 0 by decide)
  have s4 := Int.emod_lt_of_pos spoil (show (0 : Int) < 4 by decide)
  unfold oddR
  have : spoil % 4 = 0 ∨ spoil % 4 = 1 ∨ spoil % 4 = 2 ∨ spoil % 4 = 3 := by omega
  rcases this with z | z | z | z <;> rw [z]
  · exact row_ok (k := "put") (n := seed / 13 % (after + 1)) (ns := []) (by decide +kernel) h2 (by omega) (fun b hb => by simp at hb) (by decide +kernel)
  · exact row_ok (k := "deal") (n := 0) (ns := [1]) (by decide +kernel) (by decide) (by decide) (fun b hb => by rw [List.mem_singleton.mp hb]; decide) (by decide +kernel)
  · exact row_ok (k := "part") (n := after) (ns := []) (by decide +kernel) h0 (by omega) (fun b hb => by simp at hb) (by decide +kernel)
  · exact row_ok (k := "from") (n := 3) (ns := []) (by decide +kernel) (by decide) (by decide) (fun b hb => by simp at hb) (by decide +kernel)
theorem rows_ok (seed spoil : Int) : (∀ r ∈ rowsF seed 20 spoil, isRowD (rowR r) = true) ∧ (rowsF seed 20 spoil).length ≤ 101 := by
  have m0 := Int.emod_nonneg (seed / 7) (show (20 + 1 : Int) ≠ 0 by decide)
  have m9 := Int.emod_lt_of_pos (seed / 7) (show (0 : Int) < 20 + 1 by decide)
  have hk : (seed / 7 % (20 + 1)).toNat ≤ 20 := by omega
  unfold rowsF
  dsimp only
  generalize (seed / 7 % (20 + 1)).toNat = k at hk
  obtain ⟨i1, i2⟩ := gen_ok seed k hk
  obtain ⟨a1, a2⟩ := gen_a seed k
  split
  · refine ⟨fun r hr => ?_, ?_⟩
    · rw [List.mem_append, List.mem_append] at hr
      rcases hr with (hr | hr) | hr
      · exact i1 r (List.mem_of_mem_take hr)
      · rw [List.mem_singleton.mp hr]
        exact odd_ok a1 (by omega)
      · exact i1 r (List.mem_of_mem_drop hr)
    · rw [List.length_append, List.length_append, List.length_take, List.length_drop]
      show _ + 1 + _ ≤ 101
      omega
  · exact ⟨i1, by omega⟩
theorem ints_tup : ∀ ns : List Int, tupDs (ns.map .int) = true
  | [] => rfl
  | n :: ns => by simp only [List.map_cons, tupDs, tupD, ints_tup ns]; rfl
theorem rrow_tup (r : Rw) : tupD (rowR r) = true := by
  unfold rowR rowT
  simp only [tupD, tupDs, ints_tup]
  rfl
theorem rrows_tup : ∀ rs : List Rw, tupDs (rs.map rowR) = true
  | [] => rfl
  | r :: rs => by
    rw [List.map_cons]
    simp only [tupDs, rrow_tup, rrows_tup rs]
    rfl
theorem row_mk {H : Hp} {r : Rw} {t b : Addr} (gt : H t = some (.tup [.str r.1, .int r.2.1, .ref b])) (gb : H b = some (.tup (r.2.2.map V.int))) : Den H (rowR r) (.ref t) := by
  unfold rowR rowT
  simp only [Den, Dens]
  exact ⟨t, _, rfl, gt, _, _, rfl, rfl, _, _, rfl, rfl, _, _, rfl, ⟨b, _, rfl, gb, dens_ints.mpr rfl⟩, rfl⟩
structure InvG (H0 H : Hp) (pf : Addr) (rs : List Rw) : Prop where
  same : Same H0 H
  new : H0 pf = none
  lst : ∃ xs, H pf = some (.lst xs) ∧ Dens H (rs.map rowR) xs
theorem InvG.go {H0 H H' : Hp} {pf : Addr} {rs : List Rw} (I : InvG H0 H pf rs) (s : Same H H') : InvG H0 H' pf rs := by
  obtain ⟨xs, g, d⟩ := I.lst
  exact ⟨I.same.trans s, I.new, xs, s _ _ g, d.same s⟩
theorem InvG.app {H0 H : Hp} {pf : Addr} {rs : List Rw} (I : InvG H0 H pf rs) {xs : List V} (g : H pf = some (.lst xs)) {r : Rw} {v : V} (dr : Den H (rowR r) v) : InvG H0 (upd H pf (.lst (xs ++ [v]))) pf (rs ++ [r]) := by
  obtain ⟨ys, g', d⟩ := I.lst
  rw [g] at g'
  cases g'
  have tu : TupS H (upd H pf (.lst (xs ++ [v]))) := upd_tup g (fun xs z => by cases z)
  refine ⟨fun b o e => by rw [upd_ne (ne_of_none e I.new)]; exact I.same b o e, I.new, _, upd_same, ?_⟩
  rw [List.map_append]
  exact (dens_t tu (rrows_tup rs) d).app (dens_one (den_t tu (rrow_tup r) dr))
def sp_rows : Sp := fun vs H Q _ => ∃ (x spoil : Int), vs = [.int x, .int 20, .int spoil] ∧ 0 ≤ spoil ∧ ∀ p H', Same H H' → H p = none → Den H' (.list ((rowsF x 20 spoil).map rowR)) (.ref p) → Q (.ref p) H'
def σR (x spoil : Int) (pf : Addr) (after : Int) (z5 z6 z7 z8 z9 z10 z11 z12 z13 : Option V) : St := [some (.int x), some (.int 20), some (.int spoil), some (.ref pf), some (.int after), z5, z6, z7, z8, z9, z10, z11, z12, z13]
theorem cut_lo {xs : List V} {lo : Nat} : cutV xs (some (lo : Int)) none = xs.drop lo := by
  unfold cutV
  rw [HT.sIx_nat, HT.sIx_none]
  rcases Nat.le_total lo xs.length with h | h
  · rw [Nat.min_eq_left h, List.take_of_length_le (by rw [List.length_drop]; exact Nat.le_refl _)]
  · rw [Nat.min_eq_right h, List.drop_of_length_le (Nat.le_refl _), List.drop_of_length_le h, List.take_nil]
theorem cut_hi {xs : List V} {hi : Nat} : cutV xs none (some (hi : Int)) = xs.take hi := by
  unfold cutV
  rw [HT.sIx_nat, HT.sIx_none, List.drop_zero, Nat.sub_zero]
  rcases Nat.le_total hi xs.length with h | h
  · rw [Nat.min_eq_left h]
  · rw [Nat.min_eq_right h, List.take_length, List.take_of_length_le h]
theorem dens_take {H : Hp} : ∀ {ds : List PyData} {xs : List V} (k : Nat), Dens H ds xs → Dens H (ds.take k) (xs.take k) ∧ Dens H (ds.drop k) (xs.drop k)
  | ds, xs, 0, h => by simp only [List.take_zero, List.drop_zero]; exact ⟨by simp [Dens], h⟩
  | [], xs, k + 1, h => by
    simp only [Dens] at h
    subst h
    simp [Dens]
  | d :: ds, xs, k + 1, h => by
    simp only [Dens] at h
    obtain ⟨x, r, rfl, h1, h2⟩ := h
    obtain ⟨i1, i2⟩ := dens_take k h2
    rw [List.take_succ_cons, List.take_succ_cons, List.drop_succ_cons, List.drop_succ_cons]
    exact ⟨by simp only [Dens]; exact ⟨x, _, rfl, h1, i1⟩, i2⟩
theorem none_of' {H H' : Hp} (s : Same H H') {p : Addr} (h : H' p = none) : H p = none := by
  cases e : H p with
  | none => rfl
  | some o =>
    rw [s _ _ e] at h
    cases h
section
variable {P : Program} {w : World} {K : PySem.W.Frag} {mg : Str → Option Value} {base : Heap} {a_KINDS C_BadRow C_Broken C_Book : Addr}
theorem sc__law_rows : FnScope ["_law_seed_here", "_law_many", "_law_spoil", "_law_found", "_law_after", "_law_k", "_law_one", "_law_pick_here", "_law_number", "_law_size", "_law_j", "_law_carried", "_law_odd", "_law_at"] ["_law_seed_here", "_law_many", "_law_spoil"] (defScope s_rows) := ⟨rfl, rfl, rfl, by decide +kernel, rfl, by decide +kernel, by decide +kernel⟩
set_option maxHeartbeats 4000000 in
theorem ok_rows {f : Addr} {fd : FuncData} (F : Fun K "_law_rows" "_law_rows" s_rows f fd) (T : TxtK K mg a_KINDS C_BadRow C_Broken C_Book) (c__law_seed : Callee P w K mg base "_law_seed" 1 ["_law_seed_here", "_law_k"] sp_seed) (c__law_pick : Callee P w K mg base "_law_pick" 1 ["_law_seed_here", "_law_many"] sp_pick) (c__law_bytes : Callee P w K mg base "_law_bytes" 2 ["_law_seed_here", "_law_most"] sp_bytes) : FnOk P w K mg base (CXE P w) 3 f fd ["_law_seed_here", "_law_many", "_law_spoil"] sp_rows := by
  refine F.okX sc__law_rows (fun vs H Q E h => ?_) (fun cdv A outer s H vs Q E hr h => ?_)
  · obtain ⟨x, spoil, rfl, _⟩ := h
    rfl
  · obtain ⟨seed, spoil, rfl, sp0, q⟩ := h
    refine ⟨_, @pss_cons _ _ _ _ _ (@ps_set _ _ (3) _ _ _ _ sc__law_rows.nd (by rfl) (by first | exact Or.inl (by rfl) | exact Or.inr (by rfl)) (@pe_lst _ _ _ _ (@pa_nil _)) (by trivial) (by trivial)) (@pss_cons _ _ _ _ _ (@ps_set _ _ (4) _ _ _ _ sc__law_rows.nd (by rfl) (by first | exact Or.inl (by rfl) | exact Or.inr (by rfl)) (@pe_int _ _ _ _) (by trivial) (by trivial)) (@pss_cons _ _ _ _ _ (@ps_for _ _ _ _ _ _ _ _ (ownB own_cx) (by rfl) (@pi_range1 _ _ _ _ _ _ (by rfl) T.n_range (@pa_BinOp _ _ _ _ _ _ _ _ (@pe_op _ _ _ _ _ _ _ _ op_mod (@pe_op _ _ _ _ _ _ _ _ op_fdiv (@pv _ 0 _ _ (by trivial) (by trivial) (by trivial) (by trivial)) (@pe_int _ _ _ _)) (@pe_op _ _ _ _ _ _ _ _ op_add (@pv _ 1 _ _ (by trivial) (by trivial) (by trivial) (by trivial)) (@pe_int _ _ _ _))) (@pa_nil _)) (by trivial)) (@pg_name _ _ (5) _ sc__law_rows.nd (by rfl) (by first | exact Or.inl (by rfl) | exact Or.inr (by rfl)) (by trivial)) (@pss_cons _ _ _ _ _ (@ps_set _ _ (6) _ _ _ _ sc__law_rows.nd (by rfl) (by first | exact Or.inl (by rfl) | exact Or.inr (by rfl)) (@pe_fn _ _ _ _ _ _ _ _ _ _ _ c__law_seed (hr.mono (by decide)) passN (@pa_Name _ _ _ _ _ _ (@pv _ 0 _ _ (by trivial) (by trivial) (by trivial) (by trivial)) (@pa_Name _ _ _ _ _ _ (@pv _ 5 _ _ (by trivial) (by trivial) (by trivial) (by trivial)) (@pa_nil _))) (by trivial) (by trivial) (by trivial) (by trivial)) (by trivial) (by trivial)) (@pss_cons _ _ _ _ _ (@ps_set _ _ (7) _ _ _ _ sc__law_rows.nd (by rfl) (by first | exact Or.inl (by rfl) | exact Or.inr (by rfl)) (@pe_fn _ _ _ _ _ _ _ _ _ _ _ c__law_pick (hr.mono (by decide)) passN (@pa_Name _ _ _ _ _ _ (@pv _ 6 _ _ (by trivial) (by trivial) (by trivial) (by trivial)) (@pa_Constant _ _ _ _ _ _ _ (@pe_int _ _ _ _) (@pa_nil _))) (by trivial) (by trivial) (by trivial) (by trivial)) (by trivial) (by trivial)) (@pss_cons _ _ _ _ _ (@ps_set _ _ (8) _ _ _ _ sc__law_rows.nd (by rfl) (by first | exact Or.inl (by rfl) | exact Or.inr (by rfl)) (@pe_op _ _ _ _ _ _ _ _ op_mod (@pe_op _ _ _ _ _ _ _ _ op_fdiv (@pv _ 6 _ _ (by trivial) (by trivial) (by trivial) (by trivial)) (@pe_int _ _ _ _)) (@pe_op _ _ _ _ _ _ _ _ op_add (@pv _ 4 _ _ (by trivial) (by trivial) (by trivial) (by trivial)) (@pe_int _ _ _ _))) (by trivial) (by trivial)) (@pss_one _ _ _ (@ps_if _ _ _ _ _ _ _ _ (@pt_cmpR _ _ _ _ _ _ _ _ op_lt (@pv _ 7 _ _ (by trivial) (by trivial) (by trivial) (by trivial)) (@pe_int _ _ _ _) (nomark _)) (@pss_cons _ _ _ _ _ (@ps_set _ _ (4) _ _ _ _ sc__law_rows.nd (by rfl) (by first | exact Or.inl (by rfl) | exact Or.inr (by rfl)) (@pe_op _ _ _ _ _ _ _ _ op_add (@pv _ 4 _ _ (by trivial) (by trivial) (by trivial) (by trivial)) (@pe_ix _ _ _ _ _ _ _ (ix_listK K) (@pe_lst _ _ _ _ (@pa_Constant _ _ _ _ _ _ _ (@pe_int _ _ _ _) (@pa_Constant _ _ _ _ _ _ _ (@pe_int _ _ _ _) (@pa_Constant _ _ _ _ _ _ _ (@pe_int _ _ _ _) (@pa_nil _))))) (@pe_op _ _ _ _ _ _ _ _ op_mod (@pe_op _ _ _ _ _ _ _ _ op_fdiv (@pv _ 6 _ _ (by trivial) (by trivial) (by trivial) (by trivial)) (@pe_int _ _ _ _)) (@pe_int _ _ _ _)) (fun _ _ => rfl))) (by trivial) (by trivial)) (@pss_cons _ _ _ _ _ (ps_expr (pe_bmK K PySem.F.plainAttrs_list PySem.F.slot_list_append PySem.F.type_list_append mt_append (pv 3) (pa_Tuple (pe_tup (pa_Constant pe_str (pa_Name (pv 4) (pa_Call (pe_fn c__law_bytes (hr.mono (by decide)) passN (pa_Name (pv 6) (pa_Constant pe_int pa_nil))) pa_nil)))) pa_nil))) (@pss_one _ _ _ (@ps_set _ _ (4) _ _ _ _ sc__law_rows.nd (by rfl) (by first | exact Or.inl (by rfl) | exact Or.inr (by rfl)) (@pe_op _ _ _ _ _ _ _ _ op_add (@pv _ 4 _ _ (by trivial) (by trivial) (by trivial) (by trivial)) (@pe_int _ _ _ _)) (by trivial) (by trivial))))) (@pss_one _ _ _ (@ps_if _ _ _ _ _ _ _ _ (@pt_cmpR _ _ _ _ _ _ _ _ op_lt (@pv _ 7 _ _ (by trivial) (by trivial) (by trivial) (by trivial)) (@pe_int _ _ _ _) (nomark _)) (@pss_cons _ _ _ _ _ (@ps_set _ _ (9) _ _ _ _ sc__law_rows.nd (by rfl) (by first | exact Or.inl (by rfl) | exact Or.inr (by rfl)) (@pe_op _ _ _ _ _ _ _ _ op_add (@pe_int _ _ _ _) (@pe_op _ _ _ _ _ _ _ _ op_mod (@pe_op _ _ _ _ _ _ _ _ op_fdiv (@pv _ 6 _ _ (by trivial) (by trivial) (by trivial) (by trivial)) (@pe_int _ _ _ _)) (@pe_int _ _ _ _))) (by trivial) (by trivial)) (@pss_cons _ _ _ _ _ (@ps_for _ _ _ _ _ _ _ _ (ownB own_cx) (by rfl) (@pi_range1 _ _ _ _ _ _ (by rfl) T.n_range (@pa_Name _ _ _ _ _ _ (@pv _ 9 _ _ (by trivial) (by trivial) (by trivial) (by trivial)) (@pa_nil _)) (by trivial)) (@pg_name _ _ (10) _ sc__law_rows.nd (by rfl) (by first | exact Or.inl (by rfl) | exact Or.inr (by rfl)) (by trivial)) (@pss_one _ _ _ (ps_expr (pe_bmK K PySem.F.plainAttrs_list PySem.F.slot_list_append PySem.F.type_list_append mt_append (pv 3) (pa_Tuple (pe_tup (pa_Constant pe_str (pa_BinOp (pe_op op_add (pv 4) (pv 10)) (pa_Call (pe_fn c__law_bytes (hr.mono (by decide)) passN (pa_Call (pe_fn c__law_seed (hr.mono (by decide)) passN (pa_Name (pv 6) (pa_Name (pv 10) pa_nil))) (pa_Constant pe_int pa_nil))) pa_nil)))) pa_nil)))) (by trivial)) (@pss_cons _ _ _ _ _ (ps_expr (pe_bmK K PySem.F.plainAttrs_list PySem.F.slot_list_append PySem.F.type_list_append mt_append (pv 3) (pa_Tuple (pe_tup (pa_Constant pe_str (pa_Name (pv 4) (pa_Tuple (pe_tup (pa_Name (pv 9) pa_nil)) pa_nil)))) pa_nil))) (@pss_one _ _ _ (@ps_set _ _ (4) _ _ _ _ sc__law_rows.nd (by rfl) (by first | exact Or.inl (by rfl) | exact Or.inr (by rfl)) (@pe_op _ _ _ _ _ _ _ _ op_add (@pv _ 4 _ _ (by trivial) (by trivial) (by trivial) (by trivial)) (@pv _ 9 _ _ (by trivial) (by trivial) (by trivial) (by trivial))) (by trivial) (by trivial)))))) (@pss_one _ _ _ (@ps_if _ _ _ _ _ _ _ _ (@pt_cmpR _ _ _ _ _ _ _ _ op_eq (@pv _ 7 _ _ (by trivial) (by trivial) (by trivial) (by trivial)) (@pe_int _ _ _ _) (nomark _)) (@pss_cons _ _ _ _ _ (@ps_set _ _ (11) _ _ _ _ sc__law_rows.nd (by rfl) (by first | exact Or.inl (by rfl) | exact Or.inr (by rfl)) (@pe_tup _ _ _ _ _ (@pa_Constant _ _ _ _ _ _ _ (@pe_str _ _ _ _) (@pa_Name _ _ _ _ _ _ (@pv _ 8 _ _ (by trivial) (by trivial) (by trivial) (by trivial)) (@pa_BinOp _ _ _ _ _ _ _ _ (@pe_op _ _ _ _ _ _ _ _ op_cat2 (@pe_tup _ _ _ _ _ (@pa_BinOp _ _ _ _ _ _ _ _ (@pe_op _ _ _ _ _ _ _ _ op_mod (@pe_op _ _ _ _ _ _ _ _ op_fdiv (@pv _ 6 _ _ (by trivial) (by trivial) (by trivial) (by trivial)) (@pe_int _ _ _ _)) (@pe_int _ _ _ _)) (@pa_nil _))) (@pe_fn _ _ _ _ _ _ _ _ _ _ _ c__law_bytes (hr.mono (by decide)) passN (@pa_Name _ _ _ _ _ _ (@pv _ 6 _ _ (by trivial) (by trivial) (by trivial) (by trivial)) (@pa_Constant _ _ _ _ _ _ _ (@pe_int _ _ _ _) (@pa_nil _))) (by trivial) (by trivial) (by trivial) (by trivial))) (@pa_nil _))))) (by trivial) (by trivial)) (@pss_cons _ _ _ _ _ (ps_expr (pe_bmK K PySem.F.plainAttrs_list PySem.F.slot_list_append PySem.F.type_list_append mt_append (pv 3) (pa_Subscript (pe_ix (ix_listK K) (pe_lst (pa_Tuple (pe_tup (pa_Constant pe_str (pa_Name (pv 8) (pa_Tuple (pe_tup pa_nil) pa_nil)))) (pa_Name (pv 11) pa_nil))) (pe_op op_mod (pe_op op_fdiv (pv 6) pe_int) pe_int) (fun _ _ => rfl)) pa_nil))) (@pss_one _ _ _ (@ps_set _ _ (4) _ _ _ _ sc__law_rows.nd (by rfl) (by first | exact Or.inl (by rfl) | exact Or.inr (by rfl)) (@pe_callB _ _ _ _ _ _ _ _ _ (call_max2 (by rfl)) (by rfl) T.n_max bt_max (@pa_Name _ _ _ _ _ _ (@pv _ 4 _ _ (by trivial) (by trivial) (by trivial) (by trivial)) (@pa_BinOp _ _ _ _ _ _ _ _ (@pe_op _ _ _ _ _ _ _ _ op_add (@pv _ 8 _ _ (by trivial) (by trivial) (by trivial) (by trivial)) (@pe_op _ _ _ _ _ _ _ _ op_mod (@pe_op _ _ _ _ _ _ _ _ op_fdiv (@pv _ 6 _ _ (by trivial) (by trivial) (by trivial) (by trivial)) (@pe_int _ _ _ _)) (@pe_int _ _ _ _))) (@pa_nil _))) (by trivial) (by trivial) (by trivial) (by trivial)) (by trivial) (by trivial))))) (@pss_one _ _ _ (ps_expr (pe_bmK K PySem.F.plainAttrs_list PySem.F.slot_list_append PySem.F.type_list_append mt_append (pv 3) (pa_Tuple (pe_tup (pa_Subscript (pe_ix (ix_tupK K) (pe_tup (pa_Constant pe_str (pa_Constant pe_str (pa_Constant pe_str (pa_Constant pe_str (pa_Constant pe_str pa_nil)))))) (pe_op op_sub (pv 7) pe_int) (fun _ _ => rfl)) (pa_Name (pv 8) (pa_Tuple (pe_tup pa_nil) pa_nil)))) pa_nil))))))))))))) (by trivial)) (@pss_cons _ _ _ _ _ (@ps_if _ _ _ _ _ _ _ _ (@pt_cmpR _ _ _ _ _ _ _ _ op_gt (@pv _ 2 _ _ (by trivial) (by trivial) (by trivial) (by trivial)) (@pe_int _ _ _ _) (nomark _)) (@pss_cons _ _ _ _ _ (@ps_set _ _ (12) _ _ _ _ sc__law_rows.nd (by rfl) (by first | exact Or.inl (by rfl) | exact Or.inr (by rfl)) (@pe_lst _ _ _ _ (@pa_Tuple _ _ _ _ _ _ _ (@pe_tup _ _ _ _ _ (@pa_Constant _ _ _ _ _ _ _ (@pe_str _ _ _ _) (@pa_BinOp _ _ _ _ _ _ _ _ (@pe_op _ _ _ _ _ _ _ _ op_mod (@pe_op _ _ _ _ _ _ _ _ op_fdiv (@pv _ 0 _ _ (by trivial) (by trivial) (by trivial) (by trivial)) (@pe_int _ _ _ _)) (@pe_op _ _ _ _ _ _ _ _ op_add (@pv _ 4 _ _ (by trivial) (by trivial) (by trivial) (by trivial)) (@pe_int _ _ _ _))) (@pa_Tuple _ _ _ _ _ _ _ (@pe_tup _ _ _ _ _ (@pa_nil _)) (@pa_nil _))))) (@pa_Tuple _ _ _ _ _ _ _ (@pe_tup _ _ _ _ _ (@pa_Constant _ _ _ _ _ _ _ (@pe_str _ _ _ _) (@pa_Constant _ _ _ _ _ _ _ (@pe_int _ _ _ _) (@pa_Tuple _ _ _ _ _ _ _ (@pe_tup _ _ _ _ _ (@pa_Constant _ _ _ _ _ _ _ (@pe_int _ _ _ _) (@pa_nil _))) (@pa_nil _))))) (@pa_Tuple _ _ _ _ _ _ _ (@pe_tup _ _ _ _ _ (@pa_Constant _ _ _ _ _ _ _ (@pe_str _ _ _ _) (@pa_Name _ _ _ _ _ _ (@pv _ 4 _ _ (by trivial) (by trivial) (by trivial) (by trivial)) (@pa_Tuple _ _ _ _ _ _ _ (@pe_tup _ _ _ _ _ (@pa_nil _)) (@pa_nil _))))) (@pa_Tuple _ _ _ _ _ _ _ (@pe_tup _ _ _ _ _ (@pa_Constant _ _ _ _ _ _ _ (@pe_str _ _ _ _) (@pa_Constant _ _ _ _ _ _ _ (@pe_int _ _ _ _) (@pa_Tuple _ _ _ _ _ _ _ (@pe_tup _ _ _ _ _ (@pa_nil _)) (@pa_nil _))))) (@pa_nil _)))))) (by trivial) (by trivial)) (@pss_cons _ _ _ _ _ (@ps_set _ _ (13) _ _ _ _ sc__law_rows.nd (by rfl) (by first | exact Or.inl (by rfl) | exact Or.inr (by rfl)) (@pe_op _ _ _ _ _ _ _ _ op_mod (@pe_op _ _ _ _ _ _ _ _ op_fdiv (@pv _ 0 _ _ (by trivial) (by trivial) (by trivial) (by trivial)) (@pe_int _ _ _ _)) (@pe_op _ _ _ _ _ _ _ _ op_add (@pe_callB _ _ _ _ _ _ _ _ _ (call_lenK K) (by rfl) T.n_len bt_len (@pa_Name _ _ _ _ _ _ (@pv _ 3 _ _ (by trivial) (by trivial) (by trivial) (by trivial)) (@pa_nil _)) (by trivial) (by trivial) (by trivial) (by trivial)) (@pe_int _ _ _ _))) (by trivial) (by trivial)) (@pss_one _ _ _ (@ps_set _ _ (3) _ _ _ _ sc__law_rows.nd (by rfl) (by first | exact Or.inl (by rfl) | exact Or.inr (by rfl)) (@pe_op _ _ _ _ _ _ _ _ op_cat (@pe_op _ _ _ _ _ _ _ _ op_cat (@pe_slice _ _ _ _ _ _ _ _ _ _ (sl_listK K) (@pv _ 3 _ _ (by trivial) (by trivial) (by trivial) (by trivial)) (@po_none _) (@po_some _ _ _ (@pv _ 13 _ _ (by trivial) (by trivial) (by trivial) (by trivial)))) (@pe_lst _ _ _ _ (@pa_Subscript _ _ _ _ _ _ _ (@pe_ix _ _ _ _ _ _ _ (ix_listK K) (@pv _ 12 _ _ (by trivial) (by trivial) (by trivial) (by trivial)) (@pe_op _ _ _ _ _ _ _ _ op_mod (@pv _ 2 _ _ (by trivial) (by trivial) (by trivial) (by trivial)) (@pe_int _ _ _ _)) (fun _ _ => rfl)) (@pa_nil _)))) (@pe_slice _ _ _ _ _ _ _ _ _ _ (sl_listK K) (@pv _ 3 _ _ (by trivial) (by trivial) (by trivial) (by trivial)) (@po_some _ _ _ (@pv _ 13 _ _ (by trivial) (by trivial) (by trivial) (by trivial))) (@po_none _))) (by trivial) (by trivial))))) (@pss_nil _)) (@pss_one _ _ _ (@ps_ret _ _ _ _ (@pv _ 3 _ _ (by trivial) (by trivial) (by trivial) (by trivial))))))), ?_⟩
    refine ⟨le_size, fun pf hpf => ?_⟩
    have S1 := same_upd (o := .lst []) hpf
    have I0 : InvG H (upd H pf (.lst [])) pf [] := ⟨S1, hpf, [], upd_same, by simp [Dens]⟩
    generalize upd H pf (.lst []) = H1 at S1 I0 ⊢
    have m0 := Int.emod_nonneg (seed / 7) (show (20 + 1 : Int) ≠ 0 by decide)
    have m9 := Int.emod_lt_of_pos (seed / 7) (show (0 : Int) < 20 + 1 by decide)
    refine ⟨_, rfl, _, _, rfl, rfl, ⟨by decide, by decide⟩, _, rfl, _, _, rfl, rfl, _, _, rfl, rfl, (by show (0 : Int) < 20 + 1; decide), _, rfl, by omega, by omega, ?_⟩
    refine for_src0 (H0 := fun _ => none) (src_range (H := fun _ => none) 0 (seed / 7 % (20 + 1)).toNat) (fun i σ H' => ∃ z5 z6 z7 z8 z9 z10 z11, InvG H H' pf (genR seed i).1 ∧ σ = σR seed spoil pf (genR seed i).2 z5 z6 z7 z8 z9 z10 z11 none none) ?i0 ?kp ?_ ?_
    case i0 => exact ⟨none, none, none, none, none, none, none, I0, rfl⟩
    case kp => exact fun i σ H' _ b o e => by cases e
    · rintro i x σ H5 H6 hi ⟨z5, z6, z7, z8, z9, z10, z11, I5, rfl⟩ s6 rfl
      have I6 := I5.go s6
      obtain ⟨a0, a9⟩ := gen_a seed i
      obtain ⟨g1, g2⟩ := gen_ok seed i (by omega)
      refine ⟨_, rfl, _, rfl, seed, _, rfl, ?_⟩
      rw [Int.zero_add]
      have eR : (genR seed (i + 1)).1 = (genR seed i).1 ++ turnR (seedF seed i) (genR seed i).2 := rfl
      have eA : (genR seed (i + 1)).2 = turnA (seedF seed i) (genR seed i).2 := rfl
      rw [eR, eA]
      generalize seedF seed i = x
      generalize (genR seed i).2 = after at a0 a9 ⊢
      generalize (genR seed i).1 = rs at I6 g1 g2 ⊢
      have fewL : ∀ {L : Hp} {ys : List V}, InvG H L pf rs → L pf = some (.lst ys) → ys.length ≤ 200 := fun {L ys} I g => by
        obtain ⟨zs, g', d⟩ := I.lst
        rw [g] at g'
        cases g'
        have := d.length
        rw [List.length_map] at this
        omega
      refine ⟨_, rfl, _, 10, rfl, by decide, ?_⟩
      refine ⟨_, rfl, _, _, rfl, rfl, ⟨by decide, by decide⟩, _, rfl, _, _, rfl, rfl, _, _, rfl, rfl, (by show (0 : Int) < after + 2; omega), ?_⟩
      refine ⟨_, rfl, _, _, rfl, rfl, _, rfl, ?_⟩
      show if decide (pickF x 10 < 3) = true then _ else _
      unfold turnR turnA
      have hp := pick_bd x
      by_cases w1 : pickF x 10 < 3
      · rw [if_pos (decide_eq_true w1), if_pos w1, if_pos w1]
        have k0 := Int.emod_nonneg (x / 11) (show (3 : Int) ≠ 0 by decide)
        have k3 := Int.emod_lt_of_pos (x / 11) (show (0 : Int) < 3 by decide)
        refine ⟨_, rfl, le_size, fun p1 hp1 => ?_⟩
        have T1 := same_upd (o := .lst [V.int 0, V.int 0, V.int 2]) hp1
        refine ⟨_, rfl, _, _, rfl, rfl, ⟨by decide, by decide⟩, _, _, rfl, rfl, (by show (0 : Int) < 3; decide), p1, _, _, .int (if x / 11 % 3 = 2 then 2 else 0), rfl, rfl, SqL.of upd_same, atI_pos k0 ?_, _, _, rfl, rfl, ?_⟩
        · have : x / 11 % 3 = 0 ∨ x / 11 % 3 = 1 ∨ x / 11 % 3 = 2 := by omega
          rcases this with z | z | z <;> rw [z] <;> rfl
        have I7 := I6.go T1
        generalize upd H6 p1 (.lst [V.int 0, V.int 0, V.int 2]) = H7 at T1 I7 ⊢
        obtain ⟨xs, gx, dx⟩ := id I7.lst
        refine ⟨_, rfl, .inl ⟨rfl, _, SqL.of gx⟩, _, rfl, _, rfl, x, 9, rfl, by decide, by decide, fun pb H8 S8 gb => ⟨le_size, fun p2 hp2 => ?_⟩⟩
        have T2 := same_upd (o := .tup [.str "put", .int (after + (if x / 11 % 3 = 2 then 2 else 0)), .ref pb]) hp2
        have t2 : upd H8 p2 (.tup [.str "put", .int (after + (if x / 11 % 3 = 2 then 2 else 0)), .ref pb]) p2 = some (.tup [.str "put", .int (after + (if x / 11 % 3 = 2 then 2 else 0)), .ref pb]) := upd_same
        generalize upd H8 p2 (.tup [.str "put", .int (after + (if x / 11 % 3 = 2 then 2 else 0)), .ref pb]) = H9 at T2 t2 ⊢
        have I9 := I7.go (S8.trans T2)
        have gx9 := T2 _ _ (S8 _ _ gx)
        refine ⟨pf, xs, _, rfl, rfl, gx9, Nat.lt_of_le_of_lt (fewL I9 gx9) (by decide), ?_⟩
        refine ⟨_, rfl, _, _, rfl, rfl, ?_⟩
        exact ⟨_, _, _, _, _, _, _, I9.app gx9 (row_mk (r := ("put", after + (if x / 11 % 3 = 2 then 2 else 0), bytesF x 9)) t2 (T2 _ _ gb)), rfl⟩
      rw [if_neg (by simpa using w1), if_neg w1, if_neg w1]
      refine ⟨_, rfl, _, _, rfl, rfl, _, rfl, ?_⟩
      show if decide (pickF x 10 < 4) = true then _ else _
      by_cases w2 : pickF x 10 < 4
      · rw [if_pos (decide_eq_true w2), if_pos w2, if_pos w2]
        have k0 := Int.emod_nonneg (x / 11) (show (4 : Int) ≠ 0 by decide)
        have k3 := Int.emod_lt_of_pos (x / 11) (show (0 : Int) < 4 by decide)
        refine ⟨_, rfl, _, _, rfl, rfl, ⟨by decide, by decide⟩, _, _, rfl, rfl, (by show (0 : Int) < 4; decide), _, _, rfl, rfl, ?_⟩
        refine ⟨_, rfl, _, rfl, by omega, by omega, ?_⟩
        refine for_src0 (H0 := fun _ => none) (src_range (H := fun _ => none) 0 (1 + x / 11 % 4).toNat) (fun j σ H' => ∃ z10, InvG H H' pf (rs ++ (List.range j).map (partRow x after)) ∧ σ = σR seed spoil pf after (some (.int (i : Int))) (some (.int x)) (some (.int (pickF x 10))) (some (.int (x / 7 % (after + 2)))) (some (.int (1 + x / 11 % 4))) z10 z11 none none) ?j0 ?kp2 ?_ ?_
        case j0 => exact ⟨_, by simpa using I6, rfl⟩
        case kp2 => exact fun i σ H' _ b o e => by cases e
        · rintro j y σ L1 L2 hj ⟨z10, J1, rfl⟩ s2 rfl
          have J2 := J1.go s2
          obtain ⟨xs, gx, dx⟩ := id J2.lst
          have lx := dx.length
          rw [List.length_map, List.length_append, List.length_map, List.length_range] at lx
          refine ⟨_, rfl, .inl ⟨rfl, _, SqL.of gx⟩, _, rfl, _, rfl, _, _, rfl, rfl, _, rfl, _, rfl, x, _, rfl, _, 6, rfl, by decide, by decide, fun pb L3 S3 gb => ⟨le_size, fun p2 hp2 => ?_⟩⟩
          rw [Int.zero_add] at gb ⊢
          dsimp only
          have T2 := same_upd (o := .tup [.str "part", .int (after + (j : Int)), .ref pb]) hp2
          have t2 : upd L3 p2 (.tup [.str "part", .int (after + (j : Int)), .ref pb]) p2 = some (.tup [.str "part", .int (after + (j : Int)), .ref pb]) := upd_same
          generalize upd L3 p2 (.tup [.str "part", .int (after + (j : Int)), .ref pb]) = L4 at T2 t2 ⊢
          have J4 := J2.go (S3.trans T2)
          have gx4 := T2 _ _ (S3 _ _ gx)
          refine ⟨pf, xs, _, rfl, rfl, gx4, Nat.lt_of_le_of_lt (show xs.length ≤ 300 by omega) (by decide), ?_⟩
          have := J4.app gx4 (row_mk (r := partRow x after j) t2 (T2 _ _ gb))
          rw [List.append_assoc] at this
          rw [List.range_succ, List.map_append]
          exact ⟨_, this, rfl⟩
        rintro σ L1 ⟨z10, J1, rfl⟩
        obtain ⟨xs, gx, dx⟩ := id J1.lst
        have lx := dx.length
        rw [List.length_map, List.length_append, List.length_map, List.length_range] at lx
        refine ⟨_, rfl, .inl ⟨rfl, _, SqL.of gx⟩, _, rfl, _, rfl, le_size, fun p1 hp1 => ⟨le_size, fun p2 hp2 => ?_⟩⟩
        have T1 := same_upd (o := .tup [.int (1 + x / 11 % 4)]) hp1
        have t1 : upd L1 p1 (.tup [.int (1 + x / 11 % 4)]) p1 = some (.tup [.int (1 + x / 11 % 4)]) := upd_same
        generalize upd L1 p1 (.tup [.int (1 + x / 11 % 4)]) = L2 at T1 t1 hp2 ⊢
        have T2 := same_upd (o := .tup [.str "deal", .int after, .ref p1]) hp2
        have t2 : upd L2 p2 (.tup [.str "deal", .int after, .ref p1]) p2 = some (.tup [.str "deal", .int after, .ref p1]) := upd_same
        generalize upd L2 p2 (.tup [.str "deal", .int after, .ref p1]) = L3 at T2 t2 ⊢
        have J3 := J1.go (T1.trans T2)
        have gx3 := (T1.trans T2) _ _ gx
        refine ⟨pf, xs, _, rfl, rfl, gx3, Nat.lt_of_le_of_lt (show xs.length ≤ 300 by omega) (by decide), ?_⟩
        refine ⟨_, rfl, _, rfl, _, _, rfl, rfl, ?_⟩
        have := J3.app gx3 (row_mk (r := ("deal", after, [1 + x / 11 % 4])) t2 (T2 _ _ t1))
        rw [List.append_assoc] at this
        exact ⟨_, _, _, _, _, _, _, this, rfl⟩
      rw [if_neg (by simpa using w2), if_neg w2, if_neg w2]
      refine ⟨_, rfl, rfl, _, rfl, ?_⟩
      by_cases w3 : pickF x 10 = 9
      · rw [decide_eq_true (show V.int (pickF x 10) = V.int 9 by rw [w3]), if_pos w3, if_pos w3]
        refine iteT ?_
        have k0 := Int.emod_nonneg (x / 17) (show (2 : Int) ≠ 0 by decide)
        have k3 := Int.emod_lt_of_pos (x / 17) (show (0 : Int) < 2 by decide)
        have hbl := bytes_len x (m := 6) (by decide) (by decide)
        refine ⟨_, rfl, _, rfl, _, _, rfl, rfl, ⟨by decide, by decide⟩, _, _, rfl, rfl, (by show (0 : Int) < 10; decide), le_size, fun p1 hp1 => ⟨_, rfl, x, 6, rfl, by decide, by decide, fun pb H7 S7 gb => ?_⟩⟩
        have T1 := same_upd (o := .tup [.int (x / 13 % 10)]) hp1
        have t1 : upd H6 p1 (.tup [.int (x / 13 % 10)]) p1 = some (.tup ([x / 13 % 10].map V.int)) := upd_same
        refine ⟨p1, pb, _, _, rfl, rfl, S7 _ _ t1, gb, ?_, fun pc H8 S8 gc => ⟨le_size, fun p2 hp2 => ?_⟩⟩
        · rw [List.length_map, List.length_map]
          exact Nat.le_trans (show _ ≤ 100 by show 1 + _ ≤ 100; omega) (by decide)
        rw [← List.map_append] at gc
        have T2 := same_upd (o := .tup [.str "carried", .int (x / 7 % (after + 2)), .ref pc]) hp2
        have t2 : upd H8 p2 (.tup [.str "carried", .int (x / 7 % (after + 2)), .ref pc]) p2 = some (.tup [.str "carried", .int (x / 7 % (after + 2)), .ref pc]) := upd_same
        generalize upd H8 p2 (.tup [.str "carried", .int (x / 7 % (after + 2)), .ref pc]) = H9 at T2 t2 ⊢
        have I9 := I6.go (T1.trans (S7.trans (S8.trans T2)))
        obtain ⟨xs, gx, dx⟩ := id I9.lst
        refine ⟨_, rfl, .inl ⟨rfl, _, SqL.of gx⟩, _, rfl, le_size, fun p3 hp3 => ⟨le_size, fun p4 hp4 => ⟨_, rfl, le_size, fun p5 hp5 => ?_⟩⟩⟩
        have T3 := same_upd (o := .tup []) hp3
        have t3 : upd H9 p3 (.tup []) p3 = some (.tup (([] : List Int).map V.int)) := upd_same
        generalize upd H9 p3 (.tup []) = H10 at T3 t3 hp4 hp5 ⊢
        have T4 := same_upd (o := .tup [.str "from", .int (x / 7 % (after + 2)), .ref p3]) hp4
        have t4 : upd H10 p4 (.tup [.str "from", .int (x / 7 % (after + 2)), .ref p3]) p4 = some (.tup [.str "from", .int (x / 7 % (after + 2)), .ref p3]) := upd_same
        generalize upd H10 p4 (.tup [.str "from", .int (x / 7 % (after + 2)), .ref p3]) = H11 at T4 t4 hp5 ⊢
        have T5 := same_upd (o := .lst [V.ref p4, V.ref p2]) hp5
        have t5 : upd H11 p5 (.lst [V.ref p4, V.ref p2]) p5 = some (.lst [V.ref p4, V.ref p2]) := upd_same
        generalize upd H11 p5 (.lst [V.ref p4, V.ref p2]) = H12 at T5 t5 ⊢
        have T35 := T3.trans (T4.trans T5)
        have I12 := I9.go T35
        have gx12 := T35 _ _ gx
        have fin : ∀ (v : V) (r : Rw), [V.ref p4, V.ref p2][(x / 17 % 2).toNat]? = some v → Den H12 (rowR r) v → InvG H (upd H12 pf (.lst (xs ++ [v]))) pf (rs ++ [r]) := fun v r _ dr => I12.app gx12 dr
        by_cases w4 : x / 17 % 2 = 0
        · rw [if_pos w4]
          refine ⟨_, rfl, _, _, rfl, rfl, ⟨by decide, by decide⟩, _, _, rfl, rfl, (by show (0 : Int) < 2; decide), p5, _, _, .ref p4, rfl, rfl, SqL.of t5, atI_pos k0 (by rw [w4]; rfl), pf, xs, _, rfl, rfl, gx12, Nat.lt_of_le_of_lt (fewL I12 gx12) (by decide), ?_⟩
          refine ⟨_, rfl, _, rfl, _, rfl, _, _, rfl, rfl, ⟨by decide, by decide⟩, _, _, rfl, rfl, (by show (0 : Int) < 2; decide), _, _, rfl, rfl, _, _, rfl, ?_⟩
          exact ⟨_, _, _, _, _, _, _, I12.app gx12 (row_mk (r := ("from", x / 7 % (after + 2), [])) (T5 _ _ t4) ((T4.trans T5) _ _ t3)), rfl⟩
        · rw [if_neg w4]
          have w5 : x / 17 % 2 = 1 := by omega
          refine ⟨_, rfl, _, _, rfl, rfl, ⟨by decide, by decide⟩, _, _, rfl, rfl, (by show (0 : Int) < 2; decide), p5, _, _, .ref p2, rfl, rfl, SqL.of t5, atI_pos k0 (by rw [w5]; rfl), pf, xs, _, rfl, rfl, gx12, Nat.lt_of_le_of_lt (fewL I12 gx12) (by decide), ?_⟩
          refine ⟨_, rfl, _, rfl, _, rfl, _, _, rfl, rfl, ⟨by decide, by decide⟩, _, _, rfl, rfl, (by show (0 : Int) < 2; decide), _, _, rfl, rfl, _, _, rfl, ?_⟩
          exact ⟨_, _, _, _, _, _, _, I12.app gx12 (row_mk (r := ("carried", x / 7 % (after + 2), (x / 13 % 10) :: bytesF x 6)) (T35 _ _ t2) ((T2.trans T35) _ _ gc)), rfl⟩
      · rw [decide_eq_false (show ¬ V.int (pickF x 10) = V.int 9 from fun z => w3 (V.int.inj z)), if_neg w3, if_neg w3]
        refine iteF ?_
        obtain ⟨xs, gx, dx⟩ := id I6.lst
        refine ⟨_, rfl, .inl ⟨rfl, _, SqL.of gx⟩, le_size, fun p1 hp1 => ?_⟩
        have T1 := same_upd (o := .tup [.str "out", .str "done", .str "new", .str "out", .str "done"]) hp1
        refine ⟨_, rfl, _, _, rfl, rfl, p1, _, _, .str (oddK (pickF x 10)), rfl, rfl, SqT.of upd_same, ?_, _, rfl, le_size, fun p3 hp3 => ⟨le_size, fun p2 hp2 => ?_⟩⟩
        · have : pickF x 10 = 4 ∨ pickF x 10 = 5 ∨ pickF x 10 = 6 ∨ pickF x 10 = 7 ∨ pickF x 10 = 8 := by omega
          rcases this with z | z | z | z | z <;> rw [z] <;> rfl
        generalize upd H6 p1 (.tup [.str "out", .str "done", .str "new", .str "out", .str "done"]) = H7 at T1 hp3 hp2 ⊢
        have T3 := same_upd (o := .tup []) hp3
        have t3 : upd H7 p3 (.tup []) p3 = some (.tup (([] : List Int).map V.int)) := upd_same
        generalize upd H7 p3 (.tup []) = H8 at T3 t3 hp2 ⊢
        have T2 := same_upd (o := .tup [.str (oddK (pickF x 10)), .int (x / 7 % (after + 2)), .ref p3]) hp2
        have t2 : upd H8 p2 (.tup [.str (oddK (pickF x 10)), .int (x / 7 % (after + 2)), .ref p3]) p2 = some (.tup [.str (oddK (pickF x 10)), .int (x / 7 % (after + 2)), .ref p3]) := upd_same
        generalize upd H8 p2 (.tup [.str (oddK (pickF x 10)), .int (x / 7 % (after + 2)), .ref p3]) = H9 at T2 t2 ⊢
        have TT := T1.trans (T3.trans T2)
        have I9 := I6.go TT
        refine ⟨pf, xs, _, rfl, rfl, TT _ _ gx, Nat.lt_of_le_of_lt (fewL I9 (TT _ _ gx)) (by decide), ?_⟩
        exact ⟨_, _, _, _, _, _, _, I9.app (TT _ _ gx) (row_mk (r := (oddK (pickF x 10), x / 7 % (after + 2), [])) t2 (T2 _ _ t3)), rfl⟩
    rintro σ L1 ⟨z5, z6, z7, z8, z9, z10, z11, I, rfl⟩
    obtain ⟨a0, a9⟩ := gen_a seed (seed / 7 % (20 + 1)).toNat
    obtain ⟨g1, g2⟩ := gen_ok seed (seed / 7 % (20 + 1)).toNat (by omega)
    unfold rowsF at q
    dsimp only at q
    generalize genR seed (seed / 7 % (20 + 1)).toNat = G at I a0 a9 g1 g2 q
    obtain ⟨xs, gx, dx⟩ := id I.lst
    have lx := dx.length
    rw [List.length_map] at lx
    refine ⟨_, rfl, _, _, rfl, rfl, _, rfl, ?_⟩
    show if decide (spoil > 0) = true then _ else _
    by_cases w1 : spoil > 0
    case neg =>
      rw [if_neg (by simpa using w1)]
      rw [if_neg w1] at q
      refine go_next rfl ⟨_, rfl, q pf L1 I.same I.new ?_⟩
      simp only [Den]
      exact ⟨pf, xs, rfl, gx, dx⟩
    rw [if_pos (decide_eq_true w1)]
    rw [if_pos w1] at q
    have k0 := Int.emod_nonneg spoil (show (4 : Int) ≠ 0 by decide)
    have k4 := Int.emod_lt_of_pos spoil (show (0 : Int) < 4 by decide)
    refine ⟨_, rfl, _, _, rfl, rfl, ⟨by decide, by decide⟩, _, rfl, _, _, rfl, rfl, _, _, rfl, rfl, (by show (0 : Int) < G.2 + 1; omega), le_size, fun e1 he1 => ⟨le_size, fun t1 ht1 => ⟨le_size, fun e2 he2 => ⟨le_size, fun t2 ht2 => ⟨_, rfl, le_size, fun e3 he3 => ⟨le_size, fun t3 ht3 => ⟨le_size, fun e4 he4 => ⟨le_size, fun t4 ht4 => ⟨le_size, fun po hpo => ?_⟩⟩⟩⟩⟩⟩⟩⟩⟩
    have A1 := same_upd (o := .tup []) he1
    have b1 : upd L1 e1 (.tup []) e1 = some (.tup (([] : List Int).map V.int)) := upd_same
    generalize upd L1 e1 (.tup []) = M1 at A1 b1 ht1 he2 ht2 he3 ht3 he4 ht4 hpo ⊢
    have A2 := same_upd (o := .tup [.str "put", .int (seed / 13 % (G.2 + 1)), .ref e1]) ht1
    have b2 : upd M1 t1 (.tup [.str "put", .int (seed / 13 % (G.2 + 1)), .ref e1]) t1 = some (.tup [.str "put", .int (seed / 13 % (G.2 + 1)), .ref e1]) := upd_same
    generalize upd M1 t1 (.tup [.str "put", .int (seed / 13 % (G.2 + 1)), .ref e1]) = M2 at A2 b2 he2 ht2 he3 ht3 he4 ht4 hpo ⊢
    have A3 := same_upd (o := .tup [.int 1]) he2
    have b3 : upd M2 e2 (.tup [.int 1]) e2 = some (.tup (([1] : List Int).map V.int)) := upd_same
    generalize upd M2 e2 (.tup [.int 1]) = M3 at A3 b3 ht2 he3 ht3 he4 ht4 hpo ⊢
    have A4 := same_upd (o := .tup [.str "deal", .int 0, .ref e2]) ht2
    have b4 : upd M3 t2 (.tup [.str "deal", .int 0, .ref e2]) t2 = some (.tup [.str "deal", .int 0, .ref e2]) := upd_same
    generalize upd M3 t2 (.tup [.str "deal", .int 0, .ref e2]) = M4 at A4 b4 he3 ht3 he4 ht4 hpo ⊢
    have A5 := same_upd (o := .tup []) he3
    have b5 : upd M4 e3 (.tup []) e3 = some (.tup (([] : List Int).map V.int)) := upd_same
    generalize upd M4 e3 (.tup []) = M5 at A5 b5 ht3 he4 ht4 hpo ⊢
    have A6 := same_upd (o := .tup [.str "part", .int G.2, .ref e3]) ht3
    have b6 : upd M5 t3 (.tup [.str "part", .int G.2, .ref e3]) t3 = some (.tup [.str "part", .int G.2, .ref e3]) := upd_same
    generalize upd M5 t3 (.tup [.str "part", .int G.2, .ref e3]) = M6 at A6 b6 he4 ht4 hpo ⊢
    have A7 := same_upd (o := .tup []) he4
    have b7 : upd M6 e4 (.tup []) e4 = some (.tup (([] : List Int).map V.int)) := upd_same
    generalize upd M6 e4 (.tup []) = M7 at A7 b7 ht4 hpo ⊢
    have A8 := same_upd (o := .tup [.str "from", .int 3, .ref e4]) ht4
    have b8 : upd M7 t4 (.tup [.str "from", .int 3, .ref e4]) t4 = some (.tup [.str "from", .int 3, .ref e4]) := upd_same
    generalize upd M7 t4 (.tup [.str "from", .int 3, .ref e4]) = M8 at A8 b8 hpo ⊢
    have A9 := same_upd (o := .lst [V.ref t1, V.ref t2, V.ref t3, V.ref t4]) hpo
    have b9 : upd M8 po (.lst [V.ref t1, V.ref t2, V.ref t3, V.ref t4]) po = some (.lst [V.ref t1, V.ref t2, V.ref t3, V.ref t4]) := upd_same
    generalize upd M8 po (.lst [V.ref t1, V.ref t2, V.ref t3, V.ref t4]) = M9 at A9 b9 ⊢
    have A69 := A7.trans (A8.trans A9)
    have A49 := A5.trans (A6.trans A69)
    have A29 := A3.trans (A4.trans A49)
    have A19 := A1.trans (A2.trans A29)
    obtain ⟨v, hv, dv⟩ : ∃ v, [V.ref t1, V.ref t2, V.ref t3, V.ref t4][(spoil % 4).toNat]? = some v ∧ Den M9 (rowR (oddR seed G.2 spoil)) v := by
      unfold oddR
      have : spoil % 4 = 0 ∨ spoil % 4 = 1 ∨ spoil % 4 = 2 ∨ spoil % 4 = 3 := by omega
      rcases this with z | z | z | z <;> rw [z]
      · exact ⟨_, rfl, row_mk (r := ("put", seed / 13 % (G.2 + 1), [])) (A29 _ _ b2) ((A2.trans A29) _ _ b1)⟩
      · exact ⟨_, rfl, row_mk (r := ("deal", 0, [1])) (A49 _ _ b4) ((A4.trans A49) _ _ b3)⟩
      · exact ⟨_, rfl, row_mk (r := ("part", G.2, [])) (A69 _ _ b6) ((A6.trans A69) _ _ b5)⟩
      · exact ⟨_, rfl, row_mk (r := ("from", 3, [])) (A9 _ _ b8) ((A8.trans A9) _ _ b7)⟩
    have gx9 := A19 _ _ gx
    have I9 := I.go A19
    have at0 := Int.emod_nonneg (seed / 19) (show (G.1.length : Int) + 1 ≠ 0 by omega)
    have at9 := Int.emod_lt_of_pos (seed / 19) (show (0 : Int) < (G.1.length : Int) + 1 by omega)
    refine ⟨_, rfl, _, _, rfl, rfl, ⟨by decide, by decide⟩, _, rfl, pf, _, rfl, .inl (SqL.of gx9), _, _, rfl, rfl, _, _, rfl, rfl, (by show (0 : Int) < (xs.length : Int) + 1; omega), ?_⟩
    rw [lx]
    dsimp only
    obtain ⟨k, ek⟩ := Int.eq_ofNat_of_zero_le at0
    rw [ek] at q ⊢
    rw [Int.toNat_natCast] at q
    refine ⟨_, rfl, _, rfl, _, rfl, pf, xs, rfl, SqL.of gx9, fun q1 hq1 => ?_⟩
    rw [cut_hi]
    have C1 := same_upd (o := .lst (xs.take k)) hq1
    have c1 : upd M9 q1 (.lst (xs.take k)) q1 = some (.lst (xs.take k)) := upd_same
    generalize upd M9 q1 (.lst (xs.take k)) = N1 at C1 c1 ⊢
    refine ⟨_, rfl, _, rfl, _, _, rfl, rfl, (by show (0 : Int) < 4; decide), po, _, _, v, rfl, rfl, SqL.of (C1 _ _ b9), atI_pos k0 hv, le_size, fun q2 hq2 => ?_⟩
    have C2 := same_upd (o := .lst [v]) hq2
    have c2 : upd N1 q2 (.lst [v]) q2 = some (.lst [v]) := upd_same
    generalize upd N1 q2 (.lst [v]) = N2 at C2 c2 ⊢
    refine ⟨q1, q2, _, _, rfl, rfl, C2 _ _ c1, c2, Nat.le_trans (show (xs.take k).length + 1 ≤ 300 by rw [List.length_take]; omega) (by decide), fun q3 hq3 => ?_⟩
    have C3 := same_upd (o := .lst (xs.take k ++ [v])) hq3
    have c3 : upd N2 q3 (.lst (xs.take k ++ [v])) q3 = some (.lst (xs.take k ++ [v])) := upd_same
    generalize upd N2 q3 (.lst (xs.take k ++ [v])) = N3 at C3 c3 ⊢
    have C13 := C1.trans (C2.trans C3)
    refine ⟨_, rfl, _, rfl, _, rfl, pf, xs, rfl, SqL.of (C13 _ _ gx9), fun q4 hq4 => ?_⟩
    rw [cut_lo]
    have C4 := same_upd (o := .lst (xs.drop k)) hq4
    have c4 : upd N3 q4 (.lst (xs.drop k)) q4 = some (.lst (xs.drop k)) := upd_same
    generalize upd N3 q4 (.lst (xs.drop k)) = N4 at C4 c4 ⊢
    refine ⟨q3, q4, _, _, rfl, rfl, C4 _ _ c3, c4, Nat.le_trans (show (xs.take k ++ [v]).length + (xs.drop k).length ≤ 300 by rw [List.length_append, List.length_take, List.length_drop]; show _ + 1 + _ ≤ 300; omega) (by decide), fun q5 hq5 => ?_⟩
    have C5 := same_upd (o := .lst (xs.take k ++ [v] ++ xs.drop k)) hq5
    have SS := A19.trans (C13.trans (C4.trans C5))
    obtain ⟨d1, d2⟩ := dens_take k (dx.same SS)
    refine ⟨_, rfl, q q5 _ (I.same.trans SS) (none_of' (I.same.trans (A19.trans (C13.trans C4))) hq5) ?_⟩
    simp only [Den]
    refine ⟨q5, _, rfl, upd_same, ?_⟩
    rw [List.map_append, List.map_append, List.map_take, List.map_drop]
    exact (d1.app (dens_one (dv.same (C13.trans (C4.trans C5))))).app d2
end
end Qh
end
section
set_option Elab.async false
set_option linter.all false
set_option maxRecDepth 100000
namespace Qh
open PySem L2
local macro_rules | `(tactic| trivial) => `(tactic| first | rfl | decide | exact .inl rfl | exact .inr rfl | exact .inr (.inl rfl) | exact .inr (.inr rfl) | (intro _; rfl) | with_unfolding_all rfl)
def B0 : Bk := ⟨[], 0, []⟩
theorem fold_cons (seg : Int) (B : Bk) (r : Rw) (rs : List Rw) : foldB seg B (r :: rs) = (enterF B r.1 r.2.1 r.2.2 seg).bind fun B' => foldB seg B' rs := by
  show (match enterF B r.1 r.2.1 r.2.2 seg with | none => none | some B' => foldB seg B' rs) = _
  cases enterF B r.1 r.2.1 r.2.2 seg <;> rfl
theorem fold_app (seg : Int) : ∀ (rs rs' : List Rw) (B : Bk), foldB seg B (rs ++ rs') = (foldB seg B rs).bind fun B' => foldB seg B' rs'
  | [], rs', B => rfl
  | r :: rs, rs', B => by
    rw [List.cons_append, fold_cons, fold_cons]
    cases enterF B r.1 r.2.1 r.2.2 seg with
    | none => rfl
    | some B1 => exact fold_app seg rs rs' B1
theorem fold_one (seg : Int) (B : Bk) (r : Rw) : foldB seg B [r] = enterF B r.1 r.2.1 r.2.2 seg := by
  rw [fold_cons]
  cases enterF B r.1 r.2.1 r.2.2 seg <;> rfl
theorem fold_snoc {seg : Int} {rs : List Rw} {B B' : Bk} {r : Rw} (h : foldB seg B rs = some B') : foldB seg B (rs ++ [r]) = enterF B' r.1 r.2.1 r.2.2 seg := by
  rw [fold_app, h]
  exact fold_one seg B' r
theorem enter_parts {B B' : Bk} {k : Str} {n seg : Int} {body : List Int} (h : enterF B k n body seg = some B') (hk : k ≠ "part") : B'.parts = [] := by
  unfold enterF at h
  rw [if_neg hk] at h
  split at h
  · unfold dealF at h
    split at h
    · exact puts_parts seg h
    · cases h
  split at h
  · cases h
  next hd hp =>
  have hp : B.parts = [] := Classical.byContradiction fun z => hp z
  split at h
  · unfold put1 at h
    split at h
    · cases h
    · cases h
      exact hp
  split at h
  · cases h
    exact hp
  split at h
  · cases h
    exact hp
  cases he : lookE B.es n with
  | none =>
    rw [he] at h
    cases h
    exact hp
  | some e =>
    rw [he] at h
    dsimp only at h
    split at h
    · cases h
      exact hp
    split at h
    · cases h
      exact hp
    · cases h
      exact hp
/-! ### books stay good -/
def bodyOk (b : List Int) : Prop := b.length ≤ 60 ∧ ∀ x ∈ b, 0 ≤ x ∧ x ≤ 255
def EntOk (e : Ent) : Prop := e.2.2 = 0 ∧ 0 ≤ e.2.1 ∧ bodyOk e.1
structure BookOk (B : Bk) : Prop where
  nd : (B.es.map (·.1)).Nodup
  es : ∀ p ∈ B.es, 0 ≤ p.1 ∧ p.1 < B.up ∧ EntOk p.2
  ps : ∀ p ∈ B.parts, 0 ≤ p.1 ∧ bodyOk p.2
theorem any_mem {es : List (Int × Ent)} {n : Int} : (es.any fun p => decide (p.1 = n)) = true ↔ n ∈ es.map (·.1) := by
  rw [List.any_eq_true, List.mem_map]
  constructor
  · rintro ⟨p, hp, e⟩
    exact ⟨p, hp, of_decide_eq_true e⟩
  · rintro ⟨p, hp, e⟩
    exact ⟨p, hp, decide_eq_true e⟩
theorem putE_keys (es : List (Int × Ent)) (n : Int) (e : Ent) (nd : (es.map (·.1)).Nodup) : ((putE es n e).map (·.1)).Nodup ∧ ∀ p ∈ putE es n e, p = (n, e) ∨ p ∈ es := by
  unfold putE
  by_cases z : (es.any fun p => decide (p.1 = n)) = true
  · rw [if_pos z]
    have ek : (es.map fun p => if p.1 = n then (p.1, e) else p).map (·.1) = es.map (·.1) := by
      rw [List.map_map]
      apply List.map_congr_left
      intro p _
      show (if p.1 = n then (p.1, e) else p).1 = p.1
      split <;> rfl
    rw [ek]
    refine ⟨nd, fun p hp => ?_⟩
    rw [List.mem_map] at hp
    obtain ⟨q, hq, rfl⟩ := hp
    by_cases y : q.1 = n
    · rw [if_pos y]
      exact .inl (by rw [y])
    · rw [if_neg y]
      exact .inr hq
  · rw [if_neg z]
    refine ⟨?_, fun p hp => ?_⟩
    · rw [List.map_append, List.nodup_append]
      refine ⟨nd, by simp, fun a ha b hb => ?_⟩
      have hb : b = n := by simpa using hb
      intro h
      exact z (any_mem.mpr (by rw [← hb, ← h]; exact ha))
    · rcases List.mem_append.mp hp with y | y
      · exact .inr y
      · exact .inl (List.mem_singleton.mp y)
theorem BookOk.put {B : Bk} {n u : Int} {e : Ent} {ps : List (Int × List Int)} (h : BookOk B) (h0 : 0 ≤ n) (h1 : n < u) (h2 : B.up ≤ u) (he : EntOk e) (hp : ∀ p ∈ ps, 0 ≤ p.1 ∧ bodyOk p.2) : BookOk ⟨putE B.es n e, u, ps⟩ := by
  obtain ⟨k1, k2⟩ := putE_keys B.es n e h.nd
  refine ⟨k1, fun p hpm => ?_, hp⟩
  rcases k2 p hpm with z | z
  · subst z
    exact ⟨h0, h1, he⟩
  · obtain ⟨a1, a2, a3⟩ := h.es p z
    exact ⟨a1, by show p.1 < u; omega, a3⟩
theorem BookOk.drop {B : Bk} {n : Int} (h : BookOk B) : BookOk ⟨dropE B.es n, B.up, B.parts⟩ := by
  refine ⟨?_, fun p hp => h.es p (List.mem_filter.mp hp).1, h.ps⟩
  show ((B.es.filter fun p => decide (p.1 ≠ n)).map (·.1)).Nodup
  exact h.nd.sublist (List.Sublist.map _ List.filter_sublist)
theorem lookE_mem {es : List (Int × Ent)} {n : Int} {e : Ent} (h : lookE es n = some e) : (n, e) ∈ es := by
  unfold lookE at h
  rw [Option.map_eq_some_iff] at h
  obtain ⟨p, hp, rfl⟩ := h
  have h1 := List.find?_some hp
  have h1 : p.1 = n := of_decide_eq_true h1
  have h2 := List.mem_of_find?_eq_some hp
  rw [← h1]
  exact h2
theorem puts_ok : ∀ {ps : List (Int × List Int)} {B B' : Bk}, BookOk B → (∀ p ∈ ps, 0 ≤ p.1 ∧ bodyOk p.2) → puts 0 B ps = some B' → BookOk B'
  | [], B, B', h, _, e => by
    cases (show some B = some B' from e)
    exact h
  | p :: ps, B, B', h, hp, e => by
    have e : (match put1 B p.1 p.2 0 with | none => none | some B1 => puts 0 B1 ps) = some B' := e
    cases e1 : put1 B p.1 p.2 0 with
    | none => rw [e1] at e; cases e
    | some B1 =>
      rw [e1] at e
      refine puts_ok ?_ (fun q hq => hp q (List.mem_cons_of_mem _ hq)) e
      unfold put1 at e1
      split at e1
      · cases e1
      · next hlt =>
        cases e1
        obtain ⟨a1, a2⟩ := hp p List.mem_cons_self
        exact h.put a1 (by omega) (by omega) ⟨rfl, Int.le_refl 0, a2⟩ h.ps
theorem enter_ok {B B' : Bk} {k : Str} {n : Int} {body : List Int} (h : BookOk B) (hr : isRowD (rowT k n body) = true) (hb : ∀ x ∈ body, 0 ≤ x ∧ x ≤ 255) (e : enterF B k n body 0 = some B') (hl : k = "put" ∨ k = "part" → body.length ≤ 60) : BookOk B' := by
  obtain ⟨f1, f2, f3, f4, f5, f6⟩ := row_facts hr
  unfold enterF at e
  split at e
  · next w =>
    cases e
    refine ⟨h.nd, h.es, fun p hp => ?_⟩
    rcases List.mem_append.mp hp with z | z
    · exact h.ps p z
    · rw [List.mem_singleton.mp z]
      exact ⟨f2, hl (.inr w), hb⟩
  split at e
  · unfold dealF at e
    split at e
    · exact puts_ok (B := ⟨B.es, B.up, []⟩) ⟨h.nd, h.es, fun p hp => by simp at hp⟩ h.ps e
    · cases e
  split at e
  · cases e
  split at e
  · next w =>
    unfold put1 at e
    split at e
    · cases e
    · cases e
      exact h.put f2 (by omega) (by omega) ⟨rfl, Int.le_refl 0, hl (.inl w), hb⟩ h.ps
  split at e
  · cases e
    refine ⟨h.nd, fun p hp => ?_, h.ps⟩
    obtain ⟨a1, a2, a3⟩ := h.es p hp
    refine ⟨a1, ?_, a3⟩
    show p.1 < maxI B.up n
    unfold maxI
    split <;> omega
  split at e
  · next w =>
    cases e
    have hbl := f5 w
    refine h.put f2 (by unfold maxI; split <;> omega) (by unfold maxI; split <;> omega) ⟨rfl, ?_, ?_, ?_⟩ h.ps
    · cases body with
      | nil => exact absurd hbl (by simp)
      | cons c bs => exact (hb c List.mem_cons_self).1
    · rw [List.length_drop]; omega
    · exact fun x hx => hb x (List.mem_of_mem_drop hx)
  cases he : lookE B.es n with
  | none =>
    rw [he] at e
    cases e
    exact h
  | some en =>
    rw [he] at e
    dsimp only at e
    obtain ⟨a1, a2, a3, a4, a5⟩ := h.es _ (lookE_mem he)
    have a3 : en.2.2 = 0 := a3
    have a4 : 0 ≤ en.2.1 := a4
    split at e
    · cases e
      exact h.put f2 a2 (Int.le_refl _) ⟨a3, by show 0 ≤ en.2.1 + 1; omega, a5⟩ h.ps
    split at e
    · cases e
      exact h.put f2 a2 (Int.le_refl _) ⟨a3, Int.le_refl 0, a5⟩ h.ps
    · cases e
      exact h.drop
theorem row_bytes_ok {k : Str} {n : Int} {body : List Int} (h : isRowD (rowT k n body) = true) : (∀ x ∈ body, 0 ≤ x ∧ x ≤ 255) ∧ (k = "put" ∨ k = "part" → body.length ≤ 60) := by
  have h : (kinds.contains k && (isNum 0 999999 (.int n) && (isByt (.tuple (body.map .int)) && fitsK k (intsOf (.tuple (body.map .int)))))) = true := h
  rw [Bool.and_eq_true, Bool.and_eq_true, Bool.and_eq_true, ints_int] at h
  obtain ⟨_, _, h1, h2⟩ := h
  refine ⟨fun x hx => ?_, fun w => ?_⟩
  · have h1 : (body.map PyData.int).all (isNum 0 255) = true := h1
    rw [List.all_map, List.all_eq_true] at h1
    have := h1 x hx
    have this : (decide (0 ≤ x) && decide (x ≤ 255)) = true := this
    rw [Bool.and_eq_true, decide_eq_true_eq, decide_eq_true_eq] at this
    exact this
  · unfold fitsK at h2
    rw [if_pos w] at h2
    exact of_decide_eq_true h2
theorem fold_ok : ∀ {rs : List Rw} {B B' : Bk}, BookOk B → (∀ r ∈ rs, isRowD (rowR r) = true) → foldB 0 B rs = some B' → BookOk B'
  | [], B, B', h, _, e => by
    cases (show some B = some B' from e)
    exact h
  | r :: rs, B, B', h, hr, e => by
    rw [fold_cons] at e
    cases e1 : enterF B r.1 r.2.1 r.2.2 0 with
    | none => rw [e1] at e; cases e
    | some B1 =>
      rw [e1] at e
      have hr1 := hr r List.mem_cons_self
      obtain ⟨b1, b2⟩ := row_bytes_ok hr1
      exact fold_ok (enter_ok h hr1 b1 e1 b2) (fun q hq => hr q (List.mem_cons_of_mem _ hq)) e
/-! ### the rows that are drawn make a book -/
theorem puts_run : ∀ (ps : List (Int × List Int)) (es : List (Int × Ent)) (u : Int), (∀ (j : Nat) p, ps[j]? = some p → p.1 = u + (j : Int)) → ∃ es', puts 0 ⟨es, u, []⟩ ps = some ⟨es', u + (ps.length : Int), []⟩
  | [], es, u, _ => ⟨es, by show some (⟨es, u, []⟩ : Bk) = some ⟨es, u + 0, []⟩; rw [Int.add_zero]⟩
  | p :: ps, es, u, h => by
    have h0 := h 0 p rfl
    have e0 : p.1 = u := by rw [h0]; show u + 0 = u; omega
    have ep : put1 ⟨es, u, []⟩ p.1 p.2 0 = some ⟨putE es u (p.2, 0, 0), u + 1, []⟩ := by
      unfold put1
      rw [e0, if_neg (Int.lt_irrefl u)]
    obtain ⟨es', he⟩ := puts_run ps (putE es u (p.2, 0, 0)) (u + 1) (fun j q hq => by
      have := h (j + 1) q (by simpa using hq)
      rw [this]
      show u + ((j + 1 : Nat) : Int) = u + 1 + (j : Int)
      omega)
    refine ⟨es', ?_⟩
    show (match put1 ⟨es, u, []⟩ p.1 p.2 0 with | none => none | some B1 => puts 0 B1 ps) = _
    rw [ep]
    refine he.trans ?_
    rw [List.length_cons]
    show some (⟨es', u + 1 + (ps.length : Int), []⟩ : Bk) = some ⟨es', u + ((ps.length + 1 : Nat) : Int), []⟩
    congr 2
    omega
theorem parts_run (x after : Int) : ∀ (m : Nat) (es : List (Int × Ent)) (up : Int), foldB 0 ⟨es, up, []⟩ ((List.range m).map (partRow x after)) = some ⟨es, up, (List.range m).map fun (j : Nat) => (after + (j : Int), bytesF (seedF x j) 6)⟩
  | 0, es, up => rfl
  | m + 1, es, up => by
    rw [List.range_succ, List.map_append, fold_app, parts_run x after m es up]
    show foldB 0 _ [partRow x after m] = _
    rw [fold_one, List.map_append]
    unfold enterF partRow
    rw [if_pos rfl]
    rfl
theorem turn_fold {x after : Int} {B : Bk} (hp : B.parts = []) (hu : B.up = after) (h0 : 0 ≤ after) : ∃ B', foldB 0 B (turnR x after) = some B' ∧ B'.parts = [] ∧ B'.up = turnA x after := by
  have eB : B = ⟨B.es, after, []⟩ := by
    cases B
    dsimp only at hp hu
    rw [hp, hu]
  have k0 := Int.emod_nonneg (x / 11) (show (4 : Int) ≠ 0 by decide)
  have k3 := Int.emod_lt_of_pos (x / 11) (show (0 : Int) < 4 by decide)
  have q0 := Int.emod_nonneg (x / 17) (show (2 : Int) ≠ 0 by decide)
  have q2 := Int.emod_lt_of_pos (x / 17) (show (0 : Int) < 2 by decide)
  have hpk := pick_bd x
  rw [eB]
  unfold turnR turnA
  by_cases w1 : pickF x 10 < 3
  · rw [if_pos w1, if_pos w1, fold_one]
    show ∃ B', enterF ⟨B.es, after, []⟩ "put" (after + (if x / 11 % 3 = 2 then 2 else 0)) (bytesF x 9) 0 = some B' ∧ _
    refine ⟨⟨putE B.es (after + (if x / 11 % 3 = 2 then 2 else 0)) (bytesF x 9, 0, 0), after + (if x / 11 % 3 = 2 then 2 else 0) + 1, []⟩, ?_, rfl, rfl⟩
    unfold enterF
    rw [if_neg (by decide), if_neg (by decide), if_neg (by simp), if_pos rfl]
    unfold put1
    rw [if_neg (by show ¬ after + (if x / 11 % 3 = 2 then 2 else 0) < after; split <;> omega)]
  rw [if_neg w1, if_neg w1]
  by_cases w2 : pickF x 10 < 4
  · rw [if_pos w2, if_pos w2, fold_app, parts_run]
    show ∃ B', foldB 0 _ [("deal", after, [1 + x / 11 % 4])] = some B' ∧ _
    rw [fold_one]
    generalize hm : (1 + x / 11 % 4).toNat = m
    have em : 1 + x / 11 % 4 = (m : Int) := by omega
    rw [em]
    obtain ⟨es', he⟩ := puts_run ((List.range m).map fun (j : Nat) => (after + (j : Int), bytesF (seedF x j) 6)) B.es after (fun j p hj => by
      rw [List.getElem?_map, Option.map_eq_some_iff] at hj
      obtain ⟨i, hi, rfl⟩ := hj
      have : i = j := by
        have hl := (List.getElem?_eq_some_iff.mp hi).1
        rw [List.length_range] at hl
        rw [List.getElem?_range hl] at hi
        exact (Option.some.inj hi).symm
      rw [this])
    rw [List.length_map, List.length_range] at he
    show ∃ B', enterF ⟨B.es, after, (List.range m).map fun (j : Nat) => (after + (j : Int), bytesF (seedF x j) 6)⟩ "deal" after [(m : Int)] 0 = some B' ∧ _
    refine ⟨⟨es', after + (m : Int), []⟩, ?_, rfl, rfl⟩
    unfold enterF
    rw [if_neg (by decide), if_pos rfl]
    unfold dealF
    show (if ((List.range m).map fun (j : Nat) => (after + (j : Int), bytesF (seedF x j) 6)).map (·.1) = (List.range ((m : Int)).toNat).map (fun (k : Nat) => after + (k : Int)) then _ else _) = _
    rw [Int.toNat_natCast, List.map_map]
    have ek : List.map ((fun p : Int × List Int => p.1) ∘ fun (j : Nat) => (after + (j : Int), bytesF (seedF x j) 6)) (List.range m) = (List.range m).map (fun (k : Nat) => after + (k : Int)) := rfl
    rw [if_pos ek]
    exact he
  rw [if_neg w2, if_neg w2]
  by_cases w3 : pickF x 10 = 9
  · rw [if_pos w3, if_pos w3]
    by_cases w4 : x / 17 % 2 = 0
    · rw [if_pos w4, fold_one, w4, Int.add_zero]
      show ∃ B', enterF ⟨B.es, after, []⟩ "from" (x / 7 % (after + 2)) [] 0 = some B' ∧ _
      refine ⟨⟨B.es, maxI after (x / 7 % (after + 2)), []⟩, ?_, rfl, rfl⟩
      unfold enterF
      rw [if_neg (by decide), if_neg (by decide), if_neg (by simp), if_neg (by decide), if_pos rfl]
    · rw [if_neg w4, fold_one, show x / 17 % 2 = 1 by omega]
      show ∃ B', enterF ⟨B.es, after, []⟩ "carried" (x / 7 % (after + 2)) ((x / 13 % 10) :: bytesF x 6) 0 = some B' ∧ _
      refine ⟨⟨putE B.es (x / 7 % (after + 2)) (bytesF x 6, x / 13 % 10, 0), maxI after (x / 7 % (after + 2) + 1), []⟩, ?_, rfl, rfl⟩
      unfold enterF
      rw [if_neg (by decide), if_neg (by decide), if_neg (by simp), if_neg (by decide), if_neg (by decide), if_pos rfl]
      all_goals rfl
  rw [if_neg w3, if_neg w3, fold_one]
  have ho := odd_in (pickF x 10) (by omega) (by omega)
  have key : ∀ k : Str, (k = "out" ∨ k = "done" ∨ k = "new") → ∀ n, ∃ B', enterF ⟨B.es, after, []⟩ k n [] 0 = some B' ∧ B'.parts = [] ∧ B'.up = after := by
    intro k hk n
    have n1 : ¬ k = "part" := by rcases hk with rfl | rfl | rfl <;> decide
    have n2 : ¬ k = "deal" := by rcases hk with rfl | rfl | rfl <;> decide
    have n3 : ¬ k = "put" := by rcases hk with rfl | rfl | rfl <;> decide
    have n4 : ¬ k = "from" := by rcases hk with rfl | rfl | rfl <;> decide
    have n5 : ¬ k = "carried" := by rcases hk with rfl | rfl | rfl <;> decide
    unfold enterF
    rw [if_neg n1, if_neg n2, if_neg (by simp), if_neg n3, if_neg n4, if_neg n5]
    dsimp only
    cases lookE B.es n with
    | none => exact ⟨_, rfl, rfl, rfl⟩
    | some e =>
      dsimp only
      split
      · exact ⟨_, rfl, rfl, rfl⟩
      split
      · exact ⟨_, rfl, rfl, rfl⟩
      · exact ⟨_, rfl, rfl, rfl⟩
  exact key (oddK (pickF x 10)) ho _
theorem gen_fold (seed : Int) : ∀ k, ∃ B, foldB 0 B0 (genR seed k).1 = some B ∧ B.parts = [] ∧ B.up = (genR seed k).2
  | 0 => ⟨B0, rfl, rfl, rfl⟩
  | k + 1 => by
    obtain ⟨B, h1, h2, h3⟩ := gen_fold seed k
    obtain ⟨B', g1, g2, g3⟩ := turn_fold (x := seedF seed k) h2 h3 (gen_a seed k).1
    refine ⟨B', ?_, g2, g3⟩
    show foldB 0 B0 ((genR seed k).1 ++ turnR (seedF seed k) (genR seed k).2) = some B'
    rw [fold_app, h1]
    exact g1
theorem book0_ok : BookOk B0 := ⟨List.nodup_nil, (fun p hp => by cases hp), (fun p hp => by cases hp)⟩
theorem rows_fold (seed : Int) : ∃ B, foldB 0 B0 (rowsF seed 20 0) = some B ∧ B.parts = [] ∧ BookOk B ∧ B.up ≤ 80 ∧ 0 ≤ B.up := by
  have m0 := Int.emod_nonneg (seed / 7) (show (20 + 1 : Int) ≠ 0 by decide)
  have m9 := Int.emod_lt_of_pos (seed / 7) (show (0 : Int) < 20 + 1 by decide)
  obtain ⟨B, h1, h2, h3⟩ := gen_fold seed (seed / 7 % (20 + 1)).toNat
  have e : rowsF seed 20 0 = (genR seed (seed / 7 % (20 + 1)).toNat).1 := by
    unfold rowsF
    dsimp only
    rw [if_neg (by decide)]
  have ga := gen_a seed (seed / 7 % (20 + 1)).toNat
  rw [e]
  exact ⟨B, h1, h2, fold_ok book0_ok (gen_ok seed _ (by omega)).1 h1, by rw [h3]; omega, by rw [h3]; exact ga.1⟩
/-! ### rows that change nothing -/
theorem enter_none {B : Bk} {k : Str} {n : Int} (hp : B.parts = []) (hk : k = "out" ∨ k = "done" ∨ k = "new") (hn : n ∉ B.es.map (·.1)) : enterF B k n [] 0 = some B := by
  have n1 : ¬ k = "part" := by rcases hk with rfl | rfl | rfl <;> decide
  have n2 : ¬ k = "deal" := by rcases hk with rfl | rfl | rfl <;> decide
  have n3 : ¬ k = "put" := by rcases hk with rfl | rfl | rfl <;> decide
  have n4 : ¬ k = "from" := by rcases hk with rfl | rfl | rfl <;> decide
  have n5 : ¬ k = "carried" := by rcases hk with rfl | rfl | rfl <;> decide
  have hl : lookE B.es n = none := by
    cases e : lookE B.es n with
    | none => rfl
    | some e' => exact absurd (List.mem_map_of_mem (f := fun p : Int × Ent => p.1) (lookE_mem e)) hn
  unfold enterF
  rw [if_neg n1, if_neg n2, if_neg (fun z => z hp), if_neg n3, if_neg n4, if_neg n5, hl]
theorem putE_same {es : List (Int × Ent)} {n : Int} {e : Ent} (nd : (es.map (·.1)).Nodup) (h : lookE es n = some e) : putE es n e = es := by
  have hm := lookE_mem h
  unfold putE
  rw [if_pos (any_mem.mpr (List.mem_map_of_mem (f := fun p : Int × Ent => p.1) hm))]
  have : es.map (fun p => if p.1 = n then (p.1, e) else p) = es.map id := by
    apply List.map_congr_left
    intro p hp
    by_cases z : p.1 = n
    · rw [if_pos z]
      have : p = (n, e) := by
        clear h
        induction es with
        | nil => cases hp
        | cons q es ih =>
          rw [List.map_cons, List.nodup_cons] at nd
          rcases List.mem_cons.mp hp with h1 | h1
          · rcases List.mem_cons.mp hm with h2 | h2
            · rw [h1, h2]
            · exact absurd (by rw [← h1, z]; exact List.mem_map_of_mem (f := fun p : Int × Ent => p.1) h2) nd.1
          · rcases List.mem_cons.mp hm with h2 | h2
            · exact absurd (by rw [← h2]; show n ∈ _; rw [← z]; exact List.mem_map_of_mem (f := fun p : Int × Ent => p.1) h1) nd.1
            · exact ih nd.2 h2 h1
      rw [this]
      rfl
    · rw [if_neg z]
      rfl
  rw [this, List.map_id]
def carR (es : List (Int × Ent)) (n : Int) : Rw := ("carried", n, (if 9 < ((lookE es n).getD ([], 0, 0)).2.1 then 9 else ((lookE es n).getD ([], 0, 0)).2.1) :: ((lookE es n).getD ([], 0, 0)).1)
theorem car_fold {B : Bk} (h : BookOk B) (hp : B.parts = []) : ∀ (ms : List Int), (∀ n ∈ ms, ∃ e, lookE B.es n = some e ∧ e.2.1 ≤ 9) → foldB 0 B (ms.map (carR B.es)) = some B
  | [], _ => rfl
  | n :: ms, hm => by
    obtain ⟨e, he, h9⟩ := hm n List.mem_cons_self
    rw [List.map_cons, fold_cons]
    have ee : enterF B (carR B.es n).1 (carR B.es n).2.1 (carR B.es n).2.2 0 = some B := by
      unfold carR
      rw [he]
      dsimp only [Option.getD]
      rw [if_neg (by omega)]
      unfold enterF
      rw [if_neg (by decide), if_neg (by decide), if_neg (fun z => z hp), if_neg (by decide), if_neg (by decide), if_pos rfl]
      obtain ⟨a1, a2, a3, a4, a5⟩ := h.es _ (lookE_mem he)
      have a2 : n < B.up := a2
      have a3 : e.2.2 = 0 := a3
      show some (⟨putE B.es n (e.1, e.2.1, 0), maxI B.up (n + 1), B.parts⟩ : Bk) = some B
      have : (e.1, e.2.1, (0 : Int)) = e := by rw [← a3]
      rw [this, putE_same h.nd he]
      have : maxI B.up (n + 1) = B.up := by
        unfold maxI
        rw [if_neg (by omega)]
      rw [this]
    rw [ee]
    exact car_fold h hp ms fun q hq => hm q (List.mem_cons_of_mem _ hq)
theorem car_row {B : Bk} (h : BookOk B) (hu : B.up ≤ 80) {n : Int} {e : Ent} (he : lookE B.es n = some e) : isRowD (rowR (carR B.es n)) = true := by
  obtain ⟨a1, a2, a3, a4, a5, a6⟩ := h.es _ (lookE_mem he)
  have a1 : 0 ≤ n := a1
  have a2 : n < B.up := a2
  have a4 : 0 ≤ e.2.1 := a4
  have a5 : e.1.length ≤ 60 := a5
  unfold carR
  rw [he]
  refine row_ok (k := "carried") (n := n) (ns := (if 9 < e.2.1 then 9 else e.2.1) :: e.1) (by decide +kernel) a1 (by omega) (fun b hb => ?_) ?_
  · rcases List.mem_cons.mp hb with z | z
    · rw [z]
      split <;> omega
    · exact a6 b z
  · unfold fitsK
    rw [if_neg (by decide), if_pos rfl]
    show (decide (1 ≤ e.1.length + 1) && decide (e.1.length + 1 ≤ 61) && decide ((if 9 < e.2.1 then 9 else e.2.1) ≤ 9)) = true
    rw [decide_eq_true (show 1 ≤ e.1.length + 1 by omega), decide_eq_true (show e.1.length + 1 ≤ 61 by omega), decide_eq_true (show (if 9 < e.2.1 then 9 else e.2.1) ≤ 9 by split <;> omega)]
    rfl
theorem last_fold {B : Bk} (h : BookOk B) (hp : B.parts = []) (hu : B.up ≤ 80) : foldB 0 B [("from", B.up, []), ("done", 999999, [])] = some B := by
  rw [fold_cons]
  have e1 : enterF B "from" B.up [] 0 = some B := by
    unfold enterF
    rw [if_neg (by decide), if_neg (by decide), if_neg (fun z => z hp), if_neg (by decide), if_pos rfl]
    have : maxI B.up B.up = B.up := by
      unfold maxI
      rw [if_neg (by omega)]
    rw [this]
  show (enterF B "from" B.up [] 0).bind _ = _
  rw [e1]
  show foldB 0 B [("done", 999999, [])] = some B
  rw [fold_one]
  show enterF B "done" 999999 [] 0 = some B
  refine enter_none hp (.inr (.inl rfl)) fun hm => ?_
  rw [List.mem_map] at hm
  obtain ⟨p, hp, e⟩ := hm
  have := (h.es p hp).2.1
  omega
end Qh
end
section
set_option Elab.async false
set_option linter.all false
set_option maxRecDepth 100000
namespace Qh
open PySem L2
local macro_rules | `(tactic| trivial) => `(tactic| first | rfl | decide | exact .inl rfl | exact .inr rfl | exact .inr (.inl rfl) | exact .inr (.inr rfl) | (intro _; rfl) | with_unfolding_all rfl)
theorem ints_inj : ∀ {l l' : List Int}, l.map PyData.int = l'.map PyData.int → l = l'
  | [], [], _ => rfl
  | a :: l, b :: l', h => by
    rw [List.map_cons, List.map_cons] at h
    injection h with h1 h2
    injection h1 with h1
    rw [h1, ints_inj h2]
  | [], _ :: _, h => by simp at h
  | _ :: _, [], h => by simp at h
theorem rows_inj : ∀ {l l' : List Rw}, l.map rowR = l'.map rowR → l = l'
  | [], [], _ => rfl
  | r :: l, r' :: l', h => by
    rw [List.map_cons, List.map_cons] at h
    injection h with h1 h2
    obtain ⟨k, n, b⟩ := r
    obtain ⟨k', n', b'⟩ := r'
    have h1 : PyData.tuple [.str k, .int n, .tuple (b.map .int)] = .tuple [.str k', .int n', .tuple (b'.map .int)] := h1
    injection h1 with h1
    injection h1 with a1 h1
    injection h1 with a2 h1
    injection h1 with a3 h1
    injection a1 with a1
    injection a2 with a2
    injection a3 with a3
    rw [a1, a2, ints_inj a3, rows_inj h2]
  | [], _ :: _, h => by simp at h
  | _ :: _, [], h => by simp at h
theorem small_row {r : Rw} (h : isRowD (rowR r) = true) : smallR (rowR r) := by
  intro k n bs e
  obtain ⟨k', n', b'⟩ := r
  have e : PyData.tuple [.str k', .int n', .tuple (b'.map .int)] = .tuple [k, n, .tuple bs] := e
  injection e with e
  injection e with _ e
  injection e with _ e
  injection e with e _
  injection e with e
  have := (row_facts (k := k') (n := n') (body := b') h).2.2.2.2.2
  rw [← e, List.length_map]
  exact Nat.le_trans this (by decide)
theorem rows_all {rs : List Rw} (h : ∀ r ∈ rs, isRowD (rowR r) = true) : rowsOk (.list (rs.map rowR)) = true := by
  show (rs.map rowR).all isRowD = true
  rw [List.all_map, List.all_eq_true]
  exact h
theorem seq_let (n : Int) (e : Ent) : seqD (letD n e) = true := by
  unfold letD
  simp only [seqD, seqDs, seq_ints]
  rfl
theorem depth_let (n : Int) (e : Ent) : PyData.depth (letD n e) ≤ 2 := by
  show PyData.depthAll [.int n, .tuple (e.1.map .int), .int e.2.1] + 1 ≤ 2
  show max 0 (max (PyData.depthAll (e.1.map .int) + 1) (max 0 0)) + 1 ≤ 2
  rw [depth_ints]
  decide
def madeD (es : List (Int × Ent)) (ms : List Int) (up : Int) : PyData := .tuple [.list (ms.map (letF es)), .int up]
theorem made_shaped (es : List (Int × Ent)) (ms : List Int) (up : Int) : SeqAt.shaped (madeD es ms up) = true ∧ PyData.eqv (madeD es ms up) (madeD es ms up) = true := by
  have s1 : seqDs (ms.map (letF es)) = true := seqs_all fun d hd => by
    rw [List.mem_map] at hd
    obtain ⟨n, _, rfl⟩ := hd
    exact seq_let _ _
  have s2 : seqD (madeD es ms up) = true := by
    unfold madeD
    simp only [seqD, seqDs, s1]
    rfl
  refine ⟨shaped_of s2 ?_, eqv_refl s2⟩
  show PyData.depthAll [.list (ms.map (letF es)), .int up] + 1 ≤ 64
  show max (PyData.depthAll (ms.map (letF es)) + 1) (max 0 0) + 1 ≤ 64
  have := depths_le (n := 2) (ds := ms.map (letF es)) (fun d hd => by
    rw [List.mem_map] at hd
    obtain ⟨n, _, rfl⟩ := hd
    exact depth_let _ _)
  omega
theorem let_mk {H : Hp} {n : Int} {e : Ent} {t b : Addr} (gt : H t = some (.tup [.int n, .ref b, .int e.2.1])) (gb : H b = some (.tup (e.1.map V.int))) : Den H (letD n e) (.ref t) := by
  unfold letD
  simp only [Den, Dens]
  exact ⟨t, _, rfl, gt, _, _, rfl, rfl, _, _, rfl, ⟨b, _, rfl, gb, dens_ints.mpr rfl⟩, _, _, rfl, rfl, rfl⟩
theorem fold_size {seg : Int} : ∀ {rs : List Rw} {B B' : Bk}, foldB seg B rs = some B' → B'.es.length + B'.parts.length ≤ B.es.length + B.parts.length + rs.length
  | [], B, B', h => by
    cases (show some B = some B' from h)
    exact Nat.le_refl _
  | r :: rs, B, B', h => by
    have h : (match enterF B r.1 r.2.1 r.2.2 seg with | none => none | some B1 => foldB seg B1 rs) = some B' := h
    cases e : enterF B r.1 r.2.1 r.2.2 seg with
    | none => rw [e] at h; cases h
    | some B1 =>
      rw [e] at h
      have h1 := fold_size h
      have h2 := enter_size e
      rw [List.length_cons]
      omega
theorem made_call {C1 C2 : Addr} {H : Hp} {v : V} {rs : List Rw} {B : Bk} {Q : VK} {E : XK} (d : Den H (.list (rs.map rowR)) v) (rok : ∀ r ∈ rs, isRowD (rowR r) = true) (len : rs.length < 800) (hf : foldB 0 ⟨[], 0, []⟩ rs = some B) (hp : B.parts = []) (q : ∀ ms, List.Perm ms (B.es.map (·.1)) → ms.Pairwise (· ≤ ·) → ∀ p H', Same H H' → Den H' (madeD B.es ms B.up) (.ref p) → Q (.ref p) H') : sp_made C1 C2 [v] H Q E := by
  refine ⟨v, .list (rs.map rowR), rfl, d, fun ds e => ?_, fun z => ?_, fun rs' e ok' => ?_⟩
  · injection e with e
    subst e
    refine ⟨by rw [List.length_map]; omega, fun x hx => ?_⟩
    rw [List.mem_map] at hx
    obtain ⟨r, hr, rfl⟩ := hx
    exact small_row (rok r hr)
  · rw [rows_all rok] at z
    cases z
  · injection e with e
    have e := rows_inj e
    subst e
    refine ⟨(fun z => by rw [hf] at z; cases z), (fun B' z hp' => by rw [hf] at z; cases z; exact absurd hp hp'), fun B' z _ ms perm pw p H' S dn => ?_⟩
    rw [hf] at z
    cases z
    exact q ms perm pw p H' S dn
theorem made_form {H : Hp} {es : List (Int × Ent)} {ms : List Int} {up : Int} {p : Addr} (h : Den H (madeD es ms up) (.ref p)) : ∃ pL ys, H p = some (.tup [.ref pL, .int up]) ∧ H pL = some (.lst ys) ∧ Dens H (ms.map (letF es)) ys := by
  unfold madeD at h
  simp only [Den, Dens] at h
  obtain ⟨_, _, e1, gf, _, _, rfl, ⟨pL, ys, rfl, gL, dL⟩, _, _, rfl, rfl, rfl⟩ := h
  cases e1
  exact ⟨pL, ys, gf, gL, dL⟩
theorem let_form {H : Hp} {n : Int} {e : Ent} {v : V} (h : Den H (letD n e) v) : ∃ t b, v = .ref t ∧ H t = some (.tup [.int n, .ref b, .int e.2.1]) ∧ H b = some (.tup (e.1.map V.int)) := by
  unfold letD at h
  simp only [Den, Dens] at h
  obtain ⟨t, _, rfl, gt, _, _, rfl, rfl, _, _, rfl, ⟨b, _, rfl, gb, hb⟩, _, _, rfl, rfl, rfl⟩ := h
  exact ⟨t, b, rfl, gt, by rw [gb, dens_ints.mp hb]⟩
end Qh
end
section
set_option Elab.async false
set_option linter.all false
set_option maxRecDepth 100000
namespace Qh
open PySem L2
local macro_rules | `(tactic| trivial) => `(tactic| first | rfl | decide | exact .inl rfl | exact .inr rfl | exact .inr (.inl rfl) | exact .inr (.inr rfl) | (intro _; rfl) | with_unfolding_all rfl)
abbrev s_law : Stmt := top 26
theorem bt_min : bootBuiltins "min" = some (.builtin "min") := by decide +kernel
structure TxtM (K : PySem.W.Frag) (mg : Str → Option Value) (a_KINDS C_BadRow C_Broken C_Book : Addr) : Prop extends TxtK K mg a_KINDS C_BadRow C_Broken C_Book where
  n_min : mg "min" = none
def sp_law (K : PySem.W.Frag) : Sp := fun vs H Q _ => ∃ (a : Addr) (ns : List Int), vs = [.ref a] ∧ SqL K H a (ns.map V.int) ∧ ∀ H', Q (.bl true) H'
theorem fold_pre {B B' : Bk} {rs : List Rw} (h : foldB 0 B rs = some B') (i : Nat) : ∃ B1, foldB 0 B (rs.take i) = some B1 := by
  rw [← List.take_append_drop i rs, fold_app] at h
  cases e : foldB 0 B (rs.take i) with
  | none => rw [e] at h; cases h
  | some B1 => exact ⟨B1, rfl⟩
theorem take_snoc {α : Type} {l : List α} {i : Nat} {x : α} (h : l[i]? = some x) : l.take (i + 1) = l.take i ++ [x] := by
  rw [List.take_succ, h]
  rfl
def lastR (up : Int) : List Rw := [("from", up, []), ("done", 999999, [])]
def oddT (c : Int) : Str := (["out", "done", "new"] : List Str).getD (c % 3).toNat "out"
theorem oddT_in (c : Int) : oddT c = "out" ∨ oddT c = "done" ∨ oddT c = "new" := by
  have k0 := Int.emod_nonneg c (show (3 : Int) ≠ 0 by decide)
  have k3 := Int.emod_lt_of_pos c (show (0 : Int) < 3 by decide)
  unfold oddT
  have : c % 3 = 0 ∨ c % 3 = 1 ∨ c % 3 = 2 := by omega
  rcases this with z | z | z <;> rw [z]
  · exact .inl rfl
  · exact .inr (.inl rfl)
  · exact .inr (.inr rfl)
theorem oddT_row {c n : Int} (h0 : 0 ≤ n) (h9 : n < 1000000) : isRowD (rowR (oddT c, n, [])) = true := by
  have := fits_odd (k := oddT c) (by rcases oddT_in c with z | z | z <;> simp [z])
  exact row_ok (k := oddT c) (n := n) (ns := []) this.2 h0 (by omega) (fun b hb => by cases hb) this.1
theorem inV_ints (n : Int) : ∀ ms : List Int, inV (.int n) (ms.map V.int) = decide (n ∈ ms)
  | [] => by simp [inV]
  | m :: ms => by
    have ih := inV_ints n ms
    unfold inV at ih ⊢
    rw [List.map_cons, List.any_cons, ih]
    show (decide (m = n) || _) = _
    by_cases z : m = n
    · subst z
      simp
    · rw [decide_eq_false z, Bool.false_or]
      have : (n ∈ m :: ms) ↔ n ∈ ms := by
        rw [List.mem_cons]
        exact ⟨fun h => h.resolve_left fun e => z e.symm, .inr⟩
      simp [this]
theorem flat_ints (ms : List Int) : (ms.map V.int).all flatV = true := by
  rw [List.all_map, List.all_eq_true]
  exact fun _ _ => rfl
theorem nil_go {σ : St} {H : Hp} {k : List V → Hp → Prop} (h : k [] H) : tNil σ H k := h
section
variable {P : Program} {w : World} {K : PySem.W.Frag} {mg : Str → Option Value} {base : Heap} {a_KINDS C_BadRow C_Broken C_Book : Addr}
theorem sc_law : FnScope ["_law_script", "_law_rows_here", "_law_due", "_law_more", "_law_k", "_law_row", "_law_there", "_law_number", "_law_carried"] ["_law_script"] (defScope s_law) := ⟨rfl, rfl, rfl, by decide +kernel, rfl, by decide +kernel, by decide +kernel⟩
set_option maxHeartbeats 4000000 in
theorem ok_law {f : Addr} {fd : FuncData} (F : Fun K "law" "law" s_law f fd) (T : TxtM K mg a_KINDS C_BadRow C_Broken C_Book)
    (c_made : Callee P w K mg base "made" 4 ["rows"] (sp_made C_BadRow C_Broken)) (c__law_cell : Callee P w K mg base "_law_cell" 1 ["_law_script", "_law_k"] (sp_cell K)) (c__law_seed : Callee P w K mg base "_law_seed" 1 ["_law_seed_here", "_law_k"] sp_seed) (c__law_pick : Callee P w K mg base "_law_pick" 1 ["_law_seed_here", "_law_many"] sp_pick) (c__law_rows : Callee P w K mg base "_law_rows" 3 ["_law_seed_here", "_law_many", "_law_spoil"] sp_rows) :
    FnOk P w K mg base (CXE P w) 5 f fd ["_law_script"] (sp_law K) := by
  refine F.okX sc_law (fun vs H Q E h => ?_) (fun cdv A outer s H vs Q E hr h => ?_)
  · obtain ⟨a, ns, rfl, _⟩ := h
    rfl
  · obtain ⟨a, ns, rfl, hs, q⟩ := h
    refine ⟨_, @pss_cons _ _ _ _ _ (@ps_set _ _ (1) _ _ _ _ sc_law.nd (by rfl) (by first | exact Or.inl (by rfl) | exact Or.inr (by rfl)) (@pe_fn _ _ _ _ _ _ _ _ _ _ _ c__law_rows (hr.mono (by decide)) passN (@pa_Call _ _ _ _ _ _ _ _ (@pe_fn _ _ _ _ _ _ _ _ _ _ _ c__law_seed (hr.mono (by decide)) passN (@pa_Call _ _ _ _ _ _ _ _ (@pe_fn _ _ _ _ _ _ _ _ _ _ _ c__law_cell (hr.mono (by decide)) passN (@pa_Name _ _ _ _ _ _ (@pv _ 0 _ _ (by trivial) (by trivial) (by trivial) (by trivial)) (@pa_Constant _ _ _ _ _ _ _ (@pe_int _ _ _ _) (@pa_nil _))) (by trivial) (by trivial) (by trivial) (by trivial)) (@pa_Constant _ _ _ _ _ _ _ (@pe_int _ _ _ _) (@pa_nil _))) (by trivial) (by trivial) (by trivial) (by trivial)) (@pa_Constant _ _ _ _ _ _ _ (@pe_int _ _ _ _) (@pa_Constant _ _ _ _ _ _ _ (@pe_int _ _ _ _) (@pa_nil _)))) (by trivial) (by trivial) (by trivial) (by trivial)) (by trivial) (by trivial)) (@pss_cons _ _ _ _ _ (@ps_set _ _ (2) _ _ _ _ sc_law.nd (by rfl) (by first | exact Or.inl (by rfl) | exact Or.inr (by rfl)) (@pe_fn _ _ _ _ _ _ _ _ _ _ _ c_made (hr.mono (by decide)) passN (@pa_Name _ _ _ _ _ _ (@pv _ 1 _ _ (by trivial) (by trivial) (by trivial) (by trivial)) (@pa_nil _)) (by trivial) (by trivial) (by trivial) (by trivial)) (by trivial) (by trivial)) (@pss_cons _ _ _ _ _ (@ps_set _ _ (3) _ _ _ _ sc_law.nd (by rfl) (by first | exact Or.inl (by rfl) | exact Or.inr (by rfl)) (@pe_lst _ _ _ _ (@pa_nil _)) (by trivial) (by trivial)) (@pss_cons _ _ _ _ _ (@ps_for _ _ _ _ _ _ _ _ (ownB own_cx) (by rfl) (@pi_enumLK _ K _ _ _ _ _ _ _ T.n_enumerate (@pv _ 1 _ _ (by trivial) (by trivial) (by trivial) (by trivial)) (by trivial) (by trivial) (by trivial)) (@pg_tupK _ K _ _ _ (2) _ (@pgs_cons _ _ _ _ _ (@pg_name _ _ (4) _ sc_law.nd (by rfl) (by first | exact Or.inl (by rfl) | exact Or.inr (by rfl)) (by trivial)) (@pgs_cons _ _ _ _ _ (@pg_name _ _ (5) _ sc_law.nd (by rfl) (by first | exact Or.inl (by rfl) | exact Or.inr (by rfl)) (by trivial)) (@pgs_nil _) (by trivial)) (by trivial)) (by trivial) (by trivial) (by trivial) (by trivial)) (@pss_cons _ _ _ _ _ (ps_expr (pe_bmK K PySem.F.plainAttrs_list PySem.F.slot_list_append PySem.F.type_list_append mt_append (pv 3) (pa_Name (pv 5) pa_nil))) (@pss_one _ _ _ (@ps_if _ _ _ _ _ _ _ _ (@PW.pt _ _ _ (@pw_and _ _ _ _ _ _ _ (@pt_cmpR _ _ _ _ _ _ _ _ op_ne (@pe_ix _ _ _ _ _ _ _ (ix_tupK K) (@pv _ 5 _ _ (by trivial) (by trivial) (by trivial) (by trivial)) (@pe_int _ _ _ _) (fun _ _ => rfl)) (@pe_str _ _ _ _) (nomark _)) (@pw_and1 _ _ _ _ (@pt_cmpR _ _ _ _ _ _ _ _ op_eq (@pe_fn _ _ _ _ _ _ _ _ _ _ _ c__law_pick (hr.mono (by decide)) passN (@pa_Call _ _ _ _ _ _ _ _ (@pe_fn _ _ _ _ _ _ _ _ _ _ _ c__law_seed (hr.mono (by decide)) passN (@pa_Call _ _ _ _ _ _ _ _ (@pe_fn _ _ _ _ _ _ _ _ _ _ _ c__law_cell (hr.mono (by decide)) passN (@pa_Name _ _ _ _ _ _ (@pv _ 0 _ _ (by trivial) (by trivial) (by trivial) (by trivial)) (@pa_Constant _ _ _ _ _ _ _ (@pe_int _ _ _ _) (@pa_nil _))) (by trivial) (by trivial) (by trivial) (by trivial)) (@pa_Name _ _ _ _ _ _ (@pv _ 4 _ _ (by trivial) (by trivial) (by trivial) (by trivial)) (@pa_nil _))) (by trivial) (by trivial) (by trivial) (by trivial)) (@pa_Constant _ _ _ _ _ _ _ (@pe_int _ _ _ _) (@pa_nil _))) (by trivial) (by trivial) (by trivial) (by trivial)) (@pe_int _ _ _ _) (nomark _))))) (@pss_cons _ _ _ _ _ (@ps_setc _ _ _ (6) _ _ _ _ _ _ _ _ _ _ _ ["_law_letter"] [] sc_law.nd (by rfl) (by first | exact Or.inl (by rfl) | exact Or.inr (by rfl)) (by rfl) (@pi_listK _ K _ _ _ (@pe_ix _ _ _ _ _ _ _ (ix_tupK K) (@pe_fn _ _ _ _ _ _ _ _ _ _ _ c_made (hr.mono (by decide)) passN (@pa_Name _ _ _ _ _ _ (@pv _ 3 _ _ (by trivial) (by trivial) (by trivial) (by trivial)) (@pa_nil _)) (by trivial) (by trivial) (by trivial) (by trivial)) (@pe_int _ _ _ _) (fun _ _ => rfl)) (by trivial)) (fun C s2 H2 ex => (@pg_name _ _ (0) _ (show List.Nodup (["_law_letter"] : List Str) by decide +kernel) (by rfl) (Or.inl (by rfl)) (by trivial))) (fun C s2 H2 ex => (@pif_nil _)) (fun C s2 H2 ex => (@pe_ix _ _ _ _ _ _ _ (ix_tupK K) (@pv _ 0 _ _ (by trivial) (by trivial) (by trivial) (by trivial)) (@pe_int _ _ _ _) (fun _ _ => rfl))) (by trivial) (by trivial) (by trivial) (by trivial) (by trivial) (by trivial)) (@pss_cons _ _ _ _ _ (@ps_set _ _ (7) _ _ _ _ sc_law.nd (by rfl) (by first | exact Or.inl (by rfl) | exact Or.inr (by rfl)) (@pe_op _ _ _ _ _ _ _ _ op_mod (@pe_fn _ _ _ _ _ _ _ _ _ _ _ c__law_cell (hr.mono (by decide)) passN (@pa_Name _ _ _ _ _ _ (@pv _ 0 _ _ (by trivial) (by trivial) (by trivial) (by trivial)) (@pa_Constant _ _ _ _ _ _ _ (@pe_int _ _ _ _) (@pa_nil _))) (by trivial) (by trivial) (by trivial) (by trivial)) (@pe_int _ _ _ _)) (by trivial) (by trivial)) (@pss_one _ _ _ (@ps_if _ _ _ _ _ _ _ _ (@pt_cmpR _ _ _ _ _ _ _ _ (op_notInK K) (@pv _ 7 _ _ (by trivial) (by trivial) (by trivial) (by trivial)) (@pv _ 6 _ _ (by trivial) (by trivial) (by trivial) (by trivial)) (by rfl)) (@pss_one _ _ _ (ps_expr (pe_bmK K PySem.F.plainAttrs_list PySem.F.slot_list_append PySem.F.type_list_append mt_append (pv 3) (pa_Tuple (pe_tup (pa_Subscript (pe_ix (ix_tupK K) (pe_tup (pa_Constant pe_str (pa_Constant pe_str (pa_Constant pe_str pa_nil)))) (pe_op op_mod (pe_fn c__law_cell (hr.mono (by decide)) passN (pa_Name (pv 0) (pa_Constant pe_int pa_nil))) pe_int) (fun _ _ => rfl)) (pa_Name (pv 7) (pa_Tuple (pe_tup pa_nil) pa_nil)))) pa_nil)))) (@pss_nil _))))) (@pss_nil _)))) (by trivial)) (@pss_cons _ _ _ _ _ (@ps_if _ _ _ _ _ _ _ _ (@pt_cmpR _ _ _ _ _ _ _ _ (op_neD hr.units) (@pe_fn _ _ _ _ _ _ _ _ _ _ _ c_made (hr.mono (by decide)) passN (@pa_Name _ _ _ _ _ _ (@pv _ 3 _ _ (by trivial) (by trivial) (by trivial) (by trivial)) (@pa_nil _)) (by trivial) (by trivial) (by trivial) (by trivial)) (@pv _ 2 _ _ (by trivial) (by trivial) (by trivial) (by trivial)) (nomark _)) (@pss_one _ _ _ (@ps_ret _ _ _ _ (@pe_bl _ _ _ _))) (@pss_nil _)) (@pss_cons _ _ _ _ _ (@ps_setc _ _ _ (8) _ _ _ _ _ _ _ _ _ _ _ ["_law_number", "_law_body", "_law_times"] [] sc_law.nd (by rfl) (by first | exact Or.inl (by rfl) | exact Or.inr (by rfl)) (by rfl) (@pi_listK _ K _ _ _ (@pe_ix _ _ _ _ _ _ _ (ix_tupK K) (@pv _ 2 _ _ (by trivial) (by trivial) (by trivial) (by trivial)) (@pe_int _ _ _ _) (fun _ _ => rfl)) (by trivial)) (fun C s2 H2 ex => (@pg_tupK _ K _ _ _ (3) _ (@pgs_cons _ _ _ _ _ (@pg_name _ _ (0) _ (show List.Nodup (["_law_number", "_law_body", "_law_times"] : List Str) by decide +kernel) (by rfl) (Or.inl (by rfl)) (by trivial)) (@pgs_cons _ _ _ _ _ (@pg_name _ _ (1) _ (show List.Nodup (["_law_number", "_law_body", "_law_times"] : List Str) by decide +kernel) (by rfl) (Or.inl (by rfl)) (by trivial)) (@pgs_cons _ _ _ _ _ (@pg_name _ _ (2) _ (show List.Nodup (["_law_number", "_law_body", "_law_times"] : List Str) by decide +kernel) (by rfl) (Or.inl (by rfl)) (by trivial)) (@pgs_nil _) (by trivial)) (by trivial)) (by trivial)) (by trivial) (by trivial) (by trivial) (by trivial))) (fun C s2 H2 ex => (@pif_nil _)) (fun C s2 H2 ex => (@pe_tup _ _ _ _ _ (@pa_Constant _ _ _ _ _ _ _ (@pe_str _ _ _ _) (@pa_Name _ _ _ _ _ _ (@pv _ 0 _ _ (by trivial) (by trivial) (by trivial) (by trivial)) (@pa_BinOp _ _ _ _ _ _ _ _ (@pe_op _ _ _ _ _ _ _ _ op_cat2 (@pe_tup _ _ _ _ _ (@pa_Call _ _ _ _ _ _ _ _ (@pe_callB _ _ _ _ _ _ _ _ _ (call_min2 (by rfl)) (by rfl) T.n_min bt_min (@pa_Name _ _ _ _ _ _ (@pv _ 2 _ _ (by trivial) (by trivial) (by trivial) (by trivial)) (@pa_Constant _ _ _ _ _ _ _ (@pe_int _ _ _ _) (@pa_nil _))) (by trivial) (by trivial) (by trivial) (by trivial)) (@pa_nil _))) (@pv _ 1 _ _ (by trivial) (by trivial) (by trivial) (by trivial))) (@pa_nil _)))))) (by trivial) (by trivial) (by trivial) (by trivial) (by trivial) (by trivial)) (@pss_cons _ _ _ _ _ (@ps_if _ _ _ _ _ _ _ _ (@PW.pt _ _ _ (@pw_and _ _ _ _ _ _ _ (@pt_cmpR _ _ _ _ _ _ _ _ (op_eqD hr.units) (@pe_comp _ _ _ _ _ _ _ _ _ _ _ ["_law_letter"] [] (by rfl) (@pi_listK _ K _ _ _ (@pe_ix _ _ _ _ _ _ _ (ix_tupK K) (@pv _ 2 _ _ (by trivial) (by trivial) (by trivial) (by trivial)) (@pe_int _ _ _ _) (fun _ _ => rfl)) (by trivial)) (fun C s2 H2 ex => (@pg_name _ _ (0) _ (show List.Nodup (["_law_letter"] : List Str) by decide +kernel) (by rfl) (Or.inl (by rfl)) (by trivial))) (fun C s2 H2 ex => (@pif_one _ _ _ (@pt_cmpR _ _ _ _ _ _ _ _ op_gt (@pe_ix _ _ _ _ _ _ _ (ix_tupK K) (@pv _ 0 _ _ (by trivial) (by trivial) (by trivial) (by trivial)) (@pe_int _ _ _ _) (fun _ _ => rfl)) (@pe_int _ _ _ _) (nomark _)))) (fun C s2 H2 ex => (@pv _ 0 _ _ (by trivial) (by trivial) (by trivial) (by trivial))) (by trivial) (by trivial) (by trivial) (by trivial)) (@pe_lst _ _ _ _ (@pa_nil _)) (nomark _)) (@pw_and1 _ _ _ _ (@pt_cmpR _ _ _ _ _ _ _ _ (op_neD hr.units) (@pe_fn _ _ _ _ _ _ _ _ _ _ _ c_made (hr.mono (by decide)) passN (@pa_BinOp _ _ _ _ _ _ _ _ (@pe_op _ _ _ _ _ _ _ _ op_cat (@pv _ 1 _ _ (by trivial) (by trivial) (by trivial) (by trivial)) (@pv _ 8 _ _ (by trivial) (by trivial) (by trivial) (by trivial))) (@pa_nil _)) (by trivial) (by trivial) (by trivial) (by trivial)) (@pv _ 2 _ _ (by trivial) (by trivial) (by trivial) (by trivial)) (nomark _))))) (@pss_one _ _ _ (@ps_ret _ _ _ _ (@pe_bl _ _ _ _))) (@pss_nil _)) (@pss_one _ _ _ (@ps_ret _ _ _ _ (@pe_and _ _ _ _ _ _ _ (@pe_cmpR _ _ _ _ _ _ _ _ (op_eqD hr.units) (@pe_fn _ _ _ _ _ _ _ _ _ _ _ c_made (hr.mono (by decide)) passN (@pa_BinOp _ _ _ _ _ _ _ _ (@pe_op _ _ _ _ _ _ _ _ op_cat (@pv _ 1 _ _ (by trivial) (by trivial) (by trivial) (by trivial)) (@pe_lst _ _ _ _ (@pa_Tuple _ _ _ _ _ _ _ (@pe_tup _ _ _ _ _ (@pa_Constant _ _ _ _ _ _ _ (@pe_str _ _ _ _) (@pa_Subscript _ _ _ _ _ _ _ (@pe_ix _ _ _ _ _ _ _ (ix_tupK K) (@pv _ 2 _ _ (by trivial) (by trivial) (by trivial) (by trivial)) (@pe_int _ _ _ _) (fun _ _ => rfl)) (@pa_Tuple _ _ _ _ _ _ _ (@pe_tup _ _ _ _ _ (@pa_nil _)) (@pa_nil _))))) (@pa_Tuple _ _ _ _ _ _ _ (@pe_tup _ _ _ _ _ (@pa_Constant _ _ _ _ _ _ _ (@pe_str _ _ _ _) (@pa_Constant _ _ _ _ _ _ _ (@pe_int _ _ _ _) (@pa_Tuple _ _ _ _ _ _ _ (@pe_tup _ _ _ _ _ (@pa_nil _)) (@pa_nil _))))) (@pa_nil _))))) (@pa_nil _)) (by trivial) (by trivial) (by trivial) (by trivial)) (@pv _ 2 _ _ (by trivial) (by trivial) (by trivial) (by trivial)) (nomark _)) (@pe_one _ _ _ _ _ (@pe_cmpR _ _ _ _ _ _ _ _ (op_eqD hr.units) (@pe_fn _ _ _ _ _ _ _ _ _ _ _ c_made (hr.mono (by decide)) passN (@pa_List _ _ _ _ _ _ (@pe_lst _ _ _ _ (@pa_nil _)) (@pa_nil _)) (by trivial) (by trivial) (by trivial) (by trivial)) (@pe_tup _ _ _ _ _ (@pa_List _ _ _ _ _ _ (@pe_lst _ _ _ _ (@pa_nil _)) (@pa_Constant _ _ _ _ _ _ _ (@pe_int _ _ _ _) (@pa_nil _)))) (nomark _)))))))))))), ?_⟩
    refine ⟨_, rfl, a, ns, 0, rfl, by decide, hs, _, 0, rfl, _, 0, rfl, by decide, fun p1 H1 S1 hp1 d1 => ?_⟩
    obtain ⟨rok, rlen⟩ := rows_ok (seedF (ns.getD (Int.toNat 0) 0) 0) 0
    obtain ⟨Bf, hf, hfp, Bok, up9, up0⟩ := rows_fold (seedF (ns.getD (Int.toNat 0) 0) 0)
    generalize rowsF (seedF (ns.getD (Int.toNat 0) 0) 0) 20 0 = rs at d1 rok rlen hf
    have fsz : ∀ {rs' : List Rw} {B' : Bk}, foldB 0 B0 rs' = some B' → B'.es.length ≤ rs'.length := fun {rs' B'} h => by
      have := fold_size h
      have : B'.es.length + B'.parts.length ≤ 0 + 0 + rs'.length := this
      omega
    refine ⟨_, rfl, nil_go (made_call d1 rok (by omega) hf hfp fun ms perm pw pd H2 S2 dd => ?_)⟩
    have lms : ms.length ≤ 101 := by
      have h1 := perm.length_eq
      rw [List.length_map] at h1
      have := fsz hf
      omega
    obtain ⟨sh1, sh2⟩ := made_shaped Bf.es ms Bf.up
    have dr2 := d1.same S2
    have hs2 := (S1.trans S2).seq hs
    clear d1 hs hp1
    have dr3 := dr2
    simp only [Den] at dr3
    obtain ⟨_, xs1, e1, g1, dx1⟩ := dr3
    cases e1
    have lx1 := dx1.length
    rw [List.length_map] at lx1
    refine ⟨le_size, fun pm hpm => ?_⟩
    have S3 := same_upd (o := .lst []) hpm
    have I3 : InvG H2 (upd H2 pm (.lst [])) pm [] := ⟨S3, hpm, [], upd_same, by simp [Dens]⟩
    generalize upd H2 pm (.lst []) = H3 at S3 I3 ⊢
    refine ⟨_, rfl, p1, _, rfl, SqL.of (S3 _ _ g1), ?_⟩
    refine for_src0 (src_enumL (K := K) (SqL.of g1)) (fun i σ H' => ∃ more B z4 z5 z6 z7, InvG H2 H' pm more ∧ (∀ r ∈ more, isRowD (rowR r) = true) ∧ more.length ≤ 2 * i ∧ foldB 0 B0 (rs.take i) = some B ∧ foldB 0 B0 more = some B ∧ σ = [some (.ref a), some (.ref p1), some (.ref pd), some (.ref pm), z4, z5, z6, z7, none]) ⟨[], B0, _, _, _, _, I3, (fun r hr => by cases hr), Nat.le_refl _, rfl, rfl, rfl⟩ (fun i σ H' h => by obtain ⟨_, _, _, _, _, _, I, _⟩ := h; exact I.same) ?_ ?_
    · rintro i x σ H4 H5 hi ⟨more, B, z4, z5, z6, z7, I4, mok, mlen, f1, f2, rfl⟩ s5 ⟨pe, v, rfl, hpe, hv⟩
      have I5 := I4.go s5
      obtain ⟨d, hd, dn⟩ := dx1.get hv
      rw [List.getElem?_map] at hd
      cases e : rs[i]? with
      | none => rw [e] at hd; cases hd
      | some r =>
        rw [e] at hd
        cases (Option.some.inj hd : rowR r = d)
        obtain ⟨t, b, rfl, gt, gb⟩ := row_form dn
        have rr := rok r (List.mem_of_getElem? e)
        obtain ⟨B', f1'⟩ := fold_pre hf (i + 1)
        have f1'' := f1'
        rw [take_snoc e, fold_snoc f1] at f1''
        have f2' : foldB 0 B0 (more ++ [r]) = some B' := by rw [fold_snoc f2]; exact f1''
        have lB := fsz f1'
        rw [List.length_take] at lB
        refine ⟨pe, _, rfl, SqT.of hpe, rfl, _, _, rfl, _, _, rfl, rfl, ?_⟩
        obtain ⟨xs, gx, dx⟩ := id I5.lst
        have lx := dx.length
        rw [List.length_map] at lx
        refine ⟨_, rfl, .inl ⟨rfl, _, SqL.of gx⟩, _, rfl, pm, xs, _, rfl, rfl, gx, Nat.lt_of_le_of_lt (show xs.length ≤ 300 by omega) (by decide), ?_⟩
        have I6 := I5.app gx (dn.same I5.same)
        generalize upd H5 pm (.lst (xs ++ [.ref t])) = H6 at I6 ⊢
        have mok' : ∀ r' ∈ more ++ [r], isRowD (rowR r') = true := fun r' h => by
          rcases List.mem_append.mp h with z | z
          · exact mok r' z
          · rw [List.mem_singleton.mp z]; exact rr
        have mlen' : (more ++ [r]).length ≤ 2 * i + 1 := by rw [List.length_append, List.length_singleton]; omega
        have gt6 := I6.same _ _ gt
        refine ⟨_, rfl, t, _, _, .str r.1, rfl, rfl, SqT.of gt6, atI_pos (by decide) rfl, rfl, _, rfl, ?_⟩
        dsimp only
        by_cases hk : r.1 = "part"
        · rw [dstr_eq hk]
          refine iteF (iteF (go_next rfl ?_))
          exact ⟨_, B', _, _, _, _, I6, mok', by omega, f1', f2', rfl⟩
        rw [dstr_ne hk]
        refine iteT ?_
        have hs6 := I6.same.seq hs2
        refine ⟨_, rfl, a, ns, 1, rfl, by decide, hs6, _, rfl, _, _, rfl, _, 3, rfl, by decide, rfl, _, rfl, ?_⟩
        dsimp only
        by_cases hq : pickF (seedF (ns.getD (Int.toNat 1) 0) (i : Int)) 3 = 0
        case neg =>
          rw [dint_ne hq]
          refine iteF (go_next rfl ?_)
          exact ⟨_, B', _, _, _, _, I6, mok', by omega, f1', f2', rfl⟩
        rw [decide_eq_true (show V.int (pickF (seedF (ns.getD (Int.toNat 1) 0) (i : Int)) 3) = V.int 0 by rw [hq])]
        refine iteT ?_
        have hbp := enter_parts f1'' hk
        obtain ⟨xs6, gx6, dx6⟩ := id I6.lst
        have dm6 : Den H6 (.list ((more ++ [r]).map rowR)) (.ref pm) := by
          simp only [Den]
          exact ⟨pm, xs6, rfl, gx6, dx6⟩
        refine ⟨_, rfl, nil_go (made_call dm6 mok' (by omega) f2' hbp fun ms7 perm7 pw7 p7 H7 S7 dn7 => ?_)⟩
        obtain ⟨pL, ys7, g7, gL, dL⟩ := made_form dn7
        have ly := dL.length
        rw [List.length_map] at ly
        have lm7 : ms7.length ≤ 101 := by
          have h1 := perm7.length_eq
          rw [List.length_map] at h1
          omega
        refine ⟨p7, _, _, .ref pL, rfl, rfl, SqT.of g7, atI_pos (by decide) rfl, pL, rfl, ⟨_, SqL.of gL⟩, ?_⟩
        refine comp_src (src_list (K := K) (SqL.of gL)) (by rw [ly]; exact Nat.le_trans lm7 (by decide)) (fun i y H' => ∃ n, ms7[i]? = some n ∧ y = .int n) (fun i y H1 H2 s h => h) (fun σ => ∃ z, σ = [z]) ?z0 ?_ ?_
        case z0 => exact ⟨none, rfl⟩
        · intro j x σc H8 hj hσ s8 hx Q' hQ'
          obtain ⟨z, rfl⟩ := hσ
          obtain ⟨dj, hdj, dnj⟩ := dL.get hx
          rw [List.getElem?_map] at hdj
          cases ej : ms7[j]? with
          | none => rw [ej] at hdj; cases hdj
          | some n =>
            rw [ej] at hdj
            cases (Option.some.inj hdj : letF B'.es n = dj)
            obtain ⟨tj, bj, rfl, gtj, gbj⟩ := let_form dnj
            exact ⟨_, rfl, tj, _, _, .int n, rfl, rfl, SqT.of (s8 _ _ gtj), atI_pos (by decide) rfl, hQ' _ _ _ ⟨_, rfl⟩ (Same.refl _) ⟨n, ej, rfl⟩⟩
        intro D ys8 H8 hD S8 gD hlen hR
        have ey : ys8 = ms7.map V.int := by
          apply List.ext_getElem?
          intro j
          cases ej : ys8[j]? with
          | none =>
            have h1 := List.getElem?_eq_none_iff.mp ej
            rw [List.getElem?_eq_none_iff.mpr]
            rw [List.length_map]
            omega
          | some y =>
            obtain ⟨n, e1, rfl⟩ := hR j y ej
            rw [List.getElem?_map, e1]
            rfl
        subst ey
        have I8 := I6.go (S7.trans S8)
        have hs8 := I8.same.seq hs2
        have n0 := Int.emod_nonneg (ns.getD (Int.toNat 2) 0) (show (40 : Int) ≠ 0 by decide)
        have n40 := Int.emod_lt_of_pos (ns.getD (Int.toNat 2) 0) (show (0 : Int) < 40 by decide)
        refine ⟨_, rfl, a, ns, 2, rfl, by decide, hs8, _, _, rfl, rfl, (by show (0 : Int) < 40; decide), ?_⟩
        refine ⟨_, rfl, _, rfl, D, _, rfl, .inl (SqL.of gD), rfl, flat_ints _, _, rfl, ?_⟩
        rw [inV_ints]
        by_cases hin : ns.getD (Int.toNat 2) 0 % 40 ∈ ms7
        · rw [decide_eq_true hin]
          refine iteF (go_next rfl ?_)
          exact ⟨_, B', _, _, _, _, I8, mok', by omega, f1', f2', rfl⟩
        rw [decide_eq_false hin]
        refine iteT ?_
        obtain ⟨xs8, gx8, dx8⟩ := id I8.lst
        have k0 := Int.emod_nonneg (ns.getD (Int.toNat 3) 0) (show (3 : Int) ≠ 0 by decide)
        have k3 := Int.emod_lt_of_pos (ns.getD (Int.toNat 3) 0) (show (0 : Int) < 3 by decide)
        refine ⟨_, rfl, .inl ⟨rfl, _, SqL.of gx8⟩, le_size, fun p9 hp9 => ?_⟩
        have T9 := same_upd (o := .tup [V.str "out", V.str "done", V.str "new"]) hp9
        have t9 : upd H8 p9 (.tup [V.str "out", V.str "done", V.str "new"]) p9 = some (.tup [V.str "out", V.str "done", V.str "new"]) := upd_same
        generalize upd H8 p9 (.tup [V.str "out", V.str "done", V.str "new"]) = H9 at T9 t9 ⊢
        have I9 := I8.go T9
        refine ⟨_, rfl, a, ns, 3, rfl, by decide, I9.same.seq hs2, _, _, rfl, rfl, (by show (0 : Int) < 3; decide), p9, _, _, .str (oddT (ns.getD (Int.toNat 3) 0)), rfl, rfl, SqT.of t9, atI_pos k0 ?_, _, rfl, le_size, fun pa hpa => ⟨le_size, fun pb hpb => ?_⟩⟩
        · unfold oddT
          have : ns.getD (Int.toNat 3) 0 % 3 = 0 ∨ ns.getD (Int.toNat 3) 0 % 3 = 1 ∨ ns.getD (Int.toNat 3) 0 % 3 = 2 := by omega
          rcases this with z | z | z <;> rw [z] <;> rfl
        have Ta := same_upd (o := .tup []) hpa
        have ta : upd H9 pa (.tup []) pa = some (.tup (([] : List Int).map V.int)) := upd_same
        generalize upd H9 pa (.tup []) = Ha at Ta ta hpb ⊢
        have Tb := same_upd (o := .tup [.str (oddT (ns.getD (Int.toNat 3) 0)), .int (ns.getD (Int.toNat 2) 0 % 40), .ref pa]) hpb
        have tb : upd Ha pb (.tup [.str (oddT (ns.getD (Int.toNat 3) 0)), .int (ns.getD (Int.toNat 2) 0 % 40), .ref pa]) pb = some (.tup [.str (oddT (ns.getD (Int.toNat 3) 0)), .int (ns.getD (Int.toNat 2) 0 % 40), .ref pa]) := upd_same
        generalize upd Ha pb (.tup [.str (oddT (ns.getD (Int.toNat 3) 0)), .int (ns.getD (Int.toNat 2) 0 % 40), .ref pa]) = Hb at Tb tb ⊢
        have S8b := T9.trans (Ta.trans Tb)
        have Ib := I8.go S8b
        have gxb := S8b _ _ gx8
        have lx8 := dx8.length
        rw [List.length_map] at lx8
        refine ⟨pm, xs8, _, rfl, rfl, gxb, Nat.lt_of_le_of_lt (show xs8.length ≤ 300 by omega) (by decide), ?_⟩
        refine go_next rfl ?_
        have Ic := Ib.app gxb (row_mk (r := (oddT (ns.getD (Int.toNat 3) 0), ns.getD (Int.toNat 2) 0 % 40, [])) tb (Tb _ _ ta))
        refine ⟨_, B', _, _, _, _, Ic, fun r' h => ?_, ?_, f1', ?_, rfl⟩
        · rcases List.mem_append.mp h with z | z
          · exact mok' r' z
          · rw [List.mem_singleton.mp z]
            exact oddT_row n0 (by omega)
        · rw [List.length_append, List.length_singleton]
          omega
        · rw [fold_snoc f2']
          exact enter_none hbp (oddT_in _) fun z => hin (perm7.mem_iff.mpr z)
    · rintro σ L ⟨more, B, z4, z5, z6, z7, I4, mok, mlen, f1, f2, rfl⟩
      rw [lx1, List.take_length, hf] at f1
      cases f1
      obtain ⟨xsm, gxm, dxm⟩ := id I4.lst
      have dm : Den L (.list (more.map rowR)) (.ref pm) := by
        simp only [Den]
        exact ⟨pm, xsm, rfl, gxm, dxm⟩
      refine ⟨_, rfl, nil_go (made_call dm mok (by omega) f2 hfp fun ms5 perm5 pw5 p5 H5 S5 dn5 => ?_)⟩
      have em : ms5 = ms := sortedI_one (perm5.trans perm.symm) pw5 pw
      subst em
      have S25 := I4.same.trans S5
      refine ⟨_, rfl, madeD Bf.es ms5 Bf.up, madeD Bf.es ms5 Bf.up, dn5, dd.same S25, sh1, sh1, _, rfl, ?_⟩
      rw [sh2]
      refine iteF (go_next rfl ?_)
      have dd5 := dd.same S25
      obtain ⟨pL, ys, gd, gL, dL⟩ := made_form dd5
      have ly := dL.length
      rw [List.length_map] at ly
      have hlook : ∀ {j : Nat} {n : Int}, ms5[j]? = some n → ∃ en, lookE Bf.es n = some en := fun {j n} h => lookE_in (perm.mem_iff.mp (List.mem_of_getElem? h))
      refine ⟨_, rfl, pd, _, _, .ref pL, rfl, rfl, SqT.of gd, atI_pos (by decide) rfl, pL, rfl, ⟨_, SqL.of gL⟩, ?_⟩
      refine comp_src (src_list (K := K) (SqL.of gL)) (by rw [ly]; exact Nat.le_trans lms (by decide)) (fun j y H' => ∃ n, ms5[j]? = some n ∧ Den H' (rowR (carR Bf.es n)) y) (fun i y H1 H2 s h => by obtain ⟨n, e, h⟩ := h; exact ⟨n, e, h.n s (rrow_tup _)⟩) (fun σ => ∃ z1 z2 z3, σ = [z1, z2, z3]) ?z0 ?_ ?_
      case z0 => exact ⟨none, none, none, rfl⟩
      · intro j x σc H6 hj hσ s6 hx Q' hQ'
        obtain ⟨z1, z2, z3, rfl⟩ := hσ
        obtain ⟨dj, hdj, dnj⟩ := dL.get hx
        rw [List.getElem?_map] at hdj
        cases ej : ms5[j]? with
        | none => rw [ej] at hdj; cases hdj
        | some n =>
          rw [ej] at hdj
          cases (Option.some.inj hdj : letF Bf.es n = dj)
          obtain ⟨en, hen⟩ := hlook ej
          unfold letF at dnj
          rw [hen] at dnj
          obtain ⟨tj, bj, rfl, gtj, gbj⟩ := let_form dnj
          dsimp only [Option.getD] at gtj gbj
          obtain ⟨a1, a2, a3, a4, a5, a6⟩ := Bok.es _ (lookE_mem hen)
          have a5 : en.1.length ≤ 60 := a5
          refine ⟨tj, _, rfl, SqT.of (s6 _ _ gtj), rfl, _, _, rfl, _, _, rfl, _, _, rfl, rfl, ?_⟩
          refine ⟨_, rfl, _, rfl, _, 9, rfl, le_size, fun p7 hp7 => ?_⟩
          have T7 := same_upd (o := .tup [.int (if 9 < en.2.1 then 9 else en.2.1)]) hp7
          have t7 : upd H6 p7 (.tup [.int (if 9 < en.2.1 then 9 else en.2.1)]) p7 = some (.tup ([if 9 < en.2.1 then 9 else en.2.1].map V.int)) := upd_same
          refine ⟨_, rfl, p7, bj, _, _, rfl, rfl, t7, T7 _ _ (s6 _ _ gbj), ?_, fun pc H8 S8 gc => ⟨le_size, fun p9 hp9 => ?_⟩⟩
          · rw [List.length_map, List.length_map]
            exact Nat.le_trans (show _ ≤ 100 by show 1 + _ ≤ 100; omega) (by decide)
          rw [← List.map_append] at gc
          have T9 := same_upd (o := .tup [.str "carried", .int n, .ref pc]) hp9
          refine hQ' _ _ _ ⟨_, _, _, rfl⟩ (T7.trans (S8.trans T9)) ⟨n, ej, ?_⟩
          refine row_mk (r := carR Bf.es n) (b := pc) ?_ ?_
          · exact upd_same
          · rw [T9 _ _ gc]
            unfold carR
            rw [hen]
            rfl
      intro Dc yc H6 hDc S6 gDc hlc hRc
      have dc : Dens H6 ((ms5.map (carR Bf.es)).map rowR) yc := dens_of (by rw [List.length_map, List.length_map, hlc, ly]) fun j y e => by
        obtain ⟨n, e1, e2⟩ := hRc j y e
        exact ⟨_, by rw [List.getElem?_map, List.getElem?_map, e1]; rfl, e2⟩
      have S26 := S25.trans S6
      have gd6 := S6 _ _ gd
      have gL6 := S6 _ _ gL
      have dL6 := dL.same S6
      have times : ∀ {j : Nat} {n : Int}, ms5[j]? = some n → ∃ en t b, lookE Bf.es n = some en ∧ ys[j]? = some (.ref t) ∧ H6 t = some (.tup [.int n, .ref b, .int en.2.1]) := fun {j n} h => by
        obtain ⟨en, hen⟩ := hlook h
        have hj : j < ys.length := by rw [ly]; exact (List.getElem?_eq_some_iff.mp h).1
        have ey : ys[j]? = some ys[j] := List.getElem?_eq_getElem hj
        obtain ⟨dj, hdj, dnj⟩ := dL6.get ey
        rw [List.getElem?_map, h] at hdj
        cases (Option.some.inj hdj : letF Bf.es n = dj)
        unfold letF at dnj
        rw [hen] at dnj
        obtain ⟨tj, bj, e1, gtj, gbj⟩ := let_form dnj
        exact ⟨en, tj, bj, hen, by rw [ey, e1], gtj⟩
      refine ⟨_, rfl, pd, _, _, .ref pL, rfl, rfl, SqT.of gd6, atI_pos (by decide) rfl, pL, rfl, ⟨_, SqL.of gL6⟩, ?_⟩
      refine comp_flt (src_list (K := K) (SqL.of gL6)) (by rw [ly]; exact Nat.le_trans lms (by decide)) (fun j => decide (9 < ((lookE Bf.es (ms5.getD j 0)).getD ([], 0, 0)).2.1)) (fun j => ys.getD j .non) (fun σ => ∃ z, σ = [z]) ?z02 ?_ ?_
      case z02 => exact ⟨none, rfl⟩
      · intro j x σc H7 hj hσ s7 hx Q1 Q2 Q3 h2 h3
        obtain ⟨z, rfl⟩ := hσ
        have hjm : j < ms5.length := by rw [← ly]; exact hj
        have ej : ms5[j]? = some ms5[j] := List.getElem?_eq_getElem hjm
        have eg : ms5.getD j 0 = ms5[j] := by rw [List.getD_eq_getElem?_getD, ej]; rfl
        obtain ⟨en, tj, bj, hen, ey, gtj⟩ := times ej
        rw [hx] at ey
        cases ey
        have eyg : ys.getD j .non = .ref tj := by rw [List.getD_eq_getElem?_getD, hx]; rfl
        rw [eg, hen] at h2 h3
        rw [eyg] at h2
        refine ⟨_, rfl, tj, _, _, .int en.2.1, rfl, rfl, SqT.of (s7 _ _ gtj), atI_pos (by decide) rfl, _, _, rfl, rfl, _, rfl, ?_⟩
        by_cases ht : 9 < en.2.1
        · show if decide (9 < en.2.1) = true then _ else _
          rw [if_pos (decide_eq_true ht)]
          exact ⟨_, rfl, h2 _ ⟨_, rfl⟩ (decide_eq_true ht)⟩
        · show if decide (9 < en.2.1) = true then _ else _
          rw [if_neg (by rw [decide_eq_true_eq]; exact ht)]
          exact h3 _ ⟨_, rfl⟩ (decide_eq_false ht)
      intro D7 H7 hD7 S7 g7
      generalize hidx : (List.range ys.length).filter (fun j => decide (9 < ((lookE Bf.es (ms5.getD j 0)).getD ([], 0, 0)).2.1)) = idx at g7
      have hmem : ∀ j ∈ idx, j < ms5.length := fun j hj => by
        rw [← hidx, List.mem_filter, List.mem_range] at hj
        omega
      refine ⟨le_size, fun pz hpz => ?_⟩
      have T8 := same_upd (o := .lst []) hpz
      have t8 : upd H7 pz (.lst []) pz = some (.lst []) := upd_same
      generalize upd H7 pz (.lst []) = H8 at T8 t8 ⊢
      have d8 : Den H8 (.list (idx.map fun j => letF Bf.es (ms5.getD j 0))) (.ref D7) := by
        simp only [Den]
        refine ⟨D7, _, rfl, T8 _ _ g7, dens_of (by rw [List.length_map, List.length_map]) fun j y e => ?_⟩
        rw [List.getElem?_map, Option.map_eq_some_iff] at e
        obtain ⟨k, hk, rfl⟩ := e
        have hkm := hmem k (List.mem_of_getElem? hk)
        have hky : k < ys.length := by omega
        refine ⟨letF Bf.es (ms5.getD k 0), by rw [List.getElem?_map, hk]; rfl, ?_⟩
        have ey : ys[k]? = some ys[k] := List.getElem?_eq_getElem hky
        obtain ⟨dk, hdk, dnk⟩ := dL6.get ey
        rw [List.getElem?_map, List.getElem?_eq_getElem hkm] at hdk
        cases (Option.some.inj hdk : letF Bf.es ms5[k] = dk)
        rw [List.getD_eq_getElem?_getD, List.getD_eq_getElem?_getD, List.getElem?_eq_getElem hkm, ey]
        exact dnk.same (S7.trans T8)
      have sq : seqD (.list (idx.map fun j => letF Bf.es (ms5.getD j 0))) = true := by
        simp only [seqD]
        exact seqs_all fun d hd => by
          rw [List.mem_map] at hd
          obtain ⟨n, _, rfl⟩ := hd
          exact seq_let _ _
      have dp : PyData.depth (.list (idx.map fun j => letF Bf.es (ms5.getD j 0))) ≤ 64 := by
        show PyData.depthAll _ + 1 ≤ 64
        have := depths_le (n := 2) (ds := idx.map fun j => letF Bf.es (ms5.getD j 0)) (fun d hd => by
          rw [List.mem_map] at hd
          obtain ⟨n, _, rfl⟩ := hd
          exact depth_let _ _)
        omega
      refine ⟨_, .list [], d8, by simp only [Den]; exact ⟨pz, [], rfl, t8, by simp [Dens]⟩, shaped_of sq dp, by decide +kernel, _, rfl, ?_⟩
      have S28 := S26.trans (S7.trans T8)
      have fin : ∀ H9, Same H2 H9 → tRet (tAndV (tOp rEqD (tFn (sp_made C_BadRow C_Broken) E0 (tCons (tOp rCat (tVar 1) (tLst (tCons (tTup (tCons (tC (V.str "from")) (tCons (tOp (rIxT K) (tVar 2) (tC (V.int 1))) (tCons (tTup tNil) tNil)))) (tCons (tTup (tCons (tC (V.str "done")) (tCons (tC (V.int 999999)) (tCons (tTup tNil) tNil)))) tNil)))) tNil)) (tVar 2)) (tOp rEqD (tFn (sp_made C_BadRow C_Broken) E0 (tCons (tLst tNil) tNil)) (tTup (tCons (tLst tNil) (tCons (tC (V.int 0)) tNil))))) ({ nx := fun _ H' => Q V.non H', rt := Q } : Ends) [some (.ref a), some (.ref p1), some (.ref pd), some (.ref pm), z4, z5, z6, z7, some (.ref Dc)] H9 := by
        intro H9 S29
        obtain ⟨pL9, _, gd9, _, _⟩ := made_form (dd.same S29)
        refine ⟨_, rfl, _, rfl, pd, _, _, .int Bf.up, rfl, rfl, SqT.of gd9, atI_pos (by decide) rfl, le_size, fun q1 hq1 => ⟨le_size, fun q2 hq2 => ⟨le_size, fun q3 hq3 => ⟨le_size, fun q4 hq4 => ⟨le_size, fun q5 hq5 => ?_⟩⟩⟩⟩⟩
        have T1 := same_upd (o := .tup []) hq1
        have t1 : upd H9 q1 (.tup []) q1 = some (.tup (([] : List Int).map V.int)) := upd_same
        generalize upd H9 q1 (.tup []) = J1 at T1 t1 hq2 hq3 hq4 hq5 ⊢
        have T2 := same_upd (o := .tup [V.str "from", V.int Bf.up, .ref q1]) hq2
        have t2 : upd J1 q2 (.tup [V.str "from", V.int Bf.up, .ref q1]) q2 = some (.tup [V.str "from", V.int Bf.up, .ref q1]) := upd_same
        generalize upd J1 q2 (.tup [V.str "from", V.int Bf.up, .ref q1]) = J2 at T2 t2 hq3 hq4 hq5 ⊢
        have T3 := same_upd (o := .tup []) hq3
        have t3 : upd J2 q3 (.tup []) q3 = some (.tup (([] : List Int).map V.int)) := upd_same
        generalize upd J2 q3 (.tup []) = J3 at T3 t3 hq4 hq5 ⊢
        have T4 := same_upd (o := .tup [V.str "done", V.int 999999, .ref q3]) hq4
        have t4 : upd J3 q4 (.tup [V.str "done", V.int 999999, .ref q3]) q4 = some (.tup [V.str "done", V.int 999999, .ref q3]) := upd_same
        generalize upd J3 q4 (.tup [V.str "done", V.int 999999, .ref q3]) = J4 at T4 t4 hq5 ⊢
        have T5 := same_upd (o := .lst [.ref q2, .ref q4]) hq5
        have t5 : upd J4 q5 (.lst [.ref q2, .ref q4]) q5 = some (.lst [.ref q2, .ref q4]) := upd_same
        generalize upd J4 q5 (.lst [.ref q2, .ref q4]) = J5 at T5 t5 ⊢
        have S45 := T5
        have S35 := T4.trans S45
        have S25' := T3.trans S35
        have S15 := T2.trans S25'
        have S05 := T1.trans S15
        have S2J := S29.trans S05
        refine ⟨p1, q5, xs1, _, rfl, rfl, S2J _ _ g1, t5, Nat.le_trans (show _ ≤ 110 by show xs1.length + 2 ≤ 110; omega) (by decide), fun q6 hq6 => ?_⟩
        have T6 := same_upd (o := .lst (xs1 ++ [.ref q2, .ref q4])) hq6
        have t6 : upd J5 q6 (.lst (xs1 ++ [.ref q2, .ref q4])) q6 = some (.lst (xs1 ++ [.ref q2, .ref q4])) := upd_same
        generalize upd J5 q6 (.lst (xs1 ++ [.ref q2, .ref q4])) = J6 at T6 t6 ⊢
        have dl : Den J6 (.list ((rs ++ lastR Bf.up).map rowR)) (.ref q6) := by
          simp only [Den]
          refine ⟨q6, _, rfl, t6, ?_⟩
          rw [List.map_append]
          refine (dx1.same (S2J.trans T6)).app ?_
          have e1 : Den J6 (rowR ("from", Bf.up, [])) (.ref q2) := (row_mk (r := ("from", Bf.up, [])) (S25' _ _ t2) (S15 _ _ t1)).same T6
          have e2 : Den J6 (rowR ("done", 999999, [])) (.ref q4) := (row_mk (r := ("done", 999999, [])) (S45 _ _ t4) (S35 _ _ t3)).same T6
          exact (dens_one e1).app (dens_one e2)
        have fl : foldB 0 B0 (rs ++ lastR Bf.up) = some Bf := by
          rw [fold_app, hf]
          exact last_fold Bok hfp up9
        refine nil_go (made_call dl (fun r h => ?_) (by rw [List.length_append]; show rs.length + 2 < 800; omega) fl hfp fun ms7 perm7 pw7 p7 J7 S7 dn7 => ?_)
        · rcases List.mem_append.mp h with z | z
          · exact rok r z
          · rcases List.mem_cons.mp z with z | z
            · rw [z]
              exact row_ok (k := "from") (n := Bf.up) (ns := []) (fits_odd (by simp)).2 up0 (by omega) (fun b hb => by cases hb) (fits_odd (by simp)).1
            · rw [List.mem_singleton.mp z]
              exact row_ok (k := "done") (n := 999999) (ns := []) (fits_odd (by simp)).2 (by decide) (by decide) (fun b hb => by cases hb) (fits_odd (by simp)).1
        have em : ms7 = ms5 := sortedI_one (perm7.trans perm.symm) pw7 pw
        subst em
        refine ⟨_, rfl, madeD Bf.es ms7 Bf.up, madeD Bf.es ms7 Bf.up, dn7, dd.same (S2J.trans (T6.trans S7)), sh1, sh1, ?_⟩
        rw [sh2]
        refine ⟨_, rfl, iteT ?_⟩
        refine ⟨le_size, fun pe hpe => ?_⟩
        have Ta := same_upd (o := .lst []) hpe
        have ta : upd J7 pe (.lst []) pe = some (.lst []) := upd_same
        generalize upd J7 pe (.lst []) = J8 at Ta ta ⊢
        have de : Den J8 (.list (([] : List Rw).map rowR)) (.ref pe) := by
          simp only [Den]
          exact ⟨pe, [], rfl, ta, by simp [Dens]⟩
        refine nil_go (made_call (B := B0) de (fun r h => by cases h) (by decide) rfl rfl fun ms9 perm9 pw9 p9 J9 S9 dn9 => ?_)
        have em : ms9 = [] := List.Perm.eq_nil perm9
        subst em
        refine ⟨le_size, fun pl hpl => ⟨le_size, fun pt hpt => ?_⟩⟩
        have Tb := same_upd (o := .lst []) hpl
        have tb : upd J9 pl (.lst []) pl = some (.lst []) := upd_same
        generalize upd J9 pl (.lst []) = Ja at Tb tb hpt ⊢
        have Tc := same_upd (o := .tup [.ref pl, .int 0]) hpt
        have tc : upd Ja pt (.tup [.ref pl, .int 0]) pt = some (.tup [.ref pl, .int 0]) := upd_same
        generalize upd Ja pt (.tup [.ref pl, .int 0]) = Jb at Tc tc ⊢
        obtain ⟨u1, u2⟩ := made_shaped [] [] 0
        refine ⟨madeD [] [] 0, madeD [] [] 0, dn9.same (Tb.trans Tc), ?_, u1, u1, ?_⟩
        · unfold madeD
          simp only [Den, Dens]
          exact ⟨pt, _, rfl, tc, _, _, rfl, ⟨pl, [], rfl, Tc _ _ tb, rfl⟩, _, _, rfl, rfl, rfl⟩
        rw [u2]
        exact q _
      have hnil : PyData.eqv (.list (idx.map fun j => letF Bf.es (ms5.getD j 0))) (.list []) = decide (idx = []) := by
        cases idx <;> rfl
      rw [hnil]
      by_cases hi0 : idx = []
      case neg =>
        rw [decide_eq_false hi0]
        exact iteF (iteF (go_next rfl (fin _ S28)))
      rw [decide_eq_true hi0]
      refine iteT ?_
      have small : ∀ n ∈ ms5, ∃ e, lookE Bf.es n = some e ∧ e.2.1 ≤ 9 := fun n hn => by
        obtain ⟨j, hj, rfl⟩ := List.getElem_of_mem hn
        obtain ⟨en, hen⟩ := hlook (List.getElem?_eq_getElem hj)
        refine ⟨en, hen, ?_⟩
        rw [hi0, List.filter_eq_nil_iff] at hidx
        have hh := hidx j (List.mem_range.mpr (by omega))
        have eg : ms5.getD j 0 = ms5[j] := by rw [List.getD_eq_getElem?_getD, List.getElem?_eq_getElem hj]; rfl
        rw [eg, hen, decide_eq_true_eq] at hh
        exact Int.not_lt.mp hh
      have S68 := S7.trans T8
      refine ⟨_, rfl, _, rfl, p1, Dc, xs1, yc, rfl, rfl, S28 _ _ g1, S68 _ _ gDc, Nat.le_trans (show _ ≤ 300 by show xs1.length + yc.length ≤ 300; omega) (by decide), fun q6 hq6 => ?_⟩
      have T9 := same_upd (o := .lst (xs1 ++ yc)) hq6
      have t9 : upd H8 q6 (.lst (xs1 ++ yc)) q6 = some (.lst (xs1 ++ yc)) := upd_same
      generalize upd H8 q6 (.lst (xs1 ++ yc)) = H9 at T9 t9 ⊢
      have S29 := S28.trans T9
      have d9 : Den H9 (.list ((rs ++ ms5.map (carR Bf.es)).map rowR)) (.ref q6) := by
        simp only [Den]
        refine ⟨q6, _, rfl, t9, ?_⟩
        rw [List.map_append]
        exact (dx1.same S29).app (dc.same (S68.trans T9))
      have f9 : foldB 0 B0 (rs ++ ms5.map (carR Bf.es)) = some Bf := by
        rw [fold_app, hf]
        exact car_fold Bok hfp ms5 small
      refine nil_go (made_call d9 (fun r h => ?_) (by rw [List.length_append, List.length_map]; omega) f9 hfp fun msa perma pwa pa Ha Sa dna => ?_)
      · rcases List.mem_append.mp h with z | z
        · exact rok r z
        · rw [List.mem_map] at z
          obtain ⟨n, hn, rfl⟩ := z
          obtain ⟨e, he, _⟩ := small n hn
          exact car_row Bok up9 he
      have em : msa = ms5 := sortedI_one (perma.trans perm.symm) pwa pw
      subst em
      refine ⟨_, rfl, madeD Bf.es msa Bf.up, madeD Bf.es msa Bf.up, dna, dd.same (S29.trans Sa), sh1, sh1, _, rfl, ?_⟩
      rw [sh2]
      exact iteF (go_next rfl (fin _ (S29.trans Sa)))
end
end Qh
end
section
set_option Elab.async false
set_option linter.all false
set_option maxRecDepth 100000
namespace Qh
open PySem L2
local macro_rules | `(tactic| trivial) => `(tactic| first | rfl | decide | exact .inl rfl | exact .inr rfl | exact .inr (.inl rfl) | exact .inr (.inr rfl) | (intro _; rfl) | with_unfolding_all rfl)
/-! ### what the top has written -/
structure DefIn (K : PySem.W.Frag) (x : Str) (st : Stmt) : Prop where
  ex : ∃ (f : Addr) (oc : Value) (od : Option Addr) (kV doc pm : Value) (an : Option Addr) (cdv ct : Value) (osl : Array (Option Value)), PySem.W.nsIn K mainGlobals x = some (some (.ref f)) ∧
    K.lookup f = some ⟨oc, od, .func (PySem.W.fnOf x x (defArgs st) (defBody st) (defScope st) .none kV doc pm an cdv ct), osl⟩ ∧ PySem.W.codeIn K cdv x = true ∧ PySem.W.keepIn K (.ref f) = true
theorem defIn_mk {K : PySem.W.Frag} {x : Str} {st : Stmt} {f : Addr} {oc : Value} {od an : Option Addr} {osl : Array (Option Value)} {kV doc pm cdv ct : Value} (a : PySem.W.nsIn K mainGlobals x = some (some (.ref f)))
    (l : K.lookup f = some ⟨oc, od, .func (PySem.W.fnOf x x (defArgs st) (defBody st) (defScope st) .none kV doc pm an cdv ct), osl⟩) (c : PySem.W.codeIn K cdv x = true) (k : PySem.W.keepIn K (.ref f) = true) : DefIn K x st := ⟨⟨f, oc, od, kV, doc, pm, an, cdv, ct, osl, a, l, c, k⟩⟩
theorem DefIn.get {K : PySem.W.Frag} {h : Heap} {mg : Str → Option Value} {x : Str} {st : Stmt} (X : K.In h) (G : h.Ns mainGlobals mg) (D : DefIn K x st) : ∃ f fd, Fun K x x st f fd ∧ mg x = some (.ref f) ∧ PySem.W.keepIn K (.ref f) = true := by
  obtain ⟨f, oc, od, kV, doc, pm, an, cdv, ct, osl, a, l, c, k⟩ := D.ex
  exact ⟨f, _, fun_mk l c k, PySem.W.mg_of X G a, k⟩
def strsAre : List Str → List Value → Bool
  | [], [] => true
  | k :: ks, .str x _ :: vs => decide (x = k) && strsAre ks vs
  | _, _ => false
theorem strsAre_vals : ∀ {ks : List Str} {vs : List Value}, strsAre ks vs = true → Vals (ks.map V.str) vs
  | [], [], _ => .nil
  | k :: ks, .str x t :: vs, h => by
    simp only [strsAre, Bool.and_eq_true, decide_eq_true_eq] at h
    obtain ⟨h1, h2⟩ := h
    subst h1
    exact .cons ⟨t, rfl⟩ (strsAre_vals h2)
def kindsIn (K : PySem.W.Frag) (a : Addr) : Bool := match K.lookup a with
  | some ⟨.type t, none, .seq its n, _⟩ => decide (t = "tuple") && (decide (its.size ≤ 100) && strsAre kinds its.toList)
  | _ => false
theorem kindsIn_ok {K : PySem.W.Frag} {a : Addr} (h : kindsIn K a = true) : (∀ H, SqT K H a (kinds.map V.str)) ∧ ∃ o, K.lookup a = some o ∧ o.cls = .type "tuple" ∧ o.dict = none := by
  unfold kindsIn at h
  split at h
  · next t its n sl e =>
    simp only [Bool.and_eq_true, decide_eq_true_eq] at h
    obtain ⟨h1, h2, h3⟩ := h
    subst h1
    exact ⟨fun H => .inr ⟨_, its, n, e, rfl, rfl, le_size h2, strsAre_vals h3⟩, _, e, rfl, rfl⟩
  · cases h
structure MethIn (K : PySem.W.Frag) (C : Addr) (x qual : Str) (st : Stmt) : Prop where
  ex : ∃ (f : Addr) (oc : Value) (od : Option Addr) (kV doc pm : Value) (an : Option Addr) (cdv ct : Value) (osl : Array (Option Value)), PySem.W.findIn K (.ref C) x = some (some (.ref f)) ∧ PySem.W.isFn K (.ref f) = true ∧
    K.lookup f = some ⟨oc, od, .func (PySem.W.fnOf x qual (defArgs st) (defBody st) (defScope st) .none kV doc pm an cdv ct), osl⟩ ∧ PySem.W.codeIn K cdv qual = true ∧ PySem.W.keepIn K (.ref f) = true
theorem methIn_mk {K : PySem.W.Frag} {C : Addr} {x qual : Str} {st : Stmt} {f : Addr} {oc : Value} {od an : Option Addr} {osl : Array (Option Value)} {kV doc pm cdv ct : Value} (a : PySem.W.findIn K (.ref C) x = some (some (.ref f))) (i : PySem.W.isFn K (.ref f) = true)
    (l : K.lookup f = some ⟨oc, od, .func (PySem.W.fnOf x qual (defArgs st) (defBody st) (defScope st) .none kV doc pm an cdv ct), osl⟩) (c : PySem.W.codeIn K cdv qual = true) (k : PySem.W.keepIn K (.ref f) = true) : MethIn K C x qual st := ⟨⟨f, oc, od, kV, doc, pm, an, cdv, ct, osl, a, i, l, c, k⟩⟩
theorem MethIn.get {K : PySem.W.Frag} {C : Addr} {x qual : Str} {st : Stmt} (D : MethIn K C x qual st) : ∃ f fd, Fun K x qual st f fd ∧ PySem.W.findIn K (.ref C) x = some (some (.ref f)) ∧ PySem.W.isFn K (.ref f) = true ∧ PySem.W.keepIn K (.ref f) = true := by
  obtain ⟨f, oc, od, kV, doc, pm, an, cdv, ct, osl, a, i, l, c, k⟩ := D.ex
  exact ⟨f, _, fun_mk l c k, a, i, k⟩
end Qh
end
section
set_option Elab.async false
set_option linter.all false
set_option maxRecDepth 100000
namespace Qh
open PySem L2
local macro_rules | `(tactic| trivial) => `(tactic| first | rfl | decide | exact .inl rfl | exact .inr rfl | exact .inr (.inl rfl) | exact .inr (.inr rfl) | (intro _; rfl) | with_unfolding_all rfl)
theorem law_mk {l : PySem.W.OpenLaw} {w : World} {K : PySem.W.Frag} {h : Heap} {mg : Str → Option Value} {fa fL a_KINDS C_BadRow C_Broken C_Book : Addr} (X : K.In h) (G : h.Ns mainGlobals mg) (hfa : mg "law" = some (.ref fa))
    {odL anL : Option Addr} {slL : Array (Option Value)} {ocL kVL dcL pmL cdL ctL : Value} {t0 t1 t2 t3 t4 : Tok}
    (d_is_number : DefIn K "is_number" s_is_number)
    (d_is_bytes : DefIn K "is_bytes" s_is_bytes)
    (d_fits_kind : DefIn K "fits_kind" s_fits_kind)
    (d_is_row : DefIn K "is_row" s_is_row)
    (d_made : DefIn K "made" s_made)
    (d__law_cell : DefIn K "_law_cell" s_cell)
    (d__law_seed : DefIn K "_law_seed" s_seed)
    (d__law_pick : DefIn K "_law_pick" s_pick)
    (d__law_bytes : DefIn K "_law_bytes" s_bytes)
    (d__law_rows : DefIn K "_law_rows" s_rows)
    (b_Book : PySem.W.nsIn K mainGlobals "Book" = some (some (.ref C_Book))) (pg_Book : PySem.W.plainGet K C_Book Str.empty = true) (hd_Book : PySem.W.hasDictIn K C_Book = true) (po_Book : PySem.W.plainOver K C_Book = true) (sa_Book : PySem.W.findIn K (.ref C_Book) "__setattr__" = some (some (.builtin "object.__setattr__"))) (mk_Book : PySem.W.makesIn K C_Book = true) (kc_Book : PySem.W.keepIn K (.ref C_Book) = true)
    (n_Book_entries : PySem.W.findIn K (.ref C_Book) "entries" = some none)
    (n_Book_upcoming : PySem.W.findIn K (.ref C_Book) "upcoming" = some none)
    (n_Book_parts : PySem.W.findIn K (.ref C_Book) "parts" = some none)
    (e_Book___init__ : MethIn K C_Book "__init__" "Book.__init__" s_init)
    (e_Book_enter_put : MethIn K C_Book "enter_put" "Book.enter_put" s_enter_put)
    (e_Book_enter_deal : MethIn K C_Book "enter_deal" "Book.enter_deal" s_enter_deal)
    (e_Book_change_entry : MethIn K C_Book "change_entry" "Book.change_entry" s_change)
    (e_Book_enter : MethIn K C_Book "enter" "Book.enter" s_enter)
    (e_Book_letter : MethIn K C_Book "letter" "Book.letter" s_letter)
    (e_Book_letters : MethIn K C_Book "letters" "Book.letters" s_letters)
    (aL : PySem.W.nsIn K mainGlobals "law" = some (some (.ref fL))) (lL : K.lookup fL = some ⟨ocL, odL, .func (PySem.W.fnOf "law" "law" (defArgs s_law) (defBody s_law) (defScope s_law) .none kVL dcL pmL anL cdL ctL), slL⟩) (cL : PySem.W.codeIn K cdL "law" = true) (kL : PySem.W.keepIn K (.ref fL) = true)
    (z_len : PySem.W.nsIn K mainGlobals "len" = some none)
    (z_isinstance : PySem.W.nsIn K mainGlobals "isinstance" = some none)
    (z_all : PySem.W.nsIn K mainGlobals "all" = some none)
    (z_sum : PySem.W.nsIn K mainGlobals "sum" = some none)
    (z_tuple : PySem.W.nsIn K mainGlobals "tuple" = some none)
    (z_int : PySem.W.nsIn K mainGlobals "int" = some none)
    (z_bool : PySem.W.nsIn K mainGlobals "bool" = some none)
    (z_str : PySem.W.nsIn K mainGlobals "str" = some none)
    (z_range : PySem.W.nsIn K mainGlobals "range" = some none)
    (z_enumerate : PySem.W.nsIn K mainGlobals "enumerate" = some none)
    (z_list : PySem.W.nsIn K mainGlobals "list" = some none)
    (z_max : PySem.W.nsIn K mainGlobals "max" = some none)
    (z_sorted : PySem.W.nsIn K mainGlobals "sorted" = some none)
    (z_min : PySem.W.nsIn K mainGlobals "min" = some none)
    (v_HIGHEST_BYTE : PySem.W.nsIn K mainGlobals "HIGHEST_BYTE" = some (some (.int 255 t0)))
    (v_HIGHEST_NUMBER : PySem.W.nsIn K mainGlobals "HIGHEST_NUMBER" = some (some (.int 999999 t1)))
    (v_LONGEST_BODY : PySem.W.nsIn K mainGlobals "LONGEST_BODY" = some (some (.int 60 t2)))
    (v_HIGHEST_TIMES : PySem.W.nsIn K mainGlobals "HIGHEST_TIMES" = some (some (.int 9 t3)))
    (v_LARGEST_DEAL : PySem.W.nsIn K mainGlobals "LARGEST_DEAL" = some (some (.int 9 t4)))
    (aK : PySem.W.nsIn K mainGlobals "KINDS" = some (some (.ref a_KINDS))) (qK : kindsIn K a_KINDS = true)
    (a_BadRow : PySem.W.nsIn K mainGlobals "BadRow" = some (some (.ref C_BadRow))) (x_BadRow : excIn K C_BadRow = true)
    (a_Broken : PySem.W.nsIn K mainGlobals "Broken" = some (some (.ref C_Broken))) (x_Broken : excIn K C_Broken = true)
    : ∃ fd : FuncData, (∀ (s : Shared) (v : Value), BindsTo s fd ⟨[v], []⟩ [("_law_script", v)]) ∧ ∀ base : Heap, K.In base → base.Ns mainGlobals mg → FnOk l.prog w K mg base (CXE l.prog w) 5 fa fd ["_law_script"] (sp_law K) := by
  have e := hfa.symm.trans (PySem.W.mg_of X G aL)
  cases e
  obtain ⟨kk1, kk2⟩ := kindsIn_ok qK
  have T : TxtM K mg a_KINDS C_BadRow C_Broken C_Book := ⟨⟨⟨PySem.W.mg_none_of X G z_len, PySem.W.mg_none_of X G z_isinstance, PySem.W.mg_none_of X G z_all, PySem.W.mg_none_of X G z_sum, PySem.W.mg_none_of X G z_tuple, PySem.W.mg_none_of X G z_int, PySem.W.mg_none_of X G z_bool, PySem.W.mg_none_of X G z_str, PySem.W.mg_none_of X G z_range, PySem.W.mg_none_of X G z_enumerate, ⟨_, PySem.W.mg_of X G v_HIGHEST_BYTE⟩, ⟨_, PySem.W.mg_of X G v_HIGHEST_NUMBER⟩, ⟨_, PySem.W.mg_of X G v_LONGEST_BODY⟩, ⟨_, PySem.W.mg_of X G v_HIGHEST_TIMES⟩, ⟨_, PySem.W.mg_of X G v_LARGEST_DEAL⟩, PySem.W.mg_of X G aK, kk1, kk2, x_BadRow, PySem.W.mg_of X G a_BadRow⟩, PySem.W.mg_none_of X G z_list, PySem.W.mg_none_of X G z_max, PySem.W.mg_none_of X G z_sorted, x_Broken, PySem.W.mg_of X G a_Broken, ⟨pg_Book, hd_Book, po_Book, sa_Book⟩, n_Book_entries, n_Book_upcoming, n_Book_parts⟩, PySem.W.mg_none_of X G z_min⟩
  obtain ⟨f_is_number, fd_is_number, F_is_number, m_is_number, k_is_number⟩ := d_is_number.get X G
  obtain ⟨f_is_bytes, fd_is_bytes, F_is_bytes, m_is_bytes, k_is_bytes⟩ := d_is_bytes.get X G
  obtain ⟨f_fits_kind, fd_fits_kind, F_fits_kind, m_fits_kind, k_fits_kind⟩ := d_fits_kind.get X G
  obtain ⟨f_is_row, fd_is_row, F_is_row, m_is_row, k_is_row⟩ := d_is_row.get X G
  obtain ⟨f_made, fd_made, F_made, m_made, k_made⟩ := d_made.get X G
  obtain ⟨f__law_cell, fd__law_cell, F__law_cell, m__law_cell, k__law_cell⟩ := d__law_cell.get X G
  obtain ⟨f__law_seed, fd__law_seed, F__law_seed, m__law_seed, k__law_seed⟩ := d__law_seed.get X G
  obtain ⟨f__law_pick, fd__law_pick, F__law_pick, m__law_pick, k__law_pick⟩ := d__law_pick.get X G
  obtain ⟨f__law_bytes, fd__law_bytes, F__law_bytes, m__law_bytes, k__law_bytes⟩ := d__law_bytes.get X G
  obtain ⟨f__law_rows, fd__law_rows, F__law_rows, m__law_rows, k__law_rows⟩ := d__law_rows.get X G
  obtain ⟨f___init__, fd___init__, F___init__, a___init__, i___init__, k___init__⟩ := e_Book___init__.get
  obtain ⟨f_enter_put, fd_enter_put, F_enter_put, a_enter_put, i_enter_put, k_enter_put⟩ := e_Book_enter_put.get
  obtain ⟨f_enter_deal, fd_enter_deal, F_enter_deal, a_enter_deal, i_enter_deal, k_enter_deal⟩ := e_Book_enter_deal.get
  obtain ⟨f_change_entry, fd_change_entry, F_change_entry, a_change_entry, i_change_entry, k_change_entry⟩ := e_Book_change_entry.get
  obtain ⟨f_enter, fd_enter, F_enter, a_enter, i_enter, k_enter⟩ := e_Book_enter.get
  obtain ⟨f_letter, fd_letter, F_letter, a_letter, i_letter, k_letter⟩ := e_Book_letter.get
  obtain ⟨f_letters, fd_letters, F_letters, a_letters, i_letters, k_letters⟩ := e_Book_letters.get
  refine ⟨PySem.W.fnOf "law" "law" (defArgs s_law) (defBody s_law) (defScope s_law) .none kVL dcL pmL anL cdL ctL, fun s v => .of_eq rfl, fun base _ _ => ?_⟩
  have c_is_number : Callee l.prog w K mg base "is_number" 1 ["thing", "least", "most"] sp_is_number := ⟨f_is_number, fd_is_number, ok_is_number F_is_number T.toTxtK.toTxtR, m_is_number, k_is_number, F_is_number.binds (ps := ["thing", "least", "most"]) fun _ _ _ _ _ _ us hl => match us, hl with | [_, _, _], _ => rfl⟩
  have c_is_bytes : Callee l.prog w K mg base "is_bytes" 2 ["thing"] sp_is_bytes := ⟨f_is_bytes, fd_is_bytes, ok_is_bytes F_is_bytes T.toTxtK.toTxtR c_is_number, m_is_bytes, k_is_bytes, F_is_bytes.binds (ps := ["thing"]) fun _ _ _ _ _ _ us hl => match us, hl with | [_], _ => rfl⟩
  have c_fits_kind : Callee l.prog w K mg base "fits_kind" 1 ["kind", "body"] sp_fits_kind := ⟨f_fits_kind, fd_fits_kind, ok_fits_kind F_fits_kind T.toTxtK.toTxtR, m_fits_kind, k_fits_kind, F_fits_kind.binds (ps := ["kind", "body"]) fun _ _ _ _ _ _ us hl => match us, hl with | [_, _], _ => rfl⟩
  have c_is_row : Callee l.prog w K mg base "is_row" 3 ["thing"] sp_is_row := ⟨f_is_row, fd_is_row, ok_is_row F_is_row T.toTxtK.toTxtR c_is_number c_is_bytes c_fits_kind, m_is_row, k_is_row, F_is_row.binds (ps := ["thing"]) fun _ _ _ _ _ _ us hl => match us, hl with | [_], _ => rfl⟩
  have c_Book : Maker l.prog w K mg base "Book" C_Book 1 ["self"] (sp_init C_Book) := ⟨f___init__, fd___init__, ok_init F___init__ T.toTxtK, ⟨mk_Book, a___init__, i___init__, kc_Book⟩, PySem.W.mg_of X G b_Book, F___init__.binds (ps := ["self"]) fun _ _ _ _ _ _ us hl => match us, hl with | [_], _ => rfl⟩
  have m_enter_put : Method l.prog w K mg base C_Book "enter_put" 1 ["self", "number", "body", "segment"] (sp_enter_put C_Book C_Broken) := ⟨f_enter_put, fd_enter_put, ok_enter_put F_enter_put T.toTxtK, ⟨a_enter_put, i_enter_put, k_enter_put⟩, F_enter_put.binds (ps := ["self", "number", "body", "segment"]) fun _ _ _ _ _ _ us hl => match us, hl with | [_, _, _, _], _ => rfl⟩
  have m_enter_deal : Method l.prog w K mg base C_Book "enter_deal" 2 ["self", "number", "many", "segment"] (sp_enter_deal C_Book C_Broken) := ⟨f_enter_deal, fd_enter_deal, ok_enter_deal F_enter_deal T.toTxtK m_enter_put, ⟨a_enter_deal, i_enter_deal, k_enter_deal⟩, F_enter_deal.binds (ps := ["self", "number", "many", "segment"]) fun _ _ _ _ _ _ us hl => match us, hl with | [_, _, _, _], _ => rfl⟩
  have m_change_entry : Method l.prog w K mg base C_Book "change_entry" 1 ["self", "kind", "number"] (sp_change C_Book) := ⟨f_change_entry, fd_change_entry, ok_change F_change_entry T.toTxtK, ⟨a_change_entry, i_change_entry, k_change_entry⟩, F_change_entry.binds (ps := ["self", "kind", "number"]) fun _ _ _ _ _ _ us hl => match us, hl with | [_, _, _], _ => rfl⟩
  have m_enter : Method l.prog w K mg base C_Book "enter" 3 ["self", "row", "segment"] (sp_enter C_Book C_Broken) := ⟨f_enter, fd_enter, ok_enter F_enter T.toTxtK m_enter_put m_enter_deal m_change_entry, ⟨a_enter, i_enter, k_enter⟩, F_enter.binds (ps := ["self", "row", "segment"]) fun _ _ _ _ _ _ us hl => match us, hl with | [_, _, _], _ => rfl⟩
  have m_letter : Method l.prog w K mg base C_Book "letter" 1 ["self", "number"] (sp_letter C_Book) := ⟨f_letter, fd_letter, ok_letter F_letter T.toTxtK, ⟨a_letter, i_letter, k_letter⟩, F_letter.binds (ps := ["self", "number"]) fun _ _ _ _ _ _ us hl => match us, hl with | [_, _], _ => rfl⟩
  have m_letters : Method l.prog w K mg base C_Book "letters" 2 ["self"] (sp_letters C_Book) := ⟨f_letters, fd_letters, ok_letters F_letters T.toTxtK m_letter, ⟨a_letters, i_letters, k_letters⟩, F_letters.binds (ps := ["self"]) fun _ _ _ _ _ _ us hl => match us, hl with | [_], _ => rfl⟩
  have c_made : Callee l.prog w K mg base "made" 4 ["rows"] (sp_made C_BadRow C_Broken) := ⟨f_made, fd_made, ok_made F_made T.toTxtK c_is_row c_Book m_enter m_letters, m_made, k_made, F_made.binds (ps := ["rows"]) fun _ _ _ _ _ _ us hl => match us, hl with | [_], _ => rfl⟩
  have c__law_cell : Callee l.prog w K mg base "_law_cell" 1 ["_law_script", "_law_k"] (sp_cell K) := ⟨f__law_cell, fd__law_cell, ok_cell F__law_cell T.toTxtK.toTxtR, m__law_cell, k__law_cell, F__law_cell.binds (ps := ["_law_script", "_law_k"]) fun _ _ _ _ _ _ us hl => match us, hl with | [_, _], _ => rfl⟩
  have c__law_seed : Callee l.prog w K mg base "_law_seed" 1 ["_law_seed_here", "_law_k"] sp_seed := ⟨f__law_seed, fd__law_seed, ok_seed F__law_seed, m__law_seed, k__law_seed, F__law_seed.binds (ps := ["_law_seed_here", "_law_k"]) fun _ _ _ _ _ _ us hl => match us, hl with | [_, _], _ => rfl⟩
  have c__law_pick : Callee l.prog w K mg base "_law_pick" 1 ["_law_seed_here", "_law_many"] sp_pick := ⟨f__law_pick, fd__law_pick, ok_pick F__law_pick, m__law_pick, k__law_pick, F__law_pick.binds (ps := ["_law_seed_here", "_law_many"]) fun _ _ _ _ _ _ us hl => match us, hl with | [_, _], _ => rfl⟩
  have c__law_bytes : Callee l.prog w K mg base "_law_bytes" 2 ["_law_seed_here", "_law_most"] sp_bytes := ⟨f__law_bytes, fd__law_bytes, ok_bytes F__law_bytes T.toTxtK.toTxtR c__law_seed c__law_pick, m__law_bytes, k__law_bytes, F__law_bytes.binds (ps := ["_law_seed_here", "_law_most"]) fun _ _ _ _ _ _ us hl => match us, hl with | [_, _], _ => rfl⟩
  have c__law_rows : Callee l.prog w K mg base "_law_rows" 3 ["_law_seed_here", "_law_many", "_law_spoil"] sp_rows := ⟨f__law_rows, fd__law_rows, ok_rows F__law_rows T.toTxtK c__law_seed c__law_pick c__law_bytes, m__law_rows, k__law_rows, F__law_rows.binds (ps := ["_law_seed_here", "_law_many", "_law_spoil"]) fun _ _ _ _ _ _ us hl => match us, hl with | [_, _, _], _ => rfl⟩
  exact ok_law (fun_mk (st := s_law) lL cL kL) T  c_made c__law_cell c__law_seed c__law_pick c__law_rows
theorem walk {l : PySem.W.OpenLaw} {q : Program} {loose : List Str} {XP : (Str → Option Value) → Heap → Prop} {YP : World → Heap → Prop} {d : DefRec} {K : Params → PySem.W.Frag} (hn : l.most = some 63) (hdf : d.params.defaults = [])
    (hY : ∀ (w : World) (h : Heap), YP w h → (K w.params).In h)
    (F : ∀ (w : World) (mg : Str → Option Value) (fa : Addr) (h : Heap), (K w.params).In h → h.Ns mainGlobals mg → mg d.name = some (.ref fa) →
      ∃ fd : FuncData, (∀ (s : Shared) (u : Value), BindsTo s fd ⟨[u], []⟩ [("_law_script", u)]) ∧ ∀ base : Heap, (K w.params).In base → base.Ns mainGlobals mg → FnOk l.prog w (K w.params) mg base (CXE l.prog w) 5 fa fd ["_law_script"] (sp_law (K w.params))) :
    PySem.W.WalkO q loose XP YP l.row.toRowW d [] (fun f vs => PySem.call f vs) :=
  L2.walk_of (n := 63) (k := 5) (x := "_law_script") (CX := fun w => CXE l.prog w) (sp := fun w => sp_law (K w.params)) hn (by decide) hdf ⟨rfl, by decide, by decide⟩ hY F (fun _ _ a ns hl _ hS => ⟨a, ns, rfl, hS, fun _ => rfl⟩) fun _ _ _ _ _ ⟨_, _, _, _, _, z⟩ => z
end Qh
end
section
set_option Elab.async false
set_option linter.all false
open PySem PySem.W PyProof.Rows
set_option maxRecDepth 100000 in
set_option maxHeartbeats 0 in
theorem PySem.Challenge.cw_queuehold_k10_whole_rows_of_none_holds : PySem.Challenge.rw_queuehold_k10_whole_rows_of_none.Holds := by
  w_on; o_law; k_head; (case hw => w_witness2)
  k_fill
  refine Qh.walk (l := PySem.Challenge.rw_queuehold_k10_whole_rows_of_none) rfl rfl (fun w h Y => PySem.W.kIn_of Y) ?F
  case F =>
    intro w mg fa h KX G hmg
    refine' Qh.law_mk KX G hmg ?d_is_number ?d_is_bytes ?d_fits_kind ?d_is_row ?d_made ?d__law_cell ?d__law_seed ?d__law_pick ?d__law_bytes ?d__law_rows ?b_Book ?pg_Book ?hd_Book ?po_Book ?sa_Book ?mk_Book ?kc_Book ?n_Book_entries ?n_Book_upcoming ?n_Book_parts ?e_Book___init__ ?e_Book_enter_put ?e_Book_enter_deal ?e_Book_change_entry ?e_Book_enter ?e_Book_letter ?e_Book_letters ?aL ?lL ?cL ?kL ?z_len ?z_isinstance ?z_all ?z_sum ?z_tuple ?z_int ?z_bool ?z_str ?z_range ?z_enumerate ?z_list ?z_max ?z_sorted ?z_min ?v_HIGHEST_BYTE ?v_HIGHEST_NUMBER ?v_LONGEST_BODY ?v_HIGHEST_TIMES ?v_LARGEST_DEAL ?aK ?qK ?a_BadRow ?x_BadRow ?a_Broken ?x_Broken
    case d_is_number => refine' Qh.defIn_mk ?a ?l ?c ?k; (case a => k_is); (case l => k_is); (case c => k_is); (case k => k_is)
    case d_is_bytes => refine' Qh.defIn_mk ?a ?l ?c ?k; (case a => k_is); (case l => k_is); (case c => k_is); (case k => k_is)
    case d_fits_kind => refine' Qh.defIn_mk ?a ?l ?c ?k; (case a => k_is); (case l => k_is); (case c => k_is); (case k => k_is)
    case d_is_row => refine' Qh.defIn_mk ?a ?l ?c ?k; (case a => k_is); (case l => k_is); (case c => k_is); (case k => k_is)
    case d_made => refine' Qh.defIn_mk ?a ?l ?c ?k; (case a => k_is); (case l => k_is); (case c => k_is); (case k => k_is)
    case d__law_cell => refine' Qh.defIn_mk ?a ?l ?c ?k; (case a => k_is); (case l => k_is); (case c => k_is); (case k => k_is)
    case d__law_seed => refine' Qh.defIn_mk ?a ?l ?c ?k; (case a => k_is); (case l => k_is); (case c => k_is); (case k => k_is)
    case d__law_pick => refine' Qh.defIn_mk ?a ?l ?c ?k; (case a => k_is); (case l => k_is); (case c => k_is); (case k => k_is)
    case d__law_bytes => refine' Qh.defIn_mk ?a ?l ?c ?k; (case a => k_is); (case l => k_is); (case c => k_is); (case k => k_is)
    case d__law_rows => refine' Qh.defIn_mk ?a ?l ?c ?k; (case a => k_is); (case l => k_is); (case c => k_is); (case k => k_is)
    (case b_Book => k_is)
    (case pg_Book => k_is)
    (case hd_Book => k_is)
    (case po_Book => k_is)
    (case sa_Book => k_is)
    (case mk_Book => k_is)
    (case kc_Book => k_is)
    (case n_Book_entries => k_is)
    (case n_Book_upcoming => k_is)
    (case n_Book_parts => k_is)
    case e_Book___init__ => refine' Qh.methIn_mk ?a ?i ?l ?c ?k; (case a => k_is); (case i => k_is); (case l => k_is); (case c => k_is); (case k => k_is)
    case e_Book_enter_put => refine' Qh.methIn_mk ?a ?i ?l ?c ?k; (case a => k_is); (case i => k_is); (case l => k_is); (case c => k_is); (case k => k_is)
    case e_Book_enter_deal => refine' Qh.methIn_mk ?a ?i ?l ?c ?k; (case a => k_is); (case i => k_is); (case l => k_is); (case c => k_is); (case k => k_is)
    case e_Book_change_entry => refine' Qh.methIn_mk ?a ?i ?l ?c ?k; (case a => k_is); (case i => k_is); (case l => k_is); (case c => k_is); (case k => k_is)
    case e_Book_enter => refine' Qh.methIn_mk ?a ?i ?l ?c ?k; (case a => k_is); (case i => k_is); (case l => k_is); (case c => k_is); (case k => k_is)
    case e_Book_letter => refine' Qh.methIn_mk ?a ?i ?l ?c ?k; (case a => k_is); (case i => k_is); (case l => k_is); (case c => k_is); (case k => k_is)
    case e_Book_letters => refine' Qh.methIn_mk ?a ?i ?l ?c ?k; (case a => k_is); (case i => k_is); (case l => k_is); (case c => k_is); (case k => k_is)
    (case aL => k_is)
    (case lL => k_is)
    (case cL => k_is)
    (case kL => k_is)
    (case z_len => k_is)
    (case z_isinstance => k_is)
    (case z_all => k_is)
    (case z_sum => k_is)
    (case z_tuple => k_is)
    (case z_int => k_is)
    (case z_bool => k_is)
    (case z_str => k_is)
    (case z_range => k_is)
    (case z_enumerate => k_is)
    (case z_list => k_is)
    (case z_max => k_is)
    (case z_sorted => k_is)
    (case z_min => k_is)
    (case v_HIGHEST_BYTE => k_is)
    (case v_HIGHEST_NUMBER => k_is)
    (case v_LONGEST_BODY => k_is)
    (case v_HIGHEST_TIMES => k_is)
    (case v_LARGEST_DEAL => k_is)
    (case aK => k_is)
    (case qK => exact rfl)
    (case a_BadRow => k_is)
    (case x_BadRow => exact rfl)
    (case a_Broken => k_is)
    (case x_Broken => exact rfl)
end
